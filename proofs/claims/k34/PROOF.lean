import PyProof.Rows.All
import OpenK.KLine
import KE.KItem
import Wide.Once
import Wide.FinOn
import Lean
import PyProof.EqAt
import PyProof.EqKinds
import PyProof.TupleCall
import KE.KDictList
import KE.KSortAsk
import PyProof.TupleKey
import KE.KIntText
import KE.IntTextLaws
import OpenK.KOwn
import KE.KIsAll
import PyProof.InstStoreFacts
import PyProof.MaxThree
import PyProof.WalkInts
import PyProof.MinMaxWalk
import KE.KSortTup
import PyProof.Rows.SortRuns
import KE.KRevIter
import PyProof.ListRange
import KE.RegMulBits
import PyProof.Rows.SumAny
import PyProof.Rows.RuleN_abs
import Wide.Seal
import PyProof.FactsAll.bool_1
import PyProof.DictRoadsH
import PyProof.Rows.CallKwBuiltin
import PyProof.ZipIter
import PyProof.RaisesMany
import PyProof.RulesAs
import KE.KTryMore
import PyProof.ReprRoads
import PyProof.ReprLen
import OpenK.KTop
import PyProof.FString5
import PyProof.StrCalls
import PyProof.AutoSeq1
import PySem.Challenge.RW_curveyard_k34_filled_and_emptied
set_option Elab.async false
set_option Elab.async false
set_option linter.all false
set_option maxRecDepth 100000
set_option maxRecDepth 100000
noncomputable section
section
open PySem PySem.Spec PyProof.Rows
def Qq:=@Option.bind_eq_some_iff
def Qw:=@Option.bind_some
def Qe:=@List.length_append
def Qr:=@wpAny_bind
def Qt:=@List.length_map
def Qy:=@Option.map_eq_some_iff
def Qu:=@List.size_toArray
def Qi:=@Heap.get?_push_of_some
def Qo:=@if_pos
def Qp:=@Heap.lt_size
def Qa:=@wpS_bind
def Qs:=@if_neg
def Qd:=@Nat.le_refl
def Qf:=@List.mem_cons
def Qg:=@List.length_take
def Qh:=@List.length_cons
def Qj:=@List.pairwise_append
def Qk:=@wpS_pure
def Ql:=@List.append_assoc
def Qz:=@List.mem_singleton
def Qx:=@List.mem_append
def Qc:=@wpAny_pure
def Qv:=@List.mem_cons_self
def Qb:=@List.mem_cons_of_mem
def Qn:=@List.getElem?_eq_some_iff
def Qm:=@List.getElem?_set_ne
def Wq:=@decide_eq_false
def Ww:=@List.getElem?_append_right
def We:=@decide_eq_true
def Wr:=@Heap.get?_push_size
def Wt:=@Nat.lt_of_lt_of_le
def Wy:=@List.length_drop
def Wu:=@Bool.false_ne_true
def Wi:=@List.getElem?_eq_getElem
def Wo:=@List.map_cons
def Wp:=@List.getD_eq_getElem?_getD
def Wa:=@Nat.le_trans
def Ws:=@List.getElem?_map
def Wd:=@List.mem_append_right
def Wf:=@Nat.ne_of_lt
def Wg:=@Array.length_toList
def Wh:=@Array.getElem?_append_right
def Wj:=@Nat.lt_irrefl
def Wk:=@List.mem_of_mem_drop
def Wl:=@List.mem_of_mem_take
def Wz:=@Bool.false_eq_true
def Wx:=@List.getElem?_append_left
def Wc:=@Nat.le_of_lt
def Wv:=@List.take_append_drop
def Wb:=@Option.some.inj
def Wn:=@sizeLine_eq
def Wm:=@Nat.zero_le
def Ew:=@wpS_forRange
def Ee:=@Bool.and_eq_true
def Er:=@List.append_nil
def Ey:=@List.drop_eq_getElem_cons
def Eu:=@List.map_append
def Ei:=@PassesOwn.never
def Eo:=@List.take_sublist
def Ep:=@congrArg
def Ea:=@PyProof.Rows.callWith_type1
def Es:=@List.getElem?_replicate
def Ed:=@Heap.get?_update_other
def Eg:=@List.take_of_length_le
def Eh:=@List.drop_eq_nil_of_le
def Ej:=@PySem.mem_of_lookup
def Ek:=@List.pairwise_map
def El:=@Heap.get?_update_ne
def Ez:=@List.perm_append_comm
def Ex:=@wpS_mono
def Ec:=@List.lookup_cons
def Ev:=@Array.toList_inj
def Eb:=@List.mem_flatMap
def En:=@PySem.F.plainAttrs_list
def Em:=@List.getElem?_set_self
def Rq:=@Array.getElem?_append_left
def Rw:=@List.not_mem_nil
def Re:=@List.getElem?_drop
def Rr:=@List.pairwise_cons
def Ry:=@decide_eq_true_eq
def Ru:=@Nat.min_eq_left
def Ri:=@List.length_range
def Ro:=@List.replicate_succ
def Rp:=@wpAny_Call_Name_kw
def Ra:=@List.getElem?_take
def Rs:=@wpAny_passesOwn
def Rf:=@Nat.le_succ
def Rg:=@Option.map_some
def Rh:=@List.getElem?_toArray
def Rj:=@wpAny_truthy_bool
def Rk:=@if_false
def Rl:=@wpS_modify
def Rz:=@List.map_take
def Rx:=@wpAny_holding
def Rc:=@listUpdate_at
def Rv:=@wpAny_is_other
def Rb:=@List.getElem_mem
def Rm:=@beq_eq_false_iff_ne
def Tq:=@Option.isSome_iff_exists
def Tw:=@Nat.lt_or_ge
def Te:=@wpAny_rule
def Tr:=@List.map_map
def Tt:=@Bool.or_eq_true
def Tu:=@PySem.W.kia_one
def Ti:=@List.getElem?_cons_succ
def To:=@wpAny_getItem_str_slice
def Tp:=@Array.ext_getElem?
def Ta:=@List.map_drop
def Ts:=@wpAny_ite_split
def Td:=@List.length_eq_zero_iff
def Tg:=@List.drop_of_length_le
def Th:=@List.reverse_cons
def Tj:=@List.getElem?_set
def Tk:=@List.nodup_append
def Tl:=@Nat.lt_succ_of_lt
def Tz:=@List.flatten_cons
def Tx:=@List.flatMap_cons
def Tc:=@List.eraseIdx_eq_take_drop_succ
def Tv:=@Heap.size_push
def Tb:=@wpAny_eqBool_int
def Tn:=@List.mem_append_left
def Yq:=@List.range_eq_range'
def Yw:=@Around.under_plainId
def Ye:=@Paired.length
def Yr:=@plainId_quiet
def Yt:=@wpAny_mono
def Yy:=@List.nodup_cons
def Yu:=@List.map_congr_left
def Yi:=@wpAny_updateSeq
def Yo:=@List.filter_eq_self
def Yp:=@List.mem_map_of_mem
def Ya:=@List.zip_cons_cons
def Ys:=@Nat.zero_add
def Yd:=@List.mem_map
def Yf:=@wpAny_seqItems
def Yg:=@wpAny_tryCatch
def Yh:=@PySem.F.slot_list_append
def Yj:=@PySem.F.type_list_append
def Yk:=@wpS_get
def Yl:=@wpAny_letGo
def Yz:=@seqEpoch_at
def Yx:=@wpAny_newList
def Yc:=@List.filter_cons_of_pos
def Yv:=@List.filter_cons_of_neg
def Yn:=@wpAny_eqBool_str
def Ym:=@List.cons_append
def Uq:=@List.mem_filter
def Uw:=@wpAny_execs_nil
def Ue:=@Bool.eq_iff_iff
def Ur:=@Nat.le_of_eq
def Ut:=@codeAny_mono
def Uy:=@List.length_replicate
def Uu:=@if_true
def Ui:=@Array.getElem?_toList
def Uo:=@List.length_set
def Up:=@post_val_or_str
def Ua:=@Txt.slice_le
def Us:=@List.Perm.append_left
def Ud:=@Heap.get?_update_self
def Ug:=@get?_update_seq
def Uh:=@codeAny_builtin
def Uj:=@List.length_filter_le
def Uk:=@List.nil_append
def Ul:=@beq_iff_eq
def Uz:=@or_false
def Ux:=@List.mem_of_getElem?
def Uc:=@List.take_take
def Uv:=@List.filterMap_cons
def Ub:=@PySem.W.plainGet_of
def Um:=@getElem?_mirror_all
def Iq:=@List.getElem?_range
def Iw:=@List.flatten_append
def Ie:=@List.flatMap_append
def Ir:=@PySem.W.callWith_K
def Iy:=@Nat.lt_of_le_of_lt
def Iu:=@wpS_lift
def Ii:=@Nat.eq_zero_or_pos
def Ia:=@List.findIdx?_cons
def Ig:=@List.filter_append
def Ih:=@wpAny_pyIter_list
def Ij:=@wpAny_newObj_type
def Ik:=@Array.size_append
def Il:=@List.drop_sublist
def Ix:=@Nat.not_lt
def Ic:=@bne_self_eq_false
def Iv:=@Nat.sub_self
def Ib:=@Nat.sub_zero
def Im:=@listItems_at
def Oq:=@Nat.lt_succ_self
def Ow:=@beq_self_eq_true
def Oe:=@List.all_eq_true
def Ot:=@List.map_toArray
def Oy:=@List.ext_getElem
def Ou:=@List.drop_append
def Oi:=@List.take_append_of_le_length
def Oo:=@Array.toList_map
def Op:=@Heap.size_update
def Oa:=@Nat.min_eq_right
def Os:=@List.of_mem_zip
def Od:=@Array.getD_eq_getD_getElem?
def Og:=@getElem?_bubble
def Oh:=@Nat.not_lt_zero
def Oj:=@SeqAt.EqAt.same
def Ol:=@List.length_zip
def Oz:=@intItems_at
def Ox:=@List.length_nil
def Oc:=@Calls.Name_function_global
def Ov:=@Array.perm_iff_toList_perm
def Ob:=@List.perm_append_singleton
def On:=@Bool.false_and
def Om:=@List.take_zero
def Pq:=@Array.size_map
def Pw:=@List.drop_drop
def Pe:=@List.pairwise_iff_getElem
def Pr:=@wpAny_newTuple
end
namespace L2
open PySem PySem.Spec PyProof.Rows
def vS (s:Stmt)(j:Nat):Stmt:=match s with
 | .ClassDef _ _ _ body _ _ _ _ _ _ _=>body.getD j (.Pass ⟨0,0,0,0⟩)
 | _=>.Pass ⟨0,0,0,0⟩
def wK (s:Stmt):Arguments:=match s with
 | .FunctionDef _ a _ _ _ _ _ _ _ _=>a
 | _=>{ posonlyargs:=[],args:=[],vararg:=none,kwonlyargs:=[],kw_defaults:=[],kwarg:=none,defaults:=[] }
def yH (s:Stmt):List Stmt:=match s with
 | .FunctionDef _ _ b _ _ _ _ _ _ _=>b
 | _=>[]
def zU (s:Stmt):Scope:=match s with
 | .FunctionDef _ _ _ _ _ _ sc _ _ _=>sc
 | _=>{ kind:=.function,names:=[],isGenerator:=false,isCoroutine:=false }
end L2
namespace My
open PySem L2
def top (i:Nat):Stmt:=PySem.Challenge.pw_curveyard_k34_filled_and_emptied.main.body.getD i (.Pass ⟨0,0,0,0⟩)
end My
namespace My
open PySem PySem.W L2 PyData
abbrev di (l:Array DictEntry)(n:Nat):Obj:=⟨.type "dict",none,.dict l n,#[]⟩
abbrev co (n q:Str)(t1 t2 t3 l a x y z r1 m r2:Nat)(v1 v2 v3:Value)(r3 o t4:Nat):Obj:=⟨.type "code",none,.fields #[.str n t1,.str q t2,.str "/claim/cut.py" t3,.int l 0,.int a 0,.int x 0,.int y 0,.int z 0,.ref r1,.bool true,.int m 0,.ref r2,v1,v2,v3,.ref r3,.int o 0,.int l 0,.str "/claim/cut.py" t4],#[]⟩
abbrev fu (n q:Str)(s:Stmt)(m:Str)(t c:Nat):Obj:=⟨.type "function",none,.func (fnOf n q (wK s) (yH s) (zU s) (.none) (.none) (.none) (.str m t) none (.ref c) (.none)),#[]⟩
abbrev ke (P:Params)(n:Str)(t:Nat)(v:Value):DictEntry:=⟨keyHash P n,.str n t,v⟩
abbrev cl (n:Str)(b r:List Value)(s:Nat)(u:List Value)(l:Array (Option Value)):Obj:=⟨.type "type",none,.cls { name:=n,bases:=b,mro:=r,ns:=s,qualname:=n,hasDict:=true,slotNames:=[],subclasses:=u,abstract:=false,collection:=none,hasDel:=false },l⟩
abbrev gd (t a:Nat):Obj:=⟨.type "getset_descriptor",none,.fields #[.str "__dict__" t,.ref a,.builtin "function.__dict__",.builtin "function.__dict__#set"],#[]⟩
abbrev gw (t a:Nat):Obj:=⟨.type "getset_descriptor",none,.fields #[.str "__weakref__" t,.ref a,.builtin "ExceptionGroup.__weakref__",.none],#[]⟩
def aB:Params->Frag:=fun P =>
 (nat_lit 3,di #[ke P "__name__" 165 (.str "law_curveyard_k34_filled_and_emptied" 427),ke P "__doc__" 166 .none,ke P "__package__" 167 .none,ke P "__loader__" 168 (.builtin "__main__.__loader__#opaque"),ke P "__spec__" 169 .none,ke P "__annotations__" 170 (.ref 6),ke P "__builtins__" 171 (.ref 4),ke P "__file__" 173 (.str "/claim/cut.py" 172),ke P "__cached__" 174 .none,ke P "_wall" 193 (.ref 21),ke P "YardError" 213 (.ref 31),ke P "Twice" 229 (.ref 44),ke P "NoEntry" 245 (.ref 56),ke P "Page" 277 (.ref 73),ke P "rank" 287 (.ref 84),ke P "way" 293 (.ref 89),ke P "entry_like" 299 (.ref 94),ke P "put_beneath" 310 (.ref 101),ke P "taken_beneath" 316 (.ref 106),ke P "pages_of" 326 (.ref 113),ke P "filled" 332 (.ref 118),ke P "root_of" 340 (.ref 125),ke P "entries_beneath" 349 (.ref 132),ke P "shape_of" 355 (.ref 137),ke P "Store" 426 (.ref 189),ke P "_law_cell" 436 (.ref 200),ke P "_law_mixed" 445 (.ref 207),ke P "_law_word" 460 (.ref 214),ke P "_law_number" 467 (.ref 221),ke P "_law_entries" 477 (.ref 228),ke P "_law_pages" 489 (.ref 235),ke P "_law_flat" 495 (.ref 240),ke P "_law_row" 508 (.ref 247),ke P "_law_turned" 519 (.ref 254),ke P "_law_stands" 529 (.ref 261),ke P "law" 544 (.ref 268)] 36) ::
 (nat_lit 20,co "_wall" "_wall" 187 188 189 1 1 0 0 3 15 181 16 .none (.ref 17) (.ref 18) 19 191 192) ::
 (nat_lit 21,fu "_wall" "_wall" (top 0) "__main__" 164 20) ::
 (nat_lit 30,di #[ke P "__module__" 203 (.str "curveyard.errors" 194),ke P "__firstlineno__" 207 (.int 5 206),ke P "__static_attributes__" 208 (.ref 29),ke P "__weakref__" 210 (.ref 32),ke P "__doc__" 211 .none] 3) ::
 (nat_lit 31,cl "YardError" [.type "ValueError"] [.ref 31,.type "ValueError",.type "Exception",.type "BaseException",.type "object"] 30 [.ref 44,.ref 56] #[some (.ref 22),none,some (.str "YardError" 196),some (.str "YardError" 204),some (.builtin "ValueError.__new__"),some (.bool true)]) ::
 (nat_lit 32,gw 209 31) ::
 (nat_lit 43,di #[ke P "__module__" 221 (.str "curveyard.errors" 194),ke P "__firstlineno__" 225 (.int 7 224),ke P "__static_attributes__" 226 (.ref 42),ke P "__doc__" 227 .none] 2) ::
 (nat_lit 44,cl "Twice" [.ref 31] [.ref 44,.ref 31,.type "ValueError",.type "Exception",.type "BaseException",.type "object"] 43 [] #[some (.ref 35),none,some (.str "Twice" 214),some (.str "Twice" 222),some (.builtin "ValueError.__new__"),some (.bool true)]) ::
 (nat_lit 55,di #[ke P "__module__" 237 (.str "curveyard.errors" 194),ke P "__firstlineno__" 241 (.int 9 240),ke P "__static_attributes__" 242 (.ref 54),ke P "__doc__" 243 .none] 2) ::
 (nat_lit 56,cl "NoEntry" [.ref 31] [.ref 56,.ref 31,.type "ValueError",.type "Exception",.type "BaseException",.type "object"] 55 [] #[some (.ref 47),none,some (.str "NoEntry" 230),some (.str "NoEntry" 238),some (.builtin "ValueError.__new__"),some (.bool true)]) ::
 (nat_lit 69,co "__init__" "Page.__init__" 260 261 262 14 3 0 0 3 66 181 67 .none .none .none 68 263 264) ::
 (nat_lit 70,fu "__init__" "Page.__init__" (vS (top 6) 0) "curveyard.pages" 246 69) ::
 (nat_lit 72,di #[ke P "__module__" 255 (.str "curveyard.pages" 246),ke P "__firstlineno__" 259 (.int 12 258),ke P "__init__" 265 (.ref 70),ke P "__static_attributes__" 270 (.ref 71),ke P "__dict__" 272 (.ref 74),ke P "__weakref__" 274 (.ref 75),ke P "__doc__" 275 .none] 4) ::
 (nat_lit 73,cl "Page" [.type "object"] [.ref 73,.type "object"] 72 [] #[none,none,some (.str "Page" 248),some (.str "Page" 256),some (.builtin "object.__new__"),some (.bool true)]) ::
 (nat_lit 74,gd 271 73) ::
 (nat_lit 75,gw 273 73) ::
 (nat_lit 83,co "rank" "rank" 278 279 280 20 1 0 0 3 78 181 79 .none (.ref 80) (.ref 81) 82 285 286) ::
 (nat_lit 84,fu "rank" "rank" (top 7) "curveyard.pages" 246 83) ::
 (nat_lit 88,co "way" "way" 288 289 290 23 2 0 0 3 85 181 86 .none .none .none 87 291 292) ::
 (nat_lit 89,fu "way" "way" (top 8) "curveyard.pages" 246 88) ::
 (nat_lit 93,co "entry_like" "entry_like" 294 295 296 26 2 0 0 3 90 181 91 .none .none .none 92 297 298) ::
 (nat_lit 94,fu "entry_like" "entry_like" (top 9) "curveyard.pages" 246 93) ::
 (nat_lit 100,co "put_beneath" "put_beneath" 300 301 302 31 3 0 0 3 95 181 96 .none (.ref 97) (.ref 98) 99 308 309) ::
 (nat_lit 101,fu "put_beneath" "put_beneath" (top 10) "curveyard.pages" 246 100) ::
 (nat_lit 105,co "taken_beneath" "taken_beneath" 311 312 313 37 3 0 0 3 102 181 103 .none .none .none 104 314 315) ::
 (nat_lit 106,fu "taken_beneath" "taken_beneath" (top 11) "curveyard.pages" 246 105) ::
 (nat_lit 112,co "pages_of" "pages_of" 317 318 319 43 3 0 0 3 107 181 108 .none (.ref 109) (.ref 110) 111 324 325) ::
 (nat_lit 113,fu "pages_of" "pages_of" (top 12) "curveyard.pages" 246 112) ::
 (nat_lit 117,co "filled" "filled" 327 328 329 50 2 0 0 3 114 181 115 .none .none .none 116 330 331) ::
 (nat_lit 118,fu "filled" "filled" (top 13) "curveyard.pages" 246 117) ::
 (nat_lit 124,co "root_of" "root_of" 333 334 335 59 1 0 0 3 119 181 120 .none (.ref 121) (.ref 122) 123 338 339) ::
 (nat_lit 125,fu "root_of" "root_of" (top 14) "curveyard.pages" 246 124) ::
 (nat_lit 131,co "entries_beneath" "entries_beneath" 341 342 343 66 1 0 0 3 126 181 127 .none (.ref 128) (.ref 129) 130 347 348) ::
 (nat_lit 132,fu "entries_beneath" "entries_beneath" (top 15) "curveyard.pages" 246 131) ::
 (nat_lit 136,co "shape_of" "shape_of" 350 351 352 73 1 0 0 3 133 181 134 .none .none .none 135 353 354) ::
 (nat_lit 137,fu "shape_of" "shape_of" (top 16) "curveyard.pages" 246 136) ::
 (nat_lit 150,co "__init__" "Store.__init__" 370 371 372 80 2 0 0 3 145 181 146 .none (.ref 147) (.ref 148) 149 375 376) ::
 (nat_lit 151,fu "__init__" "Store.__init__" (vS (top 18) 0) "curveyard.store" 356 150) ::
 (nat_lit 157,co "put" "Store.put" 378 379 380 84 2 0 0 3 152 181 153 .none (.ref 154) (.ref 155) 156 383 384) ::
 (nat_lit 158,fu "put" "Store.put" (vS (top 18) 1) "curveyard.store" 356 157) ::
 (nat_lit 164,co "take" "Store.take" 386 387 388 89 2 0 0 3 159 181 160 .none (.ref 161) (.ref 162) 163 391 392) ::
 (nat_lit 165,fu "take" "Store.take" (vS (top 18) 2) "curveyard.store" 356 164) ::
 (nat_lit 171,co "listed" "Store.listed" 394 395 396 94 1 0 0 3 166 181 167 .none (.ref 168) (.ref 169) 170 398 399) ::
 (nat_lit 172,fu "listed" "Store.listed" (vS (top 18) 3) "curveyard.store" 356 171) ::
 (nat_lit 178,co "crossing" "Store.crossing" 401 402 403 97 3 0 0 3 173 181 174 .none (.ref 175) (.ref 176) 177 407 408) ::
 (nat_lit 179,fu "crossing" "Store.crossing" (vS (top 18) 4) "curveyard.store" 356 178) ::
 (nat_lit 185,co "shape" "Store.shape" 410 411 412 100 1 0 0 3 180 181 181 .none (.ref 182) (.ref 183) 184 414 415) ::
 (nat_lit 186,fu "shape" "Store.shape" (vS (top 18) 5) "curveyard.store" 356 185) ::
 (nat_lit 188,di #[ke P "__module__" 365 (.str "curveyard.store" 356),ke P "__firstlineno__" 369 (.int 78 368),ke P "__init__" 377 (.ref 151),ke P "put" 385 (.ref 158),ke P "take" 393 (.ref 165),ke P "listed" 400 (.ref 172),ke P "crossing" 409 (.ref 179),ke P "shape" 416 (.ref 186),ke P "__static_attributes__" 419 (.ref 187),ke P "__dict__" 421 (.ref 190),ke P "__weakref__" 423 (.ref 191),ke P "__doc__" 424 .none] 4) ::
 (nat_lit 189,cl "Store" [.type "object"] [.ref 189,.type "object"] 188 [] #[none,none,some (.str "Store" 358),some (.str "Store" 366),some (.builtin "object.__new__"),some (.bool true)]) ::
 (nat_lit 190,gd 420 189) ::
 (nat_lit 191,gw 422 189) ::
 (nat_lit 199,co "_law_cell" "_law_cell" 429 430 431 103 2 0 0 3 194 181 195 .none (.ref 196) (.ref 197) 198 434 435) ::
 (nat_lit 200,fu "_law_cell" "_law_cell" (top 20) "law_curveyard_k34_filled_and_emptied" 427 199) ::
 (nat_lit 206,co "_law_mixed" "_law_mixed" 437 438 439 107 2 0 0 3 201 181 202 .none (.ref 203) (.ref 204) 205 443 444) ::
 (nat_lit 207,fu "_law_mixed" "_law_mixed" (top 21) "law_curveyard_k34_filled_and_emptied" 427 206) ::
 (nat_lit 213,co "_law_word" "_law_word" 446 447 448 111 2 0 0 3 208 181 209 .none (.ref 210) (.ref 211) 212 458 459) ::
 (nat_lit 214,fu "_law_word" "_law_word" (top 22) "law_curveyard_k34_filled_and_emptied" 427 213) ::
 (nat_lit 220,co "_law_number" "_law_number" 461 462 463 121 1 0 0 3 215 181 216 .none (.ref 217) (.ref 218) 219 465 466) ::
 (nat_lit 221,fu "_law_number" "_law_number" (top 23) "law_curveyard_k34_filled_and_emptied" 427 220) ::
 (nat_lit 227,co "_law_entries" "_law_entries" 468 469 470 123 2 0 0 3 222 181 223 .none (.ref 224) (.ref 225) 226 475 476) ::
 (nat_lit 228,fu "_law_entries" "_law_entries" (top 24) "law_curveyard_k34_filled_and_emptied" 427 227) ::
 (nat_lit 234,co "_law_pages" "_law_pages" 478 479 480 133 3 0 0 3 229 181 230 .none (.ref 231) (.ref 232) 233 487 488) ::
 (nat_lit 235,fu "_law_pages" "_law_pages" (top 25) "law_curveyard_k34_filled_and_emptied" 427 234) ::
 (nat_lit 239,co "_law_flat" "_law_flat" 490 491 492 151 1 0 0 3 236 181 237 .none .none .none 238 493 494) ::
 (nat_lit 240,fu "_law_flat" "_law_flat" (top 26) "law_curveyard_k34_filled_and_emptied" 427 239) ::
 (nat_lit 246,co "_law_row" "_law_row" 496 497 498 163 2 0 0 3 241 181 242 .none (.ref 243) (.ref 244) 245 506 507) ::
 (nat_lit 247,fu "_law_row" "_law_row" (top 27) "law_curveyard_k34_filled_and_emptied" 427 246) ::
 (nat_lit 253,co "_law_turned" "_law_turned" 509 510 511 172 2 0 0 3 248 181 249 .none (.ref 250) (.ref 251) 252 517 518) ::
 (nat_lit 254,fu "_law_turned" "_law_turned" (top 28) "law_curveyard_k34_filled_and_emptied" 427 253) ::
 (nat_lit 260,co "_law_stands" "_law_stands" 520 521 522 182 3 0 0 3 255 181 256 .none (.ref 257) (.ref 258) 259 527 528) ::
 (nat_lit 261,fu "_law_stands" "_law_stands" (top 29) "law_curveyard_k34_filled_and_emptied" 427 260) ::
 (nat_lit 267,co "law" "law" 530 531 532 187 1 0 0 3 262 181 263 .none (.ref 264) (.ref 265) 266 542 543) ::
 (nat_lit 268,fu "law" "law" (top 30) "law_curveyard_k34_filled_and_emptied" 427 267)::[]
def mK:Program:=view PySem.Challenge.pw_curveyard_k34_filled_and_emptied [30]
def loose:List Str:="_wall"::"YardError"::"Twice"::"NoEntry"::"Page"::"rank"::"way"::"entry_like"::"put_beneath"::"taken_beneath"::"pages_of"::"filled"::"root_of"::"entries_beneath"::"shape_of"::"Store"::"_law_cell"::"_law_mixed"::"_law_word"::"_law_number"::"_law_entries"::"_law_pages"::"_law_flat"::"_law_row"::"_law_turned"::"_law_stands"::[]
def zS4:List Addr:=nat_lit 3::nat_lit 20::nat_lit 21::nat_lit 30::nat_lit 31::nat_lit 32::nat_lit 43::nat_lit 44::nat_lit 55::nat_lit 56::nat_lit 69::nat_lit 70::nat_lit 72::nat_lit 73::nat_lit 74::nat_lit 75::nat_lit 83::nat_lit 84::nat_lit 88::nat_lit 89::nat_lit 93::nat_lit 94::nat_lit 100::nat_lit 101::nat_lit 105::nat_lit 106::nat_lit 112::nat_lit 113::nat_lit 117::nat_lit 118::nat_lit 124::nat_lit 125::nat_lit 131::nat_lit 132::nat_lit 136::nat_lit 137::nat_lit 150::nat_lit 151::nat_lit 157::nat_lit 158::nat_lit 164::nat_lit 165::nat_lit 171::nat_lit 172::nat_lit 178::nat_lit 179::nat_lit 185::nat_lit 186::nat_lit 188::nat_lit 189::nat_lit 190::nat_lit 191::nat_lit 199::nat_lit 200::nat_lit 206::nat_lit 207::nat_lit 213::nat_lit 214::nat_lit 220::nat_lit 221::nat_lit 227::nat_lit 228::nat_lit 234::nat_lit 235::nat_lit 239::nat_lit 240::nat_lit 246::nat_lit 247::nat_lit 253::nat_lit 254::nat_lit 260::nat_lit 261::nat_lit 267::nat_lit 268::[]
theorem zYV (P:Params):zS4=(aB P).map (fun x=>x.1):=by kernel_rfl
abbrev hook:Hook:=kHook aB zS4 zYV
abbrev zS9 (s:Shared):Bool:=xlAt mK [] s&&recOk (RowW.records PySem.Challenge.rw_curveyard_k34_filled_and_emptied.row.toRowW) s
theorem zVk (w:World):(openEnds treeTable PySem.Challenge.rw_curveyard_k34_filled_and_emptied.row.prog w 3974).map (fun s=>openSeen mK loose (importedModules PySem.Challenge.rw_curveyard_k34_filled_and_emptied.row.prog.main.body) zS9 true s)=some (openGood mK loose):=by kernel_rfl
theorem zV7 (w:World):(openEnds treeTable PySem.Challenge.rw_curveyard_k34_filled_and_emptied.row.prog w 3974).map hook.obs=some (hook.val w):=by kernel_rfl
theorem zSV {α β γ:Type}{x:Option α}{f:α->β}{g:α->γ}{a:β}{b:γ}(h1:x.map f=some a)(h2:x.map g=some b):x.map (fun s=>(f s,g s))=some (a,b):=by
 cases x with
 | none=>cases h1
 | some s=>cases h1;cases h2;rfl
theorem zTu:LeftO PySem.Challenge.rw_curveyard_k34_filled_and_emptied.row.prog mK loose zS9 hook.obs hook.val 3974:=fun w=>zSV (zVk w) (zV7 w)
theorem zUB:PySem.Challenge.rw_curveyard_k34_filled_and_emptied.row.wellSaid=true:=by kernel_rfl
theorem zTm:PySem.W.OpenLaw.wellSaid PySem.Challenge.rw_curveyard_k34_filled_and_emptied=true:=by
 unfold PySem.W.OpenLaw.wellSaid
 rw[zUB]
 kernel_rfl
end My
namespace L2
open PySem PySem.Spec PyProof.Rows
abbrev Key:=Sum Int Str
def zS8:Key->Value->Bool
 | .inl k,v=>Value.isInt k v
 | .inr x,v=>Value.isStrOf x v
def zPW (w:World):Key->Int
 | .inl k=>hashInt k
 | .inr x=>hashStr w x
theorem xP:∀ {k:Key} {v:Value},zS8 k v=true->(∃i t,k=Sum.inl i/\v=Value.int i t)∨(∃x t,k=Sum.inr x/\v=Value.str x t)
 | .inl i,v,h=>by
   obtain⟨t,e⟩:=Value.isInt_shape (k:=i) (v:=v) h
   exact .inl ⟨i,t,rfl,e⟩
 | .inr x,v,h=>by
   obtain⟨t,e⟩:=Value.isStrOf_shape (x:=x) (v:=v) h
   exact .inr ⟨x,t,rfl,e⟩
theorem zRQ (a b:Int):decide ((Sum.inl a:Key)=Sum.inl b)=(a==b):=by
 by_cases e:a=b
 · subst e;simp
 · have h:¬(Sum.inl a:Key)=Sum.inl b:=fun q=>e (Sum.inl.inj q)
   rw[Wq h]
   exact(Rm.mpr e).symm
theorem zRY (a b:Str):decide ((Sum.inr a:Key)=Sum.inr b)=decide (a=b):=by
 by_cases e:a=b
 · subst e;simp
 · have h:¬(Sum.inr a:Key)=Sum.inr b:=fun q=>e (Sum.inr.inj q)
   rw[Wq h,Wq e]
theorem zSm (a:Int)(b:Str):decide ((Sum.inl a:Key)=Sum.inr b)=false:=Wq (fun q=>nomatch q)
theorem zSs (a:Str)(b:Int):decide ((Sum.inr a:Key)=Sum.inl b)=false:=Wq (fun q=>nomatch q)
def aD (prog:Program)(w:World):PySem.KeyKind prog w Key where
 is:=zS8
 hash:=zPW w
 inj:=fun v a b ha hb=>by
   rcases xP ha with⟨i,t,rfl,rfl⟩ | ⟨x,t,rfl,rfl⟩
   · rcases xP hb with⟨j,u,rfl,e⟩ | ⟨y,u,rfl,e⟩
     · injection e with e1 _;rw[e1]
     · exact nomatch e
   · rcases xP hb with⟨j,u,rfl,e⟩ | ⟨y,u,rfl,e⟩
     · exact nomatch e
     · injection e with e1 _;rw[e1]
 byValue:=fun k v h=>by
   rcases xP h with⟨i,t,rfl,rfl⟩ | ⟨x,t,rfl,rfl⟩<;>rfl
 pyHash:=fun hv h=>by
   rcases xP hv with⟨i,t,rfl,rfl⟩ | ⟨x,t,rfl,rfl⟩
   · exact wpAny_pyHash_int h
   · exact wpAny_pyHash_str h
 eqBool:=fun hu hv h=>by
   rcases xP hu with⟨i,t,rfl,rfl⟩ | ⟨x,t,rfl,rfl⟩
   · rcases xP hv with⟨j,u,rfl,rfl⟩ | ⟨y,u,rfl,rfl⟩
     · rw[zRQ] at h;exact Tb h
     · rw[zSm] at h;exact SeqAt.EqAt.int_str i t y u _ _ _ _ h
   · rcases xP hv with⟨j,u,rfl,rfl⟩ | ⟨y,u,rfl,rfl⟩
     · rw[zSs] at h;exact SeqAt.EqAt.str_int x t j u _ _ _ _ h
     · rw[zRY] at h;exact Yn h
 «strs» := fun k x t v h=>by
   rcases xP h with⟨i,u,rfl,e⟩ | ⟨y,u,rfl,e⟩
   · exact nomatch e
   · injection e with e1 _
     subst e1
     cases v<;>rfl
inductive V where
 | non | bl (b:Bool) | int (i:Int) | str (x:Str) | byt (b:Array UInt8) | flt (b:UInt64) | ref (a:Addr) | ty (n:String)
 deriving DecidableEq
def RelV:V->Value->Prop
 | .non,u=>u=Value.none
 | .bl b,u=>u=Value.bool b
 | .int i,u=>∃t,u=Value.int i t
 | .str x,u=>∃t,u=Value.str x t
 | .byt b,u=>∃t,u=Value.bytes b t
 | .flt b,u=>∃t,u=Value.float b t
 | .ref a,u=>u=Value.ref a
 | .ty n,u=>u=Value.type n
abbrev Vals:List V->List Value->Prop:=Paired RelV
theorem Vals.length {xs:List V}{us:List Value}(r:Vals xs us):xs.length=us.length:=Ye r
theorem Vals.get:∀ {xs:List V} {us:List Value} {i:Nat} {x:V},Vals xs us->xs[i]?=some x->∃u,us[i]?=some u/\RelV x u
 | _,_,_,_,.nil,e=>by simp at e
 | _,_,0,_,.cons r _,e=>by simp at e;subst e;exact⟨_,rfl,r⟩
 | _,_,i+1,x,.cons _ t,e=>by
   obtain⟨u,h1,h2⟩:=Vals.get (i:=i) (x:=x) t (by simpa using e)
   exact⟨u,by simpa using h1,h2⟩
theorem Vals.append:∀ {xs ys:List V} {us ws:List Value},Vals xs us->Vals ys ws->Vals (xs++ys) (us++ws)
 | _,_,_,_,.nil,s=>s
 | _,_,_,_,.cons r t,s=>.cons r (Vals.append t s)
theorem Vals.take:∀ {xs:List V} {us:List Value} (n:Nat),Vals xs us->Vals (xs.take n) (us.take n)
 | _,_,0,_=>.nil
 | _,_,_+1,.nil=>.nil
 | _,_,n+1,.cons r t=>.cons r (Vals.take n t)
theorem Vals.drop:∀ {xs:List V} {us:List Value} (n:Nat),Vals xs us->Vals (xs.drop n) (us.drop n)
 | _,_,0,r=>r
 | _,_,_+1,.nil=>.nil
 | _,_,n+1,.cons _ t=>Vals.drop n t
def RelO:Option V->Option Value->Prop
 | some v,some u=>RelV v u
 | none,none=>True
 | _,_=>False
def KV {κ:Type}:List (κ×V)->List (κ×Value)->Prop:=Paired fun(p:κ×V) (q:κ×Value)=>p.1=q.1/\RelV p.2 q.2
def kV:Key->V
 | .inl i=>.int i
 | .inr x=>.str x
inductive HO where
 /-- a list -/
 | lst (xs:List V)
 /-- a tuple (never changes) -/
 | tup (xs:List V)
 /-- a dict whose keys are ints and texts; one whose keys are tuples of ints and texts (the empty one is both) -/
 | dK (kvs:List (Key×V)) | dT (kvs:List (List Key×V))
 /-- a set of ints: its members, its size -/
 | set (S:Int->Bool) (n:Nat)
 /-- an instance of the class at C, its dict at dx, its attributes -/
 | ins (C dx:Addr) (fs:List (Str×V))
 /-- the dict of the instance at x -/
 | own (x:Addr)
 /-- the dict of an exception -/
 | xd (fs:List (Str×V))
 /-- a bound method, f of x -/
 | met (f x:Addr)
 /-- a range object lo, lo + 1, .. below hi -/
 | rng (lo hi:Int)
 /-- a thing that is known to the object (the script; a dict while a loop walks it): read, never written while it is so -/
 | frz (o:Obj) (u:HO)
 /-- a code object's table -/
 | tbl (ps:Array Value)
 /-- any other thing, by what is true of its one object (a def of one's own: SetO a S n := HO.ext fun h => ..) -/
 | ext (φ:Heap->Prop)
abbrev Hp:=Addr->Option HO
def upd (H:Hp)(a:Addr)(o:HO):Hp:=fun b=>if b=a then some o else H b
theorem zM {H:Hp}{a:Addr}{o:HO}:upd H a o a=some o:=by unfold upd;rw[Qo rfl]
theorem zP {H:Hp}{a b:Addr}{o:HO}(h:b≠a):upd H a o b=H b:=by unfold upd;rw[Qs h]
theorem z8 {H:Hp}{a b:Addr}{o:HO}(h:H a=some o)(h':H b=none):a≠b:=by
 intro e;subst e;rw[h] at h';cases h'
section
variable (P:Program) (w:World)
def ObjOk (H:Hp)(h:Heap)(a:Addr):HO->Prop
 | .lst xs=>xs.length<=sizeLine/\∃(its:List Value) (n:Nat),Vals xs its/\h.get? a=some { cls:=.type "list",data:=.seq its.toArray n }
 | .tup xs=>xs.length<=sizeLine/\∃its:List Value,Vals xs its/\IsTup h a its.toArray
 | .dK kvs=>kvs.length<=sizeLine/\(a==sysModules)=false/\∃vs,KV kvs vs/\h.DictOf (aD P w) a vs
 | .dT kvs=>kvs.length<=sizeLine/\(a==sysModules)=false/\∃xs:List (List Key×Addr×Value),
     Paired (fun(p:List Key×V) (q:List Key×Addr×Value)=>p.1=q.1/\H q.2.1=some (.tup (p.1.map kV))/\RelV p.2 q.2.2) kvs xs /\
     ∃o es ep,h.get? a=some o/\o.ExactDict/\o.data = .dict es ep/\es.toList=xs.map (entryOfKey (tupleKind (aD P w)))/\(xs.map (·.1)).Nodup
 | .set S n=>h.SetOf (intKind P w) a S n
 | .ins C dx fs=>H dx=some (.own a)/\fs.length<=1000/\dx≠a/\h.get? a=some (PySem.W.instObj C dx) /\
     ∃mA,h.Ns1 dx mA/\(∀f,RelO (fs.lookup f) (mA f))/\PySem.Within mA (fs.map (·.1))
 | .own _=>∃o,h.get? a=some o
 | .xd fs=>∃mA,h.Ns1 a mA/\∀f,RelO (fs.lookup f) (mA f)
 | .rng lo hi=>∃t u v,h.get? a=some { cls:=.type "range",data:=.fields #[.int lo t,.int hi u,.int 1 v] }
 | .frz o u=>h.get? a=some o/\ObjOk H h a u
 | .tbl ps=>h.get? a=some { cls:=.none,data:=.fields ps }
 | .met f x=>h.get? a=some (PySem.W.methodObj (.ref f) (.ref x))
 | .ext φ=>φ h/\(∃o,h.get? a=some o)/\∀h1 h2:Heap,φ h1->(∀o,h1.get? a=some o->h2.get? a=some o)->φ h2
def HOk (H:Hp)(h:Heap):Prop:=∀a o,H a=some o->ObjOk P w H h a o
end
section
variable {P:Program} {w:World} {H H':Hp} {h h':Heap} {a:Addr} {o:HO}
theorem ObjOk.lt (x:ObjOk P w H h a o):a < h.objs.size:=by
 cases o with
 | lst xs=>obtain⟨_,_,_,_,e⟩:=x;exact Qp e
 | tup xs=>obtain⟨_,_,_,p⟩:=x;exact p.lt
 | dK kvs=>obtain⟨_,_,_,_,o,_,_,e,_⟩:=x;exact Qp e
 | dT kvs=>obtain⟨_,_,_,_,o,_,_,e,_⟩:=x;exact Qp e
 | set S n=>obtain⟨o,_,_,_,e,_⟩:=x;exact Qp e
 | ins C dx fs=>obtain⟨_,_,_,e,_⟩:=x;exact Qp e
 | own y=>obtain⟨_,e⟩:=x;exact Qp e
 | xd fs=>obtain⟨_,⟨_,_,_,e,_⟩,_⟩:=x;exact Qp e
 | rng lo hi=>obtain⟨_,_,_,e⟩:=x;exact Qp e
 | frz ob u=>obtain⟨e,_⟩:=x;exact Qp e
 | tbl ps=>exact Qp (show h.get? a=some _ from x)
 | met f y=>exact Qp (show h.get? a=some _ from x)
 | ext φ=>obtain⟨_,⟨_,e⟩,_⟩:=x;exact Qp e
theorem Paired.mapP {α β:Type}{F G:α->β->Prop}:∀ {l₁:List α} {l₂:List β},Paired F l₁ l₂->(∀a b,F a b->G a b)->Paired G l₁ l₂
 | _,_,.nil,_=>.nil
 | _,_,.cons r t,f=>.cons (f _ _ r) (Paired.mapP t f)
theorem ObjOk.stay (x:ObjOk P w H h a o)(k:∀b u,(b=a∨H b=some (.own a))->h.get? b=some u->h'.get? b=some u)
   (ho:∀b,H b=some (.own a)->H' b=some (.own a)) (ht:∀b xs,H b=some (.tup xs)->H' b=some (.tup xs)):ObjOk P w H' h' a o:=by
 induction o with
 | lst xs=>obtain⟨z,its,n,r,e⟩:=x;exact⟨z,its,n,r,k _ _ (.inl rfl) e⟩
 | tup xs=>obtain⟨z,its,r,ob,e,c⟩:=x;exact⟨z,its,r,ob,k _ _ (.inl rfl) e,c⟩
 | dK kvs=>obtain⟨z,y,vs,r,ob,es,ep,e,c⟩:=x;exact⟨z,y,vs,r,ob,es,ep,k _ _ (.inl rfl) e,c⟩
 | dT kvs =>
   obtain⟨z,y,xs,r,ob,es,ep,e,c⟩:=x
   exact⟨z,y,xs,Paired.mapP r fun p q z=>⟨z.1,ht _ _ z.2.1,z.2.2⟩,ob,es,ep,k _ _ (.inl rfl) e,c⟩
 | set S n=>obtain⟨ob,es,ep,t,e,c⟩:=x;exact⟨ob,es,ep,t,k _ _ (.inl rfl) e,c⟩
 | ins C dx fs =>
   obtain⟨d,z,ne,e,mA,⟨od,es,ep,e2,c⟩,r⟩:=x
   exact⟨ho _ d,z,ne,k _ _ (.inl rfl) e,mA,⟨od,es,ep,k _ _ (.inr d) e2,c⟩,r⟩
 | own y=>obtain⟨ob,e⟩:=x;exact⟨ob,k _ _ (.inl rfl) e⟩
 | xd fs=>obtain⟨mA,⟨od,es,ep,e,c⟩,r⟩:=x;exact⟨mA,⟨od,es,ep,k _ _ (.inl rfl) e,c⟩,r⟩
 | rng lo hi=>obtain⟨t,u,v,e⟩:=x;exact⟨t,u,v,k _ _ (.inl rfl) e⟩
 | frz ob u ih=>obtain⟨e,q⟩:=x;exact⟨k _ _ (.inl rfl) e,ih q⟩
 | tbl ps =>
   have e:h.get? a=some { cls:=.none,data:=.fields ps }:=x
   show h'.get? a=some { cls:=.none,data:=.fields ps }
   exact k a _ (.inl rfl) e
 | met f y =>
   have e:h.get? a=some (PySem.W.methodObj (.ref f) (.ref y)):=x
   show h'.get? a=some (PySem.W.methodObj (.ref f) (.ref y))
   exact k a _ (.inl rfl) e
 | ext φ=>obtain⟨p,⟨o,e⟩,st⟩:=x;exact⟨st _ _ p fun o q=>k _ _ (.inl rfl) q,⟨o,k _ _ (.inl rfl) e⟩,st⟩
theorem HOk.lt (x:HOk P w H h)(e:H a=some o):a < h.objs.size:=(x a o e).lt
theorem HOk.fresh (x:HOk P w H h)(e:h.objs.size<=a):H a=none:=by
 cases q:H a with
 | none=>rfl
 | some u=>exact absurd (Wt (x.lt q) e) (Wj _)
theorem HOk.kept (x:HOk P w H h)(k:∀b u,h.get? b=some u->h'.get? b=some u):HOk P w H h':=fun a o e =>
 (x a o e).stay (fun b u _ q=>k b u q) (fun _ q=>q) fun _ _ q=>q
theorem HOk.laid (x:HOk P w H h)(k:∀b u,h.get? b=some u->h'.get? b=some u)(hp:h.objs.size<=a)(new:ObjOk P w (upd H a o) h' a o):HOk P w (upd H a o) h':=fun b u e=>by
 have hn:=x.fresh hp
 by_cases hb:b=a
 · subst hb;rw[zM] at e;cases e;exact new
 · rw[zP hb] at e
   exact(x b u e).stay (fun c v _ q=>k c v q) (fun c q=>by rw[zP (z8 q hn)];exact q) fun c xs q=>by rw[zP (z8 q hn)];exact q
end
def Rd (H:Hp)(a:Addr)(u:HO):Prop:=H a=some u∨∃o,H a=some (.frz o u)
theorem Rd.ok {P:Program}{w:World}{H:Hp}{h:Heap}{a:Addr}{u:HO}(r:Rd H a u)(x:HOk P w H h):ObjOk P w H h a u:=by
 rcases r with r | ⟨o,r⟩
 · exact x a u r
 · obtain⟨_,q⟩:=x a _ r
   exact q
def Mut:Option HO->Prop
 | some (.lst _)=>True
 | some (.dK _)=>True
 | some (.dT _)=>True
 | some (.set _ _)=>True
 | some (.ins _ _ _)=>True
 | some (.ext _)=>True
 | _=>False
section
variable {P:Program} {w:World} {H:Hp} {h h':Heap} {x e:Addr} {o':HO}
theorem HOk.write (ok:HOk P w H h)(mu:Mut (H x))(he:e=x∨H e=some (.own x))(k:∀b u,b≠e->h.get? b=some u->h'.get? b=some u)(heo:∃u,h'.get? e=some u)
   (new:ObjOk P w (upd H x o') h' x o'):HOk P w (upd H x o') h':=fun b u q=>by
 have nown:∀c y,H c=some (.own y)->c≠x:=fun c y r z=>by subst z;rw[r] at mu;exact mu
 have ntup:∀c xs,H c=some (.tup xs)->c≠x:=fun c xs r z=>by subst z;rw[r] at mu;exact mu
 by_cases hb:b=x
 · subst hb;rw[zM] at q;cases q;exact new
 · rw[zP hb] at q
   by_cases hbe:b=e
   · have q':H b=some (.own x):=by
       rcases he with z | z
       · exact absurd (hbe.trans z) hb
       · rw[hbe];exact z
     rw[q] at q';cases q'
     obtain⟨v,hv⟩:=heo
     exact⟨v,by rw[hbe];exact hv⟩
   · refine(ok b u q).stay (fun c v hc r=>k c v ?_ r) (fun c r=>by rw[zP (nown c b r)];exact r) fun c xs r=>by rw[zP (ntup c xs r)];exact r
     rcases hc with rfl | hc
     · exact hbe
     · rintro rfl
       rcases he with z | z
       · exact nown c b hc z
       · rw[hc] at z;cases z;exact hb rfl
end
structure Un (fs ex:List Addr)(H H':Hp)(h h':Heap):Prop where
 keep:∀b o,h.get? b=some o->H b=none->b∉fs->b∉ex->h'.get? b=some o
 slot:∀b o,h.get? b=some o->H b=none->b∈fs->b∉ex->∃sl,h'.get? b=some { o with slots:=sl }
 free:∀b o,h.get? b=some o->H b=none->b∉ex->H' b=none
 there:∀b o,h.get? b=some o->b∉ex->∃o',h'.get? b=some o'
 tups:∀b xs,H b=some (.tup xs)->H' b=some (.tup xs)
 frzs:∀b o u,H b=some (.frz o u)->H' b=some (.frz o u)
 tbls:∀b ps,H b=some (.tbl ps)->∃more,H' b=some (.tbl (ps++more))
section
variable {fs ex:List Addr} {H H1 H2:Hp} {h h1 h2 h':Heap} {a x e:Addr} {o:HO}
theorem Un.any (u:Un fs ex H H1 h h1){b:Addr}{ob:Obj}(q:h.get? b=some ob)(n:H b=none)(hx:b∉ex):∃sl,h1.get? b=some { ob with slots:=sl }:=by
 by_cases hb:b∈fs
 · exact u.slot b ob q n hb hx
 · exact⟨ob.slots,u.keep b ob q n hb hx⟩
theorem Un.trans (a:Un fs ex H H1 h h1)(b:Un fs ex H1 H2 h1 h2):Un fs ex H H2 h h2 where
 keep:=fun c ob q n hc hx=>b.keep c ob (a.keep c ob q n hc hx) (a.free c ob q n hx) hc hx
 slot:=fun c ob q n hc hx=>by
   obtain⟨sl,e1⟩:=a.slot c ob q n hc hx
   obtain⟨sl',e2⟩:=b.slot c _ e1 (a.free c ob q n hx) hc hx
   exact⟨sl',e2⟩
 free:=fun c ob q n hx=>by
   obtain⟨o',e1⟩:=a.there c ob q hx
   exact b.free c o' e1 (a.free c ob q n hx) hx
 there:=fun c ob q hx=>by
   obtain⟨o',e1⟩:=a.there c ob q hx
   exact b.there c o' e1 hx
 tups:=fun c xs q=>b.tups c xs (a.tups c xs q)
 frzs:=fun c ob xs q=>b.frzs c ob xs (a.frzs c ob xs q)
 tbls:=fun c ps q=>by
   obtain⟨m1,e1⟩:=a.tbls c ps q
   obtain⟨m2,e2⟩:=b.tbls c _ e1
   exact⟨m1++m2,by rw[e2,Array.append_assoc]⟩
theorem Un.kept (k:∀b u,h.get? b=some u->h'.get? b=some u):Un fs ex H H h h' :=
 ⟨fun b ob q _ _ _=>k b ob q,fun b ob q _ _ _=>⟨ob.slots,k b ob q⟩,fun _ _ _ n _=>n,fun b ob q _=>⟨ob,k b ob q⟩,fun _ _ q=>q,fun _ _ _ q=>q,fun _ ps q=>⟨#[],by rw[q];simp⟩⟩
theorem Un.refl:Un fs ex H H h h:=Un.kept fun _ _ q=>q
theorem Un.laid (k:∀b u,h.get? b=some u->h'.get? b=some u)(hp:h.objs.size<=a)(hn:H a=none):Un fs ex H (upd H a o) h h' where
 keep:=fun b u q _ _ _=>k b u q
 slot:=fun b u q _ _ _=>⟨u.slots,k b u q⟩
 free:=fun b u q n _=>by rw[zP (Wf (Wt (Qp q) hp))];exact n
 there:=fun b u q _=>⟨u,k b u q⟩
 tups:=fun b xs q=>by rw[zP (z8 q hn)];exact q
 frzs:=fun b u xs q=>by rw[zP (z8 q hn)];exact q
 tbls:=fun b ps q=>⟨#[],by rw[zP (z8 q hn),q];simp⟩
theorem Un.write (mu:Mut (H x))(he:e=x∨H e=some (.own x))(k:∀b u,b≠e->h.get? b=some u->h'.get? b=some u)(heo:∃u,h'.get? e=some u):Un fs ex H (upd H x o) h h':=by
 have hx:∀b,H b=none->b≠x:=fun b n z=>by subst z;rw[n] at mu;exact mu
 have hb:∀b,H b=none->b≠e:=fun b n z=>by
   subst z
   rcases he with r | r
   · exact hx b n r
   · rw[n] at r;cases r
 have hm:∀b u,H b=some u->¬Mut (some u)->b≠x:=fun b u q nm z=>by subst z;rw[q] at mu;exact nm mu
 refine⟨fun b u q n _ _=>k b u (hb b n) q,fun b u q n _ _=>⟨u.slots,k b u (hb b n) q⟩,fun b u q n _=>by rw[zP (hx b n)];exact n,fun b u q _=>?_,
   fun b xs q=>by rw[zP (hm b _ q fun z=>z)];exact q,fun b u xs q=>by rw[zP (hm b _ q fun z=>z)];exact q,fun b ps q=>⟨#[],by rw[zP (hm b _ q fun z=>z),q];simp⟩⟩
 by_cases hbe:b=e
 · subst hbe;exact heo
 · exact⟨u,k b u hbe q⟩
end
def trk (h:Heap)(H:Hp):List Addr:=(List.range h.objs.size).filter fun a=>(H a).isSome
def zZx (h:Heap)(H:Hp):Heap:=PySem.W.hideAll h (trk h H)
theorem zWc (h:Heap)(H:Hp):(zZx h H).objs.size=h.objs.size:=PySem.W.hideAll_size _ _
theorem zUa {h:Heap}{H:Hp}{b:Addr}{o:Obj}(e:h.get? b=some o)(n:H b=none):(zZx h H).get? b=some o :=
 PySem.W.hideAll_get _ e fun hm=>by
   have q:(H b).isSome=true:=(Uq.mp hm).2
   rw[n] at q;simp at q
theorem zSX {h:Heap}{H:Hp}{b:Addr}{o:Obj}(e:(zZx h H).get? b=some o):h.get? b=some o/\H b=none:=by
 have e':h.get? b=some o:=PySem.W.of_hideAll (trk h H) e
 refine⟨e',?_⟩
 cases q:H b with
 | none=>rfl
 | some x =>
   have hm:b∈trk h H:=Uq.mpr ⟨List.mem_range.mpr (Qp e'),by simp[q]⟩
   have z:(zZx h H).get? b=none:=PySem.W.hideAll_none (trk h H) hm
   rw[z] at e;cases e
def zTh (g h:Heap)(L:Addr):List (Addr×Obj):=(List.range h.objs.size).filterMap fun a=>if a=L∨(g.get? a).isSome=true then none else(h.get? a).map fun o=>(a,o)
def rest (g h:Heap)(L d:Addr):List (Addr×Obj):=(zTh g h L).filter fun p=>decide (p.1≠d)
structure Mod (K:PySem.W.Frag)(mg:Str->Option Value)(base:Heap):Prop where
 kin:K.In base
 glob:base.Ns mainGlobals mg
 blt:∃mb,base.Ns builtinsNs mb/\∀x:Str,x≠"__name__"->mb x=bootBuiltins x
 nolimit:base.NoLimit
/-- the context: a def's body (or a comprehension's block) running. base: fixed through the whole law; s₀, H₀: the entry; outer: the frames whose slots others may change (a def's callers); stack: all frames that run;
  ex: iterators that were made ahead of the entry and are walked here (a comprehension's);fn: the names whose cells were made at the entry (a def: all;a comprehension's block: its own);calm: not within an except suite;pn: pins that every state bears;xe: what is wanted of an exception that leaves the code -/
structure Cx where
 prog:Program
 w:World
 K:PySem.W.Frag
 mg:Str->Option Value
 base:Heap
 A:Around
 N:List Str
 s₀:Shared
 H₀:Hp
 env:Env
 outer:List Env
 stack:List Env
 ex:List Addr
 fn:Str->Bool
 calm:Bool
 pn:List (Addr×Obj)
 xe:Value->Shared->Prop
def frs (l:List Env):List Addr:=l.filterMap (·.frame)
abbrev Cx.fs (X:Cx):List Addr:=frs X.outer
def Vis (sc:Scope)(x:Str):Prop:=sc.names.lookup x=some .local∨sc.names.lookup x=some .cell∨sc.names.lookup x=some .free
def Loc (sc:Scope)(x:Str):Prop:=sc.names.lookup x=some .local∨sc.names.lookup x=some .cell
def zQs (env:Env)(h:Heap)(m:Str->Option Value)(x:Str)(u:Value):Prop :=
 (env.kindOf x=some .local/\m x=some u)∨((env.kindOf x=some .cell∨env.kindOf x=some .free)/\∃c,env.cells.lookup x=some c/\h.IsCell c (some u))
structure Cx.Ok (X:Cx):Prop where
 mod:Mod X.K X.mg X.base
 kind:X.env.scope.kind = .function
 glob:X.env.globals=mainGlobals
 blt:X.env.builtins=builtinsNs
 above:X.s₀.heap.objs.size<=X.env.locals
 inj:∀x y c,X.env.cells.lookup x=some c->X.env.cells.lookup y=some c->x=y
 has:∀x,(X.env.kindOf x=some .cell∨X.env.kindOf x=some .free)->∃c,X.env.cells.lookup x=some c
 cab:∀x c,X.fn x=true->X.env.cells.lookup x=some c->X.s₀.heap.objs.size<=c
 hd:X.calm=true->X.A.handled=none
 frames:X.A.frames=some X.stack
 stk:X.stack=X.outer∨(X.stack=X.env::X.outer/\X.env.frame=some X.env.locals)
 exf:∀b∈X.ex,b≠X.env.locals/\∀x c,X.env.cells.lookup x=some c->c≠b
 bs:∀b o,X.base.get? b=some o->X.s₀.heap.get? b=some o/\X.H₀ b=none
 bsz:X.base.objs.size<=X.s₀.heap.objs.size
 noex:∀b o,X.base.get? b=some o->b∉X.ex
 exfs:∀b∈X.ex,b∉X.fs
 funs:X.s₀.heap.FunFrames X.base X.outer
 frf:∀b∈X.fs,X.H₀ b=none
structure Inv (X:Cx)(pins:List (Addr×Obj))(σ:List (Option V))(H:Hp)(s:Shared):Prop where
 ok:X.Ok
 os:s.os=X.s₀.os
 bare:AllBare s.gens
 base:Un X.fs X.ex X.H₀ H X.s₀.heap s.heap
 loc:∃m,s.heap.Ns X.env.locals m/\∀(i:Nat) (x:Str) (v:V),X.N[i]?=some x->σ[i]?=some (some v)->Vis X.env.scope x->∃u,RelV v u/\zQs X.env s.heap m x u
 cell:∀x c,X.env.cells.lookup x=some c->∃v,s.heap.IsCell c v
 free:H X.env.locals=none
 freeC:∀x c,X.env.cells.lookup x=some c->H c=none
 pin:∀p∈X.pn++pins,s.heap.get? p.1=some p.2/\H p.1=none/\p.1≠X.env.locals/\p.1∉X.fs/\∀v,p.2.data ≠ .cell v
 hok:HOk X.prog X.w H s.heap
 len:σ.length=X.N.length
section
variable {X:Cx} {pins:List (Addr×Obj)} {σ:List (Option V)} {H H':Hp} {s:Shared} {h':Heap}
theorem Cx.Ok.nofr (ok:X.Ok){b:Addr}{o:Obj}(e:X.base.get? b=some o):b∉X.fs:=fun hb=>by
 have:=(ok.funs.mem hb).1
 rw[e] at this;cases this
theorem Inv.bs (I:Inv X pins σ H s):∀b o,X.base.get? b=some o->s.heap.get? b=some o/\H b=none:=fun b o e =>
 ⟨I.base.keep b o (I.ok.bs b o e).1 (I.ok.bs b o e).2 (I.ok.nofr e) (I.ok.noex b o e),I.base.free b o (I.ok.bs b o e).1 (I.ok.bs b o e).2 (I.ok.noex b o e)⟩
theorem Inv.bk (I:Inv X pins σ H s):∀b o,X.base.get? b=some o->s.heap.get? b=some o:=fun b o e=>(I.bs b o e).1
theorem Inv.mod (I:Inv X pins σ H s):Mod X.K X.mg X.base:=I.ok.mod
theorem Inv.kIn (I:Inv X pins σ H s):X.K.In s.heap:=I.ok.mod.kin.keeps I.bk
theorem Inv.lt (I:Inv X pins σ H s):X.env.locals < s.heap.objs.size:=let ⟨_,hn,_⟩:=I.loc;hn.lt
theorem Inv.sz (I:Inv X pins σ H s):X.s₀.heap.objs.size<=s.heap.objs.size:=Wa I.ok.above (Wc I.lt)
theorem Inv.nofs (I:Inv X pins σ H s){a:Addr}(h:s.heap.objs.size<=a):a∉X.fs:=fun hb=>by
 obtain⟨_,o,ho,_⟩:=I.ok.funs.mem hb
 exact absurd (Wt (Qp ho) (Wa I.sz h)) (Wj _)
theorem Inv.cne (I:Inv X pins σ H s):∀x c,X.env.cells.lookup x=some c->c≠X.env.locals:=fun x c e z=>by
 obtain⟨v,o,ho,hd⟩:=I.cell x c e
 obtain⟨m,⟨o',es,ep,ho',hd',_⟩,_⟩:=I.loc
 rw[z,ho'] at ho;cases ho;rw[hd'] at hd;cases hd
theorem Inv.funs (I:Inv X pins σ H s):s.heap.FunFrames X.base X.outer:=by
 have all:∀(l:List Env),(∀b∈frs l,b∈X.fs)->X.s₀.heap.FunFrames X.base l->s.heap.FunFrames X.base l:=by
   intro l
   induction l with
   | nil=>intro _ _;trivial
   | cons env r ih =>
     intro hs hl
     obtain⟨hk,⟨L,o,hf,hn,ho,hd⟩,hr⟩:=hl
     have hL:L∈X.fs:=hs L (by unfold frs;rw[Uv,hf];exact Qv)
     obtain⟨sl,e⟩:=I.base.slot L o ho (I.ok.frf L hL) hL fun z=>I.ok.exfs L z hL
     exact⟨hk,⟨L,_,hf,hn,e,hd⟩,ih (fun b hb=>hs b (by unfold frs;rw[Uv,hf];exact Qb _ hb)) hr⟩
 exact all X.outer (fun _ hb=>hb) I.ok.funs
theorem Inv.stack (I:Inv X pins σ H s):s.heap.FunFrames X.base X.stack:=by
 rcases I.ok.stk with e | ⟨e,hf⟩
 · rw[e];exact I.funs
 · rw[e]
   obtain⟨m,hn,_⟩:=I.loc
   refine .cons (by rw[I.ok.kind];decide) hf hn ?_ I.funs
   exact Heap.get?_none_of_le (Wa I.ok.bsz I.ok.above)
theorem Inv.stkSub (I:Inv X pins σ H s):∀b∈frs X.stack,b∈X.env.locals::X.fs:=fun b hb=>by
 rcases I.ok.stk with e | ⟨e,hf⟩
 · rw[e] at hb;exact Qb _ hb
 · rw[e] at hb
   unfold frs at hb
   rw[Uv,hf] at hb
   exact hb
theorem Inv.stkFree (I:Inv X pins σ H s):∀b∈frs X.stack,H b=none:=fun b hb=>by
 rcases Qf.mp (I.stkSub b hb) with e | hb
 · rw[e];exact I.free
 · obtain⟨_,o,ho,_⟩:=I.ok.funs.mem hb
   exact I.base.free b o ho (I.ok.frf b hb) fun z=>I.ok.exfs b z hb
theorem Inv.step {g':Array GenState}{t':Nat}{d':Drawn}{ch:List Addr}(I:Inv X pins σ H s)
   (hch:∀b∈ch,(b∈X.ex∨X.s₀.heap.objs.size<=b)/\b≠X.env.locals/\(∀x c,X.env.cells.lookup x=some c->c≠b)/\∀p∈X.pn++pins,p.1≠b)
   (keep:∀b o,b≠X.env.locals->b∉X.fs->b∉ch->s.heap.get? b=some o->H b=none->h'.get? b=some o)
   (slot:∀b o,b≠X.env.locals->b∈X.fs->b∉ch->s.heap.get? b=some o->H b=none->∃sl,h'.get? b=some { o with slots:=sl }) (free:∀b o,b∉ch->s.heap.get? b=some o->H b=none->H' b=none)
   (there:∀b o,b∉ch->s.heap.get? b=some o->∃o',h'.get? b=some o')
   (tups:∀b xs,H b=some (.tup xs)->H' b=some (.tup xs)) (frzs:∀b o u,H b=some (.frz o u)->H' b=some (.frz o u)) (tbls:∀b ps,H b=some (.tbl ps)->∃more,H' b=some (.tbl (ps++more)))
   (ns:∀m,s.heap.Ns X.env.locals m->h'.Ns X.env.locals m) (hok:HOk X.prog X.w H' h') (hg:AllBare g') :
   Inv X pins σ H' { s with heap:=h',gens:=g',drawn:=d',toks:=t' }:=by
 have neL:∀b o,X.s₀.heap.get? b=some o->b≠X.env.locals:=fun b o e=>Wf (Wt (Qp e) I.ok.above)
 have neC:∀b o,X.s₀.heap.get? b=some o->b∉X.ex->b∉ch:=fun b o e hx hb=>by
   rcases(hch b hb).1 with z | z
   · exact hx z
   · exact absurd (Wt (Qp e) z) (Wj _)
 have cellK:∀x c,X.env.cells.lookup x=some c->∀v,s.heap.IsCell c v->h'.IsCell c v:=fun x c e v ⟨o,ho,hd⟩=>by
   have nch:c∉ch:=fun z=>(hch c z).2.2.1 x c e rfl
   by_cases hc:c∈X.fs
   · obtain⟨sl,q⟩:=slot c o (I.cne x c e) hc nch ho (I.freeC x c e)
     exact⟨_,q,hd⟩
   · exact⟨o,keep c o (I.cne x c e) hc nch ho (I.freeC x c e),hd⟩
 refine⟨I.ok,I.os,hg,⟨fun b o e n hb hx=>?_,fun b o e n hb hx=>?_,fun b o e n hx=>?_,fun b o e hx=>?_,fun b xs e=>tups b xs (I.base.tups b xs e),fun b o xs e=>frzs b o xs (I.base.frzs b o xs e),fun b ps e=>?_⟩,?_,fun x c e=>?_,?_,fun x c e=>?_,fun p hp=>?_,hok,I.len⟩
 · exact keep b o (neL b o e) hb (neC b o e hx) (I.base.keep b o e n hb hx) (I.base.free b o e n hx)
 · obtain⟨sl,e1⟩:=I.base.slot b o e n hb hx
   obtain⟨sl',e2⟩:=slot b _ (neL b o e) hb (neC b o e hx) e1 (I.base.free b o e n hx)
   exact⟨sl',e2⟩
 · obtain⟨o',e1⟩:=I.base.there b o e hx
   exact free b o' (neC b o e hx) e1 (I.base.free b o e n hx)
 · obtain⟨o',e1⟩:=I.base.there b o e hx
   exact there b o' (neC b o e hx) e1
 · obtain⟨m1,e1⟩:=I.base.tbls b ps e
   obtain⟨m2,e2⟩:=tbls b _ e1
   exact⟨m1++m2,by rw[e2,Array.append_assoc]⟩
 · obtain⟨m,hn,hl⟩:=I.loc
   refine⟨m,ns m hn,fun i x v e1 e2 e3=>?_⟩
   obtain⟨u,r,l⟩:=hl i x v e1 e2 e3
   refine⟨u,r,?_⟩
   rcases l with l | ⟨k,c,e,z⟩
   · exact .inl l
   · exact .inr ⟨k,c,e,cellK x c e _ z⟩
 · obtain⟨v,z⟩:=I.cell x c e
   exact⟨v,cellK x c e v z⟩
 · obtain⟨m,⟨o,_,_,ho,_⟩,_⟩:=I.loc
   exact free _ o (fun z=>(hch _ z).2.1 rfl) ho I.free
 · obtain⟨v,o,ho,hd⟩:=I.cell x c e
   exact free c o (fun z=>(hch c z).2.2.1 x c e rfl) ho (I.freeC x c e)
 · obtain⟨e,n,ne,nf,d⟩:=I.pin p hp
   have nch:p.1∉ch:=fun z=>(hch p.1 z).2.2.2 p hp rfl
   exact⟨keep p.1 p.2 ne nf nch e n,free p.1 p.2 nch e n,ne,nf,d⟩
theorem Inv.un {t':Nat}(I:Inv X pins σ H s)(u:Un X.fs [] H H' s.heap h')(hok:HOk X.prog X.w H' h'):Inv X pins σ H' { s with heap:=h',toks:=t' }:=by
 obtain⟨m,⟨o,es,ep,ho,r⟩,_⟩:=id I.loc
 obtain⟨sl,hL⟩:=u.any ho I.free (by simp)
 exact I.step (g':=s.gens) (d':=s.drawn) (ch:=[]) (fun _ z=>nomatch z) (fun b o _ hb _ e n=>u.keep b o e n hb (by simp)) (fun b o _ hb _ e n=>u.slot b o e n hb (by simp)) (fun b o _ e n=>u.free b o e n (by simp)) (fun b o _ e=>u.there b o e (by simp)) u.tups u.frzs u.tbls (fun m' hm=>by
   obtain⟨o',es',ep',ho',r'⟩:=hm
   rw[ho] at ho';cases ho'
   exact⟨_,es',ep',hL,r'⟩) hok I.bare
theorem Inv.call {g':Array GenState}{t':Nat}{d':Drawn}{ch:List Addr}(I:Inv X pins σ H s)(u:Un (frs X.stack) ch H H' s.heap h')(hok:HOk X.prog X.w H' h')(hg:AllBare g')
   (hch:∀b∈ch,(b∈X.ex∨X.s₀.heap.objs.size<=b)/\b≠X.env.locals/\(∀x c,X.env.cells.lookup x=some c->c≠b)/\∀p∈X.pn++pins,p.1≠b) :
   Inv X pins σ H' { s with heap:=h',gens:=g',drawn:=d',toks:=t' }:=by
 obtain⟨m,⟨o,es,ep,ho,r⟩,_⟩:=id I.loc
 obtain⟨sl,hL⟩:=u.any ho I.free fun z=>(hch _ z).2.1 rfl
 exact I.step (ch:=ch) hch (fun b o hL hb hc e n=>u.keep b o e n (fun z=>(Qf.mp (I.stkSub b z)).elim hL hb) hc) (fun b o _ _ hc e n=>u.any e n hc) (fun b o hc e n=>u.free b o e n hc) (fun b o hc e=>u.there b o e hc) u.tups u.frzs u.tbls (fun m' hm=>by
   obtain⟨o',es',ep',ho',r'⟩:=hm
   rw[ho] at ho';cases ho'
   exact⟨_,es',ep',hL,r'⟩) hok hg
theorem Inv.turned {t':Nat}{it:Addr}(I:Inv X pins σ H s)(k:∀b o,b≠it->s.heap.get? b=some o->h'.get? b=some o)(hn:H it=none)(hL:it≠X.env.locals)
   (h1:it∈X.ex∨X.s₀.heap.objs.size<=it) (h2:∀x c,X.env.cells.lookup x=some c->c≠it) (h3:∀p∈X.pn++pins,p.1≠it):Inv X pins σ H { s with heap:=h',toks:=t' }:=by
 have nit:∀b u,H b=some u->b≠it:=fun b u e z=>by rw[z,hn] at e;cases e
 refine I.step (g':=s.gens) (d':=s.drawn) (ch:=[it]) (fun b hb=>?_) (fun b o _ _ hc e _=>k b o (fun z=>hc (by simp[z])) e) (fun b o _ _ hc e _=>⟨o.slots,k b o (fun z=>hc (by simp[z])) e⟩) (fun _ _ _ _ n=>n)
   (fun b o hc e=>⟨o,k b o (fun z=>hc (by simp[z])) e⟩) (fun _ _ e=>e) (fun _ _ _ e=>e) (fun b ps e=>⟨#[],by rw[e];simp⟩) (fun m hm=>?_) (fun b u e=>?_) I.bare
 · have e:b=it:=by simpa using hb
   subst e
   exact⟨h1,hL,h2,h3⟩
 · obtain⟨o,es,ep,ho,r⟩:=hm
   exact⟨o,es,ep,k _ o (Ne.symm hL) ho,r⟩
 · refine(I.hok b u e).stay (fun c v hc q=>k c v ?_ q) (fun _ q=>q) fun _ _ q=>q
   rcases hc with z | z
   · rw[z];exact nit b u e
   · exact nit c _ z
theorem Inv.tok (I:Inv X pins σ H s)(t:Nat):Inv X pins σ H { s with toks:=t }:=I.un (h':=s.heap) (t':=t) Un.refl I.hok
theorem Inv.kept {t':Nat}(I:Inv X pins σ H s)(k:∀b u,s.heap.get? b=some u->h'.get? b=some u):Inv X pins σ H { s with heap:=h',toks:=t' }:=I.un (Un.kept k) (I.hok.kept k)
theorem Inv.laid {a:Addr}{o:HO}{t':Nat}(I:Inv X pins σ H s)(k:∀b u,s.heap.get? b=some u->h'.get? b=some u)(hp:s.heap.objs.size<=a)(new:ObjOk X.prog X.w (upd H a o) h' a o) :
   Inv X pins σ (upd H a o) { s with heap:=h',toks:=t' }:=I.un (Un.laid k hp (I.hok.fresh hp)) (I.hok.laid k hp new)
theorem Inv.write {x e:Addr}{o:HO}{t':Nat}(I:Inv X pins σ H s)(mu:Mut (H x))(he:e=x∨H e=some (.own x))(k:∀b u,b≠e->s.heap.get? b=some u->h'.get? b=some u)(heo:∃u,h'.get? e=some u)
   (new:ObjOk X.prog X.w (upd H x o) h' x o):Inv X pins σ (upd H x o) { s with heap:=h',toks:=t' }:=I.un (Un.write mu he k heo) (I.hok.write mu he k heo new)
theorem Inv.pins_of {pins':List (Addr×Obj)}(I:Inv X pins σ H s)(h:∀p∈pins',s.heap.get? p.1=some p.2/\H p.1=none/\p.1≠X.env.locals/\p.1∉X.fs/\∀v,p.2.data ≠ .cell v):Inv X pins' σ H s :=
 ⟨I.ok,I.os,I.bare,I.base,I.loc,I.cell,I.free,I.freeC,fun p hp=>(Qx.mp hp).elim (fun z=>I.pin p (Tn _ z)) (h p),I.hok,I.len⟩
theorem zY8 {N:List Str}(hN:N.Nodup){i j:Nat}{x:Str}(a:N[i]?=some x)(b:N[j]?=some x):i=j:=by
 obtain⟨h1,e1⟩:=Qn.mp a
 obtain⟨h2,e2⟩:=Qn.mp b
 exact(List.getElem_inj hN).mp (e1.trans e2.symm)
theorem bZ {M:Model}{A:Around}{E:Value->Shared->Prop}{i:Nat}{x:Str}{v:V}{u:Value}{Q:Unit->Shared->Prop}(I:Inv X pins σ H s)(hN:X.N.Nodup)(hi:X.N[i]?=some x)(hx:Loc X.env.scope x)(r:RelV v u)
   (h:∀s',Inv X pins (σ.set i (some v)) H s'->(∃a,Heap.SameBut a s.heap s'.heap/\(a=X.env.locals∨X.env.cells.lookup x=some a))->Q () s') (hf:X.fn x=true∨X.env.scope.names.lookup x=some .local:=by first | exact .inl rfl | exact .inr rfl | assumption):wpAny M A (storeName X.env x u) Q E s:=by
 obtain⟨m,hn,hl⟩:=id I.loc
 have hcls:(X.env.scope.kind == .class||(X.env.scope.kind == .module&&X.env.locals != X.env.globals))=false:=by rw[I.ok.kind];rfl
 have hiσ:i < σ.length:=by rw[I.len];exact(Qn.mp hi).1
 have cne:=I.cne
 have tracked:∀ {a:Addr} {h':Heap},(∃o,s.heap.get? a=some o/\H a=none)->Heap.SameBut a s.heap h'->HOk X.prog X.w H h':=fun {a h'} ha hs b ob e=>by
   obtain⟨_,_,hfree⟩:=ha
   refine(I.hok b ob e).stay (fun c w' hc q=>(hs.2 c ?_).trans q) (fun _ q=>q) fun _ _ q=>q
   rintro rfl
   rcases hc with rfl | hc
   · rw[hfree] at e;cases e
   · rw[hfree] at hc;cases hc
 rcases hx with hk | hk
 · refine wpAny_storeName_local hk hn (fun h' hn' hs=>?_) hcls
   obtain⟨oL,_,_,hoL,_⟩:=id hn
   refine h _ ⟨I.ok,I.os,I.bare,⟨fun b o e n hb hx=>?_,fun b o e n hb hx=>?_,I.base.free,fun b o e hx=>?_,I.base.tups,I.base.frzs,I.base.tbls⟩,⟨_,hn',fun j y v' e1 e2 e3=>?_⟩,fun y c e=>?_,I.free,I.freeC,fun p hp=>?_,tracked ⟨oL,hoL,I.free⟩ hs,by simpa using I.len⟩ ⟨_,hs,.inl rfl⟩
   · exact(hs.2 b (Wf (Wt (Qp e) I.ok.above))).trans (I.base.keep b o e n hb hx)
   · obtain⟨sl,e1⟩:=I.base.slot b o e n hb hx
     exact⟨sl,(hs.2 b (Wf (Wt (Qp e) I.ok.above))).trans e1⟩
   · obtain⟨o',e1⟩:=I.base.there b o e hx
     exact⟨o',(hs.2 b (Wf (Wt (Qp e) I.ok.above))).trans e1⟩
   · by_cases hj:j=i
     · subst hj
       rw[hi] at e1;cases e1
       rw[Em hiσ] at e2
       cases e2
       exact⟨u,r,.inl ⟨hk,by simp⟩⟩
     · rw[Qm (Ne.symm hj)] at e2
       obtain⟨u',r',q⟩:=hl j y v' e1 e2 e3
       refine⟨u',r',?_⟩
       rcases q with⟨k,e⟩ | ⟨k,c,e,z⟩
       · refine .inl ⟨k,?_⟩
         have:y≠x:=fun e=>hj (zY8 hN e1 (e ▸ hi))
         simp[this,e]
       · exact .inr ⟨k,c,e,z.sameBut hs (cne y c e)⟩
   · obtain⟨w',z⟩:=I.cell y c e
     exact⟨w',z.sameBut hs (cne y c e)⟩
   · obtain⟨e,n,ne,nf,d⟩:=I.pin p hp
     exact⟨(hs.2 p.1 ne).trans e,n,ne,nf,d⟩
 · have hfn:X.fn x=true:=by
     rcases hf with z | z
     · exact z
     · rw[z] at hk;cases hk
   obtain⟨c,hc⟩:=I.ok.has x (.inl hk)
   obtain⟨w',z⟩:=I.cell x c hc
   refine wpAny_storeName_cell I.ok.kind hk hc z (fun h' hc' hs=>?_)
   obtain⟨oc,hoc,hocd⟩:=id z
   refine h { s with heap:=h' } ⟨I.ok,I.os,I.bare,⟨fun b o e n hb hx=>?_,fun b o e n hb hx=>?_,I.base.free,fun b o e hx=>?_,I.base.tups,I.base.frzs,I.base.tbls⟩,⟨m,hn.sameBut hs (Ne.symm (cne x c hc)),fun j y v' e1 e2 e3=>?_⟩,fun y c' e=>?_,I.free,I.freeC,fun p hp=>?_,tracked ⟨oc,hoc,I.freeC x c hc⟩ hs,by simpa using I.len⟩ ⟨c,hs,.inr hc⟩
   · exact(hs.2 b (Wf (Wt (Qp e) (I.ok.cab x c hfn hc)))).trans (I.base.keep b o e n hb hx)
   · obtain⟨sl,e1⟩:=I.base.slot b o e n hb hx
     exact⟨sl,(hs.2 b (Wf (Wt (Qp e) (I.ok.cab x c hfn hc)))).trans e1⟩
   · obtain⟨o',e1⟩:=I.base.there b o e hx
     exact⟨o',(hs.2 b (Wf (Wt (Qp e) (I.ok.cab x c hfn hc)))).trans e1⟩
   · by_cases hj:j=i
     · subst hj
       rw[hi] at e1;cases e1
       rw[Em hiσ] at e2
       cases e2
       exact⟨u,r,.inr ⟨.inl hk,c,hc,hc'⟩⟩
     · rw[Qm (Ne.symm hj)] at e2
       obtain⟨u',r',q⟩:=hl j y v' e1 e2 e3
       refine⟨u',r',?_⟩
       rcases q with q | ⟨k,c',e,z'⟩
       · exact .inl q
       · refine .inr ⟨k,c',e,z'.sameBut hs ?_⟩
         rintro rfl
         exact hj (zY8 hN e1 (I.ok.inj _ _ _ e hc ▸ hi))
   · by_cases hcc:c'=c
     · subst hcc;exact⟨_,hc'⟩
     · obtain⟨w2,z2⟩:=I.cell y c' e
       exact⟨w2,z2.sameBut hs hcc⟩
   · obtain⟨e,n,ne,nf,d⟩:=I.pin p hp
     refine⟨(hs.2 p.1 ?_).trans e,n,ne,nf,d⟩
     intro q
     rw[q,hoc] at e
     have q':oc=p.2:=Wb e
     exact d w' (by rw[←q'];exact hocd)
theorem zZj {M:Model}{A:Around}{E:Value->Shared->Prop}{i:Nat}{x:Str}{v:V}{u:Value}{Q:Unit->Shared->Prop}(I:Inv X pins σ H s)(hN:X.N.Nodup)(hi:X.N[i]?=some x)(hx:Loc X.env.scope x)(r:RelV v u)
   (h:∀s',Inv X pins (σ.set i (some v)) H s'->Q () s') (hf:X.fn x=true∨X.env.scope.names.lookup x=some .local:=by first | exact .inl rfl | exact .inr rfl | assumption):wpAny M A (storeName X.env x u) Q E s :=
 bZ I hN hi hx r (fun s' I' _=>h s' I') hf
theorem Inv.call' {s':Shared}{ch:List Addr}(I:Inv X pins σ H s)(ho:s'.os=s.os)(u:Un (frs X.stack) ch H H' s.heap s'.heap)(hok:HOk X.prog X.w H' s'.heap)(hg:AllBare s'.gens)
   (hch:∀b∈ch,(b∈X.ex∨X.s₀.heap.objs.size<=b)/\b≠X.env.locals/\(∀x c,X.env.cells.lookup x=some c->c≠b)/\∀p∈X.pn++pins,p.1≠b):Inv X pins σ H' s':=by
 obtain⟨h',g',d',t',o'⟩:=s'
 have e:o'=s.os:=ho
 subst e
 exact I.call (g':=g') (t':=t') (d':=d') u hok hg hch
end
abbrev XK:=Value->Option Addr->Hp->Prop
abbrev St:=List (Option V)
abbrev VK:=V->Hp->Prop
abbrev TE:=St->Hp->VK->Prop
abbrev TT:=St->Hp->(Bool->Hp->Prop)->Prop
abbrev TA:=St->Hp->(List V->Hp->Prop)->Prop
structure Ends where
 nx:St->Hp->Prop
 rt:VK
 bk:St->Hp->Prop:=fun _ _=>False
 ct:St->Hp->Prop:=fun _ _=>False
abbrev TS:=Ends->St->Hp->Prop
def EP (X:Cx)(pins:List (Addr×Obj))(σ:St)(Q:VK)(u:Value)(s':Shared):Prop:=∃v H',Inv X pins σ H' s'/\RelV v u/\Q v H'
def TP (X:Cx)(pins:List (Addr×Obj))(σ:St)(Q:Bool->Hp->Prop)(b:Bool)(s':Shared):Prop:=∃H',Inv X pins σ H' s'/\Q b H'
def AP (X:Cx)(pins:List (Addr×Obj))(σ:St)(Q:List V->Hp->Prop)(us:List Value)(s':Shared):Prop:=∃vs H',Inv X pins σ H' s'/\Vals vs us/\Q vs H'
def SP (X:Cx)(pins:List (Addr×Obj))(D:Ends)(f:Flow)(s':Shared):Prop :=
 match f with
 | .next=>∃σ' H',Inv X pins σ' H' s'/\D.nx σ' H'
 | .brk=>∃σ' H',Inv X pins σ' H' s'/\D.bk σ' H'
 | .cont=>∃σ' H',Inv X pins σ' H' s'/\D.ct σ' H'
 | .ret u=>∃v σ' H',Inv X pins σ' H' s'/\RelV v u/\D.rt v H'
def PE (X:Cx)(e:Expr)(t:TE):Prop :=
 ∀(pins:List (Addr×Obj)) (s:Shared) (σ:St) (H:Hp) (Q:VK),Inv X pins σ H s->t σ H Q->wpAny (model X.prog X.w) X.A (eval e X.env) (EP X pins σ Q) X.xe s
def PT (X:Cx)(e:Expr)(t:TT):Prop :=
 ∀(pins:List (Addr×Obj)) (s:Shared) (σ:St) (H:Hp) (Q:Bool->Hp->Prop),Inv X pins σ H s->t σ H Q->wpAny (model X.prog X.w) X.A (isTrue e X.env (eval e X.env)) (TP X pins σ Q) X.xe s
def PW (X:Cx)(e:Expr)(t:TT):Prop :=
 ∀(whole:Sem Value) (pins:List (Addr×Obj)) (s:Shared) (σ:St) (H:Hp) (Q:Bool->Hp->Prop),Inv X pins σ H s->t σ H Q->wpAny (model X.prog X.w) X.A (isTrue e X.env whole) (TP X pins σ Q) X.xe s
theorem PW.pt {X:Cx}{e:Expr}{t:TT}(h:PW X e t):PT X e t:=h _
def PA (X:Cx)(es:List Expr)(t:TA):Prop :=
 ∀(pos:Pos) (pins:List (Addr×Obj)) (s:Shared) (σ:St) (H:Hp) (Q:List V->Hp->Prop),Inv X pins σ H s->t σ H Q->wpAny (model X.prog X.w) X.A (spliced (backTo pos (starEach es X.env))) (AP X pins σ Q) X.xe s
def PS (X:Cx)(st:Stmt)(t:TS):Prop :=
 ∀(pins:List (Addr×Obj)) (s:Shared) (σ:St) (H:Hp) (D:Ends),Inv X pins σ H s->t D σ H->wpAny (model X.prog X.w) X.A (exec st X.env) (SP X pins D) X.xe s
def PSs (X:Cx)(st:List Stmt)(t:TS):Prop :=
 ∀(pins:List (Addr×Obj)) (s:Shared) (σ:St) (H:Hp) (D:Ends),Inv X pins σ H s->t D σ H->wpAny (model X.prog X.w) X.A (execs st X.env) (SP X pins D) X.xe s
theorem thn {α:Type}{t:Sem α}{Q Q':α->Shared->Prop}{M:Model}{A:Around}{E:Value->Shared->Prop}{s:Shared}(h:wpAny M A t Q E s)(hQ:∀a s,Q a s->Q' a s):wpAny M A t Q' E s:=Yt h hQ fun _ _ x=>x
section
variable {X:Cx}
def zWr (i:Nat):TE:=fun σ H Q=>∃v,σ[i]?=some (some v)/\Q v H
def tC (v:V):TE:=fun _ H Q=>Q v H
theorem oP {i:Nat}{x:Str}{pos:Pos}(hN:X.N[i]?=some x)(hv:Vis X.env.scope x)(hd:(x==("__debug__":Str))=false:=by decide)(hcd:(x==("__classdict__":Str))=false:=by decide):PE X (.Name x pos) (zWr i):=by
 intro pins s σ H Q I h
 obtain⟨v,e,h⟩:=h
 obtain⟨m,hn,hl⟩:=I.loc
 obtain⟨u,r,l⟩:=hl i x v hN e hv
 have fin:EP X pins σ Q u s:=⟨v,H,I,r,h⟩
 rcases l with⟨hk,hm⟩ | ⟨hk,c,hc,hcell⟩
 · exact wpAny_Name (wpAny_loadName_local I.ok.kind hk hn hm fin) hd
 · rcases hk with hk | hk
   · exact wpAny_Name (wpAny_loadName_cell I.ok.kind hk hc hcell fin) hd
   · exact wpAny_Name (wpAny_loadName_free I.ok.kind hk hc hcell fin hcd) hd
theorem zRz {i j pos}:PE X (.Constant (.int i) j pos) (tC (.int i)):=fun _ _ _ H _ I h=>wpAny_Constant_int ⟨.int i,H,I.tok _,⟨_,rfl⟩,h⟩
theorem zQv {b j pos}:PE X (.Constant (.bool b) j pos) (tC (.bl b)):=fun _ _ _ H _ I h=>Constant_bool ⟨.bl b,H,I,rfl,h⟩
theorem zU7 {j pos}:PE X (.Constant .none j pos) (tC .non):=fun _ _ _ H _ I h=>Constant_none ⟨.non,H,I,rfl,h⟩
theorem zRC {x j pos}:PE X (.Constant (.str x) j pos) (tC (.str x)):=fun _ _ _ H _ I h=>Calls.Constant_str ⟨.str x,H,I.tok _,⟨_,rfl⟩,h⟩
def Gl (X:Cx)(x:Str):Prop:=X.env.kindOf x=some .globalImplicit
theorem zZP {E:Value->Shared->Prop}{pins:List (Addr×Obj)}{s:Shared}{σ:St}{H:Hp}{x:Str}{u:Value}{pos:Pos}{Q:Value->Shared->Prop}(I:Inv X pins σ H s)(hg:Gl X x)(hm:X.mg x=some u)(h:Q u s)
   (hd:(x==("__debug__":Str))=false:=by decide):wpAny (model X.prog X.w) X.A (eval (.Name x pos) X.env) Q E s :=
 Oc I.ok.kind hg (Calls.loadGlobal_global (by rw[I.ok.glob];exact I.mod.glob.keeps I.bk) hm h) hd
theorem qW {E:Value->Shared->Prop}{pins:List (Addr×Obj)}{s:Shared}{σ:St}{H:Hp}{x:Str}{u:Value}{pos:Pos}{Q:Value->Shared->Prop}(I:Inv X pins σ H s)(hg:Gl X x)(hm:X.mg x=none)(hv:bootBuiltins x=some u)(h:Q u s)
   (hn:x≠"__name__":=by decide) (hd:(x==("__debug__":Str))=false:=by decide):wpAny (model X.prog X.w) X.A (eval (.Name x pos) X.env) Q E s:=by
 obtain⟨mb,h1,h2⟩:=I.mod.blt
 exact Oc I.ok.kind hg (Calls.loadGlobal_builtin (by rw[I.ok.glob];exact I.mod.glob.keeps I.bk) hm (by rw[I.ok.blt];exact h1.keeps I.bk) ((h2 x hn).trans hv) h) hd
theorem zSY {x:Str}{v:V}{u:Value}{pos:Pos}(hg:Gl X x)(hm:X.mg x=none)(hv:bootBuiltins x=some u)(r:RelV v u)(hn:x≠"__name__":=by decide)(hd:(x==("__debug__":Str))=false:=by decide):PE X (.Name x pos) (tC v) :=
 fun _ _ _ H _ I h=>qW I hg hm hv ⟨v,H,I,r,h⟩ hn hd
variable {a b:Expr} {ta tb:TE} {pos:Pos}
def tB (t:TE):TT:=fun σ H Q=>t σ H fun x H1=>∃c,x = .bl c/\Q c H1
theorem zSw {e:Expr}{t:TE}(h:PE X e t)(he:∀whole,isTrue e X.env whole=(do let v ←whole;standAt e.pos;holding [v] (truthy v)):=by intro _;rfl):PT X e (tB t):=by
 intro pins s σ H Q I hw
 refine isTrue_plain (thn (h pins s σ H _ I hw) fun v s1 ⟨x,H1,I1,r1,q1⟩=>?_) (he _)
 obtain⟨d,rfl,q⟩:=q1
 cases r1
 exact Rj ⟨H1,I1,q⟩
variable {tA tB':TT} {rest:List Expr}
def zQq (t u:TT):TT:=fun σ H Q=>t σ H fun c H1=>if c=true then u σ H1 Q else Q false H1
def tOr (t u:TT):TT:=fun σ H Q=>t σ H fun c H1=>if c=true then Q true H1 else u σ H1 Q
def zQr (t:TT):TT:=fun σ H Q=>t σ H fun c H1=>Q (!c) H1
theorem zSZ (ha:PT X a tA):PW X (.BoolOp .And [a] pos) tA:=by
 intro wh pins s σ H Q I h
 refine isTrue_and (thn (ha pins s σ H Q I h) fun c s1 e=>?_)
 cases c with
 | true=>exact isTrue_and_nil e
 | false=>exact e
theorem zRs (ha:PT X a tA):PW X (.BoolOp .Or [a] pos) tA:=by
 intro wh pins s σ H Q I h
 refine isTrue_or (thn (ha pins s σ H Q I h) fun c s1 e=>?_)
 cases c with
 | false=>exact isTrue_or_nil e
 | true=>exact e
theorem zRA (ha:PT X a tA)(hb:PW X (.BoolOp .And (b::rest) pos) tB'):PW X (.BoolOp .And (a::b::rest) pos) (zQq tA tB'):=by
 intro wh pins s σ H Q I h
 refine isTrue_and (thn (ha pins s σ H _ I h) fun c s1 ⟨H1,I1,q1⟩=>?_)
 cases c with
 | true=>exact hb wh pins s1 σ H1 Q I1 q1
 | false=>exact⟨H1,I1,q1⟩
theorem zQX (ha:PT X a tA)(hb:PW X (.BoolOp .Or (b::rest) pos) tB'):PW X (.BoolOp .Or (a::b::rest) pos) (tOr tA tB'):=by
 intro wh pins s σ H Q I h
 refine isTrue_or (thn (ha pins s σ H _ I h) fun c s1 ⟨H1,I1,q1⟩=>?_)
 cases c with
 | true=>exact⟨H1,I1,q1⟩
 | false=>exact hb wh pins s1 σ H1 Q I1 q1
theorem zRy (ha:PT X a tA):PT X (.UnaryOp .Not a pos) (zQr tA):=by
 intro pins s σ H Q I h
 exact isTrue_not (ha pins s σ H (fun c H1=>Q (!c) H1) I h)
def zQK (ta tb:TE):TE:=fun σ H Q=>ta σ H fun x H1=>∃c,x = .bl c/\if c=true then tb σ H1 Q else Q (.bl false) H1
def zQV (ta:TE):TE:=fun σ H Q=>ta σ H fun x H1=>∃c,x = .bl c/\Q (.bl (!c)) H1
theorem zRJ {op}{t:TE}(h:PE X a t):PE X (.BoolOp op [a] pos) t:=fun pins s σ H Q I hw=>BoolOp_one (h pins s σ H Q I hw)
theorem zRE (ha:PE X a ta)(hb:PE X (.BoolOp .And (b::rest) pos) tb):PE X (.BoolOp .And (a::b::rest) pos) (zQK ta tb):=by
 intro pins s σ H Q I h
 refine BoolOp_and (thn (ha pins s σ H _ I h) fun v s1 ⟨x,H1,I1,r1,q1⟩=>?_)
 obtain⟨c,rfl,q1⟩:=q1
 cases r1
 refine Rj ?_
 cases c with
 | true=>exact hb pins s1 σ H1 Q I1 q1
 | false=>exact⟨.bl false,H1,I1,rfl,q1⟩
theorem zRZ (ha:PE X a ta):PE X (.UnaryOp .Not a pos) (zQV ta):=by
 intro pins s σ H Q I h
 refine UnaryOp_ (thn (ha pins s σ H _ I h) fun v s1 ⟨x,H1,I1,r1,q1⟩=>?_)
 obtain⟨c,rfl,q1⟩:=q1
 cases r1
 exact not_of (Rj ⟨.bl (!c),H1,I1,rfl,q1⟩)
def tIf (t:TT)(ta tb:TE):TE:=fun σ H Q=>t σ H fun c H1=>if c=true then ta σ H1 Q else tb σ H1 Q
theorem zUT {c:Expr}(hc:PT X c tA)(ha:PE X a ta)(hb:PE X b tb):PE X (.IfExp c a b pos) (tIf tA ta tb):=by
 intro pins s σ H Q I h
 refine wpAny_IfExp (thn (hc pins s σ H _ I h) fun d s1 ⟨H1,I1,q1⟩=>?_)
 cases d with
 | true=>exact ha pins s1 σ H1 Q I1 q1
 | false=>exact hb pins s1 σ H1 Q I1 q1
end
def SqL (K:PySem.W.Frag)(H:Hp)(a:Addr)(xs:List V):Prop :=
 Rd H a (.lst xs) ∨
   ∃(o:Obj) (its:Array Value) (n:Nat),K.lookup a=some o/\o.cls = .type "list"/\o.dict=none/\o.data = .seq its n/\its.size<=sizeLine/\Vals xs its.toList
def SqT (K:PySem.W.Frag)(H:Hp)(a:Addr)(xs:List V):Prop :=
 Rd H a (.tup xs) ∨
   ∃(o:Obj) (its:Array Value) (n:Nat),K.lookup a=some o/\o.cls = .type "tuple"/\o.data = .seq its n/\its.size<=sizeLine/\Vals xs its.toList
def zPX:Value->Option V
 | .none=>some .non
 | .bool b=>some (.bl b)
 | .int i _=>some (.int i)
 | .str x _=>some (.str x)
 | .bytes b _=>some (.byt b)
 | .float b _=>some (.flt b)
 | .ref a=>some (.ref a)
 | .type n=>some (.ty n)
 | _=>none
theorem RelV.abs {x:V}{u:Value}(r:RelV x u):zPX u=some x:=by
 cases x with
 | non=>cases r;rfl
 | bl _=>cases r;rfl
 | int _=>obtain⟨t,rfl⟩:=r;rfl
 | str _=>obtain⟨t,rfl⟩:=r;rfl
 | byt _=>obtain⟨t,rfl⟩:=r;rfl
 | flt _=>obtain⟨t,rfl⟩:=r;rfl
 | ref _=>cases r;rfl
 | ty _=>cases r;rfl
theorem RelV.inj {x y:V}{u:Value}(r:RelV x u)(q:RelV y u):x=y:=Wb (r.abs.symm.trans q.abs)
theorem Vals.inj:∀ {xs ys:List V} {us:List Value},Vals xs us->Vals ys us->xs=ys
 | _,_,_,.nil,.nil=>rfl
 | _,_,_,.cons r t,.cons r' t'=>by rw[r.inj r',Vals.inj t t']
section
variable {X:Cx} {pins:List (Addr×Obj)} {σ:St} {H:Hp} {s:Shared} {a:Addr} {xs ys:List V}
theorem SqL.of {K:PySem.W.Frag}(h:H a=some (.lst xs)):SqL K H a xs:=.inl (.inl h)
theorem SqT.of {K:PySem.W.Frag}(h:H a=some (.tup xs)):SqT K H a xs:=.inl (.inl h)
theorem Inv.list (I:Inv X pins σ H s)(h:SqL X.K H a xs):∃its:List Value,Vals xs its/\PlainL s.heap a its.toArray/\xs.length<=sizeLine:=by
 rcases h with h | ⟨o,its,n,hk,hc,hd,hs,hz,r⟩
 · obtain⟨z,its,n,r,e⟩:=h.ok I.hok
   exact⟨its,r,⟨_,n,e,rfl,rfl,rfl⟩,z⟩
 · refine⟨its.toList,r,⟨o,n,I.kIn a o hk,hc,hd,by simpa using hs⟩,?_⟩
   have e:=r.length
   simp only[Wg] at e
   lia
theorem Inv.tuple (I:Inv X pins σ H s)(h:SqT X.K H a xs):∃its:List Value,Vals xs its/\IsTup s.heap a its.toArray/\xs.length<=sizeLine:=by
 rcases h with h | ⟨o,its,n,hk,hc,hs,hz,r⟩
 · obtain⟨z,its,r,p⟩:=h.ok I.hok
   exact⟨its,r,p,z⟩
 · refine⟨its.toList,r,⟨o,I.kIn a o hk,hc,n,by simpa using hs⟩,?_⟩
   have e:=r.length
   simp only[Wg] at e
   lia
theorem Inv.list_inj (I:Inv X pins σ H s)(h:SqL X.K H a xs)(h':SqL X.K H a ys):xs=ys:=by
 obtain⟨its,r,⟨o,n,e,_,_,d⟩,_⟩:=I.list h
 obtain⟨its',r',⟨o',n',e',_,_,d'⟩,_⟩:=I.list h'
 rw[e] at e';cases e'
 rw[d] at d'
 injection d' with d1 _
 have:its=its':=by simpa using Ep Array.toList d1
 subst this
 exact r.inj r'
theorem Inv.tuple_inj (I:Inv X pins σ H s)(h:SqT X.K H a xs)(h':SqT X.K H a ys):xs=ys:=by
 obtain⟨its,r,⟨o,e,_,n,d⟩,_⟩:=I.tuple h
 obtain⟨its',r',⟨o',e',_,n',d'⟩,_⟩:=I.tuple h'
 rw[e] at e';cases e'
 rw[d] at d'
 injection d' with d1 _
 have:its=its':=by simpa using Ep Array.toList d1
 subst this
 exact r.inj r'
end
abbrev Cx.wish (X:Cx)(E:Value->Shared->Prop):Cx:={ X with xe:=E }
abbrev Cx.nox (X:Cx):Cx:=X.wish fun _ _=>False
theorem Cx.Ok.wish {X:Cx}(ok:X.Ok)(E:Value->Shared->Prop):(X.wish E).Ok :=
 ⟨ok.mod,ok.kind,ok.glob,ok.blt,ok.above,ok.inj,ok.has,ok.cab,ok.hd,ok.frames,ok.stk,ok.exf,ok.bs,ok.bsz,ok.noex,ok.exfs,ok.funs,ok.frf⟩
theorem Cx.Ok.unwish {X:Cx}{E:Value->Shared->Prop}(ok:(X.wish E).Ok):X.Ok :=
 ⟨ok.mod,ok.kind,ok.glob,ok.blt,ok.above,ok.inj,ok.has,ok.cab,ok.hd,ok.frames,ok.stk,ok.exf,ok.bs,ok.bsz,ok.noex,ok.exfs,ok.funs,ok.frf⟩
section
variable {X:Cx} {pins:List (Addr×Obj)} {σ:St} {H:Hp} {s:Shared} {E:Value->Shared->Prop}
theorem Inv.wish (I:Inv X pins σ H s)(E:Value->Shared->Prop):Inv (X.wish E) pins σ H s:=⟨I.ok.wish E,I.os,I.bare,I.base,I.loc,I.cell,I.free,I.freeC,I.pin,I.hok,I.len⟩
theorem Inv.unwish (I:Inv (X.wish E) pins σ H s):Inv X pins σ H s:=⟨I.ok.unwish,I.os,I.bare,I.base,I.loc,I.cell,I.free,I.freeC,I.pin,I.hok,I.len⟩
theorem SP.unwish {D:Ends}{f:Flow}{s':Shared}(h:SP (X.wish E) pins D f s'):SP X pins D f s':=by
 cases f with
 | next=>obtain⟨σ',H',I,q⟩:=h;exact⟨σ',H',I.unwish,q⟩
 | brk=>obtain⟨σ',H',I,q⟩:=h;exact⟨σ',H',I.unwish,q⟩
 | cont=>obtain⟨σ',H',I,q⟩:=h;exact⟨σ',H',I.unwish,q⟩
 | ret u=>obtain⟨v,σ',H',I,r,q⟩:=h;exact⟨v,σ',H',I.unwish,r,q⟩
theorem PSs.nox {st:List Stmt}{t:TS}(h:PSs X.nox st t):PSs X st t:=fun pins s σ H D I hw =>
 Yt (h pins s σ H D (I.wish _) hw) (fun _ _ q=>q.unwish) fun _ _ z=>False.elim z
variable {st:Stmt} {rest:List Stmt} {t u:TS} {e:Expr} {te:TE} {pos:Pos}
def zSG:TS:=fun D σ H=>D.nx σ H
def zQc (t u:TS):TS:=fun D σ H=>t { D with nx:=u D } σ H
theorem aN:PSs X [] zSG:=fun _ _ σ H _ I h=>Uw ⟨σ,H,I,h⟩
theorem jO (h1:PS X st t)(h2:PSs X rest u):PSs X (st::rest) (zQc t u):=by
 intro pins s σ H D I h
 refine wpAny_execs_cons (thn (h1 pins s σ H { D with nx:=u D } I h) fun f s1 q=>?_)
 cases f with
 | next =>
   obtain⟨σ',H',I',q⟩:=q
   exact h2 pins s1 σ' H' D I' q
 | ret v=>exact q
 | brk=>exact q
 | cont=>exact q
theorem zW0 (h1:PS X st t):PSs X [st] t:=by
 intro pins s σ H D I h
 refine wpAny_execs_cons (thn (h1 pins s σ H D I h) fun f s1 q=>?_)
 cases f with
 | next=>exact Uw q
 | ret v=>exact q
 | brk=>exact q
 | cont=>exact q
theorem Inv.quiet {pins:List (Addr×Obj)}{σ:St}{H:Hp}{s:Shared}(I:Inv X pins σ H s):interactive X.env=false:=by simp[interactive,I.ok.kind]
def zQZ (te:TE):TS:=fun D σ H=>te σ H fun _ H1=>D.nx σ H1
theorem jH (he:PE X e te)(hs:swapsWith e none pos.line X.env=pure false:=by rfl):PS X (.Expr e pos) (zQZ te):=by
 intro pins s σ H D I h
 exact wpAny_Expr_any (thn (he pins s σ H _ I h) fun v s1 ⟨x,H1,I1,r1,q1⟩=>⟨σ,H1,I1,q1⟩) I.quiet hs
def zQb (te:TE):TS:=fun D σ H=>te σ H D.rt
theorem zXr (he:PE X e te):PS X (.Return (some e) pos) (zQb te):=by
 intro pins s σ H D I h
 exact wpAny_Return_some (thn (he pins s σ H _ I h) fun v s1 ⟨x,H1,I1,r1,q1⟩=>⟨x,σ,H1,I1,r1,q1⟩)
def zQn (c:TT)(t u:TS):TS:=fun D σ H=>c σ H fun b H1=>if b=true then t D σ H1 else u D σ H1
theorem zS5 {c:Expr}{a b:List Stmt}{tc:TT}(hc:PT X c tc)(ha:PSs X a t)(hb:PSs X b u):PS X (.If c a b pos) (zQn tc t u):=by
 intro pins s σ H D I h
 refine wpAny_If (thn (hc pins s σ H _ I h) fun d s1 ⟨H1,I1,q1⟩=>?_)
 cases d with
 | true=>exact ha pins s1 σ H1 D I1 q1
 | false=>exact hb pins s1 σ H1 D I1 q1
end
abbrev TG:=V->St->Hp->(St->Hp->Prop)->Prop
abbrev TGs:=List V->St->Hp->(St->Hp->Prop)->Prop
def PG (X:Cx)(target:Expr)(t:TG):Prop :=
 ∀(pins:List (Addr×Obj)) (s:Shared) (σ:St) (H:Hp) (v:V) (u:Value) (Q:St->Hp->Prop),Inv X pins σ H s->RelV v u->t v σ H Q ->
   wpAny (model X.prog X.w) X.A (assign target X.env u) (fun _ s'=>∃σ' H',Inv X pins σ' H' s'/\Q σ' H') X.xe s
def PGs (X:Cx)(ts:List Expr)(t:TGs):Prop :=
 ∀(pins:List (Addr×Obj)) (s:Shared) (σ:St) (H:Hp) (vs:List V) (us:List Value) (Q:St->Hp->Prop),Inv X pins σ H s->Vals vs us->t vs σ H Q ->
   wpAny (model X.prog X.w) X.A (assignInOrder ((assignEach ts X.env).map (·.2)) us) (fun _ s'=>∃σ' H',Inv X pins σ' H' s'/\Q σ' H') X.xe s
section
variable {X:Cx} {pos:Pos}
def zYO (i:Nat):TG:=fun v σ H Q=>Q (σ.set i (some v)) H
theorem zSH {i:Nat}{x:Str}(hN:X.N.Nodup)(hi:X.N[i]?=some x)(hx:Loc X.env.scope x)(hf:X.fn x=true∨X.env.scope.names.lookup x=some .local:=by first | exact .inl rfl | exact .inr rfl | assumption):PG X (.Name x pos) (zYO i):=by
 intro pins s σ H v u Q I r h
 exact wpAny_assign_Name (zZj I hN hi hx r (fun s' I'=>⟨_,H,I',h⟩) hf)
def zPR:TGs:=fun vs σ H Q=>vs=[]/\Q σ H
def zRg (t:TG)(u:TGs):TGs:=fun vs σ H Q=>∃v r,vs=v::r/\t v σ H fun σ' H'=>u r σ' H' Q
theorem zTR:PGs X [] zPR:=by
 intro pins s σ H vs us Q I r h
 obtain⟨e,h⟩:=h
 subst e
 cases r
 exact assignInOrder_nil ⟨σ,H,I,h⟩
theorem zUZ {e:Expr}{es:List Expr}{t:TG}{u:TGs}(h1:PG X e t)(h2:PGs X es u)
   (hs:(assignEach (e::es) X.env).map (·.2)=assign e X.env::(assignEach es X.env).map (·.2):=by rfl):PGs X (e::es) (zRg t u):=by
 intro pins s σ H vs us Q I r h
 obtain⟨v,vr,e1,h⟩:=h
 subst e1
 cases r with
 | cons r rr =>
   rw[hs]
   refine assignInOrder_cons (thn (h1 pins s σ H _ _ _ I r h) fun _ s1 ⟨σ1,H1,I1,q1⟩=>?_)
   exact h2 pins s1 σ1 H1 _ _ Q I1 rr q1
def zQm (K:PySem.W.Frag)(n:Nat)(t:TGs):TG:=fun v σ H Q=>∃a xs,v = .ref a/\SqT K H a xs/\xs.length=n/\t xs σ H Q
theorem zRv {es:List Expr}{k:Nat}{t:TGs}{n:Nat}(hc:X.calm=true)(h:PGs X es t)
   (hn:(assignEach es X.env).length=n:=by rfl) (hst:(assignEach es X.env).findIdx? (·.1)=none:=by rfl):PG X (.Tuple es k pos) (zQm X.K n t):=by
 intro pins s σ H v u Q I r hw
 obtain⟨a,xs,e1,hq,hl,hw⟩:=hw
 subst e1
 cases r
 obtain⟨its,rv,ht,hz⟩:=I.tuple hq
 refine assign_Tuple_tuple (I.ok.hd hc) ht (by simp[hn,←hl,rv.length]) hst fun h' hx=>?_
 have I1:Inv X pins σ H { s with heap:=h' }:=I.kept (t':=s.toks) fun b o e=>hx b o (Wf (Qp e)) e
 exact h pins _ σ H xs _ Q I1 (by simpa using rv) hw
def zVP (te:TE)(g:TG):TS:=fun D σ H=>te σ H fun x H1=>g x σ H1 D.nx
theorem zSz {tg e:Expr}{te:TE}{g:TG}(he:PE X e te)(hg:PG X tg g)(hs:swapsWithSole [tg] e pos.line X.env=pure false:=by rfl)(hw:swappedStores [tg] e X.env=pure none:=by rfl)
   (h1:(assignEach [tg] X.env).map (·.2)=[assign tg X.env]:=by rfl):PS X (.Assign [tg] e pos) (zVP te g):=by
 intro pins s σ H D I h
 refine wpAny_Assign_stores (thn (he pins s σ H _ I h) fun v s1 ⟨x,H1,I1,r1,q1⟩=>?_) hs hw
 rw[h1]
 exact thn (hg pins s1 σ H1 x v _ I1 r1 q1) fun _ s2 q=>q
theorem aI {i:Nat}{x:Str}{e:Expr}{te:TE}{pos':Pos}(hN:X.N.Nodup)(hi:X.N[i]?=some x)(hx:Loc X.env.scope x)(he:PE X e te)(hs:swapsWith e (some (.Name x pos')) pos.line X.env=pure false:=by rfl)(hf:X.fn x=true∨X.env.scope.names.lookup x=some .local:=by first | exact .inl rfl | exact .inr rfl | assumption) :
   PS X (.Assign [.Name x pos'] e pos) (zVP te (zYO i)):=by
 intro pins s σ H D I h
 refine wpAny_Assign_Name (thn (he pins s σ H _ I h) fun v s1 ⟨y,H1,I1,r1,q1⟩=>?_) hs
 exact zZj I1 hN hi hx r1 (fun s2 I2=>⟨_,H1,I2,q1⟩) hf
def zRN (c:TT)(tb:TS):TS:=fun D σ H=>∃W:Nat->St->Hp->Prop,(∃m,W m σ H)/\∀m σ H,W m σ H ->
 c σ H fun b H1=>if b=true then ∃N:St->Hp->Prop,(∀σ' H',N σ' H'->∃m',m' < m/\W m' σ' H')/\tb { D with nx:=N,ct:=N,bk:=D.nx } σ H1 else D.nx σ H1
theorem zUV {c:Expr}{body:List Stmt}{tc:TT}{tb:TS}(hp:PassesOwn (model X.prog X.w) X.A X.env X.xe)(hc:PT X c tc)(hb:PSs X body tb):PS X (.While c body [] pos) (zRN tc tb):=by
 intro pins s σ H D I h
 obtain⟨W,⟨m0,w0⟩,turn⟩:=h
 refine wpAny_While (codeAny_whileLoop (fun n s'=>∃σ' H',Inv X pins σ' H' s'/\W n σ' H') ?_ m0 ⟨σ,H,I,w0⟩)
 rintro n s1 ⟨σ1,H1,I1,w1⟩
 refine Rs hp (thn (hc pins s1 σ1 H1 _ I1 (turn n σ1 H1 w1)) fun b s2 ⟨H2,I2,q2⟩=>?_)
 cases b with
 | true =>
   obtain⟨N,hN,q2⟩:=q2
   rw[Qo rfl]
   refine Rs hp (thn (hb pins s2 σ1 H2 _ I2 q2) fun f s3 q3=>?_)
   cases f with
   | next =>
     obtain⟨σ3,H3,I3,n3⟩:=q3
     obtain⟨m',hm,w3⟩:=hN σ3 H3 n3
     exact⟨m',hm,σ3,H3,I3,w3⟩
   | cont =>
     obtain⟨σ3,H3,I3,n3⟩:=q3
     obtain⟨m',hm,w3⟩:=hN σ3 H3 n3
     exact⟨m',hm,σ3,H3,I3,w3⟩
   | brk=>exact q3
   | ret v=>exact q3
 | false =>
   rw[Qs Wu]
   exact Uw ⟨σ1,H2,I2,q2⟩
end
structure It where
 go:Nat->Hp->Prop
 yld:Nat->Hp->V->Hp->Prop
 stop:Nat->Hp->Prop
def kQ (X:Cx)(pins:List (Addr×Obj))(H:Hp)(b:Addr):Prop :=
 H b=none/\b≠X.env.locals/\b∉X.fs/\(b∈X.ex∨X.s₀.heap.objs.size<=b)/\(∀x c,X.env.cells.lookup x=some c->c≠b)/\∀p∈X.pn++pins,p.1≠b
theorem Inv.fpOk {X:Cx}{pins:List (Addr×Obj)}{σ:St}{H H':Hp}{s:Shared}{b:Addr}(I:Inv X pins σ H s)(hb:s.heap.objs.size<=b)(hn:H' b=none):kQ X pins H' b:=by
 refine⟨hn,Nat.ne_of_gt (Wt I.lt hb),I.nofs hb,.inr (Wa I.sz hb),fun x c e z=>?_,fun p hp z=>?_⟩
 · obtain⟨v,q⟩:=I.cell x c e
   exact absurd (Wt q.lt (by rw[z];exact hb)) (Wj _)
 · exact absurd (Wt (Qp (I.pin p hp).1) (by rw[z];exact hb)) (Wj _)
structure Turn (P:Program)(w:World)(K:PySem.W.Frag)(tg:Expr)(J:It)(fp:List Addr)(it:Addr)(tn:Nat->Heap->Prop):Prop where
 mem:it∈fp
 obj:∀i h,tn i h->∀b∈fp,∃o,h.get? b=some o/\∀v,o.data ≠ .cell v
 keep:∀i h h',tn i h->(∀b∈fp,∀o,h.get? b=some o->h'.get? b=some o)->tn i h'
 item:∀(X:Cx),X.prog=P->X.w=w->X.K=K->X.calm=true->∀(i:Nat) (pins:List (Addr×Obj)) (s:Shared) (σ:St) (H:Hp) (E:Value->Shared->Prop),Inv X pins σ H s->(∀b∈fp,kQ X pins H b)->tn i s.heap->J.go i H ->
   wpAny (model P w) X.A (pyNext (.ref it)) (fun r s1=>∃u,r=some u /\
     wpAny (model P w) X.A (letOwnedTupleGo tg (.ref it) u) (fun _ s2=>∃x H',Inv X pins σ H' s2/\RelV x u/\J.yld i H x H'/\tn (i+1) s2.heap/\∀b∈fp,H' b=none) E s1) E s
 done:∀(X:Cx),X.prog=P->X.w=w->X.K=K->X.calm=true->∀(i:Nat) (pins:List (Addr×Obj)) (s:Shared) (σ:St) (H:Hp) (E:Value->Shared->Prop),Inv X pins σ H s->(∀b∈fp,kQ X pins H b)->tn i s.heap->J.stop i H ->
   wpAny (model P w) X.A (pyNext (.ref it)) (fun r s1=>r=none/\Inv X pins σ H s1) E s
 self:∀(A:Around) (i:Nat) (s:Shared) (Q:Value->Shared->Prop) (E:Value->Shared->Prop),tn i s.heap->Q (.ref it) s->wpAny (model P w) A (pyIter (.ref it)) Q E s
abbrev TI:=St->Hp->(It->Hp->Prop)->Prop
def PIE (X:Cx)(pins:List (Addr×Obj))(σ:St)(tg:Expr)(R:It->Hp->Prop)(itv:Value)(s2:Shared):Prop :=
 ∃(it:Addr) (fp:List Addr) (tn:Nat->Heap->Prop) (J:It) (H':Hp),itv = .ref it/\Inv X pins σ H' s2/\Turn X.prog X.w X.K tg J fp it tn/\tn 0 s2.heap/\(∀b∈fp,kQ X pins H' b)/\R J H'
def PI (X:Cx)(tg iter:Expr)(wi:TI):Prop :=
 ∀(pins:List (Addr×Obj)) (s:Shared) (σ:St) (H:Hp) (R:It->Hp->Prop),Inv X pins σ H s->wi σ H R ->
   wpAny (model X.prog X.w) X.A (eval iter X.env) (fun v s1=>wpAny (model X.prog X.w) X.A (pyIter v) (PIE X pins σ tg R) X.xe s1) X.xe s
theorem zS2 {M:Model}{A:Around}{E:Value->Shared->Prop}{s:Shared}{tg:Expr}{it:Addr}{u:Value}{o:Obj}{n:String}{vs:Array Value}{Q:Unit->Shared->Prop}(ho:s.heap.get? it=some o)(hc:o.cls = .type n)(hd:o.data = .fields vs)
   (hn:["enumerate","zip","dict_itemiterator","dict_reverseitemiterator","odict_iterator","itertools.zip_longest","itertools.pairwise"].contains n=false) (hQ:Q () s):wpAny M A (letOwnedTupleGo tg (.ref it) u) Q E s:=by
 unfold letOwnedTupleGo
 cases tg<;>first
   | exact Qc hQ
   | (cases u<;>first
       | exact Qc hQ
       | (refine Qr (wpAny_load ho ?_)
          rw[hc,hd]
          show wpAny M A (if (["enumerate","zip","dict_itemiterator","dict_reverseitemiterator","odict_iterator","itertools.zip_longest","itertools.pairwise"].contains n&&vs[0]?==some (rawInt _))=true then _ else _) Q E s
          rw[Qs (by intro h;rw[hn,On] at h;cases h)]
          exact Qc hQ))
def Itl (K:PySem.W.Frag)(a:Addr):It :=
 ⟨fun i H=>∃xs x,SqL K H a xs/\xs[i]?=some x,fun i H x H'=>H'=H/\∀xs,SqL K H a xs->xs[i]?=some x,fun i H=>∃xs,SqL K H a xs/\xs.length<=i⟩
def Itr (lo:Int)(n:Nat):It:=⟨fun i _=>i < n,fun i H x H'=>H'=H/\x = .int (lo+i),fun i _=>n<=i⟩
theorem zWq {P:Program}{w:World}{K:PySem.W.Frag}{tg:Expr}(a it:Addr):Turn P w K tg (Itl K a) [it] it (fun i h=>h.IsListIter it a i) where
 mem:=by simp
 obj:=fun i h st b hb=>by
   have e:b=it:=by simpa using hb
   subst e
   obtain⟨o,e,c,d⟩:=st
   exact⟨o,e,fun v z=>by rw[d] at z;cases z⟩
 keep:=fun i h h' st k=>st.at fun o e=>k it (by simp) o e
 item:=by
   intro X hP hw hK hc i pins s σ H E I hf st hg
   subst hP hw hK
   obtain⟨xs,x,hq,hx⟩:=hg
   obtain⟨its,rv,p,hz⟩:=I.list hq
   obtain⟨u,hu,ru⟩:=rv.get hx
   obtain⟨f0,f1,f2,f3,f4,f5⟩:=hf it (by simp)
   refine wpAny_pyNext_list_item st p.isList (x:=u) (by simpa using hu) fun h' st' sb=>?_
   have I1:Inv X pins σ H { s with heap:=h' }:=I.turned (t':=s.toks) (fun b o hb e=>(sb.2 b hb).trans e) f0 f1 f3 f4 f5
   obtain⟨o,e,c,d⟩:=id st'
   exact⟨u,rfl,zS2 (s:={ s with heap:=h' }) e c d (by decide) ⟨x,H,I1,ru,⟨rfl,fun ys hy=>by rw[I.list_inj hy hq];exact hx⟩,st',fun b hb=>(hf b hb).1⟩⟩
 done:=by
   intro X hP hw hK hc i pins s σ H E I hf st hg
   subst hP hw hK
   obtain⟨xs,hq,hx⟩:=hg
   obtain⟨its,rv,p,hz⟩:=I.list hq
   obtain⟨f0,f1,f2,f3,f4,f5⟩:=hf it (by simp)
   have hl:=rv.length
   exact wpAny_pyNext_list_end (I.ok.hd hc) st p.isList (by simp;lia) fun h' eb=>⟨rfl,I.turned (t':=s.toks) (fun b o hb e=>eb b o hb e) f0 f1 f3 f4 f5⟩
 self:=fun _ _ _ _ _ st h=>wpAny_pyIter_listiter st h
theorem zXv {P:Program}{w:World}{K:PySem.W.Frag}{tg:Expr}(it:Addr)(lo:Int)(n:Nat):Turn P w K tg (Itr lo n) [it] it (fun i h=>IsRangeIter h it (lo+(i:Nat)*1) ((n:Int) - (i:Nat)) 1) where
 mem:=by simp
 obj:=fun i h st b hb=>by
   have e:b=it:=by simpa using hb
   subst e
   exact⟨_,st,fun v z=>by
     have z':Data.fields _=Data.cell v:=z
     cases z'⟩
 keep:=fun i h h' st k=>k it (by simp) _ st
 item:=by
   intro X hP hw hK hc i pins s σ H E I hf st hg
   subst hP hw hK
   obtain⟨f0,f1,f2,f3,f4,f5⟩:=hf it (by simp)
   have W:=Walks.range (prog:=X.prog) (w:=X.w) (I.ok.hd hc) it lo 1 n
   refine W.item i s _ _ hg st fun v h' tk hv st' kk=>?_
   obtain⟨t,rfl⟩:=hv
   have I1:Inv X pins σ H { s with heap:=h',toks:=tk }:=I.turned (fun b o hb e=>kk b o (by simpa using hb) e) f0 f1 f3 f4 f5
   refine⟨_,rfl,zS2 (s:={ s with heap:=h',toks:=tk }) (n:="range_iterator") st' rfl rfl (by decide) ⟨.int (lo+i),H,I1,⟨t,?_⟩,⟨rfl,rfl⟩,st',fun b hb=>(hf b hb).1⟩⟩
   rw[Int.mul_one]
 done:=by
   intro X hP hw hK hc i pins s σ H E I hf st hg
   subst hP hw hK
   obtain⟨f0,f1,f2,f3,f4,f5⟩:=hf it (by simp)
   exact wpAny_pyNext_range_end (I.ok.hd hc) st (by have:n<=i:=hg;lia) fun h' eb=>⟨rfl,I.turned (t':=s.toks) (fun b o hb e=>eb b o hb e) f0 f1 f3 f4 f5⟩
 self:=fun _ _ _ _ _ st h=>wpAny_pyIter_rangeiter st h
section
variable {X:Cx} {tg:Expr}
def zQY (K:PySem.W.Frag)(tl:TE):TI:=fun σ H R=>tl σ H fun x H1=>∃a,x = .ref a/\(∃xs,SqL K H1 a xs)/\R (Itl K a) H1
theorem zWy {l:Expr}{tl:TE}(hl:PE X l tl):PI X tg l (zQY X.K tl):=by
 intro pins s σ H R I h
 refine thn (hl pins s σ H _ I h) fun v s1 ⟨x,H1,I1,r1,q1⟩=>?_
 obtain⟨a,e,⟨xs,hq⟩,q⟩:=q1
 subst e
 cases r1
 obtain⟨its,rv,p,hz⟩:=I1.list hq
 refine Ih p.isList ?_
 refine⟨s1.heap.objs.size,[s1.heap.objs.size],_,_,H1,rfl,I1.kept (t':=s1.toks) fun b o e=>Qi _ e,zWq a _,⟨_,Wr _ rfl,rfl,rfl⟩,fun b hb=>?_,q⟩
 have e:b=s1.heap.objs.size:=by simpa using hb
 subst e
 exact I1.fpOk (Qd _) (I1.hok.fresh (Qd _))
theorem zVh {pins:List (Addr×Obj)}{σ:St}{H:Hp}{s:Shared}{R:It->Hp->Prop}{E:Value->Shared->Prop}{lo hi:Int}{t u v:Tok}{tk:Nat}(I:Inv X pins σ H s)(h1 : -(2^62)<=lo)(h2:lo < 2^62)(h3 : -(2^62)<=hi)(h4:hi < 2^62)
   (q:R (Itr lo (hi - lo).toNat) H):wpAny (model X.prog X.w) X.A (pyIter (.ref s.heap.objs.size)) (PIE X pins σ tg R) E { s with heap:=s.heap.push { cls:=.type "range",data:=.fields #[.int lo t,.int hi u,.int 1 v] },toks:=tk }:=by
 refine wpAny_pyIter_range (IsRange.new ..) (small_one h1 h2 h3 h4) ?_
 have I1:Inv X pins σ H { s with heap:=s.heap.push { cls:=.type "range",data:=.fields #[.int lo t,.int hi u,.int 1 v] },toks:=tk }:=I.kept fun b o e=>Qi _ e
 refine⟨(s.heap.push { cls:=.type "range",data:=.fields #[.int lo t,.int hi u,.int 1 v] }).objs.size,[(s.heap.push { cls:=.type "range",data:=.fields #[.int lo t,.int hi u,.int 1 v] }).objs.size],_,_,H,rfl,
   I1.kept (t':=tk) fun b o e=>Qi _ e,zXv _ lo (hi - lo).toNat,?_,fun b hb=>?_,q⟩
 · have e1:lo+((0:Nat):Int)*1=lo:=by simp
   have e2:(((hi - lo).toNat:Nat):Int) - ((0:Nat):Int)=Builtin.Range.rangeSize lo hi 1:=by rw[rangeSize_one];split<;>lia
   show IsRangeIter _ _ (lo+((0:Nat):Int)*1) ((((hi - lo).toNat:Nat):Int) - ((0:Nat):Int)) 1
   rw[e1,e2]
   exact Wr _ rfl
 · have e:b=(s.heap.push { cls:=.type "range",data:=.fields #[.int lo t,.int hi u,.int 1 v] }).objs.size:=by simpa using hb
   subst e
   exact I1.fpOk (Qd _) (I1.hok.fresh (Qd _))
def zQu (ta:TA):TI:=fun σ H R=>ta σ H fun vs H1=>∃j:Int,vs=[.int j] /\ -(2^62)<=j/\j < 2^62/\R (Itr 0 j.toNat) H1
theorem zWe {a:Expr}{ta:TA}{p pos:Pos}(hg:Gl X "range")(hm:X.mg "range"=none)(ha:PA X [a] ta)(hs:starEach [a] X.env=[(false,eval a X.env)]:=by rfl):PI X tg (.Call (.Name "range" p) [a] [] pos) (zQu ta):=by
 intro pins s σ H R I h
 refine Call_ (qW I hg hm boot_range (Ea (thn (ha pos pins s σ H _ I h) fun us s1 ⟨vs,H1,I1,r1,q1⟩=>?_) hs rfl))
 obtain⟨j,e,q1,q2,q⟩:=q1
 subst e
 cases r1 with
 | cons r rr =>
   cases rr
   obtain⟨t,rfl⟩:=r
   exact call_range_1 (zVh I1 (by lia) (by lia) q1 q2 (by simpa using q))
def zQp (wi:TI)(g:TG)(tb:TS):TS:=fun D σ H=>wi σ H fun J H1=>∃W:Nat->Nat->St->Hp->Prop,(∃m,W 0 m σ H1)/\∀i m σ H,W i m σ H ->
 (J.stop i H/\D.nx σ H)∨(J.go i H/\∃N:St->Hp->Prop,(∀σ' H',N σ' H'->∃m',m' < m/\W (i+1) m' σ' H')/\∀x H',J.yld i H x H'->g x σ H' fun σ2 H2=>tb { D with nx:=N,ct:=N,bk:=D.nx } σ2 H2)
def fL (fp:List Addr)(h:Heap):List (Addr×Obj):=fp.filterMap fun b=>(h.get? b).map fun o=>(b,o)
theorem oX {fp:List Addr}{h:Heap}{b:Addr}{o:Obj}(hb:b∈fp)(e:h.get? b=some o):(b,o)∈fL fp h:=List.mem_filterMap.mpr ⟨b,hb,by rw[e];rfl⟩
theorem zVQ {fp:List Addr}{h:Heap}{p:Addr×Obj}(hp:p∈fL fp h):p.1∈fp/\h.get? p.1=some p.2:=by
 obtain⟨b,hb,e⟩:=List.mem_filterMap.mp hp
 cases q:h.get? b with
 | none=>rw[q] at e;cases e
 | some o =>
   rw[q] at e
   have e':(b,o)=p:=Wb e
   subst e'
   exact⟨hb,q⟩
theorem Inv.pinned {pins:List (Addr×Obj)}{σ:St}{H:Hp}{s:Shared}{fp:List Addr}(I:Inv X pins σ H s)(hf:∀b∈fp,kQ X pins H b)(ho:∀b∈fp,∃o,s.heap.get? b=some o/\∀v,o.data ≠ .cell v):Inv X (pins++fL fp s.heap) σ H s :=
 I.pins_of fun p hp=>(Qx.mp hp).elim (fun z=>I.pin p (Wd _ z)) fun z=>by
   obtain⟨hb,e⟩:=zVQ z
   obtain⟨f0,f1,f2,_⟩:=hf p.1 hb
   obtain⟨o,e',d⟩:=ho p.1 hb
   rw[e] at e';cases e'
   exact⟨e,f0,f1,f2,d⟩
theorem Inv.unpinned {pins pl:List (Addr×Obj)}{σ:St}{H:Hp}{s:Shared}(I:Inv X (pins++pl) σ H s):Inv X pins σ H s:=I.pins_of fun p hp=>I.pin p (Wd _ (Tn _ hp))
theorem zSx {iter:Expr}{body:List Stmt}{wi:TI}{g:TG}{tb:TS}{pos:Pos}(hp:PassesOwn (model X.prog X.w) X.A X.env X.xe)(hc:X.calm=true)(hi:PI X tg iter wi)(hg:PG X tg g)(hb:PSs X body tb)
   (hs:∀x,foldedSetIterable iter X.env x=pure x:=by intro _;rfl):PS X (.For tg iter body [] pos) (zQp wi g tb):=by
 intro pins s σ H D I h
 refine wpAny_For (thn (hi pins s σ H _ I h) fun v s1 h1=>thn h1 fun itv s2 h2=>?_) hs
 obtain⟨it,fp,tn,J,H2,e,I2,T,st2,f2,W,⟨m0,w0⟩,turn⟩:=h2
 subst e
 -- what stays true of the iterator's objects through the loop
 have stat:∀ {H':Hp},(∀b∈fp,H' b=none)->∀b∈fp,kQ X pins H' b:=fun hn b hb=>⟨hn b hb,(f2 b hb).2⟩
 refine codeAny_forLoop_any (fun n s'=>∃i σ' H',Inv X pins σ' H' s'/\tn i s'.heap/\(∀b∈fp,H' b=none)/\W i n σ' H') ?_ m0 ⟨0,σ,H2,I2,st2,fun b hb=>(f2 b hb).1,w0⟩
 rintro n s3 ⟨i,σ3,H3,I3,st3,fr3,w3⟩
 rcases turn i n σ3 H3 w3 with⟨stop,qn⟩ | ⟨go,N,hN,step⟩
 · refine Rs hp (thn (T.done X rfl rfl rfl hc i pins s3 σ3 H3 X.xe I3 (stat fr3) st3 stop) fun r s4 ⟨hr,I4⟩=>?_)
   subst hr
   exact Uw ⟨σ3,H3,I4,qn⟩
 · refine Rs hp (thn (T.item X rfl rfl rfl hc i pins s3 σ3 H3 X.xe I3 (stat fr3) st3 go) fun r s4 ⟨u,hr,h4⟩=>?_)
   subst hr
   refine Rs hp (thn h4 fun _ s5 ⟨x,H5,I5,r5,y5,st5,fr5⟩=>?_)
   have I5':=I5.pinned (stat fr5) (T.obj _ _ st5)
   refine Rs hp (thn (hg _ s5 σ3 H5 x u _ I5' r5 (step x H5 y5)) fun _ s6 ⟨σ6,H6,I6,q6⟩=>?_)
   refine Rs hp (thn (hb _ s6 σ6 H6 _ I6 q6) fun f s7 q7=>?_)
   have again:∀ {σ7:St} {H7:Hp},Inv X (pins++fL fp s5.heap) σ7 H7 s7->N σ7 H7->∃m,m < n/\∃i σ' H',Inv X pins σ' H' s7/\tn i s7.heap/\(∀b∈fp,H' b=none)/\W i m σ' H':=fun {σ7 H7} I7 n7=>by
     obtain⟨m',hm,w7⟩:=hN σ7 H7 n7
     refine⟨m',hm,i+1,σ7,H7,I7.unpinned,T.keep _ _ _ st5 fun b hb o e=>(I7.pin (b,o) (Wd _ (Wd _ (oX hb e)))).1,fun b hb=>?_,w7⟩
     obtain⟨o,e,d⟩:=T.obj _ _ st5 b hb
     exact(I7.pin (b,o) (Wd _ (Wd _ (oX hb e)))).2.1
   cases f with
   | next=>obtain⟨σ7,H7,I7,n7⟩:=q7;exact again I7 n7
   | cont=>obtain⟨σ7,H7,I7,n7⟩:=q7;exact again I7 n7
   | brk=>obtain⟨σ7,H7,I7,q7⟩:=q7;exact⟨σ7,H7,I7.unpinned,q7⟩
   | ret v=>obtain⟨x7,σ7,H7,I7,r7,q7⟩:=q7;exact⟨x7,σ7,H7,I7.unpinned,r7,q7⟩
end
abbrev R2:=V->V->Hp->VK->Prop
def OpR (X:Cx)(f:Value->Value->Sem Value)(r:R2):Prop :=
 ∀(pins:List (Addr×Obj)) (s:Shared) (σ:St) (H:Hp) (x y:V) (v u:Value) (Q:VK),Inv X pins σ H s->RelV x v->RelV y u->r x y H Q ->
   wpAny (model X.prog X.w) X.A (f v u) (EP X pins σ Q) X.xe s
def CallR (X:Cx)(f:Value)(r:List V->Hp->VK->Prop):Prop :=
 ∀(pins:List (Addr×Obj)) (s:Shared) (σ:St) (H:Hp) (xs:List V) (us:List Value) (Q:VK),Inv X pins σ H s->Vals xs us->r xs H Q ->
   wpAny (model X.prog X.w) X.A (call f us) (EP X pins σ Q) X.xe s
def zPZ (X:Cx)(r:V->Hp->(Bool->Hp->Prop)->Prop):Prop :=
 ∀(pins:List (Addr×Obj)) (s:Shared) (σ:St) (H:Hp) (x:V) (v:Value) (Q:Bool->Hp->Prop),Inv X pins σ H s->RelV x v->r x H Q ->
   wpAny (model X.prog X.w) X.A (truthy v) (TP X pins σ Q) X.xe s
def tOp (r:R2)(ta tb:TE):TE:=fun σ H Q=>ta σ H fun x H1=>tb σ H1 fun y H2=>r x y H2 Q
def rI (C:Int->Int->Prop)(g:Int->Int->V):R2:=fun x y H Q=>∃i j,x = .int i/\y = .int j/\C i j/\Q (g i j) H
def rI0 (g:Int->Int->V):R2:=fun x y H Q=>∃i j,x = .int i/\y = .int j/\Q (g i j) H
section
variable {X:Cx} {a b:Expr} {ta tb:TE} {pos:Pos}
theorem zRi (ha:PE X a ta)(hb:PE X b tb){pins:List (Addr×Obj)}{s:Shared}{σ:St}{H:Hp}{R:V->V->Hp->Prop}(I:Inv X pins σ H s)
   (h:ta σ H fun x H1=>tb σ H1 fun y H2=>R x y H2) {Q:Value->Shared->Prop} {f:Value->Value->Sem Value}
   (hf:∀v u s2 x y H2,Inv X pins σ H2 s2->RelV x v->RelV y u->R x y H2->wpAny (model X.prog X.w) X.A (f v u) Q X.xe s2) :
   wpAny (model X.prog X.w) X.A (eval a X.env) (fun v s₁=>wpAny (model X.prog X.w) X.A (eval b X.env) (fun u s₂=>wpAny (model X.prog X.w) X.A (f v u) Q X.xe s₂) X.xe s₁) X.xe s:=by
 refine thn (ha pins s σ H _ I h) fun v s1 ⟨x,H1,I1,r1,q1⟩=>?_
 refine thn (hb pins s1 σ H1 _ I1 q1) fun u s2 ⟨y,H2,I2,r2,q2⟩=>?_
 exact hf v u s2 x y H2 I2 r1 r2 q2
theorem zY2 {op:Operator}{r:R2}(ho:OpR X (binaryOp op) r)(ha:PE X a ta)(hb:PE X b tb):PE X (.BinOp a op b pos) (tOp r ta tb):=by
 intro pins s σ H Q I h
 exact wpAny_BinOp (zRi ha hb I h fun v u s2 x y H2 I2 rx ry q=>ho pins s2 σ H2 x y v u Q I2 rx ry q)
theorem opI {f:Value->Value->Sem Value}{C:Int->Int->Prop}{g:Int->Int->Int}
   (rule:∀(i j:Int) (t u:Tok) (s:Shared) (Q:Value->Shared->Prop) (E:Value->Shared->Prop),C i j->Q (.int (g i j) s.toks) { s with toks:=s.toks+1 }->wpAny (model X.prog X.w) X.A (f (.int i t) (.int j u)) Q E s) :
   OpR X f (rI C fun i j=>.int (g i j)):=by
 intro pins s σ H x y v u Q I rx ry h
 obtain⟨i,j,rfl,rfl,hc,q⟩:=h
 obtain⟨t,rfl⟩:=rx
 obtain⟨t',rfl⟩:=ry
 exact rule i j t t' s _ _ hc ⟨.int (g i j),H,I.tok _,⟨_,rfl⟩,q⟩
theorem zQ9 {f:Value->Value->Sem Value}{g:Int->Int->Int}
   (rule:∀(i j:Int) (t u:Tok) (s:Shared) (Q:Value->Shared->Prop) (E:Value->Shared->Prop),Q (.int (g i j) s.toks) { s with toks:=s.toks+1 }->wpAny (model X.prog X.w) X.A (f (.int i t) (.int j u)) Q E s) :
   OpR X f (rI0 fun i j=>.int (g i j)):=by
 intro pins s σ H x y v u Q I rx ry h
 obtain⟨i,j,rfl,rfl,q⟩:=h
 obtain⟨t,rfl⟩:=rx
 obtain⟨t',rfl⟩:=ry
 exact rule i j t t' s _ _ ⟨.int (g i j),H,I.tok _,⟨_,rfl⟩,q⟩
theorem zS0 {f:Value->Value->Sem Value}{g:Int->Int->Bool}
   (rule:∀(i j:Int) (t u:Tok) (s:Shared) (Q:Value->Shared->Prop) (E:Value->Shared->Prop),Q (.bool (g i j)) s->wpAny (model X.prog X.w) X.A (f (.int i t) (.int j u)) Q E s) :
   OpR X f (rI0 fun i j=>.bl (g i j)):=by
 intro pins s σ H x y v u Q I rx ry h
 obtain⟨i,j,rfl,rfl,q⟩:=h
 obtain⟨t,rfl⟩:=rx
 obtain⟨t',rfl⟩:=ry
 exact rule i j t t' s _ _ ⟨.bl (g i j),H,I,rfl,q⟩
def zQl (i j:Int):Prop:=0 < j/\j < 1073741824
def zQE (i j:Int):Prop:=0<=j/\j<=1000000/\i.natAbs < 2^64
def CMul (i j:Int):Prop:=(-(2^64) < i/\i < 2^64)∨(-(2^64) < j/\j < 2^64)
theorem CMul.ok {i j:Int}(h:CMul i j):IntMulOk i j:=by
 rcases h with⟨h1,h2⟩ | ⟨h1,h2⟩
 · exact .of_left (intBits_le_64 h1 h2)
 · exact .of_right (intBits_le_64 h1 h2)
theorem zUF:OpR X (binaryOp .Add) (rI0 fun i j=>.int (i+j)):=zQ9 fun _ _ _ _ _ _ _ q=>add_int q
theorem zSh:OpR X (binaryOp .Sub) (rI0 fun i j=>.int (i - j)):=zQ9 fun _ _ _ _ _ _ _ q=>sub_int q
theorem zRx:OpR X (binaryOp .Mult) (rI CMul fun i j=>.int (i*j)):=opI fun _ _ _ _ _ _ _ hc q=>mul_int q hc.ok
theorem zT4:OpR X (binaryOp .FloorDiv) (rI zQl fun i j=>.int (i / j)):=opI fun i j _ _ _ _ _ hc q=>by
 have h1:(0:Int) < j:=hc.1
 have h2:j < 1073741824:=hc.2
 exact floordiv_int (by lia) (by rw[Int.fdiv_eq_ediv_of_nonneg i (by lia)];exact q) (.inl (PyProof.noPylong_small (by lia)))
theorem zSe:OpR X (binaryOp .Mod) (rI (fun _ j=>0 < j) fun i j=>.int (i % j)):=opI fun i j _ _ _ _ _ hc q=>by
 have h1:(0:Int) < j:=hc
 exact mod_int' (by lia) (by rw[Int.fmod_eq_emod_of_nonneg i (by lia)];exact q)
theorem zRH:OpR X (binaryOp .Pow) (rI zQE fun i j=>.int (i^j.toNat)):=opI fun _ _ _ _ _ _ _ hc q=>pow_int_small hc.1 hc.2.1 hc.2.2 q
def zSv:V->V->Bool
 | .non,.non=>true | .non,.int _=>true | .int _,.non=>true | .non,.bl _=>true | .bl _,.non=>true | .non,.str _=>true | .str _,.non=>true
 | .int _,.int _=>true | .bl _,.bl _=>true | .str _,.str _=>true | .byt _,.byt _=>true
 | .int _,.str _=>true | .str _,.int _=>true | .bl _,.str _=>true | .str _,.bl _=>true
 | _,_=>false
def rEq:R2:=fun x y H Q=>zSv x y=true/\Q (.bl (decide (x=y))) H
def rNe:R2:=fun x y H Q=>zSv x y=true/\Q (.bl (!decide (x=y))) H
theorem zXg {i j:Int}:decide (V.int i=V.int j)=(i==j):=by
 rw[Ue]
 simp
theorem zZz {i j:Bool}:decide (V.bl i=V.bl j)=(i==j):=by
 rw[Ue]
 simp
theorem zXf {i j:Str}:decide (V.str i=V.str j)=(i==j):=by
 rw[Ue]
 simp
theorem zWQ {i j:Array UInt8}:decide (V.byt i=V.byt j)=(i.toList==j.toList):=by
 rw[Ue]
 cases i
 cases j
 simp
variable {c:Expr}
theorem zC {pins:List (Addr×Obj)}{σ:St}{H:Hp}{s:Shared}{Q:VK}{k k':Bool}(I:Inv X pins σ H s)(q:Q (.bl k) H)(e:k=k'):EP X pins σ Q (.bool k') s:=by
 subst e
 exact⟨.bl k,H,I,rfl,q⟩
theorem zQw:OpR X (compareOp .Eq) rEq:=by
 intro pins s σ H x y v u Q I rx ry h
 obtain⟨hs,q⟩:=h
 cases x with
 | non =>
   cases rx
   cases y with
   | non=>cases ry;exact PySem.EqNone.eq_none_none (zC I q (by simp))
   | bl j=>cases ry;exact PySem.EqNone.eq_none_bool (zC I q (by simp))
   | int j=>obtain⟨t',rfl⟩:=ry;exact PySem.EqNone.eq_none_int (zC I q (by simp))
   | str j=>obtain⟨t',rfl⟩:=ry;exact PySem.EqNone.eq_none_str (zC I q (by simp))
   | _=>exact absurd (show false=true from hs) Wu
 | bl i =>
   cases rx
   cases y with
   | non=>cases ry;exact PySem.EqNone.eq_bool_none (zC I q (by simp))
   | bl j=>cases ry;exact eq_bool (zC I q zZz)
   | str j=>obtain⟨t',rfl⟩:=ry;exact PySem.EqMixed.eq_bool_str (zC I q (by simp))
   | _=>exact absurd (show false=true from hs) Wu
 | int i =>
   obtain⟨t,rfl⟩:=rx
   cases y with
   | non=>cases ry;exact PySem.EqNone.eq_int_none (zC I q (by simp))
   | int j=>obtain⟨t',rfl⟩:=ry;exact eq_int (zC I q zXg)
   | str j=>obtain⟨t',rfl⟩:=ry;exact PySem.EqMixed.eq_int_str (zC I q (by simp))
   | _=>exact absurd (show false=true from hs) Wu
 | str i =>
   obtain⟨t,rfl⟩:=rx
   cases y with
   | non=>cases ry;exact PySem.EqNone.eq_str_none (zC I q (by simp))
   | bl j=>cases ry;exact PySem.EqMixed.eq_str_bool (zC I q (by simp))
   | int j=>obtain⟨t',rfl⟩:=ry;exact PySem.EqMixed.eq_str_int (zC I q (by simp))
   | str j=>obtain⟨t',rfl⟩:=ry;exact eq_str (zC I q zXf)
   | _=>exact absurd (show false=true from hs) Wu
 | byt i =>
   obtain⟨t,rfl⟩:=rx
   cases y with
   | byt j=>obtain⟨t',rfl⟩:=ry;exact PySem.W.eq_bytes (zC I q zWQ)
   | _=>exact absurd (show false=true from hs) Wu
 | _=>cases y<;>exact absurd (show false=true from hs) Wu
theorem zQ8:OpR X (compareOp .NotEq) rNe:=by
 intro pins s σ H x y v u Q I rx ry h
 obtain⟨hs,q⟩:=h
 cases x with
 | non =>
   cases rx
   cases y with
   | non=>cases ry;exact PySem.EqNone.ne_none_none (zC I q (by simp))
   | bl j=>cases ry;exact PySem.EqNone.ne_none_bool (zC I q (by simp))
   | int j=>obtain⟨t',rfl⟩:=ry;exact PySem.EqNone.ne_none_int (zC I q (by simp))
   | str j=>obtain⟨t',rfl⟩:=ry;exact PySem.EqNone.ne_none_str (zC I q (by simp))
   | _=>exact absurd (show false=true from hs) Wu
 | bl i =>
   cases rx
   cases y with
   | non=>cases ry;exact PySem.EqNone.ne_bool_none (zC I q (by simp))
   | bl j=>cases ry;exact ne_bool (zC I q (Ep not zZz))
   | str j=>obtain⟨t',rfl⟩:=ry;exact PySem.EqMixed.ne_bool_str (zC I q (by simp))
   | _=>exact absurd (show false=true from hs) Wu
 | int i =>
   obtain⟨t,rfl⟩:=rx
   cases y with
   | non=>cases ry;exact PySem.EqNone.ne_int_none (zC I q (by simp))
   | int j=>obtain⟨t',rfl⟩:=ry;exact ne_int (zC I q (Ep not zXg))
   | str j=>obtain⟨t',rfl⟩:=ry;exact PySem.EqMixed.ne_int_str (zC I q (by simp))
   | _=>exact absurd (show false=true from hs) Wu
 | str i =>
   obtain⟨t,rfl⟩:=rx
   cases y with
   | non=>cases ry;exact PySem.EqNone.ne_str_none (zC I q (by simp))
   | bl j=>cases ry;exact PySem.EqMixed.ne_str_bool (zC I q (by simp))
   | int j=>obtain⟨t',rfl⟩:=ry;exact PySem.EqMixed.ne_str_int (zC I q (by simp))
   | str j=>obtain⟨t',rfl⟩:=ry;exact ne_str (zC I q (Ep not zXf))
   | _=>exact absurd (show false=true from hs) Wu
 | byt i =>
   obtain⟨t,rfl⟩:=rx
   cases y with
   | byt j=>obtain⟨t',rfl⟩:=ry;exact PySem.W.ne_bytes (zC I q (Ep not zWQ))
   | _=>exact absurd (show false=true from hs) Wu
 | _=>cases y<;>exact absurd (show false=true from hs) Wu
theorem zQy:OpR X (compareOp .Lt) (rI0 fun i j=>.bl (decide (i < j))):=zS0 fun _ _ _ _ _ _ _ q=>lt_int q
theorem zQ1:OpR X (compareOp .LtE) (rI0 fun i j=>.bl (decide (i<=j))):=zS0 fun _ _ _ _ _ _ _ q=>le_int q
theorem zRh:OpR X (compareOp .Gt) (rI0 fun i j=>.bl (decide (j < i))):=zS0 fun _ _ _ _ _ _ _ q=>gt_int q
theorem zSc:OpR X (compareOp .Is) (fun x y H Q=>y = .non/\Q (.bl (decide (x = .non))) H):=by
 intro pins s σ H x y v u Q I rx ry h
 obtain⟨rfl,q⟩:=h
 cases ry
 refine is_none_gen (zC I q ?_)
 cases x<;>first
   | (cases rx;rfl)
   | (obtain⟨t,rfl⟩:=rx;rfl)
theorem zT5:OpR X (compareOp .IsNot) (fun x y H Q=>y = .non/\Q (.bl (!decide (x = .non))) H):=by
 intro pins s σ H x y v u Q I rx ry h
 obtain⟨rfl,q⟩:=h
 cases ry
 refine isnot_none_gen (zC I q ?_)
 cases x<;>first
   | (cases rx;rfl)
   | (obtain⟨t,rfl⟩:=rx;rfl)
theorem OpR.or {f:Value->Value->Sem Value}{r r':R2}(h:OpR X f r)(h':OpR X f r'):OpR X f (fun x y H Q=>r x y H Q∨r' x y H Q):=by
 intro pins s σ H x y v u Q I rx ry q
 rcases q with q | q
 · exact h pins s σ H x y v u Q I rx ry q
 · exact h' pins s σ H x y v u Q I rx ry q
theorem zSl (b:Expr){op:CmpOp}(h:op ≠ .In:=by decide)(h2:op ≠ .NotIn:=by decide):behindInMarks op b=false:=by
 have e1:(op==CmpOp.In)=false:=by cases op<;>first | rfl | exact absurd rfl h
 have e2:(op==CmpOp.NotIn)=false:=by cases op<;>first | rfl | exact absurd rfl h2
 cases b<;>simp[behindInMarks,e1,e2]
def zQ5 (t:TE):TT:=fun σ H Q=>t σ H fun x H'=>∃k,x = .bl k/\Q k H'
theorem zTK {op:CmpOp}{r:R2}(ho:OpR X (compareOp op) r)(ha:PE X a ta)(hb:PE X b tb)(hm:behindInMarks op b=false):PT X (.Compare a [op] [b] pos) (zQ5 (tOp r ta tb)):=by
 intro pins s σ H Q I h
 refine wpAny_isTrue_Compare1 (thn (ha pins s σ H _ I h) fun v s1 ⟨x,H1,I1,r1,q1⟩=>thn (hb pins s1 σ H1 _ I1 q1) fun u s2 ⟨y,H2,I2,r2,q2⟩ =>
   thn (ho pins s2 σ H2 x y v u _ I2 r1 r2 q2) fun c s3 ⟨z,H3,I3,r3,k,e,q3⟩=>?_) hm
 subst e
 cases r3
 exact Rj ⟨H3,I3,q3⟩
def zRa (K:PySem.W.Frag)(x:V)(H:Hp)(k:Bool):Prop :=
 match x with
 | .non=>k=false
 | .bl b=>k=b
 | .int i=>k=(i != 0)
 | .str y=>y.length<=sizeLine/\k=((y.length:Int) != 0)
 | .byt y=>y.size<=sizeLine/\k=((y.size:Int) != 0)
 | .ref p=>(∃xs,SqL K H p xs/\k = !xs.isEmpty)∨(∃xs,SqT K H p xs/\k = !xs.isEmpty)∨∃kvs,H p=some (.dK kvs)/\k = !kvs.isEmpty
 | _=>False
theorem zXq {κ:Type}{kvs:List (κ×V)}{vs:List (κ×Value)}(r:KV kvs vs):(!vs.isEmpty) = !kvs.isEmpty:=by
 cases r<;>rfl
theorem eR {xs:List V}{its:List Value}(r:Vals xs its):(!its.toArray.isEmpty) = !xs.isEmpty:=by
 cases r<;>simp
theorem iF:(sizeLine:Nat) < 2^63:=by rw[Wn];decide
theorem zRo:zPZ X (fun x H Q=>∃k,zRa X.K x H k/\Q k H):=by
 intro pins s σ H x v Q I rx h
 obtain⟨k,e,q⟩:=h
 have hl:=iF
 have hs:sizeLine=16777216:=Wn
 cases x with
 | non =>
   cases rx
   have e':k=false:=e
   subst e'
   exact truthy_none ⟨H,I,q⟩
 | bl b =>
   cases rx
   have e':k=b:=e
   subst e'
   exact Rj ⟨H,I,q⟩
 | int i =>
   obtain⟨t,rfl⟩:=rx
   have e':k=(i != 0):=e
   subst e'
   exact PySem.P.truthy_int ⟨H,I,q⟩
 | str y =>
   obtain⟨t,rfl⟩:=rx
   obtain⟨hy,e'⟩:y.length<=sizeLine/\k=((y.length:Int) != 0):=e
   subst e'
   exact PySem.P.truthy_str (by lia) ⟨H,I.tok _,q⟩
 | byt y =>
   obtain⟨t,rfl⟩:=rx
   obtain⟨hy,e'⟩:y.size<=sizeLine/\k=((y.size:Int) != 0):=e
   subst e'
   exact PySem.W.truthy_bytes (by lia) ⟨H,I.tok _,q⟩
 | ref p =>
   cases rx
   have e':(∃xs,SqL X.K H p xs/\k = !xs.isEmpty)∨(∃xs,SqT X.K H p xs/\k = !xs.isEmpty)∨∃kvs,H p=some (.dK kvs)/\k = !kvs.isEmpty:=e
   rcases e' with⟨xs,hx,e'⟩ | ⟨xs,hx,e'⟩ | ⟨kvs,hx,e'⟩
   · subst e'
     obtain⟨its,r,pl,hz⟩:=I.list hx
     have hlen:=r.length
     exact wpAny_truthy_list pl.isList (by simp only[Qu];lia) ⟨H,I.tok _,by rw[eR r];exact q⟩
   · subst e'
     obtain⟨its,r,pl,hz⟩:=I.tuple hx
     have hlen:=r.length
     exact truthy_tuple pl (by simp only[Qu];lia) ⟨H,I.tok _,by rw[eR r];exact q⟩
   · subst e'
     obtain⟨hz,hS,vs,r,m⟩:kvs.length<=sizeLine/\(p==sysModules)=false/\∃vs,KV kvs vs/\s.heap.DictOf (aD X.prog X.w) p vs:=I.hok p _ hx
     have hlen:kvs.length=vs.length:=Ye r
     exact wpAny_truthy_dict hS m (by lia) ⟨H,I.tok _,by rw[zXq r];exact q⟩
 | _=>exact(show False from e).elim
theorem zUK (ha:PE X a ta)(he:∀whole,isTrue a X.env whole=(do let v ←whole;standAt a.pos;holding [v] (truthy v))) :
   PT X a (fun σ H Q=>ta σ H fun x H'=>∃k,zRa X.K x H' k/\Q k H'):=by
 intro pins s σ H Q I h
 exact isTrue_plain (thn (ha pins s σ H _ I h) fun v s1 ⟨x,H1,I1,r1,q1⟩=>zRo pins s1 σ H1 x v Q I1 r1 q1) (he _)
theorem zXY:OpR X (binaryOp .Add) (fun x y H Q=>∃i j,x = .str i/\y = .str j/\i.length+j.length<=sizeLine/\Q (.str (i++j)) H):=by
 intro pins s σ H x y v u Q I rx ry h
 obtain⟨i,j,rfl,rfl,hz,q⟩:=h
 obtain⟨t,rfl⟩:=rx
 obtain⟨t',rfl⟩:=ry
 exact add_str (fun t' tk=>⟨.str (i++j),H,I.tok _,⟨_,rfl⟩,q⟩) hz
theorem gI {x:V}{us:List Value}(r:Vals [x] us):∃u,us=[u]/\RelV x u:=by
 cases r with
 | cons r1 r2=>cases r2;exact⟨_,rfl,r1⟩
theorem zWX {x y:V}{us:List Value}(r:Vals [x,y] us):∃u w',us=[u,w']/\RelV x u/\RelV y w':=by
 cases r with
 | cons r1 r2 =>
   cases r2 with
   | cons r3 r4=>cases r4;exact⟨_,_,rfl,r1,r3⟩
theorem zVR (hc:X.calm=true):CallR X (.builtin "max") (fun xs H Q=>∃i j,xs=[.int i,.int j]/\Q (.int (if j > i then j else i)) H):=by
 intro pins s σ H xs us Q I r h
 obtain⟨i,j,rfl,q⟩:=h
 obtain⟨u,w',rfl,⟨t,rfl⟩,⟨t',rfl⟩⟩:=zWX r
 refine max_two_ints (I.ok.hd hc) fun h' tk k=>⟨_,H,I.kept k,?_,q⟩
 by_cases hj:j > i
 · rw[Qo hj,Qo hj];exact⟨_,rfl⟩
 · rw[Qs hj,Qs hj];exact⟨_,rfl⟩
theorem zVB (hc:X.calm=true):CallR X (.builtin "min") (fun xs H Q=>∃i j,xs=[.int i,.int j]/\Q (.int (if j < i then j else i)) H):=by
 intro pins s σ H xs us Q I r h
 obtain⟨i,j,rfl,q⟩:=h
 obtain⟨u,w',rfl,⟨t,rfl⟩,⟨t',rfl⟩⟩:=zWX r
 refine min_two_ints (I.ok.hd hc) fun h' tk k=>⟨_,H,I.kept k,?_,q⟩
 by_cases hj:j < i
 · rw[Qo hj,Qo hj];exact⟨_,rfl⟩
 · rw[Qs hj,Qs hj];exact⟨_,rfl⟩
end
structure ObjM (h:Heap)(x dx C:Addr)(mA:Str->Option Value):Prop where
 obj:h.get? x=some (PySem.W.instObj C dx)
 ns:h.Ns1 dx mA
 ne:dx≠x
theorem zWf {h:Heap}{dx:Addr}{mA:Str->Option Value}(n:h.Ns1 dx mA):∃od,h.get? dx=some od/\∀name,PySem.W.lookIn name od=some (mA name):=by
 obtain⟨o,es,ep,ho,hd,hk,_,hm⟩:=n
 refine⟨o,ho,fun name=>?_⟩
 have e:=hm name
 unfold nsFind findBy at e
 rw[←Array.find?_toList] at e
 unfold PySem.W.lookIn
 rw[hd]
 dsimp only
 split
 · rename_i y q
   rw[q] at e
   exact Ep some e
 · rename_i q
   rw[q] at e
   have a:es.toList.any (·.refKey)=false:=by
     rw[List.any_eq_false]
     intro y hy
     obtain⟨z,t,hkey⟩:=hk y (Array.mem_toList_iff.mp hy)
     simp[DictEntry.refKey,hkey]
   have a':¬es.toList.any (·.refKey)=true:=by rw[a];exact Wu
   rw[Qs a']
   exact Ep some e
theorem ObjM.look {h:Heap}{x dx C:Addr}{mA:Str->Option Value}(I:ObjM h x dx C mA):∃od,PySem.W.InstAt h x (PySem.W.instObj C dx) C (some od)/\∀name,PySem.W.lookIn name od=some (mA name) :=
 let ⟨od,ho,hl⟩:=zWf I.ns
 ⟨od,⟨I.obj,rfl,rfl,ho⟩,hl⟩
section
variable {prog:Program} {w:World} {A:Around} {E:Value->Shared->Prop} {s:Shared} {K:PySem.W.Frag} {x dx C f:Addr} {mA:Str->Option Value} {name:Str} {v:Value}
theorem zTn {expr:Bool}{Q:Value->Shared->Prop}(X:K.In s.heap)(I:ObjM s.heap x dx C mA)(hg:PySem.W.plainGet K C name=true)(hh:PySem.W.hasDictIn K C=true)
   (ha:PySem.W.findIn K (.ref C) name=some none) (hv:mA name=some v) (hv':PySem.W.handedIn v=true) (h:Q v { s with toks:=s.toks+1 }) :
   wpAny (model prog w) A (getAttr (.ref x) name expr) Q E s:=by
 obtain⟨od,J,hl⟩:=I.look
 exact PySem.W.get_value X J (Ub hg).1 (PySem.W.findObj_own hh ha rfl (by rw[hl,hv])) hv' h
theorem zUQ {pl:Sem Bool}{Q:Value×List Value->Shared->Prop}(X:K.In s.heap)(I:ObjM s.heap x dx C mA)(hg:PySem.W.plainGet K C name=true)
   (hf:PySem.W.findIn K (.ref C) name=some (some (.ref f))) (ht:PySem.W.isFn K (.ref f)=true) (hv:mA name=none) (h:Q (.ref f,[.ref x]) s) :
   wpAny (model prog w) A (getMethod (.ref x) name pl) Q E s:=by
 obtain⟨od,J,hl⟩:=I.look
 exact PySem.W.method_fn X J (Ub hg).1 (Ub hg).2 hf (Ul.mp ht) (by show(PySem.W.lookIn name od).map (·.isSome)=some false;rw[hl,hv];rfl) h
theorem zSP {ns:List Str}{Q:Unit->Shared->Prop}(X:K.In s.heap)(I:ObjM s.heap x dx C mA)
   (hs:PySem.W.findIn K (.ref C) "__setattr__"=some (some (.builtin "object.__setattr__"))) (hp:PySem.W.plainOver K C=true) (ht:PySem.W.takerIn K C name=some none) (hh:PySem.W.hasDictIn K C=true)
   (hw:PySem.Within mA ns) (hsz:ns.length<=sizeLine)
   (h:∀h',ObjM h' x dx C (fun y=>if y=name then some v else mA y)->Heap.SameBut dx s.heap h'->Q () { s with heap:=h',toks:=s.toks+2 }) :
   wpAny (model prog w) A (setAttr (.ref x) name v) Q E s:=by
 obtain⟨od,J,hl⟩:=I.look
 refine PySem.W.set_plain X J hs (PySem.W.osa_open (s:={ s with toks:=s.toks+1 }) (r:=none) X J hp ht fun b=>?_)
 obtain⟨cd,hc,hd'⟩:=PySem.W.any_some hh
 have hx:s.heap.get? x=some ⟨.ref C,some dx,.plain,#[]⟩:=I.obj
 refine Qr (Qc (Qr (Qr (wpAny_loadPart hx (Qr (PySem.W.Looks.here (s:={ s with toks:=s.toks+1 }) (PySem.W.looks_clsIn X hc) ?_))))))
 rw[hd']
 refine Qc (a:=some dx) (Qr (Qc (Qr ?_)))
 refine wpAny_nsSet1 (s:={ s with toks:=s.toks+1 }) I.ns fun h' hn2 hs2=>?_
 obtain⟨oD,esD,epD,hoD,hdD,hcD⟩:=hn2.count (PySem.Within.cons name v hw)
 refine Qr (wpAny_lookBehind hoD (by rw[hdD];exact pastItsLine_dict (Wa hcD (by rw[Qh];lia))) ?_)
 exact Qc (h _ ⟨(hs2.2 _ (Ne.symm I.ne)).trans I.obj,hn2,I.ne⟩ hs2)
theorem zU9 {R:Result->Shared->Prop}{vs:List Value}{kw:List (Str×Value)}(X:K.In s.heap)(hm:PySem.W.makesIn K C=true)
   (hi:PySem.W.findIn K (.ref C) "__init__"=some (some (.ref f))) (hf:PySem.W.typeIn K (.ref f)=some (.type "function"))
   (h:codeAny (model prog w) (A.under (.builtin "type.__call__" ⟨.ref C::vs,kw⟩)) (.call (.ref f) ⟨.ref (s.heap.objs.size+1)::vs,kw⟩) (PySem.W.InitBack (s.heap.objs.size+1) R)
     { s with heap:=(s.heap.push PySem.W.emptyDict).push (PySem.W.instObj C s.heap.objs.size) }) :
   codeAny (model prog w) A (.call (.ref C) ⟨vs,kw⟩) R s:=by
 obtain⟨hh,g,d,t,os⟩:=s
 exact PySem.W.make_core (PySem.W.makes_of X hm) (PySem.W.looks_findIn X hi) (fun self=>PySem.W.bind_fn X self hf) (.inl rfl) h
end
def pU (f:Str)(v:V):List (Str×V)->List (Str×V)
 | []=>[(f,v)]
 | (g,x)::r=>if g=f then(g,v)::r else(g,x)::pU f v r
theorem gH (f g:Str)(v:V):∀fs:List (Str×V),(pU f v fs).lookup g=if g=f then some v else fs.lookup g
 | []=>by
   show List.lookup g [(f,v)]=_
   by_cases h:g=f
   · have hb:(g==f)=true:=Ul.mpr h
     simp only[List.lookup,hb,Qo h]
   · have hb:(g==f)=false:=Rm.mpr h
     simp only[List.lookup,hb,Qs h]
 | (k,x)::r=>by
   have ih:=gH f g v r
   rw[show pU f v ((k,x)::r)=(if k=f then(k,v)::r else(k,x)::pU f v r) from rfl]
   by_cases hk:k=f
   · rw[Qo hk]
     by_cases h:g=k
     · have hb:(g==k)=true:=Ul.mpr h
       simp only[List.lookup,hb,Qo (h.trans hk)]
     · have hb:(g==k)=false:=Rm.mpr h
       simp only[List.lookup,hb,Qs (fun e:g=f=>h (e.trans hk.symm))]
   · rw[Qs hk]
     by_cases h:g=k
     · have hb:(g==k)=true:=Ul.mpr h
       simp only[List.lookup,hb,Qs (fun e:g=f=>hk (h.symm.trans e))]
     · have hb:(g==k)=false:=Rm.mpr h
       simp only[List.lookup,hb]
       exact ih
theorem iO (f:Str)(v:V):∀fs:List (Str×V),f∈(pU f v fs).map (·.1)/\∀g,g∈fs.map (·.1)->g∈(pU f v fs).map (·.1)
 | []=>⟨by simp[pU],fun g h=>by simp at h⟩
 | (k,x)::r=>by
   obtain⟨i1,i2⟩:=iO f v r
   rw[show pU f v ((k,x)::r)=(if k=f then(k,v)::r else(k,x)::pU f v r) from rfl]
   by_cases hk:k=f
   · rw[Qo hk]
     subst hk
     exact⟨by simp,fun g h=>by simpa using h⟩
   · rw[Qs hk]
     refine⟨?_,fun g h=>?_⟩
     · rw[Wo]
       exact Qb _ i1
     · rw[Wo] at h ⊢
       rcases Qf.mp h with e | e
       · exact Qf.mpr (.inl e)
       · exact Qb _ (i2 g e)
theorem gQ (f:Str)(v:V):∀fs:List (Str×V),(pU f v fs).length<=fs.length+1
 | []=>by simp[pU]
 | (k,x)::r=>by
   have ih:=gQ f v r
   rw[show pU f v ((k,x)::r)=(if k=f then(k,v)::r else(k,x)::pU f v r) from rfl]
   by_cases hk:k=f
   · rw[Qo hk,Qh,Qh];lia
   · rw[Qs hk,Qh,Qh];lia
theorem RelO.some_of {v:V}{o:Option Value}(r:RelO (some v) o):∃u,o=some u/\RelV v u:=by
 cases o with
 | none=>exact(show False from r).elim
 | some u=>exact⟨u,rfl,r⟩
theorem RelO.none_of {o:Option Value}(r:RelO none o):o=none:=by
 cases o with
 | none=>rfl
 | some u=>exact(show False from r).elim
theorem zVS {v:V}{u:Value}(r:RelV v u):PySem.W.handedIn u=true:=by
 cases v with
 | non=>cases (show u=Value.none from r);rfl
 | bl b=>cases (show u=Value.bool b from r);rfl
 | int i=>obtain⟨t,e⟩:=(show ∃t,u=Value.int i t from r);cases e;rfl
 | str x=>obtain⟨t,e⟩:=(show ∃t,u=Value.str x t from r);cases e;rfl
 | byt b=>obtain⟨t,e⟩:=(show ∃t,u=Value.bytes b t from r);cases e;rfl
 | flt b=>obtain⟨t,e⟩:=(show ∃t,u=Value.float b t from r);cases e;rfl
 | ref a=>cases (show u=Value.ref a from r);rfl
 | ty n=>cases (show u=Value.type n from r);rfl
section
variable {P:Program} {w:World} {H:Hp} {h:Heap} {a C dx:Addr} {fs:List (Str×V)}
theorem zZV (hok:HOk P w H h)(e:H a=some (.ins C dx fs)):∃mA,ObjM h a dx C mA/\(∀f,RelO (fs.lookup f) (mA f))/\PySem.Within mA (fs.map (·.1))/\fs.length<=1000/\H dx=some (.own a):=by
 obtain⟨d,z,ne,ob,mA,n,r,q⟩:=(show ObjOk P w H h a (.ins C dx fs) from hok a _ e)
 exact⟨mA,⟨ob,n,ne⟩,r,q,z,d⟩
end
structure Cls (K:PySem.W.Frag)(C:Addr):Prop where
 pg:PySem.W.plainGet K C Str.empty=true
 hd:PySem.W.hasDictIn K C=true
 po:PySem.W.plainOver K C=true
 sa:PySem.W.findIn K (.ref C) "__setattr__"=some (some (.builtin "object.__setattr__"))
theorem Cls.get {K:PySem.W.Frag}{C:Addr}(c:Cls K C)(f:Str):PySem.W.plainGet K C f=true:=c.pg
def NoAttr (K:PySem.W.Frag)(C:Addr)(f:Str):Prop:=PySem.W.findIn K (.ref C) f=some none
theorem NoAttr.taker {K:PySem.W.Frag}{C:Addr}{f:Str}(n:NoAttr K C f):PySem.W.takerIn K C f=some none:=by
 unfold PySem.W.takerIn
 rw[show PySem.W.findIn K (.ref C) f=some none from n]
 rfl
structure Con (K:PySem.W.Frag)(C:Addr)(f:Str)(v:V)(u:Value):Prop where
 at_:PySem.W.findIn K (.ref C) f=some (some u)
 rel:RelV v u
 get:PySem.W.specialIn K u "__get__"=some none
 cp:PySem.W.copiedNames.contains f=false
structure Meth (K:PySem.W.Frag)(C:Addr)(m:Str)(f:Addr):Prop where
 at_:PySem.W.findIn K (.ref C) m=some (some (.ref f))
 fn:PySem.W.isFn K (.ref f)=true
 kp:PySem.W.keepIn K (.ref f)=true
section
variable {X:Cx} {pins:List (Addr×Obj)} {σ:St} {H:Hp} {s:Shared} {a C dx:Addr} {fs:List (Str×V)} {f:Str} {v:V} {A:Around} {E:Value->Shared->Prop}
theorem zXN {b:Bool}{Q:Value->Shared->Prop}(I:Inv X pins σ H s)(e:H a=some (.ins C dx fs))(c:Cls X.K C)(n:NoAttr X.K C f)(l:fs.lookup f=some v)
   (h:∀u s',Inv X pins σ H s'->RelV v u->Q u s'):wpAny (model X.prog X.w) A (getAttr (.ref a) f b) Q E s:=by
 obtain⟨mA,O,r,_,_,_⟩:=zZV I.hok e
 obtain⟨u,hu,ru⟩:=RelO.some_of (v:=v) (o:=mA f) (by rw[←l];exact r f)
 exact zTn I.kIn O (c.get f) c.hd n hu (zVS ru) (h u _ (I.tok _) ru)
theorem fE {m:Str}{g:Addr}{pl:Sem Bool}{Q:Value×List Value->Shared->Prop}(I:Inv X pins σ H s)(e:H a=some (.ins C dx fs))(c:Cls X.K C)(k:Meth X.K C m g)(l:fs.lookup m=none)
   (h:Q (.ref g,[.ref a]) s):wpAny (model X.prog X.w) A (getMethod (.ref a) m pl) Q E s:=by
 obtain⟨mA,O,r,_,_,_⟩:=zZV I.hok e
 have hn:mA m=none:=RelO.none_of (by rw[←l];exact r m)
 exact zUQ I.kIn O (c.get m) k.at_ k.fn hn h
theorem zXZ {y:V}{u:Value}{Q:Unit->Shared->Prop}(I:Inv X pins σ H s)(e:H a=some (.ins C dx fs))(c:Cls X.K C)(n:NoAttr X.K C f)(hl:fs.length < 1000)(ry:RelV y u)
   (h:∀s',Inv X pins σ (upd H a (.ins C dx (pU f y fs))) s'->Q () s'):wpAny (model X.prog X.w) A (setAttr (.ref a) f u) Q E s:=by
 obtain⟨mA,O,r,wi,_,ho⟩:=zZV I.hok e
 have hz:(fs.map (·.1)).length<=sizeLine:=by rw[Qt,Wn];lia
 refine zSP I.kIn O c.sa c.po n.taker c.hd wi hz fun h' O' sb=>h _ ?_
 have hd:∃o,h'.get? dx=some o:=let ⟨o,_,_,e',_⟩:=O'.ns;⟨o,e'⟩
 refine I.write (x:=a) (e:=dx) (by rw[e];exact True.intro) (.inr ho) (fun b q hb z=>(sb.2 b hb).trans z) hd ?_
 refine⟨by rw[zP O.ne];exact ho,?_,O.ne,O'.obj,_,O'.ns,fun g=>?_,fun g hg=>?_⟩
 · have:=gQ f y fs;lia
 · show RelO ((pU f y fs).lookup g) (if g=f then some u else mA g)
   rw[gH]
   by_cases q:g=f
   · rw[Qo q,Qo q];exact ry
   · rw[Qs q,Qs q];exact r g
 · by_cases q:g=f
   · rw[q];exact(iO f y fs).1
   · refine(iO f y fs).2 g (wi g fun z=>hg ?_)
     show(if g=f then some u else mA g)=none
     rw[Qs q];exact z
theorem Inv.made (I:Inv X pins σ H s):Inv X pins σ (upd (upd H s.heap.objs.size (.own (s.heap.objs.size+1))) (s.heap.objs.size+1) (.ins C s.heap.objs.size []))
   { s with heap:=(s.heap.push PySem.W.emptyDict).push (PySem.W.instObj C s.heap.objs.size) }:=by
 have e1:(s.heap.push PySem.W.emptyDict).get? s.heap.objs.size=some PySem.W.emptyDict:=Wr s.heap rfl
 have e2:((s.heap.push PySem.W.emptyDict).push (PySem.W.instObj C s.heap.objs.size)).get? (s.heap.objs.size+1)=some (PySem.W.instObj C s.heap.objs.size):=by
   have:=Wr (s.heap.push PySem.W.emptyDict) (o:=PySem.W.instObj C s.heap.objs.size) rfl
   rwa[Tv] at this
 have e3:(s.heap.push PySem.W.emptyDict).Ns s.heap.objs.size (fun _=>none):=⟨PySem.W.emptyDict,#[],_,e1,rfl,(fun e he=>absurd he (by simp)),fun _=>rfl⟩
 have I1:=I.laid (a:=s.heap.objs.size) (o:=.own (s.heap.objs.size+1)) (h':=s.heap.push PySem.W.emptyDict) (t':=s.toks) (fun b u q=>Qi _ q) (Qd _) ⟨_,e1⟩
 refine I1.laid (a:=s.heap.objs.size+1) (o:=.ins C s.heap.objs.size []) (t':=s.toks) (fun b u q=>Qi _ q) (Ur (Tv _ _)) ?_
 have ne:s.heap.objs.size≠s.heap.objs.size+1:=Wf (Oq _)
 refine⟨by rw[zP ne,zM],Wm _,ne,e2,fun _=>none,(Heap.Ns1.of_empty e3).at fun o q=>Qi _ q,fun _=>True.intro,fun y hy=>absurd rfl hy⟩
theorem zSI {prog:Program}{w:World}{env:Env}{e:Expr}{f:Str}{pos:Pos}{s:Shared}{Q:Value->Shared->Prop}(hb:attributeBase e f env (eval e env)=eval e env)
   (h:wpAny (model prog w) A (eval e env) (fun o s₁=>wpAny (model prog w) A (getAttr o f true) Q E s₁) E s):wpAny (model prog w) A (eval (.Attribute e f pos) env) Q E s :=
 Attribute_any_ h (by rw[arm_eval_Attribute,hb])
end
def zQo (K:PySem.W.Frag)(ta:TE)(f:Str):TE:=fun σ H Q=>ta σ H fun x H1=>∃a C dx fs v,x = .ref a/\H1 a=some (.ins C dx fs)/\Cls K C/\NoAttr K C f/\fs.lookup f=some v/\Q v H1
def zQd (K:PySem.W.Frag)(ta tv:TE)(f:Str):TS:=fun D σ H=>tv σ H fun y H1=>ta σ H1 fun x H2=>∃a C dx fs,x = .ref a/\H2 a=some (.ins C dx fs)/\Cls K C/\NoAttr K C f/\fs.length < 1000 /\
 D.nx σ (upd H2 a (.ins C dx (pU f y fs)))
section
variable {X:Cx} {o e value:Expr} {f:Str} {pos pos':Pos} {ta tv:TE}
theorem zUx (he:PE X e ta)(hb:attributeBase e f X.env (eval e X.env)=eval e X.env):PE X (.Attribute e f pos) (zQo X.K ta f):=by
 intro pins s σ H Q I h
 refine zSI hb (thn (he pins s σ H _ I h) fun u s1 ⟨x,H1,I1,rx,a,C,dx,fs,v,ex,ea,c,n,l,q⟩=>?_)
 subst ex
 obtain rfl:u=Value.ref a:=rx
 exact zXN I1 ea c n l fun u' s2 I2 ru=>⟨v,H1,I2,ru,q⟩
theorem zUh (ha:PE X o ta)(hv:PE X value tv)(hs:swapsWith value (some (.Attribute o f pos')) pos.line X.env=pure false):PS X (.Assign [.Attribute o f pos'] value pos) (zQd X.K ta tv f):=by
 intro pins s σ H D I h
 refine plainObj_wpAny_Assign_Attribute (thn (hv pins s σ H _ I h) fun u s1 ⟨y,H1,I1,ry,q⟩=>thn (ha pins s1 σ H1 _ I1 q) fun ov s2 ⟨x,H2,I2,rx,a,C,dx,fs,ex,ea,c,n,l,q2⟩=>?_) hs
 subst ex
 obtain rfl:ov=Value.ref a:=rx
 exact zXZ I2 ea c n l ry fun s3 I3=>⟨σ,_,I3,q2⟩
variable {H:Hp}
inductive TyOf (K:PySem.W.Frag)(H:Hp):V->Value->Prop where
 | non:TyOf K H .non (.type "NoneType")
 | bl (x:Bool):TyOf K H (.bl x) (.type "bool")
 | int (i:Int):TyOf K H (.int i) (.type "int")
 | str (x:Str):TyOf K H (.str x) (.type "str")
 | flt (x:UInt64):TyOf K H (.flt x) (.type "float")
 | lst {a:Addr} {xs:List V} (e:H a=some (.lst xs)):TyOf K H (.ref a) (.type "list")
 | frz {a:Addr} {o:Obj} {xs:List V} (e:H a=some (.frz o (.lst xs))):TyOf K H (.ref a) (.type "list")
 | tup {a:Addr} {xs:List V} (e:H a=some (.tup xs)):TyOf K H (.ref a) (.type "tuple")
 | dK {a:Addr} {kvs:List (Key×V)} (e:H a=some (.dK kvs)):TyOf K H (.ref a) (.type "dict")
 | dT {a:Addr} {kvs:List (List Key×V)} (e:H a=some (.dT kvs)):TyOf K H (.ref a) (.type "dict")
 | ins {a C dx:Addr} {fs:List (Str×V)} (e:H a=some (.ins C dx fs)) (cl:Cls K C) (ha:PySem.W.findIn K (.ref C) "__class__"=some (some (.builtin "object.__class__")))
     (hn:PySem.W.specialIn K (.builtin "object.__class__") "__get__"=some (some (.builtin "getset_descriptor.__get__"))) (htk:PySem.W.takesIn K (.builtin "object.__class__")=some true)
     (hm:PySem.W.mroIn K C (.type "object")=some true):TyOf K H (.ref a) (.ref C)
end
structure Room (k:Nat)(A:Around):Prop where
 hd:A.handled=none
 dp:A.depth+3*k+5 < recursionLimit
 un:A.units+16*k+200 < cLine
theorem Room.mono {j k:Nat}{A:Around}(r:Room k A)(h:j<=k):Room j A:=⟨r.hd,by have:=r.dp;lia,by have:=r.un;lia⟩
theorem Room.deeper {k:Nat}{A:Around}(r:Room (k+1) A)(env:Env):Room k (A.deeper env) :=
 ⟨r.hd,by have:=r.dp;show A.depth+1+3*k+5 < _;lia,by have:=r.un;show A.units+3+16*k+200 < _;lia⟩
theorem Room.in1 {k:Nat}{A:Around}(r:Room (k+1) A):Room k A.in1 :=
 ⟨r.hd,by have:=r.dp;show A.depth+3*k+5 < _;lia,by have:=r.un;show A.units+1+16*k+200 < _;lia⟩
theorem zXK {A:Around}{C:Addr}{us:List Value}{kw:List (Str×Value)}:(A.under (.builtin "type.__call__" ⟨.ref C::us,kw⟩)).depth=A.depth+1:=by
 first | rfl | simp[Around.under,Code.weight,Code.isCreation,Code.isGuard,Code.isCaller,Code.frames,Code.isFrame,guardIds]
theorem zX2 {A:Around}{C:Addr}{us:List Value}{kw:List (Str×Value)}:(A.under (.builtin "type.__call__" ⟨.ref C::us,kw⟩)).units=A.units+1:=by
 first | rfl | simp[Around.under,Code.cUnits,Code.frames,Code.isFrame]
theorem Room.make {k:Nat}{A:Around}(r:Room (k+1) A)(C:Addr)(us:List Value)(kw:List (Str×Value)):Room k (A.under (.builtin "type.__call__" ⟨.ref C::us,kw⟩)) :=
 ⟨r.hd,by have:=r.dp;rw[zXK];lia,by have:=r.un;rw[zX2];lia⟩
theorem Room.depth {k:Nat}{A:Around}(r:Room k A):A.depth < recursionLimit:=by have:=r.dp;lia
theorem Room.units {k:Nat}{A:Around}(r:Room k A):A.units+64 < cLine:=by have:=r.un;lia
theorem Room.units0 {k:Nat}{A:Around}(r:Room k A):A.units < cLine:=by have:=r.un;lia
def zVY:TA:=fun _ H Q=>Q [] H
def zYS (ta:TE)(tr:TA):TA:=fun σ H Q=>ta σ H fun x H1=>tr σ H1 fun xs H2=>Q (x::xs) H2
section
variable {X:Cx} {e:Expr} {es:List Expr} {te:TE} {t:TA} {pos:Pos}
theorem xL:PA X [] zVY:=fun _ _ _ _ H Q I h=>Calls.spliced_nil ⟨[],H,I,.nil,h⟩
theorem yX (ha:PE X e te)(hr:PA X es t)(hs:starEach (e::es) X.env=(false,eval e X.env)::starEach es X.env:=by rfl):PA X (e::es) (zYS te t):=by
 intro pos pins s σ H Q I h
 rw[hs]
 show wpAny _ _ (spliced ((false,eval e X.env)::backTo pos (starEach es X.env))) _ _ s
 refine Calls.spliced_cons (thn (ha pins s σ H _ I h) fun u s1 ⟨x,H1,I1,r1,q1⟩=>?_)
 exact thn (hr pos pins s1 σ H1 _ I1 q1) fun us s2 ⟨xs,H2,I2,r2,q2⟩=>⟨x::xs,H2,I2,.cons r1 r2,q2⟩
def zQh (t:TA):TE:=fun σ H Q=>t σ H fun xs H1=>xs.length<=sizeLine/\∀p,H1 p=none->Q (.ref p) (upd H1 p (.tup xs))
def zQa (t:TA):TE:=fun σ H Q=>t σ H fun xs H1=>xs.length<=sizeLine/\∀p,H1 p=none->Q (.ref p) (upd H1 p (.lst xs))
theorem zRT {x1}(h:PA X es t):PE X (.Tuple es x1 pos) (zQh t):=by
 intro pins s σ H Q I hq
 refine wpAny_Tuple_spliced (thn (h pos pins s σ H _ I hq) fun us s1 ⟨xs,H1,I1,r,z,q⟩=>⟨by rw[←r.length];exact z,?_⟩)
 have hf:H1 s1.heap.objs.size=none:=I1.hok.fresh (Qd _)
 refine⟨.ref s1.heap.objs.size,upd H1 s1.heap.objs.size (.tup xs),I1.laid (t':=s1.toks) (fun b u e=>Qi _ e) (Qd _) ?_,rfl,q _ hf⟩
 exact⟨z,us,r,⟨_,Wr _ rfl,rfl,_,rfl⟩⟩
theorem zRX (h:PA X es t):PE X (.List es pos) (zQa t):=by
 intro pins s σ H Q I hq
 refine wpAny_List_spliced (thn (h pos pins s σ H _ I hq) fun us s1 ⟨xs,H1,I1,r,z,q⟩=>⟨by rw[←r.length];exact z,?_⟩)
 have hf:H1 s1.heap.objs.size=none:=I1.hok.fresh (Qd _)
 refine⟨.ref s1.heap.objs.size,upd H1 s1.heap.objs.size (.lst xs),I1.laid (t':=s1.toks) (fun b u e=>Qi _ e) (Qd _) ?_,rfl,q _ hf⟩
 exact⟨z,us,0,r,Wr _ rfl⟩
end
abbrev Sp:=List V->Hp->VK->XK->Prop
abbrev CXT:=List Env->Hp->Shared->XK->Value->Shared->Prop
structure Env0 (P:Program)(w:World)(K:PySem.W.Frag)(mg:Str->Option Value)(base:Heap)(A:Around)(outer:List Env)(s:Shared)(H:Hp):Prop where
 frames:A.frames=some outer
 mod:Mod K mg base
 bs:∀b o,base.get? b=some o->s.heap.get? b=some o/\H b=none
 bsz:base.objs.size<=s.heap.objs.size
 funs:s.heap.FunFrames base outer
 frf:∀b∈frs outer,H b=none
 hok:HOk P w H s.heap
 bare:AllBare s.gens
def CE (outer:List Env)(P:Program)(w:World)(H:Hp)(s:Shared)(Q:VK)(u:Value)(s':Shared):Prop :=
 ∃v H',s'.os=s.os/\AllBare s'.gens/\Un (frs outer) [] H H' s.heap s'.heap/\HOk P w H' s'.heap/\RelV v u/\Q v H'
def CR (CX:CXT)(outer:List Env)(P:Program)(w:World)(H:Hp)(s:Shared)(Q:VK)(E:XK)(r:Result)(s':Shared):Prop :=
 match r with
 | .ok (.ret u)=>CE outer P w H s Q u s'
 | .ok _=>False
 | .error e=>CX outer H s E e s'
structure FnOk (P:Program)(w:World)(K:PySem.W.Frag)(mg:Str->Option Value)(base:Heap)(CX:CXT)(k:Nat)(f:Addr)(fd:FuncData)(ps:List Str)(sp:Sp):Prop where
 len:∀vs H Q E,sp vs H Q E->vs.length=ps.length
 run:∀(A:Around) (outer:List Env) (s:Shared) (H:Hp) (args:Args) (us:List Value) (vs:List V) (Q:VK) (E:XK),Room k A->Env0 P w K mg base A outer s H->BindsTo s fd args (ps.zip us)->Vals vs us->sp vs H Q E ->
   codeAny (model P w) A (.call (.ref f) args) (CR CX outer P w H s Q E) s
theorem Env0.make {P:Program}{w:World}{K:PySem.W.Frag}{mg:Str->Option Value}{base:Heap}{A:Around}{outer:List Env}{s:Shared}{H:Hp}(e:Env0 P w K mg base A outer s H)(C:Addr)(us:List Value)(kw:List (Str×Value)) :
   Env0 P w K mg base (A.under (.builtin "type.__call__" ⟨.ref C::us,kw⟩)) outer s H:=⟨by first | exact e.frames | (simpa [Around.under,Code.envs,Code.isFrame,pushEnvs] using e.frames),e.mod,e.bs,e.bsz,e.funs,e.frf,e.hok,e.bare⟩
theorem Env0.in1 {P:Program}{w:World}{K:PySem.W.Frag}{mg:Str->Option Value}{base:Heap}{A:Around}{outer:List Env}{s:Shared}{H:Hp}(e:Env0 P w K mg base A outer s H) :
   Env0 P w K mg base A.in1 outer s H:=⟨e.frames,e.mod,e.bs,e.bsz,e.funs,e.frf,e.hok,e.bare⟩
section
variable {X:Cx} {pins:List (Addr×Obj)} {σ:St} {H:Hp} {s s':Shared}
theorem Inv.env0 (I:Inv X pins σ H s):Env0 X.prog X.w X.K X.mg X.base X.A X.stack s H :=
 ⟨I.ok.frames,I.ok.mod,I.bs,Wa I.ok.bsz I.sz,I.stack,I.stkFree,I.hok,I.bare⟩
theorem Inv.after {Q:VK}{u:Value}(I:Inv X pins σ H s)(h:CE X.stack X.prog X.w H s Q u s'):EP X pins σ Q u s':=by
 obtain⟨v,H',os,bare,un,hok,r,q⟩:=h
 obtain⟨hh,g,d,t,os'⟩:=s'
 obtain rfl:os'=s.os:=os
 exact⟨v,H',I.call (h':=hh) (g':=g) (d':=d) (t':=t) (ch:=[]) un hok bare (fun b z=>absurd z (by simp)),r,q⟩
end
def zQ0 (sp:Sp)(dvs:List V)(E:XK)(t:TA):TE:=fun σ H Q=>t σ H fun vs H1=>sp (vs++dvs) H1 Q E
def zSB (C:Addr)(m:Str)(sp:Sp)(dvs:List V)(E:XK)(ta:TE)(t:TA):TE:=fun σ H Q=>ta σ H fun x H1=>∃a dx fs,x = .ref a/\H1 a=some (.ins C dx fs)/\fs.lookup m=none /\
 t σ H1 fun vs H2=>sp (x::(vs++dvs)) H2 Q E
def zQD (C:Addr)(sp:Sp)(dvs:List V)(E:XK)(t:TA):TE:=fun σ H Q=>t σ H fun vs H1=>∀x dx,H1 x=none->H1 dx=none->dx≠x ->
 sp (.ref x::(vs++dvs)) (upd (upd H1 dx (.own x)) x (.ins C dx [])) (fun v H2=>v = .non/\Q (.ref x) H2) E
def Binds (K:PySem.W.Frag)(fd:FuncData)(ps:List Str)(ds:List Value):Prop :=
 ∀(s:Shared) (us:List Value),K.In s.heap->(us++ds).length=ps.length->BindsTo s fd ⟨us,[]⟩ (ps.zip (us++ds))
theorem Binds.all {K:PySem.W.Frag}{fd:FuncData}{ps:List Str}(h:∀us:List Value,us.length=ps.length->bindArgs fd ⟨us,[]⟩=pure (ps.zip us)):Binds K fd ps []:=fun s us _ hl=>by
 rw[Er] at hl ⊢
 exact .of_eq (h us hl)
def kR (CX:CXT)(X:Cx)(E:XK):Prop:=∀(pins:List (Addr×Obj)) (σ:St) (H:Hp) (s:Shared) (e:Value) (s':Shared),Inv X pins σ H s->CX X.stack H s E e s'->X.xe e s'
section
variable {X:Cx} {CX:CXT} {k:Nat} {f C:Addr} {fd:FuncData} {ps:List Str} {sp:Sp} {dvs:List V} {ds:List Value} {E:XK} {x m:Str} {p pos apos:Pos} {e o:Expr} {es:List Expr} {ta:TE} {t:TA}
theorem zXL {pins:List (Addr×Obj)}{σ:St}{H:Hp}{s:Shared}{Q:VK}{us:List Value}{vs:List V}(F:FnOk X.prog X.w X.K X.mg X.base CX k f fd ps sp)(hr:Room k X.A)(hb:Binds X.K fd ps ds)(hd:Vals dvs ds)(hx:kR CX X E)
   (I:Inv X pins σ H s) (r:Vals vs us) (h:sp (vs++dvs) H Q E):wpAny (model X.prog X.w) X.A (call (.ref f) us) (EP X pins σ Q) X.xe s:=by
 have r2:Vals (vs++dvs) (us++ds):=r.append hd
 have hl:(us++ds).length=ps.length:=by rw[←r2.length];exact F.len _ _ _ _ h
 refine wpAny_call (Ut (F.run X.A X.stack s H ⟨us,[]⟩ (us++ds) (vs++dvs) Q E hr I.env0 (hb s us I.kIn hl) r2 h) fun r s' hq=>?_)
 cases r with
 | error e=>exact hx pins σ H s e s' I hq
 | ok fl =>
   cases fl with
   | ret u=>exact I.after hq
   | next=>exact False.elim hq
   | brk=>exact False.elim hq
   | cont=>exact False.elim hq
theorem zWR (F:FnOk X.prog X.w X.K X.mg X.base CX k f fd ps sp)(hr:Room k X.A)(hg:Gl X x)(hm:X.mg x=some (.ref f))(hk:PySem.W.keepIn X.K (.ref f)=true)(hb:Binds X.K fd ps ds)(hd:Vals dvs ds)(hx:kR CX X E)
   (ha:PA X (e::es) t) (hdb:(x==("__debug__":Str))=false:=by decide) (he:starEach (e::es) X.env=(false,eval e X.env)::starEach es X.env:=by rfl) (hpl:(backTo pos (starEach es X.env)).any (·.1)=false:=by rfl) :
   PE X (.Call (.Name x p) (e::es) [] pos) (zQ0 sp dvs E t):=by
 intro pins s σ H Q I h
 refine Rp (zZP I hg hm ?_ hdb)
 refine Ir (h₀:=X.base) I.ok.mod.kin hk (thn (ha pos pins s σ H _ I h) fun us s1 ⟨vs,H1,I1,r,q⟩=>⟨I1.kIn,?_⟩) he hpl
 exact zXL F hr hb hd hx I1 r q
theorem zXj {pl:Sem Bool}(he:PE X o ta)(c:Cls X.K C)(hm:Meth X.K C m f)(F:FnOk X.prog X.w X.K X.mg X.base CX k f fd ps sp)(hr:Room k X.A)(hb:Binds X.K fd ps ds)(hd:Vals dvs ds)(hx:kR CX X E)(ha:PA X (e::es) t)
   (hst:starEach (e::es) X.env=(false,eval e X.env)::starEach es X.env:=by rfl) (hpl:(backTo pos (starEach es X.env)).any (·.1)=false:=by rfl)
   (ht:eval (.Call (.Attribute o m apos) (e::es) [] pos) X.env=(do
     let ov ←eval o X.env
     standAt apos.atName
     let (f,first) ←holding [ov] (getMethod ov m pl)
     callWith pos f first (backTo pos (starEach (e::es) X.env)) (backToKw pos (keywordEach [] X.env))):=by rfl) :
   PE X (.Call (.Attribute o m apos) (e::es) [] pos) (zSB C m sp dvs E ta t):=by
 intro pins s σ H Q I h
 refine PySem.W.methodCall_KW (pl:=pl) (thn (he pins s σ H _ I h) fun u s1 ⟨x,H1,I1,rx,a,dx,fs,ex,ea,l,q⟩=>?_) ht
 subst ex
 obtain rfl:u=Value.ref a:=rx
 refine fE I1 ea c hm l ?_
 refine Ir (first:=[.ref a]) (h₀:=X.base) I.ok.mod.kin hm.kp (thn (ha pos pins s1 σ H1 _ I1 q) fun us s2 ⟨vs,H2,I2,r,q2⟩=>⟨I2.kIn,?_⟩) hst hpl
 exact zXL (us:=.ref a::us) (vs:=.ref a::vs) F hr hb hd hx I2 (.cons rfl r) q2
theorem zYG {pl:Sem Bool}(he:PE X o ta)(c:Cls X.K C)(hm:Meth X.K C m f)(F:FnOk X.prog X.w X.K X.mg X.base CX k f fd ps sp)(hr:Room k X.A)(hb:Binds X.K fd ps ds)(hd:Vals dvs ds)(hx:kR CX X E)
   (ht:eval (.Call (.Attribute o m apos) [] [] pos) X.env=(do
     let ov ←eval o X.env
     standAt apos.atName
     let (f,first) ←holding [ov] (getMethod ov m pl)
     callWith pos f first (backTo pos (starEach [] X.env)) (backToKw pos (keywordEach [] X.env))):=by rfl) :
   PE X (.Call (.Attribute o m apos) [] [] pos) (zSB C m sp dvs E ta zVY):=by
 intro pins s σ H Q I h
 refine PySem.W.methodCall_KW (pl:=pl) (thn (he pins s σ H _ I h) fun u s1 ⟨x,H1,I1,rx,a,dx,fs,ex,ea,l,q⟩=>?_) ht
 subst ex
 obtain rfl:u=Value.ref a:=rx
 refine fE I1 ea c hm l ?_
 exact PySem.W.callWith_K0 (first:=[.ref a]) I1.kIn hm.kp (zXL (us:=[.ref a]) (vs:=[.ref a]) F hr hb hd hx I1 (.cons rfl .nil) q)
structure Mk (K:PySem.W.Frag)(C f:Addr):Prop where
 makes:PySem.W.makesIn K C=true
 init:PySem.W.findIn K (.ref C) "__init__"=some (some (.ref f))
 fn:PySem.W.isFn K (.ref f)=true
 kp:PySem.W.keepIn K (.ref C)=true
theorem zVm {pins:List (Addr×Obj)}{σ:St}{H:Hp}{s:Shared}{Q:VK}{us:List Value}{vs:List V}(M:Mk X.K C f)(F:FnOk X.prog X.w X.K X.mg X.base CX k f fd ps sp)(hr:Room (k+1) X.A)(hb:Binds X.K fd ps ds)(hd:Vals dvs ds)
   (hx:kR CX X E) (I:Inv X pins σ H s) (r:Vals vs us)
   (h:∀x dx,H x=none->H dx=none->dx≠x->sp (.ref x::(vs++dvs)) (upd (upd H dx (.own x)) x (.ins C dx [])) (fun v H2=>v = .non/\Q (.ref x) H2) E) :
   wpAny (model X.prog X.w) X.A (call (.ref C) us) (EP X pins σ Q) X.xe s:=by
 have hq:=h (s.heap.objs.size+1) s.heap.objs.size (I.hok.fresh (Rf _)) (I.hok.fresh (Qd _)) (Wf (Oq _))
 have I2:=Inv.made (C:=C) I
 have r2:Vals (V.ref (s.heap.objs.size+1)::(vs++dvs)) (Value.ref (s.heap.objs.size+1)::(us++ds)):=.cons rfl (r.append hd)
 have hl:(Value.ref (s.heap.objs.size+1)::us++ds).length=ps.length:=by
   have e:=r2.length
   rw[F.len _ _ _ _ hq] at e
   exact e.symm
 refine wpAny_call (zU9 (f:=f) I.kIn M.makes M.init (Ul.mp M.fn) (Ut (F.run _ X.stack _ _ ⟨Value.ref (s.heap.objs.size+1)::us,[]⟩ (Value.ref (s.heap.objs.size+1)::(us++ds)) _ _ E (hr.make C us [])
   (I2.env0.make C us []) (hb _ (Value.ref (s.heap.objs.size+1)::us) I2.kIn hl) r2 hq) fun r s' hq'=>?_))
 cases r with
 | error e=>exact hx pins σ _ _ e s' I2 hq'
 | ok fl =>
   cases fl with
   | ret u =>
     obtain⟨v,H',I3,rv,ev,q3⟩:=I2.after hq'
     subst ev
     exact⟨rv,⟨V.ref (s.heap.objs.size+1),H',I3,rfl,q3⟩⟩
   | next=>exact False.elim hq'
   | brk=>exact False.elim hq'
   | cont=>exact False.elim hq'
theorem zWE (M:Mk X.K C f)(F:FnOk X.prog X.w X.K X.mg X.base CX k f fd ps sp)(hr:Room (k+1) X.A)(hg:Gl X x)(hm:X.mg x=some (.ref C))(hb:Binds X.K fd ps ds)(hd:Vals dvs ds)(hx:kR CX X E)
   (ha:PA X (e::es) t) (hdb:(x==("__debug__":Str))=false:=by decide) (he:starEach (e::es) X.env=(false,eval e X.env)::starEach es X.env:=by rfl) (hpl:(backTo pos (starEach es X.env)).any (·.1)=false:=by rfl) :
   PE X (.Call (.Name x p) (e::es) [] pos) (zQD C sp dvs E t):=by
 intro pins s σ H Q I h
 refine Rp (zZP I hg hm ?_ hdb)
 refine Ir (h₀:=X.base) I.ok.mod.kin M.kp (thn (ha pos pins s σ H _ I h) fun us s1 ⟨vs,H1,I1,r,q⟩=>⟨I1.kIn,?_⟩) he hpl
 exact zVm M F hr hb hd hx I1 r q
variable {ks:List Str}
structure KBinds (K:PySem.W.Frag)(fd:FuncData)(ps ks:List Str)(g:List Value->List Value->List Value)(gV:List V->List V->List V):Prop where
 to:∀(s:Shared) (us ws:List Value),K.In s.heap->(g us ws).length=ps.length->BindsTo s fd ⟨us,ks.zip ws⟩ (ps.zip (g us ws))
 rel:∀ {vs:List V} {us:List Value} {zs:List V} {ws:List Value},Vals vs us->Vals zs ws->Vals (gV vs zs) (g us ws)
variable {g:List Value->List Value->List Value} {gV:List V->List V->List V}
end
structure FnScope (N P:List Str)(sc:Scope):Prop where
 kind:sc.kind = .function
 co:sc.isCoroutine=false
 gen:sc.isGenerator=false
 nd:N.Nodup
 pre:N.take P.length=P
 par:∀x∈P,sc.names.lookup x=some .local∨sc.names.lookup x=some .cell
 nofree:∀y∈sc.names,y.2 ≠ .free
theorem bP {kindOf:Str->Option NameKind}{x:Str}:∀ {binds:List (Str×Value)} {m:Str->Option Value},(∀v,(x,v)∉binds)->bindL kindOf binds m x=m x
 | [],_,_=>rfl
 | (n,v)::r,m,h=>by
   unfold bindL
   rw[bP fun w hw=>h w (Qb _ hw)]
   split
   · have:x≠n:=by rintro rfl;exact h v Qv
     simp[this]
   · rfl
theorem bO {kindOf:Str->Option NameKind}{x:Str}:∀ {binds:List (Str×Value)} {m:Str->Option Value},(∀v,(x,v)∉binds)->bindC kindOf binds m x=m x
 | [],_,_=>rfl
 | (n,v)::r,m,h=>by
   unfold bindC
   rw[bO fun w hw=>h w (Qb _ hw)]
   split
   · rfl
   · have:x≠n:=by rintro rfl;exact h v Qv
     simp[this]
theorem bL {kindOf:Str->Option NameKind}{x:Str}{v:Value}:∀ {P:List Str} {vs:List Value} {i:Nat} {m:Str->Option Value},P.Nodup->P[i]?=some x->vs[i]?=some v->kindOf x=some .local ->
   bindL kindOf (P.zip vs) m x=some v
 | [],_,_,_,_,h,_,_=>by simp at h
 | _::_,[],_,_,_,_,h,_=>by simp at h
 | p::P,w::vs,0,m,nd,h1,h2,hk=>by
   simp at h1 h2;subst h1;subst h2
   show bindL kindOf ((p,w)::P.zip vs) m p=_
   unfold bindL
   rw[bP fun v hv=>(Yy.mp nd).1 (Os hv).1,Qo hk]
   simp
 | p::P,w::vs,i+1,m,nd,h1,h2,hk=>by
   show bindL kindOf ((p,w)::P.zip vs) m x=_
   unfold bindL
   exact bL (i:=i) (Yy.mp nd).2 (by simpa using h1) (by simpa using h2) hk
theorem bU {kindOf:Str->Option NameKind}{x:Str}{v:Value}:∀ {P:List Str} {vs:List Value} {i:Nat} {m:Str->Option Value},P.Nodup->P[i]?=some x->vs[i]?=some v->kindOf x≠some .local ->
   bindC kindOf (P.zip vs) m x=some v
 | [],_,_,_,_,h,_,_=>by simp at h
 | _::_,[],_,_,_,_,h,_=>by simp at h
 | p::P,w::vs,0,m,nd,h1,h2,hk=>by
   simp at h1 h2;subst h1;subst h2
   show bindC kindOf ((p,w)::P.zip vs) m p=_
   unfold bindC
   rw[bO fun v hv=>(Yy.mp nd).1 (Os hv).1,Qs hk]
   simp
 | p::P,w::vs,i+1,m,nd,h1,h2,hk=>by
   show bindC kindOf ((p,w)::P.zip vs) m x=_
   unfold bindC
   exact bU (i:=i) (Yy.mp nd).2 (by simpa using h1) (by simpa using h2) hk
def uW (N:List Str)(vs:List V):St:=vs.map some++List.replicate (N.length - vs.length) none
def iW (CX:CXT)(P:Program)(w:World)(K:PySem.W.Frag)(mg:Str->Option Value)(base:Heap)(N:List Str)(qual:Str)(scope:Scope)(f:Addr)(cd:Value)(A:Around)(outer:List Env)(s:Shared)(H:Hp)(E:XK):Cx where
 prog:=P
 w:=w
 K:=K
 mg:=mg
 base:=base
 A:=A.deeper (envOfC qual scope s.heap.objs.size f cd)
 N:=N
 s₀:=s
 H₀:=H
 env:=envOfC qual scope s.heap.objs.size f cd
 outer:=outer
 stack:=envOfC qual scope s.heap.objs.size f cd::outer
 ex:=[]
 calm:=true
 fn:=fun _=>true
 pn:=[]
 xe:=fun e s'=>wpAny (model P w) (A.deeper (envOfC qual scope s.heap.objs.size f cd)) (leaving (envOfC qual scope s.heap.objs.size f cd) e) (fun _ s''=>CX outer H s E e s'') (fun e' s''=>CX outer H s E e' s'') s'
theorem zYU {sc:Scope}{n:Nat}{x:Str}(h:sc.names.lookup x=some .cell):∃c,(cellsFrom n sc.names []).lookup x=some c:=by
 have q:=PySem.W.cellsFrom_some sc.names n [] (.inl h)
 exact Tq.mp q
theorem zWv {CX:CXT}{P:Program}{w:World}{K:PySem.W.Frag}{mg:Str->Option Value}{base:Heap}{N ps:List Str}{qual:Str}{scope:Scope}{f:Addr}{cd:Value}{A:Around}{outer:List Env}{s s1:Shared}{H:Hp}{E:XK}{us:List Value}{vs:List V}
   (S:FnScope N ps scope) (hd:A.handled=none) (e0:Env0 P w K mg base A outer s H) (hl:vs.length=ps.length) (r:Vals vs us)
   (x:InCallC s s.heap.objs.size (bindL (envOfC qual scope s.heap.objs.size f cd).kindOf (ps.zip us) fun _=>none) (cellsFrom (s.heap.objs.size+1) scope.names []) (bindC (envOfC qual scope s.heap.objs.size f cd).kindOf (ps.zip us) fun _=>none) s1) :
   Inv (iW CX P w K mg base N qual scope f cd A outer s H E) [] (uW N vs) H s1:=by
 have hpl:ps.length<=N.length:=by have:=Ep List.length S.pre;rw[Qg] at this;lia
 obtain⟨h1,tk,rfl,hk⟩:=x.done
 have noA:∀b:Addr,b∉(iW CX P w K mg base N qual scope f cd A outer s H E).ex:=fun b z=>absurd (show b∈([]:List Addr) from z) (by simp)
 refine⟨⟨e0.mod,S.kind,rfl,rfl,Qd _,fun y z c h1 h2=>?_,fun y hy=>?_,fun y c _ h=>?_,fun _=>hd,Around.frames_deeper e0.frames,.inr ⟨rfl,rfl⟩,fun b z=>absurd z (noA b),e0.bs,e0.bsz,fun b _ _=>noA b,fun b z=>absurd z (noA b),e0.funs,e0.frf⟩,
   rfl,e0.bare,Un.kept hk,⟨_,x.toInCall.ns,fun i y v h1 h2 h3=>?_⟩,fun y c h=>⟨_,x.cell y c h⟩,e0.hok.fresh (Qd _),fun y c h=>?_,fun p hp=>absurd (show p∈([]:List (Addr×Obj)) from hp) (by simp),e0.hok.kept hk,?_⟩
 · exact name_of_addr x.apart (Ej h1) (Ej h2)
 · have hy:scope.names.lookup y=some .cell∨scope.names.lookup y=some .free:=hy
   rcases hy with hy | hy
   · exact zYU hy
   · exact absurd rfl (S.nofree _ (Ej hy))
 · exact Wc (x.above y c (Ej h))
 · have hi:i < vs.length:=by
     unfold uW at h2
     by_cases hi:i < vs.length
     · exact hi
     · rw[Ww (by simpa using hi)] at h2
       rw[Es] at h2
       split at h2<;>cases h2
   have ha:vs[i]?=some v:=by
     unfold uW at h2
     rw[Wx (by simpa using hi),Ws] at h2
     cases e:vs[i]? with
     | none=>rw[e] at h2;cases h2
     | some a=>rw[e] at h2;cases h2;rfl
   obtain⟨u,hu,rv⟩:=r.get ha
   have hp:ps[i]?=some y:=by
     rw[←S.pre,List.getElem?_take_of_lt (by lia)];exact h1
   have ndP:ps.Nodup:=by rw[←S.pre];exact S.nd.sublist (Eo _ _)
   refine⟨u,rv,?_⟩
   rcases S.par y (Ux hp) with k | k
   · exact .inl ⟨k,bL ndP hp hu k⟩
   · obtain⟨c,e⟩:=zYU (n:=s.heap.objs.size+1) k
     refine .inr ⟨.inl k,c,e,?_⟩
     have q:=x.cell y c e
     rw[bU ndP hp hu (by show scope.names.lookup y≠_;rw[k];decide)] at q
     exact q
 · exact e0.hok.fresh (Wc (x.above y c (Ej h)))
 · unfold uW
   show _=N.length
   rw[Qe,Qt,Uy]
   lia
theorem zRf {CX:CXT}{P:Program}{w:World}{K:PySem.W.Frag}{mg:Str->Option Value}{base:Heap}{k:Nat}{f:Addr}{name qual:Str}{params:Arguments}{body:List Stmt}{scope:Scope}{dV kV doc pm cdv ct oc:Value}{an od:Option Addr}
   {osl:Array (Option Value)} {N ps:List Str} {sp:Sp} (lk:K.lookup f=some ⟨oc,od,.func (PySem.W.fnOf name qual params body scope dV kV doc pm an cdv ct),osl⟩) (hcd:PySem.W.codeIn K cdv qual=true) (S:FnScope N ps scope)
   (len:∀vs H Q E,sp vs H Q E->vs.length=ps.length)
   (hbody:∀(A:Around) (outer:List Env) (s:Shared) (H:Hp) (vs:List V) (Q:VK) (E:XK),Room k (A.deeper (envOfC qual scope s.heap.objs.size f cdv))->sp vs H Q E ->
     ∃t,PSs (iW CX P w K mg base N qual scope f cdv A outer s H E) body t/\t { nx:=fun _ H'=>Q .non H',rt:=Q } (uW N vs) H) :
   FnOk P w K mg base CX (k+1) f (PySem.W.fnOf name qual params body scope dV kV doc pm an cdv ct) ps sp:=by
 refine⟨len,fun A outer s H args us vs Q E hr e0 hb r hsp=>?_⟩
 have hl:=len _ _ _ _ hsp
 have KX:K.In s.heap:=e0.mod.kin.keeps fun b o e=>(e0.bs b o e).1
 have lim:s.heap.NoLimit:=e0.mod.nolimit.keeps fun b o e=>(e0.bs b o e).1
 have hkind:∀y∈ps.zip us,scope.names.lookup y.1=some .local∨(scope.names.lookup y.1=some .cell/\((cellsFrom (s.heap.objs.size+1) scope.names []).lookup y.1).isSome=true):=fun⟨n,v⟩ hy=>by
   rcases S.par n (Os hy).1 with q | q
   · exact .inl q
   · exact .inr ⟨q,PySem.W.cellsFrom_some _ _ _ (.inl q)⟩
 refine codeAny_call_function hr.depth (KX _ _ lk) rfl S.co S.gen rfl (PySem.W.codeRec_of KX hcd) (hb _ _ _ _ ?_)
 refine wpAny_newFunctionEnv_cells S.kind hkind fun env he s1 x=>?_
 subst he
 refine⟨lim.keeps x.toInCall.keep,codeAny_func ?_⟩
 obtain⟨t,ht,hq⟩:=hbody A outer s H vs Q E (hr.deeper _) hsp
 have I:Inv (iW CX P w K mg base N qual scope f cdv A outer s H E) [] (uW N vs) H s1:=zWv S hr.hd e0 hl r x
 refine Yt (ht [] s1 (uW N vs) H _ I hq) (fun fl s' hs=>?_) fun e s' hs=>hs
 have fin:∀ {σ':St} {H':Hp} {v:V} {u:Value},Inv (iW CX P w K mg base N qual scope f cdv A outer s H E) [] σ' H' s'->RelV v u->Q v H'->CE outer P w H s Q u s' :=
   fun {σ' H' v u} J rv q=>⟨v,H',J.os,J.bare,J.base,J.hok,rv,q⟩
 cases fl with
 | ret u =>
   obtain⟨v,σ',H',J,rv,q⟩:=hs
   exact fin J rv q
 | next =>
   obtain⟨σ',H',J,q⟩:=hs
   exact fin (v:=V.non) (u:=Value.none) J rfl q
 | brk =>
   obtain⟨_,_,_,q⟩:=hs
   exact False.elim q
 | cont =>
   obtain⟨_,_,_,q⟩:=hs
   exact False.elim q
section
variable {X:Cx} {x:Str} {p pos:Pos} {e:Expr} {es:List Expr} {t:TA} {id T:String} {r:List V->Hp->VK->Prop}
def tCB (r:List V->Hp->VK->Prop)(t:TA):TE:=fun σ H Q=>t σ H fun vs H1=>r vs H1 Q
theorem tO (hc:CallR X (.builtin id) r)(hg:Gl X x)(hm:X.mg x=none)(hv:bootBuiltins x=some (.builtin id))(ha:PA X (e::es) t)(hn:x≠"__name__":=by decide)(hdb:(x==("__debug__":Str))=false:=by decide)
   (he:starEach (e::es) X.env=(false,eval e X.env)::starEach es X.env:=by rfl) (hpl:(backTo pos (starEach es X.env)).any (·.1)=false:=by rfl):PE X (.Call (.Name x p) (e::es) [] pos) (tCB r t):=by
 intro pins s σ H Q I h
 refine Rp (qW I hg hm hv ?_ hn hdb)
 exact PyProof.Rows.callWith_builtin1 (thn (ha pos pins s σ H _ I h) fun us s1 ⟨vs,H1,I1,r1,q1⟩=>hc pins s1 σ H1 vs us Q I1 r1 q1) he hpl
theorem zWs (hc:CallR X (.type T) r)(hg:Gl X x)(hm:X.mg x=none)(hv:bootBuiltins x=some (.type T))(ha:PA X (e::es) t)(hn:x≠"__name__":=by decide)(hdb:(x==("__debug__":Str))=false:=by decide)
   (he:starEach (e::es) X.env=(false,eval e X.env)::starEach es X.env:=by rfl) (hpl:(backTo pos (starEach es X.env)).any (·.1)=false:=by rfl):PE X (.Call (.Name x p) (e::es) [] pos) (tCB r t):=by
 intro pins s σ H Q I h
 refine Rp (qW I hg hm hv ?_ hn hdb)
 exact Ea (thn (ha pos pins s σ H _ I h) fun us s1 ⟨vs,H1,I1,r1,q1⟩=>hc pins s1 σ H1 vs us Q I1 r1 q1) he hpl
end
end L2
namespace HT
open PySem PyProof.Rows
section
def sIx (n d:Nat):Option Int->Nat
 | none=>d
 | some v=>if v < 0 then(v+(n:Int)).toNat else min v.toNat n
theorem sIx_none (n d:Nat):sIx n d none=d:=rfl
theorem sIx_nat (n d k:Nat):sIx n d (some (k:Int))=min k n:=by
 show(if (k:Int) < 0 then((k:Int)+(n:Int)).toNat else min (k:Int).toNat n)=min k n
 rw[Qs (by lia),Int.toNat_natCast]
end
end HT
namespace L2
open PySem PySem.Spec PyProof.Rows
abbrev TO:=St->Hp->(Option Int->Hp->Prop)->Prop
def PO (X:Cx)(e:Option Expr)(t:TO):Prop :=
 ∀(pins:List (Addr×Obj)) (s:Shared) (σ:St) (H:Hp) (Q:Option Int->Hp->Prop),Inv X pins σ H s->t σ H Q ->
   wpAny (model X.prog X.w) X.A (evalPart e X.env) (fun u s'=>∃o H',Inv X pins σ H' s'/\IsPart u o/\Q o H') X.xe s
def zSL:TO:=fun _ H Q=>Q none H
def zQR (t:TE):TO:=fun σ H Q=>t σ H fun x H1=>∃i,x = .int i/\Q (some i) H1
section
variable {X:Cx} {e:Expr} {te:TE} {lo hi:Option Expr} {tl th:TO} {pos p2:Pos}
theorem zSN:PO X none zSL:=by
 intro pins s σ H Q I h
 rw[evalPart_none]
 exact Qc ⟨none,H,I,.none,h⟩
theorem zTL (h:PE X e te):PO X (some e) (zQR te):=by
 intro pins s σ H Q I hw
 rw[evalPart_some]
 refine thn (h pins s σ H _ I hw) fun u s1 ⟨x,H1,I1,r1,q1⟩=>?_
 obtain⟨i,rfl,q⟩:=q1
 obtain⟨t,rfl⟩:=r1
 exact⟨some i,H1,I1,.int i t,q⟩
def SlR (X:Cx)(r:V->Option Int->Option Int->Hp->VK->Prop):Prop :=
 ∀(pins:List (Addr×Obj)) (s:Shared) (σ:St) (H:Hp) (x:V) (v vl vu:Value) (lo hi:Option Int) (sl:Addr) (Q:VK),Inv X pins σ H s->RelV x v->s.heap.IsSliceOf sl vl vu .none->IsPart vl lo->IsPart vu hi->r x lo hi H Q ->
   ∃T id,typeLookup (.type T) "__getitem__"=pure (some (.builtin id))/\s.TypeIs v T/\wpAny (model X.prog X.w) X.A (getItem v (.ref sl)) (EP X pins σ Q) X.xe s
def tSl (r:V->Option Int->Option Int->Hp->VK->Prop)(te:TE)(tl th:TO):TE:=fun σ H Q=>te σ H fun x H1=>tl σ H1 fun l H2=>th σ H2 fun u H3=>r x l u H3 Q
theorem zYr {r:V->Option Int->Option Int->Hp->VK->Prop}(hr:SlR X r)(he:PE X e te)(hl:PO X lo tl)(hu:PO X hi th):PE X (.Subscript e (.Slice lo hi none p2) pos) (tSl r te tl th):=by
 intro pins s σ H Q I h
 refine Subscript_ (thn (he pins s σ H _ I h) fun v s1 ⟨x,H1,I1,r1,q1⟩=>?_)
 refine wpAny_Slice (thn (hl pins s1 σ H1 _ I1 q1) fun vl s2 ⟨l,H2,I2,pl,q2⟩=>thn (hu pins s2 σ H2 _ I2 q2) fun vu s3 ⟨u,H3,I3,pu,q3⟩=>?_)
 rw[evalPart_none]
 refine Qc ?_
 have I4:Inv X pins σ H3 { s3 with heap:=s3.heap.push { cls:=.type "slice",data:=.fields #[vl,vu,.none] } }:=I3.kept (t':=s3.toks) fun b ob q=>Qi _ q
 obtain⟨T,id,hT,ht,hg⟩:=hr pins { s3 with heap:=s3.heap.push { cls:=.type "slice",data:=.fields #[vl,vu,.none] } } σ H3 x v vl vu l u s3.heap.objs.size Q I4 r1 (Heap.IsSliceOf.new ..) pl pu q3
 show wpAny (model X.prog X.w) X.A (subscriptTail e (.Slice lo hi none p2) v (.ref s3.heap.objs.size)) (EP X pins σ Q) X.xe { s3 with heap:=s3.heap.push { cls:=.type "slice",data:=.fields #[vl,vu,.none] } }
 exact tail_any (ops:=[.ref s3.heap.objs.size,v]) ht hT hg (by with_unfolding_all rfl)
def zVZ (xs:List V)(lo hi:Option Int):List V:=(xs.drop (HT.sIx xs.length 0 lo)).take (HT.sIx xs.length xs.length hi - HT.sIx xs.length 0 lo)
theorem zYs (xs:List V)(lo hi:Option Int):(zVZ xs lo hi).length<=xs.length:=by
 unfold zVZ
 rw[Qg,Wy]
 lia
end
def ixN (n:Nat)(i:Int):Option Nat:=if 0<=i then(if i < n then some i.toNat else none) else if -(n:Int)<=i then some (i+n).toNat else none
def atI {α:Type}(xs:List α)(i:Int):Option α:=(ixN xs.length i).bind fun j=>xs[j]?
theorem zXl {n:Nat}{i:Int}{j:Nat}(h:ixN n i=some j):seqIndex? i n=some j/\j < n /\ -(n:Int)<=i/\i < n:=by
 unfold ixN at h
 by_cases h0:0<=i
 · rw[Qo h0] at h
   by_cases h1:i < n
   · rw[Qo h1] at h
     have e:i.toNat=j:=Wb h
     exact⟨by rw[seqIndex_of h0 h1,e],by lia,by lia,h1⟩
   · rw[Qs h1] at h;cases h
 · rw[Qs h0] at h
   by_cases h1 : -(n:Int)<=i
   · rw[Qo h1] at h
     have e:(i+n).toNat=j:=Wb h
     exact⟨by rw[seqIndex_neg (by lia) h1,e],by lia,h1,by lia⟩
   · rw[Qs h1] at h;cases h
theorem zZT {α:Type}{xs:List α}{i:Int}{v:α}(h:atI xs i=some v):∃j,seqIndex? i xs.length=some j/\xs[j]?=some v/\j < xs.length /\ -(xs.length:Int)<=i/\i < xs.length:=by
 unfold atI at h
 cases e:ixN xs.length i with
 | none=>rw[e] at h;cases h
 | some j =>
   rw[e] at h
   obtain⟨h1,h2,h3,h4⟩:=zXl e
   exact⟨j,h1,h,h2,h3,h4⟩
def zWB (b:Expr):Prop:=∀o i,subscripted b false o i=operate [o,i] (getItem o i)
def IxR (X:Cx)(r:R2):Prop :=
 ∀(value slice:Expr) (pins:List (Addr×Obj)) (s:Shared) (σ:St) (H:Hp) (x y:V) (v u:Value) (Q:VK),Inv X pins σ H s->RelV x v->RelV y u->r x y H Q ->
   subscripted slice false v u=operate [v,u] (getItem v u)->wpAny (model X.prog X.w) X.A (subscriptTail value slice v u) (EP X pins σ Q) X.xe s
def MtR (X:Cx)(id:String)(r:V->List V->Hp->VK->Prop):Prop :=
 ∀(pins:List (Addr×Obj)) (s:Shared) (σ:St) (H:Hp) (x:V) (xs:List V) (v:Value) (us:List Value) (Q:VK),Inv X pins σ H s->RelV x v->Vals xs us->r x xs H Q ->
   wpAny (model X.prog X.w) X.A (call (.builtin id) (v::us)) (EP X pins σ Q) X.xe s
section
variable {X:Cx} {a b:Expr} {ta tb:TE} {pos:Pos}
theorem IxR.or {r r':R2}(h:IxR X r)(h':IxR X r'):IxR X (fun x y H Q=>r x y H Q∨r' x y H Q):=by
 intro value slice pins s σ H x y v u Q I rx ry q hs
 rcases q with q | q
 · exact h value slice pins s σ H x y v u Q I rx ry q hs
 · exact h' value slice pins s σ H x y v u Q I rx ry q hs
theorem zQO {r:R2}(hr:IxR X r)(ha:PE X a ta)(hb:PE X b tb)(hs:zWB b):PE X (.Subscript a b pos) (tOp r ta tb):=by
 intro pins s σ H Q I h
 exact Subscript_ (zRi ha hb I h fun v u s2 x y H2 I2 rx ry q=>hr a b pins s2 σ H2 x y v u Q I2 rx ry q (hs _ _))
def zRl (K:PySem.W.Frag):R2:=fun x y H Q=>∃p xs i v,x = .ref p/\y = .int i/\SqL K H p xs/\atI xs i=some v/\Q v H
def zRb (K:PySem.W.Frag):R2:=fun x y H Q=>∃p xs i v,x = .ref p/\y = .int i/\SqT K H p xs/\atI xs i=some v/\Q v H
def zRe:R2:=fun x y H Q=>∃z i c,x = .str z/\y = .int i/\z.length<=sizeLine/\atI z.cps.toList i=some c/\Q (.str ⟨#[c]⟩) H
theorem zSQ:IxR X (zRl X.K):=by
 intro value slice pins s σ H x y v u Q I rx ry h hs
 obtain⟨p,xs,i,z,rfl,rfl,hq,he,q⟩:=h
 cases rx
 obtain⟨t,rfl⟩:=ry
 obtain⟨its,r,pl,hz⟩:=I.list hq
 obtain⟨j,h1,h2,h3,h4,h5⟩:=zZT he
 obtain⟨w,ew,rw'⟩:=r.get h2
 have hl:=r.length
 have hn:=iF
 have fin:EP X pins σ Q w s:=⟨z,H,I,rw',q⟩
 by_cases h0:0<=i
 · have hj:i.toNat=j:=by
     rw[seqIndex_of h0 h5] at h1
     exact Wb h1
   exact item_listR pl.isList h0 (by lia) (by rw[hj];simpa using ew) fin hs
 · have hj:(i+(its.toArray.size:Int)).toNat=j:=by
     rw[seqIndex_neg (by lia) h4] at h1
     rw[Qu,←hl]
     exact Wb h1
   exact subscriptTail_builtinR (x:=w) pl.isList.typeIs slot_list_getitem.lookup
     (wpAny_getItem_list_neg (Q:=fun r s'=>r=w/\EP X pins σ Q r s') pl.isList (by lia) (by rw[Qu]<;>lia) (by lia) (by rw[hj];simpa using ew) ⟨rfl,fin⟩) hs
theorem zRS:IxR X (zRb X.K):=by
 intro value slice pins s σ H x y v u Q I rx ry h hs
 obtain⟨p,xs,i,z,rfl,rfl,hq,he,q⟩:=h
 cases rx
 obtain⟨t,rfl⟩:=ry
 obtain⟨its,r,pl,hz⟩:=I.tuple hq
 obtain⟨j,h1,h2,h3,h4,h5⟩:=zZT he
 obtain⟨w,ew,rw'⟩:=r.get h2
 have hl:=r.length
 have hn:=iF
 have fin:EP X pins σ Q w s:=⟨z,H,I,rw',q⟩
 exact subscriptTail_builtinR (x:=w) pl.typeIs slot_tuple_getitem.lookup
   (getItem_tuple (j:=j) (Q:=fun r s'=>r=w/\EP X pins σ Q r s') pl (by lia) (by lia) (by rw[Qu,←hl];exact h1) (by simpa using ew) ⟨rfl,fin⟩) hs
theorem zRP:IxR X zRe:=by
 intro value slice pins s σ H x y v u Q I rx ry h hs
 obtain⟨z,i,c,rfl,rfl,hz,he,q⟩:=h
 obtain⟨t,rfl⟩:=rx
 obtain⟨t',rfl⟩:=ry
 obtain⟨j,h1,h2,h3,h4,h5⟩:=zZT he
 have hl:z.cps.toList.length=z.length:=by simp[Str.length]
 rw[hl] at h1 h4 h5
 have hn:=iF
 exact tail_any (typeIs_str s z t) slot_str_getitem.lookup (getItem_str (c:=c) (by
   have e1:decide (i < -(2^63:Int))=false:=Wq (by lia)
   have e2:decide (i≥2^63)=false:=Wq (by lia)
   rw[e1,e2,Bool.or_false]) (by rw[h1];simpa using h2) ⟨.str ⟨#[c]⟩,H,I.tok _,⟨_,rfl⟩,q⟩) hs
def rIx (K:PySem.W.Frag):R2:=fun x y H Q=>zRl K x y H Q∨zRb K x y H Q∨zRe x y H Q
theorem zRp:IxR X (rIx X.K):=zSQ.or (zRS.or zRP)
theorem zZB (lo hi:Option Int)(n:Nat):(sliceBounds lo hi none n).1=((HT.sIx n 0 lo:Nat):Int)/\(sliceBounds lo hi none n).2.1=((HT.sIx n n hi:Nat):Int)/\(sliceBounds lo hi none n).2.2=1:=by
 refine⟨?_,?_,rfl⟩
 · cases lo with
   | none=>simp[sliceBounds,HT.sIx]
   | some i =>
     simp only[sliceBounds,HT.sIx,Option.getD_none,show(1:Int) > 0 by decide,Uu]
     by_cases h:i < 0
     · simp only[h,Uu]<;>lia
     · simp only[h,Rk]<;>lia
 · cases hi with
   | none=>simp[sliceBounds,HT.sIx]
   | some i =>
     simp only[sliceBounds,HT.sIx,Option.getD_none,show(1:Int) > 0 by decide,Uu]
     by_cases h:i < 0
     · simp only[h,Uu]<;>lia
     · simp only[h,Rk]<;>lia
theorem cF (its:List Value)(lo hi:Option Int):slicePick its.toArray lo hi none=((its.drop (HT.sIx its.length 0 lo)).take (HT.sIx its.length its.length hi - HT.sIx its.length 0 lo)).toArray:=by
 obtain⟨h1,h2,h3⟩:=zZB lo hi its.toArray.size
 unfold slicePick
 rw[h1,h2,h3]
 simp only[sliceRange_one,pick_run,Qu]<;>rfl
def zQk (K:PySem.W.Frag):V->Option Int->Option Int->Hp->VK->Prop:=fun x lo hi H Q=>∃a xs,x = .ref a/\SqL K H a xs/\∀p,H p=none->Q (.ref p) (upd H p (.lst (zVZ xs lo hi)))
theorem zTC:SlR X (zQk X.K):=by
 intro pins s σ H x v vl vu lo hi sl Q I rx hs pl pu h
 obtain⟨a,xs,rfl,hx,q⟩:=h
 cases rx
 obtain⟨its,r,ht,hz⟩:=I.list hx
 have hlen:=r.length
 refine⟨"list",_,slot_list_getitem.lookup,ht.isList.typeIs,?_⟩
 refine wpAny_getItem_list_slice ht.isList hs pl pu .none (by simp) ?_ (by rw[Qu]<;>lia)
 rw[cF,←hlen]
 refine⟨.ref s.heap.objs.size,_,I.laid (t':=s.toks) (o:=.lst (zVZ xs lo hi)) (fun b ob q=>Qi _ q) (Qd _) ?_,rfl,q _ (I.hok.fresh (Qd _))⟩
 exact⟨Wa (zYs xs lo hi) hz,_,0,(r.drop (HT.sIx xs.length 0 lo)).take (HT.sIx xs.length xs.length hi - HT.sIx xs.length 0 lo),Wr _ rfl⟩
theorem jZ:CallR X (.builtin "len") (fun xs H Q=>∃p ys,xs=[.ref p]/\(SqL X.K H p ys∨SqT X.K H p ys)/\Q (.int ys.length) H):=by
 intro pins s σ H xs us Q I r h
 obtain⟨p,ys,rfl,hq,q⟩:=h
 obtain⟨u,rfl,rx⟩:=gI r
 cases rx
 have hn:=iF
 rcases hq with hq | hq
 · obtain⟨its,r',pl,hz⟩:=I.list hq
   have hlen:=r'.length
   exact Calls.call_len_list pl.isList (by simp only[Qu]<;>lia) ⟨.int ys.length,H,I.tok _,⟨s.toks+1,by rw[Qu,hlen]⟩,q⟩
 · obtain⟨its,r',pl,hz⟩:=I.tuple hq
   have hlen:=r'.length
   exact len_tuple pl (by simp only[Qu]<;>lia) ⟨.int ys.length,H,I.tok _,⟨s.toks+1,by rw[Qu,hlen]⟩,q⟩
theorem zZI:CallR X (.builtin "len") (fun xs H Q=>∃z,xs=[.str z]/\z.length<=sizeLine/\Q (.int z.length) H):=by
 intro pins s σ H xs us Q I r h
 obtain⟨z,rfl,hz,q⟩:=h
 obtain⟨u,rfl,t,rfl⟩:=gI r
 have hn:=iF
 exact len_str (by lia) ⟨.int z.length,H,I.tok _,⟨_,rfl⟩,q⟩
theorem CallR.or {f:Value}{r r':List V->Hp->VK->Prop}(h:CallR X f r)(h':CallR X f r'):CallR X f (fun xs H Q=>r xs H Q∨r' xs H Q):=by
 intro pins s σ H xs us Q I rs q
 rcases q with q | q
 · exact h pins s σ H xs us Q I rs q
 · exact h' pins s σ H xs us Q I rs q
theorem aK:CallR X (.type "list") (fun xs H Q=>∃p ys,xs=[.ref p]/\(SqL X.K H p ys∨SqT X.K H p ys)/\∀l,H l=none->Q (.ref l) (upd H l (.lst ys))):=by
 intro pins s σ H xs us Q I r h
 obtain⟨p,ys,rfl,hq,q⟩:=h
 obtain⟨u,rfl,rx⟩:=gI r
 cases rx
 have fin:∀(its:List Value),Vals ys its->ys.length<=sizeLine->∀(h':Heap) (c':Nat),(∀b o',s.heap.get? b=some o'->h'.get? b=some o') ->
     h'.get? s.heap.objs.size=some { cls:=.type "list",dict:=none,data:=.seq its.toArray c',slots:=#[] }->EP X pins σ Q (.ref s.heap.objs.size) { s with heap:=h' }:=fun its r' hz h' c' kp e =>
   ⟨.ref s.heap.objs.size,_,I.laid (t':=s.toks) kp (Qd _) (show ObjOk X.prog X.w _ h' _ (.lst ys) from⟨hz,its,c',r',e⟩),rfl,q _ (I.hok.fresh (Qd _))⟩
 rcases hq with hq | hq
 · obtain⟨its,r',pl,hz⟩:=I.list hq
   have hlen:=r'.length
   obtain⟨o,ho,hc,n,hd⟩:=pl.isList
   exact call_list_seq p (.inl rfl) ho hc hd (fun h' c' kp e=>fin its r' hz h' c' kp e) (by simp only[Qu]<;>lia)
 · obtain⟨its,r',pl,hz⟩:=I.tuple hq
   have hlen:=r'.length
   obtain⟨o,ho,hc,n,hd⟩:=pl
   exact call_list_seq p (.inr rfl) ho hc hd (fun h' c' kp e=>fin its r' hz h' c' kp e) (by simp only[Qu]<;>lia)
def tyV (K:PySem.W.Frag)(T:String)(x:V)(H:Hp):Prop:=match x with
 | .str _=>T="str"
 | .int _=>T="int"
 | .ref p=>(T="list"/\∃xs,SqL K H p xs)∨(T="tuple"/\∃o,K.lookup p=some o/\o.cls = .type "tuple"/\o.dict=none) ∨
     (T="dict"/\((∃kvs,H p=some (.dK kvs))∨∃kvs,H p=some (.dT kvs)))∨(T="set"/\∃S n,H p=some (.set S n))
 | _=>False
theorem zS1 {pins:List (Addr×Obj)}{σ:St}{H:Hp}{s:Shared}{T:String}{x:V}{v:Value}(I:Inv X pins σ H s)(r:RelV x v)(ty:tyV X.K T x H) :
   s.TypeIs v T/\∀a,v = .ref a->∃ob,s.heap.get? a=some ob/\ob.dict=none:=by
 cases x with
 | str z =>
   obtain⟨t,rfl⟩:=r
   cases (show T="str" from ty)
   exact⟨typeIs_str s z t,fun _ e=>nomatch e⟩
 | int i =>
   obtain⟨t,rfl⟩:=r
   cases (show T="int" from ty)
   exact⟨typeIs_int s i t,fun _ e=>nomatch e⟩
 | ref p =>
   cases r
   rcases ty with⟨rfl,xs,hq⟩ | ⟨rfl,o,hk,hc,hd⟩ | ⟨rfl,hk⟩ | ⟨rfl,S,n,hk⟩
   · obtain⟨its,_,pl,_⟩:=I.list hq
     refine⟨pl.isList.typeIs,fun a e=>?_⟩
     cases e
     obtain⟨o,n,e,c,hd,_⟩:=pl
     exact⟨o,e,hd⟩
   · refine⟨⟨o,I.kIn p o hk,hc⟩,fun a e=>?_⟩
     cases e
     exact⟨o,I.kIn _ o hk,hd⟩
   · have z:∃o,s.heap.get? p=some o/\o.ExactDict:=by
       rcases hk with⟨kvs,hk⟩ | ⟨kvs,hk⟩
       · obtain⟨_,_,_,_,o,_,_,e,ex,_⟩:=I.hok p _ hk
         exact⟨o,e,ex⟩
       · obtain⟨_,_,_,_,o,_,_,e,ex,_⟩:=I.hok p _ hk
         exact⟨o,e,ex⟩
     obtain⟨o,e,ex⟩:=z
     refine⟨⟨o,e,ex.1⟩,fun a e2=>?_⟩
     cases e2
     exact⟨o,e,ex.2.1⟩
   · obtain⟨o,_,_,_,e,ex,_⟩:=I.hok p _ hk
     refine⟨⟨o,e,ex.1⟩,fun a e2=>?_⟩
     cases e2
     exact⟨o,e,ex.2.1⟩
 | _=>exact False.elim ty
def tBM (K:PySem.W.Frag)(T:String)(r:V->List V->Hp->VK->Prop)(to:TE)(t:TA):TE:=fun σ H Q=>to σ H fun x H1=>tyV K T x H1/\t σ H1 fun xs H2=>r x xs H2 Q
variable {o e:Expr} {es:List Expr} {to:TE} {t:TA} {name:Str} {apos cpos:Pos} {T id:String} {r:V->List V->Hp->VK->Prop}
theorem aR (pa:PlainAttrs T)(slot:Slot T name id)(hty:typeOf (.builtin id)=pure (.type "method_descriptor"))(hm:MtR X id r)(ho:PE X o to)(ha:PA X (e::es) t)
   (hbase:attributeBase o name X.env (eval o X.env)=eval o X.env:=by rfl)
   (hfew:((backTo cpos (starEach (e::es) X.env)).all (fun x => !x.1)&&(backToKw cpos (keywordEach [] X.env)).all (fun x=>x.1.isSome)
     && decide ((e::es).length+([]:List Keyword).length+(if ([]:List Keyword).isEmpty then 0 else 1) < 30))=true:=by rfl)
   (hline:(apos.endLine==cpos.line)=true:=by rfl) (hs:starEach (e::es) X.env=(false,eval e X.env)::starEach es X.env:=by rfl) (hplain:(backTo cpos (starEach es X.env)).any (·.1)=false:=by rfl) :
   PE X (.Call (.Attribute o name apos) (e::es) [] cpos) (tBM X.K T r to t):=by
 intro pins s σ H Q I h
 refine wpAny_Call_method_late hbase hfew hline rfl (thn (ho pins s σ H _ I h) fun v s1 ⟨x,H1,I1,r1,ty,q1⟩=>?_)
 obtain⟨h1,h2⟩:=zS1 I1 r1 ty
 refine⟨T,id,pa,slot,hty,h1,h2,?_⟩
 have hA:=ha cpos pins s1 σ H1 _ I1 q1
 rw[hs] at hA ⊢
 refine Calls.callWith_builtin (by show(false||(backTo cpos (starEach es X.env)).any (·.1))=false;rw[hplain]<;>rfl) (Calls.evalArgs_plain ?_)
 exact thn hA fun us s2 ⟨vs,H2,I2,r2,q2⟩=>hm pins s2 σ H2 x vs v us Q I2 r1 r2 q2
end
def MtM (X:Cx)(id:String)(r:V->List V->Hp->VK->Prop):Prop :=
 ∀(pins:List (Addr×Obj)) (s:Shared) (σ:St) (H:Hp) (x:V) (xs:List V) (v:Value) (us:List Value) (Q:VK),Inv X pins σ H s->RelV x v->Vals xs us->r x xs H Q ->
   wpAny (model X.prog X.w) X.A (call (.builtin id) (v::us)) (EP X pins σ Q) X.xe s
theorem Vals.one:∀ {x:V} {us:List Value},Vals [x] us->∃u,us=[u]/\RelV x u
 | _,_,.cons r .nil=>⟨_,rfl,r⟩
theorem Vals.eraseIdx:∀ {xs:List V} {us:List Value} (i:Nat),Vals xs us->Vals (xs.eraseIdx i) (us.eraseIdx i)
 | _,_,_,.nil=>.nil
 | _,_,0,.cons _ t=>t
 | _,_,i+1,.cons r t=>.cons r (Vals.eraseIdx i t)
theorem Vals.reverse {xs:List V}{us:List Value}(h:Vals xs us):Vals xs.reverse us.reverse:=by
 induction h with
 | nil=>exact .nil
 | cons r t ih=>rw[Th,Th];exact Vals.append ih (.cons r .nil)
theorem bR {α:Type}:∀(l:List α) (i:Nat),(l.eraseIdx i).length<=l.length
 | [],_=>Qd _
 | _::_,0=>Rf _
 | _::r,i+1=>Nat.succ_le_succ (bR r i)
section
variable {X:Cx} {pins:List (Addr×Obj)} {σ:St} {H:Hp} {s:Shared} {l:Addr} {xs ys:List V}
theorem Inv.lset {its its':List Value}{n:Nat}{f:Array Value->Array Value}{t':Nat}(I:Inv X pins σ H s)(hH:H l=some (.lst xs))
   (e:s.heap.get? l=some { cls:=.type "list",data:=.seq its.toArray n }) (hf:f its.toArray=its'.toArray) (hv:Vals ys its') (hz:ys.length<=sizeLine) :
   Inv X pins σ (upd H l (.lst ys)) { s with heap:=s.heap.update l (Obj.mapSeq f),toks:=t' }:=by
 have q:=PySem.IsL.update e f
 rw[hf] at q
 refine I.write (x:=l) (e:=l) (by rw[hH];exact trivial) (.inl rfl) (fun b' u hb hu=>(Ed s.heap (Obj.mapSeq f) (Ne.symm hb)).trans hu) ⟨_,q⟩ ?_
 exact⟨hz,its',_,hv,q⟩
theorem Inv.lnew {its:List Value}{t':Nat}(I:Inv X pins σ H s)(hv:Vals ys its)(hz:ys.length<=sizeLine) :
   Inv X pins σ (upd H s.heap.objs.size (.lst ys)) { s with heap:=s.heap.push { cls:=.type "list",data:=.seq its.toArray },toks:=t' } :=
 I.laid (fun _ _ q=>Qi _ q) (Qd _) ⟨hz,its,0,hv,Wr _ rfl⟩
theorem Inv.fresh (I:Inv X pins σ H s):H s.heap.objs.size=none:=I.hok.fresh (Qd _)
theorem Inv.lstM (I:Inv X pins σ H s)(hH:H l=some (.lst xs)):xs.length<=sizeLine/\∃(its:List Value) (n:Nat),Vals xs its/\xs.length=its.length/\s.heap.get? l=some { cls:=.type "list",data:=.seq its.toArray n }:=by
 obtain⟨z,its,n,r,e⟩:=I.hok l _ hH
 exact⟨z,its,n,r,r.length,e⟩
theorem zYP {n:Nat}(h:n<=sizeLine):Builtin.List.listTooLong n=false:=by
 unfold Builtin.List.listTooLong
 exact Wq (by lia)
def zWz:V->List V->Hp->VK->Prop:=fun x vs H Q=>∃l xs y,x = .ref l/\vs=[y]/\H l=some (.lst xs)/\xs.length < sizeLine/\Q .non (upd H l (.lst (xs++[y])))
theorem mM:MtM X "list.append" zWz:=by
 intro pins s σ H x vs v us Q I rx rv h
 obtain⟨l,xs,y,rfl,rfl,hH,hz,q⟩:=h
 cases rx
 obtain⟨u,rfl,ru⟩:=rv.one
 obtain⟨z,its,n,r,hl,e⟩:=I.lstM hH
 refine call_meets F.slot_list_append ⟨_,e,rfl⟩ F.entry_list_append (F.args_list_append_2 _ _) (PySem.list_append l its.toArray n u (by rw[Qu];lia)) ⟨e,?_⟩
 refine⟨.non,_,I.lset (its':=its++[u]) hH e (by simp) (r.append (.cons ru .nil)) ?_,rfl,q⟩
 rw[Qe,List.length_singleton]
 lia
def zW4:V->List V->Hp->VK->Prop:=fun x vs H Q=>∃l b xs zs,x = .ref l/\vs=[.ref b]/\H l=some (.lst xs)/\H b=some (.lst zs)/\xs.length+zs.length<=sizeLine/\Q .non (upd H l (.lst (xs++zs)))
theorem zVC:MtM X "list.extend" zW4:=by
 intro pins s σ H x vs v us Q I rx rv h
 obtain⟨l,b,xs,zs,rfl,rfl,hH,hB,hz,q⟩:=h
 cases rx
 obtain⟨u,rfl,ru⟩:=rv.one
 cases ru
 obtain⟨z,its,n,r,hl,e⟩:=I.lstM hH
 obtain⟨z2,its2,n2,r2,hl2,e2⟩:=I.lstM hB
 have hsz:its.toArray.size+its2.toArray.size<=sizeLine:=by rw[Qu,Qu];lia
 have hlong:¬(!its.toArray.isEmpty&&Builtin.List.listTooLong (its.toArray.size+its2.toArray.size))=true:=by
   rw[zYP hsz,Bool.and_false]
   exact Wu
 refine call_meets F.slot_list_extend ⟨_,e,rfl⟩ F.entry_list_extend (F.args_list_extend_2 _ _)
   (AutoSeq1.list_extend_list_list_0 l its.toArray n b its2.toArray n2 hlong (by rw[Qu];lia) (by lia)) ⟨e,e2,?_⟩
 refine⟨.non,_,I.lset (its':=its++its2) hH e (by simp) (r.append r2) ?_,rfl,q⟩
 rw[Qe]
 lia
def zVc:V->List V->Hp->VK->Prop:=fun x vs H Q=>∃l xs i k y,x = .ref l/\vs=[.int i]/\H l=some (.lst xs) /\ -(2^63)<=i/\i < 2^63/\seqIndex? i xs.length=some k/\xs[k]?=some y/\Q y (upd H l (.lst (xs.eraseIdx k)))
theorem zUE:MtM X "list.pop" zVc:=by
 intro pins s σ H x vs v us Q I rx rv h
 obtain⟨l,xs,i,k,y,rfl,rfl,hH,h1,h2,hk,hy,q⟩:=h
 cases rx
 obtain⟨u,rfl,ru⟩:=rv.one
 obtain⟨t,rfl⟩:=ru
 obtain⟨z,its,n,r,hl,e⟩:=I.lstM hH
 obtain⟨w,hw,rw'⟩:=r.get hy
 refine call_meets F.slot_list_pop ⟨_,e,rfl⟩ F.entry_list_pop (F.args_list_pop_2 _ _)
   (MeetsSeq.list_pop_at l its.toArray n i t k w (fitsIndex_both h1 h2) (by rw[Qu,←hl];exact hk) (by rw[←Ui];exact hw) (by rw[Qu];lia)) ⟨e,?_⟩
 refine⟨y,_,I.lset (its':=its.eraseIdx k) hH e ?_ (r.eraseIdx k) ?_,rw',q⟩
 · show its.toArray.eraseIdxIfInBounds k=(its.eraseIdx k).toArray
   rw[List.eraseIdxIfInBounds_toArray]
 · have:=bR xs k
   lia
def zQj:R2:=fun x y H Q=>∃l b xs zs,x = .ref l/\y = .ref b/\H l=some (.lst xs)/\H b=some (.lst zs)/\xs.length+zs.length<=sizeLine/\∀p,H p=none->Q (.ref p) (upd H p (.lst (xs++zs)))
theorem zSa:OpR X (binaryOp .Add) zQj:=by
 intro pins s σ H x y v u Q I rx ry h
 obtain⟨l,b,xs,zs,rfl,rfl,hH,hB,hz,q⟩:=h
 cases rx
 cases ry
 obtain⟨z,its,n,r,hl,e⟩:=I.lstM hH
 obtain⟨z2,its2,n2,r2,hl2,e2⟩:=I.lstM hB
 refine PySem.P.add_list e e2 ?_ (by rw[Qu,Qu];lia)
 have ea:its.toArray++its2.toArray=(its++its2).toArray:=by simp
 rw[ea]
 exact⟨.ref _,_,I.lnew (t':=s.toks) (r.append r2) (by rw[Qe];lia),rfl,q _ I.fresh⟩
end
end L2
namespace Att
open PySem PySem.W PySem.Calls PyProof.Rows
theorem gF {P:Params}{h:Heap}:∀(ns:List Int) (vs:List Value),WellAll P h vs (ns.map WData.int)->IntsAre vs ns:=by
 intro ns
 induction ns with
 | nil =>
   intro vs w
   rw[List.map_nil] at w
   cases w
   exact .nil
 | cons n ns ih =>
   intro vs w
   rw[Wo] at w
   cases w with
   | cons a b =>
     cases a
     exact .cons _ _ (ih _ b)
theorem zVF {l:OpenLaw}{n:Nat}(hn:l.most=some n){P:Params}{h:Heap}{args:List WData}{vals:List Value}
   (hpre:l.row.toRowW.claim.pre args=true) (hwl:WellAll P h vals args) :
   ∃a vs ns,vals=[Value.ref a]/\args=[WData.list (ns.map WData.int)]/\h.get? a=some { cls:=.type "list",data:=.seq vs.toArray }/\IntsAre vs ns/\ns.length<=n:=by
 have hsh:WShape.hasAll [] args [.list .int]=true:=(pre_splitW hpre).1
 have hc:l.pre.holds [] { args:=args }=true:=(pre_splitW hpre).2
 obtain⟨d,r,rfl,h1,h2⟩:=hasAllW_cons hsh
 obtain rfl:=hasAllW_nil h2
 obtain⟨xs,rfl,h3⟩:=hasW_list h1
 obtain⟨ns,rfl⟩:=items_int h3
 have hlen:ns.length<=n:=by
   unfold OpenLaw.pre at hc
   have h4:(WTm.not (.lt (.lit (.int (n:Int))) (.len (.arg 0)))).holds [] { args:=[.list (ns.map .int)] }=true:=by
     have h4:=(holds_andW hc).1
     rw[hn] at h4
     exact h4
   have h5:=condW_of h4 (w_not (w_lt w_lit (w_len_list (w_arg rfl))))
   rw[Qt] at h5
   refine Nat.le_of_not_lt fun q=>?_
   have q':(n:Int) < ((ns.length:Nat):Int):=by lia
   first
     | (rw[We q'] at h5;exact absurd h5 (by decide))
     | (simp at h5;lia)
 cases hwl with
 | cons w1 w2 =>
   cases w2
   cases w1 with
   | list ho hall=>exact⟨_,_,ns,rfl,rfl,ho,gF ns _ hall,hlen⟩
theorem zWg (l:OpenLaw)(args:List WData):l.row.toRowW.claim.post args (.bool true) args=true :=
 postW_of (r:=l.row.toRowW) (X:=(true==true))
   (show WShape.has [] (.bool true) .bool=true by first | rfl | decide | simp[WShape.has,WShape.arms,WShape.armsAll])
   (show(WTm.eq .res (.lit (.bool true))).value [] { args:=args,res:=some (.bool true),after:=args }=some (.bool (true==true)) from w_eq_bool (w_res rfl) w_lit) rfl
theorem attach_call {l:OpenLaw}{n:Nat}{q:Program}{loose:List Str}{XP:(Str->Option Value)->Heap->Prop}{YP:World->Heap->Prop}{d:DefRec}
   (hn:l.most=some n) (hdf:d.params.defaults=[])
   (call:∀(w:World) (s₀ s₁:Shared) (mg mb:Str->Option Value) (fa:Addr) (o:Obj) (pm cd doc:Value) (a:Addr) (vs:List Value) (ns:List Int),
     Ground q loose [] XP w s₀ mg mb s₁.heap->YP w s₁.heap ->
     s₁.heap.get? fa=some o->o.data = .func (docDef d.name d.params d.body d.scope pm cd doc)->s₁.heap.CodeRec cd d.name->mg d.name=some (.ref fa) ->
     s₁.heap.get? a=some { cls:=.type "list",data:=.seq vs.toArray }->IntsAre vs ns->ns.length<=n->s₁.gens=#[] ->
     codeAny (model l.prog w) callerA (.call (.ref fa) ⟨[.ref a],[]⟩) (fun r s'=>r = .ok (.ret (.bool true))/\OldK s₁.heap s'.heap/\s'.os=s₁.os/\AllBare s'.gens) s₁) :
   WalkO q loose XP YP l.row.toRowW d [] (fun f vs=>PySem.call f vs):=by
 intro w s₀ s₁ mg mb G Y fa o pm cd doc dV kV ho hd hcd hD hmg hg args vals as hpre hlay hrd hwl hlo
 obtain rfl:dV = .none:=Dflts.none hD hdf
 obtain rfl:kV = .none:=Dflts.noKw hD
 obtain⟨a,vs,ns,rfl,rfl,hobj,hints,hlen⟩:=zVF hn hpre hwl
 refine enter_call (Ut (call w s₀ s₁ mg mb fa o pm cd doc a vs ns G Y ho (fd_plain hd) hcd hmg hobj hints hlen hg) fun r s' hq=>?_)
 obtain⟨rfl,h2,h3,h4⟩:=hq
 exact⟨.inl ⟨.bool true,.bool true,[],rfl,fun _=>rfl,.bool true,zWg l _,fun _=>⟨List.Pairwise.nil,fun _ hm=>(nomatch hm)⟩⟩,h2,h3,h4⟩
end Att
namespace L2
open PySem PySem.Spec PyProof.Rows
theorem bH:∀ {vs:List Value} {ns:List Int},IntsAre vs ns->Vals (ns.map V.int) vs
 | _,_,.nil=>.nil
 | _,_,.cons n t h=>.cons ⟨t,rfl⟩ (bH h)
def zR5 (H:Hp):Prop:=∀b,H b=none∨∃o xs,H b=some (.frz o (.lst xs))
theorem zUb {P:Program}{w:World}{K:PySem.W.Frag}{mg mb:Str->Option Value}{CX:CXT}{k:Nat}{fa a:Addr}{fd:FuncData}{x:Str}{sp:Sp}{s₁:Shared}{vs:List Value}{ns:List Int}
   (KX:K.In s₁.heap) (hns:s₁.heap.Ns mainGlobals mg) (hb:s₁.heap.Ns builtinsNs mb) (hbb:∀x:Str,x≠"__name__"->mb x=bootBuiltins x) (hlim:s₁.heap.NoLimit) (hg:s₁.gens=#[])
   (ha:s₁.heap.get? a=some { cls:=.type "list",data:=.seq vs.toArray }) (hi:IntsAre vs ns) (hl:ns.length<=sizeLine) (hr:Room k callerA)
   (F:∀base:Heap,K.In base->base.Ns mainGlobals mg->FnOk P w K mg base CX k fa fd [x] sp) (hbind:∀(s:Shared) (u:Value),BindsTo s fd ⟨[u],[]⟩ [(x,u)])
   (hsp:∀H:Hp,zR5 H->SqL K H a (ns.map V.int)->sp [.ref a] H (fun v _=>v = .bl true) fun _ _ _=>False)
   (hCX:∀H e s',CX [] H s₁ (fun _ _ _=>False) e s'->False) :
   codeAny (model P w) callerA (.call (.ref fa) ⟨[.ref a],[]⟩) (fun r s'=>r = .ok (.ret (.bool true))/\OldK s₁.heap s'.heap/\s'.os=s₁.os/\AllBare s'.gens) s₁:=by
 have rv:=bH hi
 have lenV:=hi.length
 -- from an abstract heap in which nothing but the script may be tracked
 have core:∀H:Hp,zR5 H->SqL K H a (ns.map V.int)->HOk P w H s₁.heap->(∀b,H b≠none->b=a)->(H a≠none->K.lookup a=none) ->
     codeAny (model P w) callerA (.call (.ref fa) ⟨[.ref a],[]⟩) (fun r s'=>r = .ok (.ret (.bool true))/\OldK s₁.heap s'.heap/\s'.os=s₁.os/\AllBare s'.gens) s₁:=by
   intro H hO hS hok hA hK
   have base_of:∀ {b:Addr} {o:Obj},s₁.heap.get? b=some o->H b=none->(zZx s₁.heap H).get? b=some o:=fun e n=>zUa e n
   have noA:∀ {b:Addr} {o:Obj} {es:Array DictEntry} {ep:Nat},s₁.heap.get? b=some o->o.data = .dict es ep->H b=none:=fun {b o es ep} e d=>by
     cases q:H b with
     | none=>rfl
     | some u =>
       have e':b=a:=hA b (by rw[q];simp)
       subst e'
       rw[ha] at e;cases e
       have d':Data.seq vs.toArray _=Data.dict es ep:=d
       cases d'
   have nsK:∀ {b:Addr} {m:Str->Option Value},s₁.heap.Ns b m->(zZx s₁.heap H).Ns b m:=fun {b m} ⟨o,es,ep,e,d,r⟩=>⟨o,es,ep,base_of e (noA e d),d,r⟩
   have hKb:K.In (zZx s₁.heap H):=fun b o e=>base_of (KX b o e) (by
     cases q:H b with
     | none=>rfl
     | some u =>
       have e':b=a:=hA b (by rw[q];simp)
       subst e'
       rw[hK (by rw[q];simp)] at e;cases e)
   have hM:Mod K mg (zZx s₁.heap H):=⟨hKb,nsK hns,⟨mb,nsK hb,hbb⟩,let ⟨mc,h1,h2⟩:=hlim;⟨mc,nsK h1,h2⟩⟩
   have e0:Env0 P w K mg (zZx s₁.heap H) callerA [] s₁ H:=⟨rfl,hM,fun b o e=>zSX e,Ur (zWc _ _),trivial,fun b hb=>absurd (show b∈([]:List Addr) from hb) (by simp),hok,.of_eq hg⟩
   refine Ut ((F _ hKb (nsK hns)).run callerA [] s₁ H ⟨[.ref a],[]⟩ [.ref a] [.ref a] _ _ hr e0 (hbind s₁ (.ref a)) (.cons rfl .nil) (hsp H hO hS)) fun r s' h=>?_
   cases r with
   | error e=>exact(hCX H e s' h).elim
   | ok fl =>
     cases fl with
     | next=>exact False.elim h
     | brk=>exact False.elim h
     | cont=>exact False.elim h
     | ret u =>
       obtain⟨v,H',os,bare,un,hok',r',q⟩:=h
       have q':v = .bl true:=q
       subst q'
       obtain rfl:u=Value.bool true:=r'
       refine⟨rfl,OldK.of_keep fun b o e=>?_,os,bare⟩
       cases q:H b with
       | none=>exact un.keep b o e q (by intro z;exact absurd (show b∈([]:List Addr) from z) (by simp)) (by simp)
       | some u =>
         rcases hO b with z | ⟨ob,xs,z⟩
         · rw[q] at z;cases z
         · have z2:=un.frzs b ob _ z
           obtain⟨e1,_⟩:=hok b _ z
           obtain⟨e2,_⟩:=hok' b _ z2
           rw[e] at e1;cases e1
           exact e2
 cases hk:K.lookup a with
 | some o =>
   -- the script is one of the module's own objects
   have e:=KX a o hk
   rw[ha] at e
   cases e
   refine core (fun _=>none) (fun _=>.inl rfl) (.inr ⟨_,vs.toArray,_,hk,rfl,rfl,rfl,by rw[Qu,lenV];exact hl,by simpa using rv⟩) (fun b u z=>by have z':(none:Option HO)=some u:=z;cases z') (fun b z=>absurd rfl z) fun z=>absurd rfl z
 | none =>
   refine core (fun b=>if b=a then some (.frz { cls:=.type "list",data:=.seq vs.toArray } (.lst (ns.map V.int))) else none) (fun b=>?_) (.inl (.inr ⟨{ cls:=.type "list",data:=.seq vs.toArray },Qo rfl⟩)) (fun b u z=>?_) (fun b z=>?_) fun _=>hk
   · by_cases hb:b=a
     · exact .inr ⟨_,_,Qo hb⟩
     · exact .inl (Qs hb)
   · by_cases hb:b=a
     · have z':=(Qo hb).symm.trans z
       cases z'
       subst hb
       exact⟨ha,by rw[Qt];exact hl,vs,_,rv,ha⟩
     · have z':=(Qs hb).symm.trans z
       cases z'
   · by_cases hb:b=a
     · exact hb
     · exact absurd (Qs hb) z
theorem zTE {l:PySem.W.OpenLaw}{n k:Nat}{q:Program}{loose:List Str}{XP:(Str->Option Value)->Heap->Prop}{YP:World->Heap->Prop}{d:DefRec}{K:Params->PySem.W.Frag}{CX:World->CXT}{sp:World->Sp}{x:Str}
   (hn:l.most=some n) (hn2:n<=sizeLine) (hdf:d.params.defaults=[]) (hr:Room k callerA)
   (hY:∀(w:World) (h:Heap),YP w h->(K w.params).In h)
   (F:∀(w:World) (mg:Str->Option Value) (fa:Addr) (h:Heap),(K w.params).In h->h.Ns mainGlobals mg->mg d.name=some (.ref fa) ->
     ∃fd:FuncData,(∀(s:Shared) (u:Value),BindsTo s fd ⟨[u],[]⟩ [(x,u)]) /\
       ∀base:Heap,(K w.params).In base->base.Ns mainGlobals mg->FnOk l.prog w (K w.params) mg base (CX w) k fa fd [x] (sp w))
   (hsp:∀(w:World) (H:Hp) (a:Addr) (ns:List Int),ns.length<=n->zR5 H->SqL (K w.params) H a (ns.map V.int)->sp w [.ref a] H (fun v _=>v = .bl true) fun _ _ _=>False)
   (hCX:∀(w:World) (H:Hp) (s:Shared) (e:Value) (s':Shared),CX w [] H s (fun _ _ _=>False) e s'->False) :
   PySem.W.WalkO q loose XP YP l.row.toRowW d [] (fun f vs=>PySem.call f vs):=by
 refine Att.attach_call hn hdf fun w s₀ s₁ mg mb fa o pm cd doc a vs ns G Y ho hd hcd hmg hobj hints hlen hg=>?_
 have KX:=hY w _ Y
 obtain⟨fd,hb,hF⟩:=F w mg fa _ KX G.T.g hmg
 exact zUb KX G.T.g G.T.b G.T.builtins G.T.nolimit hg hobj hints (Wa hlen hn2) hr hF hb (fun H hO hS=>hsp w H a ns hlen hO hS) fun H e s'=>hCX w H s₁ e s'
abbrev CX0:CXT:=fun _ _ _ _ _ _=>False
abbrev E0:XK:=fun _ _ _=>False
theorem gU {X:Cx}:kR CX0 X E0:=fun _ _ _ _ _ _ _ h=>h.elim
structure Fun (K:PySem.W.Frag)(x qual:Str)(st:Stmt)(f:Addr)(fd:FuncData):Prop where
 ex:∃(oc:Value) (od:Option Addr) (kV doc pm:Value) (an:Option Addr) (cdv ct:Value) (osl:Array (Option Value)),
   fd=PySem.W.fnOf x qual (wK st) (yH st) (zU st) .none kV doc pm an cdv ct/\K.lookup f=some ⟨oc,od,.func fd,osl⟩/\PySem.W.codeIn K cdv qual=true
 kp:PySem.W.keepIn K (.ref f)=true
section
variable {P:Program} {w:World} {K:PySem.W.Frag} {mg:Str->Option Value} {base:Heap}
theorem Fun.ok {x qual:Str}{st:Stmt}{f:Addr}{fd:FuncData}{N ps:List Str}{k:Nat}{sp:Sp}(F:Fun K x qual st f fd)(S:FnScope N ps (zU st))(len:∀vs H Q E,sp vs H Q E->vs.length=ps.length)
   (hbody:∀(cdv:Value) (A:Around) (outer:List Env) (s:Shared) (H:Hp) (vs:List V) (Q:VK) (E:XK),Room k (A.deeper (envOfC qual (zU st) s.heap.objs.size f cdv))->sp vs H Q E ->
     ∃t,PSs (iW CX0 P w K mg base N qual (zU st) f cdv A outer s H E).nox (yH st) t/\t { nx:=fun _ H'=>Q .non H',rt:=Q } (uW N vs) H):FnOk P w K mg base CX0 (k+1) f fd ps sp:=by
 obtain⟨oc,od,kV,doc,pm,an,cdv,ct,osl,rfl,lk,hcd⟩:=F.ex
 refine zRf lk hcd S len fun A outer s H vs Q E hr hsp=>?_
 obtain⟨t,h,q⟩:=hbody cdv A outer s H vs Q E hr hsp
 exact⟨t,h.nox,q⟩
theorem Fun.binds {x qual:Str}{st:Stmt}{f:Addr}{fd:FuncData}{ps:List Str}(F:Fun K x qual st f fd)
   (h:∀(kV doc pm:Value) (an:Option Addr) (cdv ct:Value) (us:List Value),us.length=ps.length->bindArgs (PySem.W.fnOf x qual (wK st) (yH st) (zU st) .none kV doc pm an cdv ct) ⟨us,[]⟩=pure (ps.zip us)):Binds K fd ps []:=by
 obtain⟨oc,od,kV,doc,pm,an,cdv,ct,osl,rfl,lk,hcd⟩:=F.ex
 exact .all (h kV doc pm an cdv ct)
theorem nN {x qual:Str}{st:Stmt}{f:Addr}{oc:Value}{od an:Option Addr}{osl:Array (Option Value)}{kV doc pm cdv ct:Value}(l:K.lookup f=some ⟨oc,od,.func (PySem.W.fnOf x qual (wK st) (yH st) (zU st) .none kV doc pm an cdv ct),osl⟩)
   (c:PySem.W.codeIn K cdv qual=true) (k:PySem.W.keepIn K (.ref f)=true):Fun K x qual st f (PySem.W.fnOf x qual (wK st) (yH st) (zU st) .none kV doc pm an cdv ct):=⟨⟨oc,od,kV,doc,pm,an,cdv,ct,osl,rfl,l,c⟩,k⟩
variable {X:Cx}
theorem pv (i:Nat){x:Str}{pos:Pos}(hN:X.N[i]?=some x:=by rfl)(hv:Vis X.env.scope x:=by first | exact Or.inl rfl | exact Or.inr (Or.inl rfl) | exact Or.inr (Or.inr rfl))(hd:(x==("__debug__":Str))=false:=by decide)
   (hcd:(x==("__classdict__":Str))=false:=by decide):PE X (.Name x pos) (zWr i):=oP hN hv hd hcd
end
def Same (H H':Hp):Prop:=∀b o,H b=some o->H' b=some o
theorem Same.refl (H:Hp):Same H H:=fun _ _ h=>h
theorem Same.trans {H H1 H2:Hp}(a:Same H H1)(b:Same H1 H2):Same H H2:=fun c o h=>b c o (a c o h)
theorem Same.free {H H':Hp}(e:Same H H'){l:Addr}(h:H' l=Option.none):H l=Option.none:=by
 cases q:H l with
 | none=>rfl
 | some o =>
   rw[e l o q] at h
   cases h
theorem Same.seq {K:PySem.W.Frag}{H H':Hp}{a:Addr}{xs:List V}(e:Same H H')(h:SqL K H a xs):SqL K H' a xs:=by
 rcases h with(h | ⟨o,h⟩) | h
 · exact .inl (.inl (e _ _ h))
 · exact .inl (.inr ⟨o,e _ _ h⟩)
 · exact .inr h
structure M1 (X:Cx)(o:Expr)(m:Str)(apos:Pos)(e:Expr)(cpos:Pos):Prop where
 base:attributeBase o m X.env (eval o X.env)=eval o X.env
 few:((backTo cpos (starEach [e] X.env)).all (fun x => !x.1)&&(backToKw cpos (keywordEach [] X.env)).all (fun x=>x.1.isSome)
   && decide (([e]:List Expr).length+([]:List Keyword).length+(if ([]:List Keyword).isEmpty then 0 else 1) < 30))=true
 line:(apos.endLine==cpos.line)=true
 trees:backTo cpos (starEach [e] X.env)=[(false,eval e X.env)]
structure M2 (X:Cx)(o:Expr)(m:Str)(apos:Pos)(e f:Expr)(cpos:Pos):Prop where
 base:attributeBase o m X.env (eval o X.env)=eval o X.env
 few:((backTo cpos (starEach [e,f] X.env)).all (fun x => !x.1)&&(backToKw cpos (keywordEach [] X.env)).all (fun x=>x.1.isSome)
   && decide (([e,f]:List Expr).length+([]:List Keyword).length+(if ([]:List Keyword).isEmpty then 0 else 1) < 30))=true
 line:(apos.endLine==cpos.line)=true
 trees:backTo cpos (starEach [e,f] X.env)=[(false,eval e X.env),(false,eval f X.env)]
end L2
namespace L2
open PySem PySem.W PyProof.Rows
structure SWO (lt:Nat->Nat->Bool):Prop where
 irr:∀a,lt a a=false
 tr:∀a b c,lt a b=true->lt b c=true->lt a c=true
 neg:∀a b c,lt a c=true->lt a b=true∨lt b c=true
def Lx (lt:Nat->Nat->Bool)(a b:Nat):Prop:=lt a b=true∨(lt a b=false/\lt b a=false/\a < b)
section
variable {lt:Nat->Nat->Bool} (W:SWO lt)
include W
theorem SWO.asym {a b:Nat}(h:lt a b=true):lt b a=false:=by
 cases e:lt b a
 · rfl
 · have:=W.tr _ _ _ h e;rw[W.irr] at this;cases this
theorem SWO.eqr {a b c:Nat}(h:lt a b=true)(h1:lt c b=false):lt a c=true:=by
 rcases W.neg a c b h with e | e
 · exact e
 · rw[h1] at e;cases e
theorem SWO.eql {a b c:Nat}(h:lt a b=true)(h1:lt a c=false):lt c b=true:=by
 rcases W.neg a c b h with e | e
 · rw[h1] at e;cases e
 · exact e
theorem SWO.ntr {a b c:Nat}(h1:lt a b=false)(h2:lt b c=false):lt a c=false:=by
 cases e:lt a c
 · rfl
 · rcases W.neg a b c e with z | z
   · rw[h1] at z;cases z
   · rw[h2] at z;cases z
theorem Lx.trans {a b c:Nat}(h1:Lx lt a b)(h2:Lx lt b c):Lx lt a c:=by
 rcases h1 with h1 | ⟨x1,x2,x3⟩<;>rcases h2 with h2 | ⟨y1,y2,y3⟩
 · exact .inl (W.tr _ _ _ h1 h2)
 · exact .inl (W.eqr h1 y2)
 · exact .inl (W.eql h2 x2)
 · exact .inr ⟨W.ntr x1 y1,W.ntr y2 x2,by lia⟩
theorem Lx.le {a b:Nat}(h:Lx lt a b):lt b a=false:=by
 rcases h with h | ⟨_,h,_⟩
 · exact W.asym h
 · exact h
theorem Lx.of {a b:Nat}(h:lt b a=false)(hab:a < b):Lx lt a b:=by
 cases e:lt a b
 · exact .inr ⟨e,h,hab⟩
 · exact .inl e
end
abbrev gg (p:Array Nat)(k:Nat):Nat:=p.getD k 0
theorem rG (p:Array Nat)(k:Nat):gg p k=(p[k]?).getD 0:=by unfold gg;simp[Od]
theorem tD {p:Array Nat}{i j:Nat}(hj:j<=p.size)(k:Nat):gg (kas_rev p i j) k=if i<=k/\k < j then gg p (i+j - 1 - k) else gg p k:=by
 rw[rG,rG,rG]
 unfold kas_rev
 rw[Um hj]
 split<;>rfl
theorem zZy {p:Array Nat}{k l:Nat}(hk:k < p.size)(hl:l<=k)(i:Nat):gg (bubble p k (k - l)) i=if i=l then gg p k else if l < i/\i<=k then gg p (i - 1) else gg p i:=by
 rw[rG,rG,rG,rG,Og hk (k - l) (by lia),show k - (k - l)=l by lia]
 split
 · rfl
 · split<;>rfl
def Srt (lt:Nat->Nat->Bool)(p:Array Nat)(a:Nat):Prop:=∀i j,i < j->j < a->Lx lt (gg p i) (gg p j)
def Dcr (lt:Nat->Nat->Bool)(p:Array Nat)(a:Nat):Prop:=∀i j,i < j->j < a->Lx lt (gg p j) (gg p i)
structure Org (N:Nat)(p:Array Nat)(a:Nat):Prop where
 sz:p.size=N
 pm:p.toList.Perm (List.range N)
 hi:∀j,a<=j->j < N->gg p j=j
 lo:∀i,i < a->gg p i < a
theorem zSp {p:Array Nat}{N i j:Nat}(h:p.toList.Perm (List.range N)):(kas_rev p i j).toList.Perm (List.range N):=(Ov.mp (mirror_perm _ _ _ _)).trans h
theorem Org.rev {N a i:Nat}{p:Array Nat}(h:Org N p a)(ha:a<=N):Org N (kas_rev p i a) a:=by
 have hs:a<=p.size:=by rw[h.sz];exact ha
 refine⟨by unfold kas_rev;rw[mirror_size];exact h.sz,zSp h.pm,fun j h1 h2=>?_,fun k hk=>?_⟩
 · rw[tD hs,Qs (by lia)];exact h.hi j h1 h2
 · rw[tD hs]
   split
   · exact h.lo _ (by lia)
   · exact h.lo _ hk
theorem Org.next {N a:Nat}{p:Array Nat}(h:Org N p a)(ha:a < N):Org N p (a+1) :=
 ⟨h.sz,h.pm,fun j h1 h2=>h.hi j (by lia) h2,fun i hi=>by
   by_cases e:i=a
   · subst e;rw[h.hi i (by lia) ha];lia
   · have:=h.lo i (by lia);lia⟩
section
variable {lt:Nat->Nat->Bool} (W:SWO lt) {N:Nat}
include W
theorem eO {p:Array Nat}{n:Nat}(h1:1<=n)(hn:n < N)(hs:Srt lt p n)(ho:Org N p n)(hlt:lt (gg p n) (gg p (n - 1))=false):Srt lt p (n+1):=by
 have hl:Lx lt (gg p (n - 1)) (gg p n):=Lx.of W hlt (by rw[ho.hi n (by lia) hn];exact ho.lo _ (by lia))
 intro i j hij hj
 by_cases e:j=n
 · subst e
   by_cases e':i=j - 1
   · subst e';exact hl
   · exact Lx.trans W (hs i (j - 1) (by lia) (by lia)) hl
 · exact hs i j hij (by lia)
omit W in
theorem zTi {p:Array Nat}{n:Nat}(hn:n<=p.size)(h:Dcr lt p n):Srt lt (kas_rev p 0 n) n:=fun i j hij hj=>by
 rw[tD hn,tD hn,Qo (by lia),Qo (by lia)]
 exact h _ _ (by lia) (by lia)
structure Fal (lt:Nat->Nat->Bool)(N:Nat)(p:Array Nat)(n q:Nat):Prop where
 hq:q+1<=n
 dn:∀i j,i < j->j < n - (q+1)->Lx lt (gg p j) (gg p i)
 ac:∀i j,i < n - (q+1)->n - (q+1)<=j->j < n->lt (gg p j) (gg p i)=true
 eq:∀i j,n - (q+1)<=i->i < j->j < n->lt (gg p i) (gg p j)=false/\lt (gg p j) (gg p i)=false/\gg p i < gg p j
 og:Org N p n
theorem Fal.last {p:Array Nat}{n q:Nat}(h:Fal lt N p n q){i:Nat}(hi:n - (q+1)<=i)(hin:i < n):lt (gg p i) (gg p (n - 1))=false/\lt (gg p (n - 1)) (gg p i)=false:=by
 by_cases e:i=n - 1
 · subst e;exact⟨W.irr _,W.irr _⟩
 · have:=h.eq i (n - 1) hi (by lia) (by have:=h.hq;lia)
   exact⟨this.1,this.2.1⟩
theorem Fal.turn {p:Array Nat}{n q:Nat}(h:Fal lt N p n q)(hn:n<=N):Dcr lt (kas_rev p (n - (q+1)) n) n/\Org N (kas_rev p (n - (q+1)) n) n:=by
 have hs:n<=p.size:=by rw[h.og.sz];exact hn
 have hq:=h.hq
 refine⟨fun i j hij hj=>?_,h.og.rev hn⟩
 rw[tD hs,tD hs]
 by_cases hj':n - (q+1)<=j
 · rw[Qo ⟨hj',hj⟩]
   by_cases hi':n - (q+1)<=i
   · rw[Qo ⟨hi',by lia⟩]
     exact .inr (h.eq _ _ (by lia) (by lia) (by lia))
   · rw[Qs (by lia)]
     exact .inl (h.ac _ _ (by lia) (by lia) (by lia))
 · rw[Qs (by lia),Qs (by lia)]
   exact h.dn i j hij (by lia)
theorem jF {p:Array Nat}{n:Nat}(h1:1<=n)(hn:n < N)(hd:Dcr lt p n)(ho:Org N p n)(hl:∀i,i < n->lt (gg p n) (gg p i)=true):Fal lt N p (n+1) 0:=by
 refine⟨by lia,fun i j hij hj=>hd i j hij (by lia),fun i j hi hj hj'=>?_,fun i j hi hij hj=>by lia,ho.next hn⟩
 have:j=n:=by lia
 subst this
 exact hl i (by lia)
theorem Fal.less {p:Array Nat}{n q:Nat}(h:Fal lt N p n q)(hc:lt (gg p n) (gg p (n - 1))=true)(i:Nat)(hi:i < n):lt (gg p n) (gg p i)=true:=by
 have hq:=h.hq
 by_cases hr:n - (q+1)<=i
 · exact W.eqr hc (Fal.last W h hr hi).1
 · exact W.tr _ _ _ hc (h.ac i (n - 1) (by lia) (by lia) (by lia))
theorem Fal.dcr {p:Array Nat}{n:Nat}(h:Fal lt N p n 0):Dcr lt p n:=fun i j hij hj=>by
 by_cases e:j=n - 1
 · exact .inl (h.ac i j (by lia) (by lia) hj)
 · exact h.dn i j hij (by lia)
def zQi (lt:Nat->Nat->Bool)(N:Nat)(r:Nat×Array Nat):Prop:=1<=r.1/\r.1<=N/\Srt lt r.2 r.1/\Org N r.2 r.1
theorem zVD (hN:1<=N):Org N (List.toArray (List.range N)) 1:=by
 have e:∀j,j < N->gg (List.toArray (List.range N)) j=j:=fun j hj=>by rw[rG];simp[hj]
 refine⟨by simp,by simp,fun j h1 h2=>e j h2,fun i hi=>?_⟩
 have:i=0:=by lia
 subst this
 rw[e 0 (by lia)]
 lia
end
end L2
namespace L2
open PySem PySem.Spec PyProof.Rows
section
variable {prog:Program} {w:World} {A:Around} {R:Result->Shared->Prop} {s:Shared}
abbrev F0:Value->Shared->Prop:=fun _ _=>False
theorem bQ {α:Type}{t:Sem α}{Q Q':α->Shared->Prop}{M:Model}{A:Around}{E:Value->Shared->Prop}{s:Shared}(h:wpAny M A t Q F0 s)(hq:∀a s,Q a s->Q' a s):wpAny M A t Q' E s:=Yt h hq fun _ _ z=>z.elim
theorem cY {elt target iter:Expr}{ifs:List Expr}{scope:Scope}{pos:Pos}{it acc:Value}{env:Env}(I:Nat->Shared->Prop)
   (turn:∀n s,I n s->wpAny (model prog w) A (pyNext it) (fun r s₁=>match r with
     | none=>R (.ok .next) s₁
     | some v=>wpAny (model prog w) A (letOwnedTupleGo target it v) (fun _ s₁=>wpAny (model prog w) A (assign target env v) (fun _ s₂ =>
         wpAny (model prog w) A (forIn ifs true fun c r=>if r=true then do let ok ←isTrue c env (eval c env);pure (ForInStep.yield ok) else pure (ForInStep.yield r)) (fun ok s₃ =>
           if ok=true then wpAny (model prog w) A (eval elt env) (fun x s₄ =>
             wpAny (model prog w) A (call (.builtin "list.append") [acc,x]) (fun _ s₅ => ∃m,m < n/\I m s₅) F0 s₄) F0 s₃
           else ∃m,m < n/\I m s₃) F0 s₂) F0 s₁) F0 s₁) F0 s)
   (n:Nat) (h:I n s) :
   codeAny (model prog w) A (.compLoop (.ListComp elt [⟨target,iter,ifs,0⟩] scope pos) 0 it acc env) R s:=by
 refine codeAny_loop rfl I (fun n s hI=>?_) n h
 show wpAny _ A ((compTurn (.ListComp elt [⟨target,iter,ifs,0⟩] scope pos) 0 it acc env).onRaise (fun x=>do noteFrame x env;theTreesLotGoes x)) _ _ s
 refine wpAny_noted ?_
 rw[compTurn_list]
 refine Qr (wpAny_standAt (Qr (bQ (turn n s hI) (fun r s₁ h₁=>?_))))
 cases r with
 | none=>exact Qc h₁
 | some v =>
   refine Qr (bQ h₁ fun _ s₁' h₁'=>?_)
   refine Qr (bQ h₁' fun _ s₂ h₂=>Qr (bQ h₂ fun ok s₃ h₃ => ?_))
   cases ok with
   | false=>exact Qc ⟨rfl,h₃⟩
   | true =>
     exact Qr (Qr (bQ h₃ fun x s₄ h₄ => Qr (bQ h₄ fun _ s₅ h₅ => Qc (Qc ⟨rfl,h₅⟩))))
end
theorem nT {env:Env}(x:Str):∀(names:List (Str×NameKind)),
   (names.map fun(n,k)=>if (k==NameKind.free&&env.scope.kind == .function&&env.kindOf n==some .cell) then(n,NameKind.cell) else(n,k)).lookup x
     = (names.lookup x).map fun k=>if (k==NameKind.free&&env.scope.kind == .function&&env.kindOf x==some .cell)=true then NameKind.cell else k
 | []=>rfl
 | (n,k)::r=>by
   have ih:=nT (env:=env) x r
   rw[Wo]
   cases hx:x==n with
   | true =>
     have e:x=n:=eq_of_beq hx
     subst e
     by_cases hc:(k==NameKind.free&&env.scope.kind == .function&&env.kindOf x==some .cell)=true
     · simp only[hc,Uu,Ec,Ow,Rg]
     · simp only[hc,Rk,Ec,Ow,Rg,Wz]
   | false =>
     by_cases hc:(k==NameKind.free&&env.scope.kind == .function&&env.kindOf n==some .cell)=true
     · simp only[hc,Uu,Ec,hx];exact ih
     · simp only[hc,Rk,Ec,hx,Wz];exact ih
def lX (env:Env):List (Str×NameKind)->List (Str×Addr)->List (Str×Addr)
 | [],acc=>acc
 | (n,k)::r,acc=>lX env r (if k = .free then(match env.cells.lookup n with | some c=>(n,c)::acc | none=>acc) else acc)
theorem zXH {env:Env}{scope:Scope}(h:∀p∈scope.names,p.2 = .free->∃c,env.cells.lookup p.1=some c):closureFor scope env=pure (lX env scope.names []):=by
 have gen:∀(l:List (Str×NameKind)) (acc:List (Str×Addr)),(∀p∈l,p.2 = .free->∃c,env.cells.lookup p.1=some c) ->
     (forIn l acc fun x r=>if (x.2==NameKind.free)=true then(do let a ←cellOf env x.1;pure (ForInStep.yield ((x.1,a)::r))) else pure (ForInStep.yield r):Sem (List (Str×Addr)))=pure (lX env l acc):=by
   intro l
   induction l with
   | nil=>intro acc _;rfl
   | cons p r ih =>
     intro acc hp
     obtain⟨n,k⟩:=p
     rw[List.forIn_cons]
     have hr:∀p∈r,p.2 = .free->∃c,env.cells.lookup p.1=some c:=fun p hm=>hp p (Qb _ hm)
     by_cases hk:k = .free
     · subst hk
       obtain⟨c,hc⟩:=hp (n,.free) Qv rfl
       have e:cellOf env n=pure c:=by unfold cellOf;rw[hc]
       simp only[Ow,Uu,e]
       show(forIn r ((n,c)::acc) _:Sem _)=_
       rw[ih _ hr]
       show _=(pure (lX env r (if NameKind.free=NameKind.free then(match env.cells.lookup n with | some c=>(n,c)::acc | none=>acc) else acc)):Sem _)
       rw[Qo rfl,hc]
     · have hb:(k==NameKind.free)=false:=by simpa using hk
       simp only[hb,Wz,Rk]
       show(forIn r acc _:Sem _)=_
       rw[ih _ hr]
       show _=(pure (lX env r (if k=NameKind.free then(match env.cells.lookup n with | some c=>(n,c)::acc | none=>acc) else acc)):Sem _)
       rw[Qs hk]
 have q:=gen scope.names [] h
 simp only[closureFor]
 rw[q]
 rfl
theorem dG {env:Env}:∀(l:List (Str×NameKind)) (acc:List (Str×Addr)),(∀x c,acc.lookup x=some c->env.cells.lookup x=some c)->∀x c,(lX env l acc).lookup x=some c->env.cells.lookup x=some c
 | [],_,h=>h
 | (n,k)::r,acc,h=>by
   refine dG r _ ?_
   by_cases hk:k = .free
   · rw[Qo hk]
     cases e:env.cells.lookup n with
     | none=>exact h
     | some c =>
       intro x c' hx
       rw[Ec] at hx
       cases q:x==n with
       | true=>rw[q] at hx;cases hx;rw[eq_of_beq q];exact e
       | false=>rw[q] at hx;exact h x c' hx
   · rw[Qs hk];exact h
theorem zY9 {env:Env}:∀(l:List (Str×NameKind)) (acc:List (Str×Addr)) (x:Str),(acc.lookup x).isSome=true->((lX env l acc).lookup x).isSome=true
 | [],_,_,h=>h
 | (n,k)::r,acc,x,h=>by
   refine zY9 r _ x ?_
   by_cases hk:k = .free
   · rw[Qo hk]
     cases e:env.cells.lookup n with
     | none=>exact h
     | some c =>
       show(List.lookup x ((n,c)::acc)).isSome=true
       rw[Ec]
       cases q:x==n with
       | true=>rfl
       | false=>exact h
   · rw[Qs hk];exact h
theorem cV {env:Env}:∀(l:List (Str×NameKind)) (acc:List (Str×Addr)),(∀p∈l,p.2 = .free->∃c,env.cells.lookup p.1=some c)->∀x,(x,NameKind.free)∈l->((lX env l acc).lookup x).isSome=true
 | [],_,_,_,h=>nomatch h
 | (n,k)::r,acc,hp,x,h=>by
   rcases Qf.mp h with e | h
   · cases e
     obtain⟨c,hc⟩:=hp (n,.free) Qv rfl
     show((lX env r (if NameKind.free=NameKind.free then(match env.cells.lookup n with | some c=>(n,c)::acc | none=>acc) else acc)).lookup n).isSome=true
     rw[Qo rfl,hc]
     exact zY9 r _ n (by simp[Ec])
   · exact cV r _ (fun p hm=>hp p (Qb _ hm)) x h
def pJ (sc scope:Scope)(N tgs frees:List Str)(js:List Nat):Bool :=
 scope.kind == .function&&scope.names.all (fun p=>p.2 != .cell&&(p.2 != .free||sc.names.lookup p.1==some .cell||sc.names.lookup p.1==some .free)&&(p.2 != .local||scope.names.lookup p.1==some .local))
   && tgs.all (fun x=>scope.names.lookup x==some .local)&&frees.all (fun x=>scope.names.lookup x==some .free)&&(js.map fun j=>N[j]?)==frees.map some
def upC (m:Nat)(js:List Nat)(σ:St):St:=List.replicate m none++js.map fun j=>(σ[j]?).join
def wP (X:Cx)(Nc:List Str)(scope:Scope)(C:Addr)(s₀:Shared)(H₀:Hp)(fp:List Addr):Cx where
 prog:=X.prog
 w:=X.w
 K:=X.K
 mg:=X.mg
 base:=X.base
 A:=X.A
 N:=Nc
 s₀:=s₀
 H₀:=H₀
 env:=compEnvC scope (lX X.env scope.names []) C X.env
 outer:=X.stack
 stack:=X.stack
 ex:=fp
 fn:=fun _=>false
 calm:=X.calm
 pn:=[]
 xe:=F0
def zXV (X:Cx)(ifs:List Expr)(t:TT):Prop :=
 ∀(pins:List (Addr×Obj)) (s:Shared) (σ:St) (H:Hp) (Q:Bool->Hp->Prop),Inv X pins σ H s->t σ H Q ->
   wpAny (model X.prog X.w) X.A (forIn ifs true fun c r=>if r=true then do let ok ←isTrue c X.env (eval c X.env);pure (ForInStep.yield ok) else pure (ForInStep.yield r)) (TP X pins σ Q) X.xe s
def zPY:TT:=fun _ H Q=>Q true H
theorem zV8 {X:Cx}:zXV X [] zPY:=fun _ _ _ H _ I h=>wpAny_tests_nil ⟨H,I,h⟩
theorem zUA {X:Cx}{c:Expr}{t:TT}(h:PT X c t):zXV X [c] t:=fun pins s σ H Q I hq=>wpAny_tests_one (h pins s σ H Q I hq)
def zQP (J:It)(m:Nat)(js:List Nat)(g:TG)(tc:TT)(te:TE)(σ:St)(H1:Hp)(Q:VK):Prop:=∀D,H1 D=none ->
 ∃W:Nat->Nat->St->Hp->Prop,(∃k,W 0 k (upC m js σ) (upd H1 D (.lst [])))/\∀i k σ' H',W i k σ' H' ->
   (J.stop i H'/\Q (.ref D) H')∨(J.go i H'/\∀x H2,J.yld i H' x H2->g x σ' H2 fun σ2 H3=>tc σ2 H3 fun b H4=>if b=true then te σ2 H4 fun y H5=>∃ys k',H5 D=some (.lst ys)/\ys.length < sizeLine/\k' < k/\W (i+1) k' σ2 (upd H5 D (.lst (ys++[y])))
     else ∃k',k' < k/\W (i+1) k' σ2 H4)
section
variable {X:Cx} {pins:List (Addr×Obj)} {σ:St} {H2:Hp} {s2:Shared} {tg elt iter:Expr} {ifs:List Expr} {scope sc:Scope} {pos:Pos} {tgs frees:List Str} {js:List Nat} {g:TG} {te:TE} {tc:TT}
theorem uH {N:List Str}(h:pJ sc scope N tgs frees js=true):scope.kind = .function/\(∀p∈scope.names,p.2 ≠ .cell)/\(∀p∈scope.names,p.2 = .free->sc.names.lookup p.1=some .cell∨sc.names.lookup p.1=some .free) /\
   (∀p∈scope.names,p.2 = .local->scope.names.lookup p.1=some .local)/\(∀x∈tgs,scope.names.lookup x=some .local)/\(∀x∈frees,scope.names.lookup x=some .free)/\(js.map fun j=>N[j]?)=frees.map some:=by
 unfold pJ at h
 simp only[Ee,Oe,bne_iff_ne,ne_eq,Tt,Ul] at h
 obtain⟨⟨⟨⟨h1,h2⟩,h3⟩,h4⟩,h5⟩:=h
 refine⟨h1,fun p hp=>(h2 p hp).1.1,fun p hp e=>?_,fun p hp e=>?_,h3,h4,h5⟩
 · rcases(h2 p hp).1.2 with(q | q) | q
   · exact absurd e q
   · exact .inl q
   · exact .inr q
 · rcases(h2 p hp).2 with q | q
   · exact absurd e q
   · exact q
theorem zXQ {C:Addr}{s3:Shared}{H3:Hp}{h4:Heap}{tk:Nat}{fp:List Addr}{m0:Str->Option Value}(I:Inv X pins σ H3 s3)(f3:∀b∈fp,kQ X pins H3 b)(ofp:∀b∈fp,b < s3.heap.objs.size)
   (hsc:X.env.scope=sc) (hok:pJ sc scope X.N tgs frees js=true) (hC:C=s3.heap.objs.size) (hk:∀b o,s3.heap.get? b=some o->h4.get? b=some o) (hn:h4.Ns C m0) :
   Inv (wP X (tgs++frees) scope C s3 H3 fp) [] (upC tgs.length js σ) H3 { s3 with heap:=h4,toks:=tk }:=by
 obtain⟨k1,k2,k3,k4,k5,k6,k7⟩:=uH hok
 have hcl:∀x c,(lX X.env scope.names []).lookup x=some c->X.env.cells.lookup x=some c:=dG scope.names [] (fun _ _ z=>nomatch z)
 have hfr:∀p∈scope.names,p.2 = .free->∃c,X.env.cells.lookup p.1=some c:=fun p hp e=>I.ok.has p.1 (by
   show X.env.scope.names.lookup p.1=_∨X.env.scope.names.lookup p.1=_
   rw[hsc];exact k3 p hp e)
 have rl:∀x,(relabel scope X.env).names.lookup x=(scope.names.lookup x).map fun k=>if (k==NameKind.free&&X.env.scope.kind == .function&&X.env.kindOf x==some .cell)=true then NameKind.cell else k:=fun x=>nT x scope.names
 have hasc:∀x,((relabel scope X.env).names.lookup x=some .cell∨(relabel scope X.env).names.lookup x=some .free)->∃c,(lX X.env scope.names []).lookup x=some c:=fun x hx=>by
   rw[rl x] at hx
   cases e:scope.names.lookup x with
   | none=>rw[e] at hx;simp at hx
   | some k =>
     have hm:=Ej e
     have hkf:k = .free:=by
       rw[e] at hx
       simp only[Rg,Option.some.injEq] at hx
       by_cases q:k = .free
       · exact q
       · have hb:(k==NameKind.free)=false:=by simpa using q
         rw[hb] at hx
         simp only[On,Wz,Rk] at hx
         rcases hx with z | z
         · exact absurd z (k2 _ hm)
         · exact z
     subst hkf
     exact Tq.mp (cV scope.names [] hfr x hm)
 have cfr:∀x c,X.env.cells.lookup x=some c->c≠C:=fun x c e z=>by
   obtain⟨v,q⟩:=I.cell x c e
   exact absurd (z ▸ q.lt) (by rw[hC];exact Wj _)
 have base0:∀b o,X.base.get? b=some o->b∉fp:=fun b o e hb=>by
   obtain⟨_,_,_,q,_⟩:=f3 b hb
   rcases q with q | q
   · exact I.ok.noex b o e q
   · exact absurd (Wt (Qp (I.ok.bs b o e).1) q) (Wj _)
 have stk:∀b∈fp,b∉frs X.stack:=fun b hb z=>by
   obtain⟨_,q1,q2,_⟩:=f3 b hb
   rcases Qf.mp (I.stkSub b z) with e | e
   · exact q1 e
   · exact q2 e
 refine⟨⟨I.ok.mod,k1,I.ok.glob,I.ok.blt,by rw[hC];exact Qd _,fun x y c e1 e2=>I.ok.inj x y c (hcl x c e1) (hcl y c e2),hasc,(fun x c z _=>nomatch z),I.ok.hd,I.ok.frames,.inl rfl,
     fun b hb=>⟨fun z=>absurd (ofp b hb) (by rw[show b=C from z,hC];exact Wj _),fun x c e=>(f3 b hb).2.2.2.2.1 x c (hcl x c e)⟩,
     fun b o e=>I.bs b o e,Wa I.ok.bsz I.sz,base0,stk,I.stack,I.stkFree⟩,
   rfl,I.bare,Un.kept hk,⟨m0,hn,fun i x v e1 e2 e3=>?_⟩,fun x c e=>?_,I.hok.fresh (by rw[show(wP X (tgs++frees) scope C s3 H3 fp).env.locals=C from rfl,hC];exact Qd _),fun x c e=>I.freeC x c (hcl x c e),
   fun p hp=>absurd (show p∈([]:List (Addr×Obj)) from hp) (by simp),I.hok.kept hk,?_⟩
 · -- a name's value
   have hi:tgs.length<=i:=by
     refine Nat.le_of_not_lt fun hlt=>?_
     have e2:(upC tgs.length js σ)[i]?=some (some v):=e2
     unfold upC at e2
     rw[Wx (by simpa using hlt),Es] at e2
     split at e2<;>cases e2
   have e2:(upC tgs.length js σ)[i]?=some (some v):=e2
   unfold upC at e2
   rw[Ww (by simpa using hi),Uy,Ws] at e2
   have e1:(tgs++frees)[i]?=some x:=e1
   rw[Ww hi] at e1
   obtain⟨j,ej,e2⟩:=Qy.mp e2
   have hj:X.N[j]?=some x:=by
     have q:=Ep (fun l=>l[i - tgs.length]?) k7
     simp only[Ws,ej,e1,Rg] at q
     exact Wb q
   have hσ:σ[j]?=some (some v):=by
     cases q:σ[j]? with
     | none=>rw[q] at e2;cases e2
     | some o=>rw[q] at e2;exact Ep some e2
   have hf:scope.names.lookup x=some .free:=k6 x (Ux e1)
   have hX:X.env.kindOf x=some .cell∨X.env.kindOf x=some .free:=by
     show X.env.scope.names.lookup x=_∨X.env.scope.names.lookup x=_
     rw[hsc];exact k3 _ (Ej hf) rfl
   obtain⟨m,_,hl⟩:=I.loc
   obtain⟨u,r,l⟩:=hl j x v hj hσ (by
     rcases hX with q | q
     · exact .inr (.inl q)
     · exact .inr (.inr q))
   refine⟨u,r,.inr ⟨?_,?_⟩⟩
   · show(relabel scope X.env).names.lookup x=_∨(relabel scope X.env).names.lookup x=_
     rw[rl x,hf]
     by_cases q:(NameKind.free==NameKind.free&&X.env.scope.kind == .function&&X.env.kindOf x==some .cell)=true
     · exact .inl (by rw[Rg,Qo q])
     · exact .inr (by rw[Rg,Qs q])
   · rcases l with⟨q,_⟩ | ⟨_,c,ec,hcell⟩
     · rcases hX with z | z<;>(rw[z] at q;cases q)
     · obtain⟨c',ec'⟩:=Tq.mp (cV scope.names [] hfr x (Ej hf))
       have e:c'=c:=Wb ((hcl x c' ec').symm.trans ec)
       subst e
       obtain⟨o,ho,hd⟩:=hcell
       exact⟨c',ec',o,hk _ _ ho,hd⟩
 · obtain⟨v,o,ho,hd⟩:=I.cell x c (hcl x c e)
   exact⟨v,o,hk _ _ ho,hd⟩
 · show(upC tgs.length js σ).length=(tgs++frees).length
   have q:=Ep List.length k7
   rw[Qt,Qt] at q
   unfold upC
   rw[Qe,Uy,Qt,Qe,q]
theorem dH {J:It}{fp:List Addr}{it:Addr}{tn:Nat->Heap->Prop}{RR:Value->Addr->Result->Shared->Prop}{E:Value->Shared->Prop}{Q:VK}
   (I2:Inv X pins σ H2 s2) (T:Turn X.prog X.w X.K tg J fp it tn) (st2:tn 0 s2.heap) (f2:∀b∈fp,kQ X pins H2 b) (hc:X.calm=true)
   (hsc:X.env.scope=sc) (hok:pJ sc scope X.N tgs frees js=true)
   (hg:∀C s₀ H₀ fp,PG (wP X (tgs++frees) scope C s₀ H₀ fp) tg g) (hi:∀C s₀ H₀ fp,zXV (wP X (tgs++frees) scope C s₀ H₀ fp) ifs tc) (he:∀C s₀ H₀ fp,PE (wP X (tgs++frees) scope C s₀ H₀ fp) elt te)
   (hw:zQP J tgs.length js g tc te σ H2 Q)
   (hRR:∀D C s' H' m,Inv X pins σ H' s'->Q (.ref D) H'->kQ X pins H' C->s'.heap.Ns C m->RR (.ref D) C (.ok .next) s') :
   wpAny (model X.prog X.w) X.A (newList []) (fun acc s₃ => wpAny (model X.prog X.w) X.A (newFunctionEnv scope X.env.globals (lX X.env scope.names []) [] X.env.qual none .none (some X.env)) (fun cenv s₄ =>
     codeAny (model X.prog X.w) X.A (.compStart (.ListComp elt [⟨tg,iter,ifs,0⟩] scope pos) 0 (.ref it) acc { cenv with scope:=relabel scope X.env }) (RR acc cenv.locals) s₄) E s₃) E s2:=by
 obtain⟨k1,k2,k3,k4,k5,k6,k7⟩:=uH hok
 refine Ij (wpAny_newFunctionEnv k2 (by intro y hy;simp at hy) (fun h4 hn4 hs4=>?_) k1)
 dsimp only at hn4 hs4 ⊢
 generalize hh3:s2.heap.push { cls:=.type "list",dict:=none,data:=.seq ([]:List Value).toArray }=h3 at hn4 hs4 ⊢
 generalize hD:s2.heap.objs.size=D
 have hDn:H2 D=none:=by rw[←hD];exact I2.fresh
 have hsz3:h3.objs.size=D+1:=by rw[←hh3,Tv,hD]
 have keep23:∀b o,s2.heap.get? b=some o->h3.get? b=some o:=fun b o e=>by rw[←hh3];exact Qi _ e
 have keep34:∀b o,h3.get? b=some o->h4.get? b=some o:=fun b o e=>hs4.extBut b o (Wf (Qp e)) (Qi _ e)
 have I3:Inv X pins σ (upd H2 D (.lst [])) { s2 with heap:=h3 }:=by
   have q:=I2.lnew (its:=[]) (ys:=[]) (t':=s2.toks) .nil (Wm _)
   rw[hD] at q
   rw[←hh3]
   exact q
 have nfp:∀b∈fp,b≠D:=fun b hb z=>by
   obtain⟨o,e,_⟩:=T.obj 0 _ st2 b hb
   exact absurd (Qp e) (by rw[z,hD];exact Wj _)
 have f3:∀b∈fp,kQ X pins (upd H2 D (.lst [])) b:=fun b hb=>by
   obtain⟨q0,q⟩:=f2 b hb
   exact⟨by rw[zP (nfp b hb)];exact q0,q⟩
 have ofp:∀b∈fp,b < h3.objs.size:=fun b hb=>by
   obtain⟨o,e,_⟩:=T.obj 0 _ st2 b hb
   exact Qp (keep23 b o e)
 obtain⟨W,⟨n0,w0⟩,turn⟩:=hw D hDn
 have loop:∀s4:Shared,s4={ s2 with heap:=h4,toks:=s2.toks+([]:List (Str×Value)).length } ->
     codeAny (model X.prog X.w) X.A (.compLoop (.ListComp elt [⟨tg,iter,ifs,0⟩] scope pos) 0 (.ref it) (.ref D) (compEnvC scope (lX X.env scope.names []) h3.objs.size X.env)) (RR (.ref D) h3.objs.size) s4:=by
   rintro s4 rfl
   generalize hX':wP X (tgs++frees) scope h3.objs.size { s2 with heap:=h3 } (upd H2 D (.lst [])) fp=X'
   have I4:Inv X' [] (upC tgs.length js σ) (upd H2 D (.lst [])) { s2 with heap:=h4,toks:=s2.toks+([]:List (Str×Value)).length }:=by
     rw[←hX']
     exact zXQ (s3:={ s2 with heap:=h3 }) I3 f3 ofp hsc hok rfl keep34 hn4
   have eP:X'.prog=X.prog:=by rw[←hX'];rfl
   have eW:X'.w=X.w:=by rw[←hX'];rfl
   have eK:X'.K=X.K:=by rw[←hX'];rfl
   have eA:X'.A=X.A:=by rw[←hX'];rfl
   have eC:X'.calm=true:=by rw[←hX'];exact hc
   have T':Turn X'.prog X'.w X'.K tg J fp it tn:=by rw[eP,eW,eK];exact T
   have eE:X'.env=compEnvC scope (lX X.env scope.names []) h3.objs.size X.env:=by rw[←hX'];rfl
   have eX:X'.xe=F0:=by rw[←hX'];rfl
   have stat:∀ {H':Hp},(∀b∈fp,H' b=none)->∀b∈fp,kQ X' [] H' b:=fun {H'} hn b hb=>by
     obtain⟨_,q1,q2,q3,q4,q5⟩:=f3 b hb
     rw[←hX']
     refine⟨hn b hb,?_,?_,.inl hb,fun x c e=>?_,fun p hp=>absurd (show p∈([]:List (Addr×Obj)) from hp) (by simp)⟩
     · exact fun z=>absurd (ofp b hb) (by rw[show b=h3.objs.size from z];exact Wj _)
     · intro z
       rcases Qf.mp (I3.stkSub b z) with e | e
       · exact q1 e
       · exact q2 e
     · exact q4 x c (dG scope.names [] (fun _ _ z=>nomatch z) x c e)
   have hgX:PG X' tg g:=by rw[←hX'];exact hg _ _ _ _
   have hiX:zXV X' ifs tc:=by rw[←hX'];exact hi _ _ _ _
   have heX:PE X' elt te:=by rw[←hX'];exact he _ _ _ _
   refine cY (fun n s'=>∃i σ' H',Inv X' [] σ' H' s'/\tn i s'.heap/\(∀b∈fp,H' b=none)/\W i n σ' H') ?_ n0 ⟨0,_,_,I4,T.keep 0 _ _ st2 (fun b _ o e=>keep34 b o (keep23 b o e)),fun b hb=>(f3 b hb).1,w0⟩
   rintro n s5 ⟨i,σ5,H5,I5,st5,fr5,w5⟩
   rw[←eP,←eW,←eE,←eA]
   rcases turn i n σ5 H5 w5 with⟨stop,qn⟩ | ⟨go,step⟩
   · refine thn (T'.done X' rfl rfl rfl eC i [] s5 σ5 H5 F0 I5 (stat fr5) st5 stop) fun r s6 ⟨hr,I6⟩=>?_
     subst hr
     have un:Un (frs X.stack) fp H2 H5 s2.heap s6.heap:=by
       have u1:Un (frs X.stack) fp H2 (upd H2 D (.lst [])) s2.heap h3:=Un.laid keep23 (Ur hD) hDn
       have u2:=I6.base
       rw[←hX'] at u2
       exact u1.trans u2
     have hpx:HOk X.prog X.w H5 s6.heap:=by have q:=I6.hok;rw[eP,eW] at q;exact q
     have hos:s6.os=s2.os:=by have q:=I6.os;rw[←hX'] at q;exact q
     have IX:Inv X pins σ H5 s6:=I2.call' (ch:=fp) hos un hpx I6.bare fun b hb=>⟨(f2 b hb).2.2.2.1,(f2 b hb).2.1,(f2 b hb).2.2.2.2.1,(f2 b hb).2.2.2.2.2⟩
     obtain⟨m,hm,_⟩:=I6.loc
     have hloc:X'.env.locals=h3.objs.size:=by rw[eE];rfl
     rw[hloc] at hm
     have hle:s2.heap.objs.size<=h3.objs.size:=by rw[hD,hsz3];exact Rf _
     refine hRR D h3.objs.size s6 H5 m IX qn (I2.fpOk hle ?_) hm
     have q:=I6.free
     rw[hloc] at q
     exact q
   · refine thn (T'.item X' rfl rfl rfl eC i [] s5 σ5 H5 F0 I5 (stat fr5) st5 go) fun r s6 ⟨u,hr,h6⟩=>?_
     subst hr
     refine thn h6 fun _ s7 ⟨x,H7,I7,r7,y7,st7,fr7⟩=>?_
     have I7':=I7.pinned (stat fr7) (T.obj _ _ st7)
     have xe0:X'.xe=F0:=eX
     have conv:∀ {α:Type} {t:Sem α} {Q:α->Shared->Prop} {s:Shared},wpAny (model X'.prog X'.w) X'.A t Q X'.xe s->wpAny (model X'.prog X'.w) X'.A t Q F0 s:=fun h=>by rw[xe0] at h;exact h
     refine thn (conv (hgX _ s7 σ5 H7 x u _ I7' r7 (step x H7 y7))) fun _ s8 ⟨σ8,H8,I8,q8⟩=>?_
     refine thn (conv (hiX _ s8 σ8 H8 _ I8 q8)) fun ok s9 ⟨H9,I9,q9⟩=>?_
     have again:∀ {σz:St} {Hz:Hp} {sz:Shared} {k':Nat},Inv X' ([]++fL fp s7.heap) σz Hz sz->k' < n->W (i+1) k' σz Hz->∃m,m < n/\∃i σ' H',Inv X' [] σ' H' sz/\tn i sz.heap/\(∀b∈fp,H' b=none)/\W i m σ' H':=fun {σz Hz sz k'} Iz hk wz=>by
       refine⟨k',hk,i+1,σz,Hz,Iz.unpinned,T.keep _ _ _ st7 fun b hb o e=>(Iz.pin (b,o) (Wd _ (Wd _ (oX hb e)))).1,fun b hb=>?_,wz⟩
       obtain⟨o,e,d⟩:=T.obj _ _ st7 b hb
       exact(Iz.pin (b,o) (Wd _ (Wd _ (oX hb e)))).2.1
     cases ok with
     | false =>
       rw[Qs (by decide)] at q9
       rw[Qs (by decide)]
       obtain⟨k',hk,wz⟩:=q9
       exact again I9 hk wz
     | true =>
       rw[Qo rfl] at q9
       rw[Qo rfl]
       refine thn (conv (heX _ s9 σ8 H9 _ I9 q9)) fun v s10 ⟨y,H10,I10,r10,ys,k',hys,hl,hk,wz⟩=>?_
       refine thn (conv (mM (X:=X') _ s10 σ8 H10 (.ref D) [y] (.ref D) [v] (fun z Hz=>W (i+1) k' σ8 Hz) I10 rfl (.cons r10 .nil) ⟨D,ys,y,rfl,rfl,hys,hl,wz⟩)) fun _ s11 ⟨_,H11,I11,_,q11⟩=>?_
       exact again I11 hk q11
 rw[show s2.heap.objs.size=D from hD] at *
 exact codeAny_compStart_list (loop _ rfl) (T.self _ 0 _ _ _ (T.keep 0 _ _ st2 fun b _ o e=>keep34 b o (keep23 b o e)) (loop _ rfl))
def zUN (wi:TI)(m:Nat)(js:List Nat)(g:TG)(tc:TT)(te:TE):TE:=fun σ H Q=>wi σ H fun J H1=>zQP J m js g tc te σ H1 Q
theorem dF (ok:X.Ok)(hsc:X.env.scope=sc)(hok:pJ sc scope X.N tgs frees js=true):closureFor scope X.env=pure (lX X.env scope.names []) :=
 zXH fun p hp e=>ok.has p.1 (by
   show X.env.scope.names.lookup p.1=_∨X.env.scope.names.lookup p.1=_
   rw[hsc];exact(uH hok).2.2.1 p hp e)
theorem zTG (sc:Scope)(tgs frees:List Str)(js:List Nat){wi:TI}(hp:PI X tg iter wi)(hc:X.calm=true)(hsc:X.env.scope=sc)(hok:pJ sc scope X.N tgs frees js=true)
   (hg:∀C s₀ H₀ fp,PG (wP X (tgs++frees) scope C s₀ H₀ fp) tg g) (hi:∀C s₀ H₀ fp,zXV (wP X (tgs++frees) scope C s₀ H₀ fp) ifs tc) (he:∀C s₀ H₀ fp,PE (wP X (tgs++frees) scope C s₀ H₀ fp) elt te)
   (hs:∀x,foldedSetIterable iter X.env x=pure x:=by intro _;rfl) :
   PE X (.ListComp elt [⟨tg,iter,ifs,0⟩] scope pos) (zUN wi tgs.length js g tc te):=by
 intro pins s σ H Q I h
 obtain⟨k1,k2,k3,k4,k5,k6,k7⟩:=uH hok
 rw[eval_ListComp]
 refine wpAny_comprehension_free (use:=none) rfl hs (dF I.ok hsc hok) k1 k4 (thn (hp pins s σ H _ I h) fun v s1 h1=>thn h1 fun itv s2 h2=>?_)
 obtain⟨it,fp,tn,J,H2,e,I2,T,st2,f2,hw⟩:=h2
 subst e
 refine dH (RR:=fun acc C=>compPost (model X.prog X.w) X.A X.xe none (EP X pins σ Q) acc C) I2 T st2 f2 hc hsc hok hg hi he hw ?_
 intro D C s' H' m I' q fC hn
 refine⟨m,hn,fun h' hs'=>⟨.ref D,H',?_,rfl,q⟩⟩
 obtain⟨c0,c1,c2,c3,c4,c5⟩:=fC
 exact I'.turned (t':=s'.toks) (fun b o hb e=>hs'.extBut b o hb e) c0 c1 c3 c4 c5
theorem zXs (sc:Scope)(tgs frees:List Str)(js:List Nat){wi:TI}{i:Nat}{x:Str}{pos' spos:Pos}(hN:X.N.Nodup)(hx:X.N[i]?=some x)(hl:X.env.scope.names.lookup x=some .local)
   (hp:PI X tg iter wi) (hc:X.calm=true) (hsc:X.env.scope=sc) (hok:pJ sc scope X.N tgs frees js=true)
   (hg:∀C s₀ H₀ fp,PG (wP X (tgs++frees) scope C s₀ H₀ fp) tg g) (hi:∀C s₀ H₀ fp,zXV (wP X (tgs++frees) scope C s₀ H₀ fp) ifs tc) (he:∀C s₀ H₀ fp,PE (wP X (tgs++frees) scope C s₀ H₀ fp) elt te)
   (hsw:swapsWith (.ListComp elt [⟨tg,iter,ifs,0⟩] scope pos) (some (.Name x pos')) spos.line X.env=pure true:=by with_unfolding_all rfl) (hs:∀x,foldedSetIterable iter X.env x=pure x:=by intro _;rfl) :
   PS X (.Assign [.Name x pos'] (.ListComp elt [⟨tg,iter,ifs,0⟩] scope pos) spos) (zVP (zUN wi tgs.length js g tc te) (zYO i)):=by
 intro pins s σ H D I h
 obtain⟨k1,k2,k3,k4,k5,k6,k7⟩:=uH hok
 rw[exec_Assign_Name_used _ _ _ _ hsw]
 refine Qr (wpAny_standAt (Qr ?_))
 show wpAny _ X.A (do let _ ←comprehension (.ListComp elt [⟨tg,iter,ifs,0⟩] scope pos) scope X.env _ (newList []) false (eval iter X.env) (some (assign (.Name x pos') X.env))) _ _ s
 refine Qr (Yt (wpAny_comprehension_free (use:=some (assign (.Name x pos') X.env)) (Q:=fun _ s'=>SP X pins D .next s') rfl hs (dF I.ok hsc hok) k1 k4
   (thn (hp pins s σ H _ I h) fun v s1 h1=>thn h1 fun itv s2 h2=>?_)) (fun _ s' hq=>Qc (Qc hq)) fun _ _ e=>e)
 obtain⟨it,fp,tn,J,H2,e,I2,T,st2,f2,hw⟩:=h2
 subst e
 refine dH (RR:=fun acc C=>compPost (model X.prog X.w) X.A X.xe (some (assign (.Name x pos') X.env)) (fun _ s'=>SP X pins D .next s') acc C) I2 T st2 f2 hc hsc hok hg hi he hw ?_
 intro D' C s' H' m I' q fC hn
 obtain⟨c0,c1,c2,c3,c4,c5⟩:=fC
 show wpAny _ X.A (assign (.Name x pos') X.env (.ref D')) _ _ _
 refine wpAny_assign_Name (bZ (v:=V.ref D') I' hN hx (.inl hl) rfl (fun s3 I3 hb=>?_) (.inr hl))
 obtain⟨a,sb,ha⟩:=hb
 have hCa:C≠a:=by
   rcases ha with z | z
   · rw[z];exact c1
   · exact(c4 x a z).symm
 refine⟨m,hn.sameBut sb hCa,fun h' hs'=>⟨_,H',I3.turned (t':=s3.toks) (fun b o hb e=>hs'.extBut b o hb e) c0 c1 c3 c4 c5,q⟩⟩
end
inductive KT where
 | int (i:Int) | tup (l:List KT)
instance:DecidableEq KT:=fun _ _=>Classical.propDecidable _
def zQ2:KT->Int
 | .int i=>hashInt i
 | .tup _=>0
def hK:Nat->KT->Int
 | n+1,.tup ks=>reduceHash (Builtin.Tuple.tupleHashOf (ks.map (hK n)))
 | _,k=>zQ2 k
def zSD:List KT->List Addr->List Value->List DictEntry
 | k::ks,a::as,u::us=>⟨hK 8 k,.ref a,u⟩::zSD ks as us
 | _,_,_=>[]
def zQU (a:Addr)(ks:List KT)(as:List Addr)(vs:List V):Heap->Prop:=fun h =>
 ∃us,Vals vs us/\∃o es ep,h.get? a=some o/\o.ExactDict/\o.data = .dict es ep/\es.toList=zSD ks as us
inductive D where
 | non | bl (b:Bool) | int (i:Int) | str (x:Str) | tup (ds:List D) | lst (ds:List D) | obj (c:Str) (ns:List Str) (ds:List D)
 /-- an exception of an own class -/
 | exc (c:Str) (ns:List Str) (ds:List D)
 /-- a dict whose keys are tuples of ints and texts -/
 | dct (ks:List (List Key)) (ds:List D)
 deriving Inhabited
theorem Same.tup {K:PySem.W.Frag}{H H':Hp}{a:Addr}{xs:List V}(e:Same H H')(h:SqT K H a xs):SqT K H' a xs:=by
 rcases h with(h | ⟨o,h⟩) | h
 · exact .inl (.inl (e _ _ h))
 · exact .inl (.inr ⟨o,e _ _ h⟩)
 · exact .inr h
def ClsAt (K:PySem.W.Frag)(c:Str)(C:Addr):Prop:=PySem.W.nsIn K mainGlobals c=some (some (.ref C))
theorem ClsAt.one {K:PySem.W.Frag}{c:Str}{C C':Addr}(h:ClsAt K c C)(h':ClsAt K c C'):C'=C:=by
 have:=h.symm.trans h'
 cases this;rfl
def Xe (C a:Addr)(od:Option Addr):Heap->Prop:=fun h=>∃fs,h.get? a=some { cls:=.ref C,dict:=od,data:=.fields fs }
def Xd (dx:Addr)(fs:List (Str×V)):Heap->Prop:=fun h=>∃mA,h.Ns1 dx mA/\∀f,RelO (fs.lookup f) (mA f)
def XD (G:Hp):Option Addr->List (Str×V)->Prop
 | none,fs=>fs=[]
 | some dx,fs=>G dx=some (.ext (Xd dx fs))
theorem XD.mono {G G':Hp}(e:Same G G'):∀ {od:Option Addr} {fs:List (Str×V)},XD G od fs->XD G' od fs
 | none,_,h=>h
 | some _,_,h=>e _ _ h
mutual
def Rep (K:PySem.W.Frag)(G:Hp):D->V->Prop
 | .non,v=>v = .non
 | .bl b,v=>v = .bl b
 | .int i,v=>v = .int i
 | .str x,v=>v = .str x
 | .tup ds,v=>∃a vs,v = .ref a/\SqT K G a vs/\Reps K G ds vs
 | .lst ds,v=>∃a vs,v = .ref a/\SqL K G a vs/\Reps K G ds vs
 | .obj c ns ds,v=>∃C a dx vs,ClsAt K c C/\v = .ref a/\G a=some (.ins C dx (ns.zip vs))/\ns.length=ds.length/\Reps K G ds vs
 | .exc c ns ds,v=>∃C a od vs,ClsAt K c C/\v = .ref a/\G a=some (.ext (Xe C a od))/\XD G od (ns.zip vs)/\ns.length=ds.length/\Reps K G ds vs
 | .dct ks ds,v=>∃a vs,v = .ref a/\G a=some (.dT (ks.zip vs))/\ks.length=ds.length/\Reps K G ds vs
def Reps (K:PySem.W.Frag)(G:Hp):List D->List V->Prop
 | [],vs=>vs=[]
 | d::r,vs=>∃v vr,vs=v::vr/\Rep K G d v/\Reps K G r vr
end
section
variable {K:PySem.W.Frag} {G G':Hp}
mutual
theorem Rep.mono (e:Same G G'):∀(d:D) (v:V),Rep K G d v->Rep K G' d v
 | .non,_,h=>by unfold Rep at h ⊢;exact h
 | .bl _,_,h=>by unfold Rep at h ⊢;exact h
 | .int _,_,h=>by unfold Rep at h ⊢;exact h
 | .str _,_,h=>by unfold Rep at h ⊢;exact h
 | .tup ds,_,h=>by
   unfold Rep at h ⊢
   obtain⟨a,vs,h1,h2,h3⟩:=h
   exact⟨a,vs,h1,e.tup h2,Reps.mono e ds vs h3⟩
 | .lst ds,_,h=>by
   unfold Rep at h ⊢
   obtain⟨a,vs,h1,h2,h3⟩:=h
   exact⟨a,vs,h1,e.seq h2,Reps.mono e ds vs h3⟩
 | .obj C ns ds,_,h=>by
   unfold Rep at h ⊢
   obtain⟨C,a,dx,vs,h0,h1,h2,h4,h3⟩:=h
   exact⟨C,a,dx,vs,h0,h1,e _ _ h2,h4,Reps.mono e ds vs h3⟩
 | .exc C ns ds,_,h=>by
   unfold Rep at h ⊢
   obtain⟨C,a,od,vs,h0,h1,h2,h5,h4,h3⟩:=h
   exact⟨C,a,od,vs,h0,h1,e _ _ h2,h5.mono e,h4,Reps.mono e ds vs h3⟩
 | .dct ks ds,_,h=>by
   unfold Rep at h ⊢
   obtain⟨a,vs,h1,h2,h4,h3⟩:=h
   exact⟨a,vs,h1,e _ _ h2,h4,Reps.mono e ds vs h3⟩
theorem Reps.mono (e:Same G G'):∀(ds:List D) (vs:List V),Reps K G ds vs->Reps K G' ds vs
 | [],_,h=>by unfold Reps at h ⊢;exact h
 | d::r,_,h=>by
   unfold Reps at h ⊢
   obtain⟨v,vr,h1,h2,h3⟩:=h
   exact⟨v,vr,h1,Rep.mono e d v h2,Reps.mono e r vr h3⟩
end
theorem uV {v:V}:Rep K G .non v↔v = .non:=by unfold Rep;exact Iff.rfl
theorem vD {b:Bool}{v:V}:Rep K G (.bl b) v↔v = .bl b:=by unfold Rep;exact Iff.rfl
theorem zJ {i:Int}{v:V}:Rep K G (.int i) v↔v = .int i:=by unfold Rep;exact Iff.rfl
theorem xT {x:Str}{v:V}:Rep K G (.str x) v↔v = .str x:=by unfold Rep;exact Iff.rfl
theorem xU {ds:List D}{v:V}:Rep K G (.tup ds) v↔∃a vs,v = .ref a/\SqT K G a vs/\Reps K G ds vs:=by
 constructor<;>(intro h;unfold Rep at *;exact h)
theorem yM {ds:List D}{v:V}:Rep K G (.lst ds) v↔∃a vs,v = .ref a/\SqL K G a vs/\Reps K G ds vs:=by
 constructor<;>(intro h;unfold Rep at *;exact h)
theorem oY {c:Str}{ns:List Str}{ds:List D}{v:V}:Rep K G (.obj c ns ds) v↔∃C a dx vs,ClsAt K c C/\v = .ref a/\G a=some (.ins C dx (ns.zip vs))/\ns.length=ds.length/\Reps K G ds vs:=by
 constructor<;>(intro h;unfold Rep at *;exact h)
theorem zWN {c:Str}{ns:List Str}{ds:List D}{v:V}:Rep K G (.exc c ns ds) v↔∃C a od vs,ClsAt K c C/\v = .ref a/\G a=some (.ext (Xe C a od))/\XD G od (ns.zip vs)/\ns.length=ds.length/\Reps K G ds vs:=by
 constructor<;>(intro h;unfold Rep at *;exact h)
theorem zWM {ks:List (List Key)}{ds:List D}{v:V}:Rep K G (.dct ks ds) v↔∃a vs,v = .ref a/\G a=some (.dT (ks.zip vs))/\ks.length=ds.length/\Reps K G ds vs:=by
 constructor<;>(intro h;unfold Rep at *;exact h)
theorem zN {vs:List V}:Reps K G [] vs↔vs=[]:=by unfold Reps;exact Iff.rfl
theorem zQ {d:D}{r:List D}{vs:List V}:Reps K G (d::r) vs↔∃v vr,vs=v::vr/\Rep K G d v/\Reps K G r vr:=by
 rw[Reps]
theorem Reps.length:∀ {ds:List D} {vs:List V},Reps K G ds vs->ds.length=vs.length
 | [],_,h=>by rw[zN] at h;rw[h];rfl
 | d::r,_,h=>by
   rw[zQ] at h
   obtain⟨v,vr,rfl,_,h3⟩:=h
   rw[Qh,Qh,Reps.length h3]
theorem Reps.get:∀ {ds:List D} {vs:List V} {i:Nat} {d:D},Reps K G ds vs->ds[i]?=some d->∃v,vs[i]?=some v/\Rep K G d v
 | [],_,_,_,_,e=>by simp at e
 | d::r,_,0,_,h,e=>by
   rw[zQ] at h
   obtain⟨v,vr,rfl,h2,h3⟩:=h
   simp at e;subst e
   exact⟨v,rfl,h2⟩
 | d::r,_,i+1,_,h,e=>by
   rw[zQ] at h
   obtain⟨v,vr,rfl,h2,h3⟩:=h
   obtain⟨u,e1,e2⟩:=Reps.get h3 (by simpa using e)
   exact⟨u,by simpa using e1,e2⟩
theorem Reps.snoc:∀ {ds:List D} {vs:List V} {d:D} {v:V},Reps K G ds vs->Rep K G d v->Reps K G (ds++[d]) (vs++[v])
 | [],_,d,v,h,r=>by
   rw[zN] at h;subst h
   exact zQ.mpr ⟨v,[],rfl,r,zN.mpr rfl⟩
 | e::t,_,d,v,h,r=>by
   rw[zQ] at h
   obtain⟨u,vr,rfl,h2,h3⟩:=h
   exact zQ.mpr ⟨u,vr++[v],rfl,h2,h3.snoc r⟩
theorem Reps.append:∀ {ds es:List D} {vs us:List V},Reps K G ds vs->Reps K G es us->Reps K G (ds++es) (vs++us)
 | [],_,_,_,h,r=>by rw[zN] at h;subst h;exact r
 | e::t,_,_,us,h,r=>by
   rw[zQ] at h
   obtain⟨u,vr,rfl,h2,h3⟩:=h
   exact zQ.mpr ⟨u,vr++us,rfl,h2,h3.append r⟩
theorem Reps.take:∀ {ds:List D} {vs:List V} (n:Nat),Reps K G ds vs->Reps K G (ds.take n) (vs.take n)
 | _,_,0,_=>by rw[Om,Om];exact zN.mpr rfl
 | [],_,_+1,h=>by rw[zN] at h;subst h;exact zN.mpr rfl
 | e::t,_,n+1,h=>by
   rw[zQ] at h
   obtain⟨u,vr,rfl,h2,h3⟩:=h
   exact zQ.mpr ⟨u,vr.take n,rfl,h2,h3.take n⟩
theorem Reps.drop:∀ {ds:List D} {vs:List V} (n:Nat),Reps K G ds vs->Reps K G (ds.drop n) (vs.drop n)
 | _,_,0,h=>h
 | [],_,_+1,h=>by rw[zN] at h;subst h;exact zN.mpr rfl
 | e::t,_,n+1,h=>by
   rw[zQ] at h
   obtain⟨u,vr,rfl,h2,h3⟩:=h
   exact h3.drop n
theorem Reps.erase:∀ {ds:List D} {vs:List V} (i:Nat),Reps K G ds vs->Reps K G (ds.eraseIdx i) (vs.eraseIdx i)
 | [],_,_,h=>by rw[zN] at h;subst h;exact zN.mpr rfl
 | e::t,_,0,h=>by
   rw[zQ] at h
   obtain⟨u,vr,rfl,h2,h3⟩:=h
   exact h3
 | e::t,_,i+1,h=>by
   rw[zQ] at h
   obtain⟨u,vr,rfl,h2,h3⟩:=h
   exact zQ.mpr ⟨u,vr.eraseIdx i,rfl,h2,h3.erase i⟩
end
def zZ9:HO->Bool | .tup _=>false | _=>true
structure Step (G H G' H':Hp):Prop where
 hh:Same H H'
 gg:Same G G'
 sub:Same G' H'
 new:∀a o,H a=some o->zZ9 o=true->G' a=G a
theorem Step.refl {G H:Hp}(h:Same G H):Step G H G H:=⟨Same.refl _,Same.refl _,h,fun _ _ _ _=>rfl⟩
theorem Step.trans {G H G1 H1 G2 H2:Hp}(a:Step G H G1 H1)(b:Step G1 H1 G2 H2):Step G H G2 H2 :=
 ⟨a.hh.trans b.hh,a.gg.trans b.gg,b.sub,fun c o hc hn=>(b.new c o (a.hh _ _ hc) hn).trans (a.new c o hc hn)⟩
theorem Same.new {H:Hp}{p:Addr}{o:HO}(hp:H p=none):Same H (upd H p o):=fun b u e=>by rw[zP (z8 e hp)];exact e
theorem Step.laid {G H:Hp}{p:Addr}{o:HO}(s:Same G H)(hp:H p=none):Step G H (upd G p o) (upd H p o):=by
 refine⟨Same.new hp,Same.new (s.free hp),fun b u e=>?_,fun a o' ha hn=>?_⟩
 · by_cases hb:b=p
   · subst hb;rw[zM] at e ⊢;exact e
   · rw[zP hb] at e ⊢;exact s b u e
 · exact zP (fun z:a=p=>by rw[z,hp] at ha;cases ha)
theorem Step.own {G H:Hp}{p:Addr}{o:HO}(s:Same G H)(hp:H p=none):Step G H G (upd H p o) :=
 ⟨Same.new hp,Same.refl _,s.trans (Same.new hp),fun _ _ _ _=>rfl⟩
theorem Step.frz {G H G' H':Hp}{p:Addr}{o:HO}(s:Step G H G' H')(hp:H p=none)(h':H' p=some o)(g':G' p=none):Step G H (upd G' p o) H':=by
 refine⟨s.hh,s.gg.trans (Same.new g'),fun b u e=>?_,fun a o' ha hn=>?_⟩
 · by_cases hb:b=p
   · subst hb;rw[zM] at e;rw[h'];exact e
   · rw[zP hb] at e;exact s.sub b u e
 · rw[zP (fun z:a=p=>by rw[z,hp] at ha;cases ha)];exact s.new a o' ha hn
inductive B where
 | no | fz (d:D) | ow (ds:List D)
 /-- a dict of its own: keys and values -/
 | od (kvs:List (D×D))
 /-- a thing of its own that may change: an object, a dict -/
 | mu (d:D)
 deriving Inhabited
def zQ4 (f:D->Option KT):List D->Option (List KT)
 | []=>some []
 | d::r=>(f d).bind fun k=>(zQ4 f r).map fun ks=>k::ks
def ktD:Nat->D->Option KT
 | _,.int i=>some (.int i)
 | _,.bl b=>some (.int (if b then 1 else 0))
 | n+1,.tup ds=>(zQ4 (ktD n) ds).map .tup
 | _,_=>none
inductive ODs (K:PySem.W.Frag)(G:Hp):List (D×D)->List KT->List Addr->List V->Prop
 | nil:ODs K G [] [] [] []
 | cons {d e:D} {k:KT} {a:Addr} {v:V} {kvs:List (D×D)} {ks:List KT} {as:List Addr} {vs:List V}:ktD 8 d=some k->Rep K G d (.ref a)->Rep K G e v->ODs K G kvs ks as vs->ODs K G ((d,e)::kvs) (k::ks) (a::as) (v::vs)
theorem ODs.mono {K:PySem.W.Frag}{G G':Hp}(h:Same G G'):∀ {kvs ks as vs},ODs K G kvs ks as vs->ODs K G' kvs ks as vs
 | _,_,_,_,.nil=>.nil
 | _,_,_,_,.cons h1 h2 h3 h4=>.cons h1 (h2.mono h) (h3.mono h) (ODs.mono h h4)
def RepO (K:PySem.W.Frag)(G:Hp)(o:HO):D->Prop
 | .obj c ns ds=>∃C dx vs,ClsAt K c C/\o = .ins C dx (ns.zip vs)/\ns.length=ds.length/\Reps K G ds vs
 | .dct ks ds=>∃vs,o = .dT (ks.zip vs)/\ks.length=ds.length/\Reps K G ds vs
 | _=>False
theorem RepO.mono {K:PySem.W.Frag}{G G':Hp}{o:HO}(e:Same G G'):∀ {d:D},RepO K G o d->RepO K G' o d
 | .obj _ _ _,⟨C,dx,vs,h1,h2,h3,h4⟩=>⟨C,dx,vs,h1,h2,h3,h4.mono e⟩
 | .dct _ _,⟨vs,h1,h2,h3⟩=>⟨vs,h1,h2,h3.mono e⟩
theorem RepO.two {K:PySem.W.Frag}{G:Hp}{o:HO}:∀ {d:D},RepO K G o d->(∃C dx fs,o = .ins C dx fs)∨∃kvs,o = .dT kvs
 | .obj _ _ _,⟨C,dx,vs,_,h2,_⟩=>.inl ⟨C,dx,_,h2⟩
 | .dct _ _,⟨vs,h1,_⟩=>.inr ⟨_,h1⟩
theorem RepO.nl {K:PySem.W.Frag}{G:Hp}{us:List V}{d:D}(h:RepO K G (.lst us) d):False:=by
 rcases h.two with⟨_,_,_,z⟩ | ⟨_,z⟩<;>cases z
theorem RepO.nt {K:PySem.W.Frag}{G:Hp}{o:HO}{d:D}(h:RepO K G o d):zZ9 o=true:=by
 rcases h.two with⟨_,_,_,z⟩ | ⟨_,z⟩<;>(subst z;rfl)
theorem RepO.nx {K:PySem.W.Frag}{G:Hp}{φ:Heap->Prop}{d:D}(h:RepO K G (.ext φ) d):False:=by
 rcases h.two with⟨_,_,_,z⟩ | ⟨_,z⟩<;>cases z
inductive RB (K:PySem.W.Frag)(H0 G H:Hp):Option V->B->Prop where
 | no {o:Option V}:RB K H0 G H o .no
 | fz {v:V} {d:D}:Rep K G d v->RB K H0 G H (some v) (.fz d)
 | ow {a:Addr} {vs:List V} {ds:List D}:H a=some (.lst vs)->G a=none->H0 a=none->Reps K G ds vs->RB K H0 G H (some (.ref a)) (.ow ds)
 | od {a:Addr} {kvs:List (D×D)} {ks:List KT} {as:List Addr} {vs:List V}:H a=some (.ext (zQU a ks as vs))->G a=none->H0 a=none->ODs K G kvs ks as vs->ks.Nodup->(a==sysModules)=false->RB K H0 G H (some (.ref a)) (.od kvs)
 | mu {a:Addr} {o:HO} {d:D}:H a=some o->G a=none->H0 a=none->RepO K G o d->RB K H0 G H (some (.ref a)) (.mu d)
def pS:B->Bool | .ow _=>true | .mu _=>true | _=>false
structure Good (K:PySem.W.Frag)(G0 H0 G H:Hp)(σ:St)(ρ:List B):Prop where
 st:Step G0 H0 G H
 vals:Paired (RB K H0 G H) σ ρ
 apart:∀(i j:Nat) (a:Addr) (b c:B),ρ[i]?=some b->ρ[j]?=some c->pS b=true->pS c=true->σ[i]?=some (some (.ref a))->σ[j]?=some (some (.ref a))->i=j
theorem Paired.get {α β:Type}{F:α->β->Prop}:∀ {l:List α} {r:List β} {i:Nat} {b:β},Paired F l r->r[i]?=some b->∃a,l[i]?=some a/\F a b
 | _,_,_,_,.nil,e=>by simp at e
 | _,_,0,_,.cons h _,e=>by simp at e;subst e;exact⟨_,rfl,h⟩
 | _,_,i+1,b,.cons _ t,e=>by
   obtain⟨a,h1,h2⟩:=Paired.get (i:=i) (b:=b) t (by simpa using e)
   exact⟨a,by simpa using h1,h2⟩
theorem Paired.set {α β:Type}{F:α->β->Prop}{a:α}{b:β}(h:F a b):∀ {l:List α} {r:List β} (i:Nat),Paired F l r->Paired F (l.set i a) (r.set i b)
 | _,_,_,.nil=>.nil
 | _,_,0,.cons _ t=>.cons h t
 | _,_,i+1,.cons q t=>.cons q (Paired.set h i t)
theorem RB.step {K:PySem.W.Frag}{H0 G H G' H':Hp}{o:Option V}{b:B}(r:RB K H0 G H o b)(s:Step G H G' H'):RB K H0 G' H' o b:=by
 cases r with
 | no=>exact .no
 | fz q=>exact .fz (q.mono s.gg)
 | ow h1 h2 h3 h4=>exact .ow (s.hh _ _ h1) ((s.new _ _ h1 rfl).trans h2) h3 (h4.mono s.gg)
 | od h1 h2 h3 h4 h5 h6=>exact .od (s.hh _ _ h1) ((s.new _ _ h1 rfl).trans h2) h3 (h4.mono s.gg) h5 h6
 | mu h1 h2 h3 h4=>exact .mu (s.hh _ _ h1) ((s.new _ _ h1 h4.nt).trans h2) h3 (h4.mono s.gg)
theorem Good.step {K:PySem.W.Frag}{G0 H0 G H G' H':Hp}{σ:St}{ρ:List B}(g:Good K G0 H0 G H σ ρ)(s:Step G H G' H'):Good K G0 H0 G' H' σ ρ :=
 ⟨g.st.trans s,Paired.mapP g.vals fun _ _ r=>r.step s,g.apart⟩
theorem Good.sub {K:PySem.W.Frag}{G0 H0 G H:Hp}{σ:St}{ρ:List B}(g:Good K G0 H0 G H σ ρ):Same G H:=g.st.sub
abbrev Ef:=List B->Option D
def tF (K:PySem.W.Frag)(f:Ef):TE:=fun σ H Q=>∃G0 H0 G ρ d,Good K G0 H0 G H σ ρ/\f ρ=some d/\∀v H' G',Step G H G' H'->Rep K G' d v->Q v H'
def PF (X:Cx)(e:Expr)(f:Ef):Prop:=PE X e (tF X.K f)
theorem PE.to {X:Cx}{e:Expr}{t:TE}{f:Ef}(h:PE X e t)(imp:∀σ H Q,tF X.K f σ H Q->t σ H Q):PF X e f:=fun pins s σ H Q I q=>h pins s σ H Q I (imp σ H Q q)
abbrev Lf:=List B->Option (List D)
def tFr (K:PySem.W.Frag)(f:Lf):TE:=fun σ H Q=>∃G0 H0 G ρ ds,Good K G0 H0 G H σ ρ/\f ρ=some ds/\∀a vs H' G',Step G H G' H'->H a=none->H' a=some (.lst vs)->G' a=none->Reps K G' ds vs->Q (.ref a) H'
def PFr (X:Cx)(e:Expr)(f:Lf):Prop:=PE X e (tFr X.K f)
theorem PE.toR {X:Cx}{e:Expr}{t:TE}{f:Lf}(h:PE X e t)(imp:∀σ H Q,tFr X.K f σ H Q->t σ H Q):PFr X e f:=fun pins s σ H Q I q=>h pins s σ H Q I (imp σ H Q q)
def eL (f:Lf):Ef:=fun ρ=>(f ρ).map .lst
theorem wO {X:Cx}{e:Expr}{f:Lf}(h:PFr X e f):PF X e (eL f):=by
 refine PE.to h ?_
 rintro σ H Q ⟨G0,H0,G,ρ,d,good,hf,k⟩
 unfold eL at hf
 obtain⟨ds,h1,rfl⟩:=Qy.mp hf
 refine⟨G0,H0,G,ρ,ds,good,h1,fun a vs H' G' s hn ha ga rs=>?_⟩
 exact k _ _ (upd G' a (.lst vs)) (s.frz hn ha ga) (yM.mpr ⟨a,vs,rfl,.of zM,rs.mono (Same.new ga)⟩)
abbrev Tf:=List B->Option Bool
def tFT (K:PySem.W.Frag)(f:Tf):TT:=fun σ H Q=>∃G0 H0 G ρ b,Good K G0 H0 G H σ ρ/\f ρ=some b/\∀H' G',Step G H G' H'->Q b H'
def PFT (X:Cx)(e:Expr)(f:Tf):Prop:=PT X e (tFT X.K f)
theorem PT.to {X:Cx}{e:Expr}{t:TT}{f:Tf}(h:PT X e t)(imp:∀σ H Q,tFT X.K f σ H Q->t σ H Q):PFT X e f:=fun pins s σ H Q I q=>h pins s σ H Q I (imp σ H Q q)
def PFW (X:Cx)(e:Expr)(f:Tf):Prop:=PW X e (tFT X.K f)
def tFA (K:PySem.W.Frag)(f:Lf):TA:=fun σ H Q=>∃G0 H0 G ρ ds,Good K G0 H0 G H σ ρ/\f ρ=some ds/\∀vs H' G',Step G H G' H'->Reps K G' ds vs->Q vs H'
def PFA (X:Cx)(es:List Expr)(f:Lf):Prop:=PA X es (tFA X.K f)
theorem PA.to {X:Cx}{es:List Expr}{t:TA}{f:Lf}(h:PA X es t)(imp:∀σ H Q,tFA X.K f σ H Q->t σ H Q):PFA X es f:=fun pos pins s σ H Q I q=>h pos pins s σ H Q I (imp σ H Q q)
section
variable {X:Cx} {a b c e:Expr} {es:List Expr} {fa fb:Ef} {ga:Lf} {ta tb:Tf} {pos:Pos}
def zVp (ρ:List B)(i:Nat):Option D:=match ρ[i]? with | some (.fz d)=>some d | _=>none
def eV (i:Nat):Ef:=fun ρ=>zVp ρ i
theorem zWi {K:PySem.W.Frag}{G0 H0 G H:Hp}{σ:St}{ρ:List B}{i:Nat}{d:D}(g:Good K G0 H0 G H σ ρ)(h:zVp ρ i=some d):∃v,σ[i]?=some (some v)/\Rep K G d v:=by
 unfold zVp at h
 split at h
 · rename_i d' e
   cases h
   obtain⟨o,h1,r⟩:=Paired.get g.vals e
   cases r with
   | fz r=>exact⟨_,h1,r⟩
 · cases h
theorem zW (i:Nat){x:Str}(hN:X.N[i]?=some x:=by rfl)(hv:Vis X.env.scope x:=by first | exact Or.inl rfl | exact Or.inr (Or.inl rfl) | exact Or.inr (Or.inr rfl))(hd:(x==("__debug__":Str))=false:=by decide)(hcd:(x==("__classdict__":Str))=false:=by decide):PF X (.Name x pos) (eV i):=by
 refine PE.to (oP hN hv hd hcd) ?_
 rintro σ H Q ⟨G0,H0,G,ρ,d,good,hf,k⟩
 obtain⟨v,h1,r⟩:=zWi good hf
 exact⟨v,h1,k v H G (.refl good.sub) r⟩
def eC (d:D):Ef:=fun _=>some d
theorem aE {v:V}{d:D}(h:PE X e (tC v))(r:∀G,Rep X.K G d v):PF X e (eC d):=by
 refine PE.to h ?_
 rintro σ H Q ⟨G0,H0,G,ρ,d',good,hf,k⟩
 cases hf
 exact k v H G (.refl good.sub) (r G)
theorem zS {i:Int}{j:Nat}:PF X (.Constant (.int i) j pos) (eC (.int i)):=aE zRz fun _=>zJ.mpr rfl
theorem uF {i:Bool}{j:Nat}:PF X (.Constant (.bool i) j pos) (eC (.bl i)):=aE zQv fun _=>vD.mpr rfl
theorem tJ {j:Nat}:PF X (.Constant .none j pos) (eC .non):=aE zU7 fun _=>uV.mpr rfl
theorem nL {x:Str}{j:Nat}:PF X (.Constant (.str x) j pos) (eC (.str x)):=aE zRC fun _=>xT.mpr rfl
def eI (C:Int->Int->Bool)(g:Int->Int->Int)(fa fb:Ef):Ef:=fun ρ=>(fa ρ).bind fun x=>(fb ρ).bind fun y=>match x,y with | .int i,.int j=>if C i j then some (.int (g i j)) else none | _,_=>none
theorem zVw {C:Int->Int->Bool}{g:Int->Int->Int}{ρ:List B}{d:D}(h:eI C g fa fb ρ=some d):∃i j,fa ρ=some (.int i)/\fb ρ=some (.int j)/\C i j=true/\d = .int (g i j):=by
 unfold eI at h
 obtain⟨x,h1,h⟩:=Qq.mp h
 obtain⟨y,h2,h⟩:=Qq.mp h
 cases x with
 | int i =>
   cases y with
   | int j =>
     dsimp only at h
     split at h
     · rename_i hc;cases h;exact⟨i,j,h1,h2,hc,rfl⟩
     · cases h
   | _=>cases h
 | _=>cases h
theorem zTg {op:Operator}{C:Int->Int->Bool}{P:Int->Int->Prop}{g:Int->Int->Int}(ho:OpR X (binaryOp op) (rI P fun i j=>.int (g i j)))(hP:∀i j,C i j=true->P i j)(ha:PF X a fa)(hb:PF X b fb):PF X (.BinOp a op b pos) (eI C g fa fb):=by
 refine PE.to (zY2 ho ha hb) ?_
 rintro σ H Q ⟨G0,H0,G,ρ,d,good,hf,k⟩
 obtain⟨i,j,h1,h2,hc,rfl⟩:=zVw hf
 refine⟨G0,H0,G,ρ,_,good,h1,fun x H1 G1 s1 r1=>⟨G0,H0,G1,ρ,_,good.step s1,h2,fun y H2 G2 s2 r2=>?_⟩⟩
 exact⟨i,j,zJ.mp r1,zJ.mp r2,hP i j hc,k _ _ G2 (s1.trans s2) (zJ.mpr rfl)⟩
theorem zS7 {op:Operator}{g:Int->Int->Int}(ho:OpR X (binaryOp op) (rI0 fun i j=>.int (g i j)))(ha:PF X a fa)(hb:PF X b fb):PF X (.BinOp a op b pos) (eI (fun _ _=>true) g fa fb):=by
 refine PE.to (zY2 ho ha hb) ?_
 rintro σ H Q ⟨G0,H0,G,ρ,d,good,hf,k⟩
 obtain⟨i,j,h1,h2,hc,rfl⟩:=zVw hf
 refine⟨G0,H0,G,ρ,_,good,h1,fun x H1 G1 s1 r1=>⟨G0,H0,G1,ρ,_,good.step s1,h2,fun y H2 G2 s2 r2=>?_⟩⟩
 exact⟨i,j,zJ.mp r1,zJ.mp r2,k _ _ G2 (s1.trans s2) (zJ.mpr rfl)⟩
abbrev qV:=eI (fun _ _=>true) (fun i j=>i+j)
abbrev zZN:=eI (fun _ _=>true) (fun i j=>i - j)
def zZ8 (i j:Int):Bool:=(decide (-(2^64) < i)&&decide (i < 2^64))||(decide (-(2^64) < j)&&decide (j < 2^64))
abbrev zVT:=eI zZ8 (fun i j=>i*j)
def zRm (_ j:Int):Bool:=decide (0 < j)&&decide (j < 1073741824)
abbrev lW:=eI zRm (fun i j=>i / j)
abbrev tH:=eI (fun _ j=>decide (0 < j)) (fun i j=>i % j)
def zWo (i j:Int):Bool:=decide (0<=j)&&decide (j<=1000000)&&decide (i.natAbs < 2^64)
abbrev zT9:=eI zWo (fun i j=>i^j.toNat)
theorem vQ (ha:PF X a fa)(hb:PF X b fb):PF X (.BinOp a .Add b pos) (qV fa fb):=zS7 zUF ha hb
theorem iP (ha:PF X a fa)(hb:PF X b fb):PF X (.BinOp a .Sub b pos) (zZN fa fb):=zS7 zSh ha hb
theorem fA (ha:PF X a fa)(hb:PF X b fb):PF X (.BinOp a .Mult b pos) (zVT fa fb):=zTg zRx (fun i j h=>by
 unfold zZ8 at h
 simp only[Tt,Ee,Ry] at h
 exact h) ha hb
theorem qQ (ha:PF X a fa)(hb:PF X b fb):PF X (.BinOp a .FloorDiv b pos) (lW fa fb):=zTg zT4 (fun i j h=>by
 unfold zRm at h
 simp only[Ee,Ry] at h
 exact h) ha hb
theorem wV (ha:PF X a fa)(hb:PF X b fb):PF X (.BinOp a .Mod b pos) (tH fa fb):=zTg zSe (fun i j h=>of_decide_eq_true h) ha hb
theorem zTS {i j:Int}(h:zWo i j=true):zQE i j:=by
 unfold zWo at h
 simp only[Ee,Ry] at h
 exact⟨h.1.1,h.1.2,h.2⟩
theorem zV0 (ha:PF X a fa)(hb:PF X b fb):PF X (.BinOp a .Pow b pos) (zT9 fa fb):=zTg zRH (fun i j h=>zTS h) ha hb
def eB2 (g:D->D->Option Bool)(fa fb:Ef):Tf:=fun ρ=>(fa ρ).bind fun x=>(fb ρ).bind fun y=>g x y
def zSU (t:Tf):Ef:=fun ρ=>(t ρ).map .bl
def gLt:D->D->Option Bool | .int i,.int j=>some (decide (i < j)) | _,_=>none
def gLe:D->D->Option Bool | .int i,.int j=>some (decide (i<=j)) | _,_=>none
def gGt:D->D->Option Bool | .int i,.int j=>some (decide (j < i)) | _,_=>none
def gEq:D->D->Option Bool
 | .int i,.int j=>some (decide (i=j))
 | .bl i,.bl j=>some (decide (i=j))
 | .str i,.str j=>some (decide (i=j))
 | _,_=>none
def gNe (x y:D):Option Bool:=(gEq x y).map (!·)
def CmR (X:Cx)(op:CmpOp)(g:D->D->Option Bool):Prop:=∃r:R2,OpR X (compareOp op) r/\∀(d d':D) (k:Bool) (G H:Hp) (x y:V) (Q:VK),g d d'=some k->Same G H->Rep X.K G d x->Rep X.K G d' y->(∀H' G',Step G H G' H'->Q (.bl k) H')->r x y H Q
theorem zXU {op:CmpOp}{p:Int->Int->Bool}{g:D->D->Option Bool}(ho:OpR X (compareOp op) (rI0 fun i j=>.bl (p i j)))(hg:∀d d' k,g d d'=some k->∃i j,d = .int i/\d' = .int j/\k=p i j):CmR X op g:=by
 refine⟨_,ho,fun d d' k G H x y Q h s rx ry q=>?_⟩
 obtain⟨i,j,rfl,rfl,rfl⟩:=hg d d' k h
 exact⟨i,j,zJ.mp rx,zJ.mp ry,q H G (.refl s)⟩
theorem zW3:CmR X .Lt gLt:=zXU zQy fun d d' k h=>by unfold gLt at h;split at h<;>cases h;exact⟨_,_,rfl,rfl,rfl⟩
theorem zQA:CmR X .LtE gLe:=zXU zQ1 fun d d' k h=>by unfold gLe at h;split at h<;>cases h;exact⟨_,_,rfl,rfl,rfl⟩
theorem zQN:CmR X .Gt gGt:=zXU zRh fun d d' k h=>by unfold gGt at h;split at h<;>cases h;exact⟨_,_,rfl,rfl,rfl⟩
theorem zUj {d d':D}{k:Bool}{K:PySem.W.Frag}{G:Hp}{x y:V}(h:gEq d d'=some k)(rx:Rep K G d x)(ry:Rep K G d' y):zSv x y=true/\decide (x=y)=k:=by
 unfold gEq at h
 split at h
 · cases h;rw[zJ] at rx ry;subst rx;subst ry;exact⟨rfl,by simp⟩
 · cases h;rw[vD] at rx ry;subst rx;subst ry;exact⟨rfl,by simp⟩
 · cases h;rw[xT] at rx ry;subst rx;subst ry;exact⟨rfl,by simp⟩
 · cases h
theorem cC:CmR X .Eq gEq:=⟨_,zQw,fun d d' k G H x y Q h s rx ry q=>by
 obtain⟨h1,h2⟩:=zUj h rx ry
 exact⟨h1,by rw[h2];exact q H G (.refl s)⟩⟩
theorem zWW:CmR X .NotEq gNe:=⟨_,zQ8,fun d d' k G H x y Q h s rx ry q=>by
 unfold gNe at h
 obtain⟨k',h',rfl⟩:=Qy.mp h
 obtain⟨h1,h2⟩:=zUj h' rx ry
 exact⟨h1,by rw[h2];exact q H G (.refl s)⟩⟩
theorem zT7 {g:D->D->Option Bool}{ρ:List B}{k:Bool}(h:eB2 g fa fb ρ=some k):∃x y,fa ρ=some x/\fb ρ=some y/\g x y=some k:=by
 unfold eB2 at h
 obtain⟨x,h1,h⟩:=Qq.mp h
 obtain⟨y,h2,h⟩:=Qq.mp h
 exact⟨x,y,h1,h2,h⟩
theorem zUe {t:Tf}{ρ:List B}{d:D}(h:zSU t ρ=some d):∃k,t ρ=some k/\d = .bl k:=by
 unfold zSU at h
 obtain⟨k,h1,rfl⟩:=Qy.mp h
 exact⟨k,h1,rfl⟩
theorem zB {op:CmpOp}{g:D->D->Option Bool}(hc:CmR X op g)(ha:PF X a fa)(hb:PF X b fb)(hm:behindInMarks op b=false:=by first | exact zSl _ | (with_unfolding_all rfl)):PFT X (.Compare a [op] [b] pos) (eB2 g fa fb):=by
 obtain⟨r,ho,hr⟩:=hc
 refine PT.to (zTK ho ha hb hm) ?_
 rintro σ H Q ⟨G0,H0,G,ρ,c,good,hf,k⟩
 obtain⟨x,y,h1,h2,h3⟩:=zT7 hf
 refine⟨G0,H0,G,ρ,_,good,h1,fun u H1 G1 s1 r1=>⟨G0,H0,G1,ρ,_,good.step s1,h2,fun v H2 G2 s2 r2=>?_⟩⟩
 exact hr x y c G2 H2 u v _ h3 s2.sub (r1.mono s2.gg) r2 fun H' G' s3=>⟨c,rfl,k _ G' ((s1.trans s2).trans s3)⟩
def oE:D->Bool | .non=>true | _=>false
theorem aZ {K:PySem.W.Frag}{G:Hp}{d:D}{v:V}(r:Rep K G d v):decide (v = .non)=oE d:=by
 cases d with
 | non=>rw[uV] at r;subst r;rfl
 | bl b=>rw[vD] at r;subst r;simp[oE]
 | int b=>rw[zJ] at r;subst r;simp[oE]
 | str b=>rw[xT] at r;subst r;simp[oE]
 | tup ds=>obtain⟨p,_,rfl,_⟩:=xU.mp r;simp[oE]
 | lst ds=>obtain⟨p,_,rfl,_⟩:=yM.mp r;simp[oE]
 | obj C ns ds=>obtain⟨_,p,_,_,_,rfl,_⟩:=oY.mp r;simp[oE]
 | exc C ns ds=>obtain⟨_,p,_,_,_,rfl,_⟩:=zWN.mp r;simp[oE]
 | dct ks ds=>obtain⟨p,_,rfl,_⟩:=zWM.mp r;simp[oE]
def zXW:D->D->Option Bool | d,.non=>some (!oE d) | _,_=>none
theorem zUO:CmR X .IsNot zXW:=⟨_,zT5,fun d d' k G H x y Q h s rx ry q=>by
 unfold zXW at h
 split at h
 · cases h
   refine⟨uV.mp ry,?_⟩
   rw[aZ rx];exact q H G (.refl s)
 · cases h⟩
def tB1 (f:Ef):Tf:=fun ρ=>(f ρ).bind fun x=>match x with | .bl k=>some k | _=>none
theorem aP {f:Ef}{ρ:List B}{k:Bool}(h:tB1 f ρ=some k):f ρ=some (.bl k):=by
 unfold tB1 at h
 obtain⟨x,h1,h⟩:=Qq.mp h
 split at h
 · cases h;exact h1
 · cases h
theorem yL (ha:PF X a fa)(he:∀whole,isTrue a X.env whole=(do let v ←whole;standAt a.pos;holding [v] (truthy v)):=by intro _;rfl):PFT X a (tB1 fa):=by
 refine PT.to (zSw ha he) ?_
 rintro σ H Q ⟨G0,H0,G,ρ,c,good,hf,k⟩
 exact⟨G0,H0,G,ρ,_,good,aP hf,fun u H1 G1 s1 r1=>⟨c,vD.mp r1,k _ G1 s1⟩⟩
def z6 (t:Tf):Tf:=fun ρ=>(t ρ).map (!·)
def sT (t u:Tf):Tf:=fun ρ=>(t ρ).bind fun c=>if c=true then u ρ else some false
def oV (t u:Tf):Tf:=fun ρ=>(t ρ).bind fun c=>if c=true then some true else u ρ
theorem yA (ha:PFT X a ta):PFT X (.UnaryOp .Not a pos) (z6 ta):=by
 refine PT.to (zRy ha) ?_
 rintro σ H Q ⟨G0,H0,G,ρ,c,good,hf,k⟩
 unfold z6 at hf
 obtain⟨c',h1,rfl⟩:=Qy.mp hf
 exact⟨G0,H0,G,ρ,_,good,h1,fun H1 G1 s1=>k _ G1 s1⟩
theorem PW.to {t:TT}{f:Tf}(h:PW X e t)(imp:∀σ H Q,tFT X.K f σ H Q->t σ H Q):PFW X e f:=fun whole pins s σ H Q I q=>h whole pins s σ H Q I (imp σ H Q q)
theorem kB (ha:PFT X a ta):PFW X (.BoolOp .And [a] pos) ta:=zSZ ha
theorem uA (ha:PFT X a ta):PFW X (.BoolOp .Or [a] pos) ta:=zRs ha
theorem fW {rest:List Expr}(ha:PFT X a ta)(hb:PFW X (.BoolOp .And (b::rest) pos) tb):PFW X (.BoolOp .And (a::b::rest) pos) (sT ta tb):=by
 refine PW.to (zRA ha hb) ?_
 rintro σ H Q ⟨G0,H0,G,ρ,c,good,hf,k⟩
 unfold sT at hf
 obtain⟨c',h1,hf⟩:=Qq.mp hf
 refine⟨G0,H0,G,ρ,_,good,h1,fun H1 G1 s1=>?_⟩
 split at hf
 · rename_i h;rw[Qo h];exact⟨G0,H0,G1,ρ,c,good.step s1,hf,fun H2 G2 s2=>k _ G2 (s1.trans s2)⟩
 · rename_i h;rw[Qs h];cases hf;exact k _ G1 s1
theorem uK {rest:List Expr}(ha:PFT X a ta)(hb:PFW X (.BoolOp .Or (b::rest) pos) tb):PFW X (.BoolOp .Or (a::b::rest) pos) (oV ta tb):=by
 refine PW.to (zQX ha hb) ?_
 rintro σ H Q ⟨G0,H0,G,ρ,c,good,hf,k⟩
 unfold oV at hf
 obtain⟨c',h1,hf⟩:=Qq.mp hf
 refine⟨G0,H0,G,ρ,_,good,h1,fun H1 G1 s1=>?_⟩
 split at hf
 · rename_i h;rw[Qo h];cases hf;exact k _ G1 s1
 · rename_i h;rw[Qs h];exact⟨G0,H0,G1,ρ,c,good.step s1,hf,fun H2 G2 s2=>k _ G2 (s1.trans s2)⟩
theorem jG (h:PFW X e ta):PFT X e ta:=h.pt
theorem zU8 {op:BoolOp}(h:PF X a fa):PF X (.BoolOp op [a] pos) fa:=zRJ h
def zXi (fa fb:Ef):Ef:=fun ρ=>(tB1 fa ρ).bind fun c=>if c=true then fb ρ else some (.bl false)
theorem zUr {rest:List Expr}(ha:PF X a fa)(hb:PF X (.BoolOp .And (b::rest) pos) fb):PF X (.BoolOp .And (a::b::rest) pos) (zXi fa fb):=by
 refine PE.to (zRE ha hb) ?_
 rintro σ H Q ⟨G0,H0,G,ρ,d,good,hf,k⟩
 obtain⟨c,h1,hf⟩:=Qq.mp hf
 refine⟨G0,H0,G,ρ,_,good,aP h1,fun u H1 G1 s1 r1=>⟨c,vD.mp r1,?_⟩⟩
 split at hf
 · rename_i h;rw[Qo h];exact⟨G0,H0,G1,ρ,d,good.step s1,hf,fun v H2 G2 s2 r2=>k _ _ G2 (s1.trans s2) r2⟩
 · rename_i h;rw[Qs h];cases hf;exact k _ _ G1 s1 (vD.mpr rfl)
theorem zSr (ha:PF X a fa):PF X (.UnaryOp .Not a pos) (zSU (z6 (tB1 fa))):=by
 refine PE.to (zRZ ha) ?_
 rintro σ H Q ⟨G0,H0,G,ρ,d,good,hf,k⟩
 obtain⟨c,hf2,rfl⟩:=zUe hf
 unfold z6 at hf2
 obtain⟨c',h1,rfl⟩:=Qy.mp hf2
 exact⟨G0,H0,G,ρ,_,good,aP h1,fun u H1 G1 s1 r1=>⟨c',vD.mp r1,k _ _ G1 s1 (vD.mpr rfl)⟩⟩
def eIf (t:Tf)(fa fb:Ef):Ef:=fun ρ=>(t ρ).bind fun c=>if c=true then fa ρ else fb ρ
theorem zUp (ht:PFT X c ta)(ha:PF X a fa)(hb:PF X b fb):PF X (.IfExp c a b pos) (eIf ta fa fb):=by
 refine PE.to (zUT ht ha hb) ?_
 rintro σ H Q ⟨G0,H0,G,ρ,d,good,hf,k⟩
 unfold eIf at hf
 obtain⟨c',h1,hf⟩:=Qq.mp hf
 refine⟨G0,H0,G,ρ,_,good,h1,fun H1 G1 s1=>?_⟩
 split at hf
 · rename_i h;rw[Qo h];exact⟨G0,H0,G1,ρ,d,good.step s1,hf,fun v H2 G2 s2 r2=>k _ _ G2 (s1.trans s2) r2⟩
 · rename_i h;rw[Qs h];exact⟨G0,H0,G1,ρ,d,good.step s1,hf,fun v H2 G2 s2 r2=>k _ _ G2 (s1.trans s2) r2⟩
def zO:Lf:=fun _=>some []
def zY (f:Ef)(r:Lf):Lf:=fun ρ=>(f ρ).bind fun d=>(r ρ).map fun ds=>d::ds
theorem zV:PFA X [] zO:=by
 refine PA.to xL ?_
 rintro σ H Q ⟨G0,H0,G,ρ,d,good,hf,k⟩
 cases hf
 exact k [] H G (.refl good.sub) (zN.mpr rfl)
theorem bB {f:Ef}{r:Lf}{ρ:List B}{ds:List D}(h:zY f r ρ=some ds):∃d dr,f ρ=some d/\r ρ=some dr/\ds=d::dr:=by
 unfold zY at h
 obtain⟨d,h1,h⟩:=Qq.mp h
 obtain⟨dr,h2,rfl⟩:=Qy.mp h
 exact⟨d,dr,h1,h2,rfl⟩
theorem zZ (ha:PF X e fa)(hr:PFA X es ga)(hs:starEach (e::es) X.env=(false,eval e X.env)::starEach es X.env:=by rfl):PFA X (e::es) (zY fa ga):=by
 refine PA.to (yX ha hr hs) ?_
 rintro σ H Q ⟨G0,H0,G,ρ,ds,good,hf,k⟩
 obtain⟨d,dr,h1,h2,rfl⟩:=bB hf
 refine⟨G0,H0,G,ρ,_,good,h1,fun u H1 G1 s1 r1=>⟨G0,H0,G1,ρ,_,good.step s1,h2,fun v H2 G2 s2 r2=>?_⟩⟩
 exact k _ _ G2 (s1.trans s2) (zQ.mpr ⟨u,v,rfl,r1.mono s2.gg,r2⟩)
abbrev lim:Nat:=100000
theorem vP {n:Nat}(h:n<=lim):n < sizeLine:=Iy h (by decide)
def okL (ds:List D):Option (List D):=if ds.length<=lim then some ds else none
theorem jD {ds es:List D}(h:okL ds=some es):es=ds/\ds.length<=lim:=by
 unfold okL at h
 split at h
 · rename_i q;cases h;exact⟨rfl,q⟩
 · cases h
def cQ (g:Lf):Ef:=fun ρ=>((g ρ).bind okL).map .tup
theorem hV {k:Nat}(h:PFA X es ga):PF X (.Tuple es k pos) (cQ ga):=by
 refine PE.to (zRT h) ?_
 rintro σ H Q ⟨G0,H0,G,ρ,d,good,hf,k⟩
 unfold cQ at hf
 obtain⟨ds,h1,rfl⟩:=Qy.mp hf
 obtain⟨es,h1,h2⟩:=Qq.mp h1
 obtain⟨rfl,h3⟩:=jD h2
 refine⟨G0,H0,G,ρ,_,good,h1,fun vs H1 G1 s1 r1=>⟨by rw[←r1.length];exact Wc (vP h3),fun p hp=>?_⟩⟩
 have s2:=Step.laid (o:=.tup vs) s1.sub hp
 exact k _ _ _ (s1.trans s2) (xU.mpr ⟨p,vs,rfl,.of zM,r1.mono s2.gg⟩)
def xH (g:Lf):Lf:=fun ρ=>(g ρ).bind okL
theorem yK (h:PFA X es ga):PFr X (.List es pos) (xH ga):=by
 refine PE.toR (zRX h) ?_
 rintro σ H Q ⟨G0,H0,G,ρ,d,good,hf,k⟩
 unfold xH at hf
 obtain⟨es,h1,h2⟩:=Qq.mp hf
 obtain⟨rfl,h3⟩:=jD h2
 refine⟨G0,H0,G,ρ,_,good,h1,fun vs H1 G1 s1 r1=>⟨by rw[←r1.length];exact Wc (vP h3),fun p hp=>?_⟩⟩
 exact k p vs _ G1 (s1.trans (Step.own s1.sub hp)) (s1.hh.free hp) zM (s1.sub.free hp) r1
def atD (x y:D):Option D:=match x,y with
 | .tup ds,.int i=>atI ds i
 | .lst ds,.int i=>atI ds i
 | .str z,.int i=>if z.length<=lim then(atI z.cps.toList i).map fun c=>.str ⟨#[c]⟩ else none
 | _,_=>none
def eIx (fa fb:Ef):Ef:=fun ρ=>(fa ρ).bind fun x=>(fb ρ).bind fun y=>atD x y
theorem zZr {K:PySem.W.Frag}{G:Hp}{ds:List D}{vs:List V}{i:Int}{d:D}(r:Reps K G ds vs)(h:atI ds i=some d):∃v,atI vs i=some v/\Rep K G d v:=by
 unfold atI at h ⊢
 rw[r.length] at h
 obtain⟨j,h1,h2⟩:=Qq.mp h
 obtain⟨v,h3,h4⟩:=r.get h2
 exact⟨v,by rw[h1];exact h3,h4⟩
theorem yE (ha:PF X a fa)(hb:PF X b fb)(hs:zWB b:=by exact fun _ _=>rfl):PF X (.Subscript a b pos) (eIx fa fb):=by
 refine PE.to (zQO zRp ha hb hs) ?_
 rintro σ H Q ⟨G0,H0,G,ρ,d,good,hf,k⟩
 unfold eIx at hf
 obtain⟨x,h1,hf⟩:=Qq.mp hf
 obtain⟨y,h2,hf⟩:=Qq.mp hf
 refine⟨G0,H0,G,ρ,_,good,h1,fun u H1 G1 s1 r1=>⟨G0,H0,G1,ρ,_,good.step s1,h2,fun v H2 G2 s2 r2=>?_⟩⟩
 have r1:=r1.mono s2.gg
 have s3:=s1.trans s2
 unfold atD at hf
 split at hf
 · obtain⟨p,vs,rfl,q,rs⟩:=xU.mp r1
   obtain⟨w,e,rw'⟩:=zZr rs hf
   exact .inr (.inl ⟨p,vs,_,w,rfl,zJ.mp r2,s2.sub.tup q,e,k _ _ G2 s3 rw'⟩)
 · obtain⟨p,vs,rfl,q,rs⟩:=yM.mp r1
   obtain⟨w,e,rw'⟩:=zZr rs hf
   exact .inl ⟨p,vs,_,w,rfl,zJ.mp r2,s2.sub.seq q,e,k _ _ G2 s3 rw'⟩
 · split at hf
   · rename_i hz
     obtain⟨c,e,rfl⟩:=Qy.mp hf
     exact .inr (.inr ⟨_,_,c,xT.mp r1,zJ.mp r2,Wc (vP hz),e,k _ _ G2 s3 (xT.mpr rfl)⟩)
   · cases hf
 · cases hf
end
inductive Out where
 | nx (ρ:List B) | rt (d:D) | rl (ds:List D) | bk (ρ:List B) | ct (ρ:List B)
 deriving Inhabited
abbrev Sf:=List B->Option Out
def Wants (K:PySem.W.Frag)(G0 H0 G:Hp)(D:Ends):Out->Prop
 | .nx ρ'=>∀σ' H' G',Same G G'->Good K G0 H0 G' H' σ' ρ'->D.nx σ' H'
 | .bk ρ'=>∀σ' H' G',Same G G'->Good K G0 H0 G' H' σ' ρ'->D.bk σ' H'
 | .ct ρ'=>∀σ' H' G',Same G G'->Good K G0 H0 G' H' σ' ρ'->D.ct σ' H'
 | .rt d=>∀v H' G',Step G0 H0 G' H'->Rep K G' d v->D.rt v H'
 | .rl ds=>∀a vs H' G',Step G0 H0 G' H'->H0 a=none->H' a=some (.lst vs)->G' a=none->Reps K G' ds vs->D.rt (.ref a) H'
def tFS (K:PySem.W.Frag)(f:Sf):TS:=fun D σ H=>∃G0 H0 G ρ o,Good K G0 H0 G H σ ρ/\f ρ=some o/\Wants K G0 H0 G D o
def PFS (X:Cx)(st:Stmt)(f:Sf):Prop:=PS X st (tFS X.K f)
def kZ (X:Cx)(sts:List Stmt)(f:Sf):Prop:=PSs X sts (tFS X.K f)
theorem PS.to {X:Cx}{st:Stmt}{t:TS}{f:Sf}(h:PS X st t)(imp:∀D σ H,tFS X.K f D σ H->t D σ H):PFS X st f:=fun pins s σ H D I q=>h pins s σ H D I (imp D σ H q)
theorem PSs.to {X:Cx}{st:List Stmt}{t:TS}{f:Sf}(h:PSs X st t)(imp:∀D σ H,tFS X.K f D σ H->t D σ H):kZ X st f:=fun pins s σ H D I q=>h pins s σ H D I (imp D σ H q)
theorem Wants.mono {K:PySem.W.Frag}{G0 H0 G G':Hp}{D:Ends}{o:Out}(h:Wants K G0 H0 G D o)(s:Same G G'):Wants K G0 H0 G' D o:=by
 cases o with
 | nx ρ=>exact fun σ' H' G2 s2 g=>h σ' H' G2 (s.trans s2) g
 | bk ρ=>exact fun σ' H' G2 s2 g=>h σ' H' G2 (s.trans s2) g
 | ct ρ=>exact fun σ' H' G2 s2 g=>h σ' H' G2 (s.trans s2) g
 | rt d=>exact h
 | rl ds=>exact h
theorem gA {ρ:List B}{i j:Nat}{d:D}{ds:List D}(h:(ρ.set i (.fz d))[j]?=some (.ow ds)):j≠i/\ρ[j]?=some (.ow ds):=by
 by_cases e:j=i
 · subst e
   rw[Tj] at h
   split at h
   · split at h<;>cases h
   · rename_i z;exact absurd rfl z
 · rw[Qm (Ne.symm e)] at h
   exact⟨e,h⟩
theorem iC {ρ:List B}{i j:Nat}{d:D}{ds:List (D×D)}(h:(ρ.set i (.fz d))[j]?=some (.od ds)):j≠i/\ρ[j]?=some (.od ds):=by
 by_cases e:j=i
 · subst e
   rw[Tj] at h
   split at h
   · split at h<;>cases h
   · rename_i z;exact absurd rfl z
 · rw[Qm (Ne.symm e)] at h
   exact⟨e,h⟩
theorem hZ {ρ:List B}{i j:Nat}{d d':D}(h:(ρ.set i (.fz d))[j]?=some (.mu d')):j≠i/\ρ[j]?=some (.mu d'):=by
 by_cases e:j=i
 · subst e
   rw[Tj] at h
   split at h
   · split at h<;>cases h
   · rename_i z;exact absurd rfl z
 · rw[Qm (Ne.symm e)] at h
   exact⟨e,h⟩
theorem rJ {ρ:List B}{i j:Nat}{b b':B}(hb:pS b'=false)(h:(ρ.set i b')[j]?=some b)(o:pS b=true):j≠i/\ρ[j]?=some b:=by
 by_cases e:j=i
 · subst e
   rw[Tj] at h
   split at h
   · split at h
     · cases h;rw[hb] at o;cases o
     · cases h
   · rename_i z;exact absurd rfl z
 · rw[Qm (Ne.symm e)] at h
   exact⟨e,h⟩
theorem Good.setF {K:PySem.W.Frag}{G0 H0 G H:Hp}{σ:St}{ρ:List B}{v:V}{d:D}(g:Good K G0 H0 G H σ ρ)(i:Nat)(r:Rep K G d v):Good K G0 H0 G H (σ.set i (some v)) (ρ.set i (.fz d)):=by
 refine⟨g.st,Paired.set (.fz r) i g.vals,fun j k a ds es h1 h2 o1 o2 h3 h4=>?_⟩
 obtain⟨n1,e1⟩:=rJ rfl h1 o1
 obtain⟨n2,e2⟩:=rJ rfl h2 o2
 rw[Qm (Ne.symm n1)] at h3
 rw[Qm (Ne.symm n2)] at h4
 exact g.apart j k a ds es e1 e2 o1 o2 h3 h4
theorem Good.addr {K:PySem.W.Frag}{G0 H0 G H:Hp}{σ:St}{ρ:List B}{i:Nat}{ds:List D}(g:Good K G0 H0 G H σ ρ)(h:ρ[i]?=some (.ow ds)):∃a vs,σ[i]?=some (some (.ref a))/\H a=some (.lst vs)/\G a=none/\H0 a=none/\Reps K G ds vs:=by
 obtain⟨o,e,r⟩:=Paired.get g.vals h
 cases r with
 | ow h1 h2 h3 h4=>exact⟨_,_,e,h1,h2,h3,h4⟩
theorem Good.setO {K:PySem.W.Frag}{G0 H0 G H:Hp}{σ:St}{ρ:List B}{a:Addr}{vs:List V}{ds:List D}(g:Good K G0 H0 G H σ ρ)(i:Nat)(ha:H a=some (.lst vs))(ga:G a=none)(h0:H0 a=none)(rs:Reps K G ds vs)
   (fr:∀(j:Nat) (es:List D),ρ[j]?=some (B.ow es)->σ[j]?≠some (some (V.ref a))):Good K G0 H0 G H (σ.set i (some (.ref a))) (ρ.set i (.ow ds)):=by
 have hl:σ.length=ρ.length:=Ye g.vals
 have fr':∀(j:Nat) (b:B),ρ[j]?=some b->pS b=true->σ[j]?≠some (some (V.ref a)):=fun j b e o z=>by
   cases b with
   | ow es=>exact fr j es e z
   | mu d =>
     obtain⟨x,e1,r⟩:=Paired.get g.vals e
     rw[z] at e1;cases e1
     cases r with
     | mu q1 q2 q3 q4=>rw[ha] at q1;cases q1;exact q4.nl
   | _=>cases o
 refine⟨g.st,Paired.set (.ow ha ga h0 rs) i g.vals,fun j k b d1 d2 h1 h2 o1 o2 h3 h4=>?_⟩
 by_cases hj:j=i
 · by_cases hk:k=i
   · rw[hj,hk]
   · subst hj
     rw[Qm (Ne.symm hk)] at h2 h4
     have hlt:j < σ.length:=by
       have:=(Qn.mp h3).1
       rwa[Uo] at this
     rw[Em hlt] at h3
     cases h3
     exact absurd h4 (fr' k d2 h2 o2)
 · rw[Qm (Ne.symm hj)] at h1 h3
   by_cases hk:k=i
   · subst hk
     have hlt:k < σ.length:=by
       have:=(Qn.mp h4).1
       rwa[Uo] at this
     rw[Em hlt] at h4
     cases h4
     exact absurd h3 (fr' j d1 h1 o1)
   · rw[Qm (Ne.symm hk)] at h2 h4
     exact g.apart j k b d1 d2 h1 h2 o1 o2 h3 h4
theorem Good.wr {K:PySem.W.Frag}{G0 H0 G H:Hp}{σ:St}{ρ:List B}{a:Addr}{us:List V}{ds es:List D}{i:Nat}(g:Good K G0 H0 G H σ ρ)(hi:ρ[i]?=some (.ow ds))(hs:σ[i]?=some (some (.ref a)))(rs:Reps K G es us) :
   Good K G0 H0 G (upd H a (.lst us)) σ (ρ.set i (.ow es)):=by
 obtain⟨a',vs,h1,h2,h3,h4,_⟩:=g.addr hi
 rw[hs] at h1;cases h1
 have st:Step G0 H0 G (upd H a (.lst us)):=by
   refine⟨fun b o e=>?_,g.st.gg,fun b o e=>?_,g.st.new⟩
   · rw[zP (z8 e h4)];exact g.st.hh b o e
   · rw[zP (z8 e h3)];exact g.st.sub b o e
 have hl:σ.length=ρ.length:=Ye g.vals
 have hil:i < ρ.length:=(Qn.mp hi).1
 have key:∀(l:List (Option V)) (r:List B) (n:Nat),Paired (RB K H0 G H) l r->(∀j es,n+j≠i->r[j]?=some (.ow es)->l[j]?≠some (some (.ref a)))->(∀j,n+j=i->l[j]?=some (some (.ref a))) ->
     Paired (RB K H0 G (upd H a (.lst us))) l (if i < n then r else r.set (i - n) (.ow es)):=by
   intro l r n p
   induction p generalizing n with
   | nil=>intro _ _;split<;>exact .nil
   | @cons o b l' r' q t ih =>
     intro hne hat
     have tl:=ih (n+1) (fun j es z e=>by have:=hne (j+1) es (by lia) (by simpa using e);simpa using this) (fun j z=>by have:=hat (j+1) (by lia);simpa using this)
     have keepq:(∀es,b = .ow es->o≠some (.ref a))->RB K H0 G (upd H a (.lst us)) o b:=fun hb=>by
       cases q with
       | no=>exact .no
       | fz r=>exact .fz r
       | @ow c vs ds' c1 c2 c3 c4 =>
         have:c≠a:=fun z=>hb _ rfl (by rw[z])
         exact .ow (by rw[zP this];exact c1) c2 c3 c4
       | @od c _ _ _ _ c1 c2 c3 c4 c5 c6 =>
         have:c≠a:=fun z=>by rw[z,h2] at c1;cases c1
         exact .od (by rw[zP this];exact c1) c2 c3 c4 c5 c6
       | @mu c _ _ c1 c2 c3 c4 =>
         have:c≠a:=fun z=>by rw[z,h2] at c1;cases c1;exact c4.nl
         exact .mu (by rw[zP this];exact c1) c2 c3 c4
     by_cases h1:i < n
     · rw[Qo h1]
       rw[Qo (by lia)] at tl
       refine .cons (keepq fun es e z=>?_) tl
       exact hne 0 es (by lia) (by simp[e]) (by simp[z])
     · rw[Qs h1]
       by_cases h2:i=n
       · subst h2
         rw[Qo (by lia)] at tl
         have:=hat 0 (by lia)
         simp at this
         subst this
         rw[Iv]
         exact .cons (.ow zM h3 h4 rs) tl
       · rw[Qs (by lia)] at tl
         have e:i - n=(i - (n+1))+1:=by lia
         rw[e]
         refine .cons (keepq fun es e z=>?_) tl
         exact hne 0 es (by lia) (by simp[e]) (by simp[z])
 have vals:=key σ ρ 0 g.vals (fun j es' z e w=>by
   have:=g.apart j i a _ _ e hi rfl rfl w hs
   lia) (fun j z=>by rw[show j=i by lia];exact hs)
 rw[Qs (Oh _),Ib] at vals
 refine⟨st,vals,fun j k b d1 d2 e1 e2 o1 o2 e3 e4=>?_⟩
 have un:∀(j:Nat) (d1:B),(ρ.set i (B.ow es))[j]?=some d1->pS d1=true->∃d,ρ[j]?=some d/\pS d=true:=fun j d1 e o=>by
   by_cases hj:j=i
   · subst hj;exact⟨.ow ds,hi,rfl⟩
   · rw[Qm (Ne.symm hj)] at e;exact⟨d1,e,o⟩
 obtain⟨c1,f1,p1⟩:=un j d1 e1 o1
 obtain⟨c2,f2,p2⟩:=un k d2 e2 o2
 exact g.apart j k b c1 c2 f1 f2 p1 p2 e3 e4
section
variable {X:Cx} {b c e tg:Expr} {es:List Expr} {fa:Ef} {ga:Lf} {ta:Tf} {pos:Pos} {st:Stmt} {rest:List Stmt} {f g:Sf}
def zH (f g:Sf):Sf:=fun ρ=>(f ρ).bind fun o=>match o with | .nx ρ'=>g ρ' | o=>some o
def vX:Sf:=fun ρ=>some (.nx ρ)
theorem zD:kZ X [] vX:=by
 refine PSs.to aN ?_
 rintro D σ H ⟨G0,H0,G,ρ,o,good,hf,k⟩
 cases hf
 exact k σ H G (Same.refl _) good
theorem zR (h:PFS X st f):kZ X [st] f:=zW0 h
theorem zWn (h1:PFS X st f)(h2:kZ X rest g):kZ X (st::rest) (zH f g):=by
 refine PSs.to (jO h1 h2) ?_
 rintro D σ H ⟨G0,H0,G,ρ,o,good,hf,k⟩
 unfold zH at hf
 obtain⟨o1,h1,hf⟩:=Qq.mp hf
 refine⟨G0,H0,G,ρ,o1,good,h1,?_⟩
 cases o1 with
 | nx ρ'=>exact fun σ' H' G' s g'=>⟨G0,H0,G',ρ',o,g',hf,k.mono s⟩
 | rt d=>cases hf;exact k
 | rl d=>cases hf;exact k
 | bk d=>cases hf;exact k
 | ct d=>cases hf;exact k
def yJ (f:Ef):Sf:=fun ρ=>(f ρ).map .rt
theorem zL (h:PF X e fa):PFS X (.Return (some e) pos) (yJ fa):=by
 refine PS.to (zXr h) ?_
 rintro D σ H ⟨G0,H0,G,ρ,o,good,hf,k⟩
 unfold yJ at hf
 obtain⟨d,h1,rfl⟩:=Qy.mp hf
 exact⟨G0,H0,G,ρ,d,good,h1,fun v H' G' s r=>k v H' G' (good.st.trans s) r⟩
def gS (f:Lf):Sf:=fun ρ=>(f ρ).map .rl
theorem zW2 (h:PFr X e ga):PFS X (.Return (some e) pos) (gS ga):=by
 refine PS.to (zXr h) ?_
 rintro D σ H ⟨G0,H0,G,ρ,o,good,hf,k⟩
 unfold gS at hf
 obtain⟨d,h1,rfl⟩:=Qy.mp hf
 exact⟨G0,H0,G,ρ,d,good,h1,fun p vs H' G' s hn hp gp rs=>k p vs H' G' (good.st.trans s) (good.st.hh.free hn) hp gp rs⟩
def zW7 (i:Nat):Sf:=fun ρ=>match ρ[i]? with | some (.ow ds)=>some (.rl ds) | _=>none
theorem zWL (i:Nat){x:Str}{pos':Pos}(hN:X.N[i]?=some x:=by rfl)(hv:Vis X.env.scope x:=by first | exact Or.inl rfl | exact Or.inr (Or.inl rfl) | exact Or.inr (Or.inr rfl))(hd:(x==("__debug__":Str))=false:=by decide)(hcd:(x==("__classdict__":Str))=false:=by decide) :
   PFS X (.Return (some (.Name x pos')) pos) (zW7 i):=by
 refine PS.to (zXr (oP hN hv hd hcd)) ?_
 rintro D σ H ⟨G0,H0,G,ρ,o,good,hf,k⟩
 unfold zW7 at hf
 split at hf
 · rename_i ds e
   cases hf
   obtain⟨p,vs,h1,h2,h3,h4,h5⟩:=good.addr e
   exact⟨.ref p,h1,k p vs H G good.st h4 h2 h3 h5⟩
 · cases hf
def sIf (t:Tf)(f g:Sf):Sf:=fun ρ=>(t ρ).bind fun c=>if c=true then f ρ else g ρ
theorem yN {sa sb:List Stmt}(ht:PFT X c ta)(ha:kZ X sa f)(hb:kZ X sb g):PFS X (.If c sa sb pos) (sIf ta f g):=by
 refine PS.to (zS5 ht ha hb) ?_
 rintro D σ H ⟨G0,H0,G,ρ,o,good,hf,k⟩
 unfold sIf at hf
 obtain⟨c',h1,hf⟩:=Qq.mp hf
 refine⟨G0,H0,G,ρ,_,good,h1,fun H1 G1 s1=>?_⟩
 split at hf
 · rename_i h;rw[Qo h];exact⟨G0,H0,G1,ρ,o,good.step s1,hf,k.mono s1.gg⟩
 · rename_i h;rw[Qs h];exact⟨G0,H0,G1,ρ,o,good.step s1,hf,k.mono s1.gg⟩
abbrev Gf:=D->List B->Option (List B)
def tFG (K:PySem.W.Frag)(g:Gf):TG:=fun v σ H Q=>∃G0 H0 G ρ d ρ',Good K G0 H0 G H σ ρ/\Rep K G d v/\g d ρ=some ρ'/\∀σ' H' G',Step G H G' H'->Good K G0 H0 G' H' σ' ρ'->Q σ' H'
def PFG (X:Cx)(tg:Expr)(g:Gf):Prop:=PG X tg (tFG X.K g)
abbrev Gfs:=List D->List B->Option (List B)
def zPV (K:PySem.W.Frag)(g:Gfs):TGs:=fun vs σ H Q=>∃G0 H0 G ρ ds ρ',Good K G0 H0 G H σ ρ/\Reps K G ds vs/\g ds ρ=some ρ'/\∀σ' H' G',Step G H G' H'->Good K G0 H0 G' H' σ' ρ'->Q σ' H'
def zTM (X:Cx)(tgs:List Expr)(g:Gfs):Prop:=PGs X tgs (zPV X.K g)
def gN (i:Nat):Gf:=fun d ρ=>some (ρ.set i (.fz d))
theorem tN (i:Nat){x:Str}(hN:X.N.Nodup)(hi:X.N[i]?=some x:=by rfl)(hx:Loc X.env.scope x:=by first | exact .inl rfl | exact .inr rfl)(hf:X.fn x=true∨X.env.scope.names.lookup x=some .local:=by first | exact .inl rfl | exact .inr rfl):PFG X (.Name x pos) (gN i):=by
 have h:=zSH (pos:=pos) hN hi hx hf
 intro pins s σ H v u Q I r q
 refine h pins s σ H v u Q I r ?_
 obtain⟨G0,H0,G,ρ,d,ρ',good,rd,hf,k⟩:=q
 cases hf
 exact k _ H G (.refl good.sub) (good.setF i rd)
def sV:Gfs:=fun ds ρ=>match ds with | []=>some ρ | _=>none
def yP (g:Gf)(r:Gfs):Gfs:=fun ds ρ=>match ds with | d::dr=>(g d ρ).bind fun ρ'=>r dr ρ' | _=>none
theorem jT:zTM X [] sV:=by
 intro pins s σ H vs us Q I r q
 refine zTR pins s σ H vs us Q I r ?_
 obtain⟨G0,H0,G,ρ,ds,ρ',good,rd,hf,k⟩:=q
 unfold sV at hf
 split at hf
 · cases hf
   rw[zN] at rd
   exact⟨rd,k _ H G (.refl good.sub) good⟩
 · cases hf
theorem wR {g:Gf}{r:Gfs}(h1:PFG X e g)(h2:zTM X es r)(hs:(assignEach (e::es) X.env).map (·.2)=assign e X.env::(assignEach es X.env).map (·.2):=by rfl):zTM X (e::es) (yP g r):=by
 intro pins s σ H vs us Q I rv q
 refine zUZ h1 h2 hs pins s σ H vs us Q I rv ?_
 obtain⟨G0,H0,G,ρ,ds,ρ',good,rd,hf,k⟩:=q
 unfold yP at hf
 split at hf
 · rename_i d dr
   obtain⟨ρ1,e1,e2⟩:=Qq.mp hf
   obtain⟨v,vr,rfl,r1,r2⟩:=zQ.mp rd
   exact⟨v,vr,rfl,G0,H0,G,ρ,d,ρ1,good,r1,e1,fun σ' H' G' s' g'=>⟨G0,H0,G',ρ1,dr,ρ',g',r2.mono s'.gg,e2,fun σ2 H2 G2 s2 g2=>k σ2 H2 G2 (s'.trans s2) g2⟩⟩
 · cases hf
def gT (r:Gfs):Gf:=fun d ρ=>match d with | .tup ds=>r ds ρ | _=>none
theorem zT3 {r:Gfs}{k:Nat}(n:Nat)(hc:X.calm=true)(h:zTM X es r)(hr:∀ds ρ ρ',r ds ρ=some ρ'->ds.length=n)(hn:(assignEach es X.env).length=n:=by rfl)(hst:(assignEach es X.env).findIdx? (·.1)=none:=by rfl):PFG X (.Tuple es k pos) (gT r):=by
 have h:=zRv (pos:=pos) (k:=k) hc h hn hst
 intro pins s σ H v u Q I rv q
 refine h pins s σ H v u Q I rv ?_
 obtain⟨G0,H0,G,ρ,d,ρ',good,rd,hf,k⟩:=q
 unfold gT at hf
 split at hf
 · obtain⟨p,vs,rfl,h1,h2⟩:=xU.mp rd
   exact⟨p,vs,rfl,good.sub.tup h1,by rw[←h2.length];exact hr _ _ _ hf,G0,H0,G,ρ,_,ρ',good,h2,hf,k⟩
 · cases hf
theorem uB {g:Gf}{r:Gfs}{n:Nat}(h:∀ds ρ ρ',r ds ρ=some ρ'->ds.length=n):∀ds ρ ρ',yP g r ds ρ=some ρ'->ds.length=n+1:=by
 intro ds ρ ρ' q
 unfold yP at q
 split at q
 · obtain⟨ρ1,e1,e2⟩:=Qq.mp q
   rw[Qh,h _ _ _ e2]
 · cases q
theorem fO:∀ds ρ ρ',sV ds ρ=some ρ'->ds.length=0:=by
 intro ds ρ ρ' q
 unfold sV at q
 split at q
 · rfl
 · cases q
def NoOw (ρ:List B):Prop:=(∀(j:Nat) (es:List D),ρ[j]?≠some (B.ow es))/\(∀(j:Nat) (ks:List (D×D)),ρ[j]?≠some (B.od ks))/\∀(j:Nat) (d:D),ρ[j]?≠some (B.mu d)
theorem NoOw.own {ρ:List B}(n:NoOw ρ){j:Nat}{b:B}(h:ρ[j]?=some b)(o:pS b=true):False:=by
 cases b with
 | ow es=>exact n.1 j es h
 | mu d=>exact n.2.2 j d h
 | _=>cases o
def zVK (g:Gf):Prop:=∀d ρ ρ',g d ρ=some ρ'->NoOw ρ->NoOw ρ'
def zWI (g:Gfs):Prop:=∀d ρ ρ',g d ρ=some ρ'->NoOw ρ->NoOw ρ'
theorem eF (i:Nat):zVK (gN i):=fun d ρ ρ' h n=>by
 cases h
 exact⟨fun j es e=>n.1 j es (gA e).2,fun j ks e=>n.2.1 j ks (iC e).2,fun j d' e=>n.2.2 j d' (hZ e).2⟩
theorem zWJ:zWI sV:=fun d ρ ρ' h n=>by
 unfold sV at h
 split at h
 · cases h;exact n
 · cases h
theorem jJ {g:Gf}{r:Gfs}(h1:zVK g)(h2:zWI r):zWI (yP g r):=fun d ρ ρ' h n=>by
 unfold yP at h
 split at h
 · obtain⟨ρ1,e1,e2⟩:=Qq.mp h
   exact h2 _ _ _ e2 (h1 _ _ _ e1 n)
 · cases h
theorem zQ6 {r:Gfs}(h:zWI r):zVK (gT r):=fun d ρ ρ' q n=>by
 unfold gT at q
 split at q
 · exact h _ _ _ q n
 · cases q
def zTY (f:Ef)(g:Gf):Sf:=fun ρ=>(f ρ).bind fun d=>(g d ρ).map .nx
theorem zU1 {K:PySem.W.Frag}{t:TE}{f:Ef}{g:Gf}(imp:∀σ H Q,tF K f σ H Q->t σ H Q){D:Ends}{σ:St}{H:Hp}(h:tFS K (zTY f g) D σ H):zVP t (tFG K g) D σ H:=by
 obtain⟨G0,H0,G,ρ,o,good,hf,k⟩:=h
 unfold zTY at hf
 obtain⟨d,h1,hf⟩:=Qq.mp hf
 obtain⟨ρ',h2,rfl⟩:=Qy.mp hf
 exact imp _ _ _ ⟨G0,H0,G,ρ,d,good,h1,fun v H' G' s r=>⟨G0,H0,G',ρ,d,ρ',good.step s,r,h2,fun σ2 H2 G2 s2 g2=>k σ2 H2 G2 (s.gg.trans s2.gg) g2⟩⟩
theorem zSS {g:Gf}(he:PF X e fa)(hg:PFG X tg g)(hs:swapsWithSole [tg] e pos.line X.env=pure false:=by rfl)(hw:swappedStores [tg] e X.env=pure none:=by rfl)(h1:(assignEach [tg] X.env).map (·.2)=[assign tg X.env]:=by rfl) :
   PFS X (.Assign [tg] e pos) (zTY fa g):=PS.to (zSz he hg hs hw h1) fun D σ H h=>zU1 (fun _ _ _ q=>q) h
def yF (i:Nat)(f:Ef):Sf:=fun ρ=>(f ρ).map fun d=>.nx (ρ.set i (.fz d))
theorem zUi {K:PySem.W.Frag}{t:TE}{f:Ef}{i:Nat}(imp:∀σ H Q,tF K f σ H Q->t σ H Q){D:Ends}{σ:St}{H:Hp}(h:tFS K (yF i f) D σ H):zVP t (zYO i) D σ H:=by
 obtain⟨G0,H0,G,ρ,o,good,hf,k⟩:=h
 unfold yF at hf
 obtain⟨d,h1,rfl⟩:=Qy.mp hf
 exact imp _ _ _ ⟨G0,H0,G,ρ,d,good,h1,fun v H' G' s r=>k _ H' G' s.gg ((good.step s).setF i r)⟩
theorem zF (i:Nat){x:Str}{pos':Pos}(hN:X.N.Nodup)(he:PF X e fa)(hi:X.N[i]?=some x:=by rfl)(hx:Loc X.env.scope x:=by first | exact .inl rfl | exact .inr rfl)(hs:swapsWith e (some (.Name x pos')) pos.line X.env=pure false:=by rfl)
   (hf:X.fn x=true∨X.env.scope.names.lookup x=some .local:=by first | exact .inl rfl | exact .inr rfl):PFS X (.Assign [.Name x pos'] e pos) (yF i fa) :=
 PS.to (aI hN hi hx he hs hf) fun D σ H h=>zUi (fun _ _ _ q=>q) h
def nW (i:Nat)(f:Lf):Sf:=fun ρ=>(f ρ).map fun ds=>.nx (ρ.set i (.ow ds))
theorem zYF {K:PySem.W.Frag}{t:TE}{f:Lf}{i:Nat}(imp:∀σ H Q,tFr K f σ H Q->t σ H Q){D:Ends}{σ:St}{H:Hp}(h:tFS K (nW i f) D σ H):zVP t (zYO i) D σ H:=by
 obtain⟨G0,H0,G,ρ,o,good,hf,k⟩:=h
 unfold nW at hf
 obtain⟨ds,h1,rfl⟩:=Qy.mp hf
 refine imp _ _ _ ⟨G0,H0,G,ρ,ds,good,h1,fun p vs H' G' s hn hp gp rs=>?_⟩
 refine k _ H' G' s.gg ((good.step s).setO i hp gp (good.st.hh.free hn) rs fun j es e z=>?_)
 obtain⟨q,us,e1,e2,_⟩:=good.addr e
 rw[e1] at z;cases z
 rw[hn] at e2;cases e2
theorem cO (i:Nat){x:Str}{pos':Pos}(hN:X.N.Nodup)(he:PFr X e ga)(hi:X.N[i]?=some x:=by rfl)(hx:Loc X.env.scope x:=by first | exact .inl rfl | exact .inr rfl)(hs:swapsWith e (some (.Name x pos')) pos.line X.env=pure false:=by rfl)
   (hf:X.fn x=true∨X.env.scope.names.lookup x=some .local:=by first | exact .inl rfl | exact .inr rfl):PFS X (.Assign [.Name x pos'] e pos) (nW i ga) :=
 PS.to (aI hN hi hx he hs hf) fun D σ H h=>zYF (fun _ _ _ q=>q) h
def zZt (i:Nat)(ρ:List B):List B:=match ρ[i]? with | some (.ow ds)=>ρ.set i (.fz (.lst ds)) | _=>ρ
def aH (i:Nat)(f:Sf):Sf:=fun ρ=>f (zZt i ρ)
theorem Good.frz {K:PySem.W.Frag}{G0 H0 G H:Hp}{σ:St}{ρ:List B}(g:Good K G0 H0 G H σ ρ)(i:Nat):∃G',Same G G'/\Good K G0 H0 G' H σ (zZt i ρ):=by
 unfold zZt
 split
 · rename_i ds e
   obtain⟨p,vs,h1,h2,h3,h4,h5⟩:=g.addr e
   have sG:Same G (upd G p (.lst vs)):=Same.new h3
   have st:Step G0 H0 (upd G p (.lst vs)) H:=by
     refine⟨g.st.hh,g.st.gg.trans sG,fun b o q=>?_,fun b o' hb hn=>?_⟩
     · by_cases z:b=p
       · subst z;rw[zM] at q;rw[h2];exact q
       · rw[zP z] at q;exact g.st.sub b o q
     · rw[zP (fun z:b=p=>by rw[z,h4] at hb;cases hb)];exact g.st.new b o' hb hn
   have vals:Paired (RB K H0 (upd G p (.lst vs)) H) σ (ρ.set i (.fz (.lst ds))):=by
     have key:∀(l:List (Option V)) (r:List B) (n:Nat),Paired (RB K H0 G H) l r->(∀j es,n+j≠i->r[j]?=some (.ow es)->l[j]?≠some (some (.ref p)))->(∀j,n+j=i->l[j]?=some (some (.ref p))) ->
         Paired (RB K H0 (upd G p (.lst vs)) H) l (if i < n then r else r.set (i - n) (.fz (.lst ds))):=by
       intro l r n q
       induction q generalizing n with
       | nil=>intro _ _;split<;>exact .nil
       | @cons o b l' r' q t ih =>
         intro hne hat
         have tl:=ih (n+1) (fun j es z e=>by have:=hne (j+1) es (by lia) (by simpa using e);simpa using this) (fun j z=>by have:=hat (j+1) (by lia);simpa using this)
         have keepq:(∀es,b = .ow es->o≠some (.ref p))->RB K H0 (upd G p (.lst vs)) H o b:=fun hb=>by
           cases q with
           | no=>exact .no
           | fz r=>exact .fz (r.mono sG)
           | @ow c vs' ds' c1 c2 c3 c4 =>
             have:c≠p:=fun z=>hb _ rfl (by rw[z])
             exact .ow c1 (by rw[zP this];exact c2) c3 (c4.mono sG)
           | @od c _ _ _ _ c1 c2 c3 c4 c5 c6 =>
             have:c≠p:=fun z=>by rw[z,h2] at c1;cases c1
             exact .od c1 (by rw[zP this];exact c2) c3 (c4.mono sG) c5 c6
           | @mu c _ _ c1 c2 c3 c4 =>
             have:c≠p:=fun z=>by rw[z,h2] at c1;cases c1;exact c4.nl
             exact .mu c1 (by rw[zP this];exact c2) c3 (c4.mono sG)
         by_cases h1:i < n
         · rw[Qo h1]
           rw[Qo (by lia)] at tl
           exact .cons (keepq fun es e z=>hne 0 es (by lia) (by simp[e]) (by simp[z])) tl
         · rw[Qs h1]
           by_cases h2:i=n
           · subst h2
             rw[Qo (by lia)] at tl
             have:=hat 0 (by lia)
             simp at this
             subst this
             rw[Iv]
             exact .cons (.fz (yM.mpr ⟨p,vs,rfl,.of zM,h5.mono sG⟩)) tl
           · rw[Qs (by lia)] at tl
             have e:i - n=(i - (n+1))+1:=by lia
             rw[e]
             exact .cons (keepq fun es e z=>hne 0 es (by lia) (by simp[e]) (by simp[z])) tl
     have v:=key σ ρ 0 g.vals (fun j es' z e' w=>by have:=g.apart j i p _ _ e' e rfl rfl w h1;lia) (fun j z=>by rw[show j=i by lia];exact h1)
     rw[Qs (Oh _),Ib] at v
     exact v
   refine⟨_,sG,st,vals,fun j k b d1 d2 e1 e2 o1 o2 e3 e4=>?_⟩
   obtain⟨_,f1⟩:=rJ rfl e1 o1
   obtain⟨_,f2⟩:=rJ rfl e2 o2
   exact g.apart j k b d1 d2 f1 f2 o1 o2 e3 e4
 · exact⟨G,Same.refl _,g⟩
theorem zZX (i:Nat)(h:PFS X st f):PFS X st (aH i f):=by
 refine PS.to h ?_
 rintro D σ H ⟨G0,H0,G,ρ,o,good,hf,k⟩
 obtain⟨G',s,g'⟩:=good.frz i
 exact⟨G0,H0,G',_,o,g',hf,k.mono s⟩
end
def dO (K:PySem.W.Frag)(J:It)(G:Hp)(ds:List D):Prop:=∀(i:Nat) (G2 H2:Hp),Same G G2->Same G2 H2 ->
 (∀d,ds[i]?=some d->J.go i H2/\∀x H3,J.yld i H2 x H3->∃G3,Step G2 H2 G3 H3/\Rep K G3 d x)/\(ds.length<=i->J.stop i H2)
def tFI (K:PySem.W.Frag)(f:Lf):TI:=fun σ H R=>∃G0 H0 G ρ ds,Good K G0 H0 G H σ ρ/\f ρ=some ds/\∀J H' G',Step G H G' H'->dO K J G' ds->R J H'
def PFI (X:Cx)(tg iter:Expr)(f:Lf):Prop:=PI X tg iter (tFI X.K f)
theorem PI.to {X:Cx}{tg e:Expr}{t:TI}{f:Lf}(h:PI X tg e t)(imp:∀σ H R,tFI X.K f σ H R->t σ H R):PFI X tg e f:=fun pins s σ H R I q=>h pins s σ H R I (imp σ H R q)
theorem jU {K:PySem.W.Frag}{G:Hp}{a:Addr}{vs:List V}{ds:List D}(h:SqL K G a vs)(r:Reps K G ds vs):dO K (Itl K a) G ds:=by
 intro i G2 H2 s1 s2
 have q:SqL K H2 a vs:=(s1.trans s2).seq h
 refine⟨fun d hd=>?_,fun hi=>⟨vs,q,by rw[←r.length];exact hi⟩⟩
 obtain⟨v,e,rv⟩:=r.get hd
 refine⟨⟨vs,v,q,e⟩,fun x H3 y=>?_⟩
 obtain⟨rfl,y⟩:=y
 have:=y vs q
 rw[e] at this;cases this
 exact⟨G2,.refl s2,rv.mono s1⟩
def vK (lo:Int)(n:Nat):List D:=(List.range n).map fun i=>D.int (lo+(i:Nat))
theorem zZK {K:PySem.W.Frag}{G:Hp}{lo:Int}{n:Nat}:dO K (Itr lo n) G (vK lo n):=by
 intro i G2 H2 s1 s2
 have hl:(vK lo n).length=n:=by simp[vK]
 refine⟨fun d hd=>?_,fun hi=>by rw[hl] at hi;exact hi⟩
 have hi:i < n:=by rw[←hl];exact(Qn.mp hd).1
 refine⟨hi,fun x H3 y=>?_⟩
 obtain⟨rfl,rfl⟩:=y
 have e:d = .int (lo+i):=by
   unfold vK at hd
   rw[Ws,Iq hi] at hd
   exact(Wb hd).symm
 subst e
 exact⟨G2,.refl s2,zJ.mpr rfl⟩
section
variable {X:Cx} {a b c e tg elt iter:Expr} {es ifs:List Expr} {fa fb:Ef} {ga gi:Lf} {tc:Tf} {pos:Pos} {st:Stmt} {f g:Sf}
def iL (f:Ef):Lf:=fun ρ=>(f ρ).bind fun d=>match d with | .lst ds=>some ds | _=>none
theorem fH (h:PF X e fa):PFI X tg e (iL fa):=by
 refine PI.to (zWy h) ?_
 rintro σ H R ⟨G0,H0,G,ρ,ds,good,hf,k⟩
 unfold iL at hf
 obtain⟨d,h1,hf⟩:=Qq.mp hf
 cases d with
 | lst es =>
   cases hf
   refine⟨G0,H0,G,ρ,_,good,h1,fun x H1 G1 s1 r1=>?_⟩
   obtain⟨p,vs,rfl,q,rs⟩:=yM.mp r1
   exact⟨p,rfl,⟨vs,s1.sub.seq q⟩,k _ H1 G1 s1 (jU q rs)⟩
 | _=>cases hf
theorem zQB (h:PFr X e ga):PFI X tg e ga:=by
 refine PI.to (zWy h) ?_
 rintro σ H R ⟨G0,H0,G,ρ,ds,good,hf,k⟩
 refine⟨G0,H0,G,ρ,_,good,hf,fun p vs H1 G1 s1 hn hp gp rs=>?_⟩
 exact⟨p,rfl,⟨vs,.of hp⟩,k _ H1 (upd G1 p (.lst vs)) (s1.frz hn hp gp) (jU (.of zM) (rs.mono (Same.new gp)))⟩
def iR (f:Ef):Lf:=fun ρ=>(f ρ).bind fun d=>match d with | .int n=>if decide (-1000000<=n)&&decide (n<=1000000) then some (vK 0 n.toNat) else none | _=>none
theorem zUz {p:Pos}(hg:Gl X "range")(hm:X.mg "range"=none)(h:PF X a fa)(hs:starEach [a] X.env=[(false,eval a X.env)]:=by rfl):PFI X tg (.Call (.Name "range" p) [a] [] pos) (iR fa):=by
 refine PI.to (zWe hg hm (yX h xL (by rw[hs];rfl)) hs) ?_
 rintro σ H R ⟨G0,H0,G,ρ,ds,good,hf,k⟩
 unfold iR at hf
 obtain⟨d,h1,hf⟩:=Qq.mp hf
 cases d with
 | int n =>
   dsimp only at hf
   split at hf
   · rename_i hc
     cases hf
     simp only[Ee,Ry] at hc
     refine⟨G0,H0,G,ρ,_,good,h1,fun x H1 G1 s1 r1=>⟨n,by rw[zJ.mp r1],by lia,by lia,k _ H1 G1 s1 zZK⟩⟩
   · cases hf
 | _=>cases hf
def nZ (g:Gf)(body:Sf):List D->Sf
 | [],ρ=>some (.nx ρ)
 | d::r,ρ=>(g d ρ).bind fun ρ1=>(body ρ1).bind fun o=>match o with
   | .nx ρ2=>nZ g body r ρ2
   | .ct ρ2=>nZ g body r ρ2
   | .bk ρ2=>some (.nx ρ2)
   | o=>some o
def rY (src:Lf)(g:Gf)(body:Sf):Sf:=fun ρ=>(src ρ).bind fun ds=>nZ g body ds ρ
theorem tW {gt:Gf}{body:List Stmt}{fb:Sf}(hp:PassesOwn (model X.prog X.w) X.A X.env X.xe)(hc:X.calm=true)(hi:PFI X tg iter gi)(hg:PFG X tg gt)(hb:kZ X body fb)(hs:∀x,foldedSetIterable iter X.env x=pure x:=by intro _;rfl) :
   PFS X (.For tg iter body [] pos) (rY gi gt fb):=by
 refine PS.to (zSx hp hc hi hg hb hs) ?_
 rintro D σ H ⟨G0,H0,G,ρ,o,good,hf,k⟩
 unfold rY at hf
 obtain⟨ds,h1,hf⟩:=Qq.mp hf
 refine⟨G0,H0,G,ρ,ds,good,h1,fun J H1 G1 s1 y=>?_⟩
 refine⟨fun i m σ H=>m=ds.length - i/\i<=ds.length/\∃G2 ρ2,Same G1 G2/\Good X.K G0 H0 G2 H σ ρ2/\nZ gt fb (ds.drop i) ρ2=some o,⟨ds.length,by simp,Wm _,G1,ρ,Same.refl _,good.step s1,by simpa using hf⟩,?_⟩
 rintro i m σ2 H2 ⟨rfl,hi',G2,ρ2,sg,good2,hf2⟩
 obtain⟨y1,y2⟩:=y i G2 H2 sg good2.sub
 by_cases hlt:i < ds.length
 · obtain⟨go,yl⟩:=y1 ds[i] (Wi hlt)
   rw[Ey hlt] at hf2
   unfold nZ at hf2
   obtain⟨ρ3,e1,hf2⟩:=Qq.mp hf2
   obtain⟨o1,e2,hf2⟩:=Qq.mp hf2
   refine .inr ⟨go,fun σ' H'=>∃G' ρ',Same G1 G'/\Good X.K G0 H0 G' H' σ' ρ'/\nZ gt fb (ds.drop (i+1)) ρ'=some o,fun σ' H' ⟨G',ρ',a1,a2,a3⟩=>⟨ds.length - (i+1),by lia,rfl,hlt,G',ρ',a1,a2,a3⟩,fun x H3 yx=>?_⟩
   obtain⟨G3,s3,r3⟩:=yl x H3 yx
   refine⟨G0,H0,G3,ρ2,_,ρ3,good2.step s3,r3,e1,fun σ4 H4 G4 s4 good4=>?_⟩
   have sg4:Same G1 G4:=(sg.trans s3.gg).trans s4.gg
   refine⟨G0,H0,G4,ρ3,o1,good4,e2,?_⟩
   cases o1 with
   | nx ρ5=>exact fun σ5 H5 G5 s5 good5=>⟨G5,ρ5,sg4.trans s5,good5,hf2⟩
   | ct ρ5=>exact fun σ5 H5 G5 s5 good5=>⟨G5,ρ5,sg4.trans s5,good5,hf2⟩
   | bk ρ5=>cases hf2;exact fun σ5 H5 G5 s5 good5=>k σ5 H5 G5 ((s1.gg.trans sg4).trans s5) good5
   | rt d=>cases hf2;exact k
   | rl d=>cases hf2;exact k
 · have e:i=ds.length:=by lia
   subst e
   rw[List.drop_length] at hf2
   cases hf2
   exact .inl ⟨y2 (Qd _),k σ2 H2 G2 (s1.gg.trans sg) good2⟩
def nY (g:Gf)(t:Tf)(elt:Ef):List D->List B->List D->Option (List D)
 | [],_,acc=>some acc
 | d::r,ρ,acc=>(g d ρ).bind fun ρ1=>(t ρ1).bind fun c=>if c=true then(elt ρ1).bind fun y=>nY g t elt r ρ1 (acc++[y]) else nY g t elt r ρ1 acc
def upB (m:Nat)(js:List Nat)(ρ:List B):List B:=List.replicate m .no++js.map fun j=>match ρ[j]? with | some (.fz d)=>.fz d | _=>.no
def wA (src:Lf)(m:Nat)(js:List Nat)(g:Gf)(t:Tf)(elt:Ef):Lf:=fun ρ=>((src ρ).bind okL).bind fun ds=>nY g t elt ds (upB m js ρ) []
theorem Good.up {K:PySem.W.Frag}{G0 H0 G H:Hp}{σ:St}{ρ:List B}(g:Good K G0 H0 G H σ ρ)(m:Nat)(js:List Nat):Good K G H G H (upC m js σ) (upB m js ρ):=by
 refine⟨.refl g.sub,?_,fun i j a b c h1 _ o1 _=>?_⟩
 · unfold upC upB
   have rep:∀m:Nat,Paired (RB K H G H) (List.replicate m (none:Option V)) (List.replicate m B.no):=fun m=>by
     induction m with
     | zero=>exact .nil
     | succ n ih=>rw[Ro,Ro];exact .cons .no ih
   have app:∀ {l1 l2:List (Option V)} {r1 r2:List B},Paired (RB K H G H) l1 r1->Paired (RB K H G H) l2 r2->Paired (RB K H G H) (l1++l2) (r1++r2):=fun h1 h2=>by
     induction h1 with
     | nil=>exact h2
     | cons q t ih=>exact .cons q ih
   refine app (rep m) ?_
   induction js with
   | nil=>exact .nil
   | cons j r ih =>
     rw[Wo,Wo]
     refine .cons ?_ ih
     cases e:ρ[j]? with
     | none=>exact .no
     | some b =>
       obtain⟨o,e1,r1⟩:=Paired.get g.vals e
       cases r1 with
       | no=>exact .no
       | fz q=>rw[e1];exact .fz q
       | ow q1 q2 q3 q4=>exact .no
       | od q1 q2 q3 q4 q5 q6=>exact .no
       | mu q1 q2 q3 q4=>exact .no
 · unfold upB at h1
   exfalso
   by_cases hi:i < m
   · rw[Wx (by simpa using hi),Es] at h1
     split at h1<;>cases h1<;>cases o1
   · rw[Ww (by simpa using hi),Ws] at h1
     obtain⟨k,_,h1⟩:=Qy.mp h1
     split at h1<;>cases h1<;>cases o1
theorem zUX (m:Nat)(js:List Nat)(ρ:List B):NoOw (upB m js ρ):=by
 refine⟨?_,?_,?_⟩
 all_goals
   intro i es h1
   unfold upB at h1
   by_cases hi:i < m
   · rw[Wx (by simpa using hi),Es] at h1
     split at h1<;>cases h1
   · rw[Ww (by simpa using hi),Ws] at h1
     obtain⟨k,_,h1⟩:=Qy.mp h1
     split at h1<;>cases h1
theorem Good.wrX {K:PySem.W.Frag}{G0 H0 G H:Hp}{σ:St}{ρ:List B}{p:Addr}{o:HO}(g:Good K G0 H0 G H σ ρ)(n:NoOw ρ)(gp:G p=none)(h0:H0 p=none):Good K G0 H0 G (upd H p o) σ ρ:=by
 refine⟨⟨fun b u e=>?_,g.st.gg,fun b u e=>?_,g.st.new⟩,?_,g.apart⟩
 · rw[zP (z8 e h0)];exact g.st.hh b u e
 · rw[zP (z8 e gp)];exact g.st.sub b u e
 · have key:∀(l:List (Option V)) (r:List B),Paired (RB K H0 G H) l r->NoOw r->Paired (RB K H0 G (upd H p o)) l r:=by
     intro l r q
     induction q with
     | nil=>intro _;exact .nil
     | @cons x b l' r' q t ih =>
       intro n
       refine .cons ?_ (ih ⟨fun j es e=>n.1 (j+1) es (by simpa using e),fun j es e=>n.2.1 (j+1) es (by simpa using e),fun j es e=>n.2.2 (j+1) es (by simpa using e)⟩)
       cases q with
       | no=>exact .no
       | fz r=>exact .fz r
       | ow _ _ _ _=>exact absurd rfl (n.1 0 _)
       | od _ _ _ _ _ _=>exact absurd rfl (n.2.1 0 _)
       | mu _ _ _ _=>exact absurd rfl (n.2.2 0 _)
   exact key σ ρ g.vals n
theorem zZh {K:PySem.W.Frag}{m:Nat}{js:List Nat}{gt:Gf}{t:Tf}{el:Ef}(hgo:zVK gt){σ:St}{H:Hp}{Q:VK}(h:tFr K (wA gi m js gt t el) σ H Q):zUN (tFI K gi) m js (tFG K gt) (tFT K t) (tF K el) σ H Q:=by
 obtain⟨G0,H0,G,ρ,out,good,hf,k⟩:=h
 unfold wA at hf
 obtain⟨ds,h1,hf⟩:=Qq.mp hf
 obtain⟨ds',h1,h1'⟩:=Qq.mp h1
 obtain⟨rfl,hlen⟩:=jD h1'
 refine⟨G0,H0,G,ρ,_,good,h1,fun J H1 G1 s1 y D hD=>?_⟩
 have good1:=(good.step s1).up m js
 have hGD:G1 D=none:=s1.sub.free hD
 refine⟨fun i n σ2 H2=>n=ds.length - i/\i<=ds.length/\∃G2 ρ2 acc us,Same G1 G2/\G2 D=none/\H2 D=some (.lst us)/\Reps K G2 acc us/\acc.length<=i/\NoOw ρ2/\Good K G1 H1 G2 H2 σ2 ρ2/\nY gt t el (ds.drop i) ρ2 acc=some out,
   ⟨ds.length,by simp,Wm _,G1,upB m js ρ,[],[],Same.refl _,hGD,zM,zN.mpr rfl,Qd _,zUX _ _ _,good1.step (Step.own s1.sub hD),by simpa using hf⟩,?_⟩
 rintro i n σ2 H2 ⟨rfl,hi,G2,ρ2,acc,us,sg,gD,hD2,rs,hal,now,good2,hf2⟩
 obtain⟨y1,y2⟩:=y i G2 H2 sg good2.sub
 by_cases hlt:i < ds.length
 · obtain⟨go,yl⟩:=y1 ds[i] (Wi hlt)
   rw[Ey hlt] at hf2
   unfold nY at hf2
   obtain⟨ρ3,e1,hf2⟩:=Qq.mp hf2
   obtain⟨c,e2,hf2⟩:=Qq.mp hf2
   have now3:=hgo _ _ _ e1 now
   refine .inr ⟨go,fun x H3 yx=>?_⟩
   obtain⟨G3,s3,r3⟩:=yl x H3 yx
   refine⟨G1,H1,G3,ρ2,_,ρ3,good2.step s3,r3,e1,fun σ4 H4 G4 s4 good4=>?_⟩
   refine⟨G1,H1,G4,ρ3,c,good4,e2,fun H5 G5 s5=>?_⟩
   have s35:=(s3.trans s4).trans s5
   have hne:H2 D≠none:=by rw[hD2];exact fun z=>nomatch z
   split at hf2
   · rename_i hc
     show if c=true then _ else _
     rw[Qo hc]
     obtain⟨yd,e3,hf2⟩:=Qq.mp hf2
     refine⟨G1,H1,G5,ρ3,yd,good4.step s5,e3,fun v H6 G6 s6 r6=>?_⟩
     have s36:=s35.trans s6
     have hD6:H6 D=some (.lst us):=s36.hh _ _ hD2
     have gD6:G6 D=none:=(s36.new D _ hD2 rfl).trans gD
     refine⟨us,ds.length - (i+1),hD6,?_,by lia,rfl,hlt,G6,ρ3,acc++[yd],us++[v],sg.trans s36.gg,gD6,zM,(rs.mono s36.gg).snoc r6,by rw[Qe,List.length_singleton];lia,now3,((good4.step s5).step s6).wrX now3 gD6 hD,hf2⟩
     rw[←rs.length]
     exact vP (Wa hal (Wa hi hlen))
   · rename_i hc
     show if c=true then _ else _
     rw[Qs hc]
     exact⟨ds.length - (i+1),by lia,rfl,hlt,G5,ρ3,acc,us,sg.trans s35.gg,(s35.new D _ hD2 rfl).trans gD,s35.hh _ _ hD2,rs.mono s35.gg,by lia,now3,good4.step s5,hf2⟩
 · have e:i=ds.length:=by lia
   subst e
   rw[List.drop_length] at hf2
   cases hf2
   exact .inl ⟨y2 (Qd _),k D us H2 G2 (s1.trans good2.st) (s1.hh.free hD) hD2 gD rs⟩
def tOK:Tf:=fun _=>some true
def zXn (X:Cx)(ifs:List Expr)(t:Tf):Prop:=zXV X ifs (tFT X.K t)
theorem qC {X:Cx}:zXn X [] tOK:=fun pins s σ H Q I h=>zV8 pins s σ H Q I (by
 obtain⟨G0,H0,G,ρ,b,good,hf,k⟩:=h
 cases hf
 exact k H G (.refl good.sub))
theorem mL {X:Cx}{c:Expr}{t:Tf}(h:PFT X c t):zXn X [c] t:=zUA h
theorem mE (sc:Scope)(N tgs frees:List Str)(js:List Nat){scope:Scope}{gt:Gf}{t:Tf}{el:Ef}(hgo:zVK gt)(hp:PFI X tg iter gi)(hc:X.calm=true)(hsc:X.env.scope=sc)(hNN:X.N=N)(hok:pJ sc scope N tgs frees js=true)
   (hg:∀C s₀ H₀ fp,PFG (wP X (tgs++frees) scope C s₀ H₀ fp) tg gt) (hi:∀C s₀ H₀ fp,zXn (wP X (tgs++frees) scope C s₀ H₀ fp) ifs t) (he:∀C s₀ H₀ fp,PF (wP X (tgs++frees) scope C s₀ H₀ fp) elt el)
   (hs:∀x,foldedSetIterable iter X.env x=pure x:=by intro _;rfl) :
   PFr X (.ListComp elt [⟨tg,iter,ifs,0⟩] scope pos) (wA gi tgs.length js gt t el) :=
 PE.toR (zTG (g:=tFG X.K gt) (tc:=tFT X.K t) (te:=tF X.K el) sc tgs frees js hp hc hsc (by rw[hNN];exact hok) hg hi he hs) fun σ H Q h=>zZh hgo h
theorem lH (sc:Scope)(N tgs frees:List Str)(js:List Nat){scope:Scope}{gt:Gf}{t:Tf}{el:Ef}(hgo:zVK gt)(i:Nat){x:Str}{pos' spos:Pos}(hN:X.N.Nodup)(hx:X.N[i]?=some x)(hl:X.env.scope.names.lookup x=some .local)(hp:PFI X tg iter gi)(hc:X.calm=true)(hsc:X.env.scope=sc)(hNN:X.N=N)(hok:pJ sc scope N tgs frees js=true)
   (hg:∀C s₀ H₀ fp,PFG (wP X (tgs++frees) scope C s₀ H₀ fp) tg gt) (hi:∀C s₀ H₀ fp,zXn (wP X (tgs++frees) scope C s₀ H₀ fp) ifs t) (he:∀C s₀ H₀ fp,PF (wP X (tgs++frees) scope C s₀ H₀ fp) elt el)
   (hsw:swapsWith (.ListComp elt [⟨tg,iter,ifs,0⟩] scope pos) (some (.Name x pos')) spos.line X.env=pure true:=by with_unfolding_all rfl) (hs:∀x,foldedSetIterable iter X.env x=pure x:=by intro _;rfl) :
   PFS X (.Assign [.Name x pos'] (.ListComp elt [⟨tg,iter,ifs,0⟩] scope pos) spos) (nW i (wA gi tgs.length js gt t el)) :=
 PS.to (zXs (g:=tFG X.K gt) (tc:=tFT X.K t) (te:=tF X.K el) sc tgs frees js hN hx hl hp hc hsc (by rw[hNN];exact hok) hg hi he hsw hs) fun D σ H h=>zYF (fun _ _ _ q=>zZh hgo q) h
end
section
variable {X:Cx} {a c:Expr} {fa:Ef} {pos:Pos} {f:Sf}
def zZs (i:Nat)(f:Ef):Sf:=fun ρ=>(f ρ).bind fun d=>match ρ[i]? with | some (.ow ds)=>if ds.length < lim then some (.nx (ρ.set i (.ow (ds++[d])))) else none | _=>none
theorem zX7 (i:Nat)(ht:PE X c (tBM X.K "list" zWz (zWr i) (zYS (tF X.K fa) zVY)))(hs:swapsWith c none pos.line X.env=pure false:=by rfl):PFS X (.Expr c pos) (zZs i fa):=by
 refine PS.to (jH ht hs) ?_
 rintro D σ H ⟨G0,H0,G,ρ,o,good,hf,k⟩
 unfold zZs at hf
 obtain⟨d,h1,hf⟩:=Qq.mp hf
 split at hf
 · rename_i ds hi
   split at hf
   · rename_i hl
     cases hf
     obtain⟨p,vs,e1,e2,e3,e4,e5⟩:=good.addr hi
     refine⟨.ref p,e1,.inl ⟨rfl,vs,.of e2⟩,G0,H0,G,ρ,d,good,h1,fun v H1 G1 s1 r1=>?_⟩
     have good1:=good.step s1
     obtain⟨p',vs',f1,f2,f3,f4,f5⟩:=good1.addr hi
     rw[e1] at f1;cases f1
     exact⟨p,vs',v,rfl,rfl,f2,by rw[←f5.length];exact vP (Wc hl),k σ _ G1 s1.gg (good1.wr hi e1 (f5.snoc r1))⟩
   · cases hf
 · cases hf
def zQL:D->Option D
 | .tup ds=>some (.int ds.length)
 | .lst ds=>some (.int ds.length)
 | .str z=>if z.length<=lim then some (.int z.length) else none
 | _=>none
def xJ (f:Ef):Ef:=fun ρ=>(f ρ).bind zQL
theorem wX {p:Pos}(hg:Gl X "len")(hm:X.mg "len"=none)(h:PF X a fa)(hs:starEach [a] X.env=[(false,eval a X.env)]:=by rfl):PF X (.Call (.Name "len" p) [a] [] pos) (xJ fa):=by
 refine PE.to (tO (jZ.or zZI) hg hm PySem.boot_len (yX h xL (by rw[hs];rfl)) (by decide) (by decide) (by rw[hs];rfl) (by rfl)) ?_
 rintro σ H Q ⟨G0,H0,G,ρ,d,good,hf,k⟩
 unfold xJ at hf
 obtain⟨x,h1,hf⟩:=Qq.mp hf
 refine⟨G0,H0,G,ρ,_,good,h1,fun v H1 G1 s1 r1=>?_⟩
 unfold zQL at hf
 split at hf
 · cases hf
   obtain⟨p,vs,rfl,q,rs⟩:=xU.mp r1
   exact .inl ⟨p,vs,rfl,.inr (s1.sub.tup q),k _ _ G1 s1 (zJ.mpr (by rw[rs.length]))⟩
 · cases hf
   obtain⟨p,vs,rfl,q,rs⟩:=yM.mp r1
   exact .inl ⟨p,vs,rfl,.inl (s1.sub.seq q),k _ _ G1 s1 (zJ.mpr (by rw[rs.length]))⟩
 · split at hf
   · rename_i hz
     cases hf
     exact .inr ⟨_,by rw[xT.mp r1],Wc (vP hz),k _ _ G1 s1 (zJ.mpr rfl)⟩
   · cases hf
 · cases hf
def zYR (i:Nat):Ef:=fun ρ=>match ρ[i]? with | some (.ow ds)=>some (.int ds.length) | _=>none
theorem zWC (i:Nat){x:Str}{p p1:Pos}(hg:Gl X "len")(hm:X.mg "len"=none)(hN:X.N[i]?=some x:=by rfl)(hv:Vis X.env.scope x:=by first | exact Or.inl rfl | exact Or.inr (Or.inl rfl) | exact Or.inr (Or.inr rfl))(hd:(x==("__debug__":Str))=false:=by decide)(hcd:(x==("__classdict__":Str))=false:=by decide):PF X (.Call (.Name "len" p) [.Name x p1] [] pos) (zYR i):=by
 refine PE.to (tO jZ hg hm PySem.boot_len (yX (oP hN hv hd hcd) xL)) ?_
 rintro σ H Q ⟨G0,H0,G,ρ,d,good,hf,k⟩
 unfold zYR at hf
 split at hf
 · rename_i ds hi
   cases hf
   obtain⟨q,vs,e1,e2,e3,e4,e5⟩:=good.addr hi
   exact⟨.ref q,e1,q,vs,rfl,.inl (.of e2),k _ _ G (.refl good.sub) (zJ.mpr (by rw[e5.length]))⟩
 · cases hf
def zUY:D->Option (List D) | .lst ds=>some ds | .tup ds=>some ds | _=>none
def sP (f:Ef):Lf:=fun ρ=>(f ρ).bind zUY
theorem mI {p:Pos}(hg:Gl X "list")(hm:X.mg "list"=none)(h:PF X a fa)(hs:starEach [a] X.env=[(false,eval a X.env)]:=by rfl):PFr X (.Call (.Name "list" p) [a] [] pos) (sP fa):=by
 refine PE.toR (zWs aK hg hm (by rfl) (yX h xL (by rw[hs];rfl)) (by decide) (by decide) (by rw[hs];rfl) (by rfl)) ?_
 rintro σ H Q ⟨G0,H0,G,ρ,d,good,hf,k⟩
 unfold sP at hf
 obtain⟨x,h1,hf⟩:=Qq.mp hf
 refine⟨G0,H0,G,ρ,_,good,h1,fun v H1 G1 s1 r1=>?_⟩
 unfold zUY at hf
 split at hf
 · cases hf
   obtain⟨p,vs,rfl,q,rs⟩:=yM.mp r1
   exact⟨p,vs,rfl,.inl (s1.sub.seq q),fun l hl=>k l vs _ G1 (s1.trans (Step.own s1.sub hl)) (s1.hh.free hl) zM (s1.sub.free hl) rs⟩
 · cases hf
   obtain⟨p,vs,rfl,q,rs⟩:=xU.mp r1
   exact⟨p,vs,rfl,.inr (s1.sub.tup q),fun l hl=>k l vs _ G1 (s1.trans (Step.own s1.sub hl)) (s1.hh.free hl) zM (s1.sub.free hl) rs⟩
 · cases hf
end
def spF (K:PySem.W.Frag)(n:Nat)(f:List D->Option D):Sp:=fun vs H Q _=>∃G ds d,Same G H/\Reps K G ds vs/\ds.length=n/\f ds=some d/\∀v H' G',Step G H G' H'->Rep K G' d v->Q v H'
def spL (K:PySem.W.Frag)(n:Nat)(f:List D->Option (List D)):Sp:=fun vs H Q _=>∃G ds es,Same G H/\Reps K G ds vs/\ds.length=n/\f ds=some es/\∀a us H' G',Step G H G' H'->H a=none->H' a=some (.lst us)->G' a=none->Reps K G' es us->Q (.ref a) H'
def eS (N:Nat)(ds:List D):List B:=ds.map .fz++List.replicate (N - ds.length) .no
def wH:Out->Option D
 | .nx _=>some .non
 | .rt d=>some d
 | .rl ds=>some (.lst ds)
 | _=>none
def zYB:Out->Option (List D)
 | .rl ds=>some ds
 | _=>none
def fnF (N:Nat)(body:Sf)(ds:List D):Option D:=(body (eS N ds)).bind wH
def fnL (N:Nat)(body:Sf)(ds:List D):Option (List D):=(body (eS N ds)).bind zYB
theorem dS {K:PySem.W.Frag}{G H:Hp}{N:List Str}{ds:List D}{vs:List V}(s:Same G H)(r:Reps K G ds vs):Good K G H G H (uW N vs) (eS N.length ds):=by
 refine⟨.refl s,?_,fun i j a b c h1 _ o1 _=>?_⟩
 · unfold uW eS
   rw[r.length]
   have rep:∀m:Nat,Paired (RB K H G H) (List.replicate m (none:Option V)) (List.replicate m B.no):=fun m=>by
     induction m with
     | zero=>exact .nil
     | succ n ih=>rw[Ro,Ro];exact .cons .no ih
   have key:∀(ds:List D) (vs:List V) (l:List (Option V)) (q:List B),Reps K G ds vs->Paired (RB K H G H) l q->Paired (RB K H G H) (vs.map some++l) (ds.map .fz++q):=by
     intro ds
     induction ds with
     | nil=>intro vs l q h p;rw[zN] at h;subst h;exact p
     | cons d r ih =>
       intro vs l q h p
       obtain⟨v,vr,rfl,h1,h2⟩:=zQ.mp h
       exact .cons (.fz h1) (ih vr l q h2 p)
   exact key ds vs _ _ r (rep _)
 · unfold eS at h1
   exfalso
   by_cases hi:i < ds.length
   · rw[Wx (by simpa using hi),Ws] at h1
     obtain⟨k,_,h1⟩:=Qy.mp h1
     cases h1;cases o1
   · rw[Ww (by simpa using hi),Es] at h1
     split at h1<;>cases h1<;>cases o1
section
variable {P:Program} {w:World} {K:PySem.W.Frag} {mg:Str->Option Value} {base:Heap} {x qual:Str} {st:Stmt} {f:Addr} {fd:FuncData} {N ps:List Str} {k:Nat}
theorem vL {body:Sf}(F:Fun K x qual st f fd)(S:FnScope N ps (zU st))
   (hb:∀(cdv:Value) (A:Around) (outer:List Env) (s:Shared) (H:Hp) (E:XK),Room k (A.deeper (envOfC qual (zU st) s.heap.objs.size f cdv))->kZ (iW CX0 P w K mg base N qual (zU st) f cdv A outer s H E).nox (yH st) body) :
   FnOk P w K mg base CX0 (k+1) f fd ps (spF K ps.length (fnF N.length body)):=by
 refine F.ok S (fun vs H Q E h=>?_) (fun cdv A outer s H vs Q E hr h=>⟨_,hb cdv A outer s H E hr,?_⟩)
 · obtain⟨G,ds,d,sub,rs,hl,_⟩:=h
   rw[←rs.length];exact hl
 · obtain⟨G,ds,d,sub,rs,hl,hf,k⟩:=h
   unfold fnF at hf
   obtain⟨o,h1,h2⟩:=Qq.mp hf
   refine⟨G,H,G,_,o,dS sub rs,h1,?_⟩
   cases o with
   | nx ρ=>cases h2;exact fun σ' H' G' s' g'=>k .non H' G' g'.st (uV.mpr rfl)
   | rt e=>cases h2;exact fun v H' G' s' r=>k v H' G' s' r
   | rl es=>cases h2;exact fun p us H' G' s' hn hp gp r=>k _ H' (upd G' p (.lst us)) (s'.frz hn hp gp) (yM.mpr ⟨p,us,rfl,.of zM,r.mono (Same.new gp)⟩)
   | bk ρ=>cases h2
   | ct ρ=>cases h2
theorem zUv {body:Sf}(F:Fun K x qual st f fd)(S:FnScope N ps (zU st))
   (hb:∀(cdv:Value) (A:Around) (outer:List Env) (s:Shared) (H:Hp) (E:XK),Room k (A.deeper (envOfC qual (zU st) s.heap.objs.size f cdv))->kZ (iW CX0 P w K mg base N qual (zU st) f cdv A outer s H E).nox (yH st) body) :
   FnOk P w K mg base CX0 (k+1) f fd ps (spL K ps.length (fnL N.length body)):=by
 refine F.ok S (fun vs H Q E h=>?_) (fun cdv A outer s H vs Q E hr h=>⟨_,hb cdv A outer s H E hr,?_⟩)
 · obtain⟨G,ds,d,sub,rs,hl,_⟩:=h
   rw[←rs.length];exact hl
 · obtain⟨G,ds,d,sub,rs,hl,hf,k⟩:=h
   unfold fnL at hf
   obtain⟨o,h1,h2⟩:=Qq.mp hf
   refine⟨G,H,G,_,o,dS sub rs,h1,?_⟩
   cases o with
   | rl es=>cases h2;exact fun p us H' G' s' hn hp gp r=>k p us H' G' s' hn hp gp r
   | _=>cases h2
theorem nH {CX:CXT}{n:Nat}:FnOk P w K mg base CX k f fd ps (spF K n fun _=>none) :=
 ⟨fun vs H Q E h=>(by obtain⟨_,_,_,_,_,_,z,_⟩:=h;exact nomatch z),fun A outer s H args us vs Q E _ _ _ _ h=>(by obtain⟨_,_,_,_,_,_,z,_⟩:=h;exact nomatch z)⟩
end
section
variable {X:Cx} {a c e:Expr} {es:List Expr} {fa fb:Ef} {ga:Lf} {tc:Tf} {pos p:Pos} {f g:Sf}
def zI (n:Nat)(f:List D->Option D)(g:Lf):Ef:=fun ρ=>(g ρ).bind fun ds=>if ds.length=n then f ds else none
theorem zT0 {k n:Nat}{fad:Addr}{fd:FuncData}{ps:List Str}{x:Str}{fD:List D->Option D}(F:FnOk X.prog X.w X.K X.mg X.base CX0 k fad fd ps (spF X.K n fD))(hr:Room k X.A)(hm:X.mg x=some (.ref fad))(hk:PySem.W.keepIn X.K (.ref fad)=true)(hb:Binds X.K fd ps [])(hg:Gl X x)
   (ha:PFA X (e::es) ga) (hdb:(x==("__debug__":Str))=false:=by decide) (he:starEach (e::es) X.env=(false,eval e X.env)::starEach es X.env:=by rfl) (hpl:(backTo pos (starEach es X.env)).any (·.1)=false:=by rfl) :
   PF X (.Call (.Name x p) (e::es) [] pos) (zI n fD ga):=by
 refine PE.to (zWR (E:=E0) F hr hg hm hk hb .nil gU ha hdb he hpl) ?_
 rintro σ H Q ⟨G0,H0,G,ρ,d,good,hf,k⟩
 unfold zI at hf
 obtain⟨ds,h1,hf⟩:=Qq.mp hf
 split at hf
 · rename_i hl
   refine⟨G0,H0,G,ρ,_,good,h1,fun vs H1 G1 s1 r1=>?_⟩
   show spF X.K n fD (vs++[]) H1 Q E0
   rw[Er]
   exact⟨G1,ds,d,s1.sub,r1,hl,hf,fun v H' G' s r=>k v H' G' (s1.trans s) r⟩
 · cases hf
def gK (n:Nat)(f:List D->Option (List D))(g:Lf):Lf:=fun ρ=>(g ρ).bind fun ds=>if ds.length=n then f ds else none
theorem zTc {k n:Nat}{fad:Addr}{fd:FuncData}{ps:List Str}{x:Str}{fD:List D->Option (List D)}(F:FnOk X.prog X.w X.K X.mg X.base CX0 k fad fd ps (spL X.K n fD))(hr:Room k X.A)(hm:X.mg x=some (.ref fad))(hk:PySem.W.keepIn X.K (.ref fad)=true)(hb:Binds X.K fd ps [])(hg:Gl X x)
   (ha:PFA X (e::es) ga) (hdb:(x==("__debug__":Str))=false:=by decide) (he:starEach (e::es) X.env=(false,eval e X.env)::starEach es X.env:=by rfl) (hpl:(backTo pos (starEach es X.env)).any (·.1)=false:=by rfl) :
   PFr X (.Call (.Name x p) (e::es) [] pos) (gK n fD ga):=by
 refine PE.toR (zWR (E:=E0) F hr hg hm hk hb .nil gU ha hdb he hpl) ?_
 rintro σ H Q ⟨G0,H0,G,ρ,d,good,hf,k⟩
 unfold gK at hf
 obtain⟨ds,h1,hf⟩:=Qq.mp hf
 split at hf
 · rename_i hl
   refine⟨G0,H0,G,ρ,_,good,h1,fun vs H1 G1 s1 r1=>?_⟩
   show spL X.K n fD (vs++[]) H1 Q E0
   rw[Er]
   exact⟨G1,ds,d,s1.sub,r1,hl,hf,fun p us H' G' s hn hp gp r=>k p us H' G' (s1.trans s) (s1.hh.free hn) hp gp r⟩
 · cases hf
def uP (t:Tf)(body:Sf):Nat->Sf
 | 0,_=>none
 | n+1,ρ=>(t ρ).bind fun c=>if c=true then(body ρ).bind fun o=>match o with
     | .nx ρ2=>uP t body n ρ2
     | .ct ρ2=>uP t body n ρ2
     | .bk ρ2=>some (.nx ρ2)
     | o=>some o
   else some (.nx ρ)
theorem bJ (n:Nat){body:List Stmt}{fb:Sf}(hp:PassesOwn (model X.prog X.w) X.A X.env X.xe)(hc:PFT X c tc)(hb:kZ X body fb):PFS X (.While c body [] pos) (uP tc fb n):=by
 refine PS.to (zUV hp hc hb) ?_
 rintro D σ H ⟨G0,H0,G,ρ,o,good,hf,k⟩
 refine⟨fun m σ H=>∃G2 ρ2,Same G G2/\Good X.K G0 H0 G2 H σ ρ2/\uP tc fb m ρ2=some o,⟨n,G,ρ,Same.refl _,good,hf⟩,?_⟩
 rintro m σ2 H2 ⟨G2,ρ2,sg,good2,hf2⟩
 cases m with
 | zero=>cases hf2
 | succ m =>
   unfold uP at hf2
   obtain⟨c',h1,hf2⟩:=Qq.mp hf2
   refine⟨G0,H0,G2,ρ2,c',good2,h1,fun H3 G3 s3=>?_⟩
   cases c' with
   | true =>
     rw[Qo rfl] at hf2
     obtain⟨o1,e2,hf2⟩:=Qq.mp hf2
     refine⟨fun σ' H'=>∃G2 ρ2,Same G G2/\Good X.K G0 H0 G2 H' σ' ρ2/\uP tc fb m ρ2=some o,fun σ' H' h=>⟨m,Oq _,h⟩,?_⟩
     refine⟨G0,H0,G3,ρ2,o1,good2.step s3,e2,?_⟩
     have sg3:Same G G3:=sg.trans s3.gg
     cases o1 with
     | nx ρ5=>exact fun σ5 H5 G5 s5 good5=>⟨G5,ρ5,sg3.trans s5,good5,hf2⟩
     | ct ρ5=>exact fun σ5 H5 G5 s5 good5=>⟨G5,ρ5,sg3.trans s5,good5,hf2⟩
     | bk ρ5=>cases hf2;exact fun σ5 H5 G5 s5 good5=>k σ5 H5 G5 (sg3.trans s5) good5
     | rt d=>cases hf2;exact k
     | rl d=>cases hf2;exact k
   | false =>
     rw[Qs (by decide)] at hf2
     cases hf2
     exact k σ2 H3 G3 (sg.trans s3.gg) (good2.step s3)
def tyD:D->Option String
 | .non=>some "NoneType"
 | .bl _=>some "bool"
 | .int _=>some "int"
 | .str _=>some "str"
 | .tup _=>some "tuple"
 | .lst _=>some "list"
 | _=>none
theorem zQz {pins:List (Addr×Obj)}{σ:St}{H G:Hp}{s:Shared}{A:Around}{E:Value->Shared->Prop}{Q:Value->Shared->Prop}{d:D}{v:V}{u cl:Value}{t:String}{k:Bool}(I:Inv X pins σ H s)(rv:RelV v u)(sub:Same G H)(r:Rep X.K G d v)(ht:tyD d=some t)
   (e:PySem.W.kitOne X.K (.type t) cl=some k) (h:∀tk,Q (.bool k) { s with toks:=tk }):wpAny (model X.prog X.w) A (call (.builtin "isinstance") [u,cl]) Q E s:=by
 cases d with
 | non=>cases ht;rw[uV] at r;subst r;cases rv;exact Tu PySem.W.kitx_none I.kIn True.intro e (fun z=>nomatch z) h
 | bl y=>cases ht;rw[vD] at r;subst r;cases rv;exact Tu PySem.W.kitx_bool I.kIn True.intro e (fun z=>nomatch z) h
 | int i=>cases ht;rw[zJ] at r;subst r;obtain⟨t,rfl⟩:=rv;exact Tu PySem.W.kitx_int I.kIn True.intro e (fun z=>nomatch z) h
 | str i=>cases ht;rw[xT] at r;subst r;obtain⟨t,rfl⟩:=rv;exact Tu PySem.W.kitx_str I.kIn True.intro e (fun z=>nomatch z) h
 | tup ds =>
   cases ht
   obtain⟨p,vs,rfl,q,_⟩:=xU.mp r
   cases rv
   obtain⟨its,_,⟨o,h1,h2,_⟩,_⟩:=I.tuple (sub.tup q)
   exact Tu PySem.W.kitx_tuple I.kIn ⟨o,h1,h2⟩ e (fun z=>nomatch z) h
 | lst ds =>
   cases ht
   obtain⟨p,vs,rfl,q,_⟩:=yM.mp r
   cases rv
   obtain⟨its,_,⟨o,n,h1,h2,_⟩,_⟩:=I.list (sub.seq q)
   exact Tu PySem.W.kitx_list I.kIn ⟨o,h1,h2⟩ e (fun z=>nomatch z) h
 | obj C ns ds=>cases ht
 | exc C ns ds=>cases ht
 | dct ks ds=>cases ht
theorem zSW (K:PySem.W.Frag):∀t:String,t∈["NoneType","bool","int","str","tuple","list"]->PySem.W.kitOne K (.type t) (.type "int")=some (decide (t="bool"∨t="int")):=by
 intro t ht
 simp only[Qf,Rw,Uz] at ht
 rcases ht with rfl | rfl | rfl | rfl | rfl | rfl<;>kernel_rfl
theorem zUm (K:PySem.W.Frag):∀t:String,t∈["NoneType","bool","int","str","tuple","list"]->PySem.W.kitOne K (.type t) (.type "bool")=some (decide (t="bool")):=by
 intro t ht
 simp only[Qf,Rw,Uz] at ht
 rcases ht with rfl | rfl | rfl | rfl | rfl | rfl<;>kernel_rfl
theorem zTH (K:PySem.W.Frag):∀t:String,t∈["NoneType","bool","int","str","tuple","list"]->PySem.W.kitOne K (.type t) (.type "str")=some (decide (t="str")):=by
 intro t ht
 simp only[Qf,Rw,Uz] at ht
 rcases ht with rfl | rfl | rfl | rfl | rfl | rfl<;>kernel_rfl
theorem zWw (K:PySem.W.Frag):∀t:String,t∈["NoneType","bool","int","str","tuple","list"]->PySem.W.kitOne K (.type t) (.type "tuple")=some (decide (t="tuple")):=by
 intro t ht
 simp only[Qf,Rw,Uz] at ht
 rcases ht with rfl | rfl | rfl | rfl | rfl | rfl<;>kernel_rfl
theorem zVv (K:PySem.W.Frag):∀t:String,t∈["NoneType","bool","int","str","tuple","list"]->PySem.W.kitOne K (.type t) (.type "list")=some (decide (t="list")):=by
 intro t ht
 simp only[Qf,Rw,Uz] at ht
 rcases ht with rfl | rfl | rfl | rfl | rfl | rfl<;>kernel_rfl
theorem jA {d:D}{t:String}(h:tyD d=some t):t∈["NoneType","bool","int","str","tuple","list"]:=by
 cases d<;>cases h<;>simp
def dW (p:D->Bool)(f:Ef):Ef:=fun ρ=>(f ρ).bind fun d=>match d with | .obj _ _ _=>none | .exc _ _ _=>none | .dct _ _=>none | d=>some (.bl (p d))
def isInt:D->Bool | .int _=>true | .bl _=>true | _=>false
def kL:D->Bool | .bl _=>true | _=>false
def eZ:D->Bool | .str _=>true | _=>false
def iZ:D->Bool | .tup _=>true | _=>false
def jQ:D->Bool | .lst _=>true | _=>false
theorem mY {T:Str}{TT:String}{q:D->Bool}{p1:Pos}(hT:bootBuiltins T=some (.type TT))(hq:∀(K:PySem.W.Frag) d t,tyD d=some t->PySem.W.kitOne K (.type t) (.type TT)=some (q d))(hg:Gl X "isinstance")(hm:X.mg "isinstance"=none)(hgT:Gl X T)(hmT:X.mg T=none)(h:PF X a fa)
   (hn:T≠"__name__":=by decide) (hd:(T==("__debug__":Str))=false:=by decide) (hs:starEach [a,.Name T p1] X.env=[(false,eval a X.env),(false,eval (.Name T p1) X.env)]:=by rfl):PF X (.Call (.Name "isinstance" p) [a,.Name T p1] [] pos) (dW q fa):=by
 have hcall:CallR X (.builtin "isinstance") (fun xs H Q=>∃x G d,xs=[x,.ty TT]/\Same G H/\Rep X.K G d x/\(tyD d).isSome=true/\Q (.bl (q d)) H):=by
   intro pins s σ H xs us Q I r hh
   obtain⟨x,G,d,rfl,sub,rx,ht,qq⟩:=hh
   obtain⟨u,u',rfl,ru,ru'⟩:=zWX r
   cases ru'
   obtain⟨t,ht⟩:=Tq.mp ht
   exact zQz I ru sub rx ht (hq _ d t ht) fun tk=>⟨.bl (q d),H,I.tok tk,rfl,qq⟩
 refine PE.to (tO hcall hg hm (by rfl) (yX h (yX (zSY (v:=.ty TT) hgT hmT hT rfl hn hd) xL) (by rw[hs];rfl)) (by decide) (by decide) (by rw[hs];rfl) (by rfl)) ?_
 rintro σ H Q ⟨G0,H0,G,ρ,d,good,hf,k⟩
 unfold dW at hf
 obtain⟨x,h1,hf⟩:=Qq.mp hf
 refine⟨G0,H0,G,ρ,_,good,h1,fun v H1 G1 s1 r1=>?_⟩
 have hx:(tyD x).isSome=true/\d = .bl (q x):=by
   cases x<;>first
     | (cases hf;exact⟨rfl,rfl⟩)
     | cases hf
 obtain⟨hx,rfl⟩:=hx
 exact⟨v,G1,x,rfl,s1.sub,r1,hx,k _ _ G1 s1 (vD.mpr rfl)⟩
theorem zRD (K:PySem.W.Frag)(d:D)(t:String)(h:tyD d=some t):PySem.W.kitOne K (.type t) (.type "int")=some (isInt d):=by
 rw[zSW K t (jA h)];cases d<;>cases h<;>simp[isInt,kL,eZ,iZ,jQ]
theorem zSJ (K:PySem.W.Frag)(d:D)(t:String)(h:tyD d=some t):PySem.W.kitOne K (.type t) (.type "bool")=some (kL d):=by
 rw[zUm K t (jA h)];cases d<;>cases h<;>simp[isInt,kL,eZ,iZ,jQ]
theorem zRU (K:PySem.W.Frag)(d:D)(t:String)(h:tyD d=some t):PySem.W.kitOne K (.type t) (.type "str")=some (eZ d):=by
 rw[zTH K t (jA h)];cases d<;>cases h<;>simp[isInt,kL,eZ,iZ,jQ]
theorem zXC (K:PySem.W.Frag)(d:D)(t:String)(h:tyD d=some t):PySem.W.kitOne K (.type t) (.type "tuple")=some (iZ d):=by
 rw[zWw K t (jA h)];cases d<;>cases h<;>simp[isInt,kL,eZ,iZ,jQ]
theorem zU0 (K:PySem.W.Frag)(d:D)(t:String)(h:tyD d=some t):PySem.W.kitOne K (.type t) (.type "list")=some (jQ d):=by
 rw[zVv K t (jA h)];cases d<;>cases h<;>simp[isInt,kL,eZ,iZ,jQ]
end
theorem Inv.turnedNew {X:Cx}{pins:List (Addr×Obj)}{σ:St}{H:Hp}{s:Shared}{h':Heap}{t':Nat}{fp:List Addr}{T:Addr}{o:HO}(I:Inv X pins σ H s)(k:∀b u,b∉fp->s.heap.get? b=some u->h'.get? b=some u)
   (hf:∀b∈fp,kQ X pins H b) (hT:s.heap.objs.size<=T) (new:ObjOk X.prog X.w (upd H T o) h' T o):Inv X pins σ (upd H T o) { s with heap:=h',toks:=t' }:=by
 have fr:H T=none:=I.hok.fresh hT
 have neT:∀b u,s.heap.get? b=some u->b≠T:=fun b u e=>Wf (Wt (Qp e) hT)
 have nfp:∀b u,H b=some u->b∉fp:=fun b u e z=>by have:=(hf b z).1;rw[e] at this;cases this
 refine I.step (g':=s.gens) (d':=s.drawn) (ch:=fp) (fun b hb=>⟨(hf b hb).2.2.2.1,(hf b hb).2.1,(hf b hb).2.2.2.2.1,(hf b hb).2.2.2.2.2⟩) (fun b u _ _ hc e _=>k b u hc e)
   (fun b u _ _ hc e _=>⟨u.slots,k b u hc e⟩) (fun b u _ e n=>by rw[zP (neT b u e)];exact n) (fun b u hc e=>⟨u,k b u hc e⟩)
   (fun b xs e=>by rw[zP (z8 e fr)];exact e) (fun b u x e=>by rw[zP (z8 e fr)];exact e) (fun b ps e=>⟨#[],by rw[zP (z8 e fr),e];simp⟩) (fun m hm=>?_) (fun b u e=>?_) I.bare
 · obtain⟨ob,es,ep,ho,r⟩:=hm
   exact⟨ob,es,ep,k _ ob (fun z=>(hf _ z).2.1 rfl) ho,r⟩
 · by_cases hb:b=T
   · subst hb;rw[zM] at e;cases e;exact new
   · rw[zP hb] at e
     refine(I.hok b u e).stay (fun c v hc q=>k c v ?_ q) (fun c q=>by rw[zP (z8 q fr)];exact q) fun c xs q=>by rw[zP (z8 q fr)];exact q
     rcases hc with z | z
     · rw[z];exact nfp b u e
     · exact nfp c _ z
theorem Inv.turnedL {X:Cx}{pins:List (Addr×Obj)}{σ:St}{H:Hp}{s:Shared}{h':Heap}{t':Nat}{fp:List Addr}(I:Inv X pins σ H s)(k:∀b u,b∉fp->s.heap.get? b=some u->h'.get? b=some u)
   (hf:∀b∈fp,kQ X pins H b):Inv X pins σ H { s with heap:=h',toks:=t' }:=by
 have nfp:∀b u,H b=some u->b∉fp:=fun b u e z=>by have:=(hf b z).1;rw[e] at this;cases this
 refine I.step (g':=s.gens) (d':=s.drawn) (ch:=fp) (fun b hb=>⟨(hf b hb).2.2.2.1,(hf b hb).2.1,(hf b hb).2.2.2.2.1,(hf b hb).2.2.2.2.2⟩) (fun b u _ _ hc e _=>k b u hc e)
   (fun b u _ _ hc e _=>⟨u.slots,k b u hc e⟩) (fun b u _ e n=>n) (fun b u hc e=>⟨u,k b u hc e⟩) (fun b xs e=>e) (fun b u x e=>e) (fun b ps e=>⟨#[],by rw[e];simp⟩) (fun m hm=>?_) (fun b u e=>?_) I.bare
 · obtain⟨ob,es,ep,ho,r⟩:=hm
   exact⟨ob,es,ep,k _ ob (fun z=>(hf _ z).2.1 rfl) ho,r⟩
 · refine(I.hok b u e).stay (fun c v hc q=>k c v ?_ q) (fun c q=>q) fun c xs q=>q
   rcases hc with z | z
   · rw[z];exact nfp b u e
   · exact nfp c _ z
def Ite (K:PySem.W.Frag)(a:Addr):It :=
 ⟨fun i H=>∃xs x,SqL K H a xs/\xs[i]?=some x,fun i H x H'=>∃p v,H p=none/\x = .ref p/\H'=upd H p (.tup [.int (i:Nat),v])/\∀xs,SqL K H a xs->xs[i]?=some v,fun i H=>∃xs,SqL K H a xs/\xs.length<=i⟩
theorem zVA {P:Program}{w:World}{K:PySem.W.Frag}{elts:List Expr}{k:Nat}{pos:Pos}(a e it:Addr)(hei:e≠it):Turn P w K (.Tuple elts k pos) (Ite K a) [e,it] e (fun i h=>(∃old,IsEnum h e it (i:Nat) old)/\h.IsListIter it a i) where
 mem:=by simp
 obj:=fun i h st b hb=>by
   obtain⟨⟨old,he⟩,o,h1,h2,h3⟩:=st
   rcases Qf.mp hb with z | z
   · subst z;exact⟨_,he,fun v q=>nomatch q⟩
   · rcases Qf.mp z with z | z
     · subst z;exact⟨o,h1,fun v q=>by rw[h3] at q;cases q⟩
     · cases z
 keep:=fun i h h' st kk=>by
   obtain⟨⟨old,he⟩,hl⟩:=st
   exact⟨⟨old,kk e (by simp) _ he⟩,hl.at fun o q=>kk it (by simp) o q⟩
 item:=by
   intro X hP hw hK hc i pins s σ H E I hf st hg
   subst hP hw hK
   obtain⟨xs,x,hq,hx⟩:=hg
   obtain⟨its,rv,p,hz⟩:=I.list hq
   obtain⟨u,hu,ru⟩:=rv.get hx
   obtain⟨⟨old,he⟩,hit⟩:=st
   refine wpAny_pyNext_enum_item he hit p.isList (x:=u) (by simpa using hu) hei fun h1 ho hit1 hT hsz hk=>?_
   have I1:Inv X pins σ (upd H s.heap.objs.size (.tup [.int (i:Nat),x])) { s with heap:=h1,toks:=s.toks+1 }:=I.turnedNew (fun b o hb e=>hk b o (fun z=>hb (by simp[z])) (fun z=>hb (by simp[z])) e) hf (Qd _)
     ⟨by show 2<=sizeLine;exact Wc (vP (by decide)),[.int (i:Nat) s.toks,u],.cons ⟨_,rfl⟩ (.cons ru .nil),⟨_,hT,rfl,_,rfl⟩⟩
   refine⟨_,rfl,wpAny_letOwnedTupleGo_enum ho fun h2 he2 hs2=>?_⟩
   have hs2:Heap.SameBut e h1 h2:=hs2
   have neT:∀b∈[e,it],b≠s.heap.objs.size:=fun b hb z=>by
     obtain⟨o,h1,h2,h3⟩:=hit
     rcases Qf.mp hb with q | q
     · exact absurd (Qp he) (by rw[←q,z];exact Wj _)
     · rcases Qf.mp q with q | q
       · exact absurd (Qp h1) (by rw[←q,z];exact Wj _)
       · cases q
   have hf1:∀b∈[e,it],kQ X pins (upd H s.heap.objs.size (.tup [.int (i:Nat),x])) b:=fun b hb=>⟨by rw[zP (neT b hb)];exact(hf b hb).1,(hf b hb).2⟩
   have I2:=I1.turnedL (h':=h2) (t':=s.toks+1) (fp:=[e,it]) (fun b o hb q=>(hs2.2 b (fun z=>hb (by simp[z]))).trans q) hf1
   refine⟨.ref s.heap.objs.size,_,I2,rfl,⟨s.heap.objs.size,x,I.fresh,rfl,rfl,fun ys hy=>by rw[I.list_inj hy hq];exact hx⟩,⟨⟨_,by simpa using he2⟩,hit1.at fun o q=>(hs2.2 it hei.symm).trans q⟩,fun b hb=>(hf1 b hb).1⟩
 done:=by
   intro X hP hw hK hc i pins s σ H E I hf st hg
   subst hP hw hK
   obtain⟨xs,hq,hx⟩:=hg
   obtain⟨its,rv,p,hz⟩:=I.list hq
   obtain⟨⟨old,he⟩,hit⟩:=st
   have hl:=rv.length
   exact wpAny_pyNext_enum_end (I.ok.hd hc) he hit p.isList (by simp;lia) fun h' eb=>⟨rfl,I.turnedL (t':=s.toks) (fp:=[e,it]) (fun b o hb q=>eb b o (fun z=>hb (by simp[z])) q) hf⟩
 self:=fun _ _ _ _ _ st h=>wpAny_pyIter_enum st.1.choose_spec h
theorem zZi {K:PySem.W.Frag}{G:Hp}{a:Addr}{vs:List V}{ds:List D}(h:SqL K G a vs)(r:Reps K G ds vs):dO K (Ite K a) G (ds.zipIdx.map fun q=>D.tup [.int (q.2:Nat),q.1]):=by
 intro i G2 H2 s1 s2
 have q:SqL K H2 a vs:=(s1.trans s2).seq h
 refine⟨fun d hd=>?_,fun hi=>⟨vs,q,by rw[←r.length];simpa using hi⟩⟩
 rw[Ws,List.getElem?_zipIdx] at hd
 obtain⟨⟨d0,j⟩,hd2,hd3⟩:=Qy.mp hd
 obtain⟨d1,hd1,e⟩:=Qy.mp hd2
 cases e
 subst hd3
 obtain⟨v,e,rv⟩:=r.get hd1
 refine⟨⟨vs,v,q,e⟩,fun x H3 y=>?_⟩
 obtain⟨p,u,hp,rfl,rfl,y⟩:=y
 have e2:=y vs q
 rw[e] at e2;cases e2
 have s3:=Step.laid (o:=.tup [.int (i:Nat),v]) s2 hp
 refine⟨_,s3,xU.mpr ⟨p,_,rfl,.of zM,zQ.mpr ⟨_,_,rfl,zJ.mpr (by simp),zQ.mpr ⟨_,_,rfl,(rv.mono s1).mono s3.gg,zN.mpr rfl⟩⟩⟩⟩
section
variable {X:Cx} {a b e:Expr} {es:List Expr} {fa:Ef} {ga gb:Lf} {pos p:Pos}
def eD (ds:List D):List D:=ds.zipIdx.map fun q=>D.tup [.int (q.2:Nat),q.1]
def zXm (g:Lf):Lf:=fun ρ=>(g ρ).map eD
def zSf (K:PySem.W.Frag)(f:Lf):TE:=fun σ H Q=>∃G0 H0 G ρ ds,Good K G0 H0 G H σ ρ/\f ρ=some ds/\∀a vs H' G',Step G H G' H'->SqL K G' a vs->Reps K G' ds vs->Q (.ref a) H'
def dL (X:Cx)(e:Expr)(f:Lf):Prop:=PE X e (zSf X.K f)
theorem gP (h:PFr X e ga):dL X e ga:=fun pins s σ H Q I q=>h pins s σ H Q I (by
 obtain⟨G0,H0,G,ρ,ds,good,hf,k⟩:=q
 exact⟨G0,H0,G,ρ,ds,good,hf,fun p vs H' G' s hn hp gp rs=>k p vs H' (upd G' p (.lst vs)) (s.frz hn hp gp) (.of zM) (rs.mono (Same.new gp))⟩)
theorem sX (h:PF X e fa):dL X e (iL fa):=fun pins s σ H Q I q=>h pins s σ H Q I (by
 obtain⟨G0,H0,G,ρ,ds,good,hf,k⟩:=q
 unfold iL at hf
 obtain⟨d,h1,hf⟩:=Qq.mp hf
 cases d with
 | lst es =>
   cases hf
   refine⟨G0,H0,G,ρ,_,good,h1,fun x H1 G1 s1 r1=>?_⟩
   obtain⟨p,vs,rfl,q,rs⟩:=yM.mp r1
   exact k p vs H1 G1 s1 q rs
 | _=>cases hf)
theorem zTq {elts:List Expr}{k:Nat}{pos':Pos}(hg:Gl X "enumerate")(hm:X.mg "enumerate"=none)(h:dL X a ga)(hs:starEach [a] X.env=[(false,eval a X.env)]:=by rfl):PFI X (.Tuple elts k pos') (.Call (.Name "enumerate" p) [a] [] pos) (zXm ga):=by
 intro pins s σ H R I q
 obtain⟨G0,H0,G,ρ,ds,good,hf,kk⟩:=q
 unfold zXm at hf
 obtain⟨es,h1,rfl⟩:=Qy.mp hf
 have h2:=yX h xL (by rw[hs];rfl) pos pins s σ H (fun vs H'=>∃a us G',vs=[.ref a]/\Step G H G' H'/\SqL X.K G' a us/\Reps X.K G' es us) I ⟨G0,H0,G,ρ,es,good,h1,fun a us H' G' s' hq rs=>⟨a,us,G',rfl,s',hq,rs⟩⟩
 refine Call_ (qW I hg hm (by rfl) (Ea (thn h2 fun us s1 ⟨vs,H1,I1,r1,l,ws,G1,e1,st1,hq,rs⟩=>?_) hs rfl))
 subst e1
 obtain⟨u,rfl,ru⟩:=gI r1
 cases ru
 obtain⟨its,rv,pl,hz⟩:=I1.list (st1.sub.seq hq)
 refine call_enumerate_list pl.isList fun h' he hit hsz hk=>?_
 have I2:Inv X pins σ H1 { s1 with heap:=h' }:=I1.kept (t':=s1.toks) hk
 refine wpAny_pyIter_enum he ?_
 refine⟨_,[s1.heap.objs.size+1,s1.heap.objs.size],_,_,H1,rfl,I2,zVA l _ _ (Nat.succ_ne_self _),⟨⟨_,he⟩,hit⟩,fun b hb=>?_,kk _ H1 G1 st1 (zZi hq rs)⟩
 have hb':s1.heap.objs.size<=b:=by
   rcases Qf.mp hb with z | z
   · rw[z];exact Rf _
   · rcases Qf.mp z with z | z
     · exact Ur z.symm
     · cases z
 exact I1.fpOk hb' (I1.hok.fresh hb')
def oO (f g:Lf):Lf:=fun ρ=>(f ρ).bind fun xs=>(g ρ).bind fun ys=>okL (xs++ys)
theorem zXP (ha:PFr X a ga)(hb:PFr X b gb):PFr X (.BinOp a .Add b pos) (oO ga gb):=by
 refine PE.toR (zY2 zSa ha hb) ?_
 rintro σ H Q ⟨G0,H0,G,ρ,d,good,hf,k⟩
 unfold oO at hf
 obtain⟨xs,h1,hf⟩:=Qq.mp hf
 obtain⟨ys,h2,hf⟩:=Qq.mp hf
 obtain⟨rfl,h3⟩:=jD hf
 refine⟨G0,H0,G,ρ,_,good,h1,fun p vs H1 G1 s1 hn hp gp rs=>⟨G0,H0,G1,ρ,_,good.step s1,h2,fun q us H2 G2 s2 hn2 hq gq rs2=>?_⟩⟩
 refine⟨p,q,vs,us,rfl,rfl,s2.hh _ _ hp,hq,?_,fun l hl=>?_⟩
 · rw[←rs.length,←rs2.length,←Qe];exact Wc (vP h3)
 · have s3:=Step.own (o:=.lst (vs++us)) s2.sub hl
   exact k l _ _ G2 ((s1.trans s2).trans s3) ((s1.trans s2).hh.free hl) zM (s2.sub.free hl) ((rs.mono s2.gg).append rs2)
abbrev Of:=List B->Option (Option Int)
def tFO (K:PySem.W.Frag)(f:Of):TO:=fun σ H Q=>∃G0 H0 G ρ o,Good K G0 H0 G H σ ρ/\f ρ=some o/\∀H' G',Step G H G' H'->Q o H'
def PFO (X:Cx)(e:Option Expr)(f:Of):Prop:=PO X e (tFO X.K f)
def oNo:Of:=fun _=>some none
def xI (f:Ef):Of:=fun ρ=>(f ρ).bind fun d=>match d with | .int i=>some (some i) | _=>none
theorem mX:PFO X none oNo:=fun pins s σ H Q I h=>zSN pins s σ H Q I (by
 obtain⟨G0,H0,G,ρ,o,good,hf,k⟩:=h
 cases hf
 exact k H G (.refl good.sub))
theorem sC (h:PF X e fa):PFO X (some e) (xI fa):=fun pins s σ H Q I q=>zTL h pins s σ H Q I (by
 obtain⟨G0,H0,G,ρ,o,good,hf,k⟩:=q
 unfold xI at hf
 obtain⟨d,h1,hf⟩:=Qq.mp hf
 cases d with
 | int i=>cases hf;exact⟨G0,H0,G,ρ,_,good,h1,fun v H' G' s r=>⟨i,zJ.mp r,k H' G' s⟩⟩
 | _=>cases hf)
def dX (xs:List D)(lo hi:Option Int):List D:=(xs.drop (HT.sIx xs.length 0 lo)).take (HT.sIx xs.length xs.length hi - HT.sIx xs.length 0 lo)
def xK (f:Ef)(lo hi:Of):Lf:=fun ρ=>(f ρ).bind fun d=>(lo ρ).bind fun l=>(hi ρ).bind fun u=>match d with | .lst ds=>some (dX ds l u) | _=>none
theorem wJ {lo hi:Option Expr}{fl fh:Of}{p2:Pos}(ha:PF X a fa)(hl:PFO X lo fl)(hh:PFO X hi fh):PFr X (.Subscript a (.Slice lo hi none p2) pos) (xK fa fl fh):=by
 refine PE.toR (zYr zTC ha hl hh) ?_
 rintro σ H Q ⟨G0,H0,G,ρ,d,good,hf,k⟩
 unfold xK at hf
 obtain⟨x,h1,hf⟩:=Qq.mp hf
 obtain⟨l,h2,hf⟩:=Qq.mp hf
 obtain⟨u,h3,hf⟩:=Qq.mp hf
 cases x with
 | lst ds =>
   cases hf
   refine⟨G0,H0,G,ρ,_,good,h1,fun v H1 G1 s1 r1=>⟨G0,H0,G1,ρ,_,good.step s1,h2,fun H2 G2 s2=>⟨G0,H0,G2,ρ,_,(good.step s1).step s2,h3,fun H3 G3 s3=>?_⟩⟩⟩
   obtain⟨q,vs,rfl,hq,rs⟩:=yM.mp r1
   have s23:=s2.trans s3
   refine⟨q,vs,rfl,s23.hh |> fun z=>(s1.sub.trans z).seq hq,fun p hp=>?_⟩
   have s4:=Step.own (o:=.lst (zVZ vs l u)) s23.sub hp
   refine k p _ _ G3 ((s1.trans s23).trans s4) ((s1.trans s23).hh.free hp) zM (s23.sub.free hp) ?_
   unfold zVZ dX
   rw[←rs.length]
   exact((rs.mono s23.gg).drop _).take _
 | _=>cases hf
end
section
structure ZApart (z TI TO i1 i2 l1 l2:Addr):Prop where
 a1:TI≠z
 a2:TO≠z
 a3:i1≠z
 a4:i2≠z
 a5:TI≠TO
 a6:TI≠i1
 a7:TI≠i2
 a8:TO≠i1
 a9:TO≠i2
 b1:i1≠i2
 b2:l1≠z
 b3:l1≠TO
 b4:l1≠i1
 b5:l1≠i2
 b6:l2≠z
 b7:l2≠TO
 b8:l2≠i1
 b9:l2≠i2
end
theorem zne {n:Nat}(i j:Nat)(h:i≠j):n+i≠n+j:=fun z=>h (Nat.add_left_cancel z)
def nX:List D->List D->List D
 | x::xs,y::ys=>.tup [x,y]::nX xs ys
 | _,_=>[]
theorem zYM:∀ {xs ys:List D} {i:Nat} {d:D},(nX xs ys)[i]?=some d->∃x y,xs[i]?=some x/\ys[i]?=some y/\d = .tup [x,y]
 | [],_,_,_,h=>by simp[nX] at h
 | _::_,[],_,_,h=>by simp[nX] at h
 | x::xs,y::ys,0,d,h=>by simp[nX] at h;exact⟨x,y,rfl,rfl,h.symm⟩
 | x::xs,y::ys,i+1,d,h=>by
   simp only[nX,Ti] at h
   obtain⟨a,b,h1,h2,h3⟩:=zYM h
   exact⟨a,b,by simpa using h1,by simpa using h2,h3⟩
theorem nB:∀(xs ys:List D),(nX xs ys).length=min xs.length ys.length
 | [],_=>by simp[nX]
 | _::_,[]=>by simp[nX]
 | x::xs,y::ys=>by rw[nX,Qh,nB xs ys,Qh,Qh];lia
end L2
set_option maxHeartbeats 4000000
namespace L2
open PySem PySem.Spec PyProof.Rows
def zX9 (f:D->D->Option Bool):List D->List D->Option Bool
 | x::xs,y::ys=>(f x y).bind fun a=>(zX9 f xs ys).map fun b=>a&&b
 | _,_=>some true
def eqD:Nat->D->D->Option Bool
 | _+1,.int i,.int j=>some (i==j)
 | _+1,.bl i,.bl j=>some (i==j)
 | _+1,.str i,.str j=>some (i==j)
 | _+1,.non,.non=>some true
 | n+1,.tup xs,.tup ys=>(zX9 (eqD n) xs ys).map fun b=>b&&xs.length==ys.length
 | n+1,.lst xs,.lst ys=>if xs.length=ys.length then zX9 (eqD n) xs ys else some false
 | _,_,_=>none
def pD (f:D->D->Option Bool)(xs ys:List D)(j:Nat):Bool:=match xs[j]?,ys[j]? with | some a,some c=>(f a c).getD true | _,_=>true
theorem cU {f:D->D->Option Bool}:∀ {xs ys:List D} {b:Bool},zX9 f xs ys=some b->b=(List.range (min xs.length ys.length)).all (pD f xs ys)/\∀(j:Nat) (a c:D),xs[j]?=some a->ys[j]?=some c->f a c=some (pD f xs ys j)
 | [],_,_,h=>by cases h;exact⟨by simp,fun j a c e=>by simp at e⟩
 | _::_,[],_,h=>by cases h;exact⟨by simp,fun j a c _ e=>by simp at e⟩
 | x::xs,y::ys,b,h=>by
   unfold zX9 at h
   obtain⟨a,h1,h⟩:=Qq.mp h
   obtain⟨b',h2,rfl⟩:=Qy.mp h
   obtain⟨e1,e2⟩:=cU h2
   constructor
   · rw[Qh,Qh,Nat.succ_min_succ,List.range_succ_eq_map,List.all_cons,List.all_map,e1]
     congr 1
     simp[pD,h1]
   · intro j p q hp hq
     cases j with
     | zero =>
       simp at hp hq
       subst hp;subst hq
       simp[pD,h1]
     | succ j =>
       have:=e2 j p q (by simpa using hp) (by simpa using hq)
       simpa [pD] using this
section
variable {X:Cx} {pins:List (Addr×Obj)} {σ:St} {H G:Hp} {s:Shared}
theorem zYm (I:Inv X pins σ H s)(sub:Same G H):∀(n:Nat) (d d':D) (x:V) (k:Bool),eqD n d d'=some k->Rep X.K G d x->Rep X.K G d' x->k=true:=by
 intro n
 induction n with
 | zero=>intro d d' x k h;cases d<;>cases d'<;>cases h
 | succ n ih =>
   have many:∀(ds es:List D) (vs:List V) (b:Bool),zX9 (eqD n) ds es=some b->Reps X.K G ds vs->Reps X.K G es vs->b=true:=by
     intro ds
     induction ds with
     | nil=>intro es vs b h _ _;cases h;rfl
     | cons d r ihr =>
       intro es vs b h r1 r2
       cases es with
       | nil=>cases h;rfl
       | cons e t =>
         unfold zX9 at h
         obtain⟨a,h1,h⟩:=Qq.mp h
         obtain⟨b',h2,rfl⟩:=Qy.mp h
         obtain⟨v,vr,rfl,q1,q2⟩:=zQ.mp r1
         obtain⟨v',vr',e',q3,q4⟩:=zQ.mp r2
         cases e'
         rw[ih d e v a h1 q1 q3,ihr t vr b' h2 q2 q4];rfl
   intro d d' x k h r1 r2
   cases d with
   | int i =>
     cases d' with
     | int j=>cases h;rw[zJ] at r1 r2;rw[r1] at r2;cases r2;simp
     | _=>cases h
   | bl i =>
     cases d' with
     | bl j=>cases h;rw[vD] at r1 r2;rw[r1] at r2;cases r2;simp
     | _=>cases h
   | str i =>
     cases d' with
     | str j=>cases h;rw[xT] at r1 r2;rw[r1] at r2;cases r2;simp
     | _=>cases h
   | non =>
     cases d' with
     | non=>cases h;rfl
     | _=>cases h
   | tup ds =>
     cases d' with
     | tup es =>
       unfold eqD at h
       obtain⟨b,h1,rfl⟩:=Qy.mp h
       obtain⟨p,vs,e1,q1,q2⟩:=xU.mp r1
       obtain⟨p',vs',e2,q3,q4⟩:=xU.mp r2
       rw[e1] at e2;cases e2
       have ev:=I.tuple_inj (sub.tup q1) (sub.tup q3)
       subst ev
       rw[many ds es vs b h1 q2 q4,q2.length,q4.length];simp
     | _=>cases h
   | lst ds =>
     cases d' with
     | lst es =>
       unfold eqD at h
       obtain⟨p,vs,e1,q1,q2⟩:=yM.mp r1
       obtain⟨p',vs',e2,q3,q4⟩:=yM.mp r2
       rw[e1] at e2;cases e2
       have ev:=I.list_inj (sub.seq q1) (sub.seq q3)
       subst ev
       rw[Qo (by rw[q2.length,q4.length])] at h
       exact many ds es vs k h q2 q4
     | _=>cases h
   | obj C ns ds=>cases d'<;>cases h
   | exc C ns ds=>cases d'<;>cases h
   | dct ks ds=>cases d'<;>cases h
theorem zR0 (I:Inv X pins σ H s)(sub:Same G H):∀(n:Nat) (A:Around) (d d':D) (x y:V) (u v:Value) (k:Bool),A.units+n < cLine->eqD n d d'=some k->Rep X.K G d x->Rep X.K G d' y->RelV x u->RelV y v ->
   SeqAt.RcAt A s u v k/\SeqAt.RcNeAt A s u v (!k)/\SeqAt.EqAt A s u v k:=by
 intro n
 induction n with
 | zero=>intro A d d' x y u v k _ h;cases d<;>cases d'<;>cases h
 | succ n ih =>
   intro A d d' x y u v k hu h r1 r2 ru rv
   have hu1:A.units < cLine:=by lia
   have hin:A.in1.units+n < cLine:=by show A.units+1+n < cLine;lia
   cases d with
   | int i =>
     cases d' with
     | int j=>cases h;rw[zJ] at r1 r2;subst r1;subst r2;obtain⟨t,rfl⟩:=ru;obtain⟨t',rfl⟩:=rv;exact⟨SeqAt.RcAt.int_int _ _ _ _,SeqAt.RcNeAt.int_int _ _ _ _,SeqAt.EqAt.int_int _ _ _ _⟩
     | _=>cases h
   | bl i =>
     cases d' with
     | bl j=>cases h;rw[vD] at r1 r2;subst r1;subst r2;cases ru;cases rv;exact⟨SeqAt.RcAt.bool_bool _ _,SeqAt.RcNeAt.bool_bool _ _,SeqAt.EqAt.bool_bool _ _⟩
     | _=>cases h
   | str i =>
     cases d' with
     | str j=>cases h;rw[xT] at r1 r2;subst r1;subst r2;obtain⟨t,rfl⟩:=ru;obtain⟨t',rfl⟩:=rv;exact⟨SeqAt.RcAt.str_str _ _ _ _,SeqAt.RcNeAt.str_str _ _ _ _,SeqAt.EqAt.str_str _ _ _ _⟩
     | _=>cases h
   | non =>
     cases d' with
     | non=>cases h;rw[uV] at r1 r2;subst r1;subst r2;cases ru;cases rv;exact⟨SeqAt.RcAt.none_none,SeqAt.RcNeAt.none_none,Oj _⟩
     | _=>cases h
   | tup ds =>
     cases d' with
     | tup es =>
       have h0:=h
       unfold eqD at h
       obtain⟨b,h1,rfl⟩:=Qy.mp h
       obtain⟨p,vs,rfl,q1,q2⟩:=xU.mp r1
       obtain⟨p',vs',rfl,q3,q4⟩:=xU.mp r2
       cases ru;cases rv
       obtain⟨its,w1,t1,_⟩:=I.tuple (sub.tup q1)
       obtain⟨jts,w2,t2,_⟩:=I.tuple (sub.tup q3)
       obtain⟨e1,e2⟩:=cU h1
       have l1:ds.length=its.length:=q2.length.trans w1.length
       have l2:es.length=jts.length:=q4.length.trans w2.length
       have he:∀j (a1:j < its.toArray.size) (a2:j < jts.toArray.size),SeqAt.EqAt A.in1 s its.toArray[j] jts.toArray[j] (pD (eqD n) ds es j):=fun j a1 a2=>by
         have b1:j < ds.length:=by rw[l1];simpa using a1
         have b2:j < es.length:=by rw[l2];simpa using a2
         obtain⟨v1,f1,g1⟩:=q2.get (Wi b1)
         obtain⟨v2,f2,g2⟩:=q4.get (Wi b2)
         obtain⟨u1,f3,g3⟩:=w1.get f1
         obtain⟨u2,f4,g4⟩:=w2.get f2
         have x1:its.toArray[j]=u1:=by
           have:=(Qn.mp f3).2
           simpa using this
         have x2:jts.toArray[j]=u2:=by
           have:=(Qn.mp f4).2
           simpa using this
         rw[x1,x2]
         exact(ih A.in1 _ _ v1 v2 u1 u2 _ hin (e2 j _ _ (Wi b1) (Wi b2)) g1 g2 g3 g4).2.2
       have ek:((List.range (min its.toArray.size jts.toArray.size)).all (pD (eqD n) ds es)&&its.toArray.size==jts.toArray.size)=(b&&ds.length==es.length):=by
         rw[Qu,Qu,←l1,←l2,e1]
       have R1:=SeqAt.RcAt.tuples t1 t2 hu1 he
       have R2:=SeqAt.RcNeAt.tuples t1 t2 hu1 he
       rw[ek] at R1 R2
       refine⟨R1,R2,?_⟩
       by_cases hp:p=p'
       · subst hp
         have hk:=zYm I sub (n+1) (.tup ds) (.tup es) (.ref p) _ h0 r1 r2
         rw[hk]
         exact Oj _
       · exact .of_refs hp R1
     | _=>cases h
   | lst ds =>
     cases d' with
     | lst es =>
       have h0:=h
       unfold eqD at h
       obtain⟨p,vs,rfl,q1,q2⟩:=yM.mp r1
       obtain⟨p',vs',rfl,q3,q4⟩:=yM.mp r2
       cases ru;cases rv
       obtain⟨its,w1,t1,_⟩:=I.list (sub.seq q1)
       obtain⟨jts,w2,t2,_⟩:=I.list (sub.seq q3)
       have l1:ds.length=its.length:=q2.length.trans w1.length
       have l2:es.length=jts.length:=q4.length.trans w2.length
       have fin:SeqAt.RcAt A s (.ref p) (.ref p') k/\SeqAt.RcNeAt A s (.ref p) (.ref p') (!k):=by
         split at h
         · rename_i hl
           obtain⟨e1,e2⟩:=cU h
           have he:∀j (a1:j < its.toArray.size) (a2:j < jts.toArray.size),SeqAt.EqAt A.in1 s its.toArray[j] jts.toArray[j] (pD (eqD n) ds es j):=fun j a1 a2=>by
             have b1:j < ds.length:=by rw[l1];simpa using a1
             have b2:j < es.length:=by rw[l2];simpa using a2
             obtain⟨v1,f1,g1⟩:=q2.get (Wi b1)
             obtain⟨v2,f2,g2⟩:=q4.get (Wi b2)
             obtain⟨u1,f3,g3⟩:=w1.get f1
             obtain⟨u2,f4,g4⟩:=w2.get f2
             have x1:its.toArray[j]=u1:=by
               have:=(Qn.mp f3).2
               simpa using this
             have x2:jts.toArray[j]=u2:=by
               have:=(Qn.mp f4).2
               simpa using this
             rw[x1,x2]
             exact(ih A.in1 _ _ v1 v2 u1 u2 _ hin (e2 j _ _ (Wi b1) (Wi b2)) g1 g2 g3 g4).2.2
           have hsz:its.toArray.size=jts.toArray.size:=by rw[Qu,Qu,←l1,←l2,hl]
           have ek:(List.range its.toArray.size).all (pD (eqD n) ds es)=k:=by
             rw[e1,Qu,←l1,←hl,Nat.min_self]
           have R1:=SeqAt.RcAt.lists t1.isList t2.isList hsz hu1 he
           have R2:=SeqAt.RcNeAt.lists t1.isList t2.isList hsz hu1 he
           rw[ek] at R1 R2
           exact⟨R1,R2⟩
         · rename_i hl
           cases h
           have hsz:(its.toArray.size != jts.toArray.size)=true:=by
             rw[Qu,Qu,←l1,←l2]
             simpa using hl
           exact⟨SeqAt.RcAt.lists_lengths t1.isList t2.isList hsz hu1,SeqAt.RcNeAt.lists_lengths t1.isList t2.isList hsz hu1⟩
       refine⟨fin.1,fin.2,?_⟩
       by_cases hp:p=p'
       · subst hp
         have hk:=zYm I sub (n+1) (.lst ds) (.lst es) (.ref p) _ h0 r1 r2
         rw[hk]
         exact Oj _
       · exact .of_refs hp fin.1
     | _=>cases h
   | obj C ns ds=>cases d'<;>cases h
   | exc C ns ds=>cases d'<;>cases h
   | dct ks ds=>cases d'<;>cases h
variable {b:Expr} {k:Nat}
def zX0:D->D->Option Bool:=eqD 8
def kO (x y:D):Option Bool:=(eqD 8 x y).map (!·)
theorem zZR (hr:Room k X.A):CmR X .Eq zX0:=by
 refine⟨fun x y H Q=>∃G d d' b,Same G H/\Rep X.K G d x/\Rep X.K G d' y/\eqD 8 d d'=some b/\Q (.bl b) H,?_,fun d d' k G H x y Q h s rx ry q=>⟨G,d,d',k,s,rx,ry,h,q H G (.refl s)⟩⟩
 intro pins s σ H x y v u Q I rx ry ⟨G,d,d',b,sub,r1,r2,h,q⟩
 have hu:=hr.units
 exact(zR0 I sub 8 X.A d d' x y v u b (by lia) h r1 r2 rx ry).1 X.prog X.w X.xe _ ⟨.bl b,H,I,rfl,q⟩
theorem iB (hr:Room k X.A):CmR X .NotEq kO:=by
 refine⟨fun x y H Q=>∃G d d' b,Same G H/\Rep X.K G d x/\Rep X.K G d' y/\eqD 8 d d'=some b/\Q (.bl (!b)) H,?_,fun d d' k G H x y Q h s rx ry q=>?_⟩
 · intro pins s σ H x y v u Q I rx ry ⟨G,d,d',b,sub,r1,r2,h,q⟩
   have hu:=hr.units
   exact(zR0 I sub 8 X.A d d' x y v u b (by lia) h r1 r2 rx ry).2.1 X.prog X.w X.xe _ ⟨.bl (!b),H,I,rfl,q⟩
 · unfold kO at h
   obtain⟨b,h1,rfl⟩:=Qy.mp h
   exact⟨G,d,d',b,s,rx,ry,h1,q H G (.refl s)⟩
def gW:List D->Option (List Int)
 | []=>some []
 | .int i::r=>(gW r).map fun is=>i::is
 | _=>none
theorem mO {K:PySem.W.Frag}{G:Hp}:∀ {ds:List D} {is:List Int} {vs:List V},gW ds=some is->Reps K G ds vs->vs=is.map V.int
 | [],_,_,h,r=>by cases h;rw[zN] at r;rw[r];rfl
 | d::t,_,_,h,r=>by
   unfold gW at h
   split at h
   · rename_i h';cases h'
   · rename_i k t' h'
     cases h'
     obtain⟨v,vr,rfl,r1,r2⟩:=zQ.mp r
     obtain⟨ks,h1,rfl⟩:=Qy.mp h
     rw[mO h1 r2,zJ.mp r1];rfl
   · cases h
end
section
variable {X:Cx} {a b:Expr} {fa fb:Ef} {pos:Pos} {st:Stmt}
def zSn:D->D->Option D
 | .int i,.int j=>some (.int (i+j))
 | .str i,.str j=>if i.length+j.length<=lim then some (.str (i++j)) else none
 | _,_=>none
def sU (fa fb:Ef):Ef:=fun ρ=>(fa ρ).bind fun x=>(fb ρ).bind fun y=>zSn x y
theorem pG (ha:PF X a fa)(hb:PF X b fb):PF X (.BinOp a .Add b pos) (sU fa fb):=by
 refine PE.to (zY2 (zUF.or zXY) ha hb) ?_
 rintro σ H Q ⟨G0,H0,G,ρ,d,good,hf,k⟩
 unfold sU at hf
 obtain⟨x,h1,hf⟩:=Qq.mp hf
 obtain⟨y,h2,hf⟩:=Qq.mp hf
 refine⟨G0,H0,G,ρ,_,good,h1,fun u H1 G1 s1 r1=>⟨G0,H0,G1,ρ,_,good.step s1,h2,fun v H2 G2 s2 r2=>?_⟩⟩
 have r1:=r1.mono s2.gg
 unfold zSn at hf
 split at hf
 · cases hf;exact .inl ⟨_,_,zJ.mp r1,zJ.mp r2,k _ _ G2 (s1.trans s2) (zJ.mpr rfl)⟩
 · split at hf
   · rename_i hz;cases hf;exact .inr ⟨_,_,xT.mp r1,xT.mp r2,Wc (vP hz),k _ _ G2 (s1.trans s2) (xT.mpr rfl)⟩
   · cases hf
 · cases hf
def zPT:V->Option Int->Option Int->Hp->VK->Prop:=fun x lo hi H Q=>∃z,x = .str z/\z.length<=sizeLine/\Q (.str (Txt.slice z lo hi)) H
theorem zRW:SlR X zPT:=by
 intro pins s σ H x v vl vu lo hi sl Q I rx hs pl pu h
 obtain⟨z,rfl,hz,q⟩:=h
 obtain⟨t,rfl⟩:=rx
 refine⟨"str",_,F.slot_str_getitem.lookup,typeIs_str s z t,?_⟩
 have fin:∀t' k,EP X pins σ Q (.str (Txt.slice z lo hi) t') { s with toks:=k }:=fun t' k=>⟨.str (Txt.slice z lo hi),H,I.tok k,⟨t',rfl⟩,q⟩
 cases pl with
 | none =>
   cases pu with
   | none=>exact To (l:=none) (u:=none) (st:=none) hs rfl (Up ⟨Wa (Ua z _ _) hz,fin⟩)
   | int j tj=>exact To (l:=none) (u:=some (j,tj)) (st:=none) hs rfl (Up ⟨Wa (Ua z _ _) hz,fin⟩)
 | int i ti =>
   cases pu with
   | none=>exact To (l:=some (i,ti)) (u:=none) (st:=none) hs rfl (Up ⟨Wa (Ua z _ _) hz,fin⟩)
   | int j tj=>exact To (l:=some (i,ti)) (u:=some (j,tj)) (st:=none) hs rfl (Up ⟨Wa (Ua z _ _) hz,fin⟩)
def iG (f:Ef)(lo hi:Of):Ef:=fun ρ=>(f ρ).bind fun d=>(lo ρ).bind fun l=>(hi ρ).bind fun u=>match d with | .str x=>if x.length<=lim then some (.str (Txt.slice x l u)) else none | _=>none
theorem cB {lo hi:Option Expr}{fl fh:Of}{p2:Pos}(ha:PF X a fa)(hl:PFO X lo fl)(hh:PFO X hi fh):PF X (.Subscript a (.Slice lo hi none p2) pos) (iG fa fl fh):=by
 refine PE.to (zYr zRW ha hl hh) ?_
 rintro σ H Q ⟨G0,H0,G,ρ,d,good,hf,k⟩
 unfold iG at hf
 obtain⟨x,h1,hf⟩:=Qq.mp hf
 obtain⟨l,h2,hf⟩:=Qq.mp hf
 obtain⟨u,h3,hf⟩:=Qq.mp hf
 cases x with
 | str z =>
   dsimp only at hf
   split at hf
   · rename_i hz
     cases hf
     refine⟨G0,H0,G,ρ,_,good,h1,fun v H1 G1 s1 r1=>⟨G0,H0,G1,ρ,_,good.step s1,h2,fun H2 G2 s2=>⟨G0,H0,G2,ρ,_,(good.step s1).step s2,h3,fun H3 G3 s3=>?_⟩⟩⟩
     exact⟨z,xT.mp r1,Wc (vP hz),k _ _ G3 ((s1.trans s2).trans s3) (xT.mpr rfl)⟩
   · cases hf
 | _=>cases hf
end
section
variable {X:Cx} {a b e:Expr} {fa fb:Ef} {ga gb:Lf} {pos p:Pos}
def zYx (fa fb:Ef):Ef:=fun ρ=>(fa ρ).bind fun x=>(fb ρ).bind fun y=>match x,y with | .int i,.int j=>some (.int (if j > i then j else i)) | _,_=>none
theorem zXA (hc:X.calm=true)(hg:Gl X "max")(hm:X.mg "max"=none)(ha:PF X a fa)(hb:PF X b fb)(hs:starEach [a,b] X.env=[(false,eval a X.env),(false,eval b X.env)]:=by rfl)(hs2:starEach [b] X.env=[(false,eval b X.env)]:=by rfl) :
   PF X (.Call (.Name "max" p) [a,b] [] pos) (zYx fa fb):=by
 refine PE.to (tO (zVR hc) hg hm (by rfl) (yX ha (yX hb xL (by rw[hs2];rfl)) (by rw[hs,hs2])) (by decide) (by decide) (by rw[hs,hs2]) (by rw[hs2];rfl)) ?_
 rintro σ H Q ⟨G0,H0,G,ρ,d,good,hf,k⟩
 unfold zYx at hf
 obtain⟨x,h1,hf⟩:=Qq.mp hf
 obtain⟨y,h2,hf⟩:=Qq.mp hf
 refine⟨G0,H0,G,ρ,_,good,h1,fun u H1 G1 s1 r1=>⟨G0,H0,G1,ρ,_,good.step s1,h2,fun v H2 G2 s2 r2=>?_⟩⟩
 split at hf
 · cases hf
   exact⟨_,_,by rw[zJ.mp r1,zJ.mp r2],k _ _ G2 (s1.trans s2) (zJ.mpr rfl)⟩
 · cases hf
theorem zT1:OpR X (binaryOp .Add) (fun x y H Q=>∃l b xs zs,x = .ref l/\y = .ref b/\SqL X.K H l xs/\SqL X.K H b zs/\xs.length+zs.length<=sizeLine/\∀p,H p=none->Q (.ref p) (upd H p (.lst (xs++zs)))):=by
 intro pins s σ H x y v u Q I rx ry h
 obtain⟨l,b,xs,zs,rfl,rfl,hH,hB,hz,q⟩:=h
 cases rx
 cases ry
 obtain⟨its,r,pl,_⟩:=I.list hH
 obtain⟨its2,r2,pl2,_⟩:=I.list hB
 obtain⟨⟨cls,dd,data,sl⟩,ho,hc,n,hd⟩:=pl.isList
 obtain⟨⟨cls2,dd2,data2,sl2⟩,ho2,hc2,n2,hd2⟩:=pl2.isList
 simp only at hc hd hc2 hd2
 subst hc hd hc2 hd2
 have hl:=r.length
 have hl2:=r2.length
 have e:its.toArray++its2.toArray=(its++its2).toArray:=by simp
 refine concat_meets ⟨_,ho,rfl⟩ ⟨_,ho2,rfl⟩ noFill_list_add seq_list_add PySem.F.slot_list_add PySem.F.entry_list_add (PySem.F.args_list_add_2 _ _) (list_addW l b its.toArray its2.toArray n n2 dd dd2 sl sl2 (by rw[Qu,Qu];lia)) ⟨ho,ho2,?_⟩
 rw[e]
 exact⟨.ref _,_,I.lnew (t':=s.toks) (r.append r2) (by rw[Qe];lia),rfl,q _ I.fresh⟩
theorem pO (ha:dL X a ga)(hb:dL X b gb):PFr X (.BinOp a .Add b pos) (oO ga gb):=by
 refine PE.toR (zY2 zT1 ha hb) ?_
 rintro σ H Q ⟨G0,H0,G,ρ,d,good,hf,k⟩
 unfold oO at hf
 obtain⟨xs,h1,hf⟩:=Qq.mp hf
 obtain⟨ys,h2,hf⟩:=Qq.mp hf
 obtain⟨rfl,h3⟩:=jD hf
 refine⟨G0,H0,G,ρ,_,good,h1,fun p vs H1 G1 s1 hq rs=>⟨G0,H0,G1,ρ,_,good.step s1,h2,fun q us H2 G2 s2 hq2 rs2=>?_⟩⟩
 refine⟨p,q,vs,us,rfl,rfl,(s1.sub.trans s2.hh).seq hq,s2.sub.seq hq2,?_,fun l hl=>?_⟩
 · rw[←rs.length,←rs2.length,←Qe];exact Wc (vP h3)
 · have s3:=Step.own (o:=.lst (vs++us)) s2.sub hl
   exact k l _ _ G2 ((s1.trans s2).trans s3) ((s1.trans s2).hh.free hl) zM (s2.sub.free hl) ((rs.mono s2.gg).append rs2)
end
structure FunD (K:PySem.W.Frag)(x qual:Str)(st:Stmt)(f:Addr)(fd:FuncData):Prop where
 ex:∃(oc:Value) (od:Option Addr) (dV kV doc pm:Value) (an:Option Addr) (cdv ct:Value) (osl:Array (Option Value)),
   fd=PySem.W.fnOf x qual (wK st) (yH st) (zU st) dV kV doc pm an cdv ct/\K.lookup f=some ⟨oc,od,.func fd,osl⟩/\PySem.W.codeIn K cdv qual=true
 kp:PySem.W.keepIn K (.ref f)=true
theorem lE {K:PySem.W.Frag}{G:Hp}{f:Str}{d:D}:∀ {ns:List Str} {ds:List D} {vs:List V},ns.length=ds.length->Reps K G ds vs->(ns.zip ds).lookup f=some d->∃u,(ns.zip vs).lookup f=some u/\Rep K G d u
 | [],_,_,_,_,h=>by simp at h
 | n::ns,[],_,hl,_,_=>by simp at hl
 | n::ns,e::ds,_,hl,r,h=>by
   obtain⟨v,vr,rfl,r1,r2⟩:=zQ.mp r
   rw[Ya,Ec] at h ⊢
   cases hq:f==n with
   | true=>rw[hq] at h;cases h;exact⟨v,rfl,r1⟩
   | false=>rw[hq] at h;exact lE (by simpa using hl) r2 h
section
variable {X:Cx} {a c e:Expr} {fa:Ef} {pos p:Pos} {st:Stmt}
def yZ (c f:Str)(fa:Ef):Ef:=fun ρ=>(fa ρ).bind fun d=>match d with | .obj c' ns ds=>if c'=c then(ns.zip ds).lookup f else none | _=>none
theorem yY {C:Addr}{c f:Str}(hC:ClsAt X.K c C)(hcl:Cls X.K C)(hn:NoAttr X.K C f)(ha:PF X a fa)(hb:attributeBase a f X.env (eval a X.env)=eval a X.env:=by rfl):PF X (.Attribute a f pos) (yZ c f fa):=by
 refine PE.to (zUx ha hb) ?_
 rintro σ H Q ⟨G0,H0,G,ρ,d,good,hf,k⟩
 unfold yZ at hf
 obtain⟨x,h1,hf2⟩:=Qq.mp hf
 cases x with
 | obj c' ns ds =>
   dsimp only at hf2
   by_cases hc:c'=c
   · rw[Qo hc] at hf2
     subst hc
     refine⟨G0,H0,G,ρ,_,good,h1,fun v H1 G1 s1 r1=>?_⟩
     obtain⟨C',q,dx,vs,e0,rfl,e1,e2,e3⟩:=oY.mp r1
     have ec:=hC.one e0
     subst ec
     obtain⟨u,e4,e5⟩:=lE e2 e3 hf2
     exact⟨q,_,dx,ns.zip vs,u,rfl,s1.sub _ _ e1,hcl,hn,e4,k _ _ G1 s1 e5⟩
   · rw[Qs hc] at hf2;cases hf2
 | _=>cases hf2
theorem zYL {f:Str}{y:V}:∀ {ns:List Str} {vs:List V},ns.length=vs.length->f∉ns->pU f y (ns.zip vs)=(ns++[f]).zip (vs++[y])
 | [],[],_,_=>rfl
 | [],_::_,h,_=>by simp at h
 | _::_,[],h,_=>by simp at h
 | n::ns,v::vs,h,hf=>by
   show(if n=f then _ else(n,v)::pU f y (ns.zip vs))=_
   rw[Qs (fun z=>hf (by rw[z];exact Qv)),zYL (by simpa using h) (fun z=>hf (Qb _ z))]
   rfl
def zUM (K:PySem.W.Frag)(C:Addr)(ns:List Str)(g:Lf):TS:=fun DD σ H=>∃(G0 H0 G:Hp) (ρ:List B) (p dx:Addr) (pre:List Str) (us:List V) (xs ds:List D),
 Good K G0 H0 G H σ ρ/\NoOw ρ/\σ[0]?=some (some (.ref p))/\H p=some (.ins C dx (pre.zip us))/\G p=none/\H0 p=none/\pre.length=us.length/\(pre++ns).Nodup/\(pre++ns).length<=900/\Reps K G xs us/\g ρ=some ds /\
 ∀H' G' vs,Step G0 H0 G' H'->H' p=some (.ins C dx ((pre++ns).zip vs))->G' p=none->Reps K G' (xs++ds) vs->DD.nx σ H'
theorem zXb {C:Addr}:PSs X [] (zUM X.K C [] zO):=by
 intro pins s σ H D I h
 refine aN pins s σ H D I ?_
 obtain⟨G0,H0,G,ρ,p,dx,pre,us,xs,ds,good,now,hs,hp,gp,h0,hl,nd,hz,rs,hg,k⟩:=h
 cases hg
 rw[Er] at k
 exact k H G us good.st (by rw[Er] at *;exact hp) gp (by rw[Er];exact rs)
theorem pV {C:Addr}{f x:Str}{ns:List Str}{g:Lf}{rest:List Stmt}{pos' p1:Pos}(hcl:Cls X.K C)(hn:NoAttr X.K C f)(hself:X.N[0]?=some x)(hvis:Vis X.env.scope x)(he:PF X e fa)(hr:PSs X rest (zUM X.K C ns g))(hd:(x==("__debug__":Str))=false:=by decide)(hcd:(x==("__classdict__":Str))=false:=by decide)
   (hs:swapsWith e (some (.Attribute (.Name x p1) f pos')) pos.line X.env=pure false:=by rfl):PSs X (.Assign [.Attribute (.Name x p1) f pos'] e pos::rest) (zUM X.K C (f::ns) (zY fa g)):=by
 intro pins s σ H D I h
 refine jO (zUh (oP hself hvis hd hcd) he hs) hr pins s σ H D I ?_
 obtain⟨G0,H0,G,ρ,p,dx,pre,us,xs,ds,good,now,hself,hp,gp,h0,hl,nd,hz,rs,hg,k⟩:=h
 obtain⟨d,dr,h1,h2,rfl⟩:=bB hg
 have hlp:pre.length < 1000:=by rw[Qe] at hz;lia
 have hnp:f∉pre:=fun z=>(Tk.mp nd).2.2 f z f Qv rfl
 have e1:pre++f::ns=(pre++[f])++ns:=by simp
 refine⟨G0,H0,G,ρ,d,good,h1,fun v H1 G1 s1 r1=>⟨.ref p,hself,p,C,dx,pre.zip us,rfl,s1.hh _ _ hp,hcl,hn,?_,?_⟩⟩
 · rw[Ol];lia
 · have hne:H p≠none:=by rw[hp];exact fun z=>nomatch z
   have gp1:G1 p=none:=(s1.new p _ hp rfl).trans gp
   refine⟨G0,H0,G1,ρ,p,dx,pre++[f],us++[v],xs++[d],dr,(good.step s1).wrX now gp1 h0,now,hself,?_,gp1,h0,by rw[Qe,Qe,hl];rfl,by rw[←e1];exact nd,by rw[←e1];exact hz,(rs.mono s1.gg).snoc r1,h2,fun H' G' vs st q1 q2 q3=>?_⟩
   · rw[zM,zYL hl hnp]
   · refine k H' G' vs st (by rw[e1];exact q1) q2 ?_
     rw[show xs++d::dr=(xs++[d])++dr by simp]
     exact q3
end
def spI (K:PySem.W.Frag)(C:Addr)(ns:List Str)(n:Nat)(f:List D->Option (List D)):Sp:=fun vs H Q _=>∃(p dx:Addr) (rest:List V) (G H0:Hp) (ds xs:List D),vs = .ref p::rest/\H=upd (upd H0 dx (.own p)) p (.ins C dx [])/\H0 p=none/\H0 dx=none/\dx≠p/\Same G H0/\Reps K G ds rest/\ds.length=n/\f ds=some xs /\
 ∀H' G' us,Step G H0 G' H'->H' p=some (.ins C dx (ns.zip us))->G' p=none->Reps K G' xs us->Q .non H'
theorem lZ {K:PySem.W.Frag}{G H0 H:Hp}(m:Nat):∀ {ds:List D} {vs:List V},Reps K G ds vs->Paired (RB K H0 G H) (vs.map some++List.replicate m none) (ds.map .fz++List.replicate m .no)
 | [],_,h=>by
   rw[zN] at h;subst h
   show Paired _ (List.replicate m none) (List.replicate m B.no)
   induction m with
   | zero=>exact .nil
   | succ n ih=>rw[Ro,Ro];exact .cons .no ih
 | d::r,_,h=>by
   obtain⟨v,vr,rfl,h1,h2⟩:=zQ.mp h
   exact .cons (.fz h1) (lZ m h2)
theorem fU (m:Nat)(ds:List D):NoOw (.no::(ds.map B.fz++List.replicate m B.no)):=by
 refine⟨?_,?_,?_⟩
 all_goals
   intro j es h
   cases j with
   | zero=>cases h
   | succ j =>
     rw[Ti] at h
     by_cases hi:j < ds.length
     · rw[Wx (by simpa using hi),Ws] at h
       obtain⟨k,_,h⟩:=Qy.mp h
       cases h
     · rw[Ww (by simpa using hi),Es] at h
       split at h<;>cases h
def mW (N:Nat)(ds:List D):List B:=.no::(ds.map .fz++List.replicate (N - (ds.length+1)) .no)
section
variable {P:Program} {w:World} {K:PySem.W.Frag} {mg:Str->Option Value} {base:Heap} {x qual:Str} {st:Stmt} {f C:Addr} {fd:FuncData} {N ps ns:List Str} {k:Nat} {sf:Str}
theorem zTF {g:Lf}(F:Fun K x qual st f fd)(S:FnScope N (sf::ps) (zU st))(hnd:ns.Nodup)(hlen:ns.length<=900)
   (hb:∀(cdv:Value) (A:Around) (outer:List Env) (s:Shared) (H:Hp) (E:XK),Room k (A.deeper (envOfC qual (zU st) s.heap.objs.size f cdv))->PSs (iW CX0 P w K mg base N qual (zU st) f cdv A outer s H E).nox (yH st) (zUM K C ns g)) :
   FnOk P w K mg base CX0 (k+1) f fd (sf::ps) (spI K C ns ps.length fun ds=>g (mW N.length ds)):=by
 refine F.ok S (fun vs H Q E h=>?_) (fun cdv A outer s H vs Q E hr h=>⟨_,hb cdv A outer s H E hr,?_⟩)
 · obtain⟨p,dx,rest,G,H0,ds,xs,rfl,_,_,_,_,_,rs,hl,_⟩:=h
   rw[Qh,Qh,←rs.length,hl]
 · obtain⟨p,dx,rest,G,H0,ds,xs,rfl,rfl,h1,h2,h3,sub,rs,hl,hf,k⟩:=h
   have hne:p≠dx:=h3.symm
   have hp1:(upd H0 dx (.own p)) p=none:=by rw[zP hne];exact h1
   have st1:Step G H0 G (upd H0 dx (.own p)):=Step.own sub h2
   have st2:Step G H0 G (upd (upd H0 dx (.own p)) p (.ins C dx [])):=st1.trans (Step.own st1.sub hp1)
   have good:Good K G H0 G (upd (upd H0 dx (.own p)) p (.ins C dx [])) (uW N (.ref p::rest)) (mW N.length ds):=by
     refine⟨st2,?_,fun i j a b c q1 _ o1 _=>((fU _ ds).own q1 o1).elim⟩
     unfold uW mW
     rw[Wo,Qh,Ym,←rs.length]
     exact .cons .no (lZ _ rs)
   refine⟨G,H0,G,_,p,dx,[],[],[],xs,good,fU _ ds,rfl,zM,sub.free h1,h1,rfl,hnd,hlen,zN.mpr rfl,hf,fun H' G' us s' q1 q2 q3=>k H' G' us s' q1 q2 q3⟩
variable {X:Cx} {c e:Expr} {es:List Expr} {ga:Lf} {pos p:Pos}
def nI (c:Str)(ns:List Str)(n:Nat)(f:List D->Option (List D))(g:Lf):Ef:=fun ρ=>(g ρ).bind fun ds=>if ds.length=n then(f ds).bind fun xs=>if ns.length=xs.length then some (.obj c ns xs) else none else none
theorem mJ {k n:Nat}{C fI:Addr}{fd:FuncData}{ps ns:List Str}{c:Str}{f:List D->Option (List D)}(hC:ClsAt X.K c C)(M:Mk X.K C fI)(F:FnOk X.prog X.w X.K X.mg X.base CX0 k fI fd ps (spI X.K C ns n f))(hr:Room (k+1) X.A)(hm:X.mg c=some (.ref C))(hb:Binds X.K fd ps [])(hg:Gl X c)
   (ha:PFA X (e::es) ga) (hdb:(c==("__debug__":Str))=false:=by decide) (he:starEach (e::es) X.env=(false,eval e X.env)::starEach es X.env:=by rfl) (hpl:(backTo pos (starEach es X.env)).any (·.1)=false:=by rfl) :
   PF X (.Call (.Name c p) (e::es) [] pos) (nI c ns n f ga):=by
 refine PE.to (zWE (E:=E0) M F hr hg hm hb .nil gU ha hdb he hpl) ?_
 rintro σ H Q ⟨G0,H0,G,ρ,d,good,hf,k⟩
 unfold nI at hf
 obtain⟨ds,h1,hf⟩:=Qq.mp hf
 split at hf
 · rename_i hl
   obtain⟨xs,h2,hf⟩:=Qq.mp hf
   split at hf
   · rename_i hn
     cases hf
     refine⟨G0,H0,G,ρ,_,good,h1,fun vs H1 G1 s1 r1 x dx hx hdx hne=>?_⟩
     refine⟨x,dx,vs++[],G1,H1,ds,xs,rfl,rfl,hx,hdx,hne,s1.sub,by rw[Er];exact r1,hl,h2,fun H' G' us s' q1 q2 q3=>⟨rfl,?_⟩⟩
     exact k _ _ _ (s1.trans (s'.frz hx q1 q2)) (oY.mpr ⟨C,x,dx,us,hC,rfl,zM,hn,q3.mono (Same.new q2)⟩)
   · cases hf
 · cases hf
def zRd:D->D->Option Bool
 | d,.non=>some (oE d)
 | .bl x,.bl y=>some (x==y)
 | .non,.bl _=>some false
 | .int _,.bl _=>some false
 | .str _,.bl _=>some false
 | .tup _,.bl _=>some false
 | .lst _,.bl _=>some false
 | .obj _ _ _,.bl _=>some false
 | .exc _ _ _,.bl _=>some false
 | _,_=>none
theorem zRO:OpR X (compareOp .Is) (fun x y H Q=>∃k,y = .bl k/\Q (.bl (decide (x = .bl k))) H):=by
 intro pins s σ H x y v u Q I rx ry h
 obtain⟨k,rfl,q⟩:=h
 cases ry
 cases x with
 | bl z=>cases rx;refine is_bool (zC I q ?_);rw[zZz]
 | non=>cases rx;refine Rv (by rfl) (by intro z;cases z) (zC I q (by simp))
 | int i=>obtain⟨t,rfl⟩:=rx;refine Rv (by rfl) (by intro z;cases z) (zC I q (by simp))
 | str i=>obtain⟨t,rfl⟩:=rx;refine Rv (by rfl) (by intro z;cases z) (zC I q (by simp))
 | byt i=>obtain⟨t,rfl⟩:=rx;refine Rv (by rfl) (by intro z;cases z) (zC I q (by simp))
 | flt i=>obtain⟨t,rfl⟩:=rx;refine Rv (by rfl) (by intro z;cases z) (zC I q (by simp))
 | ref i=>cases rx;refine Rv (by rfl) (by intro z;cases z) (zC I q (by simp))
 | ty i=>cases rx;refine Rv (by rfl) (by intro z;cases z) (zC I q (by simp))
theorem zSg:CmR X .Is zRd:=⟨_,zSc.or zRO,fun d d' k G H x y Q h s rx ry q=>by
 have fin:∀(z:Bool) (v:V),d' = .bl z->x=v->k=decide (v = .bl z)->(fun x y H Q=>y=V.non/\Q (.bl (decide (x = .non))) H) x y H Q∨(∃k,y = .bl k/\Q (.bl (decide (x = .bl k))) H):=fun z v e1 e2 e3=>by
   subst e1;subst e2
   exact .inr ⟨z,vD.mp ry,by rw[←e3];exact q H G (.refl s)⟩
 cases d' with
 | non =>
   have hk:oE d=k:=by cases d<;>(cases h;rfl)
   refine .inl ⟨uV.mp ry,?_⟩
   rw[aZ rx,hk];exact q H G (.refl s)
 | bl z =>
   cases d with
   | bl w=>cases h;exact fin z _ rfl (vD.mp rx) (by rw[zZz])
   | non=>cases h;exact fin z _ rfl (uV.mp rx) (by simp)
   | int i=>cases h;exact fin z _ rfl (zJ.mp rx) (by simp)
   | str i=>cases h;exact fin z _ rfl (xT.mp rx) (by simp)
   | tup ds=>cases h;obtain⟨p,_,e,_⟩:=xU.mp rx;exact fin z _ rfl e (by simp)
   | lst ds=>cases h;obtain⟨p,_,e,_⟩:=yM.mp rx;exact fin z _ rfl e (by simp)
   | obj _ _ ds=>cases h;obtain⟨_,p,_,_,_,e,_⟩:=oY.mp rx;exact fin z _ rfl e (by simp)
   | exc _ _ ds=>cases h;obtain⟨_,p,_,_,_,e,_⟩:=zWN.mp rx;exact fin z _ rfl e (by simp)
   | dct _ ds=>cases h
 | _=>cases d<;>cases h⟩
end
end L2
namespace L2
open PySem PySem.Spec PyProof.Rows
open PySem.W
end L2
namespace L2
open PySem PySem.Spec PySem.W
end L2
namespace L2
open PySem PySem.Spec PySem.W
open Builtin Builtin.ObjectAttr
def zYp:List Value->Bool
 | []=>false
 | v::r=>(v::r)==[.type "ValueError",.type "Exception",.type "BaseException",.type "object"]||match v with | .ref _=>zYp r | _=>false
end L2
namespace L2
open PySem PySem.Spec PyProof.Rows
structure XKit (K:PySem.W.Frag)(C:Addr):Prop where
 cl:(PySem.W.clsIn K C).isSome=true
 ga:PySem.W.findIn K (.ref C) "__getattribute__"=some (some (.builtin "BaseException.__getattribute__"))
 gt:PySem.W.findIn K (.ref C) "__getattr__"=some none
 gc:PySem.W.findIn K (.ref C) "__class__"=some (some (.builtin "object.__class__"))
 so:PySem.W.subIn K (.ref C) (.type "object")=some true
 sb:PySem.W.subIn K (.ref C) (.type "BaseException")=some true
def zQt (K:PySem.W.Frag)(C:Addr):Prop:=∃nm q N bs bm sn sub ab col dd k0 k1 k2 k3 k5,K.lookup C=some (excClassObj nm q C N bs bm true sn sub ab col dd k0 k1 k2 k3 k5 "ValueError.__new__")/\zYp bm=true
section
structure XSt (K:PySem.W.Frag)(C:Addr):Prop where
 kit:XKit K C
 ob:zQt K C
 sa:PySem.W.findIn K (.ref C) "__setattr__"=some (some (.builtin "object.__setattr__"))
end
structure XMk (K:PySem.W.Frag)(C f:Addr):Prop where
 ob:zQt K C
 init:PySem.W.findIn K (.ref C) "__init__"=some (some (.ref f))
 fn:PySem.W.isFn K (.ref f)=true
 kp:PySem.W.keepIn K (.ref C)=true
section
structure Z3 (z TI TO i1 i2 i3 l1 l2 l3:Addr):Prop where
 TIz:TI≠z
 TOz:TO≠z
 i1z:i1≠z
 i2z:i2≠z
 i3z:i3≠z
 TITO:TI≠TO
 TIi1:TI≠i1
 TIi2:TI≠i2
 TIi3:TI≠i3
 TOi1:TO≠i1
 TOi2:TO≠i2
 TOi3:TO≠i3
 i12:i1≠i2
 i13:i1≠i3
 i23:i2≠i3
 a1:l1≠z
 a2:l1≠TO
 a3:l1≠i1
 a4:l1≠i2
 a5:l1≠i3
 b1:l2≠z
 b2:l2≠TO
 b3:l2≠i1
 b4:l2≠i2
 b5:l2≠i3
 c1:l3≠z
 c2:l3≠TO
 c3:l3≠i1
 c4:l3≠i2
 c5:l3≠i3
end
section
variable {X:Cx} {a b e:Expr} {fa fb:Ef} {ga:Lf} {pos p:Pos}
def zUl (fa fb:Ef):Ef:=fun ρ=>(fa ρ).bind fun x=>(fb ρ).bind fun y=>match x,y with | .int i,.int j=>some (.int (if j < i then j else i)) | _,_=>none
theorem zRK (hc:X.calm=true)(hg:Gl X "min")(hm:X.mg "min"=none)(ha:PF X a fa)(hb:PF X b fb)(hs:starEach [a,b] X.env=[(false,eval a X.env),(false,eval b X.env)]:=by rfl)(hs2:starEach [b] X.env=[(false,eval b X.env)]:=by rfl) :
   PF X (.Call (.Name "min" p) [a,b] [] pos) (zUl fa fb):=by
 refine PE.to (tO (zVB hc) hg hm (by rfl) (yX ha (yX hb xL (by rw[hs2];rfl)) (by rw[hs,hs2])) (by decide) (by decide) (by rw[hs,hs2]) (by rw[hs2];rfl)) ?_
 rintro σ H Q ⟨G0,H0,G,ρ,d,good,hf,k⟩
 unfold zUl at hf
 obtain⟨x,h1,hf⟩:=Qq.mp hf
 obtain⟨y,h2,hf⟩:=Qq.mp hf
 split at hf
 · rename_i i j _h
   cases hf
   exact⟨G0,H0,G,ρ,_,good,h1,fun v H1 G1 s1 r1=>⟨G0,H0,G1,ρ,_,good.step s1,h2,fun u H2 G2 s2 r2=>⟨i,j,by rw[zJ.mp r1,zJ.mp r2],k _ _ G2 (s1.trans s2) (zJ.mpr rfl)⟩⟩⟩
 · cases hf
def jC (ns:List Int):Int:=ns.getD (argBest (fun i j=>decide (ns.getD i 0 > ns.getD j 0)) (ns.length - 1)) 0
theorem mH:∀ {ns:List Int} {its:List Value},Vals (ns.map V.int) its->∃ps:List (Int×Tok),its=ps.map (fun p=>Value.int p.1 p.2)/\ps.map (·.1)=ns
 | [],_,h=>by cases h;exact⟨[],rfl,rfl⟩
 | n::ns,_,h=>by
   cases h with
   | cons h1 h2 =>
     obtain⟨t,rfl⟩:=h1
     obtain⟨ps,rfl,rfl⟩:=mH h2
     exact⟨(n,t)::ps,rfl,rfl⟩
theorem zWj (hc:X.calm=true):CallR X (.builtin "max") (fun xs H Q=>∃(q:Addr) (ns:List Int),xs=[V.ref q]/\SqL X.K H q (ns.map V.int)/\0 < ns.length/\Q (.int (jC ns)) H):=by
 intro pins s σ H xs us Q I r h
 obtain⟨l,ns,rfl,hq,hl,q⟩:=h
 obtain⟨u,rfl,ru⟩:=gI r
 cases ru
 obtain⟨its,rv,pl,hz⟩:=I.list hq
 obtain⟨ps,rfl,rfl⟩:=mH rv
 have hit:s.heap.IsList l (intItems ps.toArray):=by
   have:=pl.isList
   unfold intItems
   rw[Ot]
   exact this
 have hn:∀i,numAt ps.toArray i=(ps.map (·.1)).getD i 0:=fun i=>by
   unfold numAt
   rw[Rh,Wp,Ws]
 refine max_intList (I.ok.hd hc) hit (by simpa using hl) fun v h' tk hv hk=>?_
 obtain⟨t,rfl⟩:=Oz hv
 refine⟨.int _,H,I.kept hk,⟨t,rfl⟩,?_⟩
 have e:numAt ps.toArray (argBest (fun i j=>decide (numAt ps.toArray i > numAt ps.toArray j)) (ps.toArray.size - 1))=jC (ps.map (·.1)):=by
   unfold jC
   rw[hn,Qu,Qt]
   simp only[hn]
 rw[e]
 exact q
def hU (g:Lf):Ef:=fun ρ=>(g ρ).bind fun ds=>(gW ds).bind fun ns=>if 0 < ns.length then some (.int (jC ns)) else none
theorem zW8 (hcm:X.calm=true)(hg:Gl X "max")(hm:X.mg "max"=none)(h:dL X a ga)(hs:starEach [a] X.env=[(false,eval a X.env)]:=by rfl):PF X (.Call (.Name "max" p) [a] [] pos) (hU ga):=by
 refine PE.to (tO (zWj hcm) hg hm (by rfl) (yX h xL (by rw[hs];rfl)) (by decide) (by decide) (by rw[hs];rfl) (by rfl)) ?_
 rintro σ H Q ⟨G0,H0,G,ρ,d,good,hf,k⟩
 unfold hU at hf
 obtain⟨ds,h1,hf⟩:=Qq.mp hf
 obtain⟨ns,h2,hf⟩:=Qq.mp hf
 split at hf
 · rename_i hl
   cases hf
   refine⟨G0,H0,G,ρ,ds,good,h1,fun q vs H1 G1 s1 e1 r1=>?_⟩
   rw[mO h2 r1] at e1
   exact⟨q,ns,rfl,s1.sub.seq e1,hl,k _ _ G1 s1 (zJ.mpr rfl)⟩
 · cases hf
end
end L2
namespace L2
open PySem PySem.W PyProof.Rows
section
variable {N:Nat} (hN:0 < N)
include hN
end
section
theorem wC {α β:Type}{F:α->β->Prop}{da:α}{db:β}:∀ {l:List α} {m:List β} {i:Nat},Paired F l m->i < l.length->F (l.getD i da) (m.getD i db)
 | _,_,_,.nil,h=>by simp at h
 | _,_,0,.cons r _,_=>r
 | _,_,i+1,.cons _ t,h=>by simpa using wC (i:=i) t (by simpa using h)
end
theorem uS {α:Type}(d:α):∀l:List α,(List.range l.length).map (fun i=>l.getD i d)=l:=fun l=>by
 apply Oy
 · simp
 · intro i h1 h2
   simp at h1
   simp[h1]
theorem bV {K:PySem.W.Frag}{G:Hp}:∀ {ds:List D} {vs:List V} {i:Nat},Reps K G ds vs->i < ds.length->Rep K G (ds.getD i .non) (vs.getD i .non)
 | [],_,_,_,h=>by simp at h
 | d::r,vs,0,h,_=>by
   obtain⟨v,t,rfl,r1,_⟩:=zQ.mp h
   exact r1
 | d::r,vs,i+1,h,hi=>by
   obtain⟨v,t,rfl,_,r2⟩:=zQ.mp h
   simpa using bV (i:=i) r2 (by simpa using hi)
theorem bT {K:PySem.W.Frag}{G:Hp}{ds:List D}{vs:List V}(h:Reps K G ds vs):∀p:List Nat,(∀i∈p,i < ds.length)->Reps K G (p.map fun i=>ds.getD i .non) (p.map fun i=>vs.getD i .non)
 | [],_=>zN.mpr rfl
 | i::r,hp=>zQ.mpr ⟨_,_,rfl,bV h (hp i (by simp)),bT h r fun j hj=>hp j (by simp[hj])⟩
end L2
namespace L2
open PySem PySem.W PyProof.Rows
section
variable {prog:Program} {w:World} {A:Around} {E:Value->Shared->Prop} {s:Shared} {κ:SortKind} {it:Array Keyed} {lt:Nat->Nat->Bool} {N:Nat}
def Orc (prog:Program)(w:World)(A:Around)(s:Shared)(κ:SortKind)(it:Array Keyed)(lt:Nat->Nat->Bool)(N:Nat):Prop :=
 ∀(i j:Nat) (C:Bool->Shared->Prop),i < N->j < N->C (lt i j) s->kas_cmp prog w A κ it i j C s
theorem zYj {i j:Nat}{Q:Option Bool->SortSt->Prop}{st:SortSt}(hq:Orc prog w A s κ it lt N)(hk:kindOf st=κ)(hi:i < N)(hj:j < N)(h:Q (some (lt i j)) st):wpS (model prog w) A E s (lt' (kas_item it i) (kas_item it j)) Q st:=by
 rw[lt'_eq]
 refine Qa (Yk ?_)
 refine Qa (Iu (wpAny_attempt ?_))
 rw[hk]
 exact Yt (hq i j (fun c s'=>c=lt i j/\s'=s) hi hj ⟨rfl,rfl⟩) (fun c s' ⟨e1,e2⟩=>by subst e1;exact⟨e2,Qk h⟩) fun _ _ z=>z.elim
theorem yR {α:Type}{arr:Array Keyed}{i:Nat}{x:Keyed}{Q:Keyed->SortSt->Prop}{st:SortSt}(hx:arr[i]?=some x)(h:Q x st):wpS (model prog w) A E s (elem' arr i) Q st:=by
 rw[elem'_eq,hx]
 exact Qk h
structure At (it:Array Keyed)(lo:Nat)(pre:Array Keyed)(q:Array Nat)(st:SortSt):Prop where
 arr:arrOf st=pre++q.map fun i=>kas_item it (lo+i)
 pl:pre.size=lo
theorem At.get {lo:Nat}{pre:Array Keyed}{q:Array Nat}{st:SortSt}(h:At it lo pre q st){i:Nat}(hi:i < q.size):(arrOf st)[lo+i]?=some (kas_item it (lo+gg q i)):=by
 rw[h.arr,Wh (by rw[h.pl];lia),h.pl]
 have:lo+i - lo=i:=by lia
 rw[this,rG]
 simp[hi]
theorem zWF {lo i j:Nat}{pre:Array Keyed}{q:Array Nat}{Q:Option Bool->SortSt->Prop}{st:SortSt}(hq:Orc prog w A s κ it lt N)(hk:kindOf st=κ)(h:At it lo pre q st)(hi:i < q.size)(hj:j < q.size)(bi:lo+gg q i < N)(bj:lo+gg q j < N)
   (hQ:Q (some (lt (lo+gg q i) (lo+gg q j))) st):wpS (model prog w) A E s (ltAt' (lo+i) (lo+j)) Q st:=by
 rw[ltAt'_eq]
 refine Qa (Yk (Qa (yR (α:=Unit) (h.get hi) (Qa (yR (α:=Unit) (h.get hj) ?_)))))
 exact zYj hq hk bi bj hQ
theorem zX8 {α:Type}{pre X:Array α}{i j:Nat}(hj:j<=X.size):mirror (pre++X) (pre.size+i) (pre.size+j) ((pre.size+j - (pre.size+i)) / 2)=pre++mirror X i j ((j - i) / 2):=by
 apply Tp
 intro k
 rw[Um (by rw[Ik];lia)]
 rcases Tw k pre.size with h | h
 · rw[Qs (by lia),Rq h,Rq h]
 · rw[Wh (xs:=pre) (ys:=mirror X i j ((j - i) / 2)) h,Um hj]
   by_cases c:i<=k - pre.size/\k - pre.size < j
   · rw[Qo (by lia),Qo c,Wh (by lia)]
     congr 1;lia
   · rw[Qs (by lia),Qs c,Wh h]
theorem zXM {α:Type}{pre X:Array α}{k l:Nat}(hk:k < X.size)(hl:l<=k):bubble (pre++X) (pre.size+k) (pre.size+k - (pre.size+l))=pre++bubble X k (k - l):=by
 apply Tp
 intro i
 rw[Og (by rw[Ik];lia) _ (by lia)]
 rcases Tw i pre.size with h | h
 · rw[Qs (by lia),Qs (by lia),Rq h,Rq h]
 · rw[Wh (xs:=pre) (ys:=bubble X k (k - l)) h,Og hk _ (by lia)]
   by_cases c1:i - pre.size=k - (k - l)
   · rw[Qo (by lia),Qo c1,Wh (by lia)]
     congr 1;lia
   · rw[Qs (by lia),Qs c1]
     by_cases c2:k - (k - l) < i - pre.size/\i - pre.size<=k
     · rw[Qo (by lia),Qo c2,Wh (by lia)]
       congr 1;lia
     · rw[Qs (by lia),Qs c2,Wh h]
theorem zZ6 {lo i j:Nat}{pre:Array Keyed}{q:Array Nat}{Q:Unit->SortSt->Prop}{st:SortSt}(h:At it lo pre q st)(hj:j<=q.size)(hQ:∀st',At it lo pre (kas_rev q i j) st'->kindOf st'=kindOf st->pendingOf st'=pendingOf st->gallopOf st'=gallopOf st->failedOf st'=failedOf st->Q () st') :
   wpS (model prog w) A E s (reverseSlice' (lo+i) (lo+j)) Q st:=by
 rw[reverseSlice'_eq]
 refine Rl (hQ _ ⟨?_,h.pl⟩ rfl rfl rfl rfl)
 show mirror (arrOf st) (lo+i) (lo+j) ((lo+j - (lo+i)) / 2)=_
 rw[h.arr]
 have e:=zX8 (pre:=pre) (X:=q.map fun i=>kas_item it (lo+i)) (i:=i) (j:=j) (by rw[Pq];exact hj)
 rw[h.pl] at e
 rw[e]
 congr 1
 exact kas_swaps_map (fun i=>kas_item it (lo+i)) (fun k=>i+k) (fun k=>j - 1 - k) _ q
theorem zTP {lo k l:Nat}{pre:Array Keyed}{q:Array Nat}{Q:Unit->SortSt->Prop}{st:SortSt}(h:At it lo pre q st)(hk:k < q.size)(hl:l<=k)(hQ:∀st',At it lo pre (bubble q k (k - l)) st'->kindOf st'=kindOf st->pendingOf st'=pendingOf st->gallopOf st'=gallopOf st->failedOf st'=failedOf st->Q () st') :
   wpS (model prog w) A E s (moveDown' (lo+k) (lo+l)) Q st:=by
 rw[moveDown'_eq]
 refine Rl (hQ _ ⟨?_,h.pl⟩ rfl rfl rfl rfl)
 show bubble (arrOf st) (lo+k) (lo+k - (lo+l))=_
 rw[h.arr]
 have e:=zXM (pre:=pre) (X:=q.map fun i=>kas_item it (lo+i)) (k:=k) (l:=l) (by rw[Pq];exact hk) hl
 rw[h.pl] at e
 rw[e]
 congr 1
 exact kas_swaps_map (fun i=>kas_item it (lo+i)) (fun i=>k - i) (fun i=>k - i - 1) _ q
structure Alk (st st':SortSt):Prop where
 k:kindOf st'=kindOf st
 p:pendingOf st'=pendingOf st
 f:failedOf st'=failedOf st
theorem Alk.rfl' {st:SortSt}:Alk st st:=⟨rfl,rfl,rfl⟩
theorem Alk.tr {a b c:SortSt}(h:Alk a b)(h':Alk b c):Alk a c:=⟨h'.k.trans h.k,h'.p.trans h.p,h'.f.trans h.f⟩
theorem zYa (W:SWO lt)(lo:Nat):SWO fun a b=>lt (lo+a) (lo+b):=⟨fun a=>W.irr _,fun a b c=>W.tr _ _ _,fun a b c=>W.neg _ _ _⟩
theorem Org.bd {M a:Nat}{q:Array Nat}(h:Org M q a){i:Nat}(hi:i < M):gg q i < M:=by
 have h1:i < q.size:=by rw[h.sz];exact hi
 have:gg q i∈q.toList:=by rw[rG];simp[h1]
 simpa using h.pm.subset this
theorem zTI {c:Prop}[Decidable c]{P:StateT SortSt Sem (Option Nat)}{X:StateT SortSt Sem (Option Bool)}{Y:StateT SortSt Sem Unit}{n:Nat}{Q:Option Nat->SortSt->Prop}{st:SortSt}(H:SortSt->Prop)(hP:∀st2,H st2->wpS (model prog w) A E s P Q st2)
   (h1:c->wpS (model prog w) A E s X (fun x st2=>∃r:Bool,x=some r/\(r=true->Q (some n) st2)/\(r=false->wpS (model prog w) A E s Y (fun _ st3=>H st3) st2)) st) (h2:¬c->H st) :
   wpS (model prog w) A E s (if c then(X >>= fun x=>match x with | some r=>if r=true then pure (some n) else(Y >>= fun _=>P) | _=>pure none) else P) Q st:=by
 by_cases hc:c
 · rw[Qo hc]
   refine Qa (Ex (h1 hc) ?_)
   rintro x st2 ⟨r,rfl,a1,a2⟩
   dsimp only
   cases r with
   | true=>rw[Qo rfl];exact Qk (a1 rfl)
   | false=>rw[Qs (by decide)];exact Qa (Ex (a2 rfl) fun _ st3 h3=>hP st3 h3)
 · rw[Qs hc]
   exact hP st (h2 hc)
theorem zU2 (W:SWO lt){M:Nat}{p:Array Nat}{k l:Nat}(hk:k < M)(a1:l<=k)(hs:Srt lt p k)(ho:Org M p k)(a2:∀i,i < l->lt (gg p k) (gg p i)=false)(a3:∀i,l<=i->i < k->lt (gg p k) (gg p i)=true):Srt lt (bubble p k (k - l)) (k+1)/\Org M (bubble p k (k - l)) (k+1):=by
 have hks:k < p.size:=by rw[ho.sz];exact hk
 have hkk:gg p k=k:=ho.hi k (Qd _) hk
 refine⟨fun i j hij hj=>?_,⟨by rw[bubble_size];exact ho.sz,(Ov.mp (bubble_perm _ _ _)).trans ho.pm,fun j h1 h2=>?_,fun i hi=>?_⟩⟩
 · have hlo:∀i,i < l->Lx lt (gg p i) (gg p k):=fun i hi=>Lx.of W (a2 i hi) (by rw[hkk];exact ho.lo i (by lia))
   rw[zZy hks a1,zZy hks a1]
   by_cases ei:i=l
   · rw[Qo ei,Qs (by lia),Qo (by lia)]
     exact .inl (a3 _ (by lia) (by lia))
   · rw[Qs ei]
     by_cases ej:j=l
     · rw[Qo ej,Qs (by lia)]
       exact hlo i (by lia)
     · rw[Qs ej]
       by_cases hi':l < i/\i<=k
       · rw[Qo hi',Qo (by lia)]
         exact hs _ _ (by lia) (by lia)
       · rw[Qs hi']
         by_cases hj':l < j/\j<=k
         · rw[Qo hj']
           exact hs _ _ (by lia) (by lia)
         · rw[Qs hj']
           exact hs _ _ (by lia) (by lia)
 · rw[zZy hks a1,Qs (by lia),Qs (by lia)]
   exact ho.hi j (by lia) h2
 · rw[zZy hks a1]
   by_cases e0:i=l
   · rw[Qo e0,hkk];lia
   · rw[Qs e0]
     by_cases e1:l < i/\i<=k
     · rw[Qo e1]
       have:=ho.lo (i - 1) (by lia)
       lia
     · rw[Qs e1]
       have:=ho.lo i (by lia)
       lia
section
variable {lo M:Nat} {pre:Array Keyed} (W:SWO lt) (hq:Orc prog w A s κ it lt N) (hb:lo+M<=N)
include W hq hb
theorem zV3 {q:Array Nat}{Q:Option Nat->SortSt->Prop}{st:SortSt}(hk:kindOf st=κ)(h:At it lo pre q st)(hM:1<=M)(ho:Org M q 1)
   (hQ:∀n q' st',At it lo pre q' st'->Alk st st'->zQi (fun a b=>lt (lo+a) (lo+b)) M (n,q')->Q (some n) st'):wpS (model prog w) A E s (countRun' lo M) Q st:=by
 have WL:=zYa W lo
 have ask:∀ {q:Array Nat} {st':SortSt} {a:Nat} {i j:Nat} {R:Option Bool->SortSt->Prop},kindOf st'=κ->At it lo pre q st'->Org M q a->i < M->j < M->R (some (lt (lo+gg q i) (lo+gg q j))) st'->wpS (model prog w) A E s (ltAt' (lo+i) (lo+j)) R st':=fun {q st' a i j R} k1 k2 k3 k4 k5 k6 =>
   zWF hq k1 k2 (by rw[k3.sz];exact k4) (by rw[k3.sz];exact k5) (by have:=k3.bd k4;lia) (by have:=k3.bd k5;lia) k6
 rw[countRun'_eq]
 refine Qa (Ex (Ew (I:=fun i c st'=>c=(none,i)/\st'=st/\Srt (fun a b=>lt (lo+a) (lo+b)) q i/\Org M q i)
   (Q:=fun c st'=>∃m,c=(none,m)/\st'=st/\1<=m/\m<=M/\Srt (fun a b=>lt (lo+a) (lo+b)) q m/\Org M q m/\(m < M->lt (lo+gg q m) (lo+gg q (m - 1))=true)) ?step ?fin ⟨rfl,rfl,fun i j hij hj=>by lia,ho⟩) ?post)
 case step =>
   rintro i c st' hi1 hi2 ⟨rfl,rfl,hs,ho⟩
   dsimp only
   have e1:lo+i - 1=lo+(i - 1):=by lia
   rw[e1]
   refine Qa (ask hk h ho hi2 (by lia) ?_)
   dsimp only
   cases hc:lt (lo+gg q i) (lo+gg q (i - 1)) with
   | true =>
     rw[Qo rfl]
     exact Qk ⟨i,rfl,rfl,hi1,by lia,hs,ho,fun _=>hc⟩
   | false =>
     rw[Qs (by decide)]
     exact Qk ⟨rfl,rfl,eO WL hi1 hi2 hs ho hc,ho.next hi2⟩
 case fin =>
   rintro c st' ⟨rfl,rfl,hs,ho⟩
   have e:max 1 M=M:=by lia
   rw[e] at hs ho ⊢
   exact⟨M,rfl,rfl,hM,Qd _,hs,ho,fun z=>absurd z (Wj _)⟩
 case post =>
   rintro c st' ⟨n,rfl,rfl,h1,hn,hs,ho,hlt⟩
   dsimp only
   by_cases hnM:n=M
   · rw[Qo (by simpa using hnM)]
     exact Qk (hQ n q st' h .rfl' ⟨h1,hn,hs,ho⟩)
   rw[Qs (by simpa using hnM)]
   have hlt:=hlt (by lia)
   have hsz:n<=q.size:=by rw[ho.sz];lia
   refine zTI (fun st2=>∃q2,At it lo pre q2 st2/\Alk st' st2/\Fal (fun a b=>lt (lo+a) (lo+b)) M q2 (n+1) 0) ?down ?rose ?one
   case one =>
     intro hn1
     have:n=1:=by lia
     subst this
     refine⟨q,h,.rfl',jF WL (by lia) (by lia) (fun i j hij hj=>by lia) ho fun i hi=>?_⟩
     have:i=0:=by lia
     subst this
     exact hlt
   case rose =>
     intro hn1
     have e1:lo+n - 1=lo+(n - 1):=by lia
     rw[e1]
     have e0:lo=lo+0:=rfl
     refine ask (i:=0) hk h ho (by lia) (by lia) ⟨_,rfl,fun _=>hQ n q st' h .rfl' ⟨h1,hn,hs,ho⟩,fun hc=>?_⟩
     have hall:∀i j,i < j->j < n->lt (lo+gg q i) (lo+gg q j)=false:=fun i j hij hj=>by
       have z0:lt (lo+gg q i) (lo+gg q 0)=false:=by
         by_cases e:i=0
         · subst e;exact W.irr _
         · exact Lx.le WL (hs 0 i (by lia) (by lia))
       have z1:lt (lo+gg q (n - 1)) (lo+gg q j)=false:=by
         by_cases e:j=n - 1
         · subst e;exact W.irr _
         · exact Lx.le WL (hs j (n - 1) (by lia) (by lia))
       exact W.ntr z0 (W.ntr hc z1)
     refine zZ6 (i:=0) h hsz fun st2 g1 g2 g3 g4 g5=>⟨_,g1,⟨g2,g3,g5⟩,jF WL (by lia) (by lia) (fun i j hij hj=>?_) (ho.rev (by lia)) fun i hi=>?_⟩
     · rw[tD hsz,tD hsz,Qo (by lia),Qo (by lia)]
       exact hs _ _ (by lia) (by lia)
     · show lt _ _=true
       rw[tD hsz,tD hsz,Qs (by lia),Qo (by lia)]
       by_cases e:0+n - 1 - i=n - 1
       · rw[e];exact hlt
       · exact W.eqr hlt (hall _ _ (by lia) (by lia))
   case down =>
     rintro st2 ⟨q2,g1,g2,g3⟩
     refine Qa (Iu (Te ⟨rfl,?_⟩))
     refine Qa (Ex (Ew (I:=fun i c st3=>∃q3 m,c=(none,i,m)/\At it lo pre q3 st3/\Alk st' st3/\Fal (fun a b=>lt (lo+a) (lo+b)) M q3 i m)
       (Q:=fun c st3=>∃q3 i m,c=(none,i,m)/\n+1<=i/\i<=M/\At it lo pre q3 st3/\Alk st' st3/\Fal (fun a b=>lt (lo+a) (lo+b)) M q3 i m) ?dstep ?dfin ⟨q2,0,rfl,g1,g2,g3⟩) ?dpost)
     case dfin =>
       rintro c st3 ⟨q3,m,rfl,a1,a2,a3⟩
       have e:max (n+1) M=M:=by lia
       rw[e] at a3 ⊢
       exact⟨q3,M,m,rfl,by lia,Qd _,a1,a2,a3⟩
     case dstep =>
       rintro i c st3 hi1 hi2 ⟨q3,m,rfl,a1,a2,a3⟩
       dsimp only
       have hm:=a3.hq
       have e1:lo+i - 1=lo+(i - 1):=by lia
       rw[e1]
       have hk3:kindOf st3=κ:=a2.k.trans hk
       refine Qa (ask hk3 a1 a3.og hi2 (by lia) ?_)
       dsimp only
       cases hc:lt (lo+gg q3 i) (lo+gg q3 (i - 1)) with
       | true =>
         rw[Qo rfl]
         have hl:=fun i' hi'=>Fal.less WL a3 hc i' hi'
         by_cases hm0:m > 0
         · rw[Qo hm0]
           have e2:lo+i - (m+1)=lo+(i - (m+1)):=by lia
           rw[e2]
           obtain⟨t1,t2⟩:=Fal.turn WL a3 (by lia)
           have hs3:i<=q3.size:=by rw[a3.og.sz];lia
           refine Qa (zZ6 a1 hs3 fun st4 b1 b2 b3 b4 b5=>Qk ⟨_,0,rfl,b1,a2.tr ⟨b2,b3,b5⟩,jF WL (by lia) (by lia) t1 t2 fun i' hi'=>?_⟩)
           show lt _ _=true
           rw[tD hs3,tD hs3,Qs (by lia)]
           split
           · exact hl _ (by lia)
           · exact hl _ hi'
         · rw[Qs hm0]
           have:m=0:=by lia
           subst this
           exact Qk ⟨q3,0,rfl,a1,a2,jF WL (by lia) (by lia) (Fal.dcr WL a3) a3.og hl⟩
       | false =>
         rw[Qs (by decide)]
         refine Qa (ask hk3 a1 a3.og (by lia) hi2 ?_)
         dsimp only
         cases hd:lt (lo+gg q3 (i - 1)) (lo+gg q3 i) with
         | true =>
           rw[Qo rfl]
           exact Qk ⟨q3,i,m,rfl,hi1,by lia,a1,a2,a3⟩
         | false =>
           rw[Qs (by decide)]
           have hnn:gg q3 i=i:=a3.og.hi i (by lia) (by lia)
           refine Qk ⟨q3,m+1,rfl,a1,a2,by lia,fun x y hxy hy=>a3.dn x y hxy (by lia),fun x y hx hy hy'=>?_,fun x y hx hxy hy=>?_,a3.og.next (by lia)⟩
           · by_cases e:y=i
             · subst e;exact WL.eql (a3.ac x (y - 1) (by lia) (by lia) (by lia)) hd
             · exact a3.ac x y (by lia) (by lia) (by lia)
           · by_cases e:y=i
             · subst e
               obtain⟨l1,l2⟩:=Fal.last WL a3 (i:=x) (by lia) (by lia)
               exact⟨WL.ntr l1 hd,WL.ntr hc l2,by rw[hnn];exact a3.og.lo x (by lia)⟩
             · exact a3.eq x y (by lia) hxy (by lia)
     case dpost =>
       rintro c st3 ⟨q3,i,m,rfl,hi1,hi2,a1,a2,a3⟩
       dsimp only
       have hm:=a3.hq
       have hs3:i<=q3.size:=by rw[a3.og.sz];lia
       -- turned as a whole, and what rises aB it
       have tail:∀(q4:Array Nat) (st4:SortSt),At it lo pre q4 st4->Alk st' st4->Dcr (fun a b=>lt (lo+a) (lo+b)) q4 i->Org M q4 i->wpS (model prog w) A E s (reverseSlice' lo (lo+i)) (fun _ st5=>∃q5,At it lo pre q5 st5/\Alk st' st5/\Srt (fun a b=>lt (lo+a) (lo+b)) q5 i/\Org M q5 i) st4:=fun q4 st4 b1 b2 b3 b4=>by
         have hs4:i<=q4.size:=by rw[b4.sz];lia
         exact zZ6 (i:=0) b1 hs4 fun st5 c1 c2 c3 c4 c5=>⟨_,c1,b2.tr ⟨c2,c3,c5⟩,zTi hs4 b3,b4.rev hi2⟩
       by_cases hm0:m > 0
       · rw[Qo hm0]
         have e2:lo+i - (m+1)=lo+(i - (m+1)):=by lia
         rw[e2]
         obtain⟨t1,t2⟩:=Fal.turn WL a3 hi2
         refine Qa (zZ6 a1 hs3 fun st4 b1 b2 b3 b4 b5=>Qa (Ex (tail _ st4 b1 (a2.tr ⟨b2,b3,b5⟩) t1 t2) ?_))
         rintro _ st5 ⟨q5,c1,c2,c3,c4⟩
         refine Qa (Ex (Ew (I:=fun k c st6=>c=(none,k)/\st6=st5/\Srt (fun a b=>lt (lo+a) (lo+b)) q5 k/\Org M q5 k) (Q:=fun c st6=>∃k,c=(none,k)/\st6=st5/\i<=k/\k<=M/\Srt (fun a b=>lt (lo+a) (lo+b)) q5 k/\Org M q5 k) ?_ ?_ ⟨rfl,rfl,c3,c4⟩) ?_)
         · intro k c st6 hk1 hk2 hI
           obtain⟨rfl,rfl,s1,s2⟩:=hI
           dsimp only
           have e1:lo+k - 1=lo+(k - 1):=by lia
           rw[e1]
           refine Qa (ask (c2.k.trans hk) c1 s2 hk2 (by lia) ?_)
           dsimp only
           cases hc:lt (lo+gg q5 k) (lo+gg q5 (k - 1)) with
           | true=>rw[Qo rfl];exact Qk ⟨k,rfl,rfl,hk1,by lia,s1,s2⟩
           | false=>rw[Qs (by decide)];exact Qk ⟨rfl,rfl,eO WL (by lia) hk2 s1 s2 hc,s2.next hk2⟩
         · rintro c st6 ⟨rfl,rfl,s1,s2⟩
           have e:max i M=M:=by lia
           rw[e] at s1 s2 ⊢
           exact⟨M,rfl,rfl,hi2,Qd _,s1,s2⟩
         · rintro c st6 ⟨k,rfl,rfl,k1,k2,s1,s2⟩
           exact Qk (hQ k q5 st6 c1 c2 ⟨by show 1<=k;lia,k2,s1,s2⟩)
       · rw[Qs hm0]
         have:m=0:=by lia
         subst this
         refine Qa (Ex (tail _ st3 a1 a2 (Fal.dcr WL a3) a3.og) ?_)
         rintro _ st5 ⟨q5,c1,c2,c3,c4⟩
         refine Qa (Ex (Ew (I:=fun k c st6=>c=(none,k)/\st6=st5/\Srt (fun a b=>lt (lo+a) (lo+b)) q5 k/\Org M q5 k) (Q:=fun c st6=>∃k,c=(none,k)/\st6=st5/\i<=k/\k<=M/\Srt (fun a b=>lt (lo+a) (lo+b)) q5 k/\Org M q5 k) ?_ ?_ ⟨rfl,rfl,c3,c4⟩) ?_)
         · intro k c st6 hk1 hk2 hI
           obtain⟨rfl,rfl,s1,s2⟩:=hI
           dsimp only
           have e1:lo+k - 1=lo+(k - 1):=by lia
           rw[e1]
           refine Qa (ask (c2.k.trans hk) c1 s2 hk2 (by lia) ?_)
           dsimp only
           cases hc:lt (lo+gg q5 k) (lo+gg q5 (k - 1)) with
           | true=>rw[Qo rfl];exact Qk ⟨k,rfl,rfl,hk1,by lia,s1,s2⟩
           | false=>rw[Qs (by decide)];exact Qk ⟨rfl,rfl,eO WL (by lia) hk2 s1 s2 hc,s2.next hk2⟩
         · rintro c st6 ⟨rfl,rfl,s1,s2⟩
           have e:max i M=M:=by lia
           rw[e] at s1 s2 ⊢
           exact⟨M,rfl,rfl,hi2,Qd _,s1,s2⟩
         · rintro c st6 ⟨k,rfl,rfl,k1,k2,s1,s2⟩
           exact Qk (hQ k q5 st6 c1 c2 ⟨by show 1<=k;lia,k2,s1,s2⟩)
theorem zSb {q:Array Nat}{n m:Nat}{Q:Bool->SortSt->Prop}{st:SortSt}(hk:kindOf st=κ)(h:At it lo pre q st)(h1:1<=n)(hnm:n<=m)(hmM:m<=M)(hs:Srt (fun a b=>lt (lo+a) (lo+b)) q n)(ho:Org M q n)
   (hQ:∀q' st',At it lo pre q' st'->Alk st st'->Srt (fun a b=>lt (lo+a) (lo+b)) q' m->Org M q' m->Q true st'):wpS (model prog w) A E s (binarySort' lo m n) Q st:=by
 have WL:=zYa W lo
 rw[binarySort'_eq]
 have e1:max n 1=n:=by lia
 rw[e1]
 refine Qa (Ex (Ew (I:=fun k c st2=>c=(none,())/\∃q2,At it lo pre q2 st2/\Alk st st2/\Srt (fun a b=>lt (lo+a) (lo+b)) q2 k/\Org M q2 k) (Q:=fun c st2=>c=(none,())/\∃q2,At it lo pre q2 st2/\Alk st st2/\Srt (fun a b=>lt (lo+a) (lo+b)) q2 m/\Org M q2 m) ?step ?fin ⟨rfl,q,h,.rfl',hs,ho⟩) ?post)
 case fin =>
   rintro c st2 ⟨rfl,q2,a1,a2,a3,a4⟩
   have e:max n m=m:=by lia
   rw[e] at a3 a4
   exact⟨rfl,q2,a1,a2,a3,a4⟩
 case post =>
   rintro c st2 ⟨rfl,q2,a1,a2,a3,a4⟩
   exact Qk (hQ q2 st2 a1 a2 a3 a4)
 case step =>
   rintro k c st2 hk1 hk2 ⟨rfl,q2,a1,a2,a3,a4⟩
   dsimp only
   refine Qa (Ex (Ew (I:=fun x c st3=>st3=st2/\∃l r,c=(none,l,r)/\l<=r/\r<=k/\r - l<=k - x/\(∀i,i < l->lt (lo+gg q2 k) (lo+gg q2 i)=false)/\(∀i,r<=i->i < k->lt (lo+gg q2 k) (lo+gg q2 i)=true))
     (Q:=fun c st3=>st3=st2/\∃l r,c=(none,l,r)/\l<=k/\(∀i,i < l->lt (lo+gg q2 k) (lo+gg q2 i)=false)/\(∀i,l<=i->i < k->lt (lo+gg q2 k) (lo+gg q2 i)=true)) ?istep ?ifin ⟨rfl,0,k,rfl,Wm _,Qd _,Qd _,fun i hi=>by lia,fun i h1 h2=>by lia⟩) ?ipost)
   case ifin =>
     rintro c st3 ⟨rfl,l,r,rfl,b1,b2,b3,b4,b5⟩
     have:r - l<=k - max 0 k:=b3
     exact⟨rfl,l,r,rfl,by lia,b4,fun i hi=>b5 i (by lia)⟩
   case istep =>
     rintro x c st3 hx1 hx2 ⟨rfl,l,r,rfl,b1,b2,b3,b4,b5⟩
     dsimp only
     by_cases hge:l≥r
     · rw[Qo hge]
       exact Qk ⟨rfl,l,r,rfl,by lia,b4,fun i hi=>b5 i (by lia)⟩
     · rw[Qs hge]
       refine Qa (zWF hq (a2.k.trans hk) a1 (by rw[a4.sz];lia) (by rw[a4.sz];lia) (by have:=a4.bd (i:=k) (by lia);lia) (by have:=a4.bd (i:=(l+r) / 2) (by lia);lia) ?_)
       dsimp only
       cases hc:lt (lo+gg q2 k) (lo+gg q2 ((l+r) / 2)) with
       | true =>
         rw[Qo rfl]
         refine Qk ⟨rfl,l,(l+r) / 2,rfl,by lia,by lia,by lia,b4,fun i hi hik=>?_⟩
         by_cases e:i=(l+r) / 2
         · rw[e];exact hc
         · exact W.eqr hc (Lx.le WL (a3 ((l+r) / 2) i (by lia) hik))
       | false =>
         rw[Qs (by decide)]
         refine Qk ⟨rfl,(l+r) / 2+1,r,rfl,by lia,b2,by lia,fun i hi=>?_,b5⟩
         by_cases e:i=(l+r) / 2
         · rw[e];exact hc
         · exact W.ntr hc (Lx.le WL (a3 i ((l+r) / 2) (by lia) (by lia)))
   case ipost =>
     rintro c st3 ⟨rfl,l,r,rfl,b1,b2,b3⟩
     dsimp only
     obtain⟨t1,t2⟩:=zU2 WL (by lia) b1 a3 a4 b2 b3
     exact Qa (zTP a1 (by rw[a4.sz];lia) b1 fun st4 c1 c2 c3 c4 c5=>Qk ⟨rfl,_,c1,a2.tr ⟨c2,c3,c5⟩,t1,t2⟩)
end
end
end L2
namespace L2
open PySem PySem.W PyProof.Rows
def zT2:Bool->Keyed->Array Keyed->Nat->Nat->Nat->StateT SortSt Sem (Option Nat):=sortPriv% PySem.Builtin.gallop
section
variable {prog:Program} {w:World} {A:Around} {E:Value->Shared->Prop} {s:Shared} {κ:SortKind} {it:Array Keyed} {lt:Nat->Nat->Bool} {N:Nat}
abbrev GSt:=Option (Option Nat)×Nat×Nat
theorem aT {n:Nat}{body:Nat->GSt->StateT SortSt Sem (ForInStep GSt)}{bd:Nat->Bool}{st:SortSt}{Q:GSt->SortSt->Prop}(mono:∀i j,i<=j->j < n->bd j=true->bd i=true)
   (h1:∀x lo hi,lo≥hi->body x (none,lo,hi)=pure (.done (none,lo,hi)))
   (h2:∀x lo hi (R:ForInStep GSt->SortSt->Prop),lo < hi->hi<=n->(bd (lo+(hi - lo) / 2)=true->R (.yield (none,lo+(hi - lo) / 2+1,hi)) st)->(bd (lo+(hi - lo) / 2)=false->R (.yield (none,lo,lo+(hi - lo) / 2)) st)->wpS (model prog w) A E s (body x (none,lo,hi)) R st)
   {lo hi:Nat} (hlh:lo<=hi) (hhn:hi<=n) (a1:∀i,i < lo->bd i=true) (a2:∀i,hi<=i->i < n->bd i=false)
   (hQ:∀l r,r<=n->(∀i,i < r->bd i=true)->(∀i,r<=i->i < n->bd i=false)->Q (none,l,r) st):wpS (model prog w) A E s (forIn [0:n] ((none,lo,hi):GSt) body) Q st:=by
 refine Ex (Ew (I:=fun x c st'=>st'=st/\∃l r,c=(none,l,r)/\l<=r/\r<=n/\r - l<=n - x/\(∀i,i < l->bd i=true)/\(∀i,r<=i->i < n->bd i=false))
   (Q:=fun c st'=>st'=st/\∃l r,c=(none,l,r)/\r<=n/\(∀i,i < r->bd i=true)/\(∀i,r<=i->i < n->bd i=false)) ?step ?fin ⟨rfl,lo,hi,rfl,hlh,hhn,by lia,a1,a2⟩) ?post
 case fin =>
   rintro c st' ⟨rfl,l,r,rfl,b1,b2,b3,b4,b5⟩
   exact⟨rfl,l,r,rfl,b2,fun i hi=>b4 i (by lia),b5⟩
 case post =>
   rintro c st' ⟨rfl,l,r,rfl,b1,b2,b3⟩
   exact hQ l r b1 b2 b3
 case step =>
   rintro x c st' _ hx ⟨rfl,l,r,rfl,b1,b2,b3,b4,b5⟩
   by_cases hge:l≥r
   · rw[h1 x l r hge]
     exact Qk ⟨rfl,l,r,rfl,b2,fun i hi=>b4 i (by lia),b5⟩
   · refine h2 x l r _ (by lia) b2 (fun hc=>?_) fun hc=>?_
     · exact⟨rfl,_,_,rfl,by lia,b2,by lia,fun i hi=>mono i _ (by lia) (by lia) hc,b5⟩
     · refine⟨rfl,_,_,rfl,by lia,by lia,by lia,b4,fun i hi hin=>?_⟩
       cases hb:bd i with
       | false=>rfl
       | true=>rw[mono _ i hi hin hb] at hc;cases hc
theorem zUD {n mx:Nat}{body:Nat->GSt->StateT SortSt Sem (ForInStep GSt)}{go:Nat->Bool}{st:SortSt}{Q:GSt->SortSt->Prop}(hmx:mx<=n)(hm1:1<=mx)
   (h1:∀x l o,o≥mx->body x (none,l,o)=pure (.done (none,l,o)))
   (h2:∀x l o (R:ForInStep GSt->SortSt->Prop),1<=o->o < mx->(go o=true->R (.yield (none,o,2*o+1)) st)->(go o=false->R (.done (none,l,o)) st)->wpS (model prog w) A E s (body x (none,l,o)) R st) (h0:go 0=true)
   (hQ:∀l o,l < o->l < mx->go l=true->(o≥mx∨go o=false)->Q (none,l,o) st):wpS (model prog w) A E s (forIn [0:n] ((none,0,1):GSt) body) Q st:=by
 refine Ex (Ew (I:=fun x c st'=>st'=st/\∃l o,c=(none,l,o)/\l < o/\l < mx/\go l=true/\x+1<=o)
   (Q:=fun c st'=>st'=st/\∃l o,c=(none,l,o)/\l < o/\l < mx/\go l=true/\(o≥mx∨go o=false)) ?step ?fin ⟨rfl,0,1,rfl,by lia,by lia,h0,by lia⟩) ?post
 case fin =>
   rintro c st' ⟨rfl,l,o,rfl,b1,b2,b3,b4⟩
   have:max 0 n+1<=o:=b4
   exact⟨rfl,l,o,rfl,b1,b2,b3,.inl (by lia)⟩
 case post =>
   rintro c st' ⟨rfl,l,o,rfl,b1,b2,b3,b4⟩
   exact hQ l o b1 b2 b3 b4
 case step =>
   rintro x c st' _ hx ⟨rfl,l,o,rfl,b1,b2,b3,b4⟩
   by_cases hge:o≥mx
   · rw[h1 x l o hge]
     exact Qk ⟨rfl,l,o,rfl,b1,b2,b3,.inl hge⟩
   · exact h2 x l o _ (by lia) (by lia) (fun hc=>⟨rfl,_,_,rfl,by lia,by lia,hc,by lia⟩) fun hc=>⟨rfl,l,o,rfl,b1,b2,b3,.inr hc⟩
theorem sF {left:Bool}{kk base n hint:Nat}{arr:Array Keyed}{f:Nat->Nat}{Q:Option Nat->SortSt->Prop}{st:SortSt}(hq:Orc prog w A s κ it lt N)(hk:kindOf st=κ)(hkk:kk < N)(hf:∀i,i < n->arr[base+i]?=some (kas_item it (f i))/\f i < N)
   (bd:Nat->Bool) (hbd:∀i,bd i=if left=true then lt (f i) kk else !lt kk (f i)) (mono:∀i j,i<=j->j < n->bd j=true->bd i=true) (hh:hint < n)
   (hQ:∀r,r<=n->(∀i,i < r->bd i=true)->(∀i,r<=i->i < n->bd i=false)->Q (some r) st):wpS (model prog w) A E s (zT2 left (kas_item it kk) arr base n hint) Q st:=by
 have ask:∀i (R:Option Bool->SortSt->Prop),i < n->R (some (bd i)) st->wpS (model prog w) A E s (elem' arr (base+i) >>= fun x=>if left=true then lt' x (kas_item it kk) else(lt' (kas_item it kk) x >>= fun b=>pure (b.map (!·)))) R st:=fun i R hi hR=>by
   obtain⟨e1,e2⟩:=hf i hi
   refine Qa (yR (α:=Unit) e1 ?_)
   have e:=hbd i
   cases left with
   | true =>
     rw[Qo rfl] at e ⊢
     exact zYj hq hk e2 hkk (by rw[←e];exact hR)
   | false =>
     rw[Qs (by decide)] at e ⊢
     refine Qa (zYj hq hk hkk e2 (Qk ?_))
     show R (some (!lt kk (f i))) st
     rw[←e];exact hR
 refine Qa (ask hint _ hh ?_)
 dsimp only
 cases hr:bd hint with
 | true =>
   rw[Qo rfl]
   refine Qa (zUD (mx:=n - hint) (go:=fun o=>bd (hint+o)) (by lia) (by lia) (fun x l o ho=>?_) (fun x l o R o1 o2 g1 g2=>?_) hr fun l o b1 b2 b3 b4=>?_)
   · exact Qo ho
   · refine(Ep (fun m=>wpS (model prog w) A E s m R st) (Qs (Nat.not_le.mpr o2))).mpr ?_
     refine Qa (ask (hint+o) _ (by lia) ?_)
     dsimp only
     cases hc:bd (hint+o) with
     | true=>rw[Qs (by decide)];exact Qk (g1 hc)
     | false=>rw[Qo (show(!false)=true from rfl)];exact Qk (g2 hc)
   · dsimp only
     refine Qa (aT (bd:=bd) mono (fun x l r hx=>Qo hx) (fun x l r R q1 q2 g1 g2=>?_) (by lia) (by lia) (fun i hi=>mono i (hint+l) (by lia) (by lia) b3) (fun i h1 h2=>?_) fun l' r q1 q2 q3=>Qk (hQ r q1 q2 q3))
     · refine(Ep (fun m=>wpS (model prog w) A E s m R st) (Qs (Nat.not_le.mpr q1))).mpr ?_
       refine Qa (ask (l+(r - l) / 2) _ (by lia) ?_)
       dsimp only
       cases hc:bd (l+(r - l) / 2) with
       | true=>rw[Qo rfl];exact Qk (g1 hc)
       | false=>rw[Qs (by decide)];exact Qk (g2 hc)
     · rcases b4 with b4 | b4
       · lia
       · cases hb:bd i with
         | false=>rfl
         | true=>rw[mono (hint+o) i (by lia) h2 hb] at b4;cases b4
 | false =>
   rw[Qs (by decide)]
   refine Qa (zUD (mx:=hint+1) (go:=fun o => !bd (hint - o)) (by lia) (by lia) (fun x l o ho=>?_) (fun x l o R o1 o2 g1 g2=>?_) (by show(!bd (hint - 0))=true;rw[Ib,hr];rfl) fun l o b1 b2 b3 b4=>?_)
   · exact Qo ho
   · refine(Ep (fun m=>wpS (model prog w) A E s m R st) (Qs (Nat.not_le.mpr o2))).mpr ?_
     refine Qa (ask (hint - o) _ (by lia) ?_)
     dsimp only
     cases hc:bd (hint - o) with
     | true=>rw[Qo rfl];exact Qk (g2 (by show(!bd (hint - o))=false;rw[hc];rfl))
     | false=>rw[Qs (by decide)];exact Qk (g1 (by show(!bd (hint - o))=true;rw[hc];rfl))
   · dsimp only
     have b3':bd (hint - l)=false:=by simpa using b3
     refine Qa (aT (bd:=bd) mono (fun x l r hx=>Qo hx) (fun x l r R q1 q2 g1 g2=>?_) (by lia) (by lia) (fun i hi=>?_) (fun i h1 h2=>?_) fun l' r q1 q2 q3=>Qk (hQ r q1 q2 q3))
     · refine(Ep (fun m=>wpS (model prog w) A E s m R st) (Qs (Nat.not_le.mpr q1))).mpr ?_
       refine Qa (ask (l+(r - l) / 2) _ (by lia) ?_)
       dsimp only
       cases hc:bd (l+(r - l) / 2) with
       | true=>rw[Qo rfl];exact Qk (g1 hc)
       | false=>rw[Qs (by decide)];exact Qk (g2 hc)
     · rcases b4 with b4 | b4
       · lia
       · have b4':bd (hint - o)=true:=by simpa using b4
         exact mono i (hint - o) (by lia) (by lia) b4'
     · cases hb:bd i with
       | false=>rfl
       | true=>rw[mono (hint - l) i (by lia) h2 hb] at b3';cases b3'
end
end L2
namespace L2
open PySem PySem.W PyProof.Rows
section
variable {lt:Nat->Nat->Bool} {xs ys os:List Nat} {ia ib k:Nat}
structure Two (lt:Nat->Nat->Bool)(xs ys:List Nat):Prop where
 x:xs.Pairwise (Lx lt)
 y:ys.Pairwise (Lx lt)
 o:∀a∈xs,∀b∈ys,a < b
def Mrg (lt:Nat->Nat->Bool)(xs ys zs:List Nat):Prop:=zs.Perm (xs++ys)/\zs.Pairwise (Lx lt)
structure Far (lt:Nat->Nat->Bool)(xs ys os:List Nat)(ia ib:Nat):Prop where
 pm:os.Perm (xs.take ia++ys.take ib)
 up:os.Pairwise (Lx lt)
 lx:∀o∈os,∀x∈xs.drop ia,Lx lt o x
 ly:∀o∈os,∀y∈ys.drop ib,Lx lt o y
theorem take_add (l:List Nat)(i k:Nat):l.take (i+k)=l.take i++(l.drop i).take k:=List.take_add
theorem zYg {l:List Nat}{i k:Nat}{x:Nat}(h:x∈l.drop (i+k)):x∈l.drop i:=by
 rw[←Pw] at h
 exact Wk h
theorem rP {l:List Nat}(h:l.Pairwise (Lx lt))(i:Nat):(l.drop i).Pairwise (Lx lt):=h.sublist (Il _ _)
theorem dD {l:List Nat}(h:l.Pairwise (Lx lt))(k:Nat):∀a∈l.take k,∀b∈l.drop k,Lx lt a b:=by
 have e:l=l.take k++l.drop k:=(Wv k l).symm
 rw[e] at h
 exact fun a ha b hb=>(Qj.mp h).2.2 a ha b hb
theorem Far.pY (T:Two lt xs ys)(h:Far lt xs ys os ia ib)(k:Nat)(hk:∀y∈(ys.drop ib).take k,∀x∈xs.drop ia,Lx lt y x):Far lt xs ys (os++(ys.drop ib).take k) ia (ib+k):=by
 refine⟨?_,?_,fun o ho x hx=>?_,fun o ho y hy=>?_⟩
 · rw[take_add,←Ql]
   exact h.pm.append_right _
 · refine Qj.mpr ⟨h.up,(rP T.y ib).sublist (Eo _ _),fun a ha b hb=>h.ly a ha b (Wl hb)⟩
 · rcases Qx.mp ho with ho | ho
   · exact h.lx o ho x hx
   · exact hk o ho x hx
 · rcases Qx.mp ho with ho | ho
   · exact h.ly o ho y (zYg hy)
   · rw[←Pw] at hy
     exact dD (rP T.y ib) k o ho y hy
theorem Far.pX (T:Two lt xs ys)(h:Far lt xs ys os ia ib)(k:Nat)(hk:∀x∈(xs.drop ia).take k,∀y∈ys.drop ib,Lx lt x y):Far lt xs ys (os++(xs.drop ia).take k) (ia+k) ib:=by
 refine⟨?_,?_,fun o ho x hx=>?_,fun o ho y hy=>?_⟩
 · rw[take_add]
   refine(h.pm.append_right _).trans ?_
   rw[Ql,Ql]
   exact(Ez).append_left _
 · refine Qj.mpr ⟨h.up,(rP T.x ia).sublist (Eo _ _),fun a ha b hb=>h.lx a ha b (Wl hb)⟩
 · rcases Qx.mp ho with ho | ho
   · exact h.lx o ho x (zYg hx)
   · rw[←Pw] at hx
     exact dD (rP T.x ia) k o ho x hx
 · rcases Qx.mp ho with ho | ho
   · exact h.ly o ho y hy
   · exact hk o ho y hy
theorem Far.pmAll (h:Far lt xs ys os ia ib):(os++(xs.drop ia++ys.drop ib)).Perm (xs++ys):=by
 refine(h.pm.append_right _).trans ?_
 have e:xs++ys=(xs.take ia++xs.drop ia)++(ys.take ib++ys.drop ib):=by rw[Wv,Wv]
 rw[e,Ql,Ql]
 refine Us _ ?_
 rw[←Ql,←Ql]
 exact(Ez).append_right _
theorem Far.done (T:Two lt xs ys)(h:Far lt xs ys os ia ib)(hx:∀x∈xs.drop ia,∀y∈ys.drop ib,Lx lt x y):Mrg lt xs ys (os++xs.drop ia++ys.drop ib):=by
 rw[Ql]
 refine⟨h.pmAll,Qj.mpr ⟨h.up,Qj.mpr ⟨rP T.x ia,rP T.y ib,hx⟩,fun a ha b hb=>?_⟩⟩
 rcases Qx.mp hb with hb | hb
 · exact h.lx a ha b hb
 · exact h.ly a ha b hb
theorem Far.last (T:Two lt xs ys)(h:Far lt xs ys os ia ib)(hx:∀y∈ys.drop ib,∀x∈xs.drop ia,Lx lt y x):Mrg lt xs ys (os++ys.drop ib++xs.drop ia):=by
 rw[Ql]
 refine⟨((Ez).append_left _).trans h.pmAll,Qj.mpr ⟨h.up,Qj.mpr ⟨rP T.y ib,rP T.x ia,hx⟩,fun a ha b hb=>?_⟩⟩
 rcases Qx.mp hb with hb | hb
 · exact h.ly a ha b hb
 · exact h.lx a ha b hb
end
end L2
namespace L2
open PySem PySem.W PyProof.Rows
def zVd:Array Keyed->Array Keyed->StateT SortSt Sem (Array Keyed):=sortPriv% PySem.Builtin.mergeLo
def Ar (it:Array Keyed)(l:List Nat):Array Keyed:=(l.map (kas_item it)).toArray
section
variable {it:Array Keyed}
theorem zG (l:List Nat):(Ar it l).size=l.length:=by simp[Ar]
theorem xW {l:List Nat}{i:Nat}(h:i < l.length):(Ar it l)[i]?=some (kas_item it (l.getD i 0)):=by simp[Ar,h]
theorem yB (l m:List Nat):Ar it l++Ar it m=Ar it (l++m):=by simp[Ar]
theorem jE (l:List Nat)(x:Nat):(Ar it l).push (kas_item it x)=Ar it (l++[x]):=by simp[Ar]
theorem xG (l:List Nat)(i:Nat):(Ar it l).extract i (Ar it l).size=Ar it (l.drop i):=by
 apply Ev.mp
 simp[Ar,Ta]
 rw[Eg (by simp)]
theorem zX6 (l:List Nat)(i k:Nat):(Ar it l).extract i (i+k)=Ar it ((l.drop i).take k):=by
 apply Ev.mp
 simp[Ar,Ta,Rz]
theorem yU {l:List Nat}{i:Nat}(h:i < l.length):l.getD i 0∈l:=by simp[h]
theorem zVM {l:List Nat}{i:Nat}(h:i < l.length):l.drop i=l.getD i 0::l.drop (i+1):=by
 rw[Ey h];simp[h]
theorem vH {l:List Nat}{i:Nat}(h:i < l.length):(l.drop i).take 1=[l.getD i 0]:=by rw[zVM h];rfl
theorem qM {l:List Nat}{i k x:Nat}(h:x∈(l.drop i).take k):∃j,j < k/\i+j < l.length/\x=l.getD (i+j) 0:=by
 obtain⟨j,hj,e⟩:=List.mem_iff_getElem.mp h
 have h1:j < k/\j < (l.drop i).length:=by rw[Qg] at hj;lia
 have h2:i+j < l.length:=by rw[Wy] at h1;lia
 refine⟨j,h1.1,h2,?_⟩
 rw[←e]
 simp[h2]
theorem qG {l:List Nat}{i x:Nat}(h:x∈l.drop i):∃j,i+j < l.length/\x=l.getD (i+j) 0:=by
 obtain⟨j,hj,e⟩:=List.mem_iff_getElem.mp h
 have h2:i+j < l.length:=by rw[Wy] at hj;lia
 exact⟨j,h2,by rw[←e];simp[h2]⟩
theorem mZ {lt:Nat->Nat->Bool}{l:List Nat}(h:l.Pairwise (Lx lt)){i j:Nat}(hij:i < j)(hj:j < l.length):Lx lt (l.getD i 0) (l.getD j 0):=by
 have:=Pe.mp h i j (by lia) hj hij
 have hi:i < l.length:=by lia
 simpa [hi,hj] using this
structure Gly (st st':SortSt):Prop where
 k:kindOf st'=kindOf st
 a:arrOf st'=arrOf st
 p:pendingOf st'=pendingOf st
 f:failedOf st'=failedOf st
theorem Gly.rfl' {st:SortSt}:Gly st st:=⟨rfl,rfl,rfl,rfl⟩
variable {prog:Program} {w:World} {A:Around} {E:Value->Shared->Prop} {s:Shared} {κ:SortKind} {lt:Nat->Nat->Bool} {N:Nat}
theorem zZk {α:Type}{c:Prop}{dc:Decidable c}{F:Nat->StateT SortSt Sem α}{a b:Nat}{Q:α->SortSt->Prop}{st:SortSt}(h:∀g,wpS (model prog w) A E s (F g) Q st):wpS (model prog w) A E s (if c then F a else F b) Q st:=by
 split
 · exact h a
 · exact h b
theorem zQ3 {xs ys:List Nat}{Q:Array Keyed->SortSt->Prop}{st:SortSt}(W:SWO lt)(hq:Orc prog w A s κ it lt N)(hk:kindOf st=κ)(T:Two lt xs ys)(hxN:∀i∈xs,i < N)(hyN:∀i∈ys,i < N)(hx:0 < xs.length)(hy:0 < ys.length)
   (h1:lt (ys.getD 0 0) (xs.getD 0 0)=true) (h2:lt (ys.getD (ys.length - 1) 0) (xs.getD (xs.length - 1) 0)=true) (hQ:∀zs st',Mrg lt xs ys zs->Gly st st'->Q (Ar it zs) st'):wpS (model prog w) A E s (zVd (Ar it xs) (Ar it ys)) Q st:=by
 have lastY:∀y∈ys,lt y (xs.getD (xs.length - 1) 0)=true:=fun y hy'=>by
   obtain⟨j,hj,rfl⟩:=qG (i:=0) (by simpa using hy')
   by_cases e:0+j=ys.length - 1
   · rw[e];exact h2
   · exact W.eql h2 (Lx.le W (mZ T.y (i:=0+j) (j:=ys.length - 1) (by lia) (by lia)))
 have lastL:∀ {ia ib:Nat},ia+1=xs.length->∀y∈ys.drop ib,∀x∈xs.drop ia,Lx lt y x:=fun {ia ib} e y hy' x hx'=>by
   obtain⟨j,hj,rfl⟩:=qG hx'
   have:ia+j=xs.length - 1:=by lia
   rw[this]
   exact .inl (lastY y (Wk hy'))
 -- what is less than the first of the rest is less than the rest
 have lessX:∀ {y ia:Nat},ia < xs.length->lt y (xs.getD ia 0)=true->∀x∈xs.drop ia,Lx lt y x:=fun {y ia} hia hc x hx'=>by
   obtain⟨j,hj,rfl⟩:=qG hx'
   cases j with
   | zero=>exact .inl hc
   | succ j=>exact Lx.trans W (.inl hc) (mZ T.x (by lia) hj)
 have lessY:∀ {ia ib:Nat},ia < xs.length->ib < ys.length->lt (ys.getD ib 0) (xs.getD ia 0)=false->∀y∈ys.drop ib,Lx lt (xs.getD ia 0) y:=fun {ia ib} hia hib hc y hy'=>by
   obtain⟨j,hj,rfl⟩:=qG hy'
   have l0:Lx lt (xs.getD ia 0) (ys.getD ib 0):=Lx.of W hc (T.o _ (yU hia) _ (yU hib))
   cases j with
   | zero=>exact l0
   | succ j=>exact Lx.trans W l0 (mZ T.y (by lia) hj)
 have F0:Far lt xs ys [] 0 0:=⟨by simp,.nil,fun o ho=>(nomatch ho),fun o ho=>(nomatch ho)⟩
 have F1:Far lt xs ys [ys.getD 0 0] 0 1:=by
   have:=F0.pY T 1 (fun y hy' x hx'=>by rw[vH hy] at hy';rw[Qz.mp hy'];exact lessX hx h1 x hx')
   rw[vH hy] at this
   simpa using this
 refine Qa (Iu (Te ⟨rfl,?_⟩))
 refine Qa (yR (α:=Unit) (xW hy) ?_)
 dsimp only
 have eo:(#[kas_item it (ys.getD 0 0)]:Array Keyed)=Ar it [ys.getD 0 0]:=rfl
 rw[eo]
 by_cases hb1:1=ys.length
 · rw[Qo (by rw[zG];simpa using hb1),xG,xG,yB,yB]
   refine Qk (hQ _ _ (F1.done T fun x _ y hy'=>?_) .rfl')
   rw[Eh (by lia)] at hy'
   cases hy'
 rw[Qs (by rw[zG];simpa using hb1)]
 by_cases ha1:0+1=xs.length
 · rw[Qo (by rw[zG];simpa using ha1),xG,xG,yB,yB]
   exact Qk (hQ _ _ (F1.last T (lastL ha1)) .rfl')
 rw[Qs (by rw[zG];simpa using ha1)]
 refine Qa (Yk ?_)
 refine Qa (Ex (Ew (I:=fun x c st'=>∃o os ia ib g,c=(none,o,ia,ib,g)/\o=Ar it os/\Gly st st'/\Far lt xs ys os ia ib/\ia+1 < xs.length/\ib < ys.length/\x<=ia+ib)
   (Q:=fun c st'=>∃zs r,c=(some (Ar it zs),r)/\Mrg lt xs ys zs/\Gly st st') ?step ?fin ⟨_,_,0,1,_,rfl,rfl,.rfl',F1,by lia,by lia,by lia⟩) ?post)
 case fin =>
   rintro c st' ⟨o,os,ia,ib,g,rfl,rfl,a1,a2,a3,a4,a5⟩
   rw[zG,zG] at a5
   lia
 case post =>
   rintro c st' ⟨zs,r,rfl,a1,a2⟩
   exact Qk (hQ zs st' a1 a2)
 case step =>
   rintro x c st' _ hx' ⟨o,os,ia,ib,g,rfl,ho,a1,a2,a3,a4,a5⟩
   dsimp only
   refine Qa (Ex (Ew (I:=fun x c st2=>st2=st'/\∃o os ia' ib' p q,c=(none,o,ia',ib',p,q)/\o=Ar it os/\Far lt xs ys os ia' ib'/\ia'+1 < xs.length/\ib' < ys.length/\x+(ia+ib)<=ia'+ib')
     (Q:=fun c st2=>st2=st'/\((∃zs r,c=(some (Ar it zs),r)/\Mrg lt xs ys zs)∨∃o os ia' ib' p q,c=(none,o,ia',ib',p,q)/\o=Ar it os/\Far lt xs ys os ia' ib'/\ia'+1 < xs.length/\ib' < ys.length/\ia+ib+1<=ia'+ib')) ?step1 ?fin1 ⟨rfl,o,os,ia,ib,0,0,rfl,ho,a2,a3,a4,by lia⟩) ?post1)
   case fin1 =>
     rintro c st2 ⟨rfl,o,os,ia',ib',p,q,rfl,rfl,b1,b2,b3,b4⟩
     rw[zG,zG] at b4
     lia
   case step1 =>
     rintro x c st2 _ _ ⟨rfl,o,os,ia',ib',p,q,rfl,rfl,b1,b2,b3,b4⟩
     dsimp only
     refine Qa (yR (α:=Unit) (xW b3) (Qa (yR (α:=Unit) (xW (by lia)) ?_)))
     refine Qa (zYj hq (a1.k.trans hk) (hyN _ (yU b3)) (hxN _ (yU (by lia))) ?_)
     dsimp only
     cases hc:lt (ys.getD ib' 0) (xs.getD ia' 0) with
     | true =>
       rw[Qo rfl]
       refine Qa (yR (α:=Unit) (xW b3) ?_)
       try dsimp only
       rw[jE]
       have F2:Far lt xs ys (os++[ys.getD ib' 0]) ia' (ib'+1):=by
         have:=b1.pY T 1 (fun y hy' x hx'=>by rw[vH b3] at hy';rw[Qz.mp hy'];exact lessX (by lia) hc x hx')
         rwa[vH b3] at this
       by_cases e:ib'+1=ys.length
       · rw[Qo (by rw[zG];simpa using e),xG,xG,yB,yB]
         refine Qk ⟨rfl,.inl ⟨_,_,rfl,F2.done T fun x _ y hy'=>?_⟩⟩
         rw[Eh (by lia)] at hy'
         cases hy'
       · rw[Qs (by rw[zG];simpa using e)]
         split
         · exact Qk ⟨rfl,.inr ⟨_,_,_,_,_,_,rfl,rfl,F2,b2,by lia,by lia⟩⟩
         · exact Qk ⟨rfl,_,_,_,_,_,_,rfl,rfl,F2,b2,by lia,by lia⟩
     | false =>
       rw[Qs (by decide)]
       refine Qa (yR (α:=Unit) (xW (by lia)) ?_)
       try dsimp only
       rw[jE]
       have F2:Far lt xs ys (os++[xs.getD ia' 0]) (ia'+1) ib':=by
         have:=b1.pX T 1 (fun x hx' y hy'=>by rw[vH (by lia)] at hx';rw[Qz.mp hx'];exact lessY (by lia) b3 hc y hy')
         rwa[vH (by lia)] at this
       by_cases e:ia'+1+1=xs.length
       · rw[Qo (by rw[zG];simpa using e),xG,xG,yB,yB]
         exact Qk ⟨rfl,.inl ⟨_,_,rfl,F2.last T (lastL e)⟩⟩
       · rw[Qs (by rw[zG];simpa using e)]
         split
         · exact Qk ⟨rfl,.inr ⟨_,_,_,_,_,_,rfl,rfl,F2,by lia,b3,by lia⟩⟩
         · exact Qk ⟨rfl,_,_,_,_,_,_,rfl,rfl,F2,by lia,b3,by lia⟩
   case post1 =>
     rintro c st2 ⟨rfl,hcc⟩
     rcases hcc with⟨zs,r,rfl,hm⟩ | ⟨o2,os2,ia2,ib2,p2,q2,rfl,ho2,b1,b2,b3,b4⟩
     · exact Qk ⟨zs,_,rfl,hm,a1⟩
     · dsimp only
       refine Qa (Iu (Te ⟨rfl,?_⟩))
       refine Qa (Ex (Ew (I:=fun x c st3=>Gly st st3/\∃o os ia' ib' g p q,c=(none,o,ia',ib',g,p,q)/\o=Ar it os/\Far lt xs ys os ia' ib'/\ia'+1 < xs.length/\ib' < ys.length/\x+(ia2+ib2)<=ia'+ib')
         (Q:=fun c st3=>Gly st st3/\((∃zs r,c=(some (Ar it zs),r)/\Mrg lt xs ys zs)∨∃o os ia' ib' g p q,c=(none,o,ia',ib',g,p,q)/\o=Ar it os/\Far lt xs ys os ia' ib'/\ia'+1 < xs.length/\ib' < ys.length/\ia2+ib2<=ia'+ib')) ?step2 ?fin2 ⟨a1,o2,os2,ia2,ib2,_,p2,q2,rfl,ho2,b1,b2,b3,by lia⟩) ?post2)
       case fin2 =>
         rintro c st3 ⟨c0,o,os,ia',ib',g,p,q,rfl,rfl,c1,c2,c3,c4⟩
         rw[zG,zG] at c4
         lia
       case post2 =>
         rintro c st3 ⟨c0,hcc⟩
         rcases hcc with⟨zs,r,rfl,hm⟩ | ⟨o3,os3,ia3,ib3,g3,p3,q3,rfl,ho3,c1,c2,c3,c4⟩
         · exact Qk ⟨zs,_,rfl,hm,c0⟩
         · exact Qa (Rl (Qk ⟨o3,os3,ia3,ib3,_,rfl,ho3,⟨c0.k,c0.a,c0.p,c0.f⟩,c1,c2,c3,by lia⟩))
       case step2 =>
         rintro x c st3 _ _ ⟨c0,o,os,ia',ib',g,p,q,rfl,ho,c1,c2,c3,c4⟩
         dsimp +instances only
         generalize g - 1=g1
         apply zZk (c:=g > 1) (a:=g1) (b:=g)
         intro g
         all_goals
           refine Qa (Rl ?_)
           refine Qa (yR (α:=Unit) (xW c3) ?_)
           refine Qa (sF (f:=fun i=>xs.getD (ia'+i) 0) (bd:=fun i => !lt (ys.getD ib' 0) (xs.getD (ia'+i) 0)) hq (c0.k.trans hk) (hyN _ (yU c3)) (fun i hi=>?_) (fun i=>rfl) (fun i j hij hj hbj=>?_) (by rw[zG];lia) fun k hk1 hk2 hk3=>?_)
           · rw[zG] at hi
             exact⟨xW (by lia),hxN _ (yU (by lia))⟩
           · rw[zG] at hj
             by_cases e:i=j
             · rw[e];exact hbj
             · have hbj:lt (ys.getD ib' 0) (xs.getD (ia'+j) 0)=false:=by simpa using hbj
               have:=W.ntr hbj (Lx.le W (mZ T.x (i:=ia'+i) (j:=ia'+j) (by lia) (by lia)))
               simpa using this
           · rw[zG] at hk1 hk3
             have hk2':∀i,i < k->lt (ys.getD ib' 0) (xs.getD (ia'+i) 0)=false:=fun i hi=>by simpa using hk2 i hi
             have hk3':∀i,k<=i->i < xs.length - ia'->lt (ys.getD ib' 0) (xs.getD (ia'+i) 0)=true:=fun i h h'=>by simpa using hk3 i h h'
             have hkl:k < xs.length - ia':=by
               rcases Tw k (xs.length - ia') with z | z
               · exact z
               · have z1:=hk2' (xs.length - 1 - ia') (by lia)
                 have e:ia'+(xs.length - 1 - ia')=xs.length - 1:=by lia
                 rw[e,lastY _ (yU c3)] at z1
                 cases z1
             have hyx:lt (ys.getD ib' 0) (xs.getD (ia'+k) 0)=true:=hk3' k (Qd _) hkl
             have FX:Far lt xs ys (os++(xs.drop ia').take k) (ia'+k) ib':=c1.pX T k fun x hx' y hy'=>by
               obtain⟨j,j1,j2,rfl⟩:=qM hx'
               exact lessY j2 c3 (hk2' j j1) y hy'
             dsimp only
             by_cases hk0:k > 0
             case' pos =>
               rw[Qo hk0]
               by_cases e:ia'+k+1=xs.length
               · rw[Qo (by rw[zG];simpa using e),ho,zX6,xG,xG,yB,yB,yB]
                 exact Qk ⟨⟨c0.k,c0.a,c0.p,c0.f⟩,.inl ⟨_,_,rfl,FX.last T (lastL e)⟩⟩
               rw[Qs (by rw[zG];simpa using e),Qs (by rw[zG];simp;lia),ho,zX6,yB]
               obtain⟨os3,ho3⟩:∃os3,os3=os++(xs.drop ia').take k:=⟨_,rfl⟩
               obtain⟨i3,hi3⟩:∃i3,i3=ia'+k:=⟨_,rfl⟩
               rw[←ho3,←hi3]
               have F3:Far lt xs ys os3 i3 ib':=by rw[ho3,hi3];exact FX
               have b3':i3+1 < xs.length:=by lia
               have y3:lt (ys.getD ib' 0) (xs.getD i3 0)=true:=by rw[hi3];exact hyx
               have l3:ia'<=i3:=by lia
             case' neg =>
               rw[Qs hk0,ho]
               have hk00:k=0:=by lia
               obtain⟨os3,ho3⟩:∃os3,os3=os:=⟨_,rfl⟩
               obtain⟨i3,hi3⟩:∃i3,i3=ia':=⟨_,rfl⟩
               rw[←ho3,←hi3]
               have F3:Far lt xs ys os3 i3 ib':=by rw[ho3,hi3];exact c1
               have b3':i3+1 < xs.length:=by lia
               have y3:lt (ys.getD ib' 0) (xs.getD i3 0)=true:=by rw[hk00] at hyx;rw[hi3];exact hyx
               have l3:ia'<=i3:=by lia
             all_goals
               refine Qa (yR (α:=Unit) (xW c3) ?_)
               rw[jE]
               have F4:Far lt xs ys (os3++[ys.getD ib' 0]) i3 (ib'+1):=by
                 have:=F3.pY T 1 (fun y hy' x hx'=>by rw[vH c3] at hy';rw[Qz.mp hy'];exact lessX (by lia) y3 x hx')
                 rwa[vH c3] at this
               by_cases e:ib'+1=ys.length
               · rw[Qo (by rw[zG];simpa using e),xG,xG,yB,yB]
                 refine Qk ⟨⟨c0.k,c0.a,c0.p,c0.f⟩,.inl ⟨_,_,rfl,F4.done T fun x _ y hy'=>?_⟩⟩
                 rw[Eh (by lia)] at hy'
                 cases hy'
               rw[Qs (by rw[zG];simpa using e)]
               refine Qa (yR (α:=Unit) (xW (by lia)) ?_)
               refine Qa (sF (f:=fun i=>ys.getD (ib'+1+i) 0) (bd:=fun i=>lt (ys.getD (ib'+1+i) 0) (xs.getD i3 0)) hq (c0.k.trans hk) (hxN _ (yU (by lia))) (fun i hi=>?_) (fun i=>rfl) (fun i j hij hj hbj=>?_) (by rw[zG];lia) fun k2 kk1 kk2 kk3=>?_)
               · rw[zG] at hi
                 exact⟨xW (by lia),hyN _ (yU (by lia))⟩
               · rw[zG] at hj
                 by_cases e:i=j
                 · rw[e];exact hbj
                 · exact W.eql hbj (Lx.le W (mZ T.y (i:=ib'+1+i) (j:=ib'+1+j) (by lia) (by lia)))
               · rw[zG] at kk1 kk3
                 have FY:Far lt xs ys (os3++[ys.getD ib' 0]++(ys.drop (ib'+1)).take k2) i3 (ib'+1+k2):=F4.pY T k2 fun y hy' x hx'=>by
                   obtain⟨j,j1,j2,rfl⟩:=qM hy'
                   exact lessX (by lia) (kk2 j j1) x hx'
                 dsimp only
                 by_cases hk20:k2 > 0
                 case' pos =>
                   rw[Qo hk20,zX6,yB]
                   by_cases e2:ib'+1+k2=ys.length
                   · rw[Qo (by rw[zG];simpa using e2),xG,xG,yB,yB]
                     refine Qk ⟨⟨c0.k,c0.a,c0.p,c0.f⟩,.inl ⟨_,_,rfl,FY.done T fun x _ y hy'=>?_⟩⟩
                     rw[Eh (by lia)] at hy'
                     cases hy'
                   rw[Qs (by rw[zG];simpa using e2)]
                   obtain⟨os5,ho5⟩:∃os5,os5=os3++[ys.getD ib' 0]++(ys.drop (ib'+1)).take k2:=⟨_,rfl⟩
                   obtain⟨i5,hi5⟩:∃i5,i5=ib'+1+k2:=⟨_,rfl⟩
                   rw[←ho5,←hi5]
                   have F5:Far lt xs ys os5 i3 i5:=by rw[ho5,hi5];exact FY
                   have b5:i5 < ys.length:=by lia
                   have y5:lt (ys.getD i5 0) (xs.getD i3 0)=false:=by rw[hi5];exact kk3 k2 (Qd _) (by lia)
                   have l5:ib'+1<=i5:=by lia
                 case' neg =>
                   have hk200:k2=0:=by lia
                   rw[Qs hk20]
                   obtain⟨os5,ho5⟩:∃os5,os5=os3++[ys.getD ib' 0]:=⟨_,rfl⟩
                   obtain⟨i5,hi5⟩:∃i5,i5=ib'+1:=⟨_,rfl⟩
                   rw[←ho5,←hi5]
                   have F5:Far lt xs ys os5 i3 i5:=by rw[ho5,hi5];exact F4
                   have b5:i5 < ys.length:=by lia
                   have y5:lt (ys.getD i5 0) (xs.getD i3 0)=false:=by rw[hi5];exact kk3 0 (by lia) (by lia)
                   have l5:ib'+1<=i5:=by lia
                 all_goals
                   refine Qa (yR (α:=Unit) (xW (by lia)) ?_)
                   rw[jE]
                   have F6:Far lt xs ys (os5++[xs.getD i3 0]) (i3+1) i5:=by
                     have:=F5.pX T 1 (fun x hx' y hy'=>by rw[vH (by lia)] at hx';rw[Qz.mp hx'];exact lessY (by lia) b5 y5 y hy')
                     rwa[vH (by lia)] at this
                   by_cases e3:i3+1+1=xs.length
                   · rw[Qo (by rw[zG];simpa using e3),xG,xG,yB,yB]
                     exact Qk ⟨⟨c0.k,c0.a,c0.p,c0.f⟩,.inl ⟨_,_,rfl,F6.last T (lastL e3)⟩⟩
                   rw[Qs (by rw[zG];simpa using e3)]
                   by_cases h7:(decide (k < 7)&&decide (k2 < 7))=true
                   · rw[Qo h7]
                     exact Qk ⟨⟨c0.k,c0.a,c0.p,c0.f⟩,.inr ⟨_,_,_,_,_,_,_,rfl,rfl,F6,by lia,b5,by lia⟩⟩
                   · rw[Qs h7]
                     exact Qk ⟨⟨c0.k,c0.a,c0.p,c0.f⟩,_,_,_,_,_,_,_,rfl,rfl,F6,by lia,b5,by lia⟩
end
end L2
namespace L2
open PySem PySem.W PyProof.Rows
def zVa:Array Keyed->Array Keyed->StateT SortSt Sem (Array Keyed):=sortPriv% PySem.Builtin.mergeHi
section
variable {lt:Nat->Nat->Bool} {xs ys rs:List Nat} {na nb:Nat}
structure Beh (lt:Nat->Nat->Bool)(xs ys rs:List Nat)(na nb:Nat):Prop where
 pm:rs.Perm (xs.drop na++ys.drop nb)
 up:rs.Pairwise (Lx lt)
 lx:∀o∈rs,∀x∈xs.take na,Lx lt x o
 ly:∀o∈rs,∀y∈ys.take nb,Lx lt y o
theorem jX {l:List Nat}{a n:Nat}(h:a<=n):l.drop a=(l.take n).drop a++l.drop n:=by
 have e:l.drop a=(l.take n++l.drop n).drop a:=by rw[Wv]
 rw[e,Ou]
 rcases Tw n l.length with z | z
 · have:(l.take n).length=n:=by rw[Qg];lia
   rw[this,show a - n=0 by lia];rfl
 · rw[Eh z];simp
theorem zYe {l:List Nat}{a n x:Nat}(h:a<=n)(hx:x∈l.take a):x∈l.take n:=by
 have e:l.take a=(l.take n).take a:=by rw[Uc];congr 1;lia
 rw[e] at hx
 exact Wl hx
theorem zZe {l:List Nat}(hl:l.Pairwise (Lx lt)){a n x c:Nat}(h:a<=n)(hx:x∈l.take a)(hc:c∈(l.take n).drop a):Lx lt x c:=by
 have e:l.take a=(l.take n).take a:=by rw[Uc];congr 1;lia
 rw[e] at hx
 exact dD (hl.sublist (Eo n l)) a x hx c hc
theorem Beh.pX (T:Two lt xs ys)(h:Beh lt xs ys rs na nb){a:Nat}(ha:a<=na)(hk:∀x∈(xs.take na).drop a,∀y∈ys.take nb,Lx lt y x):Beh lt xs ys ((xs.take na).drop a++rs) a nb:=by
 refine⟨?_,Qj.mpr ⟨(T.x.sublist (Eo na xs)).sublist (Il _ _),h.up,fun x hx o ho=>h.lx o ho x (Wk hx)⟩,fun o ho x hx=>?_,fun o ho y hy=>?_⟩
 · rw[jX (l:=xs) ha,Ql]
   exact h.pm.append_left _
 · rcases Qx.mp ho with ho | ho
   · exact zZe T.x ha hx ho
   · exact h.lx o ho x (zYe ha hx)
 · rcases Qx.mp ho with ho | ho
   · exact hk o ho y hy
   · exact h.ly o ho y hy
theorem Beh.pY (T:Two lt xs ys)(h:Beh lt xs ys rs na nb){a:Nat}(ha:a<=nb)(hk:∀y∈(ys.take nb).drop a,∀x∈xs.take na,Lx lt x y):Beh lt xs ys ((ys.take nb).drop a++rs) na a:=by
 refine⟨?_,Qj.mpr ⟨(T.y.sublist (Eo nb ys)).sublist (Il _ _),h.up,fun x hx o ho=>h.ly o ho x (Wk hx)⟩,fun o ho x hx=>?_,fun o ho y hy=>?_⟩
 · rw[jX (l:=ys) ha]
   refine(h.pm.append_left _).trans ?_
   rw[←Ql,←Ql]
   exact(Ez).append_right _
 · rcases Qx.mp ho with ho | ho
   · exact hk o ho x hx
   · exact h.lx o ho x hx
 · rcases Qx.mp ho with ho | ho
   · exact zZe T.y ha hy ho
   · exact h.ly o ho y (zYe ha hy)
theorem Beh.pmAll (h:Beh lt xs ys rs na nb):(xs.take na++ys.take nb++rs).Perm (xs++ys):=by
 refine(h.pm.append_left _).trans ?_
 have e:xs++ys=(xs.take na++xs.drop na)++(ys.take nb++ys.drop nb):=by rw[Wv,Wv]
 rw[e,Ql,Ql]
 refine Us _ ?_
 rw[←Ql,←Ql]
 exact(Ez).append_right _
theorem Beh.done (T:Two lt xs ys)(h:Beh lt xs ys rs na nb)(hx:∀x∈xs.take na,∀y∈ys.take nb,Lx lt x y):Mrg lt xs ys (xs.take na++ys.take nb++rs):=by
 refine⟨h.pmAll,Qj.mpr ⟨Qj.mpr ⟨T.x.sublist (Eo _ _),T.y.sublist (Eo _ _),hx⟩,h.up,fun a ha b hb=>?_⟩⟩
 rcases Qx.mp ha with ha | ha
 · exact h.lx b hb a ha
 · exact h.ly b hb a ha
theorem Beh.first (T:Two lt xs ys)(h:Beh lt xs ys rs na nb)(hx:∀y∈ys.take nb,∀x∈xs.take na,Lx lt y x):Mrg lt xs ys (ys.take nb++xs.take na++rs):=by
 refine⟨((Ez).append_right _).trans h.pmAll,Qj.mpr ⟨Qj.mpr ⟨T.y.sublist (Eo _ _),T.x.sublist (Eo _ _),hx⟩,h.up,fun a ha b hb=>?_⟩⟩
 rcases Qx.mp ha with ha | ha
 · exact h.ly b hb a ha
 · exact h.lx b hb a ha
theorem kK {l:List Nat}{n x:Nat}(h:x∈l.take n):∃j,j < n/\j < l.length/\x=l.getD j 0:=by
 have h':x∈(l.drop 0).take n:=by simpa using h
 obtain⟨j,a,b,c⟩:=qM h'
 exact⟨j,a,by simpa using b,by simpa using c⟩
theorem lY {l:List Nat}{a n x:Nat}(h:x∈(l.take n).drop a):∃j,a<=j/\j < n/\j < l.length/\x=l.getD j 0:=by
 obtain⟨j,hj,e⟩:=qG h
 rw[Qg] at hj
 refine⟨a+j,by lia,by lia,by lia,?_⟩
 rw[e]
 have h1:a+j < (l.take n).length:=by rw[Qg];exact hj
 have h2:a+j < l.length:=by lia
 simp[h1,h2,Ra]
 rw[Qo (by lia)]
 simp[h2]
theorem sH {l:List Nat}{n:Nat}(h1:1<=n)(h:n<=l.length):(l.take n).drop (n - 1)=[l.getD (n - 1) 0]:=by
 have hl:(l.take n).length=n:=by rw[Qg];lia
 rw[Ey (by lia),Eh (by lia)]
 have:n - 1 < l.length:=by lia
 simp[this]
variable {it:Array Keyed}
theorem zXX (l:List Nat):(Ar it l).reverse=Ar it l.reverse:=by simp[Ar,List.map_reverse]
theorem fR (l:List Nat)(n:Nat):(Ar it l).extract 0 n=Ar it (l.take n):=by
 apply Ev.mp
 simp[Ar,Rz]
theorem eT (l:List Nat)(a n:Nat):(Ar it l).extract a n=Ar it ((l.take n).drop a):=by
 apply Ev.mp
 simp[Ar,Rz,Ta,List.drop_take]
variable {prog:Program} {w:World} {A:Around} {E:Value->Shared->Prop} {s:Shared} {κ:SortKind} {N:Nat}
theorem zQM {xs ys:List Nat}{Q:Array Keyed->SortSt->Prop}{st:SortSt}(W:SWO lt)(hq:Orc prog w A s κ it lt N)(hk:kindOf st=κ)(T:Two lt xs ys)(hxN:∀i∈xs,i < N)(hyN:∀i∈ys,i < N)(hx:0 < xs.length)(hy:0 < ys.length)
   (h1:lt (ys.getD 0 0) (xs.getD 0 0)=true) (h2:lt (ys.getD (ys.length - 1) 0) (xs.getD (xs.length - 1) 0)=true) (hQ:∀zs st',Mrg lt xs ys zs->Gly st st'->Q (Ar it zs) st'):wpS (model prog w) A E s (zVa (Ar it xs) (Ar it ys)) Q st:=by
 have firstX:∀x∈xs,lt (ys.getD 0 0) x=true:=fun x hx'=>by
   obtain⟨j,hj,rfl⟩:=qG (i:=0) (by simpa using hx')
   by_cases e:0+j=0
   · rw[e];exact h1
   · exact W.eqr h1 (Lx.le W (mZ T.x (i:=0) (j:=0+j) (by lia) (by lia)))
 have firstL:∀ {na:Nat},∀y∈ys.take 1,∀x∈xs.take na,Lx lt y x:=fun {na} y hy' x hx'=>by
   obtain⟨j,j1,j2,rfl⟩:=kK hy'
   have:j=0:=by lia
   subst this
   exact .inl (firstX x (Wl hx'))
 -- what the last of the rest is less than, all of the rest is less than
 have lessY:∀ {x nb:Nat},0 < nb->nb<=ys.length->lt (ys.getD (nb - 1) 0) x=true->∀y∈ys.take nb,Lx lt y x:=fun {x nb} n0 n1 hc y hy'=>by
   obtain⟨j,j1,j2,rfl⟩:=kK hy'
   by_cases e:j=nb - 1
   · rw[e];exact .inl hc
   · exact Lx.trans W (mZ T.y (i:=j) (j:=nb - 1) (by lia) (by lia)) (.inl hc)
 have lessX:∀ {y na:Nat},y∈ys->0 < na->na<=xs.length->lt y (xs.getD (na - 1) 0)=false->∀x∈xs.take na,Lx lt x y:=fun {y na} hy' n0 n1 hc x hx'=>by
   obtain⟨j,j1,j2,rfl⟩:=kK hx'
   have l0:Lx lt (xs.getD (na - 1) 0) y:=Lx.of W hc (T.o _ (yU (by lia)) _ hy')
   by_cases e:j=na - 1
   · rw[e];exact l0
   · exact Lx.trans W (mZ T.x (i:=j) (j:=na - 1) (by lia) (by lia)) l0
 have F0:Beh lt xs ys [] xs.length ys.length:=⟨by simp,.nil,fun o ho=>(nomatch ho),fun o ho=>(nomatch ho)⟩
 have F1:Beh lt xs ys [xs.getD (xs.length - 1) 0] (xs.length - 1) ys.length:=by
   have:=F0.pX T (a:=xs.length - 1) (by lia) (fun x hx' y hy'=>by rw[sH hx (Qd _)] at hx';rw[Qz.mp hx'];exact lessY hy (Qd _) h2 y hy')
   rw[sH hx (Qd _)] at this
   simpa using this
 have doneE:∀(rs:List Nat) (na nb:Nat),(Ar it xs).extract 0 na++(Ar it ys).extract 0 nb++(Ar it rs.reverse).reverse=Ar it (xs.take na++ys.take nb++rs):=fun rs na nb=>by rw[fR,fR,zXX,List.reverse_reverse,yB,yB]
 have firstE:∀(rs:List Nat) (na nb:Nat),(Ar it ys).extract 0 nb++(Ar it xs).extract 0 na++(Ar it rs.reverse).reverse=Ar it (ys.take nb++xs.take na++rs):=fun rs na nb=>by rw[fR,fR,zXX,List.reverse_reverse,yB,yB]
 have pushE:∀(rs:List Nat) (x:Nat),(Ar it rs.reverse).push (kas_item it x)=Ar it (x::rs).reverse:=fun rs x=>by rw[jE,Th]
 have chunkE:∀(l rs:List Nat) (a n:Nat),Ar it rs.reverse++((Ar it l).extract a n).reverse=Ar it ((l.take n).drop a++rs).reverse:=fun l rs a n=>by rw[eT,zXX,yB,List.reverse_append]
 have hnil:∀ {rs:List Nat} {na nb:Nat},na=0->Beh lt xs ys rs na nb->Mrg lt xs ys (xs.take na++ys.take nb++rs):=fun {rs na nb} e F=>F.done T fun x hx'=>by rw[e] at hx';simp at hx'
 have hone:∀ {rs:List Nat} {na nb:Nat},nb=1->Beh lt xs ys rs na nb->Mrg lt xs ys (ys.take nb++xs.take na++rs):=fun {rs na nb} e F=>F.first T fun y hy'=>by rw[e] at hy';exact firstL y hy'
 have stepX:∀ {rs:List Nat} {na nb:Nat},Beh lt xs ys rs na nb->0 < na->na<=xs.length->0 < nb->nb<=ys.length->lt (ys.getD (nb - 1) 0) (xs.getD (na - 1) 0)=true->Beh lt xs ys (xs.getD (na - 1) 0::rs) (na - 1) nb:=fun {rs na nb} F n0 n1 m0 m1 hc=>by
   have:=F.pX T (a:=na - 1) (by lia) (fun x hx' y hy'=>by rw[sH n0 n1] at hx';rw[Qz.mp hx'];exact lessY m0 m1 hc y hy')
   rwa[sH n0 n1] at this
 have stepY:∀ {rs:List Nat} {na nb:Nat},Beh lt xs ys rs na nb->na<=xs.length->0 < nb->nb<=ys.length->(0 < na->lt (ys.getD (nb - 1) 0) (xs.getD (na - 1) 0)=false)->Beh lt xs ys (ys.getD (nb - 1) 0::rs) na (nb - 1):=fun {rs na nb} F n1 m0 m1 hc=>by
   have:=F.pY T (a:=nb - 1) (by lia) (fun y hy' x hx'=>by
     rw[sH m0 m1] at hy'
     rw[Qz.mp hy']
     have:0 < na:=by
       obtain⟨j,j1,j2,rfl⟩:=kK hx'
       lia
     exact lessX (yU (by lia)) this n1 (hc this) x hx')
   rwa[sH m0 m1] at this
 refine Qa (Iu (Te ⟨rfl,?_⟩))
 rw[show(Ar it xs).size - 1=xs.length - 1 by rw[zG],show(Ar it ys).size=ys.length from zG _]
 refine Qa (yR (α:=Unit) (xW (by lia)) ?_)
 dsimp only
 have eo:(#[kas_item it (xs.getD (xs.length - 1) 0)]:Array Keyed)=Ar it [xs.getD (xs.length - 1) 0].reverse:=rfl
 rw[eo]
 by_cases ha1:xs.length - 1=0
 · rw[Qo (by simpa using ha1),doneE]
   exact Qk (hQ _ _ (hnil ha1 F1) .rfl')
 rw[Qs (by simpa using ha1)]
 by_cases hb1:ys.length=1
 · rw[Qo (by simpa using hb1),firstE]
   exact Qk (hQ _ _ (hone hb1 F1) .rfl')
 rw[Qs (by simpa using hb1)]
 refine Qa (Yk ?_)
 rw[show(Ar it xs).size+ys.length=xs.length+ys.length by rw[zG]]
 refine Qa (Ex (Ew (I:=fun x c st'=>∃o rs na nb g,c=(none,na,nb,o,g)/\o=Ar it rs.reverse/\Gly st st'/\Beh lt xs ys rs na nb/\0 < na/\na<=xs.length/\1 < nb/\nb<=ys.length/\x+(na+nb)<=xs.length+ys.length)
   (Q:=fun c st'=>∃zs r,c=(some (Ar it zs),r)/\Mrg lt xs ys zs/\Gly st st') ?step ?fin ⟨_,_,xs.length - 1,ys.length,_,rfl,rfl,.rfl',F1,by lia,by lia,by lia,by lia,by lia⟩) ?post)
 case fin =>
   rintro c st' ⟨o,rs,na,nb,g,rfl,rfl,a1,a2,a3,a4,a5,a6,a7⟩
   lia
 case post =>
   rintro c st' ⟨zs,r,rfl,a1,a2⟩
   exact Qk (hQ zs st' a1 a2)
 case step =>
   rintro x c st' _ hx' ⟨o,rs,na,nb,g,rfl,ho,a1,a2,a3,a4,a5,a6,a7⟩
   dsimp only
   refine Qa (Ex (Ew (I:=fun x c st2=>st2=st'/\∃o rs na' nb' p q,c=(none,na',nb',o,p,q)/\o=Ar it rs.reverse/\Beh lt xs ys rs na' nb'/\0 < na'/\na'<=xs.length/\1 < nb'/\nb'<=ys.length/\x+(na'+nb')<=na+nb)
     (Q:=fun c st2=>st2=st'/\((∃zs r,c=(some (Ar it zs),r)/\Mrg lt xs ys zs)∨∃o rs na' nb' p q,c=(none,na',nb',o,p,q)/\o=Ar it rs.reverse/\Beh lt xs ys rs na' nb'/\0 < na'/\na'<=xs.length/\1 < nb'/\nb'<=ys.length/\1+(na'+nb')<=na+nb)) ?step1 ?fin1 ⟨rfl,o,rs,na,nb,0,0,rfl,ho,a2,a3,a4,a5,a6,by lia⟩) ?post1)
   case fin1 =>
     rintro c st2 ⟨rfl,o,rs,na',nb',p,q,rfl,rfl,b1,b2,b3,b4,b5,b6⟩
     lia
   case step1 =>
     rintro x c st2 _ _ ⟨rfl,o,rs,na',nb',p,q,rfl,rfl,b1,b2,b3,b4,b5,b6⟩
     dsimp only
     refine Qa (yR (α:=Unit) (xW (by lia)) (Qa (yR (α:=Unit) (xW (by lia)) ?_)))
     refine Qa (zYj hq (a1.k.trans hk) (hyN _ (yU (by lia))) (hxN _ (yU (by lia))) ?_)
     dsimp only
     cases hc:lt (ys.getD (nb' - 1) 0) (xs.getD (na' - 1) 0) with
     | true =>
       rw[Qo rfl]
       refine Qa (yR (α:=Unit) (xW (by lia)) ?_)
       rw[pushE]
       have F2:=stepX b1 b2 b3 (by lia) b5 hc
       by_cases e:na' - 1=0
       · rw[Qo (by simpa using e),doneE]
         exact Qk ⟨rfl,.inl ⟨_,_,rfl,hnil e F2⟩⟩
       · rw[Qs (by simpa using e)]
         split
         · exact Qk ⟨rfl,.inr ⟨_,_,_,_,_,_,rfl,rfl,F2,by lia,by lia,b4,b5,by lia⟩⟩
         · exact Qk ⟨rfl,_,_,_,_,_,_,rfl,rfl,F2,by lia,by lia,b4,b5,by lia⟩
     | false =>
       rw[Qs (by decide)]
       refine Qa (yR (α:=Unit) (xW (by lia)) ?_)
       rw[pushE]
       have F2:=stepY b1 b3 (by lia) b5 fun _=>hc
       by_cases e:nb' - 1=1
       · rw[Qo (by simpa using e),firstE]
         exact Qk ⟨rfl,.inl ⟨_,_,rfl,hone e F2⟩⟩
       · rw[Qs (by simpa using e)]
         split
         · exact Qk ⟨rfl,.inr ⟨_,_,_,_,_,_,rfl,rfl,F2,b2,b3,by lia,by lia,by lia⟩⟩
         · exact Qk ⟨rfl,_,_,_,_,_,_,rfl,rfl,F2,b2,b3,by lia,by lia,by lia⟩
   case post1 =>
     rintro c st2 ⟨rfl,hcc⟩
     rcases hcc with⟨zs,r,rfl,hm⟩ | ⟨o2,rs2,na2,nb2,p2,q2,rfl,ho2,b1,b2,b3,b4,b5,b6⟩
     · exact Qk ⟨zs,_,rfl,hm,a1⟩
     · dsimp only
       refine Qa (Iu (Te ⟨rfl,?_⟩))
       refine Qa (Ex (Ew (I:=fun x c st3=>Gly st st3/\∃o rs na' nb' g p q,c=(none,na',nb',o,g,p,q)/\o=Ar it rs.reverse/\Beh lt xs ys rs na' nb'/\0 < na'/\na'<=xs.length/\1 < nb'/\nb'<=ys.length/\x+(na'+nb')<=na2+nb2)
         (Q:=fun c st3=>Gly st st3/\((∃zs r,c=(some (Ar it zs),r)/\Mrg lt xs ys zs)∨∃o rs na' nb' g p q,c=(none,na',nb',o,g,p,q)/\o=Ar it rs.reverse/\Beh lt xs ys rs na' nb'/\0 < na'/\na'<=xs.length/\1 < nb'/\nb'<=ys.length/\na'+nb'<=na2+nb2)) ?step2 ?fin2 ⟨a1,o2,rs2,na2,nb2,_,p2,q2,rfl,ho2,b1,b2,b3,b4,b5,by lia⟩) ?post2)
       case fin2 =>
         rintro c st3 ⟨c0,o,rs,na',nb',g,p,q,rfl,rfl,c1,c2,c3,c4,c5,c6⟩
         lia
       case post2 =>
         rintro c st3 ⟨c0,hcc⟩
         rcases hcc with⟨zs,r,rfl,hm⟩ | ⟨o3,rs3,na3,nb3,g3,p3,q3,rfl,ho3,c1,c2,c3,c4,c5,c6⟩
         · exact Qk ⟨zs,_,rfl,hm,c0⟩
         · exact Qa (Rl (Qk ⟨o3,rs3,na3,nb3,_,rfl,ho3,⟨c0.k,c0.a,c0.p,c0.f⟩,c1,c2,c3,c4,c5,by lia⟩))
       case step2 =>
         rintro x c st3 _ _ ⟨c0,o,rs,na',nb',g,p,q,rfl,ho,c1,c2,c3,c4,c5,c6⟩
         dsimp +instances only
         generalize g - 1=g1
         apply zZk (c:=g > 1) (a:=g1) (b:=g)
         intro g
         all_goals
           refine Qa (Rl ?_)
           refine Qa (yR (α:=Unit) (xW (by lia)) ?_)
           refine Qa (sF (f:=fun i=>xs.getD (0+i) 0) (bd:=fun i => !lt (ys.getD (nb' - 1) 0) (xs.getD (0+i) 0)) hq (c0.k.trans hk) (hyN _ (yU (by lia))) (fun i hi=>?_) (fun i=>rfl) (fun i j hij hj hbj=>?_) (by lia) fun k hk1 hk2 hk3=>?_)
           · exact⟨xW (by lia),hxN _ (yU (by lia))⟩
           · by_cases e:i=j
             · rw[e];exact hbj
             · have hbj:lt (ys.getD (nb' - 1) 0) (xs.getD (0+j) 0)=false:=by simpa using hbj
               have:=W.ntr hbj (Lx.le W (mZ T.x (i:=0+i) (j:=0+j) (by lia) (by lia)))
               simpa using this
           · have hk2':∀i,i < k->lt (ys.getD (nb' - 1) 0) (xs.getD i 0)=false:=fun i hi=>by simpa using hk2 i hi
             have hk3':∀i,k<=i->i < na'->lt (ys.getD (nb' - 1) 0) (xs.getD i 0)=true:=fun i h h'=>by simpa using hk3 i h h'
             have FX:Beh lt xs ys ((xs.take na').drop k++rs) k nb':=c1.pX T hk1 fun x hx' y hy'=>by
               obtain⟨j,j1,j2,j3,rfl⟩:=lY hx'
               exact lessY (by lia) c5 (hk3' j j1 j2) y hy'
             dsimp only
             by_cases hk0:na' - k > 0
             case' pos =>
               rw[Qo hk0]
               by_cases e:k=0
               · rw[Qo (by simpa using e),ho,chunkE,doneE]
                 exact Qk ⟨⟨c0.k,c0.a,c0.p,c0.f⟩,.inl ⟨_,_,rfl,hnil e FX⟩⟩
               rw[Qs (by simpa using e),ho,chunkE]
               obtain⟨rs3,ho3⟩:∃rs3,rs3=(xs.take na').drop k++rs:=⟨_,rfl⟩
               obtain⟨n3,hi3⟩:∃n3,n3=k:=⟨_,rfl⟩
               rw[←ho3,←hi3]
               have F3:Beh lt xs ys rs3 n3 nb':=by rw[ho3,hi3];exact FX
               have p3':0 < n3:=by lia
               have l3:n3<=na':=by lia
               have y3:lt (ys.getD (nb' - 1) 0) (xs.getD (n3 - 1) 0)=false:=hk2' _ (by lia)
             case' neg =>
               rw[Qs hk0,ho]
               have hkn:k=na':=by lia
               obtain⟨rs3,ho3⟩:∃rs3,rs3=rs:=⟨_,rfl⟩
               obtain⟨n3,hi3⟩:∃n3,n3=na':=⟨_,rfl⟩
               rw[←ho3,←hi3]
               have F3:Beh lt xs ys rs3 n3 nb':=by rw[ho3,hi3];exact c1
               have p3':0 < n3:=by lia
               have l3:n3<=na':=by lia
               have y3:lt (ys.getD (nb' - 1) 0) (xs.getD (n3 - 1) 0)=false:=hk2' _ (by lia)
             all_goals
               refine Qa (yR (α:=Unit) (xW (by lia)) ?_)
               rw[pushE]
               have F4:=stepY F3 (by lia) (by lia) c5 fun _=>y3
               by_cases e:nb' - 1=1
               · rw[Qo (by simpa using e),firstE]
                 exact Qk ⟨⟨c0.k,c0.a,c0.p,c0.f⟩,.inl ⟨_,_,rfl,hone e F4⟩⟩
               rw[Qs (by simpa using e)]
               refine Qa (yR (α:=Unit) (xW (by lia)) ?_)
               refine Qa (sF (f:=fun i=>ys.getD (0+i) 0) (bd:=fun i=>lt (ys.getD (0+i) 0) (xs.getD (n3 - 1) 0)) hq (c0.k.trans hk) (hxN _ (yU (by lia))) (fun i hi=>?_) (fun i=>rfl) (fun i j hij hj hbj=>?_) (by lia) fun k2 kk1 kk2 kk3=>?_)
               · exact⟨xW (by lia),hyN _ (yU (by lia))⟩
               · by_cases e:i=j
                 · rw[e];exact hbj
                 · exact W.eql hbj (Lx.le W (mZ T.y (i:=0+i) (j:=0+j) (by lia) (by lia)))
               · have kk2':∀i,i < k2->lt (ys.getD i 0) (xs.getD (n3 - 1) 0)=true:=fun i hi=>by simpa using kk2 i hi
                 have kk3':∀i,k2<=i->i < nb' - 1->lt (ys.getD i 0) (xs.getD (n3 - 1) 0)=false:=fun i h h'=>by simpa using kk3 i h h'
                 have k2p:0 < k2:=by
                   rcases Ii k2 with z | z
                   · have z1:=kk3' 0 (by lia) (by lia)
                     rw[firstX _ (yU (by lia))] at z1
                     cases z1
                   · exact z
                 have FY:Beh lt xs ys ((ys.take (nb' - 1)).drop k2++(ys.getD (nb' - 1) 0::rs3)) n3 k2:=F4.pY T kk1 fun y hy' x hx'=>by
                   obtain⟨j,j1,j2,j3,rfl⟩:=lY hy'
                   exact lessX (yU j3) p3' (by lia) (kk3' j j1 j2) x hx'
                 dsimp only
                 by_cases hk20:nb' - 1 - k2 > 0
                 case' pos =>
                   rw[Qo hk20,chunkE]
                   by_cases e2:k2=1
                   · rw[Qo (by simpa using e2),firstE]
                     exact Qk ⟨⟨c0.k,c0.a,c0.p,c0.f⟩,.inl ⟨_,_,rfl,hone e2 FY⟩⟩
                   rw[Qs (by simpa using e2),Qs (by simp;lia)]
                   obtain⟨rs5,ho5⟩:∃rs5,rs5=(ys.take (nb' - 1)).drop k2++(ys.getD (nb' - 1) 0::rs3):=⟨_,rfl⟩
                   obtain⟨m5,hi5⟩:∃m5,m5=k2:=⟨_,rfl⟩
                   rw[←ho5,←hi5]
                   have F5:Beh lt xs ys rs5 n3 m5:=by rw[ho5,hi5];exact FY
                   have b5':1 < m5:=by lia
                   have l5:m5<=nb' - 1:=by lia
                   have y5:lt (ys.getD (m5 - 1) 0) (xs.getD (n3 - 1) 0)=true:=kk2' _ (by lia)
                 case' neg =>
                   have hk2n:k2=nb' - 1:=by lia
                   rw[Qs hk20]
                   obtain⟨rs5,ho5⟩:∃rs5,rs5=ys.getD (nb' - 1) 0::rs3:=⟨_,rfl⟩
                   obtain⟨m5,hi5⟩:∃m5,m5=nb' - 1:=⟨_,rfl⟩
                   rw[←ho5,←hi5]
                   have F5:Beh lt xs ys rs5 n3 m5:=by rw[ho5,hi5];exact F4
                   have b5':1 < m5:=by lia
                   have l5:m5<=nb' - 1:=by lia
                   have y5:lt (ys.getD (m5 - 1) 0) (xs.getD (n3 - 1) 0)=true:=kk2' _ (by lia)
                 all_goals
                   refine Qa (yR (α:=Unit) (xW (by lia)) ?_)
                   rw[pushE]
                   have F6:=stepX F5 p3' (by lia) (by lia) (by lia) y5
                   by_cases e3:n3 - 1=0
                   · rw[Qo (by simpa using e3),doneE]
                     exact Qk ⟨⟨c0.k,c0.a,c0.p,c0.f⟩,.inl ⟨_,_,rfl,hnil e3 F6⟩⟩
                   rw[Qs (by simpa using e3)]
                   by_cases h7:(decide (na' - k < 7)&&decide (nb' - 1 - k2 < 7))=true
                   · rw[Qo (by first | exact h7 | (rw[←hi5] at h7;exact h7) | simpa [hi3,hi5] using h7)]
                     exact Qk ⟨⟨c0.k,c0.a,c0.p,c0.f⟩,.inr ⟨_,_,_,_,_,_,_,rfl,rfl,F6,by lia,by lia,b5',by lia,by lia⟩⟩
                   · rw[Qs (by first | exact h7 | (rw[←hi5] at h7;exact h7) | simpa [hi3,hi5] using h7)]
                     exact Qk ⟨⟨c0.k,c0.a,c0.p,c0.f⟩,_,_,_,_,_,_,_,rfl,rfl,F6,by lia,by lia,b5',by lia,by lia⟩
end
end L2
namespace L2
open PySem PySem.W PyProof.Rows
theorem cS {it:Array Keyed}(l:List Nat)(i:Nat):(Ar it l)[i]?=l[i]?.map (kas_item it):=by unfold Ar;rw[Rh,Ws]
theorem zXa {α:Type}(off:Nat):∀(l:List α) (n:Nat) (arr:Array α),off+n+l.length<=arr.size->∀i,((l.zipIdx n).foldl (fun a (x:α×Nat)=>a.setIfInBounds (off+x.2) x.1) arr)[i]?=if off+n<=i/\i < off+n+l.length then l[i - (off+n)]? else arr[i]?
 | [],n,arr,h,i=>by
   rw[Qs (by rintro⟨a,b⟩;simp at b;lia)];rfl
 | x::l,n,arr,h,i=>by
   rw[List.zipIdx_cons,List.foldl_cons,zXa off l (n+1) _ (by rw[Array.size_setIfInBounds];simp at h;lia)]
   rw[Qh] at h ⊢
   by_cases c:off+(n+1)<=i/\i < off+(n+1)+l.length
   · rw[Qo c,Qo (by lia)]
     have:i - (off+n)=i - (off+(n+1))+1:=by lia
     rw[this,Ti]
   · rw[Qs c,Array.getElem?_setIfInBounds]
     by_cases e:off+n=i
     · rw[Qo e,Qo (by lia),Qo (by lia)]
       have:i - (off+n)=0:=by lia
       rw[this];rfl
     · rw[Qs e,Qs (by lia)]
theorem zRR {it:Array Keyed}{P zs:List Nat}{o:Nat}(h:o+zs.length<=P.length):(Ar it zs).toList.zipIdx.foldl (fun a (x:Keyed×Nat)=>a.setIfInBounds (o+x.2) x.1) (Ar it P)=Ar it (P.take o++zs++P.drop (o+zs.length)):=by
 apply Tp
 intro i
 have hz:(Ar it zs).toList.length=zs.length:=by simp[Ar]
 rw[zXa o (Ar it zs).toList 0 (Ar it P) (by rw[hz,zG];lia),hz,Nat.add_zero]
 have e3:∀j:Nat,(Ar it zs).toList[j]?=zs[j]?.map (kas_item it):=fun j=>by rw[Ui,cS]
 rw[cS,cS,e3]
 have lt:(P.take o).length=o:=by rw[Qg];lia
 by_cases c:o<=i/\i < o+zs.length
 · rw[Qo c,Ql,Ww (by lia),lt,Wx (by lia)]
 · rw[Qs c]
   congr 1
   rcases Tw i o with z | z
   · rw[Ql,Wx (by lia),Ra,Qo z]
   · rw[Ww (by rw[Qe];lia),Re,Qe,lt]
     congr 1;lia
abbrev ck (P:List Nat)(u v:Nat):List Nat:=(P.take v).drop u
theorem nM {P:List Nat}{u v:Nat}(hv:v<=P.length):(ck P u v).length=v - u:=by rw[Wy,Qg];lia
theorem kY {P:List Nat}{u v i:Nat}(hi:u+i < v):(ck P u v).getD i 0=P.getD (u+i) 0:=by
 rw[Wp,Wp,Re,Ra,Qo hi]
theorem nC {P:List Nat}{u v x:Nat}(h1:u<=v)(h2:v<=x):ck P u x=ck P u v++ck P v x:=by
 have:=jX (l:=P.take x) h1
 rw[Uc,Ru h2] at this
 exact this
theorem zVr {P:List Nat}{u v:Nat}(h:u<=v):P=P.take u++ck P u v++P.drop v:=by
 have e1:P.drop u=ck P u v++P.drop v:=jX h
 rw[Ql,←e1,Wv]
structure Sg (lt:Nat->Nat->Bool)(P:List Nat)(a n:Nat):Prop where
 up:(ck P a (a+n)).Pairwise (Lx lt)
 pm:(ck P a (a+n)).Perm (List.range' a n)
theorem Sg.lx {lt:Nat->Nat->Bool}{P:List Nat}{a n i j:Nat}(g:Sg lt P a n)(hl:a+n<=P.length)(hij:i < j)(hj:j < n):Lx lt (P.getD (a+i) 0) (P.getD (a+j) 0):=by
 have:=mZ g.up (i:=i) (j:=j) hij (by rw[nM hl];lia)
 rwa[kY (by lia),kY (by lia)] at this
theorem Sg.bd {lt:Nat->Nat->Bool}{P:List Nat}{a n i:Nat}(g:Sg lt P a n)(hl:a+n<=P.length)(hi:i < n):a<=P.getD (a+i) 0/\P.getD (a+i) 0 < a+n:=by
 have h1:(ck P a (a+n)).getD i 0∈ck P a (a+n):=yU (by rw[nM hl];lia)
 rw[kY (by lia)] at h1
 have:=g.pm.subset h1
 rw[List.mem_range'_1] at this
 exact this
theorem zRV {prog:Program}{w:World}{A:Around}{E:Value->Shared->Prop}{s:Shared}{x st:SortSt}{Q:PUnit->SortSt->Prop}(h:Q ⟨⟩ x):wpS (model prog w) A E s (set x:StateT SortSt Sem PUnit) Q st:=by
 unfold wpS;rw[StateT.run_set];exact Qc ⟨rfl,h⟩
section
variable {prog:Program} {w:World} {A:Around} {E:Value->Shared->Prop} {s:Shared} {κ:SortKind} {it:Array Keyed} {lt:Nat->Nat->Bool} {N:Nat}
theorem zQC {P:List Nat}{pend:Array (Nat×Nat×Nat)}{i a n1 n2 p1 p2:Nat}{Q:Bool->SortSt->Prop}{st:SortSt}(W:SWO lt)(hq:Orc prog w A s κ it lt N)(hk:kindOf st=κ)(hf:failedOf st=none)(ha:arrOf st=Ar it P)(hp:pendingOf st=pend)
   (h1:pend[i]?=some (a,n1,p1)) (h2:pend[i+1]?=some (a+n1,n2,p2)) (l1:0 < n1) (l2:0 < n2) (hN:P.length=N) (hb:a+n1+n2<=N) (g1:Sg lt P a n1) (g2:Sg lt P (a+n1) n2)
   (hQ:∀(zs:List Nat) (st':SortSt),PyProof.Rows.kindOf st'=κ->failedOf st'=none->zs.length=n1+n2->arrOf st'=Ar it (P.take a++zs++P.drop (a+n1+n2))->pendingOf st'=(pend.setIfInBounds i (a,n1+n2,p1)).eraseIdxIfInBounds (i+1)->zs.Pairwise (Lx lt)->zs.Perm (List.range' a (n1+n2))->Q true st') :
   wpS (model prog w) A E s (mergeAt' i) Q st:=by
 have hA:∀ {i:Nat},i < P.length->(Ar it P)[i]?=some (kas_item it (P.getD i 0)):=fun hi=>xW hi
 have X1:∀ {i j:Nat},i < j->j < n1->Lx lt (P.getD (a+i) 0) (P.getD (a+j) 0):=fun h h'=>g1.lx (by lia) h h'
 have Y1:∀ {i j:Nat},i < j->j < n2->Lx lt (P.getD (a+n1+i) 0) (P.getD (a+n1+j) 0):=fun h h'=>g2.lx (by lia) h h'
 have Xb:∀ {i:Nat},i < n1->P.getD (a+i) 0 < a+n1:=fun h=>(g1.bd (by lia) h).2
 have Yb:∀ {i:Nat},i < n2->a+n1<=P.getD (a+n1+i) 0/\P.getD (a+n1+i) 0 < N:=fun h=>by have:=g2.bd (by lia) h;lia
 have cxy:(ck P a (a+n1)++ck P (a+n1) (a+n1+n2)).Perm (List.range' a (n1+n2)):=by
   refine(g1.pm.append g2.pm).trans ?_
   have:=List.range'_append_1 (s:=a) (m:=n1) (n:=n2)
   rw[this]
 have mx:∀ {u v x:Nat},a<=u->v<=a+n1->x∈ck P u v->∃i,u<=a+i/\a+i < v/\i < n1/\x=P.getD (a+i) 0:=fun {u v x} h1 h2 h=>by
   obtain⟨j,j1,j2,j3,rfl⟩:=lY h
   exact⟨j - a,by lia,by lia,by lia,by rw[show a+(j - a)=j by lia]⟩
 have my:∀ {u v x:Nat},a+n1<=u->v<=a+n1+n2->x∈ck P u v->∃i,u<=a+n1+i/\a+n1+i < v/\i < n2/\x=P.getD (a+n1+i) 0:=fun {u v x} h1 h2 h=>by
   obtain⟨j,j1,j2,j3,rfl⟩:=lY h
   exact⟨j - (a+n1),by lia,by lia,by lia,by rw[show a+n1+(j - (a+n1))=j by lia]⟩
 obtain⟨k0,a0,p0,g0,f0⟩:=st
 have hk:k0=κ:=hk
 have hf:f0=none:=hf
 have ha:a0=Ar it P:=ha
 have hp:p0=pend:=hp
 subst hk;subst hf;subst ha;subst hp
 refine Qa (Yk ?_)
 dsimp only
 rw[h1,h2]
 dsimp only
 refine Qa (zRV ?_)
 refine Qa (yR (α:=Unit) (hA (i:=a+n1) (by lia)) ?_)
 have y0:P.getD (a+n1) 0=P.getD (a+n1+0) 0:=rfl
 refine Qa (sF (f:=fun i=>P.getD (a+i) 0) (bd:=fun i => !lt (P.getD (a+n1) 0) (P.getD (a+i) 0)) hq rfl (Yb (i:=0) l2).2 (fun i hi=>⟨hA (by lia),by have:=Xb hi;lia⟩) (fun i=>rfl) (fun i j hij hj hbj=>?_) l1 fun k hk1 hk2 hk3=>?_)
 · by_cases e:i=j
   · rw[e];exact hbj
   · have hbj:lt (P.getD (a+n1) 0) (P.getD (a+j) 0)=false:=by simpa using hbj
     have:=W.ntr hbj (Lx.le W (X1 (i:=i) (j:=j) (by lia) hj))
     simpa using this
 have hk2':∀i,i < k->lt (P.getD (a+n1) 0) (P.getD (a+i) 0)=false:=fun i hi=>by simpa using hk2 i hi
 have hk3':∀i,k<=i->i < n1->lt (P.getD (a+n1) 0) (P.getD (a+i) 0)=true:=fun i h h'=>by simpa using hk3 i h h'
 -- the first ones are less than all of the second run
 have low:∀i j,i < k->j < n2->Lx lt (P.getD (a+i) 0) (P.getD (a+n1+j) 0):=fun i j hi hj=>by
   have l0:Lx lt (P.getD (a+i) 0) (P.getD (a+n1) 0):=Lx.of W (hk2' i hi) (by have:=Xb (i:=i) (by lia);have:=Yb (i:=0) l2;lia)
   cases j with
   | zero=>exact l0
   | succ j=>exact Lx.trans W l0 (Y1 (i:=0) (by lia) hj)
 dsimp only
 by_cases e0:n1 - k=0
 · rw[Qo (by simpa using e0)]
   refine Qk (hQ (ck P a (a+n1)++ck P (a+n1) (a+n1+n2)) _ rfl rfl ?_ ?_ rfl ?_ cxy)
   · rw[Qe,nM (by lia),nM (by lia)];lia
   · rw[←nC (by lia) (by lia),←zVr (by lia)]
   · refine Qj.mpr ⟨g1.up,g2.up,fun x hx y hy=>?_⟩
     obtain⟨i',i1,i2,i3,rfl⟩:=mx (Qd _) (Qd _) hx
     obtain⟨j',j1,j2,j3,rfl⟩:=my (Qd _) (Qd _) hy
     exact low i' j' (by lia) j3
 rw[Qs (by simpa using e0)]
 have e1:a+k+(n1 - k) - 1=a+(n1 - 1):=by lia
 rw[e1]
 refine Qa (yR (α:=Unit) (hA (i:=a+(n1 - 1)) (by lia)) ?_)
 refine Qa (sF (f:=fun i=>P.getD (a+n1+i) 0) (bd:=fun i=>lt (P.getD (a+n1+i) 0) (P.getD (a+(n1 - 1)) 0)) hq rfl (by have:=Xb (i:=n1 - 1) (by lia);lia) (fun i hi=>⟨hA (by lia),(Yb hi).2⟩) (fun i=>rfl) (fun i j hij hj hbj=>?_) (by lia) fun m hm1 hm2 hm3=>?_)
 · by_cases e:i=j
   · rw[e];exact hbj
   · exact W.eql hbj (Lx.le W (Y1 (i:=i) (j:=j) (by lia) hj))
 dsimp only
 have y0x:lt (P.getD (a+n1) 0) (P.getD (a+(n1 - 1)) 0)=true:=hk3' (n1 - 1) (by lia) (by lia)
 have m0:0 < m:=by
   rcases Ii m with z | z
   · have:=hm3 0 (by lia) l2
     have:lt (P.getD (a+n1) 0) (P.getD (a+(n1 - 1)) 0)=false:=this
     rw[y0x] at this;cases this
   · exact z
 rw[Qs (by simp;lia),eT,eT]
 have lx:(ck P (a+k) (a+n1)).length=n1 - k:=by rw[nM (by lia)];lia
 have ly:(ck P (a+n1) (a+n1+m)).length=m:=by rw[nM (by lia)];lia
 have T:Two lt (ck P (a+k) (a+n1)) (ck P (a+n1) (a+n1+m)):=by
   refine⟨?_,?_,fun x hx y hy=>?_⟩
   · have:=g1.up
     rw[nC (v:=a+k) (by lia) (by lia)] at this
     exact(Qj.mp this).2.1
   · have:=g2.up
     rw[nC (v:=a+n1+m) (by lia) (by lia)] at this
     exact(Qj.mp this).1
   · obtain⟨i',i1,i2,i3,rfl⟩:=mx (by lia) (Qd _) hx
     obtain⟨j',j1,j2,j3,rfl⟩:=my (Qd _) (by lia) hy
     have:=Xb i3
     have:=Yb j3
     lia
 have tx:∀x∈ck P (a+k) (a+n1),x < N:=fun x hx=>by
   obtain⟨i',i1,i2,i3,rfl⟩:=mx (by lia) (Qd _) hx
   have:=Xb i3
   lia
 have ty:∀y∈ck P (a+n1) (a+n1+m),y < N:=fun y hy=>by
   obtain⟨j',j1,j2,j3,rfl⟩:=my (Qd _) (by lia) hy
   exact(Yb j3).2
 have q1:lt ((ck P (a+n1) (a+n1+m)).getD 0 0) ((ck P (a+k) (a+n1)).getD 0 0)=true:=by
   rw[kY (by lia),kY (by lia)]
   exact hk3' k (Qd _) (by lia)
 have q2:lt ((ck P (a+n1) (a+n1+m)).getD ((ck P (a+n1) (a+n1+m)).length - 1) 0) ((ck P (a+k) (a+n1)).getD ((ck P (a+k) (a+n1)).length - 1) 0)=true:=by
   rw[lx,ly,kY (by lia),kY (by lia),show a+k+(n1 - k - 1)=a+(n1 - 1) by lia]
   exact hm2 (m - 1) (by lia)
 -- laid back
 have fin:∀(zs:List Nat) (st':SortSt),Mrg lt (ck P (a+k) (a+n1)) (ck P (a+n1) (a+n1+m)) zs->arrOf st'=Ar it P->PyProof.Rows.kindOf st'=k0->failedOf st'=none->pendingOf st'=(p0.setIfInBounds i (a,n1+n2,p1)).eraseIdxIfInBounds (i+1) ->
     Q true (SortSt.mk' (PyProof.Rows.kindOf st') ((Ar it zs).toList.zipIdx.foldl (fun b (x:Keyed×Nat)=>b.setIfInBounds (a+k+x.2) x.1) (arrOf st')) (pendingOf st') (gallopOf st') (failedOf st')):=fun zs st' hm b1 b2 b3 b4=>by
   have lz:zs.length=n1 - k+m:=by rw[hm.1.length_eq,Qe,lx,ly]
   have mz:∀z∈zs,z∈ck P (a+k) (a+n1)∨z∈ck P (a+n1) (a+n1+m):=fun z hz=>Qx.mp (hm.1.subset hz)
   refine hQ (ck P a (a+k)++zs++ck P (a+n1+m) (a+n1+n2)) _ b2 b3 ?_ ?_ b4 ?_ ?_
   · rw[Qe,Qe,nM (by lia),nM (by lia),lz];lia
   · show(Ar it zs).toList.zipIdx.foldl _ (arrOf st')=_
     rw[b1,zRR (by rw[lz];lia)]
     congr 1
     have e2:P.take (a+k)=P.take a++ck P a (a+k):=by
       have:=nC (P:=P) (u:=0) (v:=a) (x:=a+k) (by lia) (by lia)
       simpa using this
     have e3:P.drop (a+k+zs.length)=ck P (a+n1+m) (a+n1+n2)++P.drop (a+n1+n2):=by
       rw[lz,show a+k+(n1 - k+m)=a+n1+m by lia]
       exact jX (by lia)
     rw[e2,e3]
     simp only[Ql]
   · refine Qj.mpr ⟨Qj.mpr ⟨?_,hm.2,fun x hx z hz=>?_⟩,?_,fun x hx y hy=>?_⟩
     · have:=g1.up
       rw[nC (v:=a+k) (by lia) (by lia)] at this
       exact(Qj.mp this).1
     · obtain⟨i',i1,i2,i3,rfl⟩:=mx (Qd _) (by lia) hx
       rcases mz z hz with hz | hz
       · obtain⟨j',j1,j2,j3,rfl⟩:=mx (by lia) (Qd _) hz
         exact X1 (by lia) j3
       · obtain⟨j',j1,j2,j3,rfl⟩:=my (Qd _) (by lia) hz
         exact low i' j' (by lia) j3
     · have:=g2.up
       rw[nC (v:=a+n1+m) (by lia) (by lia)] at this
       exact(Qj.mp this).2.1
     · obtain⟨j',j1,j2,j3,rfl⟩:=my (by lia) (Qd _) hy
       have hi:∀i',i' < n1->k<=i'∨i' < k->Lx lt (P.getD (a+i') 0) (P.getD (a+n1+j') 0):=fun i' i1 _=>by
         have l0:Lx lt (P.getD (a+(n1 - 1)) 0) (P.getD (a+n1+j') 0):=Lx.of W (hm3 j' (by lia) j3) (by have:=Xb (i:=n1 - 1) (by lia);have:=Yb j3;lia)
         by_cases e:i'=n1 - 1
         · rw[e];exact l0
         · exact Lx.trans W (X1 (i:=i') (j:=n1 - 1) (by lia) (by lia)) l0
       rcases Qx.mp hx with hx | hx
       · obtain⟨i',i1,i2,i3,rfl⟩:=mx (Qd _) (by lia) hx
         exact hi i' i3 (by lia)
       · rcases mz x hx with hx | hx
         · obtain⟨i',i1,i2,i3,rfl⟩:=mx (by lia) (Qd _) hx
           exact hi i' i3 (by lia)
         · obtain⟨i',i1,i2,i3,rfl⟩:=my (Qd _) (by lia) hx
           exact Y1 (by lia) j3
   · refine List.Perm.trans ?_ cxy
     rw[nC (P:=P) (u:=a) (v:=a+k) (x:=a+n1) (by lia) (by lia),nC (P:=P) (u:=a+n1) (v:=a+n1+m) (x:=a+n1+n2) (by lia) (by lia)]
     have:=(hm.1.append_left (ck P a (a+k))).append_right (ck P (a+n1+m) (a+n1+n2))
     refine this.trans ?_
     simp only[Ql]
     exact .refl _
 by_cases hle:n1 - k<=m
 · rw[Qo hle]
   refine Qa (zQ3 W hq rfl T tx ty (by rw[lx];lia) (by rw[ly];lia) q1 q2 fun zs st' hm gl=>?_)
   refine Qa (Rl (Qa (Yk ?_)))
   have:=fin zs st' hm gl.a gl.k gl.f gl.p
   refine Qk ?_
   have e:(failedOf st').isNone=true:=by rw[gl.f];rfl
   show Q (failedOf st').isNone _
   rw[e]
   exact this
 · rw[Qs hle]
   refine Qa (zQM W hq rfl T tx ty (by rw[lx];lia) (by rw[ly];lia) q1 q2 fun zs st' hm gl=>?_)
   refine Qa (Rl (Qa (Yk ?_)))
   have:=fin zs st' hm gl.a gl.k gl.f gl.p
   refine Qk ?_
   have e:(failedOf st').isNone=true:=by rw[gl.f];rfl
   show Q (failedOf st').isNone _
   rw[e]
   exact this
end
end L2
namespace L2
open PySem PySem.W PyProof.Rows
def Rn (lt:Nat->Nat->Bool)(P:List Nat):List (Nat×Nat×Nat)->Nat->Nat->Prop
 | [],a,e=>a=e
 | r::l,a,e=>r.1=a/\0 < r.2.1/\Sg lt P a r.2.1/\Rn lt P l (a+r.2.1) e
section
variable {lt:Nat->Nat->Bool} {P P':List Nat}
theorem Rn.app:∀ {l1 l2:List (Nat×Nat×Nat)} {a e:Nat},Rn lt P (l1++l2) a e↔∃m,Rn lt P l1 a m/\Rn lt P l2 m e
 | [],l2,a,e=>⟨fun h=>⟨a,rfl,h⟩,fun⟨m,h1,h2⟩=>by cases h1;exact h2⟩
 | r::l1,l2,a,e=>by
   constructor
   · rintro⟨h1,h2,h3,h4⟩
     obtain⟨m,h5,h6⟩:=(Rn.app (l1:=l1)).mp h4
     exact⟨m,⟨h1,h2,h3,h5⟩,h6⟩
   · rintro⟨m,⟨h1,h2,h3,h5⟩,h6⟩
     exact⟨h1,h2,h3,(Rn.app (l1:=l1)).mpr ⟨m,h5,h6⟩⟩
theorem Rn.le:∀ {l:List (Nat×Nat×Nat)} {a e:Nat},Rn lt P l a e->a+l.length<=e
 | [],a,e,h=>by cases h;simp
 | r::l,a,e,⟨h1,h2,h3,h4⟩=>by have:=Rn.le h4;rw[Qh];lia
theorem Sg.of {a n:Nat}(h:Sg lt P a n)(e:ck P' a (a+n)=ck P a (a+n)):Sg lt P' a n:=⟨by rw[e];exact h.up,by rw[e];exact h.pm⟩
theorem Rn.of:∀ {l:List (Nat×Nat×Nat)} {a e:Nat},Rn lt P l a e->(∀u v,a<=u->u<=v->v<=e->ck P' u v=ck P u v)->Rn lt P' l a e
 | [],a,e,h,_=>h
 | r::l,a,e,⟨h1,h2,h3,h4⟩,k=>⟨h1,h2,h3.of (k _ _ (Qd _) (by lia) (by have:=Rn.le h4;lia)),Rn.of h4 fun u v x y z=>k u v (by lia) y z⟩
theorem Rn.last {l:List (Nat×Nat×Nat)}{r:Nat×Nat×Nat}{a e:Nat}(h:Rn lt P (l++[r]) a e)(p:Nat):Rn lt P (l++[(r.1,r.2.1,p)]) a e:=by
 obtain⟨m,h1,h2,h3,h4,h5⟩:=Rn.app.mp h
 exact Rn.app.mpr ⟨m,h1,h2,h3,h4,h5⟩
theorem zS6 {zs:List Nat}{a n u v:Nat}(ha:a<=P.length)(hv:v<=a):ck (P.take a++zs++P.drop n) u v=ck P u v:=by
 show((P.take a++zs++P.drop n).take v).drop u=(P.take v).drop u
 have:(P.take a).length=a:=by rw[Qg];lia
 rw[Ql,Oi (by lia),Uc,Ru hv]
theorem zSF {zs:List Nat}{a n u v:Nat}(ha:a+n<=P.length)(hz:zs.length=n)(hu:a+n<=u):ck (P.take a++zs++P.drop (a+n)) u v=ck P u v:=by
 have lt:(P.take a).length=a:=by rw[Qg];lia
 apply List.ext_getElem?
 intro i
 show(((P.take a++zs++P.drop (a+n)).take v).drop u)[i]?=((P.take v).drop u)[i]?
 rw[Re,Re,Ra,Ra]
 by_cases c:u+i < v
 · rw[Qo c,Qo c,Ww (by rw[Qe];lia),Re,Qe,lt,hz]
   congr 1;lia
 · rw[Qs c,Qs c]
theorem zV2 {zs:List Nat}{a n:Nat}(ha:a<=P.length)(hz:zs.length=n):ck (P.take a++zs++P.drop (a+n)) a (a+n)=zs:=by
 have lt:(P.take a).length=a:=by rw[Qg];lia
 show((P.take a++zs++P.drop (a+n)).take (a+n)).drop a=zs
 rw[Oi (by rw[Qe];lia),Eg (by rw[Qe];lia),List.drop_left' lt]
theorem Rn.merge {l1 l2:List (Nat×Nat×Nat)}{a n1 n2 p1 p2 b e:Nat}{zs:List Nat}(h:Rn lt P (l1++(a,n1,p1)::(b,n2,p2)::l2) 0 e)(he:e<=P.length)(hz:zs.length=n1+n2)(zu:zs.Pairwise (Lx lt))(zp:zs.Perm (List.range' a (n1+n2))) :
   Rn lt (P.take a++zs++P.drop (a+n1+n2)) (l1++(a,n1+n2,p1)::l2) 0 e:=by
 obtain⟨m,h1,rfl,h3,h4,rfl,h6,h7,h8⟩:=Rn.app.mp h
 have hle:=Rn.le h8
 dsimp only at *
 have e3:a+n1+n2=a+(n1+n2):=by lia
 rw[e3]
 refine Rn.app.mpr ⟨a,h1.of fun u v _ _ y=>zS6 (by lia) y,rfl,by show 0 < n1+n2;lia,⟨by rw[zV2 (by lia) hz];exact zu,by rw[zV2 (by lia) hz];exact zp⟩,?_⟩
 show Rn lt _ l2 (a+(n1+n2)) e
 rw[←e3]
 rw[e3]
 rw[e3] at h8
 exact h8.of fun u v x _ _=>zSF (by lia) hz x
theorem Rn.two {l1 l2:List (Nat×Nat×Nat)}{a n1 n2 p1 p2 b e:Nat}(h:Rn lt P (l1++(a,n1,p1)::(b,n2,p2)::l2) 0 e):b=a+n1/\0 < n1/\0 < n2/\Sg lt P a n1/\Sg lt P (a+n1) n2/\a+n1+n2<=e:=by
 obtain⟨m,h1,rfl,h3,h4,rfl,h6,h7,h8⟩:=Rn.app.mp h
 have hle:=Rn.le h8
 exact⟨rfl,h3,h6,h4,h7,by dsimp only at hle;lia⟩
theorem zWV {α:Type}{p:Array α}{i:Nat}(h:i+1 < p.size):∃l1 x y l2,p.toList=l1++x::y::l2/\l1.length=i/\p[i]?=some x/\p[i+1]?=some y:=by
 have hl:p.toList.length=p.size:=Wg
 refine⟨p.toList.take i,p[i],p[i+1],p.toList.drop (i+2),?_,by rw[Qg];lia,by simp,by simp⟩
 have h1:p.toList.drop i=p.toList[i]'(by lia)::p.toList.drop (i+1):=Ey (by lia)
 have h2:p.toList.drop (i+1)=p.toList[i+1]'(by lia)::p.toList.drop (i+2):=Ey (by lia)
 conv=>lhs;rw[←Wv i p.toList,h1,h2]
 simp
theorem zVu {α:Type}{p:Array α}{l1 l2:List α}{x y z:α}(h:p.toList=l1++x::y::l2):((p.setIfInBounds l1.length z).eraseIdxIfInBounds (l1.length+1)).toList=l1++z::l2:=by
 rw[Array.toList_eraseIdxIfInBounds,Array.toList_setIfInBounds,h,List.set_append_right _ _ (Qd _),Iv,List.set_cons_zero,List.eraseIdx_append_of_length_le (by lia)]
 have:l1.length+1 - l1.length=1:=by lia
 rw[this];rfl
theorem Org.take {M n:Nat}{q:Array Nat}(h:Org M q n)(hn:n<=M):(q.toList.take n).Perm (List.range n):=by
 have hl:q.toList.length=M:=by rw[Wg,h.sz]
 have hd:q.toList.drop n=List.range' n (M - n):=by
   apply Oy
   · rw[Wy,List.length_range',hl]
   · intro i h1 h2
     rw[List.length_range'] at h2
     have:=h.hi (n+i) (by lia) (by lia)
     rw[rG] at this
     have h3:n+i < q.size:=by rw[h.sz];lia
     simp[h3] at this
     simp[this]
 have hp:(q.toList.take n++q.toList.drop n).Perm (List.range n++List.range' n (M - n)):=by
   rw[Wv]
   refine h.pm.trans ?_
   rw[Yq,Yq]
   have:=List.range'_append_1 (s:=0) (m:=n) (n:=M - n)
   rw[Ys] at this
   rw[this,show n+(M - n)=M by lia]
 rw[hd] at hp
 exact(List.perm_append_right_iff _).mp hp
variable {prog:Program} {w:World} {A:Around} {E:Value->Shared->Prop} {s:Shared} {κ:SortKind} {it:Array Keyed} {N:Nat}
def cG (P:List Nat)(lo:Nat)(q:Array Nat):List Nat:=P.take lo++q.toList.map (lo+·)
theorem At.ar {P:List Nat}{lo:Nat}{q:Array Nat}{st:SortSt}(h:At it lo (Ar it (P.take lo)) q st):arrOf st=Ar it (cG P lo q):=by
 rw[h.arr]
 apply Ev.mp
 simp[Ar,cG]
theorem zTx {P:List Nat}{lo M n:Nat}{q:Array Nat}(hl:lo<=P.length)(hn:n<=M)(ho:Org M q n)(hs:Srt (fun a b=>lt (lo+a) (lo+b)) q n):Sg lt (cG P lo q) lo n:=by
 have lt':(P.take lo).length=lo:=by rw[Qg];lia
 have e:ck (cG P lo q) lo (lo+n)=(q.toList.take n).map (lo+·):=by
   show((P.take lo++q.toList.map (lo+·)).take (lo+n)).drop lo=_
   rw[List.take_append,lt',Nat.add_sub_cancel_left,Eg (by lia),List.drop_left' lt',Rz]
 refine⟨?_,?_⟩
 · rw[e,Ek,Pe]
   intro i j hi hj hij
   rw[Qg,Wg,ho.sz] at hi hj
   have:=hs i j hij (by lia)
   have h1:i < q.size:=by rw[ho.sz];lia
   have h2:j < q.size:=by rw[ho.sz];lia
   rw[rG,rG] at this
   simp[h1,h2] at this
   have z:∀a b,Lx (fun a b=>lt (lo+a) (lo+b)) a b->Lx lt (lo+a) (lo+b):=fun a b h=>by
     rcases h with h | ⟨h1,h2,h3⟩
     · exact .inl h
     · exact .inr ⟨h1,h2,by lia⟩
   simpa using z _ _ this
 · rw[e]
   refine((ho.take hn).map (lo+·)).trans ?_
   rw[Yq,List.map_add_range']
   exact .refl _
structure SI (it:Array Keyed)(lt:Nat->Nat->Bool)(N:Nat)(κ:SortKind)(st:SortSt)(P:List Nat)(lo:Nat):Prop where
 k:PyProof.Rows.kindOf st=κ
 f:failedOf st=none
 a:arrOf st=Ar it P
 len:P.length=N
 rn:Rn lt P (pendingOf st).toList 0 lo
 le:lo<=N
 id:∀j,lo<=j->j < N->P.getD j 0=j
theorem zTk {P zs:List Nat}{a n j:Nat}(ha:a+n<=P.length)(hz:zs.length=n)(hj:a+n<=j):(P.take a++zs++P.drop (a+n)).getD j 0=P.getD j 0:=by
 have lt:(P.take a).length=a:=by rw[Qg];lia
 rw[Wp,Wp,Ww (by rw[Qe];lia),Re,Qe,lt,hz]
 congr 2;lia
theorem zTr {P zs:List Nat}{a n:Nat}(ha:a+n<=P.length)(hz:zs.length=n):(P.take a++zs++P.drop (a+n)).length=P.length:=by
 rw[Qe,Qe,Qg,Wy];lia
theorem zWH {P:List Nat}{i e:Nat}{Q:Bool->SortSt->Prop}{st:SortSt}(W:SWO lt)(hq:Orc prog w A s κ it lt N)(hk:PyProof.Rows.kindOf st=κ)(hf:failedOf st=none)(ha:arrOf st=Ar it P)(hN:P.length=N)(hrn:Rn lt P (pendingOf st).toList 0 e)(he:e<=N)(hi:i+1 < (pendingOf st).size)
   (hQ:∀(P':List Nat) (st':SortSt),PyProof.Rows.kindOf st'=κ->failedOf st'=none->arrOf st'=Ar it P'->P'.length=N->Rn lt P' (pendingOf st').toList 0 e->(pendingOf st').size+1=(pendingOf st).size->(∀u v,e<=u->ck P' u v=ck P u v)->(∀j,e<=j->P'.getD j 0=P.getD j 0)->Q true st'):wpS (model prog w) A E s (mergeAt' i) Q st:=by
 obtain⟨l1,⟨a,n1,p1⟩,⟨b,n2,p2⟩,l2,t1,t2,t3,t4⟩:=zWV hi
 rw[t1] at hrn
 obtain⟨rfl,b1,b2,b3,b4,b5⟩:=hrn.two
 refine zQC (P:=P) W hq hk hf ha rfl t3 t4 b1 b2 hN (by lia) b3 b4 fun zs st' c1 c2 c3 c4 c5 c6 c7=>?_
 have e3:a+n1+n2=a+(n1+n2):=by lia
 rw[e3] at c4
 have tl:(pendingOf st').toList=l1++(a,n1+n2,p1)::l2:=by rw[c5,←t2,zVu t1]
 refine hQ _ st' c1 c2 c4 (by rw[zTr (by lia) c3];exact hN) ?_ ?_ (fun u v h=>zSF (by lia) c3 (by lia)) fun j h=>zTk (by lia) c3 (by lia)
 · rw[tl,←e3]
   exact hrn.merge (by lia) c3 c6 c7
 · have h1:(pendingOf st').toList.length=(pendingOf st').size:=Wg
   have h2:(pendingOf st).toList.length=(pendingOf st).size:=Wg
   rw[tl] at h1
   rw[t1] at h2
   simp at h1 h2
   lia
theorem zYN {α:Type}{p:Array α}{r:α}(h:p.back?=some r):∃l,p.toList=l++[r]:=by
 obtain⟨l⟩:=p
 have h:l.getLast?=some r:=by simpa using h
 obtain⟨ys,h⟩:=List.getLast?_eq_some_iff.mp h
 exact⟨ys,h⟩
theorem zZo {α:Type}{r:α}{f:α->α}:∀l:List α,(l++[r]).modify l.length f=l++[f r]
 | []=>rfl
 | a::l=>by
   show a::(l++[r]).modify l.length f=_
   rw[zZo l];rfl
theorem zTj {α:Type}{p:Array α}{l:List α}{r:α}{f:α->α}(h:p.toList=l++[r]):(p.modify (p.size - 1) f).toList=l++[f r]:=by
 have hs:p.size=l.length+1:=by rw[←Wg,h];simp
 rw[Array.toList_modify,h,hs,Nat.add_sub_cancel,zZo]
theorem zR1 {c:Prop}[Decidable c]{a b m:Nat}(h1:a<=m)(h2:b<=m):(if c then a else b)<=m:=by split<;>assumption
theorem zSR {Q:Unit->SortSt->Prop}{st:SortSt}(W:SWO lt)(hq:Orc prog w A s κ it lt N)(hN:0 < N)(hk:PyProof.Rows.kindOf st=κ)(hf:failedOf st=none)(ha:arrOf st=Ar it (List.range N))(hp:pendingOf st=#[])
   (hQ:∀(P:List Nat) (st':SortSt),arrOf st'=Ar it P->failedOf st'=none->P.Perm (List.range N)->P.Pairwise (Lx lt)->Q () st'):wpS (model prog w) A E s sortRuns' Q st:=by
 have hsz:(arrOf st).size=N:=by rw[ha,zG,Ri]
 rw[sortRuns'_eq]
 refine Qa (Yk ?_)
 dsimp only
 rw[hsz]
 refine Qa (Ex (Ew (I:=fun x c st'=>∃P lo,c=(none,lo)/\SI it lt N κ st' P lo/\x<=lo) (Q:=fun c st'=>∃P,c=(none,N)/\SI it lt N κ st' P N) ?step ?fin ⟨List.range N,0,rfl,⟨hk,hf,ha,Ri,by rw[hp];rfl,Wm _,fun j _ h=>by simp[h]⟩,Qd _⟩) ?post)
 case fin =>
   rintro c st' ⟨P,lo,rfl,a1,a2⟩
   have e:lo=N:=by have:=a1.le;lia
   subst e
   exact⟨P,rfl,a1⟩
 case step =>
   rintro x c st1 _ hx ⟨P,lo,rfl,a1,a2⟩
   dsimp only
   by_cases hge:lo≥N
   · rw[Qo hge]
     have e:lo=N:=by have:=a1.le;lia
     subst e
     exact Qk ⟨P,rfl,a1⟩
   rw[Qs hge]
   have WL:=zYa W lo
   have hM:1<=N - lo:=by lia
   have hlen:=a1.len
   have at0:At it lo (Ar it (P.take lo)) (List.toArray (List.range (N - lo))) st1:=by
     refine⟨?_,by rw[zG,Qg];lia⟩
     rw[a1.a]
     apply Tp
     intro i
     have hs:(Ar it (P.take lo)).size=lo:=by rw[zG,Qg];lia
     rcases Tw i lo with z | z
     · rw[Rq (by lia),cS,cS,Ra,Qo z]
     · rw[Wh (by lia),cS,hs]
       rcases Tw i N with y | y
       · have:=a1.id i z y
         rw[Wp] at this
         have h3:i < P.length:=by lia
         have h4:i - lo < N - lo:=by lia
         simp[h3] at this
         simp[h3,h4,this]
         congr 1;lia
       · rw[List.getElem?_eq_none (by lia),Array.getElem?_eq_none (by rw[Pq,Qu,Ri];lia)]
         rfl
   refine Qa (zV3 W hq (by lia) a1.k at0 hM (zVD WL hM) fun n q2 st2 b1 b2 b3=>?_)
   obtain⟨d1,d2,d3,d4⟩:=b3
   dsimp only at d1 d2 d3 d4 ⊢
   generalize minRun' N N 0=mr
   by_cases hlt:n < mr
   case' pos =>
     rw[Qo hlt]
     refine Qa (Iu (Te ⟨rfl,?_⟩))
     refine Qa (zSb W hq (by lia) (b2.k.trans a1.k) b1 d1 (m:=min (N - lo) mr) (by lia) (by lia) d3 d4 fun q3 st3 g1 g2 g3 g4=>?_)
     rw[Qs (by decide)]
     have n1:1<=min (N - lo) mr:=by lia
     have n2:min (N - lo) mr<=N - lo:=by lia
     generalize min (N - lo) mr=n' at *
     have g5:Alk st1 st3:=b2.tr g2
   case' neg =>
     rw[Qs hlt]
     obtain⟨n',rfl⟩:∃n',n'=n:=⟨_,rfl⟩
     obtain⟨q3,rfl⟩:∃q3,q3=q2:=⟨_,rfl⟩
     obtain⟨st3,rfl⟩:∃st3,st3=st2:=⟨_,rfl⟩
     have g1:=b1
     have g3:=d3
     have g4:=d4
     have n1:=d1
     have n2:=d2
     have g5:=b2
   all_goals
     have P3a:arrOf st3=Ar it (cG P lo q3):=g1.ar
     have P3s:Sg lt (cG P lo q3) lo n':=zTx (by lia) n2 g4 g3
     have P3l:(cG P lo q3).length=N:=by
       show(P.take lo++q3.toList.map (lo+·)).length=N
       have hq3:q3.toList.length=N - lo:=by rw[Wg,g4.sz]
       rw[Qe,Qg,Qt,hq3];lia
     have P3e:cG P lo q3=P.take lo++q3.toList.map (lo+·)++P.drop N:=by
       rw[Eh (by lia),Er];rfl
     have P3r:Rn lt (cG P lo q3) (pendingOf st3).toList 0 lo:=by
       rw[g5.p]
       exact a1.rn.of fun u v _ _ y=>by rw[P3e];exact zS6 (by lia) y
     have P3i:∀j,lo+n'<=j->j < N->(cG P lo q3).getD j 0=j:=fun j h1 h2=>by
       have lt':(P.take lo).length=lo:=by rw[Qg];lia
       have:=g4.hi (j - lo) (by lia) (by lia)
       rw[rG] at this
       have h3:j - lo < q3.size:=by rw[g4.sz];lia
       show(P.take lo++q3.toList.map (lo+·)).getD j 0=j
       rw[Wp,Ww (by lia),lt',Ws,Ui]
       simp[h3] at this
       simp[h3,this]
       lia
     -- pushed
     have push:∀(P4:List Nat) (st4:SortSt),PyProof.Rows.kindOf st4=κ->failedOf st4=none->arrOf st4=Ar it P4->P4.length=N->Rn lt P4 (pendingOf st4).toList 0 lo->Sg lt P4 lo n'->(∀j,lo+n'<=j->j < N->P4.getD j 0=j)->SI it lt N κ (setPending st4 ((pendingOf st4).push (lo,n',0))) P4 (lo+n'):=fun P4 st4 k1 k2 k3 k4 k5 k6 k7 =>
       ⟨k1,k2,k3,k4,by
         show Rn lt P4 ((pendingOf st4).push (lo,n',0)).toList 0 (lo+n')
         rw[Array.toList_push]
         exact Rn.app.mpr ⟨lo,k5,rfl,n1,k6,rfl⟩,by lia,k7⟩
     refine Qa (Yk ?_)
     cases hbk:(pendingOf st3).back? with
     | none =>
       dsimp only
       exact Qa (Rl (Qk ⟨_,_,rfl,push _ st3 (g5.k.trans a1.k) (g5.f.trans a1.f) P3a P3l P3r P3s P3i,by lia⟩))
     | some r =>
       obtain⟨s1,m1,r3⟩:=r
       dsimp only
       refine Qa (Ex (Ew (I:=fun _ c st4=>c=(none,())/\∃P4,PyProof.Rows.kindOf st4=κ/\failedOf st4=none/\arrOf st4=Ar it P4/\P4.length=N/\Rn lt P4 (pendingOf st4).toList 0 lo/\Sg lt P4 lo n'/\(∀j,lo+n'<=j->j < N->P4.getD j 0=j)/\0 < (pendingOf st4).size)
         (Q:=fun c st4=>c=(none,())/\∃P4,PyProof.Rows.kindOf st4=κ/\failedOf st4=none/\arrOf st4=Ar it P4/\P4.length=N/\Rn lt P4 (pendingOf st4).toList 0 lo/\Sg lt P4 lo n'/\(∀j,lo+n'<=j->j < N->P4.getD j 0=j)/\0 < (pendingOf st4).size) ?istep (fun _ _ h=>h) ⟨rfl,_,g5.k.trans a1.k,g5.f.trans a1.f,P3a,P3l,P3r,P3s,P3i,by
           obtain⟨l,hl⟩:=zYN hbk
           rw[←Wg,hl];simp⟩) ?ipost)
       case istep =>
         rintro y c st4 _ _ ⟨rfl,P4,k1,k2,k3,k4,k5,k6,k7,k8⟩
         refine Qa (Yk ?_)
         by_cases h1:(pendingOf st4).size > 1
         · rw[Qo h1]
           obtain⟨l1,⟨x1,x2,x3⟩,y1,l2,t1,t2,t3,t4⟩:=zWV (p:=pendingOf st4) (i:=(pendingOf st4).size - 2) (by lia)
           rw[t3]
           dsimp only
           by_cases h2:x3<=power' N (2*s1+m1) (2*s1+m1+m1+n') N
           · rw[Qo h2]
             exact Qk ⟨rfl,P4,k1,k2,k3,k4,k5,k6,k7,k8⟩
           · rw[Qs h2]
             refine Qa (zWH W hq k1 k2 k3 k4 k5 (by lia) (by lia) fun P5 st5 e1 e2 e3 e4 e5 e6 e7 e8=>?_)
             rw[Qs (by decide)]
             exact Qk ⟨rfl,P5,e1,e2,e3,e4,e5,k6.of (e7 _ _ (Qd _)),fun j j1 j2=>by rw[e8 j (by lia)];exact k7 j j1 j2,by lia⟩
         · rw[Qs h1]
           exact Qk ⟨rfl,P4,k1,k2,k3,k4,k5,k6,k7,k8⟩
       case ipost =>
         rintro c st4 ⟨rfl,P4,k1,k2,k3,k4,k5,k6,k7,k8⟩
         dsimp only
         refine Qa (Rl (Qa (Rl (Qk ⟨P4,_,rfl,?_,by lia⟩))))
         refine push P4 (setPending st4 _) k1 k2 k3 k4 ?_ k6 k7
         show Rn lt P4 ((pendingOf st4).modify ((pendingOf st4).size - 1) _).toList 0 lo
         obtain⟨r,hr⟩:∃r,(pendingOf st4).back?=some r:=by
           cases hb:(pendingOf st4).back? with
           | none =>
             have:pendingOf st4=#[]:=by simpa using hb
             rw[this] at k8
             exact absurd k8 (by decide)
           | some r=>exact⟨r,rfl⟩
         obtain⟨l,hl⟩:=zYN hr
         rw[zTj hl]
         rw[hl] at k5
         exact k5.last _
 case post =>
   rintro c st1 ⟨P,rfl,a1⟩
   dsimp only
   have hlen:=a1.len
   refine Qa (Ex (Ew (I:=fun x c st2=>c=(none,())/\∃P2,PyProof.Rows.kindOf st2=κ/\failedOf st2=none/\arrOf st2=Ar it P2/\P2.length=N/\Rn lt P2 (pendingOf st2).toList 0 N/\x+(pendingOf st2).size<=N)
     (Q:=fun c st2=>c=(none,())/\∃P2,failedOf st2=none/\arrOf st2=Ar it P2/\P2.length=N/\Rn lt P2 (pendingOf st2).toList 0 N/\(pendingOf st2).size<=1) ?fstep ?ffin ⟨rfl,P,a1.k,a1.f,a1.a,a1.len,a1.rn,by
       have:=a1.rn.le
       rw[Wg] at this
       lia⟩) ?fpost)
   case ffin =>
     rintro c st2 ⟨rfl,P2,k1,k2,k3,k4,k5,k6⟩
     exact⟨rfl,P2,k2,k3,k4,k5,by lia⟩
   case fstep =>
     rintro x c st2 _ _ ⟨rfl,P2,k1,k2,k3,k4,k5,k6⟩
     refine Qa (Yk ?_)
     by_cases h1:(pendingOf st2).size<=1
     · rw[Qo h1]
       exact Qk ⟨rfl,P2,k2,k3,k4,k5,h1⟩
     · rw[Qs h1]
       have go:∀i,i+1 < (pendingOf st2).size->wpS (model prog w) A E s (mergeAt' i) (fun b st3=>b=true/\∃P3,PyProof.Rows.kindOf st3=κ/\failedOf st3=none/\arrOf st3=Ar it P3/\P3.length=N/\Rn lt P3 (pendingOf st3).toList 0 N/\x+1+(pendingOf st3).size<=N) st2:=fun i hi =>
         zWH W hq k1 k2 k3 k4 k5 (Qd _) hi fun P5 st5 e1 e2 e3 e4 e5 e6 e7 e8=>⟨rfl,P5,e1,e2,e3,e4,e5,by lia⟩
       refine Qa (Ex (go _ ?_) ?_)
       · exact Iy (Nat.succ_le_succ (zR1 (m:=(pendingOf st2).size - 2) (by lia) (Qd _))) (by lia)
       · rintro b st3 ⟨rfl,P3,h3⟩
         rw[Qs (by decide)]
         exact Qk ⟨rfl,P3,h3⟩
   case fpost =>
     rintro c st2 ⟨rfl,P2,k2,k3,k4,k5,k6⟩
     dsimp only
     have hone:∃r,(pendingOf st2).toList=[r]:=by
       have hl:(pendingOf st2).toList.length<=1:=by rw[Wg];exact k6
       match hh:(pendingOf st2).toList with
       | []=>rw[hh] at k5;exact absurd (show 0=N from k5) (by lia)
       | [r]=>exact⟨r,rfl⟩
       | _::_::_=>rw[hh] at hl;simp at hl
     obtain⟨⟨r1,r2,r3⟩,hr⟩:=hone
     rw[hr] at k5
     obtain⟨c1,c2,c3,c4⟩:=k5
     have c4:0+r2=N:=c4
     have c3:Sg lt P2 0 r2:=c3
     have er:r2=N:=by lia
     subst er
     have ep:ck P2 0 (0+P2.length)=P2:=by simp
     rw[←k4] at c3
     have u1:=c3.up
     have u2:=c3.pm
     rw[ep] at u1 u2
     exact Qk (hQ P2 st2 k3 k2 (by rw[←k4,Yq];exact u2) u1)
end
end L2
namespace L2
open PySem PySem.W PyProof.Rows
def zUI (lt:Nat->Nat->Bool)(a b:Nat):Bool:=lt a b||(!lt b a&&decide (a<=b))
def wZ (lt:Nat->Nat->Bool)(N:Nat):List Nat:=(List.range N).mergeSort (zUI lt)
theorem zYv {lt:Nat->Nat->Bool}{a b:Nat}:zUI lt a b=true↔(Lx lt a b∨(lt b a=false/\a=b)):=by
 unfold zUI Lx
 simp only[Tt,Ee,Bool.not_eq_true',Ry]
 cases h1:lt a b<;>cases h2:lt b a<;>simp<;>lia
theorem vA (lt:Nat->Nat->Bool)(N:Nat):(wZ lt N).Perm (List.range N):=List.mergeSort_perm _ _
theorem iT {lt:Nat->Nat->Bool}(W:SWO lt)(N:Nat):(wZ lt N).Pairwise (Lx lt):=by
 have h:=List.pairwise_mergeSort (le:=zUI lt) (fun a b c h1 h2=>by
   rw[zYv] at h1 h2 ⊢
   rcases h1 with h1 | ⟨h1,rfl⟩
   · rcases h2 with h2 | ⟨h2,rfl⟩
     · exact .inl (Lx.trans W h1 h2)
     · exact .inl h1
   · exact h2) (fun a b=>by
   unfold zUI
   cases h1:lt a b<;>cases h2:lt b a<;>simp<;>lia) (List.range N)
 have nd:(wZ lt N).Nodup:=(vA lt N).nodup_iff.mpr List.nodup_range
 refine(h.and nd).imp fun {a b} z=>?_
 rcases zYv.mp z.1 with q | ⟨_,q⟩
 · exact q
 · exact absurd q z.2
theorem zTs {lt:Nat->Nat->Bool}(W:SWO lt){a b:Nat}(h1:Lx lt a b)(h2:Lx lt b a):False:=by
 rcases h1 with h1 | ⟨_,_,h1⟩
 · rcases h2 with h2 | ⟨_,h2,_⟩
   · rw[W.asym h1] at h2;cases h2
   · rw[h1] at h2;cases h2
 · rcases h2 with h2 | ⟨_,_,h2⟩
   · rename_i q _
     have:=W.asym h2
     simp_all
   · lia
theorem zUk {lt:Nat->Nat->Bool}(W:SWO lt):∀ {l m:List Nat},l.Perm m->l.Pairwise (Lx lt)->m.Pairwise (Lx lt)->l=m
 | [],m,h,_,_=>(List.Perm.nil_eq h)
 | a::r,m,h,h1,h2=>by
   cases m with
   | nil=>exact absurd h.length_eq (by simp)
   | cons b t =>
     obtain⟨p1,p2⟩:=Rr.mp h1
     obtain⟨q1,q2⟩:=Rr.mp h2
     have e:a=b:=by
       have ha:a∈b::t:=h.subset (by simp)
       have hb:b∈a::r:=h.symm.subset (by simp)
       rcases Qf.mp ha with e | e
       · exact e
       · rcases Qf.mp hb with e' | e'
         · exact e'.symm
         · exact(zTs W (q1 a e) (p1 b e')).elim
     subst e
     rw[zUk W (List.Perm.cons_inv h) p2 q2]
theorem zVE {lt:Nat->Nat->Bool}(W:SWO lt){n:Nat}{P:List Nat}(h1:P.Perm (List.range n))(h2:P.Pairwise (Lx lt)):P=wZ lt n:=zUk W (h1.trans (vA lt n).symm) h2 (iT W n)
theorem dU (lt:Nat->Nat->Bool){n:Nat}(h:n < 2):wZ lt n=List.range n:=by
 match n,h with
 | 0,_=>simp[wZ]
 | 1,_=>simp[wZ,List.range_succ]
section
variable {prog:Program} {w:World} {A:Around} {E:Value->Shared->Prop} {s:Shared}
theorem zV6 {keys vs:List Value}{i:Nat}(h:i < keys.length)(h':i < vs.length):(keys.zip vs)[i]?=some (keys[i],vs[i]):=by
 rw[Wi (by rw[Ol];lia),List.getElem_zip]
theorem zYq {keys vs:List Value}{κ:SortKind}{lt:Nat->Nat->Bool}{Q:Unit×SortSt->Shared->Prop}(W:SWO lt)(hl:keys.length=vs.length)(h1:1<=vs.length)(hc:∀i j C,i < vs.length->j < vs.length->C (lt i j) s->kas_ask prog w A κ keys i j C s)
   (hQ:∀st',(arrOf st').map (·.2)=List.toArray ((wZ lt vs.length).map fun i=>vs.getD i Value.none)->failedOf st'=none->Q ((),st') s):wpAny (model prog w) A (sortRuns'.run (SortSt.mk' κ (keys.toArray.zip vs.toArray) #[] 7 none)) Q E s:=by
 have hi:∀i,i < vs.length->kas_item (keys.toArray.zip vs.toArray) i=(keys.getD i Value.none,vs.getD i Value.none):=fun i h=>by
   have h':i < keys.length:=by lia
   unfold kas_item
   simp[Od,h,h',zV6 h' h]
 have hA:keys.toArray.zip vs.toArray=Ar (keys.toArray.zip vs.toArray) (List.range vs.length):=by
   apply Tp
   intro i
   rw[cS]
   rcases Tw i vs.length with z | z
   · have h':i < keys.length:=by lia
     rw[Iq z,Rg,hi i z]
     simp[z,h',zV6 h' z]
   · rw[List.getElem?_eq_none (by simpa using z),Array.getElem?_eq_none (by simp;lia)];rfl
 have:=zSR (prog:=prog) (w:=w) (A:=A) (E:=E) (s:=s) (κ:=κ) (it:=keys.toArray.zip vs.toArray) (lt:=lt) (N:=vs.length) (st:=SortSt.mk' κ (keys.toArray.zip vs.toArray) #[] 7 none)
   (Q:=fun _ st'=>(arrOf st').map (·.2)=List.toArray ((wZ lt vs.length).map fun i=>vs.getD i Value.none)/\failedOf st'=none) W (fun i j C hi' hj' hC=>?_) h1 rfl rfl hA rfl fun P st' p1 p2 p3 p4=>⟨?_,p2⟩
 · unfold wpS at this
   refine Yt this ?_ fun _ _ e=>e
   rintro⟨⟨⟩,st'⟩ s' ⟨rfl,h1,h2⟩
   exact hQ st' h1 h2
 · have:=hc i j C hi' hj' hC
   unfold kas_cmp
   rw[hi i hi',hi j hj']
   exact this
 · rw[p1,←zVE W p3 p4]
   apply Ev.mp
   simp only[Ar,Oo,Tr]
   refine Yu fun i h=>?_
   have:i < vs.length:=by simpa using p3.subset h
   show(kas_item _ i).2=_
   rw[hi i this]
end
end L2
namespace L2
open PySem PySem.Spec PyProof.Rows
section
variable {prog:Program} {w:World} {A:Around} {E:Value->Shared->Prop} {s:Shared}
theorem zXz:typeLookup (.type "list_reverseiterator") "__len__"=pure none:=by rw[typeLookup_type,builtinLookup_eq_fast];kernel_rfl
theorem zUf:typeLookup (.type "list_reverseiterator") "__length_hint__"=pure (some (.builtin "list_reverseiterator.__length_hint__")):=by rw[typeLookup_type,builtinLookup_eq_fast];kernel_rfl
theorem zUn {it l:Addr}{i:Int}{Q:Bool->Shared->Prop}(hit:s.heap.IsRevIter it l i)(h:Q false s):wpAny (model prog w) A (Builtin.List.listLengthHint (.ref it)) Q E s:=by
 unfold Builtin.List.listLengthHint
 refine Qr (wpAny_specialOf hit.typeIs zXz ?_)
 refine Ts (fun hab=>absurd hab (by decide)) (fun _=>?_)
 refine Ts (fun hab=>absurd hab (by decide)) (fun _=>?_)
 refine Qr (wpAny_specialOf hit.typeIs zUf ?_)
 generalize hid:("list_reverseiterator.__length_hint__":String)=id0
 wp_delta
 rw[show splitId id0=some ("list_reverseiterator","__length_hint__") from by subst hid;decide +kernel]
 subst hid
 refine Qr (wpAny_isInstance (T:="list_reverseiterator") (b:=true) hit.typeIs (by rw[isSubtype_type];kernel_rfl) ?_)
 refine Ts (fun hab=>absurd hab (by decide)) (fun _=>?_)
 refine Ts (fun _=>?_) (fun hab=>absurd (by decide +kernel) hab)
 refine Ts (fun hab=>absurd hab (by decide +kernel)) (fun _=>?_)
 exact Qc h
theorem zXy {R:Result->Shared->Prop}{it l S:Addr}{items:Array Value}{res:Value}{c₀:Nat}(hh:A.handled=none)(hit:s.heap.IsRevIter it l ((items.size:Int) - 1))(hl:s.heap.IsList l items)(hli:l≠it)(hSi:S≠it)(hSl:S≠l)(hlen:items.size<=sizeLine)
   (hS:s.heap.get? S=some { cls:=.type "list",data:=.seq #[] c₀ })
   (hR:∀h' tk acc' c',(∀b o,b≠S->b≠it->s.heap.get? b=some o->h'.get? b=some o)->h'.get? S=some { cls:=.type "list",dict:=none,data:=.seq acc' c',slots:=#[] } ->
     ItemsOf (fun i v=>items[items.size - 1 - i]?=some v) acc' items.size->R (.ok (.ret res)) { s with heap:=h',toks:=tk }) :
   wpAny (model prog w) A.in1 (Builtin.List.listExtendWith (.ref S) (.ref it) res)
     (fun fin s'=>match fin with | .done f=>R (.ok f) s' | .again c'=>c'.quiet=true/\codeAny (model prog w) A c' R s') (fun e s'=>R (.error e) s') s:=by
 have hSf:S∉[it,l]:=fun hm=>by
   rcases Qf.mp hm with e | hm
   · exact hSi e
   · exact hSl (Qz.mp hm)
 have W:=(Walks.listRev (prog:=prog) (w:=w) (A:=A.in1) hh it l hli items).toS
 unfold Builtin.List.listExtendWith
 refine Qr (wpAny_typeOf hit.typeIs ?_)
 have h1:Builtin.List.listSameRef (.ref S) (.ref it)=false:=by simp[Builtin.List.listSameRef,hSi]
 have h2:(Value.type "list_reverseiterator"==Value.type "list")=false:=by decide
 have h3:(Value.type "list_reverseiterator"==Value.type "tuple")=false:=by decide
 simp only[h1,h2,h3,Bool.or_false,Wz,Rk]
 refine Qr (wpAny_pyIter_revIter hit ?_)
 refine Qr (Rx (zUn hit ?_))
 refine Ts (fun hab=>absurd hab (by decide +kernel)) (fun _=>Qc ⟨Yr F.plain_extend_loop _,?_⟩)
 refine codeAny_extend_loopS W hlen S hSf res items.size 0 _ #[] c₀ rfl (Wm _) ⟨Wm _,by simpa using hit,hl⟩ hS (ItemsOf.nil _) fun s' acc' c' hm hS' hacc=>?_
 rw[Moved.eq_with hm]
 refine hR s'.heap s'.toks acc' c' (fun b o hb hb' e=>hm.heap b o (fun hmem=>?_) e) hS' hacc
 rcases Qf.mp hmem with e' | hmem
 · exact hb e'
 · exact hb' (Qz.mp hmem)
theorem cL {R:Result->Shared->Prop}{it l S:Addr}{items:Array Value}(hh:A.handled=none)(hit:s.heap.IsRevIter it l ((items.size:Int) - 1))(hl:s.heap.IsList l items)(hli:l≠it)(hSi:S≠it)(hSl:S≠l)(hlen:items.size<=sizeLine)
   (hS:s.heap.get? S=some { cls:=.type "list",data:=.seq #[] })
   (hR:∀h' tk acc' c',(∀b o,b≠S->b≠it->s.heap.get? b=some o->h'.get? b=some o)->h'.get? S=some { cls:=.type "list",dict:=none,data:=.seq acc' c',slots:=#[] } ->
     ItemsOf (fun i v=>items[items.size - 1 - i]?=some v) acc' items.size->R (.ok (.ret .none)) { s with heap:=h',toks:=tk }) :
   wpAny (model prog w) A.in1 (Builtin.«list.__init__» ⟨[.ref S,.ref it],[]⟩)
     (fun fin s'=>match fin with | .done f=>R (.ok f) s' | .again c'=>c'.quiet=true/\codeAny (model prog w) A c' R s') (fun e s'=>R (.error e) s') s:=by
 show wpAny _ _ (do let old ←Builtin.List.listItems (.ref S);Builtin.List.listUpdate (.ref S) (fun _=>#[]);letGo old.toList.reverse;Builtin.List.listExtendWith (.ref S) (.ref it) .none) _ _ s
 refine Qr ?_
 unfold Builtin.List.listItems
 refine Qr (Yf hS rfl (Qc ?_))
 show wpAny _ _ (updateSeq S (fun _=>#[]) >>= fun _=>letGo (#[]:Array Value).toList.reverse >>= fun _=>Builtin.List.listExtendWith (.ref S) (.ref it) .none) _ _ s
 refine Qr (Yi hS rfl ?_)
 have hS₂:=Ud (Obj.mapSeq (fun _=>(#[]:Array Value))) hS rfl
 have oth:∀b o,b≠S->s.heap.get? b=some o->(s.heap.update S (Obj.mapSeq (fun _=>(#[]:Array Value)))).get? b=some o :=
   fun b o hb e=>(Ed _ _ (Ne.symm hb)).trans e
 refine Qr (Yl ?_)
 refine zXy hh (hit.at fun o e=>oth _ _ (Ne.symm hSi) e) (hl.at fun o e=>oth _ _ (Ne.symm hSl) e) hli hSi hSl hlen hS₂ fun h' tk acc' c' hk hS' hacc=>?_
 exact hR h' tk acc' c' (fun b o hb hb' e=>hk b o hb hb' (oth b o hb e)) hS' hacc
theorem cI {Q:Value->Shared->Prop}{it l:Addr}{items:Array Value}(hh:A.handled=none)(hit:s.heap.IsRevIter it l ((items.size:Int) - 1))(hl:s.heap.IsList l items)(hli:l≠it)(hlen:items.size<=sizeLine)
   (hQ:∀h' tk acc' c',(∀b o,b≠it->s.heap.get? b=some o->h'.get? b=some o) ->
     h'.get? s.heap.objs.size=some { cls:=.type "list",dict:=none,data:=.seq acc' c',slots:=#[] }->ItemsOf (fun i v=>items[items.size - 1 - i]?=some v) acc' items.size->Q (.ref s.heap.objs.size) { s with heap:=h',toks:=tk }) :
   wpAny (model prog w) A (call (.type "list") [.ref it]) Q E s:=by
 refine callType_codes (Q₁:=fun obj s₁=>obj = .ref s.heap.objs.size/\s₁={ s with heap:=s.heap.push { cls:=.type "list",data:=.seq #[] } }) F.called_list (F.typeCall_list_1 _) F.entry_list_init
   (code_list_new _ ⟨rfl,rfl⟩) fun obj s₁ h₁=>?_
 obtain⟨rfl,rfl⟩:=h₁
 have hS:(s.heap.push { cls:=.type "list",data:=.seq #[] }).get? s.heap.objs.size=some { cls:=.type "list",data:=.seq #[] }:=Wr _ rfl
 have n1:s.heap.objs.size≠it:=fun z=>by obtain⟨o,e,_⟩:=hit;exact absurd (Qp e) (by rw[z];exact Wj _)
 have n2:s.heap.objs.size≠l:=fun z=>by obtain⟨o,e,_⟩:=hl;exact absurd (Qp e) (by rw[z];exact Wj _)
 refine⟨⟨_,hS,rfl⟩,F.args_list_init_2 _ _,cL (A:=A.in1) hh (hit.at fun o e=>Qi _ e) (hl.at fun o e=>Qi _ e) hli n1 n2 hlen hS fun h' tk acc' c' hk hS' hacc=>?_⟩
 exact⟨rfl,hQ h' tk acc' c' (fun b o hb e=>hk b o (Wf (Qp e)) hb (Qi _ e)) hS' hacc⟩
theorem zVL {its acc:List Value}(h:ItemsOf (fun i v=>its.toArray[its.toArray.size - 1 - i]?=some v) acc.toArray its.toArray.size):acc=its.reverse:=by
 obtain⟨h1,h2⟩:=h
 simp only[Qu] at h1 h2
 refine Oy (by rw[h1,List.length_reverse]) fun i hi hi'=>?_
 have q:=h2 i acc[i] (by simp[hi])
 rw[List.getElem_reverse]
 simp only[Rh] at q
 rw[Wi (by lia)] at q
 exact(Wb q).symm
theorem Reps.reverse {K:PySem.W.Frag}{G:Hp}:∀ {ds:List D} {vs:List V},Reps K G ds vs->Reps K G ds.reverse vs.reverse
 | [],_,h=>by rw[zN] at h;subst h;exact zN.mpr rfl
 | d::r,_,h=>by
   obtain⟨v,vr,rfl,h1,h2⟩:=zQ.mp h
   rw[Th,Th]
   exact h2.reverse.snoc h1
variable {X:Cx} {a b e:Expr} {es:List Expr} {ga:Lf} {pos p:Pos}
def zXu (g:Lf):Lf:=fun ρ=>(g ρ).map List.reverse
theorem zXI {p2 pos':Pos}(hc:X.calm=true)(hg:Gl X "list")(hm:X.mg "list"=none)(hg':Gl X "reversed")(hm':X.mg "reversed"=none)(h:dL X a ga)(hs:starEach [a] X.env=[(false,eval a X.env)]:=by rfl)
   (hs3:starEach [Expr.Call (.Name "reversed" p2) [a] [] pos'] X.env=[(false,eval (.Call (.Name "reversed" p2) [a] [] pos') X.env)]:=by rfl) :
   PFr X (.Call (.Name "list" p) [.Call (.Name "reversed" p2) [a] [] pos'] [] pos) (zXu ga):=by
 intro pins s σ H Q I q
 obtain⟨G0,H0,G,ρ,es,good,hf,kk⟩:=q
 unfold zXu at hf
 obtain⟨ds,h1,rfl⟩:=Qy.mp hf
 have hA:=yX h xL (by rw[hs];rfl) pos' pins s σ H (fun vs H'=>∃l us G',vs=[.ref l]/\Step G H G' H'/\SqL X.K G' l us/\Reps X.K G' ds us) I
   ⟨G0,H0,G,ρ,_,good,h1,fun l us H1 G1 s1 q1 q2=>⟨l,us,G1,rfl,s1,q1,q2⟩⟩
 refine Call_ (qW I hg hm (by rfl) (Ea (rest:=[]) ?_ (by rw[hs3];rfl) (by rfl)))
 rw[hs3]
 refine Calls.spliced_cons (Call_ (qW I hg' hm' (by rfl) (Ea (thn hA fun us s1 ⟨vs,H1,I1,r1,l,ws,G1,e1,st1,q1,q2⟩=>?_) (by rw[hs];rfl) (by rfl))))
 subst e1
 obtain⟨u,rfl,ru⟩:=gI r1
 cases ru
 obtain⟨its,rv,p1,hz⟩:=I1.list (st1.sub.seq q1)
 have hll:l < s1.heap.objs.size:=by obtain⟨o,e,_⟩:=p1.isList;exact Qp e
 refine call_reversed_list p1.isList ?_
 refine Calls.spliced_nil ?_
 have hrev:(s1.heap.push (revObj l ((its.toArray.size:Int) - 1))).IsRevIter s1.heap.objs.size l ((its.toArray.size:Int) - 1):=⟨_,Wr _ rfl,rfl,rfl⟩
 refine cI (I.ok.hd hc) hrev (p1.isList.at fun o e=>Qi _ e) (Wf hll) (by rw[Qu];exact rv.length ▸ hz) fun h' tk acc c' hk hS hacc=>?_
 have hsz:(s1.heap.push (revObj l ((its.toArray.size:Int) - 1))).objs.size=s1.heap.objs.size+1:=Tv ..
 have hacc':acc.toList=its.reverse:=zVL (acc:=acc.toList) (by simpa using hacc)
 have hT:s1.heap.objs.size<=(s1.heap.push (revObj l ((its.toArray.size:Int) - 1))).objs.size:=by rw[hsz];exact Rf _
 have fr:H1 (s1.heap.push (revObj l ((its.toArray.size:Int) - 1))).objs.size=none:=I1.hok.fresh hT
 have I3:=I1.laid (t':=tk) (h':=h') (a:=(s1.heap.push (revObj l ((its.toArray.size:Int) - 1))).objs.size) (o:=.lst ws.reverse) (fun b o e=>hk b o (Wf (Qp e)) (Qi _ e)) hT
   (show ObjOk X.prog X.w _ h' _ (.lst ws.reverse) from⟨by rw[List.length_reverse];exact hz,acc.toList,c',by rw[hacc'];exact rv.reverse,hS⟩)
 exact⟨.ref _,_,I3,rfl,kk _ ws.reverse _ G1 (st1.trans (Step.own st1.sub fr)) (st1.hh.free fr) zM (st1.sub.free fr) q2.reverse⟩
end
end L2
namespace Att
open PySem PySem.W PySem.Spec PyProof.Rows
end Att
namespace Att
open PySem PySem.W PySem.Calls PyProof.Rows
end Att
namespace L2
open PySem PySem.Spec PyProof.Rows
inductive All2 {α β:Type}(R:α->β->Prop):List α->List β->Prop
 | nil:All2 R [] []
 | cons {a b l m}:R a b->All2 R l m->All2 R (a::l) (b::m)
theorem Paired.upd {α β:Type}{F F':α->β->Prop}{b':β}:∀ {l:List α} {r:List β} (i:Nat),Paired F l r->(∀(j:Nat) (a:α) (b:β),j≠i->l[j]?=some a->r[j]?=some b->F a b->F' a b)->(∀a,l[i]?=some a->F' a b')->Paired F' l (r.set i b')
 | _,_,_,.nil,_,_=>.nil
 | _,_,0,.cons q t,h1,h2=>by
   rw[List.set_cons_zero]
   refine .cons (h2 _ rfl) ?_
   have tl:∀ {l:List α} {r:List β} (n:Nat),Paired F l r->(∀(j:Nat) (a:α) (b:β),l[j]?=some a->r[j]?=some b->F a b->F' a b)->Paired F' l r:=by
     intro l r n p
     induction p with
     | nil=>intro _;exact .nil
     | cons q t ih=>intro h;exact .cons (h 0 _ _ rfl rfl q) (ih fun j a b e1 e2=>h (j+1) a b (by simpa using e1) (by simpa using e2))
   exact tl 0 t fun j a b e1 e2=>h1 (j+1) a b (by lia) (by simpa using e1) (by simpa using e2)
 | _,_,i+1,.cons q t,h1,h2=>by
   rw[List.set_cons_succ]
   exact .cons (h1 0 _ _ (by lia) rfl rfl q) (Paired.upd i t (fun j a b hj e1 e2=>h1 (j+1) a b (by lia) (by simpa using e1) (by simpa using e2)) fun a e=>h2 a (by simpa using e))
section
variable {a:Expr}
theorem bA:∀ {vs:List V} {us:List Value} {v:V} {u:Value},Vals vs us->RelV v u->Vals (vs++[v]) (us++[u])
 | _,_,_,_,.nil,h=>.cons h .nil
 | _,_,_,_,.cons a t,h=>.cons a (bA t h)
end
section
variable {prog:Program} {w:World} {A:Around} {E:Value->Shared->Prop} {s:Shared}
theorem oI {id:String}{b:Builtin}{args:List Value}{kw:List (Str×Value)}{Q:Value->Shared->Prop}(hk:builtinKind id=none)(hp:plainId id=true)
   (hb:entryFor table id=some b) (ha:argsOk id ⟨args,kw⟩)
   (hc:wpAny (model prog w) A.in1 (b ⟨args,kw⟩) (fun fin s'=>match fin with
     | .done f=>(match (Except.ok f:Result) with | .ok (.ret v)=>Q v s' | .ok _=>False | .error e=>E e s')
     | .again c'=>c'.quiet=true/\codeAny (model prog w) A c' (fun r s'=>match r with | .ok (.ret v)=>Q v s' | .ok _=>False | .error e=>E e s') s') E s) :
   wpAny (model prog w) A (call (.builtin id) args kw) Q E s:=by
 refine wpAny_call (codeAny_call_builtin hp hb ?_)
 simp only[checkBuiltinCall,hk]
 cases hsig:Manifest.signature? id with
 | none=>exact Qc hc
 | some sig =>
   have h2:Bind.checkArgs id sig ⟨args,kw⟩=pure ():=by simpa only [argsOk,hsig] using ha
   show wpAny _ A.in1 (Bind.checkArgs id sig ⟨args,kw⟩) _ _ s
   rw[h2];exact Qc hc
end
end L2
namespace L2
open PySem PySem.W PyProof.Rows
section
variable {X:Cx} {pins:List (Addr×Obj)} {σ:St} {H:Hp} {s:Shared}
theorem Inv.adopt {D kS:Addr}{o:HO}{h':Heap}(I:Inv X pins σ H s)(k:∀b u,b≠D->b≠kS->s.heap.get? b=some u->h'.get? b=some u)(hD:H D=none)(hK:H kS=none)(hne:D≠kS)
   (h1:∀b,b=D∨b=kS->X.s₀.heap.objs.size<=b/\b≠X.env.locals/\(∀x c,X.env.cells.lookup x=some c->c≠b)/\∀p∈X.pn++pins,p.1≠b) (new:ObjOk X.prog X.w (upd H D o) h' D o) :
   Inv X pins σ (upd H D o) { s with heap:=h' }:=by
 have nD:∀b u,H b=some u->b≠D:=fun b u e z=>by rw[z,hD] at e;cases e
 have nK:∀b u,H b=some u->b≠kS:=fun b u e z=>by rw[z,hK] at e;cases e
 have hin:∀ {b:Addr},b∉[D,kS]->b≠D/\b≠kS:=fun hb=>⟨fun z=>hb (by simp[z]),fun z=>hb (by simp[z])⟩
 refine I.step (g':=s.gens) (d':=s.drawn) (t':=s.toks) (ch:=[D,kS]) (fun b hb=>?_) (fun b u _ _ hc e _=>k b u (hin hc).1 (hin hc).2 e) (fun b u _ _ hc e _=>⟨u.slots,k b u (hin hc).1 (hin hc).2 e⟩) (fun b u hc _ n=>by rw[zP (hin hc).1];exact n)
   (fun b u hc e=>⟨u,k b u (hin hc).1 (hin hc).2 e⟩) (fun b xs e=>by rw[zP (nD b _ e)];exact e) (fun b u xs e=>by rw[zP (nD b _ e)];exact e) (fun b ps e=>⟨#[],by rw[zP (nD b _ e),e];simp⟩) (fun m hm=>?_) (fun b u e=>?_) I.bare
 · have hb':b=D∨b=kS:=by simpa using hb
   obtain⟨a1,a2,a3,a4⟩:=h1 b hb'
   exact⟨.inr a1,a2,a3,a4⟩
 · obtain⟨u,es,ep,hu,r⟩:=hm
   exact⟨u,es,ep,k _ u (Ne.symm (h1 D (.inl rfl)).2.1) (Ne.symm (h1 kS (.inr rfl)).2.1) hu,r⟩
 · by_cases hb:b=D
   · subst hb
     rw[zM] at e
     cases e
     exact new
   · rw[zP hb] at e
     refine(I.hok b u e).stay (fun c v hc q=>?_) (fun c q=>by rw[zP (nD c _ q)];exact q) fun c xs q=>by rw[zP (nD c _ q)];exact q
     have hc':c≠D/\c≠kS:=by
       rcases hc with z | z
       · rw[z];exact⟨hb,nK b u e⟩
       · exact⟨nD c _ z,nK c _ z⟩
     exact k c v hc'.1 hc'.2 q
def Own (X:Cx)(pins:List (Addr×Obj))(b:Addr):Prop:=X.s₀.heap.objs.size<=b/\b≠X.env.locals/\(∀x c,X.env.cells.lookup x=some c->c≠b)/\(∀p∈X.pn++pins,p.1≠b)/\b∉X.fs
theorem zWZ {H:Hp}{s:Shared}(I:Inv X pins σ H s){b:Addr}(hb:s.heap.objs.size<=b):Own X pins b:=by
 refine⟨Wa I.sz hb,fun z=>?_,fun x c e z=>?_,fun p hp z=>?_,I.nofs hb⟩
 · have:=I.lt
   rw[←z] at this
   exact absurd this (Ix.mpr hb)
 · obtain⟨v,o,ho,_⟩:=I.cell x c e
   have:=Qp ho
   rw[z] at this
   exact absurd this (Ix.mpr hb)
 · have:=Qp (I.pin p hp).1
   rw[z] at this
   exact absurd this (Ix.mpr hb)
abbrev tL (us:List Value)(c:Nat):Obj:=seqObj "list" us.toArray c
theorem dC (us:List Value)(c:Nat):∀v,(tL us c).data ≠ .cell v:=fun _ h=>nomatch h
theorem zU5 {D kS fa:Addr}{e1:Nat}{us:List Value}(J:Nat->List Value->Hp->Prop)(hD:Own X pins D)(hK:Own X pins kS)(hne:D≠kS)(hlen:us.length<=1000)
   (hstep:∀i x ws H' s' pins',us[i]?=some x->J i ws H'->Inv X pins' σ H' s'->wpAny (model X.prog X.w) X.A.in1.in1 (call (.ref fa) [x]) (fun u s''=>∃H'',Inv X pins' σ H'' s''/\J (i+1) (ws++[u]) H'') (fun _ _=>False) s')
   {s:Shared} {H:Hp} (hJ:J 0 [] H) (I:Inv X ((D,tL [] e1)::(kS,tL [] 0)::pins) σ H s) {P:PySem.Fin->Shared->Prop} {E:Value->Shared->Prop}
   (hfin:∀ws c H' s',J us.length ws H'->ws.length=us.length->Inv X ((D,tL [] e1)::(kS,tL ws c)::pins) σ H' s'->wpAny (model X.prog X.w) X.A.in1.in1 (ksk_end D false us.toArray e1 (.ref kS) ws.toArray) P E s') :
   wpAny (model X.prog X.w) X.A.in1.in1 (ksk_rest D (.ref fa) false us.toArray e1 (.ref kS)) P E s:=by
 unfold ksk_rest
 refine Qr (Te ?_)
 first
   | rw[List.forIn_toArray]
   | (rw[←Array.forIn_toList];simp only[List.toList_toArray])
   | rw[←Array.forIn_toList]
 refine Qr (ksk_fold (fun i s'=>∃ws c H',J i ws H'/\ws.length=i/\Inv X ((D,tL [] e1)::(kS,tL ws c)::pins) σ H' s') us 0 s ⟨[],0,H,hJ,rfl,I⟩ (fun j x s' hx hd=>?_) fun s' hd=>?_)
 · obtain⟨ws,c,H',j1,j2,I'⟩:=hd
   rw[Ys] at j1 j2 ⊢
   have hj:j < us.length:=(Qn.mp hx).1
   refine Qr (wpAny_attempt (Yt (hstep j x ws H' s' _ hx j1 I') (fun u s'' hu=>?_) fun _ _ z=>z.elim))
   obtain⟨H'',I'',j3⟩:=hu
   have pk:=I''.pin (kS,tL ws c) (by simp)
   have pd:=I''.pin (D,tL [] e1) (by simp)
   have ea:(List.toArray ws).push u=List.toArray (ws++[u]):=by simp
   obtain⟨c2,hc2⟩:∃c2,(s''.heap.update kS (Obj.mapSeq (·.push u))).get? kS=some (tL (ws++[u]) c2):=⟨_,by show _=some (seqObj "list" (List.toArray (ws++[u])) _);rw[←ea];exact Ug pk.1 (·.push u)⟩
   try dsimp only
   refine Qr (Rc pk.1 rfl ?_ (by rw[Qu,Wn];lia) (Wa (Ur (Array.size_push ..)) (by rw[Qu,Wn];lia)))
   refine Qc ⟨rfl,ws++[u],c2,H'',j3,by rw[Qe,j2];rfl,?_⟩
   have Id:Inv X ((D,tL [] e1)::pins) σ H'' s'':=I''.pins_of fun p hp=>by
     rcases Qf.mp hp with rfl | hp
     · exact pd
     · exact I''.pin p (by simp[hp])
   have keep:∀b o,b≠kS->s''.heap.get? b=some o->(s''.heap.update kS (Obj.mapSeq (·.push u))).get? b=some o:=fun b o hb e=>by rw[El _ _ _ _ hb];exact e
   have It:=Id.turned (t':=s''.toks) (it:=kS) (h':=s''.heap.update kS (Obj.mapSeq (·.push u))) keep pk.2.1 hK.2.1 (.inr hK.1) hK.2.2.1 (fun p hp=>by
     rcases Qx.mp hp with z | z
     · exact hK.2.2.2.1 p (Tn _ z)
     · rcases Qf.mp z with rfl | z
       · exact hne
       · exact hK.2.2.2.1 p (Wd _ z))
   refine It.pins_of fun p hp=>?_
   rcases Qf.mp hp with rfl | hp
   · exact It.pin _ (by simp)
   · rcases Qf.mp hp with rfl | hp
     · exact⟨hc2,pk.2.1,hK.2.1,hK.2.2.2.2,dC _ _⟩
     · exact It.pin p (by simp[hp])
 · obtain⟨ws,c,H',j1,j2,I'⟩:=hd
   rw[Ys] at j1 j2
   have pk:=I'.pin (kS,tL ws c) (by simp)
   try dsimp only
   exact Qr (Im pk.1 rfl (hfin ws c H' s' j1 j2 I'))
variable {D kS:Addr} {e1:Nat} {ws:List Value} {c:Nat} {P:PySem.Fin->Shared->Prop} {E:Value->Shared->Prop}
theorem zY7 {st:SortSt}{out:List Value}(hne:D≠kS)(hout:(arrOf st).map (·.2)=List.toArray out)(hf:failedOf st=none)(hz:out.length<=1000)(hw:ws.length<=1000)(I:Inv X ((D,tL [] e1)::(kS,tL ws c)::pins) σ H s)
   (h:∀h' c3,(∀b o,b≠D->b≠kS->s.heap.get? b=some o->h'.get? b=some o)->h'.get? D=some (tL out c3)->P (.done (.ret .none)) { s with heap:=h' }) :
   wpAny (model X.prog X.w) X.A.in1.in1 (ksk_tail D false e1 (.ref kS) st) P E s:=by
 have pk:=I.pin (kS,tL ws c) (by simp)
 have pd:=I.pin (D,tL [] e1) (by simp)
 have pd':(s.heap.update kS (Obj.mapSeq fun _=>(#[]:Array Value))).get? D=some (seqObj "list" #[] e1):=by rw[El _ _ _ _ hne];exact pd.1
 obtain⟨c3,hc3⟩:∃c3,((s.heap.update kS (Obj.mapSeq fun _=>(#[]:Array Value))).update D (Obj.mapSeq fun _=>List.toArray out)).get? D=some (tL out c3):=⟨_,Ug pd' fun _=>List.toArray out⟩
 unfold ksk_tail
 try dsimp only
 rw[hout]
 refine Qr (Rc pk.1 rfl (Qr (Yl (Qr (Yz pd' rfl ?_)))) (by rw[Qu,Wn];lia) (Wm _))
 refine Qr (Rc pd' rfl ?_ (Wm _) (by show(List.toArray out).size<=_;rw[Qu,Wn];lia))
 rw[hf]
 simp only[Ic,Wz,Rk]
 refine Qc (h _ c3 (fun b o h1 h2 e=>?_) hc3)
 rw[El _ _ _ _ h1,El _ _ _ _ h2]
 exact e
theorem zSM {us:List Value}{lt:Nat->Nat->Bool}(W:SWO lt)(hne:D≠kS)(hl:ws.length=us.length)(h64:us.length<=1000)(I:Inv X ((D,tL [] e1)::(kS,tL ws c)::pins) σ H s)
   (hq:2<=us.length->∃κ,(∀(E':Value->Shared->Prop) Q,Q κ s->wpAny (model X.prog X.w) X.A.in1.in1 (keyKind' ws.toArray) Q E' s)/\∀i j C,i < us.length->j < us.length->C (lt i j) s->kas_ask X.prog X.w X.A.in1.in1 κ ws i j C s)
   (h:∀h' c3,(∀b o,b≠D->b≠kS->s.heap.get? b=some o->h'.get? b=some o)->h'.get? D=some (tL ((wZ lt us.length).map fun i=>us.getD i Value.none) c3)->P (.done (.ret .none)) { s with heap:=h' }) :
   wpAny (model X.prog X.w) X.A.in1.in1 (ksk_end D false us.toArray e1 (.ref kS) ws.toArray) P E s:=by
 unfold ksk_end
 try dsimp only
 simp only[Wz,Rk]
 by_cases h2:us.toArray.size < 2
 · have h2':us.length < 2:=by simpa using h2
   rw[Qo h2,Qo h2]
   refine Qr (Qc ?_)
   rw[StateT.run_pure]
   refine Qr (Qc ?_)
   have e:(wZ lt us.length).map (fun i=>us.getD i Value.none)=us:=by
     rw[dU lt h2',uS]
   rw[e] at h
   refine zY7 (out:=us) hne ?_ rfl h64 (by lia) I h
   apply Ev.mp
   show((ws.toArray.zip us.toArray).map (·.2)).toList=us
   rw[Oo,ksk_zip]
   have:∀(a b:List Value),a.length=b.length->(List.zip a b).map (fun x=>x.2)=b:=by
     intro a b hab
     exact List.map_snd_zip (by lia)
   exact this ws us hl
 · have h2':2<=us.length:=(by have:¬us.length < 2:=(by simpa using h2);lia)
   rw[Qs h2,Qs h2]
   obtain⟨κ,hk,hc⟩:=hq h2'
   refine Qr (hk _ _ ?_)
   refine Qr (zYq W hl (by lia) hc fun st' har hf=>?_)
   have hlen:(wZ lt us.length).length=us.length:=by
     rw[(vA lt _).length_eq,Ri]
   exact zY7 hne har hf (by rw[Qt,hlen];exact h64) (by lia) I h
theorem zZ7 {q fa:Addr}{us:List Value}{lt:Nat->Nat->Bool}{Q:Value->Shared->Prop}(W:SWO lt)(J:Nat->List Value->Hp->Prop)(hl:s.heap.IsList q us.toArray)(h64:us.length<=1000)(I:Inv X pins σ H s)(hJ:J 0 [] H)
   (hstep:∀i x ws H' s' pins',us[i]?=some x->J i ws H'->Inv X pins' σ H' s'->wpAny (model X.prog X.w) X.A.in1.in1 (call (.ref fa) [x]) (fun u s''=>∃H'',Inv X pins' σ H'' s''/\J (i+1) (ws++[u]) H'') (fun _ _=>False) s')
   (hq:∀ws H' s' pins',J us.length ws H'->ws.length=us.length->Inv X pins' σ H' s'->2<=us.length->∃κ,(∀(E':Value->Shared->Prop) Q,Q κ s'->wpAny (model X.prog X.w) X.A.in1.in1 (keyKind' ws.toArray) Q E' s')/\∀i j C,i < us.length->j < us.length->C (lt i j) s'->kas_ask X.prog X.w X.A.in1.in1 κ ws i j C s')
   (hend:∀ws H' D s',J us.length ws H'->H' D=none->(∀o,(∀h':Heap,(∃c3,h'.get? D=some (tL ((wZ lt us.length).map fun i=>us.getD i Value.none) c3))->ObjOk X.prog X.w (upd H' D o) h' D o)->Inv X pins σ (upd H' D o) s')->Q (.ref D) s') :
   wpAny (model X.prog X.w) X.A (call (.builtin "sorted") [.ref q] [(Str.ofString "key",.ref fa)]) Q E s:=by
 have hsz:((s.heap.push (seqObj "list" #[] 0)).update s.heap.objs.size (Obj.mapSeq (· ++ us.toArray))).objs.size=s.heap.objs.size+1:=by rw[Op,size_push']
 have qD:(((s.heap.push (seqObj "list" #[] 0)).update s.heap.objs.size (Obj.mapSeq (· ++ us.toArray))).push (seqObj "list" us.toArray 0)).get? (s.heap.objs.size+1)=some (seqObj "list" us.toArray 0):=by
   rw[←hsz];exact Wr _ rfl
 have old:∀b o,s.heap.get? b=some o->(((s.heap.push (seqObj "list" #[] 0)).update s.heap.objs.size (Obj.mapSeq (· ++ us.toArray))).push (seqObj "list" us.toArray 0)).get? b=some o:=fun b o e=>by
   have hlt:b < s.heap.objs.size:=Qp e
   exact Qi _ (by rw[El _ _ _ _ (Wf hlt)];exact Qi _ e)
 generalize hh1:(((s.heap.push (seqObj "list" #[] 0)).update s.heap.objs.size (Obj.mapSeq (· ++ us.toArray))).push (seqObj "list" us.toArray 0))=h1 at qD old
 have hD0:s.heap.objs.size<=s.heap.objs.size+1:=Rf _
 generalize hDd:s.heap.objs.size+1=D at qD hD0
 refine oI kind_sorted plain_sorted entry_sorted (ksk_s1 _ _) ?_
 unfold Builtin.«sorted»
 refine Qr (m:=checkCount "sorted" 1 1 _) (Qc (Qr (collect_list hl ?_ (by rw[Wn];lia))))
 refine Qr (Yx ?_ (by rw[Wn];lia))
 show wpAny _ _ _ _ _ { s with heap:=((s.heap.push (seqObj "list" #[] 0)).update s.heap.objs.size (Obj.mapSeq (· ++ us.toArray))).push (seqObj "list" us.toArray 0) }
 rw[hsz,hh1,hDd]
 -- the list is sorted
 obtain⟨e1,q1⟩:∃e1,(h1.update D (Obj.mapSeq fun _=>(#[]:Array Value))).get? D=some (seqObj "list" #[] e1):=⟨_,Ug qD (fun _=>#[])⟩
 have hDlt:D < h1.objs.size:=Qp qD
 have old2:∀b o,s.heap.get? b=some o->(h1.update D (Obj.mapSeq fun _=>(#[]:Array Value))).get? b=some o:=fun b o e=>by
   rw[El _ _ _ _ (Wf (Wt (Qp e) hD0))];exact old b o e
 have hkS:((h1.update D (Obj.mapSeq fun _=>(#[]:Array Value))).push (seqObj "tuple" us.toArray 0)).objs.size=h1.objs.size+1:=by rw[size_push',Op]
 refine Qr (Rx (wpAny_call_entry_kw slot_list_sort ⟨_,qD,rfl⟩ entry_list_sort ?body (ksk_l1 _ _)))
 rw[ksk_t1]
 unfold ksk_tree
 refine Qr (Im (n:=0) qD rfl (Qr (Rc (n:=0) qD rfl ?_ (by rw[Qu,Wn];lia) (Wm _))))
 refine Qr (Yz q1 rfl (Qr (Pr ?_ (by show us.length<=_;rw[Wn];lia))))
 refine Qr (Yx (Rx ?_) (Wm _))
 show wpAny (model X.prog X.w) X.A.in1.in1 (ksk_rest D (.ref fa) false us.toArray e1 (.ref ((h1.update D (Obj.mapSeq fun _=>(#[]:Array Value))).push (seqObj "tuple" us.toArray 0)).objs.size)) _ _ { s with heap:=((h1.update D (Obj.mapSeq fun _=>(#[]:Array Value))).push (seqObj "tuple" us.toArray 0)).push (seqObj "list" #[] 0) }
 have qk:(((h1.update D (Obj.mapSeq fun _=>(#[]:Array Value))).push (seqObj "tuple" us.toArray 0)).push (seqObj "list" #[] 0)).get? ((h1.update D (Obj.mapSeq fun _=>(#[]:Array Value))).push (seqObj "tuple" us.toArray 0)).objs.size=some (tL [] 0):=Wr _ rfl
 have hks1:s.heap.objs.size<=((h1.update D (Obj.mapSeq fun _=>(#[]:Array Value))).push (seqObj "tuple" us.toArray 0)).objs.size:=by rw[hkS];exact Wa hD0 (Wa (Wc hDlt) (Rf _))
 have hne:D≠((h1.update D (Obj.mapSeq fun _=>(#[]:Array Value))).push (seqObj "tuple" us.toArray 0)).objs.size:=by rw[hkS];exact Wf (Tl hDlt)
 have I1:Inv X pins σ H { s with heap:=((h1.update D (Obj.mapSeq fun _=>(#[]:Array Value))).push (seqObj "tuple" us.toArray 0)).push (seqObj "list" #[] 0),toks:=s.toks }:=I.kept fun b o e=>Qi _ (Qi _ (old2 b o e))
 generalize((h1.update D (Obj.mapSeq fun _=>(#[]:Array Value))).push (seqObj "tuple" us.toArray 0)).objs.size=kS at qk hks1 hne
 have oD:=zWZ I hD0
 have oK:=zWZ I hks1
 have qd:(((h1.update D (Obj.mapSeq fun _=>(#[]:Array Value))).push (seqObj "tuple" us.toArray 0)).push (seqObj "list" #[] 0)).get? D=some (tL [] e1):=Qi _ (Qi _ q1)
 refine zU5 (X:=X) (pins:=pins) (σ:=σ) J oD oK hne h64 hstep hJ (I1.pins_of fun p hp=>?_) fun ws c H' s' j1 j2 I'=>?_
 · rcases Qf.mp hp with rfl | hp
   · exact⟨qd,I.hok.fresh hD0,oD.2.1,oD.2.2.2.2,dC _ _⟩
   · rcases Qf.mp hp with rfl | hp
     · exact⟨qk,I.hok.fresh hks1,oK.2.1,oK.2.2.2.2,dC _ _⟩
     · exact I1.pin p (Wd _ hp)
 · refine zSM (lt:=lt) W hne j2 h64 I' (fun h2=>hq ws H' s' _ j1 j2 I' h2) fun h' c3 kk hd=>⟨_,rfl,?_⟩
   refine Qc ?_
   have pd:=I'.pin (D,tL [] e1) (by simp)
   have pk:=I'.pin (kS,tL ws c) (by simp)
   have Ip:Inv X pins σ H' s':=I'.pins_of fun p hp=>I'.pin p (by simp[hp])
   refine hend ws H' D _ j1 pd.2.1 fun o ho=>?_
   exact Ip.adopt kk pd.2.1 pk.2.1 hne (fun b hb=>by
     rcases hb with rfl | rfl
     · exact⟨oD.1,oD.2.1,oD.2.2.1,oD.2.2.2.1⟩
     · exact⟨oK.1,oK.2.1,oK.2.2.1,oK.2.2.2.1⟩) (ho h' ⟨c3,hd⟩)
end
end L2
namespace L2
open PySem PySem.W PySem.Spec PyProof.Rows
section
variable {P:Program} {w:World} {A:Around} {E:Value->Shared->Prop} {s:Shared}
theorem zT6 {a:Addr}{vs:List Value}{n:Nat}{P':PySem.Fin->Shared->Prop}{lt:Nat->Nat->Bool}(W:SWO lt)(ho:s.heap.get? a=some (seqObj "list" vs.toArray n))(h64:vs.length<=1000)
   (hq:2<=vs.length->∀h':Heap,(∀b o,b≠a->s.heap.get? b=some o->h'.get? b=some o)->∃κ,(∀(E':Value->Shared->Prop) Q,Q κ { s with heap:=h' }->wpAny (model P w) A (keyKind' vs.toArray) Q E' { s with heap:=h' }) /\
     ∀i j C,i < vs.length->j < vs.length->C (lt i j) { s with heap:=h' }->kas_ask P w A κ vs i j C { s with heap:=h' })
   (h:P' (.done (.ret .none)) { s with heap:=sortedHeap s.heap a vs (List.toArray ((wZ lt vs.length).map fun i=>vs.getD i Value.none)) }) :
   wpAny (model P w) A (Builtin.«list.sort» ⟨[.ref a],[]⟩) P' E s:=by
 have hlt:a < s.heap.objs.size:=Qp ho
 obtain⟨e1,q1⟩:∃e1,(s.heap.update a (Obj.mapSeq fun _=>#[])).get? a=some (seqObj "list" #[] e1):=⟨_,Ug ho (fun _=>#[])⟩
 have q6:(((s.heap.update a (Obj.mapSeq fun _=>#[])).push (seqObj "tuple" vs.toArray 0)).push (seqObj "list" #[] 0)).get? a=some (seqObj "list" #[] e1):=Qi _ (Qi _ q1)
 by_cases h2:2<=vs.length
 · obtain⟨κ,hk,hc⟩:=hq h2 (((s.heap.update a (Obj.mapSeq fun _=>#[])).push (seqObj "tuple" vs.toArray 0)).push (seqObj "list" #[] 0)) (fun b o hb e=>Qi _ (Qi _ (by rw[El _ _ _ _ hb];exact e)))
   have hz:¬vs.toArray.size < 2:=by rw[Qu];lia
   have hlen:(wZ lt vs.length).length=vs.length:=by
     rw[(vA lt _).length_eq,Ri]
   rw[list_sort_plain]
   refine Qr (Im (n:=n) ho rfl (Qr (Rc (n:=n) ho rfl ?_ (by rw[Qu,Wn];lia) (Wm _))))
   refine Qr (Yz q1 rfl (Qr (Pr ?_ (by show vs.length<=_;rw[Wn];lia))))
   refine Qr (Yx (Rx ?_) (Wm _))
   show wpAny (model P w) A _ P' E { s with heap:=((s.heap.update a (Obj.mapSeq fun _=>#[])).push (seqObj "tuple" vs.toArray 0)).push (seqObj "list" #[] 0) }
   dsimp only
   rw[Qs hz,Qs hz]
   refine Qr (hk _ _ ?_)
   refine Qr (zYq W rfl (by lia) hc fun st' har hf=>?_)
   dsimp only
   rw[har]
   refine Qr (Yz q6 rfl (Qr (Rc q6 rfl ?_ (Wm _) (by rw[Qu,Qt,hlen,Wn];lia))))
   rw[hf]
   simp only[Ic,Wz,Rk]
   exact Qc h
 · have e:(wZ lt vs.length).map (fun i=>vs.getD i Value.none)=vs:=by rw[dU lt (by lia),uS]
   rw[e] at h
   have hz:vs.toArray.size < 2:=by rw[Qu];lia
   rw[list_sort_plain]
   refine Qr (Im (n:=n) ho rfl (Qr (Rc (n:=n) ho rfl ?_ (by rw[Qu,Wn];lia) (Wm _))))
   refine Qr (Yz q1 rfl (Qr (Pr ?_ (by show vs.length<=_;rw[Wn];lia))))
   refine Qr (Yx (Rx ?_) (Wm _))
   show wpAny (model P w) A _ P' E { s with heap:=((s.heap.update a (Obj.mapSeq fun _=>#[])).push (seqObj "tuple" vs.toArray 0)).push (seqObj "list" #[] 0) }
   dsimp only
   rw[Qo hz,Qo hz]
   refine Qr (Qc ?_)
   rw[StateT.run_pure]
   refine Qr (Qc ?_)
   have har:(arrOf (SortSt.mk' general' (vs.toArray.zip vs.toArray) #[] 7 none)).map (·.2)=vs.toArray:=by
     apply Ev.mp
     show((vs.toArray.zip vs.toArray).map (·.2)).toList=vs
     rw[Oo,ksk_zip]
     exact List.map_snd_zip (by simp)
   dsimp only
   rw[har]
   refine Qr (Yz q6 rfl (Qr (Rc q6 rfl ?_ (Wm _) (by rw[Qu,Wn];lia))))
   simp only[Ic,Wz,Rk]
   exact Qc h
end
end L2
namespace L2
open PySem PySem.Spec PyProof.Rows
def zQT (K:PySem.W.Frag)(a b:Addr):It :=
 ⟨fun i H=>∃xs ys x y,SqL K H a xs/\SqL K H b ys/\xs[i]?=some x/\ys[i]?=some y,fun i H x H'=>∃p v u,H p=none/\x = .ref p/\H'=upd H p (.tup [v,u])/\(∀xs,SqL K H a xs->xs[i]?=some v)/\∀ys,SqL K H b ys->ys[i]?=some u,
   fun i H=>∃xs ys,SqL K H a xs/\SqL K H b ys/\(xs.length<=i∨ys.length<=i)⟩
theorem zWh {P:Program}{w:World}{K:PySem.W.Frag}{elts:List Expr}{k:Nat}{pos:Pos}(a b n:Addr):Turn P w K (.Tuple elts k pos) (zQT K a b) [n+4,n+2,n+3,n,n+1] (n+4)
   (fun i h=>IsZip h (n+4) (n+2) (n+3) .none/\IsPair h (n+2) (.ref n) (.ref (n+1))/\(∃p q,IsPair h (n+3) p q)/\h.IsListIter n a i/\h.IsListIter (n+1) b i) where
 mem:=by simp
 obj:=fun i h st c hc=>by
   obtain⟨h1,h2,⟨p,q,h3⟩,⟨o1,e1,_,d1⟩,⟨o2,e2,_,d2⟩⟩:=st
   simp only[Qf,Rw,Uz] at hc
   rcases hc with z | z | z | z | z
   · subst z;exact⟨_,h1,fun v q=>nomatch q⟩
   · subst z;exact⟨_,h2,fun v q=>nomatch q⟩
   · subst z;exact⟨_,h3,fun v q=>nomatch q⟩
   · subst z;exact⟨o1,e1,fun v q=>by rw[d1] at q;cases q⟩
   · subst z;exact⟨o2,e2,fun v q=>by rw[d2] at q;cases q⟩
 keep:=fun i h h' st kk=>by
   obtain⟨h1,h2,⟨p,q,h3⟩,⟨o1,e1,r1⟩,⟨o2,e2,r2⟩⟩:=st
   exact⟨kk _ (by simp) _ h1,kk _ (by simp) _ h2,⟨p,q,kk _ (by simp) _ h3⟩,⟨o1,kk _ (by simp) _ e1,r1⟩,⟨o2,kk _ (by simp) _ e2,r2⟩⟩
 item:=by
   intro X hP hw hK hc i pins s σ H E I hf st hg
   subst hP hw hK
   obtain⟨xs,ys,x,y,hq,hq',hx,hy⟩:=hg
   obtain⟨its,rv,p1,hz⟩:=I.list hq
   obtain⟨jts,rv',p2,hz'⟩:=I.list hq'
   obtain⟨u,hu,ru⟩:=rv.get hx
   obtain⟨u',hu',ru'⟩:=rv'.get hy
   obtain⟨h1,h2,⟨p,q,h3⟩,h4,h5⟩:=st
   have apart:∀c∈[n+4,n+2,n+3,n,n+1],∀v:List V,∀d:Addr,SqL X.K H d v->d≠c:=fun c hc v d hd z=>by
     have e:=(hf c hc).1
     obtain⟨its,_,⟨o,e1,e2,_⟩,_⟩:=I.list hd
     rcases hd with(hd | ⟨ob,hd⟩) | hd
     · rw[z,e] at hd;cases hd
     · rw[z,e] at hd;cases hd
     · obtain⟨ob,_,_,hk,_⟩:=hd
       have e3:=I.ok.mod.kin d ob hk
       obtain⟨_,q1,_,q3,_⟩:=hf c hc
       rcases q3 with q3 | q3
       · exact I.ok.noex d ob e3 (z ▸ q3)
       · exact absurd (Wt (Qp (I.ok.bs d ob e3).1) (z ▸ q3)) (Wj _)
   have D:ZipApart (n+4) (n+2) (n+3) n (n+1) a b:=⟨zne 2 4 (by decide),zne 3 4 (by decide),zne 0 4 (by decide),zne 1 4 (by decide),zne 2 3 (by decide),zne 2 0 (by decide),zne 2 1 (by decide),zne 3 0 (by decide),zne 3 1 (by decide),zne 0 1 (by decide),apart _ (by simp) xs a hq,apart _ (by simp) xs a hq,apart _ (by simp) xs a hq,apart _ (by simp) xs a hq,apart _ (by simp) ys b hq',apart _ (by simp) ys b hq',apart _ (by simp) ys b hq',apart _ (by simp) ys b hq'⟩
   refine wpAny_pyNext_zip_item D h1 h2 h3 h4 h5 p1.isList p2.isList (x:=u) (y:=u') (by simpa using hu) (by simpa using hu') fun g g1 g2 g3 g4 g5 _ hk=>?_
   have hk':∀c o,c∉[n+4,n+2,n+3,n,n+1]->s.heap.get? c=some o->g.get? c=some o:=fun c o hc e=>hk c o (fun z=>hc (by simp[z])) (fun z=>hc (by simp[z])) (fun z=>hc (by simp[z])) (fun z=>hc (by simp[z])) e
   have I1:Inv X pins σ (upd H s.heap.objs.size (.tup [x,y])) { s with heap:=g }:=I.turnedNew (t':=s.toks) hk' hf (Qd _) ⟨by show 2<=sizeLine;exact Wc (vP (by decide)),[u,u'],.cons ru (.cons ru' .nil),⟨_,g5,rfl,_,rfl⟩⟩
   refine⟨_,rfl,wpAny_letOwnedTupleGo_zip g1 fun g' z' t'=>?_⟩
   have t':Heap.SameBut (n+4) g g':=t'
   have neT:∀c∈[n+4,n+2,n+3,n,n+1],c≠s.heap.objs.size:=fun c hc z=>by
     have lt:c < s.heap.objs.size:=by
       obtain⟨o1,e1,_⟩:=h4
       obtain⟨o2,e2,_⟩:=h5
       simp only[Qf,Rw,Uz] at hc
       rcases hc with q | q | q | q | q
       · rw[q];exact Qp h1
       · rw[q];exact Qp h2
       · rw[q];exact Qp h3
       · rw[q];exact Qp e1
       · rw[q];exact Qp e2
     rw[z] at lt
     exact Wj _ lt
   have hf1:∀c∈[n+4,n+2,n+3,n,n+1],kQ X pins (upd H s.heap.objs.size (.tup [x,y])) c:=fun c hc=>⟨by rw[zP (neT c hc)];exact(hf c hc).1,(hf c hc).2⟩
   have I2:=I1.turnedL (h':=g') (t':=s.toks) (fp:=[n+4,n+2,n+3,n,n+1]) (fun c o hc e=>(t'.2 c (fun z=>hc (by simp[z]))).trans e) hf1
   have g2':IsPair g (n+2) (.ref n) (.ref (n+1)):=hk _ _ D.TIz D.TITO D.TIi1 D.TIi2 h2
   obtain⟨o3,e3,r3⟩:=g3
   obtain⟨o4,e4,r4⟩:=g4
   exact⟨.ref s.heap.objs.size,_,I2,rfl,⟨s.heap.objs.size,x,y,I.fresh,rfl,rfl,fun zs hs=>by rw[I.list_inj hs hq];exact hx,fun zs hs=>by rw[I.list_inj hs hq'];exact hy⟩,
     ⟨z',(t'.2 _ D.TIz).trans g2',⟨_,_,(t'.2 _ D.TOz).trans g2⟩,⟨o3,(t'.2 _ D.i1z).trans e3,r3⟩,⟨o4,(t'.2 _ D.i2z).trans e4,r4⟩⟩,fun c hc=>(hf1 c hc).1⟩
 done:=by
   intro X hP hw hK hc i pins s σ H E I hf st hg
   subst hP hw hK
   obtain⟨xs,ys,hq,hq',hx⟩:=hg
   obtain⟨its,rv,p1,hz⟩:=I.list hq
   obtain⟨jts,rv',p2,hz'⟩:=I.list hq'
   obtain⟨h1,h2,⟨p,q,h3⟩,h4,h5⟩:=st
   have apart:∀c∈[n+4,n+2,n+3,n,n+1],∀v:List V,∀d:Addr,SqL X.K H d v->d≠c:=fun c hc v d hd z=>by
     have e:=(hf c hc).1
     rcases hd with(hd | ⟨ob,hd⟩) | hd
     · rw[z,e] at hd;cases hd
     · rw[z,e] at hd;cases hd
     · obtain⟨ob,_,_,hk,_⟩:=hd
       have e3:=I.ok.mod.kin d ob hk
       obtain⟨_,q1,_,q3,_⟩:=hf c hc
       rcases q3 with q3 | q3
       · exact I.ok.noex d ob e3 (z ▸ q3)
       · exact absurd (Wt (Qp (I.ok.bs d ob e3).1) (z ▸ q3)) (Wj _)
   have D:ZipApart (n+4) (n+2) (n+3) n (n+1) a b:=⟨zne 2 4 (by decide),zne 3 4 (by decide),zne 0 4 (by decide),zne 1 4 (by decide),zne 2 3 (by decide),zne 2 0 (by decide),zne 2 1 (by decide),zne 3 0 (by decide),zne 3 1 (by decide),zne 0 1 (by decide),apart _ (by simp) xs a hq,apart _ (by simp) xs a hq,apart _ (by simp) xs a hq,apart _ (by simp) xs a hq,apart _ (by simp) ys b hq',apart _ (by simp) ys b hq',apart _ (by simp) ys b hq',apart _ (by simp) ys b hq'⟩
   have l1:=rv.length
   have l2:=rv'.length
   refine wpAny_pyNext_zip_end (I.ok.hd hc) D h1 h2 h3 h4 h5 p1.isList p2.isList ?_ fun g hk=>⟨rfl,I.turnedL (t':=s.toks) (fp:=[n+4,n+2,n+3,n,n+1]) (fun c o hc e=>hk c o (fun z=>hc (by simp[z])) (fun z=>hc (by simp[z])) (fun z=>hc (by simp[z])) (fun z=>hc (by simp[z])) e) hf⟩
   rcases hx with q | q
   · exact .inl (by simp;lia)
   · exact .inr (by simp;lia)
 self:=fun _ _ _ _ _ st h=>wpAny_pyIter_zip st.1 h
theorem zYn {K:PySem.W.Frag}{G:Hp}{a b:Addr}{vs us:List V}{ds es:List D}(h:SqL K G a vs)(r:Reps K G ds vs)(h':SqL K G b us)(r':Reps K G es us):dO K (zQT K a b) G (nX ds es):=by
 intro i G2 H2 s1 s2
 have q:SqL K H2 a vs:=(s1.trans s2).seq h
 have q':SqL K H2 b us:=(s1.trans s2).seq h'
 refine⟨fun d hd=>?_,fun hi=>⟨vs,us,q,q',?_⟩⟩
 · obtain⟨x,y,h1,h2,rfl⟩:=zYM hd
   obtain⟨v,e1,rv⟩:=r.get h1
   obtain⟨u,e2,ru⟩:=r'.get h2
   refine⟨⟨vs,us,v,u,q,q',e1,e2⟩,fun x' H3 yy=>?_⟩
   obtain⟨p,v',u',hp,rfl,rfl,y1,y2⟩:=yy
   have f1:=y1 vs q
   rw[e1] at f1;cases f1
   have f2:=y2 us q'
   rw[e2] at f2;cases f2
   have s3:=Step.laid (o:=.tup [v,u]) s2 hp
   exact⟨_,s3,xU.mpr ⟨p,_,rfl,.of zM,zQ.mpr ⟨_,_,rfl,(rv.mono s1).mono s3.gg,zQ.mpr ⟨_,_,rfl,(ru.mono s1).mono s3.gg,zN.mpr rfl⟩⟩⟩⟩
 · rw[nB] at hi
   rw[←r.length,←r'.length]
   lia
section
variable {X:Cx} {a b:Expr} {fa fb:Ef} {pos p:Pos}
def zW6 (f g:Ef):Lf:=fun ρ=>(f ρ).bind fun x=>(g ρ).bind fun y=>match x,y with | .lst xs,.lst ys=>some (nX xs ys) | _,_=>none
theorem zTA {elts:List Expr}{k:Nat}{pos':Pos}(hg:Gl X "zip")(hm:X.mg "zip"=none)(ha:PF X a fa)(hb:PF X b fb)(hs:starEach [a,b] X.env=[(false,eval a X.env),(false,eval b X.env)]:=by rfl)(hs2:starEach [b] X.env=[(false,eval b X.env)]:=by rfl) :
   PFI X (.Tuple elts k pos') (.Call (.Name "zip" p) [a,b] [] pos) (zW6 fa fb):=by
 intro pins s σ H R I q
 obtain⟨G0,H0,G,ρ,ds,good,hf,kk⟩:=q
 unfold zW6 at hf
 obtain⟨x,h1,hf⟩:=Qq.mp hf
 obtain⟨y,h2,hf⟩:=Qq.mp hf
 cases x with
 | lst xs =>
   cases y with
   | lst ys =>
     cases hf
     have hA:=yX ha (yX hb xL (by rw[hs2];rfl)) (by rw[hs,hs2]) pos pins s σ H (fun vs H'=>∃a b us ws G',vs=[.ref a,.ref b]/\Step G H G' H'/\SqL X.K G' a us/\Reps X.K G' xs us/\SqL X.K G' b ws/\Reps X.K G' ys ws) I
       ⟨G0,H0,G,ρ,_,good,h1,fun v H1 G1 s1 r1=>⟨G0,H0,G1,ρ,_,good.step s1,h2,fun u H2 G2 s2 r2=>by
         obtain⟨a,us,rfl,q1,q2⟩:=yM.mp (r1.mono s2.gg)
         obtain⟨b,ws,rfl,q3,q4⟩:=yM.mp r2
         exact⟨a,b,us,ws,G2,rfl,s1.trans s2,q1,q2,q3,q4⟩⟩⟩
     refine Call_ (qW I hg hm (by rfl) (Ea (thn hA fun us s1 ⟨vs,H1,I1,r1,l1,l2,ws,zs,G1,e1,st1,q1,q2,q3,q4⟩=>?_) (by rw[hs,hs2]) (by rw[hs2];rfl)))
     subst e1
     obtain⟨u,u',rfl,ru,ru'⟩:=zWX r1
     cases ru
     cases ru'
     obtain⟨its,rv,p1,_⟩:=I1.list (st1.sub.seq q1)
     obtain⟨jts,rv',p2,_⟩:=I1.list (st1.sub.seq q3)
     refine call_zip_2 p1.isList p2.isList fun h' z1 z2 z3 z4 z5 _ hk=>?_
     have I2:Inv X pins σ H1 { s1 with heap:=h' }:=I1.kept (t':=s1.toks) hk
     refine wpAny_pyIter_zip z1 ?_
     refine⟨_,[s1.heap.objs.size+4,s1.heap.objs.size+2,s1.heap.objs.size+3,s1.heap.objs.size,s1.heap.objs.size+1],_,_,H1,rfl,I2,zWh l1 l2 s1.heap.objs.size,⟨z1,z2,⟨_,_,z3⟩,z4,z5⟩,fun b hb=>?_,kk _ H1 G1 st1 (zYn q1 q2 q3 q4)⟩
     have hb':s1.heap.objs.size<=b:=by
       simp only[Qf,Rw,Uz] at hb
       rcases hb with z | z | z | z | z<;>(rw[z];first | exact Qd _ | exact Nat.le_add_right _ _)
     exact I1.fpOk hb' (I1.hok.fresh hb')
   | _=>cases hf
 | _=>cases hf
end
theorem Good.lend {K:PySem.W.Frag}{G0 H0 G H:Hp}{σ:St}{ρ:List B}(g:Good K G0 H0 G H σ ρ){i:Nat}{ds:List D}(e:ρ[i]?=some (.ow ds)):∃p vs,G p=none/\H p=some (.lst vs)/\Good K G0 H0 (upd G p (.lst vs)) H σ (zZt i ρ):=by
 have fe:zZt i ρ=ρ.set i (.fz (.lst ds)):=by unfold zZt;rw[e]
 rw[fe]
 · skip
   obtain⟨p,vs,h1,h2,h3,h4,h5⟩:=g.addr e
   have sG:Same G (upd G p (.lst vs)):=Same.new h3
   have st:Step G0 H0 (upd G p (.lst vs)) H:=by
     refine⟨g.st.hh,g.st.gg.trans sG,fun b o q=>?_,fun b o' hb hn=>?_⟩
     · by_cases z:b=p
       · subst z;rw[zM] at q;rw[h2];exact q
       · rw[zP z] at q;exact g.st.sub b o q
     · rw[zP (fun z:b=p=>by rw[z,h4] at hb;cases hb)];exact g.st.new b o' hb hn
   have vals:Paired (RB K H0 (upd G p (.lst vs)) H) σ (ρ.set i (.fz (.lst ds))):=by
     have key:∀(l:List (Option V)) (r:List B) (n:Nat),Paired (RB K H0 G H) l r->(∀j es,n+j≠i->r[j]?=some (.ow es)->l[j]?≠some (some (.ref p)))->(∀j,n+j=i->l[j]?=some (some (.ref p))) ->
         Paired (RB K H0 (upd G p (.lst vs)) H) l (if i < n then r else r.set (i - n) (.fz (.lst ds))):=by
       intro l r n q
       induction q generalizing n with
       | nil=>intro _ _;split<;>exact .nil
       | @cons o b l' r' q t ih =>
         intro hne hat
         have tl:=ih (n+1) (fun j es z e=>by have:=hne (j+1) es (by lia) (by simpa using e);simpa using this) (fun j z=>by have:=hat (j+1) (by lia);simpa using this)
         have keepq:(∀es,b = .ow es->o≠some (.ref p))->RB K H0 (upd G p (.lst vs)) H o b:=fun hb=>by
           cases q with
           | no=>exact .no
           | fz r=>exact .fz (r.mono sG)
           | @ow c vs' ds' c1 c2 c3 c4 =>
             have:c≠p:=fun z=>hb _ rfl (by rw[z])
             exact .ow c1 (by rw[zP this];exact c2) c3 (c4.mono sG)
           | @od c _ _ _ _ c1 c2 c3 c4 c5 c6 =>
             have:c≠p:=fun z=>by rw[z,h2] at c1;cases c1
             exact .od c1 (by rw[zP this];exact c2) c3 (c4.mono sG) c5 c6
           | @mu c _ _ c1 c2 c3 c4 =>
             have:c≠p:=fun z=>by rw[z,h2] at c1;cases c1;exact c4.nl
             exact .mu c1 (by rw[zP this];exact c2) c3 (c4.mono sG)
         by_cases h1:i < n
         · rw[Qo h1]
           rw[Qo (by lia)] at tl
           exact .cons (keepq fun es e z=>hne 0 es (by lia) (by simp[e]) (by simp[z])) tl
         · rw[Qs h1]
           by_cases h2:i=n
           · subst h2
             rw[Qo (by lia)] at tl
             have:=hat 0 (by lia)
             simp at this
             subst this
             rw[Iv]
             exact .cons (.fz (yM.mpr ⟨p,vs,rfl,.of zM,h5.mono sG⟩)) tl
           · rw[Qs (by lia)] at tl
             have e:i - n=(i - (n+1))+1:=by lia
             rw[e]
             exact .cons (keepq fun es e z=>hne 0 es (by lia) (by simp[e]) (by simp[z])) tl
     have v:=key σ ρ 0 g.vals (fun j es' z e' w=>by have:=g.apart j i p _ _ e' e rfl rfl w h1;lia) (fun j z=>by rw[show j=i by lia];exact h1)
     rw[Qs (Oh _),Ib] at v
     exact v
   refine⟨p,vs,h3,h2,st,vals,fun j k b d1 d2 e1 e2 o1 o2 e3 e4=>?_⟩
   obtain⟨_,f1⟩:=rJ rfl e1 o1
   obtain⟨_,f2⟩:=rJ rfl e2 o2
   exact g.apart j k b d1 d2 f1 f2 o1 o2 e3 e4
mutual
def zQg:D->Bool
 | .non=>true
 | .bl _=>true
 | .int _=>true
 | .str _=>true
 | .tup ds=>zS3 ds
 | _=>false
def zS3:List D->Bool
 | []=>true
 | d::r=>zQg d&&zS3 r
end
def iH (G:Hp)(p:Addr):Hp:=fun a=>if a=p then none else G a
theorem w8 {G:Hp}{p a:Addr}(h:a≠p):iH G p a=G a:=Qs h
theorem uD {G:Hp}{p:Addr}:iH G p p=none:=Qo rfl
theorem Step.back {G H G1 H':Hp}{p:Addr}{us:List V}(s:Step (upd G p (.lst us)) H G1 H')(hG:G p=none)(hH:H p=some (.lst us)):Step G H (iH G1 p) H'/\G1 p=some (.lst us):=by
 refine⟨⟨s.hh,fun b u e=>?_,fun b u e=>?_,fun a o ha hn=>?_⟩,s.gg p _ zM⟩
 · have hb:b≠p:=fun z=>by rw[z,hG] at e;cases e
   rw[w8 hb]
   exact s.gg b u (by rw[zP hb];exact e)
 · by_cases hb:b=p
   · rw[hb,uD] at e;cases e
   · rw[w8 hb] at e;exact s.sub b u e
 · by_cases hb:a=p
   · rw[hb,uD,hG]
   · rw[w8 hb,s.new a o ha hn,zP hb]
section
variable {X:Cx} {e:Expr} {fa:Ef} {ta:Tf}
def zRL (i:Nat)(ρ:List B):Bool:=match ρ[i]? with | some (.ow _)=>true | _=>false
theorem zUs {i:Nat}{ρ:List B}(h:zRL i ρ=true):∃ds,ρ[i]?=some (.ow ds):=by
 unfold zRL at h
 split at h
 · exact⟨_,by assumption⟩
 · cases h
def dR (i:Nat)(t:Tf):Tf:=fun ρ=>if zRL i ρ then t (zZt i ρ) else none
theorem aA (i:Nat)(h:PFT X e ta):PFT X e (dR i ta):=by
 refine PT.to h ?_
 rintro σ H Q ⟨G0,H0,G,ρ,b,good,hf,k⟩
 unfold dR at hf
 split at hf
 · rename_i ho
   obtain⟨ds,ho⟩:=zUs ho
   obtain⟨p,vs,hG,hH,good'⟩:=good.lend ho
   exact⟨G0,H0,_,_,b,good',hf,fun H' G1 s=>k H' _ (s.back hG hH).1⟩
 · cases hf
def zXD (f:Ef):Tf:=fun ρ=>(f ρ).bind fun x=>match x with | .lst ds=>some (!ds.isEmpty) | _=>none
theorem fQ (ha:PF X e fa)(he:∀whole,isTrue e X.env whole=(do let v ←whole;standAt e.pos;holding [v] (truthy v)):=by intro _;rfl):PFT X e (zXD fa):=by
 refine PT.to (zUK ha he) ?_
 rintro σ H Q ⟨G0,H0,G,ρ,c,good,hf,k⟩
 unfold zXD at hf
 obtain⟨x,h1,hf⟩:=Qq.mp hf
 cases x with
 | lst ds =>
   cases hf
   refine⟨G0,H0,G,ρ,_,good,h1,fun v H1 G1 s1 r1=>?_⟩
   obtain⟨p,vs,rfl,q,rs⟩:=yM.mp r1
   have hl:=rs.length
   refine⟨_,.inl ⟨vs,s1.sub.seq q,?_⟩,k _ G1 s1⟩
   cases ds<;>cases vs<;>first | rfl | cases hl
 | _=>cases hf
end
def zUy (h:Heap)(e:Addr)(v:Value):Prop:=v = .none∨∃T oT ts,v = .ref T/\T≠e/\h.get? T=some oT/\oT.data = .fields ts/\ts[3]?=some .none
structure Flew (fs:List Addr)(e:Addr)(c:Value)(od:Option Addr)(vs:Array Value)(sl:Array (Option Value))(h h':Heap):Prop where
 obj:h'.get? e=some { cls:=c,dict:=od,data:=.fields (vs.setIfInBounds 1 (.ref h.objs.size)),slots:=sl }
 ne:h.objs.size≠e
 head:∃oT ts,h'.get? h.objs.size=some oT/\oT.data = .fields ts/\ts[3]?=some .none
 keep:∀b o,h.get? b=some o->b≠e->b∉fs->some (Value.ref b)≠vs[1]?->h'.get? b=some o
 slot:∀b o,h.get? b=some o->b≠e->b∈fs->some (Value.ref b)≠vs[1]?->∃z,h'.get? b=some { o with slots:=z }
structure Fly (h:Heap)(H:Hp)(h0:Heap)(C a:Addr):Prop where
 ob:∃vs v,h.get? a=some { cls:=.ref C,dict:=none,data:=.fields vs,slots:=#[] }/\vs[1]?=some v/\zUy h a v/\∀T,v = .ref T->H T=none/\h0.get? T=none
 free:H a=none
 new:h0.get? a=none
def cX:D->Nat | .obj _ _ _=>1 | .dct _ _=>2 | _=>0
def gY (_ _:Nat)(_:List B):Bool:=true
section
variable {K:PySem.W.Frag} {G0 H0 G G' H H':Hp} {σ:St} {ρ:List B} {o o':HO} {d d':D} {a:Addr} {i:Nat}
theorem RepO.rep (g:G a=none):∀ {d:D},RepO K G o d->Rep K (upd G a o) d (.ref a)
 | .obj _ _ _,⟨C,dx,vs,h1,h2,h3,h4⟩=>oY.mpr ⟨C,a,dx,vs,h1,rfl,by rw[zM,h2],h3,h4.mono (Same.new g)⟩
 | .dct _ _,⟨vs,h1,h2,h3⟩=>zWM.mpr ⟨a,vs,rfl,by rw[zM,h1],h2,h3.mono (Same.new g)⟩
theorem Good.mu (g:Good K G0 H0 G H σ ρ)(h:ρ[i]?=some (.mu d)):∃a o,σ[i]?=some (some (.ref a))/\H a=some o/\G a=none/\H0 a=none/\RepO K G o d:=by
 obtain⟨x,e,r⟩:=Paired.get g.vals h
 cases r with
 | mu h1 h2 h3 h4=>exact⟨_,_,e,h1,h2,h3,h4⟩
theorem Good.setM (g:Good K G0 H0 G H σ ρ)(i:Nat)(ha:H a=some o)(ga:G a=none)(h0:H0 a=none)(r:RepO K G o d)(fr:∀(j:Nat) (b:B),ρ[j]?=some b->pS b=true->σ[j]?≠some (some (V.ref a))):Good K G0 H0 G H (σ.set i (some (.ref a))) (ρ.set i (.mu d)):=by
 refine⟨g.st,Paired.set (.mu ha ga h0 r) i g.vals,fun j k b d1 d2 h1 h2 o1 o2 h3 h4=>?_⟩
 by_cases hj:j=i
 · by_cases hk:k=i
   · rw[hj,hk]
   · subst hj
     rw[Qm (Ne.symm hk)] at h2 h4
     have hlt:j < σ.length:=by
       have:=(Qn.mp h3).1
       rwa[Uo] at this
     rw[Em hlt] at h3
     cases h3
     exact absurd h4 (fr k d2 h2 o2)
 · rw[Qm (Ne.symm hj)] at h1 h3
   by_cases hk:k=i
   · subst hk
     have hlt:k < σ.length:=by
       have:=(Qn.mp h4).1
       rwa[Uo] at this
     rw[Em hlt] at h4
     cases h4
     exact absurd h3 (fr j d1 h1 o1)
   · rw[Qm (Ne.symm hk)] at h2 h4
     exact g.apart j k b d1 d2 h1 h2 o1 o2 h3 h4
theorem Good.fresh (g:Good K G0 H0 G H σ ρ)(hn:H a=none):∀(j:Nat) (b:B),ρ[j]?=some b->pS b=true->σ[j]?≠some (some (V.ref a)):=fun j b e o z=>by
 obtain⟨x,e1,r⟩:=Paired.get g.vals e
 rw[z] at e1;cases e1
 cases r with
 | ow q1 _ _ _=>rw[hn] at q1;cases q1
 | mu q1 _ _ _=>rw[hn] at q1;cases q1
 | _=>cases o
theorem zUu {i j:Nat}{d d':D}{b:B}(hi:ρ[i]?=some (.mu d))(h:(ρ.set i (.mu d'))[j]?=some b)(o:pS b=true):∃c,ρ[j]?=some c/\pS c=true:=by
 by_cases hj:j=i
 · subst hj;exact⟨_,hi,rfl⟩
 · rw[Qm (Ne.symm hj)] at h;exact⟨b,h,o⟩
theorem Good.ioM (g:Good K G0 H0 G H σ ρ)(hi:ρ[i]?=some (.mu d))(ho:gY i (cX d) ρ=true)(hs:σ[i]?=some (some (.ref a)))(s:Step G (iH H a) G' H')(h':H' a=some o')(g':G' a=none)(r:RepO K G' o' d') :
   Good K G0 H0 G' H' σ (ρ.set i (.mu d')):=by
 obtain⟨a',o,e1,e2,e3,e4,e5⟩:=g.mu hi
 rw[hs] at e1;cases e1
 have up:∀b u,b≠a->H b=some u->H' b=some u:=fun b u hb q=>s.hh b u (by rw[w8 hb];exact q)
 have nn:∀b u,b≠a->H b=some u->zZ9 u=true->G' b=G b:=fun b u hb q z=>s.new b u (by rw[w8 hb];exact q) z
 refine⟨⟨fun b u q=>?_,g.st.gg.trans s.gg,s.sub,fun b u q z=>?_⟩,?_,fun j k b d1 d2 h1 h2 o1 o2 h3 h4=>?_⟩
 · have hb:b≠a:=fun z=>by rw[z,e4] at q;cases q
   exact up b u hb (g.st.hh b u q)
 · have hb:b≠a:=fun z=>by rw[z,e4] at q;cases q
   exact(nn b u hb (g.st.hh b u q) z).trans (g.st.new b u q z)
 · refine Paired.upd i g.vals (fun j x b hj q1 q2 q=>?_) fun x e=>?_
   · cases q with
     | no=>exact .no
     | fz r=>exact .fz (r.mono s.gg)
     | @ow c us ds c1 c2 c3 c4 =>
       have hc:c≠a:=fun z=>by rw[z,e2] at c1;cases c1;exact e5.nl
       exact .ow (up c _ hc c1) ((nn c _ hc c1 rfl).trans c2) c3 (c4.mono s.gg)
     | @od c _ _ _ _ c1 c2 c3 c4 c5 c6 =>
       have hc:c≠a:=fun z=>by rw[z,e2] at c1;cases c1;exact e5.nx
       exact .od (up c _ hc c1) ((nn c _ hc c1 rfl).trans c2) c3 (c4.mono s.gg) c5 c6
     | @mu c oc dc c1 c2 c3 c4 =>
       have hc:c≠a:=fun z=>hj (g.apart j i a _ _ q2 hi rfl rfl (by rw[q1,z]) hs)
       exact .mu (up c _ hc c1) ((nn c _ hc c1 c4.nt).trans c2) c3 (c4.mono s.gg)
   · rw[hs] at e;cases e
     exact .mu h' g' e4 r
 · obtain⟨c1,f1,p1⟩:=zUu hi h1 o1
   obtain⟨c2,f2,p2⟩:=zUu hi h2 o2
   exact g.apart j k b c1 c2 f1 f2 p1 p2 h3 h4
theorem Good.lendM (g:Good K G0 H0 G H σ ρ)(hi:ρ[i]?=some (.mu d))(ho:gY i (cX d) ρ=true):∃a o,G a=none/\H a=some o/\RepO K G o d/\Good K G0 H0 (upd G a o) H σ (ρ.set i (.fz d)):=by
 obtain⟨a,o,e1,e2,e3,e4,e5⟩:=g.mu hi
 refine⟨a,o,e3,e2,e5,?_⟩
 have sG:Same G (upd G a o):=Same.new e3
 refine⟨⟨g.st.hh,g.st.gg.trans sG,fun b u q=>?_,fun b u q z=>?_⟩,?_,fun j k b d1 d2 h1 h2 o1 o2 h3 h4=>?_⟩
 · by_cases z:b=a
   · subst z;rw[zM] at q;rw[e2];exact q
   · rw[zP z] at q;exact g.st.sub b u q
 · rw[zP (fun y:b=a=>by rw[y,e4] at q;cases q)];exact g.st.new b u q z
 · refine Paired.upd i g.vals (fun j x b hj q1 q2 q=>?_) fun x e=>?_
   · cases q with
     | no=>exact .no
     | fz r=>exact .fz (r.mono sG)
     | @ow c us ds c1 c2 c3 c4 =>
       have hc:c≠a:=fun z=>by rw[z,e2] at c1;cases c1;exact e5.nl
       exact .ow c1 (by rw[zP hc];exact c2) c3 (c4.mono sG)
     | @od c _ _ _ _ c1 c2 c3 c4 c5 c6 =>
       have hc:c≠a:=fun z=>by rw[z,e2] at c1;cases c1;exact e5.nx
       exact .od c1 (by rw[zP hc];exact c2) c3 (c4.mono sG) c5 c6
     | @mu c oc dc c1 c2 c3 c4 =>
       have hc:c≠a:=fun z=>hj (g.apart j i a _ _ q2 hi rfl rfl (by rw[q1,z]) e1)
       exact .mu c1 (by rw[zP hc];exact c2) c3 (c4.mono sG)
   · rw[e1] at e;cases e
     exact .fz (e5.rep e3)
 · obtain⟨_,f1⟩:=rJ rfl h1 o1
   obtain⟨_,f2⟩:=rJ rfl h2 o2
   exact g.apart j k b d1 d2 f1 f2 o1 o2 h3 h4
end
mutual
def jW:D->Bool
 | .non=>true
 | .bl _=>true
 | .int _=>true
 | .str _=>true
 | .tup ds=>cR ds
 | .lst ds=>cR ds
 | _=>false
def cR:List D->Bool
 | []=>true
 | d::r=>jW d&&cR r
end
section
variable {K:PySem.W.Frag} {G:Hp} {p:Addr} {o:HO}
theorem SqT.outM {a:Addr}{vs:List V}(hp:G p=some o)(hn:(∃C dx fs,o = .ins C dx fs)∨∃kvs,o = .dT kvs)(h:SqT K G a vs):SqT K (iH G p) a vs:=by
 have ne:∀u,G a=some u->(∀C dx fs,u ≠ .ins C dx fs)->(∀kvs,u ≠ .dT kvs)->a≠p:=fun u e h1 h2 z=>by
   rw[z,hp] at e;cases e
   rcases hn with⟨_,_,_,y⟩ | ⟨_,y⟩
   · exact h1 _ _ _ y
   · exact h2 _ y
 rcases h with(h | ⟨u,h⟩) | h
 · exact .inl (.inl (by rw[w8 (ne _ h (fun _ _ _ z=>nomatch z) fun _ z=>nomatch z)];exact h))
 · exact .inl (.inr ⟨u,by rw[w8 (ne _ h (fun _ _ _ z=>nomatch z) fun _ z=>nomatch z)];exact h⟩)
 · exact .inr h
theorem SqL.outM {a:Addr}{vs:List V}(hp:G p=some o)(hn:(∃C dx fs,o = .ins C dx fs)∨∃kvs,o = .dT kvs)(h:SqL K G a vs):SqL K (iH G p) a vs:=by
 have ne:∀u,G a=some u->(∀C dx fs,u ≠ .ins C dx fs)->(∀kvs,u ≠ .dT kvs)->a≠p:=fun u e h1 h2 z=>by
   rw[z,hp] at e;cases e
   rcases hn with⟨_,_,_,y⟩ | ⟨_,y⟩
   · exact h1 _ _ _ y
   · exact h2 _ y
 rcases h with(h | ⟨u,h⟩) | h
 · exact .inl (.inl (by rw[w8 (ne _ h (fun _ _ _ z=>nomatch z) fun _ z=>nomatch z)];exact h))
 · exact .inl (.inr ⟨u,by rw[w8 (ne _ h (fun _ _ _ z=>nomatch z) fun _ z=>nomatch z)];exact h⟩)
 · exact .inr h
mutual
theorem Rep.outM (hp:G p=some o)(hn:(∃C dx fs,o = .ins C dx fs)∨∃kvs,o = .dT kvs):∀(d:D) (v:V),jW d=true->Rep K G d v->Rep K (iH G p) d v
 | .non,_,_,h=>by unfold Rep at h ⊢;exact h
 | .bl _,_,_,h=>by unfold Rep at h ⊢;exact h
 | .int _,_,_,h=>by unfold Rep at h ⊢;exact h
 | .str _,_,_,h=>by unfold Rep at h ⊢;exact h
 | .tup ds,_,f,h=>by
   unfold Rep at h ⊢
   obtain⟨a,vs,h1,h2,h3⟩:=h
   exact⟨a,vs,h1,SqT.outM hp hn h2,Reps.outM hp hn ds vs (by unfold jW at f;exact f) h3⟩
 | .lst ds,_,f,h=>by
   unfold Rep at h ⊢
   obtain⟨a,vs,h1,h2,h3⟩:=h
   exact⟨a,vs,h1,SqL.outM hp hn h2,Reps.outM hp hn ds vs (by unfold jW at f;exact f) h3⟩
 | .obj C ns ds,_,f,_=>by unfold jW at f;cases f
 | .exc C ns ds,_,f,_=>by unfold jW at f;cases f
 | .dct ks ds,_,f,_=>by unfold jW at f;cases f
theorem Reps.outM (hp:G p=some o)(hn:(∃C dx fs,o = .ins C dx fs)∨∃kvs,o = .dT kvs):∀(ds:List D) (vs:List V),cR ds=true->Reps K G ds vs->Reps K (iH G p) ds vs
 | [],_,_,h=>by unfold Reps at h ⊢;exact h
 | d::r,_,f,h=>by
   unfold Reps at h ⊢
   obtain⟨v,vr,h1,h2,h3⟩:=h
   unfold cR at f
   rw[Ee] at f
   exact⟨v,vr,h1,Rep.outM hp hn d v f.1 h2,Reps.outM hp hn r vr f.2 h3⟩
end
theorem Step.backM {G H G1 H':Hp}{p:Addr}{o:HO}(s:Step (upd G p o) H G1 H')(hG:G p=none)(hH:H p=some o)(nt:zZ9 o=true):Step G H (iH G1 p) H'/\G1 p=some o:=by
 refine⟨⟨s.hh,fun b u e=>?_,fun b u e=>?_,fun a u ha hn=>?_⟩,s.gg p _ zM⟩
 · have hb:b≠p:=fun z=>by rw[z,hG] at e;cases e
   rw[w8 hb]
   exact s.gg b u (by rw[zP hb];exact e)
 · by_cases hb:b=p
   · rw[hb,uD] at e;cases e
   · rw[w8 hb] at e;exact s.sub b u e
 · by_cases hb:a=p
   · rw[hb,uD,hG]
   · rw[w8 hb,s.new a u ha hn,zP hb]
end
section
variable {X:Cx} {e:Expr} {fa:Ef} {ta:Tf}
def bX (i k:Nat)(ρ:List B):Option (List B):=match ρ[i]? with | some (.mu d)=>if cX d=k/\gY i k ρ=true then some (ρ.set i (.fz d)) else none | _=>none
theorem bF {i k:Nat}{ρ ρ':List B}(h:bX i k ρ=some ρ'):∃d,ρ[i]?=some (.mu d)/\cX d=k/\gY i k ρ=true/\ρ'=ρ.set i (.fz d):=by
 unfold bX at h
 split at h
 · rename_i d e
   split at h
   · rename_i q
     cases h
     exact⟨d,e,q.1,q.2,rfl⟩
   · cases h
 · cases h
def fB (i k:Nat)(f:Ef):Ef:=fun ρ=>(bX i k ρ).bind fun ρ'=>(f ρ').bind fun d=>if jW d then some d else none
theorem zUU (i k:Nat)(h:PF X e fa):PF X e (fB i k fa):=by
 refine PE.to h ?_
 rintro σ H Q ⟨G0,H0,G,ρ,d,good,hf,kk⟩
 unfold fB at hf
 obtain⟨ρ',h1,hf1⟩:=Qq.mp hf
 obtain⟨d',h2,hf2⟩:=Qq.mp hf1
 obtain⟨dm,q1,q2,q3,rfl⟩:=bF h1
 split at hf2
 · rename_i fl
   cases hf2
   obtain⟨p,o,hG,hH,ro,good'⟩:=good.lendM q1 (by rw[q2];exact q3)
   refine⟨G0,H0,_,_,_,good',h2,fun v H' G1 s r=>?_⟩
   obtain⟨st,hp⟩:=s.backM hG hH ro.nt
   exact kk v H' _ st (Rep.outM hp ro.two _ _ fl r)
 · cases hf2
def rD (i k:Nat)(t:Tf):Tf:=fun ρ=>(bX i k ρ).bind fun ρ'=>t ρ'
theorem jR (i k:Nat)(h:PFT X e ta):PFT X e (rD i k ta):=by
 refine PT.to h ?_
 rintro σ H Q ⟨G0,H0,G,ρ,b,good,hf,kk⟩
 unfold rD at hf
 obtain⟨ρ',h1,hf⟩:=Qq.mp hf
 obtain⟨dm,q1,q2,q3,rfl⟩:=bF h1
 obtain⟨p,o,hG,hH,ro,good'⟩:=good.lendM q1 (by rw[q2];exact q3)
 exact⟨G0,H0,_,_,b,good',hf,fun H' G1 s=>kk H' _ (s.backM hG hH ro.nt).1⟩
end
def setF {α:Type}(f:Str)(y:α):List Str->List α->List α
 | n::ns,x::xs=>if n=f then y::xs else x::setF f y ns xs
 | _,xs=>xs
theorem zYI {α:Type}{f:Str}{y:α}:∀ {ns:List Str} {xs:List α},(setF f y ns xs).length=xs.length
 | [],xs=>by unfold setF;rfl
 | _::_,[]=>rfl
 | n::ns,x::xs=>by
   unfold setF
   split
   · rfl
   · rw[Qh,Qh,zYI]
theorem zZf {f:Str}{y:V}:∀ {ns:List Str} {vs:List V},ns.length=vs.length->f∈ns->pU f y (ns.zip vs)=ns.zip (setF f y ns vs)
 | [],_,_,h=>by cases h
 | _::_,[],h,_=>by simp at h
 | n::ns,v::vs,h,hf=>by
   show(if n=f then _ else(n,v)::pU f y (ns.zip vs))=_
   unfold setF
   by_cases hn:n=f
   · rw[Qo hn,Qo hn,Ya,hn];rfl
   · rw[Qs hn,Qs hn,Ya,zZf (by simpa using h) ((Qf.mp hf).resolve_left fun z=>hn z.symm)]
theorem bM {K:PySem.W.Frag}{G:Hp}{f:Str}{d:D}{v:V}(r:Rep K G d v):∀ {ns:List Str} {ds:List D} {vs:List V},Reps K G ds vs->Reps K G (setF f d ns ds) (setF f v ns vs)
 | [],_,_,h=>by unfold setF;exact h
 | n::ns,[],_,h=>by rw[zN] at h;subst h;exact zN.mpr rfl
 | n::ns,e::ds,_,h=>by
   obtain⟨u,vr,rfl,h2,h3⟩:=zQ.mp h
   unfold setF
   by_cases hn:n=f
   · rw[Qo hn,Qo hn];exact zQ.mpr ⟨v,vr,rfl,r,h3⟩
   · rw[Qs hn,Qs hn];exact zQ.mpr ⟨u,_,rfl,h2,bM r h3⟩
section
variable {X:Cx} {c e o:Expr} {es:List Expr} {ga:Lf} {pos p cpos:Pos}
def lQ (i:Nat)(c f:Str):Ef:=fun ρ=>match ρ[i]? with | some (.mu (.obj c' ns ds))=>if c'=c then(ns.zip ds).lookup f else none | _=>none
theorem mN {C:Addr}{c f:Str}(i:Nat){x:Str}{p1:Pos}(hC:ClsAt X.K c C)(hcl:Cls X.K C)(hn:NoAttr X.K C f)(hN:X.N[i]?=some x:=by rfl)(hv:Vis X.env.scope x:=by first | exact Or.inl rfl | exact Or.inr (Or.inl rfl) | exact Or.inr (Or.inr rfl))(hd:(x==("__debug__":Str))=false:=by decide)(hcd:(x==("__classdict__":Str))=false:=by decide)
   (hb:attributeBase (.Name x p1) f X.env (eval (.Name x p1) X.env)=eval (.Name x p1) X.env:=by rfl):PF X (.Attribute (.Name x p1) f pos) (lQ i c f):=by
 refine PE.to (zUx (oP hN hv hd hcd) hb) ?_
 rintro σ H Q ⟨G0,H0,G,ρ,d,good,hf,k⟩
 unfold lQ at hf
 split at hf
 · rename_i c' ns ds e
   split at hf
   · rename_i hc
     subst hc
     obtain⟨q,o,e1,e2,e3,e4,C',dx,vs,r1,r2,r3,r4⟩:=good.mu e
     have ec:=hC.one r1
     subst ec
     obtain⟨u,l1,l2⟩:=lE r3 r4 hf
     exact⟨.ref q,e1,q,_,dx,_,u,rfl,by rw[e2,r2],hcl,hn,l1,k _ _ G (.refl good.sub) l2⟩
   · cases hf
 · cases hf
def zZS (i:Nat)(c:Str)(ns:List Str)(n:Nat)(f:List D->Option (List D))(g:Lf):Sf:=fun ρ=>(g ρ).bind fun ds=>if ds.length=n then(f ds).bind fun xs=>if ns.length=xs.length then some (.nx (ρ.set i (.mu (.obj c ns xs)))) else none else none
theorem zUt (i:Nat){x:Str}{k n:Nat}{C fI:Addr}{fd:FuncData}{ps ns:List Str}{c:Str}{f:List D->Option (List D)}{pos':Pos}(hN:X.N.Nodup)(hC:ClsAt X.K c C)(M:Mk X.K C fI)(F:FnOk X.prog X.w X.K X.mg X.base CX0 k fI fd ps (spI X.K C ns n f))(hr:Room (k+1) X.A)(hm:X.mg c=some (.ref C))(hb:Binds X.K fd ps [])(hg:Gl X c)
   (ha:PFA X (e::es) ga) (hi:X.N[i]?=some x:=by rfl) (hx:Loc X.env.scope x:=by first | exact .inl rfl | exact .inr rfl) (hs:swapsWith (.Call (.Name c p) (e::es) [] cpos) (some (.Name x pos')) pos.line X.env=pure false:=by rfl)
   (hf:X.fn x=true∨X.env.scope.names.lookup x=some .local:=by first | exact .inl rfl | exact .inr rfl) (hdb:(c==("__debug__":Str))=false:=by decide) (he:starEach (e::es) X.env=(false,eval e X.env)::starEach es X.env:=by rfl) (hpl:(backTo cpos (starEach es X.env)).any (·.1)=false:=by rfl) :
   PFS X (.Assign [.Name x pos'] (.Call (.Name c p) (e::es) [] cpos) pos) (zZS i c ns n f ga):=by
 refine PS.to (aI hN hi hx (zWE (E:=E0) M F hr hg hm hb .nil gU ha hdb he hpl) hs hf) ?_
 rintro D σ H ⟨G0,H0,G,ρ,o,good,hf,k⟩
 unfold zZS at hf
 obtain⟨ds,h1,hf⟩:=Qq.mp hf
 split at hf
 · rename_i hl
   obtain⟨xs,h2,hf⟩:=Qq.mp hf
   split at hf
   · rename_i hn
     cases hf
     refine⟨G0,H0,G,ρ,_,good,h1,fun vs H1 G1 s1 r1 x dx hx hdx hne=>?_⟩
     refine⟨x,dx,vs++[],G1,H1,ds,xs,rfl,rfl,hx,hdx,hne,s1.sub,by rw[Er];exact r1,hl,h2,fun H' G' us s' q1 q2 q3=>⟨rfl,?_⟩⟩
     have g2:=(good.step s1).step s'
     exact k _ H' G' (s1.trans s').gg (g2.setM i q1 q2 ((good.step s1).st.hh.free hx) ⟨C,dx,us,hC,rfl,hn,q3⟩ ((good.step s1).fresh hx))
   · cases hf
 · cases hf
end
def spM (K:PySem.W.Frag)(c:Str)(ns:List Str)(n:Nat)(f:List D->List D->Option (List D)):Sp:=fun vs H Q _=>∃(a:Addr) (o:HO) (rest:List V) (G:Hp) (xs ds ys:List D),vs = .ref a::rest/\H a=some o/\G a=none/\RepO K G o (.obj c ns xs)/\Same G H/\Reps K G ds rest/\ds.length=n/\f xs ds=some ys /\
 ∀H' G' o',Step G (iH H a) G' H'->H' a=some o'->G' a=none->RepO K G' o' (.obj c ns ys)->Q .non H'
def zZW (N:Nat)(c:Str)(ns:List Str)(xs ds:List D):List B:=.mu (.obj c ns xs)::(ds.map .fz++List.replicate (N - (ds.length+1)) .no)
def fnM (N:Nat)(c:Str)(ns:List Str)(f:Str)(t:Tf)(e:Ef):List D->List D->Option (List D):=fun xs ds=>(t (zZW N c ns xs ds)).bind fun b=>if b=false/\f∈ns/\ns.length<=900 then(e (zZW N c ns xs ds)).map fun d=>setF f d ns xs else none
section
variable {P:Program} {w:World} {K:PySem.W.Frag} {mg:Str->Option Value} {base:Heap} {x qual:Str} {st:Stmt} {fad C:Addr} {fd:FuncData} {N ps ns:List Str} {k:Nat} {sf c f:Str} {t e:Expr} {rs:List Stmt} {tt:Tf} {fe:Ef} {p1 p2 p3 p4:Pos}
theorem Step.wrP {G H G' H':Hp}{p:Addr}{o:HO}(s:Step G H G' H')(hp:H p=none)(g':G' p=none):Step G H G' (upd H' p o) :=
 ⟨fun b u e=>by rw[zP (z8 e hp)];exact s.hh b u e,s.gg,fun b u e=>by rw[zP (z8 e g')];exact s.sub b u e,s.new⟩
theorem zVX {X:Cx}{sts:List Stmt}:PSs X sts (fun _ _ _=>False):=fun _ _ _ _ _ _ z=>z.elim
theorem eG (m:Nat)(d:D)(ds:List D){j:Nat}{b:B}(h:(B.mu d::(ds.map B.fz++List.replicate m B.no))[j]?=some b)(o:pS b=true):j=0:=by
 cases j with
 | zero=>rfl
 | succ j =>
   exfalso
   rw[Ti] at h
   by_cases hi:j < ds.length
   · rw[Wx (by simpa using hi),Ws] at h
     obtain⟨k,_,h⟩:=Qy.mp h
     cases h;cases o
   · rw[Ww (by simpa using hi),Es] at h
     split at h<;>cases h<;>cases o
theorem zU4 (F:Fun K x qual st fad fd)(S:FnScope N (sf::ps) (zU st))(hC:ClsAt K c C)(hcl:Cls K C)(hn:NoAttr K C f)(hbody:yH st=[.If t rs [] p1,.Assign [.Attribute (.Name sf p2) f p3] e p4])
   (ht:∀(cdv:Value) (A:Around) (outer:List Env) (s:Shared) (H:Hp) (E:XK),Room k (A.deeper (envOfC qual (zU st) s.heap.objs.size fad cdv))->PFT (iW CX0 P w K mg base N qual (zU st) fad cdv A outer s H E).nox t tt)
   (he:∀(cdv:Value) (A:Around) (outer:List Env) (s:Shared) (H:Hp) (E:XK),Room k (A.deeper (envOfC qual (zU st) s.heap.objs.size fad cdv))->PF (iW CX0 P w K mg base N qual (zU st) fad cdv A outer s H E).nox e fe)
   (hN0:N[0]?=some sf) (hv:Vis (zU st) sf) (hd:(sf==("__debug__":Str))=false:=by decide) (hcd:(sf==("__classdict__":Str))=false:=by decide)
   (hs:∀(cdv:Value) (A:Around) (outer:List Env) (s:Shared) (H:Hp) (E:XK),swapsWith e (some (.Attribute (.Name sf p2) f p3)) p4.line (iW CX0 P w K mg base N qual (zU st) fad cdv A outer s H E).nox.env=pure false:=by exact fun _ _ _ _ _ _=>rfl) :
   FnOk P w K mg base CX0 (k+1) fad fd (sf::ps) (spM K c ns ps.length (fnM N.length c ns f tt fe)):=by
 refine F.ok S (fun vs H Q E h=>?_) (fun cdv A outer s H vs Q E hr h=>?_)
 · obtain⟨a,o,rest,G,xs,ds,ys,rfl,_,_,_,_,rr,hl,_⟩:=h
   rw[Qh,Qh,←rr.length,hl]
 · rw[hbody]
   refine⟨_,jO (zS5 (ht cdv A outer s H E hr) zVX aN) (zW0 (zUh (oP hN0 hv hd hcd) (he cdv A outer s H E hr) (hs cdv A outer s H E))),?_⟩
   obtain⟨a,o,rest,G,xs,ds,ys,rfl,h1,h2,h3,sub,rr,hl,hf,kk⟩:=h
   have good:Good K G (iH H a) G H (uW N (.ref a::rest)) (zZW N.length c ns xs ds):=by
     refine⟨⟨fun b u q=>?_,Same.refl _,sub,fun _ _ _ _=>rfl⟩,?_,fun i j a b c q1 q2 o1 o2 _ _=>(eG _ _ ds q1 o1).trans (eG _ _ ds q2 o2).symm⟩
     · by_cases hb:b=a
       · rw[hb,uD] at q;cases q
       · rwa[w8 hb] at q
     · unfold uW zZW
       rw[Wo,Qh,Ym,←rr.length]
       exact .cons (.mu h1 h2 uD h3) (lZ _ rr)
   unfold fnM at hf
   obtain⟨b,e1,hf⟩:=Qq.mp hf
   split at hf
   · rename_i hq
     obtain⟨rfl,hfn,hn9⟩:=hq
     obtain⟨d,e2,rfl⟩:=Qy.mp hf
     refine⟨G,iH H a,G,_,false,good,e1,fun H1 G1 s1=>?_⟩
     show zSG _ _ _
     refine⟨G,iH H a,G1,_,d,good.step s1,e2,fun v H2 G2 s2 r2=>?_⟩
     have s12:=s1.trans s2
     obtain⟨C',dx,vs,r3,r4,r5,r6⟩:=h3
     have ec:=hC.one r3
     subst ec
     have hlv:ns.length=vs.length:=by rw[r5];exact r6.length
     refine⟨.ref a,rfl,a,_,dx,ns.zip vs,rfl,by rw[s12.hh _ _ h1,r4],hcl,hn,by rw[Ol];lia,?_⟩
     have ga:G2 a=none:=(s12.new a _ h1 (by rw[r4];rfl)).trans h2
     exact kk _ G2 _ ((good.st.trans s12).wrP uD ga) zM ga ⟨_,dx,_,hC,by rw[zZf hlv hfn],by rw[zYI];exact r5,bM r2 (r6.mono s12.gg)⟩
   · cases hf
end
theorem wU {f:Str}:∀ {ns:List Str} {vs:List V},f∉ns->(ns.zip vs).lookup f=none
 | [],_,_=>by simp
 | _::_,[],_=>by simp
 | n::ns,v::vs,h=>by
   rw[Ya,Ec,Rm.mpr fun z=>h (by simp[z])]
   exact wU fun z=>h (by simp[z])
section
variable {X:Cx} {c e o:Expr} {es:List Expr} {fa:Ef} {ga:Lf} {pos apos cpos:Pos}
def iQ (i:Nat)(c m:Str)(n:Nat)(f:List Str->List D->List D->Option (List D))(g:Lf):Sf:=fun ρ=>(g ρ).bind fun ds=>match ρ[i]? with
 | some (.mu (.obj c' ns xs))=>if c'=c/\ds.length=n/\m∉ns/\gY i 1 ρ=true then(f ns xs ds).map fun ys=>.nx (ρ.set i (.mu (.obj c ns ys))) else none
 | _=>none
theorem zYQ (i:Nat){pl:Sem Bool}{x c m:Str}{k n:Nat}{C fad:Addr}{fd:FuncData}{ps:List Str}{f:List Str->List D->List D->Option (List D)}{p1:Pos}(hC:ClsAt X.K c C)(hcl:Cls X.K C)(hm:Meth X.K C m fad)(F:∀ns,FnOk X.prog X.w X.K X.mg X.base CX0 k fad fd ps (spM X.K c ns n (f ns)))(hr:Room k X.A)(hb:Binds X.K fd ps [])
   (ha:PFA X (e::es) ga) (hN:X.N[i]?=some x:=by rfl) (hv:Vis X.env.scope x:=by first | exact Or.inl rfl | exact Or.inr (Or.inl rfl) | exact Or.inr (Or.inr rfl)) (hd:(x==("__debug__":Str))=false:=by decide) (hcd:(x==("__classdict__":Str))=false:=by decide)
   (hst:starEach (e::es) X.env=(false,eval e X.env)::starEach es X.env:=by rfl) (hpl:(backTo cpos (starEach es X.env)).any (·.1)=false:=by rfl)
   (ht:eval (.Call (.Attribute (.Name x p1) m apos) (e::es) [] cpos) X.env=(do
     let ov ←eval (.Name x p1) X.env
     standAt apos.atName
     let (f,first) ←holding [ov] (getMethod ov m pl)
     callWith cpos f first (backTo cpos (starEach (e::es) X.env)) (backToKw cpos (keywordEach [] X.env))):=by rfl)
   (hs:swapsWith (.Call (.Attribute (.Name x p1) m apos) (e::es) [] cpos) none pos.line X.env=pure false:=by rfl) :
   PFS X (.Expr (.Call (.Attribute (.Name x p1) m apos) (e::es) [] cpos) pos) (iQ i c m n f ga):=by
 rintro pins s σ H D I ⟨G0,H0,G,ρ,out,good,hf,kk⟩
 unfold iQ at hf
 obtain⟨ds,h1,hf⟩:=Qq.mp hf
 split at hf
 · rename_i c' ns xs hi
   split at hf
   · rename_i hq
     obtain⟨rfl,hl,hmn,hon⟩:=hq
     obtain⟨ys,h2,rfl⟩:=Qy.mp hf
     obtain⟨q,ob,e1,e2,e3,e4,e5⟩:=good.mu hi
     have e5':=e5
     obtain⟨C',dx,vs,r1,r2,r3,r4⟩:=e5'
     have ec:=hC.one r1
     subst ec
     refine jH (zXj (pl:=pl) (E:=E0) (oP hN hv hd hcd) hcl hm (F ns) hr hb .nil gU ha hst hpl ht) hs pins s σ H D I ?_
     refine⟨.ref q,e1,q,dx,_,rfl,by rw[e2,r2],wU hmn,G0,H0,G,ρ,ds,good,h1,fun us H1 G1 s1 rs=>?_⟩
     show spM X.K c' ns n (f ns) (.ref q::(us++[])) H1 _ E0
     rw[Er]
     have g1:=good.step s1
     refine⟨q,ob,us,G1,xs,ds,ys,rfl,s1.hh _ _ e2,(s1.new q _ e2 e5.nt).trans e3,e5.mono s1.gg,s1.sub,rs,hl,h2,fun H' G' o' st q1 q2 q3=>?_⟩
     exact kk σ H' G' (s1.gg.trans st.gg) (g1.ioM hi hon e1 st q1 q2 q3)
   · cases hf
 · cases hf
def aW (c m:Str)(n:Nat)(d:List D->Option D)(fa:Ef)(g:Lf):Ef:=fun ρ=>(fa ρ).bind fun x=>(g ρ).bind fun ds=>match x with
 | .obj c' ns _=>if c'=c/\ds.length+1=n/\m∉ns then d (x::ds) else none
 | _=>none
theorem zY0 {pl:Sem Bool}{c m:Str}{k n:Nat}{C fad:Addr}{fd:FuncData}{ps:List Str}{d:List D->Option D}(hC:ClsAt X.K c C)(hcl:Cls X.K C)(hm:Meth X.K C m fad)(F:FnOk X.prog X.w X.K X.mg X.base CX0 k fad fd ps (spF X.K n d))(hr:Room k X.A)(hb:Binds X.K fd ps [])
   (ho:PF X o fa)
   (ht:eval (.Call (.Attribute o m apos) [] [] cpos) X.env=(do
     let ov ←eval o X.env
     standAt apos.atName
     let (f,first) ←holding [ov] (getMethod ov m pl)
     callWith cpos f first (backTo cpos (starEach [] X.env)) (backToKw cpos (keywordEach [] X.env))):=by rfl) :
   PF X (.Call (.Attribute o m apos) [] [] cpos) (aW c m n d fa zO):=by
 refine PE.to (zYG (pl:=pl) (E:=E0) ho hcl hm F hr hb .nil gU ht) ?_
 rintro σ H Q ⟨G0,H0,G,ρ,r,good,hf,kk⟩
 unfold aW at hf
 obtain⟨x,h1,hf1⟩:=Qq.mp hf
 obtain⟨ds,h2,hf2⟩:=Qq.mp hf1
 clear hf hf1
 cases h2
 cases x with
 | obj c' ns xs =>
   dsimp only at hf2
   split at hf2
   · rename_i hq
     obtain⟨rfl,hl,hmn⟩:=hq
     refine⟨G0,H0,G,ρ,_,good,h1,fun v H1 G1 s1 r1=>?_⟩
     obtain⟨C',q,dx,vs,r2,rfl,r3,r4,r5⟩:=oY.mp r1
     have ec:=hC.one r2
     subst ec
     refine⟨q,dx,_,rfl,s1.sub _ _ r3,wU hmn,?_⟩
     exact⟨G1,[.obj c' ns xs],r,s1.sub,zQ.mpr ⟨_,_,rfl,r1,zN.mpr rfl⟩,hl,hf2,fun v H' G' st rr=>kk v H' G' (s1.trans st) rr⟩
   · cases hf2
 | _=>cases hf2
end
def zQS:Value->Option D
 | .none=>some .non
 | .bool b=>some (.bl b)
 | .int i _=>some (.int i)
 | .str x _=>some (.str x)
 | _=>none
def zQf (P:Params)(l:List (Str×Tok×Value)):List DictEntry:=l.map fun p=>⟨PyData.keyHash P p.1,.str p.1 p.2.1,p.2.2⟩
def kvC (l:List (Str×Tok×Value)):List (Str×D):=l.map fun p=>(p.1,(zQS p.2.2).getD .non)
structure DictC (w:World)(K:PySem.W.Frag)(a:Addr)(kvs:List (Str×D)):Prop where
 sys:(a==sysModules)=false
 at':∃(l:List (Str×Tok×Value)) (n:Nat),K.lookup a=some ⟨.type "dict",none,.dict (zQf w.params l).toArray n,#[]⟩/\kvs=kvC l/\(l.all fun p=>(zQS p.2.2).isSome)=true
end L2
namespace L2
open PySem PySem.W PySem.Spec PyProof.Rows
end L2
namespace L2
open PySem PySem.W PySem.Spec PyProof.Rows
end L2
namespace L2
open PySem PySem.Spec PyProof.Rows
structure FlyV (h:Heap)(H:Hp)(h0:Heap)(C a:Addr)(od:Option Addr):Prop where
 ob:∃vs v,h.get? a=some { cls:=.ref C,dict:=od,data:=.fields vs,slots:=#[] }/\vs[1]?=some v/\zUy h a v/\∀T,v = .ref T->H T=none/\h0.get? T=none
 tr:H a=some (.ext (Xe C a od))
 new:h0.get? a=none
theorem zVU {X:Cx}{st:Stmt}{rest:List Stmt}{B f g:Sf}(e:B=zH f g)(h1:PFS X st f)(h2:kZ X rest g):kZ X (st::rest) B:=by
 subst e
 exact zWn h1 h2
theorem zX {X:Cx}{st:Stmt}{rest:List Stmt}(B:Sf){f g:Sf}(e:B=zH f g)(h1:PFS X st f)(h2:kZ X rest g):kZ X (st::rest) B:=zVU e h1 h2
structure FnT (K:PySem.W.Frag)(mg:Str->Option Value)(x:Str)(st:Stmt)(ps:List Str) where
 f:Addr
 fd:FuncData
 F:Fun K x x st f fd
 b:Binds K fd ps []
 m:mg x=some (.ref f)
def rR (K:PySem.W.Frag)(x:Str)(st:Stmt):Prop:=∃(f:Addr) (od an:Option Addr) (sl:Array (Option Value)) (oc kV dc pm cd ct:Value),PySem.W.nsIn K mainGlobals x=some (some (.ref f))/\K.lookup f=some ⟨oc,od,.func (PySem.W.fnOf x x (wK st) (yH st) (zU st) .none kV dc pm an cd ct),sl⟩/\PySem.W.codeIn K cd x=true/\PySem.W.keepIn K (.ref f)=true
abbrev fnQ (x:Str)(st:Stmt)(kV dc pm:Value)(an:Option Addr)(cd ct:Value):FuncData:=PySem.W.fnOf x x (wK st) (yH st) (zU st) .none kV dc pm an cd ct
def Bd (x:Str)(st:Stmt)(ps:List Str):Prop:=∀(kV doc pm:Value) (an:Option Addr) (cdv ct:Value) (us:List Value),us.length=ps.length->bindArgs (fnQ x st kV doc pm an cdv ct) ⟨us,[]⟩=pure (ps.zip us)
section
variable {x a b c:Str} {st:Stmt}
theorem bd1 (h:∀kV dc pm an cd ct u,bindArgs (fnQ x st kV dc pm an cd ct) ⟨[u],[]⟩=pure [(a,u)]):Bd x st [a]:=fun _ _ _ _ _ _ us hl=>match us,hl with | [_],_=>h _ _ _ _ _ _ _
theorem bd2 (h:∀kV dc pm an cd ct u v,bindArgs (fnQ x st kV dc pm an cd ct) ⟨[u,v],[]⟩=pure [(a,u),(b,v)]):Bd x st [a,b]:=fun _ _ _ _ _ _ us hl=>match us,hl with | [_,_],_=>h _ _ _ _ _ _ _ _
theorem bd3 (h:∀kV dc pm an cd ct u v z,bindArgs (fnQ x st kV dc pm an cd ct) ⟨[u,v,z],[]⟩=pure [(a,u),(b,v),(c,z)]):Bd x st [a,b,c]:=fun _ _ _ _ _ _ us hl=>match us,hl with | [_,_,_],_=>h _ _ _ _ _ _ _ _ _
variable {K:PySem.W.Frag} {h:Heap} {mg:Str->Option Value} {ps:List Str}
def qY (X:K.In h)(G:h.Ns mainGlobals mg)(g:rR K x st)(hb:Bd x st ps):FnT K mg x st ps:=Classical.choice (by
 obtain⟨f,od,an,sl,oc,kV,dc,pm,cd,ct,a,l,c,k⟩:=g
 exact⟨⟨f,_,nN l c k,(nN l c k).binds hb,PySem.W.mg_of X G a⟩⟩)
theorem zSu {P:Program}{w:World}{k:Nat}{sp:Sp}{p:Str}{fa:Addr}(t:FnT K mg x st [p])(hb:Bd x st [p])(hfa:mg x=some (.ref fa))(ok:∀base:Heap,FnOk P w K mg base CX0 k t.f t.fd [p] sp) :
   ∃fd:FuncData,(∀(s:Shared) (v:Value),BindsTo s fd ⟨[v],[]⟩ [(p,v)])/\∀base:Heap,K.In base->base.Ns mainGlobals mg->FnOk P w K mg base CX0 k fa fd [p] sp:=by
 have e:=hfa.symm.trans t.m
 cases e
 refine⟨t.fd,fun s v=>?_,fun base _ _=>ok base⟩
 obtain⟨oc,od,kV,doc,pm,an,cdv,ct,osl,e,lk,hcd⟩:=t.F.ex
 rw[e]
 exact .of_eq (hb kV doc pm an cdv ct [v] rfl)
end
abbrev OkT (P:Program)(w:World)(base:Heap){K:PySem.W.Frag}{mg:Str->Option Value}{x:Str}{st:Stmt}{ps:List Str}(t:FnT K mg x st ps)(k n:Nat)(d:List D->Option D):Prop:=FnOk P w K mg base CX0 k t.f t.fd ps (spF K n d)
abbrev zPU (P:Program)(w:World)(base:Heap){K:PySem.W.Frag}{mg:Str->Option Value}{x:Str}{st:Stmt}{ps:List Str}(t:FnT K mg x st ps)(k n:Nat)(d:List D->Option (List D)):Prop:=FnOk P w K mg base CX0 k t.f t.fd ps (spL K n d)
section
variable {X:Cx} {e:Expr} {es:List Expr} {ga:Lf} {pos p:Pos} {x:Str} {st:Stmt} {ps:List Str}
theorem yD {j k n:Nat}{t:FnT X.K X.mg x st ps}{fD:List D->Option D}(F:FnOk X.prog X.w X.K X.mg X.base CX0 j t.f t.fd ps (spF X.K n fD))(hr:Room k X.A)(ha:PFA X (e::es) ga)(hj:j<=k:=by lia)(hg:Gl X x:=by rfl)(hdb:(x==("__debug__":Str))=false:=by decide)(he:starEach (e::es) X.env=(false,eval e X.env)::starEach es X.env:=by rfl)(hpl:(backTo pos (starEach es X.env)).any (·.1)=false:=by rfl) :
   PF X (.Call (.Name x p) (e::es) [] pos) (zI n fD ga):=zT0 F (hr.mono hj) t.m t.F.kp t.b hg ha hdb he hpl
theorem zQ7 {j k n:Nat}{t:FnT X.K X.mg x st ps}{fD:List D->Option (List D)}(F:FnOk X.prog X.w X.K X.mg X.base CX0 j t.f t.fd ps (spL X.K n fD))(hr:Room k X.A)(ha:PFA X (e::es) ga)(hj:j<=k:=by lia)(hg:Gl X x:=by rfl)(hdb:(x==("__debug__":Str))=false:=by decide)(he:starEach (e::es) X.env=(false,eval e X.env)::starEach es X.env:=by rfl)(hpl:(backTo pos (starEach es X.env)).any (·.1)=false:=by rfl) :
   PFr X (.Call (.Name x p) (e::es) [] pos) (gK n fD ga):=zTc F (hr.mono hj) t.m t.F.kp t.b hg ha hdb he hpl
end
theorem xD {N P:List Str}{sc:Scope}(h:(sc.kind == .function && !sc.isCoroutine && !sc.isGenerator&&decide (N.take P.length=P)&&decide N.Nodup&&decide (∀x∈P,sc.names.lookup x=some .local∨sc.names.lookup x=some .cell)&&decide (∀y∈sc.names,y.2 ≠ .free))=true):FnScope N P sc:=by
 simp only[Ee,Ry,Bool.not_eq_true'] at h
 obtain⟨⟨⟨⟨⟨⟨h1,h2⟩,h3⟩,h4⟩,h5⟩,h6⟩,h7⟩:=h
 refine⟨?_,h2,h3,h5,h4,h6,h7⟩
 generalize sc.kind=k at h1
 cases k<;>first | rfl | cases h1
end L2
namespace L2
open PySem PySem.W PySem.Spec PyProof.Rows
def yV (a b:Int×Str):Bool:=decide (a.1 < b.1)||(a.1==b.1&&decide (a.2.cps.toList < b.2.cps.toList))
theorem qH {a b:Int×Str}:yV a b=true↔a.1 < b.1∨(a.1=b.1/\a.2.cps.toList < b.2.cps.toList):=by
 unfold yV
 simp[Tt,Ee]
theorem zRc (a:List Nat):¬a < a:=List.lt_irrefl a
theorem zQG {a b c:List Nat}(h1:a < b)(h2:b < c):a < c:=List.lt_trans h1 h2
theorem zSt {a b c:List Nat}(h:a < c):a < b∨b < c:=by
 rcases Classical.em (a < b) with q | q
 · exact .inl q
 · exact .inr (List.lt_of_le_of_lt (List.not_lt.mp q) h)
theorem zQI {a b:List Nat}(h1:¬a < b)(h2:¬b < a):a=b:=List.le_antisymm (List.not_lt.mp h2) (List.not_lt.mp h1)
theorem xQ (a:Int×Str):yV a a=false:=by
 cases h:yV a a
 · rfl
 · rw[qH] at h
   rcases h with h | h
   · lia
   · exact absurd h.2 (zRc _)
theorem fP {a b c:Int×Str}(h1:yV a b=true)(h2:yV b c=true):yV a c=true:=by
 rw[qH] at *
 rcases h1 with h1 | h1<;>rcases h2 with h2 | h2
 · exact .inl (by lia)
 · exact .inl (by lia)
 · exact .inl (by lia)
 · exact .inr ⟨by lia,zQG h1.2 h2.2⟩
theorem fK {a b c:Int×Str}(h:yV a c=true):yV a b=true∨yV b c=true:=by
 simp only[qH] at *
 rcases Int.lt_trichotomy a.1 b.1 with q | q | q
 · exact .inl (.inl q)
 · rcases h with h | h
   · exact .inr (.inl (by lia))
   · rcases zSt (b:=b.2.cps.toList) h.2 with z | z
     · exact .inl (.inr ⟨q,z⟩)
     · exact .inr (.inr ⟨by lia,z⟩)
 · rcases h with h | h
   · exact .inr (.inl (by lia))
   · exact .inr (.inl (by lia))
theorem zXo {a b:Int×Str}(h1:yV a b=false)(h2:yV b a=false):a=b:=by
 have q1:¬(a.1 < b.1∨(a.1=b.1/\a.2.cps.toList < b.2.cps.toList)):=fun z=>by rw[qH.mpr z] at h1;cases h1
 have q2:¬(b.1 < a.1∨(b.1=a.1/\b.2.cps.toList < a.2.cps.toList)):=fun z=>by rw[qH.mpr z] at h2;cases h2
 have e:a.1=b.1:=by lia
 have e2:a.2.cps.toList=b.2.cps.toList:=zQI (fun z=>q1 (.inr ⟨e,z⟩)) fun z=>q2 (.inr ⟨e.symm,z⟩)
 obtain⟨a1,⟨a2⟩⟩:=a
 obtain⟨b1,⟨b2⟩⟩:=b
 have e3:a2=b2:=Ev.mp e2
 cases e;cases e3;rfl
theorem zXG (f:Nat->Int×Str):SWO fun i j=>yV (f i) (f j):=⟨fun a=>xQ _,fun a b c=>fP,fun a b c=>fK⟩
abbrev isZ:Int×Str:=(0,⟨#[]⟩)
abbrev ltP (ps:List (Int×Str))(i j:Nat):Bool:=yV (ps.getD i isZ) (ps.getD j isZ)
def zZw (ps:List (Int×Str)):List Nat:=wZ (ltP ps) ps.length
theorem iI (ps:List (Int×Str)):(zZw ps).Perm (List.range ps.length):=vA _ _
def zZC (ps:List (Int×Str)):List (Int×Str):=(zZw ps).map fun i=>ps.getD i isZ
theorem zY3 (ps:List (Int×Str)):(zZw ps).Pairwise fun i j=>ltP ps j i=false :=
 (iT (zXG fun i=>ps.getD i isZ) ps.length).imp fun {a b} h=>Lx.le (zXG fun i=>ps.getD i isZ) h
theorem cJ (ps:List (Int×Str)):(zZC ps).Pairwise fun a b=>yV b a=false:=by
 unfold zZC
 rw[Ek]
 exact zY3 ps
def zWl (h:Heap)(p:Int×Str)(u:Value):Prop:=∃a o n t t',u = .ref a/\h.get? a=some o/\o.cls = .type "tuple"/\o.data = .seq #[.int p.1 t,.str p.2 t'] n
theorem zUo {h:Heap}:∀ {ps:List (Int×Str)} {us:List Value},Paired (zWl h) ps us->∃fs:List Value,KatTups h us fs/\fs.length=us.length/\∀v∈fs,∃i t,v=Value.int i t
 | _,_,.nil=>⟨[],KatTups.nil,rfl,fun _ h=>nomatch h⟩
 | _,_,.cons r t=>by
   obtain⟨a,o,n,t1,t2,rfl,e,c,d⟩:=r
   obtain⟨fs,q1,q2,q3⟩:=zUo t
   refine⟨_::fs,KatTups.cons e c d rfl q1,by simp[q2],fun v hv=>?_⟩
   rcases Qf.mp hv with rfl | hv
   · exact⟨_,_,rfl⟩
   · exact q3 v hv
section
variable {P:Program} {w:World} {A:Around} {s:Shared}
theorem zTU {ps:List (Int×Str)}{us:List Value}(hp:Paired (zWl s.heap) ps us)(h2:2<=us.length):∃κ,(∀(E':Value->Shared->Prop) Q,Q κ s->wpAny (model P w) A (keyKind' us.toArray) Q E' s) /\
   ∀i j C,i < us.length->j < us.length->C (ltP ps i j) s->kas_ask P w A κ us i j C s:=by
 obtain⟨fs,q1,q2,q3⟩:=zUo hp
 have hl:ps.length=us.length:=Ye hp
 refine⟨tuples' ((Value.type "int") != Value.type "tuple"),fun E' Q' hQ=>kat_kind q1 (by lia) (fun v hv=>?_) rfl hQ,fun i j C hi hj hC=>?_⟩
 · obtain⟨n,t,rfl⟩:=q3 v hv
   exact Looks.of_pure rfl
 · obtain⟨a,o,n,t1,t2,ea,e,c,d⟩:=wC (i:=i) (da:=isZ) (db:=Value.none) hp (by lia)
   obtain⟨b,o',n',t3,t4,eb,e',c',d'⟩:=wC (i:=j) (da:=isZ) (db:=Value.none) hp (by lia)
   have hC:C (yV (ps.getD i isZ) (ps.getD j isZ)) s:=hC
   generalize ps.getD i isZ=x at *
   generalize ps.getD j isZ=y at *
   unfold kas_ask
   rw[ea,eb]
   refine kat_lt e d e' d' ?_
   show KatLex _ _ _ _ _ _ [(Value.int x.1 t1,Value.int y.1 t3),(Value.str x.2 t2,Value.str y.2 t4)] 0 _
   refine kat_cons (Tb ?_)
   by_cases h1:x.1=y.1
   · have e1:(x.1==y.1)=true:=by simp[h1]
     rw[e1]
     refine kat_yes (kat_cons (Yn ?_))
     by_cases h3:x.2=y.2
     · have e2:decide (x.2=y.2)=true:=by simp[h3]
       rw[e2]
       refine kat_yes (kat_nil ?_)
       have e3:x=y:=Prod.ext h1 h3
       rw[e3,xQ] at hC
       simpa using hC
     · have e2:decide (x.2=y.2)=false:=by simp[h3]
       rw[e2]
       refine kat_no ?_
       refine kat_one _ _ (lt_str ?_)
       have e3:yV x y=decide (x.2.cps.toList < y.2.cps.toList):=by unfold yV;simp[h1]
       rw[e3] at hC
       exact hC
   · have e1:(x.1==y.1)=false:=by simp[h1]
     rw[e1]
     refine kat_no ?_
     refine oneLt_int ?_
     have e3:yV x y=decide (x.1 < y.1):=by unfold yV;simp[h1]
     rw[e3] at hC
     exact hC
variable {X:Cx} {pins:List (Addr×Obj)} {σ:St} {H:Hp}
theorem zRk {h':Heap}(I:Inv X pins σ H s)(k:∀b o,s.heap.get? b=some o->h'.get? b=some o){p:Int×Str}{b:Addr}(e:SqT X.K H b [.int p.1,.str p.2]):zWl h' p (.ref b):=by
 obtain⟨its,rv,⟨o,e,c,n,d⟩,_⟩:=I.tuple e
 obtain⟨u1,r1,e1,r2⟩:∃u1 r1,its=u1::r1/\RelV (.int p.1) u1/\Vals [.str p.2] r1:=by cases rv with | cons x y=>exact⟨_,_,rfl,x,y⟩
 obtain⟨u2,e2,r3⟩:∃u2,r1=[u2]/\RelV (.str p.2) u2:=by cases r2.2 with | cons x y=>cases y;exact⟨_,rfl,x⟩
 obtain⟨t,rfl⟩:=r2.1
 obtain⟨t',rfl⟩:=r3
 subst e1;subst e2
 exact⟨b,o,n,t,t',rfl,k _ _ e,c,d⟩
end
def dIS (p:Int×Str):D:=.tup [.int p.1,.str p.2]
end L2
namespace L2
open PySem PySem.W PySem.Spec PyProof.Rows
def zWt:D->Option (Int×Str) | .tup [.int i,.str z]=>some (i,z) | _=>none
theorem zZ4 {d:D}{p:Int×Str}(h:zWt d=some p):d=dIS p:=by
 unfold zWt at h
 split at h
 · cases h;rfl
 · cases h
def dM (f:List D->Option D):List D->Option (List (Int×Str))
 | []=>some []
 | d::r=>((f [d]).bind zWt).bind fun p=>(dM f r).map (p::·)
theorem bY {f:List D->Option D}:∀ {ds:List D} {ps:List (Int×Str)},dM f ds=some ps->ps.length=ds.length
 | [],_,h=>by cases h;rfl
 | d::r,ps,h=>by
   unfold dM at h
   obtain⟨p,h1,h⟩:=Qq.mp h
   obtain⟨qs,h2,rfl⟩:=Qy.mp h
   rw[Qh,Qh,bY h2]
theorem zYK {f:List D->Option D}:∀ {ds:List D} {ps:List (Int×Str)} {i:Nat} {d:D},dM f ds=some ps->ds[i]?=some d->∃p,ps[i]?=some p/\f [d]=some (dIS p)
 | [],_,_,_,_,e=>by simp at e
 | d::r,ps,i,d',h,e=>by
   unfold dM at h
   obtain⟨p,h1,h⟩:=Qq.mp h
   obtain⟨qs,h2,rfl⟩:=Qy.mp h
   obtain⟨x,h3,h4⟩:=Qq.mp h1
   cases i with
   | zero=>cases e;exact⟨p,rfl,by rw[h3,zZ4 h4]⟩
   | succ i=>exact zYK (i:=i) h2 (by simpa using e)
def fF (f:List D->Option D)(g:Lf):Lf:=fun ρ=>(g ρ).bind fun ds=>(dM f ds).bind fun ps=>if ps.length<=1000 then some ((zZw ps).map fun i=>ds.getD i .non) else none
theorem Vals.at {x:Value}:∀ {vs:List V} {us:List Value} {i:Nat},Vals vs us->us[i]?=some x->∃v,vs[i]?=some v/\RelV v x
 | _,_,_,.nil,e=>by simp at e
 | _,_,0,.cons r _,e=>by cases e;exact⟨_,rfl,r⟩
 | _,_,i+1,.cons _ t,e=>Vals.at (i:=i) t (by simpa using e)
theorem Reps.at {K:PySem.W.Frag}{G:Hp}{v:V}:∀ {ds:List D} {vs:List V} {i:Nat},Reps K G ds vs->vs[i]?=some v->∃d,ds[i]?=some d/\Rep K G d v
 | [],vs,i,h,e=>by rw[zN] at h;subst h;simp at e
 | d::ds,vs,i,h,e=>by
   obtain⟨v',vr,rfl,r1,r2⟩:=zQ.mp h
   cases i with
   | zero=>cases e;exact⟨d,rfl,r1⟩
   | succ i=>exact Reps.at (i:=i) r2 (by simpa using e)
theorem aQ {X:Cx}{pins:List (Addr×Obj)}{σ:St}{G H:Hp}{s:Shared}(I:Inv X pins σ H s)(sub:Same G H):∀ {ps:List (Int×Str)} {vs:List V} {us:List Value},Reps X.K G (ps.map dIS) vs->Vals vs us->Paired (zWl s.heap) ps us
 | [],vs,us,h,r=>by rw[List.map_nil,zN] at h;subst h;cases r;exact .nil
 | p::ps,vs,us,h,r=>by
   rw[Wo] at h
   obtain⟨v',vr,rfl,r1,r2⟩:=zQ.mp h
   cases r with
   | cons w1 w2 =>
     refine .cons ?_ (aQ I sub r2 w2)
     obtain⟨b,us',rfl,q1,q2⟩:=xU.mp r1
     cases w1
     obtain⟨_,_,rfl,a1,a2⟩:=zQ.mp q2
     obtain⟨_,_,rfl,a3,a4⟩:=zQ.mp a2
     rw[zN] at a4;subst a4
     rw[zJ] at a1;rw[xT] at a3
     subst a1 a3
     exact zRk I (fun _ _ e=>e) (sub.tup q1)
section
variable {X:Cx} {a:Expr} {ga:Lf} {p p1 pos kp:Pos} {x y:Str} {st:Stmt} {j k:Nat} {fD:List D->Option D}
theorem zUd {t:FnT X.K X.mg x st [y]}(F:FnOk X.prog X.w X.K X.mg X.base CX0 j t.f t.fd [y] (spF X.K 1 fD))(hr:Room k X.A)(hg:Gl X "sorted")(hm:X.mg "sorted"=none)(h:dL X a ga)(hj:j+2<=k:=by lia)(hgx:Gl X x:=by rfl)(hdb:(x==("__debug__":Str))=false:=by decide)
   (hs:starEach [a] X.env=[(false,eval a X.env)]:=by rfl):PFr X (.Call (.Name "sorted" p) [a] [⟨some "key",.Name x p1,kp⟩] pos) (fF fD ga):=by
 intro pins s σ H Q I h0
 obtain⟨G0,H0,G,ρ,ds',good,hf,K⟩:=h0
 unfold fF at hf
 obtain⟨ds,f1,hf⟩:=Qq.mp hf
 obtain⟨ps,f2,hf⟩:=Qq.mp hf
 split at hf
 case isFalse=>cases hf
 rename_i h64
 cases hf
 have hlen:=bY f2
 refine Rp (qW I hg hm (u:=.builtin "sorted") (by rfl) ?_ (by decide) (by decide))
 refine callWith_kw ?_ (by first | rfl | (rw[hs];rfl)) (by first | rfl | (rw[hs];rfl)) (by first | rfl | (rw[hs];rfl)) (by first | rfl | (rw[hs];rfl))
 refine spliced_more (thn (h pins s σ H (fun v H1=>∃r vs G1,v = .ref r/\Step G H G1 H1/\SqL X.K G1 r vs/\Reps X.K G1 ds vs) I ?_) fun u s1 ⟨v,H1,I1,rv,r,vs,G1,e,st1,hr1,rs1⟩=>?_) (by rw[hs];rfl)
 · exact⟨G0,H0,G,ρ,ds,good,f1,fun r vs H1 G1 s1 q1 q2=>⟨r,vs,G1,rfl,s1,q1,q2⟩⟩
 subst e
 cases rv
 refine spliced_none ?_
 refine kws_cons (zZP I1 hgx t.m ?_ hdb)
 refine kws_nil ?_
 obtain⟨its,rvl,pl,hz⟩:=I1.list (st1.sub.seq hr1)
 have hvl:vs.length=its.length:=rvl.length
 have hdl:ds.length=vs.length:=rs1.length
 refine zZ7 (lt:=ltP ps) (zXG fun i=>ps.getD i isZ) (fun m ws H'=>∃G' kvs,Step G1 H1 G' H'/\Reps X.K G' ((ps.take m).map dIS) kvs/\Vals kvs ws) pl.isList (by lia) I1 ⟨G1,[],.refl st1.sub,by rw[Om];exact zN.mpr rfl,.nil⟩ ?step ?asks ?fin
 case step =>
   intro m x' ws H' s' pins' hx hJ I'
   obtain⟨G',kvs,st,rk,iw⟩:=hJ
   obtain⟨v,ev,rvx⟩:=rvl.at hx
   obtain⟨d,ed,rd⟩:=rs1.at ev
   obtain⟨q,eq,fq⟩:=zYK f2 ed
   have hb:=t.b s' [x'] I'.kIn rfl
   refine wpAny_call (Ut (F.run X.A.in1.in1 X.stack s' H' ⟨[x'],[]⟩ [x'] [v] (fun v' H''=>∃G'',Step G' H' G'' H''/\Rep X.K G'' (dIS q) v') E0 ((hr.mono hj).in1.in1) I'.env0.in1.in1 (by simpa using hb) (.cons rvx .nil) ?_) fun r s'' hq=>?_)
   · exact⟨G',[d],dIS q,st.sub,zQ.mpr ⟨v,[],rfl,rd.mono st.gg,zN.mpr rfl⟩,rfl,fq,fun v' H'' G'' s'' r=>⟨G'',s'',r⟩⟩
   · cases r with
     | error e=>exact False.elim hq
     | ok fl =>
       cases fl with
       | ret u =>
         obtain⟨v',H'',I'',rv',G'',st'',rp⟩:=I'.after hq
         refine⟨H'',I'',G'',kvs++[v'],st.trans st'',?_,bA iw rv'⟩
         rw[List.take_succ,eq,Eu]
         exact(rk.mono st''.gg).append (zQ.mpr ⟨v',[],rfl,rp,zN.mpr rfl⟩)
       | next=>exact False.elim hq
       | brk=>exact False.elim hq
       | cont=>exact False.elim hq
 case asks =>
   intro ws H' s' pins' hJ hw I' h2
   obtain⟨G',kvs,st,rk,iw⟩:=hJ
   rw[Eg (by lia)] at rk
   have:=zTU (P:=X.prog) (w:=X.w) (A:=X.A.in1.in1) (aQ I' st.sub rk iw) (by lia)
   rw[hw] at this
   exact this
 case fin =>
   intro ws H' D s' hJ hD hI
   obtain⟨G',kvs,st,rk,iw⟩:=hJ
   have stp:Step G H G' H':=st1.trans st
   have hpm:=iI ps
   have en:its.length=ps.length:=by lia
   rw[en] at hI
   have vals:Vals ((zZw ps).map fun i=>vs.getD i .non) ((zZw ps).map fun i=>its.getD i Value.none):=by
     have key:∀l:List Nat,(∀i∈l,i < vs.length)->Vals (l.map fun i=>vs.getD i .non) (l.map fun i=>its.getD i Value.none):=by
       intro l
       induction l with
       | nil=>intro _;exact .nil
       | cons i r ih=>intro hh;exact .cons (wC rvl (hh i (by simp))) (ih fun j hj=>hh j (by simp[hj]))
     exact key _ fun i hi=>(by have:i < ps.length:=(by simpa using hpm.subset hi);lia)
   refine⟨.ref D,_,hI (.lst ((zZw ps).map fun i=>vs.getD i .non)) fun h' ⟨c3,e3⟩=>?_,rfl,?_⟩
   · refine⟨?_,_,c3,vals,e3⟩
     rw[Qt,hpm.length_eq,Ri]
     exact Wc (vP (by show ps.length<=100000;lia))
   · refine K D _ _ G' (stp.trans (Step.own stp.sub hD)) (stp.hh.free hD) zM (stp.sub.free hD) ?_
     have rs:=rs1.mono st.gg
     have key:∀l:List Nat,(∀i∈l,i < vs.length)->Reps X.K G' (l.map fun i=>ds.getD i .non) (l.map fun i=>vs.getD i .non):=by
       intro l
       induction l with
       | nil=>intro _;exact zN.mpr rfl
       | cons i r ih =>
         intro hh
         have hi:i < vs.length:=hh i (by simp)
         obtain⟨d,ed,rd⟩:=rs.at (i:=i) (v:=vs[i]) (by simp[hi])
         refine zQ.mpr ⟨_,_,rfl,?_,ih fun j hj=>hh j (by simp[hj])⟩
         show Rep X.K G' (ds.getD i .non) (vs.getD i .non)
         rw[Wp,Wp,ed]
         simpa [hi] using rd
     exact key _ fun i hi=>(by have:i < ps.length:=(by simpa using hpm.subset hi);lia)
end
end L2
namespace L2
open PySem PySem.W PySem.Spec PyProof.Rows
section
variable {prog:Program} {w:World} {A:Around} {E:Value->Shared->Prop} {s:Shared}
theorem zUw {x y:Int×Str}{u v:Value}{Q:Value->Shared->Prop}(hu:A.units < cLine)(ha:zWl s.heap x u)(hb:zWl s.heap y v)(h:Q (.bool (!yV y x)) s):wpAny (model prog w) A (richCompare .LtE u v) Q E s:=by
 obtain⟨a,o,n,t1,t2,rfl,e1,c1,d1⟩:=ha
 obtain⟨b,o',n',t3,t4,rfl,e2,c2,d2⟩:=hb
 have ta:s.TypeIs (.ref a) "tuple":=⟨o,e1,c1⟩
 have tb:s.TypeIs (.ref b) "tuple":=⟨o',e2,c2⟩
 refine wpAny_richCompare_same_room ta tb PySem.F.slot_tuple_le (wpAny_call_entry PySem.F.slot_tuple_le ta PySem.F.entry_tuple_le ?_ (PySem.F.args_tuple_le_2 _ _)) hu
 show wpAny _ _ (isInstance (.ref b) (.type "tuple") >>= _) _ _ s
 refine Qr (wpAny_isInstance tb isSubtype_tuple_tuple ?_)
 simp only[Bool.not_true,Wz,Rk]
 refine Qr (wpAny_tupleItemsOf e1 d1 ?_)
 refine Qr (wpAny_tupleItemsOf e2 d2 ?_)
 dsimp only[List.zip,List.zipWith]
 simp only[List.forIn_cons,List.forIn_nil]
 refine Qr (Qr (Qr (Tb ?_)))
 by_cases h1:x.1=y.1
 · have q1:(x.1==y.1)=true:=by simp[h1]
   rw[q1]
   simp only[Bool.not_true,Wz,Rk]
   refine Qc (Qr (Qr (Yn ?_)))
   by_cases h2:x.2=y.2
   · have q2:decide (x.2=y.2)=true:=by simp[h2]
     rw[q2]
     simp only[Bool.not_true,Wz,Rk]
     refine Qc (Qc (Qc ⟨_,rfl,(fun e=>nomatch e),?_⟩))
     have e3:y=x:=Prod.ext h1.symm h2.symm
     rw[e3,xQ] at h
     exact h
   · have q2:decide (x.2=y.2)=false:=by simp[h2]
     rw[q2]
     simp only[Bool.not_false,Uu]
     have e3:yV y x=decide (y.2.cps.toList < x.2.cps.toList):=by unfold yV;simp[h1]
     rw[e3] at h
     refine Qr (Te (Qr (PySem.P.le_str ?_)))
     exact Qc (Qc (Qc ⟨_,rfl,(fun e=>nomatch e),h⟩))
 · have q1:(x.1==y.1)=false:=by simp[h1]
   rw[q1]
   simp only[Bool.not_false,Uu]
   have e3:(!yV y x)=decide (x.1<=y.1):=by
     unfold yV
     have:(y.1==x.1)=false:=by simp;lia
     rw[this,On,Bool.or_false]
     by_cases h3:y.1 < x.1
     · simp[h3]
     · simp[h3];lia
   rw[e3] at h
   refine Qr (Te (Qr (le_int ?_)))
   exact Qc (Qc (Qc ⟨_,rfl,(fun e=>nomatch e),h⟩))
variable {X:Cx}
def zW9 (x y:D):Option Bool:=(zWt x).bind fun a=>(zWt y).map fun b => !yV b a
theorem zTl {k:Nat}(hr:Room k X.A):CmR X .LtE zW9:=by
 refine⟨fun x y H Q=>∃p q G,Same G H/\Rep X.K G (dIS p) x/\Rep X.K G (dIS q) y/\Q (.bl (!yV q p)) H,?_,fun d d' k G H x y Q h s rx ry kk=>?_⟩
 · intro pins s σ H x y v u Q I rx ry ⟨p,q,G,sm,hx,hy,hQ⟩
   have pa:=aQ (ps:=[p]) (vs:=[x]) (us:=[v]) I sm (zQ.mpr ⟨_,_,rfl,hx,zN.mpr rfl⟩) (.cons rx .nil)
   have pb:=aQ (ps:=[q]) (vs:=[y]) (us:=[u]) I sm (zQ.mpr ⟨_,_,rfl,hy,zN.mpr rfl⟩) (.cons ry .nil)
   cases pa with
   | cons pa _ =>
     cases pb with
     | cons pb _=>exact zUw hr.units0 pa pb ⟨.bl _,H,I,rfl,hQ⟩
 · unfold zW9 at h
   obtain⟨p,h1,h⟩:=Qq.mp h
   obtain⟨q,h2,rfl⟩:=Qy.mp h
   rw[zZ4 h1] at rx
   rw[zZ4 h2] at ry
   exact⟨p,q,G,s,rx,ry,kk H G (.refl s)⟩
end
end L2
namespace L2
open PySem PySem.Spec PyProof.Rows
open PySem.Builtin PySem.Builtin.Str
section
variable {X:Cx} {c:Expr} {ga:Lf} {pos p:Pos}
def zYZ (i:Nat)(g:Lf):Sf:=fun ρ=>(g ρ).bind fun es=>match ρ[i]? with | some (.ow ds)=>if ds.length+es.length<=lim then some (.nx (ρ.set i (.ow (ds++es)))) else none | _=>none
theorem zSq (i:Nat)(ht:PE X c (tBM X.K "list" zW4 (zWr i) (zYS (tFr X.K ga) zVY)))(hs:swapsWith c none pos.line X.env=pure false:=by rfl):PFS X (.Expr c pos) (zYZ i ga):=by
 refine PS.to (jH ht hs) ?_
 rintro D σ H ⟨G0,H0,G,ρ,o,good,hf,k⟩
 unfold zYZ at hf
 obtain⟨es,h1,hf⟩:=Qq.mp hf
 split at hf
 · rename_i ds hi
   split at hf
   · rename_i hl
     cases hf
     obtain⟨p,vs,e1,e2,e3,e4,e5⟩:=good.addr hi
     refine⟨.ref p,e1,.inl ⟨rfl,vs,.of e2⟩,G0,H0,G,ρ,es,good,h1,fun q ws H1 G1 s1 hq0 hq1 gq rs=>?_⟩
     have good1:=good.step s1
     obtain⟨p',vs',f1,f2,f3,f4,f5⟩:=good1.addr hi
     rw[e1] at f1;cases f1
     exact⟨p,q,vs',ws,rfl,rfl,f2,hq1,by rw[←f5.length,←rs.length];exact Wc (vP hl),k σ _ G1 s1.gg (good1.wr hi e1 (f5.append rs))⟩
   · cases hf
 · cases hf
variable {P:Program} {w:World} {K:PySem.W.Frag} {mg:Str->Option Value} {base:Heap} {k:Nat} {f:Addr} {fd:FuncData} {ps:List Str}
theorem zWk {CX:CXT}{n:Nat}:FnOk P w K mg base CX k f fd ps (spL K n fun _=>none) :=
 ⟨fun vs H Q E h=>(by obtain⟨_,_,_,_,_,_,z,_⟩:=h;cases z),fun A outer s H args us vs Q E _ _ _ _ h=>(by obtain⟨_,_,_,_,_,_,z,_⟩:=h;cases z)⟩
end
end L2
namespace L2
open PySem PySem.Spec PyProof.Rows
open PySem.Builtin PySem.Builtin.Str
section
variable {X:Cx} {a c:Expr} {ga:Lf} {pos p:Pos}
def zUq (ns:List Int):Int:=ns.getD (argBest (fun i j=>decide (ns.getD i 0 < ns.getD j 0)) (ns.length - 1)) 0
theorem zVO (hc:X.calm=true):CallR X (.builtin "min") (fun xs H Q=>∃(q:Addr) (ns:List Int),xs=[V.ref q]/\SqL X.K H q (ns.map V.int)/\0 < ns.length/\Q (.int (zUq ns)) H):=by
 intro pins s σ H xs us Q I r h
 obtain⟨l,ns,rfl,hq,hl,q⟩:=h
 obtain⟨u,rfl,ru⟩:=gI r
 cases ru
 obtain⟨its,rv,pl,hz⟩:=I.list hq
 obtain⟨ps,rfl,rfl⟩:=mH rv
 have hit:s.heap.IsList l (intItems ps.toArray):=by
   have:=pl.isList
   unfold intItems
   rw[Ot]
   exact this
 have hn:∀i,numAt ps.toArray i=(ps.map (·.1)).getD i 0:=fun i=>by
   unfold numAt
   rw[Rh,Wp,Ws]
 refine min_intList (I.ok.hd hc) hit (by simpa using hl) fun v h' tk hv hk=>?_
 obtain⟨t,rfl⟩:=Oz hv
 refine⟨.int _,H,I.kept hk,⟨t,rfl⟩,?_⟩
 have e:numAt ps.toArray (argBest (fun i j=>decide (numAt ps.toArray i < numAt ps.toArray j)) (ps.toArray.size - 1))=zUq (ps.map (·.1)):=by
   unfold zUq
   rw[hn,Qu,Qt]
   simp only[hn]
 rw[e]
 exact q
def zYA (g:Lf):Ef:=fun ρ=>(g ρ).bind fun ds=>(gW ds).bind fun ns=>if 0 < ns.length then some (.int (zUq ns)) else none
theorem zSK (hcm:X.calm=true)(hg:Gl X "min")(hm:X.mg "min"=none)(h:dL X a ga)(hs:starEach [a] X.env=[(false,eval a X.env)]:=by rfl):PF X (.Call (.Name "min" p) [a] [] pos) (zYA ga):=by
 refine PE.to (tO (zVO hcm) hg hm (by rfl) (yX h xL (by rw[hs];rfl)) (by decide) (by decide) (by rw[hs];rfl) (by rfl)) ?_
 rintro σ H Q ⟨G0,H0,G,ρ,d,good,hf,k⟩
 unfold zYA at hf
 obtain⟨ds,h1,hf⟩:=Qq.mp hf
 obtain⟨ns,h2,hf⟩:=Qq.mp hf
 split at hf
 · rename_i hl
   cases hf
   refine⟨G0,H0,G,ρ,ds,good,h1,fun q vs H1 G1 s1 e1 r1=>?_⟩
   rw[mO h2 r1] at e1
   exact⟨q,ns,rfl,s1.sub.seq e1,hl,k _ _ G1 s1 (zJ.mpr rfl)⟩
 · cases hf
theorem zYd (l:Addr)(items:Array Value)(n:Nat)(b:Addr)(items2:Array Value)(n2:Nat)(sl:_)(hc0:¬(!items.isEmpty&&Builtin.List.listTooLong (items.size+items2.size))=true)(hc1:items.size<=sizeLine)(hs2:items.size+items2.size<=sizeLine+1) :
   Meets (Builtin.«list.extend» ⟨[.ref l,.ref b],[]⟩) (fun _ R s=>s.heap.get? l=some { cls:=.type "list",dict:=none,data:=.seq items n,slots:=#[] }/\s.heap.get? b=some { cls:=.type "list",dict:=none,data:=.seq items2 n2,slots:=sl }/\R (.ok (.ret Value.none)) { s with heap:=s.heap.update l (Obj.mapSeq fun x=>x++items2),toks:=s.toks }) :=
 .of_wp fun prog w A R s h=>by
   obtain⟨hp,g,d,tk,os⟩:=s;obtain⟨hl,hb,h⟩:=h;have f1:=AutoSeq1.idx_int;have f2:=AutoSeq1.sub_tuple_tuple;have f3:=AutoSeq1.sub_list_list;have f4:=AutoSeq1.sub_tuple_list;have f5:=AutoSeq1.sub_list_tuple;
   have hz':(items++items2).size<=sizeLine+1:=by rw[Ik];exact hs2
   wp_walk using (Yi hl rfl (hz:=hc1) (_hz':=hz')),AutoSeq1.wpAny_loadPart' hl,AutoSeq1.wpAny_loadPart' hb;exact⟨_,rfl,h⟩
def zSA (K:PySem.W.Frag):V->List V->Hp->VK->Prop:=fun x vs H Q=>∃l b xs zs,x = .ref l/\vs=[.ref b]/\H l=some (.lst xs)/\SqL K H b zs/\xs.length+zs.length<=sizeLine/\Q .non (upd H l (.lst (xs++zs)))
theorem zT8:MtM X "list.extend" (zSA X.K):=by
 intro pins s σ H x vs v us Q I rx rv h
 obtain⟨l,b,xs,zs,rfl,rfl,hH,hB,hz,q⟩:=h
 cases rx
 obtain⟨u,rfl,ru⟩:=rv.one
 cases ru
 obtain⟨z,its,n,r,hl,e⟩:=I.lstM hH
 obtain⟨its2,r2,⟨⟨cls,dd,data,sl⟩,n2,e2,hc,hd,ha⟩,z2⟩:=I.list hB
 simp only at hc hd ha
 subst hc hd ha
 have hl2:=r2.length
 have hsz:its.toArray.size+its2.toArray.size<=sizeLine:=by rw[Qu,Qu];lia
 have hlong:¬(!its.toArray.isEmpty&&Builtin.List.listTooLong (its.toArray.size+its2.toArray.size))=true:=by
   rw[zYP hsz,Bool.and_false]
   exact Wu
 refine call_meets F.slot_list_extend ⟨_,e,rfl⟩ F.entry_list_extend (F.args_list_extend_2 _ _)
   (zYd l its.toArray n b its2.toArray n2 sl hlong (by rw[Qu];lia) (by lia)) ⟨e,e2,?_⟩
 refine⟨.non,_,I.lset (its':=its++its2) hH e (by simp) (r.append r2) ?_,rfl,q⟩
 rw[Qe]
 lia
theorem zTQ (i:Nat)(ht:PE X c (tBM X.K "list" (zSA X.K) (zWr i) (zYS (zSf X.K ga) zVY)))(hs:swapsWith c none pos.line X.env=pure false:=by rfl):PFS X (.Expr c pos) (zYZ i ga):=by
 refine PS.to (jH ht hs) ?_
 rintro D σ H ⟨G0,H0,G,ρ,o,good,hf,k⟩
 unfold zYZ at hf
 obtain⟨es,h1,hf⟩:=Qq.mp hf
 split at hf
 · rename_i ds hi
   split at hf
   · rename_i hl
     cases hf
     obtain⟨p,vs,e1,e2,e3,e4,e5⟩:=good.addr hi
     refine⟨.ref p,e1,.inl ⟨rfl,vs,.of e2⟩,G0,H0,G,ρ,es,good,h1,fun q ws H1 G1 s1 sq rs=>?_⟩
     have good1:=good.step s1
     obtain⟨p',vs',f1,f2,f3,f4,f5⟩:=good1.addr hi
     rw[e1] at f1;cases f1
     exact⟨p,q,vs',ws,rfl,rfl,f2,s1.sub.seq sq,by rw[←f5.length,←rs.length];exact Wc (vP hl),k σ _ G1 s1.gg (good1.wr hi e1 (f5.append rs))⟩
   · cases hf
 · cases hf
end
end L2
namespace L2
open PySem PySem.Spec PyProof.Rows
section
variable {prog:Program} {w:World} {A:Around} {E:Value->Shared->Prop} {s:Shared}
theorem bG (a d:Value):argsOk "max" ⟨[a],[("default",d)]⟩:=by unfold argsOk;kernel_rfl
theorem zTf {l:Addr}{d:Value}{Q:Value->Shared->Prop}(hh:A.handled=none)(hl:s.heap.IsList l #[])(h:∀h' tk,(∀b o,s.heap.get? b=some o->h'.get? b=some o)->Q d { s with heap:=h',toks:=tk }) :
   wpAny (model prog w) A (call (.builtin "max") [.ref l] [("default",d)]) Q E s:=by
 have hname:(toString "max"++toString ".loop":String)="max.loop":=by decide
 refine oI F.kind_max F.plain_max F.entry_max (bG _ _) ?_
 show wpAny _ A.in1 (Builtin.Builtins.bindParams "max" ["key","default"] 0 ⟨[],[("default",d)]⟩ >>= _) _ _ s
 refine Qr (wpAny_of_eq (show Builtin.Builtins.bindParams "max" ["key","default"] 0 ⟨[],[("default",d)]⟩=pure [none,some d] from rfl) ?_)
 refine Qr (Qc ?_)
 refine Qr (Ih hl ?_)
 refine Qr (Ij ?_)
 rw[hname]
 have hne:l≠s.heap.objs.size:=by obtain⟨_,e,_⟩:=hl;exact Wf (Qp e)
 refine Qc ⟨Yr F.plain_max_loop _,Uh F.entry_max_loop ?_⟩
 rw[Yw F.plain_max_loop _]
 show wpAny _ A.in1 (seqItems? (.ref _) >>= _) _ _ _
 refine Qr (Yf (Wr _ rfl) rfl ?_)
 have W:=Walks.list (prog:=prog) (w:=w) (A:=A.in1) hh s.heap.objs.size l hne #[]
 refine Qr (Yg (W.done _ _ _ ⟨⟨_,Qi _ (Wr _ rfl),rfl,rfl⟩,(hl.push _).push _⟩ fun h' tk hk=>?_))
 refine Qr (Te ?_)
 refine Qc (h h' tk fun b o e=>hk b o ?_ (Qi _ (Qi _ e)))
 intro hm
 rcases Qf.mp hm with z | z
 · exact absurd (z ▸ Qp e) (Wj _)
 · cases z
def wQ (val:Nat->Int):Nat->Int
 | 0=>val 0
 | k+1=>if val (k+1) > wQ val k then val (k+1) else wQ val k
variable {R:Result->Shared->Prop} {I:Addr} {fp wr:List Addr} {n:Nat} {P:Nat->Value->Prop} {St:Nat->Heap->Prop}
theorem zTB {a b:Int}{t u:Tok}{s:Shared}{Q:Value->Shared->Prop}{E:Value->Shared->Prop}(h:Q (.bool (decide (a > b))) s):wpAny (model prog w) A (richCompare .Gt (.int a t) (.int b u)) Q E s :=
 CmpOf.ints_gt (prog:=prog) (w:=w) (A:=A) (P:=fun i v=>∃t,v = .int (if i=0 then a else b) t) (fun i=>if i=0 then a else b) (fun _ _ h=>h) 0 1 _ _ s Q E ⟨t,rfl⟩ ⟨u,rfl⟩ h
theorem zVJ (W:Walks prog w A.in1 I fp wr n P St)(val:Nat->Int)(hv:∀i v,P i v->∃t,v = .int (val i) t)(d:Value)(S:Addr)(hSf:S∉fp) :
   ∀(k j:Nat) (s:Shared) (t:Tok) (c:Nat),n - (j+1)=k->j+1<=n->St (j+1) s.heap ->
   s.heap.get? S=some { cls:=.type "list",dict:=none,data:=.seq #[.int (wQ val j) t,.int (wQ val j) t] c,slots:=#[] } ->
   (∀t' h' tk,(∀b o,b∉wr->b≠S->s.heap.get? b=some o->h'.get? b=some o)->R (.ok (.ret (.int (wQ val (n - 1)) t'))) { s with heap:=h',toks:=tk }) ->
   codeAny (model prog w) A (.builtin "max.loop" ⟨[.ref I,.none,.ref S],[("default",d)]⟩) R s:=by
 have hSw:S∉wr:=fun h=>hSf (W.sub _ h)
 have hname:(toString "max"++toString ".loop":String)="max.loop":=by decide
 intro k
 induction k with
 | zero =>
   intro j s t c hk hj hst hS hR
   have hin:j+1=n:=by lia
   refine Uh F.entry_max_loop ?_
   rw[Yw F.plain_max_loop _]
   show wpAny _ A.in1 (seqItems? (.ref S) >>= _) _ _ s
   refine Qr (Yf hS rfl ?_)
   show wpAny _ A.in1 (tryCatch (pyNext (.ref I)) _ >>= _) _ _ s
   refine Qr (Yg (W.done s _ _ (hin ▸ hst) fun h' tk hk'=>?_))
   have hS':=hk' S _ hSw hS
   show wpAny _ A.in1 (updateSeq S (fun _=>#[]) >>= _) _ _ _
   refine Qr (Yi hS' rfl (Qr (Yl (Qc ?_))))
   rw[←hin] at hR
   exact hR t _ tk fun b o hbw hbS e=>(Ed _ _ (Ne.symm hbS)).trans (hk' b o hbw e)
 | succ k ih =>
   intro j s t c hk hj hst hS hR
   have hlt:j+1 < n:=by lia
   refine Uh F.entry_max_loop ?_
   rw[Yw F.plain_max_loop _]
   show wpAny _ A.in1 (seqItems? (.ref S) >>= _) _ _ s
   refine Qr (Yf hS rfl ?_)
   show wpAny _ A.in1 (tryCatch (pyNext (.ref I)) _ >>= _) _ _ s
   refine Qr (Yg (W.item (j+1) s _ _ hlt hst fun v h' tk hP hst' hk'=>?_))
   obtain⟨tv,rfl⟩:=hv _ _ hP
   have hS':=hk' S _ hSw hS
   show wpAny _ A.in1 (tryCatch (holding _ (richCompare .Gt _ _ >>= _)) _ >>= _) _ _ _
   refine Qr (Yg (Rx (Qr (zTB ?_))))
   refine Qr (Rx (Rj ?_))
   refine Qr (Yl (Qc ?_))
   by_cases hb:val (j+1) > wQ val j
   · rw[We hb]
     simp only[Uu]
     refine Qr (Yi hS' rfl (Qr (Yl ?_)))
     rw[hname]
     have em:wQ val (j+1)=val (j+1):=by rw[wQ,Qo hb]
     refine Qc ⟨Yr F.plain_max_loop _,ih (j+1) _ tv _ (by lia) hlt (W.frame _ _ _ hst' fun b hbf o e=>?_) (by rw[em];exact Ud _ hS' rfl) fun t' h'' tk'' hk''=>?_⟩
     · exact(Ed _ _ (fun h:S=b=>hSf (by rw[h];exact hbf))).trans e
     · exact hR t' h'' tk'' fun b o hbw hbS e=>hk'' b o hbw hbS ((Ed _ _ (Ne.symm hbS)).trans (hk' b o hbw e))
   · rw[Wq hb]
     simp only[Wz,Rk]
     refine Qr (Yl ?_)
     rw[hname]
     have em:wQ val (j+1)=wQ val j:=by rw[wQ,Qs hb]
     exact Qc ⟨Yr F.plain_max_loop _,ih (j+1) _ t c (by lia) hlt hst' (by rw[em];exact hS') fun t' h'' tk'' hk''=>hR t' h'' tk'' fun b o hbw hbS e=>hk'' b o hbw hbS (hk' b o hbw e)⟩
theorem zVi {l:Addr}{d:Value}{xs:Array (Int×Tok)}{Q:Value->Shared->Prop}(hh:A.handled=none)(hl:s.heap.IsList l (intItems xs))(hn:0 < xs.size)
   (h:∀t h' tk,(∀b o,s.heap.get? b=some o->h'.get? b=some o)->Q (.int (wQ (numAt xs) (xs.size - 1)) t) { s with heap:=h',toks:=tk }) :
   wpAny (model prog w) A (call (.builtin "max") [.ref l] [("default",d)]) Q E s:=by
 have hname:(toString "max"++toString ".loop":String)="max.loop":=by decide
 refine oI F.kind_max F.plain_max F.entry_max (bG _ _) ?_
 show wpAny _ A.in1 (Builtin.Builtins.bindParams "max" ["key","default"] 0 ⟨[],[("default",d)]⟩ >>= _) _ _ s
 refine Qr (wpAny_of_eq (show Builtin.Builtins.bindParams "max" ["key","default"] 0 ⟨[],[("default",d)]⟩=pure [none,some d] from rfl) ?_)
 refine Qr (Qc ?_)
 refine Qr (Ih hl ?_)
 refine Qr (Ij ?_)
 rw[hname]
 have hne:l≠s.heap.objs.size:=by obtain⟨_,e,_⟩:=hl;exact Wf (Qp e)
 have hsz:(intItems xs).size=xs.size:=by simp[intItems]
 have W:=Walks.list (prog:=prog) (w:=w) (A:=A.in1) hh s.heap.objs.size l hne (intItems xs)
 have hll:l < s.heap.objs.size:=by obtain⟨_,e,_⟩:=hl;exact Qp e
 refine Qc ⟨Yr F.plain_max_loop _,Uh F.entry_max_loop ?_⟩
 rw[Yw F.plain_max_loop _]
 show wpAny _ A.in1 (seqItems? (.ref _) >>= _) _ _ _
 refine Qr (Yf (Wr _ rfl) rfl ?_)
 have hps:(s.heap.push { cls:=.type "list_iterator",data:=.fields #[.ref l,.int 0 0] }).objs.size=s.heap.objs.size+1:=Tv _ _
 refine Qr (Yg (W.item 0 _ _ _ (by rw[hsz];exact hn) ⟨⟨_,Qi _ (Wr _ rfl),rfl,rfl⟩,(hl.push _).push _⟩ fun v h' tk hP hst' hk'=>?_))
 obtain⟨tv,rfl⟩:=Oz hP
 have hSw:(s.heap.push { cls:=.type "list_iterator",data:=.fields #[.ref l,.int 0 0] }).objs.size∉[s.heap.objs.size]:=fun hm=>by
   rw[Qz] at hm;lia
 have hS':=hk' _ _ hSw (Wr _ rfl)
 show wpAny _ A.in1 (updateSeq _ (fun _=>#[.int (numAt xs 0) tv,.int (numAt xs 0) tv]) >>= _) _ _ _
 refine Qr ?_
 refine Yi hS' rfl ?_
 rw[hname]
 have hSf:(s.heap.push { cls:=.type "list_iterator",data:=.fields #[.ref l,.int 0 0] }).objs.size∉[s.heap.objs.size,l]:=fun hm=>by
   rcases Qf.mp hm with z | z
   · rw[hps] at z;exact Nat.succ_ne_self _ z
   · rw[Qz,hps] at z
     rw[←z] at hll
     exact absurd hll (Ix.mpr (Rf _))
 refine Qc ⟨Yr F.plain_max_loop _,zVJ W (numAt xs) (fun i v h=>Oz h) d _ hSf _ 0 _ tv _ rfl (by rw[hsz];exact hn) (W.frame _ _ _ hst' fun b hbf o e=>?_) (Ud _ hS' rfl) fun t' h'' tk'' hk''=>?_⟩
 · exact(Ed _ _ (fun z=>hSf (by rw[z];exact hbf))).trans e
 · rw[hsz]
   refine h t' h'' tk'' fun b o e=>?_
   have hlt:=Qp e
   have n1:b∉[s.heap.objs.size]:=fun hm=>by rw[Qz] at hm;rw[hm] at hlt;exact Wj _ hlt
   have n2:b≠(s.heap.push { cls:=.type "list_iterator",data:=.fields #[.ref l,.int 0 0] }).objs.size:=fun z=>by rw[hps] at z;rw[z] at hlt;exact absurd hlt (Ix.mpr (Rf _))
   exact hk'' b o n1 n2 ((Ed _ _ (Ne.symm n2)).trans (hk' b o n1 (Qi _ (Qi _ e))))
variable {X:Cx} {a:Expr} {ga:Lf} {pos p:Pos}
def nS (ns:List Int):Int:=wQ (fun i=>ns.getD i 0) (ns.length - 1)
def aU (g:Lf):Ef:=fun ρ=>(g ρ).bind fun ds=>(gW ds).bind fun ns=>if ns.isEmpty=true then some .non else some (.int (nS ns))
theorem zTb {kp:Pos}{j}{p2:Pos}(hc:X.calm=true)(hg:Gl X "max")(hm:X.mg "max"=none)(h:dL X a ga)(hs:starEach [a] X.env=[(false,eval a X.env)]:=by rfl) :
   PF X (.Call (.Name "max" p) [a] [⟨some "default",.Constant .none j p2,kp⟩] pos) (aU ga):=by
 refine PE.to (t:=fun σ H Q=>zSf X.K ga σ H fun v H1=>∃q ns,v = .ref q/\SqL X.K H1 q (ns.map V.int)/\Q (if ns.isEmpty=true then .non else .int (nS ns)) H1) ?_ ?_
 · intro pins s σ H Q I h0
   refine Rp (qW I hg hm (u:=.builtin "max") (by rfl) ?_ (by decide) (by decide))
   refine callWith_kw ?_ (by rw[hs];rfl) (by rw[hs];rfl) (by rfl) (by rfl)
   refine spliced_more (thn (h pins s σ H _ I h0) fun u s1 ⟨v,H1,I1,rv,q,ns,e,sq,q1⟩=>?_) (by rw[hs];rfl)
   subst e
   cases rv
   refine spliced_none ?_
   refine kws_cons (thn (zU7 (X:=X) (j:=j) (pos:=p2) pins s1 σ H1 _ I1 (show tC .non σ H1 (fun v H2=>v = .non/\H2=H1) from⟨rfl,rfl⟩)) fun u2 s2 ⟨v2,H2,I2,rv2,e2,e3⟩=>?_)
   subst e2 e3
   cases rv2
   refine kws_nil ?_
   obtain⟨its,rl,pl,_⟩:=I2.list sq
   cases ns with
   | nil =>
     cases rl
     exact zTf (I2.ok.hd hc) pl.isList fun h' tk hk=>⟨.non,H2,I2.kept hk,rfl,q1⟩
   | cons x r =>
     obtain⟨ps,rfl,hps⟩:=mH rl
     have hit:s2.heap.IsList q (intItems ps.toArray):=by
       have:=pl.isList
       unfold intItems
       rw[Ot]
       exact this
     have hlen:ps.length=r.length+1:=by
       have:=Ep List.length hps
       simpa using this
     have hnum:(fun i=>numAt ps.toArray i)=fun i=>(x::r).getD i 0:=by
       funext i
       rw[←hps]
       unfold numAt
       rw[Rh,Wp,Ws]
     refine zVi (I2.ok.hd hc) hit (by simp[hlen]) fun t h' tk hk=>⟨.int _,H2,I2.kept hk,⟨t,rfl⟩,?_⟩
     have e:wQ (numAt ps.toArray) (ps.toArray.size - 1)=nS (x::r):=by
       unfold nS
       rw[←hnum,Qu,hlen,Qh]
     rw[e]
     exact q1
 · rintro σ H Q ⟨G0,H0,G,ρ,d,good,hf,k⟩
   unfold aU at hf
   obtain⟨ds,h1,hf⟩:=Qq.mp hf
   obtain⟨ns,h2,hf⟩:=Qq.mp hf
   refine⟨G0,H0,G,ρ,ds,good,h1,fun q vs H1 G1 s1 e1 r1=>⟨q,ns,rfl,by rw[←mO h2 r1];exact s1.sub.seq e1,?_⟩⟩
   split at hf
   · rename_i he
     cases hf
     rw[Qo he]
     exact k _ _ G1 s1 (uV.mpr rfl)
   · rename_i he
     cases hf
     rw[Qs he]
     exact k _ _ G1 s1 (zJ.mpr rfl)
end
def zQH (K:PySem.W.Frag)(C:Addr)(ns:List Str)(g:Lf):TS:=fun DD σ H=>∃(G0 H0 G:Hp) (ρ:List B) (p dx:Addr) (pre:List Str) (us:List V) (xs ds:List D),
 Good K G0 H0 G H σ ρ/\NoOw ρ/\σ[0]?=some (some (.ref p))/\H p=some (.ins C dx (pre.zip us))/\G p=none/\H0 p=none/\pre.length=us.length/\(pre++ns).Nodup/\(pre++ns).length<=900/\Reps K G xs us/\g ρ=some ds /\
 ∀σ' H' G' vs,Step G0 H0 G' H'->H' p=some (.ins C dx ((pre++ns).zip vs))->G' p=none->Reps K G' (xs++ds) vs->DD.nx σ' H'
section
variable {X:Cx} {e:Expr} {fa:Ef} {pos:Pos}
theorem zU3 {ρ:List B}(h:NoOw ρ)(i:Nat)(d:D):NoOw (ρ.set i (.fz d)):=by
 have key:∀(j:Nat) (b:B),(∀d',b ≠ .fz d')->(ρ.set i (.fz d))[j]?=some b->ρ[j]?=some b:=fun j b hb e=>by
   by_cases hj:i=j
   · subst hj
     rw[Tj] at e
     split at e
     · split at e
       · exact absurd (Wb e).symm (hb d)
       · cases e
     · rename_i z;exact absurd rfl z
   · rwa[Qm hj] at e
 exact⟨fun j es z=>h.1 j es (key j _ (fun _ y=>nomatch y) z),fun j es z=>h.2.1 j es (key j _ (fun _ y=>nomatch y) z),fun j es z=>h.2.2 j es (key j _ (fun _ y=>nomatch y) z)⟩
theorem zTX (i:Nat){C:Addr}{y:Str}{ns:List Str}{g:Lf}{rest:List Stmt}{pos':Pos}(hN:X.N.Nodup)(he:PF X e fa)(hr:PSs X rest (zUM X.K C ns g))(hi0:0≠i:=by decide)(hi:X.N[i]?=some y:=by rfl)(hx:Loc X.env.scope y:=by first | exact .inl rfl | exact .inr rfl)
   (hs:swapsWith e (some (.Name y pos')) pos.line X.env=pure false:=by rfl) (hf:X.fn y=true∨X.env.scope.names.lookup y=some .local:=by first | exact .inl rfl | exact .inr rfl) :
   PSs X (.Assign [.Name y pos'] e pos::rest) (zQH X.K C ns fun ρ=>(fa ρ).bind fun d=>g (ρ.set i (.fz d))):=by
 intro pins s σ H D I h
 refine jO (aI hN hi hx he hs hf) hr pins s σ H D I ?_
 obtain⟨G0,H0,G,ρ,p,dx,pre,us,xs,ds,good,now,hself,hp,gp,h0,hl,nd,hz,rs,hg,k⟩:=h
 obtain⟨d,h1,h2⟩:=Qq.mp hg
 refine⟨G0,H0,G,ρ,d,good,h1,fun v H1 G1 s1 r1=>?_⟩
 have gp1:G1 p=none:=(s1.new p _ hp rfl).trans gp
 refine⟨G0,H0,G1,ρ.set i (.fz d),p,dx,pre,us,xs,ds,(good.step s1).setF i r1,zU3 now i d,?_,s1.hh _ _ hp,gp1,h0,hl,nd,hz,rs.mono s1.gg,h2,fun H' G' vs st q1 q2 q3=>k _ H' G' vs st q1 q2 q3⟩
 rw[Qm (Ne.symm hi0)];exact hself
variable {P:Program} {w:World} {K:PySem.W.Frag} {mg:Str->Option Value} {base:Heap} {x qual:Str} {st:Stmt} {f C:Addr} {fd:FuncData} {N ps ns:List Str} {k:Nat} {sf:Str}
theorem zVq {g:Lf}(F:Fun K x qual st f fd)(S:FnScope N (sf::ps) (zU st))(hnd:ns.Nodup)(hlen:ns.length<=900)
   (hb:∀(cdv:Value) (A:Around) (outer:List Env) (s:Shared) (H:Hp) (E:XK),Room k (A.deeper (envOfC qual (zU st) s.heap.objs.size f cdv))->PSs (iW CX0 P w K mg base N qual (zU st) f cdv A outer s H E).nox (yH st) (zQH K C ns g)) :
   FnOk P w K mg base CX0 (k+1) f fd (sf::ps) (spI K C ns ps.length fun ds=>g (mW N.length ds)):=by
 refine F.ok S (fun vs H Q E h=>?_) (fun cdv A outer s H vs Q E hr h=>⟨_,hb cdv A outer s H E hr,?_⟩)
 · obtain⟨p,dx,rest,G,H0,ds,xs,rfl,_,_,_,_,_,rs,hl,_⟩:=h
   rw[Qh,Qh,←rs.length,hl]
 · obtain⟨p,dx,rest,G,H0,ds,xs,rfl,rfl,h1,h2,h3,sub,rs,hl,hf,k⟩:=h
   have hne:p≠dx:=h3.symm
   have hp1:(upd H0 dx (.own p)) p=none:=by rw[zP hne];exact h1
   have st1:Step G H0 G (upd H0 dx (.own p)):=Step.own sub h2
   have st2:Step G H0 G (upd (upd H0 dx (.own p)) p (.ins C dx [])):=st1.trans (Step.own st1.sub hp1)
   have good:Good K G H0 G (upd (upd H0 dx (.own p)) p (.ins C dx [])) (uW N (.ref p::rest)) (mW N.length ds):=by
     refine⟨st2,?_,fun i j a b c q1 _ o1 _=>((fU _ ds).own q1 o1).elim⟩
     unfold uW mW
     rw[Wo,Qh,Ym,←rs.length]
     exact .cons .no (lZ _ rs)
   refine⟨G,H0,G,_,p,dx,[],[],[],xs,good,fU _ ds,rfl,zM,sub.free h1,h1,rfl,hnd,hlen,zN.mpr rfl,hf,fun σ' H' G' us s' q1 q2 q3=>k H' G' us s' q1 q2 q3⟩
end
def noN:D->Bool
 | .int _=>true
 | .str _=>true
 | .tup _=>true
 | _=>false
def zTo (x y:D):Option Bool:=match x,y with
 | .non,.lst ds=>if ds.all noN then some false else none
 | .non,.tup ds=>if ds.all noN then some false else none
 | _,_=>none
section
variable {X:Cx} {pins:List (Addr×Obj)} {σ:St} {H G:Hp} {s:Shared}
theorem zVg (I:Inv X pins σ H s)(sub:Same G H){A:Around}(hu:A.units < cLine):∀ {ds:List D} {xs:List V} {its:List Value},ds.all noN=true->Reps X.K G ds xs->Vals xs its->∀w∈its,SeqAt.EqAt A s w .none false
 | [],_,_,f,r,v=>by
   rw[zN] at r;subst r
   cases v
   exact fun w hw=>nomatch hw
 | d::t,_,_,f,r,v=>by
   obtain⟨z,zr,rfl,q1,q2⟩:=zQ.mp r
   cases v with
   | cons v1 v2 =>
     rw[List.all_cons,Ee] at f
     intro w hw
     rcases Qf.mp hw with rfl | hw
     · cases d with
       | int i=>rw[zJ] at q1;subst q1;obtain⟨t,rfl⟩:=v1;exact SeqAt.EqAt.int_none _ _
       | str i=>rw[xT] at q1;subst q1;obtain⟨t,rfl⟩:=v1;exact SeqAt.EqAt.str_none _ _
       | tup es =>
         obtain⟨a,vs,rfl,p1,p2⟩:=xU.mp q1
         cases v1
         obtain⟨jts,_,t1,_⟩:=I.tuple (sub.tup p1)
         exact SeqAt.EqAt.tuple_none t1 hu
       | _=>exact absurd f.1 (by unfold noN;exact Wu)
     · exact zVg I sub hu f.2 q2 v2 w hw
variable {k:Nat}
theorem zSd (hr:Room k X.A):OpR X (compareOp .In) (fun x y H Q=>∃G d d' b,Same G H/\Rep X.K G d x/\Rep X.K G d' y/\zTo d d'=some b/\Q (.bl b) H):=by
 intro pins s σ H x y v u Q I rx ry h
 obtain⟨G,d,d',b,sub,r1,r2,h,q⟩:=h
 have hu:=hr.units
 have hu1:X.A.in1.units < cLine:=by show X.A.units+1 < cLine;lia
 have none:∀its:List Value,its.toArray.any (fun _=>false)=false:=fun its=>by simp
 unfold zTo at h
 split at h
 · rename_i ds
   rw[uV] at r1;subst r1;cases rx
   split at h
   · rename_i f
     cases h
     obtain⟨p,xs,rfl,q1,q2⟩:=yM.mp r2
     cases ry
     obtain⟨its,rv,pl,hz⟩:=I.list (sub.seq q1)
     have m:=zVg (A:=X.A.in1) I sub hu1 f q2 rv
     exact SeqAt.in_listAt (fun _=>false) pl.isList (fun w hw=>m w (by simpa using hw)) ⟨.bl _,H,I,rfl,by rw[none];exact q⟩
   · cases h
 · rename_i ds
   rw[uV] at r1;subst r1;cases rx
   split at h
   · rename_i f
     cases h
     obtain⟨p,xs,rfl,q1,q2⟩:=xU.mp r2
     cases ry
     obtain⟨its,rv,pl,hz⟩:=I.tuple (sub.tup q1)
     have m:=zVg (A:=X.A.in1) I sub hu1 f q2 rv
     exact SeqAt.in_tupleAt (fun _=>false) pl (fun w hw=>m w (by simpa using hw)) ⟨.bl _,H,I,rfl,by rw[none];exact q⟩
   · cases h
 · cases h
theorem zRt (hr:Room k X.A):CmR X .In zTo:=⟨_,zSd hr,fun d d' k G H x y Q h s rx ry q=>⟨G,d,d',k,s,rx,ry,h,q H G (.refl s)⟩⟩
end
section
variable {X:Cx} {c o:Expr} {fa:Ef} {p apos cpos:Pos}
def bD (c m:Str)(n:Nat)(d:List D->Option (List D))(fa:Ef)(g:Lf):Lf:=fun ρ=>(fa ρ).bind fun x=>(g ρ).bind fun ds=>match x with
 | .obj c' ns _=>if c'=c/\ds.length+1=n/\m∉ns then d (x::ds) else none
 | _=>none
theorem zVt {pl:Sem Bool}{c m:Str}{k n:Nat}{C fad:Addr}{fd:FuncData}{ps:List Str}{d:List D->Option (List D)}(hC:ClsAt X.K c C)(hcl:Cls X.K C)(hm:Meth X.K C m fad)(F:FnOk X.prog X.w X.K X.mg X.base CX0 k fad fd ps (spL X.K n d))(hr:Room k X.A)(hb:Binds X.K fd ps [])
   (ho:PF X o fa)
   (ht:eval (.Call (.Attribute o m apos) [] [] cpos) X.env=(do
     let ov ←eval o X.env
     standAt apos.atName
     let (f,first) ←holding [ov] (getMethod ov m pl)
     callWith cpos f first (backTo cpos (starEach [] X.env)) (backToKw cpos (keywordEach [] X.env))):=by rfl) :
   PFr X (.Call (.Attribute o m apos) [] [] cpos) (bD c m n d fa zO):=by
 refine PE.toR (zYG (pl:=pl) (E:=E0) ho hcl hm F hr hb .nil gU ht) ?_
 rintro σ H Q ⟨G0,H0,G,ρ,r,good,hf,kk⟩
 unfold bD at hf
 obtain⟨x,h1,hf1⟩:=Qq.mp hf
 obtain⟨ds,h2,hf2⟩:=Qq.mp hf1
 clear hf hf1
 cases h2
 cases x with
 | obj c' ns xs =>
   dsimp only at hf2
   split at hf2
   · rename_i hq
     obtain⟨rfl,hl,hmn⟩:=hq
     refine⟨G0,H0,G,ρ,_,good,h1,fun v H1 G1 s1 r1=>?_⟩
     obtain⟨C',q,dx,vs,r2,rfl,r3,r4,r5⟩:=oY.mp r1
     have ec:=hC.one r2
     subst ec
     refine⟨q,dx,_,rfl,s1.sub _ _ r3,wU hmn,?_⟩
     exact⟨G1,[.obj c' ns xs],r,s1.sub,zQ.mpr ⟨_,_,rfl,r1,zN.mpr rfl⟩,hl,hf2,fun p us H' G' st hn hp gp rr=>kk p us H' G' (s1.trans st) (s1.hh.free hn) hp gp rr⟩
   · cases hf2
 | _=>cases hf2
end
abbrev Uf:=List B->Option (Bool×List B)
inductive OutK where
 | nx (ρ:List B)
 | rt (d:D) (ρ:List B)
abbrev Kf:=List B->Option OutK
section
variable {X:Cx} {k:Nat}
def zRq (x y:D):Option Bool:=(eqD 40 x y).map (!·)
theorem zR9 (hr:Room k X.A):CmR X .NotEq zRq:=by
 refine⟨fun x y H Q=>∃G d d' b,Same G H/\Rep X.K G d x/\Rep X.K G d' y/\eqD 40 d d'=some b/\Q (.bl (!b)) H,?_,fun d d' k G H x y Q h s rx ry q=>?_⟩
 · intro pins s σ H x y v u Q I rx ry ⟨G,d,d',b,sub,r1,r2,h,q⟩
   have hu:=hr.units
   exact(zR0 I sub 40 X.A d d' x y v u b (by lia) h r1 r2 rx ry).2.1 X.prog X.w X.xe _ ⟨.bl (!b),H,I,rfl,q⟩
 · unfold zRq at h
   obtain⟨b,h1,rfl⟩:=Qy.mp h
   exact⟨G,d,d',b,s,rx,ry,h1,q H G (.refl s)⟩
end
end L2
namespace L2
open PySem PySem.W PySem.Spec PyProof.Rows
abbrev IIS:=Int×Int×Str
def ltT (a b:IIS):Bool:=decide (a.1 < b.1)||(a.1==b.1&&yV a.2 b.2)
theorem mB {a b:IIS}:ltT a b=true↔a.1 < b.1∨(a.1=b.1/\yV a.2 b.2=true):=by
 unfold ltT
 simp[Tt,Ee]
theorem zWO (a:IIS):ltT a a=false:=by
 cases h:ltT a a
 · rfl
 · rw[mB,xQ] at h
   rcases h with h | h
   · lia
   · cases h.2
theorem zRF {a b c:IIS}(h1:ltT a b=true)(h2:ltT b c=true):ltT a c=true:=by
 rw[mB] at *
 rcases h1 with h1 | h1<;>rcases h2 with h2 | h2
 · exact .inl (by lia)
 · exact .inl (by lia)
 · exact .inl (by lia)
 · exact .inr ⟨by lia,fP h1.2 h2.2⟩
theorem zTy {a b c:IIS}(h:ltT a c=true):ltT a b=true∨ltT b c=true:=by
 simp only[mB] at *
 rcases Int.lt_trichotomy a.1 b.1 with q | q | q
 · exact .inl (.inl q)
 · rcases h with h | h
   · exact .inr (.inl (by lia))
   · rcases fK (b:=b.2) h.2 with z | z
     · exact .inl (.inr ⟨q,z⟩)
     · exact .inr (.inr ⟨by lia,z⟩)
 · rcases h with h | h
   · exact .inr (.inl (by lia))
   · exact .inr (.inl (by lia))
theorem zUG (f:Nat->IIS):SWO fun i j=>ltT (f i) (f j):=⟨fun a=>zWO _,fun a b c=>zRF,fun a b c=>zTy⟩
abbrev tZ:IIS:=(0,isZ)
abbrev zSo (ps:List IIS)(i j:Nat):Bool:=ltT (ps.getD i tZ) (ps.getD j tZ)
def ixT (ps:List IIS):List Nat:=wZ (zSo ps) ps.length
theorem eQ (ps:List IIS):(ixT ps).Perm (List.range ps.length):=vA _ _
def gZ (ps:List IIS):List IIS:=(ixT ps).map fun i=>ps.getD i tZ
theorem zXS (ps:List IIS):(gZ ps).Perm ps:=by
 unfold gZ
 refine((eQ ps).map _).trans ?_
 rw[uS]
theorem zZ0 (ps:List IIS):(gZ ps).Pairwise fun a b=>ltT b a=false:=by
 unfold gZ
 rw[Ek]
 exact(iT (zUG fun i=>ps.getD i tZ) ps.length).imp fun {a b} h=>Lx.le (zUG fun i=>ps.getD i tZ) h
def zRu (h:Heap)(p:IIS)(u:Value):Prop:=∃a o n t t1 t',u = .ref a/\h.get? a=some o/\o.cls = .type "tuple"/\o.data = .seq #[.int p.1 t,.int p.2.1 t1,.str p.2.2 t'] n
theorem zUH {h:Heap}:∀ {ps:List IIS} {us:List Value},Paired (zRu h) ps us->∃fs:List Value,KatTups h us fs/\fs.length=us.length/\∀v∈fs,∃i t,v=Value.int i t
 | _,_,.nil=>⟨[],KatTups.nil,rfl,fun _ h=>nomatch h⟩
 | _,_,.cons r t=>by
   obtain⟨a,o,n,t1,t2,t3,rfl,e,c,d⟩:=r
   obtain⟨fs,q1,q2,q3⟩:=zUH t
   refine⟨_::fs,KatTups.cons e c d rfl q1,by simp[q2],fun v hv=>?_⟩
   rcases Qf.mp hv with rfl | hv
   · exact⟨_,_,rfl⟩
   · exact q3 v hv
section
variable {P:Program} {w:World} {A:Around} {E:Value->Shared->Prop} {s:Shared}
theorem zTp {ps:List IIS}{us:List Value}(hp:Paired (zRu s.heap) ps us)(h2:2<=us.length):∃κ,(∀(E':Value->Shared->Prop) Q,Q κ s->wpAny (model P w) A (keyKind' us.toArray) Q E' s) /\
   ∀i j C,i < us.length->j < us.length->C (zSo ps i j) s->kas_ask P w A κ us i j C s:=by
 obtain⟨fs,q1,q2,q3⟩:=zUH hp
 have hl:ps.length=us.length:=Ye hp
 refine⟨tuples' ((Value.type "int") != Value.type "tuple"),fun E' Q' hQ=>kat_kind q1 (by lia) (fun v hv=>?_) rfl hQ,fun i j C hi hj hC=>?_⟩
 · obtain⟨n,t,rfl⟩:=q3 v hv
   exact Looks.of_pure rfl
 · obtain⟨a,o,n,t1,t2,t5,ea,e,c,d⟩:=wC (i:=i) (da:=tZ) (db:=Value.none) hp (by lia)
   obtain⟨b,o',n',t3,t4,t6,eb,e',c',d'⟩:=wC (i:=j) (da:=tZ) (db:=Value.none) hp (by lia)
   have hC:C (ltT (ps.getD i tZ) (ps.getD j tZ)) s:=hC
   generalize ps.getD i tZ=x at *
   generalize ps.getD j tZ=y at *
   obtain⟨x1,x2,x3⟩:=x
   obtain⟨y1,y2,y3⟩:=y
   unfold kas_ask
   rw[ea,eb]
   refine kat_lt e d e' d' ?_
   show KatLex _ _ _ _ _ _ [(Value.int x1 t1,Value.int y1 t3),(Value.int x2 t2,Value.int y2 t4),(Value.str x3 t5,Value.str y3 t6)] 0 _
   refine kat_cons (Tb ?_)
   by_cases h1:x1=y1
   · subst h1
     have e1:(x1==x1)=true:=by simp
     rw[e1]
     refine kat_yes (kat_cons (Tb ?_))
     by_cases h3:x2=y2
     · subst h3
       have e2:(x2==x2)=true:=by simp
       rw[e2]
       refine kat_yes (kat_cons (Yn ?_))
       by_cases h4:x3=y3
       · subst h4
         have e3:decide (x3=x3)=true:=by simp
         rw[e3]
         refine kat_yes (kat_nil ?_)
         rw[zWO] at hC
         simpa using hC
       · have e3:decide (x3=y3)=false:=by simp[h4]
         rw[e3]
         refine kat_no ?_
         refine kat_one _ _ (lt_str ?_)
         have e4:ltT (x1,x2,x3) (x1,x2,y3)=decide (x3.cps.toList < y3.cps.toList):=by unfold ltT yV;simp
         rw[e4] at hC
         exact hC
     · have e2:(x2==y2)=false:=by simp[h3]
       rw[e2]
       refine kat_no ?_
       refine kat_one _ _ (lt_int ?_)
       have e4:ltT (x1,x2,x3) (x1,y2,y3)=decide (x2 < y2):=by unfold ltT yV;simp[h3]
       rw[e4] at hC
       exact hC
   · have e1:(x1==y1)=false:=by simp[h1]
     rw[e1]
     refine kat_no ?_
     refine oneLt_int ?_
     have e3:ltT (x1,x2,x3) (y1,y2,y3)=decide (x1 < y1):=by unfold ltT;simp[h1]
     rw[e3] at hC
     exact hC
theorem zXT {l:Addr}{vs:List Value}{Q:Value->Shared->Prop}{lt:Nat->Nat->Bool}(W:SWO lt)(hl:s.heap.IsList l vs.toArray)(h64:vs.length<=1000)
   (hq:2<=vs.length->∀h':Heap,(∀b o,s.heap.get? b=some o->h'.get? b=some o)->∃κ,(∀(E':Value->Shared->Prop) Q,Q κ { s with heap:=h' }->wpAny (model P w) A.in1.in1 (keyKind' vs.toArray) Q E' { s with heap:=h' }) /\
     ∀i j C,i < vs.length->j < vs.length->C (lt i j) { s with heap:=h' }->kas_ask P w A.in1.in1 κ vs i j C { s with heap:=h' })
   (h:∀(h':Heap) n,(∀c o,s.heap.get? c=some o->h'.get? c=some o)->h'.get? (s.heap.objs.size+1)=some (seqObj "list" (List.toArray ((wZ lt vs.length).map fun i=>vs.getD i Value.none)) n)->Q (.ref (s.heap.objs.size+1)) { s with heap:=h' }) :
   wpAny (model P w) A (call (.builtin "sorted") [.ref l]) Q E s:=by
 have hsz:((s.heap.push (seqObj "list" #[] 0)).update s.heap.objs.size (Obj.mapSeq (· ++ vs.toArray))).objs.size=s.heap.objs.size+1:=by rw[Op,size_push']
 have q:(((s.heap.push (seqObj "list" #[] 0)).update s.heap.objs.size (Obj.mapSeq (· ++ vs.toArray))).push (seqObj "list" vs.toArray 0)).get? (s.heap.objs.size+1)=some (seqObj "list" vs.toArray 0):=by
   rw[←hsz];exact Wr _ rfl
 have old:∀b o,s.heap.get? b=some o->(((s.heap.push (seqObj "list" #[] 0)).update s.heap.objs.size (Obj.mapSeq (· ++ vs.toArray))).push (seqObj "list" vs.toArray 0)).get? b=some o:=fun b o e=>by
   have hlt:b < s.heap.objs.size:=Qp e
   exact Qi _ (by rw[El _ _ _ _ (Wf hlt)];exact Qi _ e)
 refine Calls.call_function_entry kind_sorted plain_sorted entry_sorted (args_sorted1 _) ?_
 unfold Builtin.«sorted»
 refine Qr (m:=checkCount "sorted" 1 1 _) (Qc (Qr (collect_list hl ?_ (by rw[Wn];lia))))
 refine Qr (Yx ?_ (by rw[Wn];lia))
 show wpAny _ _ _ _ _ { s with heap:=((s.heap.push (seqObj "list" #[] 0)).update s.heap.objs.size (Obj.mapSeq (· ++ vs.toArray))).push (seqObj "list" vs.toArray 0) }
 rw[hsz]
 refine Qr (Rx (wpAny_call_entry slot_list_sort ⟨_,q,rfl⟩ entry_list_sort (zT6 (lt:=lt) W q h64 (fun h2 h' k=>hq h2 h' fun b o e=>k b o (Wf (Tl (Qp e))) (old b o e)) ⟨_,rfl,?_⟩) (args_list_sort _)))
 obtain⟨n,hn⟩:=sortedHeap_at (out:=List.toArray ((wZ lt vs.length).map fun i=>vs.getD i Value.none)) q
 refine Qc ⟨_,rfl,h _ n (fun c o z=>?_) hn⟩
 have lt:c < s.heap.objs.size:=Qp z
 exact(sortedHeap_old (Wf (Tl lt)) (by rw[Tv,hsz];exact Tl (Tl lt))).trans (old c o z)
end
def dT3 (p:IIS):D:=.tup [.int p.1,.int p.2.1,.str p.2.2]
def zSi:D->Option IIS | .tup [.int i,.int j,.str z]=>some (i,j,z) | _=>none
def aX:List D->Option (List IIS)
 | []=>some []
 | d::r=>(zSi d).bind fun p=>(aX r).map (p::·)
theorem zTe {d:D}{p:IIS}(h:zSi d=some p):d=dT3 p:=by
 unfold zSi at h
 split at h
 · cases h;rfl
 · cases h
theorem zYo:∀ {ds:List D} {ps:List IIS},aX ds=some ps->ds=ps.map dT3
 | [],_,h=>by cases h;rfl
 | d::r,ps,h=>by
   unfold aX at h
   obtain⟨p,h1,h⟩:=Qq.mp h
   obtain⟨qs,h2,rfl⟩:=Qy.mp h
   rw[zTe h1,zYo h2];rfl
theorem aY:∀ps:List IIS,aX (ps.map dT3)=some ps
 | []=>rfl
 | p::r=>by
   have:=aY r
   simp only[Wo,aX,this]
   rfl
def pR (g:Lf):Lf:=fun ρ=>(g ρ).bind fun ds=>(aX ds).bind fun ps=>if ps.length<=1000 then some ((gZ ps).map dT3) else none
theorem zVb {X:Cx}{pins:List (Addr×Obj)}{σ:St}{G H:Hp}{s:Shared}{h':Heap}(I:Inv X pins σ H s)(k:∀b o,s.heap.get? b=some o->h'.get? b=some o)(sub:Same G H):∀ {ps:List IIS} {vs:List V} {us:List Value},Reps X.K G (ps.map dT3) vs->Vals vs us->Paired (zRu h') ps us
 | [],vs,us,h,r=>by rw[List.map_nil,zN] at h;subst h;cases r;exact .nil
 | p::ps,vs,us,h,r=>by
   rw[Wo] at h
   obtain⟨v',vr,rfl,r1,r2⟩:=zQ.mp h
   cases r with
   | cons w1 w2 =>
     refine .cons ?_ (zVb I k sub r2 w2)
     obtain⟨b,us',rfl,q1,q2⟩:=xU.mp r1
     cases w1
     obtain⟨_,_,rfl,a1,a2⟩:=zQ.mp q2
     obtain⟨_,_,rfl,a3,a4⟩:=zQ.mp a2
     obtain⟨_,_,rfl,a5,a6⟩:=zQ.mp a4
     rw[zN] at a6;subst a6
     rw[zJ] at a1 a3;rw[xT] at a5
     subst a1 a3 a5
     obtain⟨its,rv,⟨o,e,c,n,d⟩,_⟩:=I.tuple (sub.tup q1)
     obtain⟨u1,r1,e1,r2⟩:∃u1 r1,its=u1::r1/\RelV (.int p.1) u1/\Vals [.int p.2.1,.str p.2.2] r1:=by cases rv with | cons x y=>exact⟨_,_,rfl,x,y⟩
     obtain⟨u2,r3,e2,r4⟩:∃u2 r3,r1=u2::r3/\RelV (.int p.2.1) u2/\Vals [.str p.2.2] r3:=by cases r2.2 with | cons x y=>exact⟨_,_,rfl,x,y⟩
     obtain⟨u3,e3,r5⟩:∃u3,r3=[u3]/\RelV (.str p.2.2) u3:=by cases r4.2 with | cons x y=>cases y;exact⟨_,rfl,x⟩
     obtain⟨t,rfl⟩:=r2.1
     obtain⟨t',rfl⟩:=r4.1
     obtain⟨t2,rfl⟩:=r5
     subst e1;subst e2;subst e3
     exact⟨b,o,n,t,t',t2,rfl,k _ _ e,c,d⟩
section
variable {X:Cx} {a:Expr} {ga:Lf} {p pos:Pos}
theorem zX5:CallR X (.builtin "sorted") (fun xs H Q=>∃(q:Addr) (vs:List V) (ps:List IIS) (G:Hp),xs=[V.ref q]/\SqL X.K H q vs/\Same G H/\Reps X.K G (ps.map dT3) vs/\ps.length<=1000 /\
   ∀l,H l=none->Q (.ref l) (upd H l (.lst ((ixT ps).map fun i=>vs.getD i .non)))):=by
 intro pins s σ H xs us Q I r h
 obtain⟨q,vs,ps,G,rfl,hq,sm,hp,h64,k⟩:=h
 obtain⟨u,rfl,ru⟩:=gI r
 cases ru
 obtain⟨its,rv,pl,hz⟩:=I.list hq
 have hlen:its.length=vs.length:=rv.length.symm
 have hps:ps.length=vs.length:=by have:=hp.length;rwa[Qt] at this
 refine zXT (lt:=zSo ps) (zUG fun i=>ps.getD i tZ) pl.isList (by lia) (fun h2 h' kp=>?_) fun h' n kp hn=>?_
 · exact zTp (s:={ s with heap:=h' }) (zVb I kp sm hp rv) h2
 · have hsz:s.heap.objs.size<=s.heap.objs.size+1:=Rf _
   have en:its.length=ps.length:=by lia
   rw[en] at hn
   change h'.get? (s.heap.objs.size+1)=some (seqObj "list" (List.toArray ((ixT ps).map fun i=>its.getD i Value.none)) n) at hn
   have hpm:=eQ ps
   have hvals:Vals ((ixT ps).map fun i=>vs.getD i .non) ((ixT ps).map fun i=>its.getD i Value.none):=by
     have key:∀l:List Nat,(∀i∈l,i < vs.length)->Vals (l.map fun i=>vs.getD i .non) (l.map fun i=>its.getD i Value.none):=by
       intro l
       induction l with
       | nil=>intro _;exact .nil
       | cons i r ih=>intro hh;exact .cons (wC rv (hh i (by simp))) (ih fun j hj=>hh j (by simp[hj]))
     exact key _ fun i hi=>(by have:i < ps.length:=(by simpa using hpm.subset hi);lia)
   refine⟨.ref (s.heap.objs.size+1),_,I.laid (t':=s.toks) (o:=.lst ((ixT ps).map fun i=>vs.getD i .non)) kp hsz ?_,rfl,k _ (I.hok.fresh hsz)⟩
   refine⟨?_,_,n,hvals,by simpa [seqObj] using hn⟩
   rw[Qt,hpm.length_eq,Ri]
   exact Wc (vP (by show ps.length<=100000;lia))
theorem zZa (hg:Gl X "sorted")(hm:X.mg "sorted"=none)(h:dL X a ga)(hs:starEach [a] X.env=[(false,eval a X.env)]:=by rfl):PFr X (.Call (.Name "sorted" p) [a] [] pos) (pR ga):=by
 refine PE.toR (tO zX5 hg hm (by rfl) (yX h xL (by rw[hs];rfl)) (by decide) (by decide) (by rw[hs];rfl) (by rfl)) ?_
 rintro σ H Q ⟨G0,H0,G,ρ,d,good,hf,k⟩
 unfold pR at hf
 obtain⟨ds,h1,hf⟩:=Qq.mp hf
 obtain⟨ps,h2,hf⟩:=Qq.mp hf
 split at hf
 · rename_i hl
   cases hf
   refine⟨G0,H0,G,ρ,_,good,h1,fun q vs H1 G1 s1 hq rs=>?_⟩
   have e:=zYo h2
   subst e
   refine⟨q,vs,ps,G1,rfl,s1.sub.seq hq,s1.sub,rs,hl,fun l hl'=>?_⟩
   have hin:∀i∈ixT ps,i < ps.length:=fun i hi=>by simpa using (eQ ps).subset hi
   have e2:(gZ ps).map dT3=(ixT ps).map fun i=>(ps.map dT3).getD i .non:=by
     unfold gZ
     rw[Tr]
     refine Yu fun i hi=>?_
     have:=hin i hi
     simp[this]
   rw[e2] at k
   exact k l _ _ G1 (s1.trans (Step.own s1.sub hl')) (s1.hh.free hl') zM (s1.sub.free hl') (bT rs _ fun i hi=>by rw[Qt];exact hin i hi)
 · cases hf
end
end L2
namespace L2
open PySem PySem.W PySem.Spec PyProof.Rows
section
variable {X:Cx} {c1:Expr} {fa:Ef} {apos cpos pos:Pos}
def nO (i j:Nat)(c m:Str)(f:List Str->List D->List D->Option (List D))(fi:Ef):Sf:=fun ρ=>(fi ρ).bind fun d=>match d,ρ[j]?,ρ[i]? with
 | .int n,some (.ow ds),some (.mu (.obj c' ns xs))=>if ds.length<=lim/\c'=c/\m∉ns then(ixN ds.length n).bind fun q=>(ds[q]?).bind fun x=>(f ns xs [x]).map fun ys=>.nx ((ρ.set j (.ow (ds.eraseIdx q))).set i (.mu (.obj c ns ys))) else none
 | _,_,_=>none
theorem zXJ (i j:Nat){pl:Sem Bool}{x c m:Str}{k:Nat}{C fad:Addr}{fd:FuncData}{ps:List Str}{f:List Str->List D->List D->Option (List D)}{p1:Pos}(hC:ClsAt X.K c C)(hcl:Cls X.K C)(hm:Meth X.K C m fad)(F:∀ns,FnOk X.prog X.w X.K X.mg X.base CX0 k fad fd ps (spM X.K c ns 1 (f ns)))(hr:Room k X.A)(hb:Binds X.K fd ps [])
   (ha:PE X c1 (tBM X.K "list" zVc (zWr j) (zYS (tF X.K fa) zVY))) (hN:X.N[i]?=some x:=by rfl) (hv:Vis X.env.scope x:=by first | exact Or.inl rfl | exact Or.inr (Or.inl rfl) | exact Or.inr (Or.inr rfl)) (hd:(x==("__debug__":Str))=false:=by decide) (hcd:(x==("__classdict__":Str))=false:=by decide)
   (hst:starEach [c1] X.env=(false,eval c1 X.env)::starEach [] X.env:=by rfl) (hpl:(backTo cpos (starEach [] X.env)).any (·.1)=false:=by rfl)
   (ht:eval (.Call (.Attribute (.Name x p1) m apos) [c1] [] cpos) X.env=(do
     let ov ←eval (.Name x p1) X.env
     standAt apos.atName
     let (f,first) ←holding [ov] (getMethod ov m pl)
     callWith cpos f first (backTo cpos (starEach [c1] X.env)) (backToKw cpos (keywordEach [] X.env))):=by rfl)
   (hs:swapsWith (.Call (.Attribute (.Name x p1) m apos) [c1] [] cpos) none pos.line X.env=pure false:=by rfl) :
   PFS X (.Expr (.Call (.Attribute (.Name x p1) m apos) [c1] [] cpos) pos) (nO i j c m f fa):=by
 rintro pins s σ H D I ⟨G0,H0,G,ρ,out,good,hf,kk⟩
 unfold nO at hf
 obtain⟨d,h1,hf⟩:=Qq.mp hf
 split at hf
 · rename_i n ds c' ns xs hj hi
   split at hf
   · rename_i hq
     obtain⟨hl,rfl,hmn⟩:=hq
     obtain⟨q,hq,hf⟩:=Qq.mp hf
     obtain⟨x',hx,hf⟩:=Qq.mp hf
     obtain⟨ys,h2,rfl⟩:=Qy.mp hf
     obtain⟨b,ob,e1,e2,e3,e4,e5⟩:=good.mu hi
     have e5':=e5
     obtain⟨C',dx,vs,r1,r2,r3,r4⟩:=e5'
     have ec:=hC.one r1
     subst ec
     obtain⟨p,us,d1,d2,d3,d4,d5⟩:=good.addr hj
     refine jH (zXj (pl:=pl) (E:=E0) (oP hN hv hd hcd) hcl hm (F ns) hr hb .nil gU (yX ha xL hst) hst hpl ht) hs pins s σ H D I ?_
     refine⟨.ref b,e1,b,dx,_,rfl,by rw[e2,r2],wU hmn,.ref p,d1,.inl ⟨rfl,us,.of d2⟩,G0,H0,G,ρ,_,good,h1,fun v H1 G1 s1 rv=>?_⟩
     have good1:=good.step s1
     obtain⟨p',us',f1,f2,f3,f4,f5⟩:=good1.addr hj
     rw[d1] at f1;cases f1
     obtain⟨w,hw,rw'⟩:=f5.get hx
     have hlen:=f5.length
     rw[hlen] at hq
     obtain⟨q1,q2,q3,q4⟩:=zXl hq
     have hbb:us'.length < 2^40:=by rw[←hlen];exact Iy hl (by decide)
     refine⟨p,us',n,q,w,rfl,by rw[zJ.mp rv],f2,by lia,by lia,q1,hw,?_⟩
     show spM X.K c' ns 1 (f ns) [.ref b,w] (upd H1 p (HO.lst (us'.eraseIdx q))) (fun x H1=>D.nx σ H1) E0
     have hne:j≠i:=fun z=>by rw[z,hi] at hj;cases hj
     have good2:=good1.wr hj d1 (f5.erase q)
     have hi2:(ρ.set j (.ow (ds.eraseIdx q)))[i]?=some (.mu (.obj c' ns xs)):=by rw[Qm hne];exact hi
     obtain⟨b',ob',g1,g2,g3,g4,g5⟩:=good2.mu hi2
     rw[e1] at g1;cases g1
     refine⟨b,ob',[w],G1,xs,[x'],ys,rfl,g2,g3,g5,good2.sub,zQ.mpr ⟨_,_,rfl,rw',zN.mpr rfl⟩,rfl,h2,fun H' G' o' st z1 z2 z3=>?_⟩
     exact kk σ H' G' (s1.gg.trans st.gg) (good2.ioM hi2 rfl e1 st z1 z2 z3)
   · cases hf
 · cases hf
end
end L2
namespace L2
open PySem PySem.Spec PyProof.Rows
theorem tS {f g:Sf}{ρ ρ':List B}(h:f ρ=some (.nx ρ')):zH f g ρ=g ρ':=by unfold zH;rw[h];rfl
theorem yT {f g:Sf}{ρ ρ':List B}{r:Option D}(h:f ρ=some (.nx ρ'))(k:(g ρ').bind wH=r):(zH f g ρ).bind wH=r:=by rw[tS h];exact k
theorem zWx {f g:Sf}{ρ:List B}{d:D}(h:f ρ=some (.rt d)):zH f g ρ=some (.rt d):=by unfold zH;rw[h];rfl
theorem mD {g:Gf}{body:Sf}{d:D}{r:List D}{ρ ρ1 ρ2:List B}(h1:g d ρ=some ρ1)(h2:body ρ1=some (.nx ρ2)):nZ g body (d::r) ρ=nZ g body r ρ2:=by
 rw[nZ,h1,Qw,h2,Qw]
theorem zK {f:Ef}{g:Lf}{ρ:List B}{d:D}{ds:List D}(h1:f ρ=some d)(h2:g ρ=some ds):zY f g ρ=some (d::ds):=by unfold zY;rw[h1,h2];rfl
theorem xS {g:Lf}{ρ:List B}{ds:List D}(h:g ρ=some ds):eL g ρ=some (.lst ds):=by unfold eL;rw[h];rfl
theorem dA {n:Nat}{f:List D->Option D}{g:Lf}{ρ:List B}{ds:List D}(h:g ρ=some ds)(hl:ds.length=n):zI n f g ρ=f ds:=by unfold zI;rw[h,Qw,Qo hl]
theorem zVl {c:Str}{ns:List Str}{n:Nat}{f:List D->Option (List D)}{g:Lf}{ρ:List B}{ds xs:List D}(h:g ρ=some ds)(hl:ds.length=n)(hf:f ds=some xs)(hn:ns.length=xs.length):nI c ns n f g ρ=some (.obj c ns xs):=by
 unfold nI;rw[h,Qw,Qo hl,hf,Qw,Qo hn]
theorem zYf {g:Gf}{body:Sf}{P:List B->Prop}:∀(ds:List D),(∀d∈ds,∀ρ,P ρ->∃ρ1 ρ2,g d ρ=some ρ1/\body ρ1=some (.nx ρ2)/\P ρ2)->∀ρ,P ρ->∃ρ',nZ g body ds ρ=some (.nx ρ')/\P ρ'
 | [],_,ρ,h=>⟨ρ,rfl,h⟩
 | d::r,hs,ρ,h=>by
   obtain⟨ρ1,ρ2,e1,e2,h2⟩:=hs d Qv ρ h
   obtain⟨ρ',e,h'⟩:=zYf r (fun d hd=>hs d (Qb _ hd)) ρ2 h2
   exact⟨ρ',by rw[mD e1 e2];exact e,h'⟩
theorem mG {g:Gf}{body:Sf}{P:Nat->List B->Prop}:∀(ds:List D) (n:Nat),(∀(i:Nat) (d:D),ds[i]?=some d->∀ρ,P (n+i) ρ->∃ρ1 ρ2,g d ρ=some ρ1/\body ρ1=some (.nx ρ2)/\P (n+i+1) ρ2)->∀ρ,P n ρ->∃ρ',nZ g body ds ρ=some (.nx ρ')/\P (n+ds.length) ρ'
 | [],_,_,ρ,h=>⟨ρ,rfl,h⟩
 | d::r,n,hs,ρ,h=>by
   obtain⟨ρ1,ρ2,e1,e2,h2⟩:=hs 0 d rfl ρ h
   obtain⟨ρ',e,h'⟩:=mG r (n+1) (fun i d hd ρ hρ=>by
     have q:=hs (i+1) d (by simpa using hd) ρ (by rw[show n+(i+1)=n+1+i by lia];exact hρ)
     rw[show n+(i+1)+1=n+1+i+1 by lia] at q
     exact q) ρ2 h2
   exact⟨ρ',by rw[mD e1 e2];exact e,by rw[Qh,show n+(r.length+1)=n+1+r.length by lia];exact h'⟩
theorem zUg {lo:Int}{n:Nat}{d:D}(h:d∈vK lo n):∃i:Nat,i < n/\d = .int (lo+i):=by
 unfold vK at h
 obtain⟨i,hi,rfl⟩:=Yd.mp h
 exact⟨i,List.mem_range.mp hi,rfl⟩
theorem kD {lo:Int}{n i:Nat}{d:D}(h:(vK lo n)[i]?=some d):i < n/\d = .int (lo+i):=by
 have hl:(vK lo n).length=n:=by simp[vK]
 have hi:i < n:=by rw[←hl];exact(Qn.mp h).1
 unfold vK at h
 rw[Ws,Iq hi] at h
 exact⟨hi,(Wb h).symm⟩
theorem zUR (lo:Int)(n:Nat):(vK lo n).length=n:=by simp[vK]
theorem oH {t:List D}(h:t.length<=100000):okL t=some t:=by
 unfold okL
 rw[Qo h]
theorem nJ {α:Type}(xs:List α)(i:Int)(d:α)(h0:0<=i)(h1:i < xs.length):atI xs i=some (xs.getD i.toNat d):=by
 unfold atI ixN
 rw[Qo h0,Qo h1]
 have:i.toNat < xs.length:=by lia
 simp[List.getD,this]
theorem zWP {α β:Type}(f:α->β)(xs:List α)(i:Int):atI (xs.map f) i=(atI xs i).map f:=by
 unfold atI
 rw[Qt]
 cases ixN xs.length i with
 | none=>rfl
 | some j=>simp
theorem cW {i j:Int}(h1 : -18446744073709551616 < i)(h2:i < 18446744073709551616):zZ8 i j=true:=by
 unfold zZ8;simp only[Tt,Ee,Ry];exact .inl ⟨by lia,by lia⟩
theorem nQ (x y:Str):(x++y).length=x.length+y.length:=Str.length_append x y
theorem zXB {x y:Str}(h:x.length+y.length<=100000):zSn (.str x) (.str y)=some (.str (x++y)):=by
 show(if x.length+y.length<=lim then _ else none)=_
 rw[Qo h]
theorem zTV {x:Str}{i:Int}(h0:0<=i)(h1:i < x.length)(h:x.length<=100000):atD (.str x) (.int i)=some (.str ⟨#[x.cps.toList.getD i.toNat 0]⟩):=by
 have hl:x.cps.toList.length=x.length:=Wg
 show(if x.length<=lim then _ else none)=_
 rw[Qo h,nJ _ i 0 h0 (by rw[hl];exact h1)]
 rfl
end L2
namespace My
open PySem L2
abbrev kW:Stmt:=top 20
abbrev nU:Stmt:=top 21
abbrev lI:Stmt:=top 22
abbrev iE:Stmt:=top 27
abbrev pA:Stmt:=top 28
abbrev nF:Stmt:=top 25
abbrev oN:Stmt:=top 23
abbrev rC:Stmt:=top 24
abbrev pI:Stmt:=top 26
abbrev pC:Stmt:=top 16
abbrev wS:Stmt:=vS (top 18) 5
abbrev uN:Stmt:=top 15
abbrev xC:Stmt:=vS (top 18) 3
abbrev oM:Stmt:=top 29
abbrev iJ:Stmt:=top 14
abbrev zX3:Stmt:=top 7
abbrev zWG:Stmt:=top 8
abbrev sQ:Stmt:=top 9
abbrev lA:Stmt:=top 12
abbrev rB:Stmt:=top 10
abbrev uX:Stmt:=vS (top 18) 1
abbrev kH:Stmt:=top 13
abbrev vG:Stmt:=top 11
abbrev vV:Stmt:=vS (top 18) 2
abbrev zUL:Stmt:=top 30
abbrev sJ:Stmt:=vS (top 6) 0
abbrev qF:Stmt:=vS (top 18) 0
set_option genInjectivity false
set_option genSizeOf false
set_option genSizeOfSpec false
structure Txt (K:PySem.W.Frag)(mg:Str->Option Value) where
 q0:FnT K mg "_law_cell" kW ["_law_script","_law_k"]
 q1:FnT K mg "_law_mixed" nU ["_law_cell_here","_law_k"]
 q2:FnT K mg "_law_word" lI ["_law_seed","_law_j"]
 q3:FnT K mg "_law_row" iE ["_law_seed","_law_many"]
 q4:FnT K mg "_law_turned" pA ["_law_row_here","_law_way"]
 q5:FnT K mg "_law_pages" nF ["_law_told","_law_size","_law_root"]
 q6:FnT K mg "_law_number" oN ["_law_found"]
 q7:FnT K mg "_law_entries" rC ["_law_found","_law_due"]
 q8:FnT K mg "_law_flat" pI ["_law_told"]
 q9:FnT K mg "shape_of" pC ["page"]
 q11:FnT K mg "entries_beneath" uN ["page"]
 q13:FnT K mg "_law_stands" oM ["_law_store","_law_size","_law_there"]
 q14:FnT K mg "root_of" iJ ["pages"]
 q15:FnT K mg "rank" zX3 ["entry"]
 q16:FnT K mg "way" zWG ["branch","entry"]
 q17:FnT K mg "entry_like" sQ ["page","entry"]
 q18:FnT K mg "pages_of" lA ["leaf","things","size"]
 q19:FnT K mg "put_beneath" rB ["page","entry","size"]
 q21:FnT K mg "filled" kH ["pages","size"]
 q22:FnT K mg "taken_beneath" vG ["page","entry","size"]
 q24:FnT K mg "law" zUL ["_law_script"]
 C_Page:Addr
 fi_Page:Addr
 fdi_Page:FuncData
 ca_Page:ClsAt K "Page" C_Page
 cl_Page:Cls K C_Page
 mc_Page:mg "Page"=some (.ref C_Page)
 Fi_Page:Fun K "__init__" "Page.__init__" sJ fi_Page fdi_Page
 bi_Page:Binds K fdi_Page ["self","leaf","things"] []
 mk_Page:Mk K C_Page fi_Page
 n_Page_leaf:NoAttr K C_Page "leaf"
 n_Page_leasts:NoAttr K C_Page "leasts"
 n_Page_most:NoAttr K C_Page "most"
 n_Page_things:NoAttr K C_Page "things"
 C_Store:Addr
 fi_Store:Addr
 fdi_Store:FuncData
 ca_Store:ClsAt K "Store" C_Store
 cl_Store:Cls K C_Store
 mc_Store:mg "Store"=some (.ref C_Store)
 Fi_Store:Fun K "__init__" "Store.__init__" qF fi_Store fdi_Store
 bi_Store:Binds K fdi_Store ["self","size"] []
 mk_Store:Mk K C_Store fi_Store
 n_Store_root:NoAttr K C_Store "root"
 n_Store_size:NoAttr K C_Store "size"
 f_Store_shape:Addr
 fd_Store_shape:FuncData
 F_Store_shape:Fun K "shape" "Store.shape" wS f_Store_shape fd_Store_shape
 b_Store_shape:Binds K fd_Store_shape ["self"] []
 me_Store_shape:Meth K C_Store "shape" f_Store_shape
 f_Store_listed:Addr
 fd_Store_listed:FuncData
 F_Store_listed:Fun K "listed" "Store.listed" xC f_Store_listed fd_Store_listed
 b_Store_listed:Binds K fd_Store_listed ["self"] []
 me_Store_listed:Meth K C_Store "listed" f_Store_listed
 f_Store_put:Addr
 fd_Store_put:FuncData
 F_Store_put:Fun K "put" "Store.put" uX f_Store_put fd_Store_put
 b_Store_put:Binds K fd_Store_put ["self","entry"] []
 me_Store_put:Meth K C_Store "put" f_Store_put
 f_Store_take:Addr
 fd_Store_take:FuncData
 F_Store_take:Fun K "take" "Store.take" vV f_Store_take fd_Store_take
 b_Store_take:Binds K fd_Store_take ["self","entry"] []
 me_Store_take:Meth K C_Store "take" f_Store_take
 z_bool:mg "bool"=none
 z_enumerate:mg "enumerate"=none
 z_int:mg "int"=none
 z_isinstance:mg "isinstance"=none
 z_len:mg "len"=none
 z_list:mg "list"=none
 z_max:mg "max"=none
 z_min:mg "min"=none
 z_range:mg "range"=none
 z_reversed:mg "reversed"=none
 z_sorted:mg "sorted"=none
 z_str:mg "str"=none
 z_tuple:mg "tuple"=none
 z_zip:mg "zip"=none
set_option genInjectivity true
set_option genSizeOf true
set_option genSizeOfSpec true
section
seal PySem.Sem.wp
variable {P:Program} {w:World} {K:PySem.W.Frag} {mg:Str->Option Value} {base:Heap}
theorem zZb:FnScope ["self","leaf","things","lasts"] ["self","leaf","things"] (zU sJ):=xD (by decide +kernel)
def zZD:Lf:=(fun ρ=>((eIf (tB1 (eV 1)) (eL (wA (iL (eV 2)) 1 [] (gN 0) tOK (eIx (eV 0) (eC (.int 1))))) (eL (wA (iL (eV 2)) 1 [] (gN 0) tOK (yZ "Page" "most" (eV 0))))) ρ).bind fun d=>(zY (eV 1) (zY (eV 2) (zY (eIf (tB1 (eV 1)) (eV 2) (eL (wA (iL (eV 2)) 1 [] (gN 0) tOK (eIx (yZ "Page" "leasts" (eV 0)) (eC (.int 0)))))) (zY (aU (iL (eV 3))) zO)))) (ρ.set 3 (.fz d)))
def sL:List D->Option (List D):=fun ds=>zZD (mW 4 ds)
theorem pT (T:Txt K mg):FnOk P w K mg base CX0 1 T.fi_Page T.fdi_Page ["self","leaf","things"] (spI K T.C_Page ["leaf","things","leasts","most"] 2 sL) :=
 zVq (k:=0) T.Fi_Page zZb (by decide +kernel) (by decide) fun cdv A outer s H E hr =>
   (zTX 3 zZb.nd (zUp (yL (zW 1)) (wO (mE (zU sJ) ["self","leaf","things","lasts"] ["entry"] [] [] (eF 0) (fH (zW 2)) rfl rfl rfl (by decide +kernel) (fun _ _ _ _=>(tN 0 (show(List.Nodup (α:=PySem.Str) ["entry"]) from by decide +kernel))) (fun _ _ _ _=>qC) (fun _ _ _ _=>(yE (zW 0) zS)))) (wO (mE (zU sJ) ["self","leaf","things","lasts"] ["page"] [] [] (eF 0) (fH (zW 2)) rfl rfl rfl (by decide +kernel) (fun _ _ _ _=>(tN 0 (show(List.Nodup (α:=PySem.Str) ["page"]) from by decide +kernel))) (fun _ _ _ _=>qC) (fun _ _ _ _=>(yY T.ca_Page T.cl_Page T.n_Page_most (zW 0)))))) (pV T.cl_Page T.n_Page_leaf rfl (Or.inl rfl) (zW 1) (pV T.cl_Page T.n_Page_things rfl (Or.inl rfl) (zW 2) (pV T.cl_Page T.n_Page_leasts rfl (Or.inl rfl) (zUp (yL (zW 1)) (zW 2) (wO (mE (zU sJ) ["self","leaf","things","lasts"] ["page"] [] [] (eF 0) (fH (zW 2)) rfl rfl rfl (by decide +kernel) (fun _ _ _ _=>(tN 0 (show(List.Nodup (α:=PySem.Str) ["page"]) from by decide +kernel))) (fun _ _ _ _=>qC) (fun _ _ _ _=>(yE (yY T.ca_Page T.cl_Page T.n_Page_leasts (zW 0)) zS))))) (pV T.cl_Page T.n_Page_most rfl (Or.inl rfl) (zTb rfl rfl T.z_max (sX (zW 3))) zXb)))))
theorem zWa:FnScope ["self","size"] ["self","size"] (zU qF):=xD (by decide +kernel)
def zYz:Lf:=(zY (eV 1) (zY (nI "Page" ["leaf","things","leasts","most"] 2 sL (zY (eC (.bl true)) (zY (eL (xH zO)) zO))) zO))
def dB:List D->Option (List D):=fun ds=>zYz (mW 2 ds)
theorem zWd (T:Txt K mg):FnOk P w K mg base CX0 3 T.fi_Store T.fdi_Store ["self","size"] (spI K T.C_Store ["size","root"] 1 dB) :=
 zTF (k:=2) T.Fi_Store zWa (by decide +kernel) (by decide) fun cdv A outer s H E hr =>
   (pV T.cl_Store T.n_Store_size rfl (Or.inl rfl) (zW 1) (pV T.cl_Store T.n_Store_root rfl (Or.inl rfl) (mJ T.ca_Page T.mk_Page (pT T) (hr.mono (by lia)) T.mc_Page T.bi_Page rfl (zZ uF (zZ (wO (yK zV)) zV))) zXb))
theorem zYu:FnScope ["_law_script","_law_k"] ["_law_script","_law_k"] (zU kW):=xD (by decide +kernel)
def zZO:Sf:=(yJ (eC (.int 0)))
def vY:Sf:=(zH (sIf (eB2 gLt (eV 1) (xJ (eV 0))) (yJ (eIx (eV 0) (eV 1))) vX)
   (zZO))
def zX1:Sf :=
   (vY)
def wF:List D->Option D:=fnF 2 zX1
theorem rO (T:Txt K mg):OkT P w base T.q0 1 2 wF :=
 vL (k:=0) T.q0.F zYu fun cdv A outer s H E hr =>
   (zX vY rfl (yN (zB zW3 (zW 1) (wX rfl T.z_len (zW 0))) (zR (zL (yE (zW 0) (zW 1)))) zD)
     (zR (zL zS)))
theorem pL:FnScope ["_law_cell_here","_law_k","_law_number_here"] ["_law_cell_here","_law_k"] (zU nU):=xD (by decide +kernel)
def lO:Sf:=(yJ (lW (tH (zVT (eV 2) (eV 2)) (eC (.int 2147483629))) (eC (.int 3))))
def qJ:Sf:=(zH (yF 2 (tH (qV (qV (eV 2) (eC (.int 12345))) (zVT (eC (.int 7919)) (eV 1))) (eC (.int 2147483647))))
   (lO))
def tT:Sf:=(zH (yF 2 (zVT (tH (eV 0) (eC (.int 1000000007))) (qV (eC (.int 48271)) (zVT (zVT (eC (.int 2)) (eV 1)) (eV 1)))))
   (qJ))
def zYl:Sf :=
   (tT)
def xY:List D->Option D:=fnF 3 zYl
theorem w6 (T:Txt K mg):OkT P w base T.q1 1 2 xY :=
 vL (k:=0) T.q1.F pL fun cdv A outer s H E hr =>
   (zX tT rfl (zF 2 pL.nd (fA (wV (zW 0) zS) (vQ zS (fA (fA zS (zW 1)) (zW 1)))))
     (zX qJ rfl (zF 2 pL.nd (wV (vQ (vQ (zW 2) zS) (fA zS (zW 1))) zS))
     (zR (zL (qQ (wV (fA (zW 2) (zW 2)) zS) zS)))))
theorem xN:FnScope ["_law_seed","_law_j","_law_letters","_law_number_here","_law_size","_law_at","_law_word_here","_law_k","_law_sign"] ["_law_seed","_law_j"] (zU lI):=xD (by decide +kernel)
def tX:Sf:=(yF 6 (sU (eV 6) (eIx (eV 2) (tH (zI 2 xY (zY (eV 0) (zY (sU (eC (.int 20)) (eV 7)) zO))) (eC (.int 26))))))
def jP:Sf:=(yJ (sU (sU (iG (eV 6) oNo (xI (eV 5))) (eV 8)) (iG (eV 6) (xI (sU (eV 5) (eC (.int 1)))) oNo)))
def pF:Sf:=(zH (yF 8 (eIx (eV 2) (tH (sU (lW (eV 3) (eC (.int 144))) (eV 1)) (eC (.int 26)))))
   (jP))
def pH:Sf:=(zH (rY (iR (eV 4)) (gN 7) (tX))
   (pF))
def pB:Sf:=(zH (yF 6 (eC (.str "")))
   (pH))
def oW:Sf:=(zH (yF 5 (tH (lW (eV 3) (eC (.int 12))) (eV 4)))
   (pB))
def oR:Sf:=(zH (yF 4 (sU (eC (.int 1)) (tH (eV 3) (eC (.int 12)))))
   (oW))
def oZ:Sf:=(zH (yF 3 (zI 2 xY (zY (eV 0) (zY (eC (.int 11)) zO))))
   (oR))
def sM:Sf:=(zH (yF 2 (eC (.str "abcdefghijklmnopqrstuvwxyz")))
   (oZ))
def zXF:Sf :=
   (sM)
def kP:List D->Option D:=fnF 9 zXF
theorem zYi (T:Txt K mg):OkT P w base T.q2 2 2 kP :=
 vL (k:=1) T.q2.F xN fun cdv A outer s H E hr =>
   (zX sM rfl (zF 2 xN.nd nL)
     (zX oZ rfl (zF 3 xN.nd (yD (w6 T) hr (zZ (zW 0) (zZ zS zV))))
     (zX oR rfl (zF 4 xN.nd (pG zS (wV (zW 3) zS)))
     (zX oW rfl (zF 5 xN.nd (wV (qQ (zW 3) zS) (zW 4)))
     (zX pB rfl (zF 6 xN.nd nL)
     (zX pH rfl (tW Ei rfl (zUz rfl T.z_range (zW 4)) (tN 7 xN.nd) (zR (zF 6 xN.nd (pG (zW 6) (yE (zW 2) (wV (yD (w6 T) hr (zZ (zW 0) (zZ (pG zS (zW 7)) zV))) zS))))))
     (zX pF rfl (zF 8 xN.nd (yE (zW 2) (wV (pG (qQ (zW 3) zS) (zW 1)) zS)))
     (zR (zL (pG (pG (cB (zW 6) mX (sC (zW 5))) (zW 8)) (cB (zW 6) (sC (pG (zW 5) zS)) mX)))))))))))
theorem vC:FnScope ["_law_seed","_law_many","_law_first","_law_row_here","_law_k","_law_number_here","_law_size"] ["_law_seed","_law_many"] (zU iE):=xD (by decide +kernel)
def oS:Sf:=(zZs 3 (cQ (zY (eV 2) (zY (qV (eV 2) (tH (lW (eV 5) (eC (.int 36))) (eV 6))) (zY (zI 2 kP (zY (eV 0) (zY (tH (eV 4) (eC (.int 2))) zO))) zO)))))
def oQ:Sf:=(zH (yF 6 (eIx (eL (xH (zY (eC (.int 1)) (zY (eC (.int 6)) (zY (eC (.int 40)) (zY (eC (.int 900)) zO)))))) (tH (lW (eV 5) (eC (.int 9))) (eC (.int 4)))))
   (oS))
def oJ:Sf:=(zH (yF 2 (qV (qV (eV 2) (eC (.int 1))) (tH (eV 5) (eC (.int 9)))))
   (oQ))
def sS:Sf:=(zH (yF 5 (zI 2 xY (zY (eV 0) (zY (qV (eC (.int 40)) (eV 4)) zO))))
   (oJ))
def zYD:Sf:=(zW7 3)
def mS:Sf:=(zH (rY (iR (eV 1)) (gN 4) (sS))
   (zYD))
def nE:Sf:=(zH (nW 3 (xH zO))
   (mS))
def rF:Sf:=(zH (yF 2 (tH (zT9 (zI 2 xY (zY (eV 0) (zY (eC (.int 1)) zO))) (eC (.int 6))) (zT9 (eC (.int 10)) (eC (.int 54)))))
   (nE))
def zVN:Sf :=
   (rF)
def hW:List D->Option D:=fnF 7 zVN
theorem zYc (T:Txt K mg):OkT P w base T.q3 3 2 hW :=
 vL (k:=2) T.q3.F vC fun cdv A outer s H E hr =>
   (zX rF rfl (zF 2 vC.nd (wV (zV0 (yD (w6 T) hr (zZ (zW 0) (zZ zS zV))) zS) (zV0 zS zS)))
     (zX nE rfl (cO 3 vC.nd (yK zV))
     (zX mS rfl (tW Ei rfl (zUz rfl T.z_range (zW 1)) (tN 4 vC.nd) (zX sS rfl (zF 5 vC.nd (yD (w6 T) hr (zZ (zW 0) (zZ (vQ zS (zW 4)) zV))))
     (zX oJ rfl (zF 2 vC.nd (vQ (vQ (zW 2) zS) (wV (zW 5) zS)))
     (zX oQ rfl (zF 6 vC.nd (yE (wO (yK (zZ zS (zZ zS (zZ zS (zZ zS zV)))))) (wV (qQ (zW 5) zS) zS)))
     (zR (zX7 3 (aR En Yh Yj mM (pv 3) (yX (hV (zZ (zW 2) (zZ (vQ (zW 2) (wV (qQ (zW 5) zS) (zW 6))) (zZ (yD (zYi T) hr (zZ (zW 0) (zZ (wV (zW 4) zS) zV))) zV)))) xL))))))))
     (zR (zWL 3)))))
theorem vJ:FnScope ["_law_row_here","_law_way","_law_half","_law_laid","_law_k"] ["_law_row_here","_law_way"] (zU pA):=xD (by decide +kernel)
def sZ:Sf:=(yF 3 (eL (oO (iL (eV 3)) (xH (zY (eIx (eV 0) (eV 4)) (zY (eIx (eV 0) (zZN (zZN (xJ (eV 0)) (eC (.int 1))) (eV 4))) zO))))))
def mT:Sf:=(yJ (eL (oO (iL (eV 3)) (xK (eV 0) (xI (eV 2)) (xI (zZN (xJ (eV 0)) (eV 2)))))))
def sE:Sf:=(zH (rY (iR (eV 2)) (gN 4) (sZ))
   (mT))
def sD:Sf:=(zH (yF 3 (eL (xH zO)))
   (sE))
def rU:Sf:=(zH (yF 2 (lW (xJ (eV 0)) (eC (.int 2))))
   (sD))
def uT:Sf:=(zH (sIf (eB2 gEq (eV 1) (eC (.int 1))) (yJ (eL (zXu (iL (eV 0))))) vX)
   (rU))
def xF:Sf:=(zH (sIf (eB2 gEq (eV 1) (eC (.int 0))) (yJ (eL (sP (eV 0)))) vX)
   (uT))
def zZ5:Sf :=
   (xF)
def sR:List D->Option D:=fnF 5 zZ5
theorem cH (T:Txt K mg):OkT P w base T.q4 1 2 sR :=
 vL (k:=0) T.q4.F vJ fun cdv A outer s H E hr =>
   (zX xF rfl (yN (zB cC (zW 1) zS) (zR (zL (wO (mI rfl T.z_list (zW 0))))) zD)
     (zX uT rfl (yN (zB cC (zW 1) zS) (zR (zL (wO (zXI rfl rfl T.z_list rfl T.z_reversed (sX (zW 0)))))) zD)
     (zX rU rfl (zF 2 vJ.nd (qQ (wX rfl T.z_len (zW 0)) zS))
     (zX sD rfl (zF 3 vJ.nd (wO (yK zV)))
     (zX sE rfl (tW Ei rfl (zUz rfl T.z_range (zW 2)) (tN 4 vJ.nd) (zR (zF 3 vJ.nd (wO (pO (sX (zW 3)) (gP (yK (zZ (yE (zW 0) (zW 4)) (zZ (yE (zW 0) (iP (iP (wX rfl T.z_len (zW 0)) zS) (zW 4))) zV)))))))))
     (zR (zL (wO (pO (sX (zW 3)) (gP (wJ (zW 0) (sC (zW 2)) (sC (iP (wX rfl T.z_len (zW 0)) (zW 2))))))))))))))
theorem sO:FnScope ["_law_told","_law_size","_law_root","_law_many","_law_depths","_law_row_here"] ["_law_told","_law_size","_law_root"] (zU nF):=xD (by decide +kernel)
def mQ (self:List D->Option D):Sf:=(zZs 4 (zI 3 self (zY (eIx (eV 5) (eC (.int 2))) (zY (eV 1) (zY (eC (.bl false)) zO)))))
def wB (self:List D->Option D):Sf:=(zH (sIf (oV (z6 (tB1 (dW iZ (eV 5)))) (eB2 gNe (xJ (eV 5)) (eC (.int 3)))) (yJ (eC .non)) vX)
   (mQ self))
def lN (self:List D->Option D):Sf:=(yJ (qV (eIx (eV 4) (eC (.int 0))) (eC (.int 1))))
def qK (self:List D->Option D):Sf:=(zH (aH 4 (sIf (oV (eB2 zTo (eC .non) (eV 4)) (eB2 gNe (zYA (iL (eV 4))) (hU (iL (eV 4))))) (yJ (eC .non)) vX))
   (lN self))
def tY (self:List D->Option D):Sf:=(zH (rY (iL (eIx (eV 0) (eC (.int 1)))) (gN 5) (wB self))
   (qK self))
def qT (self:List D->Option D):Sf:=(zH (nW 4 (xH zO))
   (tY self))
def rA (self:List D->Option D):Sf:=(zH (sIf (oV (eB2 gNe (eIx (eV 0) (eC (.int 0))) (eC (.str "branch"))) (eB2 gLt (eV 3) (eC (.int 2)))) (yJ (eC .non)) vX)
   (qT self))
def qP (self:List D->Option D):Sf:=(zH (sIf (eB2 gEq (eIx (eV 0) (eC (.int 0))) (eC (.str "leaf"))) (yJ (eC (.int 0))) vX)
   (rA self))
def qS (self:List D->Option D):Sf:=(zH (sIf (oV (eB2 gGt (eV 3) (eV 1)) (sT (z6 (tB1 (eV 2))) (eB2 gLt (eV 3) (lW (eV 1) (eC (.int 2)))))) (yJ (eC .non)) vX)
   (qP self))
def qU (self:List D->Option D):Sf:=(zH (yF 3 (xJ (eIx (eV 0) (eC (.int 1)))))
   (qS self))
def tR (self:List D->Option D):Sf:=(zH (sIf (oV (z6 (tB1 (dW iZ (eV 0)))) (oV (eB2 gNe (xJ (eV 0)) (eC (.int 2))) (z6 (tB1 (dW jQ (eIx (eV 0) (eC (.int 1)))))))) (yJ (eC .non)) vX)
   (qU self))
def gO (self:List D->Option D):Sf :=
   (tR self)
def xM:Nat->List D->Option D
 | 0=>fun _=>none
 | n+1=>fnF 6 (gO (xM n))
abbrev gL:List D->Option D:=xM 8
theorem cN (T:Txt K mg)(n:Nat)(self:List D->Option D)(IH:FnOk P w K mg base CX0 (1+n) T.q5.f T.q5.fd ["_law_told","_law_size","_law_root"] (spF K 3 self)):FnOk P w K mg base CX0 (1+n+1) T.q5.f T.q5.fd ["_law_told","_law_size","_law_root"] (spF K 3 (fnF 6 (gO self))) :=
 vL (k:=1+n) T.q5.F sO fun cdv A outer s H E hr =>
   (zX (tR self) rfl (yN (jG (uK (yA (yL (mY (T:="tuple") (TT:="tuple") rfl zXC rfl T.z_isinstance rfl T.z_tuple (zW 0)))) (uK (zB zWW (wX rfl T.z_len (zW 0)) zS) (uA (yA (yL (mY (T:="list") (TT:="list") rfl zU0 rfl T.z_isinstance rfl T.z_list (yE (zW 0) zS)))))))) (zR (zL tJ)) zD)
     (zX (qU self) rfl (zF 3 sO.nd (wX rfl T.z_len (yE (zW 0) zS)))
     (zX (qS self) rfl (yN (jG (uK (zB zQN (zW 3) (zW 1)) (uA (jG (fW (yA (yL (zW 2))) (kB (zB zW3 (zW 3) (qQ (zW 1) zS)))))))) (zR (zL tJ)) zD)
     (zX (qP self) rfl (yN (zB cC (yE (zW 0) zS) nL) (zR (zL zS)) zD)
     (zX (rA self) rfl (yN (jG (uK (zB zWW (yE (zW 0) zS) nL) (uA (zB zW3 (zW 3) zS)))) (zR (zL tJ)) zD)
     (zX (qT self) rfl (cO 4 sO.nd (yK zV))
     (zX (tY self) rfl (tW Ei rfl (fH (yE (zW 0) zS)) (tN 5 sO.nd) (zX (wB self) rfl (yN (jG (uK (yA (yL (mY (T:="tuple") (TT:="tuple") rfl zXC rfl T.z_isinstance rfl T.z_tuple (zW 5)))) (uA (zB zWW (wX rfl T.z_len (zW 5)) zS)))) (zR (zL tJ)) zD)
     (zR (zX7 4 (aR En Yh Yj mM (pv 4) (yX (yD IH hr (zZ (yE (zW 5) zS) (zZ (zW 1) (zZ uF zV)))) xL))))))
     (zX (qK self) rfl (zZX 4 (yN (jG (uK (zB (zRt hr) tJ (zW 4)) (uA (zB zWW (zSK rfl rfl T.z_min (sX (zW 4))) (zW8 rfl rfl T.z_max (sX (zW 4))))))) (zR (zL tJ)) zD))
     (zR (zL (vQ (yE (zW 4) zS) zS)))))))))))
theorem lT (T:Txt K mg):∀n:Nat,FnOk P w K mg base CX0 (1+n) T.q5.f T.q5.fd ["_law_told","_law_size","_law_root"] (spF K 3 (xM n))
 | 0=>nH
 | n+1=>cN T n _ (lT T n)
theorem zZY (T:Txt K mg):OkT P w base T.q5 9 3 gL:=lT T 8
theorem cE:FnScope ["_law_found"] ["_law_found"] (zU oN):=xD (by decide +kernel)
def eM:Sf:=(yJ (zXi (dW isInt (eV 0)) (zSU (z6 (tB1 (dW kL (eV 0)))))))
def zZM:Sf :=
   (eM)
def sK:List D->Option D:=fnF 1 zZM
theorem qL (T:Txt K mg):OkT P w base T.q6 1 1 sK :=
 vL (k:=0) T.q6.F cE fun cdv A outer s H E hr =>
   (zR (zL (zUr (mY (T:="int") (TT:="int") rfl zRD rfl T.z_isinstance rfl T.z_int (zW 0)) (zU8 (zSr (mY (T:="bool") (TT:="bool") rfl zSJ rfl T.z_isinstance rfl T.z_bool (zW 0)))))))
theorem rT:FnScope ["_law_found","_law_due","_law_k","_law_one"] ["_law_found","_law_due"] (zU rC):=xD (by decide +kernel)
def pZ:Sf:=(sIf (oV (z6 (tB1 (zI 1 sK (zY (eIx (eV 3) (eC (.int 0))) zO)))) (oV (z6 (tB1 (zI 1 sK (zY (eIx (eV 3) (eC (.int 1))) zO)))) (eB2 kO (eV 3) (eIx (eV 1) (eV 2))))) (yJ (eC (.bl false))) vX)
def vU:Sf:=(zH (sIf (oV (z6 (tB1 (dW iZ (eV 3)))) (oV (eB2 kO (xJ (eV 3)) (eC (.int 3))) (z6 (tB1 (dW eZ (eIx (eV 3) (eC (.int 2)))))))) (yJ (eC (.bl false))) vX)
   (pZ))
def x9:Sf:=(zH (yF 3 (eIx (eV 0) (eV 2)))
   (vU))
def gB:Sf:=(yJ (eC (.bl true)))
def tI:Sf:=(zH (rY (iR (xJ (eV 1))) (gN 2) (x9))
   (gB))
def vF:Sf:=(zH (sIf (oV (z6 (tB1 (dW jQ (eV 0)))) (eB2 kO (xJ (eV 0)) (xJ (eV 1)))) (yJ (eC (.bl false))) vX)
   (tI))
def cM:Sf :=
   (vF)
def xZ:List D->Option D:=fnF 4 cM
theorem rZ (T:Txt K mg):OkT P w base T.q7 2 2 xZ :=
 vL (k:=1) T.q7.F rT fun cdv A outer s H E hr =>
   (zX vF rfl (yN (jG (uK (yA (yL (mY (T:="list") (TT:="list") rfl zU0 rfl T.z_isinstance rfl T.z_list (zW 0)))) (uA (zB (iB hr) (wX rfl T.z_len (zW 0)) (wX rfl T.z_len (zW 1)))))) (zR (zL uF)) zD)
     (zX tI rfl (tW Ei rfl (zUz rfl T.z_range (wX rfl T.z_len (zW 1))) (tN 2 rT.nd) (zX x9 rfl (zF 3 rT.nd (yE (zW 0) (zW 2)))
     (zX vU rfl (yN (jG (uK (yA (yL (mY (T:="tuple") (TT:="tuple") rfl zXC rfl T.z_isinstance rfl T.z_tuple (zW 3)))) (uK (zB (iB hr) (wX rfl T.z_len (zW 3)) zS) (uA (yA (yL (mY (T:="str") (TT:="str") rfl zRU rfl T.z_isinstance rfl T.z_str (yE (zW 3) zS)))))))) (zR (zL uF)) zD)
     (zR (yN (jG (uK (yA (yL (yD (qL T) hr (zZ (yE (zW 3) zS) zV)))) (uK (yA (yL (yD (qL T) hr (zZ (yE (zW 3) zS) zV)))) (uA (zB (iB hr) (zW 3) (yE (zW 1) (zW 2))))))) (zR (zL uF)) zD)))))
     (zR (zL uF))))
theorem wD:FnScope ["_law_told","_law_found","_law_least","_law_reach","_law_below","_law_entries_here"] ["_law_told"] (zU pI):=xD (by decide +kernel)
def lM (self:List D->Option D):Sf:=(yF 1 (eL (oO (iL (eV 1)) (iL (eV 5)))))
def qO (self:List D->Option D):Sf:=(zH (sIf (oV (z6 (tB1 (zI 1 sK (zY (eV 3) zO)))) (eB2 kO (eV 3) (hU (wA (iL (eV 5)) 1 [] (gN 0) tOK (eIx (eV 0) (eC (.int 1))))))) (yJ (eL (xH (zY (eC .non) zO)))) vX)
   (lM self))
def qX (self:List D->Option D):Sf:=(zH (sIf (oV (eB2 zX0 (eV 5) (eL (xH zO))) (oV (eB2 zX0 (eV 5) (eL (xH (zY (eC .non) zO)))) (z6 (tB1 (zI 2 xZ (zY (eL (xH (zY (eV 2) zO))) (zY (eL (xK (eV 5) oNo (xI (eC (.int 1))))) zO))))))) (yJ (eL (xH (zY (eC .non) zO)))) vX)
   (qO self))
def tV (self:List D->Option D):Sf:=(zH (yF 5 (zI 1 self (zY (eV 4) zO)))
   (qX self))
def zZQ (self:List D->Option D):Sf:=(yJ (eV 1))
def oU (self:List D->Option D):Sf:=(zH (rY (iL (eIx (eV 0) (eC (.int 1)))) (gT (yP (gN 2) (yP (gN 3) (yP (gN 4) sV)))) (tV self))
   (zZQ self))
def pK (self:List D->Option D):Sf:=(zH (yF 1 (eL (xH zO)))
   (oU self))
def vZ (self:List D->Option D):Sf:=(zH (sIf (eB2 zX0 (eIx (eV 0) (eC (.int 0))) (eC (.str "leaf"))) (yJ (eL (sP (eIx (eV 0) (eC (.int 1)))))) vX)
   (pK self))
def eH (self:List D->Option D):Sf :=
   (vZ self)
def wI:Nat->List D->Option D
 | 0=>fun _=>none
 | n+1=>fnF 6 (eH (wI n))
abbrev kU:List D->Option D:=wI 8
theorem zZE (T:Txt K mg)(n:Nat)(self:List D->Option D)(IH:FnOk P w K mg base CX0 (3+n) T.q8.f T.q8.fd ["_law_told"] (spF K 1 self)):FnOk P w K mg base CX0 (3+n+1) T.q8.f T.q8.fd ["_law_told"] (spF K 1 (fnF 6 (eH self))) :=
 vL (k:=3+n) T.q8.F wD fun cdv A outer s H E hr =>
   (zX (vZ self) rfl (yN (zB (zZR hr) (yE (zW 0) zS) nL) (zR (zL (wO (mI rfl T.z_list (yE (zW 0) zS))))) zD)
     (zX (pK self) rfl (zF 1 wD.nd (wO (yK zV)))
     (zX (oU self) rfl (tW Ei rfl (fH (yE (zW 0) zS)) (zT3 3 rfl (wR (tN 2 wD.nd) (wR (tN 3 wD.nd) (wR (tN 4 wD.nd) jT))) (uB (uB (uB fO)))) (zX (tV self) rfl (zF 5 wD.nd (yD IH hr (zZ (zW 4) zV)))
     (zX (qX self) rfl (yN (jG (uK (zB (zZR hr) (zW 5) (wO (yK zV))) (uK (zB (zZR hr) (zW 5) (wO (yK (zZ tJ zV)))) (uA (yA (yL (yD (rZ T) hr (zZ (wO (yK (zZ (zW 2) zV))) (zZ (wO (wJ (zW 5) mX (sC zS))) zV))))))))) (zR (zL (wO (yK (zZ tJ zV))))) zD)
     (zX (qO self) rfl (yN (jG (uK (yA (yL (yD (qL T) hr (zZ (zW 3) zV)))) (uA (zB (iB hr) (zW 3) (zW8 rfl rfl T.z_max (gP (mE (zU pI) ["_law_told","_law_found","_law_least","_law_reach","_law_below","_law_entries_here"] ["_law_entry"] [] [] (eF 0) (fH (zW 5)) rfl rfl rfl (by decide +kernel) (fun _ _ _ _=>(tN 0 (show(List.Nodup (α:=PySem.Str) ["_law_entry"]) from by decide +kernel))) (fun _ _ _ _=>qC) (fun _ _ _ _=>(yE (zW 0) zS))))))))) (zR (zL (wO (yK (zZ tJ zV))))) zD)
     (zR (zF 1 wD.nd (wO (pO (sX (zW 1)) (sX (zW 5))))))))))
     (zR (zL (zW 1))))))
theorem jM (T:Txt K mg):∀n:Nat,FnOk P w K mg base CX0 (3+n) T.q8.f T.q8.fd ["_law_told"] (spF K 1 (wI n))
 | 0=>nH
 | n+1=>zZE T n _ (jM T n)
theorem zYH (T:Txt K mg):OkT P w base T.q8 11 1 kU:=jM T 8
theorem zYk:FnScope ["page"] ["page"] (zU pC):=xD (by decide +kernel)
def jB (self:List D->Option D):Sf:=(yJ (cQ (zY (eC (.str "branch")) (zY (eL (wA (zW6 (yZ "Page" "leasts" (eV 0)) (yZ "Page" "things" (eV 0))) 2 [] (gT (yP (gN 0) (yP (gN 1) sV))) tOK (cQ (zY (eV 0) (zY (yZ "Page" "most" (eV 1)) (zY (zI 1 self (zY (eV 1) zO)) zO)))))) zO))))
def vT (self:List D->Option D):Sf:=(zH (sIf (tB1 (yZ "Page" "leaf" (eV 0))) (yJ (cQ (zY (eC (.str "leaf")) (zY (eL (sP (yZ "Page" "things" (eV 0)))) zO)))) vX)
   (jB self))
def fJ (self:List D->Option D):Sf :=
   (vT self)
def wE:Nat->List D->Option D
 | 0=>fun _=>none
 | n+1=>fnF 1 (fJ (wE n))
abbrev cT:List D->Option D:=wE 8
theorem zZJ (T:Txt K mg)(n:Nat)(self:List D->Option D)(IH:FnOk P w K mg base CX0 (1+n) T.q9.f T.q9.fd ["page"] (spF K 1 self)):FnOk P w K mg base CX0 (1+n+1) T.q9.f T.q9.fd ["page"] (spF K 1 (fnF 1 (fJ self))) :=
 vL (k:=1+n) T.q9.F zYk fun cdv A outer s H E hr =>
   (zX (vT self) rfl (yN (yL (yY T.ca_Page T.cl_Page T.n_Page_leaf (zW 0))) (zR (zL (hV (zZ nL (zZ (wO (mI rfl T.z_list (yY T.ca_Page T.cl_Page T.n_Page_things (zW 0)))) zV))))) zD)
     (zR (zL (hV (zZ nL (zZ (wO (mE (zU pC) ["page"] ["least","inner"] [] [] (zQ6 (jJ (eF 0) (jJ (eF 1) zWJ))) (zTA rfl T.z_zip (yY T.ca_Page T.cl_Page T.n_Page_leasts (zW 0)) (yY T.ca_Page T.cl_Page T.n_Page_things (zW 0))) rfl rfl rfl (by decide +kernel) (fun _ _ _ _=>(zT3 2 rfl (wR (tN 0 (show(List.Nodup (α:=PySem.Str) ["least","inner"]) from by decide +kernel)) (wR (tN 1 (show(List.Nodup (α:=PySem.Str) ["least","inner"]) from by decide +kernel)) jT)) (uB (uB fO)))) (fun _ _ _ _=>qC) (fun _ _ _ _=>(hV (zZ (zW 0) (zZ (yY T.ca_Page T.cl_Page T.n_Page_most (zW 1)) (zZ (yD IH hr (zZ (zW 1) zV)) zV))))))) zV))))))
theorem kG (T:Txt K mg):∀n:Nat,FnOk P w K mg base CX0 (1+n) T.q9.f T.q9.fd ["page"] (spF K 1 (wE n))
 | 0=>nH
 | n+1=>zZJ T n _ (kG T n)
theorem zYh (T:Txt K mg):OkT P w base T.q9 9 1 cT:=kG T 8
theorem eN:FnScope ["self"] ["self"] (zU wS):=xD (by decide +kernel)
def tG:Sf:=(yJ (zI 1 cT (zY (yZ "Store" "root" (eV 0)) zO)))
def b_Store_shape:Sf :=
   (tG)
def wT:List D->Option D:=fnF 1 b_Store_shape
theorem mR (T:Txt K mg):FnOk P w K mg base CX0 10 T.f_Store_shape T.fd_Store_shape ["self"] (spF K 1 wT) :=
 vL (k:=9) T.F_Store_shape eN fun cdv A outer s H E hr =>
   (zR (zL (yD (zYh T) hr (zZ (yY T.ca_Store T.cl_Store T.n_Store_root (zW 0)) zV))))
theorem vE:FnScope ["page","entries","inner"] ["page"] (zU uN):=xD (by decide +kernel)
def wG (self:List D->Option (List D)):Sf:=(zYZ 1 (gK 1 self (zY (eV 2) zO)))
def lV (self:List D->Option (List D)):Sf:=(zW7 1)
def vM (self:List D->Option (List D)):Sf:=(zH (rY (iL (yZ "Page" "things" (eV 0))) (gN 2) (wG self))
   (lV self))
def vO (self:List D->Option (List D)):Sf:=(zH (nW 1 (xH zO))
   (vM self))
def yO (self:List D->Option (List D)):Sf:=(zH (sIf (tB1 (yZ "Page" "leaf" (eV 0))) (gS (sP (yZ "Page" "things" (eV 0)))) vX)
   (vO self))
def rN (self:List D->Option (List D)):Sf :=
   (yO self)
def yW:Nat->List D->Option (List D)
 | 0=>fun _=>none
 | n+1=>fnL 3 (rN (yW n))
abbrev rK:List D->Option (List D):=yW 8
theorem lU (T:Txt K mg)(n:Nat)(self:List D->Option (List D))(IH:FnOk P w K mg base CX0 (1+n) T.q11.f T.q11.fd ["page"] (spL K 1 self)):FnOk P w K mg base CX0 (1+n+1) T.q11.f T.q11.fd ["page"] (spL K 1 (fnL 3 (rN self))) :=
 zUv (k:=1+n) T.q11.F vE fun cdv A outer s H E hr =>
   (zX (yO self) rfl (yN (yL (yY T.ca_Page T.cl_Page T.n_Page_leaf (zW 0))) (zR (zW2 (mI rfl T.z_list (yY T.ca_Page T.cl_Page T.n_Page_things (zW 0))))) zD)
     (zX (vO self) rfl (cO 1 vE.nd (yK zV))
     (zX (vM self) rfl (tW Ei rfl (fH (yY T.ca_Page T.cl_Page T.n_Page_things (zW 0))) (tN 2 vE.nd) (zR (zSq 1 (aR En PySem.F.slot_list_extend PySem.F.type_list_extend zVC (pv 1) (yX (zQ7 IH hr (zZ (zW 2) zV)) xL)))))
     (zR (zWL 1)))))
theorem sW (T:Txt K mg):∀n:Nat,FnOk P w K mg base CX0 (1+n) T.q11.f T.q11.fd ["page"] (spL K 1 (yW n))
 | 0=>zWk
 | n+1=>lU T n _ (sW T n)
theorem kN (T:Txt K mg):zPU P w base T.q11 9 1 rK:=sW T 8
theorem gG:FnScope ["self"] ["self"] (zU xC):=xD (by decide +kernel)
def uE:Sf:=(gS (gK 1 rK (zY (yZ "Store" "root" (eV 0)) zO)))
def b_Store_listed:Sf :=
   (uE)
def wY:List D->Option (List D):=fnL 1 b_Store_listed
theorem gC (T:Txt K mg):FnOk P w K mg base CX0 10 T.f_Store_listed T.fd_Store_listed ["self"] (spL K 1 wY) :=
 zUv (k:=9) T.F_Store_listed gG fun cdv A outer s H E hr =>
   (zR (zW2 (zQ7 (kN T) hr (zZ (yY T.ca_Store T.cl_Store T.n_Store_root (zW 0)) zV))))
theorem lS:FnScope ["_law_store","_law_size","_law_there","_law_told"] ["_law_store","_law_size","_law_there"] (zU oM):=xD (by decide +kernel)
def sB:Sf:=(yJ (zXi (zI 2 xZ (zY (zI 1 kU (zY (eV 3) zO)) (zY (eL (pR (iL (eV 2)))) zO))) (zI 2 xZ (zY (eL (bD "Store" "listed" 1 wY (eV 0) zO)) (zY (eL (pR (iL (eV 2)))) zO)))))
def rV:Sf:=(zH (sIf (eB2 zRd (zI 3 gL (zY (eV 3) (zY (eV 1) (zY (eC (.bl true)) zO)))) (eC .non)) (yJ (eC (.bl false))) vX)
   (sB))
def uI:Sf:=(zH (yF 3 (aW "Store" "shape" 1 wT (eV 0) zO))
   (rV))
def aF:Sf :=
   (uI)
def yI:List D->Option D:=fnF 4 aF
theorem tU (T:Txt K mg):OkT P w base T.q13 12 3 yI :=
 vL (k:=11) T.q13.F lS fun cdv A outer s H E hr =>
   (zX uI rfl (zF 3 lS.nd (zY0 T.ca_Store T.cl_Store T.me_Store_shape (mR T) (hr.mono (by lia)) T.b_Store_shape (zW 0)))
     (zX rV rfl (yN (zB zSg (yD (zZY T) hr (zZ (zW 3) (zZ (zW 1) (zZ uF zV)))) tJ) (zR (zL uF)) zD)
     (zR (zL (zUr (yD (rZ T) hr (zZ (yD (zYH T) hr (zZ (zW 3) zV)) (zZ (wO (zZa rfl T.z_sorted (sX (zW 2)))) zV))) (zU8 (yD (rZ T) hr (zZ (wO (zVt T.ca_Store T.cl_Store T.me_Store_listed (gC T) (hr.mono (by lia)) T.b_Store_listed (zW 0))) (zZ (wO (zZa rfl T.z_sorted (sX (zW 2)))) zV)))))))))
theorem lD:FnScope ["pages","root"] ["pages"] (zU iJ):=xD (by decide +kernel)
def zYW:Sf:=(yJ (eV 1))
def mU:Sf:=(zH (uP (sT (z6 (tB1 (yZ "Page" "leaf" (eV 1)))) (eB2 gEq (xJ (yZ "Page" "things" (eV 1))) (eC (.int 1)))) (yF 1 (eIx (yZ "Page" "things" (eV 1)) (eC (.int 0)))) 10)
   (zYW))
def mV:Sf:=(zH (yF 1 (nI "Page" ["leaf","things","leasts","most"] 2 sL (zY (eC (.bl false)) (zY (eV 0) zO))))
   (mU))
def rL:Sf:=(zH (sIf (z6 (zXD (eV 0))) (yJ (nI "Page" ["leaf","things","leasts","most"] 2 sL (zY (eC (.bl true)) (zY (eL (xH zO)) zO)))) vX)
   (mV))
def zVI:Sf :=
   (rL)
def mF:List D->Option D:=fnF 2 zVI
theorem eY (T:Txt K mg):OkT P w base T.q14 3 1 mF :=
 vL (k:=2) T.q14.F lD fun cdv A outer s H E hr =>
   (zX rL rfl (yN (yA (fQ (zW 0))) (zR (zL (mJ T.ca_Page T.mk_Page (pT T) (hr.mono (by lia)) T.mc_Page T.bi_Page rfl (zZ uF (zZ (wO (yK zV)) zV))))) zD)
     (zX mV rfl (zF 1 lD.nd (mJ T.ca_Page T.mk_Page (pT T) (hr.mono (by lia)) T.mc_Page T.bi_Page rfl (zZ uF (zZ (zW 0) zV))))
     (zX mU rfl (bJ 10 Ei (jG (fW (yA (yL (yY T.ca_Page T.cl_Page T.n_Page_leaf (zW 1)))) (kB (zB cC (wX rfl T.z_len (yY T.ca_Page T.cl_Page T.n_Page_things (zW 1))) zS)))) (zR (zF 1 lD.nd (yE (yY T.ca_Page T.cl_Page T.n_Page_things (zW 1)) zS))))
     (zR (zL (zW 1))))))
theorem fS:FnScope ["entry","first","last","name"] ["entry"] (zU zX3):=xD (by decide +kernel)
def zVo:Sf:=(yJ (cQ (zY (eV 1) (zY (eV 3) zO))))
def zY1:Sf:=(zH (zTY (eV 0) (gT (yP (gN 1) (yP (gN 2) (yP (gN 3) sV)))))
   (zVo))
def zSj:Sf :=
   (zY1)
def uM:List D->Option D:=fnF 4 zSj
theorem jY (T:Txt K mg):OkT P w base T.q15 1 1 uM :=
 vL (k:=0) T.q15.F fS fun cdv A outer s H E hr =>
   (zX zY1 rfl (zSS (zW 0) (zT3 3 rfl (wR (tN 1 fS.nd) (wR (tN 2 fS.nd) (wR (tN 3 fS.nd) jT))) (uB (uB (uB fO)))))
     (zR (zL (hV (zZ (zW 1) (zZ (zW 3) zV))))))
theorem zUJ:FnScope ["branch","entry","ahead"] ["branch","entry"] (zU zWG):=xD (by decide +kernel)
def zWS:Sf:=(yJ (zYx (zZN (zYR 2) (eC (.int 1))) (eC (.int 0))))
def fT:Sf:=(zH (nW 2 (wA (iL (yZ "Page" "leasts" (eV 0))) 1 [1] (gN 0) (eB2 zW9 (zI 1 uM (zY (eV 0) zO)) (zI 1 uM (zY (eV 1) zO))) (eV 0)))
   (zWS))
def zQF:Sf :=
   (fT)
def dY:List D->Option D:=fnF 3 zQF
theorem zYb (T:Txt K mg):OkT P w base T.q16 2 2 dY :=
 vL (k:=1) T.q16.F zUJ fun cdv A outer s H E hr =>
   (zX fT rfl (lH (zU zWG) ["branch","entry","ahead"] ["least"] ["entry"] [1] (eF 0) 2 zUJ.nd rfl rfl (fH (yY T.ca_Page T.cl_Page T.n_Page_leasts (zW 0))) rfl rfl rfl (by decide +kernel) (fun _ _ _ _=>(tN 0 (show(List.Nodup (α:=PySem.Str) ["least","entry"]) from by decide +kernel))) (fun _ _ _ _=>(mL (zB (zTl hr) (yD (jY T) hr (zZ (zW 0) zV)) (yD (jY T) hr (zZ (zW 1) zV))))) (fun _ _ _ _=>(zW 0)))
     (zR (zL (zXA rfl rfl T.z_max (iP (zWC 2 rfl T.z_len) zS) zS))))
theorem qZ:FnScope ["page","entry","alike"] ["page","entry"] (zU sQ):=xD (by decide +kernel)
def mP:Sf:=(aH 2 (yJ (eIf (zXD (eV 2)) (eIx (eV 2) (eC (.int 0))) (eC .non))))
def rS:Sf:=(zH (nW 2 (wA (iL (yZ "Page" "things" (eV 0))) 1 [1] (gN 0) (eB2 zX0 (zI 1 uM (zY (eV 0) zO)) (zI 1 uM (zY (eV 1) zO))) (eV 0)))
   (mP))
def uL:Sf:=(zH (uP (z6 (tB1 (yZ "Page" "leaf" (eV 0)))) (yF 0 (eIx (yZ "Page" "things" (eV 0)) (zI 2 dY (zY (eV 0) (zY (eV 1) zO))))) 10)
   (rS))
def zZG:Sf :=
   (uL)
def w9:List D->Option D:=fnF 3 zZG
theorem lL (T:Txt K mg):OkT P w base T.q17 3 2 w9 :=
 vL (k:=2) T.q17.F qZ fun cdv A outer s H E hr =>
   (zX uL rfl (bJ 10 Ei (yA (yL (yY T.ca_Page T.cl_Page T.n_Page_leaf (zW 0)))) (zR (zF 0 qZ.nd (yE (yY T.ca_Page T.cl_Page T.n_Page_things (zW 0)) (yD (zYb T) hr (zZ (zW 0) (zZ (zW 1) zV)))))))
     (zX rS rfl (lH (zU sQ) ["page","entry","alike"] ["other"] ["entry"] [1] (eF 0) 2 qZ.nd rfl rfl (fH (yY T.ca_Page T.cl_Page T.n_Page_things (zW 0))) rfl rfl rfl (by decide +kernel) (fun _ _ _ _=>(tN 0 (show(List.Nodup (α:=PySem.Str) ["other","entry"]) from by decide +kernel))) (fun _ _ _ _=>(mL (zB (zZR hr) (yD (jY T) hr (zZ (zW 0) zV)) (yD (jY T) hr (zZ (zW 1) zV))))) (fun _ _ _ _=>(zW 0)))
     (zR (zZX 2 (zL (zUp (fQ (zW 2)) (yE (zW 2) zS) tJ))))))
theorem gM:FnScope ["leaf","things","size","half"] ["leaf","things","size"] (zU lA):=xD (by decide +kernel)
def kI:Sf:=(yJ (eL (xH (zY (nI "Page" ["leaf","things","leasts","most"] 2 sL (zY (eV 0) (zY (eL (xK (eV 1) oNo (xI (eV 3)))) zO))) (zY (nI "Page" ["leaf","things","leasts","most"] 2 sL (zY (eV 0) (zY (eL (xK (eV 1) (xI (eV 3)) oNo)) zO))) zO)))))
def pE:Sf:=(zH (yF 3 (lW (xJ (eV 1)) (eC (.int 2))))
   (kI))
def pP:Sf:=(zH (sIf (eB2 gLe (xJ (eV 1)) (eV 2)) (yJ (eL (xH (zY (nI "Page" ["leaf","things","leasts","most"] 2 sL (zY (eV 0) (zY (eV 1) zO))) zO)))) vX)
   (pE))
def sN:Sf:=(zH (sIf (z6 (zXD (eV 1))) (yJ (eL (xH zO))) vX)
   (pP))
def zXw:Sf :=
   (sN)
def vB:List D->Option D:=fnF 4 zXw
theorem tQ (T:Txt K mg):OkT P w base T.q18 3 3 vB :=
 vL (k:=2) T.q18.F gM fun cdv A outer s H E hr =>
   (zX sN rfl (yN (yA (fQ (zW 1))) (zR (zL (wO (yK zV)))) zD)
     (zX pP rfl (yN (zB zQA (wX rfl T.z_len (zW 1)) (zW 2)) (zR (zL (wO (yK (zZ (mJ T.ca_Page T.mk_Page (pT T) (hr.mono (by lia)) T.mc_Page T.bi_Page rfl (zZ (zW 0) (zZ (zW 1) zV))) zV))))) zD)
     (zX pE rfl (zF 3 gM.nd (qQ (wX rfl T.z_len (zW 1)) zS))
     (zR (zL (wO (yK (zZ (mJ T.ca_Page T.mk_Page (pT T) (hr.mono (by lia)) T.mc_Page T.bi_Page rfl (zZ (zW 0) (zZ (wO (wJ (zW 1) mX (sC (zW 3)))) zV))) (zZ (mJ T.ca_Page T.mk_Page (pT T) (hr.mono (by lia)) T.mc_Page T.bi_Page rfl (zZ (zW 0) (zZ (wO (wJ (zW 1) (sC (zW 3)) mX)) zV))) zV)))))))))
theorem sA:FnScope ["page","entry","size","at","inner"] ["page","entry","size"] (zU rB):=xD (by decide +kernel)
def oF (self:List D->Option D):Sf:=(yJ (zI 3 vB (zY (eC (.bl false)) (zY (eL (oO (oO (xK (yZ "Page" "things" (eV 0)) oNo (xI (eV 3))) (iL (eV 4))) (xK (yZ "Page" "things" (eV 0)) (xI (qV (eV 3) (eC (.int 1)))) oNo))) (zY (eV 2) zO)))))
def sY (self:List D->Option D):Sf:=(zH (yF 4 (zI 3 self (zY (eIx (yZ "Page" "things" (eV 0)) (eV 3)) (zY (eV 1) (zY (eV 2) zO)))))
   (oF self))
def tK (self:List D->Option D):Sf:=(zH (yF 3 (zI 2 dY (zY (eV 0) (zY (eV 1) zO))))
   (sY self))
def xR (self:List D->Option D):Sf:=(zH (sIf (tB1 (yZ "Page" "leaf" (eV 0))) (yJ (zI 3 vB (zY (eC (.bl true)) (zY (eL (fF uM (oO (iL (yZ "Page" "things" (eV 0))) (xH (zY (eV 1) zO))))) (zY (eV 2) zO))))) vX)
   (tK self))
def lP (self:List D->Option D):Sf :=
   (xR self)
def xA:Nat->List D->Option D
 | 0=>fun _=>none
 | n+1=>fnF 5 (lP (xA n))
abbrev lK:List D->Option D:=xA 8
theorem gE (T:Txt K mg)(n:Nat)(self:List D->Option D)(IH:FnOk P w K mg base CX0 (7+n) T.q19.f T.q19.fd ["page","entry","size"] (spF K 3 self)):FnOk P w K mg base CX0 (7+n+1) T.q19.f T.q19.fd ["page","entry","size"] (spF K 3 (fnF 5 (lP self))) :=
 vL (k:=7+n) T.q19.F sA fun cdv A outer s H E hr =>
   (zX (xR self) rfl (yN (yL (yY T.ca_Page T.cl_Page T.n_Page_leaf (zW 0))) (zR (zL (yD (tQ T) hr (zZ uF (zZ (wO (zUd (jY T) hr rfl T.z_sorted (gP (pO (sX (yY T.ca_Page T.cl_Page T.n_Page_things (zW 0))) (gP (yK (zZ (zW 1) zV))))))) (zZ (zW 2) zV)))))) zD)
     (zX (tK self) rfl (zF 3 sA.nd (yD (zYb T) hr (zZ (zW 0) (zZ (zW 1) zV))))
     (zX (sY self) rfl (zF 4 sA.nd (yD IH hr (zZ (yE (yY T.ca_Page T.cl_Page T.n_Page_things (zW 0)) (zW 3)) (zZ (zW 1) (zZ (zW 2) zV)))))
     (zR (zL (yD (tQ T) hr (zZ uF (zZ (wO (zXP (pO (gP (wJ (yY T.ca_Page T.cl_Page T.n_Page_things (zW 0)) mX (sC (zW 3)))) (sX (zW 4))) (wJ (yY T.ca_Page T.cl_Page T.n_Page_things (zW 0)) (sC (vQ (zW 3) zS)) mX))) (zZ (zW 2) zV)))))))))
theorem oA (T:Txt K mg):∀n:Nat,FnOk P w K mg base CX0 (7+n) T.q19.f T.q19.fd ["page","entry","size"] (spF K 3 (xA n))
 | 0=>nH
 | n+1=>gE T n _ (oA T n)
theorem fN (T:Txt K mg):OkT P w base T.q19 15 3 lK:=oA T 8
theorem zZ2:FnScope ["self","entry"] ["self","entry"] (zU uX):=xD (by decide +kernel)
def uY:Tf:=(eB2 zXW (zI 2 w9 (zY (lQ 0 "Store" "root") (zY (eV 1) zO))) (eC .non))
def tP:Ef:=(zI 1 mF (zY (zI 3 lK (zY (lQ 0 "Store" "root") (zY (eV 1) (zY (lQ 0 "Store" "size") zO)))) zO))
def w4:List Str->List D->List D->Option (List D):=fun ns=>fnM 2 "Store" ns "root" uY tP
theorem lJ (T:Txt K mg)(ns:List Str):FnOk P w K mg base CX0 16 T.f_Store_put T.fd_Store_put ["self","entry"] (spM K "Store" ns 1 (w4 ns)) :=
 zU4 (N:=["self","entry"]) (ps:=["entry"]) (k:=15) (tt:=uY) (fe:=tP) T.F_Store_put zZ2 T.ca_Store T.cl_Store T.n_Store_root rfl (fun cdv A outer s H E hr =>
   (zB zUO (yD (lL T) hr (zZ (mN 0 T.ca_Store T.cl_Store T.n_Store_root) (zZ (zW 1) zV))) tJ))
   (fun cdv A outer s H E hr=>(yD (eY T) hr (zZ (yD (fN T) hr (zZ (mN 0 T.ca_Store T.cl_Store T.n_Store_root) (zZ (zW 1) (zZ (mN 0 T.ca_Store T.cl_Store T.n_Store_size) zV)))) zV))) rfl (Or.inl rfl)
theorem qE:FnScope ["pages","size","few","start","things","page"] ["pages","size"] (zU kH):=xD (by decide +kernel)
def nA:Sf:=(zYZ 4 (iL (yZ "Page" "things" (eV 5))))
def dP:Sf:=(aH 4 (yJ (eL (oO (oO (xK (eV 0) oNo (xI (eV 3))) (iL (zI 3 vB (zY (yZ "Page" "leaf" (eIx (eV 0) (eC (.int 0)))) (zY (eV 4) (zY (eV 1) zO)))))) (xK (eV 0) (xI (qV (eV 3) (eC (.int 2)))) oNo)))))
def lG:Sf:=(zH (rY (xK (eV 0) (xI (eV 3)) (xI (qV (eV 3) (eC (.int 2))))) (gN 5) (nA))
   (dP))
def kM:Sf:=(zH (nW 4 (xH zO))
   (lG))
def lB:Sf:=(zH (yF 3 (zYx (zZN (eIx (eV 2) (eC (.int 0))) (eC (.int 1))) (eC (.int 0))))
   (kM))
def kT:Sf:=(zH (aH 2 (sIf (z6 (zXD (eV 2))) (yJ (eV 0)) vX))
   (lB))
def pN:Sf:=(zH (nW 2 (wA (zXm (iL (eV 0))) 2 [1] (gT (yP (gN 0) (yP (gN 1) sV))) (eB2 gLt (xJ (yZ "Page" "things" (eV 1))) (lW (eV 2) (eC (.int 2)))) (eV 0)))
   (kT))
def zVe:Sf :=
   (pN)
def fM:List D->Option D:=fnF 6 zVe
theorem zVW (T:Txt K mg):OkT P w base T.q21 4 2 fM :=
 vL (k:=3) T.q21.F qE fun cdv A outer s H E hr =>
   (zX pN rfl (lH (zU kH) ["pages","size","few","start","things","page"] ["at","page"] ["size"] [1] (zQ6 (jJ (eF 0) (jJ (eF 1) zWJ))) 2 qE.nd rfl rfl (zTq rfl T.z_enumerate (sX (zW 0))) rfl rfl rfl (by decide +kernel) (fun _ _ _ _=>(zT3 2 rfl (wR (tN 0 (show(List.Nodup (α:=PySem.Str) ["at","page","size"]) from by decide +kernel)) (wR (tN 1 (show(List.Nodup (α:=PySem.Str) ["at","page","size"]) from by decide +kernel)) jT)) (uB (uB fO)))) (fun _ _ _ _=>(mL (zB zW3 (wX rfl T.z_len (yY T.ca_Page T.cl_Page T.n_Page_things (zW 1))) (qQ (zW 2) zS)))) (fun _ _ _ _=>(zW 0)))
     (zX kT rfl (zZX 2 (yN (yA (fQ (zW 2))) (zR (zL (zW 0))) zD))
     (zX lB rfl (zF 3 qE.nd (zXA rfl rfl T.z_max (iP (yE (zW 2) zS) zS) zS))
     (zX kM rfl (cO 4 qE.nd (yK zV))
     (zX lG rfl (tW Ei rfl (zQB (wJ (zW 0) (sC (zW 3)) (sC (vQ (zW 3) zS)))) (tN 5 qE.nd) (zR (zTQ 4 (aR En PySem.F.slot_list_extend PySem.F.type_list_extend zT8 (pv 4) (yX (sX (yY T.ca_Page T.cl_Page T.n_Page_things (zW 5))) xL)))))
     (zR (zZX 4 (zL (wO (zXP (pO (gP (wJ (zW 0) mX (sC (zW 3)))) (sX (yD (tQ T) hr (zZ (yY T.ca_Page T.cl_Page T.n_Page_leaf (yE (zW 0) zS)) (zZ (zW 4) (zZ (zW 1) zV)))))) (wJ (zW 0) (sC (vQ (zW 3) zS)) mX)))))))))))
theorem uC:FnScope ["page","entry","size","at","inner"] ["page","entry","size"] (zU vG):=xD (by decide +kernel)
def rH (self:List D->Option D):Sf:=(yJ (zI 3 vB (zY (eC (.bl false)) (zY (zI 2 fM (zY (eL (oO (oO (xK (yZ "Page" "things" (eV 0)) oNo (xI (eV 3))) (iL (eV 4))) (xK (yZ "Page" "things" (eV 0)) (xI (qV (eV 3) (eC (.int 1)))) oNo))) (zY (eV 2) zO))) (zY (eV 2) zO)))))
def uU (self:List D->Option D):Sf:=(zH (yF 4 (zI 3 self (zY (eIx (yZ "Page" "things" (eV 0)) (eV 3)) (zY (eV 1) (zY (eV 2) zO)))))
   (rH self))
def uJ (self:List D->Option D):Sf:=(zH (yF 3 (zI 2 dY (zY (eV 0) (zY (eV 1) zO))))
   (uU self))
def yG (self:List D->Option D):Sf:=(zH (sIf (tB1 (yZ "Page" "leaf" (eV 0))) (yJ (zI 3 vB (zY (eC (.bl true)) (zY (eL (wA (iL (yZ "Page" "things" (eV 0))) 1 [1] (gN 0) (eB2 kO (eV 0) (eV 1)) (eV 0))) (zY (eV 2) zO))))) vX)
   (uJ self))
def oB (self:List D->Option D):Sf :=
   (yG self)
def xX:Nat->List D->Option D
 | 0=>fun _=>none
 | n+1=>fnF 5 (oB (xX n))
abbrev oC:List D->Option D:=xX 8
theorem jV (T:Txt K mg)(n:Nat)(self:List D->Option D)(IH:FnOk P w K mg base CX0 (5+n) T.q22.f T.q22.fd ["page","entry","size"] (spF K 3 self)):FnOk P w K mg base CX0 (5+n+1) T.q22.f T.q22.fd ["page","entry","size"] (spF K 3 (fnF 5 (oB self))) :=
 vL (k:=5+n) T.q22.F uC fun cdv A outer s H E hr =>
   (zX (yG self) rfl (yN (yL (yY T.ca_Page T.cl_Page T.n_Page_leaf (zW 0))) (zR (zL (yD (tQ T) hr (zZ uF (zZ (wO (mE (zU vG) ["page","entry","size","at","inner"] ["other"] ["entry"] [1] (eF 0) (fH (yY T.ca_Page T.cl_Page T.n_Page_things (zW 0))) rfl rfl rfl (by decide +kernel) (fun _ _ _ _=>(tN 0 (show(List.Nodup (α:=PySem.Str) ["other","entry"]) from by decide +kernel))) (fun _ _ _ _=>(mL (zB (iB hr) (zW 0) (zW 1)))) (fun _ _ _ _=>(zW 0)))) (zZ (zW 2) zV)))))) zD)
     (zX (uJ self) rfl (zF 3 uC.nd (yD (zYb T) hr (zZ (zW 0) (zZ (zW 1) zV))))
     (zX (uU self) rfl (zF 4 uC.nd (yD IH hr (zZ (yE (yY T.ca_Page T.cl_Page T.n_Page_things (zW 0)) (zW 3)) (zZ (zW 1) (zZ (zW 2) zV)))))
     (zR (zL (yD (tQ T) hr (zZ uF (zZ (yD (zVW T) hr (zZ (wO (zXP (pO (gP (wJ (yY T.ca_Page T.cl_Page T.n_Page_things (zW 0)) mX (sC (zW 3)))) (sX (zW 4))) (wJ (yY T.ca_Page T.cl_Page T.n_Page_things (zW 0)) (sC (vQ (zW 3) zS)) mX))) (zZ (zW 2) zV))) (zZ (zW 2) zV)))))))))
theorem rM (T:Txt K mg):∀n:Nat,FnOk P w K mg base CX0 (5+n) T.q22.f T.q22.fd ["page","entry","size"] (spF K 3 (xX n))
 | 0=>nH
 | n+1=>jV T n _ (rM T n)
theorem iV (T:Txt K mg):OkT P w base T.q22 13 3 oC:=rM T 8
theorem cK:FnScope ["self","entry"] ["self","entry"] (zU vV):=xD (by decide +kernel)
def vW:Tf:=(eB2 kO (zI 2 w9 (zY (lQ 0 "Store" "root") (zY (eV 1) zO))) (eV 1))
def uR:Ef:=(zI 1 mF (zY (zI 3 oC (zY (lQ 0 "Store" "root") (zY (eV 1) (zY (lQ 0 "Store" "size") zO)))) zO))
def vI:List Str->List D->List D->Option (List D):=fun ns=>fnM 2 "Store" ns "root" vW uR
theorem dN (T:Txt K mg)(ns:List Str):FnOk P w K mg base CX0 14 T.f_Store_take T.fd_Store_take ["self","entry"] (spM K "Store" ns 1 (vI ns)) :=
 zU4 (N:=["self","entry"]) (ps:=["entry"]) (k:=13) (tt:=vW) (fe:=uR) T.F_Store_take cK T.ca_Store T.cl_Store T.n_Store_root rfl (fun cdv A outer s H E hr =>
   (zB (iB hr) (yD (lL T) hr (zZ (mN 0 T.ca_Store T.cl_Store T.n_Store_root) (zZ (zW 1) zV))) (zW 1)))
   (fun cdv A outer s H E hr=>(yD (eY T) hr (zZ (yD (iV T) hr (zZ (mN 0 T.ca_Store T.cl_Store T.n_Store_root) (zZ (zW 1) (zZ (mN 0 T.ca_Store T.cl_Store T.n_Store_size) zV)))) zV))) rfl (Or.inl rfl)
theorem oG:FnScope ["_law_script","_law_size","_law_seed","_law_row_here","_law_store","_law_there","_law_entry","_law_k","_law_cell_here"] ["_law_script"] (zU zUL):=xD (by decide +kernel)
def zYt:Sf:=(sIf (rD 4 1 (dR 5 (sT (eB2 gEq (tH (xJ (eV 5)) (eC (.int 6))) (eC (.int 0))) (z6 (tB1 (zI 3 yI (zY (eV 4) (zY (eV 1) (zY (eV 5) zO))))))))) (yJ (eC (.bl false))) vX)
def dQ:Sf:=(zH (zZs 5 (eV 6))
   (zYt))
def jI:Sf:=(zH (iQ 4 "Store" "put" 1 w4 (zY (eV 6) zO))
   (dQ))
def zYE:Sf:=(sIf (rD 4 1 (dR 5 (sT (eB2 gEq (tH (xJ (eV 5)) (eC (.int 6))) (eC (.int 0))) (z6 (tB1 (zI 3 yI (zY (eV 4) (zY (eV 1) (zY (eV 5) zO))))))))) (yJ (eC (.bl false))) vX)
def jN:Sf:=(zH (nO 4 5 "Store" "take" vI (tH (zI 2 xY (zY (eV 8) (zY (qV (eC (.int 200)) (eV 7)) zO))) (zYR 5)))
   (zYE))
def jK:Sf:=(zH (yF 8 (zI 2 wF (zY (eV 0) (zY (qV (eC (.int 2)) (tH (eV 7) (zYx (eC (.int 1)) (zUl (eC (.int 61)) (zZN (xJ (eV 0)) (eC (.int 2))))))) zO))))
   (jN))
def zYJ:Sf:=(yJ (fB 4 1 (zI 3 yI (zY (eV 4) (zY (eV 1) (zY (eL (xH (zY (eIx (eV 3) (eC (.int 0))) zO))) zO))))))
def aJ:Sf:=(zH (iQ 4 "Store" "put" 1 w4 (zY (eIx (eV 3) (eC (.int 0))) zO))
   (zYJ))
def zZ3:Sf:=(zH (sIf (rD 4 1 (eB2 zRq (aW "Store" "shape" 1 wT (eV 4) zO) (cQ (zY (eC (.str "leaf")) (zY (eL (xH zO)) zO))))) (yJ (eC (.bl false))) vX)
   (aJ))
def zZv:Sf:=(zH (rY (iR (xJ (eV 3))) (gN 7) (jK))
   (zZ3))
def aG:Sf:=(zH (sIf (rD 4 1 (dR 5 (z6 (tB1 (zI 3 yI (zY (eV 4) (zY (eV 1) (zY (eV 5) zO)))))))) (yJ (eC (.bl false))) vX)
   (zZv))
def zZL:Sf:=(zH (rY (iL (zI 2 sR (zY (eV 3) (zY (tH (lW (zI 2 wF (zY (eV 0) (zY (eC (.int 0)) zO))) (eC (.int 9))) (eC (.int 3))) zO)))) (gN 6) (jI))
   (aG))
def zZF:Sf:=(zH (nW 5 (xH zO))
   (zZL))
def aO:Sf:=(zH (zZS 4 "Store" ["size","root"] 1 dB (zY (eV 1) zO))
   (zZF))
def zZH:Sf:=(zH (yF 3 (zI 2 hW (zY (eV 2) (zY (qV (eC (.int 40)) (tH (zI 2 xY (zY (eV 2) (zY (eC (.int 2)) zO))) (eC (.int 80)))) zO))))
   (aO))
def zZU:Sf:=(zH (yF 2 (zI 2 wF (zY (eV 0) (zY (eC (.int 1)) zO))))
   (zZH))
def fY:Sf:=(zH (yF 1 (qV (eC (.int 4)) (tH (zI 2 wF (zY (eV 0) (zY (eC (.int 0)) zO))) (eC (.int 9)))))
   (zZU))
def zQx:Sf :=
   (fY)
def bK:List D->Option D:=fnF 9 zQx
theorem zRM (T:Txt K mg):OkT P w base T.q24 17 1 bK :=
 vL (k:=16) T.q24.F oG fun cdv A outer s H E hr =>
   (zX fY rfl (zF 1 oG.nd (vQ zS (wV (yD (rO T) hr (zZ (zW 0) (zZ zS zV))) zS)))
     (zX zZU rfl (zF 2 oG.nd (yD (rO T) hr (zZ (zW 0) (zZ zS zV))))
     (zX zZH rfl (zF 3 oG.nd (yD (zYc T) hr (zZ (zW 2) (zZ (vQ zS (wV (yD (w6 T) hr (zZ (zW 2) (zZ zS zV))) zS)) zV))))
     (zX aO rfl (zUt 4 oG.nd T.ca_Store T.mk_Store (zWd T) (hr.mono (by lia)) T.mc_Store T.bi_Store rfl (zZ (zW 1) zV))
     (zX zZF rfl (cO 5 oG.nd (yK zV))
     (zX zZL rfl (tW Ei rfl (fH (yD (cH T) hr (zZ (zW 3) (zZ (wV (qQ (yD (rO T) hr (zZ (zW 0) (zZ zS zV))) zS) zS) zV)))) (tN 6 oG.nd) (zX jI rfl (zYQ 4 T.ca_Store T.cl_Store T.me_Store_put (lJ T) (hr.mono (by lia)) T.b_Store_put (zZ (zW 6) zV))
     (zX dQ rfl (zX7 5 (aR En Yh Yj mM (pv 5) (yX (zW 6) xL)))
     (zR (yN (jR 4 1 (aA 5 (jG (fW (zB cC (wV (wX rfl T.z_len (zW 5)) zS) zS) (kB (yA (yL (yD (tU T) hr (zZ (zW 4) (zZ (zW 1) (zZ (zW 5) zV))))))))))) (zR (zL uF)) zD)))))
     (zX aG rfl (yN (jR 4 1 (aA 5 (yA (yL (yD (tU T) hr (zZ (zW 4) (zZ (zW 1) (zZ (zW 5) zV)))))))) (zR (zL uF)) zD)
     (zX zZv rfl (tW Ei rfl (zUz rfl T.z_range (wX rfl T.z_len (zW 3))) (tN 7 oG.nd) (zX jK rfl (zF 8 oG.nd (yD (rO T) hr (zZ (zW 0) (zZ (vQ zS (wV (zW 7) (zXA rfl rfl T.z_max zS (zRK rfl rfl T.z_min zS (iP (wX rfl T.z_len (zW 0)) zS))))) zV))))
     (zX jN rfl (zXJ 4 5 T.ca_Store T.cl_Store T.me_Store_take (dN T) (hr.mono (by lia)) T.b_Store_take (aR En PySem.F.slot_list_pop PySem.F.type_list_pop zUE (pv 5) (yX (wV (yD (w6 T) hr (zZ (zW 8) (zZ (vQ zS (zW 7)) zV))) (zWC 5 rfl T.z_len)) xL)))
     (zR (yN (jR 4 1 (aA 5 (jG (fW (zB cC (wV (wX rfl T.z_len (zW 5)) zS) zS) (kB (yA (yL (yD (tU T) hr (zZ (zW 4) (zZ (zW 1) (zZ (zW 5) zV))))))))))) (zR (zL uF)) zD)))))
     (zX zZ3 rfl (yN (jR 4 1 (zB (zR9 hr) (zY0 T.ca_Store T.cl_Store T.me_Store_shape (mR T) (hr.mono (by lia)) T.b_Store_shape (zW 4)) (hV (zZ nL (zZ (wO (yK zV)) zV))))) (zR (zL uF)) zD)
     (zX aJ rfl (zYQ 4 T.ca_Store T.cl_Store T.me_Store_put (lJ T) (hr.mono (by lia)) T.b_Store_put (zZ (yE (zW 3) zS) zV))
     (zR (zL (zUU 4 1 (yD (tU T) hr (zZ (zW 4) (zZ (zW 1) (zZ (wO (yK (zZ (yE (zW 3) zS) zV))) zV)))))))))))))))))
end
open PySem.W
theorem zR2 {l:OpenLaw}{w:World}{K:Frag}{h:Heap}{mg:Str->Option Value}{fa:Addr}
   {f10:Addr} {od10 an10:Option Addr} {sl10:Array (Option Value)} {oc10 kV10 dc10 pm10 cd10 ct10:Value}
   {f12:Addr} {od12 an12:Option Addr} {sl12:Array (Option Value)} {oc12 kV12 dc12 pm12 cd12 ct12:Value}
   {f20:Addr} {od20 an20:Option Addr} {sl20:Array (Option Value)} {oc20 kV20 dc20 pm20 cd20 ct20:Value}
   {f23:Addr} {od23 an23:Option Addr} {sl23:Array (Option Value)} {oc23 kV23 dc23 pm23 cd23 ct23:Value}
   {cC0 cF0:Addr} {codi0 cani0:Option Addr} {csl0:Array (Option Value)} {coc0 ckV0 cdc0 cpm0 ccd0 cct0:Value}
   {cC1 cF1:Addr} {codi1 cani1:Option Addr} {csl1:Array (Option Value)} {coc1 ckV1 cdc1 cpm1 ccd1 cct1:Value} (X:K.In h) (G:h.Ns mainGlobals mg) (hfa:mg "law"=some (.ref fa))
   (g0:rR K "_law_cell" kW)
   (g1:rR K "_law_mixed" nU)
   (g2:rR K "_law_word" lI)
   (g3:rR K "_law_row" iE)
   (g4:rR K "_law_turned" pA)
   (g5:rR K "_law_pages" nF)
   (g6:rR K "_law_number" oN)
   (g7:rR K "_law_entries" rC)
   (g8:rR K "_law_flat" pI)
   (g9:rR K "shape_of" pC)
   (g11:rR K "entries_beneath" uN)
   (g13:rR K "_law_stands" oM)
   (g14:rR K "root_of" iJ)
   (g15:rR K "rank" zX3)
   (g16:rR K "way" zWG)
   (g17:rR K "entry_like" sQ)
   (g18:rR K "pages_of" lA)
   (g19:rR K "put_beneath" rB)
   (g21:rR K "filled" kH)
   (g22:rR K "taken_beneath" vG)
   (g24:rR K "law" zUL)
   (ca0:nsIn K mainGlobals "Page"=some (some (.ref cC0))) (ci0:findIn K (.ref cC0) "__init__"=some (some (.ref cF0))) (cn0:isFn K (.ref cF0)=true) (cl0:K.lookup cF0=some ⟨coc0,codi0,.func (fnOf "__init__" "Page.__init__" (wK sJ) (yH sJ) (zU sJ) .none ckV0 cdc0 cpm0 cani0 ccd0 cct0),csl0⟩) (cc0:codeIn K ccd0 "Page.__init__"=true) (ck0:keepIn K (.ref cF0)=true)
   (cpg0:plainGet K cC0 Str.empty=true) (chd0:hasDictIn K cC0=true) (cpo0:plainOver K cC0=true) (csa0:findIn K (.ref cC0) "__setattr__"=some (some (.builtin "object.__setattr__"))) (cmk0:makesIn K cC0=true) (ckc0:keepIn K (.ref cC0)=true)
   (cf0_leaf:findIn K (.ref cC0) "leaf"=some none)
   (cf0_leasts:findIn K (.ref cC0) "leasts"=some none)
   (cf0_most:findIn K (.ref cC0) "most"=some none)
   (cf0_things:findIn K (.ref cC0) "things"=some none)
   (ca1:nsIn K mainGlobals "Store"=some (some (.ref cC1))) (ci1:findIn K (.ref cC1) "__init__"=some (some (.ref cF1))) (cn1:isFn K (.ref cF1)=true) (cl1:K.lookup cF1=some ⟨coc1,codi1,.func (fnOf "__init__" "Store.__init__" (wK qF) (yH qF) (zU qF) .none ckV1 cdc1 cpm1 cani1 ccd1 cct1),csl1⟩) (cc1:codeIn K ccd1 "Store.__init__"=true) (ck1:keepIn K (.ref cF1)=true)
   (cpg1:plainGet K cC1 Str.empty=true) (chd1:hasDictIn K cC1=true) (cpo1:plainOver K cC1=true) (csa1:findIn K (.ref cC1) "__setattr__"=some (some (.builtin "object.__setattr__"))) (cmk1:makesIn K cC1=true) (ckc1:keepIn K (.ref cC1)=true)
   (cf1_root:findIn K (.ref cC1) "root"=some none)
   (cf1_size:findIn K (.ref cC1) "size"=some none)
   (a10:findIn K (.ref cC1) "shape"=some (some (.ref f10))) (n10:isFn K (.ref f10)=true) (l10:K.lookup f10=some ⟨oc10,od10,.func (fnOf "shape" "Store.shape" (wK wS) (yH wS) (zU wS) .none kV10 dc10 pm10 an10 cd10 ct10),sl10⟩) (c10:codeIn K cd10 "Store.shape"=true) (k10:keepIn K (.ref f10)=true)
   (a12:findIn K (.ref cC1) "listed"=some (some (.ref f12))) (n12:isFn K (.ref f12)=true) (l12:K.lookup f12=some ⟨oc12,od12,.func (fnOf "listed" "Store.listed" (wK xC) (yH xC) (zU xC) .none kV12 dc12 pm12 an12 cd12 ct12),sl12⟩) (c12:codeIn K cd12 "Store.listed"=true) (k12:keepIn K (.ref f12)=true)
   (a20:findIn K (.ref cC1) "put"=some (some (.ref f20))) (n20:isFn K (.ref f20)=true) (l20:K.lookup f20=some ⟨oc20,od20,.func (fnOf "put" "Store.put" (wK uX) (yH uX) (zU uX) .none kV20 dc20 pm20 an20 cd20 ct20),sl20⟩) (c20:codeIn K cd20 "Store.put"=true) (k20:keepIn K (.ref f20)=true)
   (a23:findIn K (.ref cC1) "take"=some (some (.ref f23))) (n23:isFn K (.ref f23)=true) (l23:K.lookup f23=some ⟨oc23,od23,.func (fnOf "take" "Store.take" (wK vV) (yH vV) (zU vV) .none kV23 dc23 pm23 an23 cd23 ct23),sl23⟩) (c23:codeIn K cd23 "Store.take"=true) (k23:keepIn K (.ref f23)=true)
   (z_bool:nsIn K mainGlobals "bool"=some none)
   (z_enumerate:nsIn K mainGlobals "enumerate"=some none)
   (z_int:nsIn K mainGlobals "int"=some none)
   (z_isinstance:nsIn K mainGlobals "isinstance"=some none)
   (z_len:nsIn K mainGlobals "len"=some none)
   (z_list:nsIn K mainGlobals "list"=some none)
   (z_max:nsIn K mainGlobals "max"=some none)
   (z_min:nsIn K mainGlobals "min"=some none)
   (z_range:nsIn K mainGlobals "range"=some none)
   (z_reversed:nsIn K mainGlobals "reversed"=some none)
   (z_sorted:nsIn K mainGlobals "sorted"=some none)
   (z_str:nsIn K mainGlobals "str"=some none)
   (z_tuple:nsIn K mainGlobals "tuple"=some none)
   (z_zip:nsIn K mainGlobals "zip"=some none) :
   ∃fd:FuncData,(∀(s:Shared) (v:Value),BindsTo s fd ⟨[v],[]⟩ [("_law_script",v)])/\∀base:Heap,K.In base->base.Ns mainGlobals mg->FnOk l.prog w K mg base CX0 17 fa fd ["_law_script"] (spF K 1 bK):=by
 have cFF0:=nN (st:=sJ) cl0 cc0 ck0
 have cb0:=cFF0.binds (ps:=["self","leaf","things"]) fun _ _ _ _ _ _ us hl=>match us,hl with | [_,_,_],_=>rfl
 have cFF1:=nN (st:=qF) cl1 cc1 ck1
 have cb1:=cFF1.binds (ps:=["self","size"]) fun _ _ _ _ _ _ us hl=>match us,hl with | [_,_],_=>rfl
 have F10:=nN (st:=wS) l10 c10 k10
 have b10:=F10.binds (ps:=["self"]) fun _ _ _ _ _ _ us hl=>match us,hl with | [_],_=>rfl
 have F12:=nN (st:=xC) l12 c12 k12
 have b12:=F12.binds (ps:=["self"]) fun _ _ _ _ _ _ us hl=>match us,hl with | [_],_=>rfl
 have F20:=nN (st:=uX) l20 c20 k20
 have b20:=F20.binds (ps:=["self","entry"]) fun _ _ _ _ _ _ us hl=>match us,hl with | [_,_],_=>rfl
 have F23:=nN (st:=vV) l23 c23 k23
 have b23:=F23.binds (ps:=["self","entry"]) fun _ _ _ _ _ _ us hl=>match us,hl with | [_,_],_=>rfl
 exact zSu _ (bd1 fun _ _ _ _ _ _ _=>rfl) hfa fun base=>zRM ({ q0:=qY X G g0 (bd2 fun _ _ _ _ _ _ _ _=>rfl),q1:=qY X G g1 (bd2 fun _ _ _ _ _ _ _ _=>rfl),q2:=qY X G g2 (bd2 fun _ _ _ _ _ _ _ _=>rfl),q3:=qY X G g3 (bd2 fun _ _ _ _ _ _ _ _=>rfl),q4:=qY X G g4 (bd2 fun _ _ _ _ _ _ _ _=>rfl),q5:=qY X G g5 (bd3 fun _ _ _ _ _ _ _ _ _=>rfl),q6:=qY X G g6 (bd1 fun _ _ _ _ _ _ _=>rfl),q7:=qY X G g7 (bd2 fun _ _ _ _ _ _ _ _=>rfl),q8:=qY X G g8 (bd1 fun _ _ _ _ _ _ _=>rfl),q9:=qY X G g9 (bd1 fun _ _ _ _ _ _ _=>rfl),q11:=qY X G g11 (bd1 fun _ _ _ _ _ _ _=>rfl),q13:=qY X G g13 (bd3 fun _ _ _ _ _ _ _ _ _=>rfl),q14:=qY X G g14 (bd1 fun _ _ _ _ _ _ _=>rfl),q15:=qY X G g15 (bd1 fun _ _ _ _ _ _ _=>rfl),q16:=qY X G g16 (bd2 fun _ _ _ _ _ _ _ _=>rfl),q17:=qY X G g17 (bd2 fun _ _ _ _ _ _ _ _=>rfl),q18:=qY X G g18 (bd3 fun _ _ _ _ _ _ _ _ _=>rfl),q19:=qY X G g19 (bd3 fun _ _ _ _ _ _ _ _ _=>rfl),q21:=qY X G g21 (bd2 fun _ _ _ _ _ _ _ _=>rfl),q22:=qY X G g22 (bd3 fun _ _ _ _ _ _ _ _ _=>rfl),q24:=qY X G g24 (bd1 fun _ _ _ _ _ _ _=>rfl),C_Page:=_,fi_Page:=_,fdi_Page:=_,ca_Page:=ca0,cl_Page:=⟨cpg0,chd0,cpo0,csa0⟩,mc_Page:=mg_of X G ca0,Fi_Page:=cFF0,bi_Page:=cb0,mk_Page:=⟨cmk0,ci0,cn0,ckc0⟩,n_Page_leaf:=cf0_leaf,n_Page_leasts:=cf0_leasts,n_Page_most:=cf0_most,n_Page_things:=cf0_things,C_Store:=_,fi_Store:=_,fdi_Store:=_,ca_Store:=ca1,cl_Store:=⟨cpg1,chd1,cpo1,csa1⟩,mc_Store:=mg_of X G ca1,Fi_Store:=cFF1,bi_Store:=cb1,mk_Store:=⟨cmk1,ci1,cn1,ckc1⟩,n_Store_root:=cf1_root,n_Store_size:=cf1_size,f_Store_shape:=_,fd_Store_shape:=_,F_Store_shape:=F10,b_Store_shape:=b10,me_Store_shape:=⟨a10,n10,k10⟩,f_Store_listed:=_,fd_Store_listed:=_,F_Store_listed:=F12,b_Store_listed:=b12,me_Store_listed:=⟨a12,n12,k12⟩,f_Store_put:=_,fd_Store_put:=_,F_Store_put:=F20,b_Store_put:=b20,me_Store_put:=⟨a20,n20,k20⟩,f_Store_take:=_,fd_Store_take:=_,F_Store_take:=F23,b_Store_take:=b23,me_Store_take:=⟨a23,n23,k23⟩,z_bool:=mg_none_of X G z_bool,z_enumerate:=mg_none_of X G z_enumerate,z_int:=mg_none_of X G z_int,z_isinstance:=mg_none_of X G z_isinstance,z_len:=mg_none_of X G z_len,z_list:=mg_none_of X G z_list,z_max:=mg_none_of X G z_max,z_min:=mg_none_of X G z_min,z_range:=mg_none_of X G z_range,z_reversed:=mg_none_of X G z_reversed,z_sorted:=mg_none_of X G z_sorted,z_str:=mg_none_of X G z_str,z_tuple:=mg_none_of X G z_tuple,z_zip:=mg_none_of X G z_zip }:Txt K mg)
theorem zRI {K:Frag}{H:Hp}{a:Addr}{ns:List Int}(hS:SqL K H a (ns.map V.int))(h:bK [.lst (ns.map .int)]=some (.bl true)):spF K 1 bK [.ref a] H (fun v _=>v = .bl true) fun _ _ _=>False:=by
 have rs:∀ns:List Int,Reps K H (ns.map .int) (ns.map V.int):=fun ns=>by
   induction ns with
   | nil=>exact zN.mpr rfl
   | cons n r ih=>exact zQ.mpr ⟨_,_,rfl,zJ.mpr rfl,ih⟩
 exact⟨H,[.lst (ns.map .int)],.bl true,Same.refl _,zQ.mpr ⟨_,_,rfl,yM.mpr ⟨a,_,rfl,hS,rs ns⟩,zN.mpr rfl⟩,rfl,h,fun v H' G' _ r=>vD.mp r⟩
end My
namespace My
open PySem L2
structure Et where
 f:Int
 l:Int
 z:Str
def kE (e:Et):Int×Str:=(e.f,e.z)
abbrev zE:Et:=⟨0,0,⟨#[]⟩⟩
def xO (a e:Et):Bool:=a.f==e.f&&(a.l==e.l&&a.z==e.z)
theorem uZ {a e:Et}:xO a e=true↔a=e:=by
 obtain⟨f,l,z⟩:=a
 obtain⟨f',l',z'⟩:=e
 unfold xO
 simp
def rX (l:List Et):List Et:=(zZw (l.map kE)).map fun i=>l.getD i zE
theorem zSC {l:List Et}{i:Nat}(h:i∈zZw (l.map kE)):i < l.length:=by
 have:=(iI (l.map kE)).subset h
 simpa using this
theorem lC (l:List Et):(rX l).Perm l:=by
 unfold rX
 refine((iI (l.map kE)).map _).trans ?_
 rw[Qt,uS]
theorem zX4 (l:List Et):(rX l).map kE=zZC (l.map kE):=by
 unfold rX zZC
 rw[Tr]
 refine Yu fun i hi=>?_
 have h:=zSC hi
 show kE (l.getD i zE)=(l.map kE).getD i isZ
 simp[h]
theorem iA (l:List Et):(rX l).length=l.length:=(lC l).length_eq
def Srt (es:List Et):Prop:=es.Pairwise fun a b=>yV (kE a) (kE b)=true
theorem zTa {a b:Int×Str}(h:yV a b=true):yV b a=false:=by
 cases q:yV b a
 · rfl
 · have:=fP h q;rw[xQ] at this;cases this
theorem zSE {a b c:Int×Str}(h:yV a b=true)(h2:yV c b=false):yV a c=true:=by
 rcases fK (b:=c) h with q | q
 · exact q
 · rw[h2] at q;cases q
theorem Srt.of {es:List Et}(h:(es.map kE).Pairwise fun a b=>yV b a=false)(nd:(es.map kE).Nodup):Srt es:=by
 unfold Srt
 rw[Ek] at h
 have nd:=Ek.mp nd
 refine(h.and nd).imp fun {a b} z=>?_
 cases q:yV (kE a) (kE b)
 · exact absurd (zXo q z.1) z.2
 · rfl
theorem Srt.nd {es:List Et}(h:Srt es):(es.map kE).Nodup:=by
 refine Ek.mpr (h.imp fun {a b} z e=>?_)
 rw[e,xQ] at z;cases z
theorem zV9 {l:List Et}(nd:(l.map kE).Nodup):Srt (rX l):=by
 refine Srt.of ?_ ((((lC l).map kE)).nodup_iff.mpr nd)
 rw[zX4];exact cJ _
theorem Srt.inj {es:List Et}(h:Srt es){a b:Et}(ha:a∈es)(hb:b∈es)(e:kE a=kE b):a=b:=by
 induction es with
 | nil=>cases ha
 | cons x r ih =>
   obtain⟨p,q⟩:=Rr.mp h
   rcases Qf.mp ha with ea | ha'<;>rcases Qf.mp hb with eb | hb'
   · rw[ea,eb]
   · have:=p b hb';rw[←ea,e,xQ] at this;cases this
   · have:=p a ha';rw[←eb,e,xQ] at this;cases this
   · exact ih q ha' hb'
@[reducible] def It:Nat->Type
 | 0=>Et
 | h+1=>List (It h)
def zQJ {α:Type}(f:α->Et):List α->Et
 | []=>zE
 | x::_=>f x
def z9:(h:Nat)->It h->Et
 | 0,e=>e
 | h+1,xs=>zQJ (z9 h) xs
def most:(h:Nat)->It h->Int
 | 0,e=>e.l
 | h+1,xs=>nS (List.map (most h) xs)
def wN:(h:Nat)->It h->List Et
 | 0,e=>[e]
 | h+1,xs=>List.flatMap (wN h) xs
abbrev zT (h:Nat)(xs:List (It h)):List Et:=xs.flatMap (wN h)
def wL {α:Type}(n:Nat)(xs:List α):List (List α):=if xs.length=0 then [] else if xs.length<=n then [xs] else [xs.take (xs.length / 2),xs.drop (xs.length / 2)]
def zVH (ls:List Et)(e:Et):Nat:=(ls.filter fun a => !yV (kE e) (kE a)).length - 1
def yS (h:Nat)(xs:List (It (h+1)))(e:Et):Nat:=zVH (xs.map (z9 (h+1))) e
def gR:(h:Nat)->List (It h)->Et->Option Et
 | 0,xs,e=>(List.filter (fun a:Et=>decide (kE a=kE e)) xs).head?
 | h+1,xs,e=>gR h (List.getD xs (yS h xs e) []) e
def pW (n:Nat):(h:Nat)->List (It h)->Et->List (List (It h))
 | 0,xs,e=>wL n (rX (xs++[e]))
 | h+1,xs,e=>wL n (List.take (yS h xs e) xs++pW n h (List.getD xs (yS h xs e) []) e++List.drop (yS h xs e+1) xs)
def rQ {α:Type}(n:Nat)(ps:List (List α)):List (List α) :=
 match ps.findIdx? (fun x=>decide (x.length < n / 2)) with
 | none=>ps
 | some i=>ps.take (i - 1)++wL n ((ps.drop (i - 1)).take 2).flatten++ps.drop (i - 1+2)
def fZ (n:Nat):(h:Nat)->List (It h)->Et->List (List (It h))
 | 0,xs,e=>wL n (List.filter (fun a:Et => !xO a e) xs)
 | h+1,xs,e=>wL n (rQ n (List.take (yS h xs e) xs++fZ n h (List.getD xs (yS h xs e) []) e++List.drop (yS h xs e+1) xs))
def wM (n:Nat):(h:Nat)->It h->Prop
 | 0,_=>True
 | h+1,xs=>n / 2<=List.length xs/\List.length xs<=n/\∀x∈(xs:List (It h)),wM n h x
theorem pQ {n h:Nat}{xs:List (It h)}(h1:n / 2<=xs.length)(h2:xs.length<=n)(h3:∀x∈xs,wM n h x):wM n (h+1) xs:=⟨h1,h2,h3⟩
theorem yQ {n h:Nat}{xs:List (It h)}(H:wM n (h+1) xs):n / 2<=xs.length/\xs.length<=n/\∀x∈xs,wM n h x:=H
theorem bI {α:Type}(n:Nat)(xs:List α):(wL n xs).flatten=xs:=by
 unfold wL
 split
 · rename_i h;rw[Td] at h;rw[h];rfl
 · split
   · simp
   · simp
theorem kJ {α:Type}{n:Nat}{xs:List α}(h0:0 < xs.length)(h1:xs.length<=n):wL n xs=[xs]:=by
 unfold wL
 rw[Qs (by lia),Qo h1]
theorem zZd {α:Type}{n:Nat}{xs:List α}(h1:n < xs.length):wL n xs=[xs.take (xs.length / 2),xs.drop (xs.length / 2)]:=by
 unfold wL
 rw[Qs (by lia),Qs (by lia)]
inductive PutOk (n h:Nat)(m:Nat):List (List (It h))->Prop
 | one {y:List (It h)}:m<=y.length->y.length<=n->(∀x∈y,wM n h x)->PutOk n h m [y]
 | two {y z:List (It h)}:wM n (h+1) y->wM n (h+1) z->PutOk n h m [y,z]
theorem cD {n h m:Nat}{xs:List (It h)}(hn:4<=n)(h0:0 < xs.length)(hm:m<=xs.length)(h1:xs.length<=n+1)(hf:∀x∈xs,wM n h x):PutOk n h m (wL n xs):=by
 by_cases h2:xs.length<=n
 · rw[kJ h0 h2];exact .one hm h2 hf
 · rw[zZd (by lia)]
   refine .two (pQ ?_ ?_ ?_) (pQ ?_ ?_ ?_)
   · rw[Qg];lia
   · rw[Qg];lia
   · exact fun x hx=>hf x (Wl hx)
   · rw[Wy];lia
   · rw[Wy];lia
   · exact fun x hx=>hf x (Wk hx)
theorem PutOk.all {n h m:Nat}{ys:List (List (It h))}(H:PutOk n h m ys)(hm:n / 2<=m):(∀y∈ys,wM n (h+1) y)/\(ys.length=1∨ys.length=2):=by
 cases H with
 | one a b c=>exact⟨fun y hy=>by rw[Qz] at hy;subst hy;exact pQ (Wa hm a) b c,.inl rfl⟩
 | two a b =>
   refine⟨fun y hy=>?_,.inr rfl⟩
   rcases Qf.mp hy with rfl | hy
   · exact a
   · rw[Qz] at hy;subst hy;exact b
theorem zR3 {ls:List Et}{e:Et}(h:0 < ls.length):zVH ls e < ls.length:=by
 have:=Uj (fun a => !yV (kE e) (kE a)) ls
 unfold zVH
 lia
theorem aM {h:Nat}{xs:List (It (h+1))}{e:Et}(h0:0 < xs.length):yS h xs e < xs.length:=by
 have:=zR3 (ls:=xs.map (z9 (h+1))) (e:=e) (by simpa using h0)
 simpa [yS] using this
theorem zZq {α:Type}{xs:List α}{i:Nat}{d:α}(h:i < xs.length):xs=xs.take i++xs.getD i d::xs.drop (i+1):=by
 have:xs.getD i d=xs[i]:=by simp[h]
 rw[this,List.getElem_cons_drop,Wv]
theorem zXE (n:Nat)(hn:4<=n)(e:Et):∀(h:Nat) (xs:List (It h)),xs.length<=n->(h=0∨0 < xs.length)->(∀x∈xs,wM n h x)->PutOk n h xs.length (pW n h xs e)
 | 0,xs,hl,_,hf=>by
   have hL:(rX (xs++[e])).length=xs.length+1:=by
     rw[iA];exact Qe
   exact cD (h:=0) hn (by lia) (by lia) (by lia) fun _ _=>trivial
 | h+1,xs,hl,h0,hf=>by
   have h0:0 < xs.length:=by rcases h0 with z | z;cases z;exact z
   have hw:=aM (e:=e) h0
   have hc:wM n (h+1) (xs.getD (yS h xs e) []):=hf _ (by
     have:xs.getD (yS h xs e) []=xs[yS h xs e]:=by simp[hw]
     rw[this];exact Rb hw)
   obtain⟨c1,c2,c3⟩:=yQ hc
   have ih:=zXE n hn e h (xs.getD (yS h xs e) []) c2 (.inr (by lia)) c3
   obtain⟨hall,hlen⟩:=ih.all c1
   show PutOk n (h+1) xs.length (wL n (xs.take (yS h xs e)++pW n h (xs.getD (yS h xs e) []) e++xs.drop (yS h xs e+1)))
   have hL:(xs.take (yS h xs e)++pW n h (xs.getD (yS h xs e) []) e++xs.drop (yS h xs e+1)).length=xs.length - 1+(pW n h (xs.getD (yS h xs e) []) e).length:=by
     rw[Qe,Qe,Qg,Wy];lia
   refine cD (h:=h+1) hn (by lia) (by lia) (by lia) fun x hx=>?_
   rcases Qx.mp hx with hx | hx
   · rcases Qx.mp hx with hx | hx
     · exact hf x (Wl hx)
     · exact hall x hx
   · exact hf x (Wk hx)
theorem zZl {α:Type}{n:Nat}{L R:List (List α)}{c:List α}(hL:∀x∈L,n / 2<=x.length)(hR:∀x∈R,n / 2<=x.length) :
   (L++c::R).findIdx? (fun x=>decide (x.length < n / 2))=if c.length < n / 2 then some L.length else none:=by
 induction L with
 | nil =>
   rw[Uk,Ia]
   by_cases q:c.length < n / 2
   · rw[Qo q];simp[q]
   · have:R.findIdx? (fun x=>decide (x.length < n / 2))=none:=List.findIdx?_eq_none_iff.mpr fun x hx=>by have:=hR x hx;simp;lia
     rw[Qs q,this];simp[q]
 | cons x r ih =>
   have hx:=hL x Qv
   rw[Ym,Ia,ih fun y hy=>hL y (Qb _ hy)]
   rw[show decide (x.length < n / 2)=false from by simp;lia]
   by_cases q:c.length < n / 2<;>simp[q]
theorem zWY {n h:Nat}(hn:4<=n){L R:List (List (It h))}{c:List (It h)}(hL:∀x∈L,wM n (h+1) x)(hR:∀x∈R,wM n (h+1) x)(hc:n / 2<=c.length+1)(hc2:c.length<=n)(hcf:∀x∈c,wM n h x)(h2:1<=L.length+R.length) :
   (∀x∈rQ n (L++c::R),wM n (h+1) x)/\L.length+R.length<=(rQ n (L++c::R)).length/\(rQ n (L++c::R)).length<=L.length+R.length+1/\(rQ n (L++c::R)).flatten=(L++c::R).flatten:=by
 have hf:=zZl (n:=n) (L:=L) (R:=R) (c:=c) (fun x hx=>(yQ (hL x hx)).1) (fun x hx=>(yQ (hR x hx)).1)
 unfold rQ
 rw[hf]
 by_cases q:c.length < n / 2
 · rw[Qo q]
   show(∀x∈(L++c::R).take (L.length - 1)++wL n (((L++c::R).drop (L.length - 1)).take 2).flatten++(L++c::R).drop (L.length - 1+2),wM n (h+1) x)/\_
   -- two pages put together
   have two:∀(A B:List (List (It h))) (u v:List (It h)),(∀x∈A,wM n (h+1) x)->(∀x∈B,wM n (h+1) x)->(∀x∈u++v,wM n h x)->n / 2*2<=(u++v).length+1->(u++v).length<=n / 2+n->A.length+2+B.length=L.length+1+R.length->A++u::v::B=L++c::R ->
       (∀x∈A++wL n (u++v)++B,wM n (h+1) x)/\L.length+R.length<=(A++wL n (u++v)++B).length/\(A++wL n (u++v)++B).length<=L.length+R.length+1/\(A++wL n (u++v)++B).flatten=(L++c::R).flatten:=by
     intro A B u v hA hB huv l1 l2 ll heq
     have hlen:(∀x∈wL n (u++v),wM n (h+1) x)/\1<=(wL n (u++v)).length/\(wL n (u++v)).length<=2:=by
       by_cases hs:(u++v).length<=n
       · rw[kJ (by lia) hs]
         refine⟨fun x hx=>?_,by simp,by simp⟩
         rw[Qz] at hx;subst hx
         exact pQ (by lia) hs huv
       · rw[zZd (by lia)]
         refine⟨fun x hx=>?_,by simp,by simp⟩
         rcases Qf.mp hx with rfl | hx
         · exact pQ (by rw[Qg];lia) (by rw[Qg];lia) fun x hx=>huv x (Wl hx)
         · rw[Qz] at hx;subst hx
           exact pQ (by rw[Wy];lia) (by rw[Wy];lia) fun x hx=>huv x (Wk hx)
     refine⟨fun x hx=>?_,?_,?_,?_⟩
     · rcases Qx.mp hx with hx | hx
       · rcases Qx.mp hx with hx | hx
         · exact hA x hx
         · exact hlen.1 x hx
       · exact hB x hx
     · rw[Qe,Qe];lia
     · rw[Qe,Qe];lia
     · rw[←heq,Iw,Iw,bI,Iw,Tz,Tz]
       simp
   rcases List.eq_nil_or_concat L with rfl | ⟨A,u,rfl⟩
   · cases R with
     | nil=>simp at h2
     | cons v B =>
       obtain⟨v1,v2,v3⟩:=yQ (hR v Qv)
       have:=two [] B c v (fun x hx=>nomatch hx) (fun x hx=>hR x (Qb _ hx)) (fun x hx=>by rcases Qx.mp hx with z | z;exact hcf x z;exact v3 x z) (by rw[Qe];lia) (by rw[Qe];lia) (by simp;lia) (by simp)
       simpa using this
   · obtain⟨u1,u2,u3⟩:=yQ (hL u (by simp))
     have:=two A R u c (fun x hx=>hL x (by simp[hx])) hR (fun x hx=>by rcases Qx.mp hx with z | z;exact u3 x z;exact hcf x z) (by rw[Qe];lia) (by rw[Qe];lia) (by simp) (by simp)
     have e1:(A.concat u).length - 1=A.length:=by simp
     have e2:(A.concat u++c::R).take A.length=A:=by simp
     have e3:((A.concat u++c::R).drop A.length).take 2=[u,c]:=by simp
     have e4:(A.concat u++c::R).drop (A.length+2)=R:=by simp[Ou]
     rw[e1,e2,e3,e4]
     simpa using this
 · rw[Qs q]
   refine⟨fun x hx=>?_,by simp,by simp;lia,rfl⟩
   rcases Qx.mp hx with hx | hx
   · exact hL x hx
   · rcases Qf.mp hx with rfl | hx
     · exact pQ (by lia) hc2 hcf
     · exact hR x hx
theorem uG {α β:Type}{f:α->List β}:∀ {xs:List α} {x:α},x∈xs->(f x).Sublist (xs.flatMap f)
 | y::r,x,h=>by
   rw[Tx]
   rcases Qf.mp h with rfl | h
   · exact List.sublist_append_left _ _
   · exact(uG h).trans (List.sublist_append_right _ _)
theorem aS {α β:Type}(f:α->List β):∀ys:List (List α),(ys.flatMap fun xs=>xs.flatMap f)=ys.flatten.flatMap f
 | []=>rfl
 | y::r=>by rw[Tx,aS f r,Tz,Ie]
theorem kX (h:Nat)(ys:List (List (It h))):zT (h+1) ys=zT h ys.flatten:=aS (wN h) ys
theorem jS (n h:Nat)(zs:List (It h)):zT (h+1) (wL n zs)=zT h zs:=by rw[kX,bI]
theorem sI (h:Nat)(xs ys:List (It h)):zT h (xs++ys)=zT h xs++zT h ys:=Ie
theorem xV (h:Nat)(x:It h)(ys:List (It h)):zT h (x::ys)=wN h x++zT h ys:=Tx
theorem wW (xs:List (It 0)):zT 0 xs=xs:=by
 show xs.flatMap (fun e=>[e])=xs
 induction xs with
 | nil=>rfl
 | cons x r ih=>rw[Tx,ih];rfl
theorem zXO {es:List Et}(h:Srt es)(e:Et):es.length<=(es.filter fun a => !xO a e).length+1:=by
 induction es with
 | nil=>simp
 | cons x r ih =>
   obtain⟨p,q⟩:=Rr.mp h
   have ih:=ih q
   by_cases z:x=e
   · subst z
     have:r.filter (fun a => !xO a x)=r:=Yo.mpr fun a ha=>by
       cases y:xO a x
       · rfl
       · have:=p a ha;rw[uZ.mp y,xQ] at this;cases this
     rw[List.filter_cons,this];split<;>simp
   · have:xO x e=false:=by cases y:xO x e;rfl;exact absurd (uZ.mp y) z
     rw[Yc (by simp[this])]
     simp only[Qh];lia
theorem iK {n:Nat}(hn:2<=n):∀(h:Nat) (x:It h),wM n h x->∃t,wN h x=z9 h x::t
 | 0,x,_=>⟨[],rfl⟩
 | h+1,xs,H=>by
   obtain⟨a,b,c⟩:=yQ H
   match xs,a,c with
   | [],a,_=>exact absurd a (by simp;lia)
   | x::r,a,c =>
     obtain⟨t,e⟩:=iK hn h x (c x Qv)
     refine⟨t++r.flatMap (wN h),?_⟩
     show List.flatMap (wN h) (x::r)=_
     rw[Tx,e];rfl
theorem iN {n h:Nat}(hn:2<=n){xs:List (It (h+1))}(hf:∀x∈xs,wM n (h+1) x)(hs:Srt (zT (h+1) xs))(e:Et)(h0:0 < xs.length) :
   ∃L c R,xs=L++c::R/\L.length=yS h xs e/\(∀a∈zT (h+1) L,yV (kE a) (kE e)=true)/\(∀a∈zT (h+1) R,yV (kE e) (kE a)=true):=by
 have hd:=fun x hx=>iK hn (h+1) x (hf x hx)
 -- a page's z9 is no greater than what stands on it
 have low:∀x∈xs,∀a∈wN (h+1) x,yV (kE a) (kE (z9 (h+1) x))=false:=by
   intro x hx a ha
   obtain⟨t,et⟩:=hd x hx
   have sx:Srt (wN (h+1) x):=hs.sublist (uG hx)
   rw[et] at ha sx
   rcases Qf.mp ha with rfl | ha
   · exact xQ _
   · exact zTa ((Rr.mp sx).1 a ha)
 let p:It (h+1)->Bool:=fun x => !yV (kE e) (kE (z9 (h+1) x))
 have cross:∀(A B:List (It (h+1))),A++B=xs->∀a∈zT (h+1) A,∀b∈zT (h+1) B,yV (kE a) (kE b)=true:=by
   intro A B he a ha b hb
   have:Srt (zT (h+1) (A++B)):=by rw[he];exact hs
   rw[show zT (h+1) (A++B)=zT (h+1) A++zT (h+1) B from Ie] at this
   exact(Qj.mp this).2.2 a ha b hb
 have lmem:∀x∈xs,z9 (h+1) x∈wN (h+1) x:=fun x hx=>by obtain⟨t,et⟩:=hd x hx;rw[et];exact Qv
 have hfil:∀ys:List (It (h+1)),(∃A,A++ys=xs)->ys.filter p=ys.takeWhile p/\∀x∈ys.dropWhile p,p x=false:=by
   intro ys
   induction ys with
   | nil=>intro _;exact⟨rfl,fun x hx=>by simp at hx⟩
   | cons y r ih =>
     rintro⟨A,hA⟩
     by_cases py:p y=true
     · obtain⟨i1,i2⟩:=ih ⟨A++[y],by rw[←hA];simp⟩
       rw[Yc py,List.takeWhile_cons_of_pos py,i1,List.dropWhile_cons_of_pos py]
       exact⟨rfl,i2⟩
     · have py':p y=false:=by simpa using py
       have hy:y∈xs:=by rw[←hA];simp
       have key:∀x∈r,p x=false:=fun x hx=>by
         have hx':x∈xs:=by rw[←hA];simp[hx]
         have q1:yV (kE e) (kE (z9 (h+1) y))=true:=by simpa [p] using py'
         have q2:yV (kE (z9 (h+1) y)) (kE (z9 (h+1) x))=true:=cross (A++[y]) r (by rw[←hA];simp) _ (Eb.mpr ⟨y,by simp,lmem y hy⟩) _ (Eb.mpr ⟨x,hx,lmem x hx'⟩)
         show(!_)=false
         rw[fP q1 q2];rfl
       rw[Yv py,List.takeWhile_cons_of_neg py,List.dropWhile_cons_of_neg py]
       refine⟨List.filter_eq_nil_iff.mpr fun x hx=>by rw[key x hx];decide,fun x hx=>?_⟩
       rcases Qf.mp hx with rfl | hx
       · exact py'
       · exact key x hx
 obtain⟨f1,f2⟩:=hfil xs ⟨[],rfl⟩
 have hw:yS h xs e=(xs.takeWhile p).length - 1:=by
   unfold yS zVH
   rw[List.filter_map,Qt]
   show(xs.filter p).length - 1=_
   rw[f1]
 have hsp:xs=xs.takeWhile p++xs.dropWhile p:=(List.takeWhile_append_dropWhile).symm
 have hR:∀x∈xs,p x=false->∀a∈wN (h+1) x,yV (kE e) (kE a)=true:=fun x hx px a ha=>by
   have q1:yV (kE e) (kE (z9 (h+1) x))=true:=by simpa [p] using px
   exact zSE q1 (low x hx a ha)
 rcases List.eq_nil_or_concat (xs.takeWhile p) with z | ⟨L,c,z⟩
 · match xs,h0,hw,z,f2,hR,hsp with
   | x::r,_,hw,z,f2,hR,hsp =>
     rw[z] at hw hsp
     rw[Uk] at hsp
     rw[←hsp] at f2
     refine⟨[],x,r,rfl,by rw[hw];rfl,fun a ha=>by simp at ha,fun a ha=>?_⟩
     obtain⟨y,hy,ha⟩:=Eb.mp ha
     exact hR y (Qb _ hy) (f2 y (Qb _ hy)) a ha
 · have e1:xs=L++c::xs.dropWhile p:=by
     conv=>lhs;rw[hsp,z]
     simp
   have hc:c∈xs:=by rw[e1];simp
   have pc:p c=true:=by
     have:c∈xs.takeWhile p:=by rw[z];simp
     exact Oe.mp List.all_takeWhile c this
   refine⟨L,c,xs.dropWhile p,e1,by rw[hw,z];simp,fun a ha=>?_,fun a ha=>?_⟩
   · have q1:yV (kE a) (kE (z9 (h+1) c))=true:=cross L (c::xs.dropWhile p) e1.symm a ha _ (Eb.mpr ⟨c,by simp,lmem c hc⟩)
     have q2:yV (kE e) (kE (z9 (h+1) c))=false:=by simpa [p] using pc
     exact zSE q1 q2
   · obtain⟨y,hy,ha⟩:=Eb.mp ha
     exact hR y (by rw[e1];simp[hy]) (f2 y hy) a ha
theorem dJ {α:Type}{L R:List α}{c d:α}{i:Nat}(h:L.length=i):(L++c::R).take i=L/\(L++c::R).getD i d=c/\(L++c::R).drop (i+1)=R:=by
 subst h
 refine⟨by simp,by simp,?_⟩
 rw[Ou]
 simp
section
variable {n:Nat} (hn:4<=n) (e:Et)
include hn
theorem zWU:∀(h:Nat) (xs:List (It h)),(h=0∨0 < xs.length)->(∀x∈xs,wM n h x)->Srt (zT h xs)->(∀a∈zT h xs,kE a≠kE e)->(zT (h+1) (pW n h xs e)).Perm (e::zT h xs)/\Srt (zT (h+1) (pW n h xs e))
 | 0,xs,_,_,hs,hk=>by
   show(zT 1 (wL n (rX (xs++[e])))).Perm _/\_
   rw[show zT 1 (pW n 0 xs e)=zT 1 (wL n (rX (xs++[e]))) from rfl,jS,wW]
   rw[wW] at hs hk ⊢
   refine⟨(lC _).trans Ez,zV9 ?_⟩
   rw[Eu]
   refine Tk.mpr ⟨hs.nd,by simp,fun a ha b hb=>?_⟩
   obtain⟨q,hq,rfl⟩:=Yd.mp ha
   have hb:b=kE e:=by simpa using hb
   rw[hb]
   exact hk q hq
 | h+1,xs,h0,hf,hs,hk=>by
   have h0:0 < xs.length:=by rcases h0 with z | z;cases z;exact z
   obtain⟨L,c,R,ex,hL,lt1,lt2⟩:=iN (by lia) hf hs e h0
   obtain⟨t1,t2,t3⟩:=dJ (L:=L) (R:=R) (c:=c) (d:=([]:It (h+1))) hL
   rw[←ex] at t1 t2 t3
   have hc:c∈xs:=by rw[ex];simp
   obtain⟨c1,c2,c3⟩:=yQ (hf c hc)
   have sc:Srt (zT h c):=hs.sublist (uG (f:=wN (h+1)) hc)
   obtain⟨i1,i2⟩:=zWU h c (.inr (by lia)) c3 sc fun a ha=>hk a (Eb.mpr ⟨c,hc,ha⟩)
   have eq:zT (h+1+1) (pW n (h+1) xs e)=zT (h+1) L++zT (h+1) (pW n h c e)++zT (h+1) R:=by
     show zT (h+1+1) (wL n (List.take (yS h xs e) xs++pW n h (List.getD xs (yS h xs e) []) e++List.drop (yS h xs e+1) xs))=_
     rw[jS,t1,t2,t3,sI,sI]
   rw[eq]
   have eqx:zT (h+1) xs=zT (h+1) L++(zT h c++zT (h+1) R):=by
     conv=>lhs;rw[ex]
     rw[sI,xV];rfl
   rw[eqx] at hs ⊢
   obtain⟨s1,s2,s3⟩:=Qj.mp hs
   obtain⟨s4,s5,s6⟩:=Qj.mp s2
   have mem:∀a∈zT (h+1) (pW n h c e),a=e∨a∈zT h c:=fun a ha=>by simpa using i1.subset ha
   refine⟨?_,?_⟩
   · refine((i1.append_left (zT (h+1) L)).append_right (zT (h+1) R)).trans ?_
     rw[Ql]
     exact List.perm_middle
   · rw[Ql]
     refine Qj.mpr ⟨s1,Qj.mpr ⟨i2,s5,fun a ha b hb=>?_⟩,fun a ha b hb=>?_⟩
     · rcases mem a ha with rfl | ha
       · exact lt2 b hb
       · exact s6 a ha b hb
     · rcases Qx.mp hb with hb | hb
       · rcases mem b hb with rfl | hb
         · exact lt1 a ha
         · exact s3 a ha b (Tn _ hb)
       · exact s3 a ha b (Wd _ hb)
theorem iY:∀(h:Nat) (xs:List (It h)),xs.length<=n->(h=0∨2<=xs.length)->(∀x∈xs,wM n h x)->Srt (zT h xs) ->
   zT (h+1) (fZ n h xs e)=(zT h xs).filter (fun a => !xO a e) /\
   ((h=0/\fZ n h xs e=[]/\xs.length<=1)∨∃y,fZ n h xs e=[y]/\xs.length<=y.length+1/\y.length<=n/\0 < y.length/\∀x∈y,wM n h x)
 | 0,xs,hl,_,hf,hs=>by
   rw[wW] at hs ⊢
   have hfo:=zXO hs e
   have hfl:=Uj (fun a => !xO a e) xs
   rw[show zT 1 (fZ n 0 xs e)=zT 1 (wL n (List.filter (fun a:Et => !xO a e) xs)) from rfl,jS,wW]
   refine⟨rfl,?_⟩
   rcases Ii (xs.filter fun a => !xO a e).length with z | z
   · refine .inl ⟨rfl,?_,by lia⟩
     show wL n (xs.filter fun a => !xO a e)=[]
     unfold wL
     rw[Qo z]
   · exact .inr ⟨List.filter (fun a:Et => !xO a e) xs,kJ z (Wa hfl hl),hfo,Wa hfl hl,z,fun _ _=>trivial⟩
 | h+1,xs,hl,h0,hf,hs=>by
   have h0:2<=xs.length:=by rcases h0 with z | z;cases z;exact z
   obtain⟨L,c,R,ex,hL,lt1,lt2⟩:=iN (by lia) hf hs e (by lia)
   obtain⟨t1,t2,t3⟩:=dJ (L:=L) (R:=R) (c:=c) (d:=([]:It (h+1))) hL
   rw[←ex] at t1 t2 t3
   have hc:c∈xs:=by rw[ex];simp
   obtain⟨c1,c2,c3⟩:=yQ (hf c hc)
   have sc:Srt (zT h c):=hs.sublist (uG (f:=wN (h+1)) hc)
   obtain⟨i1,i2⟩:=iY h c c2 (.inr (by lia)) c3 sc
   have hxl:xs.length=L.length+R.length+1:=by rw[ex];simp;lia
   rcases i2 with⟨_,_,z⟩ | ⟨y,ey,y1,y2,y3,y4⟩
   · lia
   · obtain⟨g1,g2,g3,g4⟩:=zWY hn (L:=L) (R:=R) (c:=y) (fun x hx=>hf x (by rw[ex];simp[hx])) (fun x hx=>hf x (by rw[ex];simp[hx])) (by lia) y2 y4 (by lia)
     have eq:fZ n (h+1) xs e=wL n (rQ n (L++y::R)):=by
       show wL n (rQ n (List.take (yS h xs e) xs++fZ n h (List.getD xs (yS h xs e) []) e++List.drop (yS h xs e+1) xs))=_
       rw[t1,t2,t3,ey]
       simp
     rw[eq,jS]
     refine⟨?_,.inr ⟨rQ n (L++y::R),kJ (by lia) (by lia),by lia,by lia,by lia,g1⟩⟩
     have eqx:zT (h+1) xs=zT (h+1) L++(zT h c++zT (h+1) R):=by
       conv=>lhs;rw[ex]
       rw[sI,xV];rfl
     rw[ey] at i1
     have iy:wN (h+1) y=(zT h c).filter fun a => !xO a e:=by
       rw[←i1];show _=List.flatMap _ [y];simp
     have keep:∀M:List Et,(∀a∈M,kE a≠kE e)->M.filter (fun a => !xO a e)=M:=fun M hM=>Yo.mpr fun a ha=>by
       cases q:xO a e
       · rfl
       · exact absurd (by rw[uZ.mp q]) (hM a ha)
     rw[eqx,Ig,Ig,keep _ fun a ha z=>by(have:=lt1 a ha;rw[z,xQ] at this;cases this),keep (zT (h+1) R) fun a ha z=>by(have:=lt2 a ha;rw[z,xQ] at this;cases this)]
     rw[kX,g4,←kX,sI,xV,iy]
theorem like_none:∀(h:Nat) (xs:List (It h)),(h=0∨0 < xs.length)->(∀x∈xs,wM n h x)->(∀a∈zT h xs,kE a≠kE e)->gR h xs e=none
 | 0,xs,_,_,hk=>by
   rw[wW] at hk
   show(List.filter (fun a:Et=>decide (kE a=kE e)) xs).head?=none
   rw[List.filter_eq_nil_iff.mpr fun a ha=>by simpa using hk a ha];rfl
 | h+1,xs,h0,hf,hk=>by
   have h0:0 < xs.length:=by rcases h0 with z | z;cases z;exact z
   have hw:=aM (e:=e) h0
   have hm:xs.getD (yS h xs e) []∈xs:=by
     have:xs.getD (yS h xs e) []=xs[yS h xs e]:=by simp[hw]
     rw[this];exact Rb hw
   obtain⟨c1,c2,c3⟩:=yQ (hf _ hm)
   exact like_none h (xs.getD (yS h xs e) []) (.inr (by lia)) c3 fun a ha=>hk a (Eb.mpr ⟨_,hm,ha⟩)
theorem like_some {b:Et}(hb:kE b=kE e):∀(h:Nat) (xs:List (It h)),(h=0∨0 < xs.length)->(∀x∈xs,wM n h x)->Srt (zT h xs)->b∈zT h xs->gR h xs e=some b
 | 0,xs,_,_,hs,hm=>by
   rw[wW] at hs hm
   show(List.filter (fun a:Et=>decide (kE a=kE e)) xs).head?=some b
   have:∃r,xs.filter (fun a:Et=>decide (kE a=kE e))=b::r:=by
     have hx:b∈xs.filter (fun a:Et=>decide (kE a=kE e)):=Uq.mpr ⟨hm,by simpa using hb⟩
     match hq:xs.filter (fun a:Et=>decide (kE a=kE e)),hx with
     | c::r,_ =>
       have hc:c∈xs.filter (fun a:Et=>decide (kE a=kE e)):=by rw[hq];simp
       obtain⟨c1,c2⟩:=Uq.mp hc
       have:=hs.inj c1 hm ((of_decide_eq_true c2).trans hb.symm)
       exact⟨r,by rw[this]⟩
   obtain⟨r,er⟩:=this
   rw[er];rfl
 | h+1,xs,h0,hf,hs,hm=>by
   have h0:0 < xs.length:=by rcases h0 with z | z;cases z;exact z
   obtain⟨L,c,R,ex,hL,lt1,lt2⟩:=iN (by lia) hf hs e h0
   obtain⟨t1,t2,t3⟩:=dJ (L:=L) (R:=R) (c:=c) (d:=([]:It (h+1))) hL
   rw[←ex] at t1 t2 t3
   have hc:c∈xs:=by rw[ex];simp
   obtain⟨c1,c2,c3⟩:=yQ (hf c hc)
   have sc:Srt (zT h c):=hs.sublist (uG (f:=wN (h+1)) hc)
   have eqx:zT (h+1) xs=zT (h+1) L++(zT h c++zT (h+1) R):=by
     conv=>lhs;rw[ex]
     rw[sI,xV];rfl
   rw[eqx] at hm
   have hbc:b∈zT h c:=by
     rcases Qx.mp hm with z | z
     · have:=lt1 b z;rw[hb,xQ] at this;cases this
     · rcases Qx.mp z with z | z
       · exact z
       · have:=lt2 b z;rw[hb,xQ] at this;cases this
   show gR h (List.getD xs (yS h xs e) []) e=some b
   rw[t2]
   exact like_some hb h c (.inr (by lia)) c3 sc hbc
end
structure RtOk (n h:Nat)(xs:List (It h)):Prop where
 len:xs.length<=n
 two:h=0∨2<=xs.length
 full:∀x∈xs,wM n h x
 srt:Srt (zT h xs)
abbrev Rt:=(h:Nat)×List (It h)
def zXe:(h:Nat)->List (It h)->Rt
 | 0,xs=>⟨0,xs⟩
 | h+1,xs=>match xs with
   | [x]=>zXe h x
   | xs=>⟨h+1,xs⟩
theorem iM {h:Nat}{xs:List (It h)}(h2:h=0∨2<=xs.length):zXe h xs=⟨h,xs⟩:=by
 cases h with
 | zero=>rfl
 | succ h =>
   match xs,h2 with
   | [],_=>rfl
   | [x],h2=>rcases h2 with z | z;cases z;exact absurd z (by simp)
   | _::_::_,_=>rfl
def iU (h:Nat)(ys:List (List (It h))):Rt:=if ys.length=0 then⟨0,[]⟩ else zXe (h+1) ys
theorem RtOk.nil {n:Nat}:RtOk n 0 []:=⟨Wm _,.inl rfl,(fun _ h=>nomatch h),List.Pairwise.nil⟩
section
variable {n:Nat} (hn:4<=n) (e:Et)
include hn
theorem RtOk.put {h:Nat}{xs:List (It h)}(H:RtOk n h xs)(hk:∀a∈zT h xs,kE a≠kE e):∃h' xs',iU h (pW n h xs e)=⟨h',xs'⟩/\RtOk n h' xs'/\(zT h' xs').Perm (e::zT h xs):=by
 have h0:h=0∨0 < xs.length:=by rcases H.two with z | z;exact .inl z;exact .inr (by lia)
 have p1:=zXE n hn e h xs H.len h0 H.full
 obtain⟨p2,p3⟩:=zWU hn e h xs h0 H.full H.srt hk
 unfold iU
 generalize pW n h xs e=ys at p1 p2 p3
 cases p1 with
 | @one y a b c =>
   have hy:zT (h+1) [y]=zT h y:=by show List.flatMap _ [y]=_;simp[wN]
   rw[hy] at p2 p3
   have h2:h=0∨2<=y.length:=by rcases H.two with z | z;exact .inl z;exact .inr (by lia)
   exact⟨h,y,iM h2,⟨b,h2,c,p3⟩,p2⟩
 | @two y z a b=>exact⟨h+1,[y,z],rfl,⟨by simp;lia,.inr (by simp),fun x hx=>by
     rcases Qf.mp hx with rfl | hx
     · exact a
     · rw[Qz] at hx;subst hx;exact b,p3⟩,p2⟩
theorem RtOk.take {h:Nat}{xs:List (It h)}(H:RtOk n h xs):∃h' xs',iU h (fZ n h xs e)=⟨h',xs'⟩/\RtOk n h' xs'/\zT h' xs'=(zT h xs).filter fun a => !xO a e:=by
 obtain⟨p1,p2⟩:=iY hn e h xs H.len H.two H.full H.srt
 unfold iU
 generalize fZ n h xs e=ys at p1 p2
 have hs:Srt ((zT h xs).filter fun a => !xO a e):=H.srt.sublist List.filter_sublist
 rcases p2 with⟨z,rfl,_⟩ | ⟨y,rfl,y1,y2,y3,y4⟩
 · exact⟨0,[],rfl,.nil,p1⟩
 · have hy:zT (h+1) [y]=zT h y:=by show List.flatMap _ [y]=_;simp[wN]
   rw[hy] at p1
   by_cases h2:h=0∨2<=y.length
   · exact⟨h,y,iM h2,⟨y2,h2,y4,by rw[p1];exact hs⟩,p1⟩
   · cases h with
     | zero=>exact absurd (.inl rfl) h2
     | succ h =>
       match y,y3,y4,hy,h2,p1 with
       | [c],_,y4,hy,_,p1 =>
         obtain⟨c1,c2,c3⟩:=yQ (y4 c Qv)
         have hc:zT (h+1) [c]=zT h c:=by show List.flatMap _ [c]=_;simp[wN]
         rw[hc] at p1
         have h2':h=0∨2<=List.length c:=.inr (by lia)
         exact⟨h,c,iM h2',⟨c2,h2',c3,by rw[p1];exact hs⟩,p1⟩
       | _::_::_,_,_,_,h2,_=>exact absurd (.inr (by simp)) h2
omit e
theorem nV:∀(h:Nat) (x:It h),wM n h x->2^h<=(wN h x).length
 | 0,_,_=>Qd 1
 | h+1,xs,H=>by
   obtain⟨a,b,c⟩:=yQ H
   have key:∀ys:List (It h),(∀y∈ys,wM n h y)->ys.length*2^h<=(zT h ys).length:=by
     intro ys
     induction ys with
     | nil=>intro _;simp
     | cons y r ih =>
       intro hy
       have i1:=ih fun z hz=>hy z (Qb _ hz)
       have i2:=nV h y (hy y Qv)
       rw[xV,Qe,Qh,Nat.add_mul]
       lia
   have:=key xs c
   show 2^(h+1)<=(zT h xs).length
   have h2:2*2^h<=List.length xs*2^h:=Nat.mul_le_mul_right _ (by lia)
   rw[Nat.pow_succ];lia
theorem RtOk.deep {h:Nat}{xs:List (It h)}(H:RtOk n h xs)(hl:(zT h xs).length < 512):h<=7:=by
 rcases H.two with z | z
 · lia
 · match xs,z with
   | x::y::r,_ =>
     have a:=nV hn h x (H.full x (by simp))
     have b:=nV hn h y (H.full y (by simp))
     rw[xV,xV,Qe,Qe] at hl
     by_cases q:h<=7
     · exact q
     · have:2^8<=2^h:=Nat.pow_le_pow_right (by decide) (by lia)
       lia
theorem RtOk.like_none {h:Nat}{xs:List (It h)}(H:RtOk n h xs){e:Et}(hk:∀a∈zT h xs,kE a≠kE e):gR h xs e=none :=
 My.like_none hn e h xs (by rcases H.two with z | z;exact .inl z;exact .inr (by lia)) H.full hk
theorem RtOk.like_some {h:Nat}{xs:List (It h)}(H:RtOk n h xs){e b:Et}(hb:b∈zT h xs)(hk:kE b=kE e):gR h xs e=some b :=
 My.like_some hn e hk h xs (by rcases H.two with z | z;exact .inl z;exact .inr (by lia)) H.full H.srt hb
end
theorem bS {i:Nat}{f:Ef}{g:Sf}{ρ:List B}{d:D}(h:f ρ=some d):zH (yF i f) g ρ=g (ρ.set i (.fz d)):=tS (by unfold yF;rw[h];rfl)
theorem y9 {i:Nat}{f:Ef}{g:Sf}{ρ:List B}{d:D}{r:Option D}(h:f ρ=some d)(k:(g (ρ.set i (.fz d))).bind wH=r):(zH (yF i f) g ρ).bind wH=r:=yT (by unfold yF;rw[h];rfl) k
theorem uO {t:Tf}{f g:Sf}{ρ:List B}{r:Option D}(h:t ρ=some false)(k:(g ρ).bind wH=r):(zH (sIf t f vX) g ρ).bind wH=r:=yT (by unfold sIf;rw[h];rfl) k
theorem nR {t:Tf}{f:Sf}{ρ:List B}{b:Bool}(h:t ρ=some b):sIf t f vX ρ=if b then f ρ else some (.nx ρ):=by unfold sIf;rw[h];cases b<;>rfl
theorem qN {t:Tf}{e:Ef}{g:Sf}{ρ:List B}{r:Option D}(h:t ρ=some true)(k:e ρ=r):(zH (sIf t (yJ e) vX) g ρ).bind wH=r:=by
 unfold zH
 rw[nR h,Qo rfl]
 unfold yJ
 rw[k]
 cases r<;>rfl
theorem uQ {e:Ef}{ρ:List B}:(yJ e ρ).bind wH=e ρ:=by unfold yJ;cases e ρ<;>rfl
theorem lR {f:List D->Option D}{fa:Ef}{ρ:List B}{x:D}(h:fa ρ=some x):zI 1 f (zY fa zO) ρ=f [x]:=dA (zK h rfl) rfl
theorem vR {f:List D->Option D}{fa fb:Ef}{ρ:List B}{x y:D}(h1:fa ρ=some x)(h2:fb ρ=some y):zI 2 f (zY fa (zY fb zO)) ρ=f [x,y]:=dA (zK h1 (zK h2 rfl)) rfl
theorem qI {f:List D->Option D}{fa fb fc:Ef}{ρ:List B}{x y z:D}(h1:fa ρ=some x)(h2:fb ρ=some y)(h3:fc ρ=some z):zI 3 f (zY fa (zY fb (zY fc zO))) ρ=f [x,y,z]:=dA (zK h1 (zK h2 (zK h3 rfl))) rfl
theorem zA {C:Int->Int->Bool}{g:Int->Int->Int}{fa fb:Ef}{ρ:List B}{i j:Int}(h1:fa ρ=some (.int i))(h2:fb ρ=some (.int j))(h:C i j=true):eI C g fa fb ρ=some (.int (g i j)):=by
 unfold eI;rw[h1,h2];simp[h]
theorem iX {f:Ef}{ρ:List B}{x k:Int}(h:f ρ=some (.int x)):eB2 gEq f (eC (.int k)) ρ=some (decide (x=k)):=by unfold eB2;rw[h];rfl
theorem cZ {fa fb:Ef}{ρ:List B}{i j:Int}(h1:fa ρ=some (.int i))(h2:fb ρ=some (.int j)):sU fa fb ρ=some (.int (i+j)):=by unfold sU;rw[h1,h2];rfl
theorem eB {fa fb:Ef}{ρ:List B}{x y:Str}(h1:fa ρ=some (.str x))(h2:fb ρ=some (.str y))(h:x.length+y.length<=100000):sU fa fb ρ=some (.str (x++y)):=by unfold sU;rw[h1,h2];exact zXB h
theorem fX {g:Lf}{ρ:List B}{ds:List D}(h:g ρ=some ds)(hl:ds.length<=100000):cQ g ρ=some (.tup ds):=by unfold cQ;rw[h,Qw,oH hl];rfl
theorem xE {g:Lf}{ρ:List B}{ds:List D}(h:g ρ=some ds)(hl:ds.length<=100000):xH g ρ=some ds:=by unfold xH;rw[h,Qw,oH hl]
theorem vN {fa fb:Ef}{ρ:List B}{x y:D}(h1:fa ρ=some x)(h2:fb ρ=some y):eIx fa fb ρ=atD x y:=by unfold eIx;rw[h1,h2];rfl
theorem zST {α:Type}{xs:List α}{i:Int}(h0:0<=i)(h1:i < xs.length):∃x∈xs,atI xs i=some x:=by
 have hi:i.toNat < xs.length:=by lia
 refine⟨xs[i.toNat],Rb hi,?_⟩
 unfold atI ixN
 rw[Qo h0,Qo h1]
 simp[hi]
def zXR (c k:Int):Int:=(c % 1000000007*(48271+2*k*k)+12345+7919*k) % 2147483647
def cP (c k:Int):Int:=zXR c k*zXR c k % 2147483629 / 3
theorem zWD (c k:Int):0<=cP c k:=by unfold cP;lia
theorem zTT (c k:Int):cP c k < 2147483629:=by unfold cP;lia
theorem qA (c k:Int)(h0:0<=k)(h1:k < 1000):xY [.int c,.int k]=some (.int (cP c k)):=by
 have e1:zZ8 (2:Int) k=true:=cW (by lia) (by lia)
 have e2:zZ8 (2*k) k=true:=cW (by lia) (by lia)
 have e3:zZ8 (c % 1000000007) (48271+2*k*k)=true:=cW (by lia) (by lia)
 have e4:zZ8 (7919:Int) k=true:=cW (by lia) (by lia)
 have e5:zZ8 (zXR c k) (zXR c k)=true:=cW (by unfold zXR;lia) (by unfold zXR;lia)
 show(tT [.fz (.int c),.fz (.int k),.no]).bind wH=_
 unfold tT
 refine y9 (d:=.int (c % 1000000007*(48271+2*k*k))) (zA (zA rfl rfl rfl) (zA rfl (zA (zA rfl rfl e1) rfl e2) rfl) e3) ?_
 unfold qJ
 refine y9 (d:=.int (zXR c k)) (zA (zA (zA rfl rfl rfl) (zA rfl rfl e4) rfl) rfl rfl) ?_
 unfold lO
 rw[uQ]
 exact zA (zA (zA rfl rfl e5) rfl rfl) rfl rfl
def yC:Str:=Str.ofString "abcdefghijklmnopqrstuvwxyz"
theorem kC:yC.length=26:=by decide +kernel
theorem zUc {fb:Ef}{ρ:List B}{i:Int}(h2:ρ[2]?=some (.fz (.str yC)))(h:fb ρ=some (.int i)):∃s:Nat,eIx (eV 2) (tH fb (eC (.int 26))) ρ=some (.str ⟨#[s]⟩):=by
 have e:=zTV (x:=yC) (i:=i % 26) (by lia) (by rw[kC];lia) (by rw[kC];decide)
 refine⟨_,(vN (x:=.str yC) (y:=.int (i % 26)) ?_ (zA h rfl rfl)).trans e⟩
 show zVp ρ 2=_
 unfold zVp
 rw[h2]
theorem zZn {fa:Ef}{lo hi:Of}{ρ:List B}{x:Str}{l u:Option Int}(h:fa ρ=some (.str x))(h1:lo ρ=some l)(h2:hi ρ=some u)(hx:x.length<=100):∃y:Str,iG fa lo hi ρ=some (.str y)/\y.length<=100:=by
 refine⟨Txt.slice x l u,?_,Wa (Ua x l u) hx⟩
 unfold iG
 rw[h,Qw,h1,Qw,h2,Qw]
 exact Qo (show x.length<=100000 by lia)
theorem zTt (q j:Int):∃w:Str,kP [.int q,.int j]=some (.str w):=by
 have hm:=qA q 11 (by decide) (by decide)
 generalize cP q 11=m at hm
 have z0:0<=m % 12:=by lia
 have z1:m % 12 < 12:=by lia
 have ha:tH (lW (eV 3) (eC (.int 12))) (eV 4) [.fz (.int q),.fz (.int j),.fz (.str yC),.fz (.int m),.fz (.int (1+m % 12)),.no,.no,.no,.no]=some (.int (m / 12 % (1+m % 12))):=zA (zA rfl rfl rfl) rfl (We (by lia))
 generalize m / 12 % (1+m % 12)=pl at ha
 have src:∀x6 x7 x8:B,iR (eV 4) [.fz (.int q),.fz (.int j),.fz (.str yC),.fz (.int m),.fz (.int (1+m % 12)),.fz (.int pl),x6,x7,x8]=some (vK 0 (1+m % 12).toNat):=fun x6 x7 x8=>by
   have c1:decide (-1000000<=1+m % 12)=true:=We (by lia)
   have c2:decide (1+m % 12<=1000000)=true:=We (by lia)
   show(if decide (-1000000<=1+m % 12)&&decide (1+m % 12<=1000000) then some (vK 0 (1+m % 12).toNat) else none)=_
   rw[c1,c2];rfl
 obtain⟨ρ',e,y,x7,hy,rfl⟩:=mG (g:=gN 7) (body:=tX) (P:=fun i ρ=>∃y:Str,∃x7,y.length=i/\ρ=[.fz (.int q),.fz (.int j),.fz (.str yC),.fz (.int m),.fz (.int (1+m % 12)),.fz (.int pl),.fz (.str y),x7,.no]) (vK 0 (1+m % 12).toNat) 0 (fun i d hd ρ hρ=>by
     obtain⟨hi,rfl⟩:=kD hd
     obtain⟨y,x7,hy,rfl⟩:=hρ
     have hk:=qA q (20+(0+(i:Int))) (by lia) (by lia)
     obtain⟨s,es⟩:=zUc (fb:=zI 2 xY (zY (eV 0) (zY (sU (eC (.int 20)) (eV 7)) zO))) (ρ:=[.fz (.int q),.fz (.int j),.fz (.str yC),.fz (.int m),.fz (.int (1+m % 12)),.fz (.int pl),.fz (.str y),.fz (.int (0+(i:Int))),.no]) rfl ((vR rfl (cZ rfl rfl)).trans hk)
     have hl:y.length+(⟨#[s]⟩:Str).length<=100000:=by show y.length+1<=100000;lia
     refine⟨_,[.fz (.int q),.fz (.int j),.fz (.str yC),.fz (.int m),.fz (.int (1+m % 12)),.fz (.int pl),.fz (.str (y++⟨#[s]⟩)),.fz (.int (0+(i:Int))),.no],rfl,?_,y++⟨#[s]⟩,_,by rw[nQ,hy];rfl,rfl⟩
     unfold tX yF
     have:=eB (fa:=eV 6) (x:=y) rfl es hl
     refine(Ep (Option.map _) this).trans rfl) [.fz (.int q),.fz (.int j),.fz (.str yC),.fz (.int m),.fz (.int (1+m % 12)),.fz (.int pl),.fz (.str (Str.ofString "")),.no,.no] ⟨_,_,by decide +kernel,rfl⟩
 rw[zUR] at hy
 obtain⟨s,es⟩:=zUc (fb:=sU (lW (eV 3) (eC (.int 144))) (eV 1)) (ρ:=[.fz (.int q),.fz (.int j),.fz (.str yC),.fz (.int m),.fz (.int (1+m % 12)),.fz (.int pl),.fz (.str y),x7,.no]) rfl (cZ (zA rfl rfl rfl) rfl)
 obtain⟨u,eu,lu⟩:=zZn (fa:=eV 6) (lo:=oNo) (hi:=xI (eV 5)) (ρ:=[.fz (.int q),.fz (.int j),.fz (.str yC),.fz (.int m),.fz (.int (1+m % 12)),.fz (.int pl),.fz (.str y),x7,.fz (.str ⟨#[s]⟩)]) (x:=y) rfl rfl rfl (by lia)
 obtain⟨v,ev,lv⟩:=zZn (fa:=eV 6) (lo:=xI (sU (eV 5) (eC (.int 1)))) (hi:=oNo) (ρ:=[.fz (.int q),.fz (.int j),.fz (.str yC),.fz (.int m),.fz (.int (1+m % 12)),.fz (.int pl),.fz (.str y),x7,.fz (.str ⟨#[s]⟩)]) (x:=y) rfl rfl rfl (by lia)
 have l1:(u++(⟨#[s]⟩:Str)).length<=101:=by rw[nQ];show u.length+1<=101;lia
 refine⟨(u++⟨#[s]⟩)++v,?_⟩
 show(sM [.fz (.int q),.fz (.int j),.no,.no,.no,.no,.no,.no,.no]).bind wH=_
 unfold sM
 refine y9 (d:=.str yC) rfl ?_
 unfold oZ
 refine y9 (d:=.int m) ((vR rfl rfl).trans hm) ?_
 unfold oR
 refine y9 (d:=.int (1+m % 12)) (cZ rfl (zA rfl rfl rfl)) ?_
 unfold oW
 refine y9 (d:=.int pl) ha ?_
 unfold pB
 refine y9 (d:=.str (Str.ofString "")) rfl ?_
 unfold pH
 refine yT (ρ':=[.fz (.int q),.fz (.int j),.fz (.str yC),.fz (.int m),.fz (.int (1+m % 12)),.fz (.int pl),.fz (.str y),x7,.no]) ?_ ?_
 · show rY (iR (eV 4)) (gN 7) tX [.fz (.int q),.fz (.int j),.fz (.str yC),.fz (.int m),.fz (.int (1+m % 12)),.fz (.int pl),.fz (.str (Str.ofString "")),.no,.no]=_
   unfold rY
   rw[src,Qw]
   exact e
 unfold pF
 refine y9 (d:=.str ⟨#[s]⟩) es ?_
 unfold jP
 rw[uQ]
 exact eB (eB eu rfl (by show u.length+1<=100000;lia)) ev (by lia)
abbrev pgN:List Str:=["leaf","things","leasts","most"]
def dE (e:Et):D:=.tup [.int e.f,.int e.l,.str e.z]
def zZm (h:Nat)(xs:List (It h)):D:=if (xs.map (most h)).isEmpty=true then .non else .int (nS (xs.map (most h)))
def iD:(h:Nat)->It h->D
 | 0,e=>dE e
 | h+1,xs=>.obj "Page" pgN [.bl (h==0),.lst (List.map (iD h) xs),.lst (List.map (fun x=>dE (z9 h x)) xs),zZm h xs]
abbrev pgD (h:Nat)(xs:List (It h)):D:=iD (h+1) xs
def ne:(h:Nat)->It h->Prop
 | 0,_=>True
 | h+1,xs=>0 < List.length xs
theorem pM {n h:Nat}(hn:4<=n){x:It h}(H:wM n h x):ne h x:=by
 cases h with
 | zero=>trivial
 | succ h=>have:=(yQ H).1;show 0 < List.length x;lia
theorem zZ1 {fa:Ef}{ρ:List B}{a b c d:D}(h:fa ρ=some (.obj "Page" pgN [a,b,c,d])):yZ "Page" "leaf" fa ρ=some a/\yZ "Page" "things" fa ρ=some b/\yZ "Page" "leasts" fa ρ=some c/\yZ "Page" "most" fa ρ=some d:=by
 refine⟨?_,?_,?_,?_⟩
 all_goals
   unfold yZ
   rw[h,Qw]
   refine(Qo rfl).trans ?_
   kernel_rfl
section
variable {fa:Ef} {ρ:List B} {h:Nat} {xs:List (It h)}
theorem xB (H:fa ρ=some (pgD h xs)):yZ "Page" "leaf" fa ρ=some (.bl (h==0)):=(zZ1 H).1
theorem z7 (H:fa ρ=some (pgD h xs)):yZ "Page" "things" fa ρ=some (.lst (xs.map (iD h))):=(zZ1 H).2.1
theorem lF (H:fa ρ=some (pgD h xs)):yZ "Page" "leasts" fa ρ=some (.lst (xs.map fun x=>dE (z9 h x))):=(zZ1 H).2.2.1
theorem zY4 (H:fa ρ=some (pgD h xs)):yZ "Page" "most" fa ρ=some (zZm h xs):=(zZ1 H).2.2.2
end
theorem zXd {α:Type}{elt:Ef}{f h:α->D}{rest:List B}:∀(l:List α) (x0:B) (acc:List D),(∀a∈l,elt (.fz (f a)::rest)=some (h a))->nY (gN 0) tOK elt (l.map f) (x0::rest) acc=some (acc++l.map h)
 | [],_,acc,_=>by simp[nY]
 | a::r,x0,acc,hh=>by
   rw[Wo]
   unfold nY
   have e1:gN 0 (f a) (x0::rest)=some (.fz (f a)::rest):=rfl
   have e2:tOK (.fz (f a)::rest)=some true:=rfl
   rw[e1,Qw,e2,Qw,Qo rfl,hh a Qv,Qw,zXd r _ _ fun q hq=>hh q (Qb _ hq)]
   simp
theorem jL {α:Type}{t:Tf}{f:α->D}{p:α->Bool}{rest:List B}:∀(l:List α) (x0:B) (acc:List D),(∀a∈l,t (.fz (f a)::rest)=some (p a))->nY (gN 0) t (eV 0) (l.map f) (x0::rest) acc=some (acc++(l.filter p).map f)
 | [],_,acc,_=>by simp[nY]
 | a::r,x0,acc,hh=>by
   rw[Wo]
   unfold nY
   have e1:gN 0 (f a) (x0::rest)=some (.fz (f a)::rest):=rfl
   have e3:eV 0 (.fz (f a)::rest)=some (f a):=rfl
   rw[e1,Qw,hh a Qv,Qw]
   cases hp:p a with
   | true=>rw[Qo rfl,e3,Qw,jL r _ _ fun q hq=>hh q (Qb _ hq),Yc hp];simp
   | false=>rw[Qs (by decide),jL r _ _ fun q hq=>hh q (Qb _ hq),Yv (by simp[hp])]
theorem qB:∀l:List Int,gW (l.map .int)=some l
 | []=>rfl
 | i::r=>by show(gW (r.map .int)).map _=_;rw[qB r];rfl
theorem zTw {g:Lf}{ρ:List B}{l:List Int}(h:g ρ=some (l.map .int)):aU g ρ=some (if l.isEmpty=true then .non else .int (nS l)):=by
 unfold aU
 rw[h,Qw,qB,Qw]
 split<;>rfl
theorem zYY {h:Nat}{x:List (It h)}(hx:0 < x.length):zZm h x = .int (most (h+1) x):=by
 unfold zZm
 rw[Qs (by cases x;simp at hx;simp)]
 rfl
theorem iS {α:Type}(f:α->D){x:α}{r:List α}:atD (.lst ((x::r).map f)) (.int 0)=some (f x):=by
 show atI ((x::r).map f) 0=_
 rw[nJ _ 0 .non (by decide) (by rw[Qt,Qh];lia)]
 rfl
theorem fV {src elt:Ef}{ρ:List B}{α:Type}{l:List α}{f g:α->D}(hs:src ρ=some (.lst (l.map f)))(hl:l.length<=100000)(he:∀a∈l,elt [.fz (f a)]=some (g a)):wA (iL src) 1 [] (gN 0) tOK elt ρ=some (l.map g):=by
 unfold wA iL
 rw[hs,Qw]
 show((some (l.map f)).bind okL).bind _=_
 rw[Qw,oH (by rw[Qt];lia),Qw]
 have:=zXd (elt:=elt) (f:=f) (h:=g) (rest:=[]) l .no [] he
 rw[Uk] at this
 exact this
theorem zTO (h:Nat)(xs:List (It h))(hl:xs.length<=100000)(hne:∀x∈xs,ne h x):sL [.bl (h==0),.lst (xs.map (iD h))]=some [.bl (h==0),.lst (xs.map (iD h)),.lst (xs.map fun x=>dE (z9 h x)),zZm h xs]:=by
 show zZD [.no,.fz (.bl (h==0)),.fz (.lst (xs.map (iD h))),.no]=_
 have e1:eIf (tB1 (eV 1)) (eL (wA (iL (eV 2)) 1 [] (gN 0) tOK (eIx (eV 0) (eC (.int 1))))) (eL (wA (iL (eV 2)) 1 [] (gN 0) tOK (yZ "Page" "most" (eV 0)))) [.no,.fz (.bl (h==0)),.fz (.lst (xs.map (iD h))),.no]=some (.lst ((xs.map (most h)).map .int)):=by
   rw[Tr]
   cases h with
   | zero=>exact xS (fV (l:=xs) (f:=iD 0) (g:=D.int ∘ most 0) rfl hl fun e _=>rfl)
   | succ h=>exact xS (fV (l:=xs) (f:=iD (h+1)) (g:=D.int ∘ most (h+1)) rfl hl fun x hx=>by
       rw[zY4 (h:=h) (xs:=x) rfl,zYY (hne x hx)];rfl)
 unfold zZD
 rw[e1,Qw]
 show zY (eV 1) (zY (eV 2) (zY _ (zY (aU (iL (eV 3))) zO))) [.no,.fz (.bl (h==0)),.fz (.lst (xs.map (iD h))),.fz (.lst ((xs.map (most h)).map .int))]=_
 refine zK rfl (zK rfl (zK ?_ (zK (zTw rfl) rfl)))
 cases h with
 | zero=>rfl
 | succ h =>
   show eL (wA (iL (eV 2)) 1 [] (gN 0) tOK (eIx (yZ "Page" "leasts" (eV 0)) (eC (.int 0)))) _=_
   exact xS (fV (l:=xs) (f:=iD (h+1)) (g:=fun x=>dE (z9 (h+1) x)) rfl hl fun x hx=>by
     match x,hne x hx with
     | y::t,_=>exact(vN (lF (h:=h) (xs:=y::t) rfl) rfl).trans (iS _))
theorem mC {fb fx:Ef}{ρ:List B}{h:Nat}{xs:List (It h)}(h1:fb ρ=some (.bl (h==0)))(h2:fx ρ=some (.lst (xs.map (iD h))))(hl:xs.length<=100000)(hne:∀x∈xs,ne h x):nI "Page" pgN 2 sL (zY fb (zY fx zO)) ρ=some (pgD h xs) :=
 zVl (zK h1 (zK h2 rfl)) rfl (zTO h xs hl hne) rfl
theorem zSk {α:Type}(f:α->D)(xs:List α)(k:Nat)(hk:k<=xs.length):dX (xs.map f) none (some (k:Int))=(xs.take k).map f:=by
 unfold dX
 rw[HT.sIx_none,HT.sIx_nat,List.drop_zero,Qt,Rz,Ru hk]
 rfl
theorem zR6 {α:Type}(f:α->D)(xs:List α)(k:Nat):dX (xs.map f) (some (k:Int)) none=(xs.drop k).map f:=by
 unfold dX
 rw[HT.sIx_none,HT.sIx_nat,Qt,Ta,Eg (by simp)]
 by_cases h:k<=xs.length
 · rw[Ru h]
 · rw[Oa (by lia),Tg (by simp),Tg (by simp;lia)]
theorem zTd {α:Type}(f:α->D)(xs:List α)(k:Nat):dX (xs.map f) (some (k:Int)) (some ((k+2:Nat):Int))=((xs.drop k).take 2).map f:=by
 unfold dX
 rw[HT.sIx_nat,HT.sIx_nat,Qt,Rz,Ta]
 by_cases h:k<=xs.length
 · rw[Ru h]
   by_cases h2:k+2<=xs.length
   · rw[Ru h2,show k+2 - k=2 by lia]
   · rw[Oa (by lia),Eg (by simp),Eg (by simp;lia)]
 · rw[show min k xs.length=xs.length from Oa (by lia),Tg (by simp),Tg (by simp;lia)];simp
theorem kA {α:Type}{fa fk:Ef}{ρ:List B}{f:α->D}{xs:List α}{k:Nat}(h:fa ρ=some (.lst (xs.map f)))(hk:fk ρ=some (.int (k:Int)))(hkl:k<=xs.length):xK fa oNo (xI fk) ρ=some ((xs.take k).map f):=by
 unfold xK oNo xI
 rw[h,Qw,Qw,hk]
 exact Ep some (zSk f xs k hkl)
theorem fG {α:Type}{fa fk:Ef}{ρ:List B}{f:α->D}{xs:List α}{k:Nat}(h:fa ρ=some (.lst (xs.map f)))(hk:fk ρ=some (.int (k:Int))):xK fa (xI fk) oNo ρ=some ((xs.drop k).map f):=by
 unfold xK oNo xI
 rw[h,Qw,hk]
 exact Ep some (zR6 f xs k)
theorem tM (n h:Nat)(xs:List (It h))(hl:xs.length<=1000)(hne:∀x∈xs,ne h x):vB [.bl (h==0),.lst (xs.map (iD h)),.int (n:Int)]=some (.lst ((wL n xs).map (iD (h+1)))):=by
 show(sN [.fz (.bl (h==0)),.fz (.lst (xs.map (iD h))),.fz (.int (n:Int)),.no]).bind wH=_
 unfold sN
 by_cases h0:xs.length=0
 · have:xs=[]:=Td.mp h0
   subst this
   exact qN rfl rfl
 · have hc0:wL n xs=if xs.length<=n then [xs] else [xs.take (xs.length / 2),xs.drop (xs.length / 2)]:=Qs h0
   refine uO (by
     show some (!(!(xs.map (iD h)).isEmpty))=some false
     cases xs with
     | nil=>exact absurd rfl h0
     | cons x r=>rfl) ?_
   unfold pP
   have ht:eB2 gLe (xJ (eV 1)) (eV 2) [.fz (.bl (h==0)),.fz (.lst (xs.map (iD h))),.fz (.int (n:Int)),.no]=some (decide (xs.length<=n)):=by
     show some (decide (((xs.map (iD h)).length:Int)<=(n:Int)))=_
     rw[Qt]
     congr 1
     by_cases q:xs.length<=n
     · rw[We q,We (by lia)]
     · rw[Wq q,Wq (by lia)]
   by_cases h1:xs.length<=n
   · rw[hc0,Qo h1]
     refine qN (by rw[ht,We h1]) ?_
     exact xS (xE (zK (mC (h:=h) (xs:=xs) rfl rfl (by lia) hne) rfl) (by simp))
   · rw[hc0,Qs h1]
     refine uO (by rw[ht,Wq h1]) ?_
     unfold pE
     refine y9 (d:=.int ((xs.length / 2:Nat):Int)) (by
       refine(zA (i:=(xs.length:Int)) (j:=2) ?_ rfl rfl).trans ?_
       · show some (D.int ((xs.map (iD h)).length:Int))=_
         rw[Qt]
       · rfl) ?_
     unfold kI
     rw[uQ]
     refine xS (xE (zK (mC (h:=h) (xs:=xs.take (xs.length / 2)) rfl (xS (kA rfl rfl (by lia))) (by rw[Qg];lia) fun x hx=>hne x (Wl hx)) (zK (mC (h:=h) (xs:=xs.drop (xs.length / 2)) rfl (xS (fG rfl rfl)) (by rw[Wy];lia) fun x hx=>hne x (Wk hx)) rfl)) (by simp))
theorem kF (e:Et):uM [dE e]=some (dIS (kE e)):=rfl
theorem zXt (h:Nat)(xs:List (It h))(e:Et)(hl:xs.length<=1000):dY [pgD h xs,dE e]=some (.int ((zVH (xs.map (z9 h)) e:Nat):Int)):=by
 show(fT [.fz (pgD h xs),.fz (dE e),.no]).bind wH=_
 unfold fT
 refine yT (ρ':=[.fz (pgD h xs),.fz (dE e),.ow ((xs.filter fun x => !yV (kE e) (kE (z9 h x))).map fun x=>dE (z9 h x))]) ?_ ?_
 · unfold nW wA iL
   rw[lF (h:=h) (xs:=xs) rfl,Qw]
   show Option.map _ (((some (xs.map fun x=>dE (z9 h x))).bind okL).bind _)=_
   rw[Qw,oH (by rw[Qt];lia),Qw]
   have:=jL (t:=eB2 zW9 (zI 1 uM (zY (eV 0) zO)) (zI 1 uM (zY (eV 1) zO))) (f:=fun x=>dE (z9 h x)) (p:=fun x => !yV (kE e) (kE (z9 h x))) (rest:=[.fz (dE e)]) xs .no [] fun a _=>by
     unfold eB2
     rw[lR (x:=dE (z9 h a)) rfl,lR (x:=dE e) rfl,kF,kF]
     rfl
   exact(Ep (Option.map _) this).trans rfl
 · unfold zWS
   rw[uQ]
   have hlen:((xs.filter fun x => !yV (kE e) (kE (z9 h x))).map fun x=>dE (z9 h x)).length=((xs.map (z9 h)).filter fun a => !yV (kE e) (kE a)).length:=by
     rw[Qt,List.filter_map,Qt];rfl
   show some (D.int (if (0:Int) > ((List.map (fun x=>dE (z9 h x)) (xs.filter fun x => !yV (kE e) (kE (z9 h x)))).length:Int) - 1 then 0 else((List.map (fun x=>dE (z9 h x)) (xs.filter fun x => !yV (kE e) (kE (z9 h x)))).length:Int) - 1))=_
   rw[hlen]
   unfold zVH
   congr 2
   split<;>lia
theorem aL {α:Type}(f:α->D){xs:List α}{k:Nat}{d:α}(h:k < xs.length):atD (.lst (xs.map f)) (.int (k:Int))=some (f (xs.getD k d)):=by
 show atI (xs.map f) (k:Int)=_
 rw[nJ _ _ .non (by lia) (by rw[Qt];lia)]
 have:(k:Int).toNat=k:=by lia
 rw[this]
 simp[h]
theorem zQW (p q:Int×Str):zX0 (dIS p) (dIS q)=some (decide (p=q)):=by
 show some ((p.1==q.1&&(p.2==q.2&&true))&&true)=_
 congr 1
 obtain⟨a,b⟩:=p
 obtain⟨c,d⟩:=q
 by_cases h1:a=c<;>by_cases h2:b=d<;>simp[h1,h2]
theorem zRB (a e:Et):kO (dE a) (dE e)=some (!xO a e):=by
 show some (!((a.f==e.f&&(a.l==e.l&&(a.z==e.z&&true)))&&true))=_
 unfold xO
 simp
def Way (n h:Nat)(xs:List (It h)):Prop:=xs.length<=n/\(h=0∨0 < xs.length)/\∀x∈xs,wM n h x
theorem Way.down {n h:Nat}(hn:4<=n){xs:List (It (h+1))}(H:Way n (h+1) xs)(e:Et):yS h xs e < xs.length/\Way n h (xs.getD (yS h xs e) []):=by
 obtain⟨a,b,c⟩:=H
 have h0:0 < xs.length:=by rcases b with z | z;cases z;exact z
 have hw:=aM (e:=e) h0
 have hm:xs.getD (yS h xs e) []∈xs:=by
   have:xs.getD (yS h xs e) []=xs[yS h xs e]:=by simp[hw]
   rw[this];exact Rb hw
 obtain⟨c1,c2,c3⟩:=yQ (c _ hm)
 exact⟨hw,c2,.inr (by lia),c3⟩
theorem Way.ne {n h:Nat}(hn:4<=n){xs:List (It h)}(H:Way n h xs):∀x∈xs,My.ne h x:=fun x hx=>pM hn (H.2.2 x hx)
def zYw:(h:Nat)->List (It h)->Et->List Et
 | 0,xs,_=>xs
 | h+1,xs,e=>zYw h (List.getD xs (yS h xs e) []) e
theorem eJ:∀(h:Nat) (xs:List (It h)) (e:Et),gR h xs e=((zYw h xs e).filter fun a=>decide (kE a=kE e)).head?
 | 0,_,_=>rfl
 | h+1,xs,e=>eJ h (List.getD xs (yS h xs e) []) e
theorem bN {n:Nat}(hn:4<=n):∀(h:Nat) (xs:List (It h)) (e:Et),Way n h xs->(zYw h xs e).length<=n
 | 0,_,_,H=>H.1
 | h+1,xs,e,H=>bN hn h (List.getD xs (yS h xs e) []) e (H.down hn e).2
def zPS:Option Et->D | none=>.non | some e=>dE e
theorem zXh {n:Nat}(hn:4<=n)(h12:n<=900)(e:Et):∀(h:Nat) (xs:List (It h)) (k:Nat),Way n h xs->h < k ->
   uP (z6 (tB1 (yZ "Page" "leaf" (eV 0)))) (yF 0 (eIx (yZ "Page" "things" (eV 0)) (zI 2 dY (zY (eV 0) (zY (eV 1) zO))))) k [.fz (pgD h xs),.fz (dE e),.no]=some (.nx [.fz (pgD 0 (zYw h xs e)),.fz (dE e),.no])
 | 0,xs,k+1,H,hk=>by
   have t:z6 (tB1 (yZ "Page" "leaf" (eV 0))) [.fz (pgD 0 xs),.fz (dE e),.no]=some false:=by
     unfold z6 tB1
     rw[xB (h:=0) (xs:=xs) rfl];rfl
   rw[uP,t,Qw,Qs (by decide)]
   rfl
 | h+1,xs,k+1,H,hk=>by
   obtain⟨hw,H'⟩:=H.down hn e
   have t:z6 (tB1 (yZ "Page" "leaf" (eV 0))) [.fz (pgD (h+1) xs),.fz (dE e),.no]=some true:=by
     unfold z6 tB1
     rw[xB (h:=h+1) (xs:=xs) rfl];rfl
   have b:yF 0 (eIx (yZ "Page" "things" (eV 0)) (zI 2 dY (zY (eV 0) (zY (eV 1) zO)))) [.fz (pgD (h+1) xs),.fz (dE e),.no]=some (.nx [.fz (pgD h (xs.getD (yS h xs e) [])),.fz (dE e),.no]):=by
     unfold yF
     rw[(vN (z7 (h:=h+1) (xs:=xs) rfl) ((vR rfl rfl).trans (zXt (h+1) xs e (Wa H.1 (by lia))))).trans (aL (iD (h+1)) (d:=([]:It (h+1))) hw)]
     rfl
   rw[uP,t,Qw,Qo rfl,b,Qw]
   exact zXh hn h12 e h _ k H' (by lia)
theorem zXp {n:Nat}(hn:4<=n)(h12:n<=900)(e:Et)(h:Nat)(xs:List (It h))(H:Way n h xs)(hh:h < 10):w9 [pgD h xs,dE e]=some (zPS (gR h xs e)):=by
 have hl:=bN hn h xs e H
 show(uL [.fz (pgD h xs),.fz (dE e),.no]).bind wH=_
 unfold uL
 refine yT (zXh hn h12 e h xs 10 H hh) ?_
 rw[eJ]
 generalize zYw h xs e=es at hl
 unfold rS
 refine yT (ρ':=[.fz (pgD 0 es),.fz (dE e),.ow ((es.filter fun a=>decide (kE a=kE e)).map dE)]) ?_ ?_
 · unfold nW wA iL
   rw[z7 (h:=0) (xs:=es) rfl,Qw]
   show Option.map _ (((some (es.map dE)).bind okL).bind _)=_
   rw[Qw,oH (by rw[Qt];lia),Qw]
   have:=jL (t:=eB2 zX0 (zI 1 uM (zY (eV 0) zO)) (zI 1 uM (zY (eV 1) zO))) (f:=dE) (p:=fun a=>decide (kE a=kE e)) (rest:=[.fz (dE e)]) es .no [] fun a _=>by
     unfold eB2
     rw[lR (x:=dE a) rfl,lR (x:=dE e) rfl,kF,kF]
     exact zQW _ _
   exact(Ep (Option.map _) this).trans rfl
 · unfold mP aH
   have s3:zZt 2 [.fz (pgD 0 es),.fz (dE e),.ow ((es.filter fun a=>decide (kE a=kE e)).map dE)]=[.fz (pgD 0 es),.fz (dE e),.fz (.lst ((es.filter fun a=>decide (kE a=kE e)).map dE))]:=rfl
   rw[s3,uQ]
   cases es.filter fun a=>decide (kE a=kE e) with
   | nil=>rfl
   | cons x r=>exact iS dE
theorem bW:∀l:List Et,dM uM (l.map dE)=some (l.map kE)
 | []=>rfl
 | e::r=>by
   show((uM [dE e]).bind zWt).bind _=_
   rw[kF,bW r]
   rfl
theorem zV4 {g:Lf}{ρ:List B}{l:List Et}(h:g ρ=some (l.map dE))(hl:l.length<=1000):fF uM g ρ=some ((rX l).map dE):=by
 unfold fF
 rw[h,Qw,bW,Qw,Qo (by rw[Qt];lia)]
 unfold rX
 rw[Tr]
 congr 1
 refine Yu fun i hi=>?_
 have h:=zSC hi
 show(l.map dE).getD i .non=dE (l.getD i zE)
 simp[h]
theorem nG {f g:Lf}{ρ:List B}{α:Type}{d:α->D}{xs ys:List α}(h1:f ρ=some (xs.map d))(h2:g ρ=some (ys.map d))(hl:xs.length+ys.length<=100000):oO f g ρ=some ((xs++ys).map d):=by
 unfold oO
 rw[h1,Qw,h2,Qw,oH (by rw[Qe,Qt,Qt];exact hl),Eu]
theorem rE {f:Ef}{ρ:List B}{xs:List D}(h:f ρ=some (.lst xs)):iL f ρ=some xs:=by unfold iL;rw[h];rfl
theorem zW1 {n:Nat}(hn:4<=n)(e:Et)(h:Nat)(xs:List (It h))(H:Way n h xs):(pW n h xs e).length<=2/\(0 < xs.length∨h=0->∀y∈pW n h xs e,ne (h+1) y):=by
 have p:=zXE n hn e h xs H.1 H.2.1 H.2.2
 have q:0 < xs.length∨h=0->∀y∈pW n h xs e,ne (h+1) y:=by
   intro hx y hy
   by_cases h0:h=0
   · subst h0
     have hy:y∈wL n (rX (xs++[e])):=hy
     have hL:(rX (xs++[e])).length=xs.length+1:=by rw[iA];exact Qe
     unfold wL at hy
     rw[Qs (by lia)] at hy
     have h1:=H.1
     split at hy
     · rw[Qz] at hy;subst hy;show 0 < List.length _;lia
     · rcases Qf.mp hy with rfl | hy
       · show 0 < List.length _;rw[Qg];lia
       · rw[Qz] at hy;subst hy;show 0 < List.length _;rw[Wy];lia
   · have hx:0 < xs.length:=by rcases hx with z | z;exact z;exact absurd z h0
     generalize pW n h xs e=ys at p hy
     cases p with
     | one a b c=>rw[Qz] at hy;subst hy;show 0 < List.length _;lia
     | two a b =>
       rcases Qf.mp hy with rfl | hy
       · exact pM hn a
       · rw[Qz] at hy;subst hy;exact pM hn b
 refine⟨?_,q⟩
 generalize pW n h xs e=ys at p
 cases p with
 | one a b c=>simp
 | two a b=>simp
theorem zXk {ρ:List B}{fx fk fi:Ef}{h:Nat}{xs:List (It (h+1))}{ys:List (List (It h))}{k:Nat}(h1:fx ρ=some (.lst (xs.map (iD (h+1)))))(h2:fk ρ=some (.int (k:Int)))(h3:fi ρ=some (.lst (ys.map (iD (h+1)))))(hk:k < xs.length)(hl:xs.length<=900)(hy:ys.length<=2) :
   eL (oO (oO (xK fx oNo (xI fk)) (iL fi)) (xK fx (xI (qV fk (eC (.int 1)))) oNo)) ρ=some (.lst ((xs.take k++ys++xs.drop (k+1)).map (iD (h+1)))):=by
 have hk2:qV fk (eC (.int 1)) ρ=some (.int ((k+1:Nat):Int)):=(zA h2 rfl rfl).trans rfl
 exact xS (nG (nG (kA h1 h2 (by lia)) (rE h3) (by rw[Qg];lia)) (fG h1 hk2) (by rw[Qe,Qg,Wy];lia))
theorem nP {n:Nat}(hn:4<=n)(h12:n<=800)(e:Et):∀(h:Nat) (xs:List (It h)) (k:Nat),Way n h xs->h < k->xA k [pgD h xs,dE e,.int (n:Int)]=some (.lst ((pW n h xs e).map (iD (h+1))))
 | 0,xs,k+1,H,_=>by
   have hl:=H.1
   show(xR (xA k) [.fz (pgD 0 xs),.fz (dE e),.fz (.int (n:Int)),.no,.no]).bind wH=_
   unfold xR
   refine qN ?_ ?_
   · unfold tB1
     rw[xB (h:=0) (xs:=xs) rfl];rfl
   · have hc:oO (iL (yZ "Page" "things" (eV 0))) (xH (zY (eV 1) zO)) [.fz (pgD 0 xs),.fz (dE e),.fz (.int (n:Int)),.no,.no]=some (List.map dE (xs++[e])) :=
       nG (d:=dE) (ys:=[e]) (rE (z7 (h:=0) (xs:=xs) rfl)) (xE (zK rfl rfl) (by simp)) (by simp;lia)
     refine(qI rfl (xS (zV4 hc (by simp;lia))) rfl).trans ?_
     exact tM n 0 (rX (xs++[e])) (by rw[iA];simp;lia) fun _ _=>trivial
 | h+1,xs,k+1,H,hk=>by
   have hl:=H.1
   obtain⟨hw,H'⟩:=H.down hn e
   obtain⟨p1,p2⟩:=zW1 hn e h _ H'
   have ih:=nP hn h12 e h _ k H' (by lia)
   show(xR (xA k) [.fz (pgD (h+1) xs),.fz (dE e),.fz (.int (n:Int)),.no,.no]).bind wH=_
   unfold xR
   refine uO ?_ ?_
   · unfold tB1
     rw[xB (h:=h+1) (xs:=xs) rfl];rfl
   unfold tK
   refine y9 ((vR rfl rfl).trans (zXt (h+1) xs e (by lia))) ?_
   unfold sY
   refine y9 ((qI ((vN (z7 (h:=h+1) (xs:=xs) rfl) rfl).trans (aL (iD (h+1)) (d:=([]:It (h+1))) hw)) rfl rfl).trans ih) ?_
   unfold oF
   rw[uQ]
   refine(qI rfl (zXk (h:=h) (xs:=xs) (k:=yS h xs e) (z7 (h:=h+1) (xs:=xs) rfl) rfl rfl hw (by lia) p1) rfl).trans ?_
   refine tM n (h+1) _ (by rw[Qe,Qe,Qg,Wy];lia) fun x hx=>?_
   rcases Qx.mp hx with hx | hx
   · rcases Qx.mp hx with hx | hx
     · exact H.ne hn x (Wl hx)
     · exact p2 (by rcases H'.2.1 with z | z;exact .inr z;exact .inl z) x hx
   · exact H.ne hn x (Wk hx)
def eU (n:Nat){α:Type}:Nat->List (List α)->List Nat
 | _,[]=>[]
 | k,p::r=>if p.length < n / 2 then k::eU n (k+1) r else eU n (k+1) r
theorem aV (n:Nat){α:Type}:∀(k:Nat) (ps:List (List α)),(eU n k ps).head?=(ps.findIdx? fun x=>decide (x.length < n / 2)).map (· + k)
 | _,[]=>rfl
 | k,p::r=>by
   unfold eU
   rw[Ia]
   by_cases h:p.length < n / 2
   · simp[h]
   · rw[Qs h,aV n (k+1) r]
     simp only[h,decide_false]
     cases r.findIdx? fun x=>decide (x.length < n / 2) with
     | none=>rfl
     | some i=>show some (i+(k+1))=some (i+1+k);congr 1;lia
theorem zZA {n h:Nat}:∀(ps:List (List (It h))) (k:Nat) (x0 x1:B) (acc:List D),
   nY (gT (yP (gN 0) (yP (gN 1) sV))) (eB2 gLt (xJ (yZ "Page" "things" (eV 1))) (lW (eV 2) (eC (.int 2)))) (eV 0) (((ps.map (iD (h+1))).zipIdx k).map fun q=>D.tup [.int (q.2:Nat),q.1]) [x0,x1,.fz (.int (n:Int))] acc=some (acc++(eU n k ps).map fun i:Nat=>D.int (i:Int))
 | [],k,x0,x1,acc=>by simp[nY,eU]
 | p::r,k,x0,x1,acc=>by
   rw[Wo,List.zipIdx_cons,Wo]
   unfold nY
   have e1:gT (yP (gN 0) (yP (gN 1) sV)) (D.tup [.int (k:Nat),iD (h+1) p]) [x0,x1,.fz (.int (n:Int))]=some [.fz (.int (k:Nat)),.fz (iD (h+1) p),.fz (.int (n:Int))]:=rfl
   have e2:eB2 gLt (xJ (yZ "Page" "things" (eV 1))) (lW (eV 2) (eC (.int 2))) [.fz (.int (k:Nat)),.fz (iD (h+1) p),.fz (.int (n:Int))]=some (decide (p.length < n / 2)):=by
     unfold eB2 xJ
     rw[z7 (h:=h) (xs:=p) rfl]
     show some (decide (((p.map (iD h)).length:Int) < (n:Int) / 2))=_
     rw[Qt]
     congr 1
     by_cases q:p.length < n / 2
     · rw[We q,We (by lia)]
     · rw[Wq q,Wq (by lia)]
   have e3:eV 0 [.fz (.int (k:Nat)),.fz (iD (h+1) p),.fz (.int (n:Int))]=some (.int (k:Nat)):=rfl
   show(gT (yP (gN 0) (yP (gN 1) sV)) (D.tup [.int (k:Nat),iD (h+1) p]) [x0,x1,.fz (.int (n:Int))]).bind _=_
   rw[e1,Qw,e2,Qw]
   unfold eU
   by_cases q:p.length < n / 2
   · rw[We q,Qo rfl,Qo q,e3,Qw,zZA r (k+1)]
     simp
   · rw[Wq q,Qs (by decide),Qs q,zZA r (k+1)]
theorem zWA {h:Nat}{a0 a1 a2 a3:B}:∀(ps:List (List (It h))) (acc:List (It h)) (x5:B),acc.length+ps.flatten.length<=100000 ->
   ∃y5,nZ (gN 5) nA (ps.map (iD (h+1))) [a0,a1,a2,a3,.ow (acc.map (iD h)),x5]=some (.nx [a0,a1,a2,a3,.ow ((acc++ps.flatten).map (iD h)),y5])
 | [],acc,x5,_=>⟨x5,by simp[nZ]⟩
 | p::r,acc,x5,hl=>by
   rw[Tz,Qe] at hl
   obtain⟨y5,e⟩:=zWA r (acc++p) (.fz (iD (h+1) p)) (by rw[Qe];lia) (a0:=a0) (a1:=a1) (a2:=a2) (a3:=a3)
   refine⟨y5,?_⟩
   rw[Wo,mD (ρ1:=[a0,a1,a2,a3,.ow (acc.map (iD h)),.fz (iD (h+1) p)]) (ρ2:=[a0,a1,a2,a3,.ow ((acc++p).map (iD h)),.fz (iD (h+1) p)]) rfl ?_,e,Tz,Ql]
   unfold nA zYZ
   rw[rE (z7 (h:=h) (xs:=p) rfl),Qw]
   show(if (acc.map (iD h)).length+(p.map (iD h)).length<=lim then some (Out.nx [a0,a1,a2,a3,.ow (acc.map (iD h)++p.map (iD h)),.fz (iD (h+1) p)]) else none)=_
   rw[Qo (by rw[Qt,Qt];show _<=100000;lia),Eu]
theorem zWb {n h:Nat}(ps:List (List (It h)))(hl:ps.length<=900)(hn:n<=300)(hp:∀p∈ps,p.length<=n/\∀x∈p,ne h x):fM [.lst (ps.map (iD (h+1))),.int (n:Int)]=some (.lst ((rQ n ps).map (iD (h+1)))):=by
 show(pN [.fz (.lst (ps.map (iD (h+1)))),.fz (.int (n:Int)),.no,.no,.no,.no]).bind wH=_
 unfold pN
 refine yT (ρ':=[.fz (.lst (ps.map (iD (h+1)))),.fz (.int (n:Int)),.ow ((eU n 0 ps).map fun i:Nat=>D.int (i:Int)),.no,.no,.no]) ?_ ?_
 · unfold nW wA zXm
   rw[rE (xs:=ps.map (iD (h+1))) rfl]
   show Option.map _ (((some (L2.eD (ps.map (iD (h+1))))).bind okL).bind _)=_
   rw[Qw,oH (by unfold L2.eD;rw[Qt,List.length_zipIdx,Qt];lia),Qw]
   have:=zZA (n:=n) ps 0 .no .no []
   exact(Ep (Option.map _) this).trans rfl
 have hh:=aV n 0 ps
 unfold kT
 cases hf:ps.findIdx? fun x=>decide (x.length < n / 2) with
 | none =>
   rw[hf] at hh
   have hfe:eU n 0 ps=[]:=List.head?_eq_none_iff.mp hh
   rw[hfe]
   have hI:rQ n ps=ps:=by unfold rQ;rw[hf]
   rw[hI]
   have s1:aH 2 (sIf (z6 (zXD (eV 2))) (yJ (eV 0)) vX) [.fz (.lst (ps.map (iD (h+1)))),.fz (.int (n:Int)),.ow (([]:List Nat).map fun i:Nat=>D.int (i:Int)),.no,.no,.no]=some (.rt (.lst (ps.map (iD (h+1))))):=rfl
   rw[zWx s1]
   rfl
 | some i =>
   rw[hf] at hh
   obtain⟨t,hfe⟩:∃t,eU n 0 ps=i::t:=by
     cases hq:eU n 0 ps with
     | nil=>rw[hq] at hh;cases hh
     | cons a t=>rw[hq] at hh;cases hh;exact⟨t,rfl⟩
   rw[hfe]
   have hi:i < ps.length:=(List.findIdx?_eq_some_iff_getElem.mp hf).1
   have hI:rQ n ps=ps.take (i - 1)++wL n ((ps.drop (i - 1)).take 2).flatten++ps.drop (i - 1+2):=by unfold rQ;rw[hf]
   rw[hI]
   refine yT (ρ':=[.fz (.lst (ps.map (iD (h+1)))),.fz (.int (n:Int)),.fz (.lst ((i::t).map fun i:Nat=>D.int (i:Int))),.no,.no,.no]) rfl ?_
   unfold lB
   refine y9 (d:=.int ((i - 1:Nat):Int)) ?_ ?_
   · have e0:eIx (eV 2) (eC (.int 0)) [.fz (.lst (ps.map (iD (h+1)))),.fz (.int (n:Int)),.fz (.lst ((i::t).map fun i:Nat=>D.int (i:Int))),.no,.no,.no]=some (.int (i:Int)):=(vN (x:=.lst ((i::t).map fun i:Nat=>D.int (i:Int))) rfl rfl).trans (iS fun i:Nat=>D.int (i:Int))
     unfold zYx
     rw[show zZN (eIx (eV 2) (eC (.int 0))) (eC (.int 1)) [.fz (.lst (ps.map (iD (h+1)))),.fz (.int (n:Int)),.fz (.lst ((i::t).map fun i:Nat=>D.int (i:Int))),.no,.no,.no]=some (.int ((i:Int) - 1)) from(zA e0 rfl rfl).trans rfl]
     show some (D.int (if (0:Int) > (i:Int) - 1 then 0 else(i:Int) - 1))=_
     congr 2
     split<;>lia
   unfold kM
   refine yT (ρ':=[.fz (.lst (ps.map (iD (h+1)))),.fz (.int (n:Int)),.fz (.lst ((i::t).map fun i:Nat=>D.int (i:Int))),.fz (.int ((i - 1:Nat):Int)),.ow [],.no]) rfl ?_
   unfold lG
   have hfl:((ps.drop (i - 1)).take 2).flatten.length<=2*n/\∀x∈((ps.drop (i - 1)).take 2).flatten,ne h x:=by
     have hm:∀p∈(ps.drop (i - 1)).take 2,p.length<=n/\∀x∈p,ne h x:=fun p hp'=>hp p (Wk (Wl hp'))
     have h2:((ps.drop (i - 1)).take 2).length<=2:=by rw[Qg];lia
     generalize(ps.drop (i - 1)).take 2=qs at hm h2
     refine⟨?_,fun x hx=>?_⟩
     · match qs,h2,hm with
       | [],_,_=>simp
       | [a],_,hm=>have:=(hm a (by simp)).1;simp;lia
       | [a,b],_,hm=>have:=(hm a (by simp)).1;have:=(hm b (by simp)).1;simp;lia
       | _::_::_::_,h2,_=>simp at h2
     · obtain⟨p,hp',hx⟩:=List.mem_flatten.mp hx
       exact(hm p hp').2 x hx
   obtain⟨y5,ex⟩:=zWA (h:=h) (a0:=.fz (.lst (ps.map (iD (h+1))))) (a1:=.fz (.int (n:Int))) (a2:=.fz (.lst ((i::t).map fun i:Nat=>D.int (i:Int)))) (a3:=.fz (.int ((i - 1:Nat):Int))) ((ps.drop (i - 1)).take 2) [] .no (by simp only[Ox];lia)
   refine yT (ρ':=[.fz (.lst (ps.map (iD (h+1)))),.fz (.int (n:Int)),.fz (.lst ((i::t).map fun i:Nat=>D.int (i:Int))),.fz (.int ((i - 1:Nat):Int)),.ow (((ps.drop (i - 1)).take 2).flatten.map (iD h)),y5]) ?_ ?_
   · unfold rY
     have src:xK (eV 0) (xI (eV 3)) (xI (qV (eV 3) (eC (.int 2)))) [.fz (.lst (ps.map (iD (h+1)))),.fz (.int (n:Int)),.fz (.lst ((i::t).map fun i:Nat=>D.int (i:Int))),.fz (.int ((i - 1:Nat):Int)),.ow [],.no]=some (((ps.drop (i - 1)).take 2).map (iD (h+1))):=by
       show some (dX (ps.map (iD (h+1))) (some ((i - 1:Nat):Int)) (some (((i - 1:Nat):Int)+2)))=_
       rw[show((i - 1:Nat):Int)+2=((i - 1+2:Nat):Int) by lia,zTd]
     rw[src,Qw]
     exact ex
   unfold dP aH
   have s3:zZt 4 [.fz (.lst (ps.map (iD (h+1)))),.fz (.int (n:Int)),.fz (.lst ((i::t).map fun i:Nat=>D.int (i:Int))),.fz (.int ((i - 1:Nat):Int)),.ow (((ps.drop (i - 1)).take 2).flatten.map (iD h)),y5]=[.fz (.lst (ps.map (iD (h+1)))),.fz (.int (n:Int)),.fz (.lst ((i::t).map fun i:Nat=>D.int (i:Int))),.fz (.int ((i - 1:Nat):Int)),.fz (.lst (((ps.drop (i - 1)).take 2).flatten.map (iD h))),y5]:=rfl
   rw[s3,uQ]
   have hlf:yZ "Page" "leaf" (eIx (eV 0) (eC (.int 0))) [.fz (.lst (ps.map (iD (h+1)))),.fz (.int (n:Int)),.fz (.lst ((i::t).map fun i:Nat=>D.int (i:Int))),.fz (.int ((i - 1:Nat):Int)),.fz (.lst (((ps.drop (i - 1)).take 2).flatten.map (iD h))),y5]=some (.bl (h==0)):=by
     match ps,hi with
     | p::r,_=>exact xB (h:=h) (xs:=p) ((vN rfl rfl).trans (iS (iD (h+1))))
   have hpg:=tM n h ((ps.drop (i - 1)).take 2).flatten (by lia) hfl.2
   have hcl:(wL n ((ps.drop (i - 1)).take 2).flatten).length<=2:=by unfold wL;split;simp;split<;>simp
   refine xS (nG (d:=iD (h+1)) (nG (d:=iD (h+1)) (kA (f:=iD (h+1)) rfl rfl (by lia)) (rE ((qI hlf rfl rfl).trans hpg)) (by rw[Qg];lia)) (fG (f:=iD (h+1)) (k:=i - 1+2) rfl ((zA (j:=2) rfl rfl rfl).trans rfl)) (by rw[Qe,Qg,Wy];lia))
theorem RtOk.way {n h:Nat}{xs:List (It h)}(H:RtOk n h xs):Way n h xs:=⟨H.len,by rcases H.two with z | z;exact .inl z;exact .inr (by lia),H.full⟩
theorem zZg {n:Nat}(hn:4<=n)(h12:n<=300)(e:Et):∀(h:Nat) (xs:List (It h)) (k:Nat),RtOk n h xs->h < k->xX k [pgD h xs,dE e,.int (n:Int)]=some (.lst ((fZ n h xs e).map (iD (h+1))))
 | 0,xs,k+1,H,_=>by
   have hl:=H.len
   show(yG (xX k) [.fz (pgD 0 xs),.fz (dE e),.fz (.int (n:Int)),.no,.no]).bind wH=_
   unfold yG
   refine qN ?_ ?_
   · unfold tB1
     rw[xB (h:=0) (xs:=xs) rfl];rfl
   · have hfl:=Uj (fun a:Et => !xO a e) xs
     refine(qI (y:=.lst (List.map (iD 0) (List.filter (fun a:Et => !xO a e) xs))) rfl (xS ?_) rfl).trans (tM n 0 (List.filter (fun a:Et => !xO a e) xs) (by have:=Wa hfl hl;lia) fun _ _=>trivial)
     unfold wA iL
     rw[z7 (h:=0) (xs:=xs) rfl,Qw]
     show((some (xs.map dE)).bind okL).bind _=_
     rw[Qw,oH (by rw[Qt];lia),Qw]
     exact jL (t:=eB2 kO (eV 0) (eV 1)) (f:=dE) (p:=fun a => !xO a e) (rest:=[.fz (dE e)]) xs .no [] fun a _=>zRB a e
 | h+1,xs,k+1,H,hk=>by
   have hl:=H.len
   have h2:2<=xs.length:=by rcases H.two with z | z;cases z;exact z
   obtain⟨hw,H'⟩:=H.way.down hn e
   have hm:xs.getD (yS h xs e) []∈xs:=by
     have:xs.getD (yS h xs e) []=xs[yS h xs e]:=by simp[hw]
     rw[this];exact Rb hw
   obtain⟨c1,c2,c3⟩:=yQ (H.full _ hm)
   have HB:RtOk n h (xs.getD (yS h xs e) []):=⟨c2,.inr (by lia),c3,H.srt.sublist (uG (f:=wN (h+1)) hm)⟩
   have ih:=zZg hn h12 e h _ k HB (by lia)
   obtain⟨_,i2⟩:=iY hn e h _ HB.len HB.two HB.full HB.srt
   show(yG (xX k) [.fz (pgD (h+1) xs),.fz (dE e),.fz (.int (n:Int)),.no,.no]).bind wH=_
   rcases i2 with⟨_,_,z⟩ | ⟨y,ey,y1,y2,y3,y4⟩
   · lia
   have hsp:=zZq (xs:=xs) (d:=([]:It (h+1))) hw
   obtain⟨g1,g2,g3,g4⟩:=zWY hn (L:=xs.take (yS h xs e)) (R:=xs.drop (yS h xs e+1)) (c:=y) (fun x hx=>H.full x (Wl hx)) (fun x hx=>H.full x (Wk hx)) (by lia) y2 y4 (by rw[Qg,Wy];lia)
   have hmid:xs.take (yS h xs e)++fZ n h (xs.getD (yS h xs e) []) e++xs.drop (yS h xs e+1)=xs.take (yS h xs e)++y::xs.drop (yS h xs e+1):=by rw[ey];simp
   have hfill:=zWb (n:=n) (h:=h) (xs.take (yS h xs e)++fZ n h (xs.getD (yS h xs e) []) e++xs.drop (yS h xs e+1)) (by rw[hmid,Qe,Qh,Qg,Wy];lia) h12 (fun p hp=>by
     rw[hmid] at hp
     rcases Qx.mp hp with z | z
     · obtain⟨a,b,c⟩:=yQ (H.full p (Wl z))
       exact⟨b,fun x hx=>pM hn (c x hx)⟩
     · rcases Qf.mp z with z | z
       · rw[z];exact⟨y2,fun x hx=>pM hn (y4 x hx)⟩
       · obtain⟨a,b,c⟩:=yQ (H.full p (Wk z))
         exact⟨b,fun x hx=>pM hn (c x hx)⟩)
   unfold yG
   refine uO ?_ ?_
   · unfold tB1
     rw[xB (h:=h+1) (xs:=xs) rfl];rfl
   unfold uJ
   refine y9 ((vR rfl rfl).trans (zXt (h+1) xs e (by lia))) ?_
   unfold uU
   refine y9 ((qI ((vN (z7 (h:=h+1) (xs:=xs) rfl) rfl).trans (aL (iD (h+1)) (d:=([]:It (h+1))) hw)) rfl rfl).trans ih) ?_
   unfold rH
   rw[uQ]
   refine(qI rfl ((vR (zXk (h:=h) (xs:=xs) (k:=yS h xs e) (z7 (h:=h+1) (xs:=xs) rfl) rfl rfl hw (by lia) (by rw[ey];simp)) rfl).trans hfill) rfl).trans ?_
   refine tM n (h+1) _ ?_ fun x hx=>?_
   · rw[hmid]
     rw[Qg,Wy] at g3
     lia
   · rw[hmid] at hx
     exact pM hn (g1 x hx)
def rtD (r:Rt):D:=pgD r.1 r.2
theorem zYy {x0:B}:∀(h:Nat) (xs:List (It h)) (k:Nat),h < k ->
   uP (sT (z6 (tB1 (yZ "Page" "leaf" (eV 1)))) (eB2 gEq (xJ (yZ "Page" "things" (eV 1))) (eC (.int 1)))) (yF 1 (eIx (yZ "Page" "things" (eV 1)) (eC (.int 0)))) k [x0,.fz (pgD h xs)]=some (.nx [x0,.fz (rtD (zXe h xs))])
 | 0,xs,k+1,_=>by
   have t:sT (z6 (tB1 (yZ "Page" "leaf" (eV 1)))) (eB2 gEq (xJ (yZ "Page" "things" (eV 1))) (eC (.int 1))) [x0,.fz (pgD 0 xs)]=some false:=by
     unfold sT z6 tB1
     rw[xB (h:=0) (xs:=xs) rfl];rfl
   rw[uP,t,Qw,Qs (by decide)]
   rfl
 | h+1,xs,k+1,hk=>by
   have t:sT (z6 (tB1 (yZ "Page" "leaf" (eV 1)))) (eB2 gEq (xJ (yZ "Page" "things" (eV 1))) (eC (.int 1))) [x0,.fz (pgD (h+1) xs)]=some (decide (xs.length=1)):=by
     unfold sT z6 tB1 eB2 xJ
     rw[xB (h:=h+1) (xs:=xs) rfl,z7 (h:=h+1) (xs:=xs) rfl]
     show some (decide (((xs.map (iD (h+1))).length:Int)=1))=_
     rw[Qt]
     congr 1
     by_cases q:xs.length=1
     · rw[We q,We (by lia)]
     · rw[Wq q,Wq (by lia)]
   rw[uP,t,Qw]
   match xs with
   | []=>rfl
   | [x] =>
     rw[Qo (by simp)]
     have b:yF 1 (eIx (yZ "Page" "things" (eV 1)) (eC (.int 0))) [x0,.fz (pgD (h+1) [x])]=some (.nx [x0,.fz (pgD h x)]):=by
       unfold yF
       rw[(vN (z7 (h:=h+1) (xs:=[x]) rfl) rfl).trans (iS (iD (h+1)))]
       rfl
     rw[b,Qw]
     exact zYy h x k (by lia)
   | x::y::r =>
     rw[Qs (by simp)]
     rfl
theorem zW5 {h:Nat}(ys:List (List (It h)))(hh:h < 9)(hl:ys.length<=100000)(hne:∀y∈ys,0 < y.length):mF [.lst (ys.map (iD (h+1)))]=some (rtD (iU h ys)):=by
 show(rL [.fz (.lst (ys.map (iD (h+1)))),.no]).bind wH=_
 unfold rL
 unfold iU
 by_cases h0:ys.length=0
 · have:ys=[]:=Td.mp h0
   subst this
   rw[Qo h0]
   exact qN rfl (mC (h:=0) (xs:=[]) rfl (xS (xE rfl (by decide))) (by decide) fun _ _=>trivial)
 · rw[Qs h0]
   refine uO (by
     show some (!(!(ys.map (iD (h+1))).isEmpty))=some false
     cases ys with
     | nil=>exact absurd rfl h0
     | cons x r=>rfl) ?_
   unfold mV
   refine y9 (d:=pgD (h+1) ys) (mC (h:=h+1) (xs:=ys) rfl rfl hl hne) ?_
   unfold mU
   exact yT (zYy (h+1) ys 10 (by lia)) rfl
def shD:(h:Nat)->List (It h)->D
 | 0,xs=>.tup [.str "leaf",.lst (List.map dE xs)]
 | h+1,xs=>.tup [.str "branch",.lst (List.map (fun x=>.tup [dE (z9 (h+1) x),.int (most (h+1) x),shD h x]) xs)]
theorem zY6 {α:Type}{elt:Ef}{f g h:α->D}:∀(l:List α) (x0 x1:B) (acc:List D),(∀a∈l,elt [.fz (f a),.fz (g a)]=some (h a))->nY (gT (yP (gN 0) (yP (gN 1) sV))) tOK elt (nX (l.map f) (l.map g)) [x0,x1] acc=some (acc++l.map h)
 | [],_,_,acc,_=>by simp[nY,nX]
 | a::r,x0,x1,acc,hh=>by
   rw[Wo,Wo]
   show nY _ _ _ (D.tup [f a,g a]::nX (r.map f) (r.map g)) _ _=_
   unfold nY
   have e1:gT (yP (gN 0) (yP (gN 1) sV)) (D.tup [f a,g a]) [x0,x1]=some [.fz (f a),.fz (g a)]:=rfl
   have e2:tOK [.fz (f a),.fz (g a)]=some true:=rfl
   rw[e1,Qw,e2,Qw,Qo rfl,hh a Qv,Qw,zY6 r _ _ _ fun q hq=>hh q (Qb _ hq)]
   simp
theorem nB {α:Type}(f g:α->D):∀l:List α,(nX (l.map f) (l.map g)).length=l.length
 | []=>rfl
 | a::r=>by show(nX (r.map f) (r.map g)).length+1=_;rw[nB f g r];rfl
theorem gJ {n:Nat}(hn:4<=n)(h12:n<=300):∀(h:Nat) (xs:List (It h)) (k:Nat),Way n h xs->h < k->wE k [pgD h xs]=some (shD h xs)
 | 0,xs,k+1,H,_=>by
   show(vT (wE k) [.fz (pgD 0 xs)]).bind wH=_
   unfold vT
   refine qN ?_ ?_
   · unfold tB1
     rw[xB (h:=0) (xs:=xs) rfl];rfl
   · refine fX (zK rfl (zK (xS (ds:=xs.map dE) ?_) rfl)) (by simp)
     unfold sP
     rw[z7 (h:=0) (xs:=xs) rfl];rfl
 | h+1,xs,k+1,H,hk=>by
   have hl:=H.1
   show(vT (wE k) [.fz (pgD (h+1) xs)]).bind wH=_
   unfold vT
   refine uO ?_ ?_
   · unfold tB1
     rw[xB (h:=h+1) (xs:=xs) rfl];rfl
   unfold jB
   rw[uQ]
   refine fX (zK rfl (zK (xS ?_) rfl)) (by simp)
   unfold wA zW6
   rw[lF (h:=h+1) (xs:=xs) rfl,z7 (h:=h+1) (xs:=xs) rfl]
   show((some (nX (xs.map fun x=>dE (z9 (h+1) x)) (xs.map (iD (h+1))))).bind okL).bind _=_
   rw[Qw,oH (by rw[nB];lia),Qw]
   have:=zY6 (elt:=cQ (zY (eV 0) (zY (yZ "Page" "most" (eV 1)) (zY (zI 1 (wE k) (zY (eV 1) zO)) zO)))) (f:=fun x=>dE (z9 (h+1) x)) (g:=iD (h+1)) (h:=fun x=>.tup [dE (z9 (h+1) x),.int (most (h+1) x),shD h x]) xs .no .no [] fun x hx=>by
     obtain⟨c1,c2,c3⟩:=yQ (H.2.2 x hx)
     refine fX (zK rfl (zK ?_ (zK ((lR rfl).trans (gJ hn h12 h x k ⟨c2,.inr (by lia),c3⟩ (by lia))) rfl))) (by simp)
     rw[zY4 (h:=h) (xs:=x) rfl,zYY (by lia)]
   exact this
abbrev stN:List Str:=["size","root"]
def stD (n:Nat)(r:Rt):D:=.obj "Store" stN [.int (n:Int),rtD r]
theorem zQQ (n:Nat)(r:Rt)(ρ:List B):lQ 0 "Store" "root" (.mu (stD n r)::ρ)=some (rtD r)/\lQ 0 "Store" "size" (.mu (stD n r)::ρ)=some (.int (n:Int)):=by
 refine⟨?_,?_⟩
 all_goals
   refine(Qo rfl:(if ("Store":Str)="Store" then _ else none)=_).trans ?_
   kernel_rfl
theorem zVj {fa:Ef}{ρ:List B}{n:Nat}{r:Rt}(h:fa ρ=some (stD n r)):yZ "Store" "root" fa ρ=some (rtD r):=by
 unfold yZ
 rw[h,Qw]
 refine(Qo rfl:(if ("Store":Str)="Store" then _ else none)=_).trans ?_
 kernel_rfl
theorem zYC (n:Nat)(a b:D):setF "root" b stN [.int (n:Int),a]=[.int (n:Int),b]:=by kernel_rfl
section
variable {n:Nat} (hn:4<=n) (h12:n<=300)
include hn h12
theorem zWm {h:Nat}{xs:List (It h)}(H:RtOk n h xs)(e:Et)(hk:∀a∈zT h xs,kE a≠kE e)(hl:(zT h xs).length < 500):∃h' xs',RtOk n h' xs'/\(zT h' xs').Perm (e::zT h xs)/\w4 stN [.int (n:Int),rtD ⟨h,xs⟩] [dE e]=some [.int (n:Int),rtD ⟨h',xs'⟩]:=by
 have hd:=H.deep hn (by lia)
 obtain⟨h',xs',e1,H',pm⟩:=H.put hn e hk
 obtain⟨m1,m2⟩:=zQQ n ⟨h,xs⟩ [.fz (dE e)]
 refine⟨h',xs',H',pm,?_⟩
 show fnM 2 "Store" stN "root" uY tP [.int (n:Int),rtD ⟨h,xs⟩] [dE e]=_
 unfold fnM
 show(uY [.mu (stD n ⟨h,xs⟩),.fz (dE e)]).bind _=_
 have ht:uY [.mu (stD n ⟨h,xs⟩),.fz (dE e)]=some false:=by
   unfold uY eB2
   rw[vR m1 rfl,show w9 [rtD ⟨h,xs⟩,dE e]=_ from zXp hn (by lia) e h xs H.way (by lia),H.like_none hn hk]
   rfl
 rw[ht,Qw,Qo ⟨rfl,by decide +kernel,by decide⟩]
 obtain⟨p1,p2⟩:=zW1 hn e h xs H.way
 have he:tP [.mu (stD n ⟨h,xs⟩),.fz (dE e)]=some (rtD ⟨h',xs'⟩):=by
   refine(lR ((qI m1 rfl m2).trans (nP hn (by lia) e h xs 8 H.way (by lia)))).trans ?_
   rw[zW5 _ (by lia) (by lia) (p2 (by rcases H.two with z | z;exact .inr z;exact .inl (by lia))),e1]
 show(tP [.mu (stD n ⟨h,xs⟩),.fz (dE e)]).map _=_
 rw[he]
 exact Ep some (zYC n _ _)
theorem zXx {h:Nat}{xs:List (It h)}(H:RtOk n h xs)(e:Et)(he:e∈zT h xs)(hl:(zT h xs).length < 500):∃h' xs',RtOk n h' xs'/\zT h' xs'=(zT h xs).filter (fun a => !xO a e)/\vI stN [.int (n:Int),rtD ⟨h,xs⟩] [dE e]=some [.int (n:Int),rtD ⟨h',xs'⟩]:=by
 have hd:=H.deep hn (by lia)
 obtain⟨h',xs',e1,H',pm⟩:=H.take hn e
 obtain⟨m1,m2⟩:=zQQ n ⟨h,xs⟩ [.fz (dE e)]
 refine⟨h',xs',H',pm,?_⟩
 show fnM 2 "Store" stN "root" vW uR [.int (n:Int),rtD ⟨h,xs⟩] [dE e]=_
 unfold fnM
 show(vW [.mu (stD n ⟨h,xs⟩),.fz (dE e)]).bind _=_
 have ht:vW [.mu (stD n ⟨h,xs⟩),.fz (dE e)]=some false:=by
   unfold vW eB2
   rw[vR m1 rfl,show w9 [rtD ⟨h,xs⟩,dE e]=_ from zXp hn (by lia) e h xs H.way (by lia),H.like_some hn he rfl]
   show kO (dE e) (dE e)=_
   rw[zRB,uZ.mpr rfl];rfl
 rw[ht,Qw,Qo ⟨rfl,by decide +kernel,by decide⟩]
 have hE:uR [.mu (stD n ⟨h,xs⟩),.fz (dE e)]=some (rtD ⟨h',xs'⟩):=by
   refine(lR ((qI m1 rfl m2).trans (zZg hn (by lia) e h xs 8 H (by lia)))).trans ?_
   obtain⟨_,i2⟩:=iY hn e h xs H.len H.two H.full H.srt
   rw[zW5 _ (by lia) (by rcases i2 with⟨_,z,_⟩ | ⟨y,z,_⟩<;>rw[z]<;>simp) (by
     rcases i2 with⟨_,z,_⟩ | ⟨y,z,_,_,y3,_⟩
     · rw[z];exact fun y hy=>nomatch hy
     · rw[z];intro y hy;rw[Qz] at hy;subst hy;exact y3),e1]
 show(uR [.mu (stD n ⟨h,xs⟩),.fz (dE e)]).map _=_
 rw[hE]
 exact Ep some (zYC n _ _)
theorem gX {h:Nat}{xs:List (It h)}(H:RtOk n h xs)(hl:(zT h xs).length < 500):wT [stD n ⟨h,xs⟩]=some (shD h xs):=by
 have hd:=H.deep hn (by lia)
 show(tG [.fz (stD n ⟨h,xs⟩)]).bind wH=_
 unfold tG
 rw[uQ]
 exact(lR (zVj (n:=n) (r:=⟨h,xs⟩) rfl)).trans (gJ hn h12 h xs 8 H.way (by lia))
end
theorem orT {t u:Tf}{ρ:List B}{a b:Bool}(h1:t ρ=some a)(h2:u ρ=some b):oV t u ρ=some (a||b):=by unfold oV;rw[h1];cases a<;>simp[h2]
theorem zRr {l:List Int}{v:Int}(h0:0 < l.length)(h:∀x∈l,x=v):zUq l=v/\jC l=v:=by
 have at_:∀i,i<=l.length - 1->l.getD i 0=v:=fun i hi=>by
   have:i < l.length:=by lia
   rw[show l.getD i 0=l[i] from by simp[this]]
   exact h _ (Rb this)
 refine⟨at_ _ (argBest_lt (fun i=>l.getD i 0) (l.length - 1)).1,at_ _ (argBest_gt (fun i=>l.getD i 0) (l.length - 1)).1⟩
theorem zTN {g:Lf}{ρ:List B}{l:List Int}{v:Int}(h:g ρ=some (l.map .int))(h0:0 < l.length)(ha:∀x∈l,x=v):zYA g ρ=some (.int v)/\hU g ρ=some (.int v):=by
 obtain⟨a,b⟩:=zRr h0 ha
 refine⟨?_,?_⟩
 · unfold zYA
   rw[h,Qw,qB,Qw,Qo h0,a]
 · unfold hU
   rw[h,Qw,qB,Qw,Qo h0,b]
def qR (h:Nat)(x:List (It h)):D:=.tup [dE (z9 (h+1) x),.int (most (h+1) x),shD h x]
def sgn (h:Nat):Str:=if h=0 then "leaf" else "branch"
def zTv:(h:Nat)->List (It h)->List D
 | 0,xs=>List.map dE xs
 | h+1,xs=>List.map (qR h) xs
theorem zRG:∀(h:Nat) (xs:List (It h)),shD h xs = .tup [.str (sgn h),.lst (zTv h xs)]
 | 0,_=>rfl
 | _+1,_=>rfl
theorem zVz:∀(h:Nat) (xs:List (It h)),(zTv h xs).length=xs.length
 | 0,xs=>Qt _
 | _+1,xs=>Qt _
theorem zZc {n:Nat}(hn:4<=n)(h12:n<=300):∀(h:Nat) (xs:List (It h)) (k:Nat) (root:Bool),h < k->xs.length<=n->(root=true∨n / 2<=xs.length)->(h=0∨2<=xs.length)->(∀x∈xs,wM n h x)->xM k [shD h xs,.int (n:Int),.bl root]=some (.int (h:Int))
 | h,xs,k+1,root,hk,hl,hr,h2,hf=>by
   show(tR (xM k) [.fz (shD h xs),.fz (.int (n:Int)),.fz (.bl root),.no,.no,.no]).bind wH=_
   have hil:=zVz h xs
   rw[zRG]
   unfold tR
   refine uO rfl ?_
   unfold qU
   refine y9 (d:=.int (xs.length:Int)) (by show some (D.int ((zTv h xs).length:Int))=_;rw[hil]) ?_
   unfold qS
   refine uO ?_ ?_
   · refine(orT (a:=false) (b:=false) ?_ ?_).trans rfl
     · show some (decide ((n:Int) < (xs.length:Int)))=_
       rw[Wq (by lia)]
     · show sT (z6 (tB1 (eV 2))) (eB2 gLt (eV 3) (lW (eV 1) (eC (.int 2)))) [.fz (.tup [.str (sgn h),.lst (zTv h xs)]),.fz (.int (n:Int)),.fz (.bl root),.fz (.int (xs.length:Int)),.no,.no]=_
       cases root with
       | true=>rfl
       | false =>
         have hr:n / 2<=xs.length:=by rcases hr with z | z;cases z;exact z
         show some (decide ((xs.length:Int) < (n:Int) / 2))=_
         rw[Wq (by lia)]
   unfold qP
   cases h with
   | zero=>exact qN (by kernel_rfl) rfl
   | succ h =>
     have h2:2<=xs.length:=by rcases h2 with z | z;cases z;exact z
     refine uO (by kernel_rfl) ?_
     unfold rA
     refine uO ?_ ?_
     · refine(orT (a:=false) (b:=false) (by kernel_rfl) ?_).trans rfl
       show some (decide ((xs.length:Int) < 2))=_
       rw[Wq (by lia)]
     unfold qT
     show(zH (nW 4 (xH zO)) (tY (xM k)) [.fz (.tup [.str (sgn (h+1)),.lst (xs.map (qR h))]),.fz (.int (n:Int)),.fz (.bl root),.fz (.int (xs.length:Int)),.no,.no]).bind wH=_
     refine yT (ρ':=[.fz (.tup [.str (sgn (h+1)),.lst (xs.map (qR h))]),.fz (.int (n:Int)),.fz (.bl root),.fz (.int (xs.length:Int)),.ow [],.no]) rfl ?_
     unfold tY
     obtain⟨ρ',e,ns,x5,hns,hall,rfl⟩:=mG (g:=gN 5) (body:=wB (xM k)) (P:=fun i ρ=>∃(ns:List Int) (x5:B),ns.length=i/\(∀z∈ns,z=(h:Int))/\ρ=[.fz (.tup [.str (sgn (h+1)),.lst (xs.map (qR h))]),.fz (.int (n:Int)),.fz (.bl root),.fz (.int (xs.length:Int)),.ow (ns.map .int),x5]) (xs.map (qR h)) 0 (fun i d hd ρ hρ=>by
       obtain⟨ns,x5,hi,ha,rfl⟩:=hρ
       rw[Ws] at hd
       obtain⟨x,hx,rfl⟩:=Qy.mp hd
       have hil:i < xs.length:=(Qn.mp hx).1
       have hx:x∈xs:=Ux hx
       obtain⟨c1,c2,c3⟩:=yQ (hf x hx)
       have ih:=zZc hn h12 h x k false (by lia) c2 (.inr c1) (.inr (by lia)) c3
       refine⟨_,[.fz (.tup [.str (sgn (h+1)),.lst (xs.map (qR h))]),.fz (.int (n:Int)),.fz (.bl root),.fz (.int (xs.length:Int)),.ow ((ns++[(h:Int)]).map .int),.fz (qR h x)],rfl,?_,ns++[(h:Int)],_,by rw[Qe,hi];rfl,fun z hz=>?_,rfl⟩
       · show wB (xM k) [.fz (.tup [.str (sgn (h+1)),.lst (xs.map (qR h))]),.fz (.int (n:Int)),.fz (.bl root),.fz (.int (xs.length:Int)),.ow (ns.map .int),.fz (qR h x)]=_
         unfold wB
         rw[tS (ρ':=[.fz (.tup [.str (sgn (h+1)),.lst (xs.map (qR h))]),.fz (.int (n:Int)),.fz (.bl root),.fz (.int (xs.length:Int)),.ow (ns.map .int),.fz (qR h x)]) ((nR (b:=false) rfl).trans rfl)]
         unfold mQ zZs
         rw[(qI (x:=shD h x) rfl rfl rfl).trans ih,Qw]
         show(if (ns.map D.int).length < lim then some (Out.nx [.fz (.tup [.str (sgn (h+1)),.lst (xs.map (qR h))]),.fz (.int (n:Int)),.fz (.bl root),.fz (.int (xs.length:Int)),.ow (ns.map .int++[.int (h:Int)]),.fz (qR h x)]) else none)=_
         rw[Qo (by rw[Qt];show _ < 100000;lia),Eu]
         rfl
       · rcases Qx.mp hz with z | z
         · exact ha _ z
         · simpa using z) [.fz (.tup [.str (sgn (h+1)),.lst (xs.map (qR h))]),.fz (.int (n:Int)),.fz (.bl root),.fz (.int (xs.length:Int)),.ow [],.no] ⟨[],.no,rfl,(fun _ z=>nomatch z),rfl⟩
     rw[Qt,Ys] at hns
     refine yT (ρ':=[.fz (.tup [.str (sgn (h+1)),.lst (xs.map (qR h))]),.fz (.int (n:Int)),.fz (.bl root),.fz (.int (xs.length:Int)),.ow (ns.map .int),x5]) ?_ ?_
     · unfold rY
       rw[rE (xs:=xs.map (qR h)) rfl,Qw]
       exact e
     unfold qK
     refine yT (ρ':=[.fz (.tup [.str (sgn (h+1)),.lst (xs.map (qR h))]),.fz (.int (n:Int)),.fz (.bl root),.fz (.int (xs.length:Int)),.fz (.lst (ns.map .int)),x5]) ?_ ?_
     · unfold aH
       show sIf _ _ _ [.fz (.tup [.str (sgn (h+1)),.lst (xs.map (qR h))]),.fz (.int (n:Int)),.fz (.bl root),.fz (.int (xs.length:Int)),.fz (.lst (ns.map .int)),x5]=_
       obtain⟨m1,m2⟩:=zTN (g:=iL (eV 4)) (ρ:=[.fz (.tup [.str (sgn (h+1)),.lst (xs.map (qR h))]),.fz (.int (n:Int)),.fz (.bl root),.fz (.int (xs.length:Int)),.fz (.lst (ns.map .int)),x5]) (l:=ns) (v:=(h:Int)) rfl (by lia) hall
       refine(nR (b:=false) ((orT (a:=false) (b:=false) ?_ ?_).trans rfl)).trans rfl
       · show(if (ns.map D.int).all noN then some false else none)=_
         rw[Qo (Oe.mpr fun d hd=>by obtain⟨i,_,rfl⟩:=Yd.mp hd;rfl)]
       · unfold eB2
         rw[m1,m2]
         show some (!decide ((h:Int)=(h:Int)))=_
         simp
     unfold lN
     rw[uQ]
     match ns,hns with
     | [],z=>exact absurd z (by show ¬(0=_);lia)
     | v::r,_ =>
       have hv:=hall v Qv
       subst hv
       exact(zA ((vN (x:=.lst ((((h:Nat):Int)::r).map .int)) rfl rfl).trans (iS D.int)) rfl rfl).trans rfl
theorem bE (val:Nat->Int):∀k i,i<=k->val i<=wQ val k
 | 0,i,h=>by cases (Nat.le_zero.mp h);exact Int.le_refl _
 | k+1,i,h=>by
   unfold wQ
   by_cases e:i=k+1
   · subst e;split<;>lia
   · have:=bE val k i (by lia)
     split<;>lia
theorem zVf {l:List Int}{x:Int}(h:x∈l):x<=nS l:=by
 obtain⟨i,hi,rfl⟩:=List.getElem_of_mem h
 have:=bE (fun i=>l.getD i 0) (l.length - 1) i (by lia)
 simpa [hi,nS] using this
theorem zWK:∀(h:Nat) (x:It h),∀e∈wN h x,e.l<=most h x
 | 0,x,e,he=>by
   have he:e∈[x]:=he
   rw[Qz] at he
   rw[he];exact Int.le_refl _
 | h+1,xs,e,he=>by
   obtain⟨y,hy,he⟩:=Eb.mp he
   exact Int.le_trans (zWK h y e he) (zVf (Yp hy))
theorem zQe {xs:List Int}{i:Int}(h0:0<=i)(h1:i < xs.length):∃x∈xs,atD (.lst (xs.map .int)) (.int i)=some (.int x):=by
 obtain⟨x,hx,e⟩:=zST h0 h1
 refine⟨x,hx,?_⟩
 show atI (xs.map D.int) i=_
 rw[zWP,e];rfl
theorem zUS {fa fb:Ef}{ρ:List B}{i j:Int}(h1:fa ρ=some (.int i))(h2:fb ρ=some (.int j))(h:zWo i j=true):zT9 fa fb ρ=some (.int (i^j.toNat)):=zA h1 h2 h
theorem zTW {fa fb:Ef}{ρ:List B}{i j:Int}(h1:fa ρ=some (.int i))(h2:fb ρ=some (.int j)):zUl fa fb ρ=some (.int (if j < i then j else i)):=by unfold zUl;rw[h1,h2];rfl
theorem zVx {f:Ef}{ρ:List B}{m:Int}(h:f ρ=some (.int m))(h0:0<=m)(h1:m<=1000000):iR f ρ=some (vK 0 m.toNat):=by
 unfold iR
 rw[h,Qw]
 show(if decide (-1000000<=m)&&decide (m<=1000000) then some (vK 0 m.toNat) else none)=_
 rw[We (by lia),We h1];rfl
theorem zR8 {f g:Sf}{ρ ρ':List B}{r:Option (List D)}(h:f ρ=some (.nx ρ'))(k:(g ρ').bind zYB=r):(zH f g ρ).bind zYB=r:=by rw[tS h];exact k
theorem zTD {t:Tf}{e:Lf}{g:Sf}{ρ:List B}{r:List D}(h:t ρ=some true)(k:e ρ=some r):(zH (sIf t (gS e) vX) g ρ).bind zYB=some r:=by
 unfold zH
 rw[nR h,Qo rfl]
 unfold gS
 rw[k]
 rfl
theorem zTz {e:Lf}{ρ:List B}:(gS e ρ).bind zYB=e ρ:=by unfold gS;cases e ρ<;>rfl
theorem zVs {f:List D->Option (List D)}{fa:Ef}{ρ:List B}{x:D}(h1:fa ρ=some x):gK 1 f (zY fa zO) ρ=f [x]:=by
 unfold gK
 rw[zK h1 (show zO ρ=some [] from rfl),Qw,Qo (show [x].length=1 from rfl)]
theorem zYX {h:Nat}{pg:B}{self:List D->Option (List D)}:∀(xs:List (It (h+1))) (acc:List Et) (x2:B),(∀x∈xs,self [pgD h x]=some ((zT h x).map dE))->acc.length+(zT (h+1) xs).length<=100000 ->
   ∃y2,nZ (gN 2) (wG self) (xs.map (iD (h+1))) [pg,.ow (acc.map dE),x2]=some (.nx [pg,.ow ((acc++zT (h+1) xs).map dE),y2])
 | [],acc,x2,_,_=>⟨x2,by simp[nZ]⟩
 | x::r,acc,x2,hx,hl=>by
   rw[xV,Qe] at hl
   have hx1:=hx x Qv
   obtain⟨y2,e2⟩:=zYX (pg:=pg) (self:=self) r (acc++zT h x) (.fz (iD (h+1) x)) (fun z hz=>hx z (Qb _ hz)) (by
     rw[Qe]
     have:(zT h x).length=(wN (h+1) x).length:=rfl
     lia)
   refine⟨y2,?_⟩
   rw[Wo,mD (ρ1:=[pg,.ow (acc.map dE),.fz (iD (h+1) x)]) (ρ2:=[pg,.ow ((acc++zT h x).map dE),.fz (iD (h+1) x)]) rfl ?_,e2,xV,Ql]
   · rfl
   · unfold wG zYZ
     have hq:gK 1 self (zY (eV 2) zO) [pg,.ow (acc.map dE),.fz (iD (h+1) x)]=some ((zT h x).map dE):=(zVs rfl).trans hx1
     rw[hq,Qw]
     show(if (acc.map dE).length+((zT h x).map dE).length<=lim then some (Out.nx [pg,.ow (acc.map dE++(zT h x).map dE),.fz (iD (h+1) x)]) else none)=_
     rw[Qo (by
       rw[Qt,Qt]
       have:(zT h x).length=(wN (h+1) x).length:=rfl
       show _<=100000
       lia),Eu]
theorem rW {n:Nat}(hn:4<=n):∀(h:Nat) (xs:List (It h)) (k:Nat),Way n h xs->(zT h xs).length<=50000->h < k->yW k [pgD h xs]=some ((zT h xs).map dE)
 | 0,xs,k+1,H,_,_=>by
   show(yO (yW k) [.fz (pgD 0 xs),.no,.no]).bind zYB=_
   unfold yO
   refine zTD ?_ ?_
   · unfold tB1
     rw[xB (h:=0) (xs:=xs) rfl];rfl
   · rw[wW]
     unfold sP
     rw[z7 (h:=0) (xs:=xs) rfl];rfl
 | h+1,xs,k+1,H,hl,hk=>by
   show(yO (yW k) [.fz (pgD (h+1) xs),.no,.no]).bind zYB=_
   unfold yO
   refine zR8 (ρ':=[.fz (pgD (h+1) xs),.no,.no]) ((nR (b:=false) ?_).trans rfl) ?_
   · unfold tB1
     rw[xB (h:=h+1) (xs:=xs) rfl];rfl
   unfold vO
   refine zR8 (ρ':=[.fz (pgD (h+1) xs),.ow [],.no]) rfl ?_
   unfold vM
   obtain⟨y2,e⟩:=zYX (pg:=.fz (pgD (h+1) xs)) (self:=yW k) xs [] .no (fun x hx=>by
     obtain⟨c1,c2,c3⟩:=yQ (H.2.2 x hx)
     have hxl:(zT h x).length<=(zT (h+1) xs).length:=(uG (f:=wN (h+1)) hx).length_le
     exact rW hn h x k ⟨c2,.inr (by lia),c3⟩ (by lia) (by lia)) (by simp only[Ox];lia)
   refine zR8 (ρ':=[.fz (pgD (h+1) xs),.ow ((zT (h+1) xs).map dE),y2]) ?_ rfl
   unfold rY
   rw[rE (z7 (h:=h+1) (xs:=xs) rfl),Qw]
   exact e
theorem aC {n:Nat}(hn:4<=n){h:Nat}{xs:List (It h)}(H:RtOk n h xs)(hl:(zT h xs).length < 500):wY [stD n ⟨h,xs⟩]=some ((zT h xs).map dE):=by
 have hd:=H.deep hn (by lia)
 show(uE [.fz (stD n ⟨h,xs⟩)]).bind zYB=_
 unfold uE
 rw[zTz]
 exact(zVs (zVj (n:=n) (r:=⟨h,xs⟩) rfl)).trans (rW hn h xs 8 H.way (by lia) (by lia))
theorem zRn {es:List Et}{i:Nat}(h:i < es.length):atD (.lst (es.map dE)) (.int (0+(i:Int)))=some (dE es[i]):=by
 show atI (es.map dE) (0+(i:Int))=_
 rw[nJ _ _ .non (by lia) (by rw[Qt];lia)]
 have:(0+(i:Int)).toNat=i:=by lia
 rw[this]
 simp[h]
theorem dI (es:List Et)(hl:es.length<=1000):xZ [.lst (es.map dE),.lst (es.map dE)]=some (.bl true):=by
 show(vF [.fz (.lst (es.map dE)),.fz (.lst (es.map dE)),.no,.no]).bind wH=_
 unfold vF
 refine uO ?_ ?_
 · have e1:eB2 kO (xJ (eV 0)) (xJ (eV 1)) [.fz (.lst (es.map dE)),.fz (.lst (es.map dE)),.no,.no]=some false:=by
     show some (!(((es.map dE).length:Int)==((es.map dE).length:Int)))=_
     simp
   show oV (z6 (tB1 (dW jQ (eV 0)))) (eB2 kO (xJ (eV 0)) (xJ (eV 1))) [.fz (.lst (es.map dE)),.fz (.lst (es.map dE)),.no,.no]=_
   exact e1
 · unfold tI
   obtain⟨ρ',e,x2,x3,rfl⟩:=zYf (g:=gN 2) (body:=x9) (P:=fun ρ=>∃x2 x3,ρ=[.fz (.lst (es.map dE)),.fz (.lst (es.map dE)),x2,x3]) (vK 0 es.length) (fun d hd ρ hρ=>by
       obtain⟨i,hi,rfl⟩:=zUg hd
       obtain⟨x2,x3,rfl⟩:=hρ
       refine⟨_,[.fz (.lst (es.map dE)),.fz (.lst (es.map dE)),.fz (.int (0+(i:Int))),.fz (dE es[i])],rfl,?_,_,_,rfl⟩
       show x9 [.fz (.lst (es.map dE)),.fz (.lst (es.map dE)),.fz (.int (0+(i:Int))),x3]=_
       unfold x9
       rw[bS (d:=dE es[i]) ((vN (x:=.lst (es.map dE)) (y:=.int (0+(i:Int))) rfl rfl).trans (zRn hi))]
       show vU [.fz (.lst (es.map dE)),.fz (.lst (es.map dE)),.fz (.int (0+(i:Int))),.fz (dE es[i])]=_
       unfold vU
       rw[tS (ρ':=[.fz (.lst (es.map dE)),.fz (.lst (es.map dE)),.fz (.int (0+(i:Int))),.fz (dE es[i])]) ((nR (b:=false) rfl).trans rfl)]
       unfold pZ
       refine(nR (b:=false) ?_).trans rfl
       have q:eB2 kO (eV 3) (eIx (eV 1) (eV 2)) [.fz (.lst (es.map dE)),.fz (.lst (es.map dE)),.fz (.int (0+(i:Int))),.fz (dE es[i])]=some false:=by
         unfold eB2
         rw[(vN (x:=.lst (es.map dE)) (y:=.int (0+(i:Int))) rfl rfl).trans (zRn hi)]
         show kO (dE es[i]) (dE es[i])=_
         rw[zRB,uZ.mpr rfl];rfl
       exact q) [.fz (.lst (es.map dE)),.fz (.lst (es.map dE)),.no,.no] ⟨_,_,rfl⟩
   refine yT (ρ':=[.fz (.lst (es.map dE)),.fz (.lst (es.map dE)),x2,x3]) ?_ rfl
   unfold rY
   have src:iR (xJ (eV 1)) [.fz (.lst (es.map dE)),.fz (.lst (es.map dE)),.no,.no]=some (vK 0 es.length):=by
     show(if decide (-1000000<=((es.map dE).length:Int))&&decide (((es.map dE).length:Int)<=1000000) then some (vK 0 ((es.map dE).length:Int).toNat) else none)=_
     rw[Qt,We (by lia),We (by lia)]
     rfl
   rw[src,Qw]
   exact e
theorem zRw (q:Int)(m:Nat)(hm:m<=200):∃es:List Et,es.length=m/\es.Pairwise (fun a b=>a.f < b.f)/\hW [.int q,.int (m:Int)]=some (.lst (es.map dE)):=by
 have m1:=qA q 1 (by decide) (by decide)
 have l1:=zTT q 1
 have n1:=zWD q 1
 generalize cP q 1=one at m1 l1 n1
 have c6:zWo one 6=true:=by
   unfold zWo
   rw[We (by decide),We (by decide),We (by lia)];rfl
 generalize hf0:one^6 % 10^54=f0
 obtain⟨ρ',e,f,es,x4,x5,x6,hl,hs,hb,rfl⟩:=mG (g:=gN 4) (body:=sS) (P:=fun i ρ=>∃(f:Int) (es:List Et) (x4 x5 x6:B),es.length=i/\es.Pairwise (fun a b=>a.f < b.f)/\(∀a∈es,a.f<=f)/\ρ=[.fz (.int q),.fz (.int (m:Int)),.fz (.int f),.ow (es.map dE),x4,x5,x6]) (vK 0 m) 0 (fun i d hd ρ hρ=>by
     obtain⟨hi,rfl⟩:=kD hd
     obtain⟨f,es,x4,x5,x6,hl,hs,hb,rfl⟩:=hρ
     have mk:=qA q (40+(0+(i:Int))) (by lia) (by lia)
     have mn:=zWD q (40+(0+(i:Int)))
     generalize cP q (40+(0+(i:Int)))=v at mk mn
     obtain⟨s0,hs0,es0⟩:=zQe (xs:=[1,6,40,900]) (i:=v / 9 % 4) (by lia) (by show v / 9 % 4 < 4;lia)
     have s0p:0 < s0:=by simp at hs0;lia
     obtain⟨w,ew⟩:=zTt q ((0+(i:Int)) % 2)
     refine⟨[.fz (.int q),.fz (.int (m:Int)),.fz (.int f),.ow (es.map dE),.fz (.int (0+(i:Int))),x5,x6],[.fz (.int q),.fz (.int (m:Int)),.fz (.int (f+1+v % 9)),.ow ((es++[(⟨f+1+v % 9,f+1+v % 9+v / 36 % s0,w⟩:Et)]).map dE),.fz (.int (0+(i:Int))),.fz (.int v),.fz (.int s0)],rfl,?_,f+1+v % 9,es++[⟨f+1+v % 9,f+1+v % 9+v / 36 % s0,w⟩],_,_,_,by rw[Qe];simp;lia,?_,?_,rfl⟩
     · unfold sS
       rw[bS (d:=.int v) ((vR rfl (zA rfl rfl rfl)).trans mk)]
       unfold oJ
       show zH _ _ [.fz (.int q),.fz (.int (m:Int)),.fz (.int f),.ow (es.map dE),.fz (.int (0+(i:Int))),.fz (.int v),x6]=_
       rw[bS (d:=.int (f+1+v % 9)) (zA (zA rfl rfl rfl) (zA rfl rfl rfl) rfl)]
       unfold oQ
       show zH _ _ [.fz (.int q),.fz (.int (m:Int)),.fz (.int (f+1+v % 9)),.ow (es.map dE),.fz (.int (0+(i:Int))),.fz (.int v),x6]=_
       rw[bS (d:=.int s0) ((vN (xS (xE (zK rfl (zK rfl (zK rfl (zK rfl rfl)))) (by simp))) (zA (zA rfl rfl rfl) rfl rfl)).trans es0)]
       show oS [.fz (.int q),.fz (.int (m:Int)),.fz (.int (f+1+v % 9)),.ow (es.map dE),.fz (.int (0+(i:Int))),.fz (.int v),.fz (.int s0)]=_
       unfold oS zZs
       rw[fX (ds:=[.int (f+1+v % 9),.int (f+1+v % 9+v / 36 % s0),.str w]) (zK rfl (zK (zA rfl (zA (zA rfl rfl rfl) rfl (We s0p)) rfl) (zK ((vR rfl (zA rfl rfl rfl)).trans ew) rfl))) (by simp)]
       show(if (es.map dE).length < lim then _ else none)=_
       rw[Qo (by rw[Qt];show _ < 100000;lia),Eu]
       rfl
     · refine Qj.mpr ⟨hs,List.pairwise_singleton _ _,fun a ha b hb'=>?_⟩
       rw[Qz.mp hb']
       have:=hb a ha
       show a.f < f+1+v % 9
       lia
     · intro a ha
       rcases Qx.mp ha with z | z
       · have:=hb a z
         lia
       · rw[Qz.mp z]
         exact Int.le_refl _) [.fz (.int q),.fz (.int (m:Int)),.fz (.int f0),.ow [],.no,.no,.no] ⟨f0,[],_,_,_,rfl,List.Pairwise.nil,(fun _ h=>nomatch h),rfl⟩
 have hu:(vK 0 m).length=m:=by simp[vK]
 rw[hu] at hl
 refine⟨es,by lia,hs,?_⟩
 show(rF [.fz (.int q),.fz (.int (m:Int)),.no,.no,.no,.no,.no]).bind wH=_
 unfold rF
 refine y9 (d:=.int f0) ?_ ?_
 · rw[←hf0]
   exact zA (zUS ((vR rfl rfl).trans m1) rfl c6) (zUS (i:=10) (j:=54) rfl rfl (by decide)) (by decide)
 unfold nE
 refine yT (ρ':=[.fz (.int q),.fz (.int (m:Int)),.fz (.int f0),.ow [],.no,.no,.no]) ?_ ?_
 · unfold nW
   rw[xE (show zO _=some [] from rfl) (by decide)]
   rfl
 unfold mS
 refine yT (ρ':=[.fz (.int q),.fz (.int (m:Int)),.fz (.int f),.ow (es.map dE),x4,x5,x6]) ?_ rfl
 unfold rY
 rw[zVx (m:=(m:Int)) rfl (by lia) (by lia),Qw]
 exact e
theorem zWu {es:List Et}{k:Nat}(h:2*k+2<=es.length):(es.drop k).take (es.length - 2*k)=es.getD k zE::((es.drop (k+1)).take (es.length - 2*(k+1))++[es.getD (es.length - 1 - k) zE]):=by
 have h1:k < es.length:=by lia
 have h2:es.length - 1 - k < es.length:=by lia
 rw[Ey h1,show es.length - 2*k=es.length - 2*(k+1)+1+1 by lia,List.take_succ_cons,List.take_succ]
 have e1:es.getD k zE=es[k]:=by simp[h1]
 have e2:(es.drop (k+1))[es.length - 2*(k+1)]?=some (es.getD (es.length - 1 - k) zE):=by
   rw[Re,show k+1+(es.length - 2*(k+1))=es.length - 1 - k by lia]
   simp[h2]
 rw[e1,e2]
 rfl
theorem zSy {es:List Et}{i:Int}(h0:0<=i)(h1:i < es.length):atD (.lst (es.map dE)) (.int i)=some (dE (es.getD i.toNat zE)):=by
 have:=aL dE (xs:=es) (k:=i.toNat) (d:=zE) (by lia)
 rwa[show((i.toNat:Nat):Int)=i by lia] at this
theorem zVV (es:List Et)(hl:es.length<=1000)(v:Int):∃l:List Et,l.Perm es/\sR [.lst (es.map dE),.int v]=some (.lst (l.map dE)):=by
 have uW:∀r,(xF [.fz (.lst (es.map dE)),.fz (.int v),.no,.no,.no]).bind wH=r->sR [.lst (es.map dE),.int v]=r:=fun r h=>h
 by_cases h0:v=0
 · refine⟨es,.refl _,uW _ ?_⟩
   unfold xF
   refine qN ((iX (x:=v) rfl).trans (by rw[We h0])) ?_
   exact xS (show sP (eV 0) _=some (es.map dE) from rfl)
 by_cases h1:v=1
 · refine⟨es.reverse,List.reverse_perm _,uW _ ?_⟩
   unfold xF
   refine uO ((iX (x:=v) rfl).trans (by rw[Wq h0])) ?_
   unfold uT
   refine qN ((iX (x:=v) rfl).trans (by rw[We h1])) ?_
   refine xS ?_
   show some (es.map dE).reverse=_
   rw[List.map_reverse]
 have hn:(es.map dE).length=es.length:=Qt _
 obtain⟨half,hh⟩:∃half:Nat,half=es.length / 2:=⟨_,rfl⟩
 obtain⟨ρ',e,la,x4,hla,hp,rfl⟩:=mG (g:=gN 4) (body:=sZ) (P:=fun i ρ=>∃(la:List Et) (x4:B),la.length=2*i/\(la++(es.drop i).take (es.length - 2*i)).Perm es/\ρ=[.fz (.lst (es.map dE)),.fz (.int v),.fz (.int (half:Int)),.fz (.lst (la.map dE)),x4]) (vK 0 half) 0 (fun i d hd ρ hρ=>by
     obtain⟨hi,rfl⟩:=kD hd
     obtain⟨la,x4,hla,hp,rfl⟩:=hρ
     refine⟨[.fz (.lst (es.map dE)),.fz (.int v),.fz (.int (half:Int)),.fz (.lst (la.map dE)),.fz (.int (0+(i:Int)))],[.fz (.lst (es.map dE)),.fz (.int v),.fz (.int (half:Int)),.fz (.lst ((la++[es.getD i zE,es.getD (es.length - 1 - i) zE]).map dE)),.fz (.int (0+(i:Int)))],rfl,?_,_,_,by rw[Qe];simp;lia,?_,rfl⟩
     · unfold sZ yF
       have a1:=zSy (es:=es) (i:=0+(i:Int)) (by lia) (by lia)
       have a2:=zSy (es:=es) (i:=(es.length:Int) - 1 - (0+(i:Int))) (by lia) (by lia)
       rw[show(0+(i:Int)).toNat=i by lia] at a1
       rw[show((es.length:Int) - 1 - (0+(i:Int))).toNat=es.length - 1 - i by lia] at a2
       have len:xJ (eV 0) [.fz (.lst (es.map dE)),.fz (.int v),.fz (.int (half:Int)),.fz (.lst (la.map dE)),.fz (.int (0+(i:Int)))]=some (.int (es.length:Int)):=by
         show some (D.int ((es.map dE).length:Int))=_
         rw[hn]
       rw[xS (nG (d:=dE) (xs:=la) (ys:=[es.getD i zE,es.getD (es.length - 1 - i) zE]) (rE rfl) (xE (zK ((vN rfl rfl).trans a1) (zK ((vN rfl (zA (zA len rfl rfl) rfl rfl)).trans a2) rfl)) (by simp)) (by simp;lia))]
       rfl
     · refine List.Perm.trans ?_ hp
       rw[Ys] at hp ⊢
       rw[zWu (es:=es) (k:=i) (by lia),Ql]
       refine Us la ?_
       show(es.getD i zE::es.getD (es.length - 1 - i) zE::(es.drop (i+1)).take (es.length - 2*(i+1))).Perm _
       exact List.Perm.cons _ (Ob _ _).symm) [.fz (.lst (es.map dE)),.fz (.int v),.fz (.int (half:Int)),.fz (.lst []),.no] ⟨[],_,rfl,by simp,rfl⟩
 have hu:(vK 0 half).length=half:=by simp[vK]
 rw[hu,Ys] at hp hla
 refine⟨la++(es.drop half).take (es.length - 2*half),hp,uW _ ?_⟩
 unfold xF
 refine uO ((iX (x:=v) rfl).trans (by rw[Wq h0])) ?_
 unfold uT
 refine uO ((iX (x:=v) rfl).trans (by rw[Wq h1])) ?_
 unfold rU
 have len:∀ {a b c d:B},xJ (eV 0) [.fz (.lst (es.map dE)),a,b,c,d]=some (.int (es.length:Int)):=fun {a b c d}=>by
   show some (D.int ((es.map dE).length:Int))=_
   rw[hn]
 refine y9 (d:=.int (half:Int)) ?_ ?_
 · refine(zA len rfl rfl).trans ?_
   rw[hh];rfl
 unfold sD
 refine y9 (d:=.lst []) (xS (xE rfl (by decide))) ?_
 unfold sE
 refine yT (ρ':=[.fz (.lst (es.map dE)),.fz (.int v),.fz (.int (half:Int)),.fz (.lst (la.map dE)),x4]) ?_ ?_
 · unfold rY
   have src:iR (eV 2) [.fz (.lst (es.map dE)),.fz (.int v),.fz (.int (half:Int)),.fz (.lst []),.no]=some (vK 0 half):=zVx (m:=(half:Int)) rfl (by lia) (by lia)
   show(iR (eV 2) [.fz (.lst (es.map dE)),.fz (.int v),.fz (.int (half:Int)),.fz (.lst []),.no]).bind _=_
   rw[src,Qw]
   exact e
 unfold mT
 rw[uQ]
 refine xS (nG (d:=dE) (xs:=la) (rE rfl) ?_ (by rw[Qg,Wy];lia))
 have hi:zZN (xJ (eV 0)) (eV 2) [.fz (.lst (es.map dE)),.fz (.int v),.fz (.int (half:Int)),.fz (.lst (la.map dE)),x4]=some (.int ((es.length - half:Nat):Int)):=by
   rw[show((es.length - half:Nat):Int)=(es.length:Int) - (half:Int) by lia]
   exact zA len rfl rfl
 unfold xK xI
 rw[hi]
 show some (dX (es.map dE) (some (half:Int)) (some ((es.length - half:Nat):Int)))=_
 unfold dX
 rw[HT.sIx_nat,HT.sIx_nat,Qt,Rz,Ta,Ru (by lia),Ru (by lia),show es.length - half - half=es.length - 2*half by lia]
theorem bC (val:Nat->Int):∀k,∃i,i<=k/\wQ val k=val i
 | 0=>⟨0,Qd _,rfl⟩
 | k+1=>by
   obtain⟨i,hi,e⟩:=bC val k
   unfold wQ
   split
   · exact⟨k+1,Qd _,rfl⟩
   · exact⟨i,by lia,e⟩
theorem zVG {l:List Int}(h:0 < l.length):nS l∈l:=by
 obtain⟨i,hi,e⟩:=bC (fun i=>l.getD i 0) (l.length - 1)
 have hl:i < l.length:=by lia
 unfold nS
 rw[e]
 simp[hl]
theorem zZp {n:Nat}(hn:4<=n):∀(h:Nat) (x:It h),wM n h x->∃e∈wN h x,e.l=most h x
 | 0,x,_=>⟨x,Qz.mpr rfl,rfl⟩
 | h+1,xs,H=>by
   obtain⟨c1,c2,c3⟩:=yQ H
   obtain⟨y,hy,e⟩:=Yd.mp (zVG (l:=List.map (most h) xs) (by rw[Qt];lia))
   obtain⟨a,ha,ea⟩:=zZp hn h y (c3 y hy)
   exact⟨a,Eb.mpr ⟨y,hy,ha⟩,ea.trans e⟩
theorem zSO {g:Lf}{ρ:List B}{l:List Int}{v:Int}(h:g ρ=some (l.map .int))(hv:v∈l)(ha:∀x∈l,x<=v):hU g ρ=some (.int v):=by
 have h0:0 < l.length:=List.length_pos_of_mem hv
 have hb:jC l=v:=by
   obtain⟨h1,h2⟩:=argBest_gt (fun i=>l.getD i 0) (l.length - 1)
   obtain⟨j,hj,ej⟩:=List.getElem_of_mem hv
   have gm:∀i,i < l.length->l.getD i 0∈l:=fun i hi=>by simp[hi]
   have m1:jC l<=v:=by
     refine ha _ ?_
     unfold jC
     have:argBest (fun i j=>decide (l.getD i 0 > l.getD j 0)) (l.length - 1) < l.length:=by lia
     exact gm _ this
   have m2:v<=jC l:=by
     have:=h2 j (by lia)
     have e:l.getD j 0=v:=by rw[←ej];simp[hj]
     rw[←e]
     exact this
   lia
 unfold hU
 rw[h,Qw,qB,Qw,Qo h0,hb]
theorem zY5 {n h:Nat}(hn:4<=n){t:B}{self:List D->Option D}:∀(xs:List (It (h+1))) (acc:List Et) (x2 x3 x4 x5:B),(∀x∈xs,wM n (h+1) x/\(zT h x).length<=50000/\self [shD h x]=some (.lst ((zT h x).map dE)))->acc.length+(zT (h+1) xs).length<=50000 ->
   ∃y2 y3 y4 y5,nZ (gT (yP (gN 2) (yP (gN 3) (yP (gN 4) sV)))) (tV self) (xs.map (qR h)) [t,.fz (.lst (acc.map dE)),x2,x3,x4,x5]=some (.nx [t,.fz (.lst ((acc++zT (h+1) xs).map dE)),y2,y3,y4,y5])
 | [],acc,x2,x3,x4,x5,_,_=>⟨x2,x3,x4,x5,by simp[nZ]⟩
 | x::r,acc,x2,x3,x4,x5,hx,hl=>by
   rw[xV,Qe] at hl
   obtain⟨F,hx0,hx1⟩:=hx x Qv
   obtain⟨c1,c2,c3⟩:=yQ F
   obtain⟨tl,ht⟩:=iK (n:=n) (by lia) (h+1) x F
   have h2:2^(h+1)<=(wN (h+1) x).length:=nV hn (h+1) x F
   have h3:2<=(wN (h+1) x).length:=Wa (by have:=Nat.one_le_two_pow (n:=h);rw[Nat.pow_succ];lia) h2
   have hE:zT h x=wN (h+1) x:=rfl
   rw[hE] at hx0 hx1
   obtain⟨y2,y3,y4,y5,e2⟩:=zY5 hn (t:=t) (self:=self) r (acc++wN (h+1) x) (.fz (dE (z9 (h+1) x))) (.fz (.int (most (h+1) x))) (.fz (shD h x)) (.fz (.lst ((wN (h+1) x).map dE))) (fun z hz=>hx z (Qb _ hz)) (by rw[Qe];lia)
   refine⟨y2,y3,y4,y5,?_⟩
   rw[Wo,mD (ρ1:=[t,.fz (.lst (acc.map dE)),.fz (dE (z9 (h+1) x)),.fz (.int (most (h+1) x)),.fz (shD h x),x5]) (ρ2:=[t,.fz (.lst ((acc++wN (h+1) x).map dE)),.fz (dE (z9 (h+1) x)),.fz (.int (most (h+1) x)),.fz (shD h x),.fz (.lst ((wN (h+1) x).map dE))]) rfl ?_,e2,xV,Ql]
   obtain⟨me,hme,eme⟩:=zZp hn (h+1) x F
   have mge:=zWK (h+1) x
   generalize hEE:wN (h+1) x=E at ht h3 hx0 hx1 hme mge hl
   generalize most (h+1) x=mo at eme mge
   unfold tV
   rw[bS ((lR rfl).trans hx1)]
   unfold qX
   show zH _ _ [t,.fz (.lst (acc.map dE)),.fz (dE (z9 (h+1) x)),.fz (.int mo),.fz (shD h x),.fz (.lst (E.map dE))]=_
   rw[tS (ρ':=[t,.fz (.lst (acc.map dE)),.fz (dE (z9 (h+1) x)),.fz (.int mo),.fz (shD h x),.fz (.lst (E.map dE))]) ((nR (b:=false) (by
     refine orT (a:=false) (b:=false) ?_ (orT (a:=false) (b:=false) ?_ ?_)
     · show(if (E.map dE).length=([]:List D).length then _ else some false)=_
       rw[Qs (by rw[Qt];show ¬E.length=0;lia)]
     · show(if (E.map dE).length=([.non]:List D).length then _ else some false)=_
       rw[Qs (by rw[Qt];show ¬E.length=1;lia)]
     · unfold z6 tB1
       rw[vR (y:=.lst ([z9 (h+1) x].map dE)) (xS (xE (zK rfl rfl) (by simp))) (xS (by
         rw[kA (f:=dE) (xs:=E) (k:=1) rfl rfl (by lia),ht]
         rfl))]
       rw[show xZ [.lst [dE (z9 (h+1) x)],.lst ([z9 (h+1) x].map dE)]=_ from dI [z9 (h+1) x] (by simp)]
       rfl)).trans rfl)]
   unfold qO
   rw[tS (ρ':=[t,.fz (.lst (acc.map dE)),.fz (dE (z9 (h+1) x)),.fz (.int mo),.fz (shD h x),.fz (.lst (E.map dE))]) ((nR (b:=false) (by
     refine orT (a:=false) (b:=false) rfl ?_
     unfold eB2
     rw[zSO (l:=E.map (·.l)) (v:=mo) (by
       rw[fV (f:=dE) (g:=fun e=>.int e.l) (l:=E) rfl (by lia) (fun a _=>rfl),Tr];rfl) (Yd.mpr ⟨me,hme,eme⟩) (fun z hz=>by
         obtain⟨a,ha,rfl⟩:=Yd.mp hz
         exact mge a ha)]
     show(some (mo==mo)).map _=_
     simp)).trans rfl)]
   unfold lM yF
   rw[xS (nG (d:=dE) (xs:=acc) (ys:=E) (rE rfl) (rE rfl) (by lia))]
   rfl
theorem zXc {n:Nat}(hn:4<=n):∀(h:Nat) (xs:List (It h)) (k:Nat),Way n h xs->(zT h xs).length<=50000->h < k->wI k [shD h xs]=some (.lst ((zT h xs).map dE))
 | 0,xs,k+1,H,_,_=>by
   show(vZ (wI k) [.fz (shD 0 xs),.no,.no,.no,.no,.no]).bind wH=_
   unfold vZ
   refine qN rfl ?_
   rw[wW]
   exact xS rfl
 | h+1,xs,k+1,H,hl,hk=>by
   show(vZ (wI k) [.fz (shD (h+1) xs),.no,.no,.no,.no,.no]).bind wH=_
   unfold vZ
   refine uO rfl ?_
   unfold pK
   refine y9 (d:=.lst []) (xS (xE rfl (by decide))) ?_
   unfold oU
   obtain⟨y2,y3,y4,y5,e⟩:=zY5 hn (t:=.fz (shD (h+1) xs)) (self:=wI k) xs [] .no .no .no .no (fun x hx=>by
     obtain⟨c1,c2,c3⟩:=yQ (H.2.2 x hx)
     have hxl:(zT h x).length<=(zT (h+1) xs).length:=(uG (f:=wN (h+1)) hx).length_le
     exact⟨H.2.2 x hx,by lia,zXc hn h x k ⟨c2,.inr (by lia),c3⟩ (by lia) (by lia)⟩) (by simp only[Ox];lia)
   refine yT (ρ':=[.fz (shD (h+1) xs),.fz (.lst ((zT (h+1) xs).map dE)),y2,y3,y4,y5]) ?_ rfl
   unfold rY
   rw[rE (f:=eIx (eV 0) (eC (.int 1))) (xs:=xs.map (qR h)) rfl,Qw]
   exact e
def tE (e:Et):IIS:=(e.f,e.l,e.z)
theorem zUP {α:Type}{le:α->α->Prop}(anti:∀a b,le a b->le b a->a=b):∀ {l m:List α},l.Perm m->l.Pairwise le->m.Pairwise le->l=m
 | [],m,h,_,_=>List.Perm.nil_eq h
 | a::r,m,h,h1,h2=>by
   cases m with
   | nil=>exact absurd h.length_eq (by simp)
   | cons b t =>
     obtain⟨p1,p2⟩:=Rr.mp h1
     obtain⟨q1,q2⟩:=Rr.mp h2
     have e:a=b:=by
       rcases Qf.mp (h.subset (Qv (a:=a) (l:=r))) with e | e
       · exact e
       · rcases Qf.mp (h.symm.subset (Qv (a:=b) (l:=t))) with e' | e'
         · exact e'.symm
         · exact anti _ _ (p1 b e') (q1 a e)
     subst e
     rw[zUP anti (List.Perm.cons_inv h) p2 q2]
theorem zR4 {a b:IIS}(h1:ltT a b=false)(h2:ltT b a=false):a=b:=by
 have q1:¬(a.1 < b.1∨(a.1=b.1/\yV a.2 b.2=true)):=fun z=>by rw[mB.mpr z] at h1;cases h1
 have q2:¬(b.1 < a.1∨(b.1=a.1/\yV b.2 a.2=true)):=fun z=>by rw[mB.mpr z] at h2;cases h2
 have e:a.1=b.1:=by lia
 refine Prod.ext e (zXo ?_ ?_)
 · cases z:yV a.2 b.2
   · rfl
   · exact absurd (.inr ⟨e,z⟩) q1
 · cases z:yV b.2 a.2
   · rfl
   · exact absurd (.inr ⟨e.symm,z⟩) q2
theorem zV1 {g:Lf}{ρ:List B}{qs es:List Et}(h:g ρ=some (qs.map dE))(hp:es.Perm qs)(hs:es.Pairwise fun a b=>a.f < b.f)(hl:qs.length<=1000):pR g ρ=some (es.map dE):=by
 have e1:qs.map dE=(qs.map tE).map dT3:=by rw[Tr];rfl
 have e2:es.map dE=(es.map tE).map dT3:=by rw[Tr];rfl
 have e3:gZ (qs.map tE)=es.map tE:=by
   refine zUP (le:=fun a b=>ltT b a=false) (fun a b h1 h2=>zR4 h2 h1) ((zXS _).trans (hp.map tE).symm) (zZ0 _) ?_
   rw[Ek]
   refine hs.imp fun {a b} z=>?_
   cases q:ltT (tE b) (tE a)
   · rfl
   · rw[mB] at q
     have q:b.f < a.f∨(b.f=a.f/\_):=q
     lia
 unfold pR
 rw[h,Qw,e1,aY,Qw,Qt,Qo hl,e3,e2]
theorem zRj {es qs:List Et}(h:Srt es)(hp:es.Perm qs)(nd:(qs.map (·.f)).Nodup):es.Pairwise fun a b=>a.f < b.f:=by
 have nd':(es.map (·.f)).Nodup:=(hp.map (·.f)).nodup_iff.mpr nd
 have:=List.Pairwise.and h (Ek.mp nd')
 refine this.imp fun {a b} z=>?_
 obtain⟨z1,z2⟩:=z
 rcases qH.mp z1 with q | q
 · exact q
 · exact absurd q.1 z2
theorem cA {n:Nat}(hn:4<=n)(h12:n<=300){h:Nat}{xs:List (It h)}{qs:List Et}(H:RtOk n h xs)(hp:(zT h xs).Perm qs)(nd:(qs.map (·.f)).Nodup)(hl:qs.length < 500):yI [stD n ⟨h,xs⟩,.int (n:Int),.lst (qs.map dE)]=some (.bl true):=by
 have hlen:=hp.length_eq
 have hd:=H.deep hn (by lia)
 have up:=zRj H.srt hp nd
 have sh:=gX hn h12 H (by lia)
 have pg:=zZc hn h12 h xs 8 true (by lia) H.len (.inl rfl) H.two H.full
 have fl:=zXc hn h xs 8 H.way (by lia) (by lia)
 have ls:=aC hn H (by lia)
 have en:=dI (zT h xs) (by lia)
 have so:pR (iL (eV 2)) [.fz (stD n ⟨h,xs⟩),.fz (.int (n:Int)),.fz (.lst (qs.map dE)),.fz (shD h xs)]=some ((zT h xs).map dE):=zV1 (rE rfl) hp up (by lia)
 have me:bD "Store" "listed" 1 wY (eV 0) zO [.fz (stD n ⟨h,xs⟩),.fz (.int (n:Int)),.fz (.lst (qs.map dE)),.fz (shD h xs)]=some ((zT h xs).map dE):=by
   unfold bD
   show(if ("Store":Str)="Store"/\([]:List D).length+1=1/\("listed":Str)∉stN then wY [stD n ⟨h,xs⟩] else none)=_
   rw[Qo ⟨rfl,rfl,by decide +kernel⟩,ls]
 show(uI [.fz (stD n ⟨h,xs⟩),.fz (.int (n:Int)),.fz (.lst (qs.map dE)),.no]).bind wH=_
 unfold uI
 refine y9 (d:=shD h xs) ?_ ?_
 · unfold aW
   show(if ("Store":Str)="Store"/\([]:List D).length+1=1/\("shape":Str)∉stN then wT [stD n ⟨h,xs⟩] else none)=_
   rw[Qo ⟨rfl,rfl,by decide +kernel⟩,sh]
 unfold rV
 refine uO ?_ ?_
 · unfold eB2
   rw[(qI rfl rfl rfl).trans pg]
   rfl
 show(sB [.fz (stD n ⟨h,xs⟩),.fz (.int (n:Int)),.fz (.lst (qs.map dE)),.fz (shD h xs)]).bind wH=_
 unfold sB
 rw[uQ]
 have a1:zI 2 xZ (zY (zI 1 kU (zY (eV 3) zO)) (zY (eL (pR (iL (eV 2)))) zO)) [.fz (stD n ⟨h,xs⟩),.fz (.int (n:Int)),.fz (.lst (qs.map dE)),.fz (shD h xs)]=some (.bl true):=(vR ((lR rfl).trans fl) (xS so)).trans en
 have a2:zI 2 xZ (zY (eL (bD "Store" "listed" 1 wY (eV 0) zO)) (zY (eL (pR (iL (eV 2)))) zO)) [.fz (stD n ⟨h,xs⟩),.fz (.int (n:Int)),.fz (.lst (qs.map dE)),.fz (shD h xs)]=some (.bl true):=(vR (xS me) (xS so)).trans en
 unfold zXi tB1
 rw[a1]
 exact a2
theorem zZZ (ns:List Int)(k:Nat):∃c:Int,wF [.lst (ns.map D.int),.int (k:Nat)]=some (.int c):=by
 have hl:(ns.map D.int).length=ns.length:=by simp
 have t1:eB2 gLt (eV 1) (xJ (eV 0)) [.fz (.lst (ns.map D.int)),.fz (.int (k:Nat))]=some (decide ((k:Int) < (ns.length:Nat))):=by rw[←hl];rfl
 by_cases h:(k:Int) < (ns.length:Nat)
 · refine⟨ns.getD k 0,?_⟩
   show(vY [.fz (.lst (ns.map D.int)),.fz (.int (k:Nat))]).bind wH=_
   unfold vY
   rw[zWx (d:=.int (ns.getD k 0)) (by
     unfold sIf
     rw[t1,We h,Qw,Qo rfl]
     unfold yJ eIx
     show((atI (ns.map D.int) (k:Int))).map Out.rt=_
     rw[zWP,nJ ns (k:Int) 0 (by lia) h];rfl)]
   rfl
 · refine⟨0,?_⟩
   show(vY [.fz (.lst (ns.map D.int)),.fz (.int (k:Nat))]).bind wH=_
   unfold vY
   exact uO (by rw[t1,Wq h]) rfl
theorem zYT {i k:Nat}{ρ:List B}{d:D}(h:ρ[i]?=some (.mu d))(hk:cX d=k)(ho:gY i k ρ=true):bX i k ρ=some (ρ.set i (.fz d)):=by
 unfold bX
 rw[h]
 exact Qo ⟨hk,ho⟩
theorem dZ {i k:Nat}{ρ:List B}{d:D}{t:Tf}(h:ρ[i]?=some (.mu d))(hk:cX d=k)(ho:gY i k ρ=true):rD i k t ρ=t (ρ.set i (.fz d)):=by
 unfold rD
 rw[zYT h hk ho];rfl
theorem zVy {i k:Nat}{ρ:List B}{d r:D}{f:Ef}(h:ρ[i]?=some (.mu d))(hk:cX d=k)(ho:gY i k ρ=true)(hf:f (ρ.set i (.fz d))=some r)(hr:jW r=true):fB i k f ρ=some r:=by
 unfold fB
 rw[zYT h hk ho,Qw,hf,Qw,Qo hr]
abbrev Q (a0 a2:D)(es:List Et)(n:Nat)(r:Rt)(ts:List Et)(x6 x7 x8:B):List B:=[.fz a0,.fz (.int (n:Int)),.fz a2,.fz (.lst (es.map dE)),.mu (stD n r),.ow (ts.map dE),x6,x7,x8]
theorem zUC {ts:List Et}{q:Nat}(hq:q < ts.length)(nd:(ts.map (·.f)).Nodup):ts.filter (fun a => !xO a (ts.getD q zE))=ts.eraseIdx q:=by
 have sp:=zZq (xs:=ts) (i:=q) (d:=zE) hq
 rw[Tc]
 generalize ts.getD q zE=e at *
 generalize ts.take q=L at *
 generalize ts.drop (q+1)=R at *
 subst sp
 rw[Eu,Wo,Tk] at nd
 obtain⟨n1,n2,n3⟩:=nd
 obtain⟨n4,n5⟩:=Yy.mp n2
 rw[Ig,Yv (by rw[uZ.mpr rfl];simp),Yo.mpr fun a ha=>?_,Yo.mpr fun a ha=>?_]
 · cases z:xO a e
   · rfl
   · rw[uZ.mp z] at ha
     exact absurd (Yp ha) n4
 · cases z:xO a e
   · rfl
   · rw[uZ.mp z] at ha
     exact absurd rfl (n3 _ (Yp ha) _ Qv)
theorem zWp {α β:Type}(f:α->β)(l:List α)(q:Nat):(l.map f).eraseIdx q=(l.eraseIdx q).map f:=by
 rw[Tc,Tc,Eu,Rz,Ta]
theorem zV5 {n:Nat}(hn:4<=n){h:Nat}{xs:List (It h)}(H:RtOk n h xs)(he:zT h xs=[]):(⟨h,xs⟩:Rt)=⟨0,[]⟩:=by
 cases h with
 | zero=>rw[wW] at he;subst he;rfl
 | succ h =>
   have h2:2<=xs.length:=by rcases H.two with z | z;cases z;exact z
   obtain⟨x,hx⟩:=List.exists_mem_of_length_pos (l:=xs) (by lia)
   have l1:=nV hn (h+1) x (H.full x hx)
   have l2:=(uG (f:=wN (h+1)) hx).length_le
   have l3:(xs.flatMap (wN (h+1))).length=0:=by rw[show xs.flatMap (wN (h+1))=[] from he];rfl
   have:=Nat.one_le_two_pow (n:=h+1)
   lia
theorem zR7 {t u:Tf}{ρ:List B}{b:Bool}(h1:t ρ=some b)(h2:u ρ=some false):sT t u ρ=some false:=by
 unfold sT
 rw[h1]
 cases b<;>simp[h2]
section
variable {a0 a2:D} {es:List Et} {n:Nat} (hn:4<=n) (h12:n<=300)
include hn h12
theorem zZu {h:Nat}{xs:List (It h)}{ts:List Et}{x6 x7 x8:B}(H:RtOk n h xs)(hp:(zT h xs).Perm ts)(nd:(ts.map (·.f)).Nodup)(hl:ts.length < 500):rD 4 1 (dR 5 (z6 (tB1 (zI 3 yI (zY (eV 4) (zY (eV 1) (zY (eV 5) zO))))))) (Q a0 a2 es n ⟨h,xs⟩ ts x6 x7 x8)=some false /\
   rD 4 1 (dR 5 (sT (eB2 gEq (tH (xJ (eV 5)) (eC (.int 6))) (eC (.int 0))) (z6 (tB1 (zI 3 yI (zY (eV 4) (zY (eV 1) (zY (eV 5) zO)))))))) (Q a0 a2 es n ⟨h,xs⟩ ts x6 x7 x8)=some false:=by
 have st:=cA hn h12 H hp nd hl
 have t1:z6 (tB1 (zI 3 yI (zY (eV 4) (zY (eV 1) (zY (eV 5) zO))))) [.fz a0,.fz (.int (n:Int)),.fz a2,.fz (.lst (es.map dE)),.fz (stD n ⟨h,xs⟩),.fz (.lst (ts.map dE)),x6,x7,x8]=some false:=by
   unfold z6 tB1
   rw[(qI rfl rfl rfl).trans st]
   rfl
 refine⟨?_,?_⟩
 · rw[dZ (k:=1) (d:=stD n ⟨h,xs⟩) rfl rfl rfl]
   exact t1
 · rw[dZ (k:=1) (d:=stD n ⟨h,xs⟩) rfl rfl rfl]
   refine Eq.trans (b:=sT (eB2 gEq (tH (xJ (eV 5)) (eC (.int 6))) (eC (.int 0))) (z6 (tB1 (zI 3 yI (zY (eV 4) (zY (eV 1) (zY (eV 5) zO)))))) [.fz a0,.fz (.int (n:Int)),.fz a2,.fz (.lst (es.map dE)),.fz (stD n ⟨h,xs⟩),.fz (.lst (ts.map dE)),x6,x7,x8]) rfl ?_
   exact zR7 (iX (zA rfl rfl rfl)) t1
theorem zVn {h:Nat}{xs:List (It h)}{ts:List Et}{x6 x7 x8:B}{g:Lf}(H:RtOk n h xs)(hp:(zT h xs).Perm ts)(e:Et)(nd:∀a∈ts,a.f≠e.f)(hl:ts.length < 499)(hg:g (Q a0 a2 es n ⟨h,xs⟩ ts x6 x7 x8)=some [dE e]) :
   ∃h' xs',RtOk n h' xs'/\(zT h' xs').Perm (e::ts)/\iQ 4 "Store" "put" 1 w4 g (Q a0 a2 es n ⟨h,xs⟩ ts x6 x7 x8)=some (.nx (Q a0 a2 es n ⟨h',xs'⟩ ts x6 x7 x8)):=by
 have hlen:=hp.length_eq
 obtain⟨h1,xs1,H1,P1,d1⟩:=zWm hn h12 H e (fun a ha z=>nd a (hp.subset ha) (Ep Prod.fst z)) (by lia)
 refine⟨h1,xs1,H1,P1.trans (hp.cons e),?_⟩
 unfold iQ
 rw[hg]
 show(if ("Store":Str)="Store"/\([dE e]:List D).length=1/\("put":Str)∉stN/\true=true then(w4 stN [.int (n:Int),rtD ⟨h,xs⟩] [dE e]).map _ else none)=_
 rw[Qo ⟨rfl,rfl,by decide +kernel,rfl⟩,d1]
 rfl
theorem zWT {x7 x8:B}:∀(l ts:List Et) (h:Nat) (xs:List (It h)) (x6:B),RtOk n h xs->(zT h xs).Perm ts->((ts++l).map (·.f)).Nodup->ts.length+l.length < 490 ->
   ∃h' xs' y6,RtOk n h' xs'/\(zT h' xs').Perm (ts++l)/\nZ (gN 6) jI (l.map dE) (Q a0 a2 es n ⟨h,xs⟩ ts x6 x7 x8)=some (.nx (Q a0 a2 es n ⟨h',xs'⟩ (ts++l) y6 x7 x8))
 | [],ts,h,xs,x6,H,hp,_,_=>⟨h,xs,x6,H,by rw[Er];exact hp,by rw[Er];rfl⟩
 | e::l,ts,h,xs,x6,H,hp,nd,hl=>by
   rw[Qh] at hl
   have ea:ts++e::l=(ts++[e])++l:=by rw[Ql];rfl
   have nd1:∀a∈ts,a.f≠e.f:=by
     rw[Eu,Wo,Tk] at nd
     exact fun a ha=>nd.2.2 _ (Yp ha) _ Qv
   have nd2:((ts++[e]).map (·.f)).Nodup:=by
     rw[ea,Eu,Tk] at nd
     exact nd.1
   obtain⟨h1,xs1,H1,P1,d1⟩:=zVn (a0:=a0) (a2:=a2) (es:=es) (x6:=.fz (dE e)) (x7:=x7) (x8:=x8) (g:=zY (eV 6) zO) hn h12 H hp e nd1 (by lia) rfl
   have P2:(zT h1 xs1).Perm (ts++[e]):=P1.trans (Ob e ts).symm
   obtain⟨h',xs',y6,H',P',e'⟩:=zWT (x7:=x7) (x8:=x8) l (ts++[e]) h1 xs1 (.fz (dE e)) H1 P2 (by rw[←ea];exact nd) (by rw[Qe];simp;lia)
   refine⟨h',xs',y6,H',by rw[ea];exact P',?_⟩
   rw[Wo,mD (ρ1:=Q a0 a2 es n ⟨h,xs⟩ ts (.fz (dE e)) x7 x8) (ρ2:=Q a0 a2 es n ⟨h1,xs1⟩ (ts++[e]) (.fz (dE e)) x7 x8) rfl ?_,ea]
   · exact e'
   · unfold jI
     rw[tS d1]
     unfold dQ
     rw[tS (ρ':=Q a0 a2 es n ⟨h1,xs1⟩ (ts++[e]) (.fz (dE e)) x7 x8) (by
       unfold zZs
       show(if (ts.map dE).length < lim then some (Out.nx [.fz a0,.fz (.int (n:Int)),.fz a2,.fz (.lst (es.map dE)),.mu (stD n ⟨h1,xs1⟩),.ow (ts.map dE++[dE e]),.fz (dE e),x7,x8]) else none)=_
       rw[Qo (by rw[Qt];show _ < 100000;lia)]
       show _=some (Out.nx [.fz a0,.fz (.int (n:Int)),.fz a2,.fz (.lst (es.map dE)),.mu (stD n ⟨h1,xs1⟩),.ow ((ts++[e]).map dE),.fz (dE e),x7,x8])
       rw[Eu]
       rfl)]
     unfold zYt
     exact(nR (zZu hn h12 H1 P2 nd2 (by rw[Qe];simp;lia)).2).trans rfl
theorem zTJ {h:Nat}{xs:List (It h)}{ts:List Et}{x6 x7 x8:B}{fi:Ef}{i:Int}(H:RtOk n h xs)(hp:(zT h xs).Perm ts)(nd:(ts.map (·.f)).Nodup)(hl:ts.length < 490)(i0:0<=i)(i1:i < ts.length)(hi:fi (Q a0 a2 es n ⟨h,xs⟩ ts x6 x7 x8)=some (.int i)) :
   ∃h' xs' ts',RtOk n h' xs'/\(zT h' xs').Perm ts'/\(ts'.map (·.f)).Nodup/\ts'.length+1=ts.length/\nO 4 5 "Store" "take" vI fi (Q a0 a2 es n ⟨h,xs⟩ ts x6 x7 x8)=some (.nx (Q a0 a2 es n ⟨h',xs'⟩ ts' x6 x7 x8)):=by
 have hlen:=hp.length_eq
 have hq:i.toNat < ts.length:=by lia
 have he:ts.getD i.toNat zE∈ts:=by simp[hq]
 obtain⟨h1,xs1,H1,E1,d1⟩:=zXx hn h12 H (ts.getD i.toNat zE) (hp.symm.subset he) (by lia)
 have sub:(ts.eraseIdx i.toNat).Sublist ts:=List.eraseIdx_sublist ..
 refine⟨h1,xs1,ts.eraseIdx i.toNat,H1,by rw[E1,←zUC hq nd];exact hp.filter _,(sub.map _).nodup nd,by rw[List.length_eraseIdx_of_lt hq];lia,?_⟩
 have hx:ixN (ts.map dE).length i=some i.toNat:=by
   rw[Qt]
   unfold ixN
   rw[Qo i0,Qo i1]
 have hy:(ts.map dE)[i.toNat]?=some (dE (ts.getD i.toNat zE)):=by simp[hq]
 unfold nO
 rw[hi]
 show(if (ts.map dE).length<=lim/\("Store":Str)="Store"/\("take":Str)∉stN then(ixN (ts.map dE).length i).bind _ else none)=_
 rw[Qo ⟨by rw[Qt];show _<=100000;lia,rfl,by decide +kernel⟩,hx,Qw,hy,Qw]
 show(vI stN [.int (n:Int),rtD ⟨h,xs⟩] [dE (ts.getD i.toNat zE)]).map _=_
 rw[d1]
 show some (Out.nx [.fz a0,.fz (.int (n:Int)),.fz a2,.fz (.lst (es.map dE)),.mu (stD n ⟨h1,xs1⟩),.ow ((ts.map dE).eraseIdx i.toNat),x6,x7,x8])=_
 rw[zWp]
end
theorem zUW (ns:List Int)(i:Int)(h:0<=i):∃c:Int,wF [.lst (ns.map D.int),.int i]=some (.int c):=by
 obtain⟨c,hc⟩:=zZZ ns i.toNat
 exact⟨c,by rw[←hc,show((i.toNat:Nat):Int)=i by lia]⟩
theorem zTZ {fa fb:Ef}{ρ:List B}{i j:Int}(h1:fa ρ=some (.int i))(h2:fb ρ=some (.int j)):zYx fa fb ρ=some (.int (if j > i then j else i)):=by unfold zYx;rw[h1,h2];rfl
theorem zU6 (ns:List Int)(h:ns.length<=63):bK [.lst (ns.map .int)]=some (.bl true):=by
 obtain⟨v0,c0⟩:=zZZ ns 0
 obtain⟨v1,c1⟩:=zZZ ns 1
 obtain⟨n,hn⟩:∃n:Nat,(n:Int)=4+v0 % 9:=⟨(4+v0 % 9).toNat,by lia⟩
 have n4:4<=n:=by lia
 have n12:n<=300:=by lia
 have mx:=qA v1 2 (by decide) (by decide)
 obtain⟨m,hm⟩:∃m:Nat,(m:Int)=40+cP v1 2 % 80:=⟨(40+cP v1 2 % 80).toNat,by lia⟩
 have m1:40<=m:=by lia
 have m2:m < 120:=by lia
 obtain⟨es,hes,hup,hrow⟩:=zRw v1 m (by lia)
 have hnd:(es.map (·.f)).Nodup:=Ek.mpr (hup.imp fun {a b} z=>Int.ne_of_lt z)
 obtain⟨l,hlp,htu⟩:=zVV es (by lia) (v0 / 9 % 3)
 have hll:=hlp.length_eq
 have lnd:(l.map (·.f)).Nodup:=(hlp.map (·.f)).nodup_iff.mpr hnd
 have cell:∀i:Int,0<=i->∃c:Int,wF [.lst (ns.map .int),.int i]=some (.int c):=zUW ns
 have lenA:∀ρ:List B,eV 0 ρ=some (.lst (ns.map .int))->xJ (eV 0) ρ=some (.int (ns.length:Int)):=fun ρ hρ=>by
   unfold xJ
   rw[hρ]
   show some (D.int ((ns.map D.int).length:Int))=_
   rw[Qt]
 generalize D.lst (ns.map .int)=A at c0 c1 cell lenA
 obtain⟨h1,xs1,y6,H1,P1,e1⟩:=zWT (a0:=A) (a2:=.int v1) (es:=es) (x7:=.no) (x8:=.no) n4 n12 l [] 0 [] .no .nil (.refl _) lnd (by simp;lia)
 rw[Uk] at P1 e1
 obtain⟨ρ',e2,h2,xs2,ts2,y7,y8,H2,P2,nd2,l2,rfl⟩:=mG (g:=gN 7) (body:=jK) (P:=fun i ρ=>∃(hh:Nat) (xs:List (It hh)) (ts:List Et) (y7 y8:B),RtOk n hh xs/\(zT hh xs).Perm ts/\(ts.map (·.f)).Nodup/\ts.length+i=m/\ρ=Q A (.int v1) es n ⟨hh,xs⟩ ts y6 y7 y8) (vK 0 m) 0 (fun i d hd ρ hρ=>by
     obtain⟨hi,rfl⟩:=kD hd
     obtain⟨hh,xs,ts,y7,y8,H,P,nd,hts,rfl⟩:=hρ
     generalize hmm:(if (if ((ns.length:Int) - 2) < 61 then((ns.length:Int) - 2) else 61) > 1 then(if ((ns.length:Int) - 2) < 61 then((ns.length:Int) - 2) else 61) else 1)=mm
     have mp:0 < mm:=by rw[←hmm];split<;>lia
     obtain⟨c,hc⟩:=cell (2+(0+(i:Int)) % mm) (by have:=Int.emod_nonneg (0+(i:Int)) (Int.ne_of_gt mp);lia)
     have mk:=qA c (200+(0+(i:Int))) (by lia) (by lia)
     have idx:∀y7,tH (zI 2 xY (zY (eV 8) (zY (qV (eC (.int 200)) (eV 7)) zO))) (zYR 5) (Q A (.int v1) es n ⟨hh,xs⟩ ts y7 (.fz (.int (0+(i:Int)))) (.fz (.int c)))=some (.int (cP c (200+(0+(i:Int))) % (ts.length:Int))):=fun y7=>by
       refine zA ((vR rfl (zA rfl rfl rfl)).trans mk) ?_ (We (by show(0:Int) < (ts.length:Int);lia))
       show some (D.int ((ts.map dE).length:Int))=_
       rw[Qt]
     obtain⟨h3,xs3,ts3,H3,P3,nd3,l3,e3⟩:=zTJ n4 n12 H P nd (by lia) (Int.emod_nonneg _ (by lia)) (Int.emod_lt_of_pos _ (by lia)) (idx y6)
     refine⟨Q A (.int v1) es n ⟨hh,xs⟩ ts y6 (.fz (.int (0+(i:Int)))) y8,Q A (.int v1) es n ⟨h3,xs3⟩ ts3 y6 (.fz (.int (0+(i:Int)))) (.fz (.int c)),rfl,?_,h3,xs3,ts3,_,_,H3,P3,nd3,by lia,rfl⟩
     unfold jK
     rw[bS (d:=.int c) ((vR rfl (zA rfl (zA rfl ((zTZ rfl (zTW rfl (zA (lenA _ rfl) rfl rfl))).trans (by rw[hmm])) (We mp)) rfl)).trans hc)]
     show jN (Q A (.int v1) es n ⟨hh,xs⟩ ts y6 (.fz (.int (0+(i:Int)))) (.fz (.int c)))=_
     unfold jN
     rw[tS e3]
     unfold zYE
     exact(nR (zZu n4 n12 H3 P3 nd3 (by lia)).2).trans rfl) (Q A (.int v1) es n ⟨h1,xs1⟩ l y6 .no .no) ⟨h1,xs1,l,_,_,H1,P1,lnd,by lia,rfl⟩
 have hu:(vK 0 m).length=m:=by simp[vK]
 rw[hu] at l2
 have ht2:ts2=[]:=Td.mp (by lia)
 subst ht2
 have hem:=zV5 n4 H2 (List.perm_nil.mp P2)
 have hst:dB [.int (n:Int)]=some [.int (n:Int),pgD 0 []]:=by
   show zYz [.no,.fz (.int (n:Int))]=_
   exact zK rfl (zK (mC (h:=0) (xs:=[]) rfl (xS (xE rfl (by decide))) (by decide) fun _ _=>trivial) rfl)
 show(fY [.fz A,.no,.no,.no,.no,.no,.no,.no,.no]).bind wH=_
 unfold fY
 refine y9 (d:=.int (n:Int)) (by rw[hn];exact zA rfl (zA ((vR rfl rfl).trans c0) rfl rfl) rfl) ?_
 unfold zZU
 refine y9 (d:=.int v1) ((vR rfl rfl).trans c1) ?_
 unfold zZH
 refine y9 (d:=.lst (es.map dE)) ((vR (y:=.int (m:Int)) rfl (by rw[hm];exact zA rfl (zA ((vR rfl rfl).trans mx) rfl rfl) rfl)).trans hrow) ?_
 unfold aO
 refine yT (ρ':=[.fz A,.fz (.int (n:Int)),.fz (.int v1),.fz (.lst (es.map dE)),.mu (stD n ⟨0,[]⟩),.no,.no,.no,.no]) ?_ ?_
 · unfold zZS
   show(zY _ zO [.fz A,.fz (.int (n:Int)),.fz (.int v1),.fz (.lst (es.map dE)),.no,.no,.no,.no,.no]).bind _=_
   rw[zK (d:=.int (n:Int)) rfl (show zO _=some [] from rfl),Qw,Qo (show([.int (n:Int)]:List D).length=1 from rfl),hst,Qw,Qo (show(["size","root"]:List Str).length=([.int (n:Int),pgD 0 []]:List D).length from rfl)]
   rfl
 unfold zZF
 refine yT (ρ':=Q A (.int v1) es n ⟨0,[]⟩ [] .no .no .no) ?_ ?_
 · unfold nW
   rw[xE (show zO _=some [] from rfl) (by decide)]
   rfl
 unfold zZL
 refine yT (ρ':=Q A (.int v1) es n ⟨h1,xs1⟩ l y6 .no .no) ?_ ?_
 · unfold rY
   rw[rE ((vR rfl (zA (zA ((vR rfl rfl).trans c0) rfl rfl) rfl rfl)).trans htu),Qw]
   exact e1
 unfold aG
 refine uO (zZu n4 n12 H1 P1 lnd (by lia)).1 ?_
 unfold zZv
 refine yT (ρ':=Q A (.int v1) es n ⟨h2,xs2⟩ [] y6 y7 y8) ?_ ?_
 · unfold rY
   have src:iR (xJ (eV 3)) (Q A (.int v1) es n ⟨h1,xs1⟩ l y6 .no .no)=some (vK 0 m):=by
     rw[zVx (m:=(m:Int)) (by
       show some (D.int ((es.map dE).length:Int))=_
       rw[Qt,hes]) (by lia) (by lia)]
     rfl
   rw[src,Qw]
   exact e2
 rw[hem]
 unfold zZ3
 refine uO ?_ ?_
 · rw[dZ (k:=1) (d:=stD n ⟨0,[]⟩) rfl rfl rfl]
   unfold eB2 aW
   show((if ("Store":Str)="Store"/\([]:List D).length+1=1/\("shape":Str)∉stN then wT [stD n ⟨0,[]⟩] else none).bind _)=_
   rw[Qo ⟨rfl,rfl,by decide +kernel⟩,gX n4 n12 .nil (show 0 < 500 by decide)]
   rfl
 unfold aJ
 have a0:=zSy (es:=es) (i:=0) (by decide) (by lia)
 obtain⟨h4,xs4,H4,P4,d4⟩:=zVn (a0:=A) (a2:=.int v1) (es:=es) (x6:=y6) (x7:=y7) (x8:=y8) (ts:=[]) (g:=zY (eIx (eV 3) (eC (.int 0))) zO) n4 n12 .nil (.refl _) (es.getD (0:Int).toNat zE) (fun _ hz=>nomatch hz) (by decide) (zK ((vN rfl rfl).trans a0) rfl)
 refine yT d4 ?_
 unfold zYJ
 rw[uQ]
 refine zVy (k:=1) (d:=stD n ⟨h4,xs4⟩) rfl rfl rfl ?_ rfl
 refine(qI rfl rfl (xS (xE (zK ((vN rfl rfl).trans a0) rfl) (by simp)))).trans ?_
 exact cA (qs:=[es.getD (0:Int).toNat zE]) n4 n12 H4 P4 (List.pairwise_singleton _ _) (show 1 < 500 by decide)
end My
open PySem PySem.W PyProof.Rows
set_option maxRecDepth 100000 in
set_option maxHeartbeats 0 in
theorem PySem.Challenge.cw_curveyard_k34_filled_and_emptied_holds : PySem.Challenge.rw_curveyard_k34_filled_and_emptied.Holds := by
 w_on
 refine PySem.W.holds_law My.zTm fun said=>?_
 refine PySem.W.holds_open (r:=PySem.Challenge.rw_curveyard_k34_filled_and_emptied.row) (q:=My.mK) (loose:=My.loose) (XP:=PySem.W.XL My.mK [])
   (YP:=PySem.W.InK My.aB) My.zTu (PySem.W.InK.of My.zYV) PySem.W.InK.keeps
   (fun s e=>PySem.W.xl_of s (Bool.and_eq_true_iff.mp e).1) PySem.W.XL.keeps (by rfl) (by rfl) (by rfl)
   (fun s e=>PySem.W.recFacts_of (Bool.and_eq_true_iff.mp e).2) (by rfl) (by assumption) (by decide +kernel)
   ⟨rfl,rfl,rfl,rfl,rfl,by decide +kernel⟩ ?hw ?hc
 case hw=>w_witness2
 k_fill
 refine L2.zTE (l:=PySem.Challenge.rw_curveyard_k34_filled_and_emptied) (n:=63) (k:=17) (x:="_law_script") (CX:=fun _=>L2.CX0) (sp:=fun w=>L2.spF _ 1 My.bK) rfl (by decide) rfl ⟨rfl,by decide,by decide⟩ (fun w h Y=>Y) ?F (fun w H a ns hl hO hS=>My.zRI hS (My.zU6 ns hl)) (fun _ _ _ _ _ z=>z)
 case F =>
   intro w mg fa h KX G hmg
   refine' My.zR2 KX G hmg ?g0 ?g1 ?g2 ?g3 ?g4 ?g5 ?g6 ?g7 ?g8 ?g9 ?g11 ?g13 ?g14 ?g15 ?g16 ?g17 ?g18 ?g19 ?g21 ?g22 ?g24 ?ca0 ?ci0 ?cn0 ?cl0 ?cc0 ?ck0 ?cpg0 ?chd0 ?cpo0 ?csa0 ?cmk0 ?ckc0 ?cf0_leaf ?cf0_leasts ?cf0_most ?cf0_things ?ca1 ?ci1 ?cn1 ?cl1 ?cc1 ?ck1 ?cpg1 ?chd1 ?cpo1 ?csa1 ?cmk1 ?ckc1 ?cf1_root ?cf1_size ?a10 ?n10 ?l10 ?c10 ?k10 ?a12 ?n12 ?l12 ?c12 ?k12 ?a20 ?n20 ?l20 ?c20 ?k20 ?a23 ?n23 ?l23 ?c23 ?k23 ?z_bool ?z_enumerate ?z_int ?z_isinstance ?z_len ?z_list ?z_max ?z_min ?z_range ?z_reversed ?z_sorted ?z_str ?z_tuple ?z_zip
   all_goals (try exact⟨_,_,_,_,_,_,_,_,_,_,by k_is,by k_is,by k_is,by k_is⟩)
   all_goals (try k_is)

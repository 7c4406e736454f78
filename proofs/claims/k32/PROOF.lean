import PyProof.Rows.All
import OpenK.KLine
import KE.KItem
import Wide.Once
import Wide.FinOn
import Lean
import PyProof.EqAt
import PyProof.EqKinds
import PyProof.TupleCall
import KE.KDictList
import KE.KSortAsk
import PyProof.TupleKey
import KE.KIntText
import KE.IntTextLaws
import OpenK.KOwn
import KE.KIsAll
import PyProof.InstStoreFacts
import PyProof.MaxThree
import PyProof.WalkInts
import PyProof.MinMaxWalk
import KE.KSortTup
import PyProof.Rows.SortRuns
import KE.KRevIter
import PyProof.ListRange
import KE.RegMulBits
import PyProof.Rows.SumAny
import PyProof.Rows.RuleN_abs
import Wide.Seal
import PyProof.FactsAll.bool_1
import PyProof.DictRoadsH
import PyProof.Rows.CallKwBuiltin
import PyProof.ZipIter
import PyProof.RaisesMany
import PyProof.RulesAs
import KE.KTryMore
import PyProof.ReprRoads
import PyProof.ReprLen
import OpenK.KTop
import PyProof.FString5
import PyProof.StrCalls
import PyProof.AutoSeq1
import PySem.Challenge.RW_curveyard_k32_branches_tell
set_option Elab.async false
set_option Elab.async false
set_option linter.all false
set_option maxRecDepth 100000
set_option maxRecDepth 100000
noncomputable section
section
open PySem PySem.Spec PyProof.Rows
def Qq:=@Option.bind_eq_some_iff
def Qw:=@Option.bind_some
def Qe:=@wpAny_bind
def Qr:=@List.length_append
def Qt:=@Option.map_eq_some_iff
def Qy:=@Heap.get?_push_of_some
def Qu:=@List.length_map
def Qi:=@if_pos
def Qo:=@List.size_toArray
def Qp:=@Nat.le_refl
def Qa:=@if_neg
def Qs:=@List.length_cons
def Qd:=@List.mem_cons
def Qf:=@wpS_bind
def Qg:=@Heap.lt_size
def Qh:=@List.length_take
def Qj:=@List.mem_cons_of_mem
def Qk:=@List.getElem?_set_ne
def Ql:=@List.map_cons
def Qz:=@decide_eq_true
def Qx:=@wpAny_pure
def Qc:=@List.pairwise_append
def Qv:=@wpS_pure
def Qb:=@List.mem_cons_self
def Qn:=@List.mem_append
def Qm:=@List.append_assoc
def Wq:=@List.mem_singleton
def Ww:=@decide_eq_false
def We:=@List.getElem?_eq_some_iff
def Wr:=@Heap.get?_push_size
def Wt:=@List.getElem?_append_right
def Wy:=@Nat.lt_of_lt_of_le
def Wu:=@Nat.le_trans
def Wi:=@List.length_drop
def Wo:=@List.getElem?_eq_getElem
def Wp:=@List.mem_append_right
def Wa:=@Bool.false_ne_true
def Ws:=@List.getElem?_map
def Wd:=@Bool.false_eq_true
def Wf:=@List.getD_eq_getElem?_getD
def Wg:=@Option.some.inj
def Wh:=@Nat.ne_of_lt
def Wj:=@Array.length_toList
def Wk:=@Array.getElem?_append_right
def Wl:=@List.mem_of_mem_drop
def Wz:=@List.mem_of_mem_take
def Wx:=@Nat.le_of_lt
def Wc:=@List.getElem?_append_left
def Wv:=@Nat.lt_irrefl
def Wb:=@Bool.and_eq_true
def Wn:=@List.take_append_drop
def Wm:=@List.filter_cons
def Ew:=@sizeLine_eq
def Ee:=@Nat.zero_le
def Er:=@wpS_forRange
def Ey:=@List.drop_eq_getElem_cons
def Eu:=@Heap.get?_update_ne
def Ei:=@List.take_sublist
def Eo:=@List.perm_append_comm
def Ep:=@congrArg
def Ea:=@List.append_nil
def Es:=@List.getElem?_replicate
def Ed:=@List.take_of_length_le
def Eg:=@List.drop_eq_nil_of_le
def Eh:=@PySem.mem_of_lookup
def Ej:=@decide_eq_true_eq
def Ek:=@Paired.length
def El:=@PassesOwn.never
def Ez:=@List.zip_cons_cons
def Ex:=@wpS_mono
def Ec:=@List.lookup_cons
def Ev:=@Array.toList_inj
def Eb:=@List.mem_flatMap
def En:=@wpAny_holding
def Em:=@List.pairwise_map
def Rq:=@List.length_range
def Rw:=@List.nodup_cons
def Re:=@List.getElem?_set_self
def Rr:=@Heap.get?_update_other
def Ry:=@Array.getElem?_append_left
def Ru:=@wpAny_call_entry
def Ri:=@List.not_mem_nil
def Ro:=@List.pairwise_cons
def Rp:=@List.map_map
def Ra:=@List.pairwise_iff_getElem
def Rs:=@Around.under_plainId
def Rf:=@Option.isSome_iff_exists
def Rg:=@Option.map_some
def Rh:=@beq_eq_false_iff_ne
def Rj:=@if_false
def Rk:=@List.replicate_succ
def Rl:=@List.getElem?_cons_succ
def Rz:=@wpAny_Call_Name_kw
def Rx:=@Array.ext_getElem?
def Rc:=@List.getElem?_take
def Rv:=@List.getElem?_drop
def Rb:=@wpAny_passesOwn
def Rm:=@PyProof.Rows.callWith_type1
def Tq:=@List.find?_cons
def Tw:=@List.length_filter_le
def Te:=@Heap.get?_update_self
def Tr:=@Nat.lt_or_ge
def Tt:=@List.mem_map
def Tu:=@List.map_append
def Ti:=@wpAny_truthy_bool
def To:=@wpS_modify
def Tp:=@listUpdate_at
def Ta:=@List.getElem_mem
def Ts:=@wpAny_rule
def Td:=@tupleKind_room_in1
def Tg:=@Bool.or_eq_true
def Th:=@PySem.W.kia_one
def Tj:=@wpAny_getItem_str_slice
def Tk:=@List.map_take
def Tl:=@Nat.min_eq_left
def Tz:=@codeAny_builtin
def Tx:=@List.filter_cons_of_pos
def Tc:=@PySem.F.plainAttrs_list
def Tv:=@Int.emod_nonneg
def Tb:=@Array.getElem?_eq_none
def Tn:=@List.drop_of_length_le
def Yq:=@List.getElem?_set
def Yw:=@List.flatten_cons
def Ye:=@List.flatMap_cons
def Yr:=@List.cons_append
def Yt:=@List.mem_append_left
def Yy:=@List.range_eq_range'
def Yu:=@List.map_drop
def Yi:=@plainId_quiet
def Yo:=@wpAny_mono
def Yp:=@List.mem_filter
def Ya:=@Nat.le_succ
def Ys:=@List.length_zip
def Yd:=@List.nil_append
def Yf:=@List.mem_map_of_mem
def Yg:=@Heap.size_push
def Yh:=@wpAny_tryCatch
def Yj:=@wpAny_newObj_type
def Yk:=@wpS_get
def Yl:=@wpAny_letGo
def Yz:=@seqEpoch_at
def Yx:=@wpAny_newList
def Yc:=@List.eraseIdx_cons_succ
def Yv:=@List.filter_cons_of_neg
def Yn:=@List.length_eq_zero_iff
def Ym:=@Nat.lt_succ_self
def Uq:=@Array.toList_map
def Uw:=@wpAny_execs_nil
def Ue:=@Bool.eq_iff_iff
def Ur:=@Nat.le_of_eq
def Ut:=@codeAny_mono
def Uy:=@List.length_replicate
def Uu:=@if_true
def Ui:=@List.length_singleton
def Uo:=@List.length_set
def Up:=@post_val_or_str
def Ua:=@Txt.slice_le
def Us:=@List.getElem?_toArray
def Ud:=@get?_update_seq
def Ug:=@wpAny_updateSeq
def Uh:=@beq_iff_eq
def Uj:=@or_false
def Uk:=@List.mem_of_getElem?
def Ul:=@Obj.data_mapDictKeys
def Uz:=@List.take_take
def Ux:=@wpAny_seqItems
def Uc:=@List.filterMap_cons
def Uv:=@PySem.W.plainGet_of
def Ub:=@getElem?_mirror_all
def Um:=@List.getElem?_range
def Iq:=@List.map_congr_left
def Iw:=@List.filter_eq_self
def Ie:=@List.flatten_append
def Ir:=@List.flatMap_append
def Iy:=@PySem.W.callWith_K
def Iu:=@wpAny_attempt
def Ii:=@wpS_lift
def Ia:=@Nat.eq_zero_or_pos
def Ig:=@List.findIdx?_cons
def Ih:=@wpAny_pyIter_list
def Ij:=@Int.toNat_natCast
def Ik:=@Iff.rfl
def Il:=@Array.size_append
def Ix:=@List.drop_sublist
def Ic:=@Array.toList_eraseIdxIfInBounds
def Iv:=@Nat.not_lt
def Ib:=@bne_self_eq_false
def Im:=@wpAny_dictEntries
def Oq:=@listItems_at
def Ow:=@decide_false
def Oe:=@wpAny_eqBool_int
def Ot:=@wpAny_eqBool_str
def Oy:=@Heap.size_update
def Ou:=@beq_self_eq_true
def Oi:=@List.drop_length
def Oo:=@List.drop_append
def Op:=@List.take_append_of_le_length
def Oa:=@Nat.min_eq_right
def Os:=@List.of_mem_zip
def Od:=@List.length_nil
def Og:=@Array.getD_eq_getD_getElem?
def Oh:=@getElem?_bubble
def Oj:=@SeqAt.EqAt.same
def Ol:=@size_of_entries
def Oz:=@Calls.Name_function_global
def Ox:=@Array.perm_iff_toList_perm
def Oc:=@List.mem_range
def Ov:=@Bool.false_and
def Ob:=@List.take_zero
def On:=@PySem.boot_len
def Om:=@Array.size_map
def Pq:=@List.drop_drop
def Pw:=@wpAny_newTuple
def Pe:=@Array.getElem?_eq_getElem
end
namespace L2
open PySem PySem.Spec PyProof.Rows
def uX (s:Stmt)(j:Nat):Stmt:=match s with
 | .ClassDef _ _ _ body _ _ _ _ _ _ _=>body.getD j (.Pass ⟨0,0,0,0⟩)
 | _=>.Pass ⟨0,0,0,0⟩
def vL (s:Stmt):Arguments:=match s with
 | .FunctionDef _ a _ _ _ _ _ _ _ _=>a
 | _=>{ posonlyargs:=[],args:=[],vararg:=none,kwonlyargs:=[],kw_defaults:=[],kwarg:=none,defaults:=[] }
def xY (s:Stmt):List Stmt:=match s with
 | .FunctionDef _ _ b _ _ _ _ _ _ _=>b
 | _=>[]
def zU (s:Stmt):Scope:=match s with
 | .FunctionDef _ _ _ _ _ _ sc _ _ _=>sc
 | _=>{ kind:=.function,names:=[],isGenerator:=false,isCoroutine:=false }
end L2
namespace My
open PySem L2
def top (i:Nat):Stmt:=PySem.Challenge.pw_curveyard_k32_branches_tell.main.body.getD i (.Pass ⟨0,0,0,0⟩)
end My
namespace My
open PySem PySem.W L2 PyData
abbrev di (l:Array DictEntry)(n:Nat):Obj:=⟨.type "dict",none,.dict l n,#[]⟩
abbrev co (n q:Str)(t1 t2 t3 l a x y z r1 m r2:Nat)(v1 v2 v3:Value)(r3 o t4:Nat):Obj:=⟨.type "code",none,.fields #[.str n t1,.str q t2,.str "/claim/cut.py" t3,.int l 0,.int a 0,.int x 0,.int y 0,.int z 0,.ref r1,.bool true,.int m 0,.ref r2,v1,v2,v3,.ref r3,.int o 0,.int l 0,.str "/claim/cut.py" t4],#[]⟩
abbrev fu (n q:Str)(s:Stmt)(m:Str)(t c:Nat):Obj:=⟨.type "function",none,.func (fnOf n q (vL s) (xY s) (zU s) (.none) (.none) (.none) (.str m t) none (.ref c) (.none)),#[]⟩
abbrev ke (P:Params)(n:Str)(t:Nat)(v:Value):DictEntry:=⟨keyHash P n,.str n t,v⟩
abbrev cl (n:Str)(b r:List Value)(s:Nat)(u:List Value)(l:Array (Option Value)):Obj:=⟨.type "type",none,.cls { name:=n,bases:=b,mro:=r,ns:=s,qualname:=n,hasDict:=true,slotNames:=[],subclasses:=u,abstract:=false,collection:=none,hasDel:=false },l⟩
abbrev gd (t a:Nat):Obj:=⟨.type "getset_descriptor",none,.fields #[.str "__dict__" t,.ref a,.builtin "function.__dict__",.builtin "function.__dict__#set"],#[]⟩
abbrev gw (t a:Nat):Obj:=⟨.type "getset_descriptor",none,.fields #[.str "__weakref__" t,.ref a,.builtin "ExceptionGroup.__weakref__",.none],#[]⟩
def zZb:Params->Frag:=fun P =>
 (nat_lit 3,di #[ke P "__name__" 165 (.str "law_curveyard_k32_branches_tell" 418),ke P "__doc__" 166 .none,ke P "__package__" 167 .none,ke P "__loader__" 168 (.builtin "__main__.__loader__#opaque"),ke P "__spec__" 169 .none,ke P "__annotations__" 170 (.ref 6),ke P "__builtins__" 171 (.ref 4),ke P "__file__" 173 (.str "/claim/cut.py" 172),ke P "__cached__" 174 .none,ke P "_wall" 193 (.ref 21),ke P "YardError" 213 (.ref 31),ke P "Twice" 229 (.ref 44),ke P "NoEntry" 245 (.ref 56),ke P "Page" 277 (.ref 73),ke P "rank" 287 (.ref 84),ke P "way" 293 (.ref 89),ke P "entry_like" 299 (.ref 94),ke P "put_beneath" 310 (.ref 101),ke P "taken_beneath" 316 (.ref 106),ke P "pages_of" 326 (.ref 113),ke P "filled" 332 (.ref 118),ke P "root_of" 340 (.ref 125),ke P "shape_of" 346 (.ref 130),ke P "Store" 417 (.ref 182),ke P "_law_cell" 427 (.ref 193),ke P "_law_mixed" 436 (.ref 200),ke P "_law_word" 455 (.ref 207),ke P "_law_pool" 461 (.ref 212),ke P "_law_entry" 475 (.ref 219),ke P "_law_number" 482 (.ref 226),ke P "_law_entries" 492 (.ref 233),ke P "_law_due" 498 (.ref 238),ke P "_law_deeds" 504 (.ref 243),ke P "_law_done" 512 (.ref 250),ke P "_law_kept" 523 (.ref 257),ke P "_law_flat" 529 (.ref 262),ke P "_law_first_leaf" 536 (.ref 269),ke P "law" 552 (.ref 276)] 38) ::
 (nat_lit 20,co "_wall" "_wall" 187 188 189 1 1 0 0 3 15 181 16 .none (.ref 17) (.ref 18) 19 191 192) ::
 (nat_lit 21,fu "_wall" "_wall" (top 0) "__main__" 164 20) ::
 (nat_lit 30,di #[ke P "__module__" 203 (.str "curveyard.errors" 194),ke P "__firstlineno__" 207 (.int 5 206),ke P "__static_attributes__" 208 (.ref 29),ke P "__weakref__" 210 (.ref 32),ke P "__doc__" 211 .none] 3) ::
 (nat_lit 31,cl "YardError" [.type "ValueError"] [.ref 31,.type "ValueError",.type "Exception",.type "BaseException",.type "object"] 30 [.ref 44,.ref 56] #[some (.ref 22),none,some (.str "YardError" 196),some (.str "YardError" 204),some (.builtin "ValueError.__new__"),some (.bool true)]) ::
 (nat_lit 32,gw 209 31) ::
 (nat_lit 43,di #[ke P "__module__" 221 (.str "curveyard.errors" 194),ke P "__firstlineno__" 225 (.int 7 224),ke P "__static_attributes__" 226 (.ref 42),ke P "__doc__" 227 .none] 2) ::
 (nat_lit 44,cl "Twice" [.ref 31] [.ref 44,.ref 31,.type "ValueError",.type "Exception",.type "BaseException",.type "object"] 43 [] #[some (.ref 35),none,some (.str "Twice" 214),some (.str "Twice" 222),some (.builtin "ValueError.__new__"),some (.bool true)]) ::
 (nat_lit 55,di #[ke P "__module__" 237 (.str "curveyard.errors" 194),ke P "__firstlineno__" 241 (.int 9 240),ke P "__static_attributes__" 242 (.ref 54),ke P "__doc__" 243 .none] 2) ::
 (nat_lit 56,cl "NoEntry" [.ref 31] [.ref 56,.ref 31,.type "ValueError",.type "Exception",.type "BaseException",.type "object"] 55 [] #[some (.ref 47),none,some (.str "NoEntry" 230),some (.str "NoEntry" 238),some (.builtin "ValueError.__new__"),some (.bool true)]) ::
 (nat_lit 69,co "__init__" "Page.__init__" 260 261 262 14 3 0 0 3 66 181 67 .none .none .none 68 263 264) ::
 (nat_lit 70,fu "__init__" "Page.__init__" (uX (top 6) 0) "curveyard.pages" 246 69) ::
 (nat_lit 72,di #[ke P "__module__" 255 (.str "curveyard.pages" 246),ke P "__firstlineno__" 259 (.int 12 258),ke P "__init__" 265 (.ref 70),ke P "__static_attributes__" 270 (.ref 71),ke P "__dict__" 272 (.ref 74),ke P "__weakref__" 274 (.ref 75),ke P "__doc__" 275 .none] 4) ::
 (nat_lit 73,cl "Page" [.type "object"] [.ref 73,.type "object"] 72 [] #[none,none,some (.str "Page" 248),some (.str "Page" 256),some (.builtin "object.__new__"),some (.bool true)]) ::
 (nat_lit 74,gd 271 73) ::
 (nat_lit 75,gw 273 73) ::
 (nat_lit 83,co "rank" "rank" 278 279 280 20 1 0 0 3 78 181 79 .none (.ref 80) (.ref 81) 82 285 286) ::
 (nat_lit 84,fu "rank" "rank" (top 7) "curveyard.pages" 246 83) ::
 (nat_lit 88,co "way" "way" 288 289 290 23 2 0 0 3 85 181 86 .none .none .none 87 291 292) ::
 (nat_lit 89,fu "way" "way" (top 8) "curveyard.pages" 246 88) ::
 (nat_lit 93,co "entry_like" "entry_like" 294 295 296 26 2 0 0 3 90 181 91 .none .none .none 92 297 298) ::
 (nat_lit 94,fu "entry_like" "entry_like" (top 9) "curveyard.pages" 246 93) ::
 (nat_lit 100,co "put_beneath" "put_beneath" 300 301 302 31 3 0 0 3 95 181 96 .none (.ref 97) (.ref 98) 99 308 309) ::
 (nat_lit 101,fu "put_beneath" "put_beneath" (top 10) "curveyard.pages" 246 100) ::
 (nat_lit 105,co "taken_beneath" "taken_beneath" 311 312 313 37 3 0 0 3 102 181 103 .none .none .none 104 314 315) ::
 (nat_lit 106,fu "taken_beneath" "taken_beneath" (top 11) "curveyard.pages" 246 105) ::
 (nat_lit 112,co "pages_of" "pages_of" 317 318 319 43 3 0 0 3 107 181 108 .none (.ref 109) (.ref 110) 111 324 325) ::
 (nat_lit 113,fu "pages_of" "pages_of" (top 12) "curveyard.pages" 246 112) ::
 (nat_lit 117,co "filled" "filled" 327 328 329 50 2 0 0 3 114 181 115 .none .none .none 116 330 331) ::
 (nat_lit 118,fu "filled" "filled" (top 13) "curveyard.pages" 246 117) ::
 (nat_lit 124,co "root_of" "root_of" 333 334 335 59 1 0 0 3 119 181 120 .none (.ref 121) (.ref 122) 123 338 339) ::
 (nat_lit 125,fu "root_of" "root_of" (top 14) "curveyard.pages" 246 124) ::
 (nat_lit 129,co "shape_of" "shape_of" 341 342 343 66 1 0 0 3 126 181 127 .none .none .none 128 344 345) ::
 (nat_lit 130,fu "shape_of" "shape_of" (top 15) "curveyard.pages" 246 129) ::
 (nat_lit 143,co "__init__" "Store.__init__" 361 362 363 73 2 0 0 3 138 181 139 .none (.ref 140) (.ref 141) 142 366 367) ::
 (nat_lit 144,fu "__init__" "Store.__init__" (uX (top 17) 0) "curveyard.store" 347 143) ::
 (nat_lit 150,co "put" "Store.put" 369 370 371 77 2 0 0 3 145 181 146 .none (.ref 147) (.ref 148) 149 374 375) ::
 (nat_lit 151,fu "put" "Store.put" (uX (top 17) 1) "curveyard.store" 347 150) ::
 (nat_lit 157,co "take" "Store.take" 377 378 379 82 2 0 0 3 152 181 153 .none (.ref 154) (.ref 155) 156 382 383) ::
 (nat_lit 158,fu "take" "Store.take" (uX (top 17) 2) "curveyard.store" 347 157) ::
 (nat_lit 164,co "listed" "Store.listed" 385 386 387 87 1 0 0 3 159 181 160 .none (.ref 161) (.ref 162) 163 389 390) ::
 (nat_lit 165,fu "listed" "Store.listed" (uX (top 17) 3) "curveyard.store" 347 164) ::
 (nat_lit 171,co "crossing" "Store.crossing" 392 393 394 90 3 0 0 3 166 181 167 .none (.ref 168) (.ref 169) 170 398 399) ::
 (nat_lit 172,fu "crossing" "Store.crossing" (uX (top 17) 4) "curveyard.store" 347 171) ::
 (nat_lit 178,co "shape" "Store.shape" 401 402 403 93 1 0 0 3 173 181 174 .none (.ref 175) (.ref 176) 177 405 406) ::
 (nat_lit 179,fu "shape" "Store.shape" (uX (top 17) 5) "curveyard.store" 347 178) ::
 (nat_lit 181,di #[ke P "__module__" 356 (.str "curveyard.store" 347),ke P "__firstlineno__" 360 (.int 71 359),ke P "__init__" 368 (.ref 144),ke P "put" 376 (.ref 151),ke P "take" 384 (.ref 158),ke P "listed" 391 (.ref 165),ke P "crossing" 400 (.ref 172),ke P "shape" 407 (.ref 179),ke P "__static_attributes__" 410 (.ref 180),ke P "__dict__" 412 (.ref 183),ke P "__weakref__" 414 (.ref 184),ke P "__doc__" 415 .none] 4) ::
 (nat_lit 182,cl "Store" [.type "object"] [.ref 182,.type "object"] 181 [] #[none,none,some (.str "Store" 349),some (.str "Store" 357),some (.builtin "object.__new__"),some (.bool true)]) ::
 (nat_lit 183,gd 411 182) ::
 (nat_lit 184,gw 413 182) ::
 (nat_lit 192,co "_law_cell" "_law_cell" 420 421 422 96 2 0 0 3 187 181 188 .none (.ref 189) (.ref 190) 191 425 426) ::
 (nat_lit 193,fu "_law_cell" "_law_cell" (top 19) "law_curveyard_k32_branches_tell" 418 192) ::
 (nat_lit 199,co "_law_mixed" "_law_mixed" 428 429 430 100 2 0 0 3 194 181 195 .none (.ref 196) (.ref 197) 198 434 435) ::
 (nat_lit 200,fu "_law_mixed" "_law_mixed" (top 20) "law_curveyard_k32_branches_tell" 418 199) ::
 (nat_lit 206,co "_law_word" "_law_word" 437 438 439 104 2 0 0 3 201 181 202 .none (.ref 203) (.ref 204) 205 453 454) ::
 (nat_lit 207,fu "_law_word" "_law_word" (top 21) "law_curveyard_k32_branches_tell" 418 206) ::
 (nat_lit 211,co "_law_pool" "_law_pool" 456 457 458 122 1 0 0 3 208 181 209 .none .none .none 210 459 460) ::
 (nat_lit 212,fu "_law_pool" "_law_pool" (top 22) "law_curveyard_k32_branches_tell" 418 211) ::
 (nat_lit 218,co "_law_entry" "_law_entry" 462 463 464 125 3 0 0 3 213 181 214 .none (.ref 215) (.ref 216) 217 473 474) ::
 (nat_lit 219,fu "_law_entry" "_law_entry" (top 23) "law_curveyard_k32_branches_tell" 418 218) ::
 (nat_lit 225,co "_law_number" "_law_number" 476 477 478 135 1 0 0 3 220 181 221 .none (.ref 222) (.ref 223) 224 480 481) ::
 (nat_lit 226,fu "_law_number" "_law_number" (top 24) "law_curveyard_k32_branches_tell" 418 225) ::
 (nat_lit 232,co "_law_entries" "_law_entries" 483 484 485 137 2 0 0 3 227 181 228 .none (.ref 229) (.ref 230) 231 490 491) ::
 (nat_lit 233,fu "_law_entries" "_law_entries" (top 25) "law_curveyard_k32_branches_tell" 418 232) ::
 (nat_lit 237,co "_law_due" "_law_due" 493 494 495 147 1 0 0 3 234 181 235 .none .none .none 236 496 497) ::
 (nat_lit 238,fu "_law_due" "_law_due" (top 26) "law_curveyard_k32_branches_tell" 418 237) ::
 (nat_lit 242,co "_law_deeds" "_law_deeds" 499 500 501 149 3 0 0 3 239 181 240 .none .none .none 241 502 503) ::
 (nat_lit 243,fu "_law_deeds" "_law_deeds" (top 27) "law_curveyard_k32_branches_tell" 418 242) ::
 (nat_lit 249,co "_law_done" "_law_done" 505 506 507 158 2 0 0 3 244 181 245 .none (.ref 246) (.ref 247) 248 510 511) ::
 (nat_lit 250,fu "_law_done" "_law_done" (top 28) "law_curveyard_k32_branches_tell" 418 249) ::
 (nat_lit 256,co "_law_kept" "_law_kept" 513 514 515 163 2 0 0 3 251 181 252 .none (.ref 253) (.ref 254) 255 521 522) ::
 (nat_lit 257,fu "_law_kept" "_law_kept" (top 29) "law_curveyard_k32_branches_tell" 418 256) ::
 (nat_lit 261,co "_law_flat" "_law_flat" 524 525 526 169 1 0 0 3 258 181 259 .none .none .none 260 527 528) ::
 (nat_lit 262,fu "_law_flat" "_law_flat" (top 30) "law_curveyard_k32_branches_tell" 418 261) ::
 (nat_lit 268,co "_law_first_leaf" "_law_first_leaf" 530 531 532 181 1 0 0 3 263 181 264 .none (.ref 265) (.ref 266) 267 534 535) ::
 (nat_lit 269,fu "_law_first_leaf" "_law_first_leaf" (top 31) "law_curveyard_k32_branches_tell" 418 268) ::
 (nat_lit 275,co "law" "law" 537 538 539 185 1 0 0 3 270 181 271 .none (.ref 272) (.ref 273) 274 550 551) ::
 (nat_lit 276,fu "law" "law" (top 32) "law_curveyard_k32_branches_tell" 418 275)::[]
def lF:Program:=view PySem.Challenge.pw_curveyard_k32_branches_tell [32]
def loose:List Str:="_wall"::"YardError"::"Twice"::"NoEntry"::"Page"::"rank"::"way"::"entry_like"::"put_beneath"::"taken_beneath"::"pages_of"::"filled"::"root_of"::"shape_of"::"Store"::"_law_cell"::"_law_mixed"::"_law_word"::"_law_pool"::"_law_entry"::"_law_number"::"_law_entries"::"_law_due"::"_law_deeds"::"_law_done"::"_law_kept"::"_law_flat"::"_law_first_leaf"::[]
def zQO:List Addr:=nat_lit 3::nat_lit 20::nat_lit 21::nat_lit 30::nat_lit 31::nat_lit 32::nat_lit 43::nat_lit 44::nat_lit 55::nat_lit 56::nat_lit 69::nat_lit 70::nat_lit 72::nat_lit 73::nat_lit 74::nat_lit 75::nat_lit 83::nat_lit 84::nat_lit 88::nat_lit 89::nat_lit 93::nat_lit 94::nat_lit 100::nat_lit 101::nat_lit 105::nat_lit 106::nat_lit 112::nat_lit 113::nat_lit 117::nat_lit 118::nat_lit 124::nat_lit 125::nat_lit 129::nat_lit 130::nat_lit 143::nat_lit 144::nat_lit 150::nat_lit 151::nat_lit 157::nat_lit 158::nat_lit 164::nat_lit 165::nat_lit 171::nat_lit 172::nat_lit 178::nat_lit 179::nat_lit 181::nat_lit 182::nat_lit 183::nat_lit 184::nat_lit 192::nat_lit 193::nat_lit 199::nat_lit 200::nat_lit 206::nat_lit 207::nat_lit 211::nat_lit 212::nat_lit 218::nat_lit 219::nat_lit 225::nat_lit 226::nat_lit 232::nat_lit 233::nat_lit 237::nat_lit 238::nat_lit 242::nat_lit 243::nat_lit 249::nat_lit 250::nat_lit 256::nat_lit 257::nat_lit 261::nat_lit 262::nat_lit 268::nat_lit 269::nat_lit 275::nat_lit 276::[]
theorem zXV (P:Params):zQO=(zZb P).map (fun x=>x.1):=by kernel_rfl
abbrev hook:Hook:=kHook zZb zQO zXV
abbrev zQM (s:Shared):Bool:=xlAt lF [] s&&recOk (RowW.records PySem.Challenge.rw_curveyard_k32_branches_tell.row.toRowW) s
theorem zTq (w:World):(openEnds treeTable PySem.Challenge.rw_curveyard_k32_branches_tell.row.prog w 4066).map (fun s=>openSeen lF loose (importedModules PySem.Challenge.rw_curveyard_k32_branches_tell.row.prog.main.body) zQM true s)=some (openGood lF loose):=by kernel_rfl
theorem zUq (w:World):(openEnds treeTable PySem.Challenge.rw_curveyard_k32_branches_tell.row.prog w 4066).map hook.obs=some (hook.val w):=by kernel_rfl
theorem zSn {α β γ:Type}{x:Option α}{f:α->β}{g:α->γ}{a:β}{b:γ}(h1:x.map f=some a)(h2:x.map g=some b):x.map (fun s=>(f s,g s))=some (a,b):=by
 cases x with
 | none=>cases h1
 | some s=>cases h1;cases h2;rfl
theorem zSm:LeftO PySem.Challenge.rw_curveyard_k32_branches_tell.row.prog lF loose zQM hook.obs hook.val 4066:=fun w=>zSn (zTq w) (zUq w)
theorem zTM:PySem.Challenge.rw_curveyard_k32_branches_tell.row.wellSaid=true:=by kernel_rfl
theorem zSi:PySem.W.OpenLaw.wellSaid PySem.Challenge.rw_curveyard_k32_branches_tell=true:=by
 unfold PySem.W.OpenLaw.wellSaid
 rw[zTM]
 kernel_rfl
end My
namespace L2
open PySem PySem.Spec PyProof.Rows
abbrev Key:=Sum Int Str
def zZ3:Key->Value->Bool
 | .inl k,v=>Value.isInt k v
 | .inr x,v=>Value.isStrOf x v
def zOq (w:World):Key->Int
 | .inl k=>hashInt k
 | .inr x=>hashStr w x
theorem xH:∀ {k:Key} {v:Value},zZ3 k v=true->(∃i t,k=Sum.inl i/\v=Value.int i t)∨(∃x t,k=Sum.inr x/\v=Value.str x t)
 | .inl i,v,h=>by
   obtain⟨t,e⟩:=Value.isInt_shape (k:=i) (v:=v) h
   exact .inl ⟨i,t,rfl,e⟩
 | .inr x,v,h=>by
   obtain⟨t,e⟩:=Value.isStrOf_shape (x:=x) (v:=v) h
   exact .inr ⟨x,t,rfl,e⟩
theorem zVu (i:Int)(t:Tok):zZ3 (.inl i) (.int i t)=true:=by simp[zZ3,Value.isInt]
theorem zUH (x:Str)(t:Tok):zZ3 (.inr x) (.str x t)=true:=by simp[zZ3,Value.isStrOf]
theorem zQF (a b:Int):decide ((Sum.inl a:Key)=Sum.inl b)=(a==b):=by
 by_cases e:a=b
 · subst e;simp
 · have h:¬(Sum.inl a:Key)=Sum.inl b:=fun q=>e (Sum.inl.inj q)
   rw[Ww h]
   exact(Rh.mpr e).symm
theorem zPK (a b:Str):decide ((Sum.inr a:Key)=Sum.inr b)=decide (a=b):=by
 by_cases e:a=b
 · subst e;simp
 · have h:¬(Sum.inr a:Key)=Sum.inr b:=fun q=>e (Sum.inr.inj q)
   rw[Ww h,Ww e]
theorem zPJ (a:Int)(b:Str):decide ((Sum.inl a:Key)=Sum.inr b)=false:=Ww (fun q=>nomatch q)
theorem zPS (a:Str)(b:Int):decide ((Sum.inr a:Key)=Sum.inl b)=false:=Ww (fun q=>nomatch q)
def xZ (prog:Program)(w:World):PySem.KeyKind prog w Key where
 is:=zZ3
 hash:=zOq w
 inj:=fun v a b ha hb=>by
   rcases xH ha with⟨i,t,rfl,rfl⟩ | ⟨x,t,rfl,rfl⟩
   · rcases xH hb with⟨j,u,rfl,e⟩ | ⟨y,u,rfl,e⟩
     · injection e with e1 _;rw[e1]
     · exact nomatch e
   · rcases xH hb with⟨j,u,rfl,e⟩ | ⟨y,u,rfl,e⟩
     · exact nomatch e
     · injection e with e1 _;rw[e1]
 byValue:=fun k v h=>by
   rcases xH h with⟨i,t,rfl,rfl⟩ | ⟨x,t,rfl,rfl⟩<;>rfl
 pyHash:=fun hv h=>by
   rcases xH hv with⟨i,t,rfl,rfl⟩ | ⟨x,t,rfl,rfl⟩
   · exact wpAny_pyHash_int h
   · exact wpAny_pyHash_str h
 eqBool:=fun hu hv h=>by
   rcases xH hu with⟨i,t,rfl,rfl⟩ | ⟨x,t,rfl,rfl⟩
   · rcases xH hv with⟨j,u,rfl,rfl⟩ | ⟨y,u,rfl,rfl⟩
     · rw[zQF] at h;exact Oe h
     · rw[zPJ] at h;exact SeqAt.EqAt.int_str i t y u _ _ _ _ h
   · rcases xH hv with⟨j,u,rfl,rfl⟩ | ⟨y,u,rfl,rfl⟩
     · rw[zPS] at h;exact SeqAt.EqAt.str_int x t j u _ _ _ _ h
     · rw[zPK] at h;exact Ot h
 «strs» := fun k x t v h=>by
   rcases xH h with⟨i,u,rfl,e⟩ | ⟨y,u,rfl,e⟩
   · exact nomatch e
   · injection e with e1 _
     subst e1
     cases v<;>rfl
theorem zX4 (prog:Program)(w:World)(i:Int)(t:Tok):(xZ prog w).is (.inl i) (.int i t)=true:=zVu i t
theorem zYa (prog:Program)(w:World)(x:Str)(t:Tok):(xZ prog w).is (.inr x) (.str x t)=true:=zUH x t
inductive V where
 | non | bl (b:Bool) | int (i:Int) | str (x:Str) | byt (b:Array UInt8) | flt (b:UInt64) | ref (a:Addr) | ty (n:String)
 deriving DecidableEq
def RelV:V->Value->Prop
 | .non,u=>u=Value.none
 | .bl b,u=>u=Value.bool b
 | .int i,u=>∃t,u=Value.int i t
 | .str x,u=>∃t,u=Value.str x t
 | .byt b,u=>∃t,u=Value.bytes b t
 | .flt b,u=>∃t,u=Value.float b t
 | .ref a,u=>u=Value.ref a
 | .ty n,u=>u=Value.type n
abbrev Vals:List V->List Value->Prop:=Paired RelV
theorem Vals.length {xs:List V}{us:List Value}(r:Vals xs us):xs.length=us.length:=Ek r
theorem Vals.get:∀ {xs:List V} {us:List Value} {i:Nat} {x:V},Vals xs us->xs[i]?=some x->∃u,us[i]?=some u/\RelV x u
 | _,_,_,_,.nil,e=>by simp at e
 | _,_,0,_,.cons r _,e=>by simp at e;subst e;exact⟨_,rfl,r⟩
 | _,_,i+1,x,.cons _ t,e=>by
   obtain⟨u,h1,h2⟩:=Vals.get (i:=i) (x:=x) t (by simpa using e)
   exact⟨u,by simpa using h1,h2⟩
theorem Vals.append:∀ {xs ys:List V} {us ws:List Value},Vals xs us->Vals ys ws->Vals (xs++ys) (us++ws)
 | _,_,_,_,.nil,s=>s
 | _,_,_,_,.cons r t,s=>.cons r (Vals.append t s)
theorem Vals.take:∀ {xs:List V} {us:List Value} (n:Nat),Vals xs us->Vals (xs.take n) (us.take n)
 | _,_,0,_=>.nil
 | _,_,_+1,.nil=>.nil
 | _,_,n+1,.cons r t=>.cons r (Vals.take n t)
theorem Vals.drop:∀ {xs:List V} {us:List Value} (n:Nat),Vals xs us->Vals (xs.drop n) (us.drop n)
 | _,_,0,r=>r
 | _,_,_+1,.nil=>.nil
 | _,_,n+1,.cons _ t=>Vals.drop n t
def RelO:Option V->Option Value->Prop
 | some v,some u=>RelV v u
 | none,none=>True
 | _,_=>False
def KV {κ:Type}:List (κ×V)->List (κ×Value)->Prop:=Paired fun(p:κ×V) (q:κ×Value)=>p.1=q.1/\RelV p.2 q.2
def kV:Key->V
 | .inl i=>.int i
 | .inr x=>.str x
inductive HO where
 /-- a list -/
 | lst (xs:List V)
 /-- a tuple (never changes) -/
 | tup (xs:List V)
 /-- a dict whose keys are ints and texts; one whose keys are tuples of ints and texts (the empty one is both) -/
 | dK (kvs:List (Key×V)) | dT (kvs:List (List Key×V))
 /-- a set of ints: its members, its size -/
 | set (S:Int->Bool) (n:Nat)
 /-- an instance of the class at C, its dict at dx, its attributes -/
 | ins (C dx:Addr) (fs:List (Str×V))
 /-- the dict of the instance at x -/
 | own (x:Addr)
 /-- the dict of an exception -/
 | xd (fs:List (Str×V))
 /-- a bound method, f of x -/
 | met (f x:Addr)
 /-- a range object lo, lo + 1, .. below hi -/
 | rng (lo hi:Int)
 /-- a thing that is known to the object (the script; a dict while a loop walks it): read, never written while it is so -/
 | frz (o:Obj) (u:HO)
 /-- a code object's table -/
 | tbl (ps:Array Value)
 /-- any other thing, by what is true of its one object (a def of one's own: SetO a S n := HO.ext fun h => ..) -/
 | ext (φ:Heap->Prop)
abbrev Hp:=Addr->Option HO
def upd (H:Hp)(a:Addr)(o:HO):Hp:=fun b=>if b=a then some o else H b
theorem zO {H:Hp}{a:Addr}{o:HO}:upd H a o a=some o:=by unfold upd;rw[Qi rfl]
theorem zP {H:Hp}{a b:Addr}{o:HO}(h:b≠a):upd H a o b=H b:=by unfold upd;rw[Qa h]
theorem zQN {H:Hp}{a b:Addr}{o u:HO}(h:H a=some o)(h':H b=some u)(d:o≠u):a≠b:=by
 intro e;subst e;rw[h] at h';exact d (Wg h')
theorem zB {H:Hp}{a b:Addr}{o:HO}(h:H a=some o)(h':H b=none):a≠b:=by
 intro e;subst e;rw[h] at h';cases h'
section
variable (P:Program) (w:World)
def ObjOk (H:Hp)(h:Heap)(a:Addr):HO->Prop
 | .lst xs=>xs.length<=sizeLine/\∃(its:List Value) (n:Nat),Vals xs its/\h.get? a=some { cls:=.type "list",data:=.seq its.toArray n }
 | .tup xs=>xs.length<=sizeLine/\∃its:List Value,Vals xs its/\IsTup h a its.toArray
 | .dK kvs=>kvs.length<=sizeLine/\(a==sysModules)=false/\∃vs,KV kvs vs/\h.DictOf (xZ P w) a vs
 | .dT kvs=>kvs.length<=sizeLine/\(a==sysModules)=false/\∃xs:List (List Key×Addr×Value),
     Paired (fun(p:List Key×V) (q:List Key×Addr×Value)=>p.1=q.1/\H q.2.1=some (.tup (p.1.map kV))/\RelV p.2 q.2.2) kvs xs /\
     ∃o es ep,h.get? a=some o/\o.ExactDict/\o.data = .dict es ep/\es.toList=xs.map (entryOfKey (tupleKind (xZ P w)))/\(xs.map (·.1)).Nodup
 | .set S n=>h.SetOf (intKind P w) a S n
 | .ins C dx fs=>H dx=some (.own a)/\fs.length<=1000/\dx≠a/\h.get? a=some (PySem.W.instObj C dx) /\
     ∃mA,h.Ns1 dx mA/\(∀f,RelO (fs.lookup f) (mA f))/\PySem.Within mA (fs.map (·.1))
 | .own _=>∃o,h.get? a=some o
 | .xd fs=>∃mA,h.Ns1 a mA/\∀f,RelO (fs.lookup f) (mA f)
 | .rng lo hi=>∃t u v,h.get? a=some { cls:=.type "range",data:=.fields #[.int lo t,.int hi u,.int 1 v] }
 | .frz o u=>h.get? a=some o/\ObjOk H h a u
 | .tbl ps=>h.get? a=some { cls:=.none,data:=.fields ps }
 | .met f x=>h.get? a=some (PySem.W.methodObj (.ref f) (.ref x))
 | .ext φ=>φ h/\(∃o,h.get? a=some o)/\∀h1 h2:Heap,φ h1->(∀o,h1.get? a=some o->h2.get? a=some o)->φ h2
def HOk (H:Hp)(h:Heap):Prop:=∀a o,H a=some o->ObjOk P w H h a o
end
section
variable {P:Program} {w:World} {H H':Hp} {h h':Heap} {a:Addr} {o:HO}
theorem ObjOk.lt (x:ObjOk P w H h a o):a < h.objs.size:=by
 cases o with
 | lst xs=>obtain⟨_,_,_,_,e⟩:=x;exact Qg e
 | tup xs=>obtain⟨_,_,_,p⟩:=x;exact p.lt
 | dK kvs=>obtain⟨_,_,_,_,o,_,_,e,_⟩:=x;exact Qg e
 | dT kvs=>obtain⟨_,_,_,_,o,_,_,e,_⟩:=x;exact Qg e
 | set S n=>obtain⟨o,_,_,_,e,_⟩:=x;exact Qg e
 | ins C dx fs=>obtain⟨_,_,_,e,_⟩:=x;exact Qg e
 | own y=>obtain⟨_,e⟩:=x;exact Qg e
 | xd fs=>obtain⟨_,⟨_,_,_,e,_⟩,_⟩:=x;exact Qg e
 | rng lo hi=>obtain⟨_,_,_,e⟩:=x;exact Qg e
 | frz ob u=>obtain⟨e,_⟩:=x;exact Qg e
 | tbl ps=>exact Qg (show h.get? a=some _ from x)
 | met f y=>exact Qg (show h.get? a=some _ from x)
 | ext φ=>obtain⟨_,⟨_,e⟩,_⟩:=x;exact Qg e
theorem Paired.mapP {α β:Type}{F G:α->β->Prop}:∀ {l₁:List α} {l₂:List β},Paired F l₁ l₂->(∀a b,F a b->G a b)->Paired G l₁ l₂
 | _,_,.nil,_=>.nil
 | _,_,.cons r t,f=>.cons (f _ _ r) (Paired.mapP t f)
theorem ObjOk.stay (x:ObjOk P w H h a o)(k:∀b u,(b=a∨H b=some (.own a))->h.get? b=some u->h'.get? b=some u)
   (ho:∀b,H b=some (.own a)->H' b=some (.own a)) (ht:∀b xs,H b=some (.tup xs)->H' b=some (.tup xs)):ObjOk P w H' h' a o:=by
 induction o with
 | lst xs=>obtain⟨z,its,n,r,e⟩:=x;exact⟨z,its,n,r,k _ _ (.inl rfl) e⟩
 | tup xs=>obtain⟨z,its,r,ob,e,c⟩:=x;exact⟨z,its,r,ob,k _ _ (.inl rfl) e,c⟩
 | dK kvs=>obtain⟨z,y,vs,r,ob,es,ep,e,c⟩:=x;exact⟨z,y,vs,r,ob,es,ep,k _ _ (.inl rfl) e,c⟩
 | dT kvs =>
   obtain⟨z,y,xs,r,ob,es,ep,e,c⟩:=x
   exact⟨z,y,xs,Paired.mapP r fun p q z=>⟨z.1,ht _ _ z.2.1,z.2.2⟩,ob,es,ep,k _ _ (.inl rfl) e,c⟩
 | set S n=>obtain⟨ob,es,ep,t,e,c⟩:=x;exact⟨ob,es,ep,t,k _ _ (.inl rfl) e,c⟩
 | ins C dx fs =>
   obtain⟨d,z,ne,e,mA,⟨od,es,ep,e2,c⟩,r⟩:=x
   exact⟨ho _ d,z,ne,k _ _ (.inl rfl) e,mA,⟨od,es,ep,k _ _ (.inr d) e2,c⟩,r⟩
 | own y=>obtain⟨ob,e⟩:=x;exact⟨ob,k _ _ (.inl rfl) e⟩
 | xd fs=>obtain⟨mA,⟨od,es,ep,e,c⟩,r⟩:=x;exact⟨mA,⟨od,es,ep,k _ _ (.inl rfl) e,c⟩,r⟩
 | rng lo hi=>obtain⟨t,u,v,e⟩:=x;exact⟨t,u,v,k _ _ (.inl rfl) e⟩
 | frz ob u ih=>obtain⟨e,q⟩:=x;exact⟨k _ _ (.inl rfl) e,ih q⟩
 | tbl ps =>
   have e:h.get? a=some { cls:=.none,data:=.fields ps }:=x
   show h'.get? a=some { cls:=.none,data:=.fields ps }
   exact k a _ (.inl rfl) e
 | met f y =>
   have e:h.get? a=some (PySem.W.methodObj (.ref f) (.ref y)):=x
   show h'.get? a=some (PySem.W.methodObj (.ref f) (.ref y))
   exact k a _ (.inl rfl) e
 | ext φ=>obtain⟨p,⟨o,e⟩,st⟩:=x;exact⟨st _ _ p fun o q=>k _ _ (.inl rfl) q,⟨o,k _ _ (.inl rfl) e⟩,st⟩
theorem HOk.lt (x:HOk P w H h)(e:H a=some o):a < h.objs.size:=(x a o e).lt
theorem HOk.fresh (x:HOk P w H h)(e:h.objs.size<=a):H a=none:=by
 cases q:H a with
 | none=>rfl
 | some u=>exact absurd (Wy (x.lt q) e) (Wv _)
theorem HOk.kept (x:HOk P w H h)(k:∀b u,h.get? b=some u->h'.get? b=some u):HOk P w H h':=fun a o e =>
 (x a o e).stay (fun b u _ q=>k b u q) (fun _ q=>q) fun _ _ q=>q
theorem HOk.laid (x:HOk P w H h)(k:∀b u,h.get? b=some u->h'.get? b=some u)(hp:h.objs.size<=a)(new:ObjOk P w (upd H a o) h' a o):HOk P w (upd H a o) h':=fun b u e=>by
 have hn:=x.fresh hp
 by_cases hb:b=a
 · subst hb;rw[zO] at e;cases e;exact new
 · rw[zP hb] at e
   exact(x b u e).stay (fun c v _ q=>k c v q) (fun c q=>by rw[zP (zB q hn)];exact q) fun c xs q=>by rw[zP (zB q hn)];exact q
end
def Rd (H:Hp)(a:Addr)(u:HO):Prop:=H a=some u∨∃o,H a=some (.frz o u)
theorem Rd.ok {P:Program}{w:World}{H:Hp}{h:Heap}{a:Addr}{u:HO}(r:Rd H a u)(x:HOk P w H h):ObjOk P w H h a u:=by
 rcases r with r | ⟨o,r⟩
 · exact x a u r
 · obtain⟨_,q⟩:=x a _ r
   exact q
def Mut:Option HO->Prop
 | some (.lst _)=>True
 | some (.dK _)=>True
 | some (.dT _)=>True
 | some (.set _ _)=>True
 | some (.ins _ _ _)=>True
 | some (.ext _)=>True
 | _=>False
section
variable {P:Program} {w:World} {H:Hp} {h h':Heap} {x e:Addr} {o':HO}
theorem HOk.write (ok:HOk P w H h)(mu:Mut (H x))(he:e=x∨H e=some (.own x))(k:∀b u,b≠e->h.get? b=some u->h'.get? b=some u)(heo:∃u,h'.get? e=some u)
   (new:ObjOk P w (upd H x o') h' x o'):HOk P w (upd H x o') h':=fun b u q=>by
 have nown:∀c y,H c=some (.own y)->c≠x:=fun c y r z=>by subst z;rw[r] at mu;exact mu
 have ntup:∀c xs,H c=some (.tup xs)->c≠x:=fun c xs r z=>by subst z;rw[r] at mu;exact mu
 by_cases hb:b=x
 · subst hb;rw[zO] at q;cases q;exact new
 · rw[zP hb] at q
   by_cases hbe:b=e
   · have q':H b=some (.own x):=by
       rcases he with z | z
       · exact absurd (hbe.trans z) hb
       · rw[hbe];exact z
     rw[q] at q';cases q'
     obtain⟨v,hv⟩:=heo
     exact⟨v,by rw[hbe];exact hv⟩
   · refine(ok b u q).stay (fun c v hc r=>k c v ?_ r) (fun c r=>by rw[zP (nown c b r)];exact r) fun c xs r=>by rw[zP (ntup c xs r)];exact r
     rcases hc with rfl | hc
     · exact hbe
     · rintro rfl
       rcases he with z | z
       · exact nown c b hc z
       · rw[hc] at z;cases z;exact hb rfl
end
structure Un (fs ex:List Addr)(H H':Hp)(h h':Heap):Prop where
 keep:∀b o,h.get? b=some o->H b=none->b∉fs->b∉ex->h'.get? b=some o
 slot:∀b o,h.get? b=some o->H b=none->b∈fs->b∉ex->∃sl,h'.get? b=some { o with slots:=sl }
 free:∀b o,h.get? b=some o->H b=none->b∉ex->H' b=none
 there:∀b o,h.get? b=some o->b∉ex->∃o',h'.get? b=some o'
 tups:∀b xs,H b=some (.tup xs)->H' b=some (.tup xs)
 frzs:∀b o u,H b=some (.frz o u)->H' b=some (.frz o u)
 tbls:∀b ps,H b=some (.tbl ps)->∃more,H' b=some (.tbl (ps++more))
section
variable {fs ex:List Addr} {H H1 H2:Hp} {h h1 h2 h':Heap} {a x e:Addr} {o:HO}
theorem Un.any (u:Un fs ex H H1 h h1){b:Addr}{ob:Obj}(q:h.get? b=some ob)(n:H b=none)(hx:b∉ex):∃sl,h1.get? b=some { ob with slots:=sl }:=by
 by_cases hb:b∈fs
 · exact u.slot b ob q n hb hx
 · exact⟨ob.slots,u.keep b ob q n hb hx⟩
theorem Un.trans (a:Un fs ex H H1 h h1)(b:Un fs ex H1 H2 h1 h2):Un fs ex H H2 h h2 where
 keep:=fun c ob q n hc hx=>b.keep c ob (a.keep c ob q n hc hx) (a.free c ob q n hx) hc hx
 slot:=fun c ob q n hc hx=>by
   obtain⟨sl,e1⟩:=a.slot c ob q n hc hx
   obtain⟨sl',e2⟩:=b.slot c _ e1 (a.free c ob q n hx) hc hx
   exact⟨sl',e2⟩
 free:=fun c ob q n hx=>by
   obtain⟨o',e1⟩:=a.there c ob q hx
   exact b.free c o' e1 (a.free c ob q n hx) hx
 there:=fun c ob q hx=>by
   obtain⟨o',e1⟩:=a.there c ob q hx
   exact b.there c o' e1 hx
 tups:=fun c xs q=>b.tups c xs (a.tups c xs q)
 frzs:=fun c ob xs q=>b.frzs c ob xs (a.frzs c ob xs q)
 tbls:=fun c ps q=>by
   obtain⟨m1,e1⟩:=a.tbls c ps q
   obtain⟨m2,e2⟩:=b.tbls c _ e1
   exact⟨m1++m2,by rw[e2,Array.append_assoc]⟩
theorem Un.kept (k:∀b u,h.get? b=some u->h'.get? b=some u):Un fs ex H H h h' :=
 ⟨fun b ob q _ _ _=>k b ob q,fun b ob q _ _ _=>⟨ob.slots,k b ob q⟩,fun _ _ _ n _=>n,fun b ob q _=>⟨ob,k b ob q⟩,fun _ _ q=>q,fun _ _ _ q=>q,fun _ ps q=>⟨#[],by rw[q];simp⟩⟩
theorem Un.refl:Un fs ex H H h h:=Un.kept fun _ _ q=>q
theorem Un.laid (k:∀b u,h.get? b=some u->h'.get? b=some u)(hp:h.objs.size<=a)(hn:H a=none):Un fs ex H (upd H a o) h h' where
 keep:=fun b u q _ _ _=>k b u q
 slot:=fun b u q _ _ _=>⟨u.slots,k b u q⟩
 free:=fun b u q n _=>by rw[zP (Wh (Wy (Qg q) hp))];exact n
 there:=fun b u q _=>⟨u,k b u q⟩
 tups:=fun b xs q=>by rw[zP (zB q hn)];exact q
 frzs:=fun b u xs q=>by rw[zP (zB q hn)];exact q
 tbls:=fun b ps q=>⟨#[],by rw[zP (zB q hn),q];simp⟩
theorem Un.write (mu:Mut (H x))(he:e=x∨H e=some (.own x))(k:∀b u,b≠e->h.get? b=some u->h'.get? b=some u)(heo:∃u,h'.get? e=some u):Un fs ex H (upd H x o) h h':=by
 have hx:∀b,H b=none->b≠x:=fun b n z=>by subst z;rw[n] at mu;exact mu
 have hb:∀b,H b=none->b≠e:=fun b n z=>by
   subst z
   rcases he with r | r
   · exact hx b n r
   · rw[n] at r;cases r
 have hm:∀b u,H b=some u->¬Mut (some u)->b≠x:=fun b u q nm z=>by subst z;rw[q] at mu;exact nm mu
 refine⟨fun b u q n _ _=>k b u (hb b n) q,fun b u q n _ _=>⟨u.slots,k b u (hb b n) q⟩,fun b u q n _=>by rw[zP (hx b n)];exact n,fun b u q _=>?_,
   fun b xs q=>by rw[zP (hm b _ q fun z=>z)];exact q,fun b u xs q=>by rw[zP (hm b _ q fun z=>z)];exact q,fun b ps q=>⟨#[],by rw[zP (hm b _ q fun z=>z),q];simp⟩⟩
 by_cases hbe:b=e
 · subst hbe;exact heo
 · exact⟨u,k b u hbe q⟩
end
def trk (h:Heap)(H:Hp):List Addr:=(List.range h.objs.size).filter fun a=>(H a).isSome
def zYO (h:Heap)(H:Hp):Heap:=PySem.W.hideAll h (trk h H)
theorem zVt (h:Heap)(H:Hp):(zYO h H).objs.size=h.objs.size:=PySem.W.hideAll_size _ _
theorem zUf {h:Heap}{H:Hp}{b:Addr}{o:Obj}(e:h.get? b=some o)(n:H b=none):(zYO h H).get? b=some o :=
 PySem.W.hideAll_get _ e fun hm=>by
   have q:(H b).isSome=true:=(Yp.mp hm).2
   rw[n] at q;simp at q
theorem zRr {h:Heap}{H:Hp}{b:Addr}{o:Obj}(e:(zYO h H).get? b=some o):h.get? b=some o/\H b=none:=by
 have e':h.get? b=some o:=PySem.W.of_hideAll (trk h H) e
 refine⟨e',?_⟩
 cases q:H b with
 | none=>rfl
 | some x =>
   have hm:b∈trk h H:=Yp.mpr ⟨Oc.mpr (Qg e'),by simp[q]⟩
   have z:(zYO h H).get? b=none:=PySem.W.hideAll_none (trk h H) hm
   rw[z] at e;cases e
def zS1 (g h:Heap)(L:Addr):List (Addr×Obj):=(List.range h.objs.size).filterMap fun a=>if a=L∨(g.get? a).isSome=true then none else(h.get? a).map fun o=>(a,o)
def rest (g h:Heap)(L d:Addr):List (Addr×Obj):=(zS1 g h L).filter fun p=>decide (p.1≠d)
structure Mod (K:PySem.W.Frag)(mg:Str->Option Value)(base:Heap):Prop where
 kin:K.In base
 glob:base.Ns mainGlobals mg
 blt:∃mb,base.Ns builtinsNs mb/\∀x:Str,x≠"__name__"->mb x=bootBuiltins x
 nolimit:base.NoLimit
/-- the context: a def's body (or a comprehension's block) running. base: fixed through the whole law; s₀, H₀: the entry; outer: the frames whose slots others may change (a def's callers); stack: all frames that run;
  ex: iterators that were made ahead of the entry and are walked here (a comprehension's);fn: the names whose cells were made at the entry (a def: all;a comprehension's block: its own);calm: not within an except suite;pn: pins that every state bears;xe: what is wanted of an exception that leaves the code -/
structure Cx where
 prog:Program
 w:World
 K:PySem.W.Frag
 mg:Str->Option Value
 base:Heap
 A:Around
 N:List Str
 s₀:Shared
 H₀:Hp
 env:Env
 outer:List Env
 stack:List Env
 ex:List Addr
 fn:Str->Bool
 calm:Bool
 pn:List (Addr×Obj)
 xe:Value->Shared->Prop
def frs (l:List Env):List Addr:=l.filterMap (·.frame)
abbrev Cx.fs (X:Cx):List Addr:=frs X.outer
def Vis (sc:Scope)(x:Str):Prop:=sc.names.lookup x=some .local∨sc.names.lookup x=some .cell∨sc.names.lookup x=some .free
def Loc (sc:Scope)(x:Str):Prop:=sc.names.lookup x=some .local∨sc.names.lookup x=some .cell
def zO3 (env:Env)(h:Heap)(m:Str->Option Value)(x:Str)(u:Value):Prop :=
 (env.kindOf x=some .local/\m x=some u)∨((env.kindOf x=some .cell∨env.kindOf x=some .free)/\∃c,env.cells.lookup x=some c/\h.IsCell c (some u))
structure Cx.Ok (X:Cx):Prop where
 mod:Mod X.K X.mg X.base
 kind:X.env.scope.kind = .function
 glob:X.env.globals=mainGlobals
 blt:X.env.builtins=builtinsNs
 above:X.s₀.heap.objs.size<=X.env.locals
 inj:∀x y c,X.env.cells.lookup x=some c->X.env.cells.lookup y=some c->x=y
 has:∀x,(X.env.kindOf x=some .cell∨X.env.kindOf x=some .free)->∃c,X.env.cells.lookup x=some c
 cab:∀x c,X.fn x=true->X.env.cells.lookup x=some c->X.s₀.heap.objs.size<=c
 hd:X.calm=true->X.A.handled=none
 frames:X.A.frames=some X.stack
 stk:X.stack=X.outer∨(X.stack=X.env::X.outer/\X.env.frame=some X.env.locals)
 exf:∀b∈X.ex,b≠X.env.locals/\∀x c,X.env.cells.lookup x=some c->c≠b
 bs:∀b o,X.base.get? b=some o->X.s₀.heap.get? b=some o/\X.H₀ b=none
 bsz:X.base.objs.size<=X.s₀.heap.objs.size
 noex:∀b o,X.base.get? b=some o->b∉X.ex
 exfs:∀b∈X.ex,b∉X.fs
 funs:X.s₀.heap.FunFrames X.base X.outer
 frf:∀b∈X.fs,X.H₀ b=none
structure Inv (X:Cx)(pins:List (Addr×Obj))(σ:List (Option V))(H:Hp)(s:Shared):Prop where
 ok:X.Ok
 os:s.os=X.s₀.os
 bare:AllBare s.gens
 base:Un X.fs X.ex X.H₀ H X.s₀.heap s.heap
 loc:∃m,s.heap.Ns X.env.locals m/\∀(i:Nat) (x:Str) (v:V),X.N[i]?=some x->σ[i]?=some (some v)->Vis X.env.scope x->∃u,RelV v u/\zO3 X.env s.heap m x u
 cell:∀x c,X.env.cells.lookup x=some c->∃v,s.heap.IsCell c v
 free:H X.env.locals=none
 freeC:∀x c,X.env.cells.lookup x=some c->H c=none
 pin:∀p∈X.pn++pins,s.heap.get? p.1=some p.2/\H p.1=none/\p.1≠X.env.locals/\p.1∉X.fs/\∀v,p.2.data ≠ .cell v
 hok:HOk X.prog X.w H s.heap
 len:σ.length=X.N.length
section
variable {X:Cx} {pins:List (Addr×Obj)} {σ:List (Option V)} {H H':Hp} {s:Shared} {h':Heap}
theorem Cx.Ok.nofr (ok:X.Ok){b:Addr}{o:Obj}(e:X.base.get? b=some o):b∉X.fs:=fun hb=>by
 have:=(ok.funs.mem hb).1
 rw[e] at this;cases this
theorem Inv.bs (I:Inv X pins σ H s):∀b o,X.base.get? b=some o->s.heap.get? b=some o/\H b=none:=fun b o e =>
 ⟨I.base.keep b o (I.ok.bs b o e).1 (I.ok.bs b o e).2 (I.ok.nofr e) (I.ok.noex b o e),I.base.free b o (I.ok.bs b o e).1 (I.ok.bs b o e).2 (I.ok.noex b o e)⟩
theorem Inv.bk (I:Inv X pins σ H s):∀b o,X.base.get? b=some o->s.heap.get? b=some o:=fun b o e=>(I.bs b o e).1
theorem Inv.mod (I:Inv X pins σ H s):Mod X.K X.mg X.base:=I.ok.mod
theorem Inv.kIn (I:Inv X pins σ H s):X.K.In s.heap:=I.ok.mod.kin.keeps I.bk
theorem Inv.lt (I:Inv X pins σ H s):X.env.locals < s.heap.objs.size:=let ⟨_,hn,_⟩:=I.loc;hn.lt
theorem Inv.sz (I:Inv X pins σ H s):X.s₀.heap.objs.size<=s.heap.objs.size:=Wu I.ok.above (Wx I.lt)
theorem Inv.nofs (I:Inv X pins σ H s){a:Addr}(h:s.heap.objs.size<=a):a∉X.fs:=fun hb=>by
 obtain⟨_,o,ho,_⟩:=I.ok.funs.mem hb
 exact absurd (Wy (Qg ho) (Wu I.sz h)) (Wv _)
theorem Inv.cne (I:Inv X pins σ H s):∀x c,X.env.cells.lookup x=some c->c≠X.env.locals:=fun x c e z=>by
 obtain⟨v,o,ho,hd⟩:=I.cell x c e
 obtain⟨m,⟨o',es,ep,ho',hd',_⟩,_⟩:=I.loc
 rw[z,ho'] at ho;cases ho;rw[hd'] at hd;cases hd
theorem Inv.funs (I:Inv X pins σ H s):s.heap.FunFrames X.base X.outer:=by
 have all:∀(l:List Env),(∀b∈frs l,b∈X.fs)->X.s₀.heap.FunFrames X.base l->s.heap.FunFrames X.base l:=by
   intro l
   induction l with
   | nil=>intro _ _;trivial
   | cons env r ih =>
     intro hs hl
     obtain⟨hk,⟨L,o,hf,hn,ho,hd⟩,hr⟩:=hl
     have hL:L∈X.fs:=hs L (by unfold frs;rw[Uc,hf];exact Qb)
     obtain⟨sl,e⟩:=I.base.slot L o ho (I.ok.frf L hL) hL fun z=>I.ok.exfs L z hL
     exact⟨hk,⟨L,_,hf,hn,e,hd⟩,ih (fun b hb=>hs b (by unfold frs;rw[Uc,hf];exact Qj _ hb)) hr⟩
 exact all X.outer (fun _ hb=>hb) I.ok.funs
theorem Inv.stack (I:Inv X pins σ H s):s.heap.FunFrames X.base X.stack:=by
 rcases I.ok.stk with e | ⟨e,hf⟩
 · rw[e];exact I.funs
 · rw[e]
   obtain⟨m,hn,_⟩:=I.loc
   refine .cons (by rw[I.ok.kind];decide) hf hn ?_ I.funs
   exact Heap.get?_none_of_le (Wu I.ok.bsz I.ok.above)
theorem Inv.stkSub (I:Inv X pins σ H s):∀b∈frs X.stack,b∈X.env.locals::X.fs:=fun b hb=>by
 rcases I.ok.stk with e | ⟨e,hf⟩
 · rw[e] at hb;exact Qj _ hb
 · rw[e] at hb
   unfold frs at hb
   rw[Uc,hf] at hb
   exact hb
theorem Inv.stkFree (I:Inv X pins σ H s):∀b∈frs X.stack,H b=none:=fun b hb=>by
 rcases Qd.mp (I.stkSub b hb) with e | hb
 · rw[e];exact I.free
 · obtain⟨_,o,ho,_⟩:=I.ok.funs.mem hb
   exact I.base.free b o ho (I.ok.frf b hb) fun z=>I.ok.exfs b z hb
theorem Inv.step {g':Array GenState}{t':Nat}{d':Drawn}{ch:List Addr}(I:Inv X pins σ H s)
   (hch:∀b∈ch,(b∈X.ex∨X.s₀.heap.objs.size<=b)/\b≠X.env.locals/\(∀x c,X.env.cells.lookup x=some c->c≠b)/\∀p∈X.pn++pins,p.1≠b)
   (keep:∀b o,b≠X.env.locals->b∉X.fs->b∉ch->s.heap.get? b=some o->H b=none->h'.get? b=some o)
   (slot:∀b o,b≠X.env.locals->b∈X.fs->b∉ch->s.heap.get? b=some o->H b=none->∃sl,h'.get? b=some { o with slots:=sl }) (free:∀b o,b∉ch->s.heap.get? b=some o->H b=none->H' b=none)
   (there:∀b o,b∉ch->s.heap.get? b=some o->∃o',h'.get? b=some o')
   (tups:∀b xs,H b=some (.tup xs)->H' b=some (.tup xs)) (frzs:∀b o u,H b=some (.frz o u)->H' b=some (.frz o u)) (tbls:∀b ps,H b=some (.tbl ps)->∃more,H' b=some (.tbl (ps++more)))
   (ns:∀m,s.heap.Ns X.env.locals m->h'.Ns X.env.locals m) (hok:HOk X.prog X.w H' h') (hg:AllBare g') :
   Inv X pins σ H' { s with heap:=h',gens:=g',drawn:=d',toks:=t' }:=by
 have neL:∀b o,X.s₀.heap.get? b=some o->b≠X.env.locals:=fun b o e=>Wh (Wy (Qg e) I.ok.above)
 have neC:∀b o,X.s₀.heap.get? b=some o->b∉X.ex->b∉ch:=fun b o e hx hb=>by
   rcases(hch b hb).1 with z | z
   · exact hx z
   · exact absurd (Wy (Qg e) z) (Wv _)
 have cellK:∀x c,X.env.cells.lookup x=some c->∀v,s.heap.IsCell c v->h'.IsCell c v:=fun x c e v ⟨o,ho,hd⟩=>by
   have nch:c∉ch:=fun z=>(hch c z).2.2.1 x c e rfl
   by_cases hc:c∈X.fs
   · obtain⟨sl,q⟩:=slot c o (I.cne x c e) hc nch ho (I.freeC x c e)
     exact⟨_,q,hd⟩
   · exact⟨o,keep c o (I.cne x c e) hc nch ho (I.freeC x c e),hd⟩
 refine⟨I.ok,I.os,hg,⟨fun b o e n hb hx=>?_,fun b o e n hb hx=>?_,fun b o e n hx=>?_,fun b o e hx=>?_,fun b xs e=>tups b xs (I.base.tups b xs e),fun b o xs e=>frzs b o xs (I.base.frzs b o xs e),fun b ps e=>?_⟩,?_,fun x c e=>?_,?_,fun x c e=>?_,fun p hp=>?_,hok,I.len⟩
 · exact keep b o (neL b o e) hb (neC b o e hx) (I.base.keep b o e n hb hx) (I.base.free b o e n hx)
 · obtain⟨sl,e1⟩:=I.base.slot b o e n hb hx
   obtain⟨sl',e2⟩:=slot b _ (neL b o e) hb (neC b o e hx) e1 (I.base.free b o e n hx)
   exact⟨sl',e2⟩
 · obtain⟨o',e1⟩:=I.base.there b o e hx
   exact free b o' (neC b o e hx) e1 (I.base.free b o e n hx)
 · obtain⟨o',e1⟩:=I.base.there b o e hx
   exact there b o' (neC b o e hx) e1
 · obtain⟨m1,e1⟩:=I.base.tbls b ps e
   obtain⟨m2,e2⟩:=tbls b _ e1
   exact⟨m1++m2,by rw[e2,Array.append_assoc]⟩
 · obtain⟨m,hn,hl⟩:=I.loc
   refine⟨m,ns m hn,fun i x v e1 e2 e3=>?_⟩
   obtain⟨u,r,l⟩:=hl i x v e1 e2 e3
   refine⟨u,r,?_⟩
   rcases l with l | ⟨k,c,e,z⟩
   · exact .inl l
   · exact .inr ⟨k,c,e,cellK x c e _ z⟩
 · obtain⟨v,z⟩:=I.cell x c e
   exact⟨v,cellK x c e v z⟩
 · obtain⟨m,⟨o,_,_,ho,_⟩,_⟩:=I.loc
   exact free _ o (fun z=>(hch _ z).2.1 rfl) ho I.free
 · obtain⟨v,o,ho,hd⟩:=I.cell x c e
   exact free c o (fun z=>(hch c z).2.2.1 x c e rfl) ho (I.freeC x c e)
 · obtain⟨e,n,ne,nf,d⟩:=I.pin p hp
   have nch:p.1∉ch:=fun z=>(hch p.1 z).2.2.2 p hp rfl
   exact⟨keep p.1 p.2 ne nf nch e n,free p.1 p.2 nch e n,ne,nf,d⟩
theorem Inv.un {t':Nat}(I:Inv X pins σ H s)(u:Un X.fs [] H H' s.heap h')(hok:HOk X.prog X.w H' h'):Inv X pins σ H' { s with heap:=h',toks:=t' }:=by
 obtain⟨m,⟨o,es,ep,ho,r⟩,_⟩:=id I.loc
 obtain⟨sl,hL⟩:=u.any ho I.free (by simp)
 exact I.step (g':=s.gens) (d':=s.drawn) (ch:=[]) (fun _ z=>nomatch z) (fun b o _ hb _ e n=>u.keep b o e n hb (by simp)) (fun b o _ hb _ e n=>u.slot b o e n hb (by simp)) (fun b o _ e n=>u.free b o e n (by simp)) (fun b o _ e=>u.there b o e (by simp)) u.tups u.frzs u.tbls (fun m' hm=>by
   obtain⟨o',es',ep',ho',r'⟩:=hm
   rw[ho] at ho';cases ho'
   exact⟨_,es',ep',hL,r'⟩) hok I.bare
theorem Inv.call {g':Array GenState}{t':Nat}{d':Drawn}{ch:List Addr}(I:Inv X pins σ H s)(u:Un (frs X.stack) ch H H' s.heap h')(hok:HOk X.prog X.w H' h')(hg:AllBare g')
   (hch:∀b∈ch,(b∈X.ex∨X.s₀.heap.objs.size<=b)/\b≠X.env.locals/\(∀x c,X.env.cells.lookup x=some c->c≠b)/\∀p∈X.pn++pins,p.1≠b) :
   Inv X pins σ H' { s with heap:=h',gens:=g',drawn:=d',toks:=t' }:=by
 obtain⟨m,⟨o,es,ep,ho,r⟩,_⟩:=id I.loc
 obtain⟨sl,hL⟩:=u.any ho I.free fun z=>(hch _ z).2.1 rfl
 exact I.step (ch:=ch) hch (fun b o hL hb hc e n=>u.keep b o e n (fun z=>(Qd.mp (I.stkSub b z)).elim hL hb) hc) (fun b o _ _ hc e n=>u.any e n hc) (fun b o hc e n=>u.free b o e n hc) (fun b o hc e=>u.there b o e hc) u.tups u.frzs u.tbls (fun m' hm=>by
   obtain⟨o',es',ep',ho',r'⟩:=hm
   rw[ho] at ho';cases ho'
   exact⟨_,es',ep',hL,r'⟩) hok hg
theorem Inv.turned {t':Nat}{it:Addr}(I:Inv X pins σ H s)(k:∀b o,b≠it->s.heap.get? b=some o->h'.get? b=some o)(hn:H it=none)(hL:it≠X.env.locals)
   (h1:it∈X.ex∨X.s₀.heap.objs.size<=it) (h2:∀x c,X.env.cells.lookup x=some c->c≠it) (h3:∀p∈X.pn++pins,p.1≠it):Inv X pins σ H { s with heap:=h',toks:=t' }:=by
 have nit:∀b u,H b=some u->b≠it:=fun b u e z=>by rw[z,hn] at e;cases e
 refine I.step (g':=s.gens) (d':=s.drawn) (ch:=[it]) (fun b hb=>?_) (fun b o _ _ hc e _=>k b o (fun z=>hc (by simp[z])) e) (fun b o _ _ hc e _=>⟨o.slots,k b o (fun z=>hc (by simp[z])) e⟩) (fun _ _ _ _ n=>n)
   (fun b o hc e=>⟨o,k b o (fun z=>hc (by simp[z])) e⟩) (fun _ _ e=>e) (fun _ _ _ e=>e) (fun b ps e=>⟨#[],by rw[e];simp⟩) (fun m hm=>?_) (fun b u e=>?_) I.bare
 · have e:b=it:=by simpa using hb
   subst e
   exact⟨h1,hL,h2,h3⟩
 · obtain⟨o,es,ep,ho,r⟩:=hm
   exact⟨o,es,ep,k _ o (Ne.symm hL) ho,r⟩
 · refine(I.hok b u e).stay (fun c v hc q=>k c v ?_ q) (fun _ q=>q) fun _ _ q=>q
   rcases hc with z | z
   · rw[z];exact nit b u e
   · exact nit c _ z
theorem Inv.tok (I:Inv X pins σ H s)(t:Nat):Inv X pins σ H { s with toks:=t }:=I.un (h':=s.heap) (t':=t) Un.refl I.hok
theorem Inv.kept {t':Nat}(I:Inv X pins σ H s)(k:∀b u,s.heap.get? b=some u->h'.get? b=some u):Inv X pins σ H { s with heap:=h',toks:=t' }:=I.un (Un.kept k) (I.hok.kept k)
theorem Inv.laid {a:Addr}{o:HO}{t':Nat}(I:Inv X pins σ H s)(k:∀b u,s.heap.get? b=some u->h'.get? b=some u)(hp:s.heap.objs.size<=a)(new:ObjOk X.prog X.w (upd H a o) h' a o) :
   Inv X pins σ (upd H a o) { s with heap:=h',toks:=t' }:=I.un (Un.laid k hp (I.hok.fresh hp)) (I.hok.laid k hp new)
theorem Inv.write {x e:Addr}{o:HO}{t':Nat}(I:Inv X pins σ H s)(mu:Mut (H x))(he:e=x∨H e=some (.own x))(k:∀b u,b≠e->s.heap.get? b=some u->h'.get? b=some u)(heo:∃u,h'.get? e=some u)
   (new:ObjOk X.prog X.w (upd H x o) h' x o):Inv X pins σ (upd H x o) { s with heap:=h',toks:=t' }:=I.un (Un.write mu he k heo) (I.hok.write mu he k heo new)
theorem Inv.pins_of {pins':List (Addr×Obj)}(I:Inv X pins σ H s)(h:∀p∈pins',s.heap.get? p.1=some p.2/\H p.1=none/\p.1≠X.env.locals/\p.1∉X.fs/\∀v,p.2.data ≠ .cell v):Inv X pins' σ H s :=
 ⟨I.ok,I.os,I.bare,I.base,I.loc,I.cell,I.free,I.freeC,fun p hp=>(Qn.mp hp).elim (fun z=>I.pin p (Yt _ z)) (h p),I.hok,I.len⟩
theorem zY1 {N:List Str}(hN:N.Nodup){i j:Nat}{x:Str}(a:N[i]?=some x)(b:N[j]?=some x):i=j:=by
 obtain⟨h1,e1⟩:=We.mp a
 obtain⟨h2,e2⟩:=We.mp b
 exact(List.getElem_inj hN).mp (e1.trans e2.symm)
theorem aC {M:Model}{A:Around}{E:Value->Shared->Prop}{i:Nat}{x:Str}{v:V}{u:Value}{Q:Unit->Shared->Prop}(I:Inv X pins σ H s)(hN:X.N.Nodup)(hi:X.N[i]?=some x)(hx:Loc X.env.scope x)(r:RelV v u)
   (h:∀s',Inv X pins (σ.set i (some v)) H s'->(∃a,Heap.SameBut a s.heap s'.heap/\(a=X.env.locals∨X.env.cells.lookup x=some a))->Q () s') (hf:X.fn x=true∨X.env.scope.names.lookup x=some .local:=by first | exact .inl rfl | exact .inr rfl | assumption):wpAny M A (storeName X.env x u) Q E s:=by
 obtain⟨m,hn,hl⟩:=id I.loc
 have hcls:(X.env.scope.kind == .class||(X.env.scope.kind == .module&&X.env.locals != X.env.globals))=false:=by rw[I.ok.kind];rfl
 have hiσ:i < σ.length:=by rw[I.len];exact(We.mp hi).1
 have cne:=I.cne
 have tracked:∀ {a:Addr} {h':Heap},(∃o,s.heap.get? a=some o/\H a=none)->Heap.SameBut a s.heap h'->HOk X.prog X.w H h':=fun {a h'} ha hs b ob e=>by
   obtain⟨_,_,hfree⟩:=ha
   refine(I.hok b ob e).stay (fun c w' hc q=>(hs.2 c ?_).trans q) (fun _ q=>q) fun _ _ q=>q
   rintro rfl
   rcases hc with rfl | hc
   · rw[hfree] at e;cases e
   · rw[hfree] at hc;cases hc
 rcases hx with hk | hk
 · refine wpAny_storeName_local hk hn (fun h' hn' hs=>?_) hcls
   obtain⟨oL,_,_,hoL,_⟩:=id hn
   refine h _ ⟨I.ok,I.os,I.bare,⟨fun b o e n hb hx=>?_,fun b o e n hb hx=>?_,I.base.free,fun b o e hx=>?_,I.base.tups,I.base.frzs,I.base.tbls⟩,⟨_,hn',fun j y v' e1 e2 e3=>?_⟩,fun y c e=>?_,I.free,I.freeC,fun p hp=>?_,tracked ⟨oL,hoL,I.free⟩ hs,by simpa using I.len⟩ ⟨_,hs,.inl rfl⟩
   · exact(hs.2 b (Wh (Wy (Qg e) I.ok.above))).trans (I.base.keep b o e n hb hx)
   · obtain⟨sl,e1⟩:=I.base.slot b o e n hb hx
     exact⟨sl,(hs.2 b (Wh (Wy (Qg e) I.ok.above))).trans e1⟩
   · obtain⟨o',e1⟩:=I.base.there b o e hx
     exact⟨o',(hs.2 b (Wh (Wy (Qg e) I.ok.above))).trans e1⟩
   · by_cases hj:j=i
     · subst hj
       rw[hi] at e1;cases e1
       rw[Re hiσ] at e2
       cases e2
       exact⟨u,r,.inl ⟨hk,by simp⟩⟩
     · rw[Qk (Ne.symm hj)] at e2
       obtain⟨u',r',q⟩:=hl j y v' e1 e2 e3
       refine⟨u',r',?_⟩
       rcases q with⟨k,e⟩ | ⟨k,c,e,z⟩
       · refine .inl ⟨k,?_⟩
         have:y≠x:=fun e=>hj (zY1 hN e1 (e ▸ hi))
         simp[this,e]
       · exact .inr ⟨k,c,e,z.sameBut hs (cne y c e)⟩
   · obtain⟨w',z⟩:=I.cell y c e
     exact⟨w',z.sameBut hs (cne y c e)⟩
   · obtain⟨e,n,ne,nf,d⟩:=I.pin p hp
     exact⟨(hs.2 p.1 ne).trans e,n,ne,nf,d⟩
 · have hfn:X.fn x=true:=by
     rcases hf with z | z
     · exact z
     · rw[z] at hk;cases hk
   obtain⟨c,hc⟩:=I.ok.has x (.inl hk)
   obtain⟨w',z⟩:=I.cell x c hc
   refine wpAny_storeName_cell I.ok.kind hk hc z (fun h' hc' hs=>?_)
   obtain⟨oc,hoc,hocd⟩:=id z
   refine h { s with heap:=h' } ⟨I.ok,I.os,I.bare,⟨fun b o e n hb hx=>?_,fun b o e n hb hx=>?_,I.base.free,fun b o e hx=>?_,I.base.tups,I.base.frzs,I.base.tbls⟩,⟨m,hn.sameBut hs (Ne.symm (cne x c hc)),fun j y v' e1 e2 e3=>?_⟩,fun y c' e=>?_,I.free,I.freeC,fun p hp=>?_,tracked ⟨oc,hoc,I.freeC x c hc⟩ hs,by simpa using I.len⟩ ⟨c,hs,.inr hc⟩
   · exact(hs.2 b (Wh (Wy (Qg e) (I.ok.cab x c hfn hc)))).trans (I.base.keep b o e n hb hx)
   · obtain⟨sl,e1⟩:=I.base.slot b o e n hb hx
     exact⟨sl,(hs.2 b (Wh (Wy (Qg e) (I.ok.cab x c hfn hc)))).trans e1⟩
   · obtain⟨o',e1⟩:=I.base.there b o e hx
     exact⟨o',(hs.2 b (Wh (Wy (Qg e) (I.ok.cab x c hfn hc)))).trans e1⟩
   · by_cases hj:j=i
     · subst hj
       rw[hi] at e1;cases e1
       rw[Re hiσ] at e2
       cases e2
       exact⟨u,r,.inr ⟨.inl hk,c,hc,hc'⟩⟩
     · rw[Qk (Ne.symm hj)] at e2
       obtain⟨u',r',q⟩:=hl j y v' e1 e2 e3
       refine⟨u',r',?_⟩
       rcases q with q | ⟨k,c',e,z'⟩
       · exact .inl q
       · refine .inr ⟨k,c',e,z'.sameBut hs ?_⟩
         rintro rfl
         exact hj (zY1 hN e1 (I.ok.inj _ _ _ e hc ▸ hi))
   · by_cases hcc:c'=c
     · subst hcc;exact⟨_,hc'⟩
     · obtain⟨w2,z2⟩:=I.cell y c' e
       exact⟨w2,z2.sameBut hs hcc⟩
   · obtain⟨e,n,ne,nf,d⟩:=I.pin p hp
     refine⟨(hs.2 p.1 ?_).trans e,n,ne,nf,d⟩
     intro q
     rw[q,hoc] at e
     have q':oc=p.2:=Wg e
     exact d w' (by rw[←q'];exact hocd)
theorem cV {M:Model}{A:Around}{E:Value->Shared->Prop}{i:Nat}{x:Str}{v:V}{u:Value}{Q:Unit->Shared->Prop}(I:Inv X pins σ H s)(hN:X.N.Nodup)(hi:X.N[i]?=some x)(hx:Loc X.env.scope x)(r:RelV v u)
   (h:∀s',Inv X pins (σ.set i (some v)) H s'->Q () s') (hf:X.fn x=true∨X.env.scope.names.lookup x=some .local:=by first | exact .inl rfl | exact .inr rfl | assumption):wpAny M A (storeName X.env x u) Q E s :=
 aC I hN hi hx r (fun s' I' _=>h s' I') hf
theorem Inv.call' {s':Shared}{ch:List Addr}(I:Inv X pins σ H s)(ho:s'.os=s.os)(u:Un (frs X.stack) ch H H' s.heap s'.heap)(hok:HOk X.prog X.w H' s'.heap)(hg:AllBare s'.gens)
   (hch:∀b∈ch,(b∈X.ex∨X.s₀.heap.objs.size<=b)/\b≠X.env.locals/\(∀x c,X.env.cells.lookup x=some c->c≠b)/\∀p∈X.pn++pins,p.1≠b):Inv X pins σ H' s':=by
 obtain⟨h',g',d',t',o'⟩:=s'
 have e:o'=s.os:=ho
 subst e
 exact I.call (g':=g') (t':=t') (d':=d') u hok hg hch
end
abbrev XK:=Value->Option Addr->Hp->Prop
abbrev St:=List (Option V)
abbrev VK:=V->Hp->Prop
abbrev TE:=St->Hp->VK->Prop
abbrev TT:=St->Hp->(Bool->Hp->Prop)->Prop
abbrev TA:=St->Hp->(List V->Hp->Prop)->Prop
structure Ends where
 nx:St->Hp->Prop
 rt:VK
 bk:St->Hp->Prop:=fun _ _=>False
 ct:St->Hp->Prop:=fun _ _=>False
abbrev TS:=Ends->St->Hp->Prop
def EP (X:Cx)(pins:List (Addr×Obj))(σ:St)(Q:VK)(u:Value)(s':Shared):Prop:=∃v H',Inv X pins σ H' s'/\RelV v u/\Q v H'
def TP (X:Cx)(pins:List (Addr×Obj))(σ:St)(Q:Bool->Hp->Prop)(b:Bool)(s':Shared):Prop:=∃H',Inv X pins σ H' s'/\Q b H'
def AP (X:Cx)(pins:List (Addr×Obj))(σ:St)(Q:List V->Hp->Prop)(us:List Value)(s':Shared):Prop:=∃vs H',Inv X pins σ H' s'/\Vals vs us/\Q vs H'
def SP (X:Cx)(pins:List (Addr×Obj))(D:Ends)(f:Flow)(s':Shared):Prop :=
 match f with
 | .next=>∃σ' H',Inv X pins σ' H' s'/\D.nx σ' H'
 | .brk=>∃σ' H',Inv X pins σ' H' s'/\D.bk σ' H'
 | .cont=>∃σ' H',Inv X pins σ' H' s'/\D.ct σ' H'
 | .ret u=>∃v σ' H',Inv X pins σ' H' s'/\RelV v u/\D.rt v H'
def PE (X:Cx)(e:Expr)(t:TE):Prop :=
 ∀(pins:List (Addr×Obj)) (s:Shared) (σ:St) (H:Hp) (Q:VK),Inv X pins σ H s->t σ H Q->wpAny (model X.prog X.w) X.A (eval e X.env) (EP X pins σ Q) X.xe s
def PT (X:Cx)(e:Expr)(t:TT):Prop :=
 ∀(pins:List (Addr×Obj)) (s:Shared) (σ:St) (H:Hp) (Q:Bool->Hp->Prop),Inv X pins σ H s->t σ H Q->wpAny (model X.prog X.w) X.A (isTrue e X.env (eval e X.env)) (TP X pins σ Q) X.xe s
def PW (X:Cx)(e:Expr)(t:TT):Prop :=
 ∀(whole:Sem Value) (pins:List (Addr×Obj)) (s:Shared) (σ:St) (H:Hp) (Q:Bool->Hp->Prop),Inv X pins σ H s->t σ H Q->wpAny (model X.prog X.w) X.A (isTrue e X.env whole) (TP X pins σ Q) X.xe s
theorem PW.pt {X:Cx}{e:Expr}{t:TT}(h:PW X e t):PT X e t:=h _
def PA (X:Cx)(es:List Expr)(t:TA):Prop :=
 ∀(pos:Pos) (pins:List (Addr×Obj)) (s:Shared) (σ:St) (H:Hp) (Q:List V->Hp->Prop),Inv X pins σ H s->t σ H Q->wpAny (model X.prog X.w) X.A (spliced (backTo pos (starEach es X.env))) (AP X pins σ Q) X.xe s
def PS (X:Cx)(st:Stmt)(t:TS):Prop :=
 ∀(pins:List (Addr×Obj)) (s:Shared) (σ:St) (H:Hp) (D:Ends),Inv X pins σ H s->t D σ H->wpAny (model X.prog X.w) X.A (exec st X.env) (SP X pins D) X.xe s
def PSs (X:Cx)(st:List Stmt)(t:TS):Prop :=
 ∀(pins:List (Addr×Obj)) (s:Shared) (σ:St) (H:Hp) (D:Ends),Inv X pins σ H s->t D σ H->wpAny (model X.prog X.w) X.A (execs st X.env) (SP X pins D) X.xe s
theorem thn {α:Type}{t:Sem α}{Q Q':α->Shared->Prop}{M:Model}{A:Around}{E:Value->Shared->Prop}{s:Shared}(h:wpAny M A t Q E s)(hQ:∀a s,Q a s->Q' a s):wpAny M A t Q' E s:=Yo h hQ fun _ _ x=>x
section
variable {X:Cx}
def zSO (i:Nat):TE:=fun σ H Q=>∃v,σ[i]?=some (some v)/\Q v H
def tC (v:V):TE:=fun _ H Q=>Q v H
theorem rZ {i:Nat}{x:Str}{pos:Pos}(hN:X.N[i]?=some x)(hv:Vis X.env.scope x)(hd:(x==("__debug__":Str))=false:=by decide)(hcd:(x==("__classdict__":Str))=false:=by decide):PE X (.Name x pos) (zSO i):=by
 intro pins s σ H Q I h
 obtain⟨v,e,h⟩:=h
 obtain⟨m,hn,hl⟩:=I.loc
 obtain⟨u,r,l⟩:=hl i x v hN e hv
 have fin:EP X pins σ Q u s:=⟨v,H,I,r,h⟩
 rcases l with⟨hk,hm⟩ | ⟨hk,c,hc,hcell⟩
 · exact wpAny_Name (wpAny_loadName_local I.ok.kind hk hn hm fin) hd
 · rcases hk with hk | hk
   · exact wpAny_Name (wpAny_loadName_cell I.ok.kind hk hc hcell fin) hd
   · exact wpAny_Name (wpAny_loadName_free I.ok.kind hk hc hcell fin hcd) hd
theorem zWF {i j pos}:PE X (.Constant (.int i) j pos) (tC (.int i)):=fun _ _ _ H _ I h=>wpAny_Constant_int ⟨.int i,H,I.tok _,⟨_,rfl⟩,h⟩
theorem zOJ {b j pos}:PE X (.Constant (.bool b) j pos) (tC (.bl b)):=fun _ _ _ H _ I h=>Constant_bool ⟨.bl b,H,I,rfl,h⟩
theorem zTY {j pos}:PE X (.Constant .none j pos) (tC .non):=fun _ _ _ H _ I h=>Constant_none ⟨.non,H,I,rfl,h⟩
theorem zQf {x j pos}:PE X (.Constant (.str x) j pos) (tC (.str x)):=fun _ _ _ H _ I h=>Calls.Constant_str ⟨.str x,H,I.tok _,⟨_,rfl⟩,h⟩
def Gl (X:Cx)(x:Str):Prop:=X.env.kindOf x=some .globalImplicit
theorem zYB {E:Value->Shared->Prop}{pins:List (Addr×Obj)}{s:Shared}{σ:St}{H:Hp}{x:Str}{u:Value}{pos:Pos}{Q:Value->Shared->Prop}(I:Inv X pins σ H s)(hg:Gl X x)(hm:X.mg x=some u)(h:Q u s)
   (hd:(x==("__debug__":Str))=false:=by decide):wpAny (model X.prog X.w) X.A (eval (.Name x pos) X.env) Q E s :=
 Oz I.ok.kind hg (Calls.loadGlobal_global (by rw[I.ok.glob];exact I.mod.glob.keeps I.bk) hm h) hd
theorem mQ {E:Value->Shared->Prop}{pins:List (Addr×Obj)}{s:Shared}{σ:St}{H:Hp}{x:Str}{u:Value}{pos:Pos}{Q:Value->Shared->Prop}(I:Inv X pins σ H s)(hg:Gl X x)(hm:X.mg x=none)(hv:bootBuiltins x=some u)(h:Q u s)
   (hn:x≠"__name__":=by decide) (hd:(x==("__debug__":Str))=false:=by decide):wpAny (model X.prog X.w) X.A (eval (.Name x pos) X.env) Q E s:=by
 obtain⟨mb,h1,h2⟩:=I.mod.blt
 exact Oz I.ok.kind hg (Calls.loadGlobal_builtin (by rw[I.ok.glob];exact I.mod.glob.keeps I.bk) hm (by rw[I.ok.blt];exact h1.keeps I.bk) ((h2 x hn).trans hv) h) hd
theorem zRN {x:Str}{v:V}{u:Value}{pos:Pos}(hg:Gl X x)(hm:X.mg x=none)(hv:bootBuiltins x=some u)(r:RelV v u)(hn:x≠"__name__":=by decide)(hd:(x==("__debug__":Str))=false:=by decide):PE X (.Name x pos) (tC v) :=
 fun _ _ _ H _ I h=>mQ I hg hm hv ⟨v,H,I,r,h⟩ hn hd
variable {a b:Expr} {ta tb:TE} {pos:Pos}
def tB (t:TE):TT:=fun σ H Q=>t σ H fun x H1=>∃c,x = .bl c/\Q c H1
theorem zPN {e:Expr}{t:TE}(h:PE X e t)(he:∀whole,isTrue e X.env whole=(do let v ←whole;standAt e.pos;holding [v] (truthy v)):=by intro _;rfl):PT X e (tB t):=by
 intro pins s σ H Q I hw
 refine isTrue_plain (thn (h pins s σ H _ I hw) fun v s1 ⟨x,H1,I1,r1,q1⟩=>?_) (he _)
 obtain⟨d,rfl,q⟩:=q1
 cases r1
 exact Ti ⟨H1,I1,q⟩
variable {tA tB':TT} {rest:List Expr}
def zOu (t u:TT):TT:=fun σ H Q=>t σ H fun c H1=>if c=true then u σ H1 Q else Q false H1
def tOr (t u:TT):TT:=fun σ H Q=>t σ H fun c H1=>if c=true then Q true H1 else u σ H1 Q
def zO2 (t:TT):TT:=fun σ H Q=>t σ H fun c H1=>Q (!c) H1
theorem zR4 (ha:PT X a tA):PW X (.BoolOp .And [a] pos) tA:=by
 intro wh pins s σ H Q I h
 refine isTrue_and (thn (ha pins s σ H Q I h) fun c s1 e=>?_)
 cases c with
 | true=>exact isTrue_and_nil e
 | false=>exact e
theorem zPU (ha:PT X a tA):PW X (.BoolOp .Or [a] pos) tA:=by
 intro wh pins s σ H Q I h
 refine isTrue_or (thn (ha pins s σ H Q I h) fun c s1 e=>?_)
 cases c with
 | false=>exact isTrue_or_nil e
 | true=>exact e
theorem zPZ (ha:PT X a tA)(hb:PW X (.BoolOp .And (b::rest) pos) tB'):PW X (.BoolOp .And (a::b::rest) pos) (zOu tA tB'):=by
 intro wh pins s σ H Q I h
 refine isTrue_and (thn (ha pins s σ H _ I h) fun c s1 ⟨H1,I1,q1⟩=>?_)
 cases c with
 | true=>exact hb wh pins s1 σ H1 Q I1 q1
 | false=>exact⟨H1,I1,q1⟩
theorem zPw (ha:PT X a tA)(hb:PW X (.BoolOp .Or (b::rest) pos) tB'):PW X (.BoolOp .Or (a::b::rest) pos) (tOr tA tB'):=by
 intro wh pins s σ H Q I h
 refine isTrue_or (thn (ha pins s σ H _ I h) fun c s1 ⟨H1,I1,q1⟩=>?_)
 cases c with
 | true=>exact⟨H1,I1,q1⟩
 | false=>exact hb wh pins s1 σ H1 Q I1 q1
theorem zPL (ha:PT X a tA):PT X (.UnaryOp .Not a pos) (zO2 tA):=by
 intro pins s σ H Q I h
 exact isTrue_not (ha pins s σ H (fun c H1=>Q (!c) H1) I h)
def zOW (ta tb:TE):TE:=fun σ H Q=>ta σ H fun x H1=>∃c,x = .bl c/\if c=true then tb σ H1 Q else Q (.bl false) H1
def zP0 (ta:TE):TE:=fun σ H Q=>ta σ H fun x H1=>∃c,x = .bl c/\Q (.bl (!c)) H1
theorem zQI {op}{t:TE}(h:PE X a t):PE X (.BoolOp op [a] pos) t:=fun pins s σ H Q I hw=>BoolOp_one (h pins s σ H Q I hw)
theorem zQb (ha:PE X a ta)(hb:PE X (.BoolOp .And (b::rest) pos) tb):PE X (.BoolOp .And (a::b::rest) pos) (zOW ta tb):=by
 intro pins s σ H Q I h
 refine BoolOp_and (thn (ha pins s σ H _ I h) fun v s1 ⟨x,H1,I1,r1,q1⟩=>?_)
 obtain⟨c,rfl,q1⟩:=q1
 cases r1
 refine Ti ?_
 cases c with
 | true=>exact hb pins s1 σ H1 Q I1 q1
 | false=>exact⟨.bl false,H1,I1,rfl,q1⟩
theorem zQ0 (ha:PE X a ta):PE X (.UnaryOp .Not a pos) (zP0 ta):=by
 intro pins s σ H Q I h
 refine UnaryOp_ (thn (ha pins s σ H _ I h) fun v s1 ⟨x,H1,I1,r1,q1⟩=>?_)
 obtain⟨c,rfl,q1⟩:=q1
 cases r1
 exact not_of (Ti ⟨.bl (!c),H1,I1,rfl,q1⟩)
def tIf (t:TT)(ta tb:TE):TE:=fun σ H Q=>t σ H fun c H1=>if c=true then ta σ H1 Q else tb σ H1 Q
theorem zU1 {c:Expr}(hc:PT X c tA)(ha:PE X a ta)(hb:PE X b tb):PE X (.IfExp c a b pos) (tIf tA ta tb):=by
 intro pins s σ H Q I h
 refine wpAny_IfExp (thn (hc pins s σ H _ I h) fun d s1 ⟨H1,I1,q1⟩=>?_)
 cases d with
 | true=>exact ha pins s1 σ H1 Q I1 q1
 | false=>exact hb pins s1 σ H1 Q I1 q1
end
def SqL (K:PySem.W.Frag)(H:Hp)(a:Addr)(xs:List V):Prop :=
 Rd H a (.lst xs) ∨
   ∃(o:Obj) (its:Array Value) (n:Nat),K.lookup a=some o/\o.cls = .type "list"/\o.dict=none/\o.data = .seq its n/\its.size<=sizeLine/\Vals xs its.toList
def SqT (K:PySem.W.Frag)(H:Hp)(a:Addr)(xs:List V):Prop :=
 Rd H a (.tup xs) ∨
   ∃(o:Obj) (its:Array Value) (n:Nat),K.lookup a=some o/\o.cls = .type "tuple"/\o.data = .seq its n/\its.size<=sizeLine/\Vals xs its.toList
def zO4:Value->Option V
 | .none=>some .non
 | .bool b=>some (.bl b)
 | .int i _=>some (.int i)
 | .str x _=>some (.str x)
 | .bytes b _=>some (.byt b)
 | .float b _=>some (.flt b)
 | .ref a=>some (.ref a)
 | .type n=>some (.ty n)
 | _=>none
theorem RelV.abs {x:V}{u:Value}(r:RelV x u):zO4 u=some x:=by
 cases x with
 | non=>cases r;rfl
 | bl _=>cases r;rfl
 | int _=>obtain⟨t,rfl⟩:=r;rfl
 | str _=>obtain⟨t,rfl⟩:=r;rfl
 | byt _=>obtain⟨t,rfl⟩:=r;rfl
 | flt _=>obtain⟨t,rfl⟩:=r;rfl
 | ref _=>cases r;rfl
 | ty _=>cases r;rfl
theorem RelV.inj {x y:V}{u:Value}(r:RelV x u)(q:RelV y u):x=y:=Wg (r.abs.symm.trans q.abs)
theorem Vals.inj:∀ {xs ys:List V} {us:List Value},Vals xs us->Vals ys us->xs=ys
 | _,_,_,.nil,.nil=>rfl
 | _,_,_,.cons r t,.cons r' t'=>by rw[r.inj r',Vals.inj t t']
section
variable {X:Cx} {pins:List (Addr×Obj)} {σ:St} {H:Hp} {s:Shared} {a:Addr} {xs ys:List V}
theorem SqL.of {K:PySem.W.Frag}(h:H a=some (.lst xs)):SqL K H a xs:=.inl (.inl h)
theorem SqT.of {K:PySem.W.Frag}(h:H a=some (.tup xs)):SqT K H a xs:=.inl (.inl h)
theorem Inv.list (I:Inv X pins σ H s)(h:SqL X.K H a xs):∃its:List Value,Vals xs its/\PlainL s.heap a its.toArray/\xs.length<=sizeLine:=by
 rcases h with h | ⟨o,its,n,hk,hc,hd,hs,hz,r⟩
 · obtain⟨z,its,n,r,e⟩:=h.ok I.hok
   exact⟨its,r,⟨_,n,e,rfl,rfl,rfl⟩,z⟩
 · refine⟨its.toList,r,⟨o,n,I.kIn a o hk,hc,hd,by simpa using hs⟩,?_⟩
   have e:=r.length
   simp only[Wj] at e
   lia
theorem Inv.tuple (I:Inv X pins σ H s)(h:SqT X.K H a xs):∃its:List Value,Vals xs its/\IsTup s.heap a its.toArray/\xs.length<=sizeLine:=by
 rcases h with h | ⟨o,its,n,hk,hc,hs,hz,r⟩
 · obtain⟨z,its,r,p⟩:=h.ok I.hok
   exact⟨its,r,p,z⟩
 · refine⟨its.toList,r,⟨o,I.kIn a o hk,hc,n,by simpa using hs⟩,?_⟩
   have e:=r.length
   simp only[Wj] at e
   lia
theorem Inv.list_inj (I:Inv X pins σ H s)(h:SqL X.K H a xs)(h':SqL X.K H a ys):xs=ys:=by
 obtain⟨its,r,⟨o,n,e,_,_,d⟩,_⟩:=I.list h
 obtain⟨its',r',⟨o',n',e',_,_,d'⟩,_⟩:=I.list h'
 rw[e] at e';cases e'
 rw[d] at d'
 injection d' with d1 _
 have:its=its':=by simpa using Ep Array.toList d1
 subst this
 exact r.inj r'
theorem Inv.tuple_inj (I:Inv X pins σ H s)(h:SqT X.K H a xs)(h':SqT X.K H a ys):xs=ys:=by
 obtain⟨its,r,⟨o,e,_,n,d⟩,_⟩:=I.tuple h
 obtain⟨its',r',⟨o',e',_,n',d'⟩,_⟩:=I.tuple h'
 rw[e] at e';cases e'
 rw[d] at d'
 injection d' with d1 _
 have:its=its':=by simpa using Ep Array.toList d1
 subst this
 exact r.inj r'
end
abbrev Cx.wish (X:Cx)(E:Value->Shared->Prop):Cx:={ X with xe:=E }
abbrev Cx.nox (X:Cx):Cx:=X.wish fun _ _=>False
theorem Cx.Ok.wish {X:Cx}(ok:X.Ok)(E:Value->Shared->Prop):(X.wish E).Ok :=
 ⟨ok.mod,ok.kind,ok.glob,ok.blt,ok.above,ok.inj,ok.has,ok.cab,ok.hd,ok.frames,ok.stk,ok.exf,ok.bs,ok.bsz,ok.noex,ok.exfs,ok.funs,ok.frf⟩
theorem Cx.Ok.unwish {X:Cx}{E:Value->Shared->Prop}(ok:(X.wish E).Ok):X.Ok :=
 ⟨ok.mod,ok.kind,ok.glob,ok.blt,ok.above,ok.inj,ok.has,ok.cab,ok.hd,ok.frames,ok.stk,ok.exf,ok.bs,ok.bsz,ok.noex,ok.exfs,ok.funs,ok.frf⟩
section
variable {X:Cx} {pins:List (Addr×Obj)} {σ:St} {H:Hp} {s:Shared} {E:Value->Shared->Prop}
theorem Inv.wish (I:Inv X pins σ H s)(E:Value->Shared->Prop):Inv (X.wish E) pins σ H s:=⟨I.ok.wish E,I.os,I.bare,I.base,I.loc,I.cell,I.free,I.freeC,I.pin,I.hok,I.len⟩
theorem Inv.unwish (I:Inv (X.wish E) pins σ H s):Inv X pins σ H s:=⟨I.ok.unwish,I.os,I.bare,I.base,I.loc,I.cell,I.free,I.freeC,I.pin,I.hok,I.len⟩
theorem SP.unwish {D:Ends}{f:Flow}{s':Shared}(h:SP (X.wish E) pins D f s'):SP X pins D f s':=by
 cases f with
 | next=>obtain⟨σ',H',I,q⟩:=h;exact⟨σ',H',I.unwish,q⟩
 | brk=>obtain⟨σ',H',I,q⟩:=h;exact⟨σ',H',I.unwish,q⟩
 | cont=>obtain⟨σ',H',I,q⟩:=h;exact⟨σ',H',I.unwish,q⟩
 | ret u=>obtain⟨v,σ',H',I,r,q⟩:=h;exact⟨v,σ',H',I.unwish,r,q⟩
theorem PSs.nox {st:List Stmt}{t:TS}(h:PSs X.nox st t):PSs X st t:=fun pins s σ H D I hw =>
 Yo (h pins s σ H D (I.wish _) hw) (fun _ _ q=>q.unwish) fun _ _ z=>False.elim z
variable {st:Stmt} {rest:List Stmt} {t u:TS} {e:Expr} {te:TE} {pos:Pos}
def zQP:TS:=fun D σ H=>D.nx σ H
def zO6 (t u:TS):TS:=fun D σ H=>t { D with nx:=u D } σ H
theorem gR:PSs X [] zQP:=fun _ _ σ H _ I h=>Uw ⟨σ,H,I,h⟩
theorem w8 (h1:PS X st t)(h2:PSs X rest u):PSs X (st::rest) (zO6 t u):=by
 intro pins s σ H D I h
 refine wpAny_execs_cons (thn (h1 pins s σ H { D with nx:=u D } I h) fun f s1 q=>?_)
 cases f with
 | next =>
   obtain⟨σ',H',I',q⟩:=q
   exact h2 pins s1 σ' H' D I' q
 | ret v=>exact q
 | brk=>exact q
 | cont=>exact q
theorem qP (h1:PS X st t):PSs X [st] t:=by
 intro pins s σ H D I h
 refine wpAny_execs_cons (thn (h1 pins s σ H D I h) fun f s1 q=>?_)
 cases f with
 | next=>exact Uw q
 | ret v=>exact q
 | brk=>exact q
 | cont=>exact q
theorem Inv.quiet {pins:List (Addr×Obj)}{σ:St}{H:Hp}{s:Shared}(I:Inv X pins σ H s):interactive X.env=false:=by simp[interactive,I.ok.kind]
def zPy (te:TE):TS:=fun D σ H=>te σ H fun _ H1=>D.nx σ H1
theorem nL (he:PE X e te)(hs:swapsWith e none pos.line X.env=pure false:=by rfl):PS X (.Expr e pos) (zPy te):=by
 intro pins s σ H D I h
 exact wpAny_Expr_any (thn (he pins s σ H _ I h) fun v s1 ⟨x,H1,I1,r1,q1⟩=>⟨σ,H1,I1,q1⟩) I.quiet hs
def zOx (te:TE):TS:=fun D σ H=>te σ H D.rt
theorem zXb (he:PE X e te):PS X (.Return (some e) pos) (zOx te):=by
 intro pins s σ H D I h
 exact wpAny_Return_some (thn (he pins s σ H _ I h) fun v s1 ⟨x,H1,I1,r1,q1⟩=>⟨x,σ,H1,I1,r1,q1⟩)
def zOA (c:TT)(t u:TS):TS:=fun D σ H=>c σ H fun b H1=>if b=true then t D σ H1 else u D σ H1
theorem zZY {c:Expr}{a b:List Stmt}{tc:TT}(hc:PT X c tc)(ha:PSs X a t)(hb:PSs X b u):PS X (.If c a b pos) (zOA tc t u):=by
 intro pins s σ H D I h
 refine wpAny_If (thn (hc pins s σ H _ I h) fun d s1 ⟨H1,I1,q1⟩=>?_)
 cases d with
 | true=>exact ha pins s1 σ H1 D I1 q1
 | false=>exact hb pins s1 σ H1 D I1 q1
end
abbrev TG:=V->St->Hp->(St->Hp->Prop)->Prop
abbrev TGs:=List V->St->Hp->(St->Hp->Prop)->Prop
def PG (X:Cx)(target:Expr)(t:TG):Prop :=
 ∀(pins:List (Addr×Obj)) (s:Shared) (σ:St) (H:Hp) (v:V) (u:Value) (Q:St->Hp->Prop),Inv X pins σ H s->RelV v u->t v σ H Q ->
   wpAny (model X.prog X.w) X.A (assign target X.env u) (fun _ s'=>∃σ' H',Inv X pins σ' H' s'/\Q σ' H') X.xe s
def PGs (X:Cx)(ts:List Expr)(t:TGs):Prop :=
 ∀(pins:List (Addr×Obj)) (s:Shared) (σ:St) (H:Hp) (vs:List V) (us:List Value) (Q:St->Hp->Prop),Inv X pins σ H s->Vals vs us->t vs σ H Q ->
   wpAny (model X.prog X.w) X.A (assignInOrder ((assignEach ts X.env).map (·.2)) us) (fun _ s'=>∃σ' H',Inv X pins σ' H' s'/\Q σ' H') X.xe s
abbrev zQ4:=V->V->V->Hp->(Hp->Prop)->Prop
def zPv (X:Cx)(t:zQ4):Prop :=
 ∀(pins:List (Addr×Obj)) (s:Shared) (σ:St) (H:Hp) (o i v:V) (ov iv u:Value) (Q:Hp->Prop),Inv X pins σ H s->RelV o ov->RelV i iv->RelV v u->t o i v H Q ->
   wpAny (model X.prog X.w) X.A (setItem ov iv u) (fun _ s'=>∃H',Inv X pins σ H' s'/\Q H') X.xe s
abbrev TIp:=V->V->Hp->VK->Prop
def PIp (X:Cx)(op:Operator)(t:TIp):Prop :=
 ∀(pins:List (Addr×Obj)) (s:Shared) (σ:St) (H:Hp) (x y:V) (v u:Value) (Q:VK),Inv X pins σ H s->RelV x v->RelV y u->t x y H Q ->
   wpAny (model X.prog X.w) X.A (inplaceOp op v u) (EP X pins σ Q) X.xe s
section
variable {X:Cx} {pos:Pos}
def zXR (i:Nat):TG:=fun v σ H Q=>Q (σ.set i (some v)) H
theorem dL {i:Nat}{x:Str}(hN:X.N.Nodup)(hi:X.N[i]?=some x)(hx:Loc X.env.scope x)(hf:X.fn x=true∨X.env.scope.names.lookup x=some .local:=by first | exact .inl rfl | exact .inr rfl | assumption):PG X (.Name x pos) (zXR i):=by
 intro pins s σ H v u Q I r h
 exact wpAny_assign_Name (cV I hN hi hx r (fun s' I'=>⟨_,H,I',h⟩) hf)
def zOC:TGs:=fun vs σ H Q=>vs=[]/\Q σ H
def zOP (t:TG)(u:TGs):TGs:=fun vs σ H Q=>∃v r,vs=v::r/\t v σ H fun σ' H'=>u r σ' H' Q
theorem zWf:PGs X [] zOC:=by
 intro pins s σ H vs us Q I r h
 obtain⟨e,h⟩:=h
 subst e
 cases r
 exact assignInOrder_nil ⟨σ,H,I,h⟩
theorem hU {e:Expr}{es:List Expr}{t:TG}{u:TGs}(h1:PG X e t)(h2:PGs X es u)
   (hs:(assignEach (e::es) X.env).map (·.2)=assign e X.env::(assignEach es X.env).map (·.2):=by rfl):PGs X (e::es) (zOP t u):=by
 intro pins s σ H vs us Q I r h
 obtain⟨v,vr,e1,h⟩:=h
 subst e1
 cases r with
 | cons r rr =>
   rw[hs]
   refine assignInOrder_cons (thn (h1 pins s σ H _ _ _ I r h) fun _ s1 ⟨σ1,H1,I1,q1⟩=>?_)
   exact h2 pins s1 σ1 H1 _ _ Q I1 rr q1
def zO5 (K:PySem.W.Frag)(n:Nat)(t:TGs):TG:=fun v σ H Q=>∃a xs,v = .ref a/\SqT K H a xs/\xs.length=n/\t xs σ H Q
theorem zSW {es:List Expr}{k:Nat}{t:TGs}{n:Nat}(hc:X.calm=true)(h:PGs X es t)
   (hn:(assignEach es X.env).length=n:=by rfl) (hst:(assignEach es X.env).findIdx? (·.1)=none:=by rfl):PG X (.Tuple es k pos) (zO5 X.K n t):=by
 intro pins s σ H v u Q I r hw
 obtain⟨a,xs,e1,hq,hl,hw⟩:=hw
 subst e1
 cases r
 obtain⟨its,rv,ht,hz⟩:=I.tuple hq
 refine assign_Tuple_tuple (I.ok.hd hc) ht (by simp[hn,←hl,rv.length]) hst fun h' hx=>?_
 have I1:Inv X pins σ H { s with heap:=h' }:=I.kept (t':=s.toks) fun b o e=>hx b o (Wh (Qg e)) e
 exact h pins _ σ H xs _ Q I1 (by simpa using rv) hw
def zOF (to ti:TE)(t:zQ4):TG:=fun v σ H Q=>to σ H fun o H1=>ti σ H1 fun i H2=>t o i v H2 fun H3=>Q σ H3
theorem zPX {o i:Expr}{to ti:TE}{t:zQ4}(ho:PE X o to)(hi:PE X i ti)(hs:zPv X t)
   (ha:∀v,assign (.Subscript o i pos) X.env v=(do
     let ov ←holding [v] (eval o X.env)
     let iv ←holding [v,ov] (eval i X.env)
     standAt pos
     holding [v,ov,iv] (setItem ov iv v)
     release [v,ov,iv] []):=by intro _;rfl):PG X (.Subscript o i pos) (zOF to ti t):=by
 intro pins s σ H v u Q I r h
 rw[ha]
 refine Qe (En (thn (ho pins s σ H _ I h) fun ov s1 ⟨x,H1,I1,r1,q1⟩=>?_))
 refine Qe (En (thn (hi pins s1 σ H1 _ I1 q1) fun iv s2 ⟨y,H2,I2,r2,q2⟩=>?_))
 refine Qe (wpAny_standAt (Qe (En (thn (hs pins s2 σ H2 x y v ov iv u _ I2 r1 r2 r q2) fun _ s3 ⟨H3,I3,q3⟩=>?_))))
 exact wpAny_release ⟨σ,H3,I3,q3⟩
def zVh (te:TE)(g:TG):TS:=fun D σ H=>te σ H fun x H1=>g x σ H1 D.nx
theorem zXf {tg e:Expr}{te:TE}{g:TG}(he:PE X e te)(hg:PG X tg g)(hs:swapsWithSole [tg] e pos.line X.env=pure false:=by rfl)(hw:swappedStores [tg] e X.env=pure none:=by rfl)
   (h1:(assignEach [tg] X.env).map (·.2)=[assign tg X.env]:=by rfl):PS X (.Assign [tg] e pos) (zVh te g):=by
 intro pins s σ H D I h
 refine wpAny_Assign_stores (thn (he pins s σ H _ I h) fun v s1 ⟨x,H1,I1,r1,q1⟩=>?_) hs hw
 rw[h1]
 exact thn (hg pins s1 σ H1 x v _ I1 r1 q1) fun _ s2 q=>q
theorem mP {i:Nat}{x:Str}{e:Expr}{te:TE}{pos':Pos}(hN:X.N.Nodup)(hi:X.N[i]?=some x)(hx:Loc X.env.scope x)(he:PE X e te)(hs:swapsWith e (some (.Name x pos')) pos.line X.env=pure false:=by rfl)(hf:X.fn x=true∨X.env.scope.names.lookup x=some .local:=by first | exact .inl rfl | exact .inr rfl | assumption) :
   PS X (.Assign [.Name x pos'] e pos) (zVh te (zXR i)):=by
 intro pins s σ H D I h
 refine wpAny_Assign_Name (thn (he pins s σ H _ I h) fun v s1 ⟨y,H1,I1,r1,q1⟩=>?_) hs
 exact cV I1 hN hi hx r1 (fun s2 I2=>⟨_,H1,I2,q1⟩) hf
def zOB (i:Nat)(te:TE)(ti:TIp):TS:=fun D σ H=>∃x,σ[i]?=some (some x)/\te σ H fun y H1=>ti x y H1 fun z H2=>D.nx (σ.set i (some z)) H2
theorem zPP {i:Nat}{x:Str}{e:Expr}{te:TE}{op:Operator}{ti:TIp}{pos':Pos}(hN:X.N.Nodup)(hi:X.N[i]?=some x)(hx:Loc X.env.scope x)(he:PE X e te)(ho:PIp X op ti)(hf:X.fn x=true∨X.env.scope.names.lookup x=some .local:=by first | exact .inl rfl | exact .inr rfl | assumption) :
   PS X (.AugAssign (.Name x pos') op e pos) (zOB i te ti):=by
 intro pins s σ H D I h
 obtain⟨v,e1,h⟩:=h
 obtain⟨m,hn,hl⟩:=I.loc
 have vis:Vis X.env.scope x:=by rcases hx with k | k;exact .inl k;exact .inr (.inl k)
 obtain⟨u,r,l⟩:=hl i x v hi e1 vis
 refine wpAny_AugAssign_Name ?_
 have go:wpAny (model X.prog X.w) X.A (eval e X.env) (fun w s₂=>wpAny (model X.prog X.w) X.A (inplaceOp op u w) (fun r s₃ => wpAny (model X.prog X.w) X.A (storeName X.env x r) (fun _=>SP X pins D .next) X.xe s₃) X.xe s₂) X.xe s:=by
   refine thn (he pins s σ H _ I h) fun w s1 ⟨y,H1,I1,r1,q1⟩=>?_
   refine thn (ho pins s1 σ H1 v y u w _ I1 r r1 q1) fun z s2 ⟨zv,H2,I2,r2,q2⟩=>?_
   exact cV I2 hN hi hx r2 (fun s3 I3=>⟨_,H2,I3,q2⟩) hf
 rcases l with⟨hk,hm⟩ | ⟨hk,c,hc,hcell⟩
 · exact wpAny_loadName_local I.ok.kind hk hn hm go
 · rcases hk with hk | hk
   · exact wpAny_loadName_cell I.ok.kind hk hc hcell go
   · rcases hx with k | k
     · have:X.env.scope.names.lookup x=some .free:=hk
       rw[k] at this;cases this
     · have:X.env.scope.names.lookup x=some .free:=hk
       rw[k] at this;cases this
def ipI (f:Int->Int->Int):TIp:=fun x y H Q=>∃i j,x = .int i/\y = .int j/\Q (.int (f i j)) H
theorem zQi:PIp X .Add (ipI fun i j=>i+j):=by
 intro pins s σ H x y v u Q I r1 r2 h
 obtain⟨i,j,e1,e2,q⟩:=h
 subst e1;subst e2
 obtain⟨t,rfl⟩:=r1
 obtain⟨t',rfl⟩:=r2
 exact iadd_int ⟨.int _,H,I.tok _,⟨_,rfl⟩,q⟩
def zQd (c:TT)(tb:TS):TS:=fun D σ H=>∃W:Nat->St->Hp->Prop,(∃m,W m σ H)/\∀m σ H,W m σ H ->
 c σ H fun b H1=>if b=true then ∃N:St->Hp->Prop,(∀σ' H',N σ' H'->∃m',m' < m/\W m' σ' H')/\tb { D with nx:=N,ct:=N,bk:=D.nx } σ H1 else D.nx σ H1
theorem zYj {c:Expr}{body:List Stmt}{tc:TT}{tb:TS}(hp:PassesOwn (model X.prog X.w) X.A X.env X.xe)(hc:PT X c tc)(hb:PSs X body tb):PS X (.While c body [] pos) (zQd tc tb):=by
 intro pins s σ H D I h
 obtain⟨W,⟨m0,w0⟩,turn⟩:=h
 refine wpAny_While (codeAny_whileLoop (fun n s'=>∃σ' H',Inv X pins σ' H' s'/\W n σ' H') ?_ m0 ⟨σ,H,I,w0⟩)
 rintro n s1 ⟨σ1,H1,I1,w1⟩
 refine Rb hp (thn (hc pins s1 σ1 H1 _ I1 (turn n σ1 H1 w1)) fun b s2 ⟨H2,I2,q2⟩=>?_)
 cases b with
 | true =>
   obtain⟨N,hN,q2⟩:=q2
   rw[Qi rfl]
   refine Rb hp (thn (hb pins s2 σ1 H2 _ I2 q2) fun f s3 q3=>?_)
   cases f with
   | next =>
     obtain⟨σ3,H3,I3,n3⟩:=q3
     obtain⟨m',hm,w3⟩:=hN σ3 H3 n3
     exact⟨m',hm,σ3,H3,I3,w3⟩
   | cont =>
     obtain⟨σ3,H3,I3,n3⟩:=q3
     obtain⟨m',hm,w3⟩:=hN σ3 H3 n3
     exact⟨m',hm,σ3,H3,I3,w3⟩
   | brk=>exact q3
   | ret v=>exact q3
 | false =>
   rw[Qa Wa]
   exact Uw ⟨σ1,H2,I2,q2⟩
end
structure It where
 go:Nat->Hp->Prop
 yld:Nat->Hp->V->Hp->Prop
 stop:Nat->Hp->Prop
def jU (X:Cx)(pins:List (Addr×Obj))(H:Hp)(b:Addr):Prop :=
 H b=none/\b≠X.env.locals/\b∉X.fs/\(b∈X.ex∨X.s₀.heap.objs.size<=b)/\(∀x c,X.env.cells.lookup x=some c->c≠b)/\∀p∈X.pn++pins,p.1≠b
theorem Inv.fpOk {X:Cx}{pins:List (Addr×Obj)}{σ:St}{H H':Hp}{s:Shared}{b:Addr}(I:Inv X pins σ H s)(hb:s.heap.objs.size<=b)(hn:H' b=none):jU X pins H' b:=by
 refine⟨hn,Nat.ne_of_gt (Wy I.lt hb),I.nofs hb,.inr (Wu I.sz hb),fun x c e z=>?_,fun p hp z=>?_⟩
 · obtain⟨v,q⟩:=I.cell x c e
   exact absurd (Wy q.lt (by rw[z];exact hb)) (Wv _)
 · exact absurd (Wy (Qg (I.pin p hp).1) (by rw[z];exact hb)) (Wv _)
structure Turn (P:Program)(w:World)(K:PySem.W.Frag)(tg:Expr)(J:It)(fp:List Addr)(it:Addr)(tn:Nat->Heap->Prop):Prop where
 mem:it∈fp
 obj:∀i h,tn i h->∀b∈fp,∃o,h.get? b=some o/\∀v,o.data ≠ .cell v
 keep:∀i h h',tn i h->(∀b∈fp,∀o,h.get? b=some o->h'.get? b=some o)->tn i h'
 item:∀(X:Cx),X.prog=P->X.w=w->X.K=K->X.calm=true->∀(i:Nat) (pins:List (Addr×Obj)) (s:Shared) (σ:St) (H:Hp) (E:Value->Shared->Prop),Inv X pins σ H s->(∀b∈fp,jU X pins H b)->tn i s.heap->J.go i H ->
   wpAny (model P w) X.A (pyNext (.ref it)) (fun r s1=>∃u,r=some u /\
     wpAny (model P w) X.A (letOwnedTupleGo tg (.ref it) u) (fun _ s2=>∃x H',Inv X pins σ H' s2/\RelV x u/\J.yld i H x H'/\tn (i+1) s2.heap/\∀b∈fp,H' b=none) E s1) E s
 done:∀(X:Cx),X.prog=P->X.w=w->X.K=K->X.calm=true->∀(i:Nat) (pins:List (Addr×Obj)) (s:Shared) (σ:St) (H:Hp) (E:Value->Shared->Prop),Inv X pins σ H s->(∀b∈fp,jU X pins H b)->tn i s.heap->J.stop i H ->
   wpAny (model P w) X.A (pyNext (.ref it)) (fun r s1=>r=none/\Inv X pins σ H s1) E s
 self:∀(A:Around) (i:Nat) (s:Shared) (Q:Value->Shared->Prop) (E:Value->Shared->Prop),tn i s.heap->Q (.ref it) s->wpAny (model P w) A (pyIter (.ref it)) Q E s
abbrev TI:=St->Hp->(It->Hp->Prop)->Prop
def PIE (X:Cx)(pins:List (Addr×Obj))(σ:St)(tg:Expr)(R:It->Hp->Prop)(itv:Value)(s2:Shared):Prop :=
 ∃(it:Addr) (fp:List Addr) (tn:Nat->Heap->Prop) (J:It) (H':Hp),itv = .ref it/\Inv X pins σ H' s2/\Turn X.prog X.w X.K tg J fp it tn/\tn 0 s2.heap/\(∀b∈fp,jU X pins H' b)/\R J H'
def PI (X:Cx)(tg iter:Expr)(wi:TI):Prop :=
 ∀(pins:List (Addr×Obj)) (s:Shared) (σ:St) (H:Hp) (R:It->Hp->Prop),Inv X pins σ H s->wi σ H R ->
   wpAny (model X.prog X.w) X.A (eval iter X.env) (fun v s1=>wpAny (model X.prog X.w) X.A (pyIter v) (PIE X pins σ tg R) X.xe s1) X.xe s
theorem zQL {M:Model}{A:Around}{E:Value->Shared->Prop}{s:Shared}{tg:Expr}{it:Addr}{u:Value}{o:Obj}{n:String}{vs:Array Value}{Q:Unit->Shared->Prop}(ho:s.heap.get? it=some o)(hc:o.cls = .type n)(hd:o.data = .fields vs)
   (hn:["enumerate","zip","dict_itemiterator","dict_reverseitemiterator","odict_iterator","itertools.zip_longest","itertools.pairwise"].contains n=false) (hQ:Q () s):wpAny M A (letOwnedTupleGo tg (.ref it) u) Q E s:=by
 unfold letOwnedTupleGo
 cases tg<;>first
   | exact Qx hQ
   | (cases u<;>first
       | exact Qx hQ
       | (refine Qe (wpAny_load ho ?_)
          rw[hc,hd]
          show wpAny M A (if (["enumerate","zip","dict_itemiterator","dict_reverseitemiterator","odict_iterator","itertools.zip_longest","itertools.pairwise"].contains n&&vs[0]?==some (rawInt _))=true then _ else _) Q E s
          rw[Qa (by intro h;rw[hn,Ov] at h;cases h)]
          exact Qx hQ))
def Itl (K:PySem.W.Frag)(a:Addr):It :=
 ⟨fun i H=>∃xs x,SqL K H a xs/\xs[i]?=some x,fun i H x H'=>H'=H/\∀xs,SqL K H a xs->xs[i]?=some x,fun i H=>∃xs,SqL K H a xs/\xs.length<=i⟩
def Itr (lo:Int)(n:Nat):It:=⟨fun i _=>i < n,fun i H x H'=>H'=H/\x = .int (lo+i),fun i _=>n<=i⟩
theorem zUG {P:Program}{w:World}{K:PySem.W.Frag}{tg:Expr}(a it:Addr):Turn P w K tg (Itl K a) [it] it (fun i h=>h.IsListIter it a i) where
 mem:=by simp
 obj:=fun i h st b hb=>by
   have e:b=it:=by simpa using hb
   subst e
   obtain⟨o,e,c,d⟩:=st
   exact⟨o,e,fun v z=>by rw[d] at z;cases z⟩
 keep:=fun i h h' st k=>st.at fun o e=>k it (by simp) o e
 item:=by
   intro X hP hw hK hc i pins s σ H E I hf st hg
   subst hP hw hK
   obtain⟨xs,x,hq,hx⟩:=hg
   obtain⟨its,rv,p,hz⟩:=I.list hq
   obtain⟨u,hu,ru⟩:=rv.get hx
   obtain⟨f0,f1,f2,f3,f4,f5⟩:=hf it (by simp)
   refine wpAny_pyNext_list_item st p.isList (x:=u) (by simpa using hu) fun h' st' sb=>?_
   have I1:Inv X pins σ H { s with heap:=h' }:=I.turned (t':=s.toks) (fun b o hb e=>(sb.2 b hb).trans e) f0 f1 f3 f4 f5
   obtain⟨o,e,c,d⟩:=id st'
   exact⟨u,rfl,zQL (s:={ s with heap:=h' }) e c d (by decide) ⟨x,H,I1,ru,⟨rfl,fun ys hy=>by rw[I.list_inj hy hq];exact hx⟩,st',fun b hb=>(hf b hb).1⟩⟩
 done:=by
   intro X hP hw hK hc i pins s σ H E I hf st hg
   subst hP hw hK
   obtain⟨xs,hq,hx⟩:=hg
   obtain⟨its,rv,p,hz⟩:=I.list hq
   obtain⟨f0,f1,f2,f3,f4,f5⟩:=hf it (by simp)
   have hl:=rv.length
   exact wpAny_pyNext_list_end (I.ok.hd hc) st p.isList (by simp;lia) fun h' eb=>⟨rfl,I.turned (t':=s.toks) (fun b o hb e=>eb b o hb e) f0 f1 f3 f4 f5⟩
 self:=fun _ _ _ _ _ st h=>wpAny_pyIter_listiter st h
theorem zWS {P:Program}{w:World}{K:PySem.W.Frag}{tg:Expr}(it:Addr)(lo:Int)(n:Nat):Turn P w K tg (Itr lo n) [it] it (fun i h=>IsRangeIter h it (lo+(i:Nat)*1) ((n:Int) - (i:Nat)) 1) where
 mem:=by simp
 obj:=fun i h st b hb=>by
   have e:b=it:=by simpa using hb
   subst e
   exact⟨_,st,fun v z=>by
     have z':Data.fields _=Data.cell v:=z
     cases z'⟩
 keep:=fun i h h' st k=>k it (by simp) _ st
 item:=by
   intro X hP hw hK hc i pins s σ H E I hf st hg
   subst hP hw hK
   obtain⟨f0,f1,f2,f3,f4,f5⟩:=hf it (by simp)
   have W:=Walks.range (prog:=X.prog) (w:=X.w) (I.ok.hd hc) it lo 1 n
   refine W.item i s _ _ hg st fun v h' tk hv st' kk=>?_
   obtain⟨t,rfl⟩:=hv
   have I1:Inv X pins σ H { s with heap:=h',toks:=tk }:=I.turned (fun b o hb e=>kk b o (by simpa using hb) e) f0 f1 f3 f4 f5
   refine⟨_,rfl,zQL (s:={ s with heap:=h',toks:=tk }) (n:="range_iterator") st' rfl rfl (by decide) ⟨.int (lo+i),H,I1,⟨t,?_⟩,⟨rfl,rfl⟩,st',fun b hb=>(hf b hb).1⟩⟩
   rw[Int.mul_one]
 done:=by
   intro X hP hw hK hc i pins s σ H E I hf st hg
   subst hP hw hK
   obtain⟨f0,f1,f2,f3,f4,f5⟩:=hf it (by simp)
   exact wpAny_pyNext_range_end (I.ok.hd hc) st (by have:n<=i:=hg;lia) fun h' eb=>⟨rfl,I.turned (t':=s.toks) (fun b o hb e=>eb b o hb e) f0 f1 f3 f4 f5⟩
 self:=fun _ _ _ _ _ st h=>wpAny_pyIter_rangeiter st h
section
variable {X:Cx} {tg:Expr}
def zPF (K:PySem.W.Frag)(tl:TE):TI:=fun σ H R=>tl σ H fun x H1=>∃a,x = .ref a/\(∃xs,SqL K H1 a xs)/\R (Itl K a) H1
theorem zV1 {l:Expr}{tl:TE}(hl:PE X l tl):PI X tg l (zPF X.K tl):=by
 intro pins s σ H R I h
 refine thn (hl pins s σ H _ I h) fun v s1 ⟨x,H1,I1,r1,q1⟩=>?_
 obtain⟨a,e,⟨xs,hq⟩,q⟩:=q1
 subst e
 cases r1
 obtain⟨its,rv,p,hz⟩:=I1.list hq
 refine Ih p.isList ?_
 refine⟨s1.heap.objs.size,[s1.heap.objs.size],_,_,H1,rfl,I1.kept (t':=s1.toks) fun b o e=>Qy _ e,zUG a _,⟨_,Wr _ rfl,rfl,rfl⟩,fun b hb=>?_,q⟩
 have e:b=s1.heap.objs.size:=by simpa using hb
 subst e
 exact I1.fpOk (Qp _) (I1.hok.fresh (Qp _))
theorem zSA {pins:List (Addr×Obj)}{σ:St}{H:Hp}{s:Shared}{R:It->Hp->Prop}{E:Value->Shared->Prop}{lo hi:Int}{t u v:Tok}{tk:Nat}(I:Inv X pins σ H s)(h1 : -(2^62)<=lo)(h2:lo < 2^62)(h3 : -(2^62)<=hi)(h4:hi < 2^62)
   (q:R (Itr lo (hi - lo).toNat) H):wpAny (model X.prog X.w) X.A (pyIter (.ref s.heap.objs.size)) (PIE X pins σ tg R) E { s with heap:=s.heap.push { cls:=.type "range",data:=.fields #[.int lo t,.int hi u,.int 1 v] },toks:=tk }:=by
 refine wpAny_pyIter_range (IsRange.new ..) (small_one h1 h2 h3 h4) ?_
 have I1:Inv X pins σ H { s with heap:=s.heap.push { cls:=.type "range",data:=.fields #[.int lo t,.int hi u,.int 1 v] },toks:=tk }:=I.kept fun b o e=>Qy _ e
 refine⟨(s.heap.push { cls:=.type "range",data:=.fields #[.int lo t,.int hi u,.int 1 v] }).objs.size,[(s.heap.push { cls:=.type "range",data:=.fields #[.int lo t,.int hi u,.int 1 v] }).objs.size],_,_,H,rfl,
   I1.kept (t':=tk) fun b o e=>Qy _ e,zWS _ lo (hi - lo).toNat,?_,fun b hb=>?_,q⟩
 · have e1:lo+((0:Nat):Int)*1=lo:=by simp
   have e2:(((hi - lo).toNat:Nat):Int) - ((0:Nat):Int)=Builtin.Range.rangeSize lo hi 1:=by rw[rangeSize_one];split<;>lia
   show IsRangeIter _ _ (lo+((0:Nat):Int)*1) ((((hi - lo).toNat:Nat):Int) - ((0:Nat):Int)) 1
   rw[e1,e2]
   exact Wr _ rfl
 · have e:b=(s.heap.push { cls:=.type "range",data:=.fields #[.int lo t,.int hi u,.int 1 v] }).objs.size:=by simpa using hb
   subst e
   exact I1.fpOk (Qp _) (I1.hok.fresh (Qp _))
def zP9 (ta:TA):TI:=fun σ H R=>ta σ H fun vs H1=>∃j:Int,vs=[.int j] /\ -(2^62)<=j/\j < 2^62/\R (Itr 0 j.toNat) H1
theorem zVf {a:Expr}{ta:TA}{p pos:Pos}(hg:Gl X "range")(hm:X.mg "range"=none)(ha:PA X [a] ta)(hs:starEach [a] X.env=[(false,eval a X.env)]:=by rfl):PI X tg (.Call (.Name "range" p) [a] [] pos) (zP9 ta):=by
 intro pins s σ H R I h
 refine Call_ (mQ I hg hm boot_range (Rm (thn (ha pos pins s σ H _ I h) fun us s1 ⟨vs,H1,I1,r1,q1⟩=>?_) hs rfl))
 obtain⟨j,e,q1,q2,q⟩:=q1
 subst e
 cases r1 with
 | cons r rr =>
   cases rr
   obtain⟨t,rfl⟩:=r
   exact call_range_1 (zSA I1 (by lia) (by lia) q1 q2 (by simpa using q))
def zOD (wi:TI)(g:TG)(tb:TS):TS:=fun D σ H=>wi σ H fun J H1=>∃W:Nat->Nat->St->Hp->Prop,(∃m,W 0 m σ H1)/\∀i m σ H,W i m σ H ->
 (J.stop i H/\D.nx σ H)∨(J.go i H/\∃N:St->Hp->Prop,(∀σ' H',N σ' H'->∃m',m' < m/\W (i+1) m' σ' H')/\∀x H',J.yld i H x H'->g x σ H' fun σ2 H2=>tb { D with nx:=N,ct:=N,bk:=D.nx } σ2 H2)
def bS (fp:List Addr)(h:Heap):List (Addr×Obj):=fp.filterMap fun b=>(h.get? b).map fun o=>(b,o)
theorem nR {fp:List Addr}{h:Heap}{b:Addr}{o:Obj}(hb:b∈fp)(e:h.get? b=some o):(b,o)∈bS fp h:=List.mem_filterMap.mpr ⟨b,hb,by rw[e];rfl⟩
theorem zUP {fp:List Addr}{h:Heap}{p:Addr×Obj}(hp:p∈bS fp h):p.1∈fp/\h.get? p.1=some p.2:=by
 obtain⟨b,hb,e⟩:=List.mem_filterMap.mp hp
 cases q:h.get? b with
 | none=>rw[q] at e;cases e
 | some o =>
   rw[q] at e
   have e':(b,o)=p:=Wg e
   subst e'
   exact⟨hb,q⟩
theorem Inv.pinned {pins:List (Addr×Obj)}{σ:St}{H:Hp}{s:Shared}{fp:List Addr}(I:Inv X pins σ H s)(hf:∀b∈fp,jU X pins H b)(ho:∀b∈fp,∃o,s.heap.get? b=some o/\∀v,o.data ≠ .cell v):Inv X (pins++bS fp s.heap) σ H s :=
 I.pins_of fun p hp=>(Qn.mp hp).elim (fun z=>I.pin p (Wp _ z)) fun z=>by
   obtain⟨hb,e⟩:=zUP z
   obtain⟨f0,f1,f2,_⟩:=hf p.1 hb
   obtain⟨o,e',d⟩:=ho p.1 hb
   rw[e] at e';cases e'
   exact⟨e,f0,f1,f2,d⟩
theorem Inv.unpinned {pins pl:List (Addr×Obj)}{σ:St}{H:Hp}{s:Shared}(I:Inv X (pins++pl) σ H s):Inv X pins σ H s:=I.pins_of fun p hp=>I.pin p (Wp _ (Yt _ hp))
theorem zPT {iter:Expr}{body:List Stmt}{wi:TI}{g:TG}{tb:TS}{pos:Pos}(hp:PassesOwn (model X.prog X.w) X.A X.env X.xe)(hc:X.calm=true)(hi:PI X tg iter wi)(hg:PG X tg g)(hb:PSs X body tb)
   (hs:∀x,foldedSetIterable iter X.env x=pure x:=by intro _;rfl):PS X (.For tg iter body [] pos) (zOD wi g tb):=by
 intro pins s σ H D I h
 refine wpAny_For (thn (hi pins s σ H _ I h) fun v s1 h1=>thn h1 fun itv s2 h2=>?_) hs
 obtain⟨it,fp,tn,J,H2,e,I2,T,st2,f2,W,⟨m0,w0⟩,turn⟩:=h2
 subst e
 -- what stays true of the iterator's objects through the loop
 have stat:∀ {H':Hp},(∀b∈fp,H' b=none)->∀b∈fp,jU X pins H' b:=fun hn b hb=>⟨hn b hb,(f2 b hb).2⟩
 refine codeAny_forLoop_any (fun n s'=>∃i σ' H',Inv X pins σ' H' s'/\tn i s'.heap/\(∀b∈fp,H' b=none)/\W i n σ' H') ?_ m0 ⟨0,σ,H2,I2,st2,fun b hb=>(f2 b hb).1,w0⟩
 rintro n s3 ⟨i,σ3,H3,I3,st3,fr3,w3⟩
 rcases turn i n σ3 H3 w3 with⟨stop,qn⟩ | ⟨go,N,hN,step⟩
 · refine Rb hp (thn (T.done X rfl rfl rfl hc i pins s3 σ3 H3 X.xe I3 (stat fr3) st3 stop) fun r s4 ⟨hr,I4⟩=>?_)
   subst hr
   exact Uw ⟨σ3,H3,I4,qn⟩
 · refine Rb hp (thn (T.item X rfl rfl rfl hc i pins s3 σ3 H3 X.xe I3 (stat fr3) st3 go) fun r s4 ⟨u,hr,h4⟩=>?_)
   subst hr
   refine Rb hp (thn h4 fun _ s5 ⟨x,H5,I5,r5,y5,st5,fr5⟩=>?_)
   have I5':=I5.pinned (stat fr5) (T.obj _ _ st5)
   refine Rb hp (thn (hg _ s5 σ3 H5 x u _ I5' r5 (step x H5 y5)) fun _ s6 ⟨σ6,H6,I6,q6⟩=>?_)
   refine Rb hp (thn (hb _ s6 σ6 H6 _ I6 q6) fun f s7 q7=>?_)
   have again:∀ {σ7:St} {H7:Hp},Inv X (pins++bS fp s5.heap) σ7 H7 s7->N σ7 H7->∃m,m < n/\∃i σ' H',Inv X pins σ' H' s7/\tn i s7.heap/\(∀b∈fp,H' b=none)/\W i m σ' H':=fun {σ7 H7} I7 n7=>by
     obtain⟨m',hm,w7⟩:=hN σ7 H7 n7
     refine⟨m',hm,i+1,σ7,H7,I7.unpinned,T.keep _ _ _ st5 fun b hb o e=>(I7.pin (b,o) (Wp _ (Wp _ (nR hb e)))).1,fun b hb=>?_,w7⟩
     obtain⟨o,e,d⟩:=T.obj _ _ st5 b hb
     exact(I7.pin (b,o) (Wp _ (Wp _ (nR hb e)))).2.1
   cases f with
   | next=>obtain⟨σ7,H7,I7,n7⟩:=q7;exact again I7 n7
   | cont=>obtain⟨σ7,H7,I7,n7⟩:=q7;exact again I7 n7
   | brk=>obtain⟨σ7,H7,I7,q7⟩:=q7;exact⟨σ7,H7,I7.unpinned,q7⟩
   | ret v=>obtain⟨x7,σ7,H7,I7,r7,q7⟩:=q7;exact⟨x7,σ7,H7,I7.unpinned,r7,q7⟩
end
abbrev R2:=V->V->Hp->VK->Prop
def OpR (X:Cx)(f:Value->Value->Sem Value)(r:R2):Prop :=
 ∀(pins:List (Addr×Obj)) (s:Shared) (σ:St) (H:Hp) (x y:V) (v u:Value) (Q:VK),Inv X pins σ H s->RelV x v->RelV y u->r x y H Q ->
   wpAny (model X.prog X.w) X.A (f v u) (EP X pins σ Q) X.xe s
def CallR (X:Cx)(f:Value)(r:List V->Hp->VK->Prop):Prop :=
 ∀(pins:List (Addr×Obj)) (s:Shared) (σ:St) (H:Hp) (xs:List V) (us:List Value) (Q:VK),Inv X pins σ H s->Vals xs us->r xs H Q ->
   wpAny (model X.prog X.w) X.A (call f us) (EP X pins σ Q) X.xe s
def zOE (X:Cx)(r:V->Hp->(Bool->Hp->Prop)->Prop):Prop :=
 ∀(pins:List (Addr×Obj)) (s:Shared) (σ:St) (H:Hp) (x:V) (v:Value) (Q:Bool->Hp->Prop),Inv X pins σ H s->RelV x v->r x H Q ->
   wpAny (model X.prog X.w) X.A (truthy v) (TP X pins σ Q) X.xe s
def tOp (r:R2)(ta tb:TE):TE:=fun σ H Q=>ta σ H fun x H1=>tb σ H1 fun y H2=>r x y H2 Q
def rI (C:Int->Int->Prop)(g:Int->Int->V):R2:=fun x y H Q=>∃i j,x = .int i/\y = .int j/\C i j/\Q (g i j) H
def rI0 (g:Int->Int->V):R2:=fun x y H Q=>∃i j,x = .int i/\y = .int j/\Q (g i j) H
section
variable {X:Cx} {a b:Expr} {ta tb:TE} {pos:Pos}
theorem zPk (ha:PE X a ta)(hb:PE X b tb){pins:List (Addr×Obj)}{s:Shared}{σ:St}{H:Hp}{R:V->V->Hp->Prop}(I:Inv X pins σ H s)
   (h:ta σ H fun x H1=>tb σ H1 fun y H2=>R x y H2) {Q:Value->Shared->Prop} {f:Value->Value->Sem Value}
   (hf:∀v u s2 x y H2,Inv X pins σ H2 s2->RelV x v->RelV y u->R x y H2->wpAny (model X.prog X.w) X.A (f v u) Q X.xe s2) :
   wpAny (model X.prog X.w) X.A (eval a X.env) (fun v s₁=>wpAny (model X.prog X.w) X.A (eval b X.env) (fun u s₂=>wpAny (model X.prog X.w) X.A (f v u) Q X.xe s₂) X.xe s₁) X.xe s:=by
 refine thn (ha pins s σ H _ I h) fun v s1 ⟨x,H1,I1,r1,q1⟩=>?_
 refine thn (hb pins s1 σ H1 _ I1 q1) fun u s2 ⟨y,H2,I2,r2,q2⟩=>?_
 exact hf v u s2 x y H2 I2 r1 r2 q2
theorem aA {op:Operator}{r:R2}(ho:OpR X (binaryOp op) r)(ha:PE X a ta)(hb:PE X b tb):PE X (.BinOp a op b pos) (tOp r ta tb):=by
 intro pins s σ H Q I h
 exact wpAny_BinOp (zPk ha hb I h fun v u s2 x y H2 I2 rx ry q=>ho pins s2 σ H2 x y v u Q I2 rx ry q)
theorem opI {f:Value->Value->Sem Value}{C:Int->Int->Prop}{g:Int->Int->Int}
   (rule:∀(i j:Int) (t u:Tok) (s:Shared) (Q:Value->Shared->Prop) (E:Value->Shared->Prop),C i j->Q (.int (g i j) s.toks) { s with toks:=s.toks+1 }->wpAny (model X.prog X.w) X.A (f (.int i t) (.int j u)) Q E s) :
   OpR X f (rI C fun i j=>.int (g i j)):=by
 intro pins s σ H x y v u Q I rx ry h
 obtain⟨i,j,rfl,rfl,hc,q⟩:=h
 obtain⟨t,rfl⟩:=rx
 obtain⟨t',rfl⟩:=ry
 exact rule i j t t' s _ _ hc ⟨.int (g i j),H,I.tok _,⟨_,rfl⟩,q⟩
theorem zOT {f:Value->Value->Sem Value}{g:Int->Int->Int}
   (rule:∀(i j:Int) (t u:Tok) (s:Shared) (Q:Value->Shared->Prop) (E:Value->Shared->Prop),Q (.int (g i j) s.toks) { s with toks:=s.toks+1 }->wpAny (model X.prog X.w) X.A (f (.int i t) (.int j u)) Q E s) :
   OpR X f (rI0 fun i j=>.int (g i j)):=by
 intro pins s σ H x y v u Q I rx ry h
 obtain⟨i,j,rfl,rfl,q⟩:=h
 obtain⟨t,rfl⟩:=rx
 obtain⟨t',rfl⟩:=ry
 exact rule i j t t' s _ _ ⟨.int (g i j),H,I.tok _,⟨_,rfl⟩,q⟩
theorem zPD {f:Value->Value->Sem Value}{g:Int->Int->Bool}
   (rule:∀(i j:Int) (t u:Tok) (s:Shared) (Q:Value->Shared->Prop) (E:Value->Shared->Prop),Q (.bool (g i j)) s->wpAny (model X.prog X.w) X.A (f (.int i t) (.int j u)) Q E s) :
   OpR X f (rI0 fun i j=>.bl (g i j)):=by
 intro pins s σ H x y v u Q I rx ry h
 obtain⟨i,j,rfl,rfl,q⟩:=h
 obtain⟨t,rfl⟩:=rx
 obtain⟨t',rfl⟩:=ry
 exact rule i j t t' s _ _ ⟨.bl (g i j),H,I,rfl,q⟩
def zO9 (i j:Int):Prop:=0 < j/\j < 1073741824
def zPh (i j:Int):Prop:=0<=j/\j<=1000000/\i.natAbs < 2^64
def CMul (i j:Int):Prop:=(-(2^64) < i/\i < 2^64)∨(-(2^64) < j/\j < 2^64)
theorem CMul.ok {i j:Int}(h:CMul i j):IntMulOk i j:=by
 rcases h with⟨h1,h2⟩ | ⟨h1,h2⟩
 · exact .of_left (intBits_le_64 h1 h2)
 · exact .of_right (intBits_le_64 h1 h2)
theorem zTt:OpR X (binaryOp .Add) (rI0 fun i j=>.int (i+j)):=zOT fun _ _ _ _ _ _ _ q=>add_int q
theorem zQ1:OpR X (binaryOp .Sub) (rI0 fun i j=>.int (i - j)):=zOT fun _ _ _ _ _ _ _ q=>sub_int q
theorem zQ3:OpR X (binaryOp .Mult) (rI CMul fun i j=>.int (i*j)):=opI fun _ _ _ _ _ _ _ hc q=>mul_int q hc.ok
theorem zR2:OpR X (binaryOp .FloorDiv) (rI zO9 fun i j=>.int (i / j)):=opI fun i j _ _ _ _ _ hc q=>by
 have h1:(0:Int) < j:=hc.1
 have h2:j < 1073741824:=hc.2
 exact floordiv_int (by lia) (by rw[Int.fdiv_eq_ediv_of_nonneg i (by lia)];exact q) (.inl (PyProof.noPylong_small (by lia)))
theorem zQa:OpR X (binaryOp .Mod) (rI (fun _ j=>0 < j) fun i j=>.int (i % j)):=opI fun i j _ _ _ _ _ hc q=>by
 have h1:(0:Int) < j:=hc
 exact mod_int' (by lia) (by rw[Int.fmod_eq_emod_of_nonneg i (by lia)];exact q)
theorem zQe:OpR X (binaryOp .Pow) (rI zPh fun i j=>.int (i^j.toNat)):=opI fun _ _ _ _ _ _ _ hc q=>pow_int_small hc.1 hc.2.1 hc.2.2 q
def zPI:V->V->Bool
 | .non,.non=>true | .non,.int _=>true | .int _,.non=>true | .non,.bl _=>true | .bl _,.non=>true | .non,.str _=>true | .str _,.non=>true
 | .int _,.int _=>true | .bl _,.bl _=>true | .str _,.str _=>true | .byt _,.byt _=>true
 | .int _,.str _=>true | .str _,.int _=>true | .bl _,.str _=>true | .str _,.bl _=>true
 | _,_=>false
def rEq:R2:=fun x y H Q=>zPI x y=true/\Q (.bl (decide (x=y))) H
def rNe:R2:=fun x y H Q=>zPI x y=true/\Q (.bl (!decide (x=y))) H
theorem zVH {i j:Int}:decide (V.int i=V.int j)=(i==j):=by
 rw[Ue]
 simp
theorem zTh {i j:Bool}:decide (V.bl i=V.bl j)=(i==j):=by
 rw[Ue]
 simp
theorem zVJ {i j:Str}:decide (V.str i=V.str j)=(i==j):=by
 rw[Ue]
 simp
theorem zV8 {i j:Array UInt8}:decide (V.byt i=V.byt j)=(i.toList==j.toList):=by
 rw[Ue]
 cases i
 cases j
 simp
variable {c:Expr}
theorem yP {pins:List (Addr×Obj)}{σ:St}{H:Hp}{s:Shared}{Q:VK}{k k':Bool}(I:Inv X pins σ H s)(q:Q (.bl k) H)(e:k=k'):EP X pins σ Q (.bool k') s:=by
 subst e
 exact⟨.bl k,H,I,rfl,q⟩
theorem zOL:OpR X (compareOp .Eq) rEq:=by
 intro pins s σ H x y v u Q I rx ry h
 obtain⟨hs,q⟩:=h
 cases x with
 | non =>
   cases rx
   cases y with
   | non=>cases ry;exact PySem.EqNone.eq_none_none (yP I q (by simp))
   | bl j=>cases ry;exact PySem.EqNone.eq_none_bool (yP I q (by simp))
   | int j=>obtain⟨t',rfl⟩:=ry;exact PySem.EqNone.eq_none_int (yP I q (by simp))
   | str j=>obtain⟨t',rfl⟩:=ry;exact PySem.EqNone.eq_none_str (yP I q (by simp))
   | _=>exact absurd (show false=true from hs) Wa
 | bl i =>
   cases rx
   cases y with
   | non=>cases ry;exact PySem.EqNone.eq_bool_none (yP I q (by simp))
   | bl j=>cases ry;exact eq_bool (yP I q zTh)
   | str j=>obtain⟨t',rfl⟩:=ry;exact PySem.EqMixed.eq_bool_str (yP I q (by simp))
   | _=>exact absurd (show false=true from hs) Wa
 | int i =>
   obtain⟨t,rfl⟩:=rx
   cases y with
   | non=>cases ry;exact PySem.EqNone.eq_int_none (yP I q (by simp))
   | int j=>obtain⟨t',rfl⟩:=ry;exact eq_int (yP I q zVH)
   | str j=>obtain⟨t',rfl⟩:=ry;exact PySem.EqMixed.eq_int_str (yP I q (by simp))
   | _=>exact absurd (show false=true from hs) Wa
 | str i =>
   obtain⟨t,rfl⟩:=rx
   cases y with
   | non=>cases ry;exact PySem.EqNone.eq_str_none (yP I q (by simp))
   | bl j=>cases ry;exact PySem.EqMixed.eq_str_bool (yP I q (by simp))
   | int j=>obtain⟨t',rfl⟩:=ry;exact PySem.EqMixed.eq_str_int (yP I q (by simp))
   | str j=>obtain⟨t',rfl⟩:=ry;exact eq_str (yP I q zVJ)
   | _=>exact absurd (show false=true from hs) Wa
 | byt i =>
   obtain⟨t,rfl⟩:=rx
   cases y with
   | byt j=>obtain⟨t',rfl⟩:=ry;exact PySem.W.eq_bytes (yP I q zV8)
   | _=>exact absurd (show false=true from hs) Wa
 | _=>cases y<;>exact absurd (show false=true from hs) Wa
theorem zOG:OpR X (compareOp .NotEq) rNe:=by
 intro pins s σ H x y v u Q I rx ry h
 obtain⟨hs,q⟩:=h
 cases x with
 | non =>
   cases rx
   cases y with
   | non=>cases ry;exact PySem.EqNone.ne_none_none (yP I q (by simp))
   | bl j=>cases ry;exact PySem.EqNone.ne_none_bool (yP I q (by simp))
   | int j=>obtain⟨t',rfl⟩:=ry;exact PySem.EqNone.ne_none_int (yP I q (by simp))
   | str j=>obtain⟨t',rfl⟩:=ry;exact PySem.EqNone.ne_none_str (yP I q (by simp))
   | _=>exact absurd (show false=true from hs) Wa
 | bl i =>
   cases rx
   cases y with
   | non=>cases ry;exact PySem.EqNone.ne_bool_none (yP I q (by simp))
   | bl j=>cases ry;exact ne_bool (yP I q (Ep not zTh))
   | str j=>obtain⟨t',rfl⟩:=ry;exact PySem.EqMixed.ne_bool_str (yP I q (by simp))
   | _=>exact absurd (show false=true from hs) Wa
 | int i =>
   obtain⟨t,rfl⟩:=rx
   cases y with
   | non=>cases ry;exact PySem.EqNone.ne_int_none (yP I q (by simp))
   | int j=>obtain⟨t',rfl⟩:=ry;exact ne_int (yP I q (Ep not zVH))
   | str j=>obtain⟨t',rfl⟩:=ry;exact PySem.EqMixed.ne_int_str (yP I q (by simp))
   | _=>exact absurd (show false=true from hs) Wa
 | str i =>
   obtain⟨t,rfl⟩:=rx
   cases y with
   | non=>cases ry;exact PySem.EqNone.ne_str_none (yP I q (by simp))
   | bl j=>cases ry;exact PySem.EqMixed.ne_str_bool (yP I q (by simp))
   | int j=>obtain⟨t',rfl⟩:=ry;exact PySem.EqMixed.ne_str_int (yP I q (by simp))
   | str j=>obtain⟨t',rfl⟩:=ry;exact ne_str (yP I q (Ep not zVJ))
   | _=>exact absurd (show false=true from hs) Wa
 | byt i =>
   obtain⟨t,rfl⟩:=rx
   cases y with
   | byt j=>obtain⟨t',rfl⟩:=ry;exact PySem.W.ne_bytes (yP I q (Ep not zV8))
   | _=>exact absurd (show false=true from hs) Wa
 | _=>cases y<;>exact absurd (show false=true from hs) Wa
theorem zPc:OpR X (compareOp .Lt) (rI0 fun i j=>.bl (decide (i < j))):=zPD fun _ _ _ _ _ _ _ q=>lt_int q
theorem zPb:OpR X (compareOp .LtE) (rI0 fun i j=>.bl (decide (i<=j))):=zPD fun _ _ _ _ _ _ _ q=>le_int q
theorem zSc:OpR X (compareOp .IsNot) (fun x y H Q=>y = .non/\Q (.bl (!decide (x = .non))) H):=by
 intro pins s σ H x y v u Q I rx ry h
 obtain⟨rfl,q⟩:=h
 cases ry
 refine isnot_none_gen (yP I q ?_)
 cases x<;>first
   | (cases rx;rfl)
   | (obtain⟨t,rfl⟩:=rx;rfl)
theorem OpR.or {f:Value->Value->Sem Value}{r r':R2}(h:OpR X f r)(h':OpR X f r'):OpR X f (fun x y H Q=>r x y H Q∨r' x y H Q):=by
 intro pins s σ H x y v u Q I rx ry q
 rcases q with q | q
 · exact h pins s σ H x y v u Q I rx ry q
 · exact h' pins s σ H x y v u Q I rx ry q
theorem zS8 (b:Expr){op:CmpOp}(h:op ≠ .In:=by decide)(h2:op ≠ .NotIn:=by decide):behindInMarks op b=false:=by
 have e1:(op==CmpOp.In)=false:=by cases op<;>first | rfl | exact absurd rfl h
 have e2:(op==CmpOp.NotIn)=false:=by cases op<;>first | rfl | exact absurd rfl h2
 cases b<;>simp[behindInMarks,e1,e2]
def zOH (t:TE):TT:=fun σ H Q=>t σ H fun x H'=>∃k,x = .bl k/\Q k H'
theorem zVM {op:CmpOp}{r:R2}(ho:OpR X (compareOp op) r)(ha:PE X a ta)(hb:PE X b tb)(hm:behindInMarks op b=false):PT X (.Compare a [op] [b] pos) (zOH (tOp r ta tb)):=by
 intro pins s σ H Q I h
 refine wpAny_isTrue_Compare1 (thn (ha pins s σ H _ I h) fun v s1 ⟨x,H1,I1,r1,q1⟩=>thn (hb pins s1 σ H1 _ I1 q1) fun u s2 ⟨y,H2,I2,r2,q2⟩ =>
   thn (ho pins s2 σ H2 x y v u _ I2 r1 r2 q2) fun c s3 ⟨z,H3,I3,r3,k,e,q3⟩=>?_) hm
 subst e
 cases r3
 exact Ti ⟨H3,I3,q3⟩
def zP7 (K:PySem.W.Frag)(x:V)(H:Hp)(k:Bool):Prop :=
 match x with
 | .non=>k=false
 | .bl b=>k=b
 | .int i=>k=(i != 0)
 | .str y=>y.length<=sizeLine/\k=((y.length:Int) != 0)
 | .byt y=>y.size<=sizeLine/\k=((y.size:Int) != 0)
 | .ref p=>(∃xs,SqL K H p xs/\k = !xs.isEmpty)∨(∃xs,SqT K H p xs/\k = !xs.isEmpty)∨∃kvs,H p=some (.dK kvs)/\k = !kvs.isEmpty
 | _=>False
theorem zWs {κ:Type}{kvs:List (κ×V)}{vs:List (κ×Value)}(r:KV kvs vs):(!vs.isEmpty) = !kvs.isEmpty:=by
 cases r<;>rfl
theorem bE {xs:List V}{its:List Value}(r:Vals xs its):(!its.toArray.isEmpty) = !xs.isEmpty:=by
 cases r<;>simp
theorem fY:(sizeLine:Nat) < 2^63:=by rw[Ew];decide
theorem zQ6:zOE X (fun x H Q=>∃k,zP7 X.K x H k/\Q k H):=by
 intro pins s σ H x v Q I rx h
 obtain⟨k,e,q⟩:=h
 have hl:=fY
 have hs:sizeLine=16777216:=Ew
 cases x with
 | non =>
   cases rx
   have e':k=false:=e
   subst e'
   exact truthy_none ⟨H,I,q⟩
 | bl b =>
   cases rx
   have e':k=b:=e
   subst e'
   exact Ti ⟨H,I,q⟩
 | int i =>
   obtain⟨t,rfl⟩:=rx
   have e':k=(i != 0):=e
   subst e'
   exact PySem.P.truthy_int ⟨H,I,q⟩
 | str y =>
   obtain⟨t,rfl⟩:=rx
   obtain⟨hy,e'⟩:y.length<=sizeLine/\k=((y.length:Int) != 0):=e
   subst e'
   exact PySem.P.truthy_str (by lia) ⟨H,I.tok _,q⟩
 | byt y =>
   obtain⟨t,rfl⟩:=rx
   obtain⟨hy,e'⟩:y.size<=sizeLine/\k=((y.size:Int) != 0):=e
   subst e'
   exact PySem.W.truthy_bytes (by lia) ⟨H,I.tok _,q⟩
 | ref p =>
   cases rx
   have e':(∃xs,SqL X.K H p xs/\k = !xs.isEmpty)∨(∃xs,SqT X.K H p xs/\k = !xs.isEmpty)∨∃kvs,H p=some (.dK kvs)/\k = !kvs.isEmpty:=e
   rcases e' with⟨xs,hx,e'⟩ | ⟨xs,hx,e'⟩ | ⟨kvs,hx,e'⟩
   · subst e'
     obtain⟨its,r,pl,hz⟩:=I.list hx
     have hlen:=r.length
     exact wpAny_truthy_list pl.isList (by simp only[Qo];lia) ⟨H,I.tok _,by rw[bE r];exact q⟩
   · subst e'
     obtain⟨its,r,pl,hz⟩:=I.tuple hx
     have hlen:=r.length
     exact truthy_tuple pl (by simp only[Qo];lia) ⟨H,I.tok _,by rw[bE r];exact q⟩
   · subst e'
     obtain⟨hz,hS,vs,r,m⟩:kvs.length<=sizeLine/\(p==sysModules)=false/\∃vs,KV kvs vs/\s.heap.DictOf (xZ X.prog X.w) p vs:=I.hok p _ hx
     have hlen:kvs.length=vs.length:=Ek r
     exact wpAny_truthy_dict hS m (by lia) ⟨H,I.tok _,by rw[zWs r];exact q⟩
 | _=>exact(show False from e).elim
theorem zUg (ha:PE X a ta)(he:∀whole,isTrue a X.env whole=(do let v ←whole;standAt a.pos;holding [v] (truthy v))) :
   PT X a (fun σ H Q=>ta σ H fun x H'=>∃k,zP7 X.K x H' k/\Q k H'):=by
 intro pins s σ H Q I h
 exact isTrue_plain (thn (ha pins s σ H _ I h) fun v s1 ⟨x,H1,I1,r1,q1⟩=>zQ6 pins s1 σ H1 x v Q I1 r1 q1) (he _)
theorem zXg:OpR X (binaryOp .Add) (fun x y H Q=>∃i j,x = .str i/\y = .str j/\i.length+j.length<=sizeLine/\Q (.str (i++j)) H):=by
 intro pins s σ H x y v u Q I rx ry h
 obtain⟨i,j,rfl,rfl,hz,q⟩:=h
 obtain⟨t,rfl⟩:=rx
 obtain⟨t',rfl⟩:=ry
 exact add_str (fun t' tk=>⟨.str (i++j),H,I.tok _,⟨_,rfl⟩,q⟩) hz
theorem eU {x:V}{us:List Value}(r:Vals [x] us):∃u,us=[u]/\RelV x u:=by
 cases r with
 | cons r1 r2=>cases r2;exact⟨_,rfl,r1⟩
theorem zV5 {x y:V}{us:List Value}(r:Vals [x,y] us):∃u w',us=[u,w']/\RelV x u/\RelV y w':=by
 cases r with
 | cons r1 r2 =>
   cases r2 with
   | cons r3 r4=>cases r4;exact⟨_,_,rfl,r1,r3⟩
theorem zVm (hc:X.calm=true):CallR X (.builtin "max") (fun xs H Q=>∃i j,xs=[.int i,.int j]/\Q (.int (if j > i then j else i)) H):=by
 intro pins s σ H xs us Q I r h
 obtain⟨i,j,rfl,q⟩:=h
 obtain⟨u,w',rfl,⟨t,rfl⟩,⟨t',rfl⟩⟩:=zV5 r
 refine max_two_ints (I.ok.hd hc) fun h' tk k=>⟨_,H,I.kept k,?_,q⟩
 by_cases hj:j > i
 · rw[Qi hj,Qi hj];exact⟨_,rfl⟩
 · rw[Qa hj,Qa hj];exact⟨_,rfl⟩
theorem zUN (hc:X.calm=true):CallR X (.builtin "min") (fun xs H Q=>∃i j,xs=[.int i,.int j]/\Q (.int (if j < i then j else i)) H):=by
 intro pins s σ H xs us Q I r h
 obtain⟨i,j,rfl,q⟩:=h
 obtain⟨u,w',rfl,⟨t,rfl⟩,⟨t',rfl⟩⟩:=zV5 r
 refine min_two_ints (I.ok.hd hc) fun h' tk k=>⟨_,H,I.kept k,?_,q⟩
 by_cases hj:j < i
 · rw[Qi hj,Qi hj];exact⟨_,rfl⟩
 · rw[Qa hj,Qa hj];exact⟨_,rfl⟩
end
structure ObjM (h:Heap)(x dx C:Addr)(mA:Str->Option Value):Prop where
 obj:h.get? x=some (PySem.W.instObj C dx)
 ns:h.Ns1 dx mA
 ne:dx≠x
theorem zU6 {h:Heap}{dx:Addr}{mA:Str->Option Value}(n:h.Ns1 dx mA):∃od,h.get? dx=some od/\∀name,PySem.W.lookIn name od=some (mA name):=by
 obtain⟨o,es,ep,ho,hd,hk,_,hm⟩:=n
 refine⟨o,ho,fun name=>?_⟩
 have e:=hm name
 unfold nsFind findBy at e
 rw[←Array.find?_toList] at e
 unfold PySem.W.lookIn
 rw[hd]
 dsimp only
 split
 · rename_i y q
   rw[q] at e
   exact Ep some e
 · rename_i q
   rw[q] at e
   have a:es.toList.any (·.refKey)=false:=by
     rw[List.any_eq_false]
     intro y hy
     obtain⟨z,t,hkey⟩:=hk y (Array.mem_toList_iff.mp hy)
     simp[DictEntry.refKey,hkey]
   have a':¬es.toList.any (·.refKey)=true:=by rw[a];exact Wa
   rw[Qa a']
   exact Ep some e
theorem ObjM.look {h:Heap}{x dx C:Addr}{mA:Str->Option Value}(I:ObjM h x dx C mA):∃od,PySem.W.InstAt h x (PySem.W.instObj C dx) C (some od)/\∀name,PySem.W.lookIn name od=some (mA name) :=
 let ⟨od,ho,hl⟩:=zU6 I.ns
 ⟨od,⟨I.obj,rfl,rfl,ho⟩,hl⟩
section
variable {prog:Program} {w:World} {A:Around} {E:Value->Shared->Prop} {s:Shared} {K:PySem.W.Frag} {x dx C f:Addr} {mA:Str->Option Value} {name:Str} {v:Value}
theorem zRm {expr:Bool}{Q:Value->Shared->Prop}(X:K.In s.heap)(I:ObjM s.heap x dx C mA)(hg:PySem.W.plainGet K C name=true)(hh:PySem.W.hasDictIn K C=true)
   (ha:PySem.W.findIn K (.ref C) name=some none) (hv:mA name=some v) (hv':PySem.W.handedIn v=true) (h:Q v { s with toks:=s.toks+1 }) :
   wpAny (model prog w) A (getAttr (.ref x) name expr) Q E s:=by
 obtain⟨od,J,hl⟩:=I.look
 exact PySem.W.get_value X J (Uv hg).1 (PySem.W.findObj_own hh ha rfl (by rw[hl,hv])) hv' h
theorem zTv {pl:Sem Bool}{Q:Value×List Value->Shared->Prop}(X:K.In s.heap)(I:ObjM s.heap x dx C mA)(hg:PySem.W.plainGet K C name=true)
   (hf:PySem.W.findIn K (.ref C) name=some (some (.ref f))) (ht:PySem.W.isFn K (.ref f)=true) (hv:mA name=none) (h:Q (.ref f,[.ref x]) s) :
   wpAny (model prog w) A (getMethod (.ref x) name pl) Q E s:=by
 obtain⟨od,J,hl⟩:=I.look
 exact PySem.W.method_fn X J (Uv hg).1 (Uv hg).2 hf (Uh.mp ht) (by show(PySem.W.lookIn name od).map (·.isSome)=some false;rw[hl,hv];rfl) h
theorem zR8 {ns:List Str}{Q:Unit->Shared->Prop}(X:K.In s.heap)(I:ObjM s.heap x dx C mA)
   (hs:PySem.W.findIn K (.ref C) "__setattr__"=some (some (.builtin "object.__setattr__"))) (hp:PySem.W.plainOver K C=true) (ht:PySem.W.takerIn K C name=some none) (hh:PySem.W.hasDictIn K C=true)
   (hw:PySem.Within mA ns) (hsz:ns.length<=sizeLine)
   (h:∀h',ObjM h' x dx C (fun y=>if y=name then some v else mA y)->Heap.SameBut dx s.heap h'->Q () { s with heap:=h',toks:=s.toks+2 }) :
   wpAny (model prog w) A (setAttr (.ref x) name v) Q E s:=by
 obtain⟨od,J,hl⟩:=I.look
 refine PySem.W.set_plain X J hs (PySem.W.osa_open (s:={ s with toks:=s.toks+1 }) (r:=none) X J hp ht fun b=>?_)
 obtain⟨cd,hc,hd'⟩:=PySem.W.any_some hh
 have hx:s.heap.get? x=some ⟨.ref C,some dx,.plain,#[]⟩:=I.obj
 refine Qe (Qx (Qe (Qe (wpAny_loadPart hx (Qe (PySem.W.Looks.here (s:={ s with toks:=s.toks+1 }) (PySem.W.looks_clsIn X hc) ?_))))))
 rw[hd']
 refine Qx (a:=some dx) (Qe (Qx (Qe ?_)))
 refine wpAny_nsSet1 (s:={ s with toks:=s.toks+1 }) I.ns fun h' hn2 hs2=>?_
 obtain⟨oD,esD,epD,hoD,hdD,hcD⟩:=hn2.count (PySem.Within.cons name v hw)
 refine Qe (wpAny_lookBehind hoD (by rw[hdD];exact pastItsLine_dict (Wu hcD (by rw[Qs];lia))) ?_)
 exact Qx (h _ ⟨(hs2.2 _ (Ne.symm I.ne)).trans I.obj,hn2,I.ne⟩ hs2)
theorem zUw {R:Result->Shared->Prop}{vs:List Value}{kw:List (Str×Value)}(X:K.In s.heap)(hm:PySem.W.makesIn K C=true)
   (hi:PySem.W.findIn K (.ref C) "__init__"=some (some (.ref f))) (hf:PySem.W.typeIn K (.ref f)=some (.type "function"))
   (h:codeAny (model prog w) (A.under (.builtin "type.__call__" ⟨.ref C::vs,kw⟩)) (.call (.ref f) ⟨.ref (s.heap.objs.size+1)::vs,kw⟩) (PySem.W.InitBack (s.heap.objs.size+1) R)
     { s with heap:=(s.heap.push PySem.W.emptyDict).push (PySem.W.instObj C s.heap.objs.size) }) :
   codeAny (model prog w) A (.call (.ref C) ⟨vs,kw⟩) R s:=by
 obtain⟨hh,g,d,t,os⟩:=s
 exact PySem.W.make_core (PySem.W.makes_of X hm) (PySem.W.looks_findIn X hi) (fun self=>PySem.W.bind_fn X self hf) (.inl rfl) h
end
def oQ (f:Str)(v:V):List (Str×V)->List (Str×V)
 | []=>[(f,v)]
 | (g,x)::r=>if g=f then(g,v)::r else(g,x)::oQ f v r
theorem fA (f g:Str)(v:V):∀fs:List (Str×V),(oQ f v fs).lookup g=if g=f then some v else fs.lookup g
 | []=>by
   show List.lookup g [(f,v)]=_
   by_cases h:g=f
   · have hb:(g==f)=true:=Uh.mpr h
     simp only[List.lookup,hb,Qi h]
   · have hb:(g==f)=false:=Rh.mpr h
     simp only[List.lookup,hb,Qa h]
 | (k,x)::r=>by
   have ih:=fA f g v r
   rw[show oQ f v ((k,x)::r)=(if k=f then(k,v)::r else(k,x)::oQ f v r) from rfl]
   by_cases hk:k=f
   · rw[Qi hk]
     by_cases h:g=k
     · have hb:(g==k)=true:=Uh.mpr h
       simp only[List.lookup,hb,Qi (h.trans hk)]
     · have hb:(g==k)=false:=Rh.mpr h
       simp only[List.lookup,hb,Qa (fun e:g=f=>h (e.trans hk.symm))]
   · rw[Qa hk]
     by_cases h:g=k
     · have hb:(g==k)=true:=Uh.mpr h
       simp only[List.lookup,hb,Qa (fun e:g=f=>hk (h.symm.trans e))]
     · have hb:(g==k)=false:=Rh.mpr h
       simp only[List.lookup,hb]
       exact ih
theorem fN (f:Str)(v:V):∀fs:List (Str×V),f∈(oQ f v fs).map (·.1)/\∀g,g∈fs.map (·.1)->g∈(oQ f v fs).map (·.1)
 | []=>⟨by simp[oQ],fun g h=>by simp at h⟩
 | (k,x)::r=>by
   obtain⟨i1,i2⟩:=fN f v r
   rw[show oQ f v ((k,x)::r)=(if k=f then(k,v)::r else(k,x)::oQ f v r) from rfl]
   by_cases hk:k=f
   · rw[Qi hk]
     subst hk
     exact⟨by simp,fun g h=>by simpa using h⟩
   · rw[Qa hk]
     refine⟨?_,fun g h=>?_⟩
     · rw[Ql]
       exact Qj _ i1
     · rw[Ql] at h ⊢
       rcases Qd.mp h with e | e
       · exact Qd.mpr (.inl e)
       · exact Qj _ (i2 g e)
theorem eM (f:Str)(v:V):∀fs:List (Str×V),(oQ f v fs).length<=fs.length+1
 | []=>by simp[oQ]
 | (k,x)::r=>by
   have ih:=eM f v r
   rw[show oQ f v ((k,x)::r)=(if k=f then(k,v)::r else(k,x)::oQ f v r) from rfl]
   by_cases hk:k=f
   · rw[Qi hk,Qs,Qs];lia
   · rw[Qa hk,Qs,Qs];lia
theorem RelO.some_of {v:V}{o:Option Value}(r:RelO (some v) o):∃u,o=some u/\RelV v u:=by
 cases o with
 | none=>exact(show False from r).elim
 | some u=>exact⟨u,rfl,r⟩
theorem RelO.none_of {o:Option Value}(r:RelO none o):o=none:=by
 cases o with
 | none=>rfl
 | some u=>exact(show False from r).elim
theorem zUF {v:V}{u:Value}(r:RelV v u):PySem.W.handedIn u=true:=by
 cases v with
 | non=>cases (show u=Value.none from r);rfl
 | bl b=>cases (show u=Value.bool b from r);rfl
 | int i=>obtain⟨t,e⟩:=(show ∃t,u=Value.int i t from r);cases e;rfl
 | str x=>obtain⟨t,e⟩:=(show ∃t,u=Value.str x t from r);cases e;rfl
 | byt b=>obtain⟨t,e⟩:=(show ∃t,u=Value.bytes b t from r);cases e;rfl
 | flt b=>obtain⟨t,e⟩:=(show ∃t,u=Value.float b t from r);cases e;rfl
 | ref a=>cases (show u=Value.ref a from r);rfl
 | ty n=>cases (show u=Value.type n from r);rfl
section
variable {P:Program} {w:World} {H:Hp} {h:Heap} {a C dx:Addr} {fs:List (Str×V)}
theorem zZs (hok:HOk P w H h)(e:H a=some (.ins C dx fs)):∃mA,ObjM h a dx C mA/\(∀f,RelO (fs.lookup f) (mA f))/\PySem.Within mA (fs.map (·.1))/\fs.length<=1000/\H dx=some (.own a):=by
 obtain⟨d,z,ne,ob,mA,n,r,q⟩:=(show ObjOk P w H h a (.ins C dx fs) from hok a _ e)
 exact⟨mA,⟨ob,n,ne⟩,r,q,z,d⟩
end
structure Cls (K:PySem.W.Frag)(C:Addr):Prop where
 pg:PySem.W.plainGet K C Str.empty=true
 hd:PySem.W.hasDictIn K C=true
 po:PySem.W.plainOver K C=true
 sa:PySem.W.findIn K (.ref C) "__setattr__"=some (some (.builtin "object.__setattr__"))
theorem Cls.get {K:PySem.W.Frag}{C:Addr}(c:Cls K C)(f:Str):PySem.W.plainGet K C f=true:=c.pg
def NoAttr (K:PySem.W.Frag)(C:Addr)(f:Str):Prop:=PySem.W.findIn K (.ref C) f=some none
theorem NoAttr.taker {K:PySem.W.Frag}{C:Addr}{f:Str}(n:NoAttr K C f):PySem.W.takerIn K C f=some none:=by
 unfold PySem.W.takerIn
 rw[show PySem.W.findIn K (.ref C) f=some none from n]
 rfl
structure Con (K:PySem.W.Frag)(C:Addr)(f:Str)(v:V)(u:Value):Prop where
 at_:PySem.W.findIn K (.ref C) f=some (some u)
 rel:RelV v u
 get:PySem.W.specialIn K u "__get__"=some none
 cp:PySem.W.copiedNames.contains f=false
structure Meth (K:PySem.W.Frag)(C:Addr)(m:Str)(f:Addr):Prop where
 at_:PySem.W.findIn K (.ref C) m=some (some (.ref f))
 fn:PySem.W.isFn K (.ref f)=true
 kp:PySem.W.keepIn K (.ref f)=true
section
variable {X:Cx} {pins:List (Addr×Obj)} {σ:St} {H:Hp} {s:Shared} {a C dx:Addr} {fs:List (Str×V)} {f:Str} {v:V} {A:Around} {E:Value->Shared->Prop}
theorem zWE {b:Bool}{Q:Value->Shared->Prop}(I:Inv X pins σ H s)(e:H a=some (.ins C dx fs))(c:Cls X.K C)(n:NoAttr X.K C f)(l:fs.lookup f=some v)
   (h:∀u s',Inv X pins σ H s'->RelV v u->Q u s'):wpAny (model X.prog X.w) A (getAttr (.ref a) f b) Q E s:=by
 obtain⟨mA,O,r,_,_,_⟩:=zZs I.hok e
 obtain⟨u,hu,ru⟩:=RelO.some_of (v:=v) (o:=mA f) (by rw[←l];exact r f)
 exact zRm I.kIn O (c.get f) c.hd n hu (zUF ru) (h u _ (I.tok _) ru)
theorem bN {m:Str}{g:Addr}{pl:Sem Bool}{Q:Value×List Value->Shared->Prop}(I:Inv X pins σ H s)(e:H a=some (.ins C dx fs))(c:Cls X.K C)(k:Meth X.K C m g)(l:fs.lookup m=none)
   (h:Q (.ref g,[.ref a]) s):wpAny (model X.prog X.w) A (getMethod (.ref a) m pl) Q E s:=by
 obtain⟨mA,O,r,_,_,_⟩:=zZs I.hok e
 have hn:mA m=none:=RelO.none_of (by rw[←l];exact r m)
 exact zTv I.kIn O (c.get m) k.at_ k.fn hn h
theorem zXk {y:V}{u:Value}{Q:Unit->Shared->Prop}(I:Inv X pins σ H s)(e:H a=some (.ins C dx fs))(c:Cls X.K C)(n:NoAttr X.K C f)(hl:fs.length < 1000)(ry:RelV y u)
   (h:∀s',Inv X pins σ (upd H a (.ins C dx (oQ f y fs))) s'->Q () s'):wpAny (model X.prog X.w) A (setAttr (.ref a) f u) Q E s:=by
 obtain⟨mA,O,r,wi,_,ho⟩:=zZs I.hok e
 have hz:(fs.map (·.1)).length<=sizeLine:=by rw[Qu,Ew];lia
 refine zR8 I.kIn O c.sa c.po n.taker c.hd wi hz fun h' O' sb=>h _ ?_
 have hd:∃o,h'.get? dx=some o:=let ⟨o,_,_,e',_⟩:=O'.ns;⟨o,e'⟩
 refine I.write (x:=a) (e:=dx) (by rw[e];exact True.intro) (.inr ho) (fun b q hb z=>(sb.2 b hb).trans z) hd ?_
 refine⟨by rw[zP O.ne];exact ho,?_,O.ne,O'.obj,_,O'.ns,fun g=>?_,fun g hg=>?_⟩
 · have:=eM f y fs;lia
 · show RelO ((oQ f y fs).lookup g) (if g=f then some u else mA g)
   rw[fA]
   by_cases q:g=f
   · rw[Qi q,Qi q];exact ry
   · rw[Qa q,Qa q];exact r g
 · by_cases q:g=f
   · rw[q];exact(fN f y fs).1
   · refine(fN f y fs).2 g (wi g fun z=>hg ?_)
     show(if g=f then some u else mA g)=none
     rw[Qa q];exact z
theorem Inv.made (I:Inv X pins σ H s):Inv X pins σ (upd (upd H s.heap.objs.size (.own (s.heap.objs.size+1))) (s.heap.objs.size+1) (.ins C s.heap.objs.size []))
   { s with heap:=(s.heap.push PySem.W.emptyDict).push (PySem.W.instObj C s.heap.objs.size) }:=by
 have e1:(s.heap.push PySem.W.emptyDict).get? s.heap.objs.size=some PySem.W.emptyDict:=Wr s.heap rfl
 have e2:((s.heap.push PySem.W.emptyDict).push (PySem.W.instObj C s.heap.objs.size)).get? (s.heap.objs.size+1)=some (PySem.W.instObj C s.heap.objs.size):=by
   have:=Wr (s.heap.push PySem.W.emptyDict) (o:=PySem.W.instObj C s.heap.objs.size) rfl
   rwa[Yg] at this
 have e3:(s.heap.push PySem.W.emptyDict).Ns s.heap.objs.size (fun _=>none):=⟨PySem.W.emptyDict,#[],_,e1,rfl,(fun e he=>absurd he (by simp)),fun _=>rfl⟩
 have I1:=I.laid (a:=s.heap.objs.size) (o:=.own (s.heap.objs.size+1)) (h':=s.heap.push PySem.W.emptyDict) (t':=s.toks) (fun b u q=>Qy _ q) (Qp _) ⟨_,e1⟩
 refine I1.laid (a:=s.heap.objs.size+1) (o:=.ins C s.heap.objs.size []) (t':=s.toks) (fun b u q=>Qy _ q) (Ur (Yg _ _)) ?_
 have ne:s.heap.objs.size≠s.heap.objs.size+1:=Wh (Ym _)
 refine⟨by rw[zP ne,zO],Ee _,ne,e2,fun _=>none,(Heap.Ns1.of_empty e3).at fun o q=>Qy _ q,fun _=>True.intro,fun y hy=>absurd rfl hy⟩
theorem zRl {prog:Program}{w:World}{env:Env}{e:Expr}{f:Str}{pos:Pos}{s:Shared}{Q:Value->Shared->Prop}(hb:attributeBase e f env (eval e env)=eval e env)
   (h:wpAny (model prog w) A (eval e env) (fun o s₁=>wpAny (model prog w) A (getAttr o f true) Q E s₁) E s):wpAny (model prog w) A (eval (.Attribute e f pos) env) Q E s :=
 Attribute_any_ h (by rw[arm_eval_Attribute,hb])
end
def zOl (K:PySem.W.Frag)(ta:TE)(f:Str):TE:=fun σ H Q=>ta σ H fun x H1=>∃a C dx fs v,x = .ref a/\H1 a=some (.ins C dx fs)/\Cls K C/\NoAttr K C f/\fs.lookup f=some v/\Q v H1
def zO7 (K:PySem.W.Frag)(ta tv:TE)(f:Str):TS:=fun D σ H=>tv σ H fun y H1=>ta σ H1 fun x H2=>∃a C dx fs,x = .ref a/\H2 a=some (.ins C dx fs)/\Cls K C/\NoAttr K C f/\fs.length < 1000 /\
 D.nx σ (upd H2 a (.ins C dx (oQ f y fs)))
section
variable {X:Cx} {o e value:Expr} {f:Str} {pos pos':Pos} {ta tv:TE}
theorem zSP (he:PE X e ta)(hb:attributeBase e f X.env (eval e X.env)=eval e X.env):PE X (.Attribute e f pos) (zOl X.K ta f):=by
 intro pins s σ H Q I h
 refine zRl hb (thn (he pins s σ H _ I h) fun u s1 ⟨x,H1,I1,rx,a,C,dx,fs,v,ex,ea,c,n,l,q⟩=>?_)
 subst ex
 obtain rfl:u=Value.ref a:=rx
 exact zWE I1 ea c n l fun u' s2 I2 ru=>⟨v,H1,I2,ru,q⟩
theorem zU2 (ha:PE X o ta)(hv:PE X value tv)(hs:swapsWith value (some (.Attribute o f pos')) pos.line X.env=pure false):PS X (.Assign [.Attribute o f pos'] value pos) (zO7 X.K ta tv f):=by
 intro pins s σ H D I h
 refine plainObj_wpAny_Assign_Attribute (thn (hv pins s σ H _ I h) fun u s1 ⟨y,H1,I1,ry,q⟩=>thn (ha pins s1 σ H1 _ I1 q) fun ov s2 ⟨x,H2,I2,rx,a,C,dx,fs,ex,ea,c,n,l,q2⟩=>?_) hs
 subst ex
 obtain rfl:ov=Value.ref a:=rx
 exact zXk I2 ea c n l ry fun s3 I3=>⟨σ,_,I3,q2⟩
variable {H:Hp}
inductive TyOf (K:PySem.W.Frag)(H:Hp):V->Value->Prop where
 | non:TyOf K H .non (.type "NoneType")
 | bl (x:Bool):TyOf K H (.bl x) (.type "bool")
 | int (i:Int):TyOf K H (.int i) (.type "int")
 | str (x:Str):TyOf K H (.str x) (.type "str")
 | flt (x:UInt64):TyOf K H (.flt x) (.type "float")
 | lst {a:Addr} {xs:List V} (e:H a=some (.lst xs)):TyOf K H (.ref a) (.type "list")
 | frz {a:Addr} {o:Obj} {xs:List V} (e:H a=some (.frz o (.lst xs))):TyOf K H (.ref a) (.type "list")
 | tup {a:Addr} {xs:List V} (e:H a=some (.tup xs)):TyOf K H (.ref a) (.type "tuple")
 | dK {a:Addr} {kvs:List (Key×V)} (e:H a=some (.dK kvs)):TyOf K H (.ref a) (.type "dict")
 | dT {a:Addr} {kvs:List (List Key×V)} (e:H a=some (.dT kvs)):TyOf K H (.ref a) (.type "dict")
 | ins {a C dx:Addr} {fs:List (Str×V)} (e:H a=some (.ins C dx fs)) (cl:Cls K C) (ha:PySem.W.findIn K (.ref C) "__class__"=some (some (.builtin "object.__class__")))
     (hn:PySem.W.specialIn K (.builtin "object.__class__") "__get__"=some (some (.builtin "getset_descriptor.__get__"))) (htk:PySem.W.takesIn K (.builtin "object.__class__")=some true)
     (hm:PySem.W.mroIn K C (.type "object")=some true):TyOf K H (.ref a) (.ref C)
end
structure Room (k:Nat)(A:Around):Prop where
 hd:A.handled=none
 dp:A.depth+3*k+5 < recursionLimit
 un:A.units+16*k+200 < cLine
theorem Room.mono {j k:Nat}{A:Around}(r:Room k A)(h:j<=k):Room j A:=⟨r.hd,by have:=r.dp;lia,by have:=r.un;lia⟩
theorem Room.deeper {k:Nat}{A:Around}(r:Room (k+1) A)(env:Env):Room k (A.deeper env) :=
 ⟨r.hd,by have:=r.dp;show A.depth+1+3*k+5 < _;lia,by have:=r.un;show A.units+3+16*k+200 < _;lia⟩
theorem Room.in1 {k:Nat}{A:Around}(r:Room (k+1) A):Room k A.in1 :=
 ⟨r.hd,by have:=r.dp;show A.depth+3*k+5 < _;lia,by have:=r.un;show A.units+1+16*k+200 < _;lia⟩
theorem zWM {A:Around}{C:Addr}{us:List Value}{kw:List (Str×Value)}:(A.under (.builtin "type.__call__" ⟨.ref C::us,kw⟩)).depth=A.depth+1:=by
 first | rfl | simp[Around.under,Code.weight,Code.isCreation,Code.isGuard,Code.isCaller,Code.frames,Code.isFrame,guardIds]
theorem zWJ {A:Around}{C:Addr}{us:List Value}{kw:List (Str×Value)}:(A.under (.builtin "type.__call__" ⟨.ref C::us,kw⟩)).units=A.units+1:=by
 first | rfl | simp[Around.under,Code.cUnits,Code.frames,Code.isFrame]
theorem Room.make {k:Nat}{A:Around}(r:Room (k+1) A)(C:Addr)(us:List Value)(kw:List (Str×Value)):Room k (A.under (.builtin "type.__call__" ⟨.ref C::us,kw⟩)) :=
 ⟨r.hd,by have:=r.dp;rw[zWM];lia,by have:=r.un;rw[zWJ];lia⟩
theorem Room.depth {k:Nat}{A:Around}(r:Room k A):A.depth < recursionLimit:=by have:=r.dp;lia
theorem Room.units {k:Nat}{A:Around}(r:Room k A):A.units+64 < cLine:=by have:=r.un;lia
theorem Room.units0 {k:Nat}{A:Around}(r:Room k A):A.units < cLine:=by have:=r.un;lia
def zSV:TA:=fun _ H Q=>Q [] H
def zVO (ta:TE)(tr:TA):TA:=fun σ H Q=>ta σ H fun x H1=>tr σ H1 fun xs H2=>Q (x::xs) H2
section
variable {X:Cx} {e:Expr} {es:List Expr} {te:TE} {t:TA} {pos:Pos}
theorem wI:PA X [] zSV:=fun _ _ _ _ H Q I h=>Calls.spliced_nil ⟨[],H,I,.nil,h⟩
theorem yK (ha:PE X e te)(hr:PA X es t)(hs:starEach (e::es) X.env=(false,eval e X.env)::starEach es X.env:=by rfl):PA X (e::es) (zVO te t):=by
 intro pos pins s σ H Q I h
 rw[hs]
 show wpAny _ _ (spliced ((false,eval e X.env)::backTo pos (starEach es X.env))) _ _ s
 refine Calls.spliced_cons (thn (ha pins s σ H _ I h) fun u s1 ⟨x,H1,I1,r1,q1⟩=>?_)
 exact thn (hr pos pins s1 σ H1 _ I1 q1) fun us s2 ⟨xs,H2,I2,r2,q2⟩=>⟨x::xs,H2,I2,.cons r1 r2,q2⟩
def zOp (t:TA):TE:=fun σ H Q=>t σ H fun xs H1=>xs.length<=sizeLine/\∀p,H1 p=none->Q (.ref p) (upd H1 p (.tup xs))
def zOy (t:TA):TE:=fun σ H Q=>t σ H fun xs H1=>xs.length<=sizeLine/\∀p,H1 p=none->Q (.ref p) (upd H1 p (.lst xs))
theorem zW4 {x1}(h:PA X es t):PE X (.Tuple es x1 pos) (zOp t):=by
 intro pins s σ H Q I hq
 refine wpAny_Tuple_spliced (thn (h pos pins s σ H _ I hq) fun us s1 ⟨xs,H1,I1,r,z,q⟩=>⟨by rw[←r.length];exact z,?_⟩)
 have hf:H1 s1.heap.objs.size=none:=I1.hok.fresh (Qp _)
 refine⟨.ref s1.heap.objs.size,upd H1 s1.heap.objs.size (.tup xs),I1.laid (t':=s1.toks) (fun b u e=>Qy _ e) (Qp _) ?_,rfl,q _ hf⟩
 exact⟨z,us,r,⟨_,Wr _ rfl,rfl,_,rfl⟩⟩
theorem zQD (h:PA X es t):PE X (.List es pos) (zOy t):=by
 intro pins s σ H Q I hq
 refine wpAny_List_spliced (thn (h pos pins s σ H _ I hq) fun us s1 ⟨xs,H1,I1,r,z,q⟩=>⟨by rw[←r.length];exact z,?_⟩)
 have hf:H1 s1.heap.objs.size=none:=I1.hok.fresh (Qp _)
 refine⟨.ref s1.heap.objs.size,upd H1 s1.heap.objs.size (.lst xs),I1.laid (t':=s1.toks) (fun b u e=>Qy _ e) (Qp _) ?_,rfl,q _ hf⟩
 exact⟨z,us,0,r,Wr _ rfl⟩
end
abbrev Sp:=List V->Hp->VK->XK->Prop
abbrev CXT:=List Env->Hp->Shared->XK->Value->Shared->Prop
structure Env0 (P:Program)(w:World)(K:PySem.W.Frag)(mg:Str->Option Value)(base:Heap)(A:Around)(outer:List Env)(s:Shared)(H:Hp):Prop where
 frames:A.frames=some outer
 mod:Mod K mg base
 bs:∀b o,base.get? b=some o->s.heap.get? b=some o/\H b=none
 bsz:base.objs.size<=s.heap.objs.size
 funs:s.heap.FunFrames base outer
 frf:∀b∈frs outer,H b=none
 hok:HOk P w H s.heap
 bare:AllBare s.gens
def CE (outer:List Env)(P:Program)(w:World)(H:Hp)(s:Shared)(Q:VK)(u:Value)(s':Shared):Prop :=
 ∃v H',s'.os=s.os/\AllBare s'.gens/\Un (frs outer) [] H H' s.heap s'.heap/\HOk P w H' s'.heap/\RelV v u/\Q v H'
def CR (CX:CXT)(outer:List Env)(P:Program)(w:World)(H:Hp)(s:Shared)(Q:VK)(E:XK)(r:Result)(s':Shared):Prop :=
 match r with
 | .ok (.ret u)=>CE outer P w H s Q u s'
 | .ok _=>False
 | .error e=>CX outer H s E e s'
structure FnOk (P:Program)(w:World)(K:PySem.W.Frag)(mg:Str->Option Value)(base:Heap)(CX:CXT)(k:Nat)(f:Addr)(fd:FuncData)(ps:List Str)(sp:Sp):Prop where
 len:∀vs H Q E,sp vs H Q E->vs.length=ps.length
 run:∀(A:Around) (outer:List Env) (s:Shared) (H:Hp) (args:Args) (us:List Value) (vs:List V) (Q:VK) (E:XK),Room k A->Env0 P w K mg base A outer s H->BindsTo s fd args (ps.zip us)->Vals vs us->sp vs H Q E ->
   codeAny (model P w) A (.call (.ref f) args) (CR CX outer P w H s Q E) s
theorem Env0.make {P:Program}{w:World}{K:PySem.W.Frag}{mg:Str->Option Value}{base:Heap}{A:Around}{outer:List Env}{s:Shared}{H:Hp}(e:Env0 P w K mg base A outer s H)(C:Addr)(us:List Value)(kw:List (Str×Value)) :
   Env0 P w K mg base (A.under (.builtin "type.__call__" ⟨.ref C::us,kw⟩)) outer s H:=⟨by first | exact e.frames | (simpa [Around.under,Code.envs,Code.isFrame,pushEnvs] using e.frames),e.mod,e.bs,e.bsz,e.funs,e.frf,e.hok,e.bare⟩
theorem Env0.in1 {P:Program}{w:World}{K:PySem.W.Frag}{mg:Str->Option Value}{base:Heap}{A:Around}{outer:List Env}{s:Shared}{H:Hp}(e:Env0 P w K mg base A outer s H) :
   Env0 P w K mg base A.in1 outer s H:=⟨e.frames,e.mod,e.bs,e.bsz,e.funs,e.frf,e.hok,e.bare⟩
section
variable {X:Cx} {pins:List (Addr×Obj)} {σ:St} {H:Hp} {s s':Shared}
theorem Inv.env0 (I:Inv X pins σ H s):Env0 X.prog X.w X.K X.mg X.base X.A X.stack s H :=
 ⟨I.ok.frames,I.ok.mod,I.bs,Wu I.ok.bsz I.sz,I.stack,I.stkFree,I.hok,I.bare⟩
theorem Inv.after {Q:VK}{u:Value}(I:Inv X pins σ H s)(h:CE X.stack X.prog X.w H s Q u s'):EP X pins σ Q u s':=by
 obtain⟨v,H',os,bare,un,hok,r,q⟩:=h
 obtain⟨hh,g,d,t,os'⟩:=s'
 obtain rfl:os'=s.os:=os
 exact⟨v,H',I.call (h':=hh) (g':=g) (d':=d) (t':=t) (ch:=[]) un hok bare (fun b z=>absurd z (by simp)),r,q⟩
end
def zPl (sp:Sp)(dvs:List V)(E:XK)(t:TA):TE:=fun σ H Q=>t σ H fun vs H1=>sp (vs++dvs) H1 Q E
def zQY (C:Addr)(m:Str)(sp:Sp)(dvs:List V)(E:XK)(ta:TE)(t:TA):TE:=fun σ H Q=>ta σ H fun x H1=>∃a dx fs,x = .ref a/\H1 a=some (.ins C dx fs)/\fs.lookup m=none /\
 t σ H1 fun vs H2=>sp (x::(vs++dvs)) H2 Q E
def zPt (C:Addr)(sp:Sp)(dvs:List V)(E:XK)(t:TA):TE:=fun σ H Q=>t σ H fun vs H1=>∀x dx,H1 x=none->H1 dx=none->dx≠x ->
 sp (.ref x::(vs++dvs)) (upd (upd H1 dx (.own x)) x (.ins C dx [])) (fun v H2=>v = .non/\Q (.ref x) H2) E
def Binds (K:PySem.W.Frag)(fd:FuncData)(ps:List Str)(ds:List Value):Prop :=
 ∀(s:Shared) (us:List Value),K.In s.heap->(us++ds).length=ps.length->BindsTo s fd ⟨us,[]⟩ (ps.zip (us++ds))
theorem Binds.all {K:PySem.W.Frag}{fd:FuncData}{ps:List Str}(h:∀us:List Value,us.length=ps.length->bindArgs fd ⟨us,[]⟩=pure (ps.zip us)):Binds K fd ps []:=fun s us _ hl=>by
 rw[Ea] at hl ⊢
 exact .of_eq (h us hl)
def jI (CX:CXT)(X:Cx)(E:XK):Prop:=∀(pins:List (Addr×Obj)) (σ:St) (H:Hp) (s:Shared) (e:Value) (s':Shared),Inv X pins σ H s->CX X.stack H s E e s'->X.xe e s'
section
variable {X:Cx} {CX:CXT} {k:Nat} {f C:Addr} {fd:FuncData} {ps:List Str} {sp:Sp} {dvs:List V} {ds:List Value} {E:XK} {x m:Str} {p pos apos:Pos} {e o:Expr} {es:List Expr} {ta:TE} {t:TA}
theorem zWU {pins:List (Addr×Obj)}{σ:St}{H:Hp}{s:Shared}{Q:VK}{us:List Value}{vs:List V}(F:FnOk X.prog X.w X.K X.mg X.base CX k f fd ps sp)(hr:Room k X.A)(hb:Binds X.K fd ps ds)(hd:Vals dvs ds)(hx:jI CX X E)
   (I:Inv X pins σ H s) (r:Vals vs us) (h:sp (vs++dvs) H Q E):wpAny (model X.prog X.w) X.A (call (.ref f) us) (EP X pins σ Q) X.xe s:=by
 have r2:Vals (vs++dvs) (us++ds):=r.append hd
 have hl:(us++ds).length=ps.length:=by rw[←r2.length];exact F.len _ _ _ _ h
 refine wpAny_call (Ut (F.run X.A X.stack s H ⟨us,[]⟩ (us++ds) (vs++dvs) Q E hr I.env0 (hb s us I.kIn hl) r2 h) fun r s' hq=>?_)
 cases r with
 | error e=>exact hx pins σ H s e s' I hq
 | ok fl =>
   cases fl with
   | ret u=>exact I.after hq
   | next=>exact False.elim hq
   | brk=>exact False.elim hq
   | cont=>exact False.elim hq
theorem dO (F:FnOk X.prog X.w X.K X.mg X.base CX k f fd ps sp)(hr:Room k X.A)(hg:Gl X x)(hm:X.mg x=some (.ref f))(hk:PySem.W.keepIn X.K (.ref f)=true)(hb:Binds X.K fd ps ds)(hd:Vals dvs ds)(hx:jI CX X E)
   (ha:PA X (e::es) t) (hdb:(x==("__debug__":Str))=false:=by decide) (he:starEach (e::es) X.env=(false,eval e X.env)::starEach es X.env:=by rfl) (hpl:(backTo pos (starEach es X.env)).any (·.1)=false:=by rfl) :
   PE X (.Call (.Name x p) (e::es) [] pos) (zPl sp dvs E t):=by
 intro pins s σ H Q I h
 refine Rz (zYB I hg hm ?_ hdb)
 refine Iy (h₀:=X.base) I.ok.mod.kin hk (thn (ha pos pins s σ H _ I h) fun us s1 ⟨vs,H1,I1,r,q⟩=>⟨I1.kIn,?_⟩) he hpl
 exact zWU F hr hb hd hx I1 r q
theorem zRZ {pl:Sem Bool}(he:PE X o ta)(c:Cls X.K C)(hm:Meth X.K C m f)(F:FnOk X.prog X.w X.K X.mg X.base CX k f fd ps sp)(hr:Room k X.A)(hb:Binds X.K fd ps ds)(hd:Vals dvs ds)(hx:jI CX X E)(ha:PA X (e::es) t)
   (hst:starEach (e::es) X.env=(false,eval e X.env)::starEach es X.env:=by rfl) (hpl:(backTo pos (starEach es X.env)).any (·.1)=false:=by rfl)
   (ht:eval (.Call (.Attribute o m apos) (e::es) [] pos) X.env=(do
     let ov ←eval o X.env
     standAt apos.atName
     let (f,first) ←holding [ov] (getMethod ov m pl)
     callWith pos f first (backTo pos (starEach (e::es) X.env)) (backToKw pos (keywordEach [] X.env))):=by rfl) :
   PE X (.Call (.Attribute o m apos) (e::es) [] pos) (zQY C m sp dvs E ta t):=by
 intro pins s σ H Q I h
 refine PySem.W.methodCall_KW (pl:=pl) (thn (he pins s σ H _ I h) fun u s1 ⟨x,H1,I1,rx,a,dx,fs,ex,ea,l,q⟩=>?_) ht
 subst ex
 obtain rfl:u=Value.ref a:=rx
 refine bN I1 ea c hm l ?_
 refine Iy (first:=[.ref a]) (h₀:=X.base) I.ok.mod.kin hm.kp (thn (ha pos pins s1 σ H1 _ I1 q) fun us s2 ⟨vs,H2,I2,r,q2⟩=>⟨I2.kIn,?_⟩) hst hpl
 exact zWU (us:=.ref a::us) (vs:=.ref a::vs) F hr hb hd hx I2 (.cons rfl r) q2
theorem zXm {pl:Sem Bool}(he:PE X o ta)(c:Cls X.K C)(hm:Meth X.K C m f)(F:FnOk X.prog X.w X.K X.mg X.base CX k f fd ps sp)(hr:Room k X.A)(hb:Binds X.K fd ps ds)(hd:Vals dvs ds)(hx:jI CX X E)
   (ht:eval (.Call (.Attribute o m apos) [] [] pos) X.env=(do
     let ov ←eval o X.env
     standAt apos.atName
     let (f,first) ←holding [ov] (getMethod ov m pl)
     callWith pos f first (backTo pos (starEach [] X.env)) (backToKw pos (keywordEach [] X.env))):=by rfl) :
   PE X (.Call (.Attribute o m apos) [] [] pos) (zQY C m sp dvs E ta zSV):=by
 intro pins s σ H Q I h
 refine PySem.W.methodCall_KW (pl:=pl) (thn (he pins s σ H _ I h) fun u s1 ⟨x,H1,I1,rx,a,dx,fs,ex,ea,l,q⟩=>?_) ht
 subst ex
 obtain rfl:u=Value.ref a:=rx
 refine bN I1 ea c hm l ?_
 exact PySem.W.callWith_K0 (first:=[.ref a]) I1.kIn hm.kp (zWU (us:=[.ref a]) (vs:=[.ref a]) F hr hb hd hx I1 (.cons rfl .nil) q)
structure Mk (K:PySem.W.Frag)(C f:Addr):Prop where
 makes:PySem.W.makesIn K C=true
 init:PySem.W.findIn K (.ref C) "__init__"=some (some (.ref f))
 fn:PySem.W.isFn K (.ref f)=true
 kp:PySem.W.keepIn K (.ref C)=true
theorem zTW {pins:List (Addr×Obj)}{σ:St}{H:Hp}{s:Shared}{Q:VK}{us:List Value}{vs:List V}(M:Mk X.K C f)(F:FnOk X.prog X.w X.K X.mg X.base CX k f fd ps sp)(hr:Room (k+1) X.A)(hb:Binds X.K fd ps ds)(hd:Vals dvs ds)
   (hx:jI CX X E) (I:Inv X pins σ H s) (r:Vals vs us)
   (h:∀x dx,H x=none->H dx=none->dx≠x->sp (.ref x::(vs++dvs)) (upd (upd H dx (.own x)) x (.ins C dx [])) (fun v H2=>v = .non/\Q (.ref x) H2) E) :
   wpAny (model X.prog X.w) X.A (call (.ref C) us) (EP X pins σ Q) X.xe s:=by
 have hq:=h (s.heap.objs.size+1) s.heap.objs.size (I.hok.fresh (Ya _)) (I.hok.fresh (Qp _)) (Wh (Ym _))
 have I2:=Inv.made (C:=C) I
 have r2:Vals (V.ref (s.heap.objs.size+1)::(vs++dvs)) (Value.ref (s.heap.objs.size+1)::(us++ds)):=.cons rfl (r.append hd)
 have hl:(Value.ref (s.heap.objs.size+1)::us++ds).length=ps.length:=by
   have e:=r2.length
   rw[F.len _ _ _ _ hq] at e
   exact e.symm
 refine wpAny_call (zUw (f:=f) I.kIn M.makes M.init (Uh.mp M.fn) (Ut (F.run _ X.stack _ _ ⟨Value.ref (s.heap.objs.size+1)::us,[]⟩ (Value.ref (s.heap.objs.size+1)::(us++ds)) _ _ E (hr.make C us [])
   (I2.env0.make C us []) (hb _ (Value.ref (s.heap.objs.size+1)::us) I2.kIn hl) r2 hq) fun r s' hq'=>?_))
 cases r with
 | error e=>exact hx pins σ _ _ e s' I2 hq'
 | ok fl =>
   cases fl with
   | ret u =>
     obtain⟨v,H',I3,rv,ev,q3⟩:=I2.after hq'
     subst ev
     exact⟨rv,⟨V.ref (s.heap.objs.size+1),H',I3,rfl,q3⟩⟩
   | next=>exact False.elim hq'
   | brk=>exact False.elim hq'
   | cont=>exact False.elim hq'
theorem zWi (M:Mk X.K C f)(F:FnOk X.prog X.w X.K X.mg X.base CX k f fd ps sp)(hr:Room (k+1) X.A)(hg:Gl X x)(hm:X.mg x=some (.ref C))(hb:Binds X.K fd ps ds)(hd:Vals dvs ds)(hx:jI CX X E)
   (ha:PA X (e::es) t) (hdb:(x==("__debug__":Str))=false:=by decide) (he:starEach (e::es) X.env=(false,eval e X.env)::starEach es X.env:=by rfl) (hpl:(backTo pos (starEach es X.env)).any (·.1)=false:=by rfl) :
   PE X (.Call (.Name x p) (e::es) [] pos) (zPt C sp dvs E t):=by
 intro pins s σ H Q I h
 refine Rz (zYB I hg hm ?_ hdb)
 refine Iy (h₀:=X.base) I.ok.mod.kin M.kp (thn (ha pos pins s σ H _ I h) fun us s1 ⟨vs,H1,I1,r,q⟩=>⟨I1.kIn,?_⟩) he hpl
 exact zTW M F hr hb hd hx I1 r q
variable {ks:List Str}
structure KBinds (K:PySem.W.Frag)(fd:FuncData)(ps ks:List Str)(g:List Value->List Value->List Value)(gV:List V->List V->List V):Prop where
 to:∀(s:Shared) (us ws:List Value),K.In s.heap->(g us ws).length=ps.length->BindsTo s fd ⟨us,ks.zip ws⟩ (ps.zip (g us ws))
 rel:∀ {vs:List V} {us:List Value} {zs:List V} {ws:List Value},Vals vs us->Vals zs ws->Vals (gV vs zs) (g us ws)
variable {g:List Value->List Value->List Value} {gV:List V->List V->List V}
end
structure FnScope (N P:List Str)(sc:Scope):Prop where
 kind:sc.kind = .function
 co:sc.isCoroutine=false
 gen:sc.isGenerator=false
 nd:N.Nodup
 pre:N.take P.length=P
 par:∀x∈P,sc.names.lookup x=some .local∨sc.names.lookup x=some .cell
 nofree:∀y∈sc.names,y.2 ≠ .free
theorem zZU {kindOf:Str->Option NameKind}{x:Str}:∀ {binds:List (Str×Value)} {m:Str->Option Value},(∀v,(x,v)∉binds)->bindL kindOf binds m x=m x
 | [],_,_=>rfl
 | (n,v)::r,m,h=>by
   unfold bindL
   rw[zZU fun w hw=>h w (Qj _ hw)]
   split
   · have:x≠n:=by rintro rfl;exact h v Qb
     simp[this]
   · rfl
theorem zZD {kindOf:Str->Option NameKind}{x:Str}:∀ {binds:List (Str×Value)} {m:Str->Option Value},(∀v,(x,v)∉binds)->bindC kindOf binds m x=m x
 | [],_,_=>rfl
 | (n,v)::r,m,h=>by
   unfold bindC
   rw[zZD fun w hw=>h w (Qj _ hw)]
   split
   · rfl
   · have:x≠n:=by rintro rfl;exact h v Qb
     simp[this]
theorem aG {kindOf:Str->Option NameKind}{x:Str}{v:Value}:∀ {P:List Str} {vs:List Value} {i:Nat} {m:Str->Option Value},P.Nodup->P[i]?=some x->vs[i]?=some v->kindOf x=some .local ->
   bindL kindOf (P.zip vs) m x=some v
 | [],_,_,_,_,h,_,_=>by simp at h
 | _::_,[],_,_,_,_,h,_=>by simp at h
 | p::P,w::vs,0,m,nd,h1,h2,hk=>by
   simp at h1 h2;subst h1;subst h2
   show bindL kindOf ((p,w)::P.zip vs) m p=_
   unfold bindL
   rw[zZU fun v hv=>(Rw.mp nd).1 (Os hv).1,Qi hk]
   simp
 | p::P,w::vs,i+1,m,nd,h1,h2,hk=>by
   show bindL kindOf ((p,w)::P.zip vs) m x=_
   unfold bindL
   exact aG (i:=i) (Rw.mp nd).2 (by simpa using h1) (by simpa using h2) hk
theorem zZO {kindOf:Str->Option NameKind}{x:Str}{v:Value}:∀ {P:List Str} {vs:List Value} {i:Nat} {m:Str->Option Value},P.Nodup->P[i]?=some x->vs[i]?=some v->kindOf x≠some .local ->
   bindC kindOf (P.zip vs) m x=some v
 | [],_,_,_,_,h,_,_=>by simp at h
 | _::_,[],_,_,_,_,h,_=>by simp at h
 | p::P,w::vs,0,m,nd,h1,h2,hk=>by
   simp at h1 h2;subst h1;subst h2
   show bindC kindOf ((p,w)::P.zip vs) m p=_
   unfold bindC
   rw[zZD fun v hv=>(Rw.mp nd).1 (Os hv).1,Qa hk]
   simp
 | p::P,w::vs,i+1,m,nd,h1,h2,hk=>by
   show bindC kindOf ((p,w)::P.zip vs) m x=_
   unfold bindC
   exact zZO (i:=i) (Rw.mp nd).2 (by simpa using h1) (by simpa using h2) hk
def start (N:List Str)(vs:List V):St:=vs.map some++List.replicate (N.length - vs.length) none
def jT (CX:CXT)(P:Program)(w:World)(K:PySem.W.Frag)(mg:Str->Option Value)(base:Heap)(N:List Str)(qual:Str)(scope:Scope)(f:Addr)(cd:Value)(A:Around)(outer:List Env)(s:Shared)(H:Hp)(E:XK):Cx where
 prog:=P
 w:=w
 K:=K
 mg:=mg
 base:=base
 A:=A.deeper (envOfC qual scope s.heap.objs.size f cd)
 N:=N
 s₀:=s
 H₀:=H
 env:=envOfC qual scope s.heap.objs.size f cd
 outer:=outer
 stack:=envOfC qual scope s.heap.objs.size f cd::outer
 ex:=[]
 calm:=true
 fn:=fun _=>true
 pn:=[]
 xe:=fun e s'=>wpAny (model P w) (A.deeper (envOfC qual scope s.heap.objs.size f cd)) (leaving (envOfC qual scope s.heap.objs.size f cd) e) (fun _ s''=>CX outer H s E e s'') (fun e' s''=>CX outer H s E e' s'') s'
theorem zY3 {sc:Scope}{n:Nat}{x:Str}(h:sc.names.lookup x=some .cell):∃c,(cellsFrom n sc.names []).lookup x=some c:=by
 have q:=PySem.W.cellsFrom_some sc.names n [] (.inl h)
 exact Rf.mp q
theorem zVj {CX:CXT}{P:Program}{w:World}{K:PySem.W.Frag}{mg:Str->Option Value}{base:Heap}{N ps:List Str}{qual:Str}{scope:Scope}{f:Addr}{cd:Value}{A:Around}{outer:List Env}{s s1:Shared}{H:Hp}{E:XK}{us:List Value}{vs:List V}
   (S:FnScope N ps scope) (hd:A.handled=none) (e0:Env0 P w K mg base A outer s H) (hl:vs.length=ps.length) (r:Vals vs us)
   (x:InCallC s s.heap.objs.size (bindL (envOfC qual scope s.heap.objs.size f cd).kindOf (ps.zip us) fun _=>none) (cellsFrom (s.heap.objs.size+1) scope.names []) (bindC (envOfC qual scope s.heap.objs.size f cd).kindOf (ps.zip us) fun _=>none) s1) :
   Inv (jT CX P w K mg base N qual scope f cd A outer s H E) [] (start N vs) H s1:=by
 have hpl:ps.length<=N.length:=by have:=Ep List.length S.pre;rw[Qh] at this;lia
 obtain⟨h1,tk,rfl,hk⟩:=x.done
 have noA:∀b:Addr,b∉(jT CX P w K mg base N qual scope f cd A outer s H E).ex:=fun b z=>absurd (show b∈([]:List Addr) from z) (by simp)
 refine⟨⟨e0.mod,S.kind,rfl,rfl,Qp _,fun y z c h1 h2=>?_,fun y hy=>?_,fun y c _ h=>?_,fun _=>hd,Around.frames_deeper e0.frames,.inr ⟨rfl,rfl⟩,fun b z=>absurd z (noA b),e0.bs,e0.bsz,fun b _ _=>noA b,fun b z=>absurd z (noA b),e0.funs,e0.frf⟩,
   rfl,e0.bare,Un.kept hk,⟨_,x.toInCall.ns,fun i y v h1 h2 h3=>?_⟩,fun y c h=>⟨_,x.cell y c h⟩,e0.hok.fresh (Qp _),fun y c h=>?_,fun p hp=>absurd (show p∈([]:List (Addr×Obj)) from hp) (by simp),e0.hok.kept hk,?_⟩
 · exact name_of_addr x.apart (Eh h1) (Eh h2)
 · have hy:scope.names.lookup y=some .cell∨scope.names.lookup y=some .free:=hy
   rcases hy with hy | hy
   · exact zY3 hy
   · exact absurd rfl (S.nofree _ (Eh hy))
 · exact Wx (x.above y c (Eh h))
 · have hi:i < vs.length:=by
     unfold start at h2
     by_cases hi:i < vs.length
     · exact hi
     · rw[Wt (by simpa using hi)] at h2
       rw[Es] at h2
       split at h2<;>cases h2
   have ha:vs[i]?=some v:=by
     unfold start at h2
     rw[Wc (by simpa using hi),Ws] at h2
     cases e:vs[i]? with
     | none=>rw[e] at h2;cases h2
     | some a=>rw[e] at h2;cases h2;rfl
   obtain⟨u,hu,rv⟩:=r.get ha
   have hp:ps[i]?=some y:=by
     rw[←S.pre,List.getElem?_take_of_lt (by lia)];exact h1
   have ndP:ps.Nodup:=by rw[←S.pre];exact S.nd.sublist (Ei _ _)
   refine⟨u,rv,?_⟩
   rcases S.par y (Uk hp) with k | k
   · exact .inl ⟨k,aG ndP hp hu k⟩
   · obtain⟨c,e⟩:=zY3 (n:=s.heap.objs.size+1) k
     refine .inr ⟨.inl k,c,e,?_⟩
     have q:=x.cell y c e
     rw[zZO ndP hp hu (by show scope.names.lookup y≠_;rw[k];decide)] at q
     exact q
 · exact e0.hok.fresh (Wx (x.above y c (Eh h)))
 · unfold start
   show _=N.length
   rw[Qr,Qu,Uy]
   lia
theorem zPi {CX:CXT}{P:Program}{w:World}{K:PySem.W.Frag}{mg:Str->Option Value}{base:Heap}{k:Nat}{f:Addr}{name qual:Str}{params:Arguments}{body:List Stmt}{scope:Scope}{dV kV doc pm cdv ct oc:Value}{an od:Option Addr}
   {osl:Array (Option Value)} {N ps:List Str} {sp:Sp} (lk:K.lookup f=some ⟨oc,od,.func (PySem.W.fnOf name qual params body scope dV kV doc pm an cdv ct),osl⟩) (hcd:PySem.W.codeIn K cdv qual=true) (S:FnScope N ps scope)
   (len:∀vs H Q E,sp vs H Q E->vs.length=ps.length)
   (hbody:∀(A:Around) (outer:List Env) (s:Shared) (H:Hp) (vs:List V) (Q:VK) (E:XK),Room k (A.deeper (envOfC qual scope s.heap.objs.size f cdv))->sp vs H Q E ->
     ∃t,PSs (jT CX P w K mg base N qual scope f cdv A outer s H E) body t/\t { nx:=fun _ H'=>Q .non H',rt:=Q } (start N vs) H) :
   FnOk P w K mg base CX (k+1) f (PySem.W.fnOf name qual params body scope dV kV doc pm an cdv ct) ps sp:=by
 refine⟨len,fun A outer s H args us vs Q E hr e0 hb r hsp=>?_⟩
 have hl:=len _ _ _ _ hsp
 have KX:K.In s.heap:=e0.mod.kin.keeps fun b o e=>(e0.bs b o e).1
 have lim:s.heap.NoLimit:=e0.mod.nolimit.keeps fun b o e=>(e0.bs b o e).1
 have hkind:∀y∈ps.zip us,scope.names.lookup y.1=some .local∨(scope.names.lookup y.1=some .cell/\((cellsFrom (s.heap.objs.size+1) scope.names []).lookup y.1).isSome=true):=fun⟨n,v⟩ hy=>by
   rcases S.par n (Os hy).1 with q | q
   · exact .inl q
   · exact .inr ⟨q,PySem.W.cellsFrom_some _ _ _ (.inl q)⟩
 refine codeAny_call_function hr.depth (KX _ _ lk) rfl S.co S.gen rfl (PySem.W.codeRec_of KX hcd) (hb _ _ _ _ ?_)
 refine wpAny_newFunctionEnv_cells S.kind hkind fun env he s1 x=>?_
 subst he
 refine⟨lim.keeps x.toInCall.keep,codeAny_func ?_⟩
 obtain⟨t,ht,hq⟩:=hbody A outer s H vs Q E (hr.deeper _) hsp
 have I:Inv (jT CX P w K mg base N qual scope f cdv A outer s H E) [] (start N vs) H s1:=zVj S hr.hd e0 hl r x
 refine Yo (ht [] s1 (start N vs) H _ I hq) (fun fl s' hs=>?_) fun e s' hs=>hs
 have fin:∀ {σ':St} {H':Hp} {v:V} {u:Value},Inv (jT CX P w K mg base N qual scope f cdv A outer s H E) [] σ' H' s'->RelV v u->Q v H'->CE outer P w H s Q u s' :=
   fun {σ' H' v u} J rv q=>⟨v,H',J.os,J.bare,J.base,J.hok,rv,q⟩
 cases fl with
 | ret u =>
   obtain⟨v,σ',H',J,rv,q⟩:=hs
   exact fin J rv q
 | next =>
   obtain⟨σ',H',J,q⟩:=hs
   exact fin (v:=V.non) (u:=Value.none) J rfl q
 | brk =>
   obtain⟨_,_,_,q⟩:=hs
   exact False.elim q
 | cont =>
   obtain⟨_,_,_,q⟩:=hs
   exact False.elim q
section
variable {X:Cx} {x:Str} {p pos:Pos} {e:Expr} {es:List Expr} {t:TA} {id T:String} {r:List V->Hp->VK->Prop}
def tCB (r:List V->Hp->VK->Prop)(t:TA):TE:=fun σ H Q=>t σ H fun vs H1=>r vs H1 Q
theorem sX (hc:CallR X (.builtin id) r)(hg:Gl X x)(hm:X.mg x=none)(hv:bootBuiltins x=some (.builtin id))(ha:PA X (e::es) t)(hn:x≠"__name__":=by decide)(hdb:(x==("__debug__":Str))=false:=by decide)
   (he:starEach (e::es) X.env=(false,eval e X.env)::starEach es X.env:=by rfl) (hpl:(backTo pos (starEach es X.env)).any (·.1)=false:=by rfl):PE X (.Call (.Name x p) (e::es) [] pos) (tCB r t):=by
 intro pins s σ H Q I h
 refine Rz (mQ I hg hm hv ?_ hn hdb)
 exact PyProof.Rows.callWith_builtin1 (thn (ha pos pins s σ H _ I h) fun us s1 ⟨vs,H1,I1,r1,q1⟩=>hc pins s1 σ H1 vs us Q I1 r1 q1) he hpl
theorem zVq (hc:CallR X (.type T) r)(hg:Gl X x)(hm:X.mg x=none)(hv:bootBuiltins x=some (.type T))(ha:PA X (e::es) t)(hn:x≠"__name__":=by decide)(hdb:(x==("__debug__":Str))=false:=by decide)
   (he:starEach (e::es) X.env=(false,eval e X.env)::starEach es X.env:=by rfl) (hpl:(backTo pos (starEach es X.env)).any (·.1)=false:=by rfl):PE X (.Call (.Name x p) (e::es) [] pos) (tCB r t):=by
 intro pins s σ H Q I h
 refine Rz (mQ I hg hm hv ?_ hn hdb)
 exact Rm (thn (ha pos pins s σ H _ I h) fun us s1 ⟨vs,H1,I1,r1,q1⟩=>hc pins s1 σ H1 vs us Q I1 r1 q1) he hpl
end
end L2
namespace HT
open PySem PyProof.Rows
section
def sIx (n d:Nat):Option Int->Nat
 | none=>d
 | some v=>if v < 0 then(v+(n:Int)).toNat else min v.toNat n
theorem sIx_none (n d:Nat):sIx n d none=d:=rfl
theorem sIx_nat (n d k:Nat):sIx n d (some (k:Int))=min k n:=by
 show(if (k:Int) < 0 then((k:Int)+(n:Int)).toNat else min (k:Int).toNat n)=min k n
 rw[Qa (by lia),Ij]
end
end HT
namespace L2
open PySem PySem.Spec PyProof.Rows
abbrev TO:=St->Hp->(Option Int->Hp->Prop)->Prop
def PO (X:Cx)(e:Option Expr)(t:TO):Prop :=
 ∀(pins:List (Addr×Obj)) (s:Shared) (σ:St) (H:Hp) (Q:Option Int->Hp->Prop),Inv X pins σ H s->t σ H Q ->
   wpAny (model X.prog X.w) X.A (evalPart e X.env) (fun u s'=>∃o H',Inv X pins σ H' s'/\IsPart u o/\Q o H') X.xe s
def zSz:TO:=fun _ H Q=>Q none H
def zP4 (t:TE):TO:=fun σ H Q=>t σ H fun x H1=>∃i,x = .int i/\Q (some i) H1
section
variable {X:Cx} {e:Expr} {te:TE} {lo hi:Option Expr} {tl th:TO} {pos p2:Pos}
theorem zSp:PO X none zSz:=by
 intro pins s σ H Q I h
 rw[evalPart_none]
 exact Qx ⟨none,H,I,.none,h⟩
theorem zRo (h:PE X e te):PO X (some e) (zP4 te):=by
 intro pins s σ H Q I hw
 rw[evalPart_some]
 refine thn (h pins s σ H _ I hw) fun u s1 ⟨x,H1,I1,r1,q1⟩=>?_
 obtain⟨i,rfl,q⟩:=q1
 obtain⟨t,rfl⟩:=r1
 exact⟨some i,H1,I1,.int i t,q⟩
def SlR (X:Cx)(r:V->Option Int->Option Int->Hp->VK->Prop):Prop :=
 ∀(pins:List (Addr×Obj)) (s:Shared) (σ:St) (H:Hp) (x:V) (v vl vu:Value) (lo hi:Option Int) (sl:Addr) (Q:VK),Inv X pins σ H s->RelV x v->s.heap.IsSliceOf sl vl vu .none->IsPart vl lo->IsPart vu hi->r x lo hi H Q ->
   ∃T id,typeLookup (.type T) "__getitem__"=pure (some (.builtin id))/\s.TypeIs v T/\wpAny (model X.prog X.w) X.A (getItem v (.ref sl)) (EP X pins σ Q) X.xe s
def tSl (r:V->Option Int->Option Int->Hp->VK->Prop)(te:TE)(tl th:TO):TE:=fun σ H Q=>te σ H fun x H1=>tl σ H1 fun l H2=>th σ H2 fun u H3=>r x l u H3 Q
theorem zYx {r:V->Option Int->Option Int->Hp->VK->Prop}(hr:SlR X r)(he:PE X e te)(hl:PO X lo tl)(hu:PO X hi th):PE X (.Subscript e (.Slice lo hi none p2) pos) (tSl r te tl th):=by
 intro pins s σ H Q I h
 refine Subscript_ (thn (he pins s σ H _ I h) fun v s1 ⟨x,H1,I1,r1,q1⟩=>?_)
 refine wpAny_Slice (thn (hl pins s1 σ H1 _ I1 q1) fun vl s2 ⟨l,H2,I2,pl,q2⟩=>thn (hu pins s2 σ H2 _ I2 q2) fun vu s3 ⟨u,H3,I3,pu,q3⟩=>?_)
 rw[evalPart_none]
 refine Qx ?_
 have I4:Inv X pins σ H3 { s3 with heap:=s3.heap.push { cls:=.type "slice",data:=.fields #[vl,vu,.none] } }:=I3.kept (t':=s3.toks) fun b ob q=>Qy _ q
 obtain⟨T,id,hT,ht,hg⟩:=hr pins { s3 with heap:=s3.heap.push { cls:=.type "slice",data:=.fields #[vl,vu,.none] } } σ H3 x v vl vu l u s3.heap.objs.size Q I4 r1 (Heap.IsSliceOf.new ..) pl pu q3
 show wpAny (model X.prog X.w) X.A (subscriptTail e (.Slice lo hi none p2) v (.ref s3.heap.objs.size)) (EP X pins σ Q) X.xe { s3 with heap:=s3.heap.push { cls:=.type "slice",data:=.fields #[vl,vu,.none] } }
 exact tail_any (ops:=[.ref s3.heap.objs.size,v]) ht hT hg (by with_unfolding_all rfl)
def zUQ (xs:List V)(lo hi:Option Int):List V:=(xs.drop (HT.sIx xs.length 0 lo)).take (HT.sIx xs.length xs.length hi - HT.sIx xs.length 0 lo)
theorem zY0 (xs:List V)(lo hi:Option Int):(zUQ xs lo hi).length<=xs.length:=by
 unfold zUQ
 rw[Qh,Wi]
 lia
end
def ixN (n:Nat)(i:Int):Option Nat:=if 0<=i then(if i < n then some i.toNat else none) else if -(n:Int)<=i then some (i+n).toNat else none
def atI {α:Type}(xs:List α)(i:Int):Option α:=(ixN xs.length i).bind fun j=>xs[j]?
theorem zR1 {n:Nat}{i:Int}{j:Nat}(h:ixN n i=some j):seqIndex? i n=some j/\j < n /\ -(n:Int)<=i/\i < n:=by
 unfold ixN at h
 by_cases h0:0<=i
 · rw[Qi h0] at h
   by_cases h1:i < n
   · rw[Qi h1] at h
     have e:i.toNat=j:=Wg h
     exact⟨by rw[seqIndex_of h0 h1,e],by lia,by lia,h1⟩
   · rw[Qa h1] at h;cases h
 · rw[Qa h0] at h
   by_cases h1 : -(n:Int)<=i
   · rw[Qi h1] at h
     have e:(i+n).toNat=j:=Wg h
     exact⟨by rw[seqIndex_neg (by lia) h1,e],by lia,h1,by lia⟩
   · rw[Qa h1] at h;cases h
theorem zYI {α:Type}{xs:List α}{i:Int}{v:α}(h:atI xs i=some v):∃j,seqIndex? i xs.length=some j/\xs[j]?=some v/\j < xs.length /\ -(xs.length:Int)<=i/\i < xs.length:=by
 unfold atI at h
 cases e:ixN xs.length i with
 | none=>rw[e] at h;cases h
 | some j =>
   rw[e] at h
   obtain⟨h1,h2,h3,h4⟩:=zR1 e
   exact⟨j,h1,h,h2,h3,h4⟩
def hW (b:Expr):Prop:=∀o i,subscripted b false o i=operate [o,i] (getItem o i)
def IxR (X:Cx)(r:R2):Prop :=
 ∀(value slice:Expr) (pins:List (Addr×Obj)) (s:Shared) (σ:St) (H:Hp) (x y:V) (v u:Value) (Q:VK),Inv X pins σ H s->RelV x v->RelV y u->r x y H Q ->
   subscripted slice false v u=operate [v,u] (getItem v u)->wpAny (model X.prog X.w) X.A (subscriptTail value slice v u) (EP X pins σ Q) X.xe s
def MtR (X:Cx)(id:String)(r:V->List V->Hp->VK->Prop):Prop :=
 ∀(pins:List (Addr×Obj)) (s:Shared) (σ:St) (H:Hp) (x:V) (xs:List V) (v:Value) (us:List Value) (Q:VK),Inv X pins σ H s->RelV x v->Vals xs us->r x xs H Q ->
   wpAny (model X.prog X.w) X.A (call (.builtin id) (v::us)) (EP X pins σ Q) X.xe s
section
variable {X:Cx} {a b:Expr} {ta tb:TE} {pos:Pos}
theorem IxR.or {r r':R2}(h:IxR X r)(h':IxR X r'):IxR X (fun x y H Q=>r x y H Q∨r' x y H Q):=by
 intro value slice pins s σ H x y v u Q I rx ry q hs
 rcases q with q | q
 · exact h value slice pins s σ H x y v u Q I rx ry q hs
 · exact h' value slice pins s σ H x y v u Q I rx ry q hs
theorem zWn {r:R2}(hr:IxR X r)(ha:PE X a ta)(hb:PE X b tb)(hs:hW b):PE X (.Subscript a b pos) (tOp r ta tb):=by
 intro pins s σ H Q I h
 exact Subscript_ (zPk ha hb I h fun v u s2 x y H2 I2 rx ry q=>hr a b pins s2 σ H2 x y v u Q I2 rx ry q (hs _ _))
def zP3 (K:PySem.W.Frag):R2:=fun x y H Q=>∃p xs i v,x = .ref p/\y = .int i/\SqL K H p xs/\atI xs i=some v/\Q v H
def zOX (K:PySem.W.Frag):R2:=fun x y H Q=>∃p xs i v,x = .ref p/\y = .int i/\SqT K H p xs/\atI xs i=some v/\Q v H
def zOQ:R2:=fun x y H Q=>∃z i c,x = .str z/\y = .int i/\z.length<=sizeLine/\atI z.cps.toList i=some c/\Q (.str ⟨#[c]⟩) H
theorem zSy:IxR X (zP3 X.K):=by
 intro value slice pins s σ H x y v u Q I rx ry h hs
 obtain⟨p,xs,i,z,rfl,rfl,hq,he,q⟩:=h
 cases rx
 obtain⟨t,rfl⟩:=ry
 obtain⟨its,r,pl,hz⟩:=I.list hq
 obtain⟨j,h1,h2,h3,h4,h5⟩:=zYI he
 obtain⟨w,ew,rw'⟩:=r.get h2
 have hl:=r.length
 have hn:=fY
 have fin:EP X pins σ Q w s:=⟨z,H,I,rw',q⟩
 by_cases h0:0<=i
 · have hj:i.toNat=j:=by
     rw[seqIndex_of h0 h5] at h1
     exact Wg h1
   exact item_listR pl.isList h0 (by lia) (by rw[hj];simpa using ew) fin hs
 · have hj:(i+(its.toArray.size:Int)).toNat=j:=by
     rw[seqIndex_neg (by lia) h4] at h1
     rw[Qo,←hl]
     exact Wg h1
   exact subscriptTail_builtinR (x:=w) pl.isList.typeIs slot_list_getitem.lookup
     (wpAny_getItem_list_neg (Q:=fun r s'=>r=w/\EP X pins σ Q r s') pl.isList (by lia) (by rw[Qo]<;>lia) (by lia) (by rw[hj];simpa using ew) ⟨rfl,fin⟩) hs
theorem zSQ:IxR X (zOX X.K):=by
 intro value slice pins s σ H x y v u Q I rx ry h hs
 obtain⟨p,xs,i,z,rfl,rfl,hq,he,q⟩:=h
 cases rx
 obtain⟨t,rfl⟩:=ry
 obtain⟨its,r,pl,hz⟩:=I.tuple hq
 obtain⟨j,h1,h2,h3,h4,h5⟩:=zYI he
 obtain⟨w,ew,rw'⟩:=r.get h2
 have hl:=r.length
 have hn:=fY
 have fin:EP X pins σ Q w s:=⟨z,H,I,rw',q⟩
 exact subscriptTail_builtinR (x:=w) pl.typeIs slot_tuple_getitem.lookup
   (getItem_tuple (j:=j) (Q:=fun r s'=>r=w/\EP X pins σ Q r s') pl (by lia) (by lia) (by rw[Qo,←hl];exact h1) (by simpa using ew) ⟨rfl,fin⟩) hs
theorem zQj:IxR X zOQ:=by
 intro value slice pins s σ H x y v u Q I rx ry h hs
 obtain⟨z,i,c,rfl,rfl,hz,he,q⟩:=h
 obtain⟨t,rfl⟩:=rx
 obtain⟨t',rfl⟩:=ry
 obtain⟨j,h1,h2,h3,h4,h5⟩:=zYI he
 have hl:z.cps.toList.length=z.length:=by simp[Str.length]
 rw[hl] at h1 h4 h5
 have hn:=fY
 exact tail_any (typeIs_str s z t) slot_str_getitem.lookup (getItem_str (c:=c) (by
   have e1:decide (i < -(2^63:Int))=false:=Ww (by lia)
   have e2:decide (i≥2^63)=false:=Ww (by lia)
   rw[e1,e2,Bool.or_false]) (by rw[h1];simpa using h2) ⟨.str ⟨#[c]⟩,H,I.tok _,⟨_,rfl⟩,q⟩) hs
def rIx (K:PySem.W.Frag):R2:=fun x y H Q=>zP3 K x y H Q∨zOX K x y H Q∨zOQ x y H Q
theorem zSL:IxR X (rIx X.K):=zSy.or (zSQ.or zQj)
theorem zZ0 (lo hi:Option Int)(n:Nat):(sliceBounds lo hi none n).1=((HT.sIx n 0 lo:Nat):Int)/\(sliceBounds lo hi none n).2.1=((HT.sIx n n hi:Nat):Int)/\(sliceBounds lo hi none n).2.2=1:=by
 refine⟨?_,?_,rfl⟩
 · cases lo with
   | none=>simp[sliceBounds,HT.sIx]
   | some i =>
     simp only[sliceBounds,HT.sIx,Option.getD_none,show(1:Int) > 0 by decide,Uu]
     by_cases h:i < 0
     · simp only[h,Uu]<;>lia
     · simp only[h,Rj]<;>lia
 · cases hi with
   | none=>simp[sliceBounds,HT.sIx]
   | some i =>
     simp only[sliceBounds,HT.sIx,Option.getD_none,show(1:Int) > 0 by decide,Uu]
     by_cases h:i < 0
     · simp only[h,Uu]<;>lia
     · simp only[h,Rj]<;>lia
theorem aL (its:List Value)(lo hi:Option Int):slicePick its.toArray lo hi none=((its.drop (HT.sIx its.length 0 lo)).take (HT.sIx its.length its.length hi - HT.sIx its.length 0 lo)).toArray:=by
 obtain⟨h1,h2,h3⟩:=zZ0 lo hi its.toArray.size
 unfold slicePick
 rw[h1,h2,h3]
 simp only[sliceRange_one,pick_run,Qo]<;>rfl
def zOn (K:PySem.W.Frag):V->Option Int->Option Int->Hp->VK->Prop:=fun x lo hi H Q=>∃a xs,x = .ref a/\SqL K H a xs/\∀p,H p=none->Q (.ref p) (upd H p (.lst (zUQ xs lo hi)))
theorem zSd:SlR X (zOn X.K):=by
 intro pins s σ H x v vl vu lo hi sl Q I rx hs pl pu h
 obtain⟨a,xs,rfl,hx,q⟩:=h
 cases rx
 obtain⟨its,r,ht,hz⟩:=I.list hx
 have hlen:=r.length
 refine⟨"list",_,slot_list_getitem.lookup,ht.isList.typeIs,?_⟩
 refine wpAny_getItem_list_slice ht.isList hs pl pu .none (by simp) ?_ (by rw[Qo]<;>lia)
 rw[aL,←hlen]
 refine⟨.ref s.heap.objs.size,_,I.laid (t':=s.toks) (o:=.lst (zUQ xs lo hi)) (fun b ob q=>Qy _ q) (Qp _) ?_,rfl,q _ (I.hok.fresh (Qp _))⟩
 exact⟨Wu (zY0 xs lo hi) hz,_,0,(r.drop (HT.sIx xs.length 0 lo)).take (HT.sIx xs.length xs.length hi - HT.sIx xs.length 0 lo),Wr _ rfl⟩
theorem iH:CallR X (.builtin "len") (fun xs H Q=>∃p ys,xs=[.ref p]/\(SqL X.K H p ys∨SqT X.K H p ys)/\Q (.int ys.length) H):=by
 intro pins s σ H xs us Q I r h
 obtain⟨p,ys,rfl,hq,q⟩:=h
 obtain⟨u,rfl,rx⟩:=eU r
 cases rx
 have hn:=fY
 rcases hq with hq | hq
 · obtain⟨its,r',pl,hz⟩:=I.list hq
   have hlen:=r'.length
   exact Calls.call_len_list pl.isList (by simp only[Qo]<;>lia) ⟨.int ys.length,H,I.tok _,⟨s.toks+1,by rw[Qo,hlen]⟩,q⟩
 · obtain⟨its,r',pl,hz⟩:=I.tuple hq
   have hlen:=r'.length
   exact len_tuple pl (by simp only[Qo]<;>lia) ⟨.int ys.length,H,I.tok _,⟨s.toks+1,by rw[Qo,hlen]⟩,q⟩
theorem zZw:CallR X (.builtin "len") (fun xs H Q=>∃z,xs=[.str z]/\z.length<=sizeLine/\Q (.int z.length) H):=by
 intro pins s σ H xs us Q I r h
 obtain⟨z,rfl,hz,q⟩:=h
 obtain⟨u,rfl,t,rfl⟩:=eU r
 have hn:=fY
 exact len_str (by lia) ⟨.int z.length,H,I.tok _,⟨_,rfl⟩,q⟩
theorem CallR.or {f:Value}{r r':List V->Hp->VK->Prop}(h:CallR X f r)(h':CallR X f r'):CallR X f (fun xs H Q=>r xs H Q∨r' xs H Q):=by
 intro pins s σ H xs us Q I rs q
 rcases q with q | q
 · exact h pins s σ H xs us Q I rs q
 · exact h' pins s σ H xs us Q I rs q
theorem zZr:CallR X (.type "list") (fun xs H Q=>∃p ys,xs=[.ref p]/\(SqL X.K H p ys∨SqT X.K H p ys)/\∀l,H l=none->Q (.ref l) (upd H l (.lst ys))):=by
 intro pins s σ H xs us Q I r h
 obtain⟨p,ys,rfl,hq,q⟩:=h
 obtain⟨u,rfl,rx⟩:=eU r
 cases rx
 have fin:∀(its:List Value),Vals ys its->ys.length<=sizeLine->∀(h':Heap) (c':Nat),(∀b o',s.heap.get? b=some o'->h'.get? b=some o') ->
     h'.get? s.heap.objs.size=some { cls:=.type "list",dict:=none,data:=.seq its.toArray c',slots:=#[] }->EP X pins σ Q (.ref s.heap.objs.size) { s with heap:=h' }:=fun its r' hz h' c' kp e =>
   ⟨.ref s.heap.objs.size,_,I.laid (t':=s.toks) kp (Qp _) (show ObjOk X.prog X.w _ h' _ (.lst ys) from⟨hz,its,c',r',e⟩),rfl,q _ (I.hok.fresh (Qp _))⟩
 rcases hq with hq | hq
 · obtain⟨its,r',pl,hz⟩:=I.list hq
   have hlen:=r'.length
   obtain⟨o,ho,hc,n,hd⟩:=pl.isList
   exact call_list_seq p (.inl rfl) ho hc hd (fun h' c' kp e=>fin its r' hz h' c' kp e) (by simp only[Qo]<;>lia)
 · obtain⟨its,r',pl,hz⟩:=I.tuple hq
   have hlen:=r'.length
   obtain⟨o,ho,hc,n,hd⟩:=pl
   exact call_list_seq p (.inr rfl) ho hc hd (fun h' c' kp e=>fin its r' hz h' c' kp e) (by simp only[Qo]<;>lia)
def tyV (K:PySem.W.Frag)(T:String)(x:V)(H:Hp):Prop:=match x with
 | .str _=>T="str"
 | .int _=>T="int"
 | .ref p=>(T="list"/\∃xs,SqL K H p xs)∨(T="tuple"/\∃o,K.lookup p=some o/\o.cls = .type "tuple"/\o.dict=none) ∨
     (T="dict"/\((∃kvs,H p=some (.dK kvs))∨∃kvs,H p=some (.dT kvs)))∨(T="set"/\∃S n,H p=some (.set S n))
 | _=>False
theorem zTT {pins:List (Addr×Obj)}{σ:St}{H:Hp}{s:Shared}{T:String}{x:V}{v:Value}(I:Inv X pins σ H s)(r:RelV x v)(ty:tyV X.K T x H) :
   s.TypeIs v T/\∀a,v = .ref a->∃ob,s.heap.get? a=some ob/\ob.dict=none:=by
 cases x with
 | str z =>
   obtain⟨t,rfl⟩:=r
   cases (show T="str" from ty)
   exact⟨typeIs_str s z t,fun _ e=>nomatch e⟩
 | int i =>
   obtain⟨t,rfl⟩:=r
   cases (show T="int" from ty)
   exact⟨typeIs_int s i t,fun _ e=>nomatch e⟩
 | ref p =>
   cases r
   rcases ty with⟨rfl,xs,hq⟩ | ⟨rfl,o,hk,hc,hd⟩ | ⟨rfl,hk⟩ | ⟨rfl,S,n,hk⟩
   · obtain⟨its,_,pl,_⟩:=I.list hq
     refine⟨pl.isList.typeIs,fun a e=>?_⟩
     cases e
     obtain⟨o,n,e,c,hd,_⟩:=pl
     exact⟨o,e,hd⟩
   · refine⟨⟨o,I.kIn p o hk,hc⟩,fun a e=>?_⟩
     cases e
     exact⟨o,I.kIn _ o hk,hd⟩
   · have z:∃o,s.heap.get? p=some o/\o.ExactDict:=by
       rcases hk with⟨kvs,hk⟩ | ⟨kvs,hk⟩
       · obtain⟨_,_,_,_,o,_,_,e,ex,_⟩:=I.hok p _ hk
         exact⟨o,e,ex⟩
       · obtain⟨_,_,_,_,o,_,_,e,ex,_⟩:=I.hok p _ hk
         exact⟨o,e,ex⟩
     obtain⟨o,e,ex⟩:=z
     refine⟨⟨o,e,ex.1⟩,fun a e2=>?_⟩
     cases e2
     exact⟨o,e,ex.2.1⟩
   · obtain⟨o,_,_,_,e,ex,_⟩:=I.hok p _ hk
     refine⟨⟨o,e,ex.1⟩,fun a e2=>?_⟩
     cases e2
     exact⟨o,e,ex.2.1⟩
 | _=>exact False.elim ty
def zO0 (K:PySem.W.Frag)(T:String)(r:V->List V->Hp->VK->Prop)(to:TE):TE:=fun σ H Q=>to σ H fun x H1=>tyV K T x H1/\r x [] H1 Q
def tBM (K:PySem.W.Frag)(T:String)(r:V->List V->Hp->VK->Prop)(to:TE)(t:TA):TE:=fun σ H Q=>to σ H fun x H1=>tyV K T x H1/\t σ H1 fun xs H2=>r x xs H2 Q
variable {o e:Expr} {es:List Expr} {to:TE} {t:TA} {name:Str} {apos cpos:Pos} {T id:String} {r:V->List V->Hp->VK->Prop}
theorem zSX (pa:PlainAttrs T)(slot:Slot T name id)(hty:typeOf (.builtin id)=pure (.type "method_descriptor"))(hm:MtR X id r)(ho:PE X o to)
   (hbase:attributeBase o name X.env (eval o X.env)=eval o X.env:=by rfl) (hline:(apos.endLine==cpos.line)=true:=by rfl):PE X (.Call (.Attribute o name apos) [] [] cpos) (zO0 X.K T r to):=by
 intro pins s σ H Q I h
 refine wpAny_Call_method0_late hbase hline (thn (ho pins s σ H _ I h) fun v s1 ⟨x,H1,I1,r1,ty,q1⟩=>?_)
 obtain⟨h1,h2⟩:=zTT I1 r1 ty
 exact⟨T,id,pa,slot,hty,h1,h2,Calls.callWith_builtin rfl (PySem.evalArgs_none (hm pins s1 σ H1 x [] v [] Q I1 r1 .nil q1))⟩
theorem zTJ (pa:PlainAttrs T)(slot:Slot T name id)(hty:typeOf (.builtin id)=pure (.type "method_descriptor"))(hm:MtR X id r)(ho:PE X o to)(ha:PA X (e::es) t)
   (hbase:attributeBase o name X.env (eval o X.env)=eval o X.env:=by rfl)
   (hfew:((backTo cpos (starEach (e::es) X.env)).all (fun x => !x.1)&&(backToKw cpos (keywordEach [] X.env)).all (fun x=>x.1.isSome)
     && decide ((e::es).length+([]:List Keyword).length+(if ([]:List Keyword).isEmpty then 0 else 1) < 30))=true:=by rfl)
   (hline:(apos.endLine==cpos.line)=true:=by rfl) (hs:starEach (e::es) X.env=(false,eval e X.env)::starEach es X.env:=by rfl) (hplain:(backTo cpos (starEach es X.env)).any (·.1)=false:=by rfl) :
   PE X (.Call (.Attribute o name apos) (e::es) [] cpos) (tBM X.K T r to t):=by
 intro pins s σ H Q I h
 refine wpAny_Call_method_late hbase hfew hline rfl (thn (ho pins s σ H _ I h) fun v s1 ⟨x,H1,I1,r1,ty,q1⟩=>?_)
 obtain⟨h1,h2⟩:=zTT I1 r1 ty
 refine⟨T,id,pa,slot,hty,h1,h2,?_⟩
 have hA:=ha cpos pins s1 σ H1 _ I1 q1
 rw[hs] at hA ⊢
 refine Calls.callWith_builtin (by show(false||(backTo cpos (starEach es X.env)).any (·.1))=false;rw[hplain]<;>rfl) (Calls.evalArgs_plain ?_)
 exact thn hA fun us s2 ⟨vs,H2,I2,r2,q2⟩=>hm pins s2 σ H2 x vs v us Q I2 r1 r2 q2
end
def MtM (X:Cx)(id:String)(r:V->List V->Hp->VK->Prop):Prop :=
 ∀(pins:List (Addr×Obj)) (s:Shared) (σ:St) (H:Hp) (x:V) (xs:List V) (v:Value) (us:List Value) (Q:VK),Inv X pins σ H s->RelV x v->Vals xs us->r x xs H Q ->
   wpAny (model X.prog X.w) X.A (call (.builtin id) (v::us)) (EP X pins σ Q) X.xe s
theorem Vals.one:∀ {x:V} {us:List Value},Vals [x] us->∃u,us=[u]/\RelV x u
 | _,_,.cons r .nil=>⟨_,rfl,r⟩
theorem Vals.zero:∀ {us:List Value},Vals [] us->us=[]
 | _,.nil=>rfl
section
variable {X:Cx} {pins:List (Addr×Obj)} {σ:St} {H:Hp} {s:Shared} {l:Addr} {xs ys:List V}
theorem Inv.lset {its its':List Value}{n:Nat}{f:Array Value->Array Value}{t':Nat}(I:Inv X pins σ H s)(hH:H l=some (.lst xs))
   (e:s.heap.get? l=some { cls:=.type "list",data:=.seq its.toArray n }) (hf:f its.toArray=its'.toArray) (hv:Vals ys its') (hz:ys.length<=sizeLine) :
   Inv X pins σ (upd H l (.lst ys)) { s with heap:=s.heap.update l (Obj.mapSeq f),toks:=t' }:=by
 have q:=PySem.IsL.update e f
 rw[hf] at q
 refine I.write (x:=l) (e:=l) (by rw[hH];exact trivial) (.inl rfl) (fun b' u hb hu=>(Rr s.heap (Obj.mapSeq f) (Ne.symm hb)).trans hu) ⟨_,q⟩ ?_
 exact⟨hz,its',_,hv,q⟩
theorem Inv.lnew {its:List Value}{t':Nat}(I:Inv X pins σ H s)(hv:Vals ys its)(hz:ys.length<=sizeLine) :
   Inv X pins σ (upd H s.heap.objs.size (.lst ys)) { s with heap:=s.heap.push { cls:=.type "list",data:=.seq its.toArray },toks:=t' } :=
 I.laid (fun _ _ q=>Qy _ q) (Qp _) ⟨hz,its,0,hv,Wr _ rfl⟩
theorem Inv.fresh (I:Inv X pins σ H s):H s.heap.objs.size=none:=I.hok.fresh (Qp _)
theorem Inv.lstM (I:Inv X pins σ H s)(hH:H l=some (.lst xs)):xs.length<=sizeLine/\∃(its:List Value) (n:Nat),Vals xs its/\xs.length=its.length/\s.heap.get? l=some { cls:=.type "list",data:=.seq its.toArray n }:=by
 obtain⟨z,its,n,r,e⟩:=I.hok l _ hH
 exact⟨z,its,n,r,r.length,e⟩
theorem zSD {n:Nat}(h:n<=sizeLine):Builtin.List.listTooLong n=false:=by
 unfold Builtin.List.listTooLong
 exact Ww (by lia)
def zVY:V->List V->Hp->VK->Prop:=fun x vs H Q=>∃l xs y,x = .ref l/\vs=[y]/\H l=some (.lst xs)/\xs.length < sizeLine/\Q .non (upd H l (.lst (xs++[y])))
theorem zZC:MtM X "list.append" zVY:=by
 intro pins s σ H x vs v us Q I rx rv h
 obtain⟨l,xs,y,rfl,rfl,hH,hz,q⟩:=h
 cases rx
 obtain⟨u,rfl,ru⟩:=rv.one
 obtain⟨z,its,n,r,hl,e⟩:=I.lstM hH
 refine call_meets F.slot_list_append ⟨_,e,rfl⟩ F.entry_list_append (F.args_list_append_2 _ _) (PySem.list_append l its.toArray n u (by rw[Qo];lia)) ⟨e,?_⟩
 refine⟨.non,_,I.lset (its':=its++[u]) hH e (by simp) (r.append (.cons ru .nil)) ?_,rfl,q⟩
 rw[Qr,Ui]
 lia
def zQs:V->List V->Hp->VK->Prop:=fun x vs H Q=>∃l xs,x = .ref l/\vs=[]/\H l=some (.lst xs)/\Q .non (upd H l (.lst []))
theorem zX1:MtM X "list.clear" zQs:=by
 intro pins s σ H x vs v us Q I rx rv h
 obtain⟨l,xs,rfl,rfl,hH,q⟩:=h
 cases rx
 have hus:=rv.zero
 subst hus
 obtain⟨z,its,n,r,hl,e⟩:=I.lstM hH
 refine call_meets F.slot_list_clear ⟨_,e,rfl⟩ F.entry_list_clear (F.args_list_clear_1 _) (AutoSeq1.list_clear_list_0 l its.toArray n (by rw[Qo];lia)) ⟨e,?_⟩
 exact⟨.non,_,I.lset (its':=[]) (ys:=[]) hH e rfl .nil (Ee _),rfl,q⟩
def zOz:R2:=fun x y H Q=>∃l b xs zs,x = .ref l/\y = .ref b/\H l=some (.lst xs)/\H b=some (.lst zs)/\xs.length+zs.length<=sizeLine/\∀p,H p=none->Q (.ref p) (upd H p (.lst (xs++zs)))
theorem zPV:OpR X (binaryOp .Add) zOz:=by
 intro pins s σ H x y v u Q I rx ry h
 obtain⟨l,b,xs,zs,rfl,rfl,hH,hB,hz,q⟩:=h
 cases rx
 cases ry
 obtain⟨z,its,n,r,hl,e⟩:=I.lstM hH
 obtain⟨z2,its2,n2,r2,hl2,e2⟩:=I.lstM hB
 refine PySem.P.add_list e e2 ?_ (by rw[Qo,Qo];lia)
 have ea:its.toArray++its2.toArray=(its++its2).toArray:=by simp
 rw[ea]
 exact⟨.ref _,_,I.lnew (t':=s.toks) (r.append r2) (by rw[Qr];lia),rfl,q _ I.fresh⟩
end
end L2
namespace Att
open PySem PySem.W PySem.Calls PyProof.Rows
theorem dZ {P:Params}{h:Heap}:∀(ns:List Int) (vs:List Value),WellAll P h vs (ns.map WData.int)->IntsAre vs ns:=by
 intro ns
 induction ns with
 | nil =>
   intro vs w
   rw[List.map_nil] at w
   cases w
   exact .nil
 | cons n ns ih =>
   intro vs w
   rw[Ql] at w
   cases w with
   | cons a b =>
     cases a
     exact .cons _ _ (ih _ b)
theorem zU9 {l:OpenLaw}{n:Nat}(hn:l.most=some n){P:Params}{h:Heap}{args:List WData}{vals:List Value}
   (hpre:l.row.toRowW.claim.pre args=true) (hwl:WellAll P h vals args) :
   ∃a vs ns,vals=[Value.ref a]/\args=[WData.list (ns.map WData.int)]/\h.get? a=some { cls:=.type "list",data:=.seq vs.toArray }/\IntsAre vs ns/\ns.length<=n:=by
 have hsh:WShape.hasAll [] args [.list .int]=true:=(pre_splitW hpre).1
 have hc:l.pre.holds [] { args:=args }=true:=(pre_splitW hpre).2
 obtain⟨d,r,rfl,h1,h2⟩:=hasAllW_cons hsh
 obtain rfl:=hasAllW_nil h2
 obtain⟨xs,rfl,h3⟩:=hasW_list h1
 obtain⟨ns,rfl⟩:=items_int h3
 have hlen:ns.length<=n:=by
   unfold OpenLaw.pre at hc
   have h4:(WTm.not (.lt (.lit (.int (n:Int))) (.len (.arg 0)))).holds [] { args:=[.list (ns.map .int)] }=true:=by
     have h4:=(holds_andW hc).1
     rw[hn] at h4
     exact h4
   have h5:=condW_of h4 (w_not (w_lt w_lit (w_len_list (w_arg rfl))))
   rw[Qu] at h5
   refine Nat.le_of_not_lt fun q=>?_
   have q':(n:Int) < ((ns.length:Nat):Int):=by lia
   first
     | (rw[Qz q'] at h5;exact absurd h5 (by decide))
     | (simp at h5;lia)
 cases hwl with
 | cons w1 w2 =>
   cases w2
   cases w1 with
   | list ho hall=>exact⟨_,_,ns,rfl,rfl,ho,dZ ns _ hall,hlen⟩
theorem zUZ (l:OpenLaw)(args:List WData):l.row.toRowW.claim.post args (.bool true) args=true :=
 postW_of (r:=l.row.toRowW) (X:=(true==true))
   (show WShape.has [] (.bool true) .bool=true by first | rfl | decide | simp[WShape.has,WShape.arms,WShape.armsAll])
   (show(WTm.eq .res (.lit (.bool true))).value [] { args:=args,res:=some (.bool true),after:=args }=some (.bool (true==true)) from w_eq_bool (w_res rfl) w_lit) rfl
theorem attach_call {l:OpenLaw}{n:Nat}{q:Program}{loose:List Str}{XP:(Str->Option Value)->Heap->Prop}{YP:World->Heap->Prop}{d:DefRec}
   (hn:l.most=some n) (hdf:d.params.defaults=[])
   (call:∀(w:World) (s₀ s₁:Shared) (mg mb:Str->Option Value) (fa:Addr) (o:Obj) (pm cd doc:Value) (a:Addr) (vs:List Value) (ns:List Int),
     Ground q loose [] XP w s₀ mg mb s₁.heap->YP w s₁.heap ->
     s₁.heap.get? fa=some o->o.data = .func (docDef d.name d.params d.body d.scope pm cd doc)->s₁.heap.CodeRec cd d.name->mg d.name=some (.ref fa) ->
     s₁.heap.get? a=some { cls:=.type "list",data:=.seq vs.toArray }->IntsAre vs ns->ns.length<=n->s₁.gens=#[] ->
     codeAny (model l.prog w) callerA (.call (.ref fa) ⟨[.ref a],[]⟩) (fun r s'=>r = .ok (.ret (.bool true))/\OldK s₁.heap s'.heap/\s'.os=s₁.os/\AllBare s'.gens) s₁) :
   WalkO q loose XP YP l.row.toRowW d [] (fun f vs=>PySem.call f vs):=by
 intro w s₀ s₁ mg mb G Y fa o pm cd doc dV kV ho hd hcd hD hmg hg args vals as hpre hlay hrd hwl hlo
 obtain rfl:dV = .none:=Dflts.none hD hdf
 obtain rfl:kV = .none:=Dflts.noKw hD
 obtain⟨a,vs,ns,rfl,rfl,hobj,hints,hlen⟩:=zU9 hn hpre hwl
 refine enter_call (Ut (call w s₀ s₁ mg mb fa o pm cd doc a vs ns G Y ho (fd_plain hd) hcd hmg hobj hints hlen hg) fun r s' hq=>?_)
 obtain⟨rfl,h2,h3,h4⟩:=hq
 exact⟨.inl ⟨.bool true,.bool true,[],rfl,fun _=>rfl,.bool true,zUZ l _,fun _=>⟨List.Pairwise.nil,fun _ hm=>(nomatch hm)⟩⟩,h2,h3,h4⟩
end Att
namespace L2
open PySem PySem.Spec PyProof.Rows
theorem zZ8:∀ {vs:List Value} {ns:List Int},IntsAre vs ns->Vals (ns.map V.int) vs
 | _,_,.nil=>.nil
 | _,_,.cons n t h=>.cons ⟨t,rfl⟩ (zZ8 h)
def zQg (H:Hp):Prop:=∀b,H b=none∨∃o xs,H b=some (.frz o (.lst xs))
theorem zTB {P:Program}{w:World}{K:PySem.W.Frag}{mg mb:Str->Option Value}{CX:CXT}{k:Nat}{fa a:Addr}{fd:FuncData}{x:Str}{sp:Sp}{s₁:Shared}{vs:List Value}{ns:List Int}
   (KX:K.In s₁.heap) (hns:s₁.heap.Ns mainGlobals mg) (hb:s₁.heap.Ns builtinsNs mb) (hbb:∀x:Str,x≠"__name__"->mb x=bootBuiltins x) (hlim:s₁.heap.NoLimit) (hg:s₁.gens=#[])
   (ha:s₁.heap.get? a=some { cls:=.type "list",data:=.seq vs.toArray }) (hi:IntsAre vs ns) (hl:ns.length<=sizeLine) (hr:Room k callerA)
   (F:∀base:Heap,K.In base->base.Ns mainGlobals mg->FnOk P w K mg base CX k fa fd [x] sp) (hbind:∀(s:Shared) (u:Value),BindsTo s fd ⟨[u],[]⟩ [(x,u)])
   (hsp:∀H:Hp,zQg H->SqL K H a (ns.map V.int)->sp [.ref a] H (fun v _=>v = .bl true) fun _ _ _=>False)
   (hCX:∀H e s',CX [] H s₁ (fun _ _ _=>False) e s'->False) :
   codeAny (model P w) callerA (.call (.ref fa) ⟨[.ref a],[]⟩) (fun r s'=>r = .ok (.ret (.bool true))/\OldK s₁.heap s'.heap/\s'.os=s₁.os/\AllBare s'.gens) s₁:=by
 have rv:=zZ8 hi
 have lenV:=hi.length
 -- from an abstract heap in which nothing but the script may be tracked
 have core:∀H:Hp,zQg H->SqL K H a (ns.map V.int)->HOk P w H s₁.heap->(∀b,H b≠none->b=a)->(H a≠none->K.lookup a=none) ->
     codeAny (model P w) callerA (.call (.ref fa) ⟨[.ref a],[]⟩) (fun r s'=>r = .ok (.ret (.bool true))/\OldK s₁.heap s'.heap/\s'.os=s₁.os/\AllBare s'.gens) s₁:=by
   intro H hO hS hok hA hK
   have base_of:∀ {b:Addr} {o:Obj},s₁.heap.get? b=some o->H b=none->(zYO s₁.heap H).get? b=some o:=fun e n=>zUf e n
   have noA:∀ {b:Addr} {o:Obj} {es:Array DictEntry} {ep:Nat},s₁.heap.get? b=some o->o.data = .dict es ep->H b=none:=fun {b o es ep} e d=>by
     cases q:H b with
     | none=>rfl
     | some u =>
       have e':b=a:=hA b (by rw[q];simp)
       subst e'
       rw[ha] at e;cases e
       have d':Data.seq vs.toArray _=Data.dict es ep:=d
       cases d'
   have nsK:∀ {b:Addr} {m:Str->Option Value},s₁.heap.Ns b m->(zYO s₁.heap H).Ns b m:=fun {b m} ⟨o,es,ep,e,d,r⟩=>⟨o,es,ep,base_of e (noA e d),d,r⟩
   have hKb:K.In (zYO s₁.heap H):=fun b o e=>base_of (KX b o e) (by
     cases q:H b with
     | none=>rfl
     | some u =>
       have e':b=a:=hA b (by rw[q];simp)
       subst e'
       rw[hK (by rw[q];simp)] at e;cases e)
   have hM:Mod K mg (zYO s₁.heap H):=⟨hKb,nsK hns,⟨mb,nsK hb,hbb⟩,let ⟨mc,h1,h2⟩:=hlim;⟨mc,nsK h1,h2⟩⟩
   have e0:Env0 P w K mg (zYO s₁.heap H) callerA [] s₁ H:=⟨rfl,hM,fun b o e=>zRr e,Ur (zVt _ _),trivial,fun b hb=>absurd (show b∈([]:List Addr) from hb) (by simp),hok,.of_eq hg⟩
   refine Ut ((F _ hKb (nsK hns)).run callerA [] s₁ H ⟨[.ref a],[]⟩ [.ref a] [.ref a] _ _ hr e0 (hbind s₁ (.ref a)) (.cons rfl .nil) (hsp H hO hS)) fun r s' h=>?_
   cases r with
   | error e=>exact(hCX H e s' h).elim
   | ok fl =>
     cases fl with
     | next=>exact False.elim h
     | brk=>exact False.elim h
     | cont=>exact False.elim h
     | ret u =>
       obtain⟨v,H',os,bare,un,hok',r',q⟩:=h
       have q':v = .bl true:=q
       subst q'
       obtain rfl:u=Value.bool true:=r'
       refine⟨rfl,OldK.of_keep fun b o e=>?_,os,bare⟩
       cases q:H b with
       | none=>exact un.keep b o e q (by intro z;exact absurd (show b∈([]:List Addr) from z) (by simp)) (by simp)
       | some u =>
         rcases hO b with z | ⟨ob,xs,z⟩
         · rw[q] at z;cases z
         · have z2:=un.frzs b ob _ z
           obtain⟨e1,_⟩:=hok b _ z
           obtain⟨e2,_⟩:=hok' b _ z2
           rw[e] at e1;cases e1
           exact e2
 cases hk:K.lookup a with
 | some o =>
   -- the script is one of the module's own objects
   have e:=KX a o hk
   rw[ha] at e
   cases e
   refine core (fun _=>none) (fun _=>.inl rfl) (.inr ⟨_,vs.toArray,_,hk,rfl,rfl,rfl,by rw[Qo,lenV];exact hl,by simpa using rv⟩) (fun b u z=>by have z':(none:Option HO)=some u:=z;cases z') (fun b z=>absurd rfl z) fun z=>absurd rfl z
 | none =>
   refine core (fun b=>if b=a then some (.frz { cls:=.type "list",data:=.seq vs.toArray } (.lst (ns.map V.int))) else none) (fun b=>?_) (.inl (.inr ⟨{ cls:=.type "list",data:=.seq vs.toArray },Qi rfl⟩)) (fun b u z=>?_) (fun b z=>?_) fun _=>hk
   · by_cases hb:b=a
     · exact .inr ⟨_,_,Qi hb⟩
     · exact .inl (Qa hb)
   · by_cases hb:b=a
     · have z':=(Qi hb).symm.trans z
       cases z'
       subst hb
       exact⟨ha,by rw[Qu];exact hl,vs,_,rv,ha⟩
     · have z':=(Qa hb).symm.trans z
       cases z'
   · by_cases hb:b=a
     · exact hb
     · exact absurd (Qa hb) z
theorem zRS {l:PySem.W.OpenLaw}{n k:Nat}{q:Program}{loose:List Str}{XP:(Str->Option Value)->Heap->Prop}{YP:World->Heap->Prop}{d:DefRec}{K:Params->PySem.W.Frag}{CX:World->CXT}{sp:World->Sp}{x:Str}
   (hn:l.most=some n) (hn2:n<=sizeLine) (hdf:d.params.defaults=[]) (hr:Room k callerA)
   (hY:∀(w:World) (h:Heap),YP w h->(K w.params).In h)
   (F:∀(w:World) (mg:Str->Option Value) (fa:Addr) (h:Heap),(K w.params).In h->h.Ns mainGlobals mg->mg d.name=some (.ref fa) ->
     ∃fd:FuncData,(∀(s:Shared) (u:Value),BindsTo s fd ⟨[u],[]⟩ [(x,u)]) /\
       ∀base:Heap,(K w.params).In base->base.Ns mainGlobals mg->FnOk l.prog w (K w.params) mg base (CX w) k fa fd [x] (sp w))
   (hsp:∀(w:World) (H:Hp) (a:Addr) (ns:List Int),ns.length<=n->zQg H->SqL (K w.params) H a (ns.map V.int)->sp w [.ref a] H (fun v _=>v = .bl true) fun _ _ _=>False)
   (hCX:∀(w:World) (H:Hp) (s:Shared) (e:Value) (s':Shared),CX w [] H s (fun _ _ _=>False) e s'->False) :
   PySem.W.WalkO q loose XP YP l.row.toRowW d [] (fun f vs=>PySem.call f vs):=by
 refine Att.attach_call hn hdf fun w s₀ s₁ mg mb fa o pm cd doc a vs ns G Y ho hd hcd hmg hobj hints hlen hg=>?_
 have KX:=hY w _ Y
 obtain⟨fd,hb,hF⟩:=F w mg fa _ KX G.T.g hmg
 exact zTB KX G.T.g G.T.b G.T.builtins G.T.nolimit hg hobj hints (Wu hlen hn2) hr hF hb (fun H hO hS=>hsp w H a ns hlen hO hS) fun H e s'=>hCX w H s₁ e s'
abbrev CX0:CXT:=fun _ _ _ _ _ _=>False
abbrev E0:XK:=fun _ _ _=>False
theorem gW {X:Cx}:jI CX0 X E0:=fun _ _ _ _ _ _ _ h=>h.elim
structure Fun (K:PySem.W.Frag)(x qual:Str)(st:Stmt)(f:Addr)(fd:FuncData):Prop where
 ex:∃(oc:Value) (od:Option Addr) (kV doc pm:Value) (an:Option Addr) (cdv ct:Value) (osl:Array (Option Value)),
   fd=PySem.W.fnOf x qual (vL st) (xY st) (zU st) .none kV doc pm an cdv ct/\K.lookup f=some ⟨oc,od,.func fd,osl⟩/\PySem.W.codeIn K cdv qual=true
 kp:PySem.W.keepIn K (.ref f)=true
section
variable {P:Program} {w:World} {K:PySem.W.Frag} {mg:Str->Option Value} {base:Heap}
theorem Fun.ok {x qual:Str}{st:Stmt}{f:Addr}{fd:FuncData}{N ps:List Str}{k:Nat}{sp:Sp}(F:Fun K x qual st f fd)(S:FnScope N ps (zU st))(len:∀vs H Q E,sp vs H Q E->vs.length=ps.length)
   (hbody:∀(cdv:Value) (A:Around) (outer:List Env) (s:Shared) (H:Hp) (vs:List V) (Q:VK) (E:XK),Room k (A.deeper (envOfC qual (zU st) s.heap.objs.size f cdv))->sp vs H Q E ->
     ∃t,PSs (jT CX0 P w K mg base N qual (zU st) f cdv A outer s H E).nox (xY st) t/\t { nx:=fun _ H'=>Q .non H',rt:=Q } (start N vs) H):FnOk P w K mg base CX0 (k+1) f fd ps sp:=by
 obtain⟨oc,od,kV,doc,pm,an,cdv,ct,osl,rfl,lk,hcd⟩:=F.ex
 refine zPi lk hcd S len fun A outer s H vs Q E hr hsp=>?_
 obtain⟨t,h,q⟩:=hbody cdv A outer s H vs Q E hr hsp
 exact⟨t,h.nox,q⟩
theorem Fun.binds {x qual:Str}{st:Stmt}{f:Addr}{fd:FuncData}{ps:List Str}(F:Fun K x qual st f fd)
   (h:∀(kV doc pm:Value) (an:Option Addr) (cdv ct:Value) (us:List Value),us.length=ps.length->bindArgs (PySem.W.fnOf x qual (vL st) (xY st) (zU st) .none kV doc pm an cdv ct) ⟨us,[]⟩=pure (ps.zip us)):Binds K fd ps []:=by
 obtain⟨oc,od,kV,doc,pm,an,cdv,ct,osl,rfl,lk,hcd⟩:=F.ex
 exact .all (h kV doc pm an cdv ct)
theorem kC {x qual:Str}{st:Stmt}{f:Addr}{oc:Value}{od an:Option Addr}{osl:Array (Option Value)}{kV doc pm cdv ct:Value}(l:K.lookup f=some ⟨oc,od,.func (PySem.W.fnOf x qual (vL st) (xY st) (zU st) .none kV doc pm an cdv ct),osl⟩)
   (c:PySem.W.codeIn K cdv qual=true) (k:PySem.W.keepIn K (.ref f)=true):Fun K x qual st f (PySem.W.fnOf x qual (vL st) (xY st) (zU st) .none kV doc pm an cdv ct):=⟨⟨oc,od,kV,doc,pm,an,cdv,ct,osl,rfl,l,c⟩,k⟩
variable {X:Cx}
theorem pv (i:Nat){x:Str}{pos:Pos}(hN:X.N[i]?=some x:=by rfl)(hv:Vis X.env.scope x:=by first | exact Or.inl rfl | exact Or.inr (Or.inl rfl) | exact Or.inr (Or.inr rfl))(hd:(x==("__debug__":Str))=false:=by decide)
   (hcd:(x==("__classdict__":Str))=false:=by decide):PE X (.Name x pos) (zSO i):=rZ hN hv hd hcd
end
def Same (H H':Hp):Prop:=∀b o,H b=some o->H' b=some o
theorem Same.refl (H:Hp):Same H H:=fun _ _ h=>h
theorem Same.trans {H H1 H2:Hp}(a:Same H H1)(b:Same H1 H2):Same H H2:=fun c o h=>b c o (a c o h)
theorem Same.free {H H':Hp}(e:Same H H'){l:Addr}(h:H' l=Option.none):H l=Option.none:=by
 cases q:H l with
 | none=>rfl
 | some o =>
   rw[e l o q] at h
   cases h
theorem Same.seq {K:PySem.W.Frag}{H H':Hp}{a:Addr}{xs:List V}(e:Same H H')(h:SqL K H a xs):SqL K H' a xs:=by
 rcases h with(h | ⟨o,h⟩) | h
 · exact .inl (.inl (e _ _ h))
 · exact .inl (.inr ⟨o,e _ _ h⟩)
 · exact .inr h
section
variable {κ:Type} [DecidableEq κ]
def lJ (kvs:List (κ×V))(k:κ):Option V:=(kvs.find? fun kv=>decide (kv.1=k)).map (·.2)
def gQ (kvs:List (κ×V))(k:κ)(v:V):List (κ×V) :=
 if (kvs.any fun kv=>decide (kv.1=k))=true then kvs.map (fun kv=>if kv.1=k then(kv.1,v) else kv) else kvs++[(k,v)]
def iK (kvs:List (κ×V))(k:κ):List (κ×V):=kvs.filter fun kv=>decide (kv.1≠k)
theorem zX3 {p:κ×V}{r:List (κ×V)}{k:κ}(e:p.1=k):lJ (p::r) k=some p.2:=by simp[lJ,Tq,e]
theorem zYr {p:κ×V}{r:List (κ×V)}{k:κ}(e:¬p.1=k):lJ (p::r) k=lJ r k:=by simp[lJ,Tq,e]
theorem cR (k:κ):∀kvs:List (κ×V),(kvs.any fun kv=>decide (kv.1=k))=(lJ kvs k).isSome
 | []=>rfl
 | p::r=>by
   rw[List.any_cons]
   by_cases e:p.1=k
   · simp only[zX3 e,Qz e,Bool.true_or,Option.isSome_some]
   · rw[zYr e,Ww e,Bool.false_or];exact cR k r
theorem eZ (kvs:List (κ×V))(k:κ)(v:V):(gQ kvs k v).length<=kvs.length+1:=by
 unfold gQ
 split
 · rw[Qu];lia
 · rw[Qr,Qs,Od];lia
theorem zTX {kvs:List (κ×V)}{k:κ}(v:V)(h:lJ kvs k=none):gQ kvs k v=kvs++[(k,v)]:=by
 unfold gQ
 rw[cR,h]
 exact Qa (by decide)
theorem RelO.isSome_eq {o:Option V}{u:Option Value}(r:RelO o u):o.isSome=u.isSome:=by
 cases o with
 | none=>cases u with
   | none=>rfl
   | some _=>exact(show False from r).elim
 | some _=>cases u with
   | none=>exact(show False from r).elim
   | some _=>rfl
theorem KV.any {kvs:List (κ×V)}{vs:List (κ×Value)}(r:KV kvs vs)(k:κ):(kvs.any fun kv=>decide (kv.1=k))=vs.any fun kv=>decide (kv.1=k):=by
 unfold KV at r
 induction r with
 | nil=>rfl
 | cons h t ih=>rw[List.any_cons,List.any_cons,ih,h.1]
theorem KV.repl {kvs:List (κ×V)}{vs:List (κ×Value)}(r:KV kvs vs)(k:κ){y:V}{u:Value}(ry:RelV y u) :
   KV (kvs.map fun kv=>if kv.1=k then(kv.1,y) else kv) (vs.map fun kv=>if kv.1=k then(kv.1,u) else kv):=by
 unfold KV at r ⊢
 induction r with
 | nil=>exact .nil
 | @cons p q ps qs h t ih =>
   rw[Ql,Ql]
   refine .cons ?_ ih
   obtain⟨h1,h2⟩:=h
   by_cases e:p.1=k
   · rw[Qi e,Qi (h1.symm.trans e)];exact⟨h1,ry⟩
   · rw[Qa e,Qa (fun z=>e (h1.trans z))];exact⟨h1,h2⟩
theorem KV.put {kvs:List (κ×V)}{vs:List (κ×Value)}(r:KV kvs vs)(k:κ){y:V}{u:Value}(ry:RelV y u):KV (gQ kvs k y) (stored vs k u):=by
 unfold gQ stored
 rw[r.any k]
 by_cases e:(vs.any fun kv=>decide (kv.1=k))=true
 · rw[Qi e,Qi e];exact r.repl k ry
 · rw[Qa e,Qa e];exact Paired.snoc r ⟨rfl,ry⟩
theorem KV.length {kvs:List (κ×V)}{vs:List (κ×Value)}(r:KV kvs vs):kvs.length=vs.length:=Ek r
theorem zSS (kvs:List (κ×V))(k:κ):(iK kvs k).length<=kvs.length:=Tw _ _
end
theorem zRd {P:Program}{w:World}{k:Key}{u:Value}(r:RelV (kV k) u):(xZ P w).is k u=true:=by
 cases k with
 | inl i=>obtain⟨t,e⟩:=(show ∃t,u=Value.int i t from r);subst e;exact zX4 P w i t
 | inr x=>obtain⟨t,e⟩:=(show ∃t,u=Value.str x t from r);subst e;exact zYa P w x t
theorem gC {P:Program}{w:World}:∀ {ks:List Key} {us:List Value},Vals (ks.map kV) us->ItemsAre (xZ P w) ks us
 | [],_,r=>by rw[List.map_nil] at r;cases r;exact .nil
 | k::ks,_,r=>by
   rw[Ql] at r
   cases r with
   | cons h t=>exact .cons (zRd h) (gC t)
abbrev KTd (H:Hp):List (List Key×V)->List (List Key×Addr×Value)->Prop:=Paired fun p q=>p.1=q.1/\H q.2.1=some (.tup (p.1.map kV))/\RelV p.2 q.2.2
theorem KTd.val {H:Hp}{kvs:List (List Key×V)}{xs:List (List Key×Addr×Value)}(r:KTd H kvs xs)(k:List Key):RelO (lJ kvs k) ((atKey xs k).map (·.2)):=by
 induction r with
 | nil=>exact True.intro
 | @cons p q ps qs h t ih =>
   obtain⟨h1,_,h2⟩:=h
   by_cases e:p.1=k
   · have e':q.1=k:=h1.symm.trans e
     have b:atKey (q::qs) k=some q.2:=by simp[atKey,Tq,e']
     rw[zX3 e,b];exact h2
   · have e':¬q.1=k:=fun z=>e (h1.trans z)
     have b:atKey (q::qs) k=atKey qs k:=by simp[atKey,Tq,e']
     rw[zYr e,b];exact ih
theorem KTd.repl {H:Hp}{kvs:List (List Key×V)}{xs:List (List Key×Addr×Value)}(r:KTd H kvs xs)(k:List Key){y:V}{u:Value}(ry:RelV y u) :
   KTd H (kvs.map fun kv=>if kv.1=k then(kv.1,y) else kv) (xs.map (putAt k u)):=by
 induction r with
 | nil=>exact .nil
 | @cons p q ps qs h t ih =>
   rw[Ql,Ql]
   refine .cons ?_ ih
   obtain⟨h1,h2,h3⟩:=h
   unfold putAt
   by_cases e:p.1=k
   · rw[Qi e,Qi (h1.symm.trans e)];exact⟨h1,h2,ry⟩
   · rw[Qa e,Qa (fun z=>e (h1.trans z))];exact⟨h1,h2,h3⟩
theorem KTd.put {H:Hp}{kvs:List (List Key×V)}{xs:List (List Key×Addr×Value)}(r:KTd H kvs xs)(k:List Key){b:Addr}{y:V}{u:Value}(hb:H b=some (.tup (k.map kV)))(ry:RelV y u) :
   KTd H (gQ kvs k y) (storedH xs k b u):=by
 have e:(kvs.any fun kv=>decide (kv.1=k))=(atKey xs k).isSome:=by
   rw[cR,(r.val k).isSome_eq,Option.isSome_map]
 unfold gQ storedH
 rw[e]
 by_cases q:(atKey xs k).isSome=true
 · rw[Qi q,Qi q];exact r.repl k ry
 · rw[Qa q,Qa q];exact Paired.snoc r ⟨rfl,hb,ry⟩
theorem KTd.keeps {H H':Hp}{kvs:List (List Key×V)}{xs:List (List Key×Addr×Value)}(r:KTd H kvs xs)(ht:∀b ys,H b=some (.tup ys)->H' b=some (.tup ys)):KTd H' kvs xs :=
 Paired.mapP r fun _ _ z=>⟨z.1,ht _ _ z.2.1,z.2.2⟩
section
variable {P:Program} {w:World} {H:Hp} {h:Heap} {a:Addr}
theorem zQS {u:HO}(ok:HOk P w H h)(e:Rd H a u):ObjOk P w H h a u:=e.ok ok
theorem zOZ {kvs:List (Key×V)}(ok:HOk P w H h)(e:Rd H a (.dK kvs)):kvs.length<=sizeLine/\(a==sysModules)=false/\∃vs,KV kvs vs/\h.DictOf (xZ P w) a vs :=
 show ObjOk P w H h a (.dK kvs) from zQS ok e
theorem zPm {kvs:List (Key×V)}(ok:HOk P w H h)(e:H a=some (.dK kvs)):kvs.length<=sizeLine/\(a==sysModules)=false/\∃vs,KV kvs vs/\h.DictOf (xZ P w) a vs:=zOZ ok (.inl e)
theorem zTe {ks:List Key}(ok:HOk P w H h)(e:H a=some (.tup (ks.map kV))):(tupleKind (xZ P w)).is h ks a:=by
 obtain⟨_,its,r,o,h1,h2,n,h3⟩:=(show ObjOk P w H h a (.tup (ks.map kV)) from ok a _ e)
 exact⟨o,its.toArray,n,h1,h2,h3,by simpa using gC r⟩
theorem zOR {kvs:List (List Key×V)}(ok:HOk P w H h)(e:Rd H a (.dT kvs)):kvs.length<=sizeLine/\(a==sysModules)=false /\
   ∃xs,KTd H kvs xs/\h.DictOfH (tupleKind (xZ P w)) a xs:=by
 obtain⟨z,y,xs,r,o,es,ep,h1,h2,h3,h4,h5⟩:=(show ObjOk P w H h a (.dT kvs) from zQS ok e)
 refine⟨z,y,xs,r,o,es,ep,h1,h2,h3,h4,fun x hx=>?_,h5⟩
 have all:∀ {l:List (List Key×V)} {m:List (List Key×Addr×Value)},KTd H l m->∀x∈m,(tupleKind (xZ P w)).is h x.1 x.2.1:=by
   intro l m q
   induction q with
   | nil=>intro x hx;exact nomatch hx
   | @cons p q ps qs hq t ih =>
     intro x hx
     rcases Qd.mp hx with e | hx
     · subst e
       exact zTe ok (by rw[←hq.1];exact hq.2.1)
     · exact ih x hx
 exact all r x hx
theorem zZL {kvs:List (List Key×V)}(ok:HOk P w H h)(e:H a=some (.dT kvs)):kvs.length<=sizeLine/\(a==sysModules)=false /\
   ∃xs,KTd H kvs xs/\h.DictOfH (tupleKind (xZ P w)) a xs:=zOR ok (.inl e)
end
def DPut (H:Hp)(a:Addr)(y v:V)(H':Hp):Prop :=
 (∃kvs k,H a=some (.dK kvs)/\y=kV k/\kvs.length < sizeLine/\H'=upd H a (.dK (gQ kvs k v))) ∨
 ∃kvs k b,H a=some (.dT kvs)/\y = .ref b/\H b=some (.tup (k.map kV))/\kvs.length < sizeLine/\H'=upd H a (.dT (gQ kvs k v))
theorem DPut.t {H:Hp}{a b:Addr}{kvs:List (List Key×V)}{k:List Key}{v:V}(e:H a=some (.dT kvs))(eb:H b=some (.tup (k.map kV)))(hl:kvs.length < sizeLine) :
   DPut H a (.ref b) v (upd H a (.dT (gQ kvs k v))):=.inr ⟨kvs,k,b,e,rfl,eb,hl,rfl⟩
section
variable {X:Cx} {pins:List (Addr×Obj)} {σ:St} {H:Hp} {s:Shared} {a:Addr} {y v:V} {u r:Value} {A:Around} {E:Value->Shared->Prop}
theorem Inv.big (I:Inv X pins σ H s):sysModules < s.heap.objs.size:=by
 have h:mainGlobals < s.heap.objs.size:=(I.mod.glob.keeps I.bk).lt
 exact Nat.lt_trans (by decide) h
theorem zYW {h':Heap}{t':Nat}{ob:HO}(I:Inv X pins σ H s)(mu:Mut (H a))(hs:Heap.SameBut a s.heap h')(he:∃q,h'.get? a=some q)(new:ObjOk X.prog X.w (upd H a ob) h' a ob) :
   Inv X pins σ (upd H a ob) { s with heap:=h',toks:=t' } :=
 I.write (x:=a) (e:=a) mu (.inl rfl) (fun b q hb z=>(hs.2 b hb).trans z) he new
theorem zQk {P:Program}{w:World}{H':Hp}{h':Heap}{kvs:List (Key×V)}{vs:List (Key×Value)}(z:kvs.length<=sizeLine)(hd:(a==sysModules)=false)(rel:KV kvs vs)(dd:h'.DictOf (xZ P w) a vs) :
   ObjOk P w H' h' a (.dK kvs):=⟨z,hd,vs,rel,dd⟩
theorem zUX {H':Hp}{Q:Unit->Shared->Prop}(hu:A.units+1 < cLine)(I:Inv X pins σ H s)(g:DPut H a y v H')(ry:RelV y u)(rv:RelV v r)(h:∀s',Inv X pins σ H' s'->Q () s') :
   wpAny (model X.prog X.w) A (setItem (.ref a) u r) Q E s:=by
 rcases g with⟨kvs,k,e,ey,l,eH⟩ | ⟨kvs,k,b,e,ey,eb,l,eH⟩
 · subst ey eH
   obtain⟨z,hd,vs,rel,dd⟩:=zPm I.hok e
   have hz:vs.length<=sizeLine:=by rw[←rel.length];exact z
   have hl:(gQ kvs k v).length<=sizeLine:=by have:=eZ kvs k v;lia
   refine wpAny_setItem_pairs (hsz:=hz) (zRd ry) dd fun h' dd' hs=>h _ ?_
   have he:∃q,h'.get? a=some q:=let ⟨q,_,_,hq,_⟩:=dd';⟨q,hq⟩
   exact zYW I (by rw[e];exact True.intro) hs he (zQk hl hd (rel.put k rv) dd')
 · subst ey eH
   cases (show u=Value.ref b from ry)
   obtain⟨z,hd,xs,rel,dd⟩:=zZL I.hok e
   have hz:xs.length<=sizeLine:=by rw[←Ek rel];exact z
   have hl:(gQ kvs k v).length<=sizeLine:=by have:=eZ kvs k v;lia
   refine wpAny_setItem_heap (hsz:=hz) (Td hu) (zTe I.hok eb) dd fun h' dd' hs=>h _ ?_
   obtain⟨q,es,ep,hq,h2,h3,h4,_,h5⟩:=dd'
   refine zYW I (by rw[e];exact True.intro) hs ⟨q,hq⟩ ⟨hl,hd,_,(rel.put k eb rv).keeps fun c ys ec=>?_,q,es,ep,hq,h2,h3,h4,h5⟩
   rw[zP (zQN ec e (fun z=>nomatch z))]
   exact ec
end
theorem zSC {P:Program}{w:World}{H:Hp}(h:Heap)(hb:sysModules < h.objs.size):ObjOk P w H (h.push { cls:=.type "dict",data:=.dict #[] }) h.objs.size (.dT []) :=
 ⟨Ee _,Rh.mpr (Ne.symm (Wh hb)),[],.nil,_,#[],0,Wr _ rfl,⟨rfl,rfl,rfl⟩,rfl,rfl,List.nodup_nil⟩
def zQ5:TE:=fun _ H Q=>∀p,H p=none->Q (.ref p) (upd H p (.dT []))
section
variable {X:Cx} {pos:Pos}
theorem zUk:PE X (.Dict [] [] pos) zQ5:=fun pins s σ H Q I h =>
 wpAny_Dict_empty ⟨.ref s.heap.objs.size,_,I.laid (a:=s.heap.objs.size) (o:=.dT []) (t':=s.toks) (fun _ _ q=>Qy _ q) (Qp _) (zSC s.heap I.big),rfl,h _ (I.hok.fresh (Qp _))⟩
end
structure M1 (X:Cx)(o:Expr)(m:Str)(apos:Pos)(e:Expr)(cpos:Pos):Prop where
 base:attributeBase o m X.env (eval o X.env)=eval o X.env
 few:((backTo cpos (starEach [e] X.env)).all (fun x => !x.1)&&(backToKw cpos (keywordEach [] X.env)).all (fun x=>x.1.isSome)
   && decide (([e]:List Expr).length+([]:List Keyword).length+(if ([]:List Keyword).isEmpty then 0 else 1) < 30))=true
 line:(apos.endLine==cpos.line)=true
 trees:backTo cpos (starEach [e] X.env)=[(false,eval e X.env)]
structure M2 (X:Cx)(o:Expr)(m:Str)(apos:Pos)(e f:Expr)(cpos:Pos):Prop where
 base:attributeBase o m X.env (eval o X.env)=eval o X.env
 few:((backTo cpos (starEach [e,f] X.env)).all (fun x => !x.1)&&(backToKw cpos (keywordEach [] X.env)).all (fun x=>x.1.isSome)
   && decide (([e,f]:List Expr).length+([]:List Keyword).length+(if ([]:List Keyword).isEmpty then 0 else 1) < 30))=true
 line:(apos.endLine==cpos.line)=true
 trees:backTo cpos (starEach [e,f] X.env)=[(false,eval e X.env),(false,eval f X.env)]
def DEs (h:Heap)(d:Addr)(es:Array DictEntry)(ep:Nat):Prop:=∃o,h.get? d=some o/\o.ExactDict/\o.data = .dict es ep
theorem DEs.keep {h h':Heap}{d:Addr}{es:Array DictEntry}{ep:Nat}(x:DEs h d es ep)(k:∀o,h.get? d=some o->h'.get? d=some o):DEs h' d es ep:=let ⟨o,h1,h2⟩:=x;⟨o,k o h1,h2⟩
section
variable {P:Program} {w:World} {A:Around} {E:Value->Shared->Prop} {s:Shared} {d I:Addr} {es:Array DictEntry} {ep i:Nat}
abbrev kiO (d:Addr)(i n ep:Nat):Obj:={ cls:=.type "dict_keyiterator",data:=.fields #[.ref d,rawInt i,rawInt n,rawInt ep] }
theorem zRj {v:Value}{Q:Option Value->Shared->Prop}(hd:DEs s.heap d es ep)(hI:s.heap.get? I=some (kiO d i es.size ep))(hv:es[i]?.map (·.key)=some v)
   (h:∀h',Heap.SameBut I s.heap h'->h'.get? I=some (kiO d (i+1) es.size ep)->Q (some v) { s with heap:=h' }):wpAny (model P w) A (pyNext (.ref I)) Q E s:=by
 have hT:s.TypeIs (.ref I) "dict_keyiterator":=⟨_,hI,rfl⟩
 obtain⟨o,ho,hx,hdt⟩:=hd
 unfold pyNext
 refine Qe (Iu ?_)
 have sl:Slot "dict_keyiterator" "__next__" "dict_keyiterator.__next__":=F.slot_dict_keyiterator_next
 refine wpAny_callSpecial?_slot (name:=Str.ofString "__next__") hT sl (Ru sl hT F.entry_dict_keyiterator_next ?_ (F.args_dict_keyiterator_next_1 _))
 obtain⟨cc,dd,dt,sz⟩:=o
 dsimp only at hdt
 subst hdt
 wp_walk
 rw[Qa (by simp)]
 wp_walk
 have ei:((i:Nat):Int).toNat=i:=Ij i
 rw[ei]
 cases he:es[i]? with
 | none=>rw[he] at hv;cases hv
 | some e =>
   rw[he] at hv
   have hv:some e.key=some v:=hv
   cases hv
   dsimp only
   wp_walk
   have key:∀(n:Nat) (m:Int),n=1->m=(i:Int)+1->Q (some e.key) { s with heap:=s.heap.update I (Obj.mapFields fun x=>x.setIfInBounds n (rawInt m)) }:=fun n m e1 e2=>by
     subst e1;subst e2
     refine h _ ⟨Oy _ _ _,fun b hb=>Eu _ _ _ _ hb⟩ ?_
     have:=Te (Obj.mapFields fun x=>x.setIfInBounds 1 (rawInt ((i:Int)+1))) hI rfl
     refine this.trans ?_
     rfl
   refine⟨_,rfl,Qx (key _ _ (by kernel_rfl) ?_)⟩
   rw[Qa (by decide +kernel)]
theorem zQr {Q:Option Value->Shared->Prop}(hh:A.handled=none)(hd:DEs s.heap d es ep)(hI:s.heap.get? I=some (kiO d i es.size ep))(hv:es[i]?=none)
   (h:∀h',(∀c o,c≠I->s.heap.get? c=some o->h'.get? c=some o)->Q none { s with heap:=h' }):wpAny (model P w) A (pyNext (.ref I)) Q E s:=by
 have hT:s.TypeIs (.ref I) "dict_keyiterator":=⟨_,hI,rfl⟩
 obtain⟨o,ho,hx,hdt⟩:=hd
 unfold pyNext
 refine Qe (Iu ?_)
 have sl:Slot "dict_keyiterator" "__next__" "dict_keyiterator.__next__":=F.slot_dict_keyiterator_next
 refine wpAny_callSpecial?_slot (name:=Str.ofString "__next__") hT sl (Ru sl hT F.entry_dict_keyiterator_next ?_ (F.args_dict_keyiterator_next_1 _))
 obtain⟨cc,dd,dt,sz⟩:=o
 dsimp only at hdt
 subst hdt
 wp_walk
 rw[Qa (by simp)]
 wp_walk
 have ei:((i:Nat):Int).toNat=i:=Ij i
 rw[ei,hv]
 dsimp only
 wp_walk
 refine wpAny_raiseNew_none (by simp[hh]) (Qe (wpAny_isInstance (T:="StopIteration") (b:=true) ⟨_,Wr _ rfl,rfl⟩ isSubtype_stop (Qx (h _ fun c o hc e=>?_))))
 exact Qy _ (Qy _ (by rw[Eu _ _ _ _ hc];exact e))
theorem zRq {Q:Value->Shared->Prop}(hd:DEs s.heap d es ep)(hs:(d==sysModules)=false)(h:Q (.ref s.heap.objs.size) { s with heap:=s.heap.push (kiO d 0 es.size ep) }):wpAny (model P w) A (pyIter (.ref d)) Q E s:=by
 obtain⟨o,ho,hx,hdt⟩:=hd
 have hT:s.TypeIs (.ref d) "dict":=⟨_,ho,hx.1⟩
 refine wpAny_pyIter_slot hT F.slot_dict_iter (Ru F.slot_dict_iter hT F.entry_dict_iter ?_ (F.args_dict_iter_1 _))
 obtain⟨cc,dd,dt,sz⟩:=o
 dsimp only at hdt
 subst hdt
 have hc:cc = .type "dict":=hx.1
 subst hc
 wp_walk
 exact⟨_,rfl,_,_,⟨_,Wr _ rfl,rfl⟩,F.slot_dict_keyiterator_next.lookup,h⟩
end
end L2
namespace L2
open PySem PySem.W PyProof.Rows
structure SWO (lt:Nat->Nat->Bool):Prop where
 irr:∀a,lt a a=false
 tr:∀a b c,lt a b=true->lt b c=true->lt a c=true
 neg:∀a b c,lt a c=true->lt a b=true∨lt b c=true
def Lx (lt:Nat->Nat->Bool)(a b:Nat):Prop:=lt a b=true∨(lt a b=false/\lt b a=false/\a < b)
section
variable {lt:Nat->Nat->Bool} (W:SWO lt)
include W
theorem SWO.asym {a b:Nat}(h:lt a b=true):lt b a=false:=by
 cases e:lt b a
 · rfl
 · have:=W.tr _ _ _ h e;rw[W.irr] at this;cases this
theorem SWO.eqr {a b c:Nat}(h:lt a b=true)(h1:lt c b=false):lt a c=true:=by
 rcases W.neg a c b h with e | e
 · exact e
 · rw[h1] at e;cases e
theorem SWO.eql {a b c:Nat}(h:lt a b=true)(h1:lt a c=false):lt c b=true:=by
 rcases W.neg a c b h with e | e
 · rw[h1] at e;cases e
 · exact e
theorem SWO.ntr {a b c:Nat}(h1:lt a b=false)(h2:lt b c=false):lt a c=false:=by
 cases e:lt a c
 · rfl
 · rcases W.neg a b c e with z | z
   · rw[h1] at z;cases z
   · rw[h2] at z;cases z
theorem Lx.trans {a b c:Nat}(h1:Lx lt a b)(h2:Lx lt b c):Lx lt a c:=by
 rcases h1 with h1 | ⟨x1,x2,x3⟩<;>rcases h2 with h2 | ⟨y1,y2,y3⟩
 · exact .inl (W.tr _ _ _ h1 h2)
 · exact .inl (W.eqr h1 y2)
 · exact .inl (W.eql h2 x2)
 · exact .inr ⟨W.ntr x1 y1,W.ntr y2 x2,by lia⟩
theorem Lx.le {a b:Nat}(h:Lx lt a b):lt b a=false:=by
 rcases h with h | ⟨_,h,_⟩
 · exact W.asym h
 · exact h
theorem Lx.of {a b:Nat}(h:lt b a=false)(hab:a < b):Lx lt a b:=by
 cases e:lt a b
 · exact .inr ⟨e,h,hab⟩
 · exact .inl e
end
abbrev gg (p:Array Nat)(k:Nat):Nat:=p.getD k 0
theorem qL (p:Array Nat)(k:Nat):gg p k=(p[k]?).getD 0:=by unfold gg;simp[Og]
theorem sA {p:Array Nat}{i j:Nat}(hj:j<=p.size)(k:Nat):gg (kas_rev p i j) k=if i<=k/\k < j then gg p (i+j - 1 - k) else gg p k:=by
 rw[qL,qL,qL]
 unfold kas_rev
 rw[Ub hj]
 split<;>rfl
theorem zYP {p:Array Nat}{k l:Nat}(hk:k < p.size)(hl:l<=k)(i:Nat):gg (bubble p k (k - l)) i=if i=l then gg p k else if l < i/\i<=k then gg p (i - 1) else gg p i:=by
 rw[qL,qL,qL,qL,Oh hk (k - l) (by lia),show k - (k - l)=l by lia]
 split
 · rfl
 · split<;>rfl
def Srt (lt:Nat->Nat->Bool)(p:Array Nat)(a:Nat):Prop:=∀i j,i < j->j < a->Lx lt (gg p i) (gg p j)
def Dcr (lt:Nat->Nat->Bool)(p:Array Nat)(a:Nat):Prop:=∀i j,i < j->j < a->Lx lt (gg p j) (gg p i)
structure Org (N:Nat)(p:Array Nat)(a:Nat):Prop where
 sz:p.size=N
 pm:p.toList.Perm (List.range N)
 hi:∀j,a<=j->j < N->gg p j=j
 lo:∀i,i < a->gg p i < a
theorem zPR {p:Array Nat}{N i j:Nat}(h:p.toList.Perm (List.range N)):(kas_rev p i j).toList.Perm (List.range N):=(Ox.mp (mirror_perm _ _ _ _)).trans h
theorem Org.rev {N a i:Nat}{p:Array Nat}(h:Org N p a)(ha:a<=N):Org N (kas_rev p i a) a:=by
 have hs:a<=p.size:=by rw[h.sz];exact ha
 refine⟨by unfold kas_rev;rw[mirror_size];exact h.sz,zPR h.pm,fun j h1 h2=>?_,fun k hk=>?_⟩
 · rw[sA hs,Qa (by lia)];exact h.hi j h1 h2
 · rw[sA hs]
   split
   · exact h.lo _ (by lia)
   · exact h.lo _ hk
theorem Org.next {N a:Nat}{p:Array Nat}(h:Org N p a)(ha:a < N):Org N p (a+1) :=
 ⟨h.sz,h.pm,fun j h1 h2=>h.hi j (by lia) h2,fun i hi=>by
   by_cases e:i=a
   · subst e;rw[h.hi i (by lia) ha];lia
   · have:=h.lo i (by lia);lia⟩
section
variable {lt:Nat->Nat->Bool} (W:SWO lt) {N:Nat}
include W
theorem cS {p:Array Nat}{n:Nat}(h1:1<=n)(hn:n < N)(hs:Srt lt p n)(ho:Org N p n)(hlt:lt (gg p n) (gg p (n - 1))=false):Srt lt p (n+1):=by
 have hl:Lx lt (gg p (n - 1)) (gg p n):=Lx.of W hlt (by rw[ho.hi n (by lia) hn];exact ho.lo _ (by lia))
 intro i j hij hj
 by_cases e:j=n
 · subst e
   by_cases e':i=j - 1
   · subst e';exact hl
   · exact Lx.trans W (hs i (j - 1) (by lia) (by lia)) hl
 · exact hs i j hij (by lia)
omit W in
theorem zSu {p:Array Nat}{n:Nat}(hn:n<=p.size)(h:Dcr lt p n):Srt lt (kas_rev p 0 n) n:=fun i j hij hj=>by
 rw[sA hn,sA hn,Qi (by lia),Qi (by lia)]
 exact h _ _ (by lia) (by lia)
structure Fal (lt:Nat->Nat->Bool)(N:Nat)(p:Array Nat)(n q:Nat):Prop where
 hq:q+1<=n
 dn:∀i j,i < j->j < n - (q+1)->Lx lt (gg p j) (gg p i)
 ac:∀i j,i < n - (q+1)->n - (q+1)<=j->j < n->lt (gg p j) (gg p i)=true
 eq:∀i j,n - (q+1)<=i->i < j->j < n->lt (gg p i) (gg p j)=false/\lt (gg p j) (gg p i)=false/\gg p i < gg p j
 og:Org N p n
theorem Fal.last {p:Array Nat}{n q:Nat}(h:Fal lt N p n q){i:Nat}(hi:n - (q+1)<=i)(hin:i < n):lt (gg p i) (gg p (n - 1))=false/\lt (gg p (n - 1)) (gg p i)=false:=by
 by_cases e:i=n - 1
 · subst e;exact⟨W.irr _,W.irr _⟩
 · have:=h.eq i (n - 1) hi (by lia) (by have:=h.hq;lia)
   exact⟨this.1,this.2.1⟩
theorem Fal.turn {p:Array Nat}{n q:Nat}(h:Fal lt N p n q)(hn:n<=N):Dcr lt (kas_rev p (n - (q+1)) n) n/\Org N (kas_rev p (n - (q+1)) n) n:=by
 have hs:n<=p.size:=by rw[h.og.sz];exact hn
 have hq:=h.hq
 refine⟨fun i j hij hj=>?_,h.og.rev hn⟩
 rw[sA hs,sA hs]
 by_cases hj':n - (q+1)<=j
 · rw[Qi ⟨hj',hj⟩]
   by_cases hi':n - (q+1)<=i
   · rw[Qi ⟨hi',by lia⟩]
     exact .inr (h.eq _ _ (by lia) (by lia) (by lia))
   · rw[Qa (by lia)]
     exact .inl (h.ac _ _ (by lia) (by lia) (by lia))
 · rw[Qa (by lia),Qa (by lia)]
   exact h.dn i j hij (by lia)
theorem iX {p:Array Nat}{n:Nat}(h1:1<=n)(hn:n < N)(hd:Dcr lt p n)(ho:Org N p n)(hl:∀i,i < n->lt (gg p n) (gg p i)=true):Fal lt N p (n+1) 0:=by
 refine⟨by lia,fun i j hij hj=>hd i j hij (by lia),fun i j hi hj hj'=>?_,fun i j hi hij hj=>by lia,ho.next hn⟩
 have:j=n:=by lia
 subst this
 exact hl i (by lia)
theorem Fal.less {p:Array Nat}{n q:Nat}(h:Fal lt N p n q)(hc:lt (gg p n) (gg p (n - 1))=true)(i:Nat)(hi:i < n):lt (gg p n) (gg p i)=true:=by
 have hq:=h.hq
 by_cases hr:n - (q+1)<=i
 · exact W.eqr hc (Fal.last W h hr hi).1
 · exact W.tr _ _ _ hc (h.ac i (n - 1) (by lia) (by lia) (by lia))
theorem Fal.dcr {p:Array Nat}{n:Nat}(h:Fal lt N p n 0):Dcr lt p n:=fun i j hij hj=>by
 by_cases e:j=n - 1
 · exact .inl (h.ac i j (by lia) (by lia) hj)
 · exact h.dn i j hij (by lia)
def zOw (lt:Nat->Nat->Bool)(N:Nat)(r:Nat×Array Nat):Prop:=1<=r.1/\r.1<=N/\Srt lt r.2 r.1/\Org N r.2 r.1
theorem zUA (hN:1<=N):Org N (List.toArray (List.range N)) 1:=by
 have e:∀j,j < N->gg (List.toArray (List.range N)) j=j:=fun j hj=>by rw[qL];simp[hj]
 refine⟨by simp,by simp,fun j h1 h2=>e j h2,fun i hi=>?_⟩
 have:i=0:=by lia
 subst this
 rw[e 0 (by lia)]
 lia
end
end L2
namespace L2
open PySem PySem.Spec PyProof.Rows
section
variable {prog:Program} {w:World} {A:Around} {R:Result->Shared->Prop} {s:Shared}
abbrev F0:Value->Shared->Prop:=fun _ _=>False
theorem aE {α:Type}{t:Sem α}{Q Q':α->Shared->Prop}{M:Model}{A:Around}{E:Value->Shared->Prop}{s:Shared}(h:wpAny M A t Q F0 s)(hq:∀a s,Q a s->Q' a s):wpAny M A t Q' E s:=Yo h hq fun _ _ z=>z.elim
theorem dB {elt target iter:Expr}{ifs:List Expr}{scope:Scope}{pos:Pos}{it acc:Value}{env:Env}(I:Nat->Shared->Prop)
   (turn:∀n s,I n s->wpAny (model prog w) A (pyNext it) (fun r s₁=>match r with
     | none=>R (.ok .next) s₁
     | some v=>wpAny (model prog w) A (letOwnedTupleGo target it v) (fun _ s₁=>wpAny (model prog w) A (assign target env v) (fun _ s₂ =>
         wpAny (model prog w) A (forIn ifs true fun c r=>if r=true then do let ok ←isTrue c env (eval c env);pure (ForInStep.yield ok) else pure (ForInStep.yield r)) (fun ok s₃ =>
           if ok=true then wpAny (model prog w) A (eval elt env) (fun x s₄ =>
             wpAny (model prog w) A (call (.builtin "list.append") [acc,x]) (fun _ s₅ => ∃m,m < n/\I m s₅) F0 s₄) F0 s₃
           else ∃m,m < n/\I m s₃) F0 s₂) F0 s₁) F0 s₁) F0 s)
   (n:Nat) (h:I n s) :
   codeAny (model prog w) A (.compLoop (.ListComp elt [⟨target,iter,ifs,0⟩] scope pos) 0 it acc env) R s:=by
 refine codeAny_loop rfl I (fun n s hI=>?_) n h
 show wpAny _ A ((compTurn (.ListComp elt [⟨target,iter,ifs,0⟩] scope pos) 0 it acc env).onRaise (fun x=>do noteFrame x env;theTreesLotGoes x)) _ _ s
 refine wpAny_noted ?_
 rw[compTurn_list]
 refine Qe (wpAny_standAt (Qe (aE (turn n s hI) (fun r s₁ h₁=>?_))))
 cases r with
 | none=>exact Qx h₁
 | some v =>
   refine Qe (aE h₁ fun _ s₁' h₁'=>?_)
   refine Qe (aE h₁' fun _ s₂ h₂=>Qe (aE h₂ fun ok s₃ h₃ => ?_))
   cases ok with
   | false=>exact Qx ⟨rfl,h₃⟩
   | true =>
     exact Qe (Qe (aE h₃ fun x s₄ h₄ => Qe (aE h₄ fun _ s₅ h₅ => Qx (Qx ⟨rfl,h₅⟩))))
end
theorem mI {env:Env}(x:Str):∀(names:List (Str×NameKind)),
   (names.map fun(n,k)=>if (k==NameKind.free&&env.scope.kind == .function&&env.kindOf n==some .cell) then(n,NameKind.cell) else(n,k)).lookup x
     = (names.lookup x).map fun k=>if (k==NameKind.free&&env.scope.kind == .function&&env.kindOf x==some .cell)=true then NameKind.cell else k
 | []=>rfl
 | (n,k)::r=>by
   have ih:=mI (env:=env) x r
   rw[Ql]
   cases hx:x==n with
   | true =>
     have e:x=n:=eq_of_beq hx
     subst e
     by_cases hc:(k==NameKind.free&&env.scope.kind == .function&&env.kindOf x==some .cell)=true
     · simp only[hc,Uu,Ec,Ou,Rg]
     · simp only[hc,Rj,Ec,Ou,Rg,Wd]
   | false =>
     by_cases hc:(k==NameKind.free&&env.scope.kind == .function&&env.kindOf n==some .cell)=true
     · simp only[hc,Uu,Ec,hx];exact ih
     · simp only[hc,Rj,Ec,hx,Wd];exact ih
def kT (env:Env):List (Str×NameKind)->List (Str×Addr)->List (Str×Addr)
 | [],acc=>acc
 | (n,k)::r,acc=>kT env r (if k = .free then(match env.cells.lookup n with | some c=>(n,c)::acc | none=>acc) else acc)
theorem zW1 {env:Env}{scope:Scope}(h:∀p∈scope.names,p.2 = .free->∃c,env.cells.lookup p.1=some c):closureFor scope env=pure (kT env scope.names []):=by
 have gen:∀(l:List (Str×NameKind)) (acc:List (Str×Addr)),(∀p∈l,p.2 = .free->∃c,env.cells.lookup p.1=some c) ->
     (forIn l acc fun x r=>if (x.2==NameKind.free)=true then(do let a ←cellOf env x.1;pure (ForInStep.yield ((x.1,a)::r))) else pure (ForInStep.yield r):Sem (List (Str×Addr)))=pure (kT env l acc):=by
   intro l
   induction l with
   | nil=>intro acc _;rfl
   | cons p r ih =>
     intro acc hp
     obtain⟨n,k⟩:=p
     rw[List.forIn_cons]
     have hr:∀p∈r,p.2 = .free->∃c,env.cells.lookup p.1=some c:=fun p hm=>hp p (Qj _ hm)
     by_cases hk:k = .free
     · subst hk
       obtain⟨c,hc⟩:=hp (n,.free) Qb rfl
       have e:cellOf env n=pure c:=by unfold cellOf;rw[hc]
       simp only[Ou,Uu,e]
       show(forIn r ((n,c)::acc) _:Sem _)=_
       rw[ih _ hr]
       show _=(pure (kT env r (if NameKind.free=NameKind.free then(match env.cells.lookup n with | some c=>(n,c)::acc | none=>acc) else acc)):Sem _)
       rw[Qi rfl,hc]
     · have hb:(k==NameKind.free)=false:=by simpa using hk
       simp only[hb,Wd,Rj]
       show(forIn r acc _:Sem _)=_
       rw[ih _ hr]
       show _=(pure (kT env r (if k=NameKind.free then(match env.cells.lookup n with | some c=>(n,c)::acc | none=>acc) else acc)):Sem _)
       rw[Qa hk]
 have q:=gen scope.names [] h
 simp only[closureFor]
 rw[q]
 rfl
theorem bR {env:Env}:∀(l:List (Str×NameKind)) (acc:List (Str×Addr)),(∀x c,acc.lookup x=some c->env.cells.lookup x=some c)->∀x c,(kT env l acc).lookup x=some c->env.cells.lookup x=some c
 | [],_,h=>h
 | (n,k)::r,acc,h=>by
   refine bR r _ ?_
   by_cases hk:k = .free
   · rw[Qi hk]
     cases e:env.cells.lookup n with
     | none=>exact h
     | some c =>
       intro x c' hx
       rw[Ec] at hx
       cases q:x==n with
       | true=>rw[q] at hx;cases hx;rw[eq_of_beq q];exact e
       | false=>rw[q] at hx;exact h x c' hx
   · rw[Qa hk];exact h
theorem zX5 {env:Env}:∀(l:List (Str×NameKind)) (acc:List (Str×Addr)) (x:Str),(acc.lookup x).isSome=true->((kT env l acc).lookup x).isSome=true
 | [],_,_,h=>h
 | (n,k)::r,acc,x,h=>by
   refine zX5 r _ x ?_
   by_cases hk:k = .free
   · rw[Qi hk]
     cases e:env.cells.lookup n with
     | none=>exact h
     | some c =>
       show(List.lookup x ((n,c)::acc)).isSome=true
       rw[Ec]
       cases q:x==n with
       | true=>rfl
       | false=>exact h
   · rw[Qa hk];exact h
theorem cC {env:Env}:∀(l:List (Str×NameKind)) (acc:List (Str×Addr)),(∀p∈l,p.2 = .free->∃c,env.cells.lookup p.1=some c)->∀x,(x,NameKind.free)∈l->((kT env l acc).lookup x).isSome=true
 | [],_,_,_,h=>nomatch h
 | (n,k)::r,acc,hp,x,h=>by
   rcases Qd.mp h with e | h
   · cases e
     obtain⟨c,hc⟩:=hp (n,.free) Qb rfl
     show((kT env r (if NameKind.free=NameKind.free then(match env.cells.lookup n with | some c=>(n,c)::acc | none=>acc) else acc)).lookup n).isSome=true
     rw[Qi rfl,hc]
     exact zX5 r _ n (by simp[Ec])
   · exact cC r _ (fun p hm=>hp p (Qj _ hm)) x h
def pK (sc scope:Scope)(N tgs frees:List Str)(js:List Nat):Bool :=
 scope.kind == .function&&scope.names.all (fun p=>p.2 != .cell&&(p.2 != .free||sc.names.lookup p.1==some .cell||sc.names.lookup p.1==some .free)&&(p.2 != .local||scope.names.lookup p.1==some .local))
   && tgs.all (fun x=>scope.names.lookup x==some .local)&&frees.all (fun x=>scope.names.lookup x==some .free)&&(js.map fun j=>N[j]?)==frees.map some
def upC (m:Nat)(js:List Nat)(σ:St):St:=List.replicate m none++js.map fun j=>(σ[j]?).join
def xD (X:Cx)(Nc:List Str)(scope:Scope)(C:Addr)(s₀:Shared)(H₀:Hp)(fp:List Addr):Cx where
 prog:=X.prog
 w:=X.w
 K:=X.K
 mg:=X.mg
 base:=X.base
 A:=X.A
 N:=Nc
 s₀:=s₀
 H₀:=H₀
 env:=compEnvC scope (kT X.env scope.names []) C X.env
 outer:=X.stack
 stack:=X.stack
 ex:=fp
 fn:=fun _=>false
 calm:=X.calm
 pn:=[]
 xe:=F0
def zWt (X:Cx)(ifs:List Expr)(t:TT):Prop :=
 ∀(pins:List (Addr×Obj)) (s:Shared) (σ:St) (H:Hp) (Q:Bool->Hp->Prop),Inv X pins σ H s->t σ H Q ->
   wpAny (model X.prog X.w) X.A (forIn ifs true fun c r=>if r=true then do let ok ←isTrue c X.env (eval c X.env);pure (ForInStep.yield ok) else pure (ForInStep.yield r)) (TP X pins σ Q) X.xe s
def zOm:TT:=fun _ H Q=>Q true H
theorem zUc {X:Cx}:zWt X [] zOm:=fun _ _ _ H _ I h=>wpAny_tests_nil ⟨H,I,h⟩
theorem zTQ {X:Cx}{c:Expr}{t:TT}(h:PT X c t):zWt X [c] t:=fun pins s σ H Q I hq=>wpAny_tests_one (h pins s σ H Q I hq)
def zPu (J:It)(m:Nat)(js:List Nat)(g:TG)(tc:TT)(te:TE)(σ:St)(H1:Hp)(Q:VK):Prop:=∀D,H1 D=none ->
 ∃W:Nat->Nat->St->Hp->Prop,(∃k,W 0 k (upC m js σ) (upd H1 D (.lst [])))/\∀i k σ' H',W i k σ' H' ->
   (J.stop i H'/\Q (.ref D) H')∨(J.go i H'/\∀x H2,J.yld i H' x H2->g x σ' H2 fun σ2 H3=>tc σ2 H3 fun b H4=>if b=true then te σ2 H4 fun y H5=>∃ys k',H5 D=some (.lst ys)/\ys.length < sizeLine/\k' < k/\W (i+1) k' σ2 (upd H5 D (.lst (ys++[y])))
     else ∃k',k' < k/\W (i+1) k' σ2 H4)
section
variable {X:Cx} {pins:List (Addr×Obj)} {σ:St} {H2:Hp} {s2:Shared} {tg elt iter:Expr} {ifs:List Expr} {scope sc:Scope} {pos:Pos} {tgs frees:List Str} {js:List Nat} {g:TG} {te:TE} {tc:TT}
theorem uB {N:List Str}(h:pK sc scope N tgs frees js=true):scope.kind = .function/\(∀p∈scope.names,p.2 ≠ .cell)/\(∀p∈scope.names,p.2 = .free->sc.names.lookup p.1=some .cell∨sc.names.lookup p.1=some .free) /\
   (∀p∈scope.names,p.2 = .local->scope.names.lookup p.1=some .local)/\(∀x∈tgs,scope.names.lookup x=some .local)/\(∀x∈frees,scope.names.lookup x=some .free)/\(js.map fun j=>N[j]?)=frees.map some:=by
 unfold pK at h
 simp only[Wb,List.all_eq_true,bne_iff_ne,ne_eq,Tg,Uh] at h
 obtain⟨⟨⟨⟨h1,h2⟩,h3⟩,h4⟩,h5⟩:=h
 refine⟨h1,fun p hp=>(h2 p hp).1.1,fun p hp e=>?_,fun p hp e=>?_,h3,h4,h5⟩
 · rcases(h2 p hp).1.2 with(q | q) | q
   · exact absurd e q
   · exact .inl q
   · exact .inr q
 · rcases(h2 p hp).2 with q | q
   · exact absurd e q
   · exact q
theorem zXi {C:Addr}{s3:Shared}{H3:Hp}{h4:Heap}{tk:Nat}{fp:List Addr}{m0:Str->Option Value}(I:Inv X pins σ H3 s3)(f3:∀b∈fp,jU X pins H3 b)(ofp:∀b∈fp,b < s3.heap.objs.size)
   (hsc:X.env.scope=sc) (hok:pK sc scope X.N tgs frees js=true) (hC:C=s3.heap.objs.size) (hk:∀b o,s3.heap.get? b=some o->h4.get? b=some o) (hn:h4.Ns C m0) :
   Inv (xD X (tgs++frees) scope C s3 H3 fp) [] (upC tgs.length js σ) H3 { s3 with heap:=h4,toks:=tk }:=by
 obtain⟨k1,k2,k3,k4,k5,k6,k7⟩:=uB hok
 have hcl:∀x c,(kT X.env scope.names []).lookup x=some c->X.env.cells.lookup x=some c:=bR scope.names [] (fun _ _ z=>nomatch z)
 have hfr:∀p∈scope.names,p.2 = .free->∃c,X.env.cells.lookup p.1=some c:=fun p hp e=>I.ok.has p.1 (by
   show X.env.scope.names.lookup p.1=_∨X.env.scope.names.lookup p.1=_
   rw[hsc];exact k3 p hp e)
 have rl:∀x,(relabel scope X.env).names.lookup x=(scope.names.lookup x).map fun k=>if (k==NameKind.free&&X.env.scope.kind == .function&&X.env.kindOf x==some .cell)=true then NameKind.cell else k:=fun x=>mI x scope.names
 have hasc:∀x,((relabel scope X.env).names.lookup x=some .cell∨(relabel scope X.env).names.lookup x=some .free)->∃c,(kT X.env scope.names []).lookup x=some c:=fun x hx=>by
   rw[rl x] at hx
   cases e:scope.names.lookup x with
   | none=>rw[e] at hx;simp at hx
   | some k =>
     have hm:=Eh e
     have hkf:k = .free:=by
       rw[e] at hx
       simp only[Rg,Option.some.injEq] at hx
       by_cases q:k = .free
       · exact q
       · have hb:(k==NameKind.free)=false:=by simpa using q
         rw[hb] at hx
         simp only[Ov,Wd,Rj] at hx
         rcases hx with z | z
         · exact absurd z (k2 _ hm)
         · exact z
     subst hkf
     exact Rf.mp (cC scope.names [] hfr x hm)
 have cfr:∀x c,X.env.cells.lookup x=some c->c≠C:=fun x c e z=>by
   obtain⟨v,q⟩:=I.cell x c e
   exact absurd (z ▸ q.lt) (by rw[hC];exact Wv _)
 have base0:∀b o,X.base.get? b=some o->b∉fp:=fun b o e hb=>by
   obtain⟨_,_,_,q,_⟩:=f3 b hb
   rcases q with q | q
   · exact I.ok.noex b o e q
   · exact absurd (Wy (Qg (I.ok.bs b o e).1) q) (Wv _)
 have stk:∀b∈fp,b∉frs X.stack:=fun b hb z=>by
   obtain⟨_,q1,q2,_⟩:=f3 b hb
   rcases Qd.mp (I.stkSub b z) with e | e
   · exact q1 e
   · exact q2 e
 refine⟨⟨I.ok.mod,k1,I.ok.glob,I.ok.blt,by rw[hC];exact Qp _,fun x y c e1 e2=>I.ok.inj x y c (hcl x c e1) (hcl y c e2),hasc,(fun x c z _=>nomatch z),I.ok.hd,I.ok.frames,.inl rfl,
     fun b hb=>⟨fun z=>absurd (ofp b hb) (by rw[show b=C from z,hC];exact Wv _),fun x c e=>(f3 b hb).2.2.2.2.1 x c (hcl x c e)⟩,
     fun b o e=>I.bs b o e,Wu I.ok.bsz I.sz,base0,stk,I.stack,I.stkFree⟩,
   rfl,I.bare,Un.kept hk,⟨m0,hn,fun i x v e1 e2 e3=>?_⟩,fun x c e=>?_,I.hok.fresh (by rw[show(xD X (tgs++frees) scope C s3 H3 fp).env.locals=C from rfl,hC];exact Qp _),fun x c e=>I.freeC x c (hcl x c e),
   fun p hp=>absurd (show p∈([]:List (Addr×Obj)) from hp) (by simp),I.hok.kept hk,?_⟩
 · -- a name's value
   have hi:tgs.length<=i:=by
     refine Nat.le_of_not_lt fun hlt=>?_
     have e2:(upC tgs.length js σ)[i]?=some (some v):=e2
     unfold upC at e2
     rw[Wc (by simpa using hlt),Es] at e2
     split at e2<;>cases e2
   have e2:(upC tgs.length js σ)[i]?=some (some v):=e2
   unfold upC at e2
   rw[Wt (by simpa using hi),Uy,Ws] at e2
   have e1:(tgs++frees)[i]?=some x:=e1
   rw[Wt hi] at e1
   obtain⟨j,ej,e2⟩:=Qt.mp e2
   have hj:X.N[j]?=some x:=by
     have q:=Ep (fun l=>l[i - tgs.length]?) k7
     simp only[Ws,ej,e1,Rg] at q
     exact Wg q
   have hσ:σ[j]?=some (some v):=by
     cases q:σ[j]? with
     | none=>rw[q] at e2;cases e2
     | some o=>rw[q] at e2;exact Ep some e2
   have hf:scope.names.lookup x=some .free:=k6 x (Uk e1)
   have hX:X.env.kindOf x=some .cell∨X.env.kindOf x=some .free:=by
     show X.env.scope.names.lookup x=_∨X.env.scope.names.lookup x=_
     rw[hsc];exact k3 _ (Eh hf) rfl
   obtain⟨m,_,hl⟩:=I.loc
   obtain⟨u,r,l⟩:=hl j x v hj hσ (by
     rcases hX with q | q
     · exact .inr (.inl q)
     · exact .inr (.inr q))
   refine⟨u,r,.inr ⟨?_,?_⟩⟩
   · show(relabel scope X.env).names.lookup x=_∨(relabel scope X.env).names.lookup x=_
     rw[rl x,hf]
     by_cases q:(NameKind.free==NameKind.free&&X.env.scope.kind == .function&&X.env.kindOf x==some .cell)=true
     · exact .inl (by rw[Rg,Qi q])
     · exact .inr (by rw[Rg,Qa q])
   · rcases l with⟨q,_⟩ | ⟨_,c,ec,hcell⟩
     · rcases hX with z | z<;>(rw[z] at q;cases q)
     · obtain⟨c',ec'⟩:=Rf.mp (cC scope.names [] hfr x (Eh hf))
       have e:c'=c:=Wg ((hcl x c' ec').symm.trans ec)
       subst e
       obtain⟨o,ho,hd⟩:=hcell
       exact⟨c',ec',o,hk _ _ ho,hd⟩
 · obtain⟨v,o,ho,hd⟩:=I.cell x c (hcl x c e)
   exact⟨v,o,hk _ _ ho,hd⟩
 · show(upC tgs.length js σ).length=(tgs++frees).length
   have q:=Ep List.length k7
   rw[Qu,Qu] at q
   unfold upC
   rw[Qr,Uy,Qu,Qr,q]
theorem cH {J:It}{fp:List Addr}{it:Addr}{tn:Nat->Heap->Prop}{RR:Value->Addr->Result->Shared->Prop}{E:Value->Shared->Prop}{Q:VK}
   (I2:Inv X pins σ H2 s2) (T:Turn X.prog X.w X.K tg J fp it tn) (st2:tn 0 s2.heap) (f2:∀b∈fp,jU X pins H2 b) (hc:X.calm=true)
   (hsc:X.env.scope=sc) (hok:pK sc scope X.N tgs frees js=true)
   (hg:∀C s₀ H₀ fp,PG (xD X (tgs++frees) scope C s₀ H₀ fp) tg g) (hi:∀C s₀ H₀ fp,zWt (xD X (tgs++frees) scope C s₀ H₀ fp) ifs tc) (he:∀C s₀ H₀ fp,PE (xD X (tgs++frees) scope C s₀ H₀ fp) elt te)
   (hw:zPu J tgs.length js g tc te σ H2 Q)
   (hRR:∀D C s' H' m,Inv X pins σ H' s'->Q (.ref D) H'->jU X pins H' C->s'.heap.Ns C m->RR (.ref D) C (.ok .next) s') :
   wpAny (model X.prog X.w) X.A (newList []) (fun acc s₃ => wpAny (model X.prog X.w) X.A (newFunctionEnv scope X.env.globals (kT X.env scope.names []) [] X.env.qual none .none (some X.env)) (fun cenv s₄ =>
     codeAny (model X.prog X.w) X.A (.compStart (.ListComp elt [⟨tg,iter,ifs,0⟩] scope pos) 0 (.ref it) acc { cenv with scope:=relabel scope X.env }) (RR acc cenv.locals) s₄) E s₃) E s2:=by
 obtain⟨k1,k2,k3,k4,k5,k6,k7⟩:=uB hok
 refine Yj (wpAny_newFunctionEnv k2 (by intro y hy;simp at hy) (fun h4 hn4 hs4=>?_) k1)
 dsimp only at hn4 hs4 ⊢
 generalize hh3:s2.heap.push { cls:=.type "list",dict:=none,data:=.seq ([]:List Value).toArray }=h3 at hn4 hs4 ⊢
 generalize hD:s2.heap.objs.size=D
 have hDn:H2 D=none:=by rw[←hD];exact I2.fresh
 have hsz3:h3.objs.size=D+1:=by rw[←hh3,Yg,hD]
 have keep23:∀b o,s2.heap.get? b=some o->h3.get? b=some o:=fun b o e=>by rw[←hh3];exact Qy _ e
 have keep34:∀b o,h3.get? b=some o->h4.get? b=some o:=fun b o e=>hs4.extBut b o (Wh (Qg e)) (Qy _ e)
 have I3:Inv X pins σ (upd H2 D (.lst [])) { s2 with heap:=h3 }:=by
   have q:=I2.lnew (its:=[]) (ys:=[]) (t':=s2.toks) .nil (Ee _)
   rw[hD] at q
   rw[←hh3]
   exact q
 have nfp:∀b∈fp,b≠D:=fun b hb z=>by
   obtain⟨o,e,_⟩:=T.obj 0 _ st2 b hb
   exact absurd (Qg e) (by rw[z,hD];exact Wv _)
 have f3:∀b∈fp,jU X pins (upd H2 D (.lst [])) b:=fun b hb=>by
   obtain⟨q0,q⟩:=f2 b hb
   exact⟨by rw[zP (nfp b hb)];exact q0,q⟩
 have ofp:∀b∈fp,b < h3.objs.size:=fun b hb=>by
   obtain⟨o,e,_⟩:=T.obj 0 _ st2 b hb
   exact Qg (keep23 b o e)
 obtain⟨W,⟨n0,w0⟩,turn⟩:=hw D hDn
 have loop:∀s4:Shared,s4={ s2 with heap:=h4,toks:=s2.toks+([]:List (Str×Value)).length } ->
     codeAny (model X.prog X.w) X.A (.compLoop (.ListComp elt [⟨tg,iter,ifs,0⟩] scope pos) 0 (.ref it) (.ref D) (compEnvC scope (kT X.env scope.names []) h3.objs.size X.env)) (RR (.ref D) h3.objs.size) s4:=by
   rintro s4 rfl
   generalize hX':xD X (tgs++frees) scope h3.objs.size { s2 with heap:=h3 } (upd H2 D (.lst [])) fp=X'
   have I4:Inv X' [] (upC tgs.length js σ) (upd H2 D (.lst [])) { s2 with heap:=h4,toks:=s2.toks+([]:List (Str×Value)).length }:=by
     rw[←hX']
     exact zXi (s3:={ s2 with heap:=h3 }) I3 f3 ofp hsc hok rfl keep34 hn4
   have eP:X'.prog=X.prog:=by rw[←hX'];rfl
   have eW:X'.w=X.w:=by rw[←hX'];rfl
   have eK:X'.K=X.K:=by rw[←hX'];rfl
   have eA:X'.A=X.A:=by rw[←hX'];rfl
   have eC:X'.calm=true:=by rw[←hX'];exact hc
   have T':Turn X'.prog X'.w X'.K tg J fp it tn:=by rw[eP,eW,eK];exact T
   have eE:X'.env=compEnvC scope (kT X.env scope.names []) h3.objs.size X.env:=by rw[←hX'];rfl
   have eX:X'.xe=F0:=by rw[←hX'];rfl
   have stat:∀ {H':Hp},(∀b∈fp,H' b=none)->∀b∈fp,jU X' [] H' b:=fun {H'} hn b hb=>by
     obtain⟨_,q1,q2,q3,q4,q5⟩:=f3 b hb
     rw[←hX']
     refine⟨hn b hb,?_,?_,.inl hb,fun x c e=>?_,fun p hp=>absurd (show p∈([]:List (Addr×Obj)) from hp) (by simp)⟩
     · exact fun z=>absurd (ofp b hb) (by rw[show b=h3.objs.size from z];exact Wv _)
     · intro z
       rcases Qd.mp (I3.stkSub b z) with e | e
       · exact q1 e
       · exact q2 e
     · exact q4 x c (bR scope.names [] (fun _ _ z=>nomatch z) x c e)
   have hgX:PG X' tg g:=by rw[←hX'];exact hg _ _ _ _
   have hiX:zWt X' ifs tc:=by rw[←hX'];exact hi _ _ _ _
   have heX:PE X' elt te:=by rw[←hX'];exact he _ _ _ _
   refine dB (fun n s'=>∃i σ' H',Inv X' [] σ' H' s'/\tn i s'.heap/\(∀b∈fp,H' b=none)/\W i n σ' H') ?_ n0 ⟨0,_,_,I4,T.keep 0 _ _ st2 (fun b _ o e=>keep34 b o (keep23 b o e)),fun b hb=>(f3 b hb).1,w0⟩
   rintro n s5 ⟨i,σ5,H5,I5,st5,fr5,w5⟩
   rw[←eP,←eW,←eE,←eA]
   rcases turn i n σ5 H5 w5 with⟨stop,qn⟩ | ⟨go,step⟩
   · refine thn (T'.done X' rfl rfl rfl eC i [] s5 σ5 H5 F0 I5 (stat fr5) st5 stop) fun r s6 ⟨hr,I6⟩=>?_
     subst hr
     have un:Un (frs X.stack) fp H2 H5 s2.heap s6.heap:=by
       have u1:Un (frs X.stack) fp H2 (upd H2 D (.lst [])) s2.heap h3:=Un.laid keep23 (Ur hD) hDn
       have u2:=I6.base
       rw[←hX'] at u2
       exact u1.trans u2
     have hpx:HOk X.prog X.w H5 s6.heap:=by have q:=I6.hok;rw[eP,eW] at q;exact q
     have hos:s6.os=s2.os:=by have q:=I6.os;rw[←hX'] at q;exact q
     have IX:Inv X pins σ H5 s6:=I2.call' (ch:=fp) hos un hpx I6.bare fun b hb=>⟨(f2 b hb).2.2.2.1,(f2 b hb).2.1,(f2 b hb).2.2.2.2.1,(f2 b hb).2.2.2.2.2⟩
     obtain⟨m,hm,_⟩:=I6.loc
     have hloc:X'.env.locals=h3.objs.size:=by rw[eE];rfl
     rw[hloc] at hm
     have hle:s2.heap.objs.size<=h3.objs.size:=by rw[hD,hsz3];exact Ya _
     refine hRR D h3.objs.size s6 H5 m IX qn (I2.fpOk hle ?_) hm
     have q:=I6.free
     rw[hloc] at q
     exact q
   · refine thn (T'.item X' rfl rfl rfl eC i [] s5 σ5 H5 F0 I5 (stat fr5) st5 go) fun r s6 ⟨u,hr,h6⟩=>?_
     subst hr
     refine thn h6 fun _ s7 ⟨x,H7,I7,r7,y7,st7,fr7⟩=>?_
     have I7':=I7.pinned (stat fr7) (T.obj _ _ st7)
     have xe0:X'.xe=F0:=eX
     have conv:∀ {α:Type} {t:Sem α} {Q:α->Shared->Prop} {s:Shared},wpAny (model X'.prog X'.w) X'.A t Q X'.xe s->wpAny (model X'.prog X'.w) X'.A t Q F0 s:=fun h=>by rw[xe0] at h;exact h
     refine thn (conv (hgX _ s7 σ5 H7 x u _ I7' r7 (step x H7 y7))) fun _ s8 ⟨σ8,H8,I8,q8⟩=>?_
     refine thn (conv (hiX _ s8 σ8 H8 _ I8 q8)) fun ok s9 ⟨H9,I9,q9⟩=>?_
     have again:∀ {σz:St} {Hz:Hp} {sz:Shared} {k':Nat},Inv X' ([]++bS fp s7.heap) σz Hz sz->k' < n->W (i+1) k' σz Hz->∃m,m < n/\∃i σ' H',Inv X' [] σ' H' sz/\tn i sz.heap/\(∀b∈fp,H' b=none)/\W i m σ' H':=fun {σz Hz sz k'} Iz hk wz=>by
       refine⟨k',hk,i+1,σz,Hz,Iz.unpinned,T.keep _ _ _ st7 fun b hb o e=>(Iz.pin (b,o) (Wp _ (Wp _ (nR hb e)))).1,fun b hb=>?_,wz⟩
       obtain⟨o,e,d⟩:=T.obj _ _ st7 b hb
       exact(Iz.pin (b,o) (Wp _ (Wp _ (nR hb e)))).2.1
     cases ok with
     | false =>
       rw[Qa (by decide)] at q9
       rw[Qa (by decide)]
       obtain⟨k',hk,wz⟩:=q9
       exact again I9 hk wz
     | true =>
       rw[Qi rfl] at q9
       rw[Qi rfl]
       refine thn (conv (heX _ s9 σ8 H9 _ I9 q9)) fun v s10 ⟨y,H10,I10,r10,ys,k',hys,hl,hk,wz⟩=>?_
       refine thn (conv (zZC (X:=X') _ s10 σ8 H10 (.ref D) [y] (.ref D) [v] (fun z Hz=>W (i+1) k' σ8 Hz) I10 rfl (.cons r10 .nil) ⟨D,ys,y,rfl,rfl,hys,hl,wz⟩)) fun _ s11 ⟨_,H11,I11,_,q11⟩=>?_
       exact again I11 hk q11
 rw[show s2.heap.objs.size=D from hD] at *
 exact codeAny_compStart_list (loop _ rfl) (T.self _ 0 _ _ _ (T.keep 0 _ _ st2 fun b _ o e=>keep34 b o (keep23 b o e)) (loop _ rfl))
def zVT (wi:TI)(m:Nat)(js:List Nat)(g:TG)(tc:TT)(te:TE):TE:=fun σ H Q=>wi σ H fun J H1=>zPu J m js g tc te σ H1 Q
theorem bA (ok:X.Ok)(hsc:X.env.scope=sc)(hok:pK sc scope X.N tgs frees js=true):closureFor scope X.env=pure (kT X.env scope.names []) :=
 zW1 fun p hp e=>ok.has p.1 (by
   show X.env.scope.names.lookup p.1=_∨X.env.scope.names.lookup p.1=_
   rw[hsc];exact(uB hok).2.2.1 p hp e)
theorem zV7 (sc:Scope)(tgs frees:List Str)(js:List Nat){wi:TI}(hp:PI X tg iter wi)(hc:X.calm=true)(hsc:X.env.scope=sc)(hok:pK sc scope X.N tgs frees js=true)
   (hg:∀C s₀ H₀ fp,PG (xD X (tgs++frees) scope C s₀ H₀ fp) tg g) (hi:∀C s₀ H₀ fp,zWt (xD X (tgs++frees) scope C s₀ H₀ fp) ifs tc) (he:∀C s₀ H₀ fp,PE (xD X (tgs++frees) scope C s₀ H₀ fp) elt te)
   (hs:∀x,foldedSetIterable iter X.env x=pure x:=by intro _;rfl) :
   PE X (.ListComp elt [⟨tg,iter,ifs,0⟩] scope pos) (zVT wi tgs.length js g tc te):=by
 intro pins s σ H Q I h
 obtain⟨k1,k2,k3,k4,k5,k6,k7⟩:=uB hok
 rw[eval_ListComp]
 refine wpAny_comprehension_free (use:=none) rfl hs (bA I.ok hsc hok) k1 k4 (thn (hp pins s σ H _ I h) fun v s1 h1=>thn h1 fun itv s2 h2=>?_)
 obtain⟨it,fp,tn,J,H2,e,I2,T,st2,f2,hw⟩:=h2
 subst e
 refine cH (RR:=fun acc C=>compPost (model X.prog X.w) X.A X.xe none (EP X pins σ Q) acc C) I2 T st2 f2 hc hsc hok hg hi he hw ?_
 intro D C s' H' m I' q fC hn
 refine⟨m,hn,fun h' hs'=>⟨.ref D,H',?_,rfl,q⟩⟩
 obtain⟨c0,c1,c2,c3,c4,c5⟩:=fC
 exact I'.turned (t':=s'.toks) (fun b o hb e=>hs'.extBut b o hb e) c0 c1 c3 c4 c5
theorem zW5 (sc:Scope)(tgs frees:List Str)(js:List Nat){wi:TI}{i:Nat}{x:Str}{pos' spos:Pos}(hN:X.N.Nodup)(hx:X.N[i]?=some x)(hl:X.env.scope.names.lookup x=some .local)
   (hp:PI X tg iter wi) (hc:X.calm=true) (hsc:X.env.scope=sc) (hok:pK sc scope X.N tgs frees js=true)
   (hg:∀C s₀ H₀ fp,PG (xD X (tgs++frees) scope C s₀ H₀ fp) tg g) (hi:∀C s₀ H₀ fp,zWt (xD X (tgs++frees) scope C s₀ H₀ fp) ifs tc) (he:∀C s₀ H₀ fp,PE (xD X (tgs++frees) scope C s₀ H₀ fp) elt te)
   (hsw:swapsWith (.ListComp elt [⟨tg,iter,ifs,0⟩] scope pos) (some (.Name x pos')) spos.line X.env=pure true:=by with_unfolding_all rfl) (hs:∀x,foldedSetIterable iter X.env x=pure x:=by intro _;rfl) :
   PS X (.Assign [.Name x pos'] (.ListComp elt [⟨tg,iter,ifs,0⟩] scope pos) spos) (zVh (zVT wi tgs.length js g tc te) (zXR i)):=by
 intro pins s σ H D I h
 obtain⟨k1,k2,k3,k4,k5,k6,k7⟩:=uB hok
 rw[exec_Assign_Name_used _ _ _ _ hsw]
 refine Qe (wpAny_standAt (Qe ?_))
 show wpAny _ X.A (do let _ ←comprehension (.ListComp elt [⟨tg,iter,ifs,0⟩] scope pos) scope X.env _ (newList []) false (eval iter X.env) (some (assign (.Name x pos') X.env))) _ _ s
 refine Qe (Yo (wpAny_comprehension_free (use:=some (assign (.Name x pos') X.env)) (Q:=fun _ s'=>SP X pins D .next s') rfl hs (bA I.ok hsc hok) k1 k4
   (thn (hp pins s σ H _ I h) fun v s1 h1=>thn h1 fun itv s2 h2=>?_)) (fun _ s' hq=>Qx (Qx hq)) fun _ _ e=>e)
 obtain⟨it,fp,tn,J,H2,e,I2,T,st2,f2,hw⟩:=h2
 subst e
 refine cH (RR:=fun acc C=>compPost (model X.prog X.w) X.A X.xe (some (assign (.Name x pos') X.env)) (fun _ s'=>SP X pins D .next s') acc C) I2 T st2 f2 hc hsc hok hg hi he hw ?_
 intro D' C s' H' m I' q fC hn
 obtain⟨c0,c1,c2,c3,c4,c5⟩:=fC
 show wpAny _ X.A (assign (.Name x pos') X.env (.ref D')) _ _ _
 refine wpAny_assign_Name (aC (v:=V.ref D') I' hN hx (.inl hl) rfl (fun s3 I3 hb=>?_) (.inr hl))
 obtain⟨a,sb,ha⟩:=hb
 have hCa:C≠a:=by
   rcases ha with z | z
   · rw[z];exact c1
   · exact(c4 x a z).symm
 refine⟨m,hn.sameBut sb hCa,fun h' hs'=>⟨_,H',I3.turned (t':=s3.toks) (fun b o hb e=>hs'.extBut b o hb e) c0 c1 c3 c4 c5,q⟩⟩
end
inductive KT where
 | int (i:Int) | tup (l:List KT)
instance:DecidableEq KT:=fun _ _=>Classical.propDecidable _
def zOV:KT->Int
 | .int i=>hashInt i
 | .tup _=>0
def hK:Nat->KT->Int
 | n+1,.tup ks=>reduceHash (Builtin.Tuple.tupleHashOf (ks.map (hK n)))
 | _,k=>zOV k
def zQX:List KT->List Addr->List Value->List DictEntry
 | k::ks,a::as,u::us=>⟨hK 8 k,.ref a,u⟩::zQX ks as us
 | _,_,_=>[]
def zPn (a:Addr)(ks:List KT)(as:List Addr)(vs:List V):Heap->Prop:=fun h =>
 ∃us,Vals vs us/\∃o es ep,h.get? a=some o/\o.ExactDict/\o.data = .dict es ep/\es.toList=zQX ks as us
inductive D where
 | non | bl (b:Bool) | int (i:Int) | str (x:Str) | tup (ds:List D) | lst (ds:List D) | obj (c:Str) (ns:List Str) (ds:List D)
 /-- an exception of an own class -/
 | exc (c:Str) (ns:List Str) (ds:List D)
 /-- a dict whose keys are tuples of ints and texts -/
 | dct (ks:List (List Key)) (ds:List D)
 deriving Inhabited
theorem Same.tup {K:PySem.W.Frag}{H H':Hp}{a:Addr}{xs:List V}(e:Same H H')(h:SqT K H a xs):SqT K H' a xs:=by
 rcases h with(h | ⟨o,h⟩) | h
 · exact .inl (.inl (e _ _ h))
 · exact .inl (.inr ⟨o,e _ _ h⟩)
 · exact .inr h
def ClsAt (K:PySem.W.Frag)(c:Str)(C:Addr):Prop:=PySem.W.nsIn K mainGlobals c=some (some (.ref C))
theorem ClsAt.one {K:PySem.W.Frag}{c:Str}{C C':Addr}(h:ClsAt K c C)(h':ClsAt K c C'):C'=C:=by
 have:=h.symm.trans h'
 cases this;rfl
def Xe (C a:Addr)(od:Option Addr):Heap->Prop:=fun h=>∃fs,h.get? a=some { cls:=.ref C,dict:=od,data:=.fields fs }
def Xd (dx:Addr)(fs:List (Str×V)):Heap->Prop:=fun h=>∃mA,h.Ns1 dx mA/\∀f,RelO (fs.lookup f) (mA f)
def XD (G:Hp):Option Addr->List (Str×V)->Prop
 | none,fs=>fs=[]
 | some dx,fs=>G dx=some (.ext (Xd dx fs))
theorem XD.mono {G G':Hp}(e:Same G G'):∀ {od:Option Addr} {fs:List (Str×V)},XD G od fs->XD G' od fs
 | none,_,h=>h
 | some _,_,h=>e _ _ h
mutual
def Rep (K:PySem.W.Frag)(G:Hp):D->V->Prop
 | .non,v=>v = .non
 | .bl b,v=>v = .bl b
 | .int i,v=>v = .int i
 | .str x,v=>v = .str x
 | .tup ds,v=>∃a vs,v = .ref a/\SqT K G a vs/\Reps K G ds vs
 | .lst ds,v=>∃a vs,v = .ref a/\SqL K G a vs/\Reps K G ds vs
 | .obj c ns ds,v=>∃C a dx vs,ClsAt K c C/\v = .ref a/\G a=some (.ins C dx (ns.zip vs))/\ns.length=ds.length/\Reps K G ds vs
 | .exc c ns ds,v=>∃C a od vs,ClsAt K c C/\v = .ref a/\G a=some (.ext (Xe C a od))/\XD G od (ns.zip vs)/\ns.length=ds.length/\Reps K G ds vs
 | .dct ks ds,v=>∃a vs,v = .ref a/\G a=some (.dT (ks.zip vs))/\ks.length=ds.length/\Reps K G ds vs
def Reps (K:PySem.W.Frag)(G:Hp):List D->List V->Prop
 | [],vs=>vs=[]
 | d::r,vs=>∃v vr,vs=v::vr/\Rep K G d v/\Reps K G r vr
end
section
variable {K:PySem.W.Frag} {G G':Hp}
mutual
theorem Rep.mono (e:Same G G'):∀(d:D) (v:V),Rep K G d v->Rep K G' d v
 | .non,_,h=>by unfold Rep at h ⊢;exact h
 | .bl _,_,h=>by unfold Rep at h ⊢;exact h
 | .int _,_,h=>by unfold Rep at h ⊢;exact h
 | .str _,_,h=>by unfold Rep at h ⊢;exact h
 | .tup ds,_,h=>by
   unfold Rep at h ⊢
   obtain⟨a,vs,h1,h2,h3⟩:=h
   exact⟨a,vs,h1,e.tup h2,Reps.mono e ds vs h3⟩
 | .lst ds,_,h=>by
   unfold Rep at h ⊢
   obtain⟨a,vs,h1,h2,h3⟩:=h
   exact⟨a,vs,h1,e.seq h2,Reps.mono e ds vs h3⟩
 | .obj C ns ds,_,h=>by
   unfold Rep at h ⊢
   obtain⟨C,a,dx,vs,h0,h1,h2,h4,h3⟩:=h
   exact⟨C,a,dx,vs,h0,h1,e _ _ h2,h4,Reps.mono e ds vs h3⟩
 | .exc C ns ds,_,h=>by
   unfold Rep at h ⊢
   obtain⟨C,a,od,vs,h0,h1,h2,h5,h4,h3⟩:=h
   exact⟨C,a,od,vs,h0,h1,e _ _ h2,h5.mono e,h4,Reps.mono e ds vs h3⟩
 | .dct ks ds,_,h=>by
   unfold Rep at h ⊢
   obtain⟨a,vs,h1,h2,h4,h3⟩:=h
   exact⟨a,vs,h1,e _ _ h2,h4,Reps.mono e ds vs h3⟩
theorem Reps.mono (e:Same G G'):∀(ds:List D) (vs:List V),Reps K G ds vs->Reps K G' ds vs
 | [],_,h=>by unfold Reps at h ⊢;exact h
 | d::r,_,h=>by
   unfold Reps at h ⊢
   obtain⟨v,vr,h1,h2,h3⟩:=h
   exact⟨v,vr,h1,Rep.mono e d v h2,Reps.mono e r vr h3⟩
end
theorem nQ {v:V}:Rep K G .non v↔v = .non:=by unfold Rep;exact Ik
theorem tK {b:Bool}{v:V}:Rep K G (.bl b) v↔v = .bl b:=by unfold Rep;exact Ik
theorem zJ {i:Int}{v:V}:Rep K G (.int i) v↔v = .int i:=by unfold Rep;exact Ik
theorem xR {x:Str}{v:V}:Rep K G (.str x) v↔v = .str x:=by unfold Rep;exact Ik
theorem xS {ds:List D}{v:V}:Rep K G (.tup ds) v↔∃a vs,v = .ref a/\SqT K G a vs/\Reps K G ds vs:=by
 constructor<;>(intro h;unfold Rep at *;exact h)
theorem xW {ds:List D}{v:V}:Rep K G (.lst ds) v↔∃a vs,v = .ref a/\SqL K G a vs/\Reps K G ds vs:=by
 constructor<;>(intro h;unfold Rep at *;exact h)
theorem lD {c:Str}{ns:List Str}{ds:List D}{v:V}:Rep K G (.obj c ns ds) v↔∃C a dx vs,ClsAt K c C/\v = .ref a/\G a=some (.ins C dx (ns.zip vs))/\ns.length=ds.length/\Reps K G ds vs:=by
 constructor<;>(intro h;unfold Rep at *;exact h)
theorem zRW {c:Str}{ns:List Str}{ds:List D}{v:V}:Rep K G (.exc c ns ds) v↔∃C a od vs,ClsAt K c C/\v = .ref a/\G a=some (.ext (Xe C a od))/\XD G od (ns.zip vs)/\ns.length=ds.length/\Reps K G ds vs:=by
 constructor<;>(intro h;unfold Rep at *;exact h)
theorem zYA {ks:List (List Key)}{ds:List D}{v:V}:Rep K G (.dct ks ds) v↔∃a vs,v = .ref a/\G a=some (.dT (ks.zip vs))/\ks.length=ds.length/\Reps K G ds vs:=by
 constructor<;>(intro h;unfold Rep at *;exact h)
theorem zK {vs:List V}:Reps K G [] vs↔vs=[]:=by unfold Reps;exact Ik
theorem zQ {d:D}{r:List D}{vs:List V}:Reps K G (d::r) vs↔∃v vr,vs=v::vr/\Rep K G d v/\Reps K G r vr:=by
 rw[Reps]
theorem Reps.length:∀ {ds:List D} {vs:List V},Reps K G ds vs->ds.length=vs.length
 | [],_,h=>by rw[zK] at h;rw[h];rfl
 | d::r,_,h=>by
   rw[zQ] at h
   obtain⟨v,vr,rfl,_,h3⟩:=h
   rw[Qs,Qs,Reps.length h3]
theorem Reps.get:∀ {ds:List D} {vs:List V} {i:Nat} {d:D},Reps K G ds vs->ds[i]?=some d->∃v,vs[i]?=some v/\Rep K G d v
 | [],_,_,_,_,e=>by simp at e
 | d::r,_,0,_,h,e=>by
   rw[zQ] at h
   obtain⟨v,vr,rfl,h2,h3⟩:=h
   simp at e;subst e
   exact⟨v,rfl,h2⟩
 | d::r,_,i+1,_,h,e=>by
   rw[zQ] at h
   obtain⟨v,vr,rfl,h2,h3⟩:=h
   obtain⟨u,e1,e2⟩:=Reps.get h3 (by simpa using e)
   exact⟨u,by simpa using e1,e2⟩
theorem Reps.snoc:∀ {ds:List D} {vs:List V} {d:D} {v:V},Reps K G ds vs->Rep K G d v->Reps K G (ds++[d]) (vs++[v])
 | [],_,d,v,h,r=>by
   rw[zK] at h;subst h
   exact zQ.mpr ⟨v,[],rfl,r,zK.mpr rfl⟩
 | e::t,_,d,v,h,r=>by
   rw[zQ] at h
   obtain⟨u,vr,rfl,h2,h3⟩:=h
   exact zQ.mpr ⟨u,vr++[v],rfl,h2,h3.snoc r⟩
theorem Reps.append:∀ {ds es:List D} {vs us:List V},Reps K G ds vs->Reps K G es us->Reps K G (ds++es) (vs++us)
 | [],_,_,_,h,r=>by rw[zK] at h;subst h;exact r
 | e::t,_,_,us,h,r=>by
   rw[zQ] at h
   obtain⟨u,vr,rfl,h2,h3⟩:=h
   exact zQ.mpr ⟨u,vr++us,rfl,h2,h3.append r⟩
theorem Reps.take:∀ {ds:List D} {vs:List V} (n:Nat),Reps K G ds vs->Reps K G (ds.take n) (vs.take n)
 | _,_,0,_=>by rw[Ob,Ob];exact zK.mpr rfl
 | [],_,_+1,h=>by rw[zK] at h;subst h;exact zK.mpr rfl
 | e::t,_,n+1,h=>by
   rw[zQ] at h
   obtain⟨u,vr,rfl,h2,h3⟩:=h
   exact zQ.mpr ⟨u,vr.take n,rfl,h2,h3.take n⟩
theorem Reps.drop:∀ {ds:List D} {vs:List V} (n:Nat),Reps K G ds vs->Reps K G (ds.drop n) (vs.drop n)
 | _,_,0,h=>h
 | [],_,_+1,h=>by rw[zK] at h;subst h;exact zK.mpr rfl
 | e::t,_,n+1,h=>by
   rw[zQ] at h
   obtain⟨u,vr,rfl,h2,h3⟩:=h
   exact h3.drop n
end
def qG:HO->Bool | .tup _=>false | _=>true
structure Step (G H G' H':Hp):Prop where
 hh:Same H H'
 gg:Same G G'
 sub:Same G' H'
 new:∀a o,H a=some o->qG o=true->G' a=G a
theorem Step.refl {G H:Hp}(h:Same G H):Step G H G H:=⟨Same.refl _,Same.refl _,h,fun _ _ _ _=>rfl⟩
theorem Step.trans {G H G1 H1 G2 H2:Hp}(a:Step G H G1 H1)(b:Step G1 H1 G2 H2):Step G H G2 H2 :=
 ⟨a.hh.trans b.hh,a.gg.trans b.gg,b.sub,fun c o hc hn=>(b.new c o (a.hh _ _ hc) hn).trans (a.new c o hc hn)⟩
theorem Same.new {H:Hp}{p:Addr}{o:HO}(hp:H p=none):Same H (upd H p o):=fun b u e=>by rw[zP (zB e hp)];exact e
theorem Step.laid {G H:Hp}{p:Addr}{o:HO}(s:Same G H)(hp:H p=none):Step G H (upd G p o) (upd H p o):=by
 refine⟨Same.new hp,Same.new (s.free hp),fun b u e=>?_,fun a o' ha hn=>?_⟩
 · by_cases hb:b=p
   · subst hb;rw[zO] at e ⊢;exact e
   · rw[zP hb] at e ⊢;exact s b u e
 · exact zP (fun z:a=p=>by rw[z,hp] at ha;cases ha)
theorem Step.own {G H:Hp}{p:Addr}{o:HO}(s:Same G H)(hp:H p=none):Step G H G (upd H p o) :=
 ⟨Same.new hp,Same.refl _,s.trans (Same.new hp),fun _ _ _ _=>rfl⟩
theorem Step.frz {G H G' H':Hp}{p:Addr}{o:HO}(s:Step G H G' H')(hp:H p=none)(h':H' p=some o)(g':G' p=none):Step G H (upd G' p o) H':=by
 refine⟨s.hh,s.gg.trans (Same.new g'),fun b u e=>?_,fun a o' ha hn=>?_⟩
 · by_cases hb:b=p
   · subst hb;rw[zO] at e;rw[h'];exact e
   · rw[zP hb] at e;exact s.sub b u e
 · rw[zP (fun z:a=p=>by rw[z,hp] at ha;cases ha)];exact s.new a o' ha hn
theorem Step.adopt {G H:Hp}{p:Addr}{xs:List V}(s:Same G H)(hp:H p=some (.tup xs)):Step G H (upd G p (.tup xs)) H:=by
 refine⟨Same.refl _,fun b u e=>?_,fun b u e=>?_,fun a o ha hn=>?_⟩
 · by_cases hb:b=p
   · subst hb
     have:=s _ _ e
     rw[hp] at this
     rw[zO];exact this
   · rw[zP hb];exact e
 · by_cases hb:b=p
   · subst hb;rw[zO] at e;rw[hp];exact e
   · rw[zP hb] at e;exact s b u e
 · refine zP fun z=>?_
   rw[z,hp] at ha
   cases ha
   cases hn
inductive B where
 | no | fz (d:D) | ow (ds:List D)
 /-- a dict of its own: keys and values -/
 | od (kvs:List (D×D))
 /-- a thing of its own that may change: an object, a dict -/
 | mu (d:D)
 deriving Inhabited
def zPp (f:D->Option KT):List D->Option (List KT)
 | []=>some []
 | d::r=>(f d).bind fun k=>(zPp f r).map fun ks=>k::ks
def ktD:Nat->D->Option KT
 | _,.int i=>some (.int i)
 | _,.bl b=>some (.int (if b then 1 else 0))
 | n+1,.tup ds=>(zPp (ktD n) ds).map .tup
 | _,_=>none
inductive ODs (K:PySem.W.Frag)(G:Hp):List (D×D)->List KT->List Addr->List V->Prop
 | nil:ODs K G [] [] [] []
 | cons {d e:D} {k:KT} {a:Addr} {v:V} {kvs:List (D×D)} {ks:List KT} {as:List Addr} {vs:List V}:ktD 8 d=some k->Rep K G d (.ref a)->Rep K G e v->ODs K G kvs ks as vs->ODs K G ((d,e)::kvs) (k::ks) (a::as) (v::vs)
theorem ODs.mono {K:PySem.W.Frag}{G G':Hp}(h:Same G G'):∀ {kvs ks as vs},ODs K G kvs ks as vs->ODs K G' kvs ks as vs
 | _,_,_,_,.nil=>.nil
 | _,_,_,_,.cons h1 h2 h3 h4=>.cons h1 (h2.mono h) (h3.mono h) (ODs.mono h h4)
def RepO (K:PySem.W.Frag)(G:Hp)(o:HO):D->Prop
 | .obj c ns ds=>∃C dx vs,ClsAt K c C/\o = .ins C dx (ns.zip vs)/\ns.length=ds.length/\Reps K G ds vs
 | .dct ks ds=>∃vs,o = .dT (ks.zip vs)/\ks.length=ds.length/\Reps K G ds vs
 | _=>False
theorem RepO.mono {K:PySem.W.Frag}{G G':Hp}{o:HO}(e:Same G G'):∀ {d:D},RepO K G o d->RepO K G' o d
 | .obj _ _ _,⟨C,dx,vs,h1,h2,h3,h4⟩=>⟨C,dx,vs,h1,h2,h3,h4.mono e⟩
 | .dct _ _,⟨vs,h1,h2,h3⟩=>⟨vs,h1,h2,h3.mono e⟩
theorem RepO.two {K:PySem.W.Frag}{G:Hp}{o:HO}:∀ {d:D},RepO K G o d->(∃C dx fs,o = .ins C dx fs)∨∃kvs,o = .dT kvs
 | .obj _ _ _,⟨C,dx,vs,_,h2,_⟩=>.inl ⟨C,dx,_,h2⟩
 | .dct _ _,⟨vs,h1,_⟩=>.inr ⟨_,h1⟩
theorem RepO.nl {K:PySem.W.Frag}{G:Hp}{us:List V}{d:D}(h:RepO K G (.lst us) d):False:=by
 rcases h.two with⟨_,_,_,z⟩ | ⟨_,z⟩<;>cases z
theorem RepO.nt {K:PySem.W.Frag}{G:Hp}{o:HO}{d:D}(h:RepO K G o d):qG o=true:=by
 rcases h.two with⟨_,_,_,z⟩ | ⟨_,z⟩<;>(subst z;rfl)
theorem RepO.nx {K:PySem.W.Frag}{G:Hp}{φ:Heap->Prop}{d:D}(h:RepO K G (.ext φ) d):False:=by
 rcases h.two with⟨_,_,_,z⟩ | ⟨_,z⟩<;>cases z
inductive RB (K:PySem.W.Frag)(H0 G H:Hp):Option V->B->Prop where
 | no {o:Option V}:RB K H0 G H o .no
 | fz {v:V} {d:D}:Rep K G d v->RB K H0 G H (some v) (.fz d)
 | ow {a:Addr} {vs:List V} {ds:List D}:H a=some (.lst vs)->G a=none->H0 a=none->Reps K G ds vs->RB K H0 G H (some (.ref a)) (.ow ds)
 | od {a:Addr} {kvs:List (D×D)} {ks:List KT} {as:List Addr} {vs:List V}:H a=some (.ext (zPn a ks as vs))->G a=none->H0 a=none->ODs K G kvs ks as vs->ks.Nodup->(a==sysModules)=false->RB K H0 G H (some (.ref a)) (.od kvs)
 | mu {a:Addr} {o:HO} {d:D}:H a=some o->G a=none->H0 a=none->RepO K G o d->RB K H0 G H (some (.ref a)) (.mu d)
def uF:B->Bool | .ow _=>true | .mu _=>true | _=>false
structure Good (K:PySem.W.Frag)(G0 H0 G H:Hp)(σ:St)(ρ:List B):Prop where
 st:Step G0 H0 G H
 vals:Paired (RB K H0 G H) σ ρ
 apart:∀(i j:Nat) (a:Addr) (b c:B),ρ[i]?=some b->ρ[j]?=some c->uF b=true->uF c=true->σ[i]?=some (some (.ref a))->σ[j]?=some (some (.ref a))->i=j
theorem Paired.get {α β:Type}{F:α->β->Prop}:∀ {l:List α} {r:List β} {i:Nat} {b:β},Paired F l r->r[i]?=some b->∃a,l[i]?=some a/\F a b
 | _,_,_,_,.nil,e=>by simp at e
 | _,_,0,_,.cons h _,e=>by simp at e;subst e;exact⟨_,rfl,h⟩
 | _,_,i+1,b,.cons _ t,e=>by
   obtain⟨a,h1,h2⟩:=Paired.get (i:=i) (b:=b) t (by simpa using e)
   exact⟨a,by simpa using h1,h2⟩
theorem Paired.set {α β:Type}{F:α->β->Prop}{a:α}{b:β}(h:F a b):∀ {l:List α} {r:List β} (i:Nat),Paired F l r->Paired F (l.set i a) (r.set i b)
 | _,_,_,.nil=>.nil
 | _,_,0,.cons _ t=>.cons h t
 | _,_,i+1,.cons q t=>.cons q (Paired.set h i t)
theorem RB.step {K:PySem.W.Frag}{H0 G H G' H':Hp}{o:Option V}{b:B}(r:RB K H0 G H o b)(s:Step G H G' H'):RB K H0 G' H' o b:=by
 cases r with
 | no=>exact .no
 | fz q=>exact .fz (q.mono s.gg)
 | ow h1 h2 h3 h4=>exact .ow (s.hh _ _ h1) ((s.new _ _ h1 rfl).trans h2) h3 (h4.mono s.gg)
 | od h1 h2 h3 h4 h5 h6=>exact .od (s.hh _ _ h1) ((s.new _ _ h1 rfl).trans h2) h3 (h4.mono s.gg) h5 h6
 | mu h1 h2 h3 h4=>exact .mu (s.hh _ _ h1) ((s.new _ _ h1 h4.nt).trans h2) h3 (h4.mono s.gg)
theorem Good.step {K:PySem.W.Frag}{G0 H0 G H G' H':Hp}{σ:St}{ρ:List B}(g:Good K G0 H0 G H σ ρ)(s:Step G H G' H'):Good K G0 H0 G' H' σ ρ :=
 ⟨g.st.trans s,Paired.mapP g.vals fun _ _ r=>r.step s,g.apart⟩
theorem Good.sub {K:PySem.W.Frag}{G0 H0 G H:Hp}{σ:St}{ρ:List B}(g:Good K G0 H0 G H σ ρ):Same G H:=g.st.sub
abbrev Ef:=List B->Option D
def tF (K:PySem.W.Frag)(f:Ef):TE:=fun σ H Q=>∃G0 H0 G ρ d,Good K G0 H0 G H σ ρ/\f ρ=some d/\∀v H' G',Step G H G' H'->Rep K G' d v->Q v H'
def PF (X:Cx)(e:Expr)(f:Ef):Prop:=PE X e (tF X.K f)
theorem PE.to {X:Cx}{e:Expr}{t:TE}{f:Ef}(h:PE X e t)(imp:∀σ H Q,tF X.K f σ H Q->t σ H Q):PF X e f:=fun pins s σ H Q I q=>h pins s σ H Q I (imp σ H Q q)
abbrev Lf:=List B->Option (List D)
def tFr (K:PySem.W.Frag)(f:Lf):TE:=fun σ H Q=>∃G0 H0 G ρ ds,Good K G0 H0 G H σ ρ/\f ρ=some ds/\∀a vs H' G',Step G H G' H'->H a=none->H' a=some (.lst vs)->G' a=none->Reps K G' ds vs->Q (.ref a) H'
def PFr (X:Cx)(e:Expr)(f:Lf):Prop:=PE X e (tFr X.K f)
theorem PE.toR {X:Cx}{e:Expr}{t:TE}{f:Lf}(h:PE X e t)(imp:∀σ H Q,tFr X.K f σ H Q->t σ H Q):PFr X e f:=fun pins s σ H Q I q=>h pins s σ H Q I (imp σ H Q q)
def eL (f:Lf):Ef:=fun ρ=>(f ρ).map .lst
theorem vF {X:Cx}{e:Expr}{f:Lf}(h:PFr X e f):PF X e (eL f):=by
 refine PE.to h ?_
 rintro σ H Q ⟨G0,H0,G,ρ,d,good,hf,k⟩
 unfold eL at hf
 obtain⟨ds,h1,rfl⟩:=Qt.mp hf
 refine⟨G0,H0,G,ρ,ds,good,h1,fun a vs H' G' s hn ha ga rs=>?_⟩
 exact k _ _ (upd G' a (.lst vs)) (s.frz hn ha ga) (xW.mpr ⟨a,vs,rfl,.of zO,rs.mono (Same.new ga)⟩)
abbrev Tf:=List B->Option Bool
def tFT (K:PySem.W.Frag)(f:Tf):TT:=fun σ H Q=>∃G0 H0 G ρ b,Good K G0 H0 G H σ ρ/\f ρ=some b/\∀H' G',Step G H G' H'->Q b H'
def PFT (X:Cx)(e:Expr)(f:Tf):Prop:=PT X e (tFT X.K f)
theorem PT.to {X:Cx}{e:Expr}{t:TT}{f:Tf}(h:PT X e t)(imp:∀σ H Q,tFT X.K f σ H Q->t σ H Q):PFT X e f:=fun pins s σ H Q I q=>h pins s σ H Q I (imp σ H Q q)
def PFW (X:Cx)(e:Expr)(f:Tf):Prop:=PW X e (tFT X.K f)
def tFA (K:PySem.W.Frag)(f:Lf):TA:=fun σ H Q=>∃G0 H0 G ρ ds,Good K G0 H0 G H σ ρ/\f ρ=some ds/\∀vs H' G',Step G H G' H'->Reps K G' ds vs->Q vs H'
def PFA (X:Cx)(es:List Expr)(f:Lf):Prop:=PA X es (tFA X.K f)
theorem PA.to {X:Cx}{es:List Expr}{t:TA}{f:Lf}(h:PA X es t)(imp:∀σ H Q,tFA X.K f σ H Q->t σ H Q):PFA X es f:=fun pos pins s σ H Q I q=>h pos pins s σ H Q I (imp σ H Q q)
section
variable {X:Cx} {a b c e:Expr} {es:List Expr} {fa fb:Ef} {ga:Lf} {ta tb:Tf} {pos:Pos}
def zTs (ρ:List B)(i:Nat):Option D:=match ρ[i]? with | some (.fz d)=>some d | _=>none
def eV (i:Nat):Ef:=fun ρ=>zTs ρ i
theorem zZZ {K:PySem.W.Frag}{G0 H0 G H:Hp}{σ:St}{ρ:List B}{i:Nat}{d:D}(g:Good K G0 H0 G H σ ρ)(h:zTs ρ i=some d):∃v,σ[i]?=some (some v)/\Rep K G d v:=by
 unfold zTs at h
 split at h
 · rename_i d' e
   cases h
   obtain⟨o,h1,r⟩:=Paired.get g.vals e
   cases r with
   | fz r=>exact⟨_,h1,r⟩
 · cases h
theorem zX (i:Nat){x:Str}(hN:X.N[i]?=some x:=by rfl)(hv:Vis X.env.scope x:=by first | exact Or.inl rfl | exact Or.inr (Or.inl rfl) | exact Or.inr (Or.inr rfl))(hd:(x==("__debug__":Str))=false:=by decide)(hcd:(x==("__classdict__":Str))=false:=by decide):PF X (.Name x pos) (eV i):=by
 refine PE.to (rZ hN hv hd hcd) ?_
 rintro σ H Q ⟨G0,H0,G,ρ,d,good,hf,k⟩
 obtain⟨v,h1,r⟩:=zZZ good hf
 exact⟨v,h1,k v H G (.refl good.sub) r⟩
def eC (d:D):Ef:=fun _=>some d
theorem zYD {v:V}{d:D}(h:PE X e (tC v))(r:∀G,Rep X.K G d v):PF X e (eC d):=by
 refine PE.to h ?_
 rintro σ H Q ⟨G0,H0,G,ρ,d',good,hf,k⟩
 cases hf
 exact k v H G (.refl good.sub) (r G)
theorem zW {i:Int}{j:Nat}:PF X (.Constant (.int i) j pos) (eC (.int i)):=zYD zWF fun _=>zJ.mpr rfl
theorem oY {i:Bool}{j:Nat}:PF X (.Constant (.bool i) j pos) (eC (.bl i)):=zYD zOJ fun _=>tK.mpr rfl
theorem bI {j:Nat}:PF X (.Constant .none j pos) (eC .non):=zYD zTY fun _=>nQ.mpr rfl
theorem tS {x:Str}{j:Nat}:PF X (.Constant (.str x) j pos) (eC (.str x)):=zYD zQf fun _=>xR.mpr rfl
def eI (C:Int->Int->Bool)(g:Int->Int->Int)(fa fb:Ef):Ef:=fun ρ=>(fa ρ).bind fun x=>(fb ρ).bind fun y=>match x,y with | .int i,.int j=>if C i j then some (.int (g i j)) else none | _,_=>none
theorem zW9 {C:Int->Int->Bool}{g:Int->Int->Int}{ρ:List B}{d:D}(h:eI C g fa fb ρ=some d):∃i j,fa ρ=some (.int i)/\fb ρ=some (.int j)/\C i j=true/\d = .int (g i j):=by
 unfold eI at h
 obtain⟨x,h1,h⟩:=Qq.mp h
 obtain⟨y,h2,h⟩:=Qq.mp h
 cases x with
 | int i =>
   cases y with
   | int j =>
     dsimp only at h
     split at h
     · rename_i hc;cases h;exact⟨i,j,h1,h2,hc,rfl⟩
     · cases h
   | _=>cases h
 | _=>cases h
theorem zS0 {op:Operator}{C:Int->Int->Bool}{P:Int->Int->Prop}{g:Int->Int->Int}(ho:OpR X (binaryOp op) (rI P fun i j=>.int (g i j)))(hP:∀i j,C i j=true->P i j)(ha:PF X a fa)(hb:PF X b fb):PF X (.BinOp a op b pos) (eI C g fa fb):=by
 refine PE.to (aA ho ha hb) ?_
 rintro σ H Q ⟨G0,H0,G,ρ,d,good,hf,k⟩
 obtain⟨i,j,h1,h2,hc,rfl⟩:=zW9 hf
 refine⟨G0,H0,G,ρ,_,good,h1,fun x H1 G1 s1 r1=>⟨G0,H0,G1,ρ,_,good.step s1,h2,fun y H2 G2 s2 r2=>?_⟩⟩
 exact⟨i,j,zJ.mp r1,zJ.mp r2,hP i j hc,k _ _ G2 (s1.trans s2) (zJ.mpr rfl)⟩
theorem zQT {op:Operator}{g:Int->Int->Int}(ho:OpR X (binaryOp op) (rI0 fun i j=>.int (g i j)))(ha:PF X a fa)(hb:PF X b fb):PF X (.BinOp a op b pos) (eI (fun _ _=>true) g fa fb):=by
 refine PE.to (aA ho ha hb) ?_
 rintro σ H Q ⟨G0,H0,G,ρ,d,good,hf,k⟩
 obtain⟨i,j,h1,h2,hc,rfl⟩:=zW9 hf
 refine⟨G0,H0,G,ρ,_,good,h1,fun x H1 G1 s1 r1=>⟨G0,H0,G1,ρ,_,good.step s1,h2,fun y H2 G2 s2 r2=>?_⟩⟩
 exact⟨i,j,zJ.mp r1,zJ.mp r2,k _ _ G2 (s1.trans s2) (zJ.mpr rfl)⟩
abbrev uJ:=eI (fun _ _=>true) (fun i j=>i+j)
abbrev zS5:=eI (fun _ _=>true) (fun i j=>i - j)
def mT (i j:Int):Bool:=(decide (-(2^64) < i)&&decide (i < 2^64))||(decide (-(2^64) < j)&&decide (j < 2^64))
abbrev oU:=eI mT (fun i j=>i*j)
def zPf (_ j:Int):Bool:=decide (0 < j)&&decide (j < 1073741824)
abbrev sE:=eI zPf (fun i j=>i / j)
abbrev yA:=eI (fun _ j=>decide (0 < j)) (fun i j=>i % j)
def zX8 (i j:Int):Bool:=decide (0<=j)&&decide (j<=1000000)&&decide (i.natAbs < 2^64)
abbrev fK:=eI zX8 (fun i j=>i^j.toNat)
theorem vG (ha:PF X a fa)(hb:PF X b fb):PF X (.BinOp a .Add b pos) (uJ fa fb):=zQT zTt ha hb
theorem zUd (ha:PF X a fa)(hb:PF X b fb):PF X (.BinOp a .Sub b pos) (zS5 fa fb):=zQT zQ1 ha hb
theorem uH (ha:PF X a fa)(hb:PF X b fb):PF X (.BinOp a .Mult b pos) (oU fa fb):=zS0 zQ3 (fun i j h=>by
 unfold mT at h
 simp only[Tg,Wb,Ej] at h
 exact h) ha hb
theorem tP (ha:PF X a fa)(hb:PF X b fb):PF X (.BinOp a .FloorDiv b pos) (sE fa fb):=zS0 zR2 (fun i j h=>by
 unfold zPf at h
 simp only[Wb,Ej] at h
 exact h) ha hb
theorem yR (ha:PF X a fa)(hb:PF X b fb):PF X (.BinOp a .Mod b pos) (yA fa fb):=zS0 zQa (fun i j h=>of_decide_eq_true h) ha hb
theorem zSh {i j:Int}(h:zX8 i j=true):zPh i j:=by
 unfold zX8 at h
 simp only[Wb,Ej] at h
 exact⟨h.1.1,h.1.2,h.2⟩
theorem dD (ha:PF X a fa)(hb:PF X b fb):PF X (.BinOp a .Pow b pos) (fK fa fb):=zS0 zQe (fun i j h=>zSh h) ha hb
def eB2 (g:D->D->Option Bool)(fa fb:Ef):Tf:=fun ρ=>(fa ρ).bind fun x=>(fb ρ).bind fun y=>g x y
def zSj (t:Tf):Ef:=fun ρ=>(t ρ).map .bl
def gLt:D->D->Option Bool | .int i,.int j=>some (decide (i < j)) | _,_=>none
def gLe:D->D->Option Bool | .int i,.int j=>some (decide (i<=j)) | _,_=>none
def gEq:D->D->Option Bool
 | .int i,.int j=>some (decide (i=j))
 | .bl i,.bl j=>some (decide (i=j))
 | .str i,.str j=>some (decide (i=j))
 | _,_=>none
def gNe (x y:D):Option Bool:=(gEq x y).map (!·)
def CmR (X:Cx)(op:CmpOp)(g:D->D->Option Bool):Prop:=∃r:R2,OpR X (compareOp op) r/\∀(d d':D) (k:Bool) (G H:Hp) (x y:V) (Q:VK),g d d'=some k->Same G H->Rep X.K G d x->Rep X.K G d' y->(∀H' G',Step G H G' H'->Q (.bl k) H')->r x y H Q
theorem zTC {op:CmpOp}{p:Int->Int->Bool}{g:D->D->Option Bool}(ho:OpR X (compareOp op) (rI0 fun i j=>.bl (p i j)))(hg:∀d d' k,g d d'=some k->∃i j,d = .int i/\d' = .int j/\k=p i j):CmR X op g:=by
 refine⟨_,ho,fun d d' k G H x y Q h s rx ry q=>?_⟩
 obtain⟨i,j,rfl,rfl,rfl⟩:=hg d d' k h
 exact⟨i,j,zJ.mp rx,zJ.mp ry,q H G (.refl s)⟩
theorem zTZ:CmR X .Lt gLt:=zTC zPc fun d d' k h=>by unfold gLt at h;split at h<;>cases h;exact⟨_,_,rfl,rfl,rfl⟩
theorem zOS:CmR X .LtE gLe:=zTC zPb fun d d' k h=>by unfold gLe at h;split at h<;>cases h;exact⟨_,_,rfl,rfl,rfl⟩
theorem zTH {d d':D}{k:Bool}{K:PySem.W.Frag}{G:Hp}{x y:V}(h:gEq d d'=some k)(rx:Rep K G d x)(ry:Rep K G d' y):zPI x y=true/\decide (x=y)=k:=by
 unfold gEq at h
 split at h
 · cases h;rw[zJ] at rx ry;subst rx;subst ry;exact⟨rfl,by simp⟩
 · cases h;rw[tK] at rx ry;subst rx;subst ry;exact⟨rfl,by simp⟩
 · cases h;rw[xR] at rx ry;subst rx;subst ry;exact⟨rfl,by simp⟩
 · cases h
theorem gS:CmR X .Eq gEq:=⟨_,zOL,fun d d' k G H x y Q h s rx ry q=>by
 obtain⟨h1,h2⟩:=zTH h rx ry
 exact⟨h1,by rw[h2];exact q H G (.refl s)⟩⟩
theorem zOU:CmR X .NotEq gNe:=⟨_,zOG,fun d d' k G H x y Q h s rx ry q=>by
 unfold gNe at h
 obtain⟨k',h',rfl⟩:=Qt.mp h
 obtain⟨h1,h2⟩:=zTH h' rx ry
 exact⟨h1,by rw[h2];exact q H G (.refl s)⟩⟩
theorem zRM {g:D->D->Option Bool}{ρ:List B}{k:Bool}(h:eB2 g fa fb ρ=some k):∃x y,fa ρ=some x/\fb ρ=some y/\g x y=some k:=by
 unfold eB2 at h
 obtain⟨x,h1,h⟩:=Qq.mp h
 obtain⟨y,h2,h⟩:=Qq.mp h
 exact⟨x,y,h1,h2,h⟩
theorem zT0 {t:Tf}{ρ:List B}{d:D}(h:zSj t ρ=some d):∃k,t ρ=some k/\d = .bl k:=by
 unfold zSj at h
 obtain⟨k,h1,rfl⟩:=Qt.mp h
 exact⟨k,h1,rfl⟩
theorem yU {op:CmpOp}{g:D->D->Option Bool}(hc:CmR X op g)(ha:PF X a fa)(hb:PF X b fb)(hm:behindInMarks op b=false:=by first | exact zS8 _ | (with_unfolding_all rfl)):PFT X (.Compare a [op] [b] pos) (eB2 g fa fb):=by
 obtain⟨r,ho,hr⟩:=hc
 refine PT.to (zVM ho ha hb hm) ?_
 rintro σ H Q ⟨G0,H0,G,ρ,c,good,hf,k⟩
 obtain⟨x,y,h1,h2,h3⟩:=zRM hf
 refine⟨G0,H0,G,ρ,_,good,h1,fun u H1 G1 s1 r1=>⟨G0,H0,G1,ρ,_,good.step s1,h2,fun v H2 G2 s2 r2=>?_⟩⟩
 exact hr x y c G2 H2 u v _ h3 s2.sub (r1.mono s2.gg) r2 fun H' G' s3=>⟨c,rfl,k _ G' ((s1.trans s2).trans s3)⟩
def kK:D->Bool | .non=>true | _=>false
theorem zUU {K:PySem.W.Frag}{G:Hp}{d:D}{v:V}(r:Rep K G d v):decide (v = .non)=kK d:=by
 cases d with
 | non=>rw[nQ] at r;subst r;rfl
 | bl b=>rw[tK] at r;subst r;simp[kK]
 | int b=>rw[zJ] at r;subst r;simp[kK]
 | str b=>rw[xR] at r;subst r;simp[kK]
 | tup ds=>obtain⟨p,_,rfl,_⟩:=xS.mp r;simp[kK]
 | lst ds=>obtain⟨p,_,rfl,_⟩:=xW.mp r;simp[kK]
 | obj C ns ds=>obtain⟨_,p,_,_,_,rfl,_⟩:=lD.mp r;simp[kK]
 | exc C ns ds=>obtain⟨_,p,_,_,_,rfl,_⟩:=zRW.mp r;simp[kK]
 | dct ks ds=>obtain⟨p,_,rfl,_⟩:=zYA.mp r;simp[kK]
def zWY:D->D->Option Bool | d,.non=>some (!kK d) | _,_=>none
theorem zSM:CmR X .IsNot zWY:=⟨_,zSc,fun d d' k G H x y Q h s rx ry q=>by
 unfold zWY at h
 split at h
 · cases h
   refine⟨nQ.mp ry,?_⟩
   rw[zUU rx];exact q H G (.refl s)
 · cases h⟩
def tB1 (f:Ef):Tf:=fun ρ=>(f ρ).bind fun x=>match x with | .bl k=>some k | _=>none
theorem zZi {f:Ef}{ρ:List B}{k:Bool}(h:tB1 f ρ=some k):f ρ=some (.bl k):=by
 unfold tB1 at h
 obtain⟨x,h1,h⟩:=Qq.mp h
 split at h
 · cases h;exact h1
 · cases h
theorem xG (ha:PF X a fa)(he:∀whole,isTrue a X.env whole=(do let v ←whole;standAt a.pos;holding [v] (truthy v)):=by intro _;rfl):PFT X a (tB1 fa):=by
 refine PT.to (zPN ha he) ?_
 rintro σ H Q ⟨G0,H0,G,ρ,c,good,hf,k⟩
 exact⟨G0,H0,G,ρ,_,good,zZi hf,fun u H1 G1 s1 r1=>⟨c,tK.mp r1,k _ G1 s1⟩⟩
def yD (t:Tf):Tf:=fun ρ=>(t ρ).map (!·)
def eS (t u:Tf):Tf:=fun ρ=>(t ρ).bind fun c=>if c=true then u ρ else some false
def lU (t u:Tf):Tf:=fun ρ=>(t ρ).bind fun c=>if c=true then some true else u ρ
theorem wF (ha:PFT X a ta):PFT X (.UnaryOp .Not a pos) (yD ta):=by
 refine PT.to (zPL ha) ?_
 rintro σ H Q ⟨G0,H0,G,ρ,c,good,hf,k⟩
 unfold yD at hf
 obtain⟨c',h1,rfl⟩:=Qt.mp hf
 exact⟨G0,H0,G,ρ,_,good,h1,fun H1 G1 s1=>k _ G1 s1⟩
theorem PW.to {t:TT}{f:Tf}(h:PW X e t)(imp:∀σ H Q,tFT X.K f σ H Q->t σ H Q):PFW X e f:=fun whole pins s σ H Q I q=>h whole pins s σ H Q I (imp σ H Q q)
theorem zTj (ha:PFT X a ta):PFW X (.BoolOp .And [a] pos) ta:=zR4 ha
theorem nI (ha:PFT X a ta):PFW X (.BoolOp .Or [a] pos) ta:=zPU ha
theorem zS2 {rest:List Expr}(ha:PFT X a ta)(hb:PFW X (.BoolOp .And (b::rest) pos) tb):PFW X (.BoolOp .And (a::b::rest) pos) (eS ta tb):=by
 refine PW.to (zPZ ha hb) ?_
 rintro σ H Q ⟨G0,H0,G,ρ,c,good,hf,k⟩
 unfold eS at hf
 obtain⟨c',h1,hf⟩:=Qq.mp hf
 refine⟨G0,H0,G,ρ,_,good,h1,fun H1 G1 s1=>?_⟩
 split at hf
 · rename_i h;rw[Qi h];exact⟨G0,H0,G1,ρ,c,good.step s1,hf,fun H2 G2 s2=>k _ G2 (s1.trans s2)⟩
 · rename_i h;rw[Qa h];cases hf;exact k _ G1 s1
theorem pJ {rest:List Expr}(ha:PFT X a ta)(hb:PFW X (.BoolOp .Or (b::rest) pos) tb):PFW X (.BoolOp .Or (a::b::rest) pos) (lU ta tb):=by
 refine PW.to (zPw ha hb) ?_
 rintro σ H Q ⟨G0,H0,G,ρ,c,good,hf,k⟩
 unfold lU at hf
 obtain⟨c',h1,hf⟩:=Qq.mp hf
 refine⟨G0,H0,G,ρ,_,good,h1,fun H1 G1 s1=>?_⟩
 split at hf
 · rename_i h;rw[Qi h];cases hf;exact k _ G1 s1
 · rename_i h;rw[Qa h];exact⟨G0,H0,G1,ρ,c,good.step s1,hf,fun H2 G2 s2=>k _ G2 (s1.trans s2)⟩
theorem zYp (h:PFW X e ta):PFT X e ta:=h.pt
theorem zQ2 {op:BoolOp}(h:PF X a fa):PF X (.BoolOp op [a] pos) fa:=zQI h
def zRa (fa fb:Ef):Ef:=fun ρ=>(tB1 fa ρ).bind fun c=>if c=true then fb ρ else some (.bl false)
theorem zQJ {rest:List Expr}(ha:PF X a fa)(hb:PF X (.BoolOp .And (b::rest) pos) fb):PF X (.BoolOp .And (a::b::rest) pos) (zRa fa fb):=by
 refine PE.to (zQb ha hb) ?_
 rintro σ H Q ⟨G0,H0,G,ρ,d,good,hf,k⟩
 obtain⟨c,h1,hf⟩:=Qq.mp hf
 refine⟨G0,H0,G,ρ,_,good,zZi h1,fun u H1 G1 s1 r1=>⟨c,tK.mp r1,?_⟩⟩
 split at hf
 · rename_i h;rw[Qi h];exact⟨G0,H0,G1,ρ,d,good.step s1,hf,fun v H2 G2 s2 r2=>k _ _ G2 (s1.trans s2) r2⟩
 · rename_i h;rw[Qa h];cases hf;exact k _ _ G1 s1 (tK.mpr rfl)
theorem zQ7 (ha:PF X a fa):PF X (.UnaryOp .Not a pos) (zSj (yD (tB1 fa))):=by
 refine PE.to (zQ0 ha) ?_
 rintro σ H Q ⟨G0,H0,G,ρ,d,good,hf,k⟩
 obtain⟨c,hf2,rfl⟩:=zT0 hf
 unfold yD at hf2
 obtain⟨c',h1,rfl⟩:=Qt.mp hf2
 exact⟨G0,H0,G,ρ,_,good,zZi h1,fun u H1 G1 s1 r1=>⟨c',tK.mp r1,k _ _ G1 s1 (tK.mpr rfl)⟩⟩
def eIf (t:Tf)(fa fb:Ef):Ef:=fun ρ=>(t ρ).bind fun c=>if c=true then fa ρ else fb ρ
theorem zUo (ht:PFT X c ta)(ha:PF X a fa)(hb:PF X b fb):PF X (.IfExp c a b pos) (eIf ta fa fb):=by
 refine PE.to (zU1 ht ha hb) ?_
 rintro σ H Q ⟨G0,H0,G,ρ,d,good,hf,k⟩
 unfold eIf at hf
 obtain⟨c',h1,hf⟩:=Qq.mp hf
 refine⟨G0,H0,G,ρ,_,good,h1,fun H1 G1 s1=>?_⟩
 split at hf
 · rename_i h;rw[Qi h];exact⟨G0,H0,G1,ρ,d,good.step s1,hf,fun v H2 G2 s2 r2=>k _ _ G2 (s1.trans s2) r2⟩
 · rename_i h;rw[Qa h];exact⟨G0,H0,G1,ρ,d,good.step s1,hf,fun v H2 G2 s2 r2=>k _ _ G2 (s1.trans s2) r2⟩
def zN:Lf:=fun _=>some []
def zY (f:Ef)(r:Lf):Lf:=fun ρ=>(f ρ).bind fun d=>(r ρ).map fun ds=>d::ds
theorem zT:PFA X [] zN:=by
 refine PA.to wI ?_
 rintro σ H Q ⟨G0,H0,G,ρ,d,good,hf,k⟩
 cases hf
 exact k [] H G (.refl good.sub) (zK.mpr rfl)
theorem gO {f:Ef}{r:Lf}{ρ:List B}{ds:List D}(h:zY f r ρ=some ds):∃d dr,f ρ=some d/\r ρ=some dr/\ds=d::dr:=by
 unfold zY at h
 obtain⟨d,h1,h⟩:=Qq.mp h
 obtain⟨dr,h2,rfl⟩:=Qt.mp h
 exact⟨d,dr,h1,h2,rfl⟩
theorem zZ (ha:PF X e fa)(hr:PFA X es ga)(hs:starEach (e::es) X.env=(false,eval e X.env)::starEach es X.env:=by rfl):PFA X (e::es) (zY fa ga):=by
 refine PA.to (yK ha hr hs) ?_
 rintro σ H Q ⟨G0,H0,G,ρ,ds,good,hf,k⟩
 obtain⟨d,dr,h1,h2,rfl⟩:=gO hf
 refine⟨G0,H0,G,ρ,_,good,h1,fun u H1 G1 s1 r1=>⟨G0,H0,G1,ρ,_,good.step s1,h2,fun v H2 G2 s2 r2=>?_⟩⟩
 exact k _ _ G2 (s1.trans s2) (zQ.mpr ⟨u,v,rfl,r1.mono s2.gg,r2⟩)
abbrev lim:Nat:=100000
theorem wV {n:Nat}(h:n<=lim):n < sizeLine:=Nat.lt_of_le_of_lt h (by decide)
def okL (ds:List D):Option (List D):=if ds.length<=lim then some ds else none
theorem qK {ds es:List D}(h:okL ds=some es):es=ds/\ds.length<=lim:=by
 unfold okL at h
 split at h
 · rename_i q;cases h;exact⟨rfl,q⟩
 · cases h
def wD (g:Lf):Ef:=fun ρ=>((g ρ).bind okL).map .tup
theorem tM {k:Nat}(h:PFA X es ga):PF X (.Tuple es k pos) (wD ga):=by
 refine PE.to (zW4 h) ?_
 rintro σ H Q ⟨G0,H0,G,ρ,d,good,hf,k⟩
 unfold wD at hf
 obtain⟨ds,h1,rfl⟩:=Qt.mp hf
 obtain⟨es,h1,h2⟩:=Qq.mp h1
 obtain⟨rfl,h3⟩:=qK h2
 refine⟨G0,H0,G,ρ,_,good,h1,fun vs H1 G1 s1 r1=>⟨by rw[←r1.length];exact Wx (wV h3),fun p hp=>?_⟩⟩
 have s2:=Step.laid (o:=.tup vs) s1.sub hp
 exact k _ _ _ (s1.trans s2) (xS.mpr ⟨p,vs,rfl,.of zO,r1.mono s2.gg⟩)
def wQ (g:Lf):Lf:=fun ρ=>(g ρ).bind okL
theorem xK (h:PFA X es ga):PFr X (.List es pos) (wQ ga):=by
 refine PE.toR (zQD h) ?_
 rintro σ H Q ⟨G0,H0,G,ρ,d,good,hf,k⟩
 unfold wQ at hf
 obtain⟨es,h1,h2⟩:=Qq.mp hf
 obtain⟨rfl,h3⟩:=qK h2
 refine⟨G0,H0,G,ρ,_,good,h1,fun vs H1 G1 s1 r1=>⟨by rw[←r1.length];exact Wx (wV h3),fun p hp=>?_⟩⟩
 exact k p vs _ G1 (s1.trans (Step.own s1.sub hp)) (s1.hh.free hp) zO (s1.sub.free hp) r1
def atD (x y:D):Option D:=match x,y with
 | .tup ds,.int i=>atI ds i
 | .lst ds,.int i=>atI ds i
 | .str z,.int i=>if z.length<=lim then(atI z.cps.toList i).map fun c=>.str ⟨#[c]⟩ else none
 | _,_=>none
def eIx (fa fb:Ef):Ef:=fun ρ=>(fa ρ).bind fun x=>(fb ρ).bind fun y=>atD x y
theorem zXn {K:PySem.W.Frag}{G:Hp}{ds:List D}{vs:List V}{i:Int}{d:D}(r:Reps K G ds vs)(h:atI ds i=some d):∃v,atI vs i=some v/\Rep K G d v:=by
 unfold atI at h ⊢
 rw[r.length] at h
 obtain⟨j,h1,h2⟩:=Qq.mp h
 obtain⟨v,h3,h4⟩:=r.get h2
 exact⟨v,by rw[h1];exact h3,h4⟩
theorem yW (ha:PF X a fa)(hb:PF X b fb)(hs:hW b:=by exact fun _ _=>rfl):PF X (.Subscript a b pos) (eIx fa fb):=by
 refine PE.to (zWn zSL ha hb hs) ?_
 rintro σ H Q ⟨G0,H0,G,ρ,d,good,hf,k⟩
 unfold eIx at hf
 obtain⟨x,h1,hf⟩:=Qq.mp hf
 obtain⟨y,h2,hf⟩:=Qq.mp hf
 refine⟨G0,H0,G,ρ,_,good,h1,fun u H1 G1 s1 r1=>⟨G0,H0,G1,ρ,_,good.step s1,h2,fun v H2 G2 s2 r2=>?_⟩⟩
 have r1:=r1.mono s2.gg
 have s3:=s1.trans s2
 unfold atD at hf
 split at hf
 · obtain⟨p,vs,rfl,q,rs⟩:=xS.mp r1
   obtain⟨w,e,rw'⟩:=zXn rs hf
   exact .inr (.inl ⟨p,vs,_,w,rfl,zJ.mp r2,s2.sub.tup q,e,k _ _ G2 s3 rw'⟩)
 · obtain⟨p,vs,rfl,q,rs⟩:=xW.mp r1
   obtain⟨w,e,rw'⟩:=zXn rs hf
   exact .inl ⟨p,vs,_,w,rfl,zJ.mp r2,s2.sub.seq q,e,k _ _ G2 s3 rw'⟩
 · split at hf
   · rename_i hz
     obtain⟨c,e,rfl⟩:=Qt.mp hf
     exact .inr (.inr ⟨_,_,c,xR.mp r1,zJ.mp r2,Wx (wV hz),e,k _ _ G2 s3 (xR.mpr rfl)⟩)
   · cases hf
 · cases hf
end
inductive Out where
 | nx (ρ:List B) | rt (d:D) | rl (ds:List D) | bk (ρ:List B) | ct (ρ:List B)
 deriving Inhabited
abbrev Sf:=List B->Option Out
def Wants (K:PySem.W.Frag)(G0 H0 G:Hp)(D:Ends):Out->Prop
 | .nx ρ'=>∀σ' H' G',Same G G'->Good K G0 H0 G' H' σ' ρ'->D.nx σ' H'
 | .bk ρ'=>∀σ' H' G',Same G G'->Good K G0 H0 G' H' σ' ρ'->D.bk σ' H'
 | .ct ρ'=>∀σ' H' G',Same G G'->Good K G0 H0 G' H' σ' ρ'->D.ct σ' H'
 | .rt d=>∀v H' G',Step G0 H0 G' H'->Rep K G' d v->D.rt v H'
 | .rl ds=>∀a vs H' G',Step G0 H0 G' H'->H0 a=none->H' a=some (.lst vs)->G' a=none->Reps K G' ds vs->D.rt (.ref a) H'
def tFS (K:PySem.W.Frag)(f:Sf):TS:=fun D σ H=>∃G0 H0 G ρ o,Good K G0 H0 G H σ ρ/\f ρ=some o/\Wants K G0 H0 G D o
def PFS (X:Cx)(st:Stmt)(f:Sf):Prop:=PS X st (tFS X.K f)
def mJ (X:Cx)(sts:List Stmt)(f:Sf):Prop:=PSs X sts (tFS X.K f)
theorem PS.to {X:Cx}{st:Stmt}{t:TS}{f:Sf}(h:PS X st t)(imp:∀D σ H,tFS X.K f D σ H->t D σ H):PFS X st f:=fun pins s σ H D I q=>h pins s σ H D I (imp D σ H q)
theorem PSs.to {X:Cx}{st:List Stmt}{t:TS}{f:Sf}(h:PSs X st t)(imp:∀D σ H,tFS X.K f D σ H->t D σ H):mJ X st f:=fun pins s σ H D I q=>h pins s σ H D I (imp D σ H q)
theorem Wants.mono {K:PySem.W.Frag}{G0 H0 G G':Hp}{D:Ends}{o:Out}(h:Wants K G0 H0 G D o)(s:Same G G'):Wants K G0 H0 G' D o:=by
 cases o with
 | nx ρ=>exact fun σ' H' G2 s2 g=>h σ' H' G2 (s.trans s2) g
 | bk ρ=>exact fun σ' H' G2 s2 g=>h σ' H' G2 (s.trans s2) g
 | ct ρ=>exact fun σ' H' G2 s2 g=>h σ' H' G2 (s.trans s2) g
 | rt d=>exact h
 | rl ds=>exact h
theorem eD {ρ:List B}{i j:Nat}{d:D}{ds:List D}(h:(ρ.set i (.fz d))[j]?=some (.ow ds)):j≠i/\ρ[j]?=some (.ow ds):=by
 by_cases e:j=i
 · subst e
   rw[Yq] at h
   split at h
   · split at h<;>cases h
   · rename_i z;exact absurd rfl z
 · rw[Qk (Ne.symm e)] at h
   exact⟨e,h⟩
theorem fT {ρ:List B}{i j:Nat}{d:D}{ds:List (D×D)}(h:(ρ.set i (.fz d))[j]?=some (.od ds)):j≠i/\ρ[j]?=some (.od ds):=by
 by_cases e:j=i
 · subst e
   rw[Yq] at h
   split at h
   · split at h<;>cases h
   · rename_i z;exact absurd rfl z
 · rw[Qk (Ne.symm e)] at h
   exact⟨e,h⟩
theorem gM {ρ:List B}{i j:Nat}{d d':D}(h:(ρ.set i (.fz d))[j]?=some (.mu d')):j≠i/\ρ[j]?=some (.mu d'):=by
 by_cases e:j=i
 · subst e
   rw[Yq] at h
   split at h
   · split at h<;>cases h
   · rename_i z;exact absurd rfl z
 · rw[Qk (Ne.symm e)] at h
   exact⟨e,h⟩
theorem vA {ρ:List B}{i j:Nat}{b b':B}(hb:uF b'=false)(h:(ρ.set i b')[j]?=some b)(o:uF b=true):j≠i/\ρ[j]?=some b:=by
 by_cases e:j=i
 · subst e
   rw[Yq] at h
   split at h
   · split at h
     · cases h;rw[hb] at o;cases o
     · cases h
   · rename_i z;exact absurd rfl z
 · rw[Qk (Ne.symm e)] at h
   exact⟨e,h⟩
theorem Good.setF {K:PySem.W.Frag}{G0 H0 G H:Hp}{σ:St}{ρ:List B}{v:V}{d:D}(g:Good K G0 H0 G H σ ρ)(i:Nat)(r:Rep K G d v):Good K G0 H0 G H (σ.set i (some v)) (ρ.set i (.fz d)):=by
 refine⟨g.st,Paired.set (.fz r) i g.vals,fun j k a ds es h1 h2 o1 o2 h3 h4=>?_⟩
 obtain⟨n1,e1⟩:=vA rfl h1 o1
 obtain⟨n2,e2⟩:=vA rfl h2 o2
 rw[Qk (Ne.symm n1)] at h3
 rw[Qk (Ne.symm n2)] at h4
 exact g.apart j k a ds es e1 e2 o1 o2 h3 h4
theorem Good.addr {K:PySem.W.Frag}{G0 H0 G H:Hp}{σ:St}{ρ:List B}{i:Nat}{ds:List D}(g:Good K G0 H0 G H σ ρ)(h:ρ[i]?=some (.ow ds)):∃a vs,σ[i]?=some (some (.ref a))/\H a=some (.lst vs)/\G a=none/\H0 a=none/\Reps K G ds vs:=by
 obtain⟨o,e,r⟩:=Paired.get g.vals h
 cases r with
 | ow h1 h2 h3 h4=>exact⟨_,_,e,h1,h2,h3,h4⟩
theorem Good.setO {K:PySem.W.Frag}{G0 H0 G H:Hp}{σ:St}{ρ:List B}{a:Addr}{vs:List V}{ds:List D}(g:Good K G0 H0 G H σ ρ)(i:Nat)(ha:H a=some (.lst vs))(ga:G a=none)(h0:H0 a=none)(rs:Reps K G ds vs)
   (fr:∀(j:Nat) (es:List D),ρ[j]?=some (B.ow es)->σ[j]?≠some (some (V.ref a))):Good K G0 H0 G H (σ.set i (some (.ref a))) (ρ.set i (.ow ds)):=by
 have hl:σ.length=ρ.length:=Ek g.vals
 have fr':∀(j:Nat) (b:B),ρ[j]?=some b->uF b=true->σ[j]?≠some (some (V.ref a)):=fun j b e o z=>by
   cases b with
   | ow es=>exact fr j es e z
   | mu d =>
     obtain⟨x,e1,r⟩:=Paired.get g.vals e
     rw[z] at e1;cases e1
     cases r with
     | mu q1 q2 q3 q4=>rw[ha] at q1;cases q1;exact q4.nl
   | _=>cases o
 refine⟨g.st,Paired.set (.ow ha ga h0 rs) i g.vals,fun j k b d1 d2 h1 h2 o1 o2 h3 h4=>?_⟩
 by_cases hj:j=i
 · by_cases hk:k=i
   · rw[hj,hk]
   · subst hj
     rw[Qk (Ne.symm hk)] at h2 h4
     have hlt:j < σ.length:=by
       have:=(We.mp h3).1
       rwa[Uo] at this
     rw[Re hlt] at h3
     cases h3
     exact absurd h4 (fr' k d2 h2 o2)
 · rw[Qk (Ne.symm hj)] at h1 h3
   by_cases hk:k=i
   · subst hk
     have hlt:k < σ.length:=by
       have:=(We.mp h4).1
       rwa[Uo] at this
     rw[Re hlt] at h4
     cases h4
     exact absurd h3 (fr' j d1 h1 o1)
   · rw[Qk (Ne.symm hk)] at h2 h4
     exact g.apart j k b d1 d2 h1 h2 o1 o2 h3 h4
theorem Good.wr {K:PySem.W.Frag}{G0 H0 G H:Hp}{σ:St}{ρ:List B}{a:Addr}{us:List V}{ds es:List D}{i:Nat}(g:Good K G0 H0 G H σ ρ)(hi:ρ[i]?=some (.ow ds))(hs:σ[i]?=some (some (.ref a)))(rs:Reps K G es us) :
   Good K G0 H0 G (upd H a (.lst us)) σ (ρ.set i (.ow es)):=by
 obtain⟨a',vs,h1,h2,h3,h4,_⟩:=g.addr hi
 rw[hs] at h1;cases h1
 have st:Step G0 H0 G (upd H a (.lst us)):=by
   refine⟨fun b o e=>?_,g.st.gg,fun b o e=>?_,g.st.new⟩
   · rw[zP (zB e h4)];exact g.st.hh b o e
   · rw[zP (zB e h3)];exact g.st.sub b o e
 have hl:σ.length=ρ.length:=Ek g.vals
 have hil:i < ρ.length:=(We.mp hi).1
 have key:∀(l:List (Option V)) (r:List B) (n:Nat),Paired (RB K H0 G H) l r->(∀j es,n+j≠i->r[j]?=some (.ow es)->l[j]?≠some (some (.ref a)))->(∀j,n+j=i->l[j]?=some (some (.ref a))) ->
     Paired (RB K H0 G (upd H a (.lst us))) l (if i < n then r else r.set (i - n) (.ow es)):=by
   intro l r n p
   induction p generalizing n with
   | nil=>intro _ _;split<;>exact .nil
   | @cons o b l' r' q t ih =>
     intro hne hat
     have tl:=ih (n+1) (fun j es z e=>by have:=hne (j+1) es (by lia) (by simpa using e);simpa using this) (fun j z=>by have:=hat (j+1) (by lia);simpa using this)
     have keepq:(∀es,b = .ow es->o≠some (.ref a))->RB K H0 G (upd H a (.lst us)) o b:=fun hb=>by
       cases q with
       | no=>exact .no
       | fz r=>exact .fz r
       | @ow c vs ds' c1 c2 c3 c4 =>
         have:c≠a:=fun z=>hb _ rfl (by rw[z])
         exact .ow (by rw[zP this];exact c1) c2 c3 c4
       | @od c _ _ _ _ c1 c2 c3 c4 c5 c6 =>
         have:c≠a:=fun z=>by rw[z,h2] at c1;cases c1
         exact .od (by rw[zP this];exact c1) c2 c3 c4 c5 c6
       | @mu c _ _ c1 c2 c3 c4 =>
         have:c≠a:=fun z=>by rw[z,h2] at c1;cases c1;exact c4.nl
         exact .mu (by rw[zP this];exact c1) c2 c3 c4
     by_cases h1:i < n
     · rw[Qi h1]
       rw[Qi (by lia)] at tl
       refine .cons (keepq fun es e z=>?_) tl
       exact hne 0 es (by lia) (by simp[e]) (by simp[z])
     · rw[Qa h1]
       by_cases h2:i=n
       · subst h2
         rw[Qi (by lia)] at tl
         have:=hat 0 (by lia)
         simp at this
         subst this
         rw[Nat.sub_self]
         exact .cons (.ow zO h3 h4 rs) tl
       · rw[Qa (by lia)] at tl
         have e:i - n=(i - (n+1))+1:=by lia
         rw[e]
         refine .cons (keepq fun es e z=>?_) tl
         exact hne 0 es (by lia) (by simp[e]) (by simp[z])
 have vals:=key σ ρ 0 g.vals (fun j es' z e w=>by
   have:=g.apart j i a _ _ e hi rfl rfl w hs
   lia) (fun j z=>by rw[show j=i by lia];exact hs)
 rw[Qa (Nat.not_lt_zero _),Nat.sub_zero] at vals
 refine⟨st,vals,fun j k b d1 d2 e1 e2 o1 o2 e3 e4=>?_⟩
 have un:∀(j:Nat) (d1:B),(ρ.set i (B.ow es))[j]?=some d1->uF d1=true->∃d,ρ[j]?=some d/\uF d=true:=fun j d1 e o=>by
   by_cases hj:j=i
   · subst hj;exact⟨.ow ds,hi,rfl⟩
   · rw[Qk (Ne.symm hj)] at e;exact⟨d1,e,o⟩
 obtain⟨c1,f1,p1⟩:=un j d1 e1 o1
 obtain⟨c2,f2,p2⟩:=un k d2 e2 o2
 exact g.apart j k b c1 c2 f1 f2 p1 p2 e3 e4
section
variable {X:Cx} {b c e tg:Expr} {es:List Expr} {fa:Ef} {ga:Lf} {ta:Tf} {pos:Pos} {st:Stmt} {rest:List Stmt} {f g:Sf}
def zC (f g:Sf):Sf:=fun ρ=>(f ρ).bind fun o=>match o with | .nx ρ'=>g ρ' | o=>some o
def sR:Sf:=fun ρ=>some (.nx ρ)
theorem yL:mJ X [] sR:=by
 refine PSs.to gR ?_
 rintro D σ H ⟨G0,H0,G,ρ,o,good,hf,k⟩
 cases hf
 exact k σ H G (Same.refl _) good
theorem zM (h:PFS X st f):mJ X [st] f:=qP h
theorem gG (h1:PFS X st f)(h2:mJ X rest g):mJ X (st::rest) (zC f g):=by
 refine PSs.to (w8 h1 h2) ?_
 rintro D σ H ⟨G0,H0,G,ρ,o,good,hf,k⟩
 unfold zC at hf
 obtain⟨o1,h1,hf⟩:=Qq.mp hf
 refine⟨G0,H0,G,ρ,o1,good,h1,?_⟩
 cases o1 with
 | nx ρ'=>exact fun σ' H' G' s g'=>⟨G0,H0,G',ρ',o,g',hf,k.mono s⟩
 | rt d=>cases hf;exact k
 | rl d=>cases hf;exact k
 | bk d=>cases hf;exact k
 | ct d=>cases hf;exact k
def xT (f:Ef):Sf:=fun ρ=>(f ρ).map .rt
theorem zG (h:PF X e fa):PFS X (.Return (some e) pos) (xT fa):=by
 refine PS.to (zXb h) ?_
 rintro D σ H ⟨G0,H0,G,ρ,o,good,hf,k⟩
 unfold xT at hf
 obtain⟨d,h1,rfl⟩:=Qt.mp hf
 exact⟨G0,H0,G,ρ,d,good,h1,fun v H' G' s r=>k v H' G' (good.st.trans s) r⟩
def sIf (t:Tf)(f g:Sf):Sf:=fun ρ=>(t ρ).bind fun c=>if c=true then f ρ else g ρ
theorem wX {sa sb:List Stmt}(ht:PFT X c ta)(ha:mJ X sa f)(hb:mJ X sb g):PFS X (.If c sa sb pos) (sIf ta f g):=by
 refine PS.to (zZY ht ha hb) ?_
 rintro D σ H ⟨G0,H0,G,ρ,o,good,hf,k⟩
 unfold sIf at hf
 obtain⟨c',h1,hf⟩:=Qq.mp hf
 refine⟨G0,H0,G,ρ,_,good,h1,fun H1 G1 s1=>?_⟩
 split at hf
 · rename_i h;rw[Qi h];exact⟨G0,H0,G1,ρ,o,good.step s1,hf,k.mono s1.gg⟩
 · rename_i h;rw[Qa h];exact⟨G0,H0,G1,ρ,o,good.step s1,hf,k.mono s1.gg⟩
abbrev Gf:=D->List B->Option (List B)
def tFG (K:PySem.W.Frag)(g:Gf):TG:=fun v σ H Q=>∃G0 H0 G ρ d ρ',Good K G0 H0 G H σ ρ/\Rep K G d v/\g d ρ=some ρ'/\∀σ' H' G',Step G H G' H'->Good K G0 H0 G' H' σ' ρ'->Q σ' H'
def PFG (X:Cx)(tg:Expr)(g:Gf):Prop:=PG X tg (tFG X.K g)
abbrev Gfs:=List D->List B->Option (List B)
def zOv (K:PySem.W.Frag)(g:Gfs):TGs:=fun vs σ H Q=>∃G0 H0 G ρ ds ρ',Good K G0 H0 G H σ ρ/\Reps K G ds vs/\g ds ρ=some ρ'/\∀σ' H' G',Step G H G' H'->Good K G0 H0 G' H' σ' ρ'->Q σ' H'
def zRF (X:Cx)(tgs:List Expr)(g:Gfs):Prop:=PGs X tgs (zOv X.K g)
def gN (i:Nat):Gf:=fun d ρ=>some (ρ.set i (.fz d))
theorem uU (i:Nat){x:Str}(hN:X.N.Nodup)(hi:X.N[i]?=some x:=by rfl)(hx:Loc X.env.scope x:=by first | exact .inl rfl | exact .inr rfl)(hf:X.fn x=true∨X.env.scope.names.lookup x=some .local:=by first | exact .inl rfl | exact .inr rfl):PFG X (.Name x pos) (gN i):=by
 have h:=dL (pos:=pos) hN hi hx hf
 intro pins s σ H v u Q I r q
 refine h pins s σ H v u Q I r ?_
 obtain⟨G0,H0,G,ρ,d,ρ',good,rd,hf,k⟩:=q
 cases hf
 exact k _ H G (.refl good.sub) (good.setF i rd)
def wE:Gfs:=fun ds ρ=>match ds with | []=>some ρ | _=>none
def zD (g:Gf)(r:Gfs):Gfs:=fun ds ρ=>match ds with | d::dr=>(g d ρ).bind fun ρ'=>r dr ρ' | _=>none
theorem qS:zRF X [] wE:=by
 intro pins s σ H vs us Q I r q
 refine zWf pins s σ H vs us Q I r ?_
 obtain⟨G0,H0,G,ρ,ds,ρ',good,rd,hf,k⟩:=q
 unfold wE at hf
 split at hf
 · cases hf
   rw[zK] at rd
   exact⟨rd,k _ H G (.refl good.sub) good⟩
 · cases hf
theorem yG {g:Gf}{r:Gfs}(h1:PFG X e g)(h2:zRF X es r)(hs:(assignEach (e::es) X.env).map (·.2)=assign e X.env::(assignEach es X.env).map (·.2):=by rfl):zRF X (e::es) (zD g r):=by
 intro pins s σ H vs us Q I rv q
 refine hU h1 h2 hs pins s σ H vs us Q I rv ?_
 obtain⟨G0,H0,G,ρ,ds,ρ',good,rd,hf,k⟩:=q
 unfold zD at hf
 split at hf
 · rename_i d dr
   obtain⟨ρ1,e1,e2⟩:=Qq.mp hf
   obtain⟨v,vr,rfl,r1,r2⟩:=zQ.mp rd
   exact⟨v,vr,rfl,G0,H0,G,ρ,d,ρ1,good,r1,e1,fun σ' H' G' s' g'=>⟨G0,H0,G',ρ1,dr,ρ',g',r2.mono s'.gg,e2,fun σ2 H2 G2 s2 g2=>k σ2 H2 G2 (s'.trans s2) g2⟩⟩
 · cases hf
def gT (r:Gfs):Gf:=fun d ρ=>match d with | .tup ds=>r ds ρ | _=>none
theorem zW7 {r:Gfs}{k:Nat}(n:Nat)(hc:X.calm=true)(h:zRF X es r)(hr:∀ds ρ ρ',r ds ρ=some ρ'->ds.length=n)(hn:(assignEach es X.env).length=n:=by rfl)(hst:(assignEach es X.env).findIdx? (·.1)=none:=by rfl):PFG X (.Tuple es k pos) (gT r):=by
 have h:=zSW (pos:=pos) (k:=k) hc h hn hst
 intro pins s σ H v u Q I rv q
 refine h pins s σ H v u Q I rv ?_
 obtain⟨G0,H0,G,ρ,d,ρ',good,rd,hf,k⟩:=q
 unfold gT at hf
 split at hf
 · obtain⟨p,vs,rfl,h1,h2⟩:=xS.mp rd
   exact⟨p,vs,rfl,good.sub.tup h1,by rw[←h2.length];exact hr _ _ _ hf,G0,H0,G,ρ,_,ρ',good,h2,hf,k⟩
 · cases hf
theorem wZ {g:Gf}{r:Gfs}{n:Nat}(h:∀ds ρ ρ',r ds ρ=some ρ'->ds.length=n):∀ds ρ ρ',zD g r ds ρ=some ρ'->ds.length=n+1:=by
 intro ds ρ ρ' q
 unfold zD at q
 split at q
 · obtain⟨ρ1,e1,e2⟩:=Qq.mp q
   rw[Qs,h _ _ _ e2]
 · cases q
theorem nY:∀ds ρ ρ',wE ds ρ=some ρ'->ds.length=0:=by
 intro ds ρ ρ' q
 unfold wE at q
 split at q
 · rfl
 · cases q
def NoOw (ρ:List B):Prop:=(∀(j:Nat) (es:List D),ρ[j]?≠some (B.ow es))/\(∀(j:Nat) (ks:List (D×D)),ρ[j]?≠some (B.od ks))/\∀(j:Nat) (d:D),ρ[j]?≠some (B.mu d)
theorem NoOw.own {ρ:List B}(n:NoOw ρ){j:Nat}{b:B}(h:ρ[j]?=some b)(o:uF b=true):False:=by
 cases b with
 | ow es=>exact n.1 j es h
 | mu d=>exact n.2.2 j d h
 | _=>cases o
def zXq (g:Gf):Prop:=∀d ρ ρ',g d ρ=some ρ'->NoOw ρ->NoOw ρ'
def zWc (g:Gfs):Prop:=∀d ρ ρ',g d ρ=some ρ'->NoOw ρ->NoOw ρ'
theorem mS (i:Nat):zXq (gN i):=fun d ρ ρ' h n=>by
 cases h
 exact⟨fun j es e=>n.1 j es (eD e).2,fun j ks e=>n.2.1 j ks (fT e).2,fun j d' e=>n.2.2 j d' (gM e).2⟩
theorem dQ:zWc wE:=fun d ρ ρ' h n=>by
 unfold wE at h
 split at h
 · cases h;exact n
 · cases h
theorem sV {g:Gf}{r:Gfs}(h1:zXq g)(h2:zWc r):zWc (zD g r):=fun d ρ ρ' h n=>by
 unfold zD at h
 split at h
 · obtain⟨ρ1,e1,e2⟩:=Qq.mp h
   exact h2 _ _ _ e2 (h1 _ _ _ e1 n)
 · cases h
theorem zRY {r:Gfs}(h:zWc r):zXq (gT r):=fun d ρ ρ' q n=>by
 unfold gT at q
 split at q
 · exact h _ _ _ q n
 · cases q
def zW0 (f:Ef)(g:Gf):Sf:=fun ρ=>(f ρ).bind fun d=>(g d ρ).map .nx
theorem zTR {K:PySem.W.Frag}{t:TE}{f:Ef}{g:Gf}(imp:∀σ H Q,tF K f σ H Q->t σ H Q){D:Ends}{σ:St}{H:Hp}(h:tFS K (zW0 f g) D σ H):zVh t (tFG K g) D σ H:=by
 obtain⟨G0,H0,G,ρ,o,good,hf,k⟩:=h
 unfold zW0 at hf
 obtain⟨d,h1,hf⟩:=Qq.mp hf
 obtain⟨ρ',h2,rfl⟩:=Qt.mp hf
 exact imp _ _ _ ⟨G0,H0,G,ρ,d,good,h1,fun v H' G' s r=>⟨G0,H0,G',ρ,d,ρ',good.step s,r,h2,fun σ2 H2 G2 s2 g2=>k σ2 H2 G2 (s.gg.trans s2.gg) g2⟩⟩
theorem zRL {g:Gf}(he:PF X e fa)(hg:PFG X tg g)(hs:swapsWithSole [tg] e pos.line X.env=pure false:=by rfl)(hw:swappedStores [tg] e X.env=pure none:=by rfl)(h1:(assignEach [tg] X.env).map (·.2)=[assign tg X.env]:=by rfl) :
   PFS X (.Assign [tg] e pos) (zW0 fa g):=PS.to (zXf he hg hs hw h1) fun D σ H h=>zTR (fun _ _ _ q=>q) h
def yO (i:Nat)(f:Ef):Sf:=fun ρ=>(f ρ).map fun d=>.nx (ρ.set i (.fz d))
theorem zT6 {K:PySem.W.Frag}{t:TE}{f:Ef}{i:Nat}(imp:∀σ H Q,tF K f σ H Q->t σ H Q){D:Ends}{σ:St}{H:Hp}(h:tFS K (yO i f) D σ H):zVh t (zXR i) D σ H:=by
 obtain⟨G0,H0,G,ρ,o,good,hf,k⟩:=h
 unfold yO at hf
 obtain⟨d,h1,rfl⟩:=Qt.mp hf
 exact imp _ _ _ ⟨G0,H0,G,ρ,d,good,h1,fun v H' G' s r=>k _ H' G' s.gg ((good.step s).setF i r)⟩
theorem zH (i:Nat){x:Str}{pos':Pos}(hN:X.N.Nodup)(he:PF X e fa)(hi:X.N[i]?=some x:=by rfl)(hx:Loc X.env.scope x:=by first | exact .inl rfl | exact .inr rfl)(hs:swapsWith e (some (.Name x pos')) pos.line X.env=pure false:=by rfl)
   (hf:X.fn x=true∨X.env.scope.names.lookup x=some .local:=by first | exact .inl rfl | exact .inr rfl):PFS X (.Assign [.Name x pos'] e pos) (yO i fa) :=
 PS.to (mP hN hi hx he hs hf) fun D σ H h=>zT6 (fun _ _ _ q=>q) h
def kB (i:Nat)(f:Lf):Sf:=fun ρ=>(f ρ).map fun ds=>.nx (ρ.set i (.ow ds))
theorem zYq {K:PySem.W.Frag}{t:TE}{f:Lf}{i:Nat}(imp:∀σ H Q,tFr K f σ H Q->t σ H Q){D:Ends}{σ:St}{H:Hp}(h:tFS K (kB i f) D σ H):zVh t (zXR i) D σ H:=by
 obtain⟨G0,H0,G,ρ,o,good,hf,k⟩:=h
 unfold kB at hf
 obtain⟨ds,h1,rfl⟩:=Qt.mp hf
 refine imp _ _ _ ⟨G0,H0,G,ρ,ds,good,h1,fun p vs H' G' s hn hp gp rs=>?_⟩
 refine k _ H' G' s.gg ((good.step s).setO i hp gp (good.st.hh.free hn) rs fun j es e z=>?_)
 obtain⟨q,us,e1,e2,_⟩:=good.addr e
 rw[e1] at z;cases z
 rw[hn] at e2;cases e2
theorem zTK (i:Nat){x:Str}{pos':Pos}(hN:X.N.Nodup)(he:PFr X e ga)(hi:X.N[i]?=some x:=by rfl)(hx:Loc X.env.scope x:=by first | exact .inl rfl | exact .inr rfl)(hs:swapsWith e (some (.Name x pos')) pos.line X.env=pure false:=by rfl)
   (hf:X.fn x=true∨X.env.scope.names.lookup x=some .local:=by first | exact .inl rfl | exact .inr rfl):PFS X (.Assign [.Name x pos'] e pos) (kB i ga) :=
 PS.to (mP hN hi hx he hs hf) fun D σ H h=>zYq (fun _ _ _ q=>q) h
def zVn (i:Nat)(ρ:List B):List B:=match ρ[i]? with | some (.ow ds)=>ρ.set i (.fz (.lst ds)) | _=>ρ
def aN (i:Nat)(f:Sf):Sf:=fun ρ=>f (zVn i ρ)
theorem Good.frz {K:PySem.W.Frag}{G0 H0 G H:Hp}{σ:St}{ρ:List B}(g:Good K G0 H0 G H σ ρ)(i:Nat):∃G',Same G G'/\Good K G0 H0 G' H σ (zVn i ρ):=by
 unfold zVn
 split
 · rename_i ds e
   obtain⟨p,vs,h1,h2,h3,h4,h5⟩:=g.addr e
   have sG:Same G (upd G p (.lst vs)):=Same.new h3
   have st:Step G0 H0 (upd G p (.lst vs)) H:=by
     refine⟨g.st.hh,g.st.gg.trans sG,fun b o q=>?_,fun b o' hb hn=>?_⟩
     · by_cases z:b=p
       · subst z;rw[zO] at q;rw[h2];exact q
       · rw[zP z] at q;exact g.st.sub b o q
     · rw[zP (fun z:b=p=>by rw[z,h4] at hb;cases hb)];exact g.st.new b o' hb hn
   have vals:Paired (RB K H0 (upd G p (.lst vs)) H) σ (ρ.set i (.fz (.lst ds))):=by
     have key:∀(l:List (Option V)) (r:List B) (n:Nat),Paired (RB K H0 G H) l r->(∀j es,n+j≠i->r[j]?=some (.ow es)->l[j]?≠some (some (.ref p)))->(∀j,n+j=i->l[j]?=some (some (.ref p))) ->
         Paired (RB K H0 (upd G p (.lst vs)) H) l (if i < n then r else r.set (i - n) (.fz (.lst ds))):=by
       intro l r n q
       induction q generalizing n with
       | nil=>intro _ _;split<;>exact .nil
       | @cons o b l' r' q t ih =>
         intro hne hat
         have tl:=ih (n+1) (fun j es z e=>by have:=hne (j+1) es (by lia) (by simpa using e);simpa using this) (fun j z=>by have:=hat (j+1) (by lia);simpa using this)
         have keepq:(∀es,b = .ow es->o≠some (.ref p))->RB K H0 (upd G p (.lst vs)) H o b:=fun hb=>by
           cases q with
           | no=>exact .no
           | fz r=>exact .fz (r.mono sG)
           | @ow c vs' ds' c1 c2 c3 c4 =>
             have:c≠p:=fun z=>hb _ rfl (by rw[z])
             exact .ow c1 (by rw[zP this];exact c2) c3 (c4.mono sG)
           | @od c _ _ _ _ c1 c2 c3 c4 c5 c6 =>
             have:c≠p:=fun z=>by rw[z,h2] at c1;cases c1
             exact .od c1 (by rw[zP this];exact c2) c3 (c4.mono sG) c5 c6
           | @mu c _ _ c1 c2 c3 c4 =>
             have:c≠p:=fun z=>by rw[z,h2] at c1;cases c1;exact c4.nl
             exact .mu c1 (by rw[zP this];exact c2) c3 (c4.mono sG)
         by_cases h1:i < n
         · rw[Qi h1]
           rw[Qi (by lia)] at tl
           exact .cons (keepq fun es e z=>hne 0 es (by lia) (by simp[e]) (by simp[z])) tl
         · rw[Qa h1]
           by_cases h2:i=n
           · subst h2
             rw[Qi (by lia)] at tl
             have:=hat 0 (by lia)
             simp at this
             subst this
             rw[Nat.sub_self]
             exact .cons (.fz (xW.mpr ⟨p,vs,rfl,.of zO,h5.mono sG⟩)) tl
           · rw[Qa (by lia)] at tl
             have e:i - n=(i - (n+1))+1:=by lia
             rw[e]
             exact .cons (keepq fun es e z=>hne 0 es (by lia) (by simp[e]) (by simp[z])) tl
     have v:=key σ ρ 0 g.vals (fun j es' z e' w=>by have:=g.apart j i p _ _ e' e rfl rfl w h1;lia) (fun j z=>by rw[show j=i by lia];exact h1)
     rw[Qa (Nat.not_lt_zero _),Nat.sub_zero] at v
     exact v
   refine⟨_,sG,st,vals,fun j k b d1 d2 e1 e2 o1 o2 e3 e4=>?_⟩
   obtain⟨_,f1⟩:=vA rfl e1 o1
   obtain⟨_,f2⟩:=vA rfl e2 o2
   exact g.apart j k b d1 d2 f1 f2 o1 o2 e3 e4
 · exact⟨G,Same.refl _,g⟩
theorem bQ (i:Nat)(h:PFS X st f):PFS X st (aN i f):=by
 refine PS.to h ?_
 rintro D σ H ⟨G0,H0,G,ρ,o,good,hf,k⟩
 obtain⟨G',s,g'⟩:=good.frz i
 exact⟨G0,H0,G',_,o,g',hf,k.mono s⟩
end
def cB (K:PySem.W.Frag)(J:It)(G:Hp)(ds:List D):Prop:=∀(i:Nat) (G2 H2:Hp),Same G G2->Same G2 H2 ->
 (∀d,ds[i]?=some d->J.go i H2/\∀x H3,J.yld i H2 x H3->∃G3,Step G2 H2 G3 H3/\Rep K G3 d x)/\(ds.length<=i->J.stop i H2)
def tFI (K:PySem.W.Frag)(f:Lf):TI:=fun σ H R=>∃G0 H0 G ρ ds,Good K G0 H0 G H σ ρ/\f ρ=some ds/\∀J H' G',Step G H G' H'->cB K J G' ds->R J H'
def PFI (X:Cx)(tg iter:Expr)(f:Lf):Prop:=PI X tg iter (tFI X.K f)
theorem PI.to {X:Cx}{tg e:Expr}{t:TI}{f:Lf}(h:PI X tg e t)(imp:∀σ H R,tFI X.K f σ H R->t σ H R):PFI X tg e f:=fun pins s σ H R I q=>h pins s σ H R I (imp σ H R q)
theorem iJ {K:PySem.W.Frag}{G:Hp}{a:Addr}{vs:List V}{ds:List D}(h:SqL K G a vs)(r:Reps K G ds vs):cB K (Itl K a) G ds:=by
 intro i G2 H2 s1 s2
 have q:SqL K H2 a vs:=(s1.trans s2).seq h
 refine⟨fun d hd=>?_,fun hi=>⟨vs,q,by rw[←r.length];exact hi⟩⟩
 obtain⟨v,e,rv⟩:=r.get hd
 refine⟨⟨vs,v,q,e⟩,fun x H3 y=>?_⟩
 obtain⟨rfl,y⟩:=y
 have:=y vs q
 rw[e] at this;cases this
 exact⟨G2,.refl s2,rv.mono s1⟩
def sI (lo:Int)(n:Nat):List D:=(List.range n).map fun i=>D.int (lo+(i:Nat))
theorem zZv {K:PySem.W.Frag}{G:Hp}{lo:Int}{n:Nat}:cB K (Itr lo n) G (sI lo n):=by
 intro i G2 H2 s1 s2
 have hl:(sI lo n).length=n:=by simp[sI]
 refine⟨fun d hd=>?_,fun hi=>by rw[hl] at hi;exact hi⟩
 have hi:i < n:=by rw[←hl];exact(We.mp hd).1
 refine⟨hi,fun x H3 y=>?_⟩
 obtain⟨rfl,rfl⟩:=y
 have e:d = .int (lo+i):=by
   unfold sI at hd
   rw[Ws,Um hi] at hd
   exact(Wg hd).symm
 subst e
 exact⟨G2,.refl s2,zJ.mpr rfl⟩
section
variable {X:Cx} {a b c e tg elt iter:Expr} {es ifs:List Expr} {fa fb:Ef} {ga gi:Lf} {tc:Tf} {pos:Pos} {st:Stmt} {f g:Sf}
def iL (f:Ef):Lf:=fun ρ=>(f ρ).bind fun d=>match d with | .lst ds=>some ds | _=>none
theorem aP (h:PF X e fa):PFI X tg e (iL fa):=by
 refine PI.to (zV1 h) ?_
 rintro σ H R ⟨G0,H0,G,ρ,ds,good,hf,k⟩
 unfold iL at hf
 obtain⟨d,h1,hf⟩:=Qq.mp hf
 cases d with
 | lst es =>
   cases hf
   refine⟨G0,H0,G,ρ,_,good,h1,fun x H1 G1 s1 r1=>?_⟩
   obtain⟨p,vs,rfl,q,rs⟩:=xW.mp r1
   exact⟨p,rfl,⟨vs,s1.sub.seq q⟩,k _ H1 G1 s1 (iJ q rs)⟩
 | _=>cases hf
theorem zT5 (h:PFr X e ga):PFI X tg e ga:=by
 refine PI.to (zV1 h) ?_
 rintro σ H R ⟨G0,H0,G,ρ,ds,good,hf,k⟩
 refine⟨G0,H0,G,ρ,_,good,hf,fun p vs H1 G1 s1 hn hp gp rs=>?_⟩
 exact⟨p,rfl,⟨vs,.of hp⟩,k _ H1 (upd G1 p (.lst vs)) (s1.frz hn hp gp) (iJ (.of zO) (rs.mono (Same.new gp)))⟩
def iR (f:Ef):Lf:=fun ρ=>(f ρ).bind fun d=>match d with | .int n=>if decide (-1000000<=n)&&decide (n<=1000000) then some (sI 0 n.toNat) else none | _=>none
theorem zU0 {p:Pos}(hg:Gl X "range")(hm:X.mg "range"=none)(h:PF X a fa)(hs:starEach [a] X.env=[(false,eval a X.env)]:=by rfl):PFI X tg (.Call (.Name "range" p) [a] [] pos) (iR fa):=by
 refine PI.to (zVf hg hm (yK h wI (by rw[hs];rfl)) hs) ?_
 rintro σ H R ⟨G0,H0,G,ρ,ds,good,hf,k⟩
 unfold iR at hf
 obtain⟨d,h1,hf⟩:=Qq.mp hf
 cases d with
 | int n =>
   dsimp only at hf
   split at hf
   · rename_i hc
     cases hf
     simp only[Wb,Ej] at hc
     refine⟨G0,H0,G,ρ,_,good,h1,fun x H1 G1 s1 r1=>⟨n,by rw[zJ.mp r1],by lia,by lia,k _ H1 G1 s1 zZv⟩⟩
   · cases hf
 | _=>cases hf
def lW (g:Gf)(body:Sf):List D->Sf
 | [],ρ=>some (.nx ρ)
 | d::r,ρ=>(g d ρ).bind fun ρ1=>(body ρ1).bind fun o=>match o with
   | .nx ρ2=>lW g body r ρ2
   | .ct ρ2=>lW g body r ρ2
   | .bk ρ2=>some (.nx ρ2)
   | o=>some o
def lQ (src:Lf)(g:Gf)(body:Sf):Sf:=fun ρ=>(src ρ).bind fun ds=>lW g body ds ρ
theorem nE {gt:Gf}{body:List Stmt}{fb:Sf}(hp:PassesOwn (model X.prog X.w) X.A X.env X.xe)(hc:X.calm=true)(hi:PFI X tg iter gi)(hg:PFG X tg gt)(hb:mJ X body fb)(hs:∀x,foldedSetIterable iter X.env x=pure x:=by intro _;rfl) :
   PFS X (.For tg iter body [] pos) (lQ gi gt fb):=by
 refine PS.to (zPT hp hc hi hg hb hs) ?_
 rintro D σ H ⟨G0,H0,G,ρ,o,good,hf,k⟩
 unfold lQ at hf
 obtain⟨ds,h1,hf⟩:=Qq.mp hf
 refine⟨G0,H0,G,ρ,ds,good,h1,fun J H1 G1 s1 y=>?_⟩
 refine⟨fun i m σ H=>m=ds.length - i/\i<=ds.length/\∃G2 ρ2,Same G1 G2/\Good X.K G0 H0 G2 H σ ρ2/\lW gt fb (ds.drop i) ρ2=some o,⟨ds.length,by simp,Ee _,G1,ρ,Same.refl _,good.step s1,by simpa using hf⟩,?_⟩
 rintro i m σ2 H2 ⟨rfl,hi',G2,ρ2,sg,good2,hf2⟩
 obtain⟨y1,y2⟩:=y i G2 H2 sg good2.sub
 by_cases hlt:i < ds.length
 · obtain⟨go,yl⟩:=y1 ds[i] (Wo hlt)
   rw[Ey hlt] at hf2
   unfold lW at hf2
   obtain⟨ρ3,e1,hf2⟩:=Qq.mp hf2
   obtain⟨o1,e2,hf2⟩:=Qq.mp hf2
   refine .inr ⟨go,fun σ' H'=>∃G' ρ',Same G1 G'/\Good X.K G0 H0 G' H' σ' ρ'/\lW gt fb (ds.drop (i+1)) ρ'=some o,fun σ' H' ⟨G',ρ',a1,a2,a3⟩=>⟨ds.length - (i+1),by lia,rfl,hlt,G',ρ',a1,a2,a3⟩,fun x H3 yx=>?_⟩
   obtain⟨G3,s3,r3⟩:=yl x H3 yx
   refine⟨G0,H0,G3,ρ2,_,ρ3,good2.step s3,r3,e1,fun σ4 H4 G4 s4 good4=>?_⟩
   have sg4:Same G1 G4:=(sg.trans s3.gg).trans s4.gg
   refine⟨G0,H0,G4,ρ3,o1,good4,e2,?_⟩
   cases o1 with
   | nx ρ5=>exact fun σ5 H5 G5 s5 good5=>⟨G5,ρ5,sg4.trans s5,good5,hf2⟩
   | ct ρ5=>exact fun σ5 H5 G5 s5 good5=>⟨G5,ρ5,sg4.trans s5,good5,hf2⟩
   | bk ρ5=>cases hf2;exact fun σ5 H5 G5 s5 good5=>k σ5 H5 G5 ((s1.gg.trans sg4).trans s5) good5
   | rt d=>cases hf2;exact k
   | rl d=>cases hf2;exact k
 · have e:i=ds.length:=by lia
   subst e
   rw[Oi] at hf2
   cases hf2
   exact .inl ⟨y2 (Qp _),k σ2 H2 G2 (s1.gg.trans sg) good2⟩
def tO (g:Gf)(t:Tf)(elt:Ef):List D->List B->List D->Option (List D)
 | [],_,acc=>some acc
 | d::r,ρ,acc=>(g d ρ).bind fun ρ1=>(t ρ1).bind fun c=>if c=true then(elt ρ1).bind fun y=>tO g t elt r ρ1 (acc++[y]) else tO g t elt r ρ1 acc
def upB (m:Nat)(js:List Nat)(ρ:List B):List B:=List.replicate m .no++js.map fun j=>match ρ[j]? with | some (.fz d)=>.fz d | _=>.no
def yC (src:Lf)(m:Nat)(js:List Nat)(g:Gf)(t:Tf)(elt:Ef):Lf:=fun ρ=>((src ρ).bind okL).bind fun ds=>tO g t elt ds (upB m js ρ) []
theorem Good.up {K:PySem.W.Frag}{G0 H0 G H:Hp}{σ:St}{ρ:List B}(g:Good K G0 H0 G H σ ρ)(m:Nat)(js:List Nat):Good K G H G H (upC m js σ) (upB m js ρ):=by
 refine⟨.refl g.sub,?_,fun i j a b c h1 _ o1 _=>?_⟩
 · unfold upC upB
   have rep:∀m:Nat,Paired (RB K H G H) (List.replicate m (none:Option V)) (List.replicate m B.no):=fun m=>by
     induction m with
     | zero=>exact .nil
     | succ n ih=>rw[Rk,Rk];exact .cons .no ih
   have app:∀ {l1 l2:List (Option V)} {r1 r2:List B},Paired (RB K H G H) l1 r1->Paired (RB K H G H) l2 r2->Paired (RB K H G H) (l1++l2) (r1++r2):=fun h1 h2=>by
     induction h1 with
     | nil=>exact h2
     | cons q t ih=>exact .cons q ih
   refine app (rep m) ?_
   induction js with
   | nil=>exact .nil
   | cons j r ih =>
     rw[Ql,Ql]
     refine .cons ?_ ih
     cases e:ρ[j]? with
     | none=>exact .no
     | some b =>
       obtain⟨o,e1,r1⟩:=Paired.get g.vals e
       cases r1 with
       | no=>exact .no
       | fz q=>rw[e1];exact .fz q
       | ow q1 q2 q3 q4=>exact .no
       | od q1 q2 q3 q4 q5 q6=>exact .no
       | mu q1 q2 q3 q4=>exact .no
 · unfold upB at h1
   exfalso
   by_cases hi:i < m
   · rw[Wc (by simpa using hi),Es] at h1
     split at h1<;>cases h1<;>cases o1
   · rw[Wt (by simpa using hi),Ws] at h1
     obtain⟨k,_,h1⟩:=Qt.mp h1
     split at h1<;>cases h1<;>cases o1
theorem zXX (m:Nat)(js:List Nat)(ρ:List B):NoOw (upB m js ρ):=by
 refine⟨?_,?_,?_⟩
 all_goals
   intro i es h1
   unfold upB at h1
   by_cases hi:i < m
   · rw[Wc (by simpa using hi),Es] at h1
     split at h1<;>cases h1
   · rw[Wt (by simpa using hi),Ws] at h1
     obtain⟨k,_,h1⟩:=Qt.mp h1
     split at h1<;>cases h1
theorem Good.wrX {K:PySem.W.Frag}{G0 H0 G H:Hp}{σ:St}{ρ:List B}{p:Addr}{o:HO}(g:Good K G0 H0 G H σ ρ)(n:NoOw ρ)(gp:G p=none)(h0:H0 p=none):Good K G0 H0 G (upd H p o) σ ρ:=by
 refine⟨⟨fun b u e=>?_,g.st.gg,fun b u e=>?_,g.st.new⟩,?_,g.apart⟩
 · rw[zP (zB e h0)];exact g.st.hh b u e
 · rw[zP (zB e gp)];exact g.st.sub b u e
 · have key:∀(l:List (Option V)) (r:List B),Paired (RB K H0 G H) l r->NoOw r->Paired (RB K H0 G (upd H p o)) l r:=by
     intro l r q
     induction q with
     | nil=>intro _;exact .nil
     | @cons x b l' r' q t ih =>
       intro n
       refine .cons ?_ (ih ⟨fun j es e=>n.1 (j+1) es (by simpa using e),fun j es e=>n.2.1 (j+1) es (by simpa using e),fun j es e=>n.2.2 (j+1) es (by simpa using e)⟩)
       cases q with
       | no=>exact .no
       | fz r=>exact .fz r
       | ow _ _ _ _=>exact absurd rfl (n.1 0 _)
       | od _ _ _ _ _ _=>exact absurd rfl (n.2.1 0 _)
       | mu _ _ _ _=>exact absurd rfl (n.2.2 0 _)
   exact key σ ρ g.vals n
theorem zX9 {K:PySem.W.Frag}{m:Nat}{js:List Nat}{gt:Gf}{t:Tf}{el:Ef}(hgo:zXq gt){σ:St}{H:Hp}{Q:VK}(h:tFr K (yC gi m js gt t el) σ H Q):zVT (tFI K gi) m js (tFG K gt) (tFT K t) (tF K el) σ H Q:=by
 obtain⟨G0,H0,G,ρ,out,good,hf,k⟩:=h
 unfold yC at hf
 obtain⟨ds,h1,hf⟩:=Qq.mp hf
 obtain⟨ds',h1,h1'⟩:=Qq.mp h1
 obtain⟨rfl,hlen⟩:=qK h1'
 refine⟨G0,H0,G,ρ,_,good,h1,fun J H1 G1 s1 y D hD=>?_⟩
 have good1:=(good.step s1).up m js
 have hGD:G1 D=none:=s1.sub.free hD
 refine⟨fun i n σ2 H2=>n=ds.length - i/\i<=ds.length/\∃G2 ρ2 acc us,Same G1 G2/\G2 D=none/\H2 D=some (.lst us)/\Reps K G2 acc us/\acc.length<=i/\NoOw ρ2/\Good K G1 H1 G2 H2 σ2 ρ2/\tO gt t el (ds.drop i) ρ2 acc=some out,
   ⟨ds.length,by simp,Ee _,G1,upB m js ρ,[],[],Same.refl _,hGD,zO,zK.mpr rfl,Qp _,zXX _ _ _,good1.step (Step.own s1.sub hD),by simpa using hf⟩,?_⟩
 rintro i n σ2 H2 ⟨rfl,hi,G2,ρ2,acc,us,sg,gD,hD2,rs,hal,now,good2,hf2⟩
 obtain⟨y1,y2⟩:=y i G2 H2 sg good2.sub
 by_cases hlt:i < ds.length
 · obtain⟨go,yl⟩:=y1 ds[i] (Wo hlt)
   rw[Ey hlt] at hf2
   unfold tO at hf2
   obtain⟨ρ3,e1,hf2⟩:=Qq.mp hf2
   obtain⟨c,e2,hf2⟩:=Qq.mp hf2
   have now3:=hgo _ _ _ e1 now
   refine .inr ⟨go,fun x H3 yx=>?_⟩
   obtain⟨G3,s3,r3⟩:=yl x H3 yx
   refine⟨G1,H1,G3,ρ2,_,ρ3,good2.step s3,r3,e1,fun σ4 H4 G4 s4 good4=>?_⟩
   refine⟨G1,H1,G4,ρ3,c,good4,e2,fun H5 G5 s5=>?_⟩
   have s35:=(s3.trans s4).trans s5
   have hne:H2 D≠none:=by rw[hD2];exact fun z=>nomatch z
   split at hf2
   · rename_i hc
     show if c=true then _ else _
     rw[Qi hc]
     obtain⟨yd,e3,hf2⟩:=Qq.mp hf2
     refine⟨G1,H1,G5,ρ3,yd,good4.step s5,e3,fun v H6 G6 s6 r6=>?_⟩
     have s36:=s35.trans s6
     have hD6:H6 D=some (.lst us):=s36.hh _ _ hD2
     have gD6:G6 D=none:=(s36.new D _ hD2 rfl).trans gD
     refine⟨us,ds.length - (i+1),hD6,?_,by lia,rfl,hlt,G6,ρ3,acc++[yd],us++[v],sg.trans s36.gg,gD6,zO,(rs.mono s36.gg).snoc r6,by rw[Qr,Ui];lia,now3,((good4.step s5).step s6).wrX now3 gD6 hD,hf2⟩
     rw[←rs.length]
     exact wV (Wu hal (Wu hi hlen))
   · rename_i hc
     show if c=true then _ else _
     rw[Qa hc]
     exact⟨ds.length - (i+1),by lia,rfl,hlt,G5,ρ3,acc,us,sg.trans s35.gg,(s35.new D _ hD2 rfl).trans gD,s35.hh _ _ hD2,rs.mono s35.gg,by lia,now3,good4.step s5,hf2⟩
 · have e:i=ds.length:=by lia
   subst e
   rw[Oi] at hf2
   cases hf2
   exact .inl ⟨y2 (Qp _),k D us H2 G2 (s1.trans good2.st) (s1.hh.free hD) hD2 gD rs⟩
def tOK:Tf:=fun _=>some true
def zYb (X:Cx)(ifs:List Expr)(t:Tf):Prop:=zWt X ifs (tFT X.K t)
theorem wL {X:Cx}:zYb X [] tOK:=fun pins s σ H Q I h=>zUc pins s σ H Q I (by
 obtain⟨G0,H0,G,ρ,b,good,hf,k⟩:=h
 cases hf
 exact k H G (.refl good.sub))
theorem kZ {X:Cx}{c:Expr}{t:Tf}(h:PFT X c t):zYb X [c] t:=zTQ h
theorem rW (sc:Scope)(N tgs frees:List Str)(js:List Nat){scope:Scope}{gt:Gf}{t:Tf}{el:Ef}(hgo:zXq gt)(hp:PFI X tg iter gi)(hc:X.calm=true)(hsc:X.env.scope=sc)(hNN:X.N=N)(hok:pK sc scope N tgs frees js=true)
   (hg:∀C s₀ H₀ fp,PFG (xD X (tgs++frees) scope C s₀ H₀ fp) tg gt) (hi:∀C s₀ H₀ fp,zYb (xD X (tgs++frees) scope C s₀ H₀ fp) ifs t) (he:∀C s₀ H₀ fp,PF (xD X (tgs++frees) scope C s₀ H₀ fp) elt el)
   (hs:∀x,foldedSetIterable iter X.env x=pure x:=by intro _;rfl) :
   PFr X (.ListComp elt [⟨tg,iter,ifs,0⟩] scope pos) (yC gi tgs.length js gt t el) :=
 PE.toR (zV7 (g:=tFG X.K gt) (tc:=tFT X.K t) (te:=tF X.K el) sc tgs frees js hp hc hsc (by rw[hNN];exact hok) hg hi he hs) fun σ H Q h=>zX9 hgo h
theorem mZ (sc:Scope)(N tgs frees:List Str)(js:List Nat){scope:Scope}{gt:Gf}{t:Tf}{el:Ef}(hgo:zXq gt)(i:Nat){x:Str}{pos' spos:Pos}(hN:X.N.Nodup)(hx:X.N[i]?=some x)(hl:X.env.scope.names.lookup x=some .local)(hp:PFI X tg iter gi)(hc:X.calm=true)(hsc:X.env.scope=sc)(hNN:X.N=N)(hok:pK sc scope N tgs frees js=true)
   (hg:∀C s₀ H₀ fp,PFG (xD X (tgs++frees) scope C s₀ H₀ fp) tg gt) (hi:∀C s₀ H₀ fp,zYb (xD X (tgs++frees) scope C s₀ H₀ fp) ifs t) (he:∀C s₀ H₀ fp,PF (xD X (tgs++frees) scope C s₀ H₀ fp) elt el)
   (hsw:swapsWith (.ListComp elt [⟨tg,iter,ifs,0⟩] scope pos) (some (.Name x pos')) spos.line X.env=pure true:=by with_unfolding_all rfl) (hs:∀x,foldedSetIterable iter X.env x=pure x:=by intro _;rfl) :
   PFS X (.Assign [.Name x pos'] (.ListComp elt [⟨tg,iter,ifs,0⟩] scope pos) spos) (kB i (yC gi tgs.length js gt t el)) :=
 PS.to (zW5 (g:=tFG X.K gt) (tc:=tFT X.K t) (te:=tF X.K el) sc tgs frees js hN hx hl hp hc hsc (by rw[hNN];exact hok) hg hi he hsw hs) fun D σ H h=>zYq (fun _ _ _ q=>zX9 hgo q) h
end
section
variable {X:Cx} {a c:Expr} {fa:Ef} {pos:Pos} {f:Sf}
def zUV (i:Nat)(f:Ef):Sf:=fun ρ=>(f ρ).bind fun d=>match ρ[i]? with | some (.ow ds)=>if ds.length < lim then some (.nx (ρ.set i (.ow (ds++[d])))) else none | _=>none
theorem zQK (i:Nat)(ht:PE X c (tBM X.K "list" zVY (zSO i) (zVO (tF X.K fa) zSV)))(hs:swapsWith c none pos.line X.env=pure false:=by rfl):PFS X (.Expr c pos) (zUV i fa):=by
 refine PS.to (nL ht hs) ?_
 rintro D σ H ⟨G0,H0,G,ρ,o,good,hf,k⟩
 unfold zUV at hf
 obtain⟨d,h1,hf⟩:=Qq.mp hf
 split at hf
 · rename_i ds hi
   split at hf
   · rename_i hl
     cases hf
     obtain⟨p,vs,e1,e2,e3,e4,e5⟩:=good.addr hi
     refine⟨.ref p,e1,.inl ⟨rfl,vs,.of e2⟩,G0,H0,G,ρ,d,good,h1,fun v H1 G1 s1 r1=>?_⟩
     have good1:=good.step s1
     obtain⟨p',vs',f1,f2,f3,f4,f5⟩:=good1.addr hi
     rw[e1] at f1;cases f1
     exact⟨p,vs',v,rfl,rfl,f2,by rw[←f5.length];exact wV (Wx hl),k σ _ G1 s1.gg (good1.wr hi e1 (f5.snoc r1))⟩
   · cases hf
 · cases hf
def zOI:D->Option D
 | .tup ds=>some (.int ds.length)
 | .lst ds=>some (.int ds.length)
 | .str z=>if z.length<=lim then some (.int z.length) else none
 | _=>none
def vH (f:Ef):Ef:=fun ρ=>(f ρ).bind zOI
theorem sJ {p:Pos}(hg:Gl X "len")(hm:X.mg "len"=none)(h:PF X a fa)(hs:starEach [a] X.env=[(false,eval a X.env)]:=by rfl):PF X (.Call (.Name "len" p) [a] [] pos) (vH fa):=by
 refine PE.to (sX (iH.or zZw) hg hm On (yK h wI (by rw[hs];rfl)) (by decide) (by decide) (by rw[hs];rfl) (by rfl)) ?_
 rintro σ H Q ⟨G0,H0,G,ρ,d,good,hf,k⟩
 unfold vH at hf
 obtain⟨x,h1,hf⟩:=Qq.mp hf
 refine⟨G0,H0,G,ρ,_,good,h1,fun v H1 G1 s1 r1=>?_⟩
 unfold zOI at hf
 split at hf
 · cases hf
   obtain⟨p,vs,rfl,q,rs⟩:=xS.mp r1
   exact .inl ⟨p,vs,rfl,.inr (s1.sub.tup q),k _ _ G1 s1 (zJ.mpr (by rw[rs.length]))⟩
 · cases hf
   obtain⟨p,vs,rfl,q,rs⟩:=xW.mp r1
   exact .inl ⟨p,vs,rfl,.inl (s1.sub.seq q),k _ _ G1 s1 (zJ.mpr (by rw[rs.length]))⟩
 · split at hf
   · rename_i hz
     cases hf
     exact .inr ⟨_,by rw[xR.mp r1],Wx (wV hz),k _ _ G1 s1 (zJ.mpr rfl)⟩
   · cases hf
 · cases hf
def zUh (i:Nat):Ef:=fun ρ=>match ρ[i]? with | some (.ow ds)=>some (.int ds.length) | _=>none
theorem zSq (i:Nat){x:Str}{p p1:Pos}(hg:Gl X "len")(hm:X.mg "len"=none)(hN:X.N[i]?=some x:=by rfl)(hv:Vis X.env.scope x:=by first | exact Or.inl rfl | exact Or.inr (Or.inl rfl) | exact Or.inr (Or.inr rfl))(hd:(x==("__debug__":Str))=false:=by decide)(hcd:(x==("__classdict__":Str))=false:=by decide):PF X (.Call (.Name "len" p) [.Name x p1] [] pos) (zUh i):=by
 refine PE.to (sX iH hg hm On (yK (rZ hN hv hd hcd) wI)) ?_
 rintro σ H Q ⟨G0,H0,G,ρ,d,good,hf,k⟩
 unfold zUh at hf
 split at hf
 · rename_i ds hi
   cases hf
   obtain⟨q,vs,e1,e2,e3,e4,e5⟩:=good.addr hi
   exact⟨.ref q,e1,q,vs,rfl,.inl (.of e2),k _ _ G (.refl good.sub) (zJ.mpr (by rw[e5.length]))⟩
 · cases hf
def zUt:D->Option (List D) | .lst ds=>some ds | .tup ds=>some ds | _=>none
def nH (f:Ef):Lf:=fun ρ=>(f ρ).bind zUt
theorem fS {p:Pos}(hg:Gl X "list")(hm:X.mg "list"=none)(h:PF X a fa)(hs:starEach [a] X.env=[(false,eval a X.env)]:=by rfl):PFr X (.Call (.Name "list" p) [a] [] pos) (nH fa):=by
 refine PE.toR (zVq zZr hg hm (by rfl) (yK h wI (by rw[hs];rfl)) (by decide) (by decide) (by rw[hs];rfl) (by rfl)) ?_
 rintro σ H Q ⟨G0,H0,G,ρ,d,good,hf,k⟩
 unfold nH at hf
 obtain⟨x,h1,hf⟩:=Qq.mp hf
 refine⟨G0,H0,G,ρ,_,good,h1,fun v H1 G1 s1 r1=>?_⟩
 unfold zUt at hf
 split at hf
 · cases hf
   obtain⟨p,vs,rfl,q,rs⟩:=xW.mp r1
   exact⟨p,vs,rfl,.inl (s1.sub.seq q),fun l hl=>k l vs _ G1 (s1.trans (Step.own s1.sub hl)) (s1.hh.free hl) zO (s1.sub.free hl) rs⟩
 · cases hf
   obtain⟨p,vs,rfl,q,rs⟩:=xS.mp r1
   exact⟨p,vs,rfl,.inr (s1.sub.tup q),fun l hl=>k l vs _ G1 (s1.trans (Step.own s1.sub hl)) (s1.hh.free hl) zO (s1.sub.free hl) rs⟩
 · cases hf
end
def spF (K:PySem.W.Frag)(n:Nat)(f:List D->Option D):Sp:=fun vs H Q _=>∃G ds d,Same G H/\Reps K G ds vs/\ds.length=n/\f ds=some d/\∀v H' G',Step G H G' H'->Rep K G' d v->Q v H'
def dG (N:Nat)(ds:List D):List B:=ds.map .fz++List.replicate (N - ds.length) .no
def vV:Out->Option D
 | .nx _=>some .non
 | .rt d=>some d
 | .rl ds=>some (.lst ds)
 | _=>none
def fnF (N:Nat)(body:Sf)(ds:List D):Option D:=(body (dG N ds)).bind vV
theorem bL {K:PySem.W.Frag}{G H:Hp}{N:List Str}{ds:List D}{vs:List V}(s:Same G H)(r:Reps K G ds vs):Good K G H G H (start N vs) (dG N.length ds):=by
 refine⟨.refl s,?_,fun i j a b c h1 _ o1 _=>?_⟩
 · unfold start dG
   rw[r.length]
   have rep:∀m:Nat,Paired (RB K H G H) (List.replicate m (none:Option V)) (List.replicate m B.no):=fun m=>by
     induction m with
     | zero=>exact .nil
     | succ n ih=>rw[Rk,Rk];exact .cons .no ih
   have key:∀(ds:List D) (vs:List V) (l:List (Option V)) (q:List B),Reps K G ds vs->Paired (RB K H G H) l q->Paired (RB K H G H) (vs.map some++l) (ds.map .fz++q):=by
     intro ds
     induction ds with
     | nil=>intro vs l q h p;rw[zK] at h;subst h;exact p
     | cons d r ih =>
       intro vs l q h p
       obtain⟨v,vr,rfl,h1,h2⟩:=zQ.mp h
       exact .cons (.fz h1) (ih vr l q h2 p)
   exact key ds vs _ _ r (rep _)
 · unfold dG at h1
   exfalso
   by_cases hi:i < ds.length
   · rw[Wc (by simpa using hi),Ws] at h1
     obtain⟨k,_,h1⟩:=Qt.mp h1
     cases h1;cases o1
   · rw[Wt (by simpa using hi),Es] at h1
     split at h1<;>cases h1<;>cases o1
section
variable {P:Program} {w:World} {K:PySem.W.Frag} {mg:Str->Option Value} {base:Heap} {x qual:Str} {st:Stmt} {f:Addr} {fd:FuncData} {N ps:List Str} {k:Nat}
theorem vD {body:Sf}(F:Fun K x qual st f fd)(S:FnScope N ps (zU st))
   (hb:∀(cdv:Value) (A:Around) (outer:List Env) (s:Shared) (H:Hp) (E:XK),Room k (A.deeper (envOfC qual (zU st) s.heap.objs.size f cdv))->mJ (jT CX0 P w K mg base N qual (zU st) f cdv A outer s H E).nox (xY st) body) :
   FnOk P w K mg base CX0 (k+1) f fd ps (spF K ps.length (fnF N.length body)):=by
 refine F.ok S (fun vs H Q E h=>?_) (fun cdv A outer s H vs Q E hr h=>⟨_,hb cdv A outer s H E hr,?_⟩)
 · obtain⟨G,ds,d,sub,rs,hl,_⟩:=h
   rw[←rs.length];exact hl
 · obtain⟨G,ds,d,sub,rs,hl,hf,k⟩:=h
   unfold fnF at hf
   obtain⟨o,h1,h2⟩:=Qq.mp hf
   refine⟨G,H,G,_,o,bL sub rs,h1,?_⟩
   cases o with
   | nx ρ=>cases h2;exact fun σ' H' G' s' g'=>k .non H' G' g'.st (nQ.mpr rfl)
   | rt e=>cases h2;exact fun v H' G' s' r=>k v H' G' s' r
   | rl es=>cases h2;exact fun p us H' G' s' hn hp gp r=>k _ H' (upd G' p (.lst us)) (s'.frz hn hp gp) (xW.mpr ⟨p,us,rfl,.of zO,r.mono (Same.new gp)⟩)
   | bk ρ=>cases h2
   | ct ρ=>cases h2
theorem iW {CX:CXT}{n:Nat}:FnOk P w K mg base CX k f fd ps (spF K n fun _=>none) :=
 ⟨fun vs H Q E h=>(by obtain⟨_,_,_,_,_,_,z,_⟩:=h;exact nomatch z),fun A outer s H args us vs Q E _ _ _ _ h=>(by obtain⟨_,_,_,_,_,_,z,_⟩:=h;exact nomatch z)⟩
end
section
variable {X:Cx} {a c e:Expr} {es:List Expr} {fa fb:Ef} {ga:Lf} {tc:Tf} {pos p:Pos} {f g:Sf}
def zL (n:Nat)(f:List D->Option D)(g:Lf):Ef:=fun ρ=>(g ρ).bind fun ds=>if ds.length=n then f ds else none
theorem zSr {k n:Nat}{fad:Addr}{fd:FuncData}{ps:List Str}{x:Str}{fD:List D->Option D}(F:FnOk X.prog X.w X.K X.mg X.base CX0 k fad fd ps (spF X.K n fD))(hr:Room k X.A)(hm:X.mg x=some (.ref fad))(hk:PySem.W.keepIn X.K (.ref fad)=true)(hb:Binds X.K fd ps [])(hg:Gl X x)
   (ha:PFA X (e::es) ga) (hdb:(x==("__debug__":Str))=false:=by decide) (he:starEach (e::es) X.env=(false,eval e X.env)::starEach es X.env:=by rfl) (hpl:(backTo pos (starEach es X.env)).any (·.1)=false:=by rfl) :
   PF X (.Call (.Name x p) (e::es) [] pos) (zL n fD ga):=by
 refine PE.to (dO (E:=E0) F hr hg hm hk hb .nil gW ha hdb he hpl) ?_
 rintro σ H Q ⟨G0,H0,G,ρ,d,good,hf,k⟩
 unfold zL at hf
 obtain⟨ds,h1,hf⟩:=Qq.mp hf
 split at hf
 · rename_i hl
   refine⟨G0,H0,G,ρ,_,good,h1,fun vs H1 G1 s1 r1=>?_⟩
   show spF X.K n fD (vs++[]) H1 Q E0
   rw[Ea]
   exact⟨G1,ds,d,s1.sub,r1,hl,hf,fun v H' G' s r=>k v H' G' (s1.trans s) r⟩
 · cases hf
def uI (t:Tf)(body:Sf):Nat->Sf
 | 0,_=>none
 | n+1,ρ=>(t ρ).bind fun c=>if c=true then(body ρ).bind fun o=>match o with
     | .nx ρ2=>uI t body n ρ2
     | .ct ρ2=>uI t body n ρ2
     | .bk ρ2=>some (.nx ρ2)
     | o=>some o
   else some (.nx ρ)
theorem zZX (n:Nat){body:List Stmt}{fb:Sf}(hp:PassesOwn (model X.prog X.w) X.A X.env X.xe)(hc:PFT X c tc)(hb:mJ X body fb):PFS X (.While c body [] pos) (uI tc fb n):=by
 refine PS.to (zYj hp hc hb) ?_
 rintro D σ H ⟨G0,H0,G,ρ,o,good,hf,k⟩
 refine⟨fun m σ H=>∃G2 ρ2,Same G G2/\Good X.K G0 H0 G2 H σ ρ2/\uI tc fb m ρ2=some o,⟨n,G,ρ,Same.refl _,good,hf⟩,?_⟩
 rintro m σ2 H2 ⟨G2,ρ2,sg,good2,hf2⟩
 cases m with
 | zero=>cases hf2
 | succ m =>
   unfold uI at hf2
   obtain⟨c',h1,hf2⟩:=Qq.mp hf2
   refine⟨G0,H0,G2,ρ2,c',good2,h1,fun H3 G3 s3=>?_⟩
   cases c' with
   | true =>
     rw[Qi rfl] at hf2
     obtain⟨o1,e2,hf2⟩:=Qq.mp hf2
     refine⟨fun σ' H'=>∃G2 ρ2,Same G G2/\Good X.K G0 H0 G2 H' σ' ρ2/\uI tc fb m ρ2=some o,fun σ' H' h=>⟨m,Ym _,h⟩,?_⟩
     refine⟨G0,H0,G3,ρ2,o1,good2.step s3,e2,?_⟩
     have sg3:Same G G3:=sg.trans s3.gg
     cases o1 with
     | nx ρ5=>exact fun σ5 H5 G5 s5 good5=>⟨G5,ρ5,sg3.trans s5,good5,hf2⟩
     | ct ρ5=>exact fun σ5 H5 G5 s5 good5=>⟨G5,ρ5,sg3.trans s5,good5,hf2⟩
     | bk ρ5=>cases hf2;exact fun σ5 H5 G5 s5 good5=>k σ5 H5 G5 (sg3.trans s5) good5
     | rt d=>cases hf2;exact k
     | rl d=>cases hf2;exact k
   | false =>
     rw[Qa (by decide)] at hf2
     cases hf2
     exact k σ2 H3 G3 (sg.trans s3.gg) (good2.step s3)
def tyD:D->Option String
 | .non=>some "NoneType"
 | .bl _=>some "bool"
 | .int _=>some "int"
 | .str _=>some "str"
 | .tup _=>some "tuple"
 | .lst _=>some "list"
 | _=>none
theorem zP8 {pins:List (Addr×Obj)}{σ:St}{H G:Hp}{s:Shared}{A:Around}{E:Value->Shared->Prop}{Q:Value->Shared->Prop}{d:D}{v:V}{u cl:Value}{t:String}{k:Bool}(I:Inv X pins σ H s)(rv:RelV v u)(sub:Same G H)(r:Rep X.K G d v)(ht:tyD d=some t)
   (e:PySem.W.kitOne X.K (.type t) cl=some k) (h:∀tk,Q (.bool k) { s with toks:=tk }):wpAny (model X.prog X.w) A (call (.builtin "isinstance") [u,cl]) Q E s:=by
 cases d with
 | non=>cases ht;rw[nQ] at r;subst r;cases rv;exact Th PySem.W.kitx_none I.kIn True.intro e (fun z=>nomatch z) h
 | bl y=>cases ht;rw[tK] at r;subst r;cases rv;exact Th PySem.W.kitx_bool I.kIn True.intro e (fun z=>nomatch z) h
 | int i=>cases ht;rw[zJ] at r;subst r;obtain⟨t,rfl⟩:=rv;exact Th PySem.W.kitx_int I.kIn True.intro e (fun z=>nomatch z) h
 | str i=>cases ht;rw[xR] at r;subst r;obtain⟨t,rfl⟩:=rv;exact Th PySem.W.kitx_str I.kIn True.intro e (fun z=>nomatch z) h
 | tup ds =>
   cases ht
   obtain⟨p,vs,rfl,q,_⟩:=xS.mp r
   cases rv
   obtain⟨its,_,⟨o,h1,h2,_⟩,_⟩:=I.tuple (sub.tup q)
   exact Th PySem.W.kitx_tuple I.kIn ⟨o,h1,h2⟩ e (fun z=>nomatch z) h
 | lst ds =>
   cases ht
   obtain⟨p,vs,rfl,q,_⟩:=xW.mp r
   cases rv
   obtain⟨its,_,⟨o,n,h1,h2,_⟩,_⟩:=I.list (sub.seq q)
   exact Th PySem.W.kitx_list I.kIn ⟨o,h1,h2⟩ e (fun z=>nomatch z) h
 | obj C ns ds=>cases ht
 | exc C ns ds=>cases ht
 | dct ks ds=>cases ht
theorem zRD (K:PySem.W.Frag):∀t:String,t∈["NoneType","bool","int","str","tuple","list"]->PySem.W.kitOne K (.type t) (.type "int")=some (decide (t="bool"∨t="int")):=by
 intro t ht
 simp only[Qd,Ri,Uj] at ht
 rcases ht with rfl | rfl | rfl | rfl | rfl | rfl<;>kernel_rfl
theorem zSZ (K:PySem.W.Frag):∀t:String,t∈["NoneType","bool","int","str","tuple","list"]->PySem.W.kitOne K (.type t) (.type "bool")=some (decide (t="bool")):=by
 intro t ht
 simp only[Qd,Ri,Uj] at ht
 rcases ht with rfl | rfl | rfl | rfl | rfl | rfl<;>kernel_rfl
theorem zRA (K:PySem.W.Frag):∀t:String,t∈["NoneType","bool","int","str","tuple","list"]->PySem.W.kitOne K (.type t) (.type "str")=some (decide (t="str")):=by
 intro t ht
 simp only[Qd,Ri,Uj] at ht
 rcases ht with rfl | rfl | rfl | rfl | rfl | rfl<;>kernel_rfl
theorem zVg (K:PySem.W.Frag):∀t:String,t∈["NoneType","bool","int","str","tuple","list"]->PySem.W.kitOne K (.type t) (.type "tuple")=some (decide (t="tuple")):=by
 intro t ht
 simp only[Qd,Ri,Uj] at ht
 rcases ht with rfl | rfl | rfl | rfl | rfl | rfl<;>kernel_rfl
theorem zSI (K:PySem.W.Frag):∀t:String,t∈["NoneType","bool","int","str","tuple","list"]->PySem.W.kitOne K (.type t) (.type "list")=some (decide (t="list")):=by
 intro t ht
 simp only[Qd,Ri,Uj] at ht
 rcases ht with rfl | rfl | rfl | rfl | rfl | rfl<;>kernel_rfl
theorem hZ {d:D}{t:String}(h:tyD d=some t):t∈["NoneType","bool","int","str","tuple","list"]:=by
 cases d<;>cases h<;>simp
def zYw (p:D->Bool)(f:Ef):Ef:=fun ρ=>(f ρ).bind fun d=>match d with | .obj _ _ _=>none | .exc _ _ _=>none | .dct _ _=>none | d=>some (.bl (p d))
def isInt:D->Bool | .int _=>true | .bl _=>true | _=>false
def jY:D->Bool | .bl _=>true | _=>false
def cP:D->Bool | .str _=>true | _=>false
def cM:D->Bool | .tup _=>true | _=>false
def eG:D->Bool | .lst _=>true | _=>false
theorem cD {T:Str}{TT:String}{q:D->Bool}{p1:Pos}(hT:bootBuiltins T=some (.type TT))(hq:∀(K:PySem.W.Frag) d t,tyD d=some t->PySem.W.kitOne K (.type t) (.type TT)=some (q d))(hg:Gl X "isinstance")(hm:X.mg "isinstance"=none)(hgT:Gl X T)(hmT:X.mg T=none)(h:PF X a fa)
   (hn:T≠"__name__":=by decide) (hd:(T==("__debug__":Str))=false:=by decide) (hs:starEach [a,.Name T p1] X.env=[(false,eval a X.env),(false,eval (.Name T p1) X.env)]:=by rfl):PF X (.Call (.Name "isinstance" p) [a,.Name T p1] [] pos) (zYw q fa):=by
 have hcall:CallR X (.builtin "isinstance") (fun xs H Q=>∃x G d,xs=[x,.ty TT]/\Same G H/\Rep X.K G d x/\(tyD d).isSome=true/\Q (.bl (q d)) H):=by
   intro pins s σ H xs us Q I r hh
   obtain⟨x,G,d,rfl,sub,rx,ht,qq⟩:=hh
   obtain⟨u,u',rfl,ru,ru'⟩:=zV5 r
   cases ru'
   obtain⟨t,ht⟩:=Rf.mp ht
   exact zP8 I ru sub rx ht (hq _ d t ht) fun tk=>⟨.bl (q d),H,I.tok tk,rfl,qq⟩
 refine PE.to (sX hcall hg hm (by rfl) (yK h (yK (zRN (v:=.ty TT) hgT hmT hT rfl hn hd) wI) (by rw[hs];rfl)) (by decide) (by decide) (by rw[hs];rfl) (by rfl)) ?_
 rintro σ H Q ⟨G0,H0,G,ρ,d,good,hf,k⟩
 unfold zYw at hf
 obtain⟨x,h1,hf⟩:=Qq.mp hf
 refine⟨G0,H0,G,ρ,_,good,h1,fun v H1 G1 s1 r1=>?_⟩
 have hx:(tyD x).isSome=true/\d = .bl (q x):=by
   cases x<;>first
     | (cases hf;exact⟨rfl,rfl⟩)
     | cases hf
 obtain⟨hx,rfl⟩:=hx
 exact⟨v,G1,x,rfl,s1.sub,r1,hx,k _ _ G1 s1 (tK.mpr rfl)⟩
theorem zPW (K:PySem.W.Frag)(d:D)(t:String)(h:tyD d=some t):PySem.W.kitOne K (.type t) (.type "int")=some (isInt d):=by
 rw[zRD K t (hZ h)];cases d<;>cases h<;>simp[isInt,jY,cP,cM,eG]
theorem zRR (K:PySem.W.Frag)(d:D)(t:String)(h:tyD d=some t):PySem.W.kitOne K (.type t) (.type "bool")=some (jY d):=by
 rw[zSZ K t (hZ h)];cases d<;>cases h<;>simp[isInt,jY,cP,cM,eG]
theorem zQu (K:PySem.W.Frag)(d:D)(t:String)(h:tyD d=some t):PySem.W.kitOne K (.type t) (.type "str")=some (cP d):=by
 rw[zRA K t (hZ h)];cases d<;>cases h<;>simp[isInt,jY,cP,cM,eG]
theorem zQy (K:PySem.W.Frag)(d:D)(t:String)(h:tyD d=some t):PySem.W.kitOne K (.type t) (.type "tuple")=some (cM d):=by
 rw[zVg K t (hZ h)];cases d<;>cases h<;>simp[isInt,jY,cP,cM,eG]
theorem zQx (K:PySem.W.Frag)(d:D)(t:String)(h:tyD d=some t):PySem.W.kitOne K (.type t) (.type "list")=some (eG d):=by
 rw[zSI K t (hZ h)];cases d<;>cases h<;>simp[isInt,jY,cP,cM,eG]
end
theorem Inv.turnedNew {X:Cx}{pins:List (Addr×Obj)}{σ:St}{H:Hp}{s:Shared}{h':Heap}{t':Nat}{fp:List Addr}{T:Addr}{o:HO}(I:Inv X pins σ H s)(k:∀b u,b∉fp->s.heap.get? b=some u->h'.get? b=some u)
   (hf:∀b∈fp,jU X pins H b) (hT:s.heap.objs.size<=T) (new:ObjOk X.prog X.w (upd H T o) h' T o):Inv X pins σ (upd H T o) { s with heap:=h',toks:=t' }:=by
 have fr:H T=none:=I.hok.fresh hT
 have neT:∀b u,s.heap.get? b=some u->b≠T:=fun b u e=>Wh (Wy (Qg e) hT)
 have nfp:∀b u,H b=some u->b∉fp:=fun b u e z=>by have:=(hf b z).1;rw[e] at this;cases this
 refine I.step (g':=s.gens) (d':=s.drawn) (ch:=fp) (fun b hb=>⟨(hf b hb).2.2.2.1,(hf b hb).2.1,(hf b hb).2.2.2.2.1,(hf b hb).2.2.2.2.2⟩) (fun b u _ _ hc e _=>k b u hc e)
   (fun b u _ _ hc e _=>⟨u.slots,k b u hc e⟩) (fun b u _ e n=>by rw[zP (neT b u e)];exact n) (fun b u hc e=>⟨u,k b u hc e⟩)
   (fun b xs e=>by rw[zP (zB e fr)];exact e) (fun b u x e=>by rw[zP (zB e fr)];exact e) (fun b ps e=>⟨#[],by rw[zP (zB e fr),e];simp⟩) (fun m hm=>?_) (fun b u e=>?_) I.bare
 · obtain⟨ob,es,ep,ho,r⟩:=hm
   exact⟨ob,es,ep,k _ ob (fun z=>(hf _ z).2.1 rfl) ho,r⟩
 · by_cases hb:b=T
   · subst hb;rw[zO] at e;cases e;exact new
   · rw[zP hb] at e
     refine(I.hok b u e).stay (fun c v hc q=>k c v ?_ q) (fun c q=>by rw[zP (zB q fr)];exact q) fun c xs q=>by rw[zP (zB q fr)];exact q
     rcases hc with z | z
     · rw[z];exact nfp b u e
     · exact nfp c _ z
theorem Inv.turnedL {X:Cx}{pins:List (Addr×Obj)}{σ:St}{H:Hp}{s:Shared}{h':Heap}{t':Nat}{fp:List Addr}(I:Inv X pins σ H s)(k:∀b u,b∉fp->s.heap.get? b=some u->h'.get? b=some u)
   (hf:∀b∈fp,jU X pins H b):Inv X pins σ H { s with heap:=h',toks:=t' }:=by
 have nfp:∀b u,H b=some u->b∉fp:=fun b u e z=>by have:=(hf b z).1;rw[e] at this;cases this
 refine I.step (g':=s.gens) (d':=s.drawn) (ch:=fp) (fun b hb=>⟨(hf b hb).2.2.2.1,(hf b hb).2.1,(hf b hb).2.2.2.2.1,(hf b hb).2.2.2.2.2⟩) (fun b u _ _ hc e _=>k b u hc e)
   (fun b u _ _ hc e _=>⟨u.slots,k b u hc e⟩) (fun b u _ e n=>n) (fun b u hc e=>⟨u,k b u hc e⟩) (fun b xs e=>e) (fun b u x e=>e) (fun b ps e=>⟨#[],by rw[e];simp⟩) (fun m hm=>?_) (fun b u e=>?_) I.bare
 · obtain⟨ob,es,ep,ho,r⟩:=hm
   exact⟨ob,es,ep,k _ ob (fun z=>(hf _ z).2.1 rfl) ho,r⟩
 · refine(I.hok b u e).stay (fun c v hc q=>k c v ?_ q) (fun c q=>q) fun c xs q=>q
   rcases hc with z | z
   · rw[z];exact nfp b u e
   · exact nfp c _ z
def Ite (K:PySem.W.Frag)(a:Addr):It :=
 ⟨fun i H=>∃xs x,SqL K H a xs/\xs[i]?=some x,fun i H x H'=>∃p v,H p=none/\x = .ref p/\H'=upd H p (.tup [.int (i:Nat),v])/\∀xs,SqL K H a xs->xs[i]?=some v,fun i H=>∃xs,SqL K H a xs/\xs.length<=i⟩
theorem zVa {P:Program}{w:World}{K:PySem.W.Frag}{elts:List Expr}{k:Nat}{pos:Pos}(a e it:Addr)(hei:e≠it):Turn P w K (.Tuple elts k pos) (Ite K a) [e,it] e (fun i h=>(∃old,IsEnum h e it (i:Nat) old)/\h.IsListIter it a i) where
 mem:=by simp
 obj:=fun i h st b hb=>by
   obtain⟨⟨old,he⟩,o,h1,h2,h3⟩:=st
   rcases Qd.mp hb with z | z
   · subst z;exact⟨_,he,fun v q=>nomatch q⟩
   · rcases Qd.mp z with z | z
     · subst z;exact⟨o,h1,fun v q=>by rw[h3] at q;cases q⟩
     · cases z
 keep:=fun i h h' st kk=>by
   obtain⟨⟨old,he⟩,hl⟩:=st
   exact⟨⟨old,kk e (by simp) _ he⟩,hl.at fun o q=>kk it (by simp) o q⟩
 item:=by
   intro X hP hw hK hc i pins s σ H E I hf st hg
   subst hP hw hK
   obtain⟨xs,x,hq,hx⟩:=hg
   obtain⟨its,rv,p,hz⟩:=I.list hq
   obtain⟨u,hu,ru⟩:=rv.get hx
   obtain⟨⟨old,he⟩,hit⟩:=st
   refine wpAny_pyNext_enum_item he hit p.isList (x:=u) (by simpa using hu) hei fun h1 ho hit1 hT hsz hk=>?_
   have I1:Inv X pins σ (upd H s.heap.objs.size (.tup [.int (i:Nat),x])) { s with heap:=h1,toks:=s.toks+1 }:=I.turnedNew (fun b o hb e=>hk b o (fun z=>hb (by simp[z])) (fun z=>hb (by simp[z])) e) hf (Qp _)
     ⟨by show 2<=sizeLine;exact Wx (wV (by decide)),[.int (i:Nat) s.toks,u],.cons ⟨_,rfl⟩ (.cons ru .nil),⟨_,hT,rfl,_,rfl⟩⟩
   refine⟨_,rfl,wpAny_letOwnedTupleGo_enum ho fun h2 he2 hs2=>?_⟩
   have hs2:Heap.SameBut e h1 h2:=hs2
   have neT:∀b∈[e,it],b≠s.heap.objs.size:=fun b hb z=>by
     obtain⟨o,h1,h2,h3⟩:=hit
     rcases Qd.mp hb with q | q
     · exact absurd (Qg he) (by rw[←q,z];exact Wv _)
     · rcases Qd.mp q with q | q
       · exact absurd (Qg h1) (by rw[←q,z];exact Wv _)
       · cases q
   have hf1:∀b∈[e,it],jU X pins (upd H s.heap.objs.size (.tup [.int (i:Nat),x])) b:=fun b hb=>⟨by rw[zP (neT b hb)];exact(hf b hb).1,(hf b hb).2⟩
   have I2:=I1.turnedL (h':=h2) (t':=s.toks+1) (fp:=[e,it]) (fun b o hb q=>(hs2.2 b (fun z=>hb (by simp[z]))).trans q) hf1
   refine⟨.ref s.heap.objs.size,_,I2,rfl,⟨s.heap.objs.size,x,I.fresh,rfl,rfl,fun ys hy=>by rw[I.list_inj hy hq];exact hx⟩,⟨⟨_,by simpa using he2⟩,hit1.at fun o q=>(hs2.2 it hei.symm).trans q⟩,fun b hb=>(hf1 b hb).1⟩
 done:=by
   intro X hP hw hK hc i pins s σ H E I hf st hg
   subst hP hw hK
   obtain⟨xs,hq,hx⟩:=hg
   obtain⟨its,rv,p,hz⟩:=I.list hq
   obtain⟨⟨old,he⟩,hit⟩:=st
   have hl:=rv.length
   exact wpAny_pyNext_enum_end (I.ok.hd hc) he hit p.isList (by simp;lia) fun h' eb=>⟨rfl,I.turnedL (t':=s.toks) (fp:=[e,it]) (fun b o hb q=>eb b o (fun z=>hb (by simp[z])) q) hf⟩
 self:=fun _ _ _ _ _ st h=>wpAny_pyIter_enum st.1.choose_spec h
theorem zXB {K:PySem.W.Frag}{G:Hp}{a:Addr}{vs:List V}{ds:List D}(h:SqL K G a vs)(r:Reps K G ds vs):cB K (Ite K a) G (ds.zipIdx.map fun q=>D.tup [.int (q.2:Nat),q.1]):=by
 intro i G2 H2 s1 s2
 have q:SqL K H2 a vs:=(s1.trans s2).seq h
 refine⟨fun d hd=>?_,fun hi=>⟨vs,q,by rw[←r.length];simpa using hi⟩⟩
 rw[Ws,List.getElem?_zipIdx] at hd
 obtain⟨⟨d0,j⟩,hd2,hd3⟩:=Qt.mp hd
 obtain⟨d1,hd1,e⟩:=Qt.mp hd2
 cases e
 subst hd3
 obtain⟨v,e,rv⟩:=r.get hd1
 refine⟨⟨vs,v,q,e⟩,fun x H3 y=>?_⟩
 obtain⟨p,u,hp,rfl,rfl,y⟩:=y
 have e2:=y vs q
 rw[e] at e2;cases e2
 have s3:=Step.laid (o:=.tup [.int (i:Nat),v]) s2 hp
 refine⟨_,s3,xS.mpr ⟨p,_,rfl,.of zO,zQ.mpr ⟨_,_,rfl,zJ.mpr (by simp),zQ.mpr ⟨_,_,rfl,(rv.mono s1).mono s3.gg,zK.mpr rfl⟩⟩⟩⟩
section
variable {X:Cx} {a b e:Expr} {es:List Expr} {fa:Ef} {ga gb:Lf} {pos p:Pos}
def bY (ds:List D):List D:=ds.zipIdx.map fun q=>D.tup [.int (q.2:Nat),q.1]
def zWp (g:Lf):Lf:=fun ρ=>(g ρ).map bY
def zQp (K:PySem.W.Frag)(f:Lf):TE:=fun σ H Q=>∃G0 H0 G ρ ds,Good K G0 H0 G H σ ρ/\f ρ=some ds/\∀a vs H' G',Step G H G' H'->SqL K G' a vs->Reps K G' ds vs->Q (.ref a) H'
def zYd (X:Cx)(e:Expr)(f:Lf):Prop:=PE X e (zQp X.K f)
theorem zZ4 (h:PFr X e ga):zYd X e ga:=fun pins s σ H Q I q=>h pins s σ H Q I (by
 obtain⟨G0,H0,G,ρ,ds,good,hf,k⟩:=q
 exact⟨G0,H0,G,ρ,ds,good,hf,fun p vs H' G' s hn hp gp rs=>k p vs H' (upd G' p (.lst vs)) (s.frz hn hp gp) (.of zO) (rs.mono (Same.new gp))⟩)
theorem iI (h:PF X e fa):zYd X e (iL fa):=fun pins s σ H Q I q=>h pins s σ H Q I (by
 obtain⟨G0,H0,G,ρ,ds,good,hf,k⟩:=q
 unfold iL at hf
 obtain⟨d,h1,hf⟩:=Qq.mp hf
 cases d with
 | lst es =>
   cases hf
   refine⟨G0,H0,G,ρ,_,good,h1,fun x H1 G1 s1 r1=>?_⟩
   obtain⟨p,vs,rfl,q,rs⟩:=xW.mp r1
   exact k p vs H1 G1 s1 q rs
 | _=>cases hf)
theorem zRz {elts:List Expr}{k:Nat}{pos':Pos}(hg:Gl X "enumerate")(hm:X.mg "enumerate"=none)(h:zYd X a ga)(hs:starEach [a] X.env=[(false,eval a X.env)]:=by rfl):PFI X (.Tuple elts k pos') (.Call (.Name "enumerate" p) [a] [] pos) (zWp ga):=by
 intro pins s σ H R I q
 obtain⟨G0,H0,G,ρ,ds,good,hf,kk⟩:=q
 unfold zWp at hf
 obtain⟨es,h1,rfl⟩:=Qt.mp hf
 have h2:=yK h wI (by rw[hs];rfl) pos pins s σ H (fun vs H'=>∃a us G',vs=[.ref a]/\Step G H G' H'/\SqL X.K G' a us/\Reps X.K G' es us) I ⟨G0,H0,G,ρ,es,good,h1,fun a us H' G' s' hq rs=>⟨a,us,G',rfl,s',hq,rs⟩⟩
 refine Call_ (mQ I hg hm (by rfl) (Rm (thn h2 fun us s1 ⟨vs,H1,I1,r1,l,ws,G1,e1,st1,hq,rs⟩=>?_) hs rfl))
 subst e1
 obtain⟨u,rfl,ru⟩:=eU r1
 cases ru
 obtain⟨its,rv,pl,hz⟩:=I1.list (st1.sub.seq hq)
 refine call_enumerate_list pl.isList fun h' he hit hsz hk=>?_
 have I2:Inv X pins σ H1 { s1 with heap:=h' }:=I1.kept (t':=s1.toks) hk
 refine wpAny_pyIter_enum he ?_
 refine⟨_,[s1.heap.objs.size+1,s1.heap.objs.size],_,_,H1,rfl,I2,zVa l _ _ (Nat.succ_ne_self _),⟨⟨_,he⟩,hit⟩,fun b hb=>?_,kk _ H1 G1 st1 (zXB hq rs)⟩
 have hb':s1.heap.objs.size<=b:=by
   rcases Qd.mp hb with z | z
   · rw[z];exact Ya _
   · rcases Qd.mp z with z | z
     · exact Ur z.symm
     · cases z
 exact I1.fpOk hb' (I1.hok.fresh hb')
def mL (f g:Lf):Lf:=fun ρ=>(f ρ).bind fun xs=>(g ρ).bind fun ys=>okL (xs++ys)
theorem zWW (ha:PFr X a ga)(hb:PFr X b gb):PFr X (.BinOp a .Add b pos) (mL ga gb):=by
 refine PE.toR (aA zPV ha hb) ?_
 rintro σ H Q ⟨G0,H0,G,ρ,d,good,hf,k⟩
 unfold mL at hf
 obtain⟨xs,h1,hf⟩:=Qq.mp hf
 obtain⟨ys,h2,hf⟩:=Qq.mp hf
 obtain⟨rfl,h3⟩:=qK hf
 refine⟨G0,H0,G,ρ,_,good,h1,fun p vs H1 G1 s1 hn hp gp rs=>⟨G0,H0,G1,ρ,_,good.step s1,h2,fun q us H2 G2 s2 hn2 hq gq rs2=>?_⟩⟩
 refine⟨p,q,vs,us,rfl,rfl,s2.hh _ _ hp,hq,?_,fun l hl=>?_⟩
 · rw[←rs.length,←rs2.length,←Qr];exact Wx (wV h3)
 · have s3:=Step.own (o:=.lst (vs++us)) s2.sub hl
   exact k l _ _ G2 ((s1.trans s2).trans s3) ((s1.trans s2).hh.free hl) zO (s2.sub.free hl) ((rs.mono s2.gg).append rs2)
abbrev Of:=List B->Option (Option Int)
def tFO (K:PySem.W.Frag)(f:Of):TO:=fun σ H Q=>∃G0 H0 G ρ o,Good K G0 H0 G H σ ρ/\f ρ=some o/\∀H' G',Step G H G' H'->Q o H'
def PFO (X:Cx)(e:Option Expr)(f:Of):Prop:=PO X e (tFO X.K f)
def oNo:Of:=fun _=>some none
def xN (f:Ef):Of:=fun ρ=>(f ρ).bind fun d=>match d with | .int i=>some (some i) | _=>none
theorem lT:PFO X none oNo:=fun pins s σ H Q I h=>zSp pins s σ H Q I (by
 obtain⟨G0,H0,G,ρ,o,good,hf,k⟩:=h
 cases hf
 exact k H G (.refl good.sub))
theorem rD (h:PF X e fa):PFO X (some e) (xN fa):=fun pins s σ H Q I q=>zRo h pins s σ H Q I (by
 obtain⟨G0,H0,G,ρ,o,good,hf,k⟩:=q
 unfold xN at hf
 obtain⟨d,h1,hf⟩:=Qq.mp hf
 cases d with
 | int i=>cases hf;exact⟨G0,H0,G,ρ,_,good,h1,fun v H' G' s r=>⟨i,zJ.mp r,k H' G' s⟩⟩
 | _=>cases hf)
def dX (xs:List D)(lo hi:Option Int):List D:=(xs.drop (HT.sIx xs.length 0 lo)).take (HT.sIx xs.length xs.length hi - HT.sIx xs.length 0 lo)
def xJ (f:Ef)(lo hi:Of):Lf:=fun ρ=>(f ρ).bind fun d=>(lo ρ).bind fun l=>(hi ρ).bind fun u=>match d with | .lst ds=>some (dX ds l u) | _=>none
theorem w4 {lo hi:Option Expr}{fl fh:Of}{p2:Pos}(ha:PF X a fa)(hl:PFO X lo fl)(hh:PFO X hi fh):PFr X (.Subscript a (.Slice lo hi none p2) pos) (xJ fa fl fh):=by
 refine PE.toR (zYx zSd ha hl hh) ?_
 rintro σ H Q ⟨G0,H0,G,ρ,d,good,hf,k⟩
 unfold xJ at hf
 obtain⟨x,h1,hf⟩:=Qq.mp hf
 obtain⟨l,h2,hf⟩:=Qq.mp hf
 obtain⟨u,h3,hf⟩:=Qq.mp hf
 cases x with
 | lst ds =>
   cases hf
   refine⟨G0,H0,G,ρ,_,good,h1,fun v H1 G1 s1 r1=>⟨G0,H0,G1,ρ,_,good.step s1,h2,fun H2 G2 s2=>⟨G0,H0,G2,ρ,_,(good.step s1).step s2,h3,fun H3 G3 s3=>?_⟩⟩⟩
   obtain⟨q,vs,rfl,hq,rs⟩:=xW.mp r1
   have s23:=s2.trans s3
   refine⟨q,vs,rfl,s23.hh |> fun z=>(s1.sub.trans z).seq hq,fun p hp=>?_⟩
   have s4:=Step.own (o:=.lst (zUQ vs l u)) s23.sub hp
   refine k p _ _ G3 ((s1.trans s23).trans s4) ((s1.trans s23).hh.free hp) zO (s23.sub.free hp) ?_
   unfold zUQ dX
   rw[←rs.length]
   exact((rs.mono s23.gg).drop _).take _
 | _=>cases hf
end
section
structure ZApart (z TI TO i1 i2 l1 l2:Addr):Prop where
 a1:TI≠z
 a2:TO≠z
 a3:i1≠z
 a4:i2≠z
 a5:TI≠TO
 a6:TI≠i1
 a7:TI≠i2
 a8:TO≠i1
 a9:TO≠i2
 b1:i1≠i2
 b2:l1≠z
 b3:l1≠TO
 b4:l1≠i1
 b5:l1≠i2
 b6:l2≠z
 b7:l2≠TO
 b8:l2≠i1
 b9:l2≠i2
end
theorem zne {n:Nat}(i j:Nat)(h:i≠j):n+i≠n+j:=fun z=>h (Nat.add_left_cancel z)
def nX:List D->List D->List D
 | x::xs,y::ys=>.tup [x,y]::nX xs ys
 | _,_=>[]
theorem zXU:∀ {xs ys:List D} {i:Nat} {d:D},(nX xs ys)[i]?=some d->∃x y,xs[i]?=some x/\ys[i]?=some y/\d = .tup [x,y]
 | [],_,_,_,h=>by simp[nX] at h
 | _::_,[],_,_,h=>by simp[nX] at h
 | x::xs,y::ys,0,d,h=>by simp[nX] at h;exact⟨x,y,rfl,rfl,h.symm⟩
 | x::xs,y::ys,i+1,d,h=>by
   simp only[nX,Rl] at h
   obtain⟨a,b,h1,h2,h3⟩:=zXU h
   exact⟨a,b,by simpa using h1,by simpa using h2,h3⟩
theorem oW:∀(xs ys:List D),(nX xs ys).length=min xs.length ys.length
 | [],_=>by simp[nX]
 | _::_,[]=>by simp[nX]
 | x::xs,y::ys=>by rw[nX,Qs,oW xs ys,Qs,Qs];lia
end L2
set_option maxHeartbeats 4000000
namespace L2
open PySem PySem.Spec PyProof.Rows
def zWV (f:D->D->Option Bool):List D->List D->Option Bool
 | x::xs,y::ys=>(f x y).bind fun a=>(zWV f xs ys).map fun b=>a&&b
 | _,_=>some true
def eqD:Nat->D->D->Option Bool
 | _+1,.int i,.int j=>some (i==j)
 | _+1,.bl i,.bl j=>some (i==j)
 | _+1,.str i,.str j=>some (i==j)
 | _+1,.non,.non=>some true
 | n+1,.tup xs,.tup ys=>(zWV (eqD n) xs ys).map fun b=>b&&xs.length==ys.length
 | n+1,.lst xs,.lst ys=>if xs.length=ys.length then zWV (eqD n) xs ys else some false
 | _,_,_=>none
theorem zXW (d d':D):eqD 0 d d'=none:=rfl
def nF (f:D->D->Option Bool)(xs ys:List D)(j:Nat):Bool:=match xs[j]?,ys[j]? with | some a,some c=>(f a c).getD true | _,_=>true
theorem cQ {f:D->D->Option Bool}:∀ {xs ys:List D} {b:Bool},zWV f xs ys=some b->b=(List.range (min xs.length ys.length)).all (nF f xs ys)/\∀(j:Nat) (a c:D),xs[j]?=some a->ys[j]?=some c->f a c=some (nF f xs ys j)
 | [],_,_,h=>by cases h;exact⟨by simp,fun j a c e=>by simp at e⟩
 | _::_,[],_,h=>by cases h;exact⟨by simp,fun j a c _ e=>by simp at e⟩
 | x::xs,y::ys,b,h=>by
   unfold zWV at h
   obtain⟨a,h1,h⟩:=Qq.mp h
   obtain⟨b',h2,rfl⟩:=Qt.mp h
   obtain⟨e1,e2⟩:=cQ h2
   constructor
   · rw[Qs,Qs,Nat.succ_min_succ,List.range_succ_eq_map,List.all_cons,List.all_map,e1]
     congr 1
     simp[nF,h1]
   · intro j p q hp hq
     cases j with
     | zero =>
       simp at hp hq
       subst hp;subst hq
       simp[nF,h1]
     | succ j =>
       have:=e2 j p q (by simpa using hp) (by simpa using hq)
       simpa [nF] using this
section
variable {X:Cx} {pins:List (Addr×Obj)} {σ:St} {H G:Hp} {s:Shared}
theorem zXG (I:Inv X pins σ H s)(sub:Same G H):∀(n:Nat) (d d':D) (x:V) (k:Bool),eqD n d d'=some k->Rep X.K G d x->Rep X.K G d' x->k=true:=by
 intro n
 induction n with
 | zero=>intro d d' x k h;rw[zXW] at h;cases h
 | succ n ih =>
   have many:∀(ds es:List D) (vs:List V) (b:Bool),zWV (eqD n) ds es=some b->Reps X.K G ds vs->Reps X.K G es vs->b=true:=by
     intro ds
     induction ds with
     | nil=>intro es vs b h _ _;cases h;rfl
     | cons d r ihr =>
       intro es vs b h r1 r2
       cases es with
       | nil=>cases h;rfl
       | cons e t =>
         unfold zWV at h
         obtain⟨a,h1,h⟩:=Qq.mp h
         obtain⟨b',h2,rfl⟩:=Qt.mp h
         obtain⟨v,vr,rfl,q1,q2⟩:=zQ.mp r1
         obtain⟨v',vr',e',q3,q4⟩:=zQ.mp r2
         cases e'
         rw[ih d e v a h1 q1 q3,ihr t vr b' h2 q2 q4];rfl
   intro d d' x k h r1 r2
   cases d with
   | int i =>
     cases d' with
     | int j=>cases h;rw[zJ] at r1 r2;rw[r1] at r2;cases r2;simp
     | _=>cases h
   | bl i =>
     cases d' with
     | bl j=>cases h;rw[tK] at r1 r2;rw[r1] at r2;cases r2;simp
     | _=>cases h
   | str i =>
     cases d' with
     | str j=>cases h;rw[xR] at r1 r2;rw[r1] at r2;cases r2;simp
     | _=>cases h
   | non =>
     cases d' with
     | non=>cases h;rfl
     | _=>cases h
   | tup ds =>
     cases d' with
     | tup es =>
       unfold eqD at h
       obtain⟨b,h1,rfl⟩:=Qt.mp h
       obtain⟨p,vs,e1,q1,q2⟩:=xS.mp r1
       obtain⟨p',vs',e2,q3,q4⟩:=xS.mp r2
       rw[e1] at e2;cases e2
       have ev:=I.tuple_inj (sub.tup q1) (sub.tup q3)
       subst ev
       rw[many ds es vs b h1 q2 q4,q2.length,q4.length];simp
     | _=>cases h
   | lst ds =>
     cases d' with
     | lst es =>
       unfold eqD at h
       obtain⟨p,vs,e1,q1,q2⟩:=xW.mp r1
       obtain⟨p',vs',e2,q3,q4⟩:=xW.mp r2
       rw[e1] at e2;cases e2
       have ev:=I.list_inj (sub.seq q1) (sub.seq q3)
       subst ev
       rw[Qi (by rw[q2.length,q4.length])] at h
       exact many ds es vs k h q2 q4
     | _=>cases h
   | obj C ns ds=>cases d'<;>cases h
   | exc C ns ds=>cases d'<;>cases h
   | dct ks ds=>cases d'<;>cases h
theorem zPs (I:Inv X pins σ H s)(sub:Same G H):∀(n:Nat) (A:Around) (d d':D) (x y:V) (u v:Value) (k:Bool),A.units+n < cLine->eqD n d d'=some k->Rep X.K G d x->Rep X.K G d' y->RelV x u->RelV y v ->
   SeqAt.RcAt A s u v k/\SeqAt.RcNeAt A s u v (!k)/\SeqAt.EqAt A s u v k:=by
 intro n
 induction n with
 | zero=>intro A d d' x y u v k _ h;rw[zXW] at h;cases h
 | succ n ih =>
   intro A d d' x y u v k hu h r1 r2 ru rv
   have hu1:A.units < cLine:=by lia
   have hin:A.in1.units+n < cLine:=by show A.units+1+n < cLine;lia
   cases d with
   | int i =>
     cases d' with
     | int j=>cases h;rw[zJ] at r1 r2;subst r1;subst r2;obtain⟨t,rfl⟩:=ru;obtain⟨t',rfl⟩:=rv;exact⟨SeqAt.RcAt.int_int _ _ _ _,SeqAt.RcNeAt.int_int _ _ _ _,SeqAt.EqAt.int_int _ _ _ _⟩
     | _=>cases h
   | bl i =>
     cases d' with
     | bl j=>cases h;rw[tK] at r1 r2;subst r1;subst r2;cases ru;cases rv;exact⟨SeqAt.RcAt.bool_bool _ _,SeqAt.RcNeAt.bool_bool _ _,SeqAt.EqAt.bool_bool _ _⟩
     | _=>cases h
   | str i =>
     cases d' with
     | str j=>cases h;rw[xR] at r1 r2;subst r1;subst r2;obtain⟨t,rfl⟩:=ru;obtain⟨t',rfl⟩:=rv;exact⟨SeqAt.RcAt.str_str _ _ _ _,SeqAt.RcNeAt.str_str _ _ _ _,SeqAt.EqAt.str_str _ _ _ _⟩
     | _=>cases h
   | non =>
     cases d' with
     | non=>cases h;rw[nQ] at r1 r2;subst r1;subst r2;cases ru;cases rv;exact⟨SeqAt.RcAt.none_none,SeqAt.RcNeAt.none_none,Oj _⟩
     | _=>cases h
   | tup ds =>
     cases d' with
     | tup es =>
       have h0:=h
       unfold eqD at h
       obtain⟨b,h1,rfl⟩:=Qt.mp h
       obtain⟨p,vs,rfl,q1,q2⟩:=xS.mp r1
       obtain⟨p',vs',rfl,q3,q4⟩:=xS.mp r2
       cases ru;cases rv
       obtain⟨its,w1,t1,_⟩:=I.tuple (sub.tup q1)
       obtain⟨jts,w2,t2,_⟩:=I.tuple (sub.tup q3)
       obtain⟨e1,e2⟩:=cQ h1
       have l1:ds.length=its.length:=q2.length.trans w1.length
       have l2:es.length=jts.length:=q4.length.trans w2.length
       have he:∀j (a1:j < its.toArray.size) (a2:j < jts.toArray.size),SeqAt.EqAt A.in1 s its.toArray[j] jts.toArray[j] (nF (eqD n) ds es j):=fun j a1 a2=>by
         have b1:j < ds.length:=by rw[l1];simpa using a1
         have b2:j < es.length:=by rw[l2];simpa using a2
         obtain⟨v1,f1,g1⟩:=q2.get (Wo b1)
         obtain⟨v2,f2,g2⟩:=q4.get (Wo b2)
         obtain⟨u1,f3,g3⟩:=w1.get f1
         obtain⟨u2,f4,g4⟩:=w2.get f2
         have x1:its.toArray[j]=u1:=by
           have:=(We.mp f3).2
           simpa using this
         have x2:jts.toArray[j]=u2:=by
           have:=(We.mp f4).2
           simpa using this
         rw[x1,x2]
         exact(ih A.in1 _ _ v1 v2 u1 u2 _ hin (e2 j _ _ (Wo b1) (Wo b2)) g1 g2 g3 g4).2.2
       have ek:((List.range (min its.toArray.size jts.toArray.size)).all (nF (eqD n) ds es)&&its.toArray.size==jts.toArray.size)=(b&&ds.length==es.length):=by
         rw[Qo,Qo,←l1,←l2,e1]
       have R1:=SeqAt.RcAt.tuples t1 t2 hu1 he
       have R2:=SeqAt.RcNeAt.tuples t1 t2 hu1 he
       rw[ek] at R1 R2
       refine⟨R1,R2,?_⟩
       by_cases hp:p=p'
       · subst hp
         have hk:=zXG I sub (n+1) (.tup ds) (.tup es) (.ref p) _ h0 r1 r2
         rw[hk]
         exact Oj _
       · exact .of_refs hp R1
     | _=>cases h
   | lst ds =>
     cases d' with
     | lst es =>
       have h0:=h
       unfold eqD at h
       obtain⟨p,vs,rfl,q1,q2⟩:=xW.mp r1
       obtain⟨p',vs',rfl,q3,q4⟩:=xW.mp r2
       cases ru;cases rv
       obtain⟨its,w1,t1,_⟩:=I.list (sub.seq q1)
       obtain⟨jts,w2,t2,_⟩:=I.list (sub.seq q3)
       have l1:ds.length=its.length:=q2.length.trans w1.length
       have l2:es.length=jts.length:=q4.length.trans w2.length
       have fin:SeqAt.RcAt A s (.ref p) (.ref p') k/\SeqAt.RcNeAt A s (.ref p) (.ref p') (!k):=by
         split at h
         · rename_i hl
           obtain⟨e1,e2⟩:=cQ h
           have he:∀j (a1:j < its.toArray.size) (a2:j < jts.toArray.size),SeqAt.EqAt A.in1 s its.toArray[j] jts.toArray[j] (nF (eqD n) ds es j):=fun j a1 a2=>by
             have b1:j < ds.length:=by rw[l1];simpa using a1
             have b2:j < es.length:=by rw[l2];simpa using a2
             obtain⟨v1,f1,g1⟩:=q2.get (Wo b1)
             obtain⟨v2,f2,g2⟩:=q4.get (Wo b2)
             obtain⟨u1,f3,g3⟩:=w1.get f1
             obtain⟨u2,f4,g4⟩:=w2.get f2
             have x1:its.toArray[j]=u1:=by
               have:=(We.mp f3).2
               simpa using this
             have x2:jts.toArray[j]=u2:=by
               have:=(We.mp f4).2
               simpa using this
             rw[x1,x2]
             exact(ih A.in1 _ _ v1 v2 u1 u2 _ hin (e2 j _ _ (Wo b1) (Wo b2)) g1 g2 g3 g4).2.2
           have hsz:its.toArray.size=jts.toArray.size:=by rw[Qo,Qo,←l1,←l2,hl]
           have ek:(List.range its.toArray.size).all (nF (eqD n) ds es)=k:=by
             rw[e1,Qo,←l1,←hl,Nat.min_self]
           have R1:=SeqAt.RcAt.lists t1.isList t2.isList hsz hu1 he
           have R2:=SeqAt.RcNeAt.lists t1.isList t2.isList hsz hu1 he
           rw[ek] at R1 R2
           exact⟨R1,R2⟩
         · rename_i hl
           cases h
           have hsz:(its.toArray.size != jts.toArray.size)=true:=by
             rw[Qo,Qo,←l1,←l2]
             simpa using hl
           exact⟨SeqAt.RcAt.lists_lengths t1.isList t2.isList hsz hu1,SeqAt.RcNeAt.lists_lengths t1.isList t2.isList hsz hu1⟩
       refine⟨fin.1,fin.2,?_⟩
       by_cases hp:p=p'
       · subst hp
         have hk:=zXG I sub (n+1) (.lst ds) (.lst es) (.ref p) _ h0 r1 r2
         rw[hk]
         exact Oj _
       · exact .of_refs hp fin.1
     | _=>cases h
   | obj C ns ds=>cases d'<;>cases h
   | exc C ns ds=>cases d'<;>cases h
   | dct ks ds=>cases d'<;>cases h
variable {b:Expr} {k:Nat}
def zWK:D->D->Option Bool:=eqD 8
def kD (x y:D):Option Bool:=(eqD 8 x y).map (!·)
theorem zY7 (hr:Room k X.A):CmR X .Eq zWK:=by
 refine⟨fun x y H Q=>∃G d d' b,Same G H/\Rep X.K G d x/\Rep X.K G d' y/\eqD 8 d d'=some b/\Q (.bl b) H,?_,fun d d' k G H x y Q h s rx ry q=>⟨G,d,d',k,s,rx,ry,h,q H G (.refl s)⟩⟩
 intro pins s σ H x y v u Q I rx ry ⟨G,d,d',b,sub,r1,r2,h,q⟩
 have hu:=hr.units
 exact(zPs I sub 8 X.A d d' x y v u b (by lia) h r1 r2 rx ry).1 X.prog X.w X.xe _ ⟨.bl b,H,I,rfl,q⟩
theorem fV (hr:Room k X.A):CmR X .NotEq kD:=by
 refine⟨fun x y H Q=>∃G d d' b,Same G H/\Rep X.K G d x/\Rep X.K G d' y/\eqD 8 d d'=some b/\Q (.bl (!b)) H,?_,fun d d' k G H x y Q h s rx ry q=>?_⟩
 · intro pins s σ H x y v u Q I rx ry ⟨G,d,d',b,sub,r1,r2,h,q⟩
   have hu:=hr.units
   exact(zPs I sub 8 X.A d d' x y v u b (by lia) h r1 r2 rx ry).2.1 X.prog X.w X.xe _ ⟨.bl (!b),H,I,rfl,q⟩
 · unfold kD at h
   obtain⟨b,h1,rfl⟩:=Qt.mp h
   exact⟨G,d,d',b,s,rx,ry,h1,q H G (.refl s)⟩
def bG:List D->Option (List Int)
 | []=>some []
 | .int i::r=>(bG r).map fun is=>i::is
 | _=>none
theorem fO {K:PySem.W.Frag}{G:Hp}:∀ {ds:List D} {is:List Int} {vs:List V},bG ds=some is->Reps K G ds vs->vs=is.map V.int
 | [],_,_,h,r=>by cases h;rw[zK] at r;rw[r];rfl
 | d::t,_,_,h,r=>by
   unfold bG at h
   split at h
   · rename_i h';cases h'
   · rename_i k t' h'
     cases h'
     obtain⟨v,vr,rfl,r1,r2⟩:=zQ.mp r
     obtain⟨ks,h1,rfl⟩:=Qt.mp h
     rw[fO h1 r2,zJ.mp r1];rfl
   · cases h
end
section
variable {X:Cx} {a b:Expr} {fa fb:Ef} {pos:Pos} {st:Stmt}
def zQG:D->D->Option D
 | .int i,.int j=>some (.int (i+j))
 | .str i,.str j=>if i.length+j.length<=lim then some (.str (i++j)) else none
 | _,_=>none
def xA (fa fb:Ef):Ef:=fun ρ=>(fa ρ).bind fun x=>(fb ρ).bind fun y=>zQG x y
theorem wG (ha:PF X a fa)(hb:PF X b fb):PF X (.BinOp a .Add b pos) (xA fa fb):=by
 refine PE.to (aA (zTt.or zXg) ha hb) ?_
 rintro σ H Q ⟨G0,H0,G,ρ,d,good,hf,k⟩
 unfold xA at hf
 obtain⟨x,h1,hf⟩:=Qq.mp hf
 obtain⟨y,h2,hf⟩:=Qq.mp hf
 refine⟨G0,H0,G,ρ,_,good,h1,fun u H1 G1 s1 r1=>⟨G0,H0,G1,ρ,_,good.step s1,h2,fun v H2 G2 s2 r2=>?_⟩⟩
 have r1:=r1.mono s2.gg
 unfold zQG at hf
 split at hf
 · cases hf;exact .inl ⟨_,_,zJ.mp r1,zJ.mp r2,k _ _ G2 (s1.trans s2) (zJ.mpr rfl)⟩
 · split at hf
   · rename_i hz;cases hf;exact .inr ⟨_,_,xR.mp r1,xR.mp r2,Wx (wV hz),k _ _ G2 (s1.trans s2) (xR.mpr rfl)⟩
   · cases hf
 · cases hf
def zO1:V->Option Int->Option Int->Hp->VK->Prop:=fun x lo hi H Q=>∃z,x = .str z/\z.length<=sizeLine/\Q (.str (Txt.slice z lo hi)) H
theorem zQv:SlR X zO1:=by
 intro pins s σ H x v vl vu lo hi sl Q I rx hs pl pu h
 obtain⟨z,rfl,hz,q⟩:=h
 obtain⟨t,rfl⟩:=rx
 refine⟨"str",_,F.slot_str_getitem.lookup,typeIs_str s z t,?_⟩
 have fin:∀t' k,EP X pins σ Q (.str (Txt.slice z lo hi) t') { s with toks:=k }:=fun t' k=>⟨.str (Txt.slice z lo hi),H,I.tok k,⟨t',rfl⟩,q⟩
 cases pl with
 | none =>
   cases pu with
   | none=>exact Tj (l:=none) (u:=none) (st:=none) hs rfl (Up ⟨Wu (Ua z _ _) hz,fin⟩)
   | int j tj=>exact Tj (l:=none) (u:=some (j,tj)) (st:=none) hs rfl (Up ⟨Wu (Ua z _ _) hz,fin⟩)
 | int i ti =>
   cases pu with
   | none=>exact Tj (l:=some (i,ti)) (u:=none) (st:=none) hs rfl (Up ⟨Wu (Ua z _ _) hz,fin⟩)
   | int j tj=>exact Tj (l:=some (i,ti)) (u:=some (j,tj)) (st:=none) hs rfl (Up ⟨Wu (Ua z _ _) hz,fin⟩)
def gA (f:Ef)(lo hi:Of):Ef:=fun ρ=>(f ρ).bind fun d=>(lo ρ).bind fun l=>(hi ρ).bind fun u=>match d with | .str x=>if x.length<=lim then some (.str (Txt.slice x l u)) else none | _=>none
theorem zZ9 {lo hi:Option Expr}{fl fh:Of}{p2:Pos}(ha:PF X a fa)(hl:PFO X lo fl)(hh:PFO X hi fh):PF X (.Subscript a (.Slice lo hi none p2) pos) (gA fa fl fh):=by
 refine PE.to (zYx zQv ha hl hh) ?_
 rintro σ H Q ⟨G0,H0,G,ρ,d,good,hf,k⟩
 unfold gA at hf
 obtain⟨x,h1,hf⟩:=Qq.mp hf
 obtain⟨l,h2,hf⟩:=Qq.mp hf
 obtain⟨u,h3,hf⟩:=Qq.mp hf
 cases x with
 | str z =>
   dsimp only at hf
   split at hf
   · rename_i hz
     cases hf
     refine⟨G0,H0,G,ρ,_,good,h1,fun v H1 G1 s1 r1=>⟨G0,H0,G1,ρ,_,good.step s1,h2,fun H2 G2 s2=>⟨G0,H0,G2,ρ,_,(good.step s1).step s2,h3,fun H3 G3 s3=>?_⟩⟩⟩
     exact⟨z,xR.mp r1,Wx (wV hz),k _ _ G3 ((s1.trans s2).trans s3) (xR.mpr rfl)⟩
   · cases hf
 | _=>cases hf
end
section
variable {X:Cx} {a b e:Expr} {fa fb:Ef} {ga gb:Lf} {pos p:Pos}
def zSG (fa fb:Ef):Ef:=fun ρ=>(fa ρ).bind fun x=>(fb ρ).bind fun y=>match x,y with | .int i,.int j=>some (.int (if j > i then j else i)) | _,_=>none
theorem zTn (hc:X.calm=true)(hg:Gl X "max")(hm:X.mg "max"=none)(ha:PF X a fa)(hb:PF X b fb)(hs:starEach [a,b] X.env=[(false,eval a X.env),(false,eval b X.env)]:=by rfl)(hs2:starEach [b] X.env=[(false,eval b X.env)]:=by rfl) :
   PF X (.Call (.Name "max" p) [a,b] [] pos) (zSG fa fb):=by
 refine PE.to (sX (zVm hc) hg hm (by rfl) (yK ha (yK hb wI (by rw[hs2];rfl)) (by rw[hs,hs2])) (by decide) (by decide) (by rw[hs,hs2]) (by rw[hs2];rfl)) ?_
 rintro σ H Q ⟨G0,H0,G,ρ,d,good,hf,k⟩
 unfold zSG at hf
 obtain⟨x,h1,hf⟩:=Qq.mp hf
 obtain⟨y,h2,hf⟩:=Qq.mp hf
 refine⟨G0,H0,G,ρ,_,good,h1,fun u H1 G1 s1 r1=>⟨G0,H0,G1,ρ,_,good.step s1,h2,fun v H2 G2 s2 r2=>?_⟩⟩
 split at hf
 · cases hf
   exact⟨_,_,by rw[zJ.mp r1,zJ.mp r2],k _ _ G2 (s1.trans s2) (zJ.mpr rfl)⟩
 · cases hf
theorem zPr {z:Str}{n:Int}(h0:0<=n)(h1:n<=1000)(h2:z.length<=1000):MulOk z n:=by
 refine⟨?_,fun q _=>?_,fun q _=>?_⟩
 · have e1:decide (n < -(2^63:Int))=false:=Ww (by lia)
   have e2:decide (n≥2^63)=false:=Ww (by lia)
   rw[e1,e2];rfl
 · have hn:0 < n:=by lia
   have hz:(z.length:Int)<=1000:=by lia
   have hm:(z.length:Int)*n<=1000*1000:=Int.mul_le_mul hz h1 h0 (by decide)
   have:=Int.le_ediv_of_mul_le hn (Int.le_trans hm (show(1000*1000:Int)<=2^63 - 1 by decide))
   lia
 · have hm:z.length*n.toNat<=1000*1000:=Nat.mul_le_mul h2 (by lia)
   unfold Builtin.Str.tooLong
   exact Ww (by rw[Ew];lia)
theorem zXd:OpR X (binaryOp .Mult) (fun x y H Q=>∃z n,x = .str z/\y = .int n/\0<=n/\n<=1000/\z.length<=1000/\Q (.str (Txt.mul z n)) H):=by
 intro pins s σ H x y v u Q I rx ry h
 obtain⟨z,n,rfl,rfl,h0,h1,h2,q⟩:=h
 obtain⟨t,rfl⟩:=rx
 obtain⟨t',rfl⟩:=ry
 exact SB.mul (zPr h0 h1 h2) fun t' k=>⟨.str (Txt.mul z n),H,I.tok _,⟨_,rfl⟩,q⟩
def bH (fa fb:Ef):Ef:=fun ρ=>(fa ρ).bind fun x=>(fb ρ).bind fun y=>match x,y with | .str z,.int n=>if decide (0<=n)&&decide (n<=1000)&&decide (z.length<=1000) then some (.str (Txt.mul z n)) else none | _,_=>none
theorem zZu (ha:PF X a fa)(hb:PF X b fb):PF X (.BinOp a .Mult b pos) (bH fa fb):=by
 refine PE.to (aA zXd ha hb) ?_
 rintro σ H Q ⟨G0,H0,G,ρ,d,good,hf,k⟩
 unfold bH at hf
 obtain⟨x,h1,hf⟩:=Qq.mp hf
 obtain⟨y,h2,hf⟩:=Qq.mp hf
 refine⟨G0,H0,G,ρ,_,good,h1,fun u H1 G1 s1 r1=>⟨G0,H0,G1,ρ,_,good.step s1,h2,fun v H2 G2 s2 r2=>?_⟩⟩
 split at hf
 · split at hf
   · rename_i hc
     cases hf
     simp only[Wb,Ej] at hc
     exact⟨_,_,xR.mp r1,zJ.mp r2,hc.1.1,hc.1.2,hc.2,k _ _ G2 (s1.trans s2) (xR.mpr rfl)⟩
   · cases hf
 · cases hf
theorem zRK:OpR X (binaryOp .Add) (fun x y H Q=>∃l b xs zs,x = .ref l/\y = .ref b/\SqL X.K H l xs/\SqL X.K H b zs/\xs.length+zs.length<=sizeLine/\∀p,H p=none->Q (.ref p) (upd H p (.lst (xs++zs)))):=by
 intro pins s σ H x y v u Q I rx ry h
 obtain⟨l,b,xs,zs,rfl,rfl,hH,hB,hz,q⟩:=h
 cases rx
 cases ry
 obtain⟨its,r,pl,_⟩:=I.list hH
 obtain⟨its2,r2,pl2,_⟩:=I.list hB
 obtain⟨⟨cls,dd,data,sl⟩,ho,hc,n,hd⟩:=pl.isList
 obtain⟨⟨cls2,dd2,data2,sl2⟩,ho2,hc2,n2,hd2⟩:=pl2.isList
 simp only at hc hd hc2 hd2
 subst hc hd hc2 hd2
 have hl:=r.length
 have hl2:=r2.length
 have e:its.toArray++its2.toArray=(its++its2).toArray:=by simp
 refine concat_meets ⟨_,ho,rfl⟩ ⟨_,ho2,rfl⟩ noFill_list_add seq_list_add PySem.F.slot_list_add PySem.F.entry_list_add (PySem.F.args_list_add_2 _ _) (list_addW l b its.toArray its2.toArray n n2 dd dd2 sl sl2 (by rw[Qo,Qo];lia)) ⟨ho,ho2,?_⟩
 rw[e]
 exact⟨.ref _,_,I.lnew (t':=s.toks) (r.append r2) (by rw[Qr];lia),rfl,q _ I.fresh⟩
theorem hV (ha:zYd X a ga)(hb:zYd X b gb):PFr X (.BinOp a .Add b pos) (mL ga gb):=by
 refine PE.toR (aA zRK ha hb) ?_
 rintro σ H Q ⟨G0,H0,G,ρ,d,good,hf,k⟩
 unfold mL at hf
 obtain⟨xs,h1,hf⟩:=Qq.mp hf
 obtain⟨ys,h2,hf⟩:=Qq.mp hf
 obtain⟨rfl,h3⟩:=qK hf
 refine⟨G0,H0,G,ρ,_,good,h1,fun p vs H1 G1 s1 hq rs=>⟨G0,H0,G1,ρ,_,good.step s1,h2,fun q us H2 G2 s2 hq2 rs2=>?_⟩⟩
 refine⟨p,q,vs,us,rfl,rfl,(s1.sub.trans s2.hh).seq hq,s2.sub.seq hq2,?_,fun l hl=>?_⟩
 · rw[←rs.length,←rs2.length,←Qr];exact Wx (wV h3)
 · have s3:=Step.own (o:=.lst (vs++us)) s2.sub hl
   exact k l _ _ G2 ((s1.trans s2).trans s3) ((s1.trans s2).hh.free hl) zO (s2.sub.free hl) ((rs.mono s2.gg).append rs2)
end
structure FunD (K:PySem.W.Frag)(x qual:Str)(st:Stmt)(f:Addr)(fd:FuncData):Prop where
 ex:∃(oc:Value) (od:Option Addr) (dV kV doc pm:Value) (an:Option Addr) (cdv ct:Value) (osl:Array (Option Value)),
   fd=PySem.W.fnOf x qual (vL st) (xY st) (zU st) dV kV doc pm an cdv ct/\K.lookup f=some ⟨oc,od,.func fd,osl⟩/\PySem.W.codeIn K cdv qual=true
 kp:PySem.W.keepIn K (.ref f)=true
theorem jW {K:PySem.W.Frag}{G:Hp}{f:Str}{d:D}:∀ {ns:List Str} {ds:List D} {vs:List V},ns.length=ds.length->Reps K G ds vs->(ns.zip ds).lookup f=some d->∃u,(ns.zip vs).lookup f=some u/\Rep K G d u
 | [],_,_,_,_,h=>by simp at h
 | n::ns,[],_,hl,_,_=>by simp at hl
 | n::ns,e::ds,_,hl,r,h=>by
   obtain⟨v,vr,rfl,r1,r2⟩:=zQ.mp r
   rw[Ez,Ec] at h ⊢
   cases hq:f==n with
   | true=>rw[hq] at h;cases h;exact⟨v,rfl,r1⟩
   | false=>rw[hq] at h;exact jW (by simpa using hl) r2 h
section
variable {X:Cx} {a c e:Expr} {fa:Ef} {pos p:Pos} {st:Stmt}
def yY (c f:Str)(fa:Ef):Ef:=fun ρ=>(fa ρ).bind fun d=>match d with | .obj c' ns ds=>if c'=c then(ns.zip ds).lookup f else none | _=>none
theorem yX {C:Addr}{c f:Str}(hC:ClsAt X.K c C)(hcl:Cls X.K C)(hn:NoAttr X.K C f)(ha:PF X a fa)(hb:attributeBase a f X.env (eval a X.env)=eval a X.env:=by rfl):PF X (.Attribute a f pos) (yY c f fa):=by
 refine PE.to (zSP ha hb) ?_
 rintro σ H Q ⟨G0,H0,G,ρ,d,good,hf,k⟩
 unfold yY at hf
 obtain⟨x,h1,hf2⟩:=Qq.mp hf
 cases x with
 | obj c' ns ds =>
   dsimp only at hf2
   by_cases hc:c'=c
   · rw[Qi hc] at hf2
     subst hc
     refine⟨G0,H0,G,ρ,_,good,h1,fun v H1 G1 s1 r1=>?_⟩
     obtain⟨C',q,dx,vs,e0,rfl,e1,e2,e3⟩:=lD.mp r1
     have ec:=hC.one e0
     subst ec
     obtain⟨u,e4,e5⟩:=jW e2 e3 hf2
     exact⟨q,_,dx,ns.zip vs,u,rfl,s1.sub _ _ e1,hcl,hn,e4,k _ _ G1 s1 e5⟩
   · rw[Qa hc] at hf2;cases hf2
 | _=>cases hf2
theorem zXZ {f:Str}{y:V}:∀ {ns:List Str} {vs:List V},ns.length=vs.length->f∉ns->oQ f y (ns.zip vs)=(ns++[f]).zip (vs++[y])
 | [],[],_,_=>rfl
 | [],_::_,h,_=>by simp at h
 | _::_,[],h,_=>by simp at h
 | n::ns,v::vs,h,hf=>by
   show(if n=f then _ else(n,v)::oQ f y (ns.zip vs))=_
   rw[Qa (fun z=>hf (by rw[z];exact Qb)),zXZ (by simpa using h) (fun z=>hf (Qj _ z))]
   rfl
def zTF (K:PySem.W.Frag)(C:Addr)(ns:List Str)(g:Lf):TS:=fun DD σ H=>∃(G0 H0 G:Hp) (ρ:List B) (p dx:Addr) (pre:List Str) (us:List V) (xs ds:List D),
 Good K G0 H0 G H σ ρ/\NoOw ρ/\σ[0]?=some (some (.ref p))/\H p=some (.ins C dx (pre.zip us))/\G p=none/\H0 p=none/\pre.length=us.length/\(pre++ns).Nodup/\(pre++ns).length<=900/\Reps K G xs us/\g ρ=some ds /\
 ∀H' G' vs,Step G0 H0 G' H'->H' p=some (.ins C dx ((pre++ns).zip vs))->G' p=none->Reps K G' (xs++ds) vs->DD.nx σ H'
theorem zV9 {C:Addr}:PSs X [] (zTF X.K C [] zN):=by
 intro pins s σ H D I h
 refine gR pins s σ H D I ?_
 obtain⟨G0,H0,G,ρ,p,dx,pre,us,xs,ds,good,now,hs,hp,gp,h0,hl,nd,hz,rs,hg,k⟩:=h
 cases hg
 rw[Ea] at k
 exact k H G us good.st (by rw[Ea] at *;exact hp) gp (by rw[Ea];exact rs)
theorem oV {C:Addr}{f x:Str}{ns:List Str}{g:Lf}{rest:List Stmt}{pos' p1:Pos}(hcl:Cls X.K C)(hn:NoAttr X.K C f)(hself:X.N[0]?=some x)(hvis:Vis X.env.scope x)(he:PF X e fa)(hr:PSs X rest (zTF X.K C ns g))(hd:(x==("__debug__":Str))=false:=by decide)(hcd:(x==("__classdict__":Str))=false:=by decide)
   (hs:swapsWith e (some (.Attribute (.Name x p1) f pos')) pos.line X.env=pure false:=by rfl):PSs X (.Assign [.Attribute (.Name x p1) f pos'] e pos::rest) (zTF X.K C (f::ns) (zY fa g)):=by
 intro pins s σ H D I h
 refine w8 (zU2 (rZ hself hvis hd hcd) he hs) hr pins s σ H D I ?_
 obtain⟨G0,H0,G,ρ,p,dx,pre,us,xs,ds,good,now,hself,hp,gp,h0,hl,nd,hz,rs,hg,k⟩:=h
 obtain⟨d,dr,h1,h2,rfl⟩:=gO hg
 have hlp:pre.length < 1000:=by rw[Qr] at hz;lia
 have hnp:f∉pre:=fun z=>(List.nodup_append.mp nd).2.2 f z f Qb rfl
 have e1:pre++f::ns=(pre++[f])++ns:=by simp
 refine⟨G0,H0,G,ρ,d,good,h1,fun v H1 G1 s1 r1=>⟨.ref p,hself,p,C,dx,pre.zip us,rfl,s1.hh _ _ hp,hcl,hn,?_,?_⟩⟩
 · rw[Ys];lia
 · have hne:H p≠none:=by rw[hp];exact fun z=>nomatch z
   have gp1:G1 p=none:=(s1.new p _ hp rfl).trans gp
   refine⟨G0,H0,G1,ρ,p,dx,pre++[f],us++[v],xs++[d],dr,(good.step s1).wrX now gp1 h0,now,hself,?_,gp1,h0,by rw[Qr,Qr,hl];rfl,by rw[←e1];exact nd,by rw[←e1];exact hz,(rs.mono s1.gg).snoc r1,h2,fun H' G' vs st q1 q2 q3=>?_⟩
   · rw[zO,zXZ hl hnp]
   · refine k H' G' vs st (by rw[e1];exact q1) q2 ?_
     rw[show xs++d::dr=(xs++[d])++dr by simp]
     exact q3
end
def spI (K:PySem.W.Frag)(C:Addr)(ns:List Str)(n:Nat)(f:List D->Option (List D)):Sp:=fun vs H Q _=>∃(p dx:Addr) (rest:List V) (G H0:Hp) (ds xs:List D),vs = .ref p::rest/\H=upd (upd H0 dx (.own p)) p (.ins C dx [])/\H0 p=none/\H0 dx=none/\dx≠p/\Same G H0/\Reps K G ds rest/\ds.length=n/\f ds=some xs /\
 ∀H' G' us,Step G H0 G' H'->H' p=some (.ins C dx (ns.zip us))->G' p=none->Reps K G' xs us->Q .non H'
theorem oX {K:PySem.W.Frag}{G H0 H:Hp}(m:Nat):∀ {ds:List D} {vs:List V},Reps K G ds vs->Paired (RB K H0 G H) (vs.map some++List.replicate m none) (ds.map .fz++List.replicate m .no)
 | [],_,h=>by
   rw[zK] at h;subst h
   show Paired _ (List.replicate m none) (List.replicate m B.no)
   induction m with
   | zero=>exact .nil
   | succ n ih=>rw[Rk,Rk];exact .cons .no ih
 | d::r,_,h=>by
   obtain⟨v,vr,rfl,h1,h2⟩:=zQ.mp h
   exact .cons (.fz h1) (oX m h2)
theorem dM (m:Nat)(ds:List D):NoOw (.no::(ds.map B.fz++List.replicate m B.no)):=by
 refine⟨?_,?_,?_⟩
 all_goals
   intro j es h
   cases j with
   | zero=>cases h
   | succ j =>
     rw[Rl] at h
     by_cases hi:j < ds.length
     · rw[Wc (by simpa using hi),Ws] at h
       obtain⟨k,_,h⟩:=Qt.mp h
       cases h
     · rw[Wt (by simpa using hi),Es] at h
       split at h<;>cases h
def lO (N:Nat)(ds:List D):List B:=.no::(ds.map .fz++List.replicate (N - (ds.length+1)) .no)
section
variable {P:Program} {w:World} {K:PySem.W.Frag} {mg:Str->Option Value} {base:Heap} {x qual:Str} {st:Stmt} {f C:Addr} {fd:FuncData} {N ps ns:List Str} {k:Nat} {sf:Str}
theorem zR3 {g:Lf}(F:Fun K x qual st f fd)(S:FnScope N (sf::ps) (zU st))(hnd:ns.Nodup)(hlen:ns.length<=900)
   (hb:∀(cdv:Value) (A:Around) (outer:List Env) (s:Shared) (H:Hp) (E:XK),Room k (A.deeper (envOfC qual (zU st) s.heap.objs.size f cdv))->PSs (jT CX0 P w K mg base N qual (zU st) f cdv A outer s H E).nox (xY st) (zTF K C ns g)) :
   FnOk P w K mg base CX0 (k+1) f fd (sf::ps) (spI K C ns ps.length fun ds=>g (lO N.length ds)):=by
 refine F.ok S (fun vs H Q E h=>?_) (fun cdv A outer s H vs Q E hr h=>⟨_,hb cdv A outer s H E hr,?_⟩)
 · obtain⟨p,dx,rest,G,H0,ds,xs,rfl,_,_,_,_,_,rs,hl,_⟩:=h
   rw[Qs,Qs,←rs.length,hl]
 · obtain⟨p,dx,rest,G,H0,ds,xs,rfl,rfl,h1,h2,h3,sub,rs,hl,hf,k⟩:=h
   have hne:p≠dx:=h3.symm
   have hp1:(upd H0 dx (.own p)) p=none:=by rw[zP hne];exact h1
   have st1:Step G H0 G (upd H0 dx (.own p)):=Step.own sub h2
   have st2:Step G H0 G (upd (upd H0 dx (.own p)) p (.ins C dx [])):=st1.trans (Step.own st1.sub hp1)
   have good:Good K G H0 G (upd (upd H0 dx (.own p)) p (.ins C dx [])) (start N (.ref p::rest)) (lO N.length ds):=by
     refine⟨st2,?_,fun i j a b c q1 _ o1 _=>((dM _ ds).own q1 o1).elim⟩
     unfold start lO
     rw[Ql,Qs,Yr,←rs.length]
     exact .cons .no (oX _ rs)
   refine⟨G,H0,G,_,p,dx,[],[],[],xs,good,dM _ ds,rfl,zO,sub.free h1,h1,rfl,hnd,hlen,zK.mpr rfl,hf,fun H' G' us s' q1 q2 q3=>k H' G' us s' q1 q2 q3⟩
variable {X:Cx} {c e:Expr} {es:List Expr} {ga:Lf} {pos p:Pos}
def lN (c:Str)(ns:List Str)(n:Nat)(f:List D->Option (List D))(g:Lf):Ef:=fun ρ=>(g ρ).bind fun ds=>if ds.length=n then(f ds).bind fun xs=>if ns.length=xs.length then some (.obj c ns xs) else none else none
theorem kW {k n:Nat}{C fI:Addr}{fd:FuncData}{ps ns:List Str}{c:Str}{f:List D->Option (List D)}(hC:ClsAt X.K c C)(M:Mk X.K C fI)(F:FnOk X.prog X.w X.K X.mg X.base CX0 k fI fd ps (spI X.K C ns n f))(hr:Room (k+1) X.A)(hm:X.mg c=some (.ref C))(hb:Binds X.K fd ps [])(hg:Gl X c)
   (ha:PFA X (e::es) ga) (hdb:(c==("__debug__":Str))=false:=by decide) (he:starEach (e::es) X.env=(false,eval e X.env)::starEach es X.env:=by rfl) (hpl:(backTo pos (starEach es X.env)).any (·.1)=false:=by rfl) :
   PF X (.Call (.Name c p) (e::es) [] pos) (lN c ns n f ga):=by
 refine PE.to (zWi (E:=E0) M F hr hg hm hb .nil gW ha hdb he hpl) ?_
 rintro σ H Q ⟨G0,H0,G,ρ,d,good,hf,k⟩
 unfold lN at hf
 obtain⟨ds,h1,hf⟩:=Qq.mp hf
 split at hf
 · rename_i hl
   obtain⟨xs,h2,hf⟩:=Qq.mp hf
   split at hf
   · rename_i hn
     cases hf
     refine⟨G0,H0,G,ρ,_,good,h1,fun vs H1 G1 s1 r1 x dx hx hdx hne=>?_⟩
     refine⟨x,dx,vs++[],G1,H1,ds,xs,rfl,rfl,hx,hdx,hne,s1.sub,by rw[Ea];exact r1,hl,h2,fun H' G' us s' q1 q2 q3=>⟨rfl,?_⟩⟩
     exact k _ _ _ (s1.trans (s'.frz hx q1 q2)) (lD.mpr ⟨C,x,dx,us,hC,rfl,zO,hn,q3.mono (Same.new q2)⟩)
   · cases hf
 · cases hf
end
end L2
namespace L2
open PySem PySem.Spec PyProof.Rows
open PySem.W
end L2
namespace L2
open PySem PySem.Spec PySem.W
end L2
namespace L2
open PySem PySem.Spec PySem.W
open Builtin Builtin.ObjectAttr
def zYs:List Value->Bool
 | []=>false
 | v::r=>(v::r)==[.type "ValueError",.type "Exception",.type "BaseException",.type "object"]||match v with | .ref _=>zYs r | _=>false
end L2
namespace L2
open PySem PySem.Spec PyProof.Rows
structure XKit (K:PySem.W.Frag)(C:Addr):Prop where
 cl:(PySem.W.clsIn K C).isSome=true
 ga:PySem.W.findIn K (.ref C) "__getattribute__"=some (some (.builtin "BaseException.__getattribute__"))
 gt:PySem.W.findIn K (.ref C) "__getattr__"=some none
 gc:PySem.W.findIn K (.ref C) "__class__"=some (some (.builtin "object.__class__"))
 so:PySem.W.subIn K (.ref C) (.type "object")=some true
 sb:PySem.W.subIn K (.ref C) (.type "BaseException")=some true
def zPz (K:PySem.W.Frag)(C:Addr):Prop:=∃nm q N bs bm sn sub ab col dd k0 k1 k2 k3 k5,K.lookup C=some (excClassObj nm q C N bs bm true sn sub ab col dd k0 k1 k2 k3 k5 "ValueError.__new__")/\zYs bm=true
section
structure XSt (K:PySem.W.Frag)(C:Addr):Prop where
 kit:XKit K C
 ob:zPz K C
 sa:PySem.W.findIn K (.ref C) "__setattr__"=some (some (.builtin "object.__setattr__"))
end
structure XMk (K:PySem.W.Frag)(C f:Addr):Prop where
 ob:zPz K C
 init:PySem.W.findIn K (.ref C) "__init__"=some (some (.ref f))
 fn:PySem.W.isFn K (.ref f)=true
 kp:PySem.W.keepIn K (.ref C)=true
section
structure Z3 (z TI TO i1 i2 i3 l1 l2 l3:Addr):Prop where
 TIz:TI≠z
 TOz:TO≠z
 i1z:i1≠z
 i2z:i2≠z
 i3z:i3≠z
 TITO:TI≠TO
 TIi1:TI≠i1
 TIi2:TI≠i2
 TIi3:TI≠i3
 TOi1:TO≠i1
 TOi2:TO≠i2
 TOi3:TO≠i3
 i12:i1≠i2
 i13:i1≠i3
 i23:i2≠i3
 a1:l1≠z
 a2:l1≠TO
 a3:l1≠i1
 a4:l1≠i2
 a5:l1≠i3
 b1:l2≠z
 b2:l2≠TO
 b3:l2≠i1
 b4:l2≠i2
 b5:l2≠i3
 c1:l3≠z
 c2:l3≠TO
 c3:l3≠i1
 c4:l3≠i2
 c5:l3≠i3
end
section
variable {X:Cx} {a b e:Expr} {fa fb:Ef} {ga:Lf} {pos p:Pos}
def zUL (fa fb:Ef):Ef:=fun ρ=>(fa ρ).bind fun x=>(fb ρ).bind fun y=>match x,y with | .int i,.int j=>some (.int (if j < i then j else i)) | _,_=>none
theorem zQm (hc:X.calm=true)(hg:Gl X "min")(hm:X.mg "min"=none)(ha:PF X a fa)(hb:PF X b fb)(hs:starEach [a,b] X.env=[(false,eval a X.env),(false,eval b X.env)]:=by rfl)(hs2:starEach [b] X.env=[(false,eval b X.env)]:=by rfl) :
   PF X (.Call (.Name "min" p) [a,b] [] pos) (zUL fa fb):=by
 refine PE.to (sX (zUN hc) hg hm (by rfl) (yK ha (yK hb wI (by rw[hs2];rfl)) (by rw[hs,hs2])) (by decide) (by decide) (by rw[hs,hs2]) (by rw[hs2];rfl)) ?_
 rintro σ H Q ⟨G0,H0,G,ρ,d,good,hf,k⟩
 unfold zUL at hf
 obtain⟨x,h1,hf⟩:=Qq.mp hf
 obtain⟨y,h2,hf⟩:=Qq.mp hf
 split at hf
 · rename_i i j _h
   cases hf
   exact⟨G0,H0,G,ρ,_,good,h1,fun v H1 G1 s1 r1=>⟨G0,H0,G1,ρ,_,good.step s1,h2,fun u H2 G2 s2 r2=>⟨i,j,by rw[zJ.mp r1,zJ.mp r2],k _ _ G2 (s1.trans s2) (zJ.mpr rfl)⟩⟩⟩
 · cases hf
def eR (ns:List Int):Int:=ns.getD (argBest (fun i j=>decide (ns.getD i 0 > ns.getD j 0)) (ns.length - 1)) 0
theorem gJ:∀ {ns:List Int} {its:List Value},Vals (ns.map V.int) its->∃ps:List (Int×Tok),its=ps.map (fun p=>Value.int p.1 p.2)/\ps.map (·.1)=ns
 | [],_,h=>by cases h;exact⟨[],rfl,rfl⟩
 | n::ns,_,h=>by
   cases h with
   | cons h1 h2 =>
     obtain⟨t,rfl⟩:=h1
     obtain⟨ps,rfl,rfl⟩:=gJ h2
     exact⟨(n,t)::ps,rfl,rfl⟩
theorem zUT (hc:X.calm=true):CallR X (.builtin "max") (fun xs H Q=>∃(q:Addr) (ns:List Int),xs=[V.ref q]/\SqL X.K H q (ns.map V.int)/\0 < ns.length/\Q (.int (eR ns)) H):=by
 intro pins s σ H xs us Q I r h
 obtain⟨l,ns,rfl,hq,hl,q⟩:=h
 obtain⟨u,rfl,ru⟩:=eU r
 cases ru
 obtain⟨its,rv,pl,hz⟩:=I.list hq
 obtain⟨ps,rfl,rfl⟩:=gJ rv
 have hit:s.heap.IsList l (intItems ps.toArray):=by
   have:=pl.isList
   unfold intItems
   rw[List.map_toArray]
   exact this
 have hn:∀i,numAt ps.toArray i=(ps.map (·.1)).getD i 0:=fun i=>by
   unfold numAt
   rw[Us,Wf,Ws]
 refine max_intList (I.ok.hd hc) hit (by simpa using hl) fun v h' tk hv hk=>?_
 obtain⟨t,rfl⟩:=intItems_at hv
 refine⟨.int _,H,I.kept hk,⟨t,rfl⟩,?_⟩
 have e:numAt ps.toArray (argBest (fun i j=>decide (numAt ps.toArray i > numAt ps.toArray j)) (ps.toArray.size - 1))=eR (ps.map (·.1)):=by
   unfold eR
   rw[hn,Qo,Qu]
   simp only[hn]
 rw[e]
 exact q
def zXY (g:Lf):Ef:=fun ρ=>(g ρ).bind fun ds=>(bG ds).bind fun ns=>if 0 < ns.length then some (.int (eR ns)) else none
theorem zRi (hcm:X.calm=true)(hg:Gl X "max")(hm:X.mg "max"=none)(h:zYd X a ga)(hs:starEach [a] X.env=[(false,eval a X.env)]:=by rfl):PF X (.Call (.Name "max" p) [a] [] pos) (zXY ga):=by
 refine PE.to (sX (zUT hcm) hg hm (by rfl) (yK h wI (by rw[hs];rfl)) (by decide) (by decide) (by rw[hs];rfl) (by rfl)) ?_
 rintro σ H Q ⟨G0,H0,G,ρ,d,good,hf,k⟩
 unfold zXY at hf
 obtain⟨ds,h1,hf⟩:=Qq.mp hf
 obtain⟨ns,h2,hf⟩:=Qq.mp hf
 split at hf
 · rename_i hl
   cases hf
   refine⟨G0,H0,G,ρ,ds,good,h1,fun q vs H1 G1 s1 e1 r1=>?_⟩
   rw[fO h2 r1] at e1
   exact⟨q,ns,rfl,s1.sub.seq e1,hl,k _ _ G1 s1 (zJ.mpr rfl)⟩
 · cases hf
end
end L2
namespace L2
open PySem PySem.W PyProof.Rows
section
variable {N:Nat} (hN:0 < N)
include hN
end
section
theorem sN {α β:Type}{F:α->β->Prop}{da:α}{db:β}:∀ {l:List α} {m:List β} {i:Nat},Paired F l m->i < l.length->F (l.getD i da) (m.getD i db)
 | _,_,_,.nil,h=>by simp at h
 | _,_,0,.cons r _,_=>r
 | _,_,i+1,.cons _ t,h=>by simpa using sN (i:=i) t (by simpa using h)
end
theorem tY {α:Type}(d:α):∀l:List α,(List.range l.length).map (fun i=>l.getD i d)=l:=fun l=>by
 apply List.ext_getElem
 · simp
 · intro i h1 h2
   simp at h1
   simp[h1]
end L2
namespace L2
open PySem PySem.W PyProof.Rows
section
variable {prog:Program} {w:World} {A:Around} {E:Value->Shared->Prop} {s:Shared} {κ:SortKind} {it:Array Keyed} {lt:Nat->Nat->Bool} {N:Nat}
def Orc (prog:Program)(w:World)(A:Around)(s:Shared)(κ:SortKind)(it:Array Keyed)(lt:Nat->Nat->Bool)(N:Nat):Prop :=
 ∀(i j:Nat) (C:Bool->Shared->Prop),i < N->j < N->C (lt i j) s->kas_cmp prog w A κ it i j C s
theorem zY2 {i j:Nat}{Q:Option Bool->SortSt->Prop}{st:SortSt}(hq:Orc prog w A s κ it lt N)(hk:kindOf st=κ)(hi:i < N)(hj:j < N)(h:Q (some (lt i j)) st):wpS (model prog w) A E s (lt' (kas_item it i) (kas_item it j)) Q st:=by
 rw[lt'_eq]
 refine Qf (Yk ?_)
 refine Qf (Ii (Iu ?_))
 rw[hk]
 exact Yo (hq i j (fun c s'=>c=lt i j/\s'=s) hi hj ⟨rfl,rfl⟩) (fun c s' ⟨e1,e2⟩=>by subst e1;exact⟨e2,Qv h⟩) fun _ _ z=>z.elim
theorem yI {α:Type}{arr:Array Keyed}{i:Nat}{x:Keyed}{Q:Keyed->SortSt->Prop}{st:SortSt}(hx:arr[i]?=some x)(h:Q x st):wpS (model prog w) A E s (elem' arr i) Q st:=by
 rw[elem'_eq,hx]
 exact Qv h
structure At (it:Array Keyed)(lo:Nat)(pre:Array Keyed)(q:Array Nat)(st:SortSt):Prop where
 arr:arrOf st=pre++q.map fun i=>kas_item it (lo+i)
 pl:pre.size=lo
theorem At.get {lo:Nat}{pre:Array Keyed}{q:Array Nat}{st:SortSt}(h:At it lo pre q st){i:Nat}(hi:i < q.size):(arrOf st)[lo+i]?=some (kas_item it (lo+gg q i)):=by
 rw[h.arr,Wk (by rw[h.pl];lia),h.pl]
 have:lo+i - lo=i:=by lia
 rw[this,qL]
 simp[hi]
theorem zVZ {lo i j:Nat}{pre:Array Keyed}{q:Array Nat}{Q:Option Bool->SortSt->Prop}{st:SortSt}(hq:Orc prog w A s κ it lt N)(hk:kindOf st=κ)(h:At it lo pre q st)(hi:i < q.size)(hj:j < q.size)(bi:lo+gg q i < N)(bj:lo+gg q j < N)
   (hQ:Q (some (lt (lo+gg q i) (lo+gg q j))) st):wpS (model prog w) A E s (ltAt' (lo+i) (lo+j)) Q st:=by
 rw[ltAt'_eq]
 refine Qf (Yk (Qf (yI (α:=Unit) (h.get hi) (Qf (yI (α:=Unit) (h.get hj) ?_)))))
 exact zY2 hq hk bi bj hQ
theorem zWG {α:Type}{pre X:Array α}{i j:Nat}(hj:j<=X.size):mirror (pre++X) (pre.size+i) (pre.size+j) ((pre.size+j - (pre.size+i)) / 2)=pre++mirror X i j ((j - i) / 2):=by
 apply Rx
 intro k
 rw[Ub (by rw[Il];lia)]
 rcases Tr k pre.size with h | h
 · rw[Qa (by lia),Ry h,Ry h]
 · rw[Wk (xs:=pre) (ys:=mirror X i j ((j - i) / 2)) h,Ub hj]
   by_cases c:i<=k - pre.size/\k - pre.size < j
   · rw[Qi (by lia),Qi c,Wk (by lia)]
     congr 1;lia
   · rw[Qa (by lia),Qa c,Wk h]
theorem zWA {α:Type}{pre X:Array α}{k l:Nat}(hk:k < X.size)(hl:l<=k):bubble (pre++X) (pre.size+k) (pre.size+k - (pre.size+l))=pre++bubble X k (k - l):=by
 apply Rx
 intro i
 rw[Oh (by rw[Il];lia) _ (by lia)]
 rcases Tr i pre.size with h | h
 · rw[Qa (by lia),Qa (by lia),Ry h,Ry h]
 · rw[Wk (xs:=pre) (ys:=bubble X k (k - l)) h,Oh hk _ (by lia)]
   by_cases c1:i - pre.size=k - (k - l)
   · rw[Qi (by lia),Qi c1,Wk (by lia)]
     congr 1;lia
   · rw[Qa (by lia),Qa c1]
     by_cases c2:k - (k - l) < i - pre.size/\i - pre.size<=k
     · rw[Qi (by lia),Qi c2,Wk (by lia)]
       congr 1;lia
     · rw[Qa (by lia),Qa c2,Wk h]
theorem zZt {lo i j:Nat}{pre:Array Keyed}{q:Array Nat}{Q:Unit->SortSt->Prop}{st:SortSt}(h:At it lo pre q st)(hj:j<=q.size)(hQ:∀st',At it lo pre (kas_rev q i j) st'->kindOf st'=kindOf st->pendingOf st'=pendingOf st->gallopOf st'=gallopOf st->failedOf st'=failedOf st->Q () st') :
   wpS (model prog w) A E s (reverseSlice' (lo+i) (lo+j)) Q st:=by
 rw[reverseSlice'_eq]
 refine To (hQ _ ⟨?_,h.pl⟩ rfl rfl rfl rfl)
 show mirror (arrOf st) (lo+i) (lo+j) ((lo+j - (lo+i)) / 2)=_
 rw[h.arr]
 have e:=zWG (pre:=pre) (X:=q.map fun i=>kas_item it (lo+i)) (i:=i) (j:=j) (by rw[Om];exact hj)
 rw[h.pl] at e
 rw[e]
 congr 1
 exact kas_swaps_map (fun i=>kas_item it (lo+i)) (fun k=>i+k) (fun k=>j - 1 - k) _ q
theorem zRs {lo k l:Nat}{pre:Array Keyed}{q:Array Nat}{Q:Unit->SortSt->Prop}{st:SortSt}(h:At it lo pre q st)(hk:k < q.size)(hl:l<=k)(hQ:∀st',At it lo pre (bubble q k (k - l)) st'->kindOf st'=kindOf st->pendingOf st'=pendingOf st->gallopOf st'=gallopOf st->failedOf st'=failedOf st->Q () st') :
   wpS (model prog w) A E s (moveDown' (lo+k) (lo+l)) Q st:=by
 rw[moveDown'_eq]
 refine To (hQ _ ⟨?_,h.pl⟩ rfl rfl rfl rfl)
 show bubble (arrOf st) (lo+k) (lo+k - (lo+l))=_
 rw[h.arr]
 have e:=zWA (pre:=pre) (X:=q.map fun i=>kas_item it (lo+i)) (k:=k) (l:=l) (by rw[Om];exact hk) hl
 rw[h.pl] at e
 rw[e]
 congr 1
 exact kas_swaps_map (fun i=>kas_item it (lo+i)) (fun i=>k - i) (fun i=>k - i - 1) _ q
structure Alk (st st':SortSt):Prop where
 k:kindOf st'=kindOf st
 p:pendingOf st'=pendingOf st
 f:failedOf st'=failedOf st
theorem Alk.rfl' {st:SortSt}:Alk st st:=⟨rfl,rfl,rfl⟩
theorem Alk.tr {a b c:SortSt}(h:Alk a b)(h':Alk b c):Alk a c:=⟨h'.k.trans h.k,h'.p.trans h.p,h'.f.trans h.f⟩
theorem zW6 (W:SWO lt)(lo:Nat):SWO fun a b=>lt (lo+a) (lo+b):=⟨fun a=>W.irr _,fun a b c=>W.tr _ _ _,fun a b c=>W.neg _ _ _⟩
theorem Org.bd {M a:Nat}{q:Array Nat}(h:Org M q a){i:Nat}(hi:i < M):gg q i < M:=by
 have h1:i < q.size:=by rw[h.sz];exact hi
 have:gg q i∈q.toList:=by rw[qL];simp[h1]
 simpa using h.pm.subset this
theorem zRU {c:Prop}[Decidable c]{P:StateT SortSt Sem (Option Nat)}{X:StateT SortSt Sem (Option Bool)}{Y:StateT SortSt Sem Unit}{n:Nat}{Q:Option Nat->SortSt->Prop}{st:SortSt}(H:SortSt->Prop)(hP:∀st2,H st2->wpS (model prog w) A E s P Q st2)
   (h1:c->wpS (model prog w) A E s X (fun x st2=>∃r:Bool,x=some r/\(r=true->Q (some n) st2)/\(r=false->wpS (model prog w) A E s Y (fun _ st3=>H st3) st2)) st) (h2:¬c->H st) :
   wpS (model prog w) A E s (if c then(X >>= fun x=>match x with | some r=>if r=true then pure (some n) else(Y >>= fun _=>P) | _=>pure none) else P) Q st:=by
 by_cases hc:c
 · rw[Qi hc]
   refine Qf (Ex (h1 hc) ?_)
   rintro x st2 ⟨r,rfl,a1,a2⟩
   dsimp only
   cases r with
   | true=>rw[Qi rfl];exact Qv (a1 rfl)
   | false=>rw[Qa (by decide)];exact Qf (Ex (a2 rfl) fun _ st3 h3=>hP st3 h3)
 · rw[Qa hc]
   exact hP st (h2 hc)
theorem zUu (W:SWO lt){M:Nat}{p:Array Nat}{k l:Nat}(hk:k < M)(a1:l<=k)(hs:Srt lt p k)(ho:Org M p k)(a2:∀i,i < l->lt (gg p k) (gg p i)=false)(a3:∀i,l<=i->i < k->lt (gg p k) (gg p i)=true):Srt lt (bubble p k (k - l)) (k+1)/\Org M (bubble p k (k - l)) (k+1):=by
 have hks:k < p.size:=by rw[ho.sz];exact hk
 have hkk:gg p k=k:=ho.hi k (Qp _) hk
 refine⟨fun i j hij hj=>?_,⟨by rw[bubble_size];exact ho.sz,(Ox.mp (bubble_perm _ _ _)).trans ho.pm,fun j h1 h2=>?_,fun i hi=>?_⟩⟩
 · have hlo:∀i,i < l->Lx lt (gg p i) (gg p k):=fun i hi=>Lx.of W (a2 i hi) (by rw[hkk];exact ho.lo i (by lia))
   rw[zYP hks a1,zYP hks a1]
   by_cases ei:i=l
   · rw[Qi ei,Qa (by lia),Qi (by lia)]
     exact .inl (a3 _ (by lia) (by lia))
   · rw[Qa ei]
     by_cases ej:j=l
     · rw[Qi ej,Qa (by lia)]
       exact hlo i (by lia)
     · rw[Qa ej]
       by_cases hi':l < i/\i<=k
       · rw[Qi hi',Qi (by lia)]
         exact hs _ _ (by lia) (by lia)
       · rw[Qa hi']
         by_cases hj':l < j/\j<=k
         · rw[Qi hj']
           exact hs _ _ (by lia) (by lia)
         · rw[Qa hj']
           exact hs _ _ (by lia) (by lia)
 · rw[zYP hks a1,Qa (by lia),Qa (by lia)]
   exact ho.hi j (by lia) h2
 · rw[zYP hks a1]
   by_cases e0:i=l
   · rw[Qi e0,hkk];lia
   · rw[Qa e0]
     by_cases e1:l < i/\i<=k
     · rw[Qi e1]
       have:=ho.lo (i - 1) (by lia)
       lia
     · rw[Qa e1]
       have:=ho.lo i (by lia)
       lia
section
variable {lo M:Nat} {pre:Array Keyed} (W:SWO lt) (hq:Orc prog w A s κ it lt N) (hb:lo+M<=N)
include W hq hb
theorem zT9 {q:Array Nat}{Q:Option Nat->SortSt->Prop}{st:SortSt}(hk:kindOf st=κ)(h:At it lo pre q st)(hM:1<=M)(ho:Org M q 1)
   (hQ:∀n q' st',At it lo pre q' st'->Alk st st'->zOw (fun a b=>lt (lo+a) (lo+b)) M (n,q')->Q (some n) st'):wpS (model prog w) A E s (countRun' lo M) Q st:=by
 have WL:=zW6 W lo
 have ask:∀ {q:Array Nat} {st':SortSt} {a:Nat} {i j:Nat} {R:Option Bool->SortSt->Prop},kindOf st'=κ->At it lo pre q st'->Org M q a->i < M->j < M->R (some (lt (lo+gg q i) (lo+gg q j))) st'->wpS (model prog w) A E s (ltAt' (lo+i) (lo+j)) R st':=fun {q st' a i j R} k1 k2 k3 k4 k5 k6 =>
   zVZ hq k1 k2 (by rw[k3.sz];exact k4) (by rw[k3.sz];exact k5) (by have:=k3.bd k4;lia) (by have:=k3.bd k5;lia) k6
 rw[countRun'_eq]
 refine Qf (Ex (Er (I:=fun i c st'=>c=(none,i)/\st'=st/\Srt (fun a b=>lt (lo+a) (lo+b)) q i/\Org M q i)
   (Q:=fun c st'=>∃m,c=(none,m)/\st'=st/\1<=m/\m<=M/\Srt (fun a b=>lt (lo+a) (lo+b)) q m/\Org M q m/\(m < M->lt (lo+gg q m) (lo+gg q (m - 1))=true)) ?step ?fin ⟨rfl,rfl,fun i j hij hj=>by lia,ho⟩) ?post)
 case step =>
   rintro i c st' hi1 hi2 ⟨rfl,rfl,hs,ho⟩
   dsimp only
   have e1:lo+i - 1=lo+(i - 1):=by lia
   rw[e1]
   refine Qf (ask hk h ho hi2 (by lia) ?_)
   dsimp only
   cases hc:lt (lo+gg q i) (lo+gg q (i - 1)) with
   | true =>
     rw[Qi rfl]
     exact Qv ⟨i,rfl,rfl,hi1,by lia,hs,ho,fun _=>hc⟩
   | false =>
     rw[Qa (by decide)]
     exact Qv ⟨rfl,rfl,cS WL hi1 hi2 hs ho hc,ho.next hi2⟩
 case fin =>
   rintro c st' ⟨rfl,rfl,hs,ho⟩
   have e:max 1 M=M:=by lia
   rw[e] at hs ho ⊢
   exact⟨M,rfl,rfl,hM,Qp _,hs,ho,fun z=>absurd z (Wv _)⟩
 case post =>
   rintro c st' ⟨n,rfl,rfl,h1,hn,hs,ho,hlt⟩
   dsimp only
   by_cases hnM:n=M
   · rw[Qi (by simpa using hnM)]
     exact Qv (hQ n q st' h .rfl' ⟨h1,hn,hs,ho⟩)
   rw[Qa (by simpa using hnM)]
   have hlt:=hlt (by lia)
   have hsz:n<=q.size:=by rw[ho.sz];lia
   refine zRU (fun st2=>∃q2,At it lo pre q2 st2/\Alk st' st2/\Fal (fun a b=>lt (lo+a) (lo+b)) M q2 (n+1) 0) ?down ?rose ?one
   case one =>
     intro hn1
     have:n=1:=by lia
     subst this
     refine⟨q,h,.rfl',iX WL (by lia) (by lia) (fun i j hij hj=>by lia) ho fun i hi=>?_⟩
     have:i=0:=by lia
     subst this
     exact hlt
   case rose =>
     intro hn1
     have e1:lo+n - 1=lo+(n - 1):=by lia
     rw[e1]
     have e0:lo=lo+0:=rfl
     refine ask (i:=0) hk h ho (by lia) (by lia) ⟨_,rfl,fun _=>hQ n q st' h .rfl' ⟨h1,hn,hs,ho⟩,fun hc=>?_⟩
     have hall:∀i j,i < j->j < n->lt (lo+gg q i) (lo+gg q j)=false:=fun i j hij hj=>by
       have z0:lt (lo+gg q i) (lo+gg q 0)=false:=by
         by_cases e:i=0
         · subst e;exact W.irr _
         · exact Lx.le WL (hs 0 i (by lia) (by lia))
       have z1:lt (lo+gg q (n - 1)) (lo+gg q j)=false:=by
         by_cases e:j=n - 1
         · subst e;exact W.irr _
         · exact Lx.le WL (hs j (n - 1) (by lia) (by lia))
       exact W.ntr z0 (W.ntr hc z1)
     refine zZt (i:=0) h hsz fun st2 g1 g2 g3 g4 g5=>⟨_,g1,⟨g2,g3,g5⟩,iX WL (by lia) (by lia) (fun i j hij hj=>?_) (ho.rev (by lia)) fun i hi=>?_⟩
     · rw[sA hsz,sA hsz,Qi (by lia),Qi (by lia)]
       exact hs _ _ (by lia) (by lia)
     · show lt _ _=true
       rw[sA hsz,sA hsz,Qa (by lia),Qi (by lia)]
       by_cases e:0+n - 1 - i=n - 1
       · rw[e];exact hlt
       · exact W.eqr hlt (hall _ _ (by lia) (by lia))
   case down =>
     rintro st2 ⟨q2,g1,g2,g3⟩
     refine Qf (Ii (Ts ⟨rfl,?_⟩))
     refine Qf (Ex (Er (I:=fun i c st3=>∃q3 m,c=(none,i,m)/\At it lo pre q3 st3/\Alk st' st3/\Fal (fun a b=>lt (lo+a) (lo+b)) M q3 i m)
       (Q:=fun c st3=>∃q3 i m,c=(none,i,m)/\n+1<=i/\i<=M/\At it lo pre q3 st3/\Alk st' st3/\Fal (fun a b=>lt (lo+a) (lo+b)) M q3 i m) ?dstep ?dfin ⟨q2,0,rfl,g1,g2,g3⟩) ?dpost)
     case dfin =>
       rintro c st3 ⟨q3,m,rfl,a1,a2,a3⟩
       have e:max (n+1) M=M:=by lia
       rw[e] at a3 ⊢
       exact⟨q3,M,m,rfl,by lia,Qp _,a1,a2,a3⟩
     case dstep =>
       rintro i c st3 hi1 hi2 ⟨q3,m,rfl,a1,a2,a3⟩
       dsimp only
       have hm:=a3.hq
       have e1:lo+i - 1=lo+(i - 1):=by lia
       rw[e1]
       have hk3:kindOf st3=κ:=a2.k.trans hk
       refine Qf (ask hk3 a1 a3.og hi2 (by lia) ?_)
       dsimp only
       cases hc:lt (lo+gg q3 i) (lo+gg q3 (i - 1)) with
       | true =>
         rw[Qi rfl]
         have hl:=fun i' hi'=>Fal.less WL a3 hc i' hi'
         by_cases hm0:m > 0
         · rw[Qi hm0]
           have e2:lo+i - (m+1)=lo+(i - (m+1)):=by lia
           rw[e2]
           obtain⟨t1,t2⟩:=Fal.turn WL a3 (by lia)
           have hs3:i<=q3.size:=by rw[a3.og.sz];lia
           refine Qf (zZt a1 hs3 fun st4 b1 b2 b3 b4 b5=>Qv ⟨_,0,rfl,b1,a2.tr ⟨b2,b3,b5⟩,iX WL (by lia) (by lia) t1 t2 fun i' hi'=>?_⟩)
           show lt _ _=true
           rw[sA hs3,sA hs3,Qa (by lia)]
           split
           · exact hl _ (by lia)
           · exact hl _ hi'
         · rw[Qa hm0]
           have:m=0:=by lia
           subst this
           exact Qv ⟨q3,0,rfl,a1,a2,iX WL (by lia) (by lia) (Fal.dcr WL a3) a3.og hl⟩
       | false =>
         rw[Qa (by decide)]
         refine Qf (ask hk3 a1 a3.og (by lia) hi2 ?_)
         dsimp only
         cases hd:lt (lo+gg q3 (i - 1)) (lo+gg q3 i) with
         | true =>
           rw[Qi rfl]
           exact Qv ⟨q3,i,m,rfl,hi1,by lia,a1,a2,a3⟩
         | false =>
           rw[Qa (by decide)]
           have hnn:gg q3 i=i:=a3.og.hi i (by lia) (by lia)
           refine Qv ⟨q3,m+1,rfl,a1,a2,by lia,fun x y hxy hy=>a3.dn x y hxy (by lia),fun x y hx hy hy'=>?_,fun x y hx hxy hy=>?_,a3.og.next (by lia)⟩
           · by_cases e:y=i
             · subst e;exact WL.eql (a3.ac x (y - 1) (by lia) (by lia) (by lia)) hd
             · exact a3.ac x y (by lia) (by lia) (by lia)
           · by_cases e:y=i
             · subst e
               obtain⟨l1,l2⟩:=Fal.last WL a3 (i:=x) (by lia) (by lia)
               exact⟨WL.ntr l1 hd,WL.ntr hc l2,by rw[hnn];exact a3.og.lo x (by lia)⟩
             · exact a3.eq x y (by lia) hxy (by lia)
     case dpost =>
       rintro c st3 ⟨q3,i,m,rfl,hi1,hi2,a1,a2,a3⟩
       dsimp only
       have hm:=a3.hq
       have hs3:i<=q3.size:=by rw[a3.og.sz];lia
       -- turned as a whole, and what rises zZb it
       have tail:∀(q4:Array Nat) (st4:SortSt),At it lo pre q4 st4->Alk st' st4->Dcr (fun a b=>lt (lo+a) (lo+b)) q4 i->Org M q4 i->wpS (model prog w) A E s (reverseSlice' lo (lo+i)) (fun _ st5=>∃q5,At it lo pre q5 st5/\Alk st' st5/\Srt (fun a b=>lt (lo+a) (lo+b)) q5 i/\Org M q5 i) st4:=fun q4 st4 b1 b2 b3 b4=>by
         have hs4:i<=q4.size:=by rw[b4.sz];lia
         exact zZt (i:=0) b1 hs4 fun st5 c1 c2 c3 c4 c5=>⟨_,c1,b2.tr ⟨c2,c3,c5⟩,zSu hs4 b3,b4.rev hi2⟩
       by_cases hm0:m > 0
       · rw[Qi hm0]
         have e2:lo+i - (m+1)=lo+(i - (m+1)):=by lia
         rw[e2]
         obtain⟨t1,t2⟩:=Fal.turn WL a3 hi2
         refine Qf (zZt a1 hs3 fun st4 b1 b2 b3 b4 b5=>Qf (Ex (tail _ st4 b1 (a2.tr ⟨b2,b3,b5⟩) t1 t2) ?_))
         rintro _ st5 ⟨q5,c1,c2,c3,c4⟩
         refine Qf (Ex (Er (I:=fun k c st6=>c=(none,k)/\st6=st5/\Srt (fun a b=>lt (lo+a) (lo+b)) q5 k/\Org M q5 k) (Q:=fun c st6=>∃k,c=(none,k)/\st6=st5/\i<=k/\k<=M/\Srt (fun a b=>lt (lo+a) (lo+b)) q5 k/\Org M q5 k) ?_ ?_ ⟨rfl,rfl,c3,c4⟩) ?_)
         · intro k c st6 hk1 hk2 hI
           obtain⟨rfl,rfl,s1,s2⟩:=hI
           dsimp only
           have e1:lo+k - 1=lo+(k - 1):=by lia
           rw[e1]
           refine Qf (ask (c2.k.trans hk) c1 s2 hk2 (by lia) ?_)
           dsimp only
           cases hc:lt (lo+gg q5 k) (lo+gg q5 (k - 1)) with
           | true=>rw[Qi rfl];exact Qv ⟨k,rfl,rfl,hk1,by lia,s1,s2⟩
           | false=>rw[Qa (by decide)];exact Qv ⟨rfl,rfl,cS WL (by lia) hk2 s1 s2 hc,s2.next hk2⟩
         · rintro c st6 ⟨rfl,rfl,s1,s2⟩
           have e:max i M=M:=by lia
           rw[e] at s1 s2 ⊢
           exact⟨M,rfl,rfl,hi2,Qp _,s1,s2⟩
         · rintro c st6 ⟨k,rfl,rfl,k1,k2,s1,s2⟩
           exact Qv (hQ k q5 st6 c1 c2 ⟨by show 1<=k;lia,k2,s1,s2⟩)
       · rw[Qa hm0]
         have:m=0:=by lia
         subst this
         refine Qf (Ex (tail _ st3 a1 a2 (Fal.dcr WL a3) a3.og) ?_)
         rintro _ st5 ⟨q5,c1,c2,c3,c4⟩
         refine Qf (Ex (Er (I:=fun k c st6=>c=(none,k)/\st6=st5/\Srt (fun a b=>lt (lo+a) (lo+b)) q5 k/\Org M q5 k) (Q:=fun c st6=>∃k,c=(none,k)/\st6=st5/\i<=k/\k<=M/\Srt (fun a b=>lt (lo+a) (lo+b)) q5 k/\Org M q5 k) ?_ ?_ ⟨rfl,rfl,c3,c4⟩) ?_)
         · intro k c st6 hk1 hk2 hI
           obtain⟨rfl,rfl,s1,s2⟩:=hI
           dsimp only
           have e1:lo+k - 1=lo+(k - 1):=by lia
           rw[e1]
           refine Qf (ask (c2.k.trans hk) c1 s2 hk2 (by lia) ?_)
           dsimp only
           cases hc:lt (lo+gg q5 k) (lo+gg q5 (k - 1)) with
           | true=>rw[Qi rfl];exact Qv ⟨k,rfl,rfl,hk1,by lia,s1,s2⟩
           | false=>rw[Qa (by decide)];exact Qv ⟨rfl,rfl,cS WL (by lia) hk2 s1 s2 hc,s2.next hk2⟩
         · rintro c st6 ⟨rfl,rfl,s1,s2⟩
           have e:max i M=M:=by lia
           rw[e] at s1 s2 ⊢
           exact⟨M,rfl,rfl,hi2,Qp _,s1,s2⟩
         · rintro c st6 ⟨k,rfl,rfl,k1,k2,s1,s2⟩
           exact Qv (hQ k q5 st6 c1 c2 ⟨by show 1<=k;lia,k2,s1,s2⟩)
theorem zQw {q:Array Nat}{n m:Nat}{Q:Bool->SortSt->Prop}{st:SortSt}(hk:kindOf st=κ)(h:At it lo pre q st)(h1:1<=n)(hnm:n<=m)(hmM:m<=M)(hs:Srt (fun a b=>lt (lo+a) (lo+b)) q n)(ho:Org M q n)
   (hQ:∀q' st',At it lo pre q' st'->Alk st st'->Srt (fun a b=>lt (lo+a) (lo+b)) q' m->Org M q' m->Q true st'):wpS (model prog w) A E s (binarySort' lo m n) Q st:=by
 have WL:=zW6 W lo
 rw[binarySort'_eq]
 have e1:max n 1=n:=by lia
 rw[e1]
 refine Qf (Ex (Er (I:=fun k c st2=>c=(none,())/\∃q2,At it lo pre q2 st2/\Alk st st2/\Srt (fun a b=>lt (lo+a) (lo+b)) q2 k/\Org M q2 k) (Q:=fun c st2=>c=(none,())/\∃q2,At it lo pre q2 st2/\Alk st st2/\Srt (fun a b=>lt (lo+a) (lo+b)) q2 m/\Org M q2 m) ?step ?fin ⟨rfl,q,h,.rfl',hs,ho⟩) ?post)
 case fin =>
   rintro c st2 ⟨rfl,q2,a1,a2,a3,a4⟩
   have e:max n m=m:=by lia
   rw[e] at a3 a4
   exact⟨rfl,q2,a1,a2,a3,a4⟩
 case post =>
   rintro c st2 ⟨rfl,q2,a1,a2,a3,a4⟩
   exact Qv (hQ q2 st2 a1 a2 a3 a4)
 case step =>
   rintro k c st2 hk1 hk2 ⟨rfl,q2,a1,a2,a3,a4⟩
   dsimp only
   refine Qf (Ex (Er (I:=fun x c st3=>st3=st2/\∃l r,c=(none,l,r)/\l<=r/\r<=k/\r - l<=k - x/\(∀i,i < l->lt (lo+gg q2 k) (lo+gg q2 i)=false)/\(∀i,r<=i->i < k->lt (lo+gg q2 k) (lo+gg q2 i)=true))
     (Q:=fun c st3=>st3=st2/\∃l r,c=(none,l,r)/\l<=k/\(∀i,i < l->lt (lo+gg q2 k) (lo+gg q2 i)=false)/\(∀i,l<=i->i < k->lt (lo+gg q2 k) (lo+gg q2 i)=true)) ?istep ?ifin ⟨rfl,0,k,rfl,Ee _,Qp _,Qp _,fun i hi=>by lia,fun i h1 h2=>by lia⟩) ?ipost)
   case ifin =>
     rintro c st3 ⟨rfl,l,r,rfl,b1,b2,b3,b4,b5⟩
     have:r - l<=k - max 0 k:=b3
     exact⟨rfl,l,r,rfl,by lia,b4,fun i hi=>b5 i (by lia)⟩
   case istep =>
     rintro x c st3 hx1 hx2 ⟨rfl,l,r,rfl,b1,b2,b3,b4,b5⟩
     dsimp only
     by_cases hge:l≥r
     · rw[Qi hge]
       exact Qv ⟨rfl,l,r,rfl,by lia,b4,fun i hi=>b5 i (by lia)⟩
     · rw[Qa hge]
       refine Qf (zVZ hq (a2.k.trans hk) a1 (by rw[a4.sz];lia) (by rw[a4.sz];lia) (by have:=a4.bd (i:=k) (by lia);lia) (by have:=a4.bd (i:=(l+r) / 2) (by lia);lia) ?_)
       dsimp only
       cases hc:lt (lo+gg q2 k) (lo+gg q2 ((l+r) / 2)) with
       | true =>
         rw[Qi rfl]
         refine Qv ⟨rfl,l,(l+r) / 2,rfl,by lia,by lia,by lia,b4,fun i hi hik=>?_⟩
         by_cases e:i=(l+r) / 2
         · rw[e];exact hc
         · exact W.eqr hc (Lx.le WL (a3 ((l+r) / 2) i (by lia) hik))
       | false =>
         rw[Qa (by decide)]
         refine Qv ⟨rfl,(l+r) / 2+1,r,rfl,by lia,b2,by lia,fun i hi=>?_,b5⟩
         by_cases e:i=(l+r) / 2
         · rw[e];exact hc
         · exact W.ntr hc (Lx.le WL (a3 i ((l+r) / 2) (by lia) (by lia)))
   case ipost =>
     rintro c st3 ⟨rfl,l,r,rfl,b1,b2,b3⟩
     dsimp only
     obtain⟨t1,t2⟩:=zUu WL (by lia) b1 a3 a4 b2 b3
     exact Qf (zRs a1 (by rw[a4.sz];lia) b1 fun st4 c1 c2 c3 c4 c5=>Qv ⟨rfl,_,c1,a2.tr ⟨c2,c3,c5⟩,t1,t2⟩)
end
end
end L2
namespace L2
open PySem PySem.W PyProof.Rows
def zSw:Bool->Keyed->Array Keyed->Nat->Nat->Nat->StateT SortSt Sem (Option Nat):=sortPriv% PySem.Builtin.gallop
section
variable {prog:Program} {w:World} {A:Around} {E:Value->Shared->Prop} {s:Shared} {κ:SortKind} {it:Array Keyed} {lt:Nat->Nat->Bool} {N:Nat}
abbrev GSt:=Option (Option Nat)×Nat×Nat
theorem zZ6 {n:Nat}{body:Nat->GSt->StateT SortSt Sem (ForInStep GSt)}{bd:Nat->Bool}{st:SortSt}{Q:GSt->SortSt->Prop}(mono:∀i j,i<=j->j < n->bd j=true->bd i=true)
   (h1:∀x lo hi,lo≥hi->body x (none,lo,hi)=pure (.done (none,lo,hi)))
   (h2:∀x lo hi (R:ForInStep GSt->SortSt->Prop),lo < hi->hi<=n->(bd (lo+(hi - lo) / 2)=true->R (.yield (none,lo+(hi - lo) / 2+1,hi)) st)->(bd (lo+(hi - lo) / 2)=false->R (.yield (none,lo,lo+(hi - lo) / 2)) st)->wpS (model prog w) A E s (body x (none,lo,hi)) R st)
   {lo hi:Nat} (hlh:lo<=hi) (hhn:hi<=n) (a1:∀i,i < lo->bd i=true) (a2:∀i,hi<=i->i < n->bd i=false)
   (hQ:∀l r,r<=n->(∀i,i < r->bd i=true)->(∀i,r<=i->i < n->bd i=false)->Q (none,l,r) st):wpS (model prog w) A E s (forIn [0:n] ((none,lo,hi):GSt) body) Q st:=by
 refine Ex (Er (I:=fun x c st'=>st'=st/\∃l r,c=(none,l,r)/\l<=r/\r<=n/\r - l<=n - x/\(∀i,i < l->bd i=true)/\(∀i,r<=i->i < n->bd i=false))
   (Q:=fun c st'=>st'=st/\∃l r,c=(none,l,r)/\r<=n/\(∀i,i < r->bd i=true)/\(∀i,r<=i->i < n->bd i=false)) ?step ?fin ⟨rfl,lo,hi,rfl,hlh,hhn,by lia,a1,a2⟩) ?post
 case fin =>
   rintro c st' ⟨rfl,l,r,rfl,b1,b2,b3,b4,b5⟩
   exact⟨rfl,l,r,rfl,b2,fun i hi=>b4 i (by lia),b5⟩
 case post =>
   rintro c st' ⟨rfl,l,r,rfl,b1,b2,b3⟩
   exact hQ l r b1 b2 b3
 case step =>
   rintro x c st' _ hx ⟨rfl,l,r,rfl,b1,b2,b3,b4,b5⟩
   by_cases hge:l≥r
   · rw[h1 x l r hge]
     exact Qv ⟨rfl,l,r,rfl,b2,fun i hi=>b4 i (by lia),b5⟩
   · refine h2 x l r _ (by lia) b2 (fun hc=>?_) fun hc=>?_
     · exact⟨rfl,_,_,rfl,by lia,b2,by lia,fun i hi=>mono i _ (by lia) (by lia) hc,b5⟩
     · refine⟨rfl,_,_,rfl,by lia,by lia,by lia,b4,fun i hi hin=>?_⟩
       cases hb:bd i with
       | false=>rfl
       | true=>rw[mono _ i hi hin hb] at hc;cases hc
theorem zTI {n mx:Nat}{body:Nat->GSt->StateT SortSt Sem (ForInStep GSt)}{go:Nat->Bool}{st:SortSt}{Q:GSt->SortSt->Prop}(hmx:mx<=n)(hm1:1<=mx)
   (h1:∀x l o,o≥mx->body x (none,l,o)=pure (.done (none,l,o)))
   (h2:∀x l o (R:ForInStep GSt->SortSt->Prop),1<=o->o < mx->(go o=true->R (.yield (none,o,2*o+1)) st)->(go o=false->R (.done (none,l,o)) st)->wpS (model prog w) A E s (body x (none,l,o)) R st) (h0:go 0=true)
   (hQ:∀l o,l < o->l < mx->go l=true->(o≥mx∨go o=false)->Q (none,l,o) st):wpS (model prog w) A E s (forIn [0:n] ((none,0,1):GSt) body) Q st:=by
 refine Ex (Er (I:=fun x c st'=>st'=st/\∃l o,c=(none,l,o)/\l < o/\l < mx/\go l=true/\x+1<=o)
   (Q:=fun c st'=>st'=st/\∃l o,c=(none,l,o)/\l < o/\l < mx/\go l=true/\(o≥mx∨go o=false)) ?step ?fin ⟨rfl,0,1,rfl,by lia,by lia,h0,by lia⟩) ?post
 case fin =>
   rintro c st' ⟨rfl,l,o,rfl,b1,b2,b3,b4⟩
   have:max 0 n+1<=o:=b4
   exact⟨rfl,l,o,rfl,b1,b2,b3,.inl (by lia)⟩
 case post =>
   rintro c st' ⟨rfl,l,o,rfl,b1,b2,b3,b4⟩
   exact hQ l o b1 b2 b3 b4
 case step =>
   rintro x c st' _ hx ⟨rfl,l,o,rfl,b1,b2,b3,b4⟩
   by_cases hge:o≥mx
   · rw[h1 x l o hge]
     exact Qv ⟨rfl,l,o,rfl,b1,b2,b3,.inl hge⟩
   · exact h2 x l o _ (by lia) (by lia) (fun hc=>⟨rfl,_,_,rfl,by lia,by lia,hc,by lia⟩) fun hc=>⟨rfl,l,o,rfl,b1,b2,b3,.inr hc⟩
theorem rJ {left:Bool}{kk base n hint:Nat}{arr:Array Keyed}{f:Nat->Nat}{Q:Option Nat->SortSt->Prop}{st:SortSt}(hq:Orc prog w A s κ it lt N)(hk:kindOf st=κ)(hkk:kk < N)(hf:∀i,i < n->arr[base+i]?=some (kas_item it (f i))/\f i < N)
   (bd:Nat->Bool) (hbd:∀i,bd i=if left=true then lt (f i) kk else !lt kk (f i)) (mono:∀i j,i<=j->j < n->bd j=true->bd i=true) (hh:hint < n)
   (hQ:∀r,r<=n->(∀i,i < r->bd i=true)->(∀i,r<=i->i < n->bd i=false)->Q (some r) st):wpS (model prog w) A E s (zSw left (kas_item it kk) arr base n hint) Q st:=by
 have ask:∀i (R:Option Bool->SortSt->Prop),i < n->R (some (bd i)) st->wpS (model prog w) A E s (elem' arr (base+i) >>= fun x=>if left=true then lt' x (kas_item it kk) else(lt' (kas_item it kk) x >>= fun b=>pure (b.map (!·)))) R st:=fun i R hi hR=>by
   obtain⟨e1,e2⟩:=hf i hi
   refine Qf (yI (α:=Unit) e1 ?_)
   have e:=hbd i
   cases left with
   | true =>
     rw[Qi rfl] at e ⊢
     exact zY2 hq hk e2 hkk (by rw[←e];exact hR)
   | false =>
     rw[Qa (by decide)] at e ⊢
     refine Qf (zY2 hq hk hkk e2 (Qv ?_))
     show R (some (!lt kk (f i))) st
     rw[←e];exact hR
 refine Qf (ask hint _ hh ?_)
 dsimp only
 cases hr:bd hint with
 | true =>
   rw[Qi rfl]
   refine Qf (zTI (mx:=n - hint) (go:=fun o=>bd (hint+o)) (by lia) (by lia) (fun x l o ho=>?_) (fun x l o R o1 o2 g1 g2=>?_) hr fun l o b1 b2 b3 b4=>?_)
   · exact Qi ho
   · refine(Ep (fun m=>wpS (model prog w) A E s m R st) (Qa (Nat.not_le.mpr o2))).mpr ?_
     refine Qf (ask (hint+o) _ (by lia) ?_)
     dsimp only
     cases hc:bd (hint+o) with
     | true=>rw[Qa (by decide)];exact Qv (g1 hc)
     | false=>rw[Qi (show(!false)=true from rfl)];exact Qv (g2 hc)
   · dsimp only
     refine Qf (zZ6 (bd:=bd) mono (fun x l r hx=>Qi hx) (fun x l r R q1 q2 g1 g2=>?_) (by lia) (by lia) (fun i hi=>mono i (hint+l) (by lia) (by lia) b3) (fun i h1 h2=>?_) fun l' r q1 q2 q3=>Qv (hQ r q1 q2 q3))
     · refine(Ep (fun m=>wpS (model prog w) A E s m R st) (Qa (Nat.not_le.mpr q1))).mpr ?_
       refine Qf (ask (l+(r - l) / 2) _ (by lia) ?_)
       dsimp only
       cases hc:bd (l+(r - l) / 2) with
       | true=>rw[Qi rfl];exact Qv (g1 hc)
       | false=>rw[Qa (by decide)];exact Qv (g2 hc)
     · rcases b4 with b4 | b4
       · lia
       · cases hb:bd i with
         | false=>rfl
         | true=>rw[mono (hint+o) i (by lia) h2 hb] at b4;cases b4
 | false =>
   rw[Qa (by decide)]
   refine Qf (zTI (mx:=hint+1) (go:=fun o => !bd (hint - o)) (by lia) (by lia) (fun x l o ho=>?_) (fun x l o R o1 o2 g1 g2=>?_) (by show(!bd (hint - 0))=true;rw[Nat.sub_zero,hr];rfl) fun l o b1 b2 b3 b4=>?_)
   · exact Qi ho
   · refine(Ep (fun m=>wpS (model prog w) A E s m R st) (Qa (Nat.not_le.mpr o2))).mpr ?_
     refine Qf (ask (hint - o) _ (by lia) ?_)
     dsimp only
     cases hc:bd (hint - o) with
     | true=>rw[Qi rfl];exact Qv (g2 (by show(!bd (hint - o))=false;rw[hc];rfl))
     | false=>rw[Qa (by decide)];exact Qv (g1 (by show(!bd (hint - o))=true;rw[hc];rfl))
   · dsimp only
     have b3':bd (hint - l)=false:=by simpa using b3
     refine Qf (zZ6 (bd:=bd) mono (fun x l r hx=>Qi hx) (fun x l r R q1 q2 g1 g2=>?_) (by lia) (by lia) (fun i hi=>?_) (fun i h1 h2=>?_) fun l' r q1 q2 q3=>Qv (hQ r q1 q2 q3))
     · refine(Ep (fun m=>wpS (model prog w) A E s m R st) (Qa (Nat.not_le.mpr q1))).mpr ?_
       refine Qf (ask (l+(r - l) / 2) _ (by lia) ?_)
       dsimp only
       cases hc:bd (l+(r - l) / 2) with
       | true=>rw[Qi rfl];exact Qv (g1 hc)
       | false=>rw[Qa (by decide)];exact Qv (g2 hc)
     · rcases b4 with b4 | b4
       · lia
       · have b4':bd (hint - o)=true:=by simpa using b4
         exact mono i (hint - o) (by lia) (by lia) b4'
     · cases hb:bd i with
       | false=>rfl
       | true=>rw[mono (hint - l) i (by lia) h2 hb] at b3';cases b3'
end
end L2
namespace L2
open PySem PySem.W PyProof.Rows
section
variable {lt:Nat->Nat->Bool} {xs ys os:List Nat} {ia ib k:Nat}
structure Two (lt:Nat->Nat->Bool)(xs ys:List Nat):Prop where
 x:xs.Pairwise (Lx lt)
 y:ys.Pairwise (Lx lt)
 o:∀a∈xs,∀b∈ys,a < b
def Mrg (lt:Nat->Nat->Bool)(xs ys zs:List Nat):Prop:=zs.Perm (xs++ys)/\zs.Pairwise (Lx lt)
structure Far (lt:Nat->Nat->Bool)(xs ys os:List Nat)(ia ib:Nat):Prop where
 pm:os.Perm (xs.take ia++ys.take ib)
 up:os.Pairwise (Lx lt)
 lx:∀o∈os,∀x∈xs.drop ia,Lx lt o x
 ly:∀o∈os,∀y∈ys.drop ib,Lx lt o y
theorem take_add (l:List Nat)(i k:Nat):l.take (i+k)=l.take i++(l.drop i).take k:=List.take_add
theorem zXv {l:List Nat}{i k:Nat}{x:Nat}(h:x∈l.drop (i+k)):x∈l.drop i:=by
 rw[←Pq] at h
 exact Wl h
theorem qM {l:List Nat}(h:l.Pairwise (Lx lt))(i:Nat):(l.drop i).Pairwise (Lx lt):=h.sublist (Ix _ _)
theorem aZ {l:List Nat}(h:l.Pairwise (Lx lt))(k:Nat):∀a∈l.take k,∀b∈l.drop k,Lx lt a b:=by
 have e:l=l.take k++l.drop k:=(Wn k l).symm
 rw[e] at h
 exact fun a ha b hb=>(Qc.mp h).2.2 a ha b hb
theorem Far.pY (T:Two lt xs ys)(h:Far lt xs ys os ia ib)(k:Nat)(hk:∀y∈(ys.drop ib).take k,∀x∈xs.drop ia,Lx lt y x):Far lt xs ys (os++(ys.drop ib).take k) ia (ib+k):=by
 refine⟨?_,?_,fun o ho x hx=>?_,fun o ho y hy=>?_⟩
 · rw[take_add,←Qm]
   exact h.pm.append_right _
 · refine Qc.mpr ⟨h.up,(qM T.y ib).sublist (Ei _ _),fun a ha b hb=>h.ly a ha b (Wz hb)⟩
 · rcases Qn.mp ho with ho | ho
   · exact h.lx o ho x hx
   · exact hk o ho x hx
 · rcases Qn.mp ho with ho | ho
   · exact h.ly o ho y (zXv hy)
   · rw[←Pq] at hy
     exact aZ (qM T.y ib) k o ho y hy
theorem Far.pX (T:Two lt xs ys)(h:Far lt xs ys os ia ib)(k:Nat)(hk:∀x∈(xs.drop ia).take k,∀y∈ys.drop ib,Lx lt x y):Far lt xs ys (os++(xs.drop ia).take k) (ia+k) ib:=by
 refine⟨?_,?_,fun o ho x hx=>?_,fun o ho y hy=>?_⟩
 · rw[take_add]
   refine(h.pm.append_right _).trans ?_
   rw[Qm,Qm]
   exact(Eo).append_left _
 · refine Qc.mpr ⟨h.up,(qM T.x ia).sublist (Ei _ _),fun a ha b hb=>h.lx a ha b (Wz hb)⟩
 · rcases Qn.mp ho with ho | ho
   · exact h.lx o ho x (zXv hx)
   · rw[←Pq] at hx
     exact aZ (qM T.x ia) k o ho x hx
 · rcases Qn.mp ho with ho | ho
   · exact h.ly o ho y hy
   · exact hk o ho y hy
theorem Far.pmAll (h:Far lt xs ys os ia ib):(os++(xs.drop ia++ys.drop ib)).Perm (xs++ys):=by
 refine(h.pm.append_right _).trans ?_
 have e:xs++ys=(xs.take ia++xs.drop ia)++(ys.take ib++ys.drop ib):=by rw[Wn,Wn]
 rw[e,Qm,Qm]
 refine List.Perm.append_left _ ?_
 rw[←Qm,←Qm]
 exact(Eo).append_right _
theorem Far.done (T:Two lt xs ys)(h:Far lt xs ys os ia ib)(hx:∀x∈xs.drop ia,∀y∈ys.drop ib,Lx lt x y):Mrg lt xs ys (os++xs.drop ia++ys.drop ib):=by
 rw[Qm]
 refine⟨h.pmAll,Qc.mpr ⟨h.up,Qc.mpr ⟨qM T.x ia,qM T.y ib,hx⟩,fun a ha b hb=>?_⟩⟩
 rcases Qn.mp hb with hb | hb
 · exact h.lx a ha b hb
 · exact h.ly a ha b hb
theorem Far.last (T:Two lt xs ys)(h:Far lt xs ys os ia ib)(hx:∀y∈ys.drop ib,∀x∈xs.drop ia,Lx lt y x):Mrg lt xs ys (os++ys.drop ib++xs.drop ia):=by
 rw[Qm]
 refine⟨((Eo).append_left _).trans h.pmAll,Qc.mpr ⟨h.up,Qc.mpr ⟨qM T.y ib,qM T.x ia,hx⟩,fun a ha b hb=>?_⟩⟩
 rcases Qn.mp hb with hb | hb
 · exact h.ly a ha b hb
 · exact h.lx a ha b hb
end
end L2
namespace L2
open PySem PySem.W PyProof.Rows
def zTD:Array Keyed->Array Keyed->StateT SortSt Sem (Array Keyed):=sortPriv% PySem.Builtin.mergeLo
def Ar (it:Array Keyed)(l:List Nat):Array Keyed:=(l.map (kas_item it)).toArray
section
variable {it:Array Keyed}
theorem zF (l:List Nat):(Ar it l).size=l.length:=by simp[Ar]
theorem xL {l:List Nat}{i:Nat}(h:i < l.length):(Ar it l)[i]?=some (kas_item it (l.getD i 0)):=by simp[Ar,h]
theorem xP (l m:List Nat):Ar it l++Ar it m=Ar it (l++m):=by simp[Ar]
theorem iA (l:List Nat)(x:Nat):(Ar it l).push (kas_item it x)=Ar it (l++[x]):=by simp[Ar]
theorem wY (l:List Nat)(i:Nat):(Ar it l).extract i (Ar it l).size=Ar it (l.drop i):=by
 apply Ev.mp
 simp[Ar,Yu]
 rw[Ed (by simp)]
theorem zXc (l:List Nat)(i k:Nat):(Ar it l).extract i (i+k)=Ar it ((l.drop i).take k):=by
 apply Ev.mp
 simp[Ar,Yu,Tk]
theorem yN {l:List Nat}{i:Nat}(h:i < l.length):l.getD i 0∈l:=by simp[h]
theorem zVl {l:List Nat}{i:Nat}(h:i < l.length):l.drop i=l.getD i 0::l.drop (i+1):=by
 rw[Ey h];simp[h]
theorem vB {l:List Nat}{i:Nat}(h:i < l.length):(l.drop i).take 1=[l.getD i 0]:=by rw[zVl h];rfl
theorem pQ {l:List Nat}{i k x:Nat}(h:x∈(l.drop i).take k):∃j,j < k/\i+j < l.length/\x=l.getD (i+j) 0:=by
 obtain⟨j,hj,e⟩:=List.mem_iff_getElem.mp h
 have h1:j < k/\j < (l.drop i).length:=by rw[Qh] at hj;lia
 have h2:i+j < l.length:=by rw[Wi] at h1;lia
 refine⟨j,h1.1,h2,?_⟩
 rw[←e]
 simp[h2]
theorem pA {l:List Nat}{i x:Nat}(h:x∈l.drop i):∃j,i+j < l.length/\x=l.getD (i+j) 0:=by
 obtain⟨j,hj,e⟩:=List.mem_iff_getElem.mp h
 have h2:i+j < l.length:=by rw[Wi] at hj;lia
 exact⟨j,h2,by rw[←e];simp[h2]⟩
theorem lH {lt:Nat->Nat->Bool}{l:List Nat}(h:l.Pairwise (Lx lt)){i j:Nat}(hij:i < j)(hj:j < l.length):Lx lt (l.getD i 0) (l.getD j 0):=by
 have:=Ra.mp h i j (by lia) hj hij
 have hi:i < l.length:=by lia
 simpa [hi,hj] using this
structure Gly (st st':SortSt):Prop where
 k:kindOf st'=kindOf st
 a:arrOf st'=arrOf st
 p:pendingOf st'=pendingOf st
 f:failedOf st'=failedOf st
theorem Gly.rfl' {st:SortSt}:Gly st st:=⟨rfl,rfl,rfl,rfl⟩
variable {prog:Program} {w:World} {A:Around} {E:Value->Shared->Prop} {s:Shared} {κ:SortKind} {lt:Nat->Nat->Bool} {N:Nat}
theorem zXA {α:Type}{c:Prop}{dc:Decidable c}{F:Nat->StateT SortSt Sem α}{a b:Nat}{Q:α->SortSt->Prop}{st:SortSt}(h:∀g,wpS (model prog w) A E s (F g) Q st):wpS (model prog w) A E s (if c then F a else F b) Q st:=by
 split
 · exact h a
 · exact h b
theorem zOO {xs ys:List Nat}{Q:Array Keyed->SortSt->Prop}{st:SortSt}(W:SWO lt)(hq:Orc prog w A s κ it lt N)(hk:kindOf st=κ)(T:Two lt xs ys)(hxN:∀i∈xs,i < N)(hyN:∀i∈ys,i < N)(hx:0 < xs.length)(hy:0 < ys.length)
   (h1:lt (ys.getD 0 0) (xs.getD 0 0)=true) (h2:lt (ys.getD (ys.length - 1) 0) (xs.getD (xs.length - 1) 0)=true) (hQ:∀zs st',Mrg lt xs ys zs->Gly st st'->Q (Ar it zs) st'):wpS (model prog w) A E s (zTD (Ar it xs) (Ar it ys)) Q st:=by
 have lastY:∀y∈ys,lt y (xs.getD (xs.length - 1) 0)=true:=fun y hy'=>by
   obtain⟨j,hj,rfl⟩:=pA (i:=0) (by simpa using hy')
   by_cases e:0+j=ys.length - 1
   · rw[e];exact h2
   · exact W.eql h2 (Lx.le W (lH T.y (i:=0+j) (j:=ys.length - 1) (by lia) (by lia)))
 have lastL:∀ {ia ib:Nat},ia+1=xs.length->∀y∈ys.drop ib,∀x∈xs.drop ia,Lx lt y x:=fun {ia ib} e y hy' x hx'=>by
   obtain⟨j,hj,rfl⟩:=pA hx'
   have:ia+j=xs.length - 1:=by lia
   rw[this]
   exact .inl (lastY y (Wl hy'))
 -- what is less than the first of the rest is less than the rest
 have lessX:∀ {y ia:Nat},ia < xs.length->lt y (xs.getD ia 0)=true->∀x∈xs.drop ia,Lx lt y x:=fun {y ia} hia hc x hx'=>by
   obtain⟨j,hj,rfl⟩:=pA hx'
   cases j with
   | zero=>exact .inl hc
   | succ j=>exact Lx.trans W (.inl hc) (lH T.x (by lia) hj)
 have lessY:∀ {ia ib:Nat},ia < xs.length->ib < ys.length->lt (ys.getD ib 0) (xs.getD ia 0)=false->∀y∈ys.drop ib,Lx lt (xs.getD ia 0) y:=fun {ia ib} hia hib hc y hy'=>by
   obtain⟨j,hj,rfl⟩:=pA hy'
   have l0:Lx lt (xs.getD ia 0) (ys.getD ib 0):=Lx.of W hc (T.o _ (yN hia) _ (yN hib))
   cases j with
   | zero=>exact l0
   | succ j=>exact Lx.trans W l0 (lH T.y (by lia) hj)
 have F0:Far lt xs ys [] 0 0:=⟨by simp,.nil,fun o ho=>(nomatch ho),fun o ho=>(nomatch ho)⟩
 have F1:Far lt xs ys [ys.getD 0 0] 0 1:=by
   have:=F0.pY T 1 (fun y hy' x hx'=>by rw[vB hy] at hy';rw[Wq.mp hy'];exact lessX hx h1 x hx')
   rw[vB hy] at this
   simpa using this
 refine Qf (Ii (Ts ⟨rfl,?_⟩))
 refine Qf (yI (α:=Unit) (xL hy) ?_)
 dsimp only
 have eo:(#[kas_item it (ys.getD 0 0)]:Array Keyed)=Ar it [ys.getD 0 0]:=rfl
 rw[eo]
 by_cases hb1:1=ys.length
 · rw[Qi (by rw[zF];simpa using hb1),wY,wY,xP,xP]
   refine Qv (hQ _ _ (F1.done T fun x _ y hy'=>?_) .rfl')
   rw[Eg (by lia)] at hy'
   cases hy'
 rw[Qa (by rw[zF];simpa using hb1)]
 by_cases ha1:0+1=xs.length
 · rw[Qi (by rw[zF];simpa using ha1),wY,wY,xP,xP]
   exact Qv (hQ _ _ (F1.last T (lastL ha1)) .rfl')
 rw[Qa (by rw[zF];simpa using ha1)]
 refine Qf (Yk ?_)
 refine Qf (Ex (Er (I:=fun x c st'=>∃o os ia ib g,c=(none,o,ia,ib,g)/\o=Ar it os/\Gly st st'/\Far lt xs ys os ia ib/\ia+1 < xs.length/\ib < ys.length/\x<=ia+ib)
   (Q:=fun c st'=>∃zs r,c=(some (Ar it zs),r)/\Mrg lt xs ys zs/\Gly st st') ?step ?fin ⟨_,_,0,1,_,rfl,rfl,.rfl',F1,by lia,by lia,by lia⟩) ?post)
 case fin =>
   rintro c st' ⟨o,os,ia,ib,g,rfl,rfl,a1,a2,a3,a4,a5⟩
   rw[zF,zF] at a5
   lia
 case post =>
   rintro c st' ⟨zs,r,rfl,a1,a2⟩
   exact Qv (hQ zs st' a1 a2)
 case step =>
   rintro x c st' _ hx' ⟨o,os,ia,ib,g,rfl,ho,a1,a2,a3,a4,a5⟩
   dsimp only
   refine Qf (Ex (Er (I:=fun x c st2=>st2=st'/\∃o os ia' ib' p q,c=(none,o,ia',ib',p,q)/\o=Ar it os/\Far lt xs ys os ia' ib'/\ia'+1 < xs.length/\ib' < ys.length/\x+(ia+ib)<=ia'+ib')
     (Q:=fun c st2=>st2=st'/\((∃zs r,c=(some (Ar it zs),r)/\Mrg lt xs ys zs)∨∃o os ia' ib' p q,c=(none,o,ia',ib',p,q)/\o=Ar it os/\Far lt xs ys os ia' ib'/\ia'+1 < xs.length/\ib' < ys.length/\ia+ib+1<=ia'+ib')) ?step1 ?fin1 ⟨rfl,o,os,ia,ib,0,0,rfl,ho,a2,a3,a4,by lia⟩) ?post1)
   case fin1 =>
     rintro c st2 ⟨rfl,o,os,ia',ib',p,q,rfl,rfl,b1,b2,b3,b4⟩
     rw[zF,zF] at b4
     lia
   case step1 =>
     rintro x c st2 _ _ ⟨rfl,o,os,ia',ib',p,q,rfl,rfl,b1,b2,b3,b4⟩
     dsimp only
     refine Qf (yI (α:=Unit) (xL b3) (Qf (yI (α:=Unit) (xL (by lia)) ?_)))
     refine Qf (zY2 hq (a1.k.trans hk) (hyN _ (yN b3)) (hxN _ (yN (by lia))) ?_)
     dsimp only
     cases hc:lt (ys.getD ib' 0) (xs.getD ia' 0) with
     | true =>
       rw[Qi rfl]
       refine Qf (yI (α:=Unit) (xL b3) ?_)
       try dsimp only
       rw[iA]
       have F2:Far lt xs ys (os++[ys.getD ib' 0]) ia' (ib'+1):=by
         have:=b1.pY T 1 (fun y hy' x hx'=>by rw[vB b3] at hy';rw[Wq.mp hy'];exact lessX (by lia) hc x hx')
         rwa[vB b3] at this
       by_cases e:ib'+1=ys.length
       · rw[Qi (by rw[zF];simpa using e),wY,wY,xP,xP]
         refine Qv ⟨rfl,.inl ⟨_,_,rfl,F2.done T fun x _ y hy'=>?_⟩⟩
         rw[Eg (by lia)] at hy'
         cases hy'
       · rw[Qa (by rw[zF];simpa using e)]
         split
         · exact Qv ⟨rfl,.inr ⟨_,_,_,_,_,_,rfl,rfl,F2,b2,by lia,by lia⟩⟩
         · exact Qv ⟨rfl,_,_,_,_,_,_,rfl,rfl,F2,b2,by lia,by lia⟩
     | false =>
       rw[Qa (by decide)]
       refine Qf (yI (α:=Unit) (xL (by lia)) ?_)
       try dsimp only
       rw[iA]
       have F2:Far lt xs ys (os++[xs.getD ia' 0]) (ia'+1) ib':=by
         have:=b1.pX T 1 (fun x hx' y hy'=>by rw[vB (by lia)] at hx';rw[Wq.mp hx'];exact lessY (by lia) b3 hc y hy')
         rwa[vB (by lia)] at this
       by_cases e:ia'+1+1=xs.length
       · rw[Qi (by rw[zF];simpa using e),wY,wY,xP,xP]
         exact Qv ⟨rfl,.inl ⟨_,_,rfl,F2.last T (lastL e)⟩⟩
       · rw[Qa (by rw[zF];simpa using e)]
         split
         · exact Qv ⟨rfl,.inr ⟨_,_,_,_,_,_,rfl,rfl,F2,by lia,b3,by lia⟩⟩
         · exact Qv ⟨rfl,_,_,_,_,_,_,rfl,rfl,F2,by lia,b3,by lia⟩
   case post1 =>
     rintro c st2 ⟨rfl,hcc⟩
     rcases hcc with⟨zs,r,rfl,hm⟩ | ⟨o2,os2,ia2,ib2,p2,q2,rfl,ho2,b1,b2,b3,b4⟩
     · exact Qv ⟨zs,_,rfl,hm,a1⟩
     · dsimp only
       refine Qf (Ii (Ts ⟨rfl,?_⟩))
       refine Qf (Ex (Er (I:=fun x c st3=>Gly st st3/\∃o os ia' ib' g p q,c=(none,o,ia',ib',g,p,q)/\o=Ar it os/\Far lt xs ys os ia' ib'/\ia'+1 < xs.length/\ib' < ys.length/\x+(ia2+ib2)<=ia'+ib')
         (Q:=fun c st3=>Gly st st3/\((∃zs r,c=(some (Ar it zs),r)/\Mrg lt xs ys zs)∨∃o os ia' ib' g p q,c=(none,o,ia',ib',g,p,q)/\o=Ar it os/\Far lt xs ys os ia' ib'/\ia'+1 < xs.length/\ib' < ys.length/\ia2+ib2<=ia'+ib')) ?step2 ?fin2 ⟨a1,o2,os2,ia2,ib2,_,p2,q2,rfl,ho2,b1,b2,b3,by lia⟩) ?post2)
       case fin2 =>
         rintro c st3 ⟨c0,o,os,ia',ib',g,p,q,rfl,rfl,c1,c2,c3,c4⟩
         rw[zF,zF] at c4
         lia
       case post2 =>
         rintro c st3 ⟨c0,hcc⟩
         rcases hcc with⟨zs,r,rfl,hm⟩ | ⟨o3,os3,ia3,ib3,g3,p3,q3,rfl,ho3,c1,c2,c3,c4⟩
         · exact Qv ⟨zs,_,rfl,hm,c0⟩
         · exact Qf (To (Qv ⟨o3,os3,ia3,ib3,_,rfl,ho3,⟨c0.k,c0.a,c0.p,c0.f⟩,c1,c2,c3,by lia⟩))
       case step2 =>
         rintro x c st3 _ _ ⟨c0,o,os,ia',ib',g,p,q,rfl,ho,c1,c2,c3,c4⟩
         dsimp +instances only
         generalize g - 1=g1
         apply zXA (c:=g > 1) (a:=g1) (b:=g)
         intro g
         all_goals
           refine Qf (To ?_)
           refine Qf (yI (α:=Unit) (xL c3) ?_)
           refine Qf (rJ (f:=fun i=>xs.getD (ia'+i) 0) (bd:=fun i => !lt (ys.getD ib' 0) (xs.getD (ia'+i) 0)) hq (c0.k.trans hk) (hyN _ (yN c3)) (fun i hi=>?_) (fun i=>rfl) (fun i j hij hj hbj=>?_) (by rw[zF];lia) fun k hk1 hk2 hk3=>?_)
           · rw[zF] at hi
             exact⟨xL (by lia),hxN _ (yN (by lia))⟩
           · rw[zF] at hj
             by_cases e:i=j
             · rw[e];exact hbj
             · have hbj:lt (ys.getD ib' 0) (xs.getD (ia'+j) 0)=false:=by simpa using hbj
               have:=W.ntr hbj (Lx.le W (lH T.x (i:=ia'+i) (j:=ia'+j) (by lia) (by lia)))
               simpa using this
           · rw[zF] at hk1 hk3
             have hk2':∀i,i < k->lt (ys.getD ib' 0) (xs.getD (ia'+i) 0)=false:=fun i hi=>by simpa using hk2 i hi
             have hk3':∀i,k<=i->i < xs.length - ia'->lt (ys.getD ib' 0) (xs.getD (ia'+i) 0)=true:=fun i h h'=>by simpa using hk3 i h h'
             have hkl:k < xs.length - ia':=by
               rcases Tr k (xs.length - ia') with z | z
               · exact z
               · have z1:=hk2' (xs.length - 1 - ia') (by lia)
                 have e:ia'+(xs.length - 1 - ia')=xs.length - 1:=by lia
                 rw[e,lastY _ (yN c3)] at z1
                 cases z1
             have hyx:lt (ys.getD ib' 0) (xs.getD (ia'+k) 0)=true:=hk3' k (Qp _) hkl
             have FX:Far lt xs ys (os++(xs.drop ia').take k) (ia'+k) ib':=c1.pX T k fun x hx' y hy'=>by
               obtain⟨j,j1,j2,rfl⟩:=pQ hx'
               exact lessY j2 c3 (hk2' j j1) y hy'
             dsimp only
             by_cases hk0:k > 0
             case' pos =>
               rw[Qi hk0]
               by_cases e:ia'+k+1=xs.length
               · rw[Qi (by rw[zF];simpa using e),ho,zXc,wY,wY,xP,xP,xP]
                 exact Qv ⟨⟨c0.k,c0.a,c0.p,c0.f⟩,.inl ⟨_,_,rfl,FX.last T (lastL e)⟩⟩
               rw[Qa (by rw[zF];simpa using e),Qa (by rw[zF];simp;lia),ho,zXc,xP]
               obtain⟨os3,ho3⟩:∃os3,os3=os++(xs.drop ia').take k:=⟨_,rfl⟩
               obtain⟨i3,hi3⟩:∃i3,i3=ia'+k:=⟨_,rfl⟩
               rw[←ho3,←hi3]
               have F3:Far lt xs ys os3 i3 ib':=by rw[ho3,hi3];exact FX
               have b3':i3+1 < xs.length:=by lia
               have y3:lt (ys.getD ib' 0) (xs.getD i3 0)=true:=by rw[hi3];exact hyx
               have l3:ia'<=i3:=by lia
             case' neg =>
               rw[Qa hk0,ho]
               have hk00:k=0:=by lia
               obtain⟨os3,ho3⟩:∃os3,os3=os:=⟨_,rfl⟩
               obtain⟨i3,hi3⟩:∃i3,i3=ia':=⟨_,rfl⟩
               rw[←ho3,←hi3]
               have F3:Far lt xs ys os3 i3 ib':=by rw[ho3,hi3];exact c1
               have b3':i3+1 < xs.length:=by lia
               have y3:lt (ys.getD ib' 0) (xs.getD i3 0)=true:=by rw[hk00] at hyx;rw[hi3];exact hyx
               have l3:ia'<=i3:=by lia
             all_goals
               refine Qf (yI (α:=Unit) (xL c3) ?_)
               rw[iA]
               have F4:Far lt xs ys (os3++[ys.getD ib' 0]) i3 (ib'+1):=by
                 have:=F3.pY T 1 (fun y hy' x hx'=>by rw[vB c3] at hy';rw[Wq.mp hy'];exact lessX (by lia) y3 x hx')
                 rwa[vB c3] at this
               by_cases e:ib'+1=ys.length
               · rw[Qi (by rw[zF];simpa using e),wY,wY,xP,xP]
                 refine Qv ⟨⟨c0.k,c0.a,c0.p,c0.f⟩,.inl ⟨_,_,rfl,F4.done T fun x _ y hy'=>?_⟩⟩
                 rw[Eg (by lia)] at hy'
                 cases hy'
               rw[Qa (by rw[zF];simpa using e)]
               refine Qf (yI (α:=Unit) (xL (by lia)) ?_)
               refine Qf (rJ (f:=fun i=>ys.getD (ib'+1+i) 0) (bd:=fun i=>lt (ys.getD (ib'+1+i) 0) (xs.getD i3 0)) hq (c0.k.trans hk) (hxN _ (yN (by lia))) (fun i hi=>?_) (fun i=>rfl) (fun i j hij hj hbj=>?_) (by rw[zF];lia) fun k2 kk1 kk2 kk3=>?_)
               · rw[zF] at hi
                 exact⟨xL (by lia),hyN _ (yN (by lia))⟩
               · rw[zF] at hj
                 by_cases e:i=j
                 · rw[e];exact hbj
                 · exact W.eql hbj (Lx.le W (lH T.y (i:=ib'+1+i) (j:=ib'+1+j) (by lia) (by lia)))
               · rw[zF] at kk1 kk3
                 have FY:Far lt xs ys (os3++[ys.getD ib' 0]++(ys.drop (ib'+1)).take k2) i3 (ib'+1+k2):=F4.pY T k2 fun y hy' x hx'=>by
                   obtain⟨j,j1,j2,rfl⟩:=pQ hy'
                   exact lessX (by lia) (kk2 j j1) x hx'
                 dsimp only
                 by_cases hk20:k2 > 0
                 case' pos =>
                   rw[Qi hk20,zXc,xP]
                   by_cases e2:ib'+1+k2=ys.length
                   · rw[Qi (by rw[zF];simpa using e2),wY,wY,xP,xP]
                     refine Qv ⟨⟨c0.k,c0.a,c0.p,c0.f⟩,.inl ⟨_,_,rfl,FY.done T fun x _ y hy'=>?_⟩⟩
                     rw[Eg (by lia)] at hy'
                     cases hy'
                   rw[Qa (by rw[zF];simpa using e2)]
                   obtain⟨os5,ho5⟩:∃os5,os5=os3++[ys.getD ib' 0]++(ys.drop (ib'+1)).take k2:=⟨_,rfl⟩
                   obtain⟨i5,hi5⟩:∃i5,i5=ib'+1+k2:=⟨_,rfl⟩
                   rw[←ho5,←hi5]
                   have F5:Far lt xs ys os5 i3 i5:=by rw[ho5,hi5];exact FY
                   have b5:i5 < ys.length:=by lia
                   have y5:lt (ys.getD i5 0) (xs.getD i3 0)=false:=by rw[hi5];exact kk3 k2 (Qp _) (by lia)
                   have l5:ib'+1<=i5:=by lia
                 case' neg =>
                   have hk200:k2=0:=by lia
                   rw[Qa hk20]
                   obtain⟨os5,ho5⟩:∃os5,os5=os3++[ys.getD ib' 0]:=⟨_,rfl⟩
                   obtain⟨i5,hi5⟩:∃i5,i5=ib'+1:=⟨_,rfl⟩
                   rw[←ho5,←hi5]
                   have F5:Far lt xs ys os5 i3 i5:=by rw[ho5,hi5];exact F4
                   have b5:i5 < ys.length:=by lia
                   have y5:lt (ys.getD i5 0) (xs.getD i3 0)=false:=by rw[hi5];exact kk3 0 (by lia) (by lia)
                   have l5:ib'+1<=i5:=by lia
                 all_goals
                   refine Qf (yI (α:=Unit) (xL (by lia)) ?_)
                   rw[iA]
                   have F6:Far lt xs ys (os5++[xs.getD i3 0]) (i3+1) i5:=by
                     have:=F5.pX T 1 (fun x hx' y hy'=>by rw[vB (by lia)] at hx';rw[Wq.mp hx'];exact lessY (by lia) b5 y5 y hy')
                     rwa[vB (by lia)] at this
                   by_cases e3:i3+1+1=xs.length
                   · rw[Qi (by rw[zF];simpa using e3),wY,wY,xP,xP]
                     exact Qv ⟨⟨c0.k,c0.a,c0.p,c0.f⟩,.inl ⟨_,_,rfl,F6.last T (lastL e3)⟩⟩
                   rw[Qa (by rw[zF];simpa using e3)]
                   by_cases h7:(decide (k < 7)&&decide (k2 < 7))=true
                   · rw[Qi h7]
                     exact Qv ⟨⟨c0.k,c0.a,c0.p,c0.f⟩,.inr ⟨_,_,_,_,_,_,_,rfl,rfl,F6,by lia,b5,by lia⟩⟩
                   · rw[Qa h7]
                     exact Qv ⟨⟨c0.k,c0.a,c0.p,c0.f⟩,_,_,_,_,_,_,_,rfl,rfl,F6,by lia,b5,by lia⟩
end
end L2
namespace L2
open PySem PySem.W PyProof.Rows
def zTx:Array Keyed->Array Keyed->StateT SortSt Sem (Array Keyed):=sortPriv% PySem.Builtin.mergeHi
section
variable {lt:Nat->Nat->Bool} {xs ys rs:List Nat} {na nb:Nat}
structure Beh (lt:Nat->Nat->Bool)(xs ys rs:List Nat)(na nb:Nat):Prop where
 pm:rs.Perm (xs.drop na++ys.drop nb)
 up:rs.Pairwise (Lx lt)
 lx:∀o∈rs,∀x∈xs.take na,Lx lt x o
 ly:∀o∈rs,∀y∈ys.take nb,Lx lt y o
theorem iU {l:List Nat}{a n:Nat}(h:a<=n):l.drop a=(l.take n).drop a++l.drop n:=by
 have e:l.drop a=(l.take n++l.drop n).drop a:=by rw[Wn]
 rw[e,Oo]
 rcases Tr n l.length with z | z
 · have:(l.take n).length=n:=by rw[Qh];lia
   rw[this,show a - n=0 by lia];rfl
 · rw[Eg z];simp
theorem zXJ {l:List Nat}{a n x:Nat}(h:a<=n)(hx:x∈l.take a):x∈l.take n:=by
 have e:l.take a=(l.take n).take a:=by rw[Uz];congr 1;lia
 rw[e] at hx
 exact Wz hx
theorem zYg {l:List Nat}(hl:l.Pairwise (Lx lt)){a n x c:Nat}(h:a<=n)(hx:x∈l.take a)(hc:c∈(l.take n).drop a):Lx lt x c:=by
 have e:l.take a=(l.take n).take a:=by rw[Uz];congr 1;lia
 rw[e] at hx
 exact aZ (hl.sublist (Ei n l)) a x hx c hc
theorem Beh.pX (T:Two lt xs ys)(h:Beh lt xs ys rs na nb){a:Nat}(ha:a<=na)(hk:∀x∈(xs.take na).drop a,∀y∈ys.take nb,Lx lt y x):Beh lt xs ys ((xs.take na).drop a++rs) a nb:=by
 refine⟨?_,Qc.mpr ⟨(T.x.sublist (Ei na xs)).sublist (Ix _ _),h.up,fun x hx o ho=>h.lx o ho x (Wl hx)⟩,fun o ho x hx=>?_,fun o ho y hy=>?_⟩
 · rw[iU (l:=xs) ha,Qm]
   exact h.pm.append_left _
 · rcases Qn.mp ho with ho | ho
   · exact zYg T.x ha hx ho
   · exact h.lx o ho x (zXJ ha hx)
 · rcases Qn.mp ho with ho | ho
   · exact hk o ho y hy
   · exact h.ly o ho y hy
theorem Beh.pY (T:Two lt xs ys)(h:Beh lt xs ys rs na nb){a:Nat}(ha:a<=nb)(hk:∀y∈(ys.take nb).drop a,∀x∈xs.take na,Lx lt x y):Beh lt xs ys ((ys.take nb).drop a++rs) na a:=by
 refine⟨?_,Qc.mpr ⟨(T.y.sublist (Ei nb ys)).sublist (Ix _ _),h.up,fun x hx o ho=>h.ly o ho x (Wl hx)⟩,fun o ho x hx=>?_,fun o ho y hy=>?_⟩
 · rw[iU (l:=ys) ha]
   refine(h.pm.append_left _).trans ?_
   rw[←Qm,←Qm]
   exact(Eo).append_right _
 · rcases Qn.mp ho with ho | ho
   · exact hk o ho x hx
   · exact h.lx o ho x hx
 · rcases Qn.mp ho with ho | ho
   · exact zYg T.y ha hy ho
   · exact h.ly o ho y (zXJ ha hy)
theorem Beh.pmAll (h:Beh lt xs ys rs na nb):(xs.take na++ys.take nb++rs).Perm (xs++ys):=by
 refine(h.pm.append_left _).trans ?_
 have e:xs++ys=(xs.take na++xs.drop na)++(ys.take nb++ys.drop nb):=by rw[Wn,Wn]
 rw[e,Qm,Qm]
 refine List.Perm.append_left _ ?_
 rw[←Qm,←Qm]
 exact(Eo).append_right _
theorem Beh.done (T:Two lt xs ys)(h:Beh lt xs ys rs na nb)(hx:∀x∈xs.take na,∀y∈ys.take nb,Lx lt x y):Mrg lt xs ys (xs.take na++ys.take nb++rs):=by
 refine⟨h.pmAll,Qc.mpr ⟨Qc.mpr ⟨T.x.sublist (Ei _ _),T.y.sublist (Ei _ _),hx⟩,h.up,fun a ha b hb=>?_⟩⟩
 rcases Qn.mp ha with ha | ha
 · exact h.lx b hb a ha
 · exact h.ly b hb a ha
theorem Beh.first (T:Two lt xs ys)(h:Beh lt xs ys rs na nb)(hx:∀y∈ys.take nb,∀x∈xs.take na,Lx lt y x):Mrg lt xs ys (ys.take nb++xs.take na++rs):=by
 refine⟨((Eo).append_right _).trans h.pmAll,Qc.mpr ⟨Qc.mpr ⟨T.y.sublist (Ei _ _),T.x.sublist (Ei _ _),hx⟩,h.up,fun a ha b hb=>?_⟩⟩
 rcases Qn.mp ha with ha | ha
 · exact h.ly b hb a ha
 · exact h.lx b hb a ha
theorem iO {l:List Nat}{n x:Nat}(h:x∈l.take n):∃j,j < n/\j < l.length/\x=l.getD j 0:=by
 have h':x∈(l.drop 0).take n:=by simpa using h
 obtain⟨j,a,b,c⟩:=pQ h'
 exact⟨j,a,by simpa using b,by simpa using c⟩
theorem lB {l:List Nat}{a n x:Nat}(h:x∈(l.take n).drop a):∃j,a<=j/\j < n/\j < l.length/\x=l.getD j 0:=by
 obtain⟨j,hj,e⟩:=pA h
 rw[Qh] at hj
 refine⟨a+j,by lia,by lia,by lia,?_⟩
 rw[e]
 have h1:a+j < (l.take n).length:=by rw[Qh];exact hj
 have h2:a+j < l.length:=by lia
 simp[h1,h2,Rc]
 rw[Qi (by lia)]
 simp[h2]
theorem rK {l:List Nat}{n:Nat}(h1:1<=n)(h:n<=l.length):(l.take n).drop (n - 1)=[l.getD (n - 1) 0]:=by
 have hl:(l.take n).length=n:=by rw[Qh];lia
 rw[Ey (by lia),Eg (by lia)]
 have:n - 1 < l.length:=by lia
 simp[this]
variable {it:Array Keyed}
theorem zWw (l:List Nat):(Ar it l).reverse=Ar it l.reverse:=by simp[Ar,List.map_reverse]
theorem dR (l:List Nat)(n:Nat):(Ar it l).extract 0 n=Ar it (l.take n):=by
 apply Ev.mp
 simp[Ar,Tk]
theorem dC (l:List Nat)(a n:Nat):(Ar it l).extract a n=Ar it ((l.take n).drop a):=by
 apply Ev.mp
 simp[Ar,Tk,Yu,List.drop_take]
variable {prog:Program} {w:World} {A:Around} {E:Value->Shared->Prop} {s:Shared} {κ:SortKind} {N:Nat}
theorem zOK {xs ys:List Nat}{Q:Array Keyed->SortSt->Prop}{st:SortSt}(W:SWO lt)(hq:Orc prog w A s κ it lt N)(hk:kindOf st=κ)(T:Two lt xs ys)(hxN:∀i∈xs,i < N)(hyN:∀i∈ys,i < N)(hx:0 < xs.length)(hy:0 < ys.length)
   (h1:lt (ys.getD 0 0) (xs.getD 0 0)=true) (h2:lt (ys.getD (ys.length - 1) 0) (xs.getD (xs.length - 1) 0)=true) (hQ:∀zs st',Mrg lt xs ys zs->Gly st st'->Q (Ar it zs) st'):wpS (model prog w) A E s (zTx (Ar it xs) (Ar it ys)) Q st:=by
 have firstX:∀x∈xs,lt (ys.getD 0 0) x=true:=fun x hx'=>by
   obtain⟨j,hj,rfl⟩:=pA (i:=0) (by simpa using hx')
   by_cases e:0+j=0
   · rw[e];exact h1
   · exact W.eqr h1 (Lx.le W (lH T.x (i:=0) (j:=0+j) (by lia) (by lia)))
 have firstL:∀ {na:Nat},∀y∈ys.take 1,∀x∈xs.take na,Lx lt y x:=fun {na} y hy' x hx'=>by
   obtain⟨j,j1,j2,rfl⟩:=iO hy'
   have:j=0:=by lia
   subst this
   exact .inl (firstX x (Wz hx'))
 -- what the last of the rest is less than, all of the rest is less than
 have lessY:∀ {x nb:Nat},0 < nb->nb<=ys.length->lt (ys.getD (nb - 1) 0) x=true->∀y∈ys.take nb,Lx lt y x:=fun {x nb} n0 n1 hc y hy'=>by
   obtain⟨j,j1,j2,rfl⟩:=iO hy'
   by_cases e:j=nb - 1
   · rw[e];exact .inl hc
   · exact Lx.trans W (lH T.y (i:=j) (j:=nb - 1) (by lia) (by lia)) (.inl hc)
 have lessX:∀ {y na:Nat},y∈ys->0 < na->na<=xs.length->lt y (xs.getD (na - 1) 0)=false->∀x∈xs.take na,Lx lt x y:=fun {y na} hy' n0 n1 hc x hx'=>by
   obtain⟨j,j1,j2,rfl⟩:=iO hx'
   have l0:Lx lt (xs.getD (na - 1) 0) y:=Lx.of W hc (T.o _ (yN (by lia)) _ hy')
   by_cases e:j=na - 1
   · rw[e];exact l0
   · exact Lx.trans W (lH T.x (i:=j) (j:=na - 1) (by lia) (by lia)) l0
 have F0:Beh lt xs ys [] xs.length ys.length:=⟨by simp,.nil,fun o ho=>(nomatch ho),fun o ho=>(nomatch ho)⟩
 have F1:Beh lt xs ys [xs.getD (xs.length - 1) 0] (xs.length - 1) ys.length:=by
   have:=F0.pX T (a:=xs.length - 1) (by lia) (fun x hx' y hy'=>by rw[rK hx (Qp _)] at hx';rw[Wq.mp hx'];exact lessY hy (Qp _) h2 y hy')
   rw[rK hx (Qp _)] at this
   simpa using this
 have doneE:∀(rs:List Nat) (na nb:Nat),(Ar it xs).extract 0 na++(Ar it ys).extract 0 nb++(Ar it rs.reverse).reverse=Ar it (xs.take na++ys.take nb++rs):=fun rs na nb=>by rw[dR,dR,zWw,List.reverse_reverse,xP,xP]
 have firstE:∀(rs:List Nat) (na nb:Nat),(Ar it ys).extract 0 nb++(Ar it xs).extract 0 na++(Ar it rs.reverse).reverse=Ar it (ys.take nb++xs.take na++rs):=fun rs na nb=>by rw[dR,dR,zWw,List.reverse_reverse,xP,xP]
 have pushE:∀(rs:List Nat) (x:Nat),(Ar it rs.reverse).push (kas_item it x)=Ar it (x::rs).reverse:=fun rs x=>by rw[iA,List.reverse_cons]
 have chunkE:∀(l rs:List Nat) (a n:Nat),Ar it rs.reverse++((Ar it l).extract a n).reverse=Ar it ((l.take n).drop a++rs).reverse:=fun l rs a n=>by rw[dC,zWw,xP,List.reverse_append]
 have hnil:∀ {rs:List Nat} {na nb:Nat},na=0->Beh lt xs ys rs na nb->Mrg lt xs ys (xs.take na++ys.take nb++rs):=fun {rs na nb} e F=>F.done T fun x hx'=>by rw[e] at hx';simp at hx'
 have hone:∀ {rs:List Nat} {na nb:Nat},nb=1->Beh lt xs ys rs na nb->Mrg lt xs ys (ys.take nb++xs.take na++rs):=fun {rs na nb} e F=>F.first T fun y hy'=>by rw[e] at hy';exact firstL y hy'
 have stepX:∀ {rs:List Nat} {na nb:Nat},Beh lt xs ys rs na nb->0 < na->na<=xs.length->0 < nb->nb<=ys.length->lt (ys.getD (nb - 1) 0) (xs.getD (na - 1) 0)=true->Beh lt xs ys (xs.getD (na - 1) 0::rs) (na - 1) nb:=fun {rs na nb} F n0 n1 m0 m1 hc=>by
   have:=F.pX T (a:=na - 1) (by lia) (fun x hx' y hy'=>by rw[rK n0 n1] at hx';rw[Wq.mp hx'];exact lessY m0 m1 hc y hy')
   rwa[rK n0 n1] at this
 have stepY:∀ {rs:List Nat} {na nb:Nat},Beh lt xs ys rs na nb->na<=xs.length->0 < nb->nb<=ys.length->(0 < na->lt (ys.getD (nb - 1) 0) (xs.getD (na - 1) 0)=false)->Beh lt xs ys (ys.getD (nb - 1) 0::rs) na (nb - 1):=fun {rs na nb} F n1 m0 m1 hc=>by
   have:=F.pY T (a:=nb - 1) (by lia) (fun y hy' x hx'=>by
     rw[rK m0 m1] at hy'
     rw[Wq.mp hy']
     have:0 < na:=by
       obtain⟨j,j1,j2,rfl⟩:=iO hx'
       lia
     exact lessX (yN (by lia)) this n1 (hc this) x hx')
   rwa[rK m0 m1] at this
 refine Qf (Ii (Ts ⟨rfl,?_⟩))
 rw[show(Ar it xs).size - 1=xs.length - 1 by rw[zF],show(Ar it ys).size=ys.length from zF _]
 refine Qf (yI (α:=Unit) (xL (by lia)) ?_)
 dsimp only
 have eo:(#[kas_item it (xs.getD (xs.length - 1) 0)]:Array Keyed)=Ar it [xs.getD (xs.length - 1) 0].reverse:=rfl
 rw[eo]
 by_cases ha1:xs.length - 1=0
 · rw[Qi (by simpa using ha1),doneE]
   exact Qv (hQ _ _ (hnil ha1 F1) .rfl')
 rw[Qa (by simpa using ha1)]
 by_cases hb1:ys.length=1
 · rw[Qi (by simpa using hb1),firstE]
   exact Qv (hQ _ _ (hone hb1 F1) .rfl')
 rw[Qa (by simpa using hb1)]
 refine Qf (Yk ?_)
 rw[show(Ar it xs).size+ys.length=xs.length+ys.length by rw[zF]]
 refine Qf (Ex (Er (I:=fun x c st'=>∃o rs na nb g,c=(none,na,nb,o,g)/\o=Ar it rs.reverse/\Gly st st'/\Beh lt xs ys rs na nb/\0 < na/\na<=xs.length/\1 < nb/\nb<=ys.length/\x+(na+nb)<=xs.length+ys.length)
   (Q:=fun c st'=>∃zs r,c=(some (Ar it zs),r)/\Mrg lt xs ys zs/\Gly st st') ?step ?fin ⟨_,_,xs.length - 1,ys.length,_,rfl,rfl,.rfl',F1,by lia,by lia,by lia,by lia,by lia⟩) ?post)
 case fin =>
   rintro c st' ⟨o,rs,na,nb,g,rfl,rfl,a1,a2,a3,a4,a5,a6,a7⟩
   lia
 case post =>
   rintro c st' ⟨zs,r,rfl,a1,a2⟩
   exact Qv (hQ zs st' a1 a2)
 case step =>
   rintro x c st' _ hx' ⟨o,rs,na,nb,g,rfl,ho,a1,a2,a3,a4,a5,a6,a7⟩
   dsimp only
   refine Qf (Ex (Er (I:=fun x c st2=>st2=st'/\∃o rs na' nb' p q,c=(none,na',nb',o,p,q)/\o=Ar it rs.reverse/\Beh lt xs ys rs na' nb'/\0 < na'/\na'<=xs.length/\1 < nb'/\nb'<=ys.length/\x+(na'+nb')<=na+nb)
     (Q:=fun c st2=>st2=st'/\((∃zs r,c=(some (Ar it zs),r)/\Mrg lt xs ys zs)∨∃o rs na' nb' p q,c=(none,na',nb',o,p,q)/\o=Ar it rs.reverse/\Beh lt xs ys rs na' nb'/\0 < na'/\na'<=xs.length/\1 < nb'/\nb'<=ys.length/\1+(na'+nb')<=na+nb)) ?step1 ?fin1 ⟨rfl,o,rs,na,nb,0,0,rfl,ho,a2,a3,a4,a5,a6,by lia⟩) ?post1)
   case fin1 =>
     rintro c st2 ⟨rfl,o,rs,na',nb',p,q,rfl,rfl,b1,b2,b3,b4,b5,b6⟩
     lia
   case step1 =>
     rintro x c st2 _ _ ⟨rfl,o,rs,na',nb',p,q,rfl,rfl,b1,b2,b3,b4,b5,b6⟩
     dsimp only
     refine Qf (yI (α:=Unit) (xL (by lia)) (Qf (yI (α:=Unit) (xL (by lia)) ?_)))
     refine Qf (zY2 hq (a1.k.trans hk) (hyN _ (yN (by lia))) (hxN _ (yN (by lia))) ?_)
     dsimp only
     cases hc:lt (ys.getD (nb' - 1) 0) (xs.getD (na' - 1) 0) with
     | true =>
       rw[Qi rfl]
       refine Qf (yI (α:=Unit) (xL (by lia)) ?_)
       rw[pushE]
       have F2:=stepX b1 b2 b3 (by lia) b5 hc
       by_cases e:na' - 1=0
       · rw[Qi (by simpa using e),doneE]
         exact Qv ⟨rfl,.inl ⟨_,_,rfl,hnil e F2⟩⟩
       · rw[Qa (by simpa using e)]
         split
         · exact Qv ⟨rfl,.inr ⟨_,_,_,_,_,_,rfl,rfl,F2,by lia,by lia,b4,b5,by lia⟩⟩
         · exact Qv ⟨rfl,_,_,_,_,_,_,rfl,rfl,F2,by lia,by lia,b4,b5,by lia⟩
     | false =>
       rw[Qa (by decide)]
       refine Qf (yI (α:=Unit) (xL (by lia)) ?_)
       rw[pushE]
       have F2:=stepY b1 b3 (by lia) b5 fun _=>hc
       by_cases e:nb' - 1=1
       · rw[Qi (by simpa using e),firstE]
         exact Qv ⟨rfl,.inl ⟨_,_,rfl,hone e F2⟩⟩
       · rw[Qa (by simpa using e)]
         split
         · exact Qv ⟨rfl,.inr ⟨_,_,_,_,_,_,rfl,rfl,F2,b2,b3,by lia,by lia,by lia⟩⟩
         · exact Qv ⟨rfl,_,_,_,_,_,_,rfl,rfl,F2,b2,b3,by lia,by lia,by lia⟩
   case post1 =>
     rintro c st2 ⟨rfl,hcc⟩
     rcases hcc with⟨zs,r,rfl,hm⟩ | ⟨o2,rs2,na2,nb2,p2,q2,rfl,ho2,b1,b2,b3,b4,b5,b6⟩
     · exact Qv ⟨zs,_,rfl,hm,a1⟩
     · dsimp only
       refine Qf (Ii (Ts ⟨rfl,?_⟩))
       refine Qf (Ex (Er (I:=fun x c st3=>Gly st st3/\∃o rs na' nb' g p q,c=(none,na',nb',o,g,p,q)/\o=Ar it rs.reverse/\Beh lt xs ys rs na' nb'/\0 < na'/\na'<=xs.length/\1 < nb'/\nb'<=ys.length/\x+(na'+nb')<=na2+nb2)
         (Q:=fun c st3=>Gly st st3/\((∃zs r,c=(some (Ar it zs),r)/\Mrg lt xs ys zs)∨∃o rs na' nb' g p q,c=(none,na',nb',o,g,p,q)/\o=Ar it rs.reverse/\Beh lt xs ys rs na' nb'/\0 < na'/\na'<=xs.length/\1 < nb'/\nb'<=ys.length/\na'+nb'<=na2+nb2)) ?step2 ?fin2 ⟨a1,o2,rs2,na2,nb2,_,p2,q2,rfl,ho2,b1,b2,b3,b4,b5,by lia⟩) ?post2)
       case fin2 =>
         rintro c st3 ⟨c0,o,rs,na',nb',g,p,q,rfl,rfl,c1,c2,c3,c4,c5,c6⟩
         lia
       case post2 =>
         rintro c st3 ⟨c0,hcc⟩
         rcases hcc with⟨zs,r,rfl,hm⟩ | ⟨o3,rs3,na3,nb3,g3,p3,q3,rfl,ho3,c1,c2,c3,c4,c5,c6⟩
         · exact Qv ⟨zs,_,rfl,hm,c0⟩
         · exact Qf (To (Qv ⟨o3,rs3,na3,nb3,_,rfl,ho3,⟨c0.k,c0.a,c0.p,c0.f⟩,c1,c2,c3,c4,c5,by lia⟩))
       case step2 =>
         rintro x c st3 _ _ ⟨c0,o,rs,na',nb',g,p,q,rfl,ho,c1,c2,c3,c4,c5,c6⟩
         dsimp +instances only
         generalize g - 1=g1
         apply zXA (c:=g > 1) (a:=g1) (b:=g)
         intro g
         all_goals
           refine Qf (To ?_)
           refine Qf (yI (α:=Unit) (xL (by lia)) ?_)
           refine Qf (rJ (f:=fun i=>xs.getD (0+i) 0) (bd:=fun i => !lt (ys.getD (nb' - 1) 0) (xs.getD (0+i) 0)) hq (c0.k.trans hk) (hyN _ (yN (by lia))) (fun i hi=>?_) (fun i=>rfl) (fun i j hij hj hbj=>?_) (by lia) fun k hk1 hk2 hk3=>?_)
           · exact⟨xL (by lia),hxN _ (yN (by lia))⟩
           · by_cases e:i=j
             · rw[e];exact hbj
             · have hbj:lt (ys.getD (nb' - 1) 0) (xs.getD (0+j) 0)=false:=by simpa using hbj
               have:=W.ntr hbj (Lx.le W (lH T.x (i:=0+i) (j:=0+j) (by lia) (by lia)))
               simpa using this
           · have hk2':∀i,i < k->lt (ys.getD (nb' - 1) 0) (xs.getD i 0)=false:=fun i hi=>by simpa using hk2 i hi
             have hk3':∀i,k<=i->i < na'->lt (ys.getD (nb' - 1) 0) (xs.getD i 0)=true:=fun i h h'=>by simpa using hk3 i h h'
             have FX:Beh lt xs ys ((xs.take na').drop k++rs) k nb':=c1.pX T hk1 fun x hx' y hy'=>by
               obtain⟨j,j1,j2,j3,rfl⟩:=lB hx'
               exact lessY (by lia) c5 (hk3' j j1 j2) y hy'
             dsimp only
             by_cases hk0:na' - k > 0
             case' pos =>
               rw[Qi hk0]
               by_cases e:k=0
               · rw[Qi (by simpa using e),ho,chunkE,doneE]
                 exact Qv ⟨⟨c0.k,c0.a,c0.p,c0.f⟩,.inl ⟨_,_,rfl,hnil e FX⟩⟩
               rw[Qa (by simpa using e),ho,chunkE]
               obtain⟨rs3,ho3⟩:∃rs3,rs3=(xs.take na').drop k++rs:=⟨_,rfl⟩
               obtain⟨n3,hi3⟩:∃n3,n3=k:=⟨_,rfl⟩
               rw[←ho3,←hi3]
               have F3:Beh lt xs ys rs3 n3 nb':=by rw[ho3,hi3];exact FX
               have p3':0 < n3:=by lia
               have l3:n3<=na':=by lia
               have y3:lt (ys.getD (nb' - 1) 0) (xs.getD (n3 - 1) 0)=false:=hk2' _ (by lia)
             case' neg =>
               rw[Qa hk0,ho]
               have hkn:k=na':=by lia
               obtain⟨rs3,ho3⟩:∃rs3,rs3=rs:=⟨_,rfl⟩
               obtain⟨n3,hi3⟩:∃n3,n3=na':=⟨_,rfl⟩
               rw[←ho3,←hi3]
               have F3:Beh lt xs ys rs3 n3 nb':=by rw[ho3,hi3];exact c1
               have p3':0 < n3:=by lia
               have l3:n3<=na':=by lia
               have y3:lt (ys.getD (nb' - 1) 0) (xs.getD (n3 - 1) 0)=false:=hk2' _ (by lia)
             all_goals
               refine Qf (yI (α:=Unit) (xL (by lia)) ?_)
               rw[pushE]
               have F4:=stepY F3 (by lia) (by lia) c5 fun _=>y3
               by_cases e:nb' - 1=1
               · rw[Qi (by simpa using e),firstE]
                 exact Qv ⟨⟨c0.k,c0.a,c0.p,c0.f⟩,.inl ⟨_,_,rfl,hone e F4⟩⟩
               rw[Qa (by simpa using e)]
               refine Qf (yI (α:=Unit) (xL (by lia)) ?_)
               refine Qf (rJ (f:=fun i=>ys.getD (0+i) 0) (bd:=fun i=>lt (ys.getD (0+i) 0) (xs.getD (n3 - 1) 0)) hq (c0.k.trans hk) (hxN _ (yN (by lia))) (fun i hi=>?_) (fun i=>rfl) (fun i j hij hj hbj=>?_) (by lia) fun k2 kk1 kk2 kk3=>?_)
               · exact⟨xL (by lia),hyN _ (yN (by lia))⟩
               · by_cases e:i=j
                 · rw[e];exact hbj
                 · exact W.eql hbj (Lx.le W (lH T.y (i:=0+i) (j:=0+j) (by lia) (by lia)))
               · have kk2':∀i,i < k2->lt (ys.getD i 0) (xs.getD (n3 - 1) 0)=true:=fun i hi=>by simpa using kk2 i hi
                 have kk3':∀i,k2<=i->i < nb' - 1->lt (ys.getD i 0) (xs.getD (n3 - 1) 0)=false:=fun i h h'=>by simpa using kk3 i h h'
                 have k2p:0 < k2:=by
                   rcases Ia k2 with z | z
                   · have z1:=kk3' 0 (by lia) (by lia)
                     rw[firstX _ (yN (by lia))] at z1
                     cases z1
                   · exact z
                 have FY:Beh lt xs ys ((ys.take (nb' - 1)).drop k2++(ys.getD (nb' - 1) 0::rs3)) n3 k2:=F4.pY T kk1 fun y hy' x hx'=>by
                   obtain⟨j,j1,j2,j3,rfl⟩:=lB hy'
                   exact lessX (yN j3) p3' (by lia) (kk3' j j1 j2) x hx'
                 dsimp only
                 by_cases hk20:nb' - 1 - k2 > 0
                 case' pos =>
                   rw[Qi hk20,chunkE]
                   by_cases e2:k2=1
                   · rw[Qi (by simpa using e2),firstE]
                     exact Qv ⟨⟨c0.k,c0.a,c0.p,c0.f⟩,.inl ⟨_,_,rfl,hone e2 FY⟩⟩
                   rw[Qa (by simpa using e2),Qa (by simp;lia)]
                   obtain⟨rs5,ho5⟩:∃rs5,rs5=(ys.take (nb' - 1)).drop k2++(ys.getD (nb' - 1) 0::rs3):=⟨_,rfl⟩
                   obtain⟨m5,hi5⟩:∃m5,m5=k2:=⟨_,rfl⟩
                   rw[←ho5,←hi5]
                   have F5:Beh lt xs ys rs5 n3 m5:=by rw[ho5,hi5];exact FY
                   have b5':1 < m5:=by lia
                   have l5:m5<=nb' - 1:=by lia
                   have y5:lt (ys.getD (m5 - 1) 0) (xs.getD (n3 - 1) 0)=true:=kk2' _ (by lia)
                 case' neg =>
                   have hk2n:k2=nb' - 1:=by lia
                   rw[Qa hk20]
                   obtain⟨rs5,ho5⟩:∃rs5,rs5=ys.getD (nb' - 1) 0::rs3:=⟨_,rfl⟩
                   obtain⟨m5,hi5⟩:∃m5,m5=nb' - 1:=⟨_,rfl⟩
                   rw[←ho5,←hi5]
                   have F5:Beh lt xs ys rs5 n3 m5:=by rw[ho5,hi5];exact F4
                   have b5':1 < m5:=by lia
                   have l5:m5<=nb' - 1:=by lia
                   have y5:lt (ys.getD (m5 - 1) 0) (xs.getD (n3 - 1) 0)=true:=kk2' _ (by lia)
                 all_goals
                   refine Qf (yI (α:=Unit) (xL (by lia)) ?_)
                   rw[pushE]
                   have F6:=stepX F5 p3' (by lia) (by lia) (by lia) y5
                   by_cases e3:n3 - 1=0
                   · rw[Qi (by simpa using e3),doneE]
                     exact Qv ⟨⟨c0.k,c0.a,c0.p,c0.f⟩,.inl ⟨_,_,rfl,hnil e3 F6⟩⟩
                   rw[Qa (by simpa using e3)]
                   by_cases h7:(decide (na' - k < 7)&&decide (nb' - 1 - k2 < 7))=true
                   · rw[Qi (by first | exact h7 | (rw[←hi5] at h7;exact h7) | simpa [hi3,hi5] using h7)]
                     exact Qv ⟨⟨c0.k,c0.a,c0.p,c0.f⟩,.inr ⟨_,_,_,_,_,_,_,rfl,rfl,F6,by lia,by lia,b5',by lia,by lia⟩⟩
                   · rw[Qa (by first | exact h7 | (rw[←hi5] at h7;exact h7) | simpa [hi3,hi5] using h7)]
                     exact Qv ⟨⟨c0.k,c0.a,c0.p,c0.f⟩,_,_,_,_,_,_,_,rfl,rfl,F6,by lia,by lia,b5',by lia,by lia⟩
end
end L2
namespace L2
open PySem PySem.W PyProof.Rows
theorem aV {it:Array Keyed}(l:List Nat)(i:Nat):(Ar it l)[i]?=l[i]?.map (kas_item it):=by unfold Ar;rw[Us,Ws]
theorem zWh {α:Type}(off:Nat):∀(l:List α) (n:Nat) (arr:Array α),off+n+l.length<=arr.size->∀i,((l.zipIdx n).foldl (fun a (x:α×Nat)=>a.setIfInBounds (off+x.2) x.1) arr)[i]?=if off+n<=i/\i < off+n+l.length then l[i - (off+n)]? else arr[i]?
 | [],n,arr,h,i=>by
   rw[Qa (by rintro⟨a,b⟩;simp at b;lia)];rfl
 | x::l,n,arr,h,i=>by
   rw[List.zipIdx_cons,List.foldl_cons,zWh off l (n+1) _ (by rw[Array.size_setIfInBounds];simp at h;lia)]
   rw[Qs] at h ⊢
   by_cases c:off+(n+1)<=i/\i < off+(n+1)+l.length
   · rw[Qi c,Qi (by lia)]
     have:i - (off+n)=i - (off+(n+1))+1:=by lia
     rw[this,Rl]
   · rw[Qa c,Array.getElem?_setIfInBounds]
     by_cases e:off+n=i
     · rw[Qi e,Qi (by lia),Qi (by lia)]
       have:i - (off+n)=0:=by lia
       rw[this];rfl
     · rw[Qa e,Qa (by lia)]
theorem zPO {it:Array Keyed}{P zs:List Nat}{o:Nat}(h:o+zs.length<=P.length):(Ar it zs).toList.zipIdx.foldl (fun a (x:Keyed×Nat)=>a.setIfInBounds (o+x.2) x.1) (Ar it P)=Ar it (P.take o++zs++P.drop (o+zs.length)):=by
 apply Rx
 intro i
 have hz:(Ar it zs).toList.length=zs.length:=by simp[Ar]
 rw[zWh o (Ar it zs).toList 0 (Ar it P) (by rw[hz,zF];lia),hz,Nat.add_zero]
 have e3:∀j:Nat,(Ar it zs).toList[j]?=zs[j]?.map (kas_item it):=fun j=>by rw[Array.getElem?_toList,aV]
 rw[aV,aV,e3]
 have lt:(P.take o).length=o:=by rw[Qh];lia
 by_cases c:o<=i/\i < o+zs.length
 · rw[Qi c,Qm,Wt (by lia),lt,Wc (by lia)]
 · rw[Qa c]
   congr 1
   rcases Tr i o with z | z
   · rw[Qm,Wc (by lia),Rc,Qi z]
   · rw[Wt (by rw[Qr];lia),Rv,Qr,lt]
     congr 1;lia
abbrev ck (P:List Nat)(u v:Nat):List Nat:=(P.take v).drop u
theorem lV {P:List Nat}{u v:Nat}(hv:v<=P.length):(ck P u v).length=v - u:=by rw[Wi,Qh];lia
theorem jL {P:List Nat}{u v i:Nat}(hi:u+i < v):(ck P u v).getD i 0=P.getD (u+i) 0:=by
 rw[Wf,Wf,Rv,Rc,Qi hi]
theorem mD {P:List Nat}{u v x:Nat}(h1:u<=v)(h2:v<=x):ck P u x=ck P u v++ck P v x:=by
 have:=iU (l:=P.take x) h1
 rw[Uz,Tl h2] at this
 exact this
theorem zTw {P:List Nat}{u v:Nat}(h:u<=v):P=P.take u++ck P u v++P.drop v:=by
 have e1:P.drop u=ck P u v++P.drop v:=iU h
 rw[Qm,←e1,Wn]
structure Sg (lt:Nat->Nat->Bool)(P:List Nat)(a n:Nat):Prop where
 up:(ck P a (a+n)).Pairwise (Lx lt)
 pm:(ck P a (a+n)).Perm (List.range' a n)
theorem Sg.lx {lt:Nat->Nat->Bool}{P:List Nat}{a n i j:Nat}(g:Sg lt P a n)(hl:a+n<=P.length)(hij:i < j)(hj:j < n):Lx lt (P.getD (a+i) 0) (P.getD (a+j) 0):=by
 have:=lH g.up (i:=i) (j:=j) hij (by rw[lV hl];lia)
 rwa[jL (by lia),jL (by lia)] at this
theorem Sg.bd {lt:Nat->Nat->Bool}{P:List Nat}{a n i:Nat}(g:Sg lt P a n)(hl:a+n<=P.length)(hi:i < n):a<=P.getD (a+i) 0/\P.getD (a+i) 0 < a+n:=by
 have h1:(ck P a (a+n)).getD i 0∈ck P a (a+n):=yN (by rw[lV hl];lia)
 rw[jL (by lia)] at h1
 have:=g.pm.subset h1
 rw[List.mem_range'_1] at this
 exact this
theorem zQ9 {prog:Program}{w:World}{A:Around}{E:Value->Shared->Prop}{s:Shared}{x st:SortSt}{Q:PUnit->SortSt->Prop}(h:Q ⟨⟩ x):wpS (model prog w) A E s (set x:StateT SortSt Sem PUnit) Q st:=by
 unfold wpS;rw[StateT.run_set];exact Qx ⟨rfl,h⟩
section
variable {prog:Program} {w:World} {A:Around} {E:Value->Shared->Prop} {s:Shared} {κ:SortKind} {it:Array Keyed} {lt:Nat->Nat->Bool} {N:Nat}
theorem zPx {P:List Nat}{pend:Array (Nat×Nat×Nat)}{i a n1 n2 p1 p2:Nat}{Q:Bool->SortSt->Prop}{st:SortSt}(W:SWO lt)(hq:Orc prog w A s κ it lt N)(hk:kindOf st=κ)(hf:failedOf st=none)(ha:arrOf st=Ar it P)(hp:pendingOf st=pend)
   (h1:pend[i]?=some (a,n1,p1)) (h2:pend[i+1]?=some (a+n1,n2,p2)) (l1:0 < n1) (l2:0 < n2) (hN:P.length=N) (hb:a+n1+n2<=N) (g1:Sg lt P a n1) (g2:Sg lt P (a+n1) n2)
   (hQ:∀(zs:List Nat) (st':SortSt),PyProof.Rows.kindOf st'=κ->failedOf st'=none->zs.length=n1+n2->arrOf st'=Ar it (P.take a++zs++P.drop (a+n1+n2))->pendingOf st'=(pend.setIfInBounds i (a,n1+n2,p1)).eraseIdxIfInBounds (i+1)->zs.Pairwise (Lx lt)->zs.Perm (List.range' a (n1+n2))->Q true st') :
   wpS (model prog w) A E s (mergeAt' i) Q st:=by
 have hA:∀ {i:Nat},i < P.length->(Ar it P)[i]?=some (kas_item it (P.getD i 0)):=fun hi=>xL hi
 have X1:∀ {i j:Nat},i < j->j < n1->Lx lt (P.getD (a+i) 0) (P.getD (a+j) 0):=fun h h'=>g1.lx (by lia) h h'
 have Y1:∀ {i j:Nat},i < j->j < n2->Lx lt (P.getD (a+n1+i) 0) (P.getD (a+n1+j) 0):=fun h h'=>g2.lx (by lia) h h'
 have Xb:∀ {i:Nat},i < n1->P.getD (a+i) 0 < a+n1:=fun h=>(g1.bd (by lia) h).2
 have Yb:∀ {i:Nat},i < n2->a+n1<=P.getD (a+n1+i) 0/\P.getD (a+n1+i) 0 < N:=fun h=>by have:=g2.bd (by lia) h;lia
 have cxy:(ck P a (a+n1)++ck P (a+n1) (a+n1+n2)).Perm (List.range' a (n1+n2)):=by
   refine(g1.pm.append g2.pm).trans ?_
   have:=List.range'_append_1 (s:=a) (m:=n1) (n:=n2)
   rw[this]
 have mx:∀ {u v x:Nat},a<=u->v<=a+n1->x∈ck P u v->∃i,u<=a+i/\a+i < v/\i < n1/\x=P.getD (a+i) 0:=fun {u v x} h1 h2 h=>by
   obtain⟨j,j1,j2,j3,rfl⟩:=lB h
   exact⟨j - a,by lia,by lia,by lia,by rw[show a+(j - a)=j by lia]⟩
 have my:∀ {u v x:Nat},a+n1<=u->v<=a+n1+n2->x∈ck P u v->∃i,u<=a+n1+i/\a+n1+i < v/\i < n2/\x=P.getD (a+n1+i) 0:=fun {u v x} h1 h2 h=>by
   obtain⟨j,j1,j2,j3,rfl⟩:=lB h
   exact⟨j - (a+n1),by lia,by lia,by lia,by rw[show a+n1+(j - (a+n1))=j by lia]⟩
 obtain⟨k0,a0,p0,g0,f0⟩:=st
 have hk:k0=κ:=hk
 have hf:f0=none:=hf
 have ha:a0=Ar it P:=ha
 have hp:p0=pend:=hp
 subst hk;subst hf;subst ha;subst hp
 refine Qf (Yk ?_)
 dsimp only
 rw[h1,h2]
 dsimp only
 refine Qf (zQ9 ?_)
 refine Qf (yI (α:=Unit) (hA (i:=a+n1) (by lia)) ?_)
 have y0:P.getD (a+n1) 0=P.getD (a+n1+0) 0:=rfl
 refine Qf (rJ (f:=fun i=>P.getD (a+i) 0) (bd:=fun i => !lt (P.getD (a+n1) 0) (P.getD (a+i) 0)) hq rfl (Yb (i:=0) l2).2 (fun i hi=>⟨hA (by lia),by have:=Xb hi;lia⟩) (fun i=>rfl) (fun i j hij hj hbj=>?_) l1 fun k hk1 hk2 hk3=>?_)
 · by_cases e:i=j
   · rw[e];exact hbj
   · have hbj:lt (P.getD (a+n1) 0) (P.getD (a+j) 0)=false:=by simpa using hbj
     have:=W.ntr hbj (Lx.le W (X1 (i:=i) (j:=j) (by lia) hj))
     simpa using this
 have hk2':∀i,i < k->lt (P.getD (a+n1) 0) (P.getD (a+i) 0)=false:=fun i hi=>by simpa using hk2 i hi
 have hk3':∀i,k<=i->i < n1->lt (P.getD (a+n1) 0) (P.getD (a+i) 0)=true:=fun i h h'=>by simpa using hk3 i h h'
 -- the first ones are less than all of the second run
 have low:∀i j,i < k->j < n2->Lx lt (P.getD (a+i) 0) (P.getD (a+n1+j) 0):=fun i j hi hj=>by
   have l0:Lx lt (P.getD (a+i) 0) (P.getD (a+n1) 0):=Lx.of W (hk2' i hi) (by have:=Xb (i:=i) (by lia);have:=Yb (i:=0) l2;lia)
   cases j with
   | zero=>exact l0
   | succ j=>exact Lx.trans W l0 (Y1 (i:=0) (by lia) hj)
 dsimp only
 by_cases e0:n1 - k=0
 · rw[Qi (by simpa using e0)]
   refine Qv (hQ (ck P a (a+n1)++ck P (a+n1) (a+n1+n2)) _ rfl rfl ?_ ?_ rfl ?_ cxy)
   · rw[Qr,lV (by lia),lV (by lia)];lia
   · rw[←mD (by lia) (by lia),←zTw (by lia)]
   · refine Qc.mpr ⟨g1.up,g2.up,fun x hx y hy=>?_⟩
     obtain⟨i',i1,i2,i3,rfl⟩:=mx (Qp _) (Qp _) hx
     obtain⟨j',j1,j2,j3,rfl⟩:=my (Qp _) (Qp _) hy
     exact low i' j' (by lia) j3
 rw[Qa (by simpa using e0)]
 have e1:a+k+(n1 - k) - 1=a+(n1 - 1):=by lia
 rw[e1]
 refine Qf (yI (α:=Unit) (hA (i:=a+(n1 - 1)) (by lia)) ?_)
 refine Qf (rJ (f:=fun i=>P.getD (a+n1+i) 0) (bd:=fun i=>lt (P.getD (a+n1+i) 0) (P.getD (a+(n1 - 1)) 0)) hq rfl (by have:=Xb (i:=n1 - 1) (by lia);lia) (fun i hi=>⟨hA (by lia),(Yb hi).2⟩) (fun i=>rfl) (fun i j hij hj hbj=>?_) (by lia) fun m hm1 hm2 hm3=>?_)
 · by_cases e:i=j
   · rw[e];exact hbj
   · exact W.eql hbj (Lx.le W (Y1 (i:=i) (j:=j) (by lia) hj))
 dsimp only
 have y0x:lt (P.getD (a+n1) 0) (P.getD (a+(n1 - 1)) 0)=true:=hk3' (n1 - 1) (by lia) (by lia)
 have m0:0 < m:=by
   rcases Ia m with z | z
   · have:=hm3 0 (by lia) l2
     have:lt (P.getD (a+n1) 0) (P.getD (a+(n1 - 1)) 0)=false:=this
     rw[y0x] at this;cases this
   · exact z
 rw[Qa (by simp;lia),dC,dC]
 have lx:(ck P (a+k) (a+n1)).length=n1 - k:=by rw[lV (by lia)];lia
 have ly:(ck P (a+n1) (a+n1+m)).length=m:=by rw[lV (by lia)];lia
 have T:Two lt (ck P (a+k) (a+n1)) (ck P (a+n1) (a+n1+m)):=by
   refine⟨?_,?_,fun x hx y hy=>?_⟩
   · have:=g1.up
     rw[mD (v:=a+k) (by lia) (by lia)] at this
     exact(Qc.mp this).2.1
   · have:=g2.up
     rw[mD (v:=a+n1+m) (by lia) (by lia)] at this
     exact(Qc.mp this).1
   · obtain⟨i',i1,i2,i3,rfl⟩:=mx (by lia) (Qp _) hx
     obtain⟨j',j1,j2,j3,rfl⟩:=my (Qp _) (by lia) hy
     have:=Xb i3
     have:=Yb j3
     lia
 have tx:∀x∈ck P (a+k) (a+n1),x < N:=fun x hx=>by
   obtain⟨i',i1,i2,i3,rfl⟩:=mx (by lia) (Qp _) hx
   have:=Xb i3
   lia
 have ty:∀y∈ck P (a+n1) (a+n1+m),y < N:=fun y hy=>by
   obtain⟨j',j1,j2,j3,rfl⟩:=my (Qp _) (by lia) hy
   exact(Yb j3).2
 have q1:lt ((ck P (a+n1) (a+n1+m)).getD 0 0) ((ck P (a+k) (a+n1)).getD 0 0)=true:=by
   rw[jL (by lia),jL (by lia)]
   exact hk3' k (Qp _) (by lia)
 have q2:lt ((ck P (a+n1) (a+n1+m)).getD ((ck P (a+n1) (a+n1+m)).length - 1) 0) ((ck P (a+k) (a+n1)).getD ((ck P (a+k) (a+n1)).length - 1) 0)=true:=by
   rw[lx,ly,jL (by lia),jL (by lia),show a+k+(n1 - k - 1)=a+(n1 - 1) by lia]
   exact hm2 (m - 1) (by lia)
 -- laid back
 have fin:∀(zs:List Nat) (st':SortSt),Mrg lt (ck P (a+k) (a+n1)) (ck P (a+n1) (a+n1+m)) zs->arrOf st'=Ar it P->PyProof.Rows.kindOf st'=k0->failedOf st'=none->pendingOf st'=(p0.setIfInBounds i (a,n1+n2,p1)).eraseIdxIfInBounds (i+1) ->
     Q true (SortSt.mk' (PyProof.Rows.kindOf st') ((Ar it zs).toList.zipIdx.foldl (fun b (x:Keyed×Nat)=>b.setIfInBounds (a+k+x.2) x.1) (arrOf st')) (pendingOf st') (gallopOf st') (failedOf st')):=fun zs st' hm b1 b2 b3 b4=>by
   have lz:zs.length=n1 - k+m:=by rw[hm.1.length_eq,Qr,lx,ly]
   have mz:∀z∈zs,z∈ck P (a+k) (a+n1)∨z∈ck P (a+n1) (a+n1+m):=fun z hz=>Qn.mp (hm.1.subset hz)
   refine hQ (ck P a (a+k)++zs++ck P (a+n1+m) (a+n1+n2)) _ b2 b3 ?_ ?_ b4 ?_ ?_
   · rw[Qr,Qr,lV (by lia),lV (by lia),lz];lia
   · show(Ar it zs).toList.zipIdx.foldl _ (arrOf st')=_
     rw[b1,zPO (by rw[lz];lia)]
     congr 1
     have e2:P.take (a+k)=P.take a++ck P a (a+k):=by
       have:=mD (P:=P) (u:=0) (v:=a) (x:=a+k) (by lia) (by lia)
       simpa using this
     have e3:P.drop (a+k+zs.length)=ck P (a+n1+m) (a+n1+n2)++P.drop (a+n1+n2):=by
       rw[lz,show a+k+(n1 - k+m)=a+n1+m by lia]
       exact iU (by lia)
     rw[e2,e3]
     simp only[Qm]
   · refine Qc.mpr ⟨Qc.mpr ⟨?_,hm.2,fun x hx z hz=>?_⟩,?_,fun x hx y hy=>?_⟩
     · have:=g1.up
       rw[mD (v:=a+k) (by lia) (by lia)] at this
       exact(Qc.mp this).1
     · obtain⟨i',i1,i2,i3,rfl⟩:=mx (Qp _) (by lia) hx
       rcases mz z hz with hz | hz
       · obtain⟨j',j1,j2,j3,rfl⟩:=mx (by lia) (Qp _) hz
         exact X1 (by lia) j3
       · obtain⟨j',j1,j2,j3,rfl⟩:=my (Qp _) (by lia) hz
         exact low i' j' (by lia) j3
     · have:=g2.up
       rw[mD (v:=a+n1+m) (by lia) (by lia)] at this
       exact(Qc.mp this).2.1
     · obtain⟨j',j1,j2,j3,rfl⟩:=my (by lia) (Qp _) hy
       have hi:∀i',i' < n1->k<=i'∨i' < k->Lx lt (P.getD (a+i') 0) (P.getD (a+n1+j') 0):=fun i' i1 _=>by
         have l0:Lx lt (P.getD (a+(n1 - 1)) 0) (P.getD (a+n1+j') 0):=Lx.of W (hm3 j' (by lia) j3) (by have:=Xb (i:=n1 - 1) (by lia);have:=Yb j3;lia)
         by_cases e:i'=n1 - 1
         · rw[e];exact l0
         · exact Lx.trans W (X1 (i:=i') (j:=n1 - 1) (by lia) (by lia)) l0
       rcases Qn.mp hx with hx | hx
       · obtain⟨i',i1,i2,i3,rfl⟩:=mx (Qp _) (by lia) hx
         exact hi i' i3 (by lia)
       · rcases mz x hx with hx | hx
         · obtain⟨i',i1,i2,i3,rfl⟩:=mx (by lia) (Qp _) hx
           exact hi i' i3 (by lia)
         · obtain⟨i',i1,i2,i3,rfl⟩:=my (Qp _) (by lia) hx
           exact Y1 (by lia) j3
   · refine List.Perm.trans ?_ cxy
     rw[mD (P:=P) (u:=a) (v:=a+k) (x:=a+n1) (by lia) (by lia),mD (P:=P) (u:=a+n1) (v:=a+n1+m) (x:=a+n1+n2) (by lia) (by lia)]
     have:=(hm.1.append_left (ck P a (a+k))).append_right (ck P (a+n1+m) (a+n1+n2))
     refine this.trans ?_
     simp only[Qm]
     exact .refl _
 by_cases hle:n1 - k<=m
 · rw[Qi hle]
   refine Qf (zOO W hq rfl T tx ty (by rw[lx];lia) (by rw[ly];lia) q1 q2 fun zs st' hm gl=>?_)
   refine Qf (To (Qf (Yk ?_)))
   have:=fin zs st' hm gl.a gl.k gl.f gl.p
   refine Qv ?_
   have e:(failedOf st').isNone=true:=by rw[gl.f];rfl
   show Q (failedOf st').isNone _
   rw[e]
   exact this
 · rw[Qa hle]
   refine Qf (zOK W hq rfl T tx ty (by rw[lx];lia) (by rw[ly];lia) q1 q2 fun zs st' hm gl=>?_)
   refine Qf (To (Qf (Yk ?_)))
   have:=fin zs st' hm gl.a gl.k gl.f gl.p
   refine Qv ?_
   have e:(failedOf st').isNone=true:=by rw[gl.f];rfl
   show Q (failedOf st').isNone _
   rw[e]
   exact this
end
end L2
namespace L2
open PySem PySem.W PyProof.Rows
def Rn (lt:Nat->Nat->Bool)(P:List Nat):List (Nat×Nat×Nat)->Nat->Nat->Prop
 | [],a,e=>a=e
 | r::l,a,e=>r.1=a/\0 < r.2.1/\Sg lt P a r.2.1/\Rn lt P l (a+r.2.1) e
section
variable {lt:Nat->Nat->Bool} {P P':List Nat}
theorem Rn.app:∀ {l1 l2:List (Nat×Nat×Nat)} {a e:Nat},Rn lt P (l1++l2) a e↔∃m,Rn lt P l1 a m/\Rn lt P l2 m e
 | [],l2,a,e=>⟨fun h=>⟨a,rfl,h⟩,fun⟨m,h1,h2⟩=>by cases h1;exact h2⟩
 | r::l1,l2,a,e=>by
   constructor
   · rintro⟨h1,h2,h3,h4⟩
     obtain⟨m,h5,h6⟩:=(Rn.app (l1:=l1)).mp h4
     exact⟨m,⟨h1,h2,h3,h5⟩,h6⟩
   · rintro⟨m,⟨h1,h2,h3,h5⟩,h6⟩
     exact⟨h1,h2,h3,(Rn.app (l1:=l1)).mpr ⟨m,h5,h6⟩⟩
theorem Rn.le:∀ {l:List (Nat×Nat×Nat)} {a e:Nat},Rn lt P l a e->a+l.length<=e
 | [],a,e,h=>by cases h;simp
 | r::l,a,e,⟨h1,h2,h3,h4⟩=>by have:=Rn.le h4;rw[Qs];lia
theorem Sg.of {a n:Nat}(h:Sg lt P a n)(e:ck P' a (a+n)=ck P a (a+n)):Sg lt P' a n:=⟨by rw[e];exact h.up,by rw[e];exact h.pm⟩
theorem Rn.of:∀ {l:List (Nat×Nat×Nat)} {a e:Nat},Rn lt P l a e->(∀u v,a<=u->u<=v->v<=e->ck P' u v=ck P u v)->Rn lt P' l a e
 | [],a,e,h,_=>h
 | r::l,a,e,⟨h1,h2,h3,h4⟩,k=>⟨h1,h2,h3.of (k _ _ (Qp _) (by lia) (by have:=Rn.le h4;lia)),Rn.of h4 fun u v x y z=>k u v (by lia) y z⟩
theorem Rn.last {l:List (Nat×Nat×Nat)}{r:Nat×Nat×Nat}{a e:Nat}(h:Rn lt P (l++[r]) a e)(p:Nat):Rn lt P (l++[(r.1,r.2.1,p)]) a e:=by
 obtain⟨m,h1,h2,h3,h4,h5⟩:=Rn.app.mp h
 exact Rn.app.mpr ⟨m,h1,h2,h3,h4,h5⟩
theorem zRe {zs:List Nat}{a n u v:Nat}(ha:a<=P.length)(hv:v<=a):ck (P.take a++zs++P.drop n) u v=ck P u v:=by
 show((P.take a++zs++P.drop n).take v).drop u=(P.take v).drop u
 have:(P.take a).length=a:=by rw[Qh];lia
 rw[Qm,Op (by lia),Uz,Tl hv]
theorem zQQ {zs:List Nat}{a n u v:Nat}(ha:a+n<=P.length)(hz:zs.length=n)(hu:a+n<=u):ck (P.take a++zs++P.drop (a+n)) u v=ck P u v:=by
 have lt:(P.take a).length=a:=by rw[Qh];lia
 apply List.ext_getElem?
 intro i
 show(((P.take a++zs++P.drop (a+n)).take v).drop u)[i]?=((P.take v).drop u)[i]?
 rw[Rv,Rv,Rc,Rc]
 by_cases c:u+i < v
 · rw[Qi c,Qi c,Wt (by rw[Qr];lia),Rv,Qr,lt,hz]
   congr 1;lia
 · rw[Qa c,Qa c]
theorem zTU {zs:List Nat}{a n:Nat}(ha:a<=P.length)(hz:zs.length=n):ck (P.take a++zs++P.drop (a+n)) a (a+n)=zs:=by
 have lt:(P.take a).length=a:=by rw[Qh];lia
 show((P.take a++zs++P.drop (a+n)).take (a+n)).drop a=zs
 rw[Op (by rw[Qr];lia),Ed (by rw[Qr];lia),List.drop_left' lt]
theorem Rn.merge {l1 l2:List (Nat×Nat×Nat)}{a n1 n2 p1 p2 b e:Nat}{zs:List Nat}(h:Rn lt P (l1++(a,n1,p1)::(b,n2,p2)::l2) 0 e)(he:e<=P.length)(hz:zs.length=n1+n2)(zu:zs.Pairwise (Lx lt))(zp:zs.Perm (List.range' a (n1+n2))) :
   Rn lt (P.take a++zs++P.drop (a+n1+n2)) (l1++(a,n1+n2,p1)::l2) 0 e:=by
 obtain⟨m,h1,rfl,h3,h4,rfl,h6,h7,h8⟩:=Rn.app.mp h
 have hle:=Rn.le h8
 dsimp only at *
 have e3:a+n1+n2=a+(n1+n2):=by lia
 rw[e3]
 refine Rn.app.mpr ⟨a,h1.of fun u v _ _ y=>zRe (by lia) y,rfl,by show 0 < n1+n2;lia,⟨by rw[zTU (by lia) hz];exact zu,by rw[zTU (by lia) hz];exact zp⟩,?_⟩
 show Rn lt _ l2 (a+(n1+n2)) e
 rw[←e3]
 rw[e3]
 rw[e3] at h8
 exact h8.of fun u v x _ _=>zQQ (by lia) hz x
theorem Rn.two {l1 l2:List (Nat×Nat×Nat)}{a n1 n2 p1 p2 b e:Nat}(h:Rn lt P (l1++(a,n1,p1)::(b,n2,p2)::l2) 0 e):b=a+n1/\0 < n1/\0 < n2/\Sg lt P a n1/\Sg lt P (a+n1) n2/\a+n1+n2<=e:=by
 obtain⟨m,h1,rfl,h3,h4,rfl,h6,h7,h8⟩:=Rn.app.mp h
 have hle:=Rn.le h8
 exact⟨rfl,h3,h6,h4,h7,by dsimp only at hle;lia⟩
theorem zVQ {α:Type}{p:Array α}{i:Nat}(h:i+1 < p.size):∃l1 x y l2,p.toList=l1++x::y::l2/\l1.length=i/\p[i]?=some x/\p[i+1]?=some y:=by
 have hl:p.toList.length=p.size:=Wj
 refine⟨p.toList.take i,p[i],p[i+1],p.toList.drop (i+2),?_,by rw[Qh];lia,by simp,by simp⟩
 have h1:p.toList.drop i=p.toList[i]'(by lia)::p.toList.drop (i+1):=Ey (by lia)
 have h2:p.toList.drop (i+1)=p.toList[i+1]'(by lia)::p.toList.drop (i+2):=Ey (by lia)
 conv=>lhs;rw[←Wn i p.toList,h1,h2]
 simp
theorem zTb {α:Type}{p:Array α}{l1 l2:List α}{x y z:α}(h:p.toList=l1++x::y::l2):((p.setIfInBounds l1.length z).eraseIdxIfInBounds (l1.length+1)).toList=l1++z::l2:=by
 rw[Ic,Array.toList_setIfInBounds,h,List.set_append_right _ _ (Qp _),Nat.sub_self,List.set_cons_zero,List.eraseIdx_append_of_length_le (by lia)]
 have:l1.length+1 - l1.length=1:=by lia
 rw[this];rfl
theorem Org.take {M n:Nat}{q:Array Nat}(h:Org M q n)(hn:n<=M):(q.toList.take n).Perm (List.range n):=by
 have hl:q.toList.length=M:=by rw[Wj,h.sz]
 have hd:q.toList.drop n=List.range' n (M - n):=by
   apply List.ext_getElem
   · rw[Wi,List.length_range',hl]
   · intro i h1 h2
     rw[List.length_range'] at h2
     have:=h.hi (n+i) (by lia) (by lia)
     rw[qL] at this
     have h3:n+i < q.size:=by rw[h.sz];lia
     simp[h3] at this
     simp[this]
 have hp:(q.toList.take n++q.toList.drop n).Perm (List.range n++List.range' n (M - n)):=by
   rw[Wn]
   refine h.pm.trans ?_
   rw[Yy,Yy]
   have:=List.range'_append_1 (s:=0) (m:=n) (n:=M - n)
   rw[Nat.zero_add] at this
   rw[this,show n+(M - n)=M by lia]
 rw[hd] at hp
 exact(List.perm_append_right_iff _).mp hp
variable {prog:Program} {w:World} {A:Around} {E:Value->Shared->Prop} {s:Shared} {κ:SortKind} {it:Array Keyed} {N:Nat}
def aJ (P:List Nat)(lo:Nat)(q:Array Nat):List Nat:=P.take lo++q.toList.map (lo+·)
theorem At.ar {P:List Nat}{lo:Nat}{q:Array Nat}{st:SortSt}(h:At it lo (Ar it (P.take lo)) q st):arrOf st=Ar it (aJ P lo q):=by
 rw[h.arr]
 apply Ev.mp
 simp[Ar,aJ]
theorem zRh {P:List Nat}{lo M n:Nat}{q:Array Nat}(hl:lo<=P.length)(hn:n<=M)(ho:Org M q n)(hs:Srt (fun a b=>lt (lo+a) (lo+b)) q n):Sg lt (aJ P lo q) lo n:=by
 have lt':(P.take lo).length=lo:=by rw[Qh];lia
 have e:ck (aJ P lo q) lo (lo+n)=(q.toList.take n).map (lo+·):=by
   show((P.take lo++q.toList.map (lo+·)).take (lo+n)).drop lo=_
   rw[List.take_append,lt',Nat.add_sub_cancel_left,Ed (by lia),List.drop_left' lt',Tk]
 refine⟨?_,?_⟩
 · rw[e,Em,Ra]
   intro i j hi hj hij
   rw[Qh,Wj,ho.sz] at hi hj
   have:=hs i j hij (by lia)
   have h1:i < q.size:=by rw[ho.sz];lia
   have h2:j < q.size:=by rw[ho.sz];lia
   rw[qL,qL] at this
   simp[h1,h2] at this
   have z:∀a b,Lx (fun a b=>lt (lo+a) (lo+b)) a b->Lx lt (lo+a) (lo+b):=fun a b h=>by
     rcases h with h | ⟨h1,h2,h3⟩
     · exact .inl h
     · exact .inr ⟨h1,h2,by lia⟩
   simpa using z _ _ this
 · rw[e]
   refine((ho.take hn).map (lo+·)).trans ?_
   rw[Yy,List.map_add_range']
   exact .refl _
structure SI (it:Array Keyed)(lt:Nat->Nat->Bool)(N:Nat)(κ:SortKind)(st:SortSt)(P:List Nat)(lo:Nat):Prop where
 k:PyProof.Rows.kindOf st=κ
 f:failedOf st=none
 a:arrOf st=Ar it P
 len:P.length=N
 rn:Rn lt P (pendingOf st).toList 0 lo
 le:lo<=N
 id:∀j,lo<=j->j < N->P.getD j 0=j
theorem zRp {P zs:List Nat}{a n j:Nat}(ha:a+n<=P.length)(hz:zs.length=n)(hj:a+n<=j):(P.take a++zs++P.drop (a+n)).getD j 0=P.getD j 0:=by
 have lt:(P.take a).length=a:=by rw[Qh];lia
 rw[Wf,Wf,Wt (by rw[Qr];lia),Rv,Qr,lt,hz]
 congr 2;lia
theorem zR6 {P zs:List Nat}{a n:Nat}(ha:a+n<=P.length)(hz:zs.length=n):(P.take a++zs++P.drop (a+n)).length=P.length:=by
 rw[Qr,Qr,Qh,Wi];lia
theorem zWq {P:List Nat}{i e:Nat}{Q:Bool->SortSt->Prop}{st:SortSt}(W:SWO lt)(hq:Orc prog w A s κ it lt N)(hk:PyProof.Rows.kindOf st=κ)(hf:failedOf st=none)(ha:arrOf st=Ar it P)(hN:P.length=N)(hrn:Rn lt P (pendingOf st).toList 0 e)(he:e<=N)(hi:i+1 < (pendingOf st).size)
   (hQ:∀(P':List Nat) (st':SortSt),PyProof.Rows.kindOf st'=κ->failedOf st'=none->arrOf st'=Ar it P'->P'.length=N->Rn lt P' (pendingOf st').toList 0 e->(pendingOf st').size+1=(pendingOf st).size->(∀u v,e<=u->ck P' u v=ck P u v)->(∀j,e<=j->P'.getD j 0=P.getD j 0)->Q true st'):wpS (model prog w) A E s (mergeAt' i) Q st:=by
 obtain⟨l1,⟨a,n1,p1⟩,⟨b,n2,p2⟩,l2,t1,t2,t3,t4⟩:=zVQ hi
 rw[t1] at hrn
 obtain⟨rfl,b1,b2,b3,b4,b5⟩:=hrn.two
 refine zPx (P:=P) W hq hk hf ha rfl t3 t4 b1 b2 hN (by lia) b3 b4 fun zs st' c1 c2 c3 c4 c5 c6 c7=>?_
 have e3:a+n1+n2=a+(n1+n2):=by lia
 rw[e3] at c4
 have tl:(pendingOf st').toList=l1++(a,n1+n2,p1)::l2:=by rw[c5,←t2,zTb t1]
 refine hQ _ st' c1 c2 c4 (by rw[zR6 (by lia) c3];exact hN) ?_ ?_ (fun u v h=>zQQ (by lia) c3 (by lia)) fun j h=>zRp (by lia) c3 (by lia)
 · rw[tl,←e3]
   exact hrn.merge (by lia) c3 c6 c7
 · have h1:(pendingOf st').toList.length=(pendingOf st').size:=Wj
   have h2:(pendingOf st).toList.length=(pendingOf st).size:=Wj
   rw[tl] at h1
   rw[t1] at h2
   simp at h1 h2
   lia
theorem zXM {α:Type}{p:Array α}{r:α}(h:p.back?=some r):∃l,p.toList=l++[r]:=by
 obtain⟨l⟩:=p
 have h:l.getLast?=some r:=by simpa using h
 obtain⟨ys,h⟩:=List.getLast?_eq_some_iff.mp h
 exact⟨ys,h⟩
theorem zXO {α:Type}{r:α}{f:α->α}:∀l:List α,(l++[r]).modify l.length f=l++[f r]
 | []=>rfl
 | a::l=>by
   show a::(l++[r]).modify l.length f=_
   rw[zXO l];rfl
theorem zR7 {α:Type}{p:Array α}{l:List α}{r:α}{f:α->α}(h:p.toList=l++[r]):(p.modify (p.size - 1) f).toList=l++[f r]:=by
 have hs:p.size=l.length+1:=by rw[←Wj,h];simp
 rw[Array.toList_modify,h,hs,Nat.add_sub_cancel,zXO]
theorem zPH {c:Prop}[Decidable c]{a b m:Nat}(h1:a<=m)(h2:b<=m):(if c then a else b)<=m:=by split<;>assumption
theorem zSa {Q:Unit->SortSt->Prop}{st:SortSt}(W:SWO lt)(hq:Orc prog w A s κ it lt N)(hN:0 < N)(hk:PyProof.Rows.kindOf st=κ)(hf:failedOf st=none)(ha:arrOf st=Ar it (List.range N))(hp:pendingOf st=#[])
   (hQ:∀(P:List Nat) (st':SortSt),arrOf st'=Ar it P->failedOf st'=none->P.Perm (List.range N)->P.Pairwise (Lx lt)->Q () st'):wpS (model prog w) A E s sortRuns' Q st:=by
 have hsz:(arrOf st).size=N:=by rw[ha,zF,Rq]
 rw[sortRuns'_eq]
 refine Qf (Yk ?_)
 dsimp only
 rw[hsz]
 refine Qf (Ex (Er (I:=fun x c st'=>∃P lo,c=(none,lo)/\SI it lt N κ st' P lo/\x<=lo) (Q:=fun c st'=>∃P,c=(none,N)/\SI it lt N κ st' P N) ?step ?fin ⟨List.range N,0,rfl,⟨hk,hf,ha,Rq,by rw[hp];rfl,Ee _,fun j _ h=>by simp[h]⟩,Qp _⟩) ?post)
 case fin =>
   rintro c st' ⟨P,lo,rfl,a1,a2⟩
   have e:lo=N:=by have:=a1.le;lia
   subst e
   exact⟨P,rfl,a1⟩
 case step =>
   rintro x c st1 _ hx ⟨P,lo,rfl,a1,a2⟩
   dsimp only
   by_cases hge:lo≥N
   · rw[Qi hge]
     have e:lo=N:=by have:=a1.le;lia
     subst e
     exact Qv ⟨P,rfl,a1⟩
   rw[Qa hge]
   have WL:=zW6 W lo
   have hM:1<=N - lo:=by lia
   have hlen:=a1.len
   have at0:At it lo (Ar it (P.take lo)) (List.toArray (List.range (N - lo))) st1:=by
     refine⟨?_,by rw[zF,Qh];lia⟩
     rw[a1.a]
     apply Rx
     intro i
     have hs:(Ar it (P.take lo)).size=lo:=by rw[zF,Qh];lia
     rcases Tr i lo with z | z
     · rw[Ry (by lia),aV,aV,Rc,Qi z]
     · rw[Wk (by lia),aV,hs]
       rcases Tr i N with y | y
       · have:=a1.id i z y
         rw[Wf] at this
         have h3:i < P.length:=by lia
         have h4:i - lo < N - lo:=by lia
         simp[h3] at this
         simp[h3,h4,this]
         congr 1;lia
       · rw[List.getElem?_eq_none (by lia),Tb (by rw[Om,Qo,Rq];lia)]
         rfl
   refine Qf (zT9 W hq (by lia) a1.k at0 hM (zUA WL hM) fun n q2 st2 b1 b2 b3=>?_)
   obtain⟨d1,d2,d3,d4⟩:=b3
   dsimp only at d1 d2 d3 d4 ⊢
   generalize minRun' N N 0=mr
   by_cases hlt:n < mr
   case' pos =>
     rw[Qi hlt]
     refine Qf (Ii (Ts ⟨rfl,?_⟩))
     refine Qf (zQw W hq (by lia) (b2.k.trans a1.k) b1 d1 (m:=min (N - lo) mr) (by lia) (by lia) d3 d4 fun q3 st3 g1 g2 g3 g4=>?_)
     rw[Qa (by decide)]
     have n1:1<=min (N - lo) mr:=by lia
     have n2:min (N - lo) mr<=N - lo:=by lia
     generalize min (N - lo) mr=n' at *
     have g5:Alk st1 st3:=b2.tr g2
   case' neg =>
     rw[Qa hlt]
     obtain⟨n',rfl⟩:∃n',n'=n:=⟨_,rfl⟩
     obtain⟨q3,rfl⟩:∃q3,q3=q2:=⟨_,rfl⟩
     obtain⟨st3,rfl⟩:∃st3,st3=st2:=⟨_,rfl⟩
     have g1:=b1
     have g3:=d3
     have g4:=d4
     have n1:=d1
     have n2:=d2
     have g5:=b2
   all_goals
     have P3a:arrOf st3=Ar it (aJ P lo q3):=g1.ar
     have P3s:Sg lt (aJ P lo q3) lo n':=zRh (by lia) n2 g4 g3
     have P3l:(aJ P lo q3).length=N:=by
       show(P.take lo++q3.toList.map (lo+·)).length=N
       have hq3:q3.toList.length=N - lo:=by rw[Wj,g4.sz]
       rw[Qr,Qh,Qu,hq3];lia
     have P3e:aJ P lo q3=P.take lo++q3.toList.map (lo+·)++P.drop N:=by
       rw[Eg (by lia),Ea];rfl
     have P3r:Rn lt (aJ P lo q3) (pendingOf st3).toList 0 lo:=by
       rw[g5.p]
       exact a1.rn.of fun u v _ _ y=>by rw[P3e];exact zRe (by lia) y
     have P3i:∀j,lo+n'<=j->j < N->(aJ P lo q3).getD j 0=j:=fun j h1 h2=>by
       have lt':(P.take lo).length=lo:=by rw[Qh];lia
       have:=g4.hi (j - lo) (by lia) (by lia)
       rw[qL] at this
       have h3:j - lo < q3.size:=by rw[g4.sz];lia
       show(P.take lo++q3.toList.map (lo+·)).getD j 0=j
       rw[Wf,Wt (by lia),lt',Ws,Array.getElem?_toList]
       simp[h3] at this
       simp[h3,this]
       lia
     -- pushed
     have push:∀(P4:List Nat) (st4:SortSt),PyProof.Rows.kindOf st4=κ->failedOf st4=none->arrOf st4=Ar it P4->P4.length=N->Rn lt P4 (pendingOf st4).toList 0 lo->Sg lt P4 lo n'->(∀j,lo+n'<=j->j < N->P4.getD j 0=j)->SI it lt N κ (setPending st4 ((pendingOf st4).push (lo,n',0))) P4 (lo+n'):=fun P4 st4 k1 k2 k3 k4 k5 k6 k7 =>
       ⟨k1,k2,k3,k4,by
         show Rn lt P4 ((pendingOf st4).push (lo,n',0)).toList 0 (lo+n')
         rw[Array.toList_push]
         exact Rn.app.mpr ⟨lo,k5,rfl,n1,k6,rfl⟩,by lia,k7⟩
     refine Qf (Yk ?_)
     cases hbk:(pendingOf st3).back? with
     | none =>
       dsimp only
       exact Qf (To (Qv ⟨_,_,rfl,push _ st3 (g5.k.trans a1.k) (g5.f.trans a1.f) P3a P3l P3r P3s P3i,by lia⟩))
     | some r =>
       obtain⟨s1,m1,r3⟩:=r
       dsimp only
       refine Qf (Ex (Er (I:=fun _ c st4=>c=(none,())/\∃P4,PyProof.Rows.kindOf st4=κ/\failedOf st4=none/\arrOf st4=Ar it P4/\P4.length=N/\Rn lt P4 (pendingOf st4).toList 0 lo/\Sg lt P4 lo n'/\(∀j,lo+n'<=j->j < N->P4.getD j 0=j)/\0 < (pendingOf st4).size)
         (Q:=fun c st4=>c=(none,())/\∃P4,PyProof.Rows.kindOf st4=κ/\failedOf st4=none/\arrOf st4=Ar it P4/\P4.length=N/\Rn lt P4 (pendingOf st4).toList 0 lo/\Sg lt P4 lo n'/\(∀j,lo+n'<=j->j < N->P4.getD j 0=j)/\0 < (pendingOf st4).size) ?istep (fun _ _ h=>h) ⟨rfl,_,g5.k.trans a1.k,g5.f.trans a1.f,P3a,P3l,P3r,P3s,P3i,by
           obtain⟨l,hl⟩:=zXM hbk
           rw[←Wj,hl];simp⟩) ?ipost)
       case istep =>
         rintro y c st4 _ _ ⟨rfl,P4,k1,k2,k3,k4,k5,k6,k7,k8⟩
         refine Qf (Yk ?_)
         by_cases h1:(pendingOf st4).size > 1
         · rw[Qi h1]
           obtain⟨l1,⟨x1,x2,x3⟩,y1,l2,t1,t2,t3,t4⟩:=zVQ (p:=pendingOf st4) (i:=(pendingOf st4).size - 2) (by lia)
           rw[t3]
           dsimp only
           by_cases h2:x3<=power' N (2*s1+m1) (2*s1+m1+m1+n') N
           · rw[Qi h2]
             exact Qv ⟨rfl,P4,k1,k2,k3,k4,k5,k6,k7,k8⟩
           · rw[Qa h2]
             refine Qf (zWq W hq k1 k2 k3 k4 k5 (by lia) (by lia) fun P5 st5 e1 e2 e3 e4 e5 e6 e7 e8=>?_)
             rw[Qa (by decide)]
             exact Qv ⟨rfl,P5,e1,e2,e3,e4,e5,k6.of (e7 _ _ (Qp _)),fun j j1 j2=>by rw[e8 j (by lia)];exact k7 j j1 j2,by lia⟩
         · rw[Qa h1]
           exact Qv ⟨rfl,P4,k1,k2,k3,k4,k5,k6,k7,k8⟩
       case ipost =>
         rintro c st4 ⟨rfl,P4,k1,k2,k3,k4,k5,k6,k7,k8⟩
         dsimp only
         refine Qf (To (Qf (To (Qv ⟨P4,_,rfl,?_,by lia⟩))))
         refine push P4 (setPending st4 _) k1 k2 k3 k4 ?_ k6 k7
         show Rn lt P4 ((pendingOf st4).modify ((pendingOf st4).size - 1) _).toList 0 lo
         obtain⟨r,hr⟩:∃r,(pendingOf st4).back?=some r:=by
           cases hb:(pendingOf st4).back? with
           | none =>
             have:pendingOf st4=#[]:=by simpa using hb
             rw[this] at k8
             exact absurd k8 (by decide)
           | some r=>exact⟨r,rfl⟩
         obtain⟨l,hl⟩:=zXM hr
         rw[zR7 hl]
         rw[hl] at k5
         exact k5.last _
 case post =>
   rintro c st1 ⟨P,rfl,a1⟩
   dsimp only
   have hlen:=a1.len
   refine Qf (Ex (Er (I:=fun x c st2=>c=(none,())/\∃P2,PyProof.Rows.kindOf st2=κ/\failedOf st2=none/\arrOf st2=Ar it P2/\P2.length=N/\Rn lt P2 (pendingOf st2).toList 0 N/\x+(pendingOf st2).size<=N)
     (Q:=fun c st2=>c=(none,())/\∃P2,failedOf st2=none/\arrOf st2=Ar it P2/\P2.length=N/\Rn lt P2 (pendingOf st2).toList 0 N/\(pendingOf st2).size<=1) ?fstep ?ffin ⟨rfl,P,a1.k,a1.f,a1.a,a1.len,a1.rn,by
       have:=a1.rn.le
       rw[Wj] at this
       lia⟩) ?fpost)
   case ffin =>
     rintro c st2 ⟨rfl,P2,k1,k2,k3,k4,k5,k6⟩
     exact⟨rfl,P2,k2,k3,k4,k5,by lia⟩
   case fstep =>
     rintro x c st2 _ _ ⟨rfl,P2,k1,k2,k3,k4,k5,k6⟩
     refine Qf (Yk ?_)
     by_cases h1:(pendingOf st2).size<=1
     · rw[Qi h1]
       exact Qv ⟨rfl,P2,k2,k3,k4,k5,h1⟩
     · rw[Qa h1]
       have go:∀i,i+1 < (pendingOf st2).size->wpS (model prog w) A E s (mergeAt' i) (fun b st3=>b=true/\∃P3,PyProof.Rows.kindOf st3=κ/\failedOf st3=none/\arrOf st3=Ar it P3/\P3.length=N/\Rn lt P3 (pendingOf st3).toList 0 N/\x+1+(pendingOf st3).size<=N) st2:=fun i hi =>
         zWq W hq k1 k2 k3 k4 k5 (Qp _) hi fun P5 st5 e1 e2 e3 e4 e5 e6 e7 e8=>⟨rfl,P5,e1,e2,e3,e4,e5,by lia⟩
       refine Qf (Ex (go _ ?_) ?_)
       · exact Nat.lt_of_le_of_lt (Nat.succ_le_succ (zPH (m:=(pendingOf st2).size - 2) (by lia) (Qp _))) (by lia)
       · rintro b st3 ⟨rfl,P3,h3⟩
         rw[Qa (by decide)]
         exact Qv ⟨rfl,P3,h3⟩
   case fpost =>
     rintro c st2 ⟨rfl,P2,k2,k3,k4,k5,k6⟩
     dsimp only
     have hone:∃r,(pendingOf st2).toList=[r]:=by
       have hl:(pendingOf st2).toList.length<=1:=by rw[Wj];exact k6
       match hh:(pendingOf st2).toList with
       | []=>rw[hh] at k5;exact absurd (show 0=N from k5) (by lia)
       | [r]=>exact⟨r,rfl⟩
       | _::_::_=>rw[hh] at hl;simp at hl
     obtain⟨⟨r1,r2,r3⟩,hr⟩:=hone
     rw[hr] at k5
     obtain⟨c1,c2,c3,c4⟩:=k5
     have c4:0+r2=N:=c4
     have c3:Sg lt P2 0 r2:=c3
     have er:r2=N:=by lia
     subst er
     have ep:ck P2 0 (0+P2.length)=P2:=by simp
     rw[←k4] at c3
     have u1:=c3.up
     have u2:=c3.pm
     rw[ep] at u1 u2
     exact Qv (hQ P2 st2 k3 k2 (by rw[←k4,Yy];exact u2) u1)
end
end L2
namespace L2
open PySem PySem.W PyProof.Rows
def zT3 (lt:Nat->Nat->Bool)(a b:Nat):Bool:=lt a b||(!lt b a&&decide (a<=b))
def wU (lt:Nat->Nat->Bool)(N:Nat):List Nat:=(List.range N).mergeSort (zT3 lt)
theorem zXQ {lt:Nat->Nat->Bool}{a b:Nat}:zT3 lt a b=true↔(Lx lt a b∨(lt b a=false/\a=b)):=by
 unfold zT3 Lx
 simp only[Tg,Wb,Bool.not_eq_true',Ej]
 cases h1:lt a b<;>cases h2:lt b a<;>simp<;>lia
theorem sW (lt:Nat->Nat->Bool)(N:Nat):(wU lt N).Perm (List.range N):=List.mergeSort_perm _ _
theorem zZN {lt:Nat->Nat->Bool}(W:SWO lt)(N:Nat):(wU lt N).Pairwise (Lx lt):=by
 have h:=List.pairwise_mergeSort (le:=zT3 lt) (fun a b c h1 h2=>by
   rw[zXQ] at h1 h2 ⊢
   rcases h1 with h1 | ⟨h1,rfl⟩
   · rcases h2 with h2 | ⟨h2,rfl⟩
     · exact .inl (Lx.trans W h1 h2)
     · exact .inl h1
   · exact h2) (fun a b=>by
   unfold zT3
   cases h1:lt a b<;>cases h2:lt b a<;>simp<;>lia) (List.range N)
 have nd:(wU lt N).Nodup:=(sW lt N).nodup_iff.mpr List.nodup_range
 refine(h.and nd).imp fun {a b} z=>?_
 rcases zXQ.mp z.1 with q | ⟨_,q⟩
 · exact q
 · exact absurd q z.2
theorem zRC {lt:Nat->Nat->Bool}(W:SWO lt){a b:Nat}(h1:Lx lt a b)(h2:Lx lt b a):False:=by
 rcases h1 with h1 | ⟨_,_,h1⟩
 · rcases h2 with h2 | ⟨_,h2,_⟩
   · rw[W.asym h1] at h2;cases h2
   · rw[h1] at h2;cases h2
 · rcases h2 with h2 | ⟨_,_,h2⟩
   · rename_i q _
     have:=W.asym h2
     simp_all
   · lia
theorem zU3 {lt:Nat->Nat->Bool}(W:SWO lt):∀ {l m:List Nat},l.Perm m->l.Pairwise (Lx lt)->m.Pairwise (Lx lt)->l=m
 | [],m,h,_,_=>(List.Perm.nil_eq h)
 | a::r,m,h,h1,h2=>by
   cases m with
   | nil=>exact absurd h.length_eq (by simp)
   | cons b t =>
     obtain⟨p1,p2⟩:=Ro.mp h1
     obtain⟨q1,q2⟩:=Ro.mp h2
     have e:a=b:=by
       have ha:a∈b::t:=h.subset (by simp)
       have hb:b∈a::r:=h.symm.subset (by simp)
       rcases Qd.mp ha with e | e
       · exact e
       · rcases Qd.mp hb with e' | e'
         · exact e'.symm
         · exact(zRC W (q1 a e) (p1 b e')).elim
     subst e
     rw[zU3 W (List.Perm.cons_inv h) p2 q2]
theorem zUJ {lt:Nat->Nat->Bool}(W:SWO lt){n:Nat}{P:List Nat}(h1:P.Perm (List.range n))(h2:P.Pairwise (Lx lt)):P=wU lt n:=zU3 W (h1.trans (sW lt n).symm) h2 (zZN W n)
theorem cE (lt:Nat->Nat->Bool){n:Nat}(h:n < 2):wU lt n=List.range n:=by
 match n,h with
 | 0,_=>simp[wU]
 | 1,_=>simp[wU,List.range_succ]
section
variable {prog:Program} {w:World} {A:Around} {E:Value->Shared->Prop} {s:Shared}
theorem zTA {keys vs:List Value}{i:Nat}(h:i < keys.length)(h':i < vs.length):(keys.zip vs)[i]?=some (keys[i],vs[i]):=by
 rw[Wo (by rw[Ys];lia),List.getElem_zip]
theorem zY4 {keys vs:List Value}{κ:SortKind}{lt:Nat->Nat->Bool}{Q:Unit×SortSt->Shared->Prop}(W:SWO lt)(hl:keys.length=vs.length)(h1:1<=vs.length)(hc:∀i j C,i < vs.length->j < vs.length->C (lt i j) s->kas_ask prog w A κ keys i j C s)
   (hQ:∀st',(arrOf st').map (·.2)=List.toArray ((wU lt vs.length).map fun i=>vs.getD i Value.none)->failedOf st'=none->Q ((),st') s):wpAny (model prog w) A (sortRuns'.run (SortSt.mk' κ (keys.toArray.zip vs.toArray) #[] 7 none)) Q E s:=by
 have hi:∀i,i < vs.length->kas_item (keys.toArray.zip vs.toArray) i=(keys.getD i Value.none,vs.getD i Value.none):=fun i h=>by
   have h':i < keys.length:=by lia
   unfold kas_item
   simp[Og,h,h',zTA h' h]
 have hA:keys.toArray.zip vs.toArray=Ar (keys.toArray.zip vs.toArray) (List.range vs.length):=by
   apply Rx
   intro i
   rw[aV]
   rcases Tr i vs.length with z | z
   · have h':i < keys.length:=by lia
     rw[Um z,Rg,hi i z]
     simp[z,h',zTA h' z]
   · rw[List.getElem?_eq_none (by simpa using z),Tb (by simp;lia)];rfl
 have:=zSa (prog:=prog) (w:=w) (A:=A) (E:=E) (s:=s) (κ:=κ) (it:=keys.toArray.zip vs.toArray) (lt:=lt) (N:=vs.length) (st:=SortSt.mk' κ (keys.toArray.zip vs.toArray) #[] 7 none)
   (Q:=fun _ st'=>(arrOf st').map (·.2)=List.toArray ((wU lt vs.length).map fun i=>vs.getD i Value.none)/\failedOf st'=none) W (fun i j C hi' hj' hC=>?_) h1 rfl rfl hA rfl fun P st' p1 p2 p3 p4=>⟨?_,p2⟩
 · unfold wpS at this
   refine Yo this ?_ fun _ _ e=>e
   rintro⟨⟨⟩,st'⟩ s' ⟨rfl,h1,h2⟩
   exact hQ st' h1 h2
 · have:=hc i j C hi' hj' hC
   unfold kas_cmp
   rw[hi i hi',hi j hj']
   exact this
 · rw[p1,←zUJ W p3 p4]
   apply Ev.mp
   simp only[Ar,Uq,Rp]
   refine Iq fun i h=>?_
   have:i < vs.length:=by simpa using p3.subset h
   show(kas_item _ i).2=_
   rw[hi i this]
end
end L2
namespace L2
open PySem PySem.Spec PyProof.Rows
end L2
namespace Att
open PySem PySem.W PySem.Spec PyProof.Rows
end Att
namespace Att
open PySem PySem.W PySem.Calls PyProof.Rows
end Att
namespace L2
open PySem PySem.Spec PyProof.Rows
inductive All2 {α β:Type}(R:α->β->Prop):List α->List β->Prop
 | nil:All2 R [] []
 | cons {a b l m}:R a b->All2 R l m->All2 R (a::l) (b::m)
theorem Paired.upd {α β:Type}{F F':α->β->Prop}{b':β}:∀ {l:List α} {r:List β} (i:Nat),Paired F l r->(∀(j:Nat) (a:α) (b:β),j≠i->l[j]?=some a->r[j]?=some b->F a b->F' a b)->(∀a,l[i]?=some a->F' a b')->Paired F' l (r.set i b')
 | _,_,_,.nil,_,_=>.nil
 | _,_,0,.cons q t,h1,h2=>by
   rw[List.set_cons_zero]
   refine .cons (h2 _ rfl) ?_
   have tl:∀ {l:List α} {r:List β} (n:Nat),Paired F l r->(∀(j:Nat) (a:α) (b:β),l[j]?=some a->r[j]?=some b->F a b->F' a b)->Paired F' l r:=by
     intro l r n p
     induction p with
     | nil=>intro _;exact .nil
     | cons q t ih=>intro h;exact .cons (h 0 _ _ rfl rfl q) (ih fun j a b e1 e2=>h (j+1) a b (by simpa using e1) (by simpa using e2))
   exact tl 0 t fun j a b e1 e2=>h1 (j+1) a b (by lia) (by simpa using e1) (by simpa using e2)
 | _,_,i+1,.cons q t,h1,h2=>by
   rw[List.set_cons_succ]
   exact .cons (h1 0 _ _ (by lia) rfl rfl q) (Paired.upd i t (fun j a b hj e1 e2=>h1 (j+1) a b (by lia) (by simpa using e1) (by simpa using e2)) fun a e=>h2 a (by simpa using e))
section
variable {a:Expr}
theorem zZT:∀ {vs:List V} {us:List Value} {v:V} {u:Value},Vals vs us->RelV v u->Vals (vs++[v]) (us++[u])
 | _,_,_,_,.nil,h=>.cons h .nil
 | _,_,_,_,.cons a t,h=>.cons a (zZT t h)
end
section
variable {prog:Program} {w:World} {A:Around} {E:Value->Shared->Prop} {s:Shared}
theorem nP {id:String}{b:Builtin}{args:List Value}{kw:List (Str×Value)}{Q:Value->Shared->Prop}(hk:builtinKind id=none)(hp:plainId id=true)
   (hb:entryFor table id=some b) (ha:argsOk id ⟨args,kw⟩)
   (hc:wpAny (model prog w) A.in1 (b ⟨args,kw⟩) (fun fin s'=>match fin with
     | .done f=>(match (Except.ok f:Result) with | .ok (.ret v)=>Q v s' | .ok _=>False | .error e=>E e s')
     | .again c'=>c'.quiet=true/\codeAny (model prog w) A c' (fun r s'=>match r with | .ok (.ret v)=>Q v s' | .ok _=>False | .error e=>E e s') s') E s) :
   wpAny (model prog w) A (call (.builtin id) args kw) Q E s:=by
 refine wpAny_call (codeAny_call_builtin hp hb ?_)
 simp only[checkBuiltinCall,hk]
 cases hsig:Manifest.signature? id with
 | none=>exact Qx hc
 | some sig =>
   have h2:Bind.checkArgs id sig ⟨args,kw⟩=pure ():=by simpa only [argsOk,hsig] using ha
   show wpAny _ A.in1 (Bind.checkArgs id sig ⟨args,kw⟩) _ _ s
   rw[h2];exact Qx hc
end
end L2
namespace L2
open PySem PySem.W PyProof.Rows
section
variable {X:Cx} {pins:List (Addr×Obj)} {σ:St} {H:Hp} {s:Shared}
theorem Inv.adopt {D kS:Addr}{o:HO}{h':Heap}(I:Inv X pins σ H s)(k:∀b u,b≠D->b≠kS->s.heap.get? b=some u->h'.get? b=some u)(hD:H D=none)(hK:H kS=none)(hne:D≠kS)
   (h1:∀b,b=D∨b=kS->X.s₀.heap.objs.size<=b/\b≠X.env.locals/\(∀x c,X.env.cells.lookup x=some c->c≠b)/\∀p∈X.pn++pins,p.1≠b) (new:ObjOk X.prog X.w (upd H D o) h' D o) :
   Inv X pins σ (upd H D o) { s with heap:=h' }:=by
 have nD:∀b u,H b=some u->b≠D:=fun b u e z=>by rw[z,hD] at e;cases e
 have nK:∀b u,H b=some u->b≠kS:=fun b u e z=>by rw[z,hK] at e;cases e
 have hin:∀ {b:Addr},b∉[D,kS]->b≠D/\b≠kS:=fun hb=>⟨fun z=>hb (by simp[z]),fun z=>hb (by simp[z])⟩
 refine I.step (g':=s.gens) (d':=s.drawn) (t':=s.toks) (ch:=[D,kS]) (fun b hb=>?_) (fun b u _ _ hc e _=>k b u (hin hc).1 (hin hc).2 e) (fun b u _ _ hc e _=>⟨u.slots,k b u (hin hc).1 (hin hc).2 e⟩) (fun b u hc _ n=>by rw[zP (hin hc).1];exact n)
   (fun b u hc e=>⟨u,k b u (hin hc).1 (hin hc).2 e⟩) (fun b xs e=>by rw[zP (nD b _ e)];exact e) (fun b u xs e=>by rw[zP (nD b _ e)];exact e) (fun b ps e=>⟨#[],by rw[zP (nD b _ e),e];simp⟩) (fun m hm=>?_) (fun b u e=>?_) I.bare
 · have hb':b=D∨b=kS:=by simpa using hb
   obtain⟨a1,a2,a3,a4⟩:=h1 b hb'
   exact⟨.inr a1,a2,a3,a4⟩
 · obtain⟨u,es,ep,hu,r⟩:=hm
   exact⟨u,es,ep,k _ u (Ne.symm (h1 D (.inl rfl)).2.1) (Ne.symm (h1 kS (.inr rfl)).2.1) hu,r⟩
 · by_cases hb:b=D
   · subst hb
     rw[zO] at e
     cases e
     exact new
   · rw[zP hb] at e
     refine(I.hok b u e).stay (fun c v hc q=>?_) (fun c q=>by rw[zP (nD c _ q)];exact q) fun c xs q=>by rw[zP (nD c _ q)];exact q
     have hc':c≠D/\c≠kS:=by
       rcases hc with z | z
       · rw[z];exact⟨hb,nK b u e⟩
       · exact⟨nD c _ z,nK c _ z⟩
     exact k c v hc'.1 hc'.2 q
def Own (X:Cx)(pins:List (Addr×Obj))(b:Addr):Prop:=X.s₀.heap.objs.size<=b/\b≠X.env.locals/\(∀x c,X.env.cells.lookup x=some c->c≠b)/\(∀p∈X.pn++pins,p.1≠b)/\b∉X.fs
theorem zVL {H:Hp}{s:Shared}(I:Inv X pins σ H s){b:Addr}(hb:s.heap.objs.size<=b):Own X pins b:=by
 refine⟨Wu I.sz hb,fun z=>?_,fun x c e z=>?_,fun p hp z=>?_,I.nofs hb⟩
 · have:=I.lt
   rw[←z] at this
   exact absurd this (Iv.mpr hb)
 · obtain⟨v,o,ho,_⟩:=I.cell x c e
   have:=Qg ho
   rw[z] at this
   exact absurd this (Iv.mpr hb)
 · have:=Qg (I.pin p hp).1
   rw[z] at this
   exact absurd this (Iv.mpr hb)
abbrev sO (us:List Value)(c:Nat):Obj:=seqObj "list" us.toArray c
theorem aS (us:List Value)(c:Nat):∀v,(sO us c).data ≠ .cell v:=fun _ h=>nomatch h
theorem zUs {D kS fa:Addr}{e1:Nat}{us:List Value}(J:Nat->List Value->Hp->Prop)(hD:Own X pins D)(hK:Own X pins kS)(hne:D≠kS)(hlen:us.length<=1000)
   (hstep:∀i x ws H' s' pins',us[i]?=some x->J i ws H'->Inv X pins' σ H' s'->wpAny (model X.prog X.w) X.A.in1.in1 (call (.ref fa) [x]) (fun u s''=>∃H'',Inv X pins' σ H'' s''/\J (i+1) (ws++[u]) H'') (fun _ _=>False) s')
   {s:Shared} {H:Hp} (hJ:J 0 [] H) (I:Inv X ((D,sO [] e1)::(kS,sO [] 0)::pins) σ H s) {P:PySem.Fin->Shared->Prop} {E:Value->Shared->Prop}
   (hfin:∀ws c H' s',J us.length ws H'->ws.length=us.length->Inv X ((D,sO [] e1)::(kS,sO ws c)::pins) σ H' s'->wpAny (model X.prog X.w) X.A.in1.in1 (ksk_end D false us.toArray e1 (.ref kS) ws.toArray) P E s') :
   wpAny (model X.prog X.w) X.A.in1.in1 (ksk_rest D (.ref fa) false us.toArray e1 (.ref kS)) P E s:=by
 unfold ksk_rest
 refine Qe (Ts ?_)
 first
   | rw[List.forIn_toArray]
   | (rw[←Array.forIn_toList];simp only[List.toList_toArray])
   | rw[←Array.forIn_toList]
 refine Qe (ksk_fold (fun i s'=>∃ws c H',J i ws H'/\ws.length=i/\Inv X ((D,sO [] e1)::(kS,sO ws c)::pins) σ H' s') us 0 s ⟨[],0,H,hJ,rfl,I⟩ (fun j x s' hx hd=>?_) fun s' hd=>?_)
 · obtain⟨ws,c,H',j1,j2,I'⟩:=hd
   rw[Nat.zero_add] at j1 j2 ⊢
   have hj:j < us.length:=(We.mp hx).1
   refine Qe (Iu (Yo (hstep j x ws H' s' _ hx j1 I') (fun u s'' hu=>?_) fun _ _ z=>z.elim))
   obtain⟨H'',I'',j3⟩:=hu
   have pk:=I''.pin (kS,sO ws c) (by simp)
   have pd:=I''.pin (D,sO [] e1) (by simp)
   have ea:(List.toArray ws).push u=List.toArray (ws++[u]):=by simp
   obtain⟨c2,hc2⟩:∃c2,(s''.heap.update kS (Obj.mapSeq (·.push u))).get? kS=some (sO (ws++[u]) c2):=⟨_,by show _=some (seqObj "list" (List.toArray (ws++[u])) _);rw[←ea];exact Ud pk.1 (·.push u)⟩
   try dsimp only
   refine Qe (Tp pk.1 rfl ?_ (by rw[Qo,Ew];lia) (Wu (Ur (Array.size_push ..)) (by rw[Qo,Ew];lia)))
   refine Qx ⟨rfl,ws++[u],c2,H'',j3,by rw[Qr,j2];rfl,?_⟩
   have Id:Inv X ((D,sO [] e1)::pins) σ H'' s'':=I''.pins_of fun p hp=>by
     rcases Qd.mp hp with rfl | hp
     · exact pd
     · exact I''.pin p (by simp[hp])
   have keep:∀b o,b≠kS->s''.heap.get? b=some o->(s''.heap.update kS (Obj.mapSeq (·.push u))).get? b=some o:=fun b o hb e=>by rw[Eu _ _ _ _ hb];exact e
   have It:=Id.turned (t':=s''.toks) (it:=kS) (h':=s''.heap.update kS (Obj.mapSeq (·.push u))) keep pk.2.1 hK.2.1 (.inr hK.1) hK.2.2.1 (fun p hp=>by
     rcases Qn.mp hp with z | z
     · exact hK.2.2.2.1 p (Yt _ z)
     · rcases Qd.mp z with rfl | z
       · exact hne
       · exact hK.2.2.2.1 p (Wp _ z))
   refine It.pins_of fun p hp=>?_
   rcases Qd.mp hp with rfl | hp
   · exact It.pin _ (by simp)
   · rcases Qd.mp hp with rfl | hp
     · exact⟨hc2,pk.2.1,hK.2.1,hK.2.2.2.2,aS _ _⟩
     · exact It.pin p (by simp[hp])
 · obtain⟨ws,c,H',j1,j2,I'⟩:=hd
   rw[Nat.zero_add] at j1 j2
   have pk:=I'.pin (kS,sO ws c) (by simp)
   try dsimp only
   exact Qe (Oq pk.1 rfl (hfin ws c H' s' j1 j2 I'))
variable {D kS:Addr} {e1:Nat} {ws:List Value} {c:Nat} {P:PySem.Fin->Shared->Prop} {E:Value->Shared->Prop}
theorem zYt {st:SortSt}{out:List Value}(hne:D≠kS)(hout:(arrOf st).map (·.2)=List.toArray out)(hf:failedOf st=none)(hz:out.length<=1000)(hw:ws.length<=1000)(I:Inv X ((D,sO [] e1)::(kS,sO ws c)::pins) σ H s)
   (h:∀h' c3,(∀b o,b≠D->b≠kS->s.heap.get? b=some o->h'.get? b=some o)->h'.get? D=some (sO out c3)->P (.done (.ret .none)) { s with heap:=h' }) :
   wpAny (model X.prog X.w) X.A.in1.in1 (ksk_tail D false e1 (.ref kS) st) P E s:=by
 have pk:=I.pin (kS,sO ws c) (by simp)
 have pd:=I.pin (D,sO [] e1) (by simp)
 have pd':(s.heap.update kS (Obj.mapSeq fun _=>(#[]:Array Value))).get? D=some (seqObj "list" #[] e1):=by rw[Eu _ _ _ _ hne];exact pd.1
 obtain⟨c3,hc3⟩:∃c3,((s.heap.update kS (Obj.mapSeq fun _=>(#[]:Array Value))).update D (Obj.mapSeq fun _=>List.toArray out)).get? D=some (sO out c3):=⟨_,Ud pd' fun _=>List.toArray out⟩
 unfold ksk_tail
 try dsimp only
 rw[hout]
 refine Qe (Tp pk.1 rfl (Qe (Yl (Qe (Yz pd' rfl ?_)))) (by rw[Qo,Ew];lia) (Ee _))
 refine Qe (Tp pd' rfl ?_ (Ee _) (by show(List.toArray out).size<=_;rw[Qo,Ew];lia))
 rw[hf]
 simp only[Ib,Wd,Rj]
 refine Qx (h _ c3 (fun b o h1 h2 e=>?_) hc3)
 rw[Eu _ _ _ _ h1,Eu _ _ _ _ h2]
 exact e
theorem zRP {us:List Value}{lt:Nat->Nat->Bool}(W:SWO lt)(hne:D≠kS)(hl:ws.length=us.length)(h64:us.length<=1000)(I:Inv X ((D,sO [] e1)::(kS,sO ws c)::pins) σ H s)
   (hq:2<=us.length->∃κ,(∀(E':Value->Shared->Prop) Q,Q κ s->wpAny (model X.prog X.w) X.A.in1.in1 (keyKind' ws.toArray) Q E' s)/\∀i j C,i < us.length->j < us.length->C (lt i j) s->kas_ask X.prog X.w X.A.in1.in1 κ ws i j C s)
   (h:∀h' c3,(∀b o,b≠D->b≠kS->s.heap.get? b=some o->h'.get? b=some o)->h'.get? D=some (sO ((wU lt us.length).map fun i=>us.getD i Value.none) c3)->P (.done (.ret .none)) { s with heap:=h' }) :
   wpAny (model X.prog X.w) X.A.in1.in1 (ksk_end D false us.toArray e1 (.ref kS) ws.toArray) P E s:=by
 unfold ksk_end
 try dsimp only
 simp only[Wd,Rj]
 by_cases h2:us.toArray.size < 2
 · have h2':us.length < 2:=by simpa using h2
   rw[Qi h2,Qi h2]
   refine Qe (Qx ?_)
   rw[StateT.run_pure]
   refine Qe (Qx ?_)
   have e:(wU lt us.length).map (fun i=>us.getD i Value.none)=us:=by
     rw[cE lt h2',tY]
   rw[e] at h
   refine zYt (out:=us) hne ?_ rfl h64 (by lia) I h
   apply Ev.mp
   show((ws.toArray.zip us.toArray).map (·.2)).toList=us
   rw[Uq,ksk_zip]
   have:∀(a b:List Value),a.length=b.length->(List.zip a b).map (fun x=>x.2)=b:=by
     intro a b hab
     exact List.map_snd_zip (by lia)
   exact this ws us hl
 · have h2':2<=us.length:=(by have:¬us.length < 2:=(by simpa using h2);lia)
   rw[Qa h2,Qa h2]
   obtain⟨κ,hk,hc⟩:=hq h2'
   refine Qe (hk _ _ ?_)
   refine Qe (zY4 W hl (by lia) hc fun st' har hf=>?_)
   have hlen:(wU lt us.length).length=us.length:=by
     rw[(sW lt _).length_eq,Rq]
   exact zYt hne har hf (by rw[Qu,hlen];exact h64) (by lia) I h
theorem zYE {q fa:Addr}{us:List Value}{lt:Nat->Nat->Bool}{Q:Value->Shared->Prop}(W:SWO lt)(J:Nat->List Value->Hp->Prop)(hl:s.heap.IsList q us.toArray)(h64:us.length<=1000)(I:Inv X pins σ H s)(hJ:J 0 [] H)
   (hstep:∀i x ws H' s' pins',us[i]?=some x->J i ws H'->Inv X pins' σ H' s'->wpAny (model X.prog X.w) X.A.in1.in1 (call (.ref fa) [x]) (fun u s''=>∃H'',Inv X pins' σ H'' s''/\J (i+1) (ws++[u]) H'') (fun _ _=>False) s')
   (hq:∀ws H' s' pins',J us.length ws H'->ws.length=us.length->Inv X pins' σ H' s'->2<=us.length->∃κ,(∀(E':Value->Shared->Prop) Q,Q κ s'->wpAny (model X.prog X.w) X.A.in1.in1 (keyKind' ws.toArray) Q E' s')/\∀i j C,i < us.length->j < us.length->C (lt i j) s'->kas_ask X.prog X.w X.A.in1.in1 κ ws i j C s')
   (hend:∀ws H' D s',J us.length ws H'->H' D=none->(∀o,(∀h':Heap,(∃c3,h'.get? D=some (sO ((wU lt us.length).map fun i=>us.getD i Value.none) c3))->ObjOk X.prog X.w (upd H' D o) h' D o)->Inv X pins σ (upd H' D o) s')->Q (.ref D) s') :
   wpAny (model X.prog X.w) X.A (call (.builtin "sorted") [.ref q] [(Str.ofString "key",.ref fa)]) Q E s:=by
 have hsz:((s.heap.push (seqObj "list" #[] 0)).update s.heap.objs.size (Obj.mapSeq (· ++ us.toArray))).objs.size=s.heap.objs.size+1:=by rw[Oy,size_push']
 have qD:(((s.heap.push (seqObj "list" #[] 0)).update s.heap.objs.size (Obj.mapSeq (· ++ us.toArray))).push (seqObj "list" us.toArray 0)).get? (s.heap.objs.size+1)=some (seqObj "list" us.toArray 0):=by
   rw[←hsz];exact Wr _ rfl
 have old:∀b o,s.heap.get? b=some o->(((s.heap.push (seqObj "list" #[] 0)).update s.heap.objs.size (Obj.mapSeq (· ++ us.toArray))).push (seqObj "list" us.toArray 0)).get? b=some o:=fun b o e=>by
   have hlt:b < s.heap.objs.size:=Qg e
   exact Qy _ (by rw[Eu _ _ _ _ (Wh hlt)];exact Qy _ e)
 generalize hh1:(((s.heap.push (seqObj "list" #[] 0)).update s.heap.objs.size (Obj.mapSeq (· ++ us.toArray))).push (seqObj "list" us.toArray 0))=h1 at qD old
 have hD0:s.heap.objs.size<=s.heap.objs.size+1:=Ya _
 generalize hDd:s.heap.objs.size+1=D at qD hD0
 refine nP kind_sorted plain_sorted entry_sorted (ksk_s1 _ _) ?_
 unfold Builtin.«sorted»
 refine Qe (m:=checkCount "sorted" 1 1 _) (Qx (Qe (collect_list hl ?_ (by rw[Ew];lia))))
 refine Qe (Yx ?_ (by rw[Ew];lia))
 show wpAny _ _ _ _ _ { s with heap:=((s.heap.push (seqObj "list" #[] 0)).update s.heap.objs.size (Obj.mapSeq (· ++ us.toArray))).push (seqObj "list" us.toArray 0) }
 rw[hsz,hh1,hDd]
 -- the list is sorted
 obtain⟨e1,q1⟩:∃e1,(h1.update D (Obj.mapSeq fun _=>(#[]:Array Value))).get? D=some (seqObj "list" #[] e1):=⟨_,Ud qD (fun _=>#[])⟩
 have hDlt:D < h1.objs.size:=Qg qD
 have old2:∀b o,s.heap.get? b=some o->(h1.update D (Obj.mapSeq fun _=>(#[]:Array Value))).get? b=some o:=fun b o e=>by
   rw[Eu _ _ _ _ (Wh (Wy (Qg e) hD0))];exact old b o e
 have hkS:((h1.update D (Obj.mapSeq fun _=>(#[]:Array Value))).push (seqObj "tuple" us.toArray 0)).objs.size=h1.objs.size+1:=by rw[size_push',Oy]
 refine Qe (En (wpAny_call_entry_kw slot_list_sort ⟨_,qD,rfl⟩ entry_list_sort ?body (ksk_l1 _ _)))
 rw[ksk_t1]
 unfold ksk_tree
 refine Qe (Oq (n:=0) qD rfl (Qe (Tp (n:=0) qD rfl ?_ (by rw[Qo,Ew];lia) (Ee _))))
 refine Qe (Yz q1 rfl (Qe (Pw ?_ (by show us.length<=_;rw[Ew];lia))))
 refine Qe (Yx (En ?_) (Ee _))
 show wpAny (model X.prog X.w) X.A.in1.in1 (ksk_rest D (.ref fa) false us.toArray e1 (.ref ((h1.update D (Obj.mapSeq fun _=>(#[]:Array Value))).push (seqObj "tuple" us.toArray 0)).objs.size)) _ _ { s with heap:=((h1.update D (Obj.mapSeq fun _=>(#[]:Array Value))).push (seqObj "tuple" us.toArray 0)).push (seqObj "list" #[] 0) }
 have qk:(((h1.update D (Obj.mapSeq fun _=>(#[]:Array Value))).push (seqObj "tuple" us.toArray 0)).push (seqObj "list" #[] 0)).get? ((h1.update D (Obj.mapSeq fun _=>(#[]:Array Value))).push (seqObj "tuple" us.toArray 0)).objs.size=some (sO [] 0):=Wr _ rfl
 have hks1:s.heap.objs.size<=((h1.update D (Obj.mapSeq fun _=>(#[]:Array Value))).push (seqObj "tuple" us.toArray 0)).objs.size:=by rw[hkS];exact Wu hD0 (Wu (Wx hDlt) (Ya _))
 have hne:D≠((h1.update D (Obj.mapSeq fun _=>(#[]:Array Value))).push (seqObj "tuple" us.toArray 0)).objs.size:=by rw[hkS];exact Wh (Nat.lt_succ_of_lt hDlt)
 have I1:Inv X pins σ H { s with heap:=((h1.update D (Obj.mapSeq fun _=>(#[]:Array Value))).push (seqObj "tuple" us.toArray 0)).push (seqObj "list" #[] 0),toks:=s.toks }:=I.kept fun b o e=>Qy _ (Qy _ (old2 b o e))
 generalize((h1.update D (Obj.mapSeq fun _=>(#[]:Array Value))).push (seqObj "tuple" us.toArray 0)).objs.size=kS at qk hks1 hne
 have oD:=zVL I hD0
 have oK:=zVL I hks1
 have qd:(((h1.update D (Obj.mapSeq fun _=>(#[]:Array Value))).push (seqObj "tuple" us.toArray 0)).push (seqObj "list" #[] 0)).get? D=some (sO [] e1):=Qy _ (Qy _ q1)
 refine zUs (X:=X) (pins:=pins) (σ:=σ) J oD oK hne h64 hstep hJ (I1.pins_of fun p hp=>?_) fun ws c H' s' j1 j2 I'=>?_
 · rcases Qd.mp hp with rfl | hp
   · exact⟨qd,I.hok.fresh hD0,oD.2.1,oD.2.2.2.2,aS _ _⟩
   · rcases Qd.mp hp with rfl | hp
     · exact⟨qk,I.hok.fresh hks1,oK.2.1,oK.2.2.2.2,aS _ _⟩
     · exact I1.pin p (Wp _ hp)
 · refine zRP (lt:=lt) W hne j2 h64 I' (fun h2=>hq ws H' s' _ j1 j2 I' h2) fun h' c3 kk hd=>⟨_,rfl,?_⟩
   refine Qx ?_
   have pd:=I'.pin (D,sO [] e1) (by simp)
   have pk:=I'.pin (kS,sO ws c) (by simp)
   have Ip:Inv X pins σ H' s':=I'.pins_of fun p hp=>I'.pin p (by simp[hp])
   refine hend ws H' D _ j1 pd.2.1 fun o ho=>?_
   exact Ip.adopt kk pd.2.1 pk.2.1 hne (fun b hb=>by
     rcases hb with rfl | rfl
     · exact⟨oD.1,oD.2.1,oD.2.2.1,oD.2.2.2.1⟩
     · exact⟨oK.1,oK.2.1,oK.2.2.1,oK.2.2.2.1⟩) (ho h' ⟨c3,hd⟩)
end
end L2
namespace L2
open PySem PySem.W PySem.Spec PyProof.Rows
section
variable {P:Program} {w:World} {A:Around} {E:Value->Shared->Prop} {s:Shared} {d:Addr} {es:Array DictEntry} {ep:Nat}
theorem zQC (lo:(d==sysModules)=false):KdlSrc P w "dict" d d es.size (fun i v=>es[i]?.map (·.key)=some v) (fun h=>DEs h d es ep) where
 type:=fun s ⟨o,ho,hx,_⟩=>⟨o,ho,hx.1⟩
 there:=fun h ⟨o,ho,_⟩=>⟨Qg ho,Qg ho⟩
 keep:=fun h h' x k=>x.keep fun o e=>k d (.inl rfl) o e
 notList:=by decide
 notTuple:=by decide
 hint:=fun A E s Q ⟨o,ho,hx,_⟩ q=>kdl_hint_dict ⟨o,ho,hx.1⟩ q
 iter:=fun A s hh x=>⟨kiO d 0 es.size ep,fun i h=>h.get? s.heap.objs.size=some (kiO d i es.size ep)/\DEs h d es ep,fun E Q q=>zRq x lo q,
   { sub:=fun b q=>by simp at q;simp[q]
     frame:=fun i h h' y k=>⟨k _ (by simp) _ y.1,y.2.keep fun o e=>k d (by simp) o e⟩
     item:=fun i s' Q E hi y hQ=>by
       have hv:es[i]?.map (·.key)=some es[i].key:=by simp[hi]
       refine zRj y.2 y.1 hv fun h' sb e=>hQ _ h' s'.toks hv ⟨e,y.2.keep fun o e'=>(sb.2 d ?_).trans e'⟩ fun b o hb e'=>(sb.2 b (by simpa using hb)).trans e'
       obtain⟨o,ho,_⟩:=x
       exact Wh (Qg ho)
     done:=fun s' Q E y hQ=>zQr hh y.2 y.1 (by simp) fun h' k=>hQ h' s'.toks fun b o hb e=>k b o (by simpa using hb) e
     self:=fun i s' Q E y hQ=>by
       have hT:s'.TypeIs (.ref s.heap.objs.size) "dict_keyiterator":=⟨_,y.1,rfl⟩
       refine wpAny_pyIter_slot hT F.slot_dict_keyiterator_iter (Ru F.slot_dict_keyiterator_iter hT F.entry_dict_keyiterator_iter ?_ (F.args_dict_keyiterator_iter_1 _))
       exact Qx ⟨_,rfl,"dict_keyiterator",_,hT,F.slot_dict_keyiterator_next.lookup,hQ⟩ },
   ⟨Wr _ rfl,x.keep fun o e=>Qy _ e⟩⟩
theorem zSe {R:Result->Shared->Prop}(hh:A.handled=none)(hd:DEs s.heap d es ep)(lo:(d==sysModules)=false)(hz:es.size<=1000)
   (h:∀h' tk c,(∀c o,s.heap.get? c=some o->h'.get? c=some o)->h'.get? s.heap.objs.size=some { cls:=.type "list",dict:=none,data:=.seq (es.map (·.key)) c,slots:=#[] }->R (.ok (.ret (.ref s.heap.objs.size))) { s with heap:=h',toks:=tk }) :
   codeAny (model P w) A (.builtin "proto.collect" ⟨[.ref d],[]⟩) R s:=by
 have ld:d < s.heap.objs.size:=let ⟨o,ho,_⟩:=hd;Qg ho
 refine Tz F.entry_proto_collect ?_
 rw[Rs F.plain_proto_collect _]
 change wpAny _ A.in1 (newList [] >>= fun l=>again (.builtin "list.__iadd__" ⟨[l,.ref d],[]⟩)) _ _ s
 refine Qe (Yj (Qx ⟨Yi F.plain_list_iadd _,Tz F.entry_list_iadd ?_⟩))
 rw[Rs F.plain_list_iadd _]
 have hL1:(s.heap.push { cls:=.type "list",data:=.seq ([]:List Value).toArray }).get? s.heap.objs.size=some { cls:=.type "list",data:=.seq #[] 0 }:=Wr _ rfl
 change wpAny _ A.in1 (Builtin.List.listExtendWith (.ref s.heap.objs.size) (.ref d) (.ref s.heap.objs.size)) _ _ _
 refine kdl_extend (R:=R) (s:={ s with heap:=s.heap.push { cls:=.type "list",data:=.seq ([]:List Value).toArray } }) (zQC (P:=P) (w:=w) (es:=es) (ep:=ep) lo) hh (hd.keep fun o e=>Qy _ e) s.heap.objs.size (Nat.ne_of_gt ld) (Nat.ne_of_gt ld) (.ref s.heap.objs.size) 0 hL1 (fun h' tk acc c k hS it=>?_) (Wx (wV (by show es.size<=100000;lia)))
 have ea:acc=es.map (·.key):=by
   apply Rx
   intro i
   rw[Array.getElem?_map]
   rcases Tr i acc.size with z | z
   · rw[Pe z]
     exact(it.2 i _ (Pe z)).symm
   · rw[Tb z,Tb (by rw[←it.1];exact z)];rfl
 rw[ea] at hS
 exact h h' tk c (fun c o e=>k c o (Wh (Qg e)) (Qy _ e)) hS
theorem zWP {Q:List Value->Shared->Prop}(hh:A.handled=none)(hd:DEs s.heap d es ep)(lo:(d==sysModules)=false)(hz:es.size<=1000)
   (h:∀h' tk,(∀c o,s.heap.get? c=some o->h'.get? c=some o)->Q (es.toList.map (·.key)) { s with heap:=h',toks:=tk }):wpAny (model P w) A (collect (.ref d)) Q E s:=by
 unfold collect
 refine Qe (wpAny_runValue (zSe hh hd lo hz fun h' tk c k hS=>?_))
 change wpAny _ A (load s.heap.objs.size >>= _) _ _ _
 refine Qe (wpAny_load hS (Qx ?_))
 show Q (es.map (·.key)).toList _
 rw[Uq]
 exact h h' tk k
theorem zRE {a:Addr}{vs:List Value}{n:Nat}{P':PySem.Fin->Shared->Prop}{lt:Nat->Nat->Bool}(W:SWO lt)(ho:s.heap.get? a=some (seqObj "list" vs.toArray n))(h64:vs.length<=1000)
   (hq:2<=vs.length->∀h':Heap,(∀b o,b≠a->s.heap.get? b=some o->h'.get? b=some o)->∃κ,(∀(E':Value->Shared->Prop) Q,Q κ { s with heap:=h' }->wpAny (model P w) A (keyKind' vs.toArray) Q E' { s with heap:=h' }) /\
     ∀i j C,i < vs.length->j < vs.length->C (lt i j) { s with heap:=h' }->kas_ask P w A κ vs i j C { s with heap:=h' })
   (h:P' (.done (.ret .none)) { s with heap:=sortedHeap s.heap a vs (List.toArray ((wU lt vs.length).map fun i=>vs.getD i Value.none)) }) :
   wpAny (model P w) A (Builtin.«list.sort» ⟨[.ref a],[]⟩) P' E s:=by
 have hlt:a < s.heap.objs.size:=Qg ho
 obtain⟨e1,q1⟩:∃e1,(s.heap.update a (Obj.mapSeq fun _=>#[])).get? a=some (seqObj "list" #[] e1):=⟨_,Ud ho (fun _=>#[])⟩
 have q6:(((s.heap.update a (Obj.mapSeq fun _=>#[])).push (seqObj "tuple" vs.toArray 0)).push (seqObj "list" #[] 0)).get? a=some (seqObj "list" #[] e1):=Qy _ (Qy _ q1)
 by_cases h2:2<=vs.length
 · obtain⟨κ,hk,hc⟩:=hq h2 (((s.heap.update a (Obj.mapSeq fun _=>#[])).push (seqObj "tuple" vs.toArray 0)).push (seqObj "list" #[] 0)) (fun b o hb e=>Qy _ (Qy _ (by rw[Eu _ _ _ _ hb];exact e)))
   have hz:¬vs.toArray.size < 2:=by rw[Qo];lia
   have hlen:(wU lt vs.length).length=vs.length:=by
     rw[(sW lt _).length_eq,Rq]
   rw[list_sort_plain]
   refine Qe (Oq (n:=n) ho rfl (Qe (Tp (n:=n) ho rfl ?_ (by rw[Qo,Ew];lia) (Ee _))))
   refine Qe (Yz q1 rfl (Qe (Pw ?_ (by show vs.length<=_;rw[Ew];lia))))
   refine Qe (Yx (En ?_) (Ee _))
   show wpAny (model P w) A _ P' E { s with heap:=((s.heap.update a (Obj.mapSeq fun _=>#[])).push (seqObj "tuple" vs.toArray 0)).push (seqObj "list" #[] 0) }
   dsimp only
   rw[Qa hz,Qa hz]
   refine Qe (hk _ _ ?_)
   refine Qe (zY4 W rfl (by lia) hc fun st' har hf=>?_)
   dsimp only
   rw[har]
   refine Qe (Yz q6 rfl (Qe (Tp q6 rfl ?_ (Ee _) (by rw[Qo,Qu,hlen,Ew];lia))))
   rw[hf]
   simp only[Ib,Wd,Rj]
   exact Qx h
 · have e:(wU lt vs.length).map (fun i=>vs.getD i Value.none)=vs:=by rw[cE lt (by lia),tY]
   rw[e] at h
   have hz:vs.toArray.size < 2:=by rw[Qo];lia
   rw[list_sort_plain]
   refine Qe (Oq (n:=n) ho rfl (Qe (Tp (n:=n) ho rfl ?_ (by rw[Qo,Ew];lia) (Ee _))))
   refine Qe (Yz q1 rfl (Qe (Pw ?_ (by show vs.length<=_;rw[Ew];lia))))
   refine Qe (Yx (En ?_) (Ee _))
   show wpAny (model P w) A _ P' E { s with heap:=((s.heap.update a (Obj.mapSeq fun _=>#[])).push (seqObj "tuple" vs.toArray 0)).push (seqObj "list" #[] 0) }
   dsimp only
   rw[Qi hz,Qi hz]
   refine Qe (Qx ?_)
   rw[StateT.run_pure]
   refine Qe (Qx ?_)
   have har:(arrOf (SortSt.mk' general' (vs.toArray.zip vs.toArray) #[] 7 none)).map (·.2)=vs.toArray:=by
     apply Ev.mp
     show((vs.toArray.zip vs.toArray).map (·.2)).toList=vs
     rw[Uq,ksk_zip]
     exact List.map_snd_zip (by simp)
   dsimp only
   rw[har]
   refine Qe (Yz q6 rfl (Qe (Tp q6 rfl ?_ (Ee _) (by rw[Qo,Ew];lia))))
   simp only[Ib,Wd,Rj]
   exact Qx h
theorem zVs {Q:Value->Shared->Prop}{lt:Nat->Nat->Bool}(W:SWO lt)(hh:A.handled=none)(hd:DEs s.heap d es ep)(lo:(d==sysModules)=false)(h64:es.size<=1000)
   (hq:2<=es.size->∀(h':Heap) tk,(∀b o,s.heap.get? b=some o->h'.get? b=some o)->∃κ,(∀(E':Value->Shared->Prop) Q,Q κ { s with heap:=h',toks:=tk }->wpAny (model P w) A.in1.in1 (keyKind' (es.toList.map (·.key)).toArray) Q E' { s with heap:=h',toks:=tk }) /\
     ∀i j C,i < es.size->j < es.size->C (lt i j) { s with heap:=h',toks:=tk }->kas_ask P w A.in1.in1 κ (es.toList.map (·.key)) i j C { s with heap:=h',toks:=tk })
   (h:∀(h1 h':Heap) tk n,(∀c o,s.heap.get? c=some o->h1.get? c=some o)->(∀c o,h1.get? c=some o->h'.get? c=some o)->h'.get? h1.objs.size=some (seqObj "list" (List.toArray ((wU lt es.size).map fun i=>(es.toList.map (·.key)).getD i Value.none)) n)->Q (.ref h1.objs.size) { s with heap:=h',toks:=tk }) :
   wpAny (model P w) A (call (.builtin "sorted") [.ref d]) Q E s:=by
 refine Calls.call_function_entry kind_sorted plain_sorted entry_sorted (args_sorted1 _) ?_
 unfold Builtin.«sorted»
 refine Qe (m:=checkCount "sorted" 1 1 _) (Qx (Qe (zWP (by simp[hh]) hd lo (by lia) fun h1 tk k=>?_)))
 have hl:(es.toList.map (·.key)).length=es.size:=by simp
 refine Qe (Yx ?_ (by rw[hl,Ew];lia))
 have hoL:(h1.push (seqObj "list" (es.toList.map (·.key)).toArray 0)).get? h1.objs.size=some (seqObj "list" (es.toList.map (·.key)).toArray 0):=Wr _ rfl
 refine Qe (En (Ru slot_list_sort ⟨_,hoL,rfl⟩ entry_list_sort (zRE (lt:=lt) W (s:={ s with heap:=h1.push (seqObj "list" (es.toList.map (·.key)).toArray 0),toks:=tk }) hoL (by lia) (fun h2 h' kp=>?_) ⟨_,rfl,?_⟩) (args_list_sort _)))
 · have:=hq (by rw[←hl];exact h2) h' tk fun b o e=>kp b o (Wh (Qg (k b o e))) (Qy _ (k b o e))
   rw[←hl] at this
   exact this
 · obtain⟨n,hn⟩:=sortedHeap_at (out:=List.toArray ((wU lt (es.toList.map (·.key)).length).map fun i=>(es.toList.map (·.key)).getD i Value.none)) hoL
   rw[hl] at hn
   refine Qx ⟨_,rfl,h h1 _ tk n k (fun c o z=>?_) (by rw[hl];exact hn)⟩
   have lt:c < h1.objs.size:=Qg z
   exact(sortedHeap_old (Wh lt) (by rw[Yg];exact Nat.lt_succ_of_lt lt)).trans (Qy _ z)
end
end L2
namespace L2
open PySem PySem.Spec PyProof.Rows
def zPg (K:PySem.W.Frag)(a b:Addr):It :=
 ⟨fun i H=>∃xs ys x y,SqL K H a xs/\SqL K H b ys/\xs[i]?=some x/\ys[i]?=some y,fun i H x H'=>∃p v u,H p=none/\x = .ref p/\H'=upd H p (.tup [v,u])/\(∀xs,SqL K H a xs->xs[i]?=some v)/\∀ys,SqL K H b ys->ys[i]?=some u,
   fun i H=>∃xs ys,SqL K H a xs/\SqL K H b ys/\(xs.length<=i∨ys.length<=i)⟩
theorem zVk {P:Program}{w:World}{K:PySem.W.Frag}{elts:List Expr}{k:Nat}{pos:Pos}(a b n:Addr):Turn P w K (.Tuple elts k pos) (zPg K a b) [n+4,n+2,n+3,n,n+1] (n+4)
   (fun i h=>IsZip h (n+4) (n+2) (n+3) .none/\IsPair h (n+2) (.ref n) (.ref (n+1))/\(∃p q,IsPair h (n+3) p q)/\h.IsListIter n a i/\h.IsListIter (n+1) b i) where
 mem:=by simp
 obj:=fun i h st c hc=>by
   obtain⟨h1,h2,⟨p,q,h3⟩,⟨o1,e1,_,d1⟩,⟨o2,e2,_,d2⟩⟩:=st
   simp only[Qd,Ri,Uj] at hc
   rcases hc with z | z | z | z | z
   · subst z;exact⟨_,h1,fun v q=>nomatch q⟩
   · subst z;exact⟨_,h2,fun v q=>nomatch q⟩
   · subst z;exact⟨_,h3,fun v q=>nomatch q⟩
   · subst z;exact⟨o1,e1,fun v q=>by rw[d1] at q;cases q⟩
   · subst z;exact⟨o2,e2,fun v q=>by rw[d2] at q;cases q⟩
 keep:=fun i h h' st kk=>by
   obtain⟨h1,h2,⟨p,q,h3⟩,⟨o1,e1,r1⟩,⟨o2,e2,r2⟩⟩:=st
   exact⟨kk _ (by simp) _ h1,kk _ (by simp) _ h2,⟨p,q,kk _ (by simp) _ h3⟩,⟨o1,kk _ (by simp) _ e1,r1⟩,⟨o2,kk _ (by simp) _ e2,r2⟩⟩
 item:=by
   intro X hP hw hK hc i pins s σ H E I hf st hg
   subst hP hw hK
   obtain⟨xs,ys,x,y,hq,hq',hx,hy⟩:=hg
   obtain⟨its,rv,p1,hz⟩:=I.list hq
   obtain⟨jts,rv',p2,hz'⟩:=I.list hq'
   obtain⟨u,hu,ru⟩:=rv.get hx
   obtain⟨u',hu',ru'⟩:=rv'.get hy
   obtain⟨h1,h2,⟨p,q,h3⟩,h4,h5⟩:=st
   have apart:∀c∈[n+4,n+2,n+3,n,n+1],∀v:List V,∀d:Addr,SqL X.K H d v->d≠c:=fun c hc v d hd z=>by
     have e:=(hf c hc).1
     obtain⟨its,_,⟨o,e1,e2,_⟩,_⟩:=I.list hd
     rcases hd with(hd | ⟨ob,hd⟩) | hd
     · rw[z,e] at hd;cases hd
     · rw[z,e] at hd;cases hd
     · obtain⟨ob,_,_,hk,_⟩:=hd
       have e3:=I.ok.mod.kin d ob hk
       obtain⟨_,q1,_,q3,_⟩:=hf c hc
       rcases q3 with q3 | q3
       · exact I.ok.noex d ob e3 (z ▸ q3)
       · exact absurd (Wy (Qg (I.ok.bs d ob e3).1) (z ▸ q3)) (Wv _)
   have D:ZipApart (n+4) (n+2) (n+3) n (n+1) a b:=⟨zne 2 4 (by decide),zne 3 4 (by decide),zne 0 4 (by decide),zne 1 4 (by decide),zne 2 3 (by decide),zne 2 0 (by decide),zne 2 1 (by decide),zne 3 0 (by decide),zne 3 1 (by decide),zne 0 1 (by decide),apart _ (by simp) xs a hq,apart _ (by simp) xs a hq,apart _ (by simp) xs a hq,apart _ (by simp) xs a hq,apart _ (by simp) ys b hq',apart _ (by simp) ys b hq',apart _ (by simp) ys b hq',apart _ (by simp) ys b hq'⟩
   refine wpAny_pyNext_zip_item D h1 h2 h3 h4 h5 p1.isList p2.isList (x:=u) (y:=u') (by simpa using hu) (by simpa using hu') fun g g1 g2 g3 g4 g5 _ hk=>?_
   have hk':∀c o,c∉[n+4,n+2,n+3,n,n+1]->s.heap.get? c=some o->g.get? c=some o:=fun c o hc e=>hk c o (fun z=>hc (by simp[z])) (fun z=>hc (by simp[z])) (fun z=>hc (by simp[z])) (fun z=>hc (by simp[z])) e
   have I1:Inv X pins σ (upd H s.heap.objs.size (.tup [x,y])) { s with heap:=g }:=I.turnedNew (t':=s.toks) hk' hf (Qp _) ⟨by show 2<=sizeLine;exact Wx (wV (by decide)),[u,u'],.cons ru (.cons ru' .nil),⟨_,g5,rfl,_,rfl⟩⟩
   refine⟨_,rfl,wpAny_letOwnedTupleGo_zip g1 fun g' z' t'=>?_⟩
   have t':Heap.SameBut (n+4) g g':=t'
   have neT:∀c∈[n+4,n+2,n+3,n,n+1],c≠s.heap.objs.size:=fun c hc z=>by
     have lt:c < s.heap.objs.size:=by
       obtain⟨o1,e1,_⟩:=h4
       obtain⟨o2,e2,_⟩:=h5
       simp only[Qd,Ri,Uj] at hc
       rcases hc with q | q | q | q | q
       · rw[q];exact Qg h1
       · rw[q];exact Qg h2
       · rw[q];exact Qg h3
       · rw[q];exact Qg e1
       · rw[q];exact Qg e2
     rw[z] at lt
     exact Wv _ lt
   have hf1:∀c∈[n+4,n+2,n+3,n,n+1],jU X pins (upd H s.heap.objs.size (.tup [x,y])) c:=fun c hc=>⟨by rw[zP (neT c hc)];exact(hf c hc).1,(hf c hc).2⟩
   have I2:=I1.turnedL (h':=g') (t':=s.toks) (fp:=[n+4,n+2,n+3,n,n+1]) (fun c o hc e=>(t'.2 c (fun z=>hc (by simp[z]))).trans e) hf1
   have g2':IsPair g (n+2) (.ref n) (.ref (n+1)):=hk _ _ D.TIz D.TITO D.TIi1 D.TIi2 h2
   obtain⟨o3,e3,r3⟩:=g3
   obtain⟨o4,e4,r4⟩:=g4
   exact⟨.ref s.heap.objs.size,_,I2,rfl,⟨s.heap.objs.size,x,y,I.fresh,rfl,rfl,fun zs hs=>by rw[I.list_inj hs hq];exact hx,fun zs hs=>by rw[I.list_inj hs hq'];exact hy⟩,
     ⟨z',(t'.2 _ D.TIz).trans g2',⟨_,_,(t'.2 _ D.TOz).trans g2⟩,⟨o3,(t'.2 _ D.i1z).trans e3,r3⟩,⟨o4,(t'.2 _ D.i2z).trans e4,r4⟩⟩,fun c hc=>(hf1 c hc).1⟩
 done:=by
   intro X hP hw hK hc i pins s σ H E I hf st hg
   subst hP hw hK
   obtain⟨xs,ys,hq,hq',hx⟩:=hg
   obtain⟨its,rv,p1,hz⟩:=I.list hq
   obtain⟨jts,rv',p2,hz'⟩:=I.list hq'
   obtain⟨h1,h2,⟨p,q,h3⟩,h4,h5⟩:=st
   have apart:∀c∈[n+4,n+2,n+3,n,n+1],∀v:List V,∀d:Addr,SqL X.K H d v->d≠c:=fun c hc v d hd z=>by
     have e:=(hf c hc).1
     rcases hd with(hd | ⟨ob,hd⟩) | hd
     · rw[z,e] at hd;cases hd
     · rw[z,e] at hd;cases hd
     · obtain⟨ob,_,_,hk,_⟩:=hd
       have e3:=I.ok.mod.kin d ob hk
       obtain⟨_,q1,_,q3,_⟩:=hf c hc
       rcases q3 with q3 | q3
       · exact I.ok.noex d ob e3 (z ▸ q3)
       · exact absurd (Wy (Qg (I.ok.bs d ob e3).1) (z ▸ q3)) (Wv _)
   have D:ZipApart (n+4) (n+2) (n+3) n (n+1) a b:=⟨zne 2 4 (by decide),zne 3 4 (by decide),zne 0 4 (by decide),zne 1 4 (by decide),zne 2 3 (by decide),zne 2 0 (by decide),zne 2 1 (by decide),zne 3 0 (by decide),zne 3 1 (by decide),zne 0 1 (by decide),apart _ (by simp) xs a hq,apart _ (by simp) xs a hq,apart _ (by simp) xs a hq,apart _ (by simp) xs a hq,apart _ (by simp) ys b hq',apart _ (by simp) ys b hq',apart _ (by simp) ys b hq',apart _ (by simp) ys b hq'⟩
   have l1:=rv.length
   have l2:=rv'.length
   refine wpAny_pyNext_zip_end (I.ok.hd hc) D h1 h2 h3 h4 h5 p1.isList p2.isList ?_ fun g hk=>⟨rfl,I.turnedL (t':=s.toks) (fp:=[n+4,n+2,n+3,n,n+1]) (fun c o hc e=>hk c o (fun z=>hc (by simp[z])) (fun z=>hc (by simp[z])) (fun z=>hc (by simp[z])) (fun z=>hc (by simp[z])) e) hf⟩
   rcases hx with q | q
   · exact .inl (by simp;lia)
   · exact .inr (by simp;lia)
 self:=fun _ _ _ _ _ st h=>wpAny_pyIter_zip st.1 h
theorem zXF {K:PySem.W.Frag}{G:Hp}{a b:Addr}{vs us:List V}{ds es:List D}(h:SqL K G a vs)(r:Reps K G ds vs)(h':SqL K G b us)(r':Reps K G es us):cB K (zPg K a b) G (nX ds es):=by
 intro i G2 H2 s1 s2
 have q:SqL K H2 a vs:=(s1.trans s2).seq h
 have q':SqL K H2 b us:=(s1.trans s2).seq h'
 refine⟨fun d hd=>?_,fun hi=>⟨vs,us,q,q',?_⟩⟩
 · obtain⟨x,y,h1,h2,rfl⟩:=zXU hd
   obtain⟨v,e1,rv⟩:=r.get h1
   obtain⟨u,e2,ru⟩:=r'.get h2
   refine⟨⟨vs,us,v,u,q,q',e1,e2⟩,fun x' H3 yy=>?_⟩
   obtain⟨p,v',u',hp,rfl,rfl,y1,y2⟩:=yy
   have f1:=y1 vs q
   rw[e1] at f1;cases f1
   have f2:=y2 us q'
   rw[e2] at f2;cases f2
   have s3:=Step.laid (o:=.tup [v,u]) s2 hp
   exact⟨_,s3,xS.mpr ⟨p,_,rfl,.of zO,zQ.mpr ⟨_,_,rfl,(rv.mono s1).mono s3.gg,zQ.mpr ⟨_,_,rfl,(ru.mono s1).mono s3.gg,zK.mpr rfl⟩⟩⟩⟩
 · rw[oW] at hi
   rw[←r.length,←r'.length]
   lia
section
variable {X:Cx} {a b:Expr} {fa fb:Ef} {pos p:Pos}
def zZV (f g:Ef):Lf:=fun ρ=>(f ρ).bind fun x=>(g ρ).bind fun y=>match x,y with | .lst xs,.lst ys=>some (nX xs ys) | _,_=>none
theorem zVy {elts:List Expr}{k:Nat}{pos':Pos}(hg:Gl X "zip")(hm:X.mg "zip"=none)(ha:PF X a fa)(hb:PF X b fb)(hs:starEach [a,b] X.env=[(false,eval a X.env),(false,eval b X.env)]:=by rfl)(hs2:starEach [b] X.env=[(false,eval b X.env)]:=by rfl) :
   PFI X (.Tuple elts k pos') (.Call (.Name "zip" p) [a,b] [] pos) (zZV fa fb):=by
 intro pins s σ H R I q
 obtain⟨G0,H0,G,ρ,ds,good,hf,kk⟩:=q
 unfold zZV at hf
 obtain⟨x,h1,hf⟩:=Qq.mp hf
 obtain⟨y,h2,hf⟩:=Qq.mp hf
 cases x with
 | lst xs =>
   cases y with
   | lst ys =>
     cases hf
     have hA:=yK ha (yK hb wI (by rw[hs2];rfl)) (by rw[hs,hs2]) pos pins s σ H (fun vs H'=>∃a b us ws G',vs=[.ref a,.ref b]/\Step G H G' H'/\SqL X.K G' a us/\Reps X.K G' xs us/\SqL X.K G' b ws/\Reps X.K G' ys ws) I
       ⟨G0,H0,G,ρ,_,good,h1,fun v H1 G1 s1 r1=>⟨G0,H0,G1,ρ,_,good.step s1,h2,fun u H2 G2 s2 r2=>by
         obtain⟨a,us,rfl,q1,q2⟩:=xW.mp (r1.mono s2.gg)
         obtain⟨b,ws,rfl,q3,q4⟩:=xW.mp r2
         exact⟨a,b,us,ws,G2,rfl,s1.trans s2,q1,q2,q3,q4⟩⟩⟩
     refine Call_ (mQ I hg hm (by rfl) (Rm (thn hA fun us s1 ⟨vs,H1,I1,r1,l1,l2,ws,zs,G1,e1,st1,q1,q2,q3,q4⟩=>?_) (by rw[hs,hs2]) (by rw[hs2];rfl)))
     subst e1
     obtain⟨u,u',rfl,ru,ru'⟩:=zV5 r1
     cases ru
     cases ru'
     obtain⟨its,rv,p1,_⟩:=I1.list (st1.sub.seq q1)
     obtain⟨jts,rv',p2,_⟩:=I1.list (st1.sub.seq q3)
     refine call_zip_2 p1.isList p2.isList fun h' z1 z2 z3 z4 z5 _ hk=>?_
     have I2:Inv X pins σ H1 { s1 with heap:=h' }:=I1.kept (t':=s1.toks) hk
     refine wpAny_pyIter_zip z1 ?_
     refine⟨_,[s1.heap.objs.size+4,s1.heap.objs.size+2,s1.heap.objs.size+3,s1.heap.objs.size,s1.heap.objs.size+1],_,_,H1,rfl,I2,zVk l1 l2 s1.heap.objs.size,⟨z1,z2,⟨_,_,z3⟩,z4,z5⟩,fun b hb=>?_,kk _ H1 G1 st1 (zXF q1 q2 q3 q4)⟩
     have hb':s1.heap.objs.size<=b:=by
       simp only[Qd,Ri,Uj] at hb
       rcases hb with z | z | z | z | z<;>(rw[z];first | exact Qp _ | exact Nat.le_add_right _ _)
     exact I1.fpOk hb' (I1.hok.fresh hb')
   | _=>cases hf
 | _=>cases hf
end
mutual
def flat:D->Bool
 | .non=>true
 | .bl _=>true
 | .int _=>true
 | .str _=>true
 | .tup ds=>zQU ds
 | _=>false
def zQU:List D->Bool
 | []=>true
 | d::r=>flat d&&zQU r
end
def kU (G:Hp)(p:Addr):Hp:=fun a=>if a=p then none else G a
theorem uW {G:Hp}{p a:Addr}(h:a≠p):kU G p a=G a:=Qa h
theorem uK {G:Hp}{p:Addr}:kU G p p=none:=Qi rfl
section
variable {X:Cx} {e:Expr} {fa:Ef}
def zWO (f:Ef):Tf:=fun ρ=>(f ρ).bind fun x=>match x with | .lst ds=>some (!ds.isEmpty) | _=>none
theorem dU (ha:PF X e fa)(he:∀whole,isTrue e X.env whole=(do let v ←whole;standAt e.pos;holding [v] (truthy v)):=by intro _;rfl):PFT X e (zWO fa):=by
 refine PT.to (zUg ha he) ?_
 rintro σ H Q ⟨G0,H0,G,ρ,c,good,hf,k⟩
 unfold zWO at hf
 obtain⟨x,h1,hf⟩:=Qq.mp hf
 cases x with
 | lst ds =>
   cases hf
   refine⟨G0,H0,G,ρ,_,good,h1,fun v H1 G1 s1 r1=>?_⟩
   obtain⟨p,vs,rfl,q,rs⟩:=xW.mp r1
   have hl:=rs.length
   refine⟨_,.inl ⟨vs,s1.sub.seq q,?_⟩,k _ G1 s1⟩
   cases ds<;>cases vs<;>first | rfl | cases hl
 | _=>cases hf
end
def zTE (h:Heap)(e:Addr)(v:Value):Prop:=v = .none∨∃T oT ts,v = .ref T/\T≠e/\h.get? T=some oT/\oT.data = .fields ts/\ts[3]?=some .none
structure Flew (fs:List Addr)(e:Addr)(c:Value)(od:Option Addr)(vs:Array Value)(sl:Array (Option Value))(h h':Heap):Prop where
 obj:h'.get? e=some { cls:=c,dict:=od,data:=.fields (vs.setIfInBounds 1 (.ref h.objs.size)),slots:=sl }
 ne:h.objs.size≠e
 head:∃oT ts,h'.get? h.objs.size=some oT/\oT.data = .fields ts/\ts[3]?=some .none
 keep:∀b o,h.get? b=some o->b≠e->b∉fs->some (Value.ref b)≠vs[1]?->h'.get? b=some o
 slot:∀b o,h.get? b=some o->b≠e->b∈fs->some (Value.ref b)≠vs[1]?->∃z,h'.get? b=some { o with slots:=z }
structure Fly (h:Heap)(H:Hp)(h0:Heap)(C a:Addr):Prop where
 ob:∃vs v,h.get? a=some { cls:=.ref C,dict:=none,data:=.fields vs,slots:=#[] }/\vs[1]?=some v/\zTE h a v/\∀T,v = .ref T->H T=none/\h0.get? T=none
 free:H a=none
 new:h0.get? a=none
def gZ:D->Nat | .obj _ _ _=>1 | .dct _ _=>2 | _=>0
def rY (_ _:Nat)(_:List B):Bool:=true
section
variable {K:PySem.W.Frag} {G0 H0 G G' H H':Hp} {σ:St} {ρ:List B} {o o':HO} {d d':D} {a:Addr} {i:Nat}
theorem RepO.rep (g:G a=none):∀ {d:D},RepO K G o d->Rep K (upd G a o) d (.ref a)
 | .obj _ _ _,⟨C,dx,vs,h1,h2,h3,h4⟩=>lD.mpr ⟨C,a,dx,vs,h1,rfl,by rw[zO,h2],h3,h4.mono (Same.new g)⟩
 | .dct _ _,⟨vs,h1,h2,h3⟩=>zYA.mpr ⟨a,vs,rfl,by rw[zO,h1],h2,h3.mono (Same.new g)⟩
theorem Good.mu (g:Good K G0 H0 G H σ ρ)(h:ρ[i]?=some (.mu d)):∃a o,σ[i]?=some (some (.ref a))/\H a=some o/\G a=none/\H0 a=none/\RepO K G o d:=by
 obtain⟨x,e,r⟩:=Paired.get g.vals h
 cases r with
 | mu h1 h2 h3 h4=>exact⟨_,_,e,h1,h2,h3,h4⟩
theorem Good.setM (g:Good K G0 H0 G H σ ρ)(i:Nat)(ha:H a=some o)(ga:G a=none)(h0:H0 a=none)(r:RepO K G o d)(fr:∀(j:Nat) (b:B),ρ[j]?=some b->uF b=true->σ[j]?≠some (some (V.ref a))):Good K G0 H0 G H (σ.set i (some (.ref a))) (ρ.set i (.mu d)):=by
 refine⟨g.st,Paired.set (.mu ha ga h0 r) i g.vals,fun j k b d1 d2 h1 h2 o1 o2 h3 h4=>?_⟩
 by_cases hj:j=i
 · by_cases hk:k=i
   · rw[hj,hk]
   · subst hj
     rw[Qk (Ne.symm hk)] at h2 h4
     have hlt:j < σ.length:=by
       have:=(We.mp h3).1
       rwa[Uo] at this
     rw[Re hlt] at h3
     cases h3
     exact absurd h4 (fr k d2 h2 o2)
 · rw[Qk (Ne.symm hj)] at h1 h3
   by_cases hk:k=i
   · subst hk
     have hlt:k < σ.length:=by
       have:=(We.mp h4).1
       rwa[Uo] at this
     rw[Re hlt] at h4
     cases h4
     exact absurd h3 (fr j d1 h1 o1)
   · rw[Qk (Ne.symm hk)] at h2 h4
     exact g.apart j k b d1 d2 h1 h2 o1 o2 h3 h4
theorem Good.fresh (g:Good K G0 H0 G H σ ρ)(hn:H a=none):∀(j:Nat) (b:B),ρ[j]?=some b->uF b=true->σ[j]?≠some (some (V.ref a)):=fun j b e o z=>by
 obtain⟨x,e1,r⟩:=Paired.get g.vals e
 rw[z] at e1;cases e1
 cases r with
 | ow q1 _ _ _=>rw[hn] at q1;cases q1
 | mu q1 _ _ _=>rw[hn] at q1;cases q1
 | _=>cases o
theorem zSE {i j:Nat}{d d':D}{b:B}(hi:ρ[i]?=some (.mu d))(h:(ρ.set i (.mu d'))[j]?=some b)(o:uF b=true):∃c,ρ[j]?=some c/\uF c=true:=by
 by_cases hj:j=i
 · subst hj;exact⟨_,hi,rfl⟩
 · rw[Qk (Ne.symm hj)] at h;exact⟨b,h,o⟩
theorem Good.ioM (g:Good K G0 H0 G H σ ρ)(hi:ρ[i]?=some (.mu d))(ho:rY i (gZ d) ρ=true)(hs:σ[i]?=some (some (.ref a)))(s:Step G (kU H a) G' H')(h':H' a=some o')(g':G' a=none)(r:RepO K G' o' d') :
   Good K G0 H0 G' H' σ (ρ.set i (.mu d')):=by
 obtain⟨a',o,e1,e2,e3,e4,e5⟩:=g.mu hi
 rw[hs] at e1;cases e1
 have up:∀b u,b≠a->H b=some u->H' b=some u:=fun b u hb q=>s.hh b u (by rw[uW hb];exact q)
 have nn:∀b u,b≠a->H b=some u->qG u=true->G' b=G b:=fun b u hb q z=>s.new b u (by rw[uW hb];exact q) z
 refine⟨⟨fun b u q=>?_,g.st.gg.trans s.gg,s.sub,fun b u q z=>?_⟩,?_,fun j k b d1 d2 h1 h2 o1 o2 h3 h4=>?_⟩
 · have hb:b≠a:=fun z=>by rw[z,e4] at q;cases q
   exact up b u hb (g.st.hh b u q)
 · have hb:b≠a:=fun z=>by rw[z,e4] at q;cases q
   exact(nn b u hb (g.st.hh b u q) z).trans (g.st.new b u q z)
 · refine Paired.upd i g.vals (fun j x b hj q1 q2 q=>?_) fun x e=>?_
   · cases q with
     | no=>exact .no
     | fz r=>exact .fz (r.mono s.gg)
     | @ow c us ds c1 c2 c3 c4 =>
       have hc:c≠a:=fun z=>by rw[z,e2] at c1;cases c1;exact e5.nl
       exact .ow (up c _ hc c1) ((nn c _ hc c1 rfl).trans c2) c3 (c4.mono s.gg)
     | @od c _ _ _ _ c1 c2 c3 c4 c5 c6 =>
       have hc:c≠a:=fun z=>by rw[z,e2] at c1;cases c1;exact e5.nx
       exact .od (up c _ hc c1) ((nn c _ hc c1 rfl).trans c2) c3 (c4.mono s.gg) c5 c6
     | @mu c oc dc c1 c2 c3 c4 =>
       have hc:c≠a:=fun z=>hj (g.apart j i a _ _ q2 hi rfl rfl (by rw[q1,z]) hs)
       exact .mu (up c _ hc c1) ((nn c _ hc c1 c4.nt).trans c2) c3 (c4.mono s.gg)
   · rw[hs] at e;cases e
     exact .mu h' g' e4 r
 · obtain⟨c1,f1,p1⟩:=zSE hi h1 o1
   obtain⟨c2,f2,p2⟩:=zSE hi h2 o2
   exact g.apart j k b c1 c2 f1 f2 p1 p2 h3 h4
theorem Step.wrO {G H:Hp}{a:Addr}{o o':HO}(s:Same G H)(g:G a=none):Step G (kU H a) G (upd H a o'):=by
 refine⟨fun b u e=>?_,Same.refl _,fun b u e=>?_,fun _ _ _ _=>rfl⟩
 · by_cases hb:b=a
   · rw[hb,uK] at e;cases e
   · rw[uW hb] at e;rw[zP hb];exact e
 · rw[zP (zB e g)];exact s b u e
theorem Good.wrM (g:Good K G0 H0 G H σ ρ)(hi:ρ[i]?=some (.mu d))(ho:rY i (gZ d) ρ=true)(hs:σ[i]?=some (some (.ref a)))(r:RepO K G o' d'):Good K G0 H0 G (upd H a o') σ (ρ.set i (.mu d')):=by
 obtain⟨a',o,e1,e2,e3,e4,e5⟩:=g.mu hi
 rw[hs] at e1;cases e1
 exact g.ioM hi ho hs (Step.wrO (o:=o) g.sub e3) zO e3 r
theorem Good.lendM (g:Good K G0 H0 G H σ ρ)(hi:ρ[i]?=some (.mu d))(ho:rY i (gZ d) ρ=true):∃a o,G a=none/\H a=some o/\RepO K G o d/\Good K G0 H0 (upd G a o) H σ (ρ.set i (.fz d)):=by
 obtain⟨a,o,e1,e2,e3,e4,e5⟩:=g.mu hi
 refine⟨a,o,e3,e2,e5,?_⟩
 have sG:Same G (upd G a o):=Same.new e3
 refine⟨⟨g.st.hh,g.st.gg.trans sG,fun b u q=>?_,fun b u q z=>?_⟩,?_,fun j k b d1 d2 h1 h2 o1 o2 h3 h4=>?_⟩
 · by_cases z:b=a
   · subst z;rw[zO] at q;rw[e2];exact q
   · rw[zP z] at q;exact g.st.sub b u q
 · rw[zP (fun y:b=a=>by rw[y,e4] at q;cases q)];exact g.st.new b u q z
 · refine Paired.upd i g.vals (fun j x b hj q1 q2 q=>?_) fun x e=>?_
   · cases q with
     | no=>exact .no
     | fz r=>exact .fz (r.mono sG)
     | @ow c us ds c1 c2 c3 c4 =>
       have hc:c≠a:=fun z=>by rw[z,e2] at c1;cases c1;exact e5.nl
       exact .ow c1 (by rw[zP hc];exact c2) c3 (c4.mono sG)
     | @od c _ _ _ _ c1 c2 c3 c4 c5 c6 =>
       have hc:c≠a:=fun z=>by rw[z,e2] at c1;cases c1;exact e5.nx
       exact .od c1 (by rw[zP hc];exact c2) c3 (c4.mono sG) c5 c6
     | @mu c oc dc c1 c2 c3 c4 =>
       have hc:c≠a:=fun z=>hj (g.apart j i a _ _ q2 hi rfl rfl (by rw[q1,z]) e1)
       exact .mu c1 (by rw[zP hc];exact c2) c3 (c4.mono sG)
   · rw[e1] at e;cases e
     exact .fz (e5.rep e3)
 · obtain⟨_,f1⟩:=vA rfl h1 o1
   obtain⟨_,f2⟩:=vA rfl h2 o2
   exact g.apart j k b d1 d2 f1 f2 o1 o2 h3 h4
end
mutual
def mU:D->Bool
 | .non=>true
 | .bl _=>true
 | .int _=>true
 | .str _=>true
 | .tup ds=>mR ds
 | .lst ds=>mR ds
 | _=>false
def mR:List D->Bool
 | []=>true
 | d::r=>mU d&&mR r
end
section
variable {K:PySem.W.Frag} {G:Hp} {p:Addr} {o:HO}
theorem SqT.outM {a:Addr}{vs:List V}(hp:G p=some o)(hn:(∃C dx fs,o = .ins C dx fs)∨∃kvs,o = .dT kvs)(h:SqT K G a vs):SqT K (kU G p) a vs:=by
 have ne:∀u,G a=some u->(∀C dx fs,u ≠ .ins C dx fs)->(∀kvs,u ≠ .dT kvs)->a≠p:=fun u e h1 h2 z=>by
   rw[z,hp] at e;cases e
   rcases hn with⟨_,_,_,y⟩ | ⟨_,y⟩
   · exact h1 _ _ _ y
   · exact h2 _ y
 rcases h with(h | ⟨u,h⟩) | h
 · exact .inl (.inl (by rw[uW (ne _ h (fun _ _ _ z=>nomatch z) fun _ z=>nomatch z)];exact h))
 · exact .inl (.inr ⟨u,by rw[uW (ne _ h (fun _ _ _ z=>nomatch z) fun _ z=>nomatch z)];exact h⟩)
 · exact .inr h
theorem SqL.outM {a:Addr}{vs:List V}(hp:G p=some o)(hn:(∃C dx fs,o = .ins C dx fs)∨∃kvs,o = .dT kvs)(h:SqL K G a vs):SqL K (kU G p) a vs:=by
 have ne:∀u,G a=some u->(∀C dx fs,u ≠ .ins C dx fs)->(∀kvs,u ≠ .dT kvs)->a≠p:=fun u e h1 h2 z=>by
   rw[z,hp] at e;cases e
   rcases hn with⟨_,_,_,y⟩ | ⟨_,y⟩
   · exact h1 _ _ _ y
   · exact h2 _ y
 rcases h with(h | ⟨u,h⟩) | h
 · exact .inl (.inl (by rw[uW (ne _ h (fun _ _ _ z=>nomatch z) fun _ z=>nomatch z)];exact h))
 · exact .inl (.inr ⟨u,by rw[uW (ne _ h (fun _ _ _ z=>nomatch z) fun _ z=>nomatch z)];exact h⟩)
 · exact .inr h
mutual
theorem Rep.outM (hp:G p=some o)(hn:(∃C dx fs,o = .ins C dx fs)∨∃kvs,o = .dT kvs):∀(d:D) (v:V),mU d=true->Rep K G d v->Rep K (kU G p) d v
 | .non,_,_,h=>by unfold Rep at h ⊢;exact h
 | .bl _,_,_,h=>by unfold Rep at h ⊢;exact h
 | .int _,_,_,h=>by unfold Rep at h ⊢;exact h
 | .str _,_,_,h=>by unfold Rep at h ⊢;exact h
 | .tup ds,_,f,h=>by
   unfold Rep at h ⊢
   obtain⟨a,vs,h1,h2,h3⟩:=h
   exact⟨a,vs,h1,SqT.outM hp hn h2,Reps.outM hp hn ds vs (by unfold mU at f;exact f) h3⟩
 | .lst ds,_,f,h=>by
   unfold Rep at h ⊢
   obtain⟨a,vs,h1,h2,h3⟩:=h
   exact⟨a,vs,h1,SqL.outM hp hn h2,Reps.outM hp hn ds vs (by unfold mU at f;exact f) h3⟩
 | .obj C ns ds,_,f,_=>by unfold mU at f;cases f
 | .exc C ns ds,_,f,_=>by unfold mU at f;cases f
 | .dct ks ds,_,f,_=>by unfold mU at f;cases f
theorem Reps.outM (hp:G p=some o)(hn:(∃C dx fs,o = .ins C dx fs)∨∃kvs,o = .dT kvs):∀(ds:List D) (vs:List V),mR ds=true->Reps K G ds vs->Reps K (kU G p) ds vs
 | [],_,_,h=>by unfold Reps at h ⊢;exact h
 | d::r,_,f,h=>by
   unfold Reps at h ⊢
   obtain⟨v,vr,h1,h2,h3⟩:=h
   unfold mR at f
   rw[Wb] at f
   exact⟨v,vr,h1,Rep.outM hp hn d v f.1 h2,Reps.outM hp hn r vr f.2 h3⟩
end
theorem Step.backM {G H G1 H':Hp}{p:Addr}{o:HO}(s:Step (upd G p o) H G1 H')(hG:G p=none)(hH:H p=some o)(nt:qG o=true):Step G H (kU G1 p) H'/\G1 p=some o:=by
 refine⟨⟨s.hh,fun b u e=>?_,fun b u e=>?_,fun a u ha hn=>?_⟩,s.gg p _ zO⟩
 · have hb:b≠p:=fun z=>by rw[z,hG] at e;cases e
   rw[uW hb]
   exact s.gg b u (by rw[zP hb];exact e)
 · by_cases hb:b=p
   · rw[hb,uK] at e;cases e
   · rw[uW hb] at e;exact s.sub b u e
 · by_cases hb:a=p
   · rw[hb,uK,hG]
   · rw[uW hb,s.new a u ha hn,zP hb]
end
section
variable {X:Cx} {e:Expr} {fa:Ef} {ta:Tf}
def cA (i k:Nat)(ρ:List B):Option (List B):=match ρ[i]? with | some (.mu d)=>if gZ d=k/\rY i k ρ=true then some (ρ.set i (.fz d)) else none | _=>none
theorem fX {i k:Nat}{ρ ρ':List B}(h:cA i k ρ=some ρ'):∃d,ρ[i]?=some (.mu d)/\gZ d=k/\rY i k ρ=true/\ρ'=ρ.set i (.fz d):=by
 unfold cA at h
 split at h
 · rename_i d e
   split at h
   · rename_i q
     cases h
     exact⟨d,e,q.1,q.2,rfl⟩
   · cases h
 · cases h
def rE (i k:Nat)(f:Ef):Ef:=fun ρ=>(cA i k ρ).bind fun ρ'=>(f ρ').bind fun d=>if mU d then some d else none
theorem iG (i k:Nat)(h:PF X e fa):PF X e (rE i k fa):=by
 refine PE.to h ?_
 rintro σ H Q ⟨G0,H0,G,ρ,d,good,hf,kk⟩
 unfold rE at hf
 obtain⟨ρ',h1,hf1⟩:=Qq.mp hf
 obtain⟨d',h2,hf2⟩:=Qq.mp hf1
 obtain⟨dm,q1,q2,q3,rfl⟩:=fX h1
 split at hf2
 · rename_i fl
   cases hf2
   obtain⟨p,o,hG,hH,ro,good'⟩:=good.lendM q1 (by rw[q2];exact q3)
   refine⟨G0,H0,_,_,_,good',h2,fun v H' G1 s r=>?_⟩
   obtain⟨st,hp⟩:=s.backM hG hH ro.nt
   exact kk v H' _ st (Rep.outM hp ro.two _ _ fl r)
 · cases hf2
def fW (i k:Nat)(t:Tf):Tf:=fun ρ=>(cA i k ρ).bind fun ρ'=>t ρ'
theorem zUy (i k:Nat)(h:PFT X e ta):PFT X e (fW i k ta):=by
 refine PT.to h ?_
 rintro σ H Q ⟨G0,H0,G,ρ,b,good,hf,kk⟩
 unfold fW at hf
 obtain⟨ρ',h1,hf⟩:=Qq.mp hf
 obtain⟨dm,q1,q2,q3,rfl⟩:=fX h1
 obtain⟨p,o,hG,hH,ro,good'⟩:=good.lendM q1 (by rw[q2];exact q3)
 exact⟨G0,H0,_,_,b,good',hf,fun H' G1 s=>kk H' _ (s.backM hG hH ro.nt).1⟩
end
def setF {α:Type}(f:Str)(y:α):List Str->List α->List α
 | n::ns,x::xs=>if n=f then y::xs else x::setF f y ns xs
 | _,xs=>xs
theorem zXo {α:Type}{f:Str}{y:α}:∀ {ns:List Str} {xs:List α},(setF f y ns xs).length=xs.length
 | [],xs=>by unfold setF;rfl
 | _::_,[]=>rfl
 | n::ns,x::xs=>by
   unfold setF
   split
   · rfl
   · rw[Qs,Qs,zXo]
theorem zYi {f:Str}{y:V}:∀ {ns:List Str} {vs:List V},ns.length=vs.length->f∈ns->oQ f y (ns.zip vs)=ns.zip (setF f y ns vs)
 | [],_,_,h=>by cases h
 | _::_,[],h,_=>by simp at h
 | n::ns,v::vs,h,hf=>by
   show(if n=f then _ else(n,v)::oQ f y (ns.zip vs))=_
   unfold setF
   by_cases hn:n=f
   · rw[Qi hn,Qi hn,Ez,hn];rfl
   · rw[Qa hn,Qa hn,Ez,zYi (by simpa using h) ((Qd.mp hf).resolve_left fun z=>hn z.symm)]
theorem zZS {K:PySem.W.Frag}{G:Hp}{f:Str}{d:D}{v:V}(r:Rep K G d v):∀ {ns:List Str} {ds:List D} {vs:List V},Reps K G ds vs->Reps K G (setF f d ns ds) (setF f v ns vs)
 | [],_,_,h=>by unfold setF;exact h
 | n::ns,[],_,h=>by rw[zK] at h;subst h;exact zK.mpr rfl
 | n::ns,e::ds,_,h=>by
   obtain⟨u,vr,rfl,h2,h3⟩:=zQ.mp h
   unfold setF
   by_cases hn:n=f
   · rw[Qi hn,Qi hn];exact zQ.mpr ⟨v,vr,rfl,r,h3⟩
   · rw[Qa hn,Qa hn];exact zQ.mpr ⟨u,_,rfl,h2,zZS r h3⟩
section
variable {X:Cx} {c e o:Expr} {es:List Expr} {ga:Lf} {pos p cpos:Pos}
def kH (i:Nat)(c f:Str):Ef:=fun ρ=>match ρ[i]? with | some (.mu (.obj c' ns ds))=>if c'=c then(ns.zip ds).lookup f else none | _=>none
theorem lE {C:Addr}{c f:Str}(i:Nat){x:Str}{p1:Pos}(hC:ClsAt X.K c C)(hcl:Cls X.K C)(hn:NoAttr X.K C f)(hN:X.N[i]?=some x:=by rfl)(hv:Vis X.env.scope x:=by first | exact Or.inl rfl | exact Or.inr (Or.inl rfl) | exact Or.inr (Or.inr rfl))(hd:(x==("__debug__":Str))=false:=by decide)(hcd:(x==("__classdict__":Str))=false:=by decide)
   (hb:attributeBase (.Name x p1) f X.env (eval (.Name x p1) X.env)=eval (.Name x p1) X.env:=by rfl):PF X (.Attribute (.Name x p1) f pos) (kH i c f):=by
 refine PE.to (zSP (rZ hN hv hd hcd) hb) ?_
 rintro σ H Q ⟨G0,H0,G,ρ,d,good,hf,k⟩
 unfold kH at hf
 split at hf
 · rename_i c' ns ds e
   split at hf
   · rename_i hc
     subst hc
     obtain⟨q,o,e1,e2,e3,e4,C',dx,vs,r1,r2,r3,r4⟩:=good.mu e
     have ec:=hC.one r1
     subst ec
     obtain⟨u,l1,l2⟩:=jW r3 r4 hf
     exact⟨.ref q,e1,q,_,dx,_,u,rfl,by rw[e2,r2],hcl,hn,l1,k _ _ G (.refl good.sub) l2⟩
   · cases hf
 · cases hf
def zZy (i:Nat)(c:Str)(ns:List Str)(n:Nat)(f:List D->Option (List D))(g:Lf):Sf:=fun ρ=>(g ρ).bind fun ds=>if ds.length=n then(f ds).bind fun xs=>if ns.length=xs.length then some (.nx (ρ.set i (.mu (.obj c ns xs)))) else none else none
theorem zSH (i:Nat){x:Str}{k n:Nat}{C fI:Addr}{fd:FuncData}{ps ns:List Str}{c:Str}{f:List D->Option (List D)}{pos':Pos}(hN:X.N.Nodup)(hC:ClsAt X.K c C)(M:Mk X.K C fI)(F:FnOk X.prog X.w X.K X.mg X.base CX0 k fI fd ps (spI X.K C ns n f))(hr:Room (k+1) X.A)(hm:X.mg c=some (.ref C))(hb:Binds X.K fd ps [])(hg:Gl X c)
   (ha:PFA X (e::es) ga) (hi:X.N[i]?=some x:=by rfl) (hx:Loc X.env.scope x:=by first | exact .inl rfl | exact .inr rfl) (hs:swapsWith (.Call (.Name c p) (e::es) [] cpos) (some (.Name x pos')) pos.line X.env=pure false:=by rfl)
   (hf:X.fn x=true∨X.env.scope.names.lookup x=some .local:=by first | exact .inl rfl | exact .inr rfl) (hdb:(c==("__debug__":Str))=false:=by decide) (he:starEach (e::es) X.env=(false,eval e X.env)::starEach es X.env:=by rfl) (hpl:(backTo cpos (starEach es X.env)).any (·.1)=false:=by rfl) :
   PFS X (.Assign [.Name x pos'] (.Call (.Name c p) (e::es) [] cpos) pos) (zZy i c ns n f ga):=by
 refine PS.to (mP hN hi hx (zWi (E:=E0) M F hr hg hm hb .nil gW ha hdb he hpl) hs hf) ?_
 rintro D σ H ⟨G0,H0,G,ρ,o,good,hf,k⟩
 unfold zZy at hf
 obtain⟨ds,h1,hf⟩:=Qq.mp hf
 split at hf
 · rename_i hl
   obtain⟨xs,h2,hf⟩:=Qq.mp hf
   split at hf
   · rename_i hn
     cases hf
     refine⟨G0,H0,G,ρ,_,good,h1,fun vs H1 G1 s1 r1 x dx hx hdx hne=>?_⟩
     refine⟨x,dx,vs++[],G1,H1,ds,xs,rfl,rfl,hx,hdx,hne,s1.sub,by rw[Ea];exact r1,hl,h2,fun H' G' us s' q1 q2 q3=>⟨rfl,?_⟩⟩
     have g2:=(good.step s1).step s'
     exact k _ H' G' (s1.trans s').gg (g2.setM i q1 q2 ((good.step s1).st.hh.free hx) ⟨C,dx,us,hC,rfl,hn,q3⟩ ((good.step s1).fresh hx))
   · cases hf
 · cases hf
end
def spM (K:PySem.W.Frag)(c:Str)(ns:List Str)(n:Nat)(f:List D->List D->Option (List D)):Sp:=fun vs H Q _=>∃(a:Addr) (o:HO) (rest:List V) (G:Hp) (xs ds ys:List D),vs = .ref a::rest/\H a=some o/\G a=none/\RepO K G o (.obj c ns xs)/\Same G H/\Reps K G ds rest/\ds.length=n/\f xs ds=some ys /\
 ∀H' G' o',Step G (kU H a) G' H'->H' a=some o'->G' a=none->RepO K G' o' (.obj c ns ys)->Q .non H'
def zYQ (N:Nat)(c:Str)(ns:List Str)(xs ds:List D):List B:=.mu (.obj c ns xs)::(ds.map .fz++List.replicate (N - (ds.length+1)) .no)
def fnM (N:Nat)(c:Str)(ns:List Str)(f:Str)(t:Tf)(e:Ef):List D->List D->Option (List D):=fun xs ds=>(t (zYQ N c ns xs ds)).bind fun b=>if b=false/\f∈ns/\ns.length<=900 then(e (zYQ N c ns xs ds)).map fun d=>setF f d ns xs else none
section
variable {P:Program} {w:World} {K:PySem.W.Frag} {mg:Str->Option Value} {base:Heap} {x qual:Str} {st:Stmt} {fad C:Addr} {fd:FuncData} {N ps ns:List Str} {k:Nat} {sf c f:Str} {t e:Expr} {rs:List Stmt} {tt:Tf} {fe:Ef} {p1 p2 p3 p4:Pos}
theorem Step.wrP {G H G' H':Hp}{p:Addr}{o:HO}(s:Step G H G' H')(hp:H p=none)(g':G' p=none):Step G H G' (upd H' p o) :=
 ⟨fun b u e=>by rw[zP (zB e hp)];exact s.hh b u e,s.gg,fun b u e=>by rw[zP (zB e g')];exact s.sub b u e,s.new⟩
theorem zU8 {X:Cx}{sts:List Stmt}:PSs X sts (fun _ _ _=>False):=fun _ _ _ _ _ _ z=>z.elim
theorem oG (m:Nat)(d:D)(ds:List D){j:Nat}{b:B}(h:(B.mu d::(ds.map B.fz++List.replicate m B.no))[j]?=some b)(o:uF b=true):j=0:=by
 cases j with
 | zero=>rfl
 | succ j =>
   exfalso
   rw[Rl] at h
   by_cases hi:j < ds.length
   · rw[Wc (by simpa using hi),Ws] at h
     obtain⟨k,_,h⟩:=Qt.mp h
     cases h;cases o
   · rw[Wt (by simpa using hi),Es] at h
     split at h<;>cases h<;>cases o
theorem zUr (F:Fun K x qual st fad fd)(S:FnScope N (sf::ps) (zU st))(hC:ClsAt K c C)(hcl:Cls K C)(hn:NoAttr K C f)(hbody:xY st=[.If t rs [] p1,.Assign [.Attribute (.Name sf p2) f p3] e p4])
   (ht:∀(cdv:Value) (A:Around) (outer:List Env) (s:Shared) (H:Hp) (E:XK),Room k (A.deeper (envOfC qual (zU st) s.heap.objs.size fad cdv))->PFT (jT CX0 P w K mg base N qual (zU st) fad cdv A outer s H E).nox t tt)
   (he:∀(cdv:Value) (A:Around) (outer:List Env) (s:Shared) (H:Hp) (E:XK),Room k (A.deeper (envOfC qual (zU st) s.heap.objs.size fad cdv))->PF (jT CX0 P w K mg base N qual (zU st) fad cdv A outer s H E).nox e fe)
   (hN0:N[0]?=some sf) (hv:Vis (zU st) sf) (hd:(sf==("__debug__":Str))=false:=by decide) (hcd:(sf==("__classdict__":Str))=false:=by decide)
   (hs:∀(cdv:Value) (A:Around) (outer:List Env) (s:Shared) (H:Hp) (E:XK),swapsWith e (some (.Attribute (.Name sf p2) f p3)) p4.line (jT CX0 P w K mg base N qual (zU st) fad cdv A outer s H E).nox.env=pure false:=by exact fun _ _ _ _ _ _=>rfl) :
   FnOk P w K mg base CX0 (k+1) fad fd (sf::ps) (spM K c ns ps.length (fnM N.length c ns f tt fe)):=by
 refine F.ok S (fun vs H Q E h=>?_) (fun cdv A outer s H vs Q E hr h=>?_)
 · obtain⟨a,o,rest,G,xs,ds,ys,rfl,_,_,_,_,rr,hl,_⟩:=h
   rw[Qs,Qs,←rr.length,hl]
 · rw[hbody]
   refine⟨_,w8 (zZY (ht cdv A outer s H E hr) zU8 gR) (qP (zU2 (rZ hN0 hv hd hcd) (he cdv A outer s H E hr) (hs cdv A outer s H E))),?_⟩
   obtain⟨a,o,rest,G,xs,ds,ys,rfl,h1,h2,h3,sub,rr,hl,hf,kk⟩:=h
   have good:Good K G (kU H a) G H (start N (.ref a::rest)) (zYQ N.length c ns xs ds):=by
     refine⟨⟨fun b u q=>?_,Same.refl _,sub,fun _ _ _ _=>rfl⟩,?_,fun i j a b c q1 q2 o1 o2 _ _=>(oG _ _ ds q1 o1).trans (oG _ _ ds q2 o2).symm⟩
     · by_cases hb:b=a
       · rw[hb,uK] at q;cases q
       · rwa[uW hb] at q
     · unfold start zYQ
       rw[Ql,Qs,Yr,←rr.length]
       exact .cons (.mu h1 h2 uK h3) (oX _ rr)
   unfold fnM at hf
   obtain⟨b,e1,hf⟩:=Qq.mp hf
   split at hf
   · rename_i hq
     obtain⟨rfl,hfn,hn9⟩:=hq
     obtain⟨d,e2,rfl⟩:=Qt.mp hf
     refine⟨G,kU H a,G,_,false,good,e1,fun H1 G1 s1=>?_⟩
     show zQP _ _ _
     refine⟨G,kU H a,G1,_,d,good.step s1,e2,fun v H2 G2 s2 r2=>?_⟩
     have s12:=s1.trans s2
     obtain⟨C',dx,vs,r3,r4,r5,r6⟩:=h3
     have ec:=hC.one r3
     subst ec
     have hlv:ns.length=vs.length:=by rw[r5];exact r6.length
     refine⟨.ref a,rfl,a,_,dx,ns.zip vs,rfl,by rw[s12.hh _ _ h1,r4],hcl,hn,by rw[Ys];lia,?_⟩
     have ga:G2 a=none:=(s12.new a _ h1 (by rw[r4];rfl)).trans h2
     exact kk _ G2 _ ((good.st.trans s12).wrP uK ga) zO ga ⟨_,dx,_,hC,by rw[zYi hlv hfn],by rw[zXo];exact r5,zZS r2 (r6.mono s12.gg)⟩
   · cases hf
end
theorem uV {f:Str}:∀ {ns:List Str} {vs:List V},f∉ns->(ns.zip vs).lookup f=none
 | [],_,_=>by simp
 | _::_,[],_=>by simp
 | n::ns,v::vs,h=>by
   rw[Ez,Ec,Rh.mpr fun z=>h (by simp[z])]
   exact uV fun z=>h (by simp[z])
section
variable {X:Cx} {c o:Expr} {fa:Ef} {apos cpos:Pos}
def fU (i:Nat)(c m:Str)(n:Nat)(f:List Str->List D->List D->Option (List D))(g:Lf):Sf:=fun ρ=>(g ρ).bind fun ds=>match ρ[i]? with
 | some (.mu (.obj c' ns xs))=>if c'=c/\ds.length=n/\m∉ns/\rY i 1 ρ=true then(f ns xs ds).map fun ys=>.nx (ρ.set i (.mu (.obj c ns ys))) else none
 | _=>none
def kF (c m:Str)(n:Nat)(d:List D->Option D)(fa:Ef)(g:Lf):Ef:=fun ρ=>(fa ρ).bind fun x=>(g ρ).bind fun ds=>match x with
 | .obj c' ns _=>if c'=c/\ds.length+1=n/\m∉ns then d (x::ds) else none
 | _=>none
theorem zTL {pl:Sem Bool}{c m:Str}{k n:Nat}{C fad:Addr}{fd:FuncData}{ps:List Str}{d:List D->Option D}(hC:ClsAt X.K c C)(hcl:Cls X.K C)(hm:Meth X.K C m fad)(F:FnOk X.prog X.w X.K X.mg X.base CX0 k fad fd ps (spF X.K n d))(hr:Room k X.A)(hb:Binds X.K fd ps [])
   (ho:PF X o fa)
   (ht:eval (.Call (.Attribute o m apos) [] [] cpos) X.env=(do
     let ov ←eval o X.env
     standAt apos.atName
     let (f,first) ←holding [ov] (getMethod ov m pl)
     callWith cpos f first (backTo cpos (starEach [] X.env)) (backToKw cpos (keywordEach [] X.env))):=by rfl) :
   PF X (.Call (.Attribute o m apos) [] [] cpos) (kF c m n d fa zN):=by
 refine PE.to (zXm (pl:=pl) (E:=E0) ho hcl hm F hr hb .nil gW ht) ?_
 rintro σ H Q ⟨G0,H0,G,ρ,r,good,hf,kk⟩
 unfold kF at hf
 obtain⟨x,h1,hf1⟩:=Qq.mp hf
 obtain⟨ds,h2,hf2⟩:=Qq.mp hf1
 clear hf hf1
 cases h2
 cases x with
 | obj c' ns xs =>
   dsimp only at hf2
   split at hf2
   · rename_i hq
     obtain⟨rfl,hl,hmn⟩:=hq
     refine⟨G0,H0,G,ρ,_,good,h1,fun v H1 G1 s1 r1=>?_⟩
     obtain⟨C',q,dx,vs,r2,rfl,r3,r4,r5⟩:=lD.mp r1
     have ec:=hC.one r2
     subst ec
     refine⟨q,dx,_,rfl,s1.sub _ _ r3,uV hmn,?_⟩
     exact⟨G1,[.obj c' ns xs],r,s1.sub,zQ.mpr ⟨_,_,rfl,r1,zK.mpr rfl⟩,hl,hf2,fun v H' G' st rr=>kk v H' G' (s1.trans st) rr⟩
   · cases hf2
 | _=>cases hf2
end
def zOM:Value->Option D
 | .none=>some .non
 | .bool b=>some (.bl b)
 | .int i _=>some (.int i)
 | .str x _=>some (.str x)
 | _=>none
def zOo (P:Params)(l:List (Str×Tok×Value)):List DictEntry:=l.map fun p=>⟨PyData.keyHash P p.1,.str p.1 p.2.1,p.2.2⟩
def kvC (l:List (Str×Tok×Value)):List (Str×D):=l.map fun p=>(p.1,(zOM p.2.2).getD .non)
structure DictC (w:World)(K:PySem.W.Frag)(a:Addr)(kvs:List (Str×D)):Prop where
 sys:(a==sysModules)=false
 at':∃(l:List (Str×Tok×Value)) (n:Nat),K.lookup a=some ⟨.type "dict",none,.dict (zOo w.params l).toArray n,#[]⟩/\kvs=kvC l/\(l.all fun p=>(zOM p.2.2).isSome)=true
end L2
namespace L2
open PySem PySem.W PySem.Spec PyProof.Rows
def zPj:D->Option Key | .int i=>some (.inl i) | .str s=>some (.inr s) | _=>none
def zXS:List D->Option (List Key)
 | []=>some []
 | d::r=>(zPj d).bind fun k=>(zXS r).map (k::·)
def zUI:D->Option (List Key) | .tup ds=>zXS ds | _=>none
section
variable {K:PySem.W.Frag} {G:Hp}
theorem zT1 {d:D}{k:Key}{v:V}(h:zPj d=some k)(r:Rep K G d v):v=kV k:=by
 cases d with
 | int i=>cases h;exact zJ.mp r
 | str z=>cases h;exact xR.mp r
 | _=>cases h
theorem fM:∀ {ds:List D} {k:List Key} {vs:List V},zXS ds=some k->Reps K G ds vs->vs=k.map kV
 | [],k,vs,h,r=>by cases h;exact zK.mp r
 | d::ds,k,vs,h,r=>by
   unfold zXS at h
   obtain⟨a,h1,h⟩:=Qq.mp h
   obtain⟨b,h2,rfl⟩:=Qt.mp h
   obtain⟨v,vr,rfl,r1,r2⟩:=zQ.mp r
   rw[zT1 h1 r1,fM h2 r2];rfl
theorem cG {d:D}{k:List Key}{v:V}(h:zUI d=some k)(r:Rep K G d v):∃b,v = .ref b/\SqT K G b (k.map kV):=by
 cases d with
 | tup ds =>
   obtain⟨b,vs,rfl,h1,h2⟩:=xS.mp r
   rw[fM h h2] at h1
   exact⟨b,rfl,h1⟩
 | _=>cases h
def nB (ks:List (List Key))(ds:List D)(k:List Key):Option D:=((ks.zip ds).find? fun p=>decide (p.1=k)).map (·.2)
theorem bZ:∀ {ks:List (List Key)} {ds:List D} {vs:List V} (k:List Key),ks.length=ds.length->Reps K G ds vs->match nB ks ds k,lJ (ks.zip vs) k with | some d,some v=>Rep K G d v | none,none=>True | _,_=>False
 | [],ds,vs,k,h,r=>by simp[nB,lJ]
 | q::ks,[],vs,k,h,r=>by simp at h
 | q::ks,d::ds,vs,k,h,r=>by
   obtain⟨v,vr,rfl,r1,r2⟩:=zQ.mp r
   have ih:=bZ (ks:=ks) k (by simpa using h) r2
   unfold nB lJ at ih ⊢
   simp only[Ez,Tq]
   by_cases e:q=k
   · simp only[e,decide_true,Rg];exact r1
   · simp only[e,Ow];exact ih
theorem lY {ks:List (List Key)}{ds:List D}{vs:List V}(k:List Key)(h:ks.length=ds.length)(r:Reps K G ds vs):(lJ (ks.zip vs) k).isSome=(nB ks ds k).isSome:=by
 have:=bZ k h r
 split at this
 · rename_i e1 e2;rw[e1,e2];rfl
 · rename_i e1 e2;rw[e1,e2];rfl
 · exact this.elim
def eT (ks:List (List Key))(ds:List D)(k:List Key):List D:=((ks.zip ds).filter fun p=>decide (p.1≠k)).map (·.2)
theorem aD:∀ {ks:List (List Key)} {ds:List D} {vs:List V} (k:List Key),ks.length=ds.length->Reps K G ds vs ->
   ∃us,iK (ks.zip vs) k=(ks.filter fun q=>decide (q≠k)).zip us/\(ks.filter fun q=>decide (q≠k)).length=(eT ks ds k).length/\Reps K G (eT ks ds k) us
 | [],ds,vs,k,h,r=>⟨[],by simp[iK],by simp[eT],by simp[eT];exact zK.mpr rfl⟩
 | q::ks,[],vs,k,h,r=>by simp at h
 | q::ks,d::ds,vs,k,h,r=>by
   obtain⟨v,vr,rfl,r1,r2⟩:=zQ.mp r
   obtain⟨us,a1,a2,a3⟩:=aD (ks:=ks) k (by simpa using h) r2
   unfold iK eT at *
   by_cases e:q=k
   · refine⟨us,?_,?_,?_⟩
     · simpa [Wm,e] using a1
     · simpa [Wm,e] using a2
     · simpa [Wm,e] using a3
   · refine⟨v::us,?_,?_,?_⟩
     · simpa [Wm,e] using a1
     · simpa [Wm,e] using a2
     · have:Reps K G (d::((ks.zip ds).filter fun p=>decide (p.1≠k)).map (·.2)) (v::us):=zQ.mpr ⟨v,us,rfl,r1,a3⟩
       simpa [Wm,e] using this
variable {X:Cx} {pins:List (Addr×Obj)} {σ:St} {H:Hp} {s:Shared} {a b:Addr} {k:List Key} {kvs:List (List Key×V)} {A:Around}
theorem zWX (I:Inv X pins σ H s)(h:SqT X.K H b (k.map kV)):(tupleKind (xZ X.prog X.w)).is s.heap k b:=by
 obtain⟨its,rv,⟨o,e,c,n,d⟩,_⟩:=I.tuple h
 exact⟨o,its.toArray,n,e,c,d,by simpa using gC rv⟩
theorem zUC (hu:X.A.units+1 < cLine):OpR X (compareOp .NotIn) (fun x y H Q=>∃a b kvs k,x = .ref b/\y = .ref a/\H a=some (.dT kvs)/\SqT X.K H b (k.map kV)/\Q (.bl (!(lJ kvs k).isSome)) H):=by
 intro pins s σ H x y v u Q I rx ry ⟨a,b,kvs,k,e1,e2,ha,hb,q⟩
 subst e1 e2
 cases rx
 cases ry
 obtain⟨z,hd,xs,rel,dd⟩:=zZL I.hok ha
 refine wpAny_notIn_heap (Td hu) (zWX I hb) hd dd ?_
 have e:=(rel.val k).isSome_eq
 rw[Option.isSome_map] at e
 rw[←e]
 exact⟨.bl _,H,I.tok _,rfl,q⟩
theorem zOt (hu:X.A.units+1 < cLine):IxR X (fun x y H Q=>∃a b kvs k v,x = .ref a/\y = .ref b/\H a=some (.dT kvs)/\SqT X.K H b (k.map kV)/\lJ kvs k=some v/\Q v H):=by
 intro value slice pins s σ H x y v u Q I rx ry ⟨a,b,kvs,k,v',e1,e2,ha,hb,hv,q⟩ hs
 subst e1 e2
 cases rx
 cases ry
 obtain⟨z,hd,xs,rel,dd⟩:=zZL I.hok ha
 obtain⟨w',hw,rw'⟩:=RelO.some_of (v:=v') (o:=(atKey xs k).map (·.2)) (by rw[←hv];exact rel.val k)
 obtain⟨p,hp,hp2⟩:=Qt.mp hw
 subst hp2
 exact tail_any dd.typeIs slot_dict_getitem.lookup (wpAny_getItem_heap (Td hu) (zWX I hb) dd hp ⟨v',H,I.tok _,rw',q⟩) hs
theorem zVi:CallR X (.builtin "len") (fun xs H Q=>∃a kvs,xs=[.ref a]/\H a=some (.dT kvs)/\Q (.int kvs.length) H):=by
 intro pins s σ H xs us Q I r ⟨a,kvs,e,ha,q⟩
 subst e
 obtain⟨u,rfl,ru⟩:=eU r
 cases ru
 obtain⟨z,hd,xs,rel,dd⟩:=zZL I.hok ha
 have hl:kvs.length=xs.length:=Ek rel
 have hz:xs.length<=16777216:=by rw[←hl];rw[Ew] at z;lia
 refine call_len_slot (n:=(kvs.length:Int)) dd.typeIs F.slot_dict_len (fun Q' q'=>Ru F.slot_dict_len dd.typeIs F.entry_dict_len ?_ (F.args_dict_len_1 _)) (by lia) (by lia) ⟨.int _,H,(I.tok _).tok _,⟨_,rfl⟩,q⟩
 obtain⟨o,es,ep,ho,hc,hdat,hk,hp,hn⟩:=dd
 show wpAny _ _ (dictSize a >>= _) _ _ s
 unfold dictSize
 refine Qe (Qe (Im ho hdat (Qx ?_)))
 show wpAny _ _ (Builtin.Dict.pendingCount a >>= _) _ _ s
 refine Qe (wpAny_pendingCount_other hd ?_)
 refine wpAny_ret_mkInt ?_
 have:es.size=kvs.length:=by rw[Ol hk,hl]
 rw[this]
 exact q'
theorem KTd.drop {xs:List (List Key×Addr×Value)}(r:KTd H kvs xs)(k:List Key):KTd H (iK kvs k) (xs.filter fun x=>decide (x.1≠k)):=by
 unfold iK
 induction r with
 | nil=>exact .nil
 | @cons p q ps qs h t ih =>
   obtain⟨h1,h2⟩:=h
   by_cases e:p.1=k
   · simpa [Wm,e,h1.symm.trans e] using ih
   · have e':¬q.1=k:=fun z=>e (h1.trans z)
     have:KTd H (p::ps.filter fun kv=>decide (kv.1≠k)) (q::qs.filter fun x=>decide (x.1≠k)):=.cons ⟨h1,h2⟩ ih
     simpa [Wm,e,e'] using this
theorem zZ7 {α β:Type}(f:α->β):∀(l:List α) (i:Nat),(l.map f).eraseIdx i=(l.eraseIdx i).map f
 | [],_=>rfl
 | _::_,0=>rfl
 | a::l,i+1=>by rw[Ql,Yc,Yc,Ql,zZ7 f l i]
theorem jB {α:Type}{k:List Key}:∀ {xs:List (List Key×α)} {j:Nat} {p:α},(xs.map (·.1)).Nodup->xs[j]?=some (k,p)->xs.eraseIdx j=xs.filter fun x=>decide (x.1≠k)
 | [],_,_,_,h=>by simp at h
 | x::r,0,p,nd,h=>by
   cases h
   simp only[Ql,Rw,Tt,not_exists,not_and] at nd
   rw[List.eraseIdx_cons_zero,Yv (by simp)]
   refine(Iw.mpr fun a ha=>?_).symm
   simpa using nd.1 a ha
 | x::r,j+1,p,nd,h=>by
   rw[Rl] at h
   simp only[Ql,Rw,Tt,not_exists,not_and] at nd
   have hx:x.1≠k:=fun e=>nd.1 _ (Uk h) (by rw[e])
   rw[Yc,Tx (by simpa using hx),jB nd.2 h]
def zUz (K:PySem.W.Frag):V->List V->Hp->VK->Prop:=fun x vs H Q=>∃a b kvs k v,x = .ref a/\vs=[.ref b]/\H a=some (.dT kvs)/\SqT K H b (k.map kV)/\lJ kvs k=some v/\Q v (upd H a (.dT (iK kvs k)))
theorem zRQ (hu:X.A.units+1 < cLine):MtR X "dict.pop" (zUz X.K):=by
 intro pins s σ H x xs v us Q I rx r ⟨a,b,kvs,k,v',e1,e2,ha,hb,hv,q⟩
 subst e1 e2
 cases rx
 obtain⟨u,rfl,ru⟩:=eU r
 cases ru
 have hkey:=zWX I hb
 obtain⟨z,hd,xs,rel,dd⟩:=zZL I.hok ha
 have hT:=dd.typeIs
 obtain⟨o,es,ep,ho,hc,hdat,he,his,hn⟩:=dd
 have hl:kvs.length=xs.length:=Ek rel
 have hes:es.size=xs.length:=Ol he
 obtain⟨w',hw,rw'⟩:=RelO.some_of (v:=v') (o:=(atKey xs k).map (·.2)) (by rw[←hv];exact rel.val k)
 obtain⟨p0,hp0,hp2⟩:=Qt.mp hw
 refine Ru F.slot_dict_pop hT F.entry_dict_pop ?_ (F.args_dict_pop_2 _ _)
 unfold Builtin.«dict.pop»
 refine Qe ?_
 unfold Builtin.Dict.keyAndDefault
 refine Qe (wpAny_notOrdered_dict hT ?_)
 show wpAny _ _ (pure (a,Value.ref b,none)) _ _ s
 refine Qx ?_
 dsimp only
 have hne:es.isEmpty=false:=by
   cases xs with
   | nil=>simp[atKey] at hp0
   | cons y r=>simp[Array.isEmpty,hes]
 have hkp:(keyPart (Value.ref b)).isSome=false:=rfl
 simp only[hkp,Wd,Rj]
 refine Qe (Im ho hdat (Qe (Qx ?_)))
 rw[hne]
 simp only[Wd,Rj]
 refine Qe ?_
 unfold Builtin.Dict.takeOut
 refine En ?_
 refine Qe ((tupleKind (xZ X.prog X.w)).pyHash (Td hu) hkey ?_)
 refine Qe (wpAny_dictFind_heap (knd:=tupleKind (xZ X.prog X.w)) (s:={ s with toks:=s.toks+(tupleKind (xZ X.prog X.w)).draws k }) (Td hu) hkey ho hdat he his hn (fun hno=>?_) fun j p hj=>?_)
 · exfalso
   rw[atKey_none_of_get hno] at hp0
   cases hp0
 · have he':es[j]?=some (entryOfKey (tupleKind (xZ X.prog X.w)) (k,p)):=by rw[entry_at he j,hj];rfl
   have hpp:p=p0:=by
     have:=atKey_of_get hn hj
     rw[hp0] at this
     exact(Wg this).symm
   subst hpp
   dsimp only
   refine Qe (Im (s:={ s with toks:=s.toks+(tupleKind (xZ X.prog X.w)).draws k }) ho hdat ?_)
   rw[he']
   refine Qe (wpAny_updateDictKeys (hz:=by rw[hes,←hl];exact z) (s:={ s with toks:=s.toks+(tupleKind (xZ X.prog X.w)).draws k }) ho hdat (Qx ?_))
   simp only[Option.isNone_some,Wd,Rj]
   refine Qe (Yl (Qx ⟨_,rfl,?_⟩))
   have er:p.2=w':=hp2
   have ok:ObjOk X.prog X.w (upd H a (.dT (iK kvs k))) (s.heap.update a (Obj.mapDictKeys fun x=>x.eraseIdxIfInBounds j)) a (.dT (iK kvs k)):=by
     refine⟨Wu (zSS kvs k) z,hd,xs.filter fun x=>decide (x.1≠k),?_,_,_,ep+1,Te _ ho (Obj.isFreed_of_dict (Ul hdat _)),hc.mapDictKeys _,Ul hdat _,?_,hn.sublist ((List.filter_sublist).map _)⟩
     · refine(rel.drop k).keeps fun c ys ec=>?_
       rw[zP (zQN ec ha (fun z=>nomatch z))]
       exact ec
     · rw[←jB hn hj,Ic,he,zZ7]
   exact⟨v',_,zYW I (by rw[ha];exact True.intro) (Heap.SameBut.update ..) ⟨_,Te _ ho (Obj.isFreed_of_dict (Ul hdat _))⟩ ok,by rw[←hp2] at rw';exact rw',q⟩
end
end L2
namespace L2
open PySem PySem.W PySem.Spec PyProof.Rows
section
variable {X:Cx} {a b c e:Expr} {fa fb:Ef} {ga:Lf} {pos p:Pos} {k:Nat}
def zTm (i:Nat):Sf:=fun ρ=>some (.nx (ρ.set i (.mu (.dct [] []))))
theorem zTS (i:Nat){x:Str}{pos':Pos}(hN:X.N.Nodup)(hi:X.N[i]?=some x:=by rfl)(hx:Loc X.env.scope x:=by first | exact .inl rfl | exact .inr rfl)(hs:swapsWith (.Dict [] [] p) (some (.Name x pos')) pos.line X.env=pure false:=by rfl)
   (hf:X.fn x=true∨X.env.scope.names.lookup x=some .local:=by first | exact .inl rfl | exact .inr rfl):PFS X (.Assign [.Name x pos'] (.Dict [] [] p) pos) (zTm i):=by
 refine PS.to (mP hN hi hx zUk hs hf) ?_
 rintro D σ H ⟨G0,H0,G,ρ,o,good,hf,k⟩
 cases hf
 intro q hq
 have s1:=Step.own (o:=.dT []) good.st.sub hq
 exact k _ _ G s1.gg ((good.step s1).setM i zO (good.st.sub.free hq) (good.st.hh.free hq) ⟨[],rfl,rfl,zK.mpr rfl⟩ (good.fresh hq))
def zVU (f:Ef):Ef:=fun ρ=>(f ρ).bind fun d=>match d with | .dct ks _=>some (.int (ks.length:Int)) | _=>none
theorem zYT {K:PySem.W.Frag}{G H:Hp}{ks:List (List Key)}{ds:List D}{v:V}(sub:Same G H)(r:Rep K G (.dct ks ds) v):∃q vs,v = .ref q/\H q=some (.dT (ks.zip vs))/\ks.length=ds.length/\Reps K G ds vs/\(ks.zip vs).length=ks.length:=by
 obtain⟨q,vs,rfl,h1,h2,h3⟩:=zYA.mp r
 exact⟨q,vs,rfl,sub _ _ h1,h2,h3,by rw[Ys,←h3.length,←h2];simp⟩
theorem zR0 (hg:Gl X "len")(hm:X.mg "len"=none)(h:PF X a fa)(hs:starEach [a] X.env=[(false,eval a X.env)]:=by rfl):PF X (.Call (.Name "len" p) [a] [] pos) (zVU fa):=by
 refine PE.to (sX zVi hg hm On (yK h wI (by rw[hs];rfl)) (by decide) (by decide) (by rw[hs];rfl) (by rfl)) ?_
 rintro σ H Q ⟨G0,H0,G,ρ,d,good,hf,k⟩
 unfold zVU at hf
 obtain⟨x,h1,hf⟩:=Qq.mp hf
 split at hf
 · cases hf
   refine⟨G0,H0,G,ρ,_,good,h1,fun v H1 G1 s1 r1=>?_⟩
   obtain⟨q,vs,rfl,e1,e2,e3,e4⟩:=zYT s1.sub r1
   exact⟨q,_,rfl,e1,k _ _ G1 s1 (zJ.mpr (by rw[e4]))⟩
 · cases hf
def zUb (y:Bool)(fk fd:Ef):Tf:=fun ρ=>(fk ρ).bind fun dk=>(fd ρ).bind fun d=>(zUI dk).bind fun k=>match d with | .dct ks ds=>some ((nB ks ds k).isSome==y) | _=>none
theorem zUa {y:Bool}{fk fd:Ef}{ρ:List B}{r:Bool}(h:zUb y fk fd ρ=some r):∃dk k ks ds,fk ρ=some dk/\fd ρ=some (.dct ks ds)/\zUI dk=some k/\r=((nB ks ds k).isSome==y):=by
 unfold zUb at h
 obtain⟨dk,h1,h⟩:=Qq.mp h
 obtain⟨d,h2,h⟩:=Qq.mp h
 obtain⟨k,h3,h⟩:=Qq.mp h
 split at h
 · cases h;exact⟨dk,k,_,_,h1,h2,h3,rfl⟩
 · cases h
theorem zUB (hr:Room k X.A)(ha:PF X a fa)(hb:PF X b fb)(hm:behindInMarks .NotIn b=false:=by first | exact zS8 _ | (with_unfolding_all rfl)):PFT X (.Compare a [.NotIn] [b] pos) (zUb false fa fb):=by
 have hu:=hr.un
 refine PT.to (zVM (zUC (by lia)) ha hb hm) ?_
 rintro σ H Q ⟨G0,H0,G,ρ,c,good,hf,kk⟩
 obtain⟨dk,k,ks,ds,h1,h2,h3,rfl⟩:=zUa hf
 refine⟨G0,H0,G,ρ,_,good,h1,fun u H1 G1 s1 r1=>⟨G0,H0,G1,ρ,_,good.step s1,h2,fun v H2 G2 s2 r2=>?_⟩⟩
 obtain⟨q,vs,rfl,e1,e2,e3,e4⟩:=zYT s2.sub r2
 obtain⟨b',rfl,e5⟩:=cG h3 (r1.mono s2.gg)
 refine⟨q,b',_,k,rfl,rfl,e1,s2.sub.tup e5,_,rfl,?_⟩
 rw[lY k e2 e3]
 have:=kk _ G2 (s1.trans s2)
 simpa using this
def zYn (fd fk:Ef):Ef:=fun ρ=>(fd ρ).bind fun d=>(fk ρ).bind fun dk=>(zUI dk).bind fun k=>match d with | .dct ks ds=>nB ks ds k | _=>none
theorem zRt (hr:Room k X.A)(ha:PF X a fa)(hb:PF X b fb)(hs:hW b:=by exact fun _ _=>rfl):PF X (.Subscript a b pos) (zYn fa fb):=by
 have hu:=hr.un
 refine PE.to (zWn (zOt (by lia)) ha hb hs) ?_
 rintro σ H Q ⟨G0,H0,G,ρ,c,good,hf,kk⟩
 unfold zYn at hf
 obtain⟨d,h1,hf⟩:=Qq.mp hf
 obtain⟨dk,h2,hf⟩:=Qq.mp hf
 obtain⟨k,h3,hf⟩:=Qq.mp hf
 cases d with
 | dct ks ds =>
   refine⟨G0,H0,G,ρ,_,good,h1,fun u H1 G1 s1 r1=>⟨G0,H0,G1,ρ,_,good.step s1,h2,fun v H2 G2 s2 r2=>?_⟩⟩
   obtain⟨q,vs,rfl,e1,e2,e3,e4⟩:=zYT s2.sub (r1.mono s2.gg)
   obtain⟨b',rfl,e5⟩:=cG h3 r2
   have hv:=bZ k e2 e3
   have hf:nB ks ds k=some c:=hf
   rw[hf] at hv
   cases hw:lJ (ks.zip vs) k with
   | none=>rw[hw] at hv;exact hv.elim
   | some w=>rw[hw] at hv;exact⟨q,b',_,k,w,rfl,rfl,e1,s2.sub.tup e5,hw,kk _ _ G2 (s1.trans s2) hv⟩
 | _=>cases hf
def zPe:V->V->V->Hp->(Hp->Prop)->Prop:=fun o i v H Q=>∃a b kvs k,o = .ref a/\i = .ref b/\H a=some (.dT kvs)/\H b=some (.tup (k.map kV))/\kvs.length < sizeLine/\Q (upd H a (.dT (gQ kvs k v)))
theorem zPE (hu:X.A.units+1 < cLine):zPv X zPe:=by
 intro pins s σ H o i v ov iv u Q I ro ri rv ⟨a,b,kvs,k,e1,e2,h1,h2,h3,q⟩
 subst e1 e2
 cases ro
 exact zUX hu I (DPut.t h1 h2 h3) ri rv fun s' I'=>⟨_,I',q⟩
def zSY (i:Nat)(ga:Lf)(fv:Ef):Sf:=fun ρ=>(fv ρ).bind fun e=>((ga ρ).bind okL).bind fun dk=>(zXS dk).bind fun k=>match ρ[i]? with
 | some (.mu (.dct ks ds))=>if ks.length<=lim/\rY i 2 ρ=true/\(nB ks ds k).isSome=false then some (.nx (ρ.set i (.mu (.dct (ks++[k]) (ds++[e]))))) else none
 | _=>none
theorem zRT (hr:Room k X.A):MtR X "dict.pop" (zUz X.K):=zRQ (by have:=hr.un;lia)
def zWj (i:Nat)(fk:Ef):Sf:=fun ρ=>(fk ρ).bind fun dk=>(zUI dk).bind fun k=>match ρ[i]? with
 | some (.mu (.dct ks ds))=>if rY i 2 ρ=true/\(nB ks ds k).isSome=true then some (.nx (ρ.set i (.mu (.dct (ks.filter fun q=>decide (q≠k)) (eT ks ds k))))) else none
 | _=>none
end
end L2
namespace L2
open PySem PySem.Spec PyProof.Rows
def tFK (K:PySem.W.Frag)(i:Nat)(f:Sf):TS:=fun D σ H=>∃G0 H0 G ρ ρ1,Good K G0 H0 G H σ ρ/\f ρ=some (.nx ρ1)/\∀σ' H' G',Same G G'->Good K G0 H0 G' H' σ' ρ1->σ'[i]?=σ[i]?->D.nx σ' H'
def PFK (X:Cx)(i:Nat)(st:Stmt)(f:Sf):Prop:=PS X st (tFK X.K i f)
def zWZ (X:Cx)(i:Nat)(st:List Stmt)(f:Sf):Prop:=PSs X st (tFK X.K i f)
theorem PSK.to {X:Cx}{st:Stmt}{t:TS}{i:Nat}{f:Sf}(h:PS X st t)(imp:∀D σ H,tFK X.K i f D σ H->t D σ H):PFK X i st f:=fun pins s σ H D I q=>h pins s σ H D I (imp D σ H q)
theorem PSsK.to {X:Cx}{st:List Stmt}{t:TS}{i:Nat}{f:Sf}(h:PSs X st t)(imp:∀D σ H,tFK X.K i f D σ H->t D σ H):zWZ X i st f:=fun pins s σ H D I q=>h pins s σ H D I (imp D σ H q)
section
variable {X:Cx} {c:Expr} {st:Stmt} {rest sa sb:List Stmt} {ta:Tf} {f g:Sf} {pos:Pos} {i:Nat}
theorem lC (h:PFK X i st f):zWZ X i [st] f:=qP h
theorem zT4 (h1:PFK X i st f)(h2:zWZ X i rest g):zWZ X i (st::rest) (zC f g):=by
 refine PSsK.to (w8 h1 h2) ?_
 rintro D σ H ⟨G0,H0,G,ρ,ρ1,good,hf,k⟩
 unfold zC at hf
 obtain⟨o1,h1,hf⟩:=Qq.mp hf
 cases o1 with
 | nx ρ'=>exact⟨G0,H0,G,ρ,ρ',good,h1,fun σ' H' G' s g' e=>⟨G0,H0,G',ρ',ρ1,g',hf,fun σ2 H2 G2 s2 g2 e2=>k σ2 H2 G2 (s.trans s2) g2 (e2.trans e)⟩⟩
 | rt d=>cases hf
 | rl d=>cases hf
 | bk d=>cases hf
 | ct d=>cases hf
theorem zRc (ht:PFT X c ta)(ha:zWZ X i sa f)(hb:zWZ X i sb g):PFK X i (.If c sa sb pos) (sIf ta f g):=by
 refine PSK.to (zZY ht ha hb) ?_
 rintro D σ H ⟨G0,H0,G,ρ,ρ1,good,hf,k⟩
 unfold sIf at hf
 obtain⟨c',h1,hf⟩:=Qq.mp hf
 refine⟨G0,H0,G,ρ,_,good,h1,fun H1 G1 s1=>?_⟩
 split at hf
 · rename_i h;rw[Qi h];exact⟨G0,H0,G1,ρ,ρ1,good.step s1,hf,fun σ' H' G' s g e=>k σ' H' G' (s1.gg.trans s) g e⟩
 · rename_i h;rw[Qa h];exact⟨G0,H0,G1,ρ,ρ1,good.step s1,hf,fun σ' H' G' s g e=>k σ' H' G' (s1.gg.trans s) g e⟩
variable {e o:Expr} {es:List Expr} {fa:Ef} {ga:Lf} {p apos cpos p1 p2:Pos} {k:Nat}
theorem zYf (i:Nat){pl:Sem Bool}{x c m:Str}{k n:Nat}{C fad:Addr}{fd:FuncData}{ps:List Str}{f:List Str->List D->List D->Option (List D)}{p1:Pos}(hC:ClsAt X.K c C)(hcl:Cls X.K C)(hm:Meth X.K C m fad)(F:∀ns,FnOk X.prog X.w X.K X.mg X.base CX0 k fad fd ps (spM X.K c ns n (f ns)))(hr:Room k X.A)(hb:Binds X.K fd ps [])
   (ha:PFA X (e::es) ga) (hN:X.N[i]?=some x:=by rfl) (hv:Vis X.env.scope x:=by first | exact Or.inl rfl | exact Or.inr (Or.inl rfl) | exact Or.inr (Or.inr rfl)) (hd:(x==("__debug__":Str))=false:=by decide) (hcd:(x==("__classdict__":Str))=false:=by decide)
   (hst:starEach (e::es) X.env=(false,eval e X.env)::starEach es X.env:=by rfl) (hpl:(backTo cpos (starEach es X.env)).any (·.1)=false:=by rfl)
   (ht:eval (.Call (.Attribute (.Name x p1) m apos) (e::es) [] cpos) X.env=(do
     let ov ←eval (.Name x p1) X.env
     standAt apos.atName
     let (f,first) ←holding [ov] (getMethod ov m pl)
     callWith cpos f first (backTo cpos (starEach (e::es) X.env)) (backToKw cpos (keywordEach [] X.env))):=by rfl)
   (hs:swapsWith (.Call (.Attribute (.Name x p1) m apos) (e::es) [] cpos) none pos.line X.env=pure false:=by rfl) :
   PFK X i (.Expr (.Call (.Attribute (.Name x p1) m apos) (e::es) [] cpos) pos) (fU i c m n f ga):=by
 rintro pins s σ H D I ⟨G0,H0,G,ρ,ρ1,good,hf,kk⟩
 unfold fU at hf
 obtain⟨ds,h1,hf⟩:=Qq.mp hf
 split at hf
 · rename_i c' ns xs hi
   split at hf
   · rename_i hq
     obtain⟨rfl,hl,hmn,hon⟩:=hq
     obtain⟨ys,h2,hf⟩:=Qt.mp hf
     cases hf
     obtain⟨q,ob,e1,e2,e3,e4,e5⟩:=good.mu hi
     have e5':=e5
     obtain⟨C',dx,vs,r1,r2,r3,r4⟩:=e5'
     have ec:=hC.one r1
     subst ec
     refine nL (zRZ (pl:=pl) (E:=E0) (rZ hN hv hd hcd) hcl hm (F ns) hr hb .nil gW ha hst hpl ht) hs pins s σ H D I ?_
     refine⟨.ref q,e1,q,dx,_,rfl,by rw[e2,r2],uV hmn,G0,H0,G,ρ,ds,good,h1,fun us H1 G1 s1 rs=>?_⟩
     show spM X.K c' ns n (f ns) (.ref q::(us++[])) H1 _ E0
     rw[Ea]
     have g1:=good.step s1
     refine⟨q,ob,us,G1,xs,ds,ys,rfl,s1.hh _ _ e2,(s1.new q _ e2 e5.nt).trans e3,e5.mono s1.gg,s1.sub,rs,hl,h2,fun H' G' o' st q1 q2 q3=>?_⟩
     exact kk σ H' G' (s1.gg.trans st.gg) (g1.ioM hi hon e1 st q1 q2 q3) rfl
   · cases hf
 · cases hf
theorem zRn (i:Nat)(ht:PE X c (tBM X.K "dict" (zUz X.K) (zSO i) (zVO (tF X.K fa) zSV)))(hs:swapsWith c none pos.line X.env=pure false:=by rfl):PFK X i (.Expr c pos) (zWj i fa):=by
 refine PSK.to (nL ht hs) ?_
 rintro D σ H ⟨G0,H0,G,ρ,o,good,hf,kk⟩
 unfold zWj at hf
 obtain⟨dk,g2,hf⟩:=Qq.mp hf
 obtain⟨k,g3,hf⟩:=Qq.mp hf
 split at hf
 · rename_i ks ds hi
   split at hf
   · rename_i hc
     obtain⟨ho,hn⟩:=hc
     cases hf
     obtain⟨q,oq,e1,e2,e3,e4,e5⟩:=good.mu hi
     obtain⟨vs0,rfl,_,_⟩:=e5
     refine⟨.ref q,e1,.inr (.inr (.inl ⟨rfl,.inr ⟨_,e2⟩⟩)),G0,H0,G,ρ,_,good,g2,fun u H1 G1 s1 r1=>?_⟩
     obtain⟨q',oq',f1,f2,f3,f4,f5⟩:=(good.step s1).mu hi
     rw[e1] at f1;cases f1
     obtain⟨vs,rfl,l1,l2⟩:=f5
     obtain⟨b',rfl,e5⟩:=cG g3 r1
     have hv:=lY k l1 l2
     rw[hn] at hv
     obtain⟨w,hw⟩:=Rf.mp hv
     obtain⟨us,a1,a2,a3⟩:=aD k l1 l2
     refine⟨q,b',_,k,w,rfl,rfl,f2,s1.sub.tup e5,hw,?_⟩
     rw[a1]
     exact kk _ _ G1 s1.gg ((good.step s1).wrM hi ho e1 ⟨us,rfl,a2,a3⟩) rfl
   · cases hf
 · cases hf
theorem zSv (i:Nat){x:Str}{kk':Nat}(hr:Room k X.A)(he:PF X e fa)(hb:PFA X es ga)(hN:X.N[i]?=some x:=by rfl)(hv:Vis X.env.scope x:=by first | exact Or.inl rfl | exact Or.inr (Or.inl rfl) | exact Or.inr (Or.inr rfl))(hd:(x==("__debug__":Str))=false:=by decide)(hcd:(x==("__classdict__":Str))=false:=by decide)
   (ha:∀v,assign (.Subscript (.Name x p1) (.Tuple es kk' p) p2) X.env v=(do
     let ov ←holding [v] (eval (.Name x p1) X.env)
     let iv ←holding [v,ov] (eval (.Tuple es kk' p) X.env)
     standAt p2
     holding [v,ov,iv] (setItem ov iv v)
     release [v,ov,iv] []):=by intro _;rfl)
   (hs:swapsWithSole [.Subscript (.Name x p1) (.Tuple es kk' p) p2] e pos.line X.env=pure false:=by rfl) (hw:swappedStores [.Subscript (.Name x p1) (.Tuple es kk' p) p2] e X.env=pure none:=by rfl)
   (h1:(assignEach [.Subscript (.Name x p1) (.Tuple es kk' p) p2] X.env).map (·.2)=[assign (.Subscript (.Name x p1) (.Tuple es kk' p) p2) X.env]:=by rfl):PFK X i (.Assign [.Subscript (.Name x p1) (.Tuple es kk' p) p2] e pos) (zSY i ga fa):=by
 have hu:=hr.un
 refine PSK.to (zXf he (zPX (rZ hN hv hd hcd) (zW4 hb) (zPE (by lia)) ha) hs hw h1) ?_
 rintro D σ H ⟨G0,H0,G,ρ,o,good,hf,kk⟩
 unfold zSY at hf
 obtain⟨de,g1,hf⟩:=Qq.mp hf
 obtain⟨dk,g2,hf⟩:=Qq.mp hf
 obtain⟨dk',g2,g4⟩:=Qq.mp g2
 obtain⟨rfl,g4⟩:=qK g4
 obtain⟨k,g3,hf⟩:=Qq.mp hf
 split at hf
 · rename_i ks ds hi
   split at hf
   · rename_i hc
     obtain⟨hl,ho,hn⟩:=hc
     cases hf
     refine⟨G0,H0,G,ρ,_,good,g1,fun v H1 G1 s1 r1=>?_⟩
     obtain⟨q,oq,e1,e2,e3,e4,e5⟩:=(good.step s1).mu hi
     refine⟨.ref q,e1,G0,H0,G1,ρ,_,good.step s1,g2,fun us H2 G2 s2 r2=>⟨?_,fun b' hb'=>?_⟩⟩
     · rw[←r2.length];exact Wx (wV g4)
     · have eu:=fM g3 r2
       subst eu
       have s3:=Step.own (o:=.tup (k.map kV)) s2.sub hb'
       have gd:=(good.step s1).step (s2.trans s3)
       obtain⟨q',oq',f1,f2,f3,f4,f5⟩:=gd.mu hi
       rw[e1] at f1;cases f1
       obtain⟨vs,rfl,l1,l2⟩:=f5
       have hnk:lJ (ks.zip vs) k=none:=by
         have:=lY k l1 l2
         rw[hn] at this
         simpa using this
       refine⟨q,b',_,k,rfl,rfl,f2,zO,?_,?_⟩
       · rw[Ys,←l2.length,←l1,Nat.min_self];exact wV hl
       · rw[zTX v hnk]
         have ez:ks.zip vs++[(k,v)]=(ks++[k]).zip (vs++[v]):=by rw[List.zip_append (by rw[l1,l2.length])];rfl
         rw[ez]
         refine kk _ _ G2 (s1.gg.trans s2.gg) (gd.wrM hi ho e1 ⟨vs++[v],rfl,by simp[l1],?_⟩) rfl
         exact l2.append (zQ.mpr ⟨v,[],rfl,r1.mono s2.gg,zK.mpr rfl⟩)
   · cases hf
 · cases hf
end
def zUi (K:PySem.W.Frag)(n:Nat)(f:D->List D->Option D):Sp:=fun vs H Q _=>∃(a:Addr) (o:HO) (rest:List V) (G:Hp) (x:D) (ds:List D) (y:D),vs = .ref a::rest/\H a=some o/\G a=none/\RepO K G o x/\Same G H/\Reps K G ds rest/\ds.length=n/\f x ds=some y /\
 ∀H' G' o',Step G (kU H a) G' H'->H' a=some o'->G' a=none->RepO K G' o' y->Q .non H'
def zY5 (N:Nat)(x:D)(ds:List D):List B:=.mu x::(ds.map .fz++List.replicate (N - (ds.length+1)) .no)
def jN:Option Out->Option D | some (.nx (.mu y::_))=>some y | _=>none
theorem zWD {o:Option Out}{y:D}(h:jN o=some y):∃ρ,o=some (.nx ρ)/\ρ[0]?=some (.mu y):=by
 unfold jN at h
 split at h
 · cases h;exact⟨_,rfl,rfl⟩
 · cases h
def zQA (N:Nat)(f:Sf):D->List D->Option D:=fun x ds=>jN (f (zY5 N x ds))
section
variable {P:Program} {w:World} {K:PySem.W.Frag} {mg:Str->Option Value} {base:Heap} {x qual:Str} {st:Stmt} {fad:Addr} {fd:FuncData} {N ps:List Str} {k:Nat} {sf:Str} {f:Sf}
theorem zV2 (F:Fun K x qual st fad fd)(S:FnScope N (sf::ps) (zU st))
   (hb:∀(cdv:Value) (A:Around) (outer:List Env) (s:Shared) (H:Hp) (E:XK),Room k (A.deeper (envOfC qual (zU st) s.heap.objs.size fad cdv))->zWZ (jT CX0 P w K mg base N qual (zU st) fad cdv A outer s H E).nox 0 (xY st) f) :
   FnOk P w K mg base CX0 (k+1) fad fd (sf::ps) (zUi K ps.length (zQA N.length f)):=by
 refine F.ok S (fun vs H Q E h=>?_) (fun cdv A outer s H vs Q E hr h=>?_)
 · obtain⟨a,o,rest,G,xs,ds,ys,rfl,_,_,_,_,rr,hl,_⟩:=h
   rw[Qs,Qs,←rr.length,hl]
 · refine⟨_,hb cdv A outer s H E hr,?_⟩
   obtain⟨a,o,rest,G,x,ds,y,rfl,h1,h2,h3,sub,rr,hl,hf,kk⟩:=h
   have good:Good K G (kU H a) G H (start N (.ref a::rest)) (zY5 N.length x ds):=by
     refine⟨⟨fun b u q=>?_,Same.refl _,sub,fun _ _ _ _=>rfl⟩,?_,fun i j a b c q1 q2 o1 o2 _ _=>(oG _ _ ds q1 o1).trans (oG _ _ ds q2 o2).symm⟩
     · by_cases hb:b=a
       · rw[hb,uK] at q;cases q
       · rwa[uW hb] at q
     · unfold start zY5
       rw[Ql,Qs,Yr,←rr.length]
       exact .cons (.mu h1 h2 uK h3) (oX _ rr)
   obtain⟨ρ1,e1,e2⟩:=zWD hf
   refine⟨G,kU H a,G,_,ρ1,good,e1,fun σ' H' G' s' g' e=>?_⟩
   obtain⟨a',o',q1,q2,q3,q4,q5⟩:=g'.mu e2
   have e3:(start N (.ref a::rest))[0]?=some (some (.ref a)):=rfl
   rw[e,e3] at q1
   cases q1
   exact kk H' G' o' g'.st q2 q3 q5
end
structure FlyV (h:Heap)(H:Hp)(h0:Heap)(C a:Addr)(od:Option Addr):Prop where
 ob:∃vs v,h.get? a=some { cls:=.ref C,dict:=od,data:=.fields vs,slots:=#[] }/\vs[1]?=some v/\zTE h a v/\∀T,v = .ref T->H T=none/\h0.get? T=none
 tr:H a=some (.ext (Xe C a od))
 new:h0.get? a=none
theorem zUS {X:Cx}{st:Stmt}{rest:List Stmt}{B f g:Sf}(e:B=zC f g)(h1:PFS X st f)(h2:mJ X rest g):mJ X (st::rest) B:=by
 subst e
 exact gG h1 h2
theorem zV {X:Cx}{st:Stmt}{rest:List Stmt}(B:Sf){f g:Sf}(e:B=zC f g)(h1:PFS X st f)(h2:mJ X rest g):mJ X (st::rest) B:=zUS e h1 h2
structure FnT (K:PySem.W.Frag)(mg:Str->Option Value)(x:Str)(st:Stmt)(ps:List Str) where
 f:Addr
 fd:FuncData
 F:Fun K x x st f fd
 b:Binds K fd ps []
 m:mg x=some (.ref f)
def rM (K:PySem.W.Frag)(x:Str)(st:Stmt):Prop:=∃(f:Addr) (od an:Option Addr) (sl:Array (Option Value)) (oc kV dc pm cd ct:Value),PySem.W.nsIn K mainGlobals x=some (some (.ref f))/\K.lookup f=some ⟨oc,od,.func (PySem.W.fnOf x x (vL st) (xY st) (zU st) .none kV dc pm an cd ct),sl⟩/\PySem.W.codeIn K cd x=true/\PySem.W.keepIn K (.ref f)=true
abbrev fnQ (x:Str)(st:Stmt)(kV dc pm:Value)(an:Option Addr)(cd ct:Value):FuncData:=PySem.W.fnOf x x (vL st) (xY st) (zU st) .none kV dc pm an cd ct
def Bd (x:Str)(st:Stmt)(ps:List Str):Prop:=∀(kV doc pm:Value) (an:Option Addr) (cdv ct:Value) (us:List Value),us.length=ps.length->bindArgs (fnQ x st kV doc pm an cdv ct) ⟨us,[]⟩=pure (ps.zip us)
section
variable {x a b c:Str} {st:Stmt}
theorem bd1 (h:∀kV dc pm an cd ct u,bindArgs (fnQ x st kV dc pm an cd ct) ⟨[u],[]⟩=pure [(a,u)]):Bd x st [a]:=fun _ _ _ _ _ _ us hl=>match us,hl with | [_],_=>h _ _ _ _ _ _ _
theorem bd2 (h:∀kV dc pm an cd ct u v,bindArgs (fnQ x st kV dc pm an cd ct) ⟨[u,v],[]⟩=pure [(a,u),(b,v)]):Bd x st [a,b]:=fun _ _ _ _ _ _ us hl=>match us,hl with | [_,_],_=>h _ _ _ _ _ _ _ _
theorem bd3 (h:∀kV dc pm an cd ct u v z,bindArgs (fnQ x st kV dc pm an cd ct) ⟨[u,v,z],[]⟩=pure [(a,u),(b,v),(c,z)]):Bd x st [a,b,c]:=fun _ _ _ _ _ _ us hl=>match us,hl with | [_,_,_],_=>h _ _ _ _ _ _ _ _ _
variable {K:PySem.W.Frag} {h:Heap} {mg:Str->Option Value} {ps:List Str}
def rF (X:K.In h)(G:h.Ns mainGlobals mg)(g:rM K x st)(hb:Bd x st ps):FnT K mg x st ps:=Classical.choice (by
 obtain⟨f,od,an,sl,oc,kV,dc,pm,cd,ct,a,l,c,k⟩:=g
 exact⟨⟨f,_,kC l c k,(kC l c k).binds hb,PySem.W.mg_of X G a⟩⟩)
theorem zQ8 {P:Program}{w:World}{k:Nat}{sp:Sp}{p:Str}{fa:Addr}(t:FnT K mg x st [p])(hb:Bd x st [p])(hfa:mg x=some (.ref fa))(ok:∀base:Heap,FnOk P w K mg base CX0 k t.f t.fd [p] sp) :
   ∃fd:FuncData,(∀(s:Shared) (v:Value),BindsTo s fd ⟨[v],[]⟩ [(p,v)])/\∀base:Heap,K.In base->base.Ns mainGlobals mg->FnOk P w K mg base CX0 k fa fd [p] sp:=by
 have e:=hfa.symm.trans t.m
 cases e
 refine⟨t.fd,fun s v=>?_,fun base _ _=>ok base⟩
 obtain⟨oc,od,kV,doc,pm,an,cdv,ct,osl,e,lk,hcd⟩:=t.F.ex
 rw[e]
 exact .of_eq (hb kV doc pm an cdv ct [v] rfl)
end
abbrev OkT (P:Program)(w:World)(base:Heap){K:PySem.W.Frag}{mg:Str->Option Value}{x:Str}{st:Stmt}{ps:List Str}(t:FnT K mg x st ps)(k n:Nat)(d:List D->Option D):Prop:=FnOk P w K mg base CX0 k t.f t.fd ps (spF K n d)
section
variable {X:Cx} {e:Expr} {es:List Expr} {ga:Lf} {pos p:Pos} {x:Str} {st:Stmt} {ps:List Str}
theorem xX {j k n:Nat}{t:FnT X.K X.mg x st ps}{fD:List D->Option D}(F:FnOk X.prog X.w X.K X.mg X.base CX0 j t.f t.fd ps (spF X.K n fD))(hr:Room k X.A)(ha:PFA X (e::es) ga)(hj:j<=k:=by lia)(hg:Gl X x:=by rfl)(hdb:(x==("__debug__":Str))=false:=by decide)(he:starEach (e::es) X.env=(false,eval e X.env)::starEach es X.env:=by rfl)(hpl:(backTo pos (starEach es X.env)).any (·.1)=false:=by rfl) :
   PF X (.Call (.Name x p) (e::es) [] pos) (zL n fD ga):=zSr F (hr.mono hj) t.m t.F.kp t.b hg ha hdb he hpl
end
theorem xC {N P:List Str}{sc:Scope}(h:(sc.kind == .function && !sc.isCoroutine && !sc.isGenerator&&decide (N.take P.length=P)&&decide N.Nodup&&decide (∀x∈P,sc.names.lookup x=some .local∨sc.names.lookup x=some .cell)&&decide (∀y∈sc.names,y.2 ≠ .free))=true):FnScope N P sc:=by
 simp only[Wb,Ej,Bool.not_eq_true'] at h
 obtain⟨⟨⟨⟨⟨⟨h1,h2⟩,h3⟩,h4⟩,h5⟩,h6⟩,h7⟩:=h
 refine⟨?_,h2,h3,h5,h4,h6,h7⟩
 generalize sc.kind=k at h1
 cases k<;>first | rfl | cases h1
section
variable {X:Cx} {es:List Expr} {ga:Lf} {pos p p1 cpos:Pos} {x y:Str} {st:Stmt} {ps:List Str}
def rT (i n:Nat)(f:D->List D->Option D)(g:Lf):Sf:=fun ρ=>(g ρ).bind fun ds=>match ρ[i]? with
 | some (.mu x)=>if ds.length=n/\rY i (gZ x) ρ=true then(f x ds).map fun y=>.nx (ρ.set i (.mu y)) else none
 | _=>none
theorem zZB (i:Nat){j k n:Nat}{t:FnT X.K X.mg y st ps}{f:D->List D->Option D}(F:FnOk X.prog X.w X.K X.mg X.base CX0 j t.f t.fd ps (zUi X.K n f))(hr:Room k X.A)(ha:PFA X es ga)(hj:j<=k:=by lia)(hg:Gl X y:=by rfl)
   (hN:X.N[i]?=some x:=by rfl) (hv:Vis X.env.scope x:=by first | exact Or.inl rfl | exact Or.inr (Or.inl rfl) | exact Or.inr (Or.inr rfl)) (hd:(x==("__debug__":Str))=false:=by decide) (hcd:(x==("__classdict__":Str))=false:=by decide) (hdb:(y==("__debug__":Str))=false:=by decide)
   (hst:starEach (.Name x p1::es) X.env=(false,eval (.Name x p1) X.env)::starEach es X.env:=by rfl) (hpl:(backTo cpos (starEach es X.env)).any (·.1)=false:=by rfl)
   (hs:swapsWith (.Call (.Name y p) (.Name x p1::es) [] cpos) none pos.line X.env=pure false:=by rfl) :
   PFS X (.Expr (.Call (.Name y p) (.Name x p1::es) [] cpos) pos) (rT i n f ga):=by
 refine PS.to (nL (dO (E:=E0) F (hr.mono hj) hg t.m t.F.kp t.b .nil gW (yK (rZ hN hv hd hcd) ha hst) hdb hst hpl) hs) ?_
 rintro D σ H ⟨G0,H0,G,ρ,o,good,hf,kk⟩
 unfold rT at hf
 obtain⟨ds,h1,hf⟩:=Qq.mp hf
 split at hf
 · rename_i x hi
   split at hf
   · rename_i hq
     obtain⟨hl,hon⟩:=hq
     obtain⟨y,h2,rfl⟩:=Qt.mp hf
     obtain⟨q,ob,e1,e2,e3,e4,e5⟩:=good.mu hi
     refine⟨.ref q,e1,G0,H0,G,ρ,ds,good,h1,fun us H1 G1 s1 rs=>?_⟩
     show zUi X.K n f ((.ref q::us)++[]) H1 _ E0
     rw[Ea]
     have g1:=good.step s1
     exact⟨q,ob,us,G1,x,ds,y,rfl,s1.hh _ _ e2,(s1.new q _ e2 e5.nt).trans e3,e5.mono s1.gg,s1.sub,rs,hl,h2,fun H' G' o' st q1 q2 q3=>kk σ H' G' (s1.gg.trans st.gg) (g1.ioM hi hon e1 st q1 q2 q3)⟩
   · cases hf
 · cases hf
variable {e:Expr} {fa:Ef} {pt p2 p3:Pos} {z:Str} {kt:Nat}
theorem zRJ (i j1 j2 j3:Nat)(hc:X.calm=true)(hN:X.N.Nodup)(he:PF X e fa)(n1:j1≠i:=by decide)(n2:j2≠i:=by decide)(n3:j3≠i:=by decide)
   (h1:X.N[j1]?=some x:=by rfl) (h2:X.N[j2]?=some y:=by rfl) (h3:X.N[j3]?=some z:=by rfl)
   (l1:Loc X.env.scope x:=by first | exact .inl rfl | exact .inr rfl) (l2:Loc X.env.scope y:=by first | exact .inl rfl | exact .inr rfl) (l3:Loc X.env.scope z:=by first | exact .inl rfl | exact .inr rfl)
   (f1:X.fn x=true∨X.env.scope.names.lookup x=some .local:=by first | exact .inl rfl | exact .inr rfl) (f2:X.fn y=true∨X.env.scope.names.lookup y=some .local:=by first | exact .inl rfl | exact .inr rfl) (f3:X.fn z=true∨X.env.scope.names.lookup z=some .local:=by first | exact .inl rfl | exact .inr rfl)
   (hs:swapsWithSole [.Tuple [.Name x p1,.Name y p2,.Name z p3] kt pt] e pos.line X.env=pure false:=by rfl) (hw:swappedStores [.Tuple [.Name x p1,.Name y p2,.Name z p3] kt pt] e X.env=pure none:=by rfl) :
   PFK X i (.Assign [.Tuple [.Name x p1,.Name y p2,.Name z p3] kt pt] e pos) (zW0 fa (gT (zD (gN j1) (zD (gN j2) (zD (gN j3) wE))))):=by
 refine PSK.to (zXf he (zSW (n:=3) hc (hU (dL hN h1 l1 f1) (hU (dL hN h2 l2 f2) (hU (dL hN h3 l3 f3) zWf (by rfl)) (by rfl)) (by rfl)) (by rfl) (by rfl)) hs hw (by rfl)) ?_
 rintro D σ H ⟨G0,H0,G,ρ,ρ1,good,hf,k⟩
 unfold zW0 at hf
 obtain⟨d,g1,hf⟩:=Qq.mp hf
 obtain⟨ρ',g2,hf⟩:=Qt.mp hf
 cases hf
 refine⟨G0,H0,G,ρ,d,good,g1,fun v H1 G1 s1 r1=>?_⟩
 unfold gT at g2
 split at g2
 · rename_i ds
   match ds,g2,r1 with
   | [da,db,dc],g2,r1 =>
     cases g2
     obtain⟨p,vs,rfl,e1,e2⟩:=xS.mp r1
     obtain⟨va,r2,rfl,q1,e2⟩:=zQ.mp e2
     obtain⟨vb,r3,rfl,q2,e2⟩:=zQ.mp e2
     obtain⟨vc,r4,rfl,q3,e2⟩:=zQ.mp e2
     rw[zK] at e2
     subst e2
     refine⟨p,_,rfl,s1.sub.tup e1,rfl,va,_,rfl,vb,_,rfl,vc,_,rfl,rfl,?_⟩
     exact k _ H1 G1 s1.gg ((((good.step s1).setF j1 q1).setF j2 q2).setF j3 q3) (by rw[Qk n3,Qk n2,Qk n1])
 · cases g2
end
end L2
namespace L2
open PySem PySem.W PySem.Spec PyProof.Rows
def yF (a b:Int×Str):Bool:=decide (a.1 < b.1)||(a.1==b.1&&decide (a.2.cps.toList < b.2.cps.toList))
theorem mE {a b:Int×Str}:yF a b=true↔a.1 < b.1∨(a.1=b.1/\a.2.cps.toList < b.2.cps.toList):=by
 unfold yF
 simp[Tg,Wb]
theorem zPq (a:List Nat):¬a < a:=List.lt_irrefl a
theorem zPC {a b c:List Nat}(h1:a < b)(h2:b < c):a < c:=List.lt_trans h1 h2
theorem zPG {a b c:List Nat}(h:a < c):a < b∨b < c:=by
 rcases Classical.em (a < b) with q | q
 · exact .inl q
 · exact .inr (List.lt_of_le_of_lt (List.not_lt.mp q) h)
theorem zP1 {a b:List Nat}(h1:¬a < b)(h2:¬b < a):a=b:=List.le_antisymm (List.not_lt.mp h2) (List.not_lt.mp h1)
theorem wS (a:Int×Str):yF a a=false:=by
 cases h:yF a a
 · rfl
 · rw[mE] at h
   rcases h with h | h
   · lia
   · exact absurd h.2 (zPq _)
theorem zZp {a b c:Int×Str}(h1:yF a b=true)(h2:yF b c=true):yF a c=true:=by
 rw[mE] at *
 rcases h1 with h1 | h1<;>rcases h2 with h2 | h2
 · exact .inl (by lia)
 · exact .inl (by lia)
 · exact .inl (by lia)
 · exact .inr ⟨by lia,zPC h1.2 h2.2⟩
theorem zX7 {a b c:Int×Str}(h:yF a c=true):yF a b=true∨yF b c=true:=by
 simp only[mE] at *
 rcases Int.lt_trichotomy a.1 b.1 with q | q | q
 · exact .inl (.inl q)
 · rcases h with h | h
   · exact .inr (.inl (by lia))
   · rcases zPG (b:=b.2.cps.toList) h.2 with z | z
     · exact .inl (.inr ⟨q,z⟩)
     · exact .inr (.inr ⟨by lia,z⟩)
 · rcases h with h | h
   · exact .inr (.inl (by lia))
   · exact .inr (.inl (by lia))
theorem zVK {a b:Int×Str}(h1:yF a b=false)(h2:yF b a=false):a=b:=by
 have q1:¬(a.1 < b.1∨(a.1=b.1/\a.2.cps.toList < b.2.cps.toList)):=fun z=>by rw[mE.mpr z] at h1;cases h1
 have q2:¬(b.1 < a.1∨(b.1=a.1/\b.2.cps.toList < a.2.cps.toList)):=fun z=>by rw[mE.mpr z] at h2;cases h2
 have e:a.1=b.1:=by lia
 have e2:a.2.cps.toList=b.2.cps.toList:=zP1 (fun z=>q1 (.inr ⟨e,z⟩)) fun z=>q2 (.inr ⟨e.symm,z⟩)
 obtain⟨a1,⟨a2⟩⟩:=a
 obtain⟨b1,⟨b2⟩⟩:=b
 have e3:a2=b2:=Ev.mp e2
 cases e;cases e3;rfl
theorem zY8 (f:Nat->Int×Str):SWO fun i j=>yF (f i) (f j):=⟨fun a=>wS _,fun a b c=>zZp,fun a b c=>zX7⟩
abbrev isZ:Int×Str:=(0,⟨#[]⟩)
abbrev ltP (ps:List (Int×Str))(i j:Nat):Bool:=yF (ps.getD i isZ) (ps.getD j isZ)
def jD (ps:List (Int×Str)):List Nat:=wU (ltP ps) ps.length
theorem rG (ps:List (Int×Str)):(jD ps).Perm (List.range ps.length):=sW _ _
def oO (ps:List (Int×Str)):List (Int×Str):=(jD ps).map fun i=>ps.getD i isZ
theorem zXL (ps:List (Int×Str)):(oO ps).Perm ps:=by
 unfold oO
 refine((rG ps).map _).trans ?_
 rw[tY]
theorem zYc (ps:List (Int×Str)):(jD ps).Pairwise fun i j=>ltP ps j i=false :=
 (zZN (zY8 fun i=>ps.getD i isZ) ps.length).imp fun {a b} h=>Lx.le (zY8 fun i=>ps.getD i isZ) h
theorem kO (ps:List (Int×Str)):(oO ps).Pairwise fun a b=>yF b a=false:=by
 unfold oO
 rw[Em]
 exact zYc ps
def zWQ (h:Heap)(p:Int×Str)(u:Value):Prop:=∃a o n t t',u = .ref a/\h.get? a=some o/\o.cls = .type "tuple"/\o.data = .seq #[.int p.1 t,.str p.2 t'] n
theorem zSN {h:Heap}:∀ {ps:List (Int×Str)} {us:List Value},Paired (zWQ h) ps us->∃fs:List Value,KatTups h us fs/\fs.length=us.length/\∀v∈fs,∃i t,v=Value.int i t
 | _,_,.nil=>⟨[],KatTups.nil,rfl,fun _ h=>nomatch h⟩
 | _,_,.cons r t=>by
   obtain⟨a,o,n,t1,t2,rfl,e,c,d⟩:=r
   obtain⟨fs,q1,q2,q3⟩:=zSN t
   refine⟨_::fs,KatTups.cons e c d rfl q1,by simp[q2],fun v hv=>?_⟩
   rcases Qd.mp hv with rfl | hv
   · exact⟨_,_,rfl⟩
   · exact q3 v hv
section
variable {P:Program} {w:World} {A:Around} {s:Shared}
theorem zV0 {ps:List (Int×Str)}{us:List Value}(hp:Paired (zWQ s.heap) ps us)(h2:2<=us.length):∃κ,(∀(E':Value->Shared->Prop) Q,Q κ s->wpAny (model P w) A (keyKind' us.toArray) Q E' s) /\
   ∀i j C,i < us.length->j < us.length->C (ltP ps i j) s->kas_ask P w A κ us i j C s:=by
 obtain⟨fs,q1,q2,q3⟩:=zSN hp
 have hl:ps.length=us.length:=Ek hp
 refine⟨tuples' ((Value.type "int") != Value.type "tuple"),fun E' Q' hQ=>kat_kind q1 (by lia) (fun v hv=>?_) rfl hQ,fun i j C hi hj hC=>?_⟩
 · obtain⟨n,t,rfl⟩:=q3 v hv
   exact Looks.of_pure rfl
 · obtain⟨a,o,n,t1,t2,ea,e,c,d⟩:=sN (i:=i) (da:=isZ) (db:=Value.none) hp (by lia)
   obtain⟨b,o',n',t3,t4,eb,e',c',d'⟩:=sN (i:=j) (da:=isZ) (db:=Value.none) hp (by lia)
   have hC:C (yF (ps.getD i isZ) (ps.getD j isZ)) s:=hC
   generalize ps.getD i isZ=x at *
   generalize ps.getD j isZ=y at *
   unfold kas_ask
   rw[ea,eb]
   refine kat_lt e d e' d' ?_
   show KatLex _ _ _ _ _ _ [(Value.int x.1 t1,Value.int y.1 t3),(Value.str x.2 t2,Value.str y.2 t4)] 0 _
   refine kat_cons (Oe ?_)
   by_cases h1:x.1=y.1
   · have e1:(x.1==y.1)=true:=by simp[h1]
     rw[e1]
     refine kat_yes (kat_cons (Ot ?_))
     by_cases h3:x.2=y.2
     · have e2:decide (x.2=y.2)=true:=by simp[h3]
       rw[e2]
       refine kat_yes (kat_nil ?_)
       have e3:x=y:=Prod.ext h1 h3
       rw[e3,wS] at hC
       simpa using hC
     · have e2:decide (x.2=y.2)=false:=by simp[h3]
       rw[e2]
       refine kat_no ?_
       refine kat_one _ _ (lt_str ?_)
       have e3:yF x y=decide (x.2.cps.toList < y.2.cps.toList):=by unfold yF;simp[h1]
       rw[e3] at hC
       exact hC
   · have e1:(x.1==y.1)=false:=by simp[h1]
     rw[e1]
     refine kat_no ?_
     refine oneLt_int ?_
     have e3:yF x y=decide (x.1 < y.1):=by unfold yF;simp[h1]
     rw[e3] at hC
     exact hC
abbrev isK (p:Int×Str):List Key:=[.inl p.1,.inr p.2]
variable {X:Cx} {pins:List (Addr×Obj)} {σ:St} {H:Hp}
theorem zQV {h':Heap}(I:Inv X pins σ H s)(k:∀b o,s.heap.get? b=some o->h'.get? b=some o){p:Int×Str}{b:Addr}(e:SqT X.K H b [.int p.1,.str p.2]):zWQ h' p (.ref b):=by
 obtain⟨its,rv,⟨o,e,c,n,d⟩,_⟩:=I.tuple e
 obtain⟨u1,r1,e1,r2⟩:∃u1 r1,its=u1::r1/\RelV (.int p.1) u1/\Vals [.str p.2] r1:=by cases rv with | cons x y=>exact⟨_,_,rfl,x,y⟩
 obtain⟨u2,e2,r3⟩:∃u2,r1=[u2]/\RelV (.str p.2) u2:=by cases r2.2 with | cons x y=>cases y;exact⟨_,rfl,x⟩
 obtain⟨t,rfl⟩:=r2.1
 obtain⟨t',rfl⟩:=r3
 subst e1;subst e2
 exact⟨b,o,n,t,t',rfl,k _ _ e,c,d⟩
theorem zW8 (hc:X.calm=true):CallR X (.builtin "sorted") (fun xs H Q=>∃(q:Addr) (kvs:List (List Key×V)) (ps:List (Int×Str)),xs=[V.ref q]/\H q=some (.dT kvs)/\kvs.map (·.1)=ps.map isK/\ps.length<=1000 /\
   ∀l (bs:List Addr),H l=none->Paired (fun p b=>H b=some (.tup [.int p.1,.str p.2])) ps bs->Q (.ref l) (upd H l (.lst ((jD ps).map fun i=>.ref (bs.getD i 0))))):=by
 intro pins s σ H xs us Q I r h
 obtain⟨q,kvs,ps,rfl,hq,hk,h64,k⟩:=h
 obtain⟨u,rfl,ru⟩:=eU r
 cases ru
 obtain⟨z,hd,xs,rel,dd⟩:=zZL I.hok hq
 obtain⟨o,es,ep,ho,hx,hdat,he,his,hn⟩:=dd
 have hb:Paired (fun p b=>H b=some (.tup [.int p.1,.str p.2])) ps (xs.map (·.2.1)):=by
   clear ho hx hdat he his hn hq z k h64
   induction rel generalizing ps with
   | nil =>
     cases ps with
     | nil=>exact .nil
     | cons _ _=>cases hk
   | @cons p x ps' xs' h t ih =>
     cases ps with
     | nil=>cases hk
     | cons y r =>
       rw[Ql,Ql] at hk
       injection hk with hk1 hk2
       refine .cons ?_ (ih r hk2)
       have:=h.2.1
       rw[hk1] at this
       exact this
 have hl:(xs.map (·.2.1)).length=ps.length:=(Ek hb).symm
 have hz:es.size=ps.length:=by rw[Ol he,←hl];simp
 have hkeys:es.toList.map (·.key)=(xs.map (·.2.1)).map Value.ref:=by rw[he,Rp,Rp];rfl
 have hat:∀h':Heap,(∀b o,s.heap.get? b=some o->h'.get? b=some o)->Paired (zWQ h') ps ((xs.map (·.2.1)).map Value.ref):=by
   intro h' kp
   clear hl hz hkeys k hk h64
   generalize xs.map (·.2.1)=bs at hb
   induction hb with
   | nil=>exact .nil
   | cons h t ih=>exact .cons (zQV I kp (.inl (.inl h))) ih
 refine zVs (lt:=ltP ps) (zY8 fun i=>ps.getD i isZ) (I.ok.hd hc) ⟨o,ho,hx,hdat⟩ hd (by lia) (fun h2 h' tk kp=>?_) fun h1 h' tk n k1 k2 hn'=>?_
 · have:=zV0 (P:=X.prog) (w:=X.w) (A:=X.A.in1.in1) (s:={ s with heap:=h',toks:=tk }) (hat h' kp) (by rw[Qu,hl,←hz];exact h2)
   rw[hkeys,hz]
   rw[Qu,hl] at this
   exact this
 · have I1:Inv X pins σ H { s with heap:=h1,toks:=tk }:=I.kept k1
   have fr:H h1.objs.size=none:=I1.hok.fresh (Qp _)
   rw[hkeys,hz] at hn'
   have hpm:=rG ps
   have vals:Vals ((jD ps).map fun i=>V.ref ((xs.map (·.2.1)).getD i 0)) ((wU (ltP ps) ps.length).map fun i=>((xs.map (·.2.1)).map Value.ref).getD i Value.none):=by
     show Vals ((jD ps).map _) ((jD ps).map _)
     generalize xs.map (·.2.1)=bs at hl
     have key:∀l:List Nat,(∀i∈l,i < bs.length)->Vals (l.map fun i=>V.ref (bs.getD i 0)) (l.map fun i=>(bs.map Value.ref).getD i Value.none):=by
       intro l
       induction l with
       | nil=>intro _;exact .nil
       | cons i r ih =>
         intro hh
         refine .cons ?_ (ih fun j hj=>hh j (by simp[hj]))
         have hi:i < bs.length:=hh i (by simp)
         show(bs.map Value.ref).getD i Value.none=Value.ref (bs.getD i 0)
         simp[hi]
     exact key _ fun i hi=>by rw[hl];simpa using hpm.subset hi
   have I2:=I1.laid (t':=tk) (h':=h') (a:=h1.objs.size) (o:=.lst ((jD ps).map fun i=>V.ref ((xs.map (·.2.1)).getD i 0))) k2 (Qp _)
     ⟨by rw[Qu,hpm.length_eq,Rq];exact Wx (wV (by show ps.length<=100000;lia)),_,n,vals,by simpa [seqObj] using hn'⟩
   exact⟨.ref _,_,I2,rfl,k _ _ fr hb⟩
end
def dIS (p:Int×Str):D:=.tup [.int p.1,.str p.2]
def zQE:List Key->Option (Int×Str) | [.inl i,.inr z]=>some (i,z) | _=>none
def fG:List (List Key)->Option (List (Int×Str))
 | []=>some []
 | k::r=>(zQE k).bind fun p=>(fG r).map (p::·)
theorem zSf {k:List Key}{p:Int×Str}(h:zQE k=some p):k=isK p:=by
 unfold zQE at h
 split at h
 · cases h;rfl
 · cases h
theorem zXN:∀ {ks:List (List Key)} {ps:List (Int×Str)},fG ks=some ps->ks=ps.map isK
 | [],_,h=>by cases h;rfl
 | k::r,ps,h=>by
   unfold fG at h
   obtain⟨p,h1,h⟩:=Qq.mp h
   obtain⟨qs,h2,rfl⟩:=Qt.mp h
   rw[zSf h1,zXN h2];rfl
theorem zZK:∀ps:List (Int×Str),fG (ps.map isK)=some ps
 | []=>rfl
 | p::r=>by
   have:=zZK r
   simp only[Ql,fG,this]
   rfl
theorem zXu {G H:Hp}(s:Same G H):∀ {ps:List (Int×Str)} {bs:List Addr},Paired (fun p b=>H b=some (.tup [.int p.1,.str p.2])) ps bs->∃G',Step G H G' H/\Paired (fun p b=>G' b=some (.tup [.int p.1,.str p.2])) ps bs
 | _,_,.nil=>⟨G,.refl s,.nil⟩
 | _,_,.cons h t=>by
   obtain⟨G1,s1,r1⟩:=zXu s t
   have s2:=Step.adopt s1.sub h
   exact⟨_,s1.trans s2,.cons zO (Paired.mapP r1 fun p b e=>s2.gg _ _ e)⟩
def zZx (fd:Ef):Lf:=fun ρ=>(fd ρ).bind fun d=>match d with | .dct ks _=>(fG ks).bind fun ps=>if ps.length<=1000 then some ((oO ps).map dIS) else none | _=>none
section
variable {X:Cx} {a:Expr} {fa:Ef} {p pos:Pos}
theorem zS6 {α β:Type}:∀ {ks:List α} {vs:List β},ks.length=vs.length->(ks.zip vs).map (·.1)=ks:=fun h=>List.map_fst_zip (by lia)
theorem zTd (hc:X.calm=true)(hg:Gl X "sorted")(hm:X.mg "sorted"=none)(h:PF X a fa)(hs:starEach [a] X.env=[(false,eval a X.env)]:=by rfl):PFr X (.Call (.Name "sorted" p) [a] [] pos) (zZx fa):=by
 refine PE.toR (sX (zW8 hc) hg hm (by rfl) (yK h wI (by rw[hs];rfl)) (by decide) (by decide) (by rw[hs];rfl) (by rfl)) ?_
 rintro σ H Q ⟨G0,H0,G,ρ,ds',good,hf,k⟩
 unfold zZx at hf
 obtain⟨d,h1,hf⟩:=Qq.mp hf
 cases d with
 | dct ks ds =>
   obtain⟨ps,h2,hf⟩:=Qq.mp (show(fG ks).bind _=some ds' from hf)
   split at hf
   · rename_i h64
     cases hf
     refine⟨G0,H0,G,ρ,_,good,h1,fun v H1 G1 s1 r1=>?_⟩
     obtain⟨q,vs,rfl,e1,e2,e3,e4⟩:=zYT s1.sub r1
     have ek:=zXN h2
     refine⟨q,_,ps,rfl,e1,by rw[zS6 (by rw[e2,e3.length]),ek],h64,fun l bs hl hb=>?_⟩
     obtain⟨G2,s2,r2⟩:=zXu s1.sub hb
     have st:=s1.trans s2
     refine k l _ _ G2 (st.trans (Step.own st.sub hl)) (s1.hh.free hl) zO (st.sub.free hl) ?_
     unfold oO
     rw[Rp]
     have hp:=rG ps
     have hbl:ps.length=bs.length:=Ek hb
     have key:∀l:List Nat,(∀i∈l,i < ps.length)->Reps X.K G2 (l.map (dIS ∘ fun i=>ps.getD i isZ)) (l.map fun i=>V.ref (bs.getD i 0)):=by
       intro l
       induction l with
       | nil=>intro _;exact zK.mpr rfl
       | cons i r ih =>
         intro hh
         refine zQ.mpr ⟨_,_,rfl,?_,ih fun j hj=>hh j (by simp[hj])⟩
         have:=sN (i:=i) (da:=isZ) (db:=0) r2 (hh i (by simp))
         exact xS.mpr ⟨_,_,rfl,.inl (.inl this),zQ.mpr ⟨_,_,rfl,zJ.mpr rfl,zQ.mpr ⟨_,_,rfl,xR.mpr rfl,zK.mpr rfl⟩⟩⟩
     exact key _ fun i hi=>by simpa using hp.subset hi
   · cases hf
 | _=>cases hf
end
end L2
namespace L2
open PySem PySem.W PySem.Spec PyProof.Rows
def zVc:D->Option (Int×Str) | .tup [.int i,.str z]=>some (i,z) | _=>none
theorem zZh {d:D}{p:Int×Str}(h:zVc d=some p):d=dIS p:=by
 unfold zVc at h
 split at h
 · cases h;rfl
 · cases h
def bU (f:List D->Option D):List D->Option (List (Int×Str))
 | []=>some []
 | d::r=>((f [d]).bind zVc).bind fun p=>(bU f r).map (p::·)
theorem zZI {f:List D->Option D}:∀ {ds:List D} {ps:List (Int×Str)},bU f ds=some ps->ps.length=ds.length
 | [],_,h=>by cases h;rfl
 | d::r,ps,h=>by
   unfold bU at h
   obtain⟨p,h1,h⟩:=Qq.mp h
   obtain⟨qs,h2,rfl⟩:=Qt.mp h
   rw[Qs,Qs,zZI h2]
theorem zXx {f:List D->Option D}:∀ {ds:List D} {ps:List (Int×Str)} {i:Nat} {d:D},bU f ds=some ps->ds[i]?=some d->∃p,ps[i]?=some p/\f [d]=some (dIS p)
 | [],_,_,_,_,e=>by simp at e
 | d::r,ps,i,d',h,e=>by
   unfold bU at h
   obtain⟨p,h1,h⟩:=Qq.mp h
   obtain⟨qs,h2,rfl⟩:=Qt.mp h
   obtain⟨x,h3,h4⟩:=Qq.mp h1
   cases i with
   | zero=>cases e;exact⟨p,rfl,by rw[h3,zZh h4]⟩
   | succ i=>exact zXx (i:=i) h2 (by simpa using e)
def dF (f:List D->Option D)(g:Lf):Lf:=fun ρ=>(g ρ).bind fun ds=>(bU f ds).bind fun ps=>if ps.length<=1000 then some ((jD ps).map fun i=>ds.getD i .non) else none
theorem Vals.at {x:Value}:∀ {vs:List V} {us:List Value} {i:Nat},Vals vs us->us[i]?=some x->∃v,vs[i]?=some v/\RelV v x
 | _,_,_,.nil,e=>by simp at e
 | _,_,0,.cons r _,e=>by cases e;exact⟨_,rfl,r⟩
 | _,_,i+1,.cons _ t,e=>Vals.at (i:=i) t (by simpa using e)
theorem Reps.at {K:PySem.W.Frag}{G:Hp}{v:V}:∀ {ds:List D} {vs:List V} {i:Nat},Reps K G ds vs->vs[i]?=some v->∃d,ds[i]?=some d/\Rep K G d v
 | [],vs,i,h,e=>by rw[zK] at h;subst h;simp at e
 | d::ds,vs,i,h,e=>by
   obtain⟨v',vr,rfl,r1,r2⟩:=zQ.mp h
   cases i with
   | zero=>cases e;exact⟨d,rfl,r1⟩
   | succ i=>exact Reps.at (i:=i) r2 (by simpa using e)
theorem zZo {X:Cx}{pins:List (Addr×Obj)}{σ:St}{G H:Hp}{s:Shared}(I:Inv X pins σ H s)(sub:Same G H):∀ {ps:List (Int×Str)} {vs:List V} {us:List Value},Reps X.K G (ps.map dIS) vs->Vals vs us->Paired (zWQ s.heap) ps us
 | [],vs,us,h,r=>by rw[List.map_nil,zK] at h;subst h;cases r;exact .nil
 | p::ps,vs,us,h,r=>by
   rw[Ql] at h
   obtain⟨v',vr,rfl,r1,r2⟩:=zQ.mp h
   cases r with
   | cons w1 w2 =>
     refine .cons ?_ (zZo I sub r2 w2)
     obtain⟨b,us',rfl,q1,q2⟩:=xS.mp r1
     cases w1
     obtain⟨_,_,rfl,a1,a2⟩:=zQ.mp q2
     obtain⟨_,_,rfl,a3,a4⟩:=zQ.mp a2
     rw[zK] at a4;subst a4
     rw[zJ] at a1;rw[xR] at a3
     subst a1 a3
     exact zQV I (fun _ _ e=>e) (sub.tup q1)
section
variable {X:Cx} {a:Expr} {ga:Lf} {p p1 pos kp:Pos} {x y:Str} {st:Stmt} {j k:Nat} {fD:List D->Option D}
theorem zSK {t:FnT X.K X.mg x st [y]}(F:FnOk X.prog X.w X.K X.mg X.base CX0 j t.f t.fd [y] (spF X.K 1 fD))(hr:Room k X.A)(hg:Gl X "sorted")(hm:X.mg "sorted"=none)(h:zYd X a ga)(hj:j+2<=k:=by lia)(hgx:Gl X x:=by rfl)(hdb:(x==("__debug__":Str))=false:=by decide)
   (hs:starEach [a] X.env=[(false,eval a X.env)]:=by rfl):PFr X (.Call (.Name "sorted" p) [a] [⟨some "key",.Name x p1,kp⟩] pos) (dF fD ga):=by
 intro pins s σ H Q I h0
 obtain⟨G0,H0,G,ρ,ds',good,hf,K⟩:=h0
 unfold dF at hf
 obtain⟨ds,f1,hf⟩:=Qq.mp hf
 obtain⟨ps,f2,hf⟩:=Qq.mp hf
 split at hf
 case isFalse=>cases hf
 rename_i h64
 cases hf
 have hlen:=zZI f2
 refine Rz (mQ I hg hm (u:=.builtin "sorted") (by rfl) ?_ (by decide) (by decide))
 refine callWith_kw ?_ (by first | rfl | (rw[hs];rfl)) (by first | rfl | (rw[hs];rfl)) (by first | rfl | (rw[hs];rfl)) (by first | rfl | (rw[hs];rfl))
 refine spliced_more (thn (h pins s σ H (fun v H1=>∃r vs G1,v = .ref r/\Step G H G1 H1/\SqL X.K G1 r vs/\Reps X.K G1 ds vs) I ?_) fun u s1 ⟨v,H1,I1,rv,r,vs,G1,e,st1,hr1,rs1⟩=>?_) (by rw[hs];rfl)
 · exact⟨G0,H0,G,ρ,ds,good,f1,fun r vs H1 G1 s1 q1 q2=>⟨r,vs,G1,rfl,s1,q1,q2⟩⟩
 subst e
 cases rv
 refine spliced_none ?_
 refine kws_cons (zYB I1 hgx t.m ?_ hdb)
 refine kws_nil ?_
 obtain⟨its,rvl,pl,hz⟩:=I1.list (st1.sub.seq hr1)
 have hvl:vs.length=its.length:=rvl.length
 have hdl:ds.length=vs.length:=rs1.length
 refine zYE (lt:=ltP ps) (zY8 fun i=>ps.getD i isZ) (fun m ws H'=>∃G' kvs,Step G1 H1 G' H'/\Reps X.K G' ((ps.take m).map dIS) kvs/\Vals kvs ws) pl.isList (by lia) I1 ⟨G1,[],.refl st1.sub,by rw[Ob];exact zK.mpr rfl,.nil⟩ ?step ?asks ?fin
 case step =>
   intro m x' ws H' s' pins' hx hJ I'
   obtain⟨G',kvs,st,rk,iw⟩:=hJ
   obtain⟨v,ev,rvx⟩:=rvl.at hx
   obtain⟨d,ed,rd⟩:=rs1.at ev
   obtain⟨q,eq,fq⟩:=zXx f2 ed
   have hb:=t.b s' [x'] I'.kIn rfl
   refine wpAny_call (Ut (F.run X.A.in1.in1 X.stack s' H' ⟨[x'],[]⟩ [x'] [v] (fun v' H''=>∃G'',Step G' H' G'' H''/\Rep X.K G'' (dIS q) v') E0 ((hr.mono hj).in1.in1) I'.env0.in1.in1 (by simpa using hb) (.cons rvx .nil) ?_) fun r s'' hq=>?_)
   · exact⟨G',[d],dIS q,st.sub,zQ.mpr ⟨v,[],rfl,rd.mono st.gg,zK.mpr rfl⟩,rfl,fq,fun v' H'' G'' s'' r=>⟨G'',s'',r⟩⟩
   · cases r with
     | error e=>exact False.elim hq
     | ok fl =>
       cases fl with
       | ret u =>
         obtain⟨v',H'',I'',rv',G'',st'',rp⟩:=I'.after hq
         refine⟨H'',I'',G'',kvs++[v'],st.trans st'',?_,zZT iw rv'⟩
         rw[List.take_succ,eq,Tu]
         exact(rk.mono st''.gg).append (zQ.mpr ⟨v',[],rfl,rp,zK.mpr rfl⟩)
       | next=>exact False.elim hq
       | brk=>exact False.elim hq
       | cont=>exact False.elim hq
 case asks =>
   intro ws H' s' pins' hJ hw I' h2
   obtain⟨G',kvs,st,rk,iw⟩:=hJ
   rw[Ed (by lia)] at rk
   have:=zV0 (P:=X.prog) (w:=X.w) (A:=X.A.in1.in1) (zZo I' st.sub rk iw) (by lia)
   rw[hw] at this
   exact this
 case fin =>
   intro ws H' D s' hJ hD hI
   obtain⟨G',kvs,st,rk,iw⟩:=hJ
   have stp:Step G H G' H':=st1.trans st
   have hpm:=rG ps
   have en:its.length=ps.length:=by lia
   rw[en] at hI
   have vals:Vals ((jD ps).map fun i=>vs.getD i .non) ((jD ps).map fun i=>its.getD i Value.none):=by
     have key:∀l:List Nat,(∀i∈l,i < vs.length)->Vals (l.map fun i=>vs.getD i .non) (l.map fun i=>its.getD i Value.none):=by
       intro l
       induction l with
       | nil=>intro _;exact .nil
       | cons i r ih=>intro hh;exact .cons (sN rvl (hh i (by simp))) (ih fun j hj=>hh j (by simp[hj]))
     exact key _ fun i hi=>(by have:i < ps.length:=(by simpa using hpm.subset hi);lia)
   refine⟨.ref D,_,hI (.lst ((jD ps).map fun i=>vs.getD i .non)) fun h' ⟨c3,e3⟩=>?_,rfl,?_⟩
   · refine⟨?_,_,c3,vals,e3⟩
     rw[Qu,hpm.length_eq,Rq]
     exact Wx (wV (by show ps.length<=100000;lia))
   · refine K D _ _ G' (stp.trans (Step.own stp.sub hD)) (stp.hh.free hD) zO (stp.sub.free hD) ?_
     have rs:=rs1.mono st.gg
     have key:∀l:List Nat,(∀i∈l,i < vs.length)->Reps X.K G' (l.map fun i=>ds.getD i .non) (l.map fun i=>vs.getD i .non):=by
       intro l
       induction l with
       | nil=>intro _;exact zK.mpr rfl
       | cons i r ih =>
         intro hh
         have hi:i < vs.length:=hh i (by simp)
         obtain⟨d,ed,rd⟩:=rs.at (i:=i) (v:=vs[i]) (by simp[hi])
         refine zQ.mpr ⟨_,_,rfl,?_,ih fun j hj=>hh j (by simp[hj])⟩
         show Rep X.K G' (ds.getD i .non) (vs.getD i .non)
         rw[Wf,Wf,ed]
         simpa [hi] using rd
     exact key _ fun i hi=>(by have:i < ps.length:=(by simpa using hpm.subset hi);lia)
end
end L2
namespace L2
open PySem PySem.W PySem.Spec PyProof.Rows
section
variable {prog:Program} {w:World} {A:Around} {E:Value->Shared->Prop} {s:Shared}
theorem zST {x y:Int×Str}{u v:Value}{Q:Value->Shared->Prop}(hu:A.units < cLine)(ha:zWQ s.heap x u)(hb:zWQ s.heap y v)(h:Q (.bool (!yF y x)) s):wpAny (model prog w) A (richCompare .LtE u v) Q E s:=by
 obtain⟨a,o,n,t1,t2,rfl,e1,c1,d1⟩:=ha
 obtain⟨b,o',n',t3,t4,rfl,e2,c2,d2⟩:=hb
 have ta:s.TypeIs (.ref a) "tuple":=⟨o,e1,c1⟩
 have tb:s.TypeIs (.ref b) "tuple":=⟨o',e2,c2⟩
 refine wpAny_richCompare_same_room ta tb PySem.F.slot_tuple_le (Ru PySem.F.slot_tuple_le ta PySem.F.entry_tuple_le ?_ (PySem.F.args_tuple_le_2 _ _)) hu
 show wpAny _ _ (isInstance (.ref b) (.type "tuple") >>= _) _ _ s
 refine Qe (wpAny_isInstance tb isSubtype_tuple_tuple ?_)
 simp only[Bool.not_true,Wd,Rj]
 refine Qe (wpAny_tupleItemsOf e1 d1 ?_)
 refine Qe (wpAny_tupleItemsOf e2 d2 ?_)
 dsimp only[List.zip,List.zipWith]
 simp only[List.forIn_cons,List.forIn_nil]
 refine Qe (Qe (Qe (Oe ?_)))
 by_cases h1:x.1=y.1
 · have q1:(x.1==y.1)=true:=by simp[h1]
   rw[q1]
   simp only[Bool.not_true,Wd,Rj]
   refine Qx (Qe (Qe (Ot ?_)))
   by_cases h2:x.2=y.2
   · have q2:decide (x.2=y.2)=true:=by simp[h2]
     rw[q2]
     simp only[Bool.not_true,Wd,Rj]
     refine Qx (Qx (Qx ⟨_,rfl,(fun e=>nomatch e),?_⟩))
     have e3:y=x:=Prod.ext h1.symm h2.symm
     rw[e3,wS] at h
     exact h
   · have q2:decide (x.2=y.2)=false:=by simp[h2]
     rw[q2]
     simp only[Bool.not_false,Uu]
     have e3:yF y x=decide (y.2.cps.toList < x.2.cps.toList):=by unfold yF;simp[h1]
     rw[e3] at h
     refine Qe (Ts (Qe (PySem.P.le_str ?_)))
     exact Qx (Qx (Qx ⟨_,rfl,(fun e=>nomatch e),h⟩))
 · have q1:(x.1==y.1)=false:=by simp[h1]
   rw[q1]
   simp only[Bool.not_false,Uu]
   have e3:(!yF y x)=decide (x.1<=y.1):=by
     unfold yF
     have:(y.1==x.1)=false:=by simp;lia
     rw[this,Ov,Bool.or_false]
     by_cases h3:y.1 < x.1
     · simp[h3]
     · simp[h3];lia
   rw[e3] at h
   refine Qe (Ts (Qe (le_int ?_)))
   exact Qx (Qx (Qx ⟨_,rfl,(fun e=>nomatch e),h⟩))
variable {X:Cx}
def zWa (x y:D):Option Bool:=(zVc x).bind fun a=>(zVc y).map fun b => !yF b a
theorem zRu {k:Nat}(hr:Room k X.A):CmR X .LtE zWa:=by
 refine⟨fun x y H Q=>∃p q G,Same G H/\Rep X.K G (dIS p) x/\Rep X.K G (dIS q) y/\Q (.bl (!yF q p)) H,?_,fun d d' k G H x y Q h s rx ry kk=>?_⟩
 · intro pins s σ H x y v u Q I rx ry ⟨p,q,G,sm,hx,hy,hQ⟩
   have pa:=zZo (ps:=[p]) (vs:=[x]) (us:=[v]) I sm (zQ.mpr ⟨_,_,rfl,hx,zK.mpr rfl⟩) (.cons rx .nil)
   have pb:=zZo (ps:=[q]) (vs:=[y]) (us:=[u]) I sm (zQ.mpr ⟨_,_,rfl,hy,zK.mpr rfl⟩) (.cons ry .nil)
   cases pa with
   | cons pa _ =>
     cases pb with
     | cons pb _=>exact zST hr.units0 pa pb ⟨.bl _,H,I,rfl,hQ⟩
 · unfold zWa at h
   obtain⟨p,h1,h⟩:=Qq.mp h
   obtain⟨q,h2,rfl⟩:=Qt.mp h
   rw[zZh h1] at rx
   rw[zZh h2] at ry
   exact⟨p,q,G,s,rx,ry,kk H G (.refl s)⟩
end
end L2
namespace L2
open PySem PySem.Spec PyProof.Rows
open PySem.Builtin PySem.Builtin.Str
section
def zSx (i:Nat)(g:Lf):Sf:=fun ρ=>(g ρ).bind fun es=>match ρ[i]? with | some (.ow ds)=>if ds.length+es.length<=lim then some (.nx (ρ.set i (.ow (ds++es)))) else none | _=>none
end
end L2
namespace L2
open PySem PySem.Spec PyProof.Rows
open PySem.Builtin PySem.Builtin.Str
section
variable {X:Cx} {c:Expr} {ga:Lf} {pos p:Pos}
theorem zWz (l:Addr)(items:Array Value)(n:Nat)(b:Addr)(items2:Array Value)(n2:Nat)(sl:_)(hc0:¬(!items.isEmpty&&Builtin.List.listTooLong (items.size+items2.size))=true)(hc1:items.size<=sizeLine)(hs2:items.size+items2.size<=sizeLine+1) :
   Meets (Builtin.«list.extend» ⟨[.ref l,.ref b],[]⟩) (fun _ R s=>s.heap.get? l=some { cls:=.type "list",dict:=none,data:=.seq items n,slots:=#[] }/\s.heap.get? b=some { cls:=.type "list",dict:=none,data:=.seq items2 n2,slots:=sl }/\R (.ok (.ret Value.none)) { s with heap:=s.heap.update l (Obj.mapSeq fun x=>x++items2),toks:=s.toks }) :=
 .of_wp fun prog w A R s h=>by
   obtain⟨hp,g,d,tk,os⟩:=s;obtain⟨hl,hb,h⟩:=h;have f1:=AutoSeq1.idx_int;have f2:=AutoSeq1.sub_tuple_tuple;have f3:=AutoSeq1.sub_list_list;have f4:=AutoSeq1.sub_tuple_list;have f5:=AutoSeq1.sub_list_tuple;
   have hz':(items++items2).size<=sizeLine+1:=by rw[Il];exact hs2
   wp_walk using (Ug hl rfl (hz:=hc1) (_hz':=hz')),AutoSeq1.wpAny_loadPart' hl,AutoSeq1.wpAny_loadPart' hb;exact⟨_,rfl,h⟩
def zQW (K:PySem.W.Frag):V->List V->Hp->VK->Prop:=fun x vs H Q=>∃l b xs zs,x = .ref l/\vs=[.ref b]/\H l=some (.lst xs)/\SqL K H b zs/\xs.length+zs.length<=sizeLine/\Q .non (upd H l (.lst (xs++zs)))
theorem zS4:MtM X "list.extend" (zQW X.K):=by
 intro pins s σ H x vs v us Q I rx rv h
 obtain⟨l,b,xs,zs,rfl,rfl,hH,hB,hz,q⟩:=h
 cases rx
 obtain⟨u,rfl,ru⟩:=rv.one
 cases ru
 obtain⟨z,its,n,r,hl,e⟩:=I.lstM hH
 obtain⟨its2,r2,⟨⟨cls,dd,data,sl⟩,n2,e2,hc,hd,ha⟩,z2⟩:=I.list hB
 simp only at hc hd ha
 subst hc hd ha
 have hl2:=r2.length
 have hsz:its.toArray.size+its2.toArray.size<=sizeLine:=by rw[Qo,Qo];lia
 have hlong:¬(!its.toArray.isEmpty&&Builtin.List.listTooLong (its.toArray.size+its2.toArray.size))=true:=by
   rw[zSD hsz,Bool.and_false]
   exact Wa
 refine call_meets F.slot_list_extend ⟨_,e,rfl⟩ F.entry_list_extend (F.args_list_extend_2 _ _)
   (zWz l its.toArray n b its2.toArray n2 sl hlong (by rw[Qo];lia) (by lia)) ⟨e,e2,?_⟩
 refine⟨.non,_,I.lset (its':=its++its2) hH e (by simp) (r.append r2) ?_,rfl,q⟩
 rw[Qr]
 lia
theorem zSs (i:Nat)(ht:PE X c (tBM X.K "list" (zQW X.K) (zSO i) (zVO (zQp X.K ga) zSV)))(hs:swapsWith c none pos.line X.env=pure false:=by rfl):PFS X (.Expr c pos) (zSx i ga):=by
 refine PS.to (nL ht hs) ?_
 rintro D σ H ⟨G0,H0,G,ρ,o,good,hf,k⟩
 unfold zSx at hf
 obtain⟨es,h1,hf⟩:=Qq.mp hf
 split at hf
 · rename_i ds hi
   split at hf
   · rename_i hl
     cases hf
     obtain⟨p,vs,e1,e2,e3,e4,e5⟩:=good.addr hi
     refine⟨.ref p,e1,.inl ⟨rfl,vs,.of e2⟩,G0,H0,G,ρ,es,good,h1,fun q ws H1 G1 s1 sq rs=>?_⟩
     have good1:=good.step s1
     obtain⟨p',vs',f1,f2,f3,f4,f5⟩:=good1.addr hi
     rw[e1] at f1;cases f1
     exact⟨p,q,vs',ws,rfl,rfl,f2,s1.sub.seq sq,by rw[←f5.length,←rs.length];exact Wx (wV hl),k σ _ G1 s1.gg (good1.wr hi e1 (f5.append rs))⟩
   · cases hf
 · cases hf
end
end L2
namespace L2
open PySem PySem.Spec PyProof.Rows
section
variable {prog:Program} {w:World} {A:Around} {E:Value->Shared->Prop} {s:Shared}
theorem aB (a d:Value):argsOk "max" ⟨[a],[("default",d)]⟩:=by unfold argsOk;kernel_rfl
theorem zS3 {l:Addr}{d:Value}{Q:Value->Shared->Prop}(hh:A.handled=none)(hl:s.heap.IsList l #[])(h:∀h' tk,(∀b o,s.heap.get? b=some o->h'.get? b=some o)->Q d { s with heap:=h',toks:=tk }) :
   wpAny (model prog w) A (call (.builtin "max") [.ref l] [("default",d)]) Q E s:=by
 have hname:(toString "max"++toString ".loop":String)="max.loop":=by decide
 refine nP F.kind_max F.plain_max F.entry_max (aB _ _) ?_
 show wpAny _ A.in1 (Builtin.Builtins.bindParams "max" ["key","default"] 0 ⟨[],[("default",d)]⟩ >>= _) _ _ s
 refine Qe (wpAny_of_eq (show Builtin.Builtins.bindParams "max" ["key","default"] 0 ⟨[],[("default",d)]⟩=pure [none,some d] from rfl) ?_)
 refine Qe (Qx ?_)
 refine Qe (Ih hl ?_)
 refine Qe (Yj ?_)
 rw[hname]
 have hne:l≠s.heap.objs.size:=by obtain⟨_,e,_⟩:=hl;exact Wh (Qg e)
 refine Qx ⟨Yi F.plain_max_loop _,Tz F.entry_max_loop ?_⟩
 rw[Rs F.plain_max_loop _]
 show wpAny _ A.in1 (seqItems? (.ref _) >>= _) _ _ _
 refine Qe (Ux (Wr _ rfl) rfl ?_)
 have W:=Walks.list (prog:=prog) (w:=w) (A:=A.in1) hh s.heap.objs.size l hne #[]
 refine Qe (Yh (W.done _ _ _ ⟨⟨_,Qy _ (Wr _ rfl),rfl,rfl⟩,(hl.push _).push _⟩ fun h' tk hk=>?_))
 refine Qe (Ts ?_)
 refine Qx (h h' tk fun b o e=>hk b o ?_ (Qy _ (Qy _ e)))
 intro hm
 rcases Qd.mp hm with z | z
 · exact absurd (z ▸ Qg e) (Wv _)
 · cases z
def wK (val:Nat->Int):Nat->Int
 | 0=>val 0
 | k+1=>if val (k+1) > wK val k then val (k+1) else wK val k
variable {R:Result->Shared->Prop} {I:Addr} {fp wr:List Addr} {n:Nat} {P:Nat->Value->Prop} {St:Nat->Heap->Prop}
theorem zR5 {a b:Int}{t u:Tok}{s:Shared}{Q:Value->Shared->Prop}{E:Value->Shared->Prop}(h:Q (.bool (decide (a > b))) s):wpAny (model prog w) A (richCompare .Gt (.int a t) (.int b u)) Q E s :=
 CmpOf.ints_gt (prog:=prog) (w:=w) (A:=A) (P:=fun i v=>∃t,v = .int (if i=0 then a else b) t) (fun i=>if i=0 then a else b) (fun _ _ h=>h) 0 1 _ _ s Q E ⟨t,rfl⟩ ⟨u,rfl⟩ h
theorem zVo (W:Walks prog w A.in1 I fp wr n P St)(val:Nat->Int)(hv:∀i v,P i v->∃t,v = .int (val i) t)(d:Value)(S:Addr)(hSf:S∉fp) :
   ∀(k j:Nat) (s:Shared) (t:Tok) (c:Nat),n - (j+1)=k->j+1<=n->St (j+1) s.heap ->
   s.heap.get? S=some { cls:=.type "list",dict:=none,data:=.seq #[.int (wK val j) t,.int (wK val j) t] c,slots:=#[] } ->
   (∀t' h' tk,(∀b o,b∉wr->b≠S->s.heap.get? b=some o->h'.get? b=some o)->R (.ok (.ret (.int (wK val (n - 1)) t'))) { s with heap:=h',toks:=tk }) ->
   codeAny (model prog w) A (.builtin "max.loop" ⟨[.ref I,.none,.ref S],[("default",d)]⟩) R s:=by
 have hSw:S∉wr:=fun h=>hSf (W.sub _ h)
 have hname:(toString "max"++toString ".loop":String)="max.loop":=by decide
 intro k
 induction k with
 | zero =>
   intro j s t c hk hj hst hS hR
   have hin:j+1=n:=by lia
   refine Tz F.entry_max_loop ?_
   rw[Rs F.plain_max_loop _]
   show wpAny _ A.in1 (seqItems? (.ref S) >>= _) _ _ s
   refine Qe (Ux hS rfl ?_)
   show wpAny _ A.in1 (tryCatch (pyNext (.ref I)) _ >>= _) _ _ s
   refine Qe (Yh (W.done s _ _ (hin ▸ hst) fun h' tk hk'=>?_))
   have hS':=hk' S _ hSw hS
   show wpAny _ A.in1 (updateSeq S (fun _=>#[]) >>= _) _ _ _
   refine Qe (Ug hS' rfl (Qe (Yl (Qx ?_))))
   rw[←hin] at hR
   exact hR t _ tk fun b o hbw hbS e=>(Rr _ _ (Ne.symm hbS)).trans (hk' b o hbw e)
 | succ k ih =>
   intro j s t c hk hj hst hS hR
   have hlt:j+1 < n:=by lia
   refine Tz F.entry_max_loop ?_
   rw[Rs F.plain_max_loop _]
   show wpAny _ A.in1 (seqItems? (.ref S) >>= _) _ _ s
   refine Qe (Ux hS rfl ?_)
   show wpAny _ A.in1 (tryCatch (pyNext (.ref I)) _ >>= _) _ _ s
   refine Qe (Yh (W.item (j+1) s _ _ hlt hst fun v h' tk hP hst' hk'=>?_))
   obtain⟨tv,rfl⟩:=hv _ _ hP
   have hS':=hk' S _ hSw hS
   show wpAny _ A.in1 (tryCatch (holding _ (richCompare .Gt _ _ >>= _)) _ >>= _) _ _ _
   refine Qe (Yh (En (Qe (zR5 ?_))))
   refine Qe (En (Ti ?_))
   refine Qe (Yl (Qx ?_))
   by_cases hb:val (j+1) > wK val j
   · rw[Qz hb]
     simp only[Uu]
     refine Qe (Ug hS' rfl (Qe (Yl ?_)))
     rw[hname]
     have em:wK val (j+1)=val (j+1):=by rw[wK,Qi hb]
     refine Qx ⟨Yi F.plain_max_loop _,ih (j+1) _ tv _ (by lia) hlt (W.frame _ _ _ hst' fun b hbf o e=>?_) (by rw[em];exact Te _ hS' rfl) fun t' h'' tk'' hk''=>?_⟩
     · exact(Rr _ _ (fun h:S=b=>hSf (by rw[h];exact hbf))).trans e
     · exact hR t' h'' tk'' fun b o hbw hbS e=>hk'' b o hbw hbS ((Rr _ _ (Ne.symm hbS)).trans (hk' b o hbw e))
   · rw[Ww hb]
     simp only[Wd,Rj]
     refine Qe (Yl ?_)
     rw[hname]
     have em:wK val (j+1)=wK val j:=by rw[wK,Qa hb]
     exact Qx ⟨Yi F.plain_max_loop _,ih (j+1) _ t c (by lia) hlt hst' (by rw[em];exact hS') fun t' h'' tk'' hk''=>hR t' h'' tk'' fun b o hbw hbS e=>hk'' b o hbw hbS (hk' b o hbw e)⟩
theorem zTz {l:Addr}{d:Value}{xs:Array (Int×Tok)}{Q:Value->Shared->Prop}(hh:A.handled=none)(hl:s.heap.IsList l (intItems xs))(hn:0 < xs.size)
   (h:∀t h' tk,(∀b o,s.heap.get? b=some o->h'.get? b=some o)->Q (.int (wK (numAt xs) (xs.size - 1)) t) { s with heap:=h',toks:=tk }) :
   wpAny (model prog w) A (call (.builtin "max") [.ref l] [("default",d)]) Q E s:=by
 have hname:(toString "max"++toString ".loop":String)="max.loop":=by decide
 refine nP F.kind_max F.plain_max F.entry_max (aB _ _) ?_
 show wpAny _ A.in1 (Builtin.Builtins.bindParams "max" ["key","default"] 0 ⟨[],[("default",d)]⟩ >>= _) _ _ s
 refine Qe (wpAny_of_eq (show Builtin.Builtins.bindParams "max" ["key","default"] 0 ⟨[],[("default",d)]⟩=pure [none,some d] from rfl) ?_)
 refine Qe (Qx ?_)
 refine Qe (Ih hl ?_)
 refine Qe (Yj ?_)
 rw[hname]
 have hne:l≠s.heap.objs.size:=by obtain⟨_,e,_⟩:=hl;exact Wh (Qg e)
 have hsz:(intItems xs).size=xs.size:=by simp[intItems]
 have W:=Walks.list (prog:=prog) (w:=w) (A:=A.in1) hh s.heap.objs.size l hne (intItems xs)
 have hll:l < s.heap.objs.size:=by obtain⟨_,e,_⟩:=hl;exact Qg e
 refine Qx ⟨Yi F.plain_max_loop _,Tz F.entry_max_loop ?_⟩
 rw[Rs F.plain_max_loop _]
 show wpAny _ A.in1 (seqItems? (.ref _) >>= _) _ _ _
 refine Qe (Ux (Wr _ rfl) rfl ?_)
 have hps:(s.heap.push { cls:=.type "list_iterator",data:=.fields #[.ref l,.int 0 0] }).objs.size=s.heap.objs.size+1:=Yg _ _
 refine Qe (Yh (W.item 0 _ _ _ (by rw[hsz];exact hn) ⟨⟨_,Qy _ (Wr _ rfl),rfl,rfl⟩,(hl.push _).push _⟩ fun v h' tk hP hst' hk'=>?_))
 obtain⟨tv,rfl⟩:=intItems_at hP
 have hSw:(s.heap.push { cls:=.type "list_iterator",data:=.fields #[.ref l,.int 0 0] }).objs.size∉[s.heap.objs.size]:=fun hm=>by
   rw[Wq] at hm;lia
 have hS':=hk' _ _ hSw (Wr _ rfl)
 show wpAny _ A.in1 (updateSeq _ (fun _=>#[.int (numAt xs 0) tv,.int (numAt xs 0) tv]) >>= _) _ _ _
 refine Qe ?_
 refine Ug hS' rfl ?_
 rw[hname]
 have hSf:(s.heap.push { cls:=.type "list_iterator",data:=.fields #[.ref l,.int 0 0] }).objs.size∉[s.heap.objs.size,l]:=fun hm=>by
   rcases Qd.mp hm with z | z
   · rw[hps] at z;exact Nat.succ_ne_self _ z
   · rw[Wq,hps] at z
     rw[←z] at hll
     exact absurd hll (Iv.mpr (Ya _))
 refine Qx ⟨Yi F.plain_max_loop _,zVo W (numAt xs) (fun i v h=>intItems_at h) d _ hSf _ 0 _ tv _ rfl (by rw[hsz];exact hn) (W.frame _ _ _ hst' fun b hbf o e=>?_) (Te _ hS' rfl) fun t' h'' tk'' hk''=>?_⟩
 · exact(Rr _ _ (fun z=>hSf (by rw[z];exact hbf))).trans e
 · rw[hsz]
   refine h t' h'' tk'' fun b o e=>?_
   have hlt:=Qg e
   have n1:b∉[s.heap.objs.size]:=fun hm=>by rw[Wq] at hm;rw[hm] at hlt;exact Wv _ hlt
   have n2:b≠(s.heap.push { cls:=.type "list_iterator",data:=.fields #[.ref l,.int 0 0] }).objs.size:=fun z=>by rw[hps] at z;rw[z] at hlt;exact absurd hlt (Iv.mpr (Ya _))
   exact hk'' b o n1 n2 ((Rr _ _ (Ne.symm n2)).trans (hk' b o n1 (Qy _ (Qy _ e))))
variable {X:Cx} {a:Expr} {ga:Lf} {pos p:Pos}
def mF (ns:List Int):Int:=wK (fun i=>ns.getD i 0) (ns.length - 1)
def zZR (g:Lf):Ef:=fun ρ=>(g ρ).bind fun ds=>(bG ds).bind fun ns=>if ns.isEmpty=true then some .non else some (.int (mF ns))
theorem zSb {kp:Pos}{j}{p2:Pos}(hc:X.calm=true)(hg:Gl X "max")(hm:X.mg "max"=none)(h:zYd X a ga)(hs:starEach [a] X.env=[(false,eval a X.env)]:=by rfl) :
   PF X (.Call (.Name "max" p) [a] [⟨some "default",.Constant .none j p2,kp⟩] pos) (zZR ga):=by
 refine PE.to (t:=fun σ H Q=>zQp X.K ga σ H fun v H1=>∃q ns,v = .ref q/\SqL X.K H1 q (ns.map V.int)/\Q (if ns.isEmpty=true then .non else .int (mF ns)) H1) ?_ ?_
 · intro pins s σ H Q I h0
   refine Rz (mQ I hg hm (u:=.builtin "max") (by rfl) ?_ (by decide) (by decide))
   refine callWith_kw ?_ (by rw[hs];rfl) (by rw[hs];rfl) (by rfl) (by rfl)
   refine spliced_more (thn (h pins s σ H _ I h0) fun u s1 ⟨v,H1,I1,rv,q,ns,e,sq,q1⟩=>?_) (by rw[hs];rfl)
   subst e
   cases rv
   refine spliced_none ?_
   refine kws_cons (thn (zTY (X:=X) (j:=j) (pos:=p2) pins s1 σ H1 _ I1 (show tC .non σ H1 (fun v H2=>v = .non/\H2=H1) from⟨rfl,rfl⟩)) fun u2 s2 ⟨v2,H2,I2,rv2,e2,e3⟩=>?_)
   subst e2 e3
   cases rv2
   refine kws_nil ?_
   obtain⟨its,rl,pl,_⟩:=I2.list sq
   cases ns with
   | nil =>
     cases rl
     exact zS3 (I2.ok.hd hc) pl.isList fun h' tk hk=>⟨.non,H2,I2.kept hk,rfl,q1⟩
   | cons x r =>
     obtain⟨ps,rfl,hps⟩:=gJ rl
     have hit:s2.heap.IsList q (intItems ps.toArray):=by
       have:=pl.isList
       unfold intItems
       rw[List.map_toArray]
       exact this
     have hlen:ps.length=r.length+1:=by
       have:=Ep List.length hps
       simpa using this
     have hnum:(fun i=>numAt ps.toArray i)=fun i=>(x::r).getD i 0:=by
       funext i
       rw[←hps]
       unfold numAt
       rw[Us,Wf,Ws]
     refine zTz (I2.ok.hd hc) hit (by simp[hlen]) fun t h' tk hk=>⟨.int _,H2,I2.kept hk,⟨t,rfl⟩,?_⟩
     have e:wK (numAt ps.toArray) (ps.toArray.size - 1)=mF (x::r):=by
       unfold mF
       rw[←hnum,Qo,hlen,Qs]
     rw[e]
     exact q1
 · rintro σ H Q ⟨G0,H0,G,ρ,d,good,hf,k⟩
   unfold zZR at hf
   obtain⟨ds,h1,hf⟩:=Qq.mp hf
   obtain⟨ns,h2,hf⟩:=Qq.mp hf
   refine⟨G0,H0,G,ρ,ds,good,h1,fun q vs H1 G1 s1 e1 r1=>⟨q,ns,rfl,by rw[←fO h2 r1];exact s1.sub.seq e1,?_⟩⟩
   split at hf
   · rename_i he
     cases hf
     rw[Qi he]
     exact k _ _ G1 s1 (nQ.mpr rfl)
   · rename_i he
     cases hf
     rw[Qa he]
     exact k _ _ G1 s1 (zJ.mpr rfl)
end
def zP5 (K:PySem.W.Frag)(C:Addr)(ns:List Str)(g:Lf):TS:=fun DD σ H=>∃(G0 H0 G:Hp) (ρ:List B) (p dx:Addr) (pre:List Str) (us:List V) (xs ds:List D),
 Good K G0 H0 G H σ ρ/\NoOw ρ/\σ[0]?=some (some (.ref p))/\H p=some (.ins C dx (pre.zip us))/\G p=none/\H0 p=none/\pre.length=us.length/\(pre++ns).Nodup/\(pre++ns).length<=900/\Reps K G xs us/\g ρ=some ds /\
 ∀σ' H' G' vs,Step G0 H0 G' H'->H' p=some (.ins C dx ((pre++ns).zip vs))->G' p=none->Reps K G' (xs++ds) vs->DD.nx σ' H'
section
variable {X:Cx} {e:Expr} {fa:Ef} {pos:Pos}
theorem zSB {ρ:List B}(h:NoOw ρ)(i:Nat)(d:D):NoOw (ρ.set i (.fz d)):=by
 have key:∀(j:Nat) (b:B),(∀d',b ≠ .fz d')->(ρ.set i (.fz d))[j]?=some b->ρ[j]?=some b:=fun j b hb e=>by
   by_cases hj:i=j
   · subst hj
     rw[Yq] at e
     split at e
     · split at e
       · exact absurd (Wg e).symm (hb d)
       · cases e
     · rename_i z;exact absurd rfl z
   · rwa[Qk hj] at e
 exact⟨fun j es z=>h.1 j es (key j _ (fun _ y=>nomatch y) z),fun j es z=>h.2.1 j es (key j _ (fun _ y=>nomatch y) z),fun j es z=>h.2.2 j es (key j _ (fun _ y=>nomatch y) z)⟩
theorem zRw (i:Nat){C:Addr}{y:Str}{ns:List Str}{g:Lf}{rest:List Stmt}{pos':Pos}(hN:X.N.Nodup)(he:PF X e fa)(hr:PSs X rest (zTF X.K C ns g))(hi0:0≠i:=by decide)(hi:X.N[i]?=some y:=by rfl)(hx:Loc X.env.scope y:=by first | exact .inl rfl | exact .inr rfl)
   (hs:swapsWith e (some (.Name y pos')) pos.line X.env=pure false:=by rfl) (hf:X.fn y=true∨X.env.scope.names.lookup y=some .local:=by first | exact .inl rfl | exact .inr rfl) :
   PSs X (.Assign [.Name y pos'] e pos::rest) (zP5 X.K C ns fun ρ=>(fa ρ).bind fun d=>g (ρ.set i (.fz d))):=by
 intro pins s σ H D I h
 refine w8 (mP hN hi hx he hs hf) hr pins s σ H D I ?_
 obtain⟨G0,H0,G,ρ,p,dx,pre,us,xs,ds,good,now,hself,hp,gp,h0,hl,nd,hz,rs,hg,k⟩:=h
 obtain⟨d,h1,h2⟩:=Qq.mp hg
 refine⟨G0,H0,G,ρ,d,good,h1,fun v H1 G1 s1 r1=>?_⟩
 have gp1:G1 p=none:=(s1.new p _ hp rfl).trans gp
 refine⟨G0,H0,G1,ρ.set i (.fz d),p,dx,pre,us,xs,ds,(good.step s1).setF i r1,zSB now i d,?_,s1.hh _ _ hp,gp1,h0,hl,nd,hz,rs.mono s1.gg,h2,fun H' G' vs st q1 q2 q3=>k _ H' G' vs st q1 q2 q3⟩
 rw[Qk (Ne.symm hi0)];exact hself
variable {P:Program} {w:World} {K:PySem.W.Frag} {mg:Str->Option Value} {base:Heap} {x qual:Str} {st:Stmt} {f C:Addr} {fd:FuncData} {N ps ns:List Str} {k:Nat} {sf:Str}
theorem zUj {g:Lf}(F:Fun K x qual st f fd)(S:FnScope N (sf::ps) (zU st))(hnd:ns.Nodup)(hlen:ns.length<=900)
   (hb:∀(cdv:Value) (A:Around) (outer:List Env) (s:Shared) (H:Hp) (E:XK),Room k (A.deeper (envOfC qual (zU st) s.heap.objs.size f cdv))->PSs (jT CX0 P w K mg base N qual (zU st) f cdv A outer s H E).nox (xY st) (zP5 K C ns g)) :
   FnOk P w K mg base CX0 (k+1) f fd (sf::ps) (spI K C ns ps.length fun ds=>g (lO N.length ds)):=by
 refine F.ok S (fun vs H Q E h=>?_) (fun cdv A outer s H vs Q E hr h=>⟨_,hb cdv A outer s H E hr,?_⟩)
 · obtain⟨p,dx,rest,G,H0,ds,xs,rfl,_,_,_,_,_,rs,hl,_⟩:=h
   rw[Qs,Qs,←rs.length,hl]
 · obtain⟨p,dx,rest,G,H0,ds,xs,rfl,rfl,h1,h2,h3,sub,rs,hl,hf,k⟩:=h
   have hne:p≠dx:=h3.symm
   have hp1:(upd H0 dx (.own p)) p=none:=by rw[zP hne];exact h1
   have st1:Step G H0 G (upd H0 dx (.own p)):=Step.own sub h2
   have st2:Step G H0 G (upd (upd H0 dx (.own p)) p (.ins C dx [])):=st1.trans (Step.own st1.sub hp1)
   have good:Good K G H0 G (upd (upd H0 dx (.own p)) p (.ins C dx [])) (start N (.ref p::rest)) (lO N.length ds):=by
     refine⟨st2,?_,fun i j a b c q1 _ o1 _=>((dM _ ds).own q1 o1).elim⟩
     unfold start lO
     rw[Ql,Qs,Yr,←rs.length]
     exact .cons .no (oX _ rs)
   refine⟨G,H0,G,_,p,dx,[],[],[],xs,good,dM _ ds,rfl,zO,sub.free h1,h1,rfl,hnd,hlen,zK.mpr rfl,hf,fun σ' H' G' us s' q1 q2 q3=>k H' G' us s' q1 q2 q3⟩
end
section
variable {X:Cx} {e:Expr} {fa:Ef} {pos:Pos}
theorem zRv (i:Nat){x:Str}{pos':Pos}(hN:X.N.Nodup)(he:PF X e fa)(hi:X.N[i]?=some x:=by rfl)(hx:Loc X.env.scope x:=by first | exact .inl rfl | exact .inr rfl)
   (hf:X.fn x=true∨X.env.scope.names.lookup x=some .local:=by first | exact .inl rfl | exact .inr rfl):PFS X (.AugAssign (.Name x pos') .Add e pos) (yO i (uJ (eV i) fa)):=by
 refine PS.to (zPP hN hi hx he zQi hf) ?_
 rintro D σ H ⟨G0,H0,G,ρ,o,good,hf,k⟩
 unfold yO at hf
 obtain⟨d,h1,rfl⟩:=Qt.mp hf
 obtain⟨a,b,h3,h2,_,rfl⟩:=zW9 h1
 obtain⟨v,e1,r1⟩:=zZZ good h3
 refine⟨v,e1,G0,H0,G,ρ,_,good,h2,fun y H1 G1 s1 r2=>⟨a,b,zJ.mp r1,zJ.mp r2,?_⟩⟩
 exact k _ _ G1 s1.gg ((good.step s1).setF i (zJ.mpr rfl))
end
abbrev Uf:=List B->Option (Bool×List B)
inductive OutK where
 | nx (ρ:List B)
 | rt (d:D) (ρ:List B)
abbrev Kf:=List B->Option OutK
end L2
namespace L2
open PySem PySem.W PySem.Spec PyProof.Rows
end L2
namespace L2
open PySem PySem.W PySem.Spec PyProof.Rows
end L2
namespace L2
open PySem PySem.W PySem.Spec PyProof.Rows
def isT:HO->Bool | .tup _=>true | .frz _ (.tup _)=>true | _=>false
structure NewIn (G H T H':Hp):Prop where
 sub:Same T H'
 lst:∀b o,T b=some o->qG o=false∨(H b=none/\(isT o=true∨∃vs,o = .lst vs))∨(G b=some o/\isT o=true)
mutual
def fE:D->Bool
 | .non=>true
 | .bl _=>true
 | .int _=>true
 | .str _=>true
 | .tup ds=>qF ds
 | _=>false
def qF:List D->Bool
 | []=>true
 | d::r=>fE d&&qF r
end
def tps (G:Hp):Hp:=fun b=>match G b with | some o=>if isT o then some o else none | none=>none
theorem zVS (G:Hp):Same (tps G) G:=fun b o h=>by
 unfold tps at h
 split at h
 · rename_i o' e
   split at h
   · cases h;exact e
   · cases h
 · cases h
theorem zTy {G:Hp}{b:Addr}{o:HO}(h:G b=some o)(ho:isT o=true):tps G b=some o:=by
 unfold tps
 rw[h]
 show(if isT o=true then some o else none)=_
 rw[Qi ho]
theorem zUp {G:Hp}{b:Addr}{o:HO}(h:tps G b=some o):isT o=true:=by
 unfold tps at h
 split at h
 · split at h
   · rename_i q;cases h;exact q
   · cases h
 · cases h
theorem dS {G H G' H':Hp}(s:Step G H G' H'):NewIn G H (tps G') H':=⟨fun b o h=>s.sub b o (zVS G' b o h),fun b o h=>by
 cases q:qG o with
 | false=>exact .inl rfl
 | true =>
   have g:=zVS G' b o h
   cases z:H b with
   | none=>exact .inr (.inl ⟨rfl,.inl (zUp h)⟩)
   | some u =>
     have e:u=o:=by
       have e1:=s.hh b u z
       rw[s.sub b o g] at e1
       exact(Wg e1).symm
     subst e
     exact .inr (.inr ⟨(s.new b u z q).symm.trans g,zUp h⟩)⟩
theorem SqT.tps {K:PySem.W.Frag}{G:Hp}{a:Addr}{vs:List V}(h:SqT K G a vs):SqT K (tps G) a vs:=by
 rcases h with h | h
 · rcases h with h | ⟨o,h⟩
   · exact .inl (.inl (zTy h rfl))
   · exact .inl (.inr ⟨o,zTy h rfl⟩)
 · exact .inr h
mutual
theorem Rep.tps {K:PySem.W.Frag}{G:Hp}:∀(d:D) (v:V),fE d=true->Rep K G d v->Rep K (tps G) d v
 | .non,_,_,h=>by unfold Rep at h ⊢;exact h
 | .bl _,_,_,h=>by unfold Rep at h ⊢;exact h
 | .int _,_,_,h=>by unfold Rep at h ⊢;exact h
 | .str _,_,_,h=>by unfold Rep at h ⊢;exact h
 | .tup ds,_,f,h=>by
   unfold Rep at h ⊢
   obtain⟨a,vs,h1,h2,h3⟩:=h
   exact⟨a,vs,h1,h2.tps,Reps.tps ds vs f h3⟩
theorem Reps.tps {K:PySem.W.Frag}{G:Hp}:∀(ds:List D) (vs:List V),qF ds=true->Reps K G ds vs->Reps K (tps G) ds vs
 | [],_,_,h=>by unfold Reps at h ⊢;exact h
 | d::r,_,f,h=>by
   have f:(fE d&&qF r)=true:=f
   rw[Wb] at f
   unfold Reps at h ⊢
   obtain⟨v,vr,h1,h2,h3⟩:=h
   exact⟨v,vr,h1,Rep.tps d v f.1 h2,Reps.tps r vr f.2 h3⟩
end
mutual
def RepS (K:PySem.W.Frag)(T:Hp):D->V->Prop
 | .lst ds,v=>∃a vs,v = .ref a/\T a=some (.lst vs)/\RepSs K T ds vs
 | .tup ds,v=>∃a vs,v = .ref a/\SqT K T a vs/\RepSs K T ds vs
 | d,v=>Rep K T d v
def RepSs (K:PySem.W.Frag)(T:Hp):List D->List V->Prop
 | [],vs=>vs=[]
 | d::r,vs=>∃v vr,vs=v::vr/\RepS K T d v/\RepSs K T r vr
end
section
variable {K:PySem.W.Frag} {T:Hp}
theorem sS {ds:List D}{v:V}:RepS K T (.lst ds) v↔∃a vs,v = .ref a/\T a=some (.lst vs)/\RepSs K T ds vs:=by unfold RepS;exact Ik
theorem qZ {ds:List D}{v:V}:RepS K T (.tup ds) v↔∃a vs,v = .ref a/\SqT K T a vs/\RepSs K T ds vs:=by unfold RepS;exact Ik
theorem vQ {vs:List V}:RepSs K T [] vs↔vs=[]:=by unfold RepSs;exact Ik
theorem xM {d:D}{r:List D}{vs:List V}:RepSs K T (d::r) vs↔∃v vr,vs=v::vr/\RepS K T d v/\RepSs K T r vr:=by rw[RepSs]
mutual
theorem RepS.rep:∀(d:D) (v:V),RepS K T d v->Rep K T d v
 | .lst ds,_,h=>by
   obtain⟨a,vs,h1,h2,h3⟩:=sS.mp h
   exact xW.mpr ⟨a,vs,h1,.inl (.inl h2),RepSs.reps ds vs h3⟩
 | .tup ds,_,h=>by
   obtain⟨a,vs,h1,h2,h3⟩:=qZ.mp h
   exact xS.mpr ⟨a,vs,h1,h2,RepSs.reps ds vs h3⟩
 | .non,_,h=>by unfold RepS at h;exact h
 | .bl _,_,h=>by unfold RepS at h;exact h
 | .int _,_,h=>by unfold RepS at h;exact h
 | .str _,_,h=>by unfold RepS at h;exact h
 | .obj _ _ _,_,h=>by unfold RepS at h;exact h
 | .exc _ _ _,_,h=>by unfold RepS at h;exact h
 | .dct _ _,_,h=>by unfold RepS at h;exact h
theorem RepSs.reps:∀(ds:List D) (vs:List V),RepSs K T ds vs->Reps K T ds vs
 | [],_,h=>zK.mpr (vQ.mp h)
 | d::r,_,h=>by
   obtain⟨v,vr,h1,h2,h3⟩:=xM.mp h
   exact zQ.mpr ⟨v,vr,h1,RepS.rep d v h2,RepSs.reps r vr h3⟩
end
mutual
theorem RepS.mono (e:Same T U):∀(d:D) (v:V),RepS K T d v->RepS K U d v
 | .lst ds,_,h=>by
   obtain⟨a,vs,h1,h2,h3⟩:=sS.mp h
   exact sS.mpr ⟨a,vs,h1,e _ _ h2,RepSs.mono e ds vs h3⟩
 | .tup ds,_,h=>by
   obtain⟨a,vs,h1,h2,h3⟩:=qZ.mp h
   exact qZ.mpr ⟨a,vs,h1,e.tup h2,RepSs.mono e ds vs h3⟩
 | .non,_,h=>by unfold RepS at h ⊢;exact Rep.mono e _ _ h
 | .bl _,_,h=>by unfold RepS at h ⊢;exact Rep.mono e _ _ h
 | .int _,_,h=>by unfold RepS at h ⊢;exact Rep.mono e _ _ h
 | .str _,_,h=>by unfold RepS at h ⊢;exact Rep.mono e _ _ h
 | .obj _ _ _,_,h=>by unfold RepS at h ⊢;exact Rep.mono e _ _ h
 | .exc _ _ _,_,h=>by unfold RepS at h ⊢;exact Rep.mono e _ _ h
 | .dct _ _,_,h=>by unfold RepS at h ⊢;exact Rep.mono e _ _ h
theorem RepSs.mono (e:Same T U):∀(ds:List D) (vs:List V),RepSs K T ds vs->RepSs K U ds vs
 | [],_,h=>vQ.mpr (vQ.mp h)
 | d::r,_,h=>by
   obtain⟨v,vr,h1,h2,h3⟩:=xM.mp h
   exact xM.mpr ⟨v,vr,h1,RepS.mono e d v h2,RepSs.mono e r vr h3⟩
end
mutual
theorem RepS.flat:∀(d:D) (v:V),fE d=true->Rep K T d v->RepS K T d v
 | .non,_,_,h=>by unfold RepS;exact h
 | .bl _,_,_,h=>by unfold RepS;exact h
 | .int _,_,_,h=>by unfold RepS;exact h
 | .str _,_,_,h=>by unfold RepS;exact h
 | .tup ds,_,f,h=>by
   obtain⟨a,vs,h1,h2,h3⟩:=xS.mp h
   exact qZ.mpr ⟨a,vs,h1,h2,RepSs.flat ds vs f h3⟩
theorem RepSs.flat:∀(ds:List D) (vs:List V),qF ds=true->Reps K T ds vs->RepSs K T ds vs
 | [],_,_,h=>vQ.mpr (zK.mp h)
 | d::r,_,f,h=>by
   have f:(fE d&&qF r)=true:=f
   rw[Wb] at f
   obtain⟨v,vr,h1,h2,h3⟩:=zQ.mp h
   exact xM.mpr ⟨v,vr,h1,RepS.flat d v f.1 h2,RepSs.flat r vr f.2 h3⟩
end
theorem RepSs.length:∀ {ds:List D} {vs:List V},RepSs K T ds vs->ds.length=vs.length
 | ds,vs,h=>(RepSs.reps ds vs h).length
theorem RepSs.snoc {d:D}{v:V}:∀ {ds:List D} {vs:List V},RepSs K T ds vs->RepS K T d v->RepSs K T (ds++[d]) (vs++[v])
 | [],vs,h,r=>by
   rw[vQ.mp h]
   exact xM.mpr ⟨v,[],rfl,r,vQ.mpr rfl⟩
 | e::r',vs,h,r=>by
   obtain⟨x,vr,rfl,h2,h3⟩:=xM.mp h
   exact xM.mpr ⟨x,vr++[v],rfl,h2,h3.snoc r⟩
end
def unH (T U:Hp):Hp:=fun b=>match T b with | some o=>some o | none=>U b
theorem zTa (T U:Hp):Same T (unH T U):=fun b o h=>by unfold unH;rw[h]
theorem zSF {T U H:Hp}(h1:Same T H)(h2:Same U H):Same U (unH T U):=fun b o h=>by
 unfold unH
 split
 · rename_i o' e
   rw[←h1 b o' e,h2 b o h]
 · exact h
theorem zVW {T U H:Hp}(h1:Same T H)(h2:Same U H):Same (unH T U) H:=fun b o h=>by
 unfold unH at h
 split at h
 · rename_i o' e
   cases h;exact h1 b _ e
 · exact h2 b o h
theorem NewIn.old {G H G1 H1 T H':Hp}(s:Step G H G1 H1)(n:NewIn G1 H1 T H'):NewIn G H T H':=⟨n.sub,fun b o q=>by
 rcases n.lst b o q with z | ⟨z1,z2⟩ | ⟨z1,z2⟩
 · exact .inl z
 · exact .inr (.inl ⟨s.hh.free z1,z2⟩)
 · cases u:qG o with
   | false=>exact .inl rfl
   | true =>
     cases w:H b with
     | none=>exact .inr (.inl ⟨rfl,.inl z2⟩)
     | some o' =>
       have e:o'=o:=by
         have e1:=s.hh b o' w
         rw[s.sub b o z1] at e1
         exact(Wg e1).symm
       subst e
       exact .inr (.inr ⟨(s.new b o' w u).symm.trans z1,z2⟩)⟩
theorem NewIn.un {G H G1 H1 H2 T U:Hp}(a:NewIn G H T H1)(s:Step G H G1 H1)(h2:Same H1 H2)(b:NewIn G1 H1 U H2):NewIn G H (unH T U) H2:=by
 refine⟨zVW (a.sub.trans h2) b.sub,fun c o h=>?_⟩
 unfold unH at h
 split at h
 · rename_i o' e
   cases h;exact a.lst c _ e
 · exact(b.old s).lst c o h
def tNw (K:PySem.W.Frag)(f:Ef):TE:=fun σ H Q=>∃G0 H0 G ρ d,Good K G0 H0 G H σ ρ/\f ρ=some d/\∀v H' G' T,Step G H G' H'->NewIn G H T H'->RepS K T d v->Q v H'
def PNw (X:Cx)(e:Expr)(f:Ef):Prop:=PE X e (tNw X.K f)
theorem PE.toN {X:Cx}{e:Expr}{t:TE}{f:Ef}(h:PE X e t)(imp:∀σ H Q,tNw X.K f σ H Q->t σ H Q):PNw X e f:=fun pins s σ H Q I q=>h pins s σ H Q I (imp σ H Q q)
def zOk (K:PySem.W.Frag)(f:Lf):TA:=fun σ H Q=>∃G0 H0 G ρ ds,Good K G0 H0 G H σ ρ/\f ρ=some ds/\∀vs H' G' T,Step G H G' H'->NewIn G H T H'->RepSs K T ds vs->Q vs H'
def zRX (X:Cx)(es:List Expr)(f:Lf):Prop:=PA X es (zOk X.K f)
section
variable {X:Cx} {b e:Expr} {es:List Expr} {fa:Ef} {ga:Lf} {pos:Pos}
def aR (f:Ef):Ef:=fun ρ=>(f ρ).bind fun d=>if fE d=true then some d else none
theorem dH (h:PF X e fa):PNw X e (aR fa):=by
 refine PE.toN h ?_
 rintro σ H Q ⟨G0,H0,G,ρ,d,good,hf,k⟩
 unfold aR at hf
 obtain⟨d',h1,hf⟩:=Qq.mp hf
 split at hf
 · rename_i fl
   cases hf
   exact⟨G0,H0,G,ρ,_,good,h1,fun v H' G' s r=>k v H' G' (L2.tps G') s (dS s) (RepS.flat _ _ fl (r.tps _ _ fl))⟩
 · cases hf
def zRf (g:Lf):Ef:=fun ρ=>(g ρ).bind fun ds=>if qF ds=true then some (.lst ds) else none
theorem zR9 (h:PFr X e ga):PNw X e (zRf ga):=by
 refine PE.toN h ?_
 rintro σ H Q ⟨G0,H0,G,ρ,d,good,hf,k⟩
 unfold zRf at hf
 obtain⟨ds,h1,hf⟩:=Qq.mp hf
 split at hf
 · rename_i fl
   cases hf
   refine⟨G0,H0,G,ρ,_,good,h1,fun p vs H' G' s hn hp gp r=>?_⟩
   have n1:NewIn G H (L2.tps G') H':=dS s
   have np:L2.tps G' p=none:=by
     unfold L2.tps;rw[gp]
   refine k _ H' G' (upd (L2.tps G') p (.lst vs)) s ⟨fun b o q=>?_,fun b o q=>?_⟩ (sS.mpr ⟨p,vs,rfl,zO,RepSs.mono (Same.new np) _ _ (RepSs.flat _ _ fl (r.tps _ _ fl))⟩)
   · by_cases z:b=p
     · subst z;rw[zO] at q;cases q;exact hp
     · rw[zP z] at q;exact n1.sub b o q
   · by_cases z:b=p
     · subst z;rw[zO] at q;cases q;exact .inr (.inl ⟨hn,.inr ⟨_,rfl⟩⟩)
     · rw[zP z] at q;exact n1.lst b o q
 · cases hf
theorem zZq:zRX X [] zN:=by
 intro pos pins s σ H Q I h
 obtain⟨G0,H0,G,ρ,d,good,hf,k⟩:=h
 cases hf
 exact wI pos pins s σ H Q I (k [] H G (L2.tps G) (.refl good.sub) (dS (.refl good.sub)) (vQ.mpr rfl))
theorem qR (ha:PNw X e fa)(hr:zRX X es ga)(hs:starEach (e::es) X.env=(false,eval e X.env)::starEach es X.env:=by rfl):zRX X (e::es) (zY fa ga):=by
 intro pos pins s σ H Q I h
 refine yK ha hr hs pos pins s σ H Q I ?_
 obtain⟨G0,H0,G,ρ,ds,good,hf,k⟩:=h
 obtain⟨d,dr,h1,h2,rfl⟩:=gO hf
 refine⟨G0,H0,G,ρ,_,good,h1,fun u H1 G1 T1 s1 n1 r1=>⟨G0,H0,G1,ρ,_,good.step s1,h2,fun v H2 G2 T2 s2 n2 r2=>?_⟩⟩
 have n:=n1.un s1 s2.hh n2
 exact k _ _ G2 (unH T1 T2) (s1.trans s2) n (xM.mpr ⟨u,v,rfl,RepS.mono (zTa _ _) _ _ r1,RepSs.mono (zSF (n1.sub.trans s2.hh) n2.sub) _ _ r2⟩)
theorem zWv {k:Nat}(h:zRX X es ga):PNw X (.Tuple es k pos) (wD ga):=by
 refine PE.toN (zW4 h) ?_
 rintro σ H Q ⟨G0,H0,G,ρ,d,good,hf,k⟩
 unfold wD at hf
 obtain⟨ds,h1,rfl⟩:=Qt.mp hf
 obtain⟨es,h1,h2⟩:=Qq.mp h1
 obtain⟨rfl,h3⟩:=qK h2
 refine⟨G0,H0,G,ρ,_,good,h1,fun vs H1 G1 T1 s1 n1 r1=>⟨by rw[←r1.length];exact Wx (wV h3),fun p hp=>?_⟩⟩
 have s2:=Step.laid (o:=.tup vs) s1.sub hp
 have tp:T1 p=none:=n1.sub.free hp
 refine k _ _ _ (upd T1 p (.tup vs)) (s1.trans s2) ⟨fun b o q=>?_,fun b o q=>?_⟩ (qZ.mpr ⟨p,vs,rfl,.inl (.inl zO),RepSs.mono (Same.new tp) _ _ r1⟩)
 · by_cases z:b=p
   · subst z;rw[zO] at q ⊢;exact q
   · rw[zP z] at q ⊢;exact n1.sub b o q
 · by_cases z:b=p
   · subst z;rw[zO] at q;cases q;exact .inl rfl
   · rw[zP z] at q;exact n1.lst b o q
end
end L2
namespace L2
open PySem PySem.W PySem.Spec PyProof.Rows
def aH (K:PySem.W.Frag)(n:Nat)(f:List D->Option D):Sp:=fun vs H Q _=>∃G ds d,Same G H/\Reps K G ds vs/\ds.length=n/\f ds=some d/\∀v H' G' T,Step G H G' H'->NewIn G H T H'->RepS K T d v->Q v H'
section
variable {X:Cx} {b c e tg elt iter:Expr} {es ifs:List Expr} {fa fb:Ef} {ga gi:Lf} {ta tc:Tf} {pos p:Pos} {st:Stmt} {sts rest:List Stmt}
theorem zSo {k n:Nat}{fad:Addr}{fd:FuncData}{ps:List Str}{x:Str}{fD:List D->Option D}(F:FnOk X.prog X.w X.K X.mg X.base CX0 k fad fd ps (aH X.K n fD))(hr:Room k X.A)(hm:X.mg x=some (.ref fad))(hk:PySem.W.keepIn X.K (.ref fad)=true)(hb:Binds X.K fd ps [])(hg:Gl X x)
   (ha:PFA X (e::es) ga) (hdb:(x==("__debug__":Str))=false:=by decide) (he:starEach (e::es) X.env=(false,eval e X.env)::starEach es X.env:=by rfl) (hpl:(backTo pos (starEach es X.env)).any (·.1)=false:=by rfl) :
   PNw X (.Call (.Name x p) (e::es) [] pos) (zL n fD ga):=by
 refine PE.toN (dO (E:=E0) F hr hg hm hk hb .nil gW ha hdb he hpl) ?_
 rintro σ H Q ⟨G0,H0,G,ρ,d,good,hf,k⟩
 unfold zL at hf
 obtain⟨ds,h1,hf⟩:=Qq.mp hf
 split at hf
 · rename_i hl
   refine⟨G0,H0,G,ρ,_,good,h1,fun vs H1 G1 s1 r1=>?_⟩
   show aH X.K n fD (vs++[]) H1 Q E0
   rw[Ea]
   exact⟨G1,ds,d,s1.sub,r1,hl,hf,fun v H' G' T s nw r=>k v H' G' T (s1.trans s) (nw.old s1) r⟩
 · cases hf
theorem zUM {K:PySem.W.Frag}{m:Nat}{js:List Nat}{gt:Gf}{t:Tf}{el:Ef}(hgo:zXq gt){σ:St}{H:Hp}{Q:VK}(h:tNw K (eL (yC gi m js gt t el)) σ H Q):zVT (tFI K gi) m js (tFG K gt) (tFT K t) (tNw K el) σ H Q:=by
 obtain⟨G0,H0,G,ρ,out',good,hf0,k⟩:=h
 obtain⟨out,hf,rfl⟩:=Qt.mp (show(yC gi m js gt t el ρ).map D.lst=some out' from hf0)
 clear hf0
 unfold yC at hf
 obtain⟨ds,h1,hf⟩:=Qq.mp hf
 obtain⟨ds',h1,h1'⟩:=Qq.mp h1
 obtain⟨rfl,hlen⟩:=qK h1'
 refine⟨G0,H0,G,ρ,_,good,h1,fun J H1 G1 s1 y D hD=>?_⟩
 have good1:=(good.step s1).up m js
 have hGD:G1 D=none:=s1.sub.free hD
 have sD:=Step.own (o:=.lst []) s1.sub hD
 have tD:L2.tps G1 D=none:=by unfold L2.tps;rw[hGD]
 refine⟨fun i n σ2 H2=>n=ds.length - i/\i<=ds.length/\∃G2 ρ2 acc us T,Same G1 G2/\G2 D=none/\T D=none/\NewIn G H T H2/\H2 D=some (.lst us)/\RepSs K T acc us/\acc.length<=i/\NoOw ρ2/\Good K G1 H1 G2 H2 σ2 ρ2/\tO gt t el (ds.drop i) ρ2 acc=some out,
   ⟨ds.length,by simp,Ee _,G1,upB m js ρ,[],[],L2.tps G1,Same.refl _,hGD,tD,NewIn.old s1 (dS sD),zO,vQ.mpr rfl,Qp _,zXX _ _ _,good1.step sD,by simpa using hf⟩,?_⟩
 rintro i n σ2 H2 ⟨rfl,hi,G2,ρ2,acc,us,T,sg,gD,tD2,nT,hD2,rs,hal,now,good2,hf2⟩
 have hH2:Same H H2:=s1.hh.trans good2.st.hh
 obtain⟨y1,y2⟩:=y i G2 H2 sg good2.sub
 by_cases hlt:i < ds.length
 · obtain⟨go,yl⟩:=y1 ds[i] (Wo hlt)
   rw[Ey hlt] at hf2
   unfold tO at hf2
   obtain⟨ρ3,e1,hf2⟩:=Qq.mp hf2
   obtain⟨c,e2,hf2⟩:=Qq.mp hf2
   have now3:=hgo _ _ _ e1 now
   refine .inr ⟨go,fun x H3 yx=>?_⟩
   obtain⟨G3,s3,r3⟩:=yl x H3 yx
   refine⟨G1,H1,G3,ρ2,_,ρ3,good2.step s3,r3,e1,fun σ4 H4 G4 s4 good4=>?_⟩
   refine⟨G1,H1,G4,ρ3,c,good4,e2,fun H5 G5 s5=>?_⟩
   have s35:=(s3.trans s4).trans s5
   split at hf2
   · rename_i hc
     show if c=true then _ else _
     rw[Qi hc]
     obtain⟨yd,e3,hf2⟩:=Qq.mp hf2
     refine⟨G1,H1,G5,ρ3,yd,good4.step s5,e3,fun v H6 G6 T6 s6 n6 r6=>?_⟩
     have s36:=s35.trans s6
     have hD5:H5 D=some (.lst us):=s35.hh _ _ hD2
     have hD6:H6 D=some (.lst us):=s36.hh _ _ hD2
     have gD6:G6 D=none:=(s36.new D _ hD2 rfl).trans gD
     have t6D:T6 D=none:=by
       cases q:T6 D with
       | none=>rfl
       | some o =>
         have e:=n6.sub D o q
         rw[hD6] at e
         cases e
         rcases n6.lst D _ q with z | ⟨z,_⟩ | ⟨_,z⟩
         · cases z
         · rw[hD5] at z;cases z
         · cases z
     have nT5:NewIn G H T H5:=⟨nT.sub.trans s35.hh,nT.lst⟩
     have nU:=nT5.un ((s1.trans good2.st).trans s35) s6.hh n6
     have uD:unH T T6 D=none:=by unfold unH;rw[tD2];exact t6D
     have nU7:NewIn G H (unH T T6) (upd H6 D (.lst (us++[v]))):=⟨fun b o q=>by rw[zP (zB q uD)];exact nU.sub b o q,nU.lst⟩
     refine⟨us,ds.length - (i+1),hD6,?_,by lia,rfl,hlt,G6,ρ3,acc++[yd],us++[v],unH T T6,sg.trans s36.gg,gD6,uD,nU7,zO,(RepSs.mono (zTa _ _) _ _ rs).snoc (RepS.mono (zSF (nT5.sub.trans s6.hh) n6.sub) _ _ r6),by rw[Qr,Ui];lia,now3,((good4.step s5).step s6).wrX now3 gD6 hD,hf2⟩
     rw[←rs.length]
     exact wV (Wu hal (Wu hi hlen))
   · rename_i hc
     show if c=true then _ else _
     rw[Qa hc]
     exact⟨ds.length - (i+1),by lia,rfl,hlt,G5,ρ3,acc,us,T,sg.trans s35.gg,(s35.new D _ hD2 rfl).trans gD,tD2,⟨nT.sub.trans s35.hh,nT.lst⟩,s35.hh _ _ hD2,rs,by lia,now3,good4.step s5,hf2⟩
 · have e:i=ds.length:=by lia
   subst e
   rw[Oi] at hf2
   cases hf2
   refine .inl ⟨y2 (Qp _),k _ H2 G2 (upd T D (.lst us)) (s1.trans good2.st) ⟨fun b o q=>?_,fun b o q=>?_⟩ (sS.mpr ⟨D,us,rfl,zO,RepSs.mono (Same.new tD2) _ _ rs⟩)⟩
   · by_cases z:b=D
     · subst z;rw[zO] at q;cases q;exact hD2
     · rw[zP z] at q;exact nT.sub b o q
   · by_cases z:b=D
     · subst z;rw[zO] at q;cases q;exact .inr (.inl ⟨s1.hh.free hD,.inr ⟨_,rfl⟩⟩)
     · rw[zP z] at q;exact nT.lst b o q
theorem zSk (sc:Scope)(N tgs frees:List Str)(js:List Nat){scope:Scope}{gt:Gf}{t:Tf}{el:Ef}(hgo:zXq gt)(hp:PFI X tg iter gi)(hc:X.calm=true)(hsc:X.env.scope=sc)(hNN:X.N=N)(hok:pK sc scope N tgs frees js=true)
   (hg:∀C s₀ H₀ fp,PFG (xD X (tgs++frees) scope C s₀ H₀ fp) tg gt) (hi:∀C s₀ H₀ fp,zYb (xD X (tgs++frees) scope C s₀ H₀ fp) ifs t) (he:∀C s₀ H₀ fp,PNw (xD X (tgs++frees) scope C s₀ H₀ fp) elt el)
   (hs:∀x,foldedSetIterable iter X.env x=pure x:=by intro _;rfl) :
   PNw X (.ListComp elt [⟨tg,iter,ifs,0⟩] scope pos) (eL (yC gi tgs.length js gt t el)) :=
 PE.toN (zV7 (g:=tFG X.K gt) (tc:=tFT X.K t) (te:=tNw X.K el) sc tgs frees js hp hc hsc (by rw[hNN];exact hok) hg hi he hs) fun σ H Q h=>zUM hgo h
def zO8 (K:PySem.W.Frag)(f:Ef):TS:=fun D σ H=>∃G0 H0 G ρ d,Good K G0 H0 G H σ ρ/\f ρ=some d/\∀v H' G' T,Step G0 H0 G' H'->NewIn G0 H0 T H'->RepS K T d v->D.rt v H'
def zXr (X:Cx)(sts:List Stmt)(f:Ef):Prop:=PSs X sts (zO8 X.K f)
theorem zYS (h:PNw X e fa):zXr X [.Return (some e) pos] fa:=by
 intro pins s σ H D I q
 refine qP (zXb h) pins s σ H D I ?_
 obtain⟨G0,H0,G,ρ,d,good,hf,k⟩:=q
 exact⟨G0,H0,G,ρ,d,good,hf,fun v H' G' T s nw r=>k v H' G' T (good.st.trans s) (nw.old good.st) r⟩
theorem zQh {sa:List Stmt}(ht:PFT X c ta)(ha:zXr X sa fa)(hr:zXr X rest fb):zXr X (.If c sa [] pos::rest) (eIf ta fa fb):=by
 intro pins s σ H D I q
 refine w8 (zZY ht ha gR) hr pins s σ H D I ?_
 obtain⟨G0,H0,G,ρ,d,good,hf,k⟩:=q
 unfold eIf at hf
 obtain⟨c',h1,hf⟩:=Qq.mp hf
 refine⟨G0,H0,G,ρ,_,good,h1,fun H1 G1 s1=>?_⟩
 split at hf
 · rename_i h;rw[Qi h];exact⟨G0,H0,G1,ρ,d,good.step s1,hf,k⟩
 · rename_i h;rw[Qa h];exact⟨G0,H0,G1,ρ,d,good.step s1,hf,k⟩
variable {P:Program} {w:World} {K:PySem.W.Frag} {mg:Str->Option Value} {base:Heap} {N ps:List Str} {x qual:Str} {f:Addr} {fd:FuncData} {k:Nat}
def zSt (N:Nat)(body:Ef):List D->Option D:=fun ds=>body (dG N ds)
theorem zV6 {body:Ef}(F:Fun K x qual st f fd)(S:FnScope N ps (zU st))
   (hb:∀(cdv:Value) (A:Around) (outer:List Env) (s:Shared) (H:Hp) (E:XK),Room k (A.deeper (envOfC qual (zU st) s.heap.objs.size f cdv))->zXr (jT CX0 P w K mg base N qual (zU st) f cdv A outer s H E).nox (xY st) body) :
   FnOk P w K mg base CX0 (k+1) f fd ps (aH K ps.length (zSt N.length body)):=by
 refine F.ok S (fun vs H Q E h=>?_) (fun cdv A outer s H vs Q E hr h=>⟨_,hb cdv A outer s H E hr,?_⟩)
 · obtain⟨G,ds,d,sub,rs,hl,_⟩:=h
   rw[←rs.length];exact hl
 · obtain⟨G,ds,d,sub,rs,hl,hf,k⟩:=h
   exact⟨G,H,G,_,d,bL sub rs,hf,fun v H' G' T s' nw r=>k v H' G' T s' nw r⟩
theorem zWT {CX:CXT}{n:Nat}:FnOk P w K mg base CX k f fd ps (aH K n fun _=>none) :=
 ⟨fun vs H Q E h=>(by obtain⟨_,_,_,_,_,_,z,_⟩:=h;exact nomatch z),fun A outer s H args us vs Q E _ _ _ _ h=>(by obtain⟨_,_,_,_,_,_,z,_⟩:=h;exact nomatch z)⟩
end
end L2
namespace L2
open PySem PySem.W PySem.Spec PyProof.Rows
def zUx (G0 H0 G H:Hp)(σ:St)(ρ:List B)(T:Hp):Prop :=
 Same T H/\∀b o,T b=some o->qG o=false∨(H0 b=none/\G b=none/\(isT o=true∨∃vs,o = .lst vs)/\∀(k:Nat) (c:B),ρ[k]?=some c->uF c=true->σ[k]?≠some (some (.ref b)))∨(G b=some o/\isT o=true)
structure Hid (K:PySem.W.Frag)(i:Nat)(G0 H0 G H:Hp)(σ:St)(ρ:List B)(d:D):Prop where
 good:Good K G0 H0 G H σ ρ
 no:ρ[i]?=some .no
 ex:∃v T,σ[i]?=some (some v)/\RepS K T d v/\zUx G0 H0 G H σ ρ T
section
variable {K:PySem.W.Frag} {G0 H0 G H G' H' T:Hp} {σ:St} {ρ:List B} {d d2:D} {v:V} {i j:Nat}
theorem Good.owns (g:Good K G0 H0 G H σ ρ){k:Nat}{c:B}{a:Addr}(h1:ρ[k]?=some c)(h2:uF c=true)(h3:σ[k]?=some (some (.ref a))):∃o,H a=some o:=by
 obtain⟨x,e,r⟩:=Paired.get g.vals h1
 rw[h3] at e
 cases e
 cases r with
 | no=>cases h2
 | fz _=>cases h2
 | od _ _ _ _ _ _=>cases h2
 | ow q _ _ _=>exact⟨_,q⟩
 | mu q _ _ _=>exact⟨_,q⟩
theorem Hid.start (g:Good K G0 H0 G H σ ρ)(i:Nat)(hi:i < ρ.length)(s:Same H H')(n:NewIn G H T H')(r:RepS K T d v):Hid K i G0 H0 G H' (σ.set i (some v)) (ρ.set i .no) d:=by
 have st:Step G H G H':=⟨s,Same.refl _,g.sub.trans s,fun _ _ _ _=>rfl⟩
 have g1:=g.step st
 have hl:i < σ.length:=by rw[Ek g.vals];exact hi
 refine⟨⟨g1.st,Paired.set .no i g1.vals,fun j k a b c h1 h2 o1 o2 h3 h4=>?_⟩,by simp[hi],v,T,by simp[hl],r,n.sub,fun b o q=>?_⟩
 · obtain⟨n1,e1⟩:=vA rfl h1 o1
   obtain⟨n2,e2⟩:=vA rfl h2 o2
   rw[Qk (Ne.symm n1)] at h3
   rw[Qk (Ne.symm n2)] at h4
   exact g1.apart j k a b c e1 e2 o1 o2 h3 h4
 · rcases n.lst b o q with z | ⟨z1,z2⟩ | z
   · exact .inl z
   · refine .inr (.inl ⟨g.st.hh.free z1,g.sub.free z1,z2,fun k c h1 o1 h3=>?_⟩)
     obtain⟨n1,e1⟩:=vA rfl h1 o1
     rw[Qk (Ne.symm n1)] at h3
     obtain⟨u,hu⟩:=g.owns e1 o1 h3
     rw[z1] at hu;cases hu
   · exact .inr (.inr z)
theorem Hid.seen (h:Hid K i G0 H0 G H σ ρ d):∃T,zUx G0 H0 G H σ ρ T/\Same G (unH G T)/\Good K G0 H0 (unH G T) H σ (ρ.set i (.fz d)):=by
 obtain⟨v,T,hv,r,sT,cT⟩:=h.ex
 have g:=h.good
 have gu:=zTa G T
 refine⟨T,⟨sT,cT⟩,gu,⟨g.st.hh,g.st.gg.trans gu,zVW g.sub sT,fun a o e hn=>?_⟩,?_,fun j k a b c h1 h2 o1 o2 h3 h4=>?_⟩
 · rw[←g.st.new a o e hn]
   unfold unH
   split
   · rename_i o' e';exact e'.symm
   · rename_i e'
     rw[e']
     cases q:T a with
     | none=>rfl
     | some o' =>
       have eo:o'=o:=by
         have e1:=g.st.hh a o e
         rw[sT a o' q] at e1
         exact Wg e1
       subst eo
       rcases cT a o' q with z | ⟨z,_⟩ | ⟨z,_⟩
       · rw[hn] at z;cases z
       · rw[e] at z;cases z
       · rw[e'] at z;cases z
 · have off:∀ {a:Addr} {o:HO},H a=some o->G a=none->qG o=true->isT o=false->(∀vs,o ≠ .lst vs)∨(∃(k:Nat) (c:B),ρ[k]?=some c/\uF c=true/\σ[k]?=some (some (.ref a)))->unH G T a=none:=fun {a o} hH hG hn hi hw=>by
     unfold unH
     rw[hG]
     show T a=none
     cases q:T a with
     | none=>rfl
     | some o' =>
       have eo:o'=o:=by
         rw[sT a o' q] at hH
         exact Wg hH
       subst eo
       rcases cT a o' q with z | ⟨_,_,z,z'⟩ | ⟨z,_⟩
       · rw[hn] at z;cases z
       · rcases hw with hw | ⟨k,c,h1,h2,h3⟩
         · rcases z with z | ⟨vs,z⟩
           · rw[hi] at z;cases z
           · exact absurd z (hw vs)
         · exact absurd h3 (z' k c h1 h2)
       · rw[hG] at z;cases z
   refine Paired.upd i g.vals (fun j x b hj q1 q2 q=>?_) fun x e=>?_
   · cases q with
     | no=>exact .no
     | fz r=>exact .fz (r.mono gu)
     | @ow c us ds c1 c2 c3 c4=>exact .ow c1 (off c1 c2 rfl rfl (.inr ⟨j,_,q2,rfl,q1⟩)) c3 (c4.mono gu)
     | @od c _ _ _ _ c1 c2 c3 c4 c5 c6=>exact .od c1 (off c1 c2 rfl rfl (.inl fun _ z=>nomatch z)) c3 (c4.mono gu) c5 c6
     | @mu c oc dc c1 c2 c3 c4 =>
       refine .mu c1 (off c1 c2 c4.nt ?_ (.inr ⟨j,_,q2,rfl,q1⟩)) c3 (c4.mono gu)
       cases dc with
       | obj _ _ _=>obtain⟨_,_,_,_,z,_⟩:=c4;rw[z];rfl
       | dct _ _=>obtain⟨_,z,_⟩:=c4;rw[z];rfl
       | _=>exact c4.elim
   · rw[hv] at e;cases e
     exact .fz ((RepS.rep _ _ r).mono (zSF g.sub sT))
 · obtain⟨_,f1⟩:=vA rfl h1 o1
   obtain⟨_,f2⟩:=vA rfl h2 o2
   exact g.apart j k a b c f1 f2 o1 o2 h3 h4
theorem Hid.later (h:Hid K i G0 H0 G H σ ρ d)(s:Same H H'):Hid K i G0 H0 G H' σ ρ d:=by
 obtain⟨v,T,hv,r,sT,cT⟩:=h.ex
 exact⟨h.good.step ⟨s,Same.refl _,h.good.sub.trans s,fun _ _ _ _=>rfl⟩,h.no,v,T,hv,r,sT.trans s,cT⟩
theorem Hid.setF (h:Hid K i G0 H0 G H σ ρ d)(s:Step G H G' H')(j:Nat)(hj:j≠i)(r2:Rep K G' d2 v):Hid K i G0 H0 G' H' (σ.set j (some v)) (ρ.set j (.fz d2)) d:=by
 obtain⟨u,T,hv,r,sT,cT⟩:=h.ex
 refine⟨(h.good.step s).setF j r2,by rw[Qk hj];exact h.no,u,T,by rw[Qk hj];exact hv,r,sT.trans s.hh,fun b o q=>?_⟩
 cases hn:qG o with
 | false=>exact .inl rfl
 | true =>
   rcases cT b o q with z | ⟨z1,z2,z3,z4⟩ | ⟨z1,z2⟩
   · rw[hn] at z;cases z
   · refine .inr (.inl ⟨z1,(s.new b o (sT b o q) hn).trans z2,z3,fun k c h1 o1 h3=>?_⟩)
     obtain⟨n1,e1⟩:=vA rfl h1 o1
     rw[Qk (Ne.symm n1)] at h3
     exact z4 k c e1 o1 h3
   · exact .inr (.inr ⟨s.gg b o z1,z2⟩)
end
end L2
namespace L2
open PySem PySem.W PySem.Spec PyProof.Rows
def tHS (K:PySem.W.Frag)(i:Nat)(f:D->Sf):TS:=fun E σ H=>∃G0 H0 G ρ d o,Hid K i G0 H0 G H σ ρ d/\f d ρ=some o/\Wants K G0 H0 G E o
def PHs (X:Cx)(i:Nat)(sts:List Stmt)(f:D->Sf):Prop:=PSs X sts (tHS X.K i f)
section
variable {X:Cx} {b c e:Expr} {fa:Ef} {ta:Tf} {pos:Pos} {rest sa sb:List Stmt} {f:Sf} {g h:D->Sf}
def zWl (i:Nat)(f1:Ef)(g:D->Sf):Sf:=fun ρ=>if i < ρ.length then(f1 ρ).bind fun d=>g d (ρ.set i .no) else none
theorem zUm (i:Nat){x:Str}{pos':Pos}(hN:X.N.Nodup)(he:PNw X e fa)(hr:PHs X i rest g)(hi:X.N[i]?=some x:=by rfl)(hx:Loc X.env.scope x:=by first | exact .inl rfl | exact .inr rfl)(hs:swapsWith e (some (.Name x pos')) pos.line X.env=pure false:=by rfl)
   (hf:X.fn x=true∨X.env.scope.names.lookup x=some .local:=by first | exact .inl rfl | exact .inr rfl):mJ X (.Assign [.Name x pos'] e pos::rest) (zWl i fa g):=by
 refine PSs.to (w8 (mP hN hi hx he hs hf) hr) ?_
 rintro E σ H ⟨G0,H0,G,ρ,o,good,hf,k⟩
 unfold zWl at hf
 split at hf
 · rename_i hl
   obtain⟨d,h1,hf⟩:=Qq.mp hf
   exact⟨G0,H0,G,ρ,d,good,h1,fun v H' G' T s n r=>⟨G0,H0,G,_,d,o,Hid.start good i hl s.hh n r,hf,k⟩⟩
 · cases hf
def zTf (j:Nat)(fa:Ef)(g:D->Sf):D->Sf:=fun d ρ=>(fa ρ).bind fun d2=>g d (ρ.set j (.fz d2))
theorem zQo (i j:Nat){x:Str}{pos':Pos}(hN:X.N.Nodup)(he:PF X e fa)(hr:PHs X i rest g)(hij:j≠i:=by decide)(hi:X.N[j]?=some x:=by rfl)(hx:Loc X.env.scope x:=by first | exact .inl rfl | exact .inr rfl)(hs:swapsWith e (some (.Name x pos')) pos.line X.env=pure false:=by rfl)
   (hf:X.fn x=true∨X.env.scope.names.lookup x=some .local:=by first | exact .inl rfl | exact .inr rfl):PHs X i (.Assign [.Name x pos'] e pos::rest) (zTf j fa g):=by
 intro pins s σ H E I q
 refine w8 (mP hN hi hx he hs hf) hr pins s σ H E I ?_
 obtain⟨G0,H0,G,ρ,d,o,hid,hf,k⟩:=q
 unfold zTf at hf
 obtain⟨d2,h1,hf⟩:=Qq.mp hf
 exact⟨G0,H0,G,ρ,d2,hid.good,h1,fun v H' G' s r=>⟨G0,H0,G',_,d,o,hid.setF s j hij r,hf,k.mono s.gg⟩⟩
def zQc:Out->Option Out | .rt d=>some (.rt d) | _=>none
def hIf (i:Nat)(ta:Tf)(f:Sf)(g:D->Sf):D->Sf:=fun d ρ=>(ta (ρ.set i (.fz d))).bind fun b=>if b=true then(f (ρ.set i (.fz d))).bind zQc else g d ρ
theorem zPA (i:Nat)(ht:PFT X c ta)(ha:mJ X sa f)(hr:PHs X i rest g):PHs X i (.If c sa [] pos::rest) (hIf i ta f g):=by
 intro pins s σ H E I q
 refine w8 (zZY ht ha gR) hr pins s σ H E I ?_
 obtain⟨G0,H0,G,ρ,d,o,hid,hf,k⟩:=q
 unfold hIf at hf
 obtain⟨b,h1,hf⟩:=Qq.mp hf
 obtain⟨T,bT,gu,gd⟩:=hid.seen
 refine⟨G0,H0,unH G T,_,b,gd,h1,fun H1 G1 s1=>?_⟩
 split at hf
 · rename_i hb
   rw[Qi hb]
   obtain⟨o1,h2,h3⟩:=Qq.mp hf
   refine⟨G0,H0,G1,_,o1,gd.step s1,h2,?_⟩
   cases o1 with
   | rt r=>cases h3;exact k
   | _=>cases h3
 · rename_i hb
   rw[Qa hb]
   exact⟨G0,H0,G,ρ,d,o,hid.later s1.hh,hf,k⟩
def zZ5 (i:Nat)(ta:Tf)(f:Sf)(h:D->Sf):D->Sf:=fun d ρ=>(ta ρ).bind fun b=>if b=true then f (ρ.set i (.fz d)) else h d ρ
theorem zRg (i:Nat)(ht:PFT X c ta)(ha:mJ X sa f)(hb:PHs X i sb h):PHs X i [.If c sa sb pos] (zZ5 i ta f h):=by
 intro pins s σ H E I q
 refine qP (zZY ht ha hb) pins s σ H E I ?_
 obtain⟨G0,H0,G,ρ,d,o,hid,hf,k⟩:=q
 unfold zZ5 at hf
 obtain⟨b,h1,hf⟩:=Qq.mp hf
 refine⟨G0,H0,G,ρ,b,hid.good,h1,fun H1 G1 s1=>?_⟩
 have hid1:=hid.later s1.hh
 show if b=true then tFS X.K f E σ H1 else tHS X.K i h E σ H1
 split at hf
 · rename_i hb
   rw[Qi hb]
   obtain⟨T,bT,gu,gd⟩:=hid1.seen
   exact⟨G0,H0,unH G T,_,o,gd,hf,k.mono gu⟩
 · rename_i hb
   rw[Qa hb]
   exact⟨G0,H0,G,ρ,d,o,hid1,hf,k⟩
end
end L2
namespace L2
open PySem PySem.W PySem.Spec PyProof.Rows
section
variable {K:PySem.W.Frag} {G0 H0 G H:Hp} {σ:St} {ρ:List B} {p:Addr} {o:HO} {us:List V}
theorem Good.wrB (g:Good K G0 H0 G H σ ρ)(hp:H p=some (.lst us))(gp:G p=none)(h0:H0 p=none)(ho:∀(k:Nat) (c:B),ρ[k]?=some c->uF c=true->σ[k]?≠some (some (.ref p))):Good K G0 H0 G (upd H p o) σ ρ:=by
 refine⟨⟨fun b u e=>?_,g.st.gg,fun b u e=>?_,g.st.new⟩,?_,g.apart⟩
 · rw[zP (zB e h0)];exact g.st.hh b u e
 · rw[zP (zB e gp)];exact g.st.sub b u e
 · have key:∀(l:List (Option V)) (r:List B),Paired (RB K H0 G H) l r->(∀(k:Nat) (c:B),r[k]?=some c->uF c=true->l[k]?≠some (some (.ref p)))->Paired (RB K H0 G (upd H p o)) l r:=by
     intro l r q
     induction q with
     | nil=>intro _;exact .nil
     | @cons x b l' r' q t ih =>
       intro n
       refine .cons ?_ (ih fun k c h1 h2 h3=>n (k+1) c (by simpa using h1) h2 (by simpa using h3))
       cases q with
       | no=>exact .no
       | fz r=>exact .fz r
       | @ow c us' ds c1 c2 c3 c4 =>
         have hc:c≠p:=fun z=>n 0 _ rfl rfl (by rw[z];rfl)
         exact .ow (by rw[zP hc];exact c1) c2 c3 c4
       | @od c _ _ _ _ c1 c2 c3 c4 c5 c6 =>
         have hc:c≠p:=fun z=>by rw[z,hp] at c1;cases c1
         exact .od (by rw[zP hc];exact c1) c2 c3 c4 c5 c6
       | @mu c oc dc c1 c2 c3 c4 =>
         have hc:c≠p:=fun z=>n 0 _ rfl rfl (by rw[z];rfl)
         exact .mu (by rw[zP hc];exact c1) c2 c3 c4
   exact key σ ρ g.vals ho
end
def tRd (K:PySem.W.Frag)(i:Nat)(f:D->Option D):TE:=fun σ H Q=>∃T d v d',σ[i]?=some (some v)/\Same T H/\RepS K T d v/\f d=some d'/\∀v' H',Same H H'->RepS K T d' v'->Q v' H'
def PRd (X:Cx)(i:Nat)(e:Expr)(f:D->Option D):Prop:=PE X e (tRd X.K i f)
theorem RepSs.get {K:PySem.W.Frag}{T:Hp}{d:D}:∀ {ds:List D} {vs:List V} {j:Nat},RepSs K T ds vs->ds[j]?=some d->∃v,vs[j]?=some v/\RepS K T d v
 | [],_,_,_,e=>by simp at e
 | x::r,vs,j,h,e=>by
   obtain⟨v,vr,rfl,r1,r2⟩:=xM.mp h
   cases j with
   | zero=>cases e;exact⟨v,rfl,r1⟩
   | succ j=>exact RepSs.get (j:=j) r2 (by simpa using e)
theorem zX6 {K:PySem.W.Frag}{T:Hp}{ds:List D}{vs:List V}{n:Int}{d:D}(r:RepSs K T ds vs)(h:atI ds n=some d):∃v,atI vs n=some v/\RepS K T d v:=by
 unfold atI at h ⊢
 rw[r.length] at h
 obtain⟨j,h1,h2⟩:=Qq.mp h
 obtain⟨v,h3,h4⟩:=r.get h2
 exact⟨v,by rw[h1];exact h3,h4⟩
def atS (n:Int):D->Option D | .lst ds=>atI ds n | .tup ds=>atI ds n | _=>none
section
variable {X:Cx} {a e:Expr} {i:Nat} {f g:D->Option D} {pos p:Pos}
theorem zT7 (i:Nat){x:Str}(hN:X.N[i]?=some x:=by rfl)(hv:Vis X.env.scope x:=by first | exact Or.inl rfl | exact Or.inr (Or.inl rfl) | exact Or.inr (Or.inr rfl))(hd:(x==("__debug__":Str))=false:=by decide)(hcd:(x==("__classdict__":Str))=false:=by decide):PRd X i (.Name x pos) some:=by
 intro pins s σ H Q I h
 refine rZ hN hv hd hcd pins s σ H Q I ?_
 obtain⟨T,d,v,d',hv,sT,r,hf,k⟩:=h
 cases hf
 exact⟨v,hv,k v H (Same.refl _) r⟩
def dIx (n:Int)(f:D->Option D):D->Option D:=fun d=>(f d).bind (atS n)
theorem zVB {n:Int}{j:Nat}{p2:Pos}(ha:PRd X i a f)(hs:hW (.Constant (.int n) j p2):=by exact fun _ _=>rfl):PRd X i (.Subscript a (.Constant (.int n) j p2) pos) (dIx n f):=by
 intro pins s σ H Q I h
 refine zWn zSL ha zWF hs pins s σ H Q I ?_
 obtain⟨T,d,v,d',hv,sT,r,hf,k⟩:=h
 unfold dIx at hf
 obtain⟨x,h1,hf⟩:=Qq.mp hf
 refine⟨T,d,v,x,hv,sT,r,h1,fun u H1 s1 r1=>?_⟩
 cases x with
 | lst ds =>
   obtain⟨q,vs,rfl,h2,h3⟩:=sS.mp r1
   obtain⟨w,e,rw'⟩:=zX6 h3 hf
   exact .inl ⟨q,vs,n,w,rfl,rfl,.inl (.inl (s1 _ _ (sT _ _ h2))),e,k w H1 s1 rw'⟩
 | tup ds =>
   obtain⟨q,vs,rfl,h2,h3⟩:=qZ.mp r1
   obtain⟨w,e,rw'⟩:=zX6 h3 hf
   exact .inr (.inl ⟨q,vs,n,w,rfl,rfl,(sT.trans s1).tup h2,e,k w H1 s1 rw'⟩)
 | _=>cases hf
def zSg (K:PySem.W.Frag)(f:D->Option D):Sp:=fun vs H Q _=>∃T d v d',vs=[v]/\Same T H/\RepS K T d v/\f d=some d'/\∀v' H',Same H H'->RepS K T d' v'->Q v' H'
def eY (f g:D->Option D):D->Option D:=fun d=>(f d).bind g
theorem zT8 {k:Nat}{fad:Addr}{fd:FuncData}{ps:List Str}{x:Str}(F:FnOk X.prog X.w X.K X.mg X.base CX0 k fad fd ps (zSg X.K g))(hr:Room k X.A)(hm:X.mg x=some (.ref fad))(hk:PySem.W.keepIn X.K (.ref fad)=true)(hb:Binds X.K fd ps [])(hg:Gl X x)
   (ha:PRd X i e f) (hdb:(x==("__debug__":Str))=false:=by decide) (he:starEach [e] X.env=(false,eval e X.env)::starEach [] X.env:=by rfl) (hpl:(backTo pos (starEach [] X.env)).any (·.1)=false:=by rfl) :
   PRd X i (.Call (.Name x p) [e] [] pos) (eY f g):=by
 intro pins s σ H Q I h
 refine dO (E:=E0) F hr hg hm hk hb .nil gW (yK ha wI he) hdb he hpl pins s σ H Q I ?_
 obtain⟨T,d,v,d',hv,sT,r,hf,k⟩:=h
 unfold eY at hf
 obtain⟨x,h1,hf⟩:=Qq.mp hf
 exact⟨T,d,v,x,hv,sT,r,h1,fun u H1 s1 r1=>⟨T,x,u,d',rfl,sT.trans s1,r1,hf,fun v' H' s' r'=>k v' H' (s1.trans s') r'⟩⟩
theorem zRB {K:PySem.W.Frag}{T H:Hp}{t q:Addr}{vs us:List V}{o:HO}(s:Same T H)(hq:T q=some (.lst us))(h:SqT K T t vs):SqT K (upd H q o) t vs:=by
 rcases h with h | h
 · rcases h with h | ⟨o',h⟩
   · have hn:t≠q:=fun z=>by rw[z,hq] at h;cases h
     exact .inl (.inl (by rw[zP hn];exact s _ _ h))
   · have hn:t≠q:=fun z=>by rw[z,hq] at h;cases h
     exact .inl (.inr ⟨o',by rw[zP hn];exact s _ _ h⟩)
 · exact .inr h
def zZA (f:D->Option D)(d:D):Bool:=match d,f d with | .tup [.str _,.lst _],some (.lst _)=>true | _,_=>false
theorem zUW {f:D->Option D}{d:D}(h:zZA f d=true):∃s xs ys,d = .tup [.str s,.lst xs]/\f d=some (.lst ys):=by
 unfold zZA at h
 split at h
 · rename_i s xs ys e;exact⟨s,xs,ys,rfl,e⟩
 · cases h
def zTl (f:D->Option D):D->Sf:=fun d ρ=>if zZA f d=true then some (.nx ρ) else none
theorem zTG (i:Nat){x:Str}{e1:Expr}{ap cp ap' cp' p1 p2 p3 q1 q2:Pos}{j:Nat}(he:PRd X i e1 f)(hN:X.N[i]?=some x:=by rfl)(hv:Vis X.env.scope x:=by first | exact Or.inl rfl | exact Or.inr (Or.inl rfl) | exact Or.inr (Or.inr rfl))(hd:(x==("__debug__":Str))=false:=by decide)(hcd:(x==("__classdict__":Str))=false:=by decide)
   (hs:hW (.Constant (.int 1) j p2):=by exact fun _ _=>rfl)
   (hb1:attributeBase e1 "clear" X.env (eval e1 X.env)=eval e1 X.env:=by rfl) (hl1:(ap.endLine==cp.line)=true:=by rfl)
   (hb2:attributeBase (.Subscript (.Name x p1) (.Constant (.int 1) j p2) p3) "clear" X.env (eval (.Subscript (.Name x p1) (.Constant (.int 1) j p2) p3) X.env)=eval (.Subscript (.Name x p1) (.Constant (.int 1) j p2) p3) X.env:=by rfl) (hl2:(ap'.endLine==cp'.line)=true:=by rfl)
   (hw1:swapsWith (.Call (.Attribute e1 "clear" ap) [] [] cp) none q1.line X.env=pure false:=by rfl)
   (hw2:swapsWith (.Call (.Attribute (.Subscript (.Name x p1) (.Constant (.int 1) j p2) p3) "clear" ap') [] [] cp') none q2.line X.env=pure false:=by rfl) :
   PHs X i [.Expr (.Call (.Attribute e1 "clear" ap) [] [] cp) q1,.Expr (.Call (.Attribute (.Subscript (.Name x p1) (.Constant (.int 1) j p2) p3) "clear" ap') [] [] cp') q2] (zTl f):=by
 intro pins s σ H E I q
 refine w8 (nL (zSX Tc PySem.F.slot_list_clear PySem.F.type_list_clear zX1 he hb1 hl1) hw1) (qP (nL (zSX Tc PySem.F.slot_list_clear PySem.F.type_list_clear zX1 (zWn zSQ (rZ hN hv hd hcd) zWF hs) hb2 hl2) hw2)) pins s σ H E I ?_
 obtain⟨G0,H0,G,ρ,d,o,hid,hf,k⟩:=q
 have hf:(if zZA f d=true then some (Out.nx ρ) else none)=some o:=hf
 split at hf
 · rename_i ht
   cases hf
   obtain⟨z,xs,ys,rfl,hfd⟩:=zUW ht
   obtain⟨v,T,hv',r,sT,cT⟩:=hid.ex
   have free:∀ {b:Addr} {us:List V},T b=some (.lst us)->H0 b=none/\G b=none/\∀(k:Nat) (c:B),ρ[k]?=some c->uF c=true->σ[k]?≠some (some (.ref b)):=fun {b us} h=>by
     rcases cT b _ h with z | ⟨z1,z2,_,z3⟩ | ⟨_,z⟩
     · cases z
     · exact⟨z1,z2,z3⟩
     · cases z
   obtain⟨t,vs,rfl,q1,q2⟩:=qZ.mp r
   obtain⟨u1,r1,rfl,a1,a2⟩:=xM.mp q2
   obtain⟨u2,r2,rfl,a3,a4⟩:=xM.mp a2
   rw[vQ] at a4;subst a4
   obtain⟨p0,us0,rfl,b1,b2⟩:=sS.mp a3
   refine⟨T,_,.ref t,.lst ys,hv',sT,r,hfd,fun v' H1 s1 w1=>?_⟩
   obtain⟨pp,us1,rfl,c1,c2⟩:=sS.mp w1
   have hp1:H1 pp=some (.lst us1):=s1 _ _ (sT _ _ c1)
   refine⟨.inl ⟨rfl,us1,.inl (.inl hp1)⟩,pp,us1,rfl,rfl,hp1,?_⟩
   have g1:=(hid.later s1).good
   have g2:Good X.K G0 H0 G (upd H1 pp (.lst [])) σ ρ:=g1.wrB hp1 (free c1).2.1 (free c1).1 (free c1).2.2
   have hp0:∃w,upd H1 pp (.lst []) p0=some (.lst w):=by
     by_cases z:p0=pp
     · rw[z,zO];exact⟨_,rfl⟩
     · rw[zP z];exact⟨_,s1 _ _ (sT _ _ b1)⟩
   obtain⟨w,hp0⟩:=hp0
   refine⟨.ref t,hv',t,[u1,.ref p0],1,.ref p0,rfl,rfl,zRB (sT.trans s1) c1 q1,rfl,.inl ⟨rfl,w,.inl (.inl hp0)⟩,p0,w,rfl,rfl,hp0,?_⟩
   exact k σ _ G (Same.refl _) (g2.wrB hp0 (free b1).2.1 (free b1).1 (free b1).2.2)
 · cases hf
end
end L2
namespace L2
open PySem PySem.W PySem.Spec PyProof.Rows
def iN (ta:Tf)(f:D->Option D):Nat->D->Option D
 | 0,_=>none
 | k+1,d=>(ta [.fz d]).bind fun b=>if b=true then(f d).bind (iN ta f k) else some d
def tRS (K:PySem.W.Frag)(f:D->Option D):TS:=fun E σ H=>∃T d v d',σ=[some v]/\Same T H/\RepS K T d v/\f d=some d'/\∀v' H',Same H H'->RepS K T d' v'->E.rt v' H'
theorem zSJ {K:PySem.W.Frag}{T H:Hp}{d:D}{v:V}(s:Same T H)(r:RepS K T d v):Good K T H T H [some v] [.fz d] :=
 ⟨.refl s,.cons (.fz (RepS.rep _ _ r)) .nil,fun i j a b c h1 _ o1 _=>by
   cases i with
   | zero=>cases h1;cases o1
   | succ i=>simp at h1⟩
section
variable {X:Cx} {c e:Expr} {ta:Tf} {f:D->Option D} {q1 q2 q3:Pos}
theorem zTi {x:Str}{pos' pos2:Pos}(n:Nat)(hp:PassesOwn (model X.prog X.w) X.A X.env X.xe)(hN:X.N.Nodup)(hc:PFT X c ta)(he:PRd X 0 e f)(hi:X.N[0]?=some x:=by rfl)(hx:Loc X.env.scope x:=by first | exact .inl rfl | exact .inr rfl)(hs:swapsWith e (some (.Name x pos')) q1.line X.env=pure false:=by rfl)
   (hf:X.fn x=true∨X.env.scope.names.lookup x=some .local:=by first | exact .inl rfl | exact .inr rfl) (hv:Vis X.env.scope x:=by first | exact Or.inl rfl | exact Or.inr (Or.inl rfl) | exact Or.inr (Or.inr rfl)) (hd:(x==("__debug__":Str))=false:=by decide) (hcd:(x==("__classdict__":Str))=false:=by decide) :
   PSs X [.While c [.Assign [.Name x pos'] e q1] [] q2,.Return (some (.Name x pos2)) q3] (tRS X.K (iN ta f n)):=by
 intro pins s σ H E I q
 refine w8 (zYj hp hc (qP (mP hN hi hx he hs hf))) (qP (zXb (rZ hi hv hd hcd))) pins s σ H E I ?_
 obtain⟨T,d,v,d',rfl,sT,r,hfd,k⟩:=q
 refine⟨fun m σ H1=>∃d v,σ=[some v]/\Same H H1/\RepS X.K T d v/\iN ta f m d=some d',⟨n,d,v,rfl,Same.refl _,r,hfd⟩,?_⟩
 rintro m σ H1 ⟨d,v,rfl,s1,r,hm⟩
 cases m with
 | zero=>cases hm
 | succ m =>
   unfold iN at hm
   obtain⟨b,h1,hm⟩:=Qq.mp hm
   refine⟨T,H1,T,[.fz d],b,zSJ (sT.trans s1) r,h1,fun H2 G2 s2=>?_⟩
   split at hm
   · rename_i hb
     show if b=true then _ else _
     rw[Qi hb]
     obtain⟨d2,h2,hm⟩:=Qq.mp hm
     refine⟨fun σ' H'=>∃d v,σ'=[some v]/\Same H H'/\RepS X.K T d v/\iN ta f m d=some d',fun σ' H' h=>⟨m,Ym m,h⟩,T,d,v,d2,rfl,(sT.trans s1).trans s2.hh,r,h2,fun v' H3 s3 r'=>?_⟩
     exact⟨d2,v',rfl,(s1.trans s2.hh).trans s3,r',hm⟩
   · rename_i hb
     show if b=true then _ else _
     rw[Qa hb]
     cases hm
     exact⟨v,rfl,k v H2 (s1.trans s2.hh) r⟩
end
section
variable {P:Program} {w:World} {K:PySem.W.Frag} {mg:Str->Option Value} {base:Heap} {x qual y:Str} {st:Stmt} {f:Addr} {fd:FuncData} {k:Nat} {g:D->Option D}
theorem zRy (F:Fun K x qual st f fd)(S:FnScope [y] [y] (zU st))
   (hb:∀(cdv:Value) (A:Around) (outer:List Env) (s:Shared) (H:Hp) (E:XK),Room k (A.deeper (envOfC qual (zU st) s.heap.objs.size f cdv))->PSs (jT CX0 P w K mg base [y] qual (zU st) f cdv A outer s H E).nox (xY st) (tRS K g)) :
   FnOk P w K mg base CX0 (k+1) f fd [y] (zSg K g):=by
 refine F.ok S (fun vs H Q E h=>?_) (fun cdv A outer s H vs Q E hr h=>⟨_,hb cdv A outer s H E hr,?_⟩)
 · obtain⟨T,d,v,d',rfl,_⟩:=h
   rfl
 · obtain⟨T,d,v,d',rfl,sT,r,hf,k⟩:=h
   exact⟨T,d,v,d',rfl,sT,r,hf,fun v' H' s' r'=>k v' H' s' r'⟩
end
end L2
namespace L2
open PySem PySem.W PySem.Spec PyProof.Rows
section
variable {X:Cx} {o e:Expr} {fa:Ef} {apos cpos pos p:Pos}
theorem zTP {pl:Sem Bool}{c m:Str}{k n:Nat}{C fad:Addr}{fd:FuncData}{ps:List Str}{d:List D->Option D}(hC:ClsAt X.K c C)(hcl:Cls X.K C)(hm:Meth X.K C m fad)(F:FnOk X.prog X.w X.K X.mg X.base CX0 k fad fd ps (aH X.K n d))(hr:Room k X.A)(hb:Binds X.K fd ps [])
   (ho:PF X o fa)
   (ht:eval (.Call (.Attribute o m apos) [] [] cpos) X.env=(do
     let ov ←eval o X.env
     standAt apos.atName
     let (f,first) ←holding [ov] (getMethod ov m pl)
     callWith cpos f first (backTo cpos (starEach [] X.env)) (backToKw cpos (keywordEach [] X.env))):=by rfl) :
   PNw X (.Call (.Attribute o m apos) [] [] cpos) (kF c m n d fa zN):=by
 refine PE.toN (zXm (pl:=pl) (E:=E0) ho hcl hm F hr hb .nil gW ht) ?_
 rintro σ H Q ⟨G0,H0,G,ρ,r,good,hf,kk⟩
 unfold kF at hf
 obtain⟨x,h1,hf1⟩:=Qq.mp hf
 obtain⟨ds,h2,hf2⟩:=Qq.mp hf1
 clear hf hf1
 cases h2
 cases x with
 | obj c' ns xs =>
   dsimp only at hf2
   split at hf2
   · rename_i hq
     obtain⟨rfl,hl,hmn⟩:=hq
     refine⟨G0,H0,G,ρ,_,good,h1,fun v H1 G1 s1 r1=>?_⟩
     obtain⟨C',q,dx,vs,r2,rfl,r3,r4,r5⟩:=lD.mp r1
     have ec:=hC.one r2
     subst ec
     refine⟨q,dx,_,rfl,s1.sub _ _ r3,uV hmn,?_⟩
     exact⟨G1,[.obj c' ns xs],r,s1.sub,zQ.mpr ⟨_,_,rfl,r1,zK.mpr rfl⟩,hl,hf2,fun v H' G' T st nw rr=>kk v H' G' T (s1.trans st) (nw.old s1) rr⟩
   · cases hf2
 | _=>cases hf2
def cK (i k:Nat)(f:Ef):Ef:=fun ρ=>(cA i k ρ).bind f
theorem zUe (i k:Nat)(h:PNw X e fa):PNw X e (cK i k fa):=by
 refine PE.toN h ?_
 rintro σ H Q ⟨G0,H0,G,ρ,d,good,hf,kk⟩
 unfold cK at hf
 obtain⟨ρ',h1,hf1⟩:=Qq.mp hf
 obtain⟨dm,q1,q2,q3,rfl⟩:=fX h1
 obtain⟨p,o,hG,hH,ro,good'⟩:=good.lendM q1 (by rw[q2];exact q3)
 refine⟨G0,H0,_,_,_,good',hf1,fun v H' G1 T s nw r=>?_⟩
 obtain⟨st,hp⟩:=s.backM hG hH ro.nt
 refine kk v H' _ T st ⟨nw.sub,fun b u q=>?_⟩ r
 rcases nw.lst b u q with z | z | ⟨z1,z2⟩
 · exact .inl z
 · exact .inr (.inl z)
 · by_cases hb:b=p
   · rw[hb,zO] at z1
     cases z1
     exfalso
     cases dm with
     | obj _ _ _=>obtain⟨_,_,_,_,e,_⟩:=ro;rw[e] at z2;cases z2
     | dct _ _=>obtain⟨_,e,_⟩:=ro;rw[e] at z2;cases z2
     | _=>exact ro.elim
   · rw[zP hb] at z1;exact .inr (.inr ⟨z1,z2⟩)
theorem zP2 {k j n:Nat}{y:Str}{st:Stmt}{ps:List Str}{es:List Expr}{ga:Lf}{t:FnT X.K X.mg y st ps}{fD:List D->Option D}(F:FnOk X.prog X.w X.K X.mg X.base CX0 j t.f t.fd ps (aH X.K n fD))(hr:Room k X.A)(ha:PFA X (e::es) ga)(hj:j<=k:=by lia)(hg:Gl X y:=by rfl)(hdb:(y==("__debug__":Str))=false:=by decide)(he:starEach (e::es) X.env=(false,eval e X.env)::starEach es X.env:=by rfl)(hpl:(backTo pos (starEach es X.env)).any (·.1)=false:=by rfl) :
   PNw X (.Call (.Name y p) (e::es) [] pos) (zL n fD ga):=zSo F (hr.mono hj) t.m t.F.kp t.b hg ha hdb he hpl
theorem zOr {k j i:Nat}{y:Str}{st:Stmt}{ps:List Str}{f g:D->Option D}{t:FnT X.K X.mg y st ps}(F:FnOk X.prog X.w X.K X.mg X.base CX0 j t.f t.fd ps (zSg X.K g))(hr:Room k X.A)(ha:PRd X i e f)(hj:j<=k:=by lia)(hg:Gl X y:=by rfl)(hdb:(y==("__debug__":Str))=false:=by decide)(he:starEach [e] X.env=(false,eval e X.env)::starEach [] X.env:=by rfl)(hpl:(backTo pos (starEach [] X.env)).any (·.1)=false:=by rfl) :
   PRd X i (.Call (.Name y p) [e] [] pos) (eY f g):=zT8 F (hr.mono hj) t.m t.F.kp t.b hg ha hdb he hpl
end
end L2
namespace L2
open PySem PySem.Spec PyProof.Rows
theorem sZ {f g:Sf}{ρ ρ':List B}(h:f ρ=some (.nx ρ')):zC f g ρ=g ρ':=by unfold zC;rw[h];rfl
theorem xU {f g:Sf}{ρ ρ':List B}{r:Option D}(h:f ρ=some (.nx ρ'))(k:(g ρ').bind vV=r):(zC f g ρ).bind vV=r:=by rw[sZ h];exact k
theorem zVA {f g:Sf}{ρ:List B}{d:D}(h:f ρ=some (.rt d)):zC f g ρ=some (.rt d):=by unfold zC;rw[h];rfl
theorem oB {g:Gf}{body:Sf}{d:D}{r:List D}{ρ ρ1 ρ2:List B}(h1:g d ρ=some ρ1)(h2:body ρ1=some (.nx ρ2)):lW g body (d::r) ρ=lW g body r ρ2:=by
 rw[lW,h1,Qw,h2,Qw]
theorem zR {f:Ef}{g:Lf}{ρ:List B}{d:D}{ds:List D}(h1:f ρ=some d)(h2:g ρ=some ds):zY f g ρ=some (d::ds):=by unfold zY;rw[h1,h2];rfl
theorem xB {g:Lf}{ρ:List B}{ds:List D}(h:g ρ=some ds):eL g ρ=some (.lst ds):=by unfold eL;rw[h];rfl
theorem aT {n:Nat}{f:List D->Option D}{g:Lf}{ρ:List B}{ds:List D}(h:g ρ=some ds)(hl:ds.length=n):zL n f g ρ=f ds:=by unfold zL;rw[h,Qw,Qi hl]
theorem zUv {c:Str}{ns:List Str}{n:Nat}{f:List D->Option (List D)}{g:Lf}{ρ:List B}{ds xs:List D}(h:g ρ=some ds)(hl:ds.length=n)(hf:f ds=some xs)(hn:ns.length=xs.length):lN c ns n f g ρ=some (.obj c ns xs):=by
 unfold lN;rw[h,Qw,Qi hl,hf,Qw,Qi hn]
theorem cY {g:Gf}{body:Sf}{P:List B->Prop}:∀(ds:List D),(∀d∈ds,∀ρ,P ρ->∃ρ1 ρ2,g d ρ=some ρ1/\body ρ1=some (.nx ρ2)/\P ρ2)->∀ρ,P ρ->∃ρ',lW g body ds ρ=some (.nx ρ')/\P ρ'
 | [],_,ρ,h=>⟨ρ,rfl,h⟩
 | d::r,hs,ρ,h=>by
   obtain⟨ρ1,ρ2,e1,e2,h2⟩:=hs d Qb ρ h
   obtain⟨ρ',e,h'⟩:=cY r (fun d hd=>hs d (Qj _ hd)) ρ2 h2
   exact⟨ρ',by rw[oB e1 e2];exact e,h'⟩
theorem zYR {g:Gf}{body:Sf}{P:Nat->List B->Prop}:∀(ds:List D) (n:Nat),(∀(i:Nat) (d:D),ds[i]?=some d->∀ρ,P (n+i) ρ->∃ρ1 ρ2,g d ρ=some ρ1/\body ρ1=some (.nx ρ2)/\P (n+i+1) ρ2)->∀ρ,P n ρ->∃ρ',lW g body ds ρ=some (.nx ρ')/\P (n+ds.length) ρ'
 | [],_,_,ρ,h=>⟨ρ,rfl,h⟩
 | d::r,n,hs,ρ,h=>by
   obtain⟨ρ1,ρ2,e1,e2,h2⟩:=hs 0 d rfl ρ h
   obtain⟨ρ',e,h'⟩:=zYR r (n+1) (fun i d hd ρ hρ=>by
     have q:=hs (i+1) d (by simpa using hd) ρ (by rw[show n+(i+1)=n+1+i by lia];exact hρ)
     rw[show n+(i+1)+1=n+1+i+1 by lia] at q
     exact q) ρ2 h2
   exact⟨ρ',by rw[oB e1 e2];exact e,by rw[Qs,show n+(r.length+1)=n+1+r.length by lia];exact h'⟩
theorem bD {lo:Int}{n:Nat}{d:D}(h:d∈sI lo n):∃i:Nat,i < n/\d = .int (lo+i):=by
 unfold sI at h
 obtain⟨i,hi,rfl⟩:=Tt.mp h
 exact⟨i,Oc.mp hi,rfl⟩
theorem zUn {lo:Int}{n i:Nat}{d:D}(h:(sI lo n)[i]?=some d):i < n/\d = .int (lo+i):=by
 have hl:(sI lo n).length=n:=by simp[sI]
 have hi:i < n:=by rw[←hl];exact(We.mp h).1
 unfold sI at h
 rw[Ws,Um hi] at h
 exact⟨hi,(Wg h).symm⟩
theorem mO (lo:Int)(n:Nat):(sI lo n).length=n:=by simp[sI]
theorem tN {t:List D}(h:t.length<=100000):okL t=some t:=by
 unfold okL
 rw[Qi h]
theorem mK {α:Type}(xs:List α)(i:Int)(d:α)(h0:0<=i)(h1:i < xs.length):atI xs i=some (xs.getD i.toNat d):=by
 unfold atI ixN
 rw[Qi h0,Qi h1]
 have:i.toNat < xs.length:=by lia
 simp[List.getD,this]
theorem zYG {α β:Type}(f:α->β)(xs:List α)(i:Int):atI (xs.map f) i=(atI xs i).map f:=by
 unfold atI
 rw[Qu]
 cases ixN xs.length i with
 | none=>rfl
 | some j=>simp
theorem rA {i j:Int}(h1 : -18446744073709551616 < i)(h2:i < 18446744073709551616):mT i j=true:=by
 unfold mT;simp only[Tg,Wb,Ej];exact .inl ⟨by lia,by lia⟩
theorem zQH {i j:Int}(h1 : -18446744073709551616 < j)(h2:j < 18446744073709551616):mT i j=true:=by
 unfold mT;simp only[Tg,Wb,Ej];exact .inr ⟨by lia,by lia⟩
theorem mM (x y:Str):(x++y).length=x.length+y.length:=Str.length_append x y
theorem zWx {x y:Str}(h:x.length+y.length<=100000):zQG (.str x) (.str y)=some (.str (x++y)):=by
 show(if x.length+y.length<=lim then _ else none)=_
 rw[Qi h]
theorem zS7 {x:Str}{i:Int}(h0:0<=i)(h1:i < x.length)(h:x.length<=100000):atD (.str x) (.int i)=some (.str ⟨#[x.cps.toList.getD i.toNat 0]⟩):=by
 have hl:x.cps.toList.length=x.length:=Wj
 show(if x.length<=lim then _ else none)=_
 rw[Qi h,mK _ i 0 h0 (by rw[hl];exact h1)]
 rfl
end L2
namespace My
open PySem L2
abbrev lX:Stmt:=top 20
abbrev jJ:Stmt:=top 21
abbrev oH:Stmt:=top 22
abbrev oM:Stmt:=top 24
abbrev pZ:Stmt:=top 25
abbrev kA:Stmt:=top 19
abbrev kY:Stmt:=top 26
abbrev mC:Stmt:=top 23
abbrev sP:Stmt:=top 27
abbrev nC:Stmt:=top 30
abbrev gI:Stmt:=top 14
abbrev zWu:Stmt:=top 7
abbrev zV3:Stmt:=top 8
abbrev rP:Stmt:=top 9
abbrev jG:Stmt:=top 12
abbrev pO:Stmt:=top 10
abbrev uN:Stmt:=uX (top 17) 1
abbrev iB:Stmt:=top 13
abbrev uY:Stmt:=top 11
abbrev vU:Stmt:=uX (top 17) 2
abbrev jV:Stmt:=top 28
abbrev jM:Stmt:=top 29
abbrev tQ:Stmt:=top 31
abbrev qY:Stmt:=top 15
abbrev wM:Stmt:=uX (top 17) 5
abbrev zTN:Stmt:=top 32
abbrev rX:Stmt:=uX (top 6) 0
abbrev oP:Stmt:=uX (top 17) 0
set_option genInjectivity false
set_option genSizeOf false
set_option genSizeOfSpec false
structure Txt (K:PySem.W.Frag)(mg:Str->Option Value) where
 q0:FnT K mg "_law_mixed" lX ["_law_cell_here","_law_k"]
 q1:FnT K mg "_law_word" jJ ["_law_seed","_law_j"]
 q2:FnT K mg "_law_pool" oH ["_law_seed"]
 q3:FnT K mg "_law_number" oM ["_law_found"]
 q4:FnT K mg "_law_entries" pZ ["_law_found","_law_due_here"]
 q5:FnT K mg "_law_cell" kA ["_law_script","_law_k"]
 q6:FnT K mg "_law_due" kY ["_law_kept_here"]
 q7:FnT K mg "_law_entry" mC ["_law_pool_here","_law_cell_here","_law_k"]
 q8:FnT K mg "_law_deeds" sP ["_law_pool_here","_law_cell_here","_law_kept_here"]
 q9:FnT K mg "_law_flat" nC ["_law_told"]
 q10:FnT K mg "root_of" gI ["pages"]
 q11:FnT K mg "rank" zWu ["entry"]
 q12:FnT K mg "way" zV3 ["branch","entry"]
 q13:FnT K mg "entry_like" rP ["page","entry"]
 q14:FnT K mg "pages_of" jG ["leaf","things","size"]
 q15:FnT K mg "put_beneath" pO ["page","entry","size"]
 q17:FnT K mg "filled" iB ["pages","size"]
 q18:FnT K mg "taken_beneath" uY ["page","entry","size"]
 q20:FnT K mg "_law_done" jV ["_law_store","_law_deed"]
 q21:FnT K mg "_law_kept" jM ["_law_kept_here","_law_deed"]
 q22:FnT K mg "_law_first_leaf" tQ ["_law_told"]
 q23:FnT K mg "shape_of" qY ["page"]
 q25:FnT K mg "law" zTN ["_law_script"]
 C_Page:Addr
 fi_Page:Addr
 fdi_Page:FuncData
 ca_Page:ClsAt K "Page" C_Page
 cl_Page:Cls K C_Page
 mc_Page:mg "Page"=some (.ref C_Page)
 Fi_Page:Fun K "__init__" "Page.__init__" rX fi_Page fdi_Page
 bi_Page:Binds K fdi_Page ["self","leaf","things"] []
 mk_Page:Mk K C_Page fi_Page
 n_Page_leaf:NoAttr K C_Page "leaf"
 n_Page_leasts:NoAttr K C_Page "leasts"
 n_Page_most:NoAttr K C_Page "most"
 n_Page_things:NoAttr K C_Page "things"
 C_Store:Addr
 fi_Store:Addr
 fdi_Store:FuncData
 ca_Store:ClsAt K "Store" C_Store
 cl_Store:Cls K C_Store
 mc_Store:mg "Store"=some (.ref C_Store)
 Fi_Store:Fun K "__init__" "Store.__init__" oP fi_Store fdi_Store
 bi_Store:Binds K fdi_Store ["self","size"] []
 mk_Store:Mk K C_Store fi_Store
 n_Store_root:NoAttr K C_Store "root"
 n_Store_size:NoAttr K C_Store "size"
 f_Store_put:Addr
 fd_Store_put:FuncData
 F_Store_put:Fun K "put" "Store.put" uN f_Store_put fd_Store_put
 b_Store_put:Binds K fd_Store_put ["self","entry"] []
 me_Store_put:Meth K C_Store "put" f_Store_put
 f_Store_take:Addr
 fd_Store_take:FuncData
 F_Store_take:Fun K "take" "Store.take" vU f_Store_take fd_Store_take
 b_Store_take:Binds K fd_Store_take ["self","entry"] []
 me_Store_take:Meth K C_Store "take" f_Store_take
 f_Store_shape:Addr
 fd_Store_shape:FuncData
 F_Store_shape:Fun K "shape" "Store.shape" wM f_Store_shape fd_Store_shape
 b_Store_shape:Binds K fd_Store_shape ["self"] []
 me_Store_shape:Meth K C_Store "shape" f_Store_shape
 z_bool:mg "bool"=none
 z_enumerate:mg "enumerate"=none
 z_int:mg "int"=none
 z_isinstance:mg "isinstance"=none
 z_len:mg "len"=none
 z_list:mg "list"=none
 z_max:mg "max"=none
 z_min:mg "min"=none
 z_range:mg "range"=none
 z_sorted:mg "sorted"=none
 z_str:mg "str"=none
 z_tuple:mg "tuple"=none
 z_zip:mg "zip"=none
set_option genInjectivity true
set_option genSizeOf true
set_option genSizeOfSpec true
section
seal PySem.Sem.wp
variable {P:Program} {w:World} {K:PySem.W.Frag} {mg:Str->Option Value} {base:Heap}
theorem zYe:FnScope ["self","leaf","things","lasts"] ["self","leaf","things"] (zU rX):=xC (by decide +kernel)
def zZm:Lf:=(fun ρ=>((eIf (tB1 (eV 1)) (eL (yC (iL (eV 2)) 1 [] (gN 0) tOK (eIx (eV 0) (eC (.int 1))))) (eL (yC (iL (eV 2)) 1 [] (gN 0) tOK (yY "Page" "most" (eV 0))))) ρ).bind fun d=>(zY (eV 1) (zY (eV 2) (zY (eIf (tB1 (eV 1)) (eV 2) (eL (yC (iL (eV 2)) 1 [] (gN 0) tOK (eIx (yY "Page" "leasts" (eV 0)) (eC (.int 0)))))) (zY (zZR (iL (eV 3))) zN)))) (ρ.set 3 (.fz d)))
def rR:List D->Option (List D):=fun ds=>zZm (lO 4 ds)
theorem oZ (T:Txt K mg):FnOk P w K mg base CX0 1 T.fi_Page T.fdi_Page ["self","leaf","things"] (spI K T.C_Page ["leaf","things","leasts","most"] 2 rR) :=
 zUj (k:=0) T.Fi_Page zYe (by decide +kernel) (by decide) fun cdv A outer s H E hr =>
   (zRw 3 zYe.nd (zUo (xG (zX 1)) (vF (rW (zU rX) ["self","leaf","things","lasts"] ["entry"] [] [] (mS 0) (aP (zX 2)) rfl rfl rfl (by decide +kernel) (fun _ _ _ _=>(uU 0 (show(List.Nodup (α:=PySem.Str) ["entry"]) from by decide +kernel))) (fun _ _ _ _=>wL) (fun _ _ _ _=>(yW (zX 0) zW)))) (vF (rW (zU rX) ["self","leaf","things","lasts"] ["page"] [] [] (mS 0) (aP (zX 2)) rfl rfl rfl (by decide +kernel) (fun _ _ _ _=>(uU 0 (show(List.Nodup (α:=PySem.Str) ["page"]) from by decide +kernel))) (fun _ _ _ _=>wL) (fun _ _ _ _=>(yX T.ca_Page T.cl_Page T.n_Page_most (zX 0)))))) (oV T.cl_Page T.n_Page_leaf rfl (Or.inl rfl) (zX 1) (oV T.cl_Page T.n_Page_things rfl (Or.inl rfl) (zX 2) (oV T.cl_Page T.n_Page_leasts rfl (Or.inl rfl) (zUo (xG (zX 1)) (zX 2) (vF (rW (zU rX) ["self","leaf","things","lasts"] ["page"] [] [] (mS 0) (aP (zX 2)) rfl rfl rfl (by decide +kernel) (fun _ _ _ _=>(uU 0 (show(List.Nodup (α:=PySem.Str) ["page"]) from by decide +kernel))) (fun _ _ _ _=>wL) (fun _ _ _ _=>(yW (yX T.ca_Page T.cl_Page T.n_Page_leasts (zX 0)) zW))))) (oV T.cl_Page T.n_Page_most rfl (Or.inl rfl) (zSb rfl rfl T.z_max (iI (zX 3))) zV9)))))
theorem zU7:FnScope ["self","size"] ["self","size"] (zU oP):=xC (by decide +kernel)
def zXp:Lf:=(zY (eV 1) (zY (lN "Page" ["leaf","things","leasts","most"] 2 rR (zY (eC (.bl true)) (zY (eL (wQ zN)) zN))) zN))
def bF:List D->Option (List D):=fun ds=>zXp (lO 2 ds)
theorem zVr (T:Txt K mg):FnOk P w K mg base CX0 3 T.fi_Store T.fdi_Store ["self","size"] (spI K T.C_Store ["size","root"] 1 bF) :=
 zR3 (k:=2) T.Fi_Store zU7 (by decide +kernel) (by decide) fun cdv A outer s H E hr =>
   (oV T.cl_Store T.n_Store_size rfl (Or.inl rfl) (zX 1) (oV T.cl_Store T.n_Store_root rfl (Or.inl rfl) (kW T.ca_Page T.mk_Page (oZ T) (hr.mono (by lia)) T.mc_Page T.bi_Page rfl (zZ oY (zZ (vF (xK zT)) zT))) zV9))
theorem oE:FnScope ["_law_cell_here","_law_k","_law_number_here"] ["_law_cell_here","_law_k"] (zU lX):=xC (by decide +kernel)
def kQ:Sf:=(xT (sE (yA (oU (eV 2) (eV 2)) (eC (.int 2147483629))) (eC (.int 3))))
def pW:Sf:=(zC (yO 2 (yA (uJ (uJ (eV 2) (eC (.int 12345))) (oU (eC (.int 7919)) (eV 1))) (eC (.int 2147483647))))
   (kQ))
def tJ:Sf:=(zC (yO 2 (oU (yA (eV 0) (eC (.int 1000000007))) (uJ (eC (.int 48271)) (oU (oU (eC (.int 2)) (eV 1)) (eV 1)))))
   (pW))
def zX2:Sf :=
   (tJ)
def yE:List D->Option D:=fnF 3 zX2
theorem xQ (T:Txt K mg):OkT P w base T.q0 1 2 yE :=
 vD (k:=0) T.q0.F oE fun cdv A outer s H E hr =>
   (zV tJ rfl (zH 2 oE.nd (uH (yR (zX 0) zW) (vG zW (uH (uH zW (zX 1)) (zX 1)))))
     (zV pW rfl (zH 2 oE.nd (yR (vG (vG (zX 2) zW) (uH zW (zX 1))) zW))
     (zM (zG (tP (yR (uH (zX 2) (zX 2)) zW) zW)))))
theorem yM:FnScope ["_law_seed","_law_j","_law_letters","_law_number_here","_law_family","_law_lead","_law_more","_law_far","_law_size","_law_at","_law_word_here","_law_k","_law_sign"] ["_law_seed","_law_j"] (zU jJ):=xC (by decide +kernel)
def tE:Sf:=(yO 10 (xA (eV 10) (eIx (eV 2) (yA (zL 2 yE (zY (eV 0) (zY (xA (eC (.int 20)) (eV 11)) zN))) (eC (.int 26))))))
def kJ:Sf:=(xT (xA (xA (gA (eV 10) oNo (xN (eV 9))) (eV 12)) (gA (eV 10) (xN (xA (eV 9) (eC (.int 1)))) oNo)))
def pU:Sf:=(zC (yO 12 (eIx (eV 2) (yA (xA (sE (eV 3) (eC (.int 144))) (eV 1)) (eC (.int 26)))))
   (kJ))
def pF:Sf:=(zC (lQ (iR (eV 8)) (gN 11) (tE))
   (pU))
def pH:Sf:=(zC (yO 10 (eC (.str "")))
   (pF))
def nG:Sf:=(zC (yO 9 (yA (sE (eV 3) (eC (.int 12))) (eV 8)))
   (pH))
def nM:Sf:=(zC (yO 8 (xA (eC (.int 1)) (yA (eV 3) (eC (.int 12)))))
   (nG))
def rL:Sf:=(zC (sIf (eB2 gEq (eV 4) (eC (.int 2))) (xT (xA (bH (eIx (eV 2) (yA (eV 3) (eC (.int 26)))) (xA (eC (.int 1)) (sE (eV 1) (eC (.int 2))))) (bH (eIx (eV 2) (yA (eV 7) (eC (.int 26)))) (yA (eV 1) (eC (.int 2)))))) sR)
   (nM))
def vR:Sf:=(zC (sIf (eB2 gEq (eV 4) (eC (.int 1))) (xT (xA (eV 5) (bH (eV 6) (yA (xA (sE (eV 3) (eC (.int 676))) (oU (eC (.int 5)) (eV 1))) (eC (.int 12)))))) sR)
   (rL))
def nV:Sf:=(zC (yO 7 (xA (xA (yA (eV 3) (eC (.int 26))) (eC (.int 1))) (yA (sE (eV 3) (eC (.int 26))) (eC (.int 25)))))
   (vR))
def nJ:Sf:=(zC (yO 6 (eIx (eV 2) (yA (sE (eV 3) (eC (.int 26))) (eC (.int 26)))))
   (nV))
def nW:Sf:=(zC (yO 5 (eIx (eV 2) (yA (xA (eV 3) (oU (eC (.int 7)) (eV 1))) (eC (.int 26)))))
   (nJ))
def nA:Sf:=(zC (yO 4 (yA (zL 2 yE (zY (eV 0) (zY (eC (.int 14)) zN))) (eC (.int 3))))
   (nW))
def oJ:Sf:=(zC (yO 3 (zL 2 yE (zY (eV 0) (zY (eC (.int 11)) zN))))
   (nA))
def rV:Sf:=(zC (yO 2 (eC (.str "abcdefghijklmnopqrstuvwxyz")))
   (oJ))
def zWI:Sf :=
   (rV)
def rC:List D->Option D:=fnF 13 zWI
theorem zYo (T:Txt K mg):OkT P w base T.q1 2 2 rC :=
 vD (k:=1) T.q1.F yM fun cdv A outer s H E hr =>
   (zV rV rfl (zH 2 yM.nd tS)
     (zV oJ rfl (zH 3 yM.nd (xX (xQ T) hr (zZ (zX 0) (zZ zW zT))))
     (zV nA rfl (zH 4 yM.nd (yR (xX (xQ T) hr (zZ (zX 0) (zZ zW zT))) zW))
     (zV nW rfl (zH 5 yM.nd (yW (zX 2) (yR (wG (zX 3) (uH zW (zX 1))) zW)))
     (zV nJ rfl (zH 6 yM.nd (yW (zX 2) (yR (tP (zX 3) zW) zW)))
     (zV nV rfl (zH 7 yM.nd (wG (wG (yR (zX 3) zW) zW) (yR (tP (zX 3) zW) zW)))
     (zV vR rfl (wX (yU gS (zX 4) zW) (zM (zG (wG (zX 5) (zZu (zX 6) (yR (wG (tP (zX 3) zW) (uH zW (zX 1))) zW))))) yL)
     (zV rL rfl (wX (yU gS (zX 4) zW) (zM (zG (wG (zZu (yW (zX 2) (yR (zX 3) zW)) (wG zW (tP (zX 1) zW))) (zZu (yW (zX 2) (yR (zX 7) zW)) (yR (zX 1) zW))))) yL)
     (zV nM rfl (zH 8 yM.nd (wG zW (yR (zX 3) zW)))
     (zV nG rfl (zH 9 yM.nd (yR (tP (zX 3) zW) (zX 8)))
     (zV pH rfl (zH 10 yM.nd tS)
     (zV pF rfl (nE El rfl (zU0 rfl T.z_range (zX 8)) (uU 11 yM.nd) (zM (zH 10 yM.nd (wG (zX 10) (yW (zX 2) (yR (xX (xQ T) hr (zZ (zX 0) (zZ (wG zW (zX 11)) zT))) zW))))))
     (zV pU rfl (zH 12 yM.nd (yW (zX 2) (yR (wG (tP (zX 3) zW) (zX 1)) zW)))
     (zM (zG (wG (wG (zZ9 (zX 10) lT (rD (zX 9))) (zX 12)) (zZ9 (zX 10) (rD (wG (zX 9) zW)) lT)))))))))))))))))
theorem fF:FnScope ["_law_seed","_law_words"] ["_law_seed"] (zU oH):=xC (by decide +kernel)
def iM:Sf:=(aN 1 (xT (wD (zY (eV 1) (zY (yA (zL 2 yE (zY (eV 0) (zY (eC (.int 12)) zN))) (eC (.int 3))) (zY (yA (zL 2 yE (zY (eV 0) (zY (eC (.int 13)) zN))) (eC (.int 3))) zN))))))
def rU:Sf:=(zC (kB 1 (yC (iR (eC (.int 14))) 1 [0] (gN 0) tOK (zL 2 rC (zY (eV 1) (zY (eV 0) zN)))))
   (iM))
def zXj:Sf :=
   (rU)
def jK:List D->Option D:=fnF 2 zXj
theorem zXC (T:Txt K mg):OkT P w base T.q2 3 1 jK :=
 vD (k:=2) T.q2.F fF fun cdv A outer s H E hr =>
   (zV rU rfl (mZ (zU oH) ["_law_seed","_law_words"] ["_law_j"] ["_law_seed"] [0] (mS 0) 1 fF.nd rfl rfl (zU0 rfl T.z_range zW) rfl rfl rfl (by decide +kernel) (fun _ _ _ _=>(uU 0 (show(List.Nodup (α:=PySem.Str) ["_law_j","_law_seed"]) from by decide +kernel))) (fun _ _ _ _=>wL) (fun _ _ _ _=>(xX (zYo T) hr (zZ (zX 1) (zZ (zX 0) zT)))))
     (zM (bQ 1 (zG (tM (zZ (zX 1) (zZ (yR (xX (xQ T) hr (zZ (zX 0) (zZ zW zT))) zW) (zZ (yR (xX (xQ T) hr (zZ (zX 0) (zZ zW zT))) zW) zT))))))))
theorem aI:FnScope ["_law_found"] ["_law_found"] (zU oM):=xC (by decide +kernel)
def bJ:Sf:=(xT (zRa (zYw isInt (eV 0)) (zSj (yD (tB1 (zYw jY (eV 0)))))))
def zYN:Sf :=
   (bJ)
def rS:List D->Option D:=fnF 1 zYN
theorem pL (T:Txt K mg):OkT P w base T.q3 1 1 rS :=
 vD (k:=0) T.q3.F aI fun cdv A outer s H E hr =>
   (zM (zG (zQJ (cD (T:="int") (TT:="int") rfl zPW rfl T.z_isinstance rfl T.z_int (zX 0)) (zQ2 (zQ7 (cD (T:="bool") (TT:="bool") rfl zRR rfl T.z_isinstance rfl T.z_bool (zX 0)))))))
theorem qT:FnScope ["_law_found","_law_due_here","_law_k","_law_one"] ["_law_found","_law_due_here"] (zU pZ):=xC (by decide +kernel)
def pB:Sf:=(sIf (lU (yD (tB1 (zL 1 rS (zY (eIx (eV 3) (eC (.int 0))) zN)))) (lU (yD (tB1 (zL 1 rS (zY (eIx (eV 3) (eC (.int 1))) zN)))) (eB2 kD (eV 3) (eIx (eV 1) (eV 2))))) (xT (eC (.bl false))) sR)
def vN:Sf:=(zC (sIf (lU (yD (tB1 (zYw cM (eV 3)))) (lU (eB2 kD (vH (eV 3)) (eC (.int 3))) (yD (tB1 (zYw cP (eIx (eV 3) (eC (.int 2)))))))) (xT (eC (.bl false))) sR)
   (pB))
def wR:Sf:=(zC (yO 3 (eIx (eV 0) (eV 2)))
   (vN))
def eB:Sf:=(xT (eC (.bl true)))
def sC:Sf:=(zC (lQ (iR (vH (eV 1))) (gN 2) (wR))
   (eB))
def uZ:Sf:=(zC (sIf (lU (yD (tB1 (zYw eG (eV 0)))) (eB2 kD (vH (eV 0)) (vH (eV 1)))) (xT (eC (.bl false))) sR)
   (sC))
def aK:Sf :=
   (uZ)
def yQ:List D->Option D:=fnF 4 aK
theorem tX (T:Txt K mg):OkT P w base T.q4 2 2 yQ :=
 vD (k:=1) T.q4.F qT fun cdv A outer s H E hr =>
   (zV uZ rfl (wX (zYp (pJ (wF (xG (cD (T:="list") (TT:="list") rfl zQx rfl T.z_isinstance rfl T.z_list (zX 0)))) (nI (yU (fV hr) (sJ rfl T.z_len (zX 0)) (sJ rfl T.z_len (zX 1)))))) (zM (zG oY)) yL)
     (zV sC rfl (nE El rfl (zU0 rfl T.z_range (sJ rfl T.z_len (zX 1))) (uU 2 qT.nd) (zV wR rfl (zH 3 qT.nd (yW (zX 0) (zX 2)))
     (zV vN rfl (wX (zYp (pJ (wF (xG (cD (T:="tuple") (TT:="tuple") rfl zQy rfl T.z_isinstance rfl T.z_tuple (zX 3)))) (pJ (yU (fV hr) (sJ rfl T.z_len (zX 3)) zW) (nI (wF (xG (cD (T:="str") (TT:="str") rfl zQu rfl T.z_isinstance rfl T.z_str (yW (zX 3) zW)))))))) (zM (zG oY)) yL)
     (zM (wX (zYp (pJ (wF (xG (xX (pL T) hr (zZ (yW (zX 3) zW) zT)))) (pJ (wF (xG (xX (pL T) hr (zZ (yW (zX 3) zW) zT)))) (nI (yU (fV hr) (zX 3) (yW (zX 1) (zX 2))))))) (zM (zG oY)) yL)))))
     (zM (zG oY))))
theorem zYv:FnScope ["_law_script","_law_k"] ["_law_script","_law_k"] (zU kA):=xC (by decide +kernel)
def zZf:Sf:=(xT (eC (.int 0)))
def vT:Sf:=(zC (sIf (eB2 gLt (eV 1) (vH (eV 0))) (xT (eIx (eV 0) (eV 1))) sR)
   (zZf))
def zWN:Sf :=
   (vT)
def qX:List D->Option D:=fnF 2 zWN
theorem eQ (T:Txt K mg):OkT P w base T.q5 1 2 qX :=
 vD (k:=0) T.q5.F zYv fun cdv A outer s H E hr =>
   (zV vT rfl (wX (yU zTZ (zX 1) (sJ rfl T.z_len (zX 0))) (zM (zG (yW (zX 0) (zX 1)))) yL)
     (zM (zG zW)))
theorem zXe:FnScope ["_law_kept_here"] ["_law_kept_here"] (zU kY):=xC (by decide +kernel)
def lP:Sf:=(xT (eL (yC (zZx (eV 0)) 2 [0] (gT (zD (gN 0) (zD (gN 1) wE))) tOK (wD (zY (eV 0) (zY (zYn (eV 2) (wD (zY (eV 0) (zY (eV 1) zN)))) (zY (eV 1) zN)))))))
def zUD:Sf :=
   (lP)
def tR:List D->Option D:=fnF 1 zUD
theorem jP (T:Txt K mg):OkT P w base T.q6 1 1 tR :=
 vD (k:=0) T.q6.F zXe fun cdv A outer s H E hr =>
   (zM (zG (vF (rW (zU kY) ["_law_kept_here"] ["_law_first","_law_name"] ["_law_kept_here"] [0] (zRY (sV (mS 0) (sV (mS 1) dQ))) (zT5 (zTd rfl rfl T.z_sorted (zX 0))) rfl rfl rfl (by decide +kernel) (fun _ _ _ _=>(zW7 2 rfl (yG (uU 0 (show(List.Nodup (α:=PySem.Str) ["_law_first","_law_name","_law_kept_here"]) from by decide +kernel)) (yG (uU 1 (show(List.Nodup (α:=PySem.Str) ["_law_first","_law_name","_law_kept_here"]) from by decide +kernel)) qS)) (wZ (wZ nY)))) (fun _ _ _ _=>wL) (fun _ _ _ _=>(tM (zZ (zX 0) (zZ (zRt hr (zX 2) (tM (zZ (zX 0) (zZ (zX 1) zT)))) (zZ (zX 1) zT)))))))))
theorem xE:FnScope ["_law_pool_here","_law_cell_here","_law_k","_law_one","_law_two","_law_size","_law_first","_law_last"] ["_law_pool_here","_law_cell_here","_law_k"] (zU mC):=xC (by decide +kernel)
def kL:Sf:=(xT (wD (zY (eV 6) (zY (eV 7) (zY (eIx (eIx (eV 0) (eC (.int 0))) (yA (zL 2 yE (zY (eV 1) (zY (uJ (oU (eC (.int 3)) (eV 2)) (eC (.int 3))) zN))) (eC (.int 12)))) zN)))))
def pP:Sf:=(zC (yO 7 (uJ (eV 6) (yA (oU (sE (eV 4) (eC (.int 4))) (fK (eC (.int 48611)) (eC (.int 8)))) (eV 5))))
   (kL))
def qB:Sf:=(zC (sIf (eB2 gEq (eIx (eV 0) (eC (.int 2))) (eC (.int 1))) (zC (yO 6 (yA (fK (eV 3) (eC (.int 6))) (fK (eC (.int 10)) (eC (.int 54)))))
   (yO 5 (eIx (eL (wQ (zY (eC (.int 1)) (zY (eC (.int 5)) (zY (eC (.int 60)) (zY (uJ (yA (fK (eV 4) (eC (.int 5))) (fK (eC (.int 10)) (eC (.int 40)))) (eC (.int 1))) zN)))))) (yA (eV 4) (eC (.int 4)))))) sR)
   (pP))
def pS:Sf:=(zC (yO 6 (yA (eV 3) (eIx (eL (wQ (zY (eC (.int 30)) (zY (eC (.int 200)) (zY (eC (.int 4000)) zN))))) (eIx (eV 0) (eC (.int 1))))))
   (qB))
def qE:Sf:=(zC (yO 5 (eIx (eL (wQ (zY (eC (.int 1)) (zY (eC (.int 5)) (zY (eC (.int 60)) (zY (eC (.int 2000)) zN)))))) (yA (eV 4) (eC (.int 4)))))
   (pS))
def pR:Sf:=(zC (yO 4 (zL 2 yE (zY (eV 1) (zY (uJ (oU (eC (.int 3)) (eV 2)) (eC (.int 2))) zN))))
   (qE))
def sY:Sf:=(zC (yO 3 (zL 2 yE (zY (eV 1) (zY (uJ (oU (eC (.int 3)) (eV 2)) (eC (.int 1))) zN))))
   (pR))
def zXw:Sf :=
   (sY)
def qQ:List D->Option D:=fnF 8 zXw
theorem zZk (T:Txt K mg):OkT P w base T.q7 2 3 qQ :=
 vD (k:=1) T.q7.F xE fun cdv A outer s H E hr =>
   (zV sY rfl (zH 3 xE.nd (xX (xQ T) hr (zZ (zX 1) (zZ (vG (uH zW (zX 2)) zW) zT))))
     (zV pR rfl (zH 4 xE.nd (xX (xQ T) hr (zZ (zX 1) (zZ (vG (uH zW (zX 2)) zW) zT))))
     (zV qE rfl (zH 5 xE.nd (yW (vF (xK (zZ zW (zZ zW (zZ zW (zZ zW zT)))))) (yR (zX 4) zW)))
     (zV pS rfl (zH 6 xE.nd (yR (zX 3) (yW (vF (xK (zZ zW (zZ zW (zZ zW zT))))) (yW (zX 0) zW))))
     (zV qB rfl (wX (yU gS (yW (zX 0) zW) zW) (gG (zH 6 xE.nd (yR (dD (zX 3) zW) (dD zW zW)))
     (zM (zH 5 xE.nd (yW (vF (xK (zZ zW (zZ zW (zZ zW (zZ (vG (yR (dD (zX 4) zW) (dD zW zW)) zW) zT)))))) (yR (zX 4) zW))))) yL)
     (zV pP rfl (zH 7 xE.nd (vG (zX 6) (yR (uH (tP (zX 4) zW) (dD zW zW)) (zX 5))))
     (zM (zG (tM (zZ (zX 6) (zZ (zX 7) (zZ (yW (yW (zX 0) zW) (yR (xX (xQ T) hr (zZ (zX 1) (zZ (vG (uH zW (zX 2)) zW) zT))) zW)) zT))))))))))))
theorem vK:FnScope ["_law_pool_here","_law_cell_here","_law_kept_here","_law_what","_law_many","_law_there","_law_at"] ["_law_pool_here","_law_cell_here","_law_kept_here"] (zU sP):=xC (by decide +kernel)
def kR:Sf:=(xT (eL (yC (iR (eV 4)) 1 [5,6] (gN 0) tOK (wD (zY (eC (.str "take")) (zY (eIx (eV 1) (yA (uJ (eV 2) (eV 0)) (vH (eV 1)))) zN))))))
def pM:Sf:=(zC (yO 6 (yA (sE (eV 3) (eC (.int 120))) (vH (eV 5))))
   (kR))
def qA:Sf:=(zC (yO 4 (zUL (vH (eV 5)) (eIx (eL (wQ (zY (eV 4) (zY (oU (eC (.int 3)) (eV 4)) (zY (eC (.int 30)) zN))))) (yA (sE (eV 3) (eC (.int 40))) (eC (.int 3))))))
   (pM))
def pN:Sf:=(zC (yO 5 (zL 1 tR (zY (eV 2) zN)))
   (qA))
def vE:Sf:=(zC (sIf (lU (eB2 gLt (yA (eV 3) (eC (.int 8))) (eC (.int 5))) (eB2 gEq (zVU (eV 2)) (eC (.int 0)))) (xT (eL (yC (iR (eV 4)) 1 [0,1] (gN 0) tOK (wD (zY (eC (.str "put")) (zY (zL 3 qQ (zY (eV 1) (zY (eV 2) (zY (eV 0) zN)))) zN)))))) sR)
   (pN))
def pG:Sf:=(zC (yO 4 (uJ (eC (.int 1)) (yA (sE (eV 3) (eC (.int 8))) (eC (.int 5)))))
   (vE))
def tH:Sf:=(zC (yO 3 (zL 2 yE (zY (eV 1) (zY (eC (.int 0)) zN))))
   (pG))
def zYy:Sf :=
   (tH)
def vY:List D->Option D:=fnF 7 zYy
theorem zYV (T:Txt K mg):OkT P w base T.q8 3 3 vY :=
 vD (k:=2) T.q8.F vK fun cdv A outer s H E hr =>
   (zV tH rfl (zH 3 vK.nd (xX (xQ T) hr (zZ (zX 1) (zZ zW zT))))
     (zV pG rfl (zH 4 vK.nd (vG zW (yR (tP (zX 3) zW) zW)))
     (zV vE rfl (wX (zYp (pJ (yU zTZ (yR (zX 3) zW) zW) (nI (yU gS (zR0 rfl T.z_len (zX 2)) zW)))) (zM (zG (vF (rW (zU sP) ["_law_pool_here","_law_cell_here","_law_kept_here","_law_what","_law_many","_law_there","_law_at"] ["_law_k"] ["_law_pool_here","_law_cell_here"] [0,1] (mS 0) (zU0 rfl T.z_range (zX 4)) rfl rfl rfl (by decide +kernel) (fun _ _ _ _=>(uU 0 (show(List.Nodup (α:=PySem.Str) ["_law_k","_law_pool_here","_law_cell_here"]) from by decide +kernel))) (fun _ _ _ _=>wL) (fun _ _ _ _=>(tM (zZ tS (zZ (xX (zZk T) hr (zZ (zX 1) (zZ (zX 2) (zZ (zX 0) zT)))) zT)))))))) yL)
     (zV pN rfl (zH 5 vK.nd (xX (jP T) hr (zZ (zX 2) zT)))
     (zV qA rfl (zH 4 vK.nd (zQm rfl rfl T.z_min (sJ rfl T.z_len (zX 5)) (yW (vF (xK (zZ (zX 4) (zZ (uH zW (zX 4)) (zZ zW zT))))) (yR (tP (zX 3) zW) zW))))
     (zV pM rfl (zH 6 vK.nd (yR (tP (zX 3) zW) (sJ rfl T.z_len (zX 5))))
     (zM (zG (vF (rW (zU sP) ["_law_pool_here","_law_cell_here","_law_kept_here","_law_what","_law_many","_law_there","_law_at"] ["_law_k"] ["_law_there","_law_at"] [5,6] (mS 0) (zU0 rfl T.z_range (zX 4)) rfl rfl rfl (by decide +kernel) (fun _ _ _ _=>(uU 0 (show(List.Nodup (α:=PySem.Str) ["_law_k","_law_there","_law_at"]) from by decide +kernel))) (fun _ _ _ _=>wL) (fun _ _ _ _=>(tM (zZ tS (zZ (yW (zX 1) (yR (vG (zX 2) (zX 0)) (sJ rfl T.z_len (zX 1)))) zT))))))))))))))
theorem vW:FnScope ["_law_told","_law_found","_law_least","_law_reach","_law_below","_law_entries_here"] ["_law_told"] (zU nC):=xC (by decide +kernel)
def kG (self:List D->Option D):Sf:=(yO 1 (eL (mL (iL (eV 1)) (iL (eV 5)))))
def pV (self:List D->Option D):Sf:=(zC (sIf (lU (yD (tB1 (zL 1 rS (zY (eV 3) zN)))) (eB2 kD (eV 3) (zXY (yC (iL (eV 5)) 1 [] (gN 0) tOK (eIx (eV 0) (eC (.int 1))))))) (xT (eL (wQ (zY (eC .non) zN)))) sR)
   (kG self))
def pI (self:List D->Option D):Sf:=(zC (sIf (lU (eB2 zWK (eV 5) (eL (wQ zN))) (lU (eB2 zWK (eV 5) (eL (wQ (zY (eC .non) zN)))) (yD (tB1 (zL 2 yQ (zY (eL (wQ (zY (eV 2) zN))) (zY (eL (xJ (eV 5) oNo (xN (eC (.int 1))))) zN))))))) (xT (eL (wQ (zY (eC .non) zN)))) sR)
   (pV self))
def tI (self:List D->Option D):Sf:=(zC (yO 5 (zL 1 self (zY (eV 4) zN)))
   (pI self))
def zZn (self:List D->Option D):Sf:=(xT (eV 1))
def oC (self:List D->Option D):Sf:=(zC (lQ (iL (eIx (eV 0) (eC (.int 1)))) (gT (zD (gN 2) (zD (gN 3) (zD (gN 4) wE)))) (tI self))
   (zZn self))
def oF (self:List D->Option D):Sf:=(zC (yO 1 (eL (wQ zN)))
   (oC self))
def vO (self:List D->Option D):Sf:=(zC (sIf (eB2 zWK (eIx (eV 0) (eC (.int 0))) (eC (.str "leaf"))) (xT (eL (nH (eIx (eV 0) (eC (.int 1)))))) sR)
   (oF self))
def cZ (self:List D->Option D):Sf :=
   (vO self)
def w6:Nat->List D->Option D
 | 0=>fun _=>none
 | n+1=>fnF 6 (cZ (w6 n))
abbrev wP:List D->Option D:=w6 8
theorem zYM (T:Txt K mg)(n:Nat)(self:List D->Option D)(IH:FnOk P w K mg base CX0 (3+n) T.q9.f T.q9.fd ["_law_told"] (spF K 1 self)):FnOk P w K mg base CX0 (3+n+1) T.q9.f T.q9.fd ["_law_told"] (spF K 1 (fnF 6 (cZ self))) :=
 vD (k:=3+n) T.q9.F vW fun cdv A outer s H E hr =>
   (zV (vO self) rfl (wX (yU (zY7 hr) (yW (zX 0) zW) tS) (zM (zG (vF (fS rfl T.z_list (yW (zX 0) zW))))) yL)
     (zV (oF self) rfl (zH 1 vW.nd (vF (xK zT)))
     (zV (oC self) rfl (nE El rfl (aP (yW (zX 0) zW)) (zW7 3 rfl (yG (uU 2 vW.nd) (yG (uU 3 vW.nd) (yG (uU 4 vW.nd) qS))) (wZ (wZ (wZ nY)))) (zV (tI self) rfl (zH 5 vW.nd (xX IH hr (zZ (zX 4) zT)))
     (zV (pI self) rfl (wX (zYp (pJ (yU (zY7 hr) (zX 5) (vF (xK zT))) (pJ (yU (zY7 hr) (zX 5) (vF (xK (zZ bI zT)))) (nI (wF (xG (xX (tX T) hr (zZ (vF (xK (zZ (zX 2) zT))) (zZ (vF (w4 (zX 5) lT (rD zW))) zT))))))))) (zM (zG (vF (xK (zZ bI zT))))) yL)
     (zV (pV self) rfl (wX (zYp (pJ (wF (xG (xX (pL T) hr (zZ (zX 3) zT)))) (nI (yU (fV hr) (zX 3) (zRi rfl rfl T.z_max (zZ4 (rW (zU nC) ["_law_told","_law_found","_law_least","_law_reach","_law_below","_law_entries_here"] ["_law_entry_here"] [] [] (mS 0) (aP (zX 5)) rfl rfl rfl (by decide +kernel) (fun _ _ _ _=>(uU 0 (show(List.Nodup (α:=PySem.Str) ["_law_entry_here"]) from by decide +kernel))) (fun _ _ _ _=>wL) (fun _ _ _ _=>(yW (zX 0) zW))))))))) (zM (zG (vF (xK (zZ bI zT))))) yL)
     (zM (zH 1 vW.nd (vF (hV (iI (zX 1)) (iI (zX 5))))))))))
     (zM (zG (zX 1))))))
theorem gX (T:Txt K mg):∀n:Nat,FnOk P w K mg base CX0 (3+n) T.q9.f T.q9.fd ["_law_told"] (spF K 1 (w6 n))
 | 0=>iW
 | n+1=>zYM T n _ (gX T n)
theorem lL (T:Txt K mg):OkT P w base T.q9 11 1 wP:=gX T 8
theorem jZ:FnScope ["pages","root"] ["pages"] (zU gI):=xC (by decide +kernel)
def zXy:Sf:=(xT (eV 1))
def lK:Sf:=(zC (uI (eS (yD (tB1 (yY "Page" "leaf" (eV 1)))) (eB2 gEq (vH (yY "Page" "things" (eV 1))) (eC (.int 1)))) (yO 1 (eIx (yY "Page" "things" (eV 1)) (eC (.int 0)))) 10)
   (zXy))
def mB:Sf:=(zC (yO 1 (lN "Page" ["leaf","things","leasts","most"] 2 rR (zY (eC (.bl false)) (zY (eV 0) zN))))
   (lK))
def qI:Sf:=(zC (sIf (yD (zWO (eV 0))) (xT (lN "Page" ["leaf","things","leasts","most"] 2 rR (zY (eC (.bl true)) (zY (eL (wQ zN)) zN)))) sR)
   (mB))
def zUO:Sf :=
   (qI)
def kX:List D->Option D:=fnF 2 zUO
theorem bW (T:Txt K mg):OkT P w base T.q10 3 1 kX :=
 vD (k:=2) T.q10.F jZ fun cdv A outer s H E hr =>
   (zV qI rfl (wX (wF (dU (zX 0))) (zM (zG (kW T.ca_Page T.mk_Page (oZ T) (hr.mono (by lia)) T.mc_Page T.bi_Page rfl (zZ oY (zZ (vF (xK zT)) zT))))) yL)
     (zV mB rfl (zH 1 jZ.nd (kW T.ca_Page T.mk_Page (oZ T) (hr.mono (by lia)) T.mc_Page T.bi_Page rfl (zZ oY (zZ (zX 0) zT))))
     (zV lK rfl (zZX 10 El (zYp (zS2 (wF (xG (yX T.ca_Page T.cl_Page T.n_Page_leaf (zX 1)))) (zTj (yU gS (sJ rfl T.z_len (yX T.ca_Page T.cl_Page T.n_Page_things (zX 1))) zW)))) (zM (zH 1 jZ.nd (yW (yX T.ca_Page T.cl_Page T.n_Page_things (zX 1)) zW))))
     (zM (zG (zX 1))))))
theorem dI:FnScope ["entry","first","last","name"] ["entry"] (zU zWu):=xC (by decide +kernel)
def zUl:Sf:=(xT (wD (zY (eV 1) (zY (eV 3) zN))))
def zYl:Sf:=(zC (zW0 (eV 0) (gT (zD (gN 1) (zD (gN 2) (zD (gN 3) wE)))))
   (zUl))
def zPY:Sf :=
   (zYl)
def uG:List D->Option D:=fnF 4 zPY
theorem iC (T:Txt K mg):OkT P w base T.q11 1 1 uG :=
 vD (k:=0) T.q11.F dI fun cdv A outer s H E hr =>
   (zV zYl rfl (zRL (zX 0) (zW7 3 rfl (yG (uU 1 dI.nd) (yG (uU 2 dI.nd) (yG (uU 3 dI.nd) qS))) (wZ (wZ (wZ nY)))))
     (zM (zG (tM (zZ (zX 1) (zZ (zX 3) zT))))))
theorem zS9:FnScope ["branch","entry","ahead"] ["branch","entry"] (zU zV3):=xC (by decide +kernel)
def zVV:Sf:=(xT (zSG (zS5 (zUh 2) (eC (.int 1))) (eC (.int 0))))
def dJ:Sf:=(zC (kB 2 (yC (iL (yY "Page" "leasts" (eV 0))) 1 [1] (gN 0) (eB2 zWa (zL 1 uG (zY (eV 0) zN)) (zL 1 uG (zY (eV 1) zN))) (eV 0)))
   (zVV))
def zPd:Sf :=
   (dJ)
def dA:List D->Option D:=fnF 3 zPd
theorem zWC (T:Txt K mg):OkT P w base T.q12 2 2 dA :=
 vD (k:=1) T.q12.F zS9 fun cdv A outer s H E hr =>
   (zV dJ rfl (mZ (zU zV3) ["branch","entry","ahead"] ["least"] ["entry"] [1] (mS 0) 2 zS9.nd rfl rfl (aP (yX T.ca_Page T.cl_Page T.n_Page_leasts (zX 0))) rfl rfl rfl (by decide +kernel) (fun _ _ _ _=>(uU 0 (show(List.Nodup (α:=PySem.Str) ["least","entry"]) from by decide +kernel))) (fun _ _ _ _=>(kZ (yU (zRu hr) (xX (iC T) hr (zZ (zX 0) zT)) (xX (iC T) hr (zZ (zX 1) zT))))) (fun _ _ _ _=>(zX 0)))
     (zM (zG (zTn rfl rfl T.z_max (zUd (zSq 2 rfl T.z_len) zW) zW))))
theorem pT:FnScope ["page","entry","alike"] ["page","entry"] (zU rP):=xC (by decide +kernel)
def mH:Sf:=(aN 2 (xT (eIf (zWO (eV 2)) (eIx (eV 2) (eC (.int 0))) (eC .non))))
def qV:Sf:=(zC (kB 2 (yC (iL (yY "Page" "things" (eV 0))) 1 [1] (gN 0) (eB2 zWK (zL 1 uG (zY (eV 0) zN)) (zL 1 uG (zY (eV 1) zN))) (eV 0)))
   (mH))
def tW:Sf:=(zC (uI (yD (tB1 (yY "Page" "leaf" (eV 0)))) (yO 0 (eIx (yY "Page" "things" (eV 0)) (zL 2 dA (zY (eV 0) (zY (eV 1) zN))))) 10)
   (qV))
def zZ1:Sf :=
   (tW)
def vS:List D->Option D:=fnF 3 zZ1
theorem kN (T:Txt K mg):OkT P w base T.q13 3 2 vS :=
 vD (k:=2) T.q13.F pT fun cdv A outer s H E hr =>
   (zV tW rfl (zZX 10 El (wF (xG (yX T.ca_Page T.cl_Page T.n_Page_leaf (zX 0)))) (zM (zH 0 pT.nd (yW (yX T.ca_Page T.cl_Page T.n_Page_things (zX 0)) (xX (zWC T) hr (zZ (zX 0) (zZ (zX 1) zT)))))))
     (zV qV rfl (mZ (zU rP) ["page","entry","alike"] ["other"] ["entry"] [1] (mS 0) 2 pT.nd rfl rfl (aP (yX T.ca_Page T.cl_Page T.n_Page_things (zX 0))) rfl rfl rfl (by decide +kernel) (fun _ _ _ _=>(uU 0 (show(List.Nodup (α:=PySem.Str) ["other","entry"]) from by decide +kernel))) (fun _ _ _ _=>(kZ (yU (zY7 hr) (xX (iC T) hr (zZ (zX 0) zT)) (xX (iC T) hr (zZ (zX 1) zT))))) (fun _ _ _ _=>(zX 0)))
     (zM (bQ 2 (zG (zUo (dU (zX 2)) (yW (zX 2) zW) bI))))))
theorem eO:FnScope ["leaf","things","size","half"] ["leaf","things","size"] (zU jG):=xC (by decide +kernel)
def iP:Sf:=(xT (eL (wQ (zY (lN "Page" ["leaf","things","leasts","most"] 2 rR (zY (eV 0) (zY (eL (xJ (eV 1) oNo (xN (eV 3)))) zN))) (zY (lN "Page" ["leaf","things","leasts","most"] 2 rR (zY (eV 0) (zY (eL (xJ (eV 1) (xN (eV 3)) oNo)) zN))) zN)))))
def nN:Sf:=(zC (yO 3 (sE (vH (eV 1)) (eC (.int 2))))
   (iP))
def nZ:Sf:=(zC (sIf (eB2 gLe (vH (eV 1)) (eV 2)) (xT (eL (wQ (zY (lN "Page" ["leaf","things","leasts","most"] 2 rR (zY (eV 0) (zY (eV 1) zN))) zN)))) sR)
   (nN))
def rN:Sf:=(zC (sIf (yD (zWO (eV 1))) (xT (eL (wQ zN))) sR)
   (nZ))
def zWR:Sf :=
   (rN)
def uR:List D->Option D:=fnF 4 zWR
theorem sU (T:Txt K mg):OkT P w base T.q14 3 3 uR :=
 vD (k:=2) T.q14.F eO fun cdv A outer s H E hr =>
   (zV rN rfl (wX (wF (dU (zX 1))) (zM (zG (vF (xK zT)))) yL)
     (zV nZ rfl (wX (yU zOS (sJ rfl T.z_len (zX 1)) (zX 2)) (zM (zG (vF (xK (zZ (kW T.ca_Page T.mk_Page (oZ T) (hr.mono (by lia)) T.mc_Page T.bi_Page rfl (zZ (zX 0) (zZ (zX 1) zT))) zT))))) yL)
     (zV nN rfl (zH 3 eO.nd (tP (sJ rfl T.z_len (zX 1)) zW))
     (zM (zG (vF (xK (zZ (kW T.ca_Page T.mk_Page (oZ T) (hr.mono (by lia)) T.mc_Page T.bi_Page rfl (zZ (zX 0) (zZ (vF (w4 (zX 1) lT (rD (zX 3)))) zT))) (zZ (kW T.ca_Page T.mk_Page (oZ T) (hr.mono (by lia)) T.mc_Page T.bi_Page rfl (zZ (zX 0) (zZ (vF (w4 (zX 1) (rD (zX 3)) lT)) zT))) zT)))))))))
theorem qW:FnScope ["page","entry","size","at","inner"] ["page","entry","size"] (zU pO):=xC (by decide +kernel)
def mY (self:List D->Option D):Sf:=(xT (zL 3 uR (zY (eC (.bl false)) (zY (eL (mL (mL (xJ (yY "Page" "things" (eV 0)) oNo (xN (eV 3))) (iL (eV 4))) (xJ (yY "Page" "things" (eV 0)) (xN (uJ (eV 3) (eC (.int 1)))) oNo))) (zY (eV 2) zN)))))
def sH (self:List D->Option D):Sf:=(zC (yO 4 (zL 3 self (zY (eIx (yY "Page" "things" (eV 0)) (eV 3)) (zY (eV 1) (zY (eV 2) zN)))))
   (mY self))
def sB (self:List D->Option D):Sf:=(zC (yO 3 (zL 2 dA (zY (eV 0) (zY (eV 1) zN))))
   (sH self))
def xI (self:List D->Option D):Sf:=(zC (sIf (tB1 (yY "Page" "leaf" (eV 0))) (xT (zL 3 uR (zY (eC (.bl true)) (zY (eL (dF uG (mL (iL (yY "Page" "things" (eV 0))) (wQ (zY (eV 1) zN))))) (zY (eV 2) zN))))) sR)
   (sB self))
def kI (self:List D->Option D):Sf :=
   (xI self)
def wW:Nat->List D->Option D
 | 0=>fun _=>none
 | n+1=>fnF 5 (kI (wW n))
abbrev kM:List D->Option D:=wW 8
theorem dW (T:Txt K mg)(n:Nat)(self:List D->Option D)(IH:FnOk P w K mg base CX0 (7+n) T.q15.f T.q15.fd ["page","entry","size"] (spF K 3 self)):FnOk P w K mg base CX0 (7+n+1) T.q15.f T.q15.fd ["page","entry","size"] (spF K 3 (fnF 5 (kI self))) :=
 vD (k:=7+n) T.q15.F qW fun cdv A outer s H E hr =>
   (zV (xI self) rfl (wX (xG (yX T.ca_Page T.cl_Page T.n_Page_leaf (zX 0))) (zM (zG (xX (sU T) hr (zZ oY (zZ (vF (zSK (iC T) hr rfl T.z_sorted (zZ4 (hV (iI (yX T.ca_Page T.cl_Page T.n_Page_things (zX 0))) (zZ4 (xK (zZ (zX 1) zT))))))) (zZ (zX 2) zT)))))) yL)
     (zV (sB self) rfl (zH 3 qW.nd (xX (zWC T) hr (zZ (zX 0) (zZ (zX 1) zT))))
     (zV (sH self) rfl (zH 4 qW.nd (xX IH hr (zZ (yW (yX T.ca_Page T.cl_Page T.n_Page_things (zX 0)) (zX 3)) (zZ (zX 1) (zZ (zX 2) zT)))))
     (zM (zG (xX (sU T) hr (zZ oY (zZ (vF (zWW (hV (zZ4 (w4 (yX T.ca_Page T.cl_Page T.n_Page_things (zX 0)) lT (rD (zX 3)))) (iI (zX 4))) (w4 (yX T.ca_Page T.cl_Page T.n_Page_things (zX 0)) (rD (vG (zX 3) zW)) lT))) (zZ (zX 2) zT)))))))))
theorem mX (T:Txt K mg):∀n:Nat,FnOk P w K mg base CX0 (7+n) T.q15.f T.q15.fd ["page","entry","size"] (spF K 3 (wW n))
 | 0=>iW
 | n+1=>dW T n _ (mX T n)
theorem bV (T:Txt K mg):OkT P w base T.q15 15 3 kM:=mX T 8
theorem zYH:FnScope ["self","entry"] ["self","entry"] (zU uN):=xC (by decide +kernel)
def uM:Tf:=(eB2 zWY (zL 2 vS (zY (kH 0 "Store" "root") (zY (eV 1) zN))) (eC .non))
def sL:Ef:=(zL 1 kX (zY (zL 3 kM (zY (kH 0 "Store" "root") (zY (eV 1) (zY (kH 0 "Store" "size") zN)))) zN))
def rQ:List Str->List D->List D->Option (List D):=fun ns=>fnM 2 "Store" ns "root" uM sL
theorem aQ (T:Txt K mg)(ns:List Str):FnOk P w K mg base CX0 16 T.f_Store_put T.fd_Store_put ["self","entry"] (spM K "Store" ns 1 (rQ ns)) :=
 zUr (N:=["self","entry"]) (ps:=["entry"]) (k:=15) (tt:=uM) (fe:=sL) T.F_Store_put zYH T.ca_Store T.cl_Store T.n_Store_root rfl (fun cdv A outer s H E hr =>
   (yU zSM (xX (kN T) hr (zZ (lE 0 T.ca_Store T.cl_Store T.n_Store_root) (zZ (zX 1) zT))) bI))
   (fun cdv A outer s H E hr=>(xX (bW T) hr (zZ (xX (bV T) hr (zZ (lE 0 T.ca_Store T.cl_Store T.n_Store_root) (zZ (zX 1) (zZ (lE 0 T.ca_Store T.cl_Store T.n_Store_size) zT)))) zT))) rfl (Or.inl rfl)
theorem pE:FnScope ["pages","size","few","start","things","page"] ["pages","size"] (zU iB):=xC (by decide +kernel)
def lM:Sf:=(zSx 4 (iL (yY "Page" "things" (eV 5))))
def cJ:Sf:=(aN 4 (xT (eL (mL (mL (xJ (eV 0) oNo (xN (eV 3))) (iL (zL 3 uR (zY (yY "Page" "leaf" (eIx (eV 0) (eC (.int 0)))) (zY (eV 4) (zY (eV 1) zN)))))) (xJ (eV 0) (xN (uJ (eV 3) (eC (.int 2)))) oNo)))))
def jF:Sf:=(zC (lQ (xJ (eV 0) (xN (eV 3)) (xN (uJ (eV 3) (eC (.int 2))))) (gN 5) (lM))
   (cJ))
def jO:Sf:=(zC (kB 4 (wQ zN))
   (jF))
def jS:Sf:=(zC (yO 3 (zSG (zS5 (eIx (eV 2) (eC (.int 0))) (eC (.int 1))) (eC (.int 0))))
   (jO))
def jX:Sf:=(zC (aN 2 (sIf (yD (zWO (eV 2))) (xT (eV 0)) sR))
   (jS))
def nO:Sf:=(zC (kB 2 (yC (zWp (iL (eV 0))) 2 [1] (gT (zD (gN 0) (zD (gN 1) wE))) (eB2 gLt (vH (yY "Page" "things" (eV 1))) (sE (eV 2) (eC (.int 2)))) (eV 0)))
   (jX))
def zTV:Sf :=
   (nO)
def bB:List D->Option D:=fnF 6 zTV
theorem zVb (T:Txt K mg):OkT P w base T.q17 4 2 bB :=
 vD (k:=3) T.q17.F pE fun cdv A outer s H E hr =>
   (zV nO rfl (mZ (zU iB) ["pages","size","few","start","things","page"] ["at","page"] ["size"] [1] (zRY (sV (mS 0) (sV (mS 1) dQ))) 2 pE.nd rfl rfl (zRz rfl T.z_enumerate (iI (zX 0))) rfl rfl rfl (by decide +kernel) (fun _ _ _ _=>(zW7 2 rfl (yG (uU 0 (show(List.Nodup (α:=PySem.Str) ["at","page","size"]) from by decide +kernel)) (yG (uU 1 (show(List.Nodup (α:=PySem.Str) ["at","page","size"]) from by decide +kernel)) qS)) (wZ (wZ nY)))) (fun _ _ _ _=>(kZ (yU zTZ (sJ rfl T.z_len (yX T.ca_Page T.cl_Page T.n_Page_things (zX 1))) (tP (zX 2) zW)))) (fun _ _ _ _=>(zX 0)))
     (zV jX rfl (bQ 2 (wX (wF (dU (zX 2))) (zM (zG (zX 0))) yL))
     (zV jS rfl (zH 3 pE.nd (zTn rfl rfl T.z_max (zUd (yW (zX 2) zW) zW) zW))
     (zV jO rfl (zTK 4 pE.nd (xK zT))
     (zV jF rfl (nE El rfl (zT5 (w4 (zX 0) (rD (zX 3)) (rD (vG (zX 3) zW)))) (uU 5 pE.nd) (zM (zSs 4 (zTJ Tc PySem.F.slot_list_extend PySem.F.type_list_extend zS4 (pv 4) (yK (iI (yX T.ca_Page T.cl_Page T.n_Page_things (zX 5))) wI)))))
     (zM (bQ 4 (zG (vF (zWW (hV (zZ4 (w4 (zX 0) lT (rD (zX 3)))) (iI (xX (sU T) hr (zZ (yX T.ca_Page T.cl_Page T.n_Page_leaf (yW (zX 0) zW)) (zZ (zX 4) (zZ (zX 1) zT)))))) (w4 (zX 0) (rD (vG (zX 3) zW)) lT)))))))))))
theorem tL:FnScope ["page","entry","size","at","inner"] ["page","entry","size"] (zU uY):=xC (by decide +kernel)
def qJ (self:List D->Option D):Sf:=(xT (zL 3 uR (zY (eC (.bl false)) (zY (zL 2 bB (zY (eL (mL (mL (xJ (yY "Page" "things" (eV 0)) oNo (xN (eV 3))) (iL (eV 4))) (xJ (yY "Page" "things" (eV 0)) (xN (uJ (eV 3) (eC (.int 1)))) oNo))) (zY (eV 2) zN))) (zY (eV 2) zN)))))
def uC (self:List D->Option D):Sf:=(zC (yO 4 (zL 3 self (zY (eIx (yY "Page" "things" (eV 0)) (eV 3)) (zY (eV 1) (zY (eV 2) zN)))))
   (qJ self))
def uA (self:List D->Option D):Sf:=(zC (yO 3 (zL 2 dA (zY (eV 0) (zY (eV 1) zN))))
   (uC self))
def xV (self:List D->Option D):Sf:=(zC (sIf (tB1 (yY "Page" "leaf" (eV 0))) (xT (zL 3 uR (zY (eC (.bl true)) (zY (eL (yC (iL (yY "Page" "things" (eV 0))) 1 [1] (gN 0) (eB2 kD (eV 0) (eV 1)) (eV 0))) (zY (eV 2) zN))))) sR)
   (uA self))
def mW (self:List D->Option D):Sf :=
   (xV self)
def xO:Nat->List D->Option D
 | 0=>fun _=>none
 | n+1=>fnF 5 (mW (xO n))
abbrev mV:List D->Option D:=xO 8
theorem iZ (T:Txt K mg)(n:Nat)(self:List D->Option D)(IH:FnOk P w K mg base CX0 (5+n) T.q18.f T.q18.fd ["page","entry","size"] (spF K 3 self)):FnOk P w K mg base CX0 (5+n+1) T.q18.f T.q18.fd ["page","entry","size"] (spF K 3 (fnF 5 (mW self))) :=
 vD (k:=5+n) T.q18.F tL fun cdv A outer s H E hr =>
   (zV (xV self) rfl (wX (xG (yX T.ca_Page T.cl_Page T.n_Page_leaf (zX 0))) (zM (zG (xX (sU T) hr (zZ oY (zZ (vF (rW (zU uY) ["page","entry","size","at","inner"] ["other"] ["entry"] [1] (mS 0) (aP (yX T.ca_Page T.cl_Page T.n_Page_things (zX 0))) rfl rfl rfl (by decide +kernel) (fun _ _ _ _=>(uU 0 (show(List.Nodup (α:=PySem.Str) ["other","entry"]) from by decide +kernel))) (fun _ _ _ _=>(kZ (yU (fV hr) (zX 0) (zX 1)))) (fun _ _ _ _=>(zX 0)))) (zZ (zX 2) zT)))))) yL)
     (zV (uA self) rfl (zH 3 tL.nd (xX (zWC T) hr (zZ (zX 0) (zZ (zX 1) zT))))
     (zV (uC self) rfl (zH 4 tL.nd (xX IH hr (zZ (yW (yX T.ca_Page T.cl_Page T.n_Page_things (zX 0)) (zX 3)) (zZ (zX 1) (zZ (zX 2) zT)))))
     (zM (zG (xX (sU T) hr (zZ oY (zZ (xX (zVb T) hr (zZ (vF (zWW (hV (zZ4 (w4 (yX T.ca_Page T.cl_Page T.n_Page_things (zX 0)) lT (rD (zX 3)))) (iI (zX 4))) (w4 (yX T.ca_Page T.cl_Page T.n_Page_things (zX 0)) (rD (vG (zX 3) zW)) lT))) (zZ (zX 2) zT))) (zZ (zX 2) zT)))))))))
theorem qO (T:Txt K mg):∀n:Nat,FnOk P w K mg base CX0 (5+n) T.q18.f T.q18.fd ["page","entry","size"] (spF K 3 (xO n))
 | 0=>iW
 | n+1=>iZ T n _ (qO T n)
theorem gF (T:Txt K mg):OkT P w base T.q18 13 3 mV:=qO T 8
theorem aM:FnScope ["self","entry"] ["self","entry"] (zU vU):=xC (by decide +kernel)
def vP:Tf:=(eB2 kD (zL 2 vS (zY (kH 0 "Store" "root") (zY (eV 1) zN))) (eV 1))
def tU:Ef:=(zL 1 kX (zY (zL 3 mV (zY (kH 0 "Store" "root") (zY (eV 1) (zY (kH 0 "Store" "size") zN)))) zN))
def tG:List Str->List D->List D->Option (List D):=fun ns=>fnM 2 "Store" ns "root" vP tU
theorem aX (T:Txt K mg)(ns:List Str):FnOk P w K mg base CX0 14 T.f_Store_take T.fd_Store_take ["self","entry"] (spM K "Store" ns 1 (tG ns)) :=
 zUr (N:=["self","entry"]) (ps:=["entry"]) (k:=13) (tt:=vP) (fe:=tU) T.F_Store_take aM T.ca_Store T.cl_Store T.n_Store_root rfl (fun cdv A outer s H E hr =>
   (yU (fV hr) (xX (kN T) hr (zZ (lE 0 T.ca_Store T.cl_Store T.n_Store_root) (zZ (zX 1) zT))) (zX 1)))
   (fun cdv A outer s H E hr=>(xX (bW T) hr (zZ (xX (gF T) hr (zZ (lE 0 T.ca_Store T.cl_Store T.n_Store_root) (zZ (zX 1) (zZ (lE 0 T.ca_Store T.cl_Store T.n_Store_size) zT)))) zT))) rfl (Or.inl rfl)
theorem zYm:FnScope ["_law_store","_law_deed"] ["_law_store","_law_deed"] (zU jV):=xC (by decide +kernel)
def vZ:Sf :=
   (sIf (eB2 gEq (eIx (eV 1) (eC (.int 0))) (eC (.str "put"))) (fU 0 "Store" "put" 1 rQ (zY (eIx (eV 1) (eC (.int 1))) zN)) (fU 0 "Store" "take" 1 tG (zY (eIx (eV 1) (eC (.int 1))) zN)))
def wB:D->List D->Option D:=zQA 2 vZ
theorem zXT (T:Txt K mg):FnOk P w K mg base CX0 17 T.q20.f T.q20.fd ["_law_store","_law_deed"] (zUi K 1 wB) :=
 zV2 (N:=["_law_store","_law_deed"]) (sf:="_law_store") (ps:=["_law_deed"]) (k:=16) (f:=vZ) T.q20.F zYm fun cdv A outer s H E hr =>
   (lC (zRc (yU gS (yW (zX 1) zW) tS) (lC (zYf 0 T.ca_Store T.cl_Store T.me_Store_put (aQ T) (hr.mono (by lia)) T.b_Store_put (zZ (yW (zX 1) zW) zT))) (lC (zYf 0 T.ca_Store T.cl_Store T.me_Store_take (aX T) (hr.mono (by lia)) T.b_Store_take (zZ (yW (zX 1) zW) zT)))))
theorem fH:FnScope ["_law_kept_here","_law_deed","_law_first","_law_last","_law_name"] ["_law_kept_here","_law_deed"] (zU jM):=xC (by decide +kernel)
def wA:Sf :=
   (zC (zW0 (eIx (eV 1) (eC (.int 1))) (gT (zD (gN 2) (zD (gN 3) (zD (gN 4) wE))))) (sIf (eB2 gEq (eIx (eV 1) (eC (.int 0))) (eC (.str "put"))) (zSY 0 (zY (eV 2) (zY (eV 4) zN)) (eV 3)) (zWj 0 (wD (zY (eV 2) (zY (eV 4) zN))))))
def uQ:D->List D->Option D:=zQA 5 wA
theorem zYh (T:Txt K mg):FnOk P w K mg base CX0 1 T.q21.f T.q21.fd ["_law_kept_here","_law_deed"] (zUi K 1 uQ) :=
 zV2 (N:=["_law_kept_here","_law_deed","_law_first","_law_last","_law_name"]) (sf:="_law_kept_here") (ps:=["_law_deed"]) (k:=0) (f:=wA) T.q21.F fH fun cdv A outer s H E hr =>
   (zT4 (zRJ 0 2 3 4 rfl fH.nd (yW (zX 1) zW)) (lC (zRc (yU gS (yW (zX 1) zW) tS) (lC (zSv 0 hr (zX 3) (zZ (zX 2) (zZ (zX 4) zT)))) (lC (zRn 0 (zTJ PySem.F.plainAttrs_dict PySem.F.slot_dict_pop PySem.F.type_dict_pop (zRT hr) (pv 0) (yK (tM (zZ (zX 2) (zZ (zX 4) zT))) wI)))))))
theorem qH:FnScope ["_law_told"] ["_law_told"] (zU tQ):=xC (by decide +kernel)
def wH:Tf:=(eB2 gNe (eIx (eV 0) (eC (.int 0))) (eC (.str "leaf")))
def yT:D->Option D:=iN wH (dIx 2 (dIx 0 (dIx 1 some))) 9
theorem jQ (T:Txt K mg):FnOk P w K mg base CX0 1 T.q22.f T.q22.fd ["_law_told"] (zSg K yT) :=
 zRy (k:=0) T.q22.F qH fun cdv A outer s H E hr=>zTi 9 El qH.nd (yU zOU (yW (zX 0) zW) tS) (zVB (zVB (zVB (zT7 0))))
theorem fB:FnScope ["page"] ["page"] (zU qY):=xC (by decide +kernel)
def iY (self:List D->Option D):Sf:=(xT (wD (zY (eC (.str "branch")) (zY (eL (yC (zZV (yY "Page" "leasts" (eV 0)) (yY "Page" "things" (eV 0))) 2 [] (gT (zD (gN 0) (zD (gN 1) wE))) tOK (wD (zY (eV 0) (zY (yY "Page" "most" (eV 1)) (zY (zL 1 self (zY (eV 1) zN)) zN)))))) zN))))
def vM (self:List D->Option D):Sf:=(zC (sIf (tB1 (yY "Page" "leaf" (eV 0))) (xT (wD (zY (eC (.str "leaf")) (zY (eL (nH (yY "Page" "things" (eV 0)))) zN)))) sR)
   (iY self))
def cI (self:List D->Option D):Sf :=
   (vM self)
def vX:Nat->List D->Option D
 | 0=>fun _=>none
 | n+1=>fnF 1 (cI (vX n))
abbrev cU:List D->Option D:=vX 8
theorem zYZ (T:Txt K mg)(n:Nat)(self:List D->Option D)(IH:FnOk P w K mg base CX0 (1+n) T.q23.f T.q23.fd ["page"] (spF K 1 self)):FnOk P w K mg base CX0 (1+n+1) T.q23.f T.q23.fd ["page"] (spF K 1 (fnF 1 (cI self))) :=
 vD (k:=1+n) T.q23.F fB fun cdv A outer s H E hr =>
   (zV (vM self) rfl (wX (xG (yX T.ca_Page T.cl_Page T.n_Page_leaf (zX 0))) (zM (zG (tM (zZ tS (zZ (vF (fS rfl T.z_list (yX T.ca_Page T.cl_Page T.n_Page_things (zX 0)))) zT))))) yL)
     (zM (zG (tM (zZ tS (zZ (vF (rW (zU qY) ["page"] ["least","inner"] [] [] (zRY (sV (mS 0) (sV (mS 1) dQ))) (zVy rfl T.z_zip (yX T.ca_Page T.cl_Page T.n_Page_leasts (zX 0)) (yX T.ca_Page T.cl_Page T.n_Page_things (zX 0))) rfl rfl rfl (by decide +kernel) (fun _ _ _ _=>(zW7 2 rfl (yG (uU 0 (show(List.Nodup (α:=PySem.Str) ["least","inner"]) from by decide +kernel)) (yG (uU 1 (show(List.Nodup (α:=PySem.Str) ["least","inner"]) from by decide +kernel)) qS)) (wZ (wZ nY)))) (fun _ _ _ _=>wL) (fun _ _ _ _=>(tM (zZ (zX 0) (zZ (yX T.ca_Page T.cl_Page T.n_Page_most (zX 1)) (zZ (xX IH hr (zZ (zX 1) zT)) zT))))))) zT))))))
theorem gP (T:Txt K mg):∀n:Nat,FnOk P w K mg base CX0 (1+n) T.q23.f T.q23.fd ["page"] (spF K 1 (vX n))
 | 0=>iW
 | n+1=>zYZ T n _ (gP T n)
theorem zX0 (T:Txt K mg):OkT P w base T.q23 9 1 cU:=gP T 8
theorem mG:FnScope ["self"] ["self"] (zU wM):=xC (by decide +kernel)
def sK:Sf:=(xT (zL 1 cU (zY (yY "Store" "root" (eV 0)) zN)))
def b_Store_shape:Sf :=
   (sK)
def vC:List D->Option D:=fnF 1 b_Store_shape
theorem bC (T:Txt K mg):FnOk P w K mg base CX0 10 T.f_Store_shape T.fd_Store_shape ["self"] (spF K 1 vC) :=
 vD (k:=9) T.F_Store_shape mG fun cdv A outer s H E hr =>
   (zM (zG (xX (zX0 T) hr (zZ (yX T.ca_Store T.cl_Store T.n_Store_root (zX 0)) zT))))
def uL (self:List D->Option D):Ef:=(eIf (tB1 (yY "Page" "leaf" (eV 0))) (wD (zY (aR (eC (.str "leaf"))) (zY (zRf (nH (yY "Page" "things" (eV 0)))) zN)))
 (wD (zY (aR (eC (.str "branch"))) (zY (eL (yC (zZV (yY "Page" "leasts" (eV 0)) (yY "Page" "things" (eV 0))) 2 [] (gT (zD (gN 0) (zD (gN 1) wE))) tOK (wD (zY (aR (eV 0)) (zY (aR (yY "Page" "most" (eV 1))) (zY (zL 1 self (zY (eV 1) zN)) zN)))))) zN))))
def xF:Nat->List D->Option D
 | 0=>fun _=>none
 | n+1=>zSt 1 (uL (xF n))
theorem aO (T:Txt K mg)(n:Nat)(self:List D->Option D)(IH:FnOk P w K mg base CX0 (1+n) T.q23.f T.q23.fd ["page"] (aH K 1 self)):FnOk P w K mg base CX0 (1+n+1) T.q23.f T.q23.fd ["page"] (aH K 1 (zSt 1 (uL self))) :=
 zV6 (k:=1+n) T.q23.F fB fun cdv A outer s H E hr =>
   (zQh (xG (yX T.ca_Page T.cl_Page T.n_Page_leaf (zX 0))) (zYS (zWv (qR (dH tS) (qR (zR9 (fS rfl T.z_list (yX T.ca_Page T.cl_Page T.n_Page_things (zX 0)))) zZq))))
     (zYS (zWv (qR (dH tS) (qR (zSk (zU qY) ["page"] ["least","inner"] [] [] (zRY (sV (mS 0) (sV (mS 1) dQ))) (zVy rfl T.z_zip (yX T.ca_Page T.cl_Page T.n_Page_leasts (zX 0)) (yX T.ca_Page T.cl_Page T.n_Page_things (zX 0))) rfl rfl rfl (by decide +kernel) (fun _ _ _ _=>(zW7 2 rfl (yG (uU 0 (show(List.Nodup (α:=PySem.Str) ["least","inner"]) from by decide +kernel)) (yG (uU 1 (show(List.Nodup (α:=PySem.Str) ["least","inner"]) from by decide +kernel)) qS)) (wZ (wZ nY)))) (fun _ _ _ _=>wL) (fun _ _ _ _=>(zWv (qR (dH (zX 0)) (qR (dH (yX T.ca_Page T.cl_Page T.n_Page_most (zX 1))) (qR (zP2 IH hr (zZ (zX 1) zT)) zZq)))))) zZq)))))
theorem kP (T:Txt K mg):∀n:Nat,FnOk P w K mg base CX0 (1+n) T.q23.f T.q23.fd ["page"] (aH K 1 (xF n))
 | 0=>zWT
 | n+1=>aO T n _ (kP T n)
def w9:List D->Option D:=zSt 1 (zL 1 (xF 8) (zY (yY "Store" "root" (eV 0)) zN))
theorem dY (T:Txt K mg):FnOk P w K mg base CX0 10 T.f_Store_shape T.fd_Store_shape ["self"] (aH K 1 w9) :=
 zV6 (k:=9) T.F_Store_shape mG fun cdv A outer s H E hr =>
   (zYS (zP2 (kP T 8) hr (zZ (yX T.ca_Store T.cl_Store T.n_Store_root (zX 0)) zT)))
theorem tZ:FnScope ["_law_script","_law_pool_here","_law_held","_law_store","_law_kept_here","_law_k","_law_cell_here","_law_deed","_law_told","_law_due_here"] ["_law_script"] (zU zTN):=xC (by decide +kernel)
def oR:Sf:=(sIf (fW 4 2 (lU (eB2 gEq (eIx (eV 7) (eC (.int 0))) (eC (.str "take"))) (zUb false (wD (zY (eIx (eIx (eV 7) (eC (.int 1))) (eC (.int 0))) (zY (eIx (eIx (eV 7) (eC (.int 1))) (eC (.int 2))) zN))) (eV 4)))) (zC (rT 3 1 wB (zY (eV 7) zN))
   (rT 4 1 uQ (zY (eV 7) zN))) sR)
def cO:Sf:=(zWl 8 (cK 3 1 (kF "Store" "shape" 1 w9 (eV 3) zN)) (zTf 9 (rE 4 2 (zL 1 tR (zY (eV 4) zN))) (hIf 8 (yD (tB1 (zL 2 yQ (zY (zL 1 wP (zY (eV 8) zN)) (zY (eV 9) zN))))) (xT (eC (.bl false))) (zZ5 8 (eB2 gEq (yA (eV 5) (eC (.int 8))) (eC (.int 5))) (zUV 2 (wD (zY (eV 8) (zY (eV 9) zN)))) (zTl (dIx 1 (eY some yT)))))))
def lI:Sf:=(zC (lQ (iL (rE 4 2 (zL 3 vY (zY (eV 1) (zY (eV 6) (zY (eV 4) zN)))))) (gN 7) (oR))
   (cO))
def aW:Sf:=(zC (yO 5 (uJ (eV 5) (eC (.int 1))))
   (lI))
def pD:Sf:=(zC (yO 6 (uJ (eV 6) (oU (oU (eV 5) (eV 5)) (eC (.int 1000003)))))
   (aW))
def cN:Sf:=(sIf (yD (tB1 (zL 2 yQ (zY (zL 1 wP (zY (eV 8) zN)) (zY (eV 9) zN))))) (xT (eC (.bl false))) sR)
def zWe:Sf:=(xT (rE 4 2 (rE 3 1 (zL 2 yQ (zY (zL 1 wP (zY (kF "Store" "shape" 1 vC (eV 3) zN) zN)) (zY (zL 1 tR (zY (eV 4) zN)) zN))))))
def zZj:Sf:=(zC (aN 2 (lQ (iL (eV 2)) (gT (zD (gN 8) (zD (gN 9) wE))) (cN)))
   (zWe))
def zYF:Sf:=(zC (lQ (xJ (eV 0) (xN (eC (.int 2))) (xN (eC (.int 63)))) (gN 6) (pD))
   (zZj))
def zYY:Sf:=(zC (yO 5 (eC (.int 0)))
   (zYF))
def zZd:Sf:=(zC (zTm 4)
   (zYY))
def zYK:Sf:=(zC (zZy 3 "Store" ["size","root"] 1 bF (zY (uJ (eC (.int 4)) (yA (zL 2 qX (zY (eV 0) (zY (eC (.int 0)) zN))) (eC (.int 9)))) zN))
   (zZd))
def zZe:Sf:=(zC (kB 2 (wQ zN))
   (zYK))
def dP:Sf:=(zC (yO 1 (zL 1 jK (zY (zL 2 qX (zY (eV 0) (zY (eC (.int 1)) zN))) zN)))
   (zZe))
def zPB:Sf :=
   (dP)
def zZQ:List D->Option D:=fnF 10 zPB
theorem zPM (T:Txt K mg):OkT P w base T.q25 18 1 zZQ :=
 vD (k:=17) T.q25.F tZ fun cdv A outer s H E hr =>
   (zV dP rfl (zH 1 tZ.nd (xX (zXC T) hr (zZ (xX (eQ T) hr (zZ (zX 0) (zZ zW zT))) zT)))
     (zV zZe rfl (zTK 2 tZ.nd (xK zT))
     (zV zYK rfl (zSH 3 tZ.nd T.ca_Store T.mk_Store (zVr T) (hr.mono (by lia)) T.mc_Store T.bi_Store rfl (zZ (vG zW (yR (xX (eQ T) hr (zZ (zX 0) (zZ zW zT))) zW)) zT))
     (zV zZd rfl (zTS 4 tZ.nd)
     (zV zYY rfl (zH 5 tZ.nd zW)
     (zV zYF rfl (nE El rfl (zT5 (w4 (zX 0) (rD zW) (rD zW))) (uU 6 tZ.nd) (zV pD rfl (zH 6 tZ.nd (vG (zX 6) (uH (uH (zX 5) (zX 5)) zW)))
     (zV aW rfl (zRv 5 tZ.nd zW)
     (zV lI rfl (nE El rfl (aP (iG 4 2 (xX (zYV T) hr (zZ (zX 1) (zZ (zX 6) (zZ (zX 4) zT)))))) (uU 7 tZ.nd) (zM (wX (zUy 4 2 (zYp (pJ (yU gS (yW (zX 7) zW) tS) (nI (zUB hr (tM (zZ (yW (yW (zX 7) zW) zW) (zZ (yW (yW (zX 7) zW) zW) zT))) (zX 4)))))) (gG (zZB 3 (zXT T) hr (zZ (zX 7) zT))
     (zM (zZB 4 (zYh T) hr (zZ (zX 7) zT)))) yL)))
     (zUm 8 tZ.nd (zUe 3 1 (zTP T.ca_Store T.cl_Store T.me_Store_shape (dY T) (hr.mono (by lia)) T.b_Store_shape (zX 3))) (zQo 8 9 tZ.nd (iG 4 2 (xX (jP T) hr (zZ (zX 4) zT))) (zPA 8 (wF (xG (xX (tX T) hr (zZ (xX (lL T) hr (zZ (zX 8) zT)) (zZ (zX 9) zT))))) (zM (zG oY)) (zRg 8 (yU gS (yR (zX 5) zW) zW) (zM (zQK 2 (zTJ Tc PySem.F.slot_list_append PySem.F.type_list_append zZC (pv 2) (yK (tM (zZ (zX 8) (zZ (zX 9) zT))) wI)))) (zTG 8 (zVB (zOr (jQ T) hr (zT7 8))))))))))))
     (zV zZj rfl (bQ 2 (nE El rfl (aP (zX 2)) (zW7 2 rfl (yG (uU 8 tZ.nd) (yG (uU 9 tZ.nd) qS)) (wZ (wZ nY))) (zM (wX (wF (xG (xX (tX T) hr (zZ (xX (lL T) hr (zZ (zX 8) zT)) (zZ (zX 9) zT))))) (zM (zG oY)) yL))))
     (zM (zG (iG 4 2 (iG 3 1 (xX (tX T) hr (zZ (xX (lL T) hr (zZ (zTL T.ca_Store T.cl_Store T.me_Store_shape (bC T) (hr.mono (by lia)) T.b_Store_shape (zX 3)) zT)) (zZ (xX (jP T) hr (zZ (zX 4) zT)) zT))))))))))))))
end
open PySem.W
theorem zQn {l:OpenLaw}{w:World}{K:Frag}{h:Heap}{mg:Str->Option Value}{fa:Addr}
   {f16:Addr} {od16 an16:Option Addr} {sl16:Array (Option Value)} {oc16 kV16 dc16 pm16 cd16 ct16:Value}
   {f19:Addr} {od19 an19:Option Addr} {sl19:Array (Option Value)} {oc19 kV19 dc19 pm19 cd19 ct19:Value}
   {f24:Addr} {od24 an24:Option Addr} {sl24:Array (Option Value)} {oc24 kV24 dc24 pm24 cd24 ct24:Value}
   {cC0 cF0:Addr} {codi0 cani0:Option Addr} {csl0:Array (Option Value)} {coc0 ckV0 cdc0 cpm0 ccd0 cct0:Value}
   {cC1 cF1:Addr} {codi1 cani1:Option Addr} {csl1:Array (Option Value)} {coc1 ckV1 cdc1 cpm1 ccd1 cct1:Value} (X:K.In h) (G:h.Ns mainGlobals mg) (hfa:mg "law"=some (.ref fa))
   (g0:rM K "_law_mixed" lX)
   (g1:rM K "_law_word" jJ)
   (g2:rM K "_law_pool" oH)
   (g3:rM K "_law_number" oM)
   (g4:rM K "_law_entries" pZ)
   (g5:rM K "_law_cell" kA)
   (g6:rM K "_law_due" kY)
   (g7:rM K "_law_entry" mC)
   (g8:rM K "_law_deeds" sP)
   (g9:rM K "_law_flat" nC)
   (g10:rM K "root_of" gI)
   (g11:rM K "rank" zWu)
   (g12:rM K "way" zV3)
   (g13:rM K "entry_like" rP)
   (g14:rM K "pages_of" jG)
   (g15:rM K "put_beneath" pO)
   (g17:rM K "filled" iB)
   (g18:rM K "taken_beneath" uY)
   (g20:rM K "_law_done" jV)
   (g21:rM K "_law_kept" jM)
   (g22:rM K "_law_first_leaf" tQ)
   (g23:rM K "shape_of" qY)
   (g25:rM K "law" zTN)
   (ca0:nsIn K mainGlobals "Page"=some (some (.ref cC0))) (ci0:findIn K (.ref cC0) "__init__"=some (some (.ref cF0))) (cn0:isFn K (.ref cF0)=true) (cl0:K.lookup cF0=some ⟨coc0,codi0,.func (fnOf "__init__" "Page.__init__" (vL rX) (xY rX) (zU rX) .none ckV0 cdc0 cpm0 cani0 ccd0 cct0),csl0⟩) (cc0:codeIn K ccd0 "Page.__init__"=true) (ck0:keepIn K (.ref cF0)=true)
   (cpg0:plainGet K cC0 Str.empty=true) (chd0:hasDictIn K cC0=true) (cpo0:plainOver K cC0=true) (csa0:findIn K (.ref cC0) "__setattr__"=some (some (.builtin "object.__setattr__"))) (cmk0:makesIn K cC0=true) (ckc0:keepIn K (.ref cC0)=true)
   (cf0_leaf:findIn K (.ref cC0) "leaf"=some none)
   (cf0_leasts:findIn K (.ref cC0) "leasts"=some none)
   (cf0_most:findIn K (.ref cC0) "most"=some none)
   (cf0_things:findIn K (.ref cC0) "things"=some none)
   (ca1:nsIn K mainGlobals "Store"=some (some (.ref cC1))) (ci1:findIn K (.ref cC1) "__init__"=some (some (.ref cF1))) (cn1:isFn K (.ref cF1)=true) (cl1:K.lookup cF1=some ⟨coc1,codi1,.func (fnOf "__init__" "Store.__init__" (vL oP) (xY oP) (zU oP) .none ckV1 cdc1 cpm1 cani1 ccd1 cct1),csl1⟩) (cc1:codeIn K ccd1 "Store.__init__"=true) (ck1:keepIn K (.ref cF1)=true)
   (cpg1:plainGet K cC1 Str.empty=true) (chd1:hasDictIn K cC1=true) (cpo1:plainOver K cC1=true) (csa1:findIn K (.ref cC1) "__setattr__"=some (some (.builtin "object.__setattr__"))) (cmk1:makesIn K cC1=true) (ckc1:keepIn K (.ref cC1)=true)
   (cf1_root:findIn K (.ref cC1) "root"=some none)
   (cf1_size:findIn K (.ref cC1) "size"=some none)
   (a16:findIn K (.ref cC1) "put"=some (some (.ref f16))) (n16:isFn K (.ref f16)=true) (l16:K.lookup f16=some ⟨oc16,od16,.func (fnOf "put" "Store.put" (vL uN) (xY uN) (zU uN) .none kV16 dc16 pm16 an16 cd16 ct16),sl16⟩) (c16:codeIn K cd16 "Store.put"=true) (k16:keepIn K (.ref f16)=true)
   (a19:findIn K (.ref cC1) "take"=some (some (.ref f19))) (n19:isFn K (.ref f19)=true) (l19:K.lookup f19=some ⟨oc19,od19,.func (fnOf "take" "Store.take" (vL vU) (xY vU) (zU vU) .none kV19 dc19 pm19 an19 cd19 ct19),sl19⟩) (c19:codeIn K cd19 "Store.take"=true) (k19:keepIn K (.ref f19)=true)
   (a24:findIn K (.ref cC1) "shape"=some (some (.ref f24))) (n24:isFn K (.ref f24)=true) (l24:K.lookup f24=some ⟨oc24,od24,.func (fnOf "shape" "Store.shape" (vL wM) (xY wM) (zU wM) .none kV24 dc24 pm24 an24 cd24 ct24),sl24⟩) (c24:codeIn K cd24 "Store.shape"=true) (k24:keepIn K (.ref f24)=true)
   (z_bool:nsIn K mainGlobals "bool"=some none)
   (z_enumerate:nsIn K mainGlobals "enumerate"=some none)
   (z_int:nsIn K mainGlobals "int"=some none)
   (z_isinstance:nsIn K mainGlobals "isinstance"=some none)
   (z_len:nsIn K mainGlobals "len"=some none)
   (z_list:nsIn K mainGlobals "list"=some none)
   (z_max:nsIn K mainGlobals "max"=some none)
   (z_min:nsIn K mainGlobals "min"=some none)
   (z_range:nsIn K mainGlobals "range"=some none)
   (z_sorted:nsIn K mainGlobals "sorted"=some none)
   (z_str:nsIn K mainGlobals "str"=some none)
   (z_tuple:nsIn K mainGlobals "tuple"=some none)
   (z_zip:nsIn K mainGlobals "zip"=some none) :
   ∃fd:FuncData,(∀(s:Shared) (v:Value),BindsTo s fd ⟨[v],[]⟩ [("_law_script",v)])/\∀base:Heap,K.In base->base.Ns mainGlobals mg->FnOk l.prog w K mg base CX0 18 fa fd ["_law_script"] (spF K 1 zZQ):=by
 have cFF0:=kC (st:=rX) cl0 cc0 ck0
 have cb0:=cFF0.binds (ps:=["self","leaf","things"]) fun _ _ _ _ _ _ us hl=>match us,hl with | [_,_,_],_=>rfl
 have cFF1:=kC (st:=oP) cl1 cc1 ck1
 have cb1:=cFF1.binds (ps:=["self","size"]) fun _ _ _ _ _ _ us hl=>match us,hl with | [_,_],_=>rfl
 have F16:=kC (st:=uN) l16 c16 k16
 have b16:=F16.binds (ps:=["self","entry"]) fun _ _ _ _ _ _ us hl=>match us,hl with | [_,_],_=>rfl
 have F19:=kC (st:=vU) l19 c19 k19
 have b19:=F19.binds (ps:=["self","entry"]) fun _ _ _ _ _ _ us hl=>match us,hl with | [_,_],_=>rfl
 have F24:=kC (st:=wM) l24 c24 k24
 have b24:=F24.binds (ps:=["self"]) fun _ _ _ _ _ _ us hl=>match us,hl with | [_],_=>rfl
 exact zQ8 _ (bd1 fun _ _ _ _ _ _ _=>rfl) hfa fun base=>zPM ({ q0:=rF X G g0 (bd2 fun _ _ _ _ _ _ _ _=>rfl),q1:=rF X G g1 (bd2 fun _ _ _ _ _ _ _ _=>rfl),q2:=rF X G g2 (bd1 fun _ _ _ _ _ _ _=>rfl),q3:=rF X G g3 (bd1 fun _ _ _ _ _ _ _=>rfl),q4:=rF X G g4 (bd2 fun _ _ _ _ _ _ _ _=>rfl),q5:=rF X G g5 (bd2 fun _ _ _ _ _ _ _ _=>rfl),q6:=rF X G g6 (bd1 fun _ _ _ _ _ _ _=>rfl),q7:=rF X G g7 (bd3 fun _ _ _ _ _ _ _ _ _=>rfl),q8:=rF X G g8 (bd3 fun _ _ _ _ _ _ _ _ _=>rfl),q9:=rF X G g9 (bd1 fun _ _ _ _ _ _ _=>rfl),q10:=rF X G g10 (bd1 fun _ _ _ _ _ _ _=>rfl),q11:=rF X G g11 (bd1 fun _ _ _ _ _ _ _=>rfl),q12:=rF X G g12 (bd2 fun _ _ _ _ _ _ _ _=>rfl),q13:=rF X G g13 (bd2 fun _ _ _ _ _ _ _ _=>rfl),q14:=rF X G g14 (bd3 fun _ _ _ _ _ _ _ _ _=>rfl),q15:=rF X G g15 (bd3 fun _ _ _ _ _ _ _ _ _=>rfl),q17:=rF X G g17 (bd2 fun _ _ _ _ _ _ _ _=>rfl),q18:=rF X G g18 (bd3 fun _ _ _ _ _ _ _ _ _=>rfl),q20:=rF X G g20 (bd2 fun _ _ _ _ _ _ _ _=>rfl),q21:=rF X G g21 (bd2 fun _ _ _ _ _ _ _ _=>rfl),q22:=rF X G g22 (bd1 fun _ _ _ _ _ _ _=>rfl),q23:=rF X G g23 (bd1 fun _ _ _ _ _ _ _=>rfl),q25:=rF X G g25 (bd1 fun _ _ _ _ _ _ _=>rfl),C_Page:=_,fi_Page:=_,fdi_Page:=_,ca_Page:=ca0,cl_Page:=⟨cpg0,chd0,cpo0,csa0⟩,mc_Page:=mg_of X G ca0,Fi_Page:=cFF0,bi_Page:=cb0,mk_Page:=⟨cmk0,ci0,cn0,ckc0⟩,n_Page_leaf:=cf0_leaf,n_Page_leasts:=cf0_leasts,n_Page_most:=cf0_most,n_Page_things:=cf0_things,C_Store:=_,fi_Store:=_,fdi_Store:=_,ca_Store:=ca1,cl_Store:=⟨cpg1,chd1,cpo1,csa1⟩,mc_Store:=mg_of X G ca1,Fi_Store:=cFF1,bi_Store:=cb1,mk_Store:=⟨cmk1,ci1,cn1,ckc1⟩,n_Store_root:=cf1_root,n_Store_size:=cf1_size,f_Store_put:=_,fd_Store_put:=_,F_Store_put:=F16,b_Store_put:=b16,me_Store_put:=⟨a16,n16,k16⟩,f_Store_take:=_,fd_Store_take:=_,F_Store_take:=F19,b_Store_take:=b19,me_Store_take:=⟨a19,n19,k19⟩,f_Store_shape:=_,fd_Store_shape:=_,F_Store_shape:=F24,b_Store_shape:=b24,me_Store_shape:=⟨a24,n24,k24⟩,z_bool:=mg_none_of X G z_bool,z_enumerate:=mg_none_of X G z_enumerate,z_int:=mg_none_of X G z_int,z_isinstance:=mg_none_of X G z_isinstance,z_len:=mg_none_of X G z_len,z_list:=mg_none_of X G z_list,z_max:=mg_none_of X G z_max,z_min:=mg_none_of X G z_min,z_range:=mg_none_of X G z_range,z_sorted:=mg_none_of X G z_sorted,z_str:=mg_none_of X G z_str,z_tuple:=mg_none_of X G z_tuple,z_zip:=mg_none_of X G z_zip }:Txt K mg)
theorem zPQ {K:Frag}{H:Hp}{a:Addr}{ns:List Int}(hS:SqL K H a (ns.map V.int))(h:zZQ [.lst (ns.map .int)]=some (.bl true)):spF K 1 zZQ [.ref a] H (fun v _=>v = .bl true) fun _ _ _=>False:=by
 have rs:∀ns:List Int,Reps K H (ns.map .int) (ns.map V.int):=fun ns=>by
   induction ns with
   | nil=>exact zK.mpr rfl
   | cons n r ih=>exact zQ.mpr ⟨_,_,rfl,zJ.mpr rfl,ih⟩
 exact⟨H,[.lst (ns.map .int)],.bl true,Same.refl _,zQ.mpr ⟨_,_,rfl,xW.mpr ⟨a,_,rfl,hS,rs ns⟩,zK.mpr rfl⟩,rfl,h,fun v H' G' _ r=>tK.mp r⟩
end My
namespace My
open PySem L2
structure Et where
 f:Int
 l:Int
 z:Str
def kE (e:Et):Int×Str:=(e.f,e.z)
abbrev zE:Et:=⟨0,0,⟨#[]⟩⟩
def yB (a e:Et):Bool:=a.f==e.f&&(a.l==e.l&&a.z==e.z)
theorem uO {a e:Et}:yB a e=true↔a=e:=by
 obtain⟨f,l,z⟩:=a
 obtain⟨f',l',z'⟩:=e
 unfold yB
 simp
def rB (l:List Et):List Et:=(jD (l.map kE)).map fun i=>l.getD i zE
theorem zQZ {l:List Et}{i:Nat}(h:i∈jD (l.map kE)):i < l.length:=by
 have:=(rG (l.map kE)).subset h
 simpa using this
theorem jR (l:List Et):(rB l).Perm l:=by
 unfold rB
 refine((rG (l.map kE)).map _).trans ?_
 rw[Qu,tY]
theorem zW3 (l:List Et):(rB l).map kE=oO (l.map kE):=by
 unfold rB oO
 rw[Rp]
 refine Iq fun i hi=>?_
 have h:=zQZ hi
 show kE (l.getD i zE)=(l.map kE).getD i isZ
 simp[h]
theorem fL (l:List Et):(rB l).length=l.length:=(jR l).length_eq
def Srt (es:List Et):Prop:=es.Pairwise fun a b=>yF (kE a) (kE b)=true
theorem zVX {a b:Int×Str}(h:yF a b=true):yF b a=false:=by
 cases q:yF b a
 · rfl
 · have:=zZp h q;rw[wS] at this;cases this
theorem zQR {a b c:Int×Str}(h:yF a b=true)(h2:yF c b=false):yF a c=true:=by
 rcases zX7 (b:=c) h with q | q
 · exact q
 · rw[h2] at q;cases q
theorem Srt.of {es:List Et}(h:(es.map kE).Pairwise fun a b=>yF b a=false)(nd:(es.map kE).Nodup):Srt es:=by
 unfold Srt
 rw[Em] at h
 have nd:=Em.mp nd
 refine(h.and nd).imp fun {a b} z=>?_
 cases q:yF (kE a) (kE b)
 · exact absurd (zVK q z.1) z.2
 · rfl
theorem Srt.nd {es:List Et}(h:Srt es):(es.map kE).Nodup:=by
 refine Em.mpr (h.imp fun {a b} z e=>?_)
 rw[e,wS] at z;cases z
theorem Srt.up {es:List Et}(h:Srt es):(es.map kE).Pairwise fun a b=>yF b a=false:=Em.mpr (h.imp fun {a b} z=>zVX z)
theorem zUR {l:List Et}(nd:(l.map kE).Nodup):Srt (rB l):=by
 refine Srt.of ?_ ((((jR l).map kE)).nodup_iff.mpr nd)
 rw[zW3];exact kO _
theorem Srt.inj {es:List Et}(h:Srt es){a b:Et}(ha:a∈es)(hb:b∈es)(e:kE a=kE b):a=b:=by
 induction es with
 | nil=>cases ha
 | cons x r ih =>
   obtain⟨p,q⟩:=Ro.mp h
   rcases Qd.mp ha with ea | ha'<;>rcases Qd.mp hb with eb | hb'
   · rw[ea,eb]
   · have:=p b hb';rw[←ea,e,wS] at this;cases this
   · have:=p a ha';rw[←eb,e,wS] at this;cases this
   · exact ih q ha' hb'
theorem iF:∀ {l m:List (Int×Str)},l.Perm m->l.Pairwise (fun a b=>yF b a=false)->m.Pairwise (fun a b=>yF b a=false)->l=m
 | [],m,h,_,_=>(List.Perm.nil_eq h)
 | a::r,m,h,h1,h2=>by
   cases m with
   | nil=>exact absurd h.length_eq (by simp)
   | cons b t =>
     obtain⟨p1,p2⟩:=Ro.mp h1
     obtain⟨q1,q2⟩:=Ro.mp h2
     have e:a=b:=by
       have ha:a∈b::t:=h.subset (by simp)
       have hb:b∈a::r:=h.symm.subset (by simp)
       rcases Qd.mp ha with e | e
       · exact e
       · rcases Qd.mp hb with e' | e'
         · exact e'.symm
         · exact zVK (q1 a e) (p1 b e')
     subst e
     rw[iF (List.Perm.cons_inv h) p2 q2]
@[reducible] def It:Nat->Type
 | 0=>Et
 | h+1=>List (It h)
def zP6 {α:Type}(f:α->Et):List α->Et
 | []=>zE
 | x::_=>f x
def zA:(h:Nat)->It h->Et
 | 0,e=>e
 | h+1,xs=>zP6 (zA h) xs
def most:(h:Nat)->It h->Int
 | 0,e=>e.l
 | h+1,xs=>mF (List.map (most h) xs)
def uT:(h:Nat)->It h->List Et
 | 0,e=>[e]
 | h+1,xs=>List.flatMap (uT h) xs
abbrev zS (h:Nat)(xs:List (It h)):List Et:=xs.flatMap (uT h)
def wJ {α:Type}(n:Nat)(xs:List α):List (List α):=if xs.length=0 then [] else if xs.length<=n then [xs] else [xs.take (xs.length / 2),xs.drop (xs.length / 2)]
def zVp (ls:List Et)(e:Et):Nat:=(ls.filter fun a => !yF (kE e) (kE a)).length - 1
def yH (h:Nat)(xs:List (It (h+1)))(e:Et):Nat:=zVp (xs.map (zA (h+1))) e
def eN:(h:Nat)->List (It h)->Et->Option Et
 | 0,xs,e=>(List.filter (fun a:Et=>decide (kE a=kE e)) xs).head?
 | h+1,xs,e=>eN h (List.getD xs (yH h xs e) []) e
def pC (n:Nat):(h:Nat)->List (It h)->Et->List (List (It h))
 | 0,xs,e=>wJ n (rB (xs++[e]))
 | h+1,xs,e=>wJ n (List.take (yH h xs e) xs++pC n h (List.getD xs (yH h xs e) []) e++List.drop (yH h xs e+1) xs)
def qN {α:Type}(n:Nat)(ps:List (List α)):List (List α) :=
 match ps.findIdx? (fun x=>decide (x.length < n / 2)) with
 | none=>ps
 | some i=>ps.take (i - 1)++wJ n ((ps.drop (i - 1)).take 2).flatten++ps.drop (i - 1+2)
def eF (n:Nat):(h:Nat)->List (It h)->Et->List (List (It h))
 | 0,xs,e=>wJ n (List.filter (fun a:Et => !yB a e) xs)
 | h+1,xs,e=>wJ n (qN n (List.take (yH h xs e) xs++eF n h (List.getD xs (yH h xs e) []) e++List.drop (yH h xs e+1) xs))
def wC (n:Nat):(h:Nat)->It h->Prop
 | 0,_=>True
 | h+1,xs=>n / 2<=List.length xs/\List.length xs<=n/\∀x∈(xs:List (It h)),wC n h x
theorem nS {n h:Nat}{xs:List (It h)}(h1:n / 2<=xs.length)(h2:xs.length<=n)(h3:∀x∈xs,wC n h x):wC n (h+1) xs:=⟨h1,h2,h3⟩
theorem yJ {n h:Nat}{xs:List (It h)}(H:wC n (h+1) xs):n / 2<=xs.length/\xs.length<=n/\∀x∈xs,wC n h x:=H
theorem zZ2 {α:Type}(n:Nat)(xs:List α):(wJ n xs).flatten=xs:=by
 unfold wJ
 split
 · rename_i h;rw[Yn] at h;rw[h];rfl
 · split
   · simp
   · simp
theorem jE {α:Type}{n:Nat}{xs:List α}(h0:0 < xs.length)(h1:xs.length<=n):wJ n xs=[xs]:=by
 unfold wJ
 rw[Qa (by lia),Qi h1]
theorem zXs {α:Type}{n:Nat}{xs:List α}(h1:n < xs.length):wJ n xs=[xs.take (xs.length / 2),xs.drop (xs.length / 2)]:=by
 unfold wJ
 rw[Qa (by lia),Qa (by lia)]
inductive PutOk (n h:Nat)(m:Nat):List (List (It h))->Prop
 | one {y:List (It h)}:m<=y.length->y.length<=n->(∀x∈y,wC n h x)->PutOk n h m [y]
 | two {y z:List (It h)}:wC n (h+1) y->wC n (h+1) z->PutOk n h m [y,z]
theorem zZG {n h m:Nat}{xs:List (It h)}(hn:4<=n)(h0:0 < xs.length)(hm:m<=xs.length)(h1:xs.length<=n+1)(hf:∀x∈xs,wC n h x):PutOk n h m (wJ n xs):=by
 by_cases h2:xs.length<=n
 · rw[jE h0 h2];exact .one hm h2 hf
 · rw[zXs (by lia)]
   refine .two (nS ?_ ?_ ?_) (nS ?_ ?_ ?_)
   · rw[Qh];lia
   · rw[Qh];lia
   · exact fun x hx=>hf x (Wz hx)
   · rw[Wi];lia
   · rw[Wi];lia
   · exact fun x hx=>hf x (Wl hx)
theorem PutOk.all {n h m:Nat}{ys:List (List (It h))}(H:PutOk n h m ys)(hm:n / 2<=m):(∀y∈ys,wC n (h+1) y)/\(ys.length=1∨ys.length=2):=by
 cases H with
 | one a b c=>exact⟨fun y hy=>by rw[Wq] at hy;subst hy;exact nS (Wu hm a) b c,.inl rfl⟩
 | two a b =>
   refine⟨fun y hy=>?_,.inr rfl⟩
   rcases Qd.mp hy with rfl | hy
   · exact a
   · rw[Wq] at hy;subst hy;exact b
theorem zQz {ls:List Et}{e:Et}(h:0 < ls.length):zVp ls e < ls.length:=by
 have:=Tw (fun a => !yF (kE e) (kE a)) ls
 unfold zVp
 lia
theorem zZz {h:Nat}{xs:List (It (h+1))}{e:Et}(h0:0 < xs.length):yH h xs e < xs.length:=by
 have:=zQz (ls:=xs.map (zA (h+1))) (e:=e) (by simpa using h0)
 simpa [yH] using this
theorem zTg {α:Type}{xs:List α}{i:Nat}{d:α}(h:i < xs.length):xs=xs.take i++xs.getD i d::xs.drop (i+1):=by
 have:xs.getD i d=xs[i]:=by simp[h]
 rw[this,List.getElem_cons_drop,Wn]
theorem zXa (n:Nat)(hn:4<=n)(e:Et):∀(h:Nat) (xs:List (It h)),xs.length<=n->(h=0∨0 < xs.length)->(∀x∈xs,wC n h x)->PutOk n h xs.length (pC n h xs e)
 | 0,xs,hl,_,hf=>by
   have hL:(rB (xs++[e])).length=xs.length+1:=by
     rw[fL];exact Qr
   exact zZG (h:=0) hn (by lia) (by lia) (by lia) fun _ _=>trivial
 | h+1,xs,hl,h0,hf=>by
   have h0:0 < xs.length:=by rcases h0 with z | z;cases z;exact z
   have hw:=zZz (e:=e) h0
   have hc:wC n (h+1) (xs.getD (yH h xs e) []):=hf _ (by
     have:xs.getD (yH h xs e) []=xs[yH h xs e]:=by simp[hw]
     rw[this];exact Ta hw)
   obtain⟨c1,c2,c3⟩:=yJ hc
   have ih:=zXa n hn e h (xs.getD (yH h xs e) []) c2 (.inr (by lia)) c3
   obtain⟨hall,hlen⟩:=ih.all c1
   show PutOk n (h+1) xs.length (wJ n (xs.take (yH h xs e)++pC n h (xs.getD (yH h xs e) []) e++xs.drop (yH h xs e+1)))
   have hL:(xs.take (yH h xs e)++pC n h (xs.getD (yH h xs e) []) e++xs.drop (yH h xs e+1)).length=xs.length - 1+(pC n h (xs.getD (yH h xs e) []) e).length:=by
     rw[Qr,Qr,Qh,Wi];lia
   refine zZG (h:=h+1) hn (by lia) (by lia) (by lia) fun x hx=>?_
   rcases Qn.mp hx with hx | hx
   · rcases Qn.mp hx with hx | hx
     · exact hf x (Wz hx)
     · exact hall x hx
   · exact hf x (Wl hx)
theorem zYk {α:Type}{n:Nat}{L R:List (List α)}{c:List α}(hL:∀x∈L,n / 2<=x.length)(hR:∀x∈R,n / 2<=x.length) :
   (L++c::R).findIdx? (fun x=>decide (x.length < n / 2))=if c.length < n / 2 then some L.length else none:=by
 induction L with
 | nil =>
   rw[Yd,Ig]
   by_cases q:c.length < n / 2
   · rw[Qi q];simp[q]
   · have:R.findIdx? (fun x=>decide (x.length < n / 2))=none:=List.findIdx?_eq_none_iff.mpr fun x hx=>by have:=hR x hx;simp;lia
     rw[Qa q,this];simp[q]
 | cons x r ih =>
   have hx:=hL x Qb
   rw[Yr,Ig,ih fun y hy=>hL y (Qj _ hy)]
   rw[show decide (x.length < n / 2)=false from by simp;lia]
   by_cases q:c.length < n / 2<;>simp[q]
theorem zVv {n h:Nat}(hn:4<=n){L R:List (List (It h))}{c:List (It h)}(hL:∀x∈L,wC n (h+1) x)(hR:∀x∈R,wC n (h+1) x)(hc:n / 2<=c.length+1)(hc2:c.length<=n)(hcf:∀x∈c,wC n h x)(h2:1<=L.length+R.length) :
   (∀x∈qN n (L++c::R),wC n (h+1) x)/\L.length+R.length<=(qN n (L++c::R)).length/\(qN n (L++c::R)).length<=L.length+R.length+1/\(qN n (L++c::R)).flatten=(L++c::R).flatten:=by
 have hf:=zYk (n:=n) (L:=L) (R:=R) (c:=c) (fun x hx=>(yJ (hL x hx)).1) (fun x hx=>(yJ (hR x hx)).1)
 unfold qN
 rw[hf]
 by_cases q:c.length < n / 2
 · rw[Qi q]
   show(∀x∈(L++c::R).take (L.length - 1)++wJ n (((L++c::R).drop (L.length - 1)).take 2).flatten++(L++c::R).drop (L.length - 1+2),wC n (h+1) x)/\_
   -- two pages put together
   have two:∀(A B:List (List (It h))) (u v:List (It h)),(∀x∈A,wC n (h+1) x)->(∀x∈B,wC n (h+1) x)->(∀x∈u++v,wC n h x)->n / 2*2<=(u++v).length+1->(u++v).length<=n / 2+n->A.length+2+B.length=L.length+1+R.length->A++u::v::B=L++c::R ->
       (∀x∈A++wJ n (u++v)++B,wC n (h+1) x)/\L.length+R.length<=(A++wJ n (u++v)++B).length/\(A++wJ n (u++v)++B).length<=L.length+R.length+1/\(A++wJ n (u++v)++B).flatten=(L++c::R).flatten:=by
     intro A B u v hA hB huv l1 l2 ll heq
     have hlen:(∀x∈wJ n (u++v),wC n (h+1) x)/\1<=(wJ n (u++v)).length/\(wJ n (u++v)).length<=2:=by
       by_cases hs:(u++v).length<=n
       · rw[jE (by lia) hs]
         refine⟨fun x hx=>?_,by simp,by simp⟩
         rw[Wq] at hx;subst hx
         exact nS (by lia) hs huv
       · rw[zXs (by lia)]
         refine⟨fun x hx=>?_,by simp,by simp⟩
         rcases Qd.mp hx with rfl | hx
         · exact nS (by rw[Qh];lia) (by rw[Qh];lia) fun x hx=>huv x (Wz hx)
         · rw[Wq] at hx;subst hx
           exact nS (by rw[Wi];lia) (by rw[Wi];lia) fun x hx=>huv x (Wl hx)
     refine⟨fun x hx=>?_,?_,?_,?_⟩
     · rcases Qn.mp hx with hx | hx
       · rcases Qn.mp hx with hx | hx
         · exact hA x hx
         · exact hlen.1 x hx
       · exact hB x hx
     · rw[Qr,Qr];lia
     · rw[Qr,Qr];lia
     · rw[←heq,Ie,Ie,zZ2,Ie,Yw,Yw]
       simp
   rcases List.eq_nil_or_concat L with rfl | ⟨A,u,rfl⟩
   · cases R with
     | nil=>simp at h2
     | cons v B =>
       obtain⟨v1,v2,v3⟩:=yJ (hR v Qb)
       have:=two [] B c v (fun x hx=>nomatch hx) (fun x hx=>hR x (Qj _ hx)) (fun x hx=>by rcases Qn.mp hx with z | z;exact hcf x z;exact v3 x z) (by rw[Qr];lia) (by rw[Qr];lia) (by simp;lia) (by simp)
       simpa using this
   · obtain⟨u1,u2,u3⟩:=yJ (hL u (by simp))
     have:=two A R u c (fun x hx=>hL x (by simp[hx])) hR (fun x hx=>by rcases Qn.mp hx with z | z;exact u3 x z;exact hcf x z) (by rw[Qr];lia) (by rw[Qr];lia) (by simp) (by simp)
     have e1:(A.concat u).length - 1=A.length:=by simp
     have e2:(A.concat u++c::R).take A.length=A:=by simp
     have e3:((A.concat u++c::R).drop A.length).take 2=[u,c]:=by simp
     have e4:(A.concat u++c::R).drop (A.length+2)=R:=by simp[Oo]
     rw[e1,e2,e3,e4]
     simpa using this
 · rw[Qa q]
   refine⟨fun x hx=>?_,by simp,by simp;lia,rfl⟩
   rcases Qn.mp hx with hx | hx
   · exact hL x hx
   · rcases Qd.mp hx with rfl | hx
     · exact nS (by lia) hc2 hcf
     · exact hR x hx
theorem qU {α β:Type}{f:α->List β}:∀ {xs:List α} {x:α},x∈xs->(f x).Sublist (xs.flatMap f)
 | y::r,x,h=>by
   rw[Ye]
   rcases Qd.mp h with rfl | h
   · exact List.sublist_append_left _ _
   · exact(qU h).trans (List.sublist_append_right _ _)
theorem zZE {α β:Type}(f:α->List β):∀ys:List (List α),(ys.flatMap fun xs=>xs.flatMap f)=ys.flatten.flatMap f
 | []=>rfl
 | y::r=>by rw[Ye,zZE f r,Yw,Ir]
theorem jH (h:Nat)(ys:List (List (It h))):zS (h+1) ys=zS h ys.flatten:=zZE (uT h) ys
theorem jC (n h:Nat)(zs:List (It h)):zS (h+1) (wJ n zs)=zS h zs:=by rw[jH,zZ2]
theorem rH (h:Nat)(xs ys:List (It h)):zS h (xs++ys)=zS h xs++zS h ys:=Ir
theorem wO (h:Nat)(x:It h)(ys:List (It h)):zS h (x::ys)=uT h x++zS h ys:=Ye
theorem uS (xs:List (It 0)):zS 0 xs=xs:=by
 show xs.flatMap (fun e=>[e])=xs
 induction xs with
 | nil=>rfl
 | cons x r ih=>rw[Ye,ih];rfl
theorem zXh {es:List Et}(h:Srt es)(e:Et):es.length<=(es.filter fun a => !yB a e).length+1:=by
 induction es with
 | nil=>simp
 | cons x r ih =>
   obtain⟨p,q⟩:=Ro.mp h
   have ih:=ih q
   by_cases z:x=e
   · subst z
     have:r.filter (fun a => !yB a x)=r:=Iw.mpr fun a ha=>by
       cases y:yB a x
       · rfl
       · have:=p a ha;rw[uO.mp y,wS] at this;cases this
     rw[Wm,this];split<;>simp
   · have:yB x e=false:=by cases y:yB x e;rfl;exact absurd (uO.mp y) z
     rw[Tx (by simp[this])]
     simp only[Qs];lia
theorem fJ {n:Nat}(hn:2<=n):∀(h:Nat) (x:It h),wC n h x->∃t,uT h x=zA h x::t
 | 0,x,_=>⟨[],rfl⟩
 | h+1,xs,H=>by
   obtain⟨a,b,c⟩:=yJ H
   match xs,a,c with
   | [],a,_=>exact absurd a (by simp;lia)
   | x::r,a,c =>
     obtain⟨t,e⟩:=fJ hn h x (c x Qb)
     refine⟨t++r.flatMap (uT h),?_⟩
     show List.flatMap (uT h) (x::r)=_
     rw[Ye,e];rfl
theorem fP {n h:Nat}(hn:2<=n){xs:List (It (h+1))}(hf:∀x∈xs,wC n (h+1) x)(hs:Srt (zS (h+1) xs))(e:Et)(h0:0 < xs.length) :
   ∃L c R,xs=L++c::R/\L.length=yH h xs e/\(∀a∈zS (h+1) L,yF (kE a) (kE e)=true)/\(∀a∈zS (h+1) R,yF (kE e) (kE a)=true):=by
 have hd:=fun x hx=>fJ hn (h+1) x (hf x hx)
 -- a page's zA is no greater than what stands on it
 have low:∀x∈xs,∀a∈uT (h+1) x,yF (kE a) (kE (zA (h+1) x))=false:=by
   intro x hx a ha
   obtain⟨t,et⟩:=hd x hx
   have sx:Srt (uT (h+1) x):=hs.sublist (qU hx)
   rw[et] at ha sx
   rcases Qd.mp ha with rfl | ha
   · exact wS _
   · exact zVX ((Ro.mp sx).1 a ha)
 let p:It (h+1)->Bool:=fun x => !yF (kE e) (kE (zA (h+1) x))
 have cross:∀(A B:List (It (h+1))),A++B=xs->∀a∈zS (h+1) A,∀b∈zS (h+1) B,yF (kE a) (kE b)=true:=by
   intro A B he a ha b hb
   have:Srt (zS (h+1) (A++B)):=by rw[he];exact hs
   rw[show zS (h+1) (A++B)=zS (h+1) A++zS (h+1) B from Ir] at this
   exact(Qc.mp this).2.2 a ha b hb
 have lmem:∀x∈xs,zA (h+1) x∈uT (h+1) x:=fun x hx=>by obtain⟨t,et⟩:=hd x hx;rw[et];exact Qb
 have hfil:∀ys:List (It (h+1)),(∃A,A++ys=xs)->ys.filter p=ys.takeWhile p/\∀x∈ys.dropWhile p,p x=false:=by
   intro ys
   induction ys with
   | nil=>intro _;exact⟨rfl,fun x hx=>by simp at hx⟩
   | cons y r ih =>
     rintro⟨A,hA⟩
     by_cases py:p y=true
     · obtain⟨i1,i2⟩:=ih ⟨A++[y],by rw[←hA];simp⟩
       rw[Tx py,List.takeWhile_cons_of_pos py,i1,List.dropWhile_cons_of_pos py]
       exact⟨rfl,i2⟩
     · have py':p y=false:=by simpa using py
       have hy:y∈xs:=by rw[←hA];simp
       have key:∀x∈r,p x=false:=fun x hx=>by
         have hx':x∈xs:=by rw[←hA];simp[hx]
         have q1:yF (kE e) (kE (zA (h+1) y))=true:=by simpa [p] using py'
         have q2:yF (kE (zA (h+1) y)) (kE (zA (h+1) x))=true:=cross (A++[y]) r (by rw[←hA];simp) _ (Eb.mpr ⟨y,by simp,lmem y hy⟩) _ (Eb.mpr ⟨x,hx,lmem x hx'⟩)
         show(!_)=false
         rw[zZp q1 q2];rfl
       rw[Yv py,List.takeWhile_cons_of_neg py,List.dropWhile_cons_of_neg py]
       refine⟨List.filter_eq_nil_iff.mpr fun x hx=>by rw[key x hx];decide,fun x hx=>?_⟩
       rcases Qd.mp hx with rfl | hx
       · exact py'
       · exact key x hx
 obtain⟨f1,f2⟩:=hfil xs ⟨[],rfl⟩
 have hw:yH h xs e=(xs.takeWhile p).length - 1:=by
   unfold yH zVp
   rw[List.filter_map,Qu]
   show(xs.filter p).length - 1=_
   rw[f1]
 have hsp:xs=xs.takeWhile p++xs.dropWhile p:=(List.takeWhile_append_dropWhile).symm
 have hR:∀x∈xs,p x=false->∀a∈uT (h+1) x,yF (kE e) (kE a)=true:=fun x hx px a ha=>by
   have q1:yF (kE e) (kE (zA (h+1) x))=true:=by simpa [p] using px
   exact zQR q1 (low x hx a ha)
 rcases List.eq_nil_or_concat (xs.takeWhile p) with z | ⟨L,c,z⟩
 · match xs,h0,hw,z,f2,hR,hsp with
   | x::r,_,hw,z,f2,hR,hsp =>
     rw[z] at hw hsp
     rw[Yd] at hsp
     rw[←hsp] at f2
     refine⟨[],x,r,rfl,by rw[hw];rfl,fun a ha=>by simp at ha,fun a ha=>?_⟩
     obtain⟨y,hy,ha⟩:=Eb.mp ha
     exact hR y (Qj _ hy) (f2 y (Qj _ hy)) a ha
 · have e1:xs=L++c::xs.dropWhile p:=by
     conv=>lhs;rw[hsp,z]
     simp
   have hc:c∈xs:=by rw[e1];simp
   have pc:p c=true:=by
     have:c∈xs.takeWhile p:=by rw[z];simp
     exact List.all_eq_true.mp List.all_takeWhile c this
   refine⟨L,c,xs.dropWhile p,e1,by rw[hw,z];simp,fun a ha=>?_,fun a ha=>?_⟩
   · have q1:yF (kE a) (kE (zA (h+1) c))=true:=cross L (c::xs.dropWhile p) e1.symm a ha _ (Eb.mpr ⟨c,by simp,lmem c hc⟩)
     have q2:yF (kE e) (kE (zA (h+1) c))=false:=by simpa [p] using pc
     exact zQR q1 q2
   · obtain⟨y,hy,ha⟩:=Eb.mp ha
     exact hR y (by rw[e1];simp[hy]) (f2 y hy) a ha
theorem bX {α:Type}{L R:List α}{c d:α}{i:Nat}(h:L.length=i):(L++c::R).take i=L/\(L++c::R).getD i d=c/\(L++c::R).drop (i+1)=R:=by
 subst h
 refine⟨by simp,by simp,?_⟩
 rw[Oo]
 simp
section
variable {n:Nat} (hn:4<=n) (e:Et)
include hn
theorem zVG:∀(h:Nat) (xs:List (It h)),(h=0∨0 < xs.length)->(∀x∈xs,wC n h x)->Srt (zS h xs)->(∀a∈zS h xs,kE a≠kE e)->(zS (h+1) (pC n h xs e)).Perm (e::zS h xs)/\Srt (zS (h+1) (pC n h xs e))
 | 0,xs,_,_,hs,hk=>by
   show(zS 1 (wJ n (rB (xs++[e])))).Perm _/\_
   rw[show zS 1 (pC n 0 xs e)=zS 1 (wJ n (rB (xs++[e]))) from rfl,jC,uS]
   rw[uS] at hs hk ⊢
   refine⟨(jR _).trans Eo,zUR ?_⟩
   rw[Tu]
   refine List.nodup_append.mpr ⟨hs.nd,by simp,fun a ha b hb=>?_⟩
   obtain⟨q,hq,rfl⟩:=Tt.mp ha
   have hb:b=kE e:=by simpa using hb
   rw[hb]
   exact hk q hq
 | h+1,xs,h0,hf,hs,hk=>by
   have h0:0 < xs.length:=by rcases h0 with z | z;cases z;exact z
   obtain⟨L,c,R,ex,hL,lt1,lt2⟩:=fP (by lia) hf hs e h0
   obtain⟨t1,t2,t3⟩:=bX (L:=L) (R:=R) (c:=c) (d:=([]:It (h+1))) hL
   rw[←ex] at t1 t2 t3
   have hc:c∈xs:=by rw[ex];simp
   obtain⟨c1,c2,c3⟩:=yJ (hf c hc)
   have sc:Srt (zS h c):=hs.sublist (qU (f:=uT (h+1)) hc)
   obtain⟨i1,i2⟩:=zVG h c (.inr (by lia)) c3 sc fun a ha=>hk a (Eb.mpr ⟨c,hc,ha⟩)
   have eq:zS (h+1+1) (pC n (h+1) xs e)=zS (h+1) L++zS (h+1) (pC n h c e)++zS (h+1) R:=by
     show zS (h+1+1) (wJ n (List.take (yH h xs e) xs++pC n h (List.getD xs (yH h xs e) []) e++List.drop (yH h xs e+1) xs))=_
     rw[jC,t1,t2,t3,rH,rH]
   rw[eq]
   have eqx:zS (h+1) xs=zS (h+1) L++(zS h c++zS (h+1) R):=by
     conv=>lhs;rw[ex]
     rw[rH,wO];rfl
   rw[eqx] at hs ⊢
   obtain⟨s1,s2,s3⟩:=Qc.mp hs
   obtain⟨s4,s5,s6⟩:=Qc.mp s2
   have mem:∀a∈zS (h+1) (pC n h c e),a=e∨a∈zS h c:=fun a ha=>by simpa using i1.subset ha
   refine⟨?_,?_⟩
   · refine((i1.append_left (zS (h+1) L)).append_right (zS (h+1) R)).trans ?_
     rw[Qm]
     exact List.perm_middle
   · rw[Qm]
     refine Qc.mpr ⟨s1,Qc.mpr ⟨i2,s5,fun a ha b hb=>?_⟩,fun a ha b hb=>?_⟩
     · rcases mem a ha with rfl | ha
       · exact lt2 b hb
       · exact s6 a ha b hb
     · rcases Qn.mp hb with hb | hb
       · rcases mem b hb with rfl | hb
         · exact lt1 a ha
         · exact s3 a ha b (Yt _ hb)
       · exact s3 a ha b (Wp _ hb)
theorem iE:∀(h:Nat) (xs:List (It h)),xs.length<=n->(h=0∨2<=xs.length)->(∀x∈xs,wC n h x)->Srt (zS h xs) ->
   zS (h+1) (eF n h xs e)=(zS h xs).filter (fun a => !yB a e) /\
   ((h=0/\eF n h xs e=[]/\xs.length<=1)∨∃y,eF n h xs e=[y]/\xs.length<=y.length+1/\y.length<=n/\0 < y.length/\∀x∈y,wC n h x)
 | 0,xs,hl,_,hf,hs=>by
   rw[uS] at hs ⊢
   have hfo:=zXh hs e
   have hfl:=Tw (fun a => !yB a e) xs
   rw[show zS 1 (eF n 0 xs e)=zS 1 (wJ n (List.filter (fun a:Et => !yB a e) xs)) from rfl,jC,uS]
   refine⟨rfl,?_⟩
   rcases Ia (xs.filter fun a => !yB a e).length with z | z
   · refine .inl ⟨rfl,?_,by lia⟩
     show wJ n (xs.filter fun a => !yB a e)=[]
     unfold wJ
     rw[Qi z]
   · exact .inr ⟨List.filter (fun a:Et => !yB a e) xs,jE z (Wu hfl hl),hfo,Wu hfl hl,z,fun _ _=>trivial⟩
 | h+1,xs,hl,h0,hf,hs=>by
   have h0:2<=xs.length:=by rcases h0 with z | z;cases z;exact z
   obtain⟨L,c,R,ex,hL,lt1,lt2⟩:=fP (by lia) hf hs e (by lia)
   obtain⟨t1,t2,t3⟩:=bX (L:=L) (R:=R) (c:=c) (d:=([]:It (h+1))) hL
   rw[←ex] at t1 t2 t3
   have hc:c∈xs:=by rw[ex];simp
   obtain⟨c1,c2,c3⟩:=yJ (hf c hc)
   have sc:Srt (zS h c):=hs.sublist (qU (f:=uT (h+1)) hc)
   obtain⟨i1,i2⟩:=iE h c c2 (.inr (by lia)) c3 sc
   have hxl:xs.length=L.length+R.length+1:=by rw[ex];simp;lia
   rcases i2 with⟨_,_,z⟩ | ⟨y,ey,y1,y2,y3,y4⟩
   · lia
   · obtain⟨g1,g2,g3,g4⟩:=zVv hn (L:=L) (R:=R) (c:=y) (fun x hx=>hf x (by rw[ex];simp[hx])) (fun x hx=>hf x (by rw[ex];simp[hx])) (by lia) y2 y4 (by lia)
     have eq:eF n (h+1) xs e=wJ n (qN n (L++y::R)):=by
       show wJ n (qN n (List.take (yH h xs e) xs++eF n h (List.getD xs (yH h xs e) []) e++List.drop (yH h xs e+1) xs))=_
       rw[t1,t2,t3,ey]
       simp
     rw[eq,jC]
     refine⟨?_,.inr ⟨qN n (L++y::R),jE (by lia) (by lia),by lia,by lia,by lia,g1⟩⟩
     have eqx:zS (h+1) xs=zS (h+1) L++(zS h c++zS (h+1) R):=by
       conv=>lhs;rw[ex]
       rw[rH,wO];rfl
     rw[ey] at i1
     have iy:uT (h+1) y=(zS h c).filter fun a => !yB a e:=by
       rw[←i1];show _=List.flatMap _ [y];simp
     have keep:∀M:List Et,(∀a∈M,kE a≠kE e)->M.filter (fun a => !yB a e)=M:=fun M hM=>Iw.mpr fun a ha=>by
       cases q:yB a e
       · rfl
       · exact absurd (by rw[uO.mp q]) (hM a ha)
     rw[eqx,List.filter_append,List.filter_append,keep _ fun a ha z=>by(have:=lt1 a ha;rw[z,wS] at this;cases this),keep (zS (h+1) R) fun a ha z=>by(have:=lt2 a ha;rw[z,wS] at this;cases this)]
     rw[jH,g4,←jH,rH,wO,iy]
theorem like_none:∀(h:Nat) (xs:List (It h)),(h=0∨0 < xs.length)->(∀x∈xs,wC n h x)->(∀a∈zS h xs,kE a≠kE e)->eN h xs e=none
 | 0,xs,_,_,hk=>by
   rw[uS] at hk
   show(List.filter (fun a:Et=>decide (kE a=kE e)) xs).head?=none
   rw[List.filter_eq_nil_iff.mpr fun a ha=>by simpa using hk a ha];rfl
 | h+1,xs,h0,hf,hk=>by
   have h0:0 < xs.length:=by rcases h0 with z | z;cases z;exact z
   have hw:=zZz (e:=e) h0
   have hm:xs.getD (yH h xs e) []∈xs:=by
     have:xs.getD (yH h xs e) []=xs[yH h xs e]:=by simp[hw]
     rw[this];exact Ta hw
   obtain⟨c1,c2,c3⟩:=yJ (hf _ hm)
   exact like_none h (xs.getD (yH h xs e) []) (.inr (by lia)) c3 fun a ha=>hk a (Eb.mpr ⟨_,hm,ha⟩)
theorem like_some {b:Et}(hb:kE b=kE e):∀(h:Nat) (xs:List (It h)),(h=0∨0 < xs.length)->(∀x∈xs,wC n h x)->Srt (zS h xs)->b∈zS h xs->eN h xs e=some b
 | 0,xs,_,_,hs,hm=>by
   rw[uS] at hs hm
   show(List.filter (fun a:Et=>decide (kE a=kE e)) xs).head?=some b
   have:∃r,xs.filter (fun a:Et=>decide (kE a=kE e))=b::r:=by
     have hx:b∈xs.filter (fun a:Et=>decide (kE a=kE e)):=Yp.mpr ⟨hm,by simpa using hb⟩
     match hq:xs.filter (fun a:Et=>decide (kE a=kE e)),hx with
     | c::r,_ =>
       have hc:c∈xs.filter (fun a:Et=>decide (kE a=kE e)):=by rw[hq];simp
       obtain⟨c1,c2⟩:=Yp.mp hc
       have:=hs.inj c1 hm ((of_decide_eq_true c2).trans hb.symm)
       exact⟨r,by rw[this]⟩
   obtain⟨r,er⟩:=this
   rw[er];rfl
 | h+1,xs,h0,hf,hs,hm=>by
   have h0:0 < xs.length:=by rcases h0 with z | z;cases z;exact z
   obtain⟨L,c,R,ex,hL,lt1,lt2⟩:=fP (by lia) hf hs e h0
   obtain⟨t1,t2,t3⟩:=bX (L:=L) (R:=R) (c:=c) (d:=([]:It (h+1))) hL
   rw[←ex] at t1 t2 t3
   have hc:c∈xs:=by rw[ex];simp
   obtain⟨c1,c2,c3⟩:=yJ (hf c hc)
   have sc:Srt (zS h c):=hs.sublist (qU (f:=uT (h+1)) hc)
   have eqx:zS (h+1) xs=zS (h+1) L++(zS h c++zS (h+1) R):=by
     conv=>lhs;rw[ex]
     rw[rH,wO];rfl
   rw[eqx] at hm
   have hbc:b∈zS h c:=by
     rcases Qn.mp hm with z | z
     · have:=lt1 b z;rw[hb,wS] at this;cases this
     · rcases Qn.mp z with z | z
       · exact z
       · have:=lt2 b z;rw[hb,wS] at this;cases this
   show eN h (List.getD xs (yH h xs e) []) e=some b
   rw[t2]
   exact like_some hb h c (.inr (by lia)) c3 sc hbc
end
structure RtOk (n h:Nat)(xs:List (It h)):Prop where
 len:xs.length<=n
 two:h=0∨2<=xs.length
 full:∀x∈xs,wC n h x
 srt:Srt (zS h xs)
abbrev Rt:=(h:Nat)×List (It h)
def zVE:(h:Nat)->List (It h)->Rt
 | 0,xs=>⟨0,xs⟩
 | h+1,xs=>match xs with
   | [x]=>zVE h x
   | xs=>⟨h+1,xs⟩
theorem fZ {h:Nat}{xs:List (It h)}(h2:h=0∨2<=xs.length):zVE h xs=⟨h,xs⟩:=by
 cases h with
 | zero=>rfl
 | succ h =>
   match xs,h2 with
   | [],_=>rfl
   | [x],h2=>rcases h2 with z | z;cases z;exact absurd z (by simp)
   | _::_::_,_=>rfl
def gE (h:Nat)(ys:List (List (It h))):Rt:=if ys.length=0 then⟨0,[]⟩ else zVE (h+1) ys
theorem RtOk.nil {n:Nat}:RtOk n 0 []:=⟨Ee _,.inl rfl,(fun _ h=>nomatch h),List.Pairwise.nil⟩
section
variable {n:Nat} (hn:4<=n) (e:Et)
include hn
theorem RtOk.put {h:Nat}{xs:List (It h)}(H:RtOk n h xs)(hk:∀a∈zS h xs,kE a≠kE e):∃h' xs',gE h (pC n h xs e)=⟨h',xs'⟩/\RtOk n h' xs'/\(zS h' xs').Perm (e::zS h xs):=by
 have h0:h=0∨0 < xs.length:=by rcases H.two with z | z;exact .inl z;exact .inr (by lia)
 have p1:=zXa n hn e h xs H.len h0 H.full
 obtain⟨p2,p3⟩:=zVG hn e h xs h0 H.full H.srt hk
 unfold gE
 generalize pC n h xs e=ys at p1 p2 p3
 cases p1 with
 | @one y a b c =>
   have hy:zS (h+1) [y]=zS h y:=by show List.flatMap _ [y]=_;simp[uT]
   rw[hy] at p2 p3
   have h2:h=0∨2<=y.length:=by rcases H.two with z | z;exact .inl z;exact .inr (by lia)
   exact⟨h,y,fZ h2,⟨b,h2,c,p3⟩,p2⟩
 | @two y z a b=>exact⟨h+1,[y,z],rfl,⟨by simp;lia,.inr (by simp),fun x hx=>by
     rcases Qd.mp hx with rfl | hx
     · exact a
     · rw[Wq] at hx;subst hx;exact b,p3⟩,p2⟩
theorem RtOk.take {h:Nat}{xs:List (It h)}(H:RtOk n h xs):∃h' xs',gE h (eF n h xs e)=⟨h',xs'⟩/\RtOk n h' xs'/\zS h' xs'=(zS h xs).filter fun a => !yB a e:=by
 obtain⟨p1,p2⟩:=iE hn e h xs H.len H.two H.full H.srt
 unfold gE
 generalize eF n h xs e=ys at p1 p2
 have hs:Srt ((zS h xs).filter fun a => !yB a e):=H.srt.sublist List.filter_sublist
 rcases p2 with⟨z,rfl,_⟩ | ⟨y,rfl,y1,y2,y3,y4⟩
 · exact⟨0,[],rfl,.nil,p1⟩
 · have hy:zS (h+1) [y]=zS h y:=by show List.flatMap _ [y]=_;simp[uT]
   rw[hy] at p1
   by_cases h2:h=0∨2<=y.length
   · exact⟨h,y,fZ h2,⟨y2,h2,y4,by rw[p1];exact hs⟩,p1⟩
   · cases h with
     | zero=>exact absurd (.inl rfl) h2
     | succ h =>
       match y,y3,y4,hy,h2,p1 with
       | [c],_,y4,hy,_,p1 =>
         obtain⟨c1,c2,c3⟩:=yJ (y4 c Qb)
         have hc:zS (h+1) [c]=zS h c:=by show List.flatMap _ [c]=_;simp[uT]
         rw[hc] at p1
         have h2':h=0∨2<=List.length c:=.inr (by lia)
         exact⟨h,c,fZ h2',⟨c2,h2',c3,by rw[p1];exact hs⟩,p1⟩
       | _::_::_,_,_,_,h2,_=>exact absurd (.inr (by simp)) h2
omit e
theorem iV:∀(h:Nat) (x:It h),wC n h x->2^h<=(uT h x).length
 | 0,_,_=>Qp 1
 | h+1,xs,H=>by
   obtain⟨a,b,c⟩:=yJ H
   have key:∀ys:List (It h),(∀y∈ys,wC n h y)->ys.length*2^h<=(zS h ys).length:=by
     intro ys
     induction ys with
     | nil=>intro _;simp
     | cons y r ih =>
       intro hy
       have i1:=ih fun z hz=>hy z (Qj _ hz)
       have i2:=iV h y (hy y Qb)
       rw[wO,Qr,Qs,Nat.add_mul]
       lia
   have:=key xs c
   show 2^(h+1)<=(zS h xs).length
   have h2:2*2^h<=List.length xs*2^h:=Nat.mul_le_mul_right _ (by lia)
   rw[Nat.pow_succ];lia
theorem RtOk.deep {h:Nat}{xs:List (It h)}(H:RtOk n h xs)(hl:(zS h xs).length < 512):h<=7:=by
 rcases H.two with z | z
 · lia
 · match xs,z with
   | x::y::r,_ =>
     have a:=iV hn h x (H.full x (by simp))
     have b:=iV hn h y (H.full y (by simp))
     rw[wO,wO,Qr,Qr] at hl
     by_cases q:h<=7
     · exact q
     · have:2^8<=2^h:=Nat.pow_le_pow_right (by decide) (by lia)
       lia
theorem RtOk.like_none {h:Nat}{xs:List (It h)}(H:RtOk n h xs){e:Et}(hk:∀a∈zS h xs,kE a≠kE e):eN h xs e=none :=
 My.like_none hn e h xs (by rcases H.two with z | z;exact .inl z;exact .inr (by lia)) H.full hk
theorem RtOk.like_some {h:Nat}{xs:List (It h)}(H:RtOk n h xs){e b:Et}(hb:b∈zS h xs)(hk:kE b=kE e):eN h xs e=some b :=
 My.like_some hn e hk h xs (by rcases H.two with z | z;exact .inl z;exact .inr (by lia)) H.full H.srt hb
end
theorem zXH {i:Nat}{f:Ef}{g:Sf}{ρ:List B}{d:D}(h:f ρ=some d):zC (yO i f) g ρ=g (ρ.set i (.fz d)):=sZ (by unfold yO;rw[h];rfl)
theorem yS {i:Nat}{f:Ef}{g:Sf}{ρ:List B}{d:D}{r:Option D}(h:f ρ=some d)(k:(g (ρ.set i (.fz d))).bind vV=r):(zC (yO i f) g ρ).bind vV=r:=xU (by unfold yO;rw[h];rfl) k
theorem oS {t:Tf}{f g:Sf}{ρ:List B}{r:Option D}(h:t ρ=some false)(k:(g ρ).bind vV=r):(zC (sIf t f sR) g ρ).bind vV=r:=xU (by unfold sIf;rw[h];rfl) k
theorem lS {t:Tf}{f:Sf}{ρ:List B}{b:Bool}(h:t ρ=some b):sIf t f sR ρ=if b then f ρ else some (.nx ρ):=by unfold sIf;rw[h];cases b<;>rfl
theorem qC {t:Tf}{e:Ef}{g:Sf}{ρ:List B}{r:Option D}(h:t ρ=some true)(k:e ρ=r):(zC (sIf t (xT e) sR) g ρ).bind vV=r:=by
 unfold zC
 rw[lS h,Qi rfl]
 unfold xT
 rw[k]
 cases r<;>rfl
theorem uP {e:Ef}{ρ:List B}:(xT e ρ).bind vV=e ρ:=by unfold xT;cases e ρ<;>rfl
theorem tT {f:List D->Option D}{fa:Ef}{ρ:List B}{x:D}(h:fa ρ=some x):zL 1 f (zY fa zN) ρ=f [x]:=aT (zR h rfl) rfl
theorem vJ {f:List D->Option D}{fa fb:Ef}{ρ:List B}{x y:D}(h1:fa ρ=some x)(h2:fb ρ=some y):zL 2 f (zY fa (zY fb zN)) ρ=f [x,y]:=aT (zR h1 (zR h2 rfl)) rfl
theorem lR {f:List D->Option D}{fa fb fc:Ef}{ρ:List B}{x y z:D}(h1:fa ρ=some x)(h2:fb ρ=some y)(h3:fc ρ=some z):zL 3 f (zY fa (zY fb (zY fc zN))) ρ=f [x,y,z]:=aT (zR h1 (zR h2 (zR h3 rfl))) rfl
theorem zI {C:Int->Int->Bool}{g:Int->Int->Int}{fa fb:Ef}{ρ:List B}{i j:Int}(h1:fa ρ=some (.int i))(h2:fb ρ=some (.int j))(h:C i j=true):eI C g fa fb ρ=some (.int (g i j)):=by
 unfold eI;rw[h1,h2];simp[h]
theorem lZ {f:Ef}{ρ:List B}{x k:Int}(h:f ρ=some (.int x)):eB2 gEq f (eC (.int k)) ρ=some (decide (x=k)):=by unfold eB2;rw[h];rfl
theorem sM {fa fb:Ef}{ρ:List B}{i j:Int}(h1:fa ρ=some (.int i))(h2:fb ρ=some (.int j)):xA fa fb ρ=some (.int (i+j)):=by unfold xA;rw[h1,h2];rfl
theorem mN {fa fb:Ef}{ρ:List B}{x y:Str}(h1:fa ρ=some (.str x))(h2:fb ρ=some (.str y))(h:x.length+y.length<=100000):xA fa fb ρ=some (.str (x++y)):=by unfold xA;rw[h1,h2];exact zWx h
theorem tV {g:Lf}{ρ:List B}{ds:List D}(h:g ρ=some ds)(hl:ds.length<=100000):wD g ρ=some (.tup ds):=by unfold wD;rw[h,Qw,tN hl];rfl
theorem wN {g:Lf}{ρ:List B}{ds:List D}(h:g ρ=some ds)(hl:ds.length<=100000):wQ g ρ=some ds:=by unfold wQ;rw[h,Qw,tN hl]
theorem vI {fa fb:Ef}{ρ:List B}{x y:D}(h1:fa ρ=some x)(h2:fb ρ=some y):eIx fa fb ρ=atD x y:=by unfold eIx;rw[h1,h2];rfl
theorem zVz {α:Type}{xs:List α}{i:Int}(h0:0<=i)(h1:i < xs.length):∃x∈xs,atI xs i=some x:=by
 have hi:i.toNat < xs.length:=by lia
 refine⟨xs[i.toNat],Ta hi,?_⟩
 unfold atI ixN
 rw[Qi h0,Qi h1]
 simp[hi]
theorem zY9 {α:Type}{elt:Ef}{f:α->D}{Q:α->Prop}{rest:List B}:∀(ds:List D) (x0:B) (acc:List D),(∀d∈ds,∃a,elt (.fz d::rest)=some (f a)/\Q a)->∃as:List α,tO (gN 0) tOK elt ds (x0::rest) acc=some (acc++as.map f)/\as.length=ds.length/\∀a∈as,Q a
 | [],_,acc,_=>⟨[],by simp[tO],rfl,fun _ h=>by cases h⟩
 | d::r,x0,acc,hh=>by
   obtain⟨a,ha,qa⟩:=hh d Qb
   obtain⟨as,e,el,hq⟩:=zY9 (Q:=Q) r (.fz d) (acc++[f a]) fun q hq=>hh q (Qj _ hq)
   refine⟨a::as,?_,by rw[Qs,Qs,el],fun b hb=>by
     rcases Qd.mp hb with z | z
     · rw[z];exact qa
     · exact hq b z⟩
   unfold tO
   have e1:gN 0 d (x0::rest)=some (.fz d::rest):=rfl
   have e2:tOK (.fz d::rest)=some true:=rfl
   rw[e1,Qw,e2,Qw,Qi rfl,ha,Qw,e]
   simp
def zWy (c k:Int):Int:=(c % 1000000007*(48271+2*k*k)+12345+7919*k) % 2147483647
def fR (c k:Int):Int:=zWy c k*zWy c k % 2147483629 / 3
theorem zWg (c k:Int):0<=fR c k:=by unfold fR;lia
theorem zVD (c k:Int):fR c k < 2147483629:=by unfold fR;lia
theorem uE (c k:Int)(h0:0<=k)(h1:k < 1000):yE [.int c,.int k]=some (.int (fR c k)):=by
 have e1:mT (2:Int) k=true:=rA (by lia) (by lia)
 have e2:mT (2*k) k=true:=rA (by lia) (by lia)
 have e3:mT (c % 1000000007) (48271+2*k*k)=true:=rA (by lia) (by lia)
 have e4:mT (7919:Int) k=true:=rA (by lia) (by lia)
 have e5:mT (zWy c k) (zWy c k)=true:=rA (by unfold zWy;lia) (by unfold zWy;lia)
 show(tJ [.fz (.int c),.fz (.int k),.no]).bind vV=_
 unfold tJ
 refine yS (d:=.int (c % 1000000007*(48271+2*k*k))) (zI (zI rfl rfl rfl) (zI rfl (zI (zI rfl rfl e1) rfl e2) rfl) e3) ?_
 unfold pW
 refine yS (d:=.int (zWy c k)) (zI (zI (zI rfl rfl rfl) (zI rfl rfl e4) rfl) rfl rfl) ?_
 unfold kQ
 rw[uP]
 exact zI (zI (zI rfl rfl e5) rfl rfl) rfl rfl
def yZ:Str:=Str.ofString "abcdefghijklmnopqrstuvwxyz"
theorem iS:yZ.length=26:=by decide +kernel
theorem gB {fb:Ef}{ρ:List B}{i:Int}(h2:ρ[2]?=some (.fz (.str yZ)))(h:fb ρ=some (.int i)):∃s:Nat,eIx (eV 2) (yA fb (eC (.int 26))) ρ=some (.str ⟨#[s]⟩):=by
 have e:=zS7 (x:=yZ) (i:=i % 26) (by lia) (by rw[iS];lia) (by rw[iS];decide)
 refine⟨_,(vI (x:=.str yZ) (y:=.int (i % 26)) ?_ (zI h rfl rfl)).trans e⟩
 show zTs ρ 2=_
 unfold zTs
 rw[h2]
theorem zXD {fa:Ef}{lo hi:Of}{ρ:List B}{x:Str}{l u:Option Int}(h:fa ρ=some (.str x))(h1:lo ρ=some l)(h2:hi ρ=some u)(hx:x.length<=100):∃y:Str,gA fa lo hi ρ=some (.str y)/\y.length<=100:=by
 refine⟨Txt.slice x l u,?_,Wu (Ua x l u) hx⟩
 unfold gA
 rw[h,Qw,h1,Qw,h2,Qw]
 exact Qi (show x.length<=100000 by lia)
theorem zZl {fa fb:Ef}{ρ:List B}{z:Str}{n:Int}(h1:fa ρ=some (.str z))(h2:fb ρ=some (.int n))(h0:0<=n)(h3:n<=90)(h4:z.length<=1):∃y:Str,bH fa fb ρ=some (.str y)/\y.length<=90:=by
 refine⟨Txt.mul z n,?_,?_⟩
 · unfold bH
   rw[h1,h2]
   show(if decide (0<=n)&&decide (n<=1000)&&decide (z.length<=1000) then some (D.str (Txt.mul z n)) else none)=_
   rw[Qz h0,Qz (by lia),Qz (by lia)];rfl
 · have:=PyProof.Rows.len_mul_leN (x:=z) (n:=n) (L:=1) (N:=90) h4 (by lia)
   lia
theorem zRk (q j:Int)(j0:0<=j)(j1:j < 100):∃w:Str,rC [.int q,.int j]=some (.str w):=by
 have hm:=uE q 11 (by decide) (by decide)
 have hm4:=uE q 14 (by decide) (by decide)
 generalize fR q 11=m at hm
 generalize fR q 14=m4 at hm4
 have c7:mT 7 j=true:=rA (by lia) (by lia)
 have c5:mT 5 j=true:=rA (by lia) (by lia)
 obtain⟨sl,el⟩:=gB (fb:=xA (eV 3) (oU (eC (.int 7)) (eV 1))) (ρ:=[.fz (.int q),.fz (.int j),.fz (.str yZ),.fz (.int m),.fz (.int (m4 % 3)),.no,.no,.no,.no,.no,.no,.no,.no]) rfl (sM rfl (zI rfl rfl c7))
 obtain⟨sm,em⟩:=gB (fb:=sE (eV 3) (eC (.int 26))) (ρ:=[.fz (.int q),.fz (.int j),.fz (.str yZ),.fz (.int m),.fz (.int (m4 % 3)),.fz (.str ⟨#[sl]⟩),.no,.no,.no,.no,.no,.no,.no]) rfl (zI rfl rfl rfl)
 have ef:xA (xA (yA (eV 3) (eC (.int 26))) (eC (.int 1))) (yA (sE (eV 3) (eC (.int 26))) (eC (.int 25))) [.fz (.int q),.fz (.int j),.fz (.str yZ),.fz (.int m),.fz (.int (m4 % 3)),.fz (.str ⟨#[sl]⟩),.fz (.str ⟨#[sm]⟩),.no,.no,.no,.no,.no,.no]=some (.int (m % 26+1+m / 26 % 25)):=sM (sM (zI rfl rfl rfl) rfl) (zI (zI rfl rfl rfl) rfl rfl)
 generalize m % 26+1+m / 26 % 25=fr at ef
 generalize hfam:m4 % 3=fam at el em ef
 have start:∀r,(vR [.fz (.int q),.fz (.int j),.fz (.str yZ),.fz (.int m),.fz (.int fam),.fz (.str ⟨#[sl]⟩),.fz (.str ⟨#[sm]⟩),.fz (.int fr),.no,.no,.no,.no,.no]).bind vV=r->m4 % 3=fam->rC [.int q,.int j]=r:=fun r hr hf=>by
   show(rV [.fz (.int q),.fz (.int j),.no,.no,.no,.no,.no,.no,.no,.no,.no,.no,.no]).bind vV=_
   unfold rV
   refine yS (d:=.str yZ) rfl ?_
   unfold oJ
   refine yS (d:=.int m) ((vJ rfl rfl).trans hm) ?_
   unfold nA
   refine yS (d:=.int fam) ((zI ((vJ rfl rfl).trans hm4) rfl rfl).trans (by rw[hf])) ?_
   unfold nW
   refine yS (d:=.str ⟨#[sl]⟩) el ?_
   unfold nJ
   refine yS (d:=.str ⟨#[sm]⟩) em ?_
   unfold nV
   exact yS (d:=.int fr) ef hr
 by_cases f1:fam=1
 · obtain⟨y,ey,ly⟩:=zZl (fa:=eV 6) (fb:=yA (xA (sE (eV 3) (eC (.int 676))) (oU (eC (.int 5)) (eV 1))) (eC (.int 12))) (ρ:=[.fz (.int q),.fz (.int j),.fz (.str yZ),.fz (.int m),.fz (.int fam),.fz (.str ⟨#[sl]⟩),.fz (.str ⟨#[sm]⟩),.fz (.int fr),.no,.no,.no,.no,.no]) (z:=⟨#[sm]⟩) (n:=(m / 676+5*j) % 12) rfl (zI (sM (zI rfl rfl rfl) (zI rfl rfl c5)) rfl rfl) (by lia) (by lia) (Qp 1)
   refine⟨⟨#[sl]⟩++y,start _ ?_ hfam⟩
   unfold vR
   exact qC (by rw[lZ (x:=fam) rfl,Qz f1]) (mN rfl ey (by show 1+_<=_;lia))
 by_cases f2:fam=2
 · obtain⟨s1,e1⟩:=gB (fb:=eV 3) (ρ:=[.fz (.int q),.fz (.int j),.fz (.str yZ),.fz (.int m),.fz (.int fam),.fz (.str ⟨#[sl]⟩),.fz (.str ⟨#[sm]⟩),.fz (.int fr),.no,.no,.no,.no,.no]) rfl rfl
   obtain⟨s2,e2⟩:=gB (fb:=eV 7) (ρ:=[.fz (.int q),.fz (.int j),.fz (.str yZ),.fz (.int m),.fz (.int fam),.fz (.str ⟨#[sl]⟩),.fz (.str ⟨#[sm]⟩),.fz (.int fr),.no,.no,.no,.no,.no]) rfl rfl
   obtain⟨y,ey,ly⟩:=zZl (fb:=xA (eC (.int 1)) (sE (eV 1) (eC (.int 2)))) (n:=1+j / 2) e1 (sM rfl (zI rfl rfl rfl)) (by lia) (by lia) (Qp 1)
   obtain⟨y2,ey2,ly2⟩:=zZl (fb:=yA (eV 1) (eC (.int 2))) (n:=j % 2) e2 (zI rfl rfl rfl) (by lia) (by lia) (Qp 1)
   refine⟨y++y2,start _ ?_ hfam⟩
   unfold vR
   refine oS (by rw[lZ (x:=fam) rfl,Ww f1]) ?_
   unfold rL
   exact qC (by rw[lZ (x:=fam) rfl,Qz f2]) (mN ey ey2 (by lia))
 have z0:0<=m % 12:=by lia
 have z1:m % 12 < 12:=by lia
 have ha:yA (sE (eV 3) (eC (.int 12))) (eV 8) [.fz (.int q),.fz (.int j),.fz (.str yZ),.fz (.int m),.fz (.int fam),.fz (.str ⟨#[sl]⟩),.fz (.str ⟨#[sm]⟩),.fz (.int fr),.fz (.int (1+m % 12)),.no,.no,.no,.no]=some (.int (m / 12 % (1+m % 12))):=zI (zI rfl rfl rfl) rfl (Qz (by lia))
 generalize m / 12 % (1+m % 12)=pl at ha
 have src:∀x6 x7 x8:B,iR (eV 8) [.fz (.int q),.fz (.int j),.fz (.str yZ),.fz (.int m),.fz (.int fam),.fz (.str ⟨#[sl]⟩),.fz (.str ⟨#[sm]⟩),.fz (.int fr),.fz (.int (1+m % 12)),.fz (.int pl),x6,x7,x8]=some (sI 0 (1+m % 12).toNat):=fun x6 x7 x8=>by
   have c1:decide (-1000000<=1+m % 12)=true:=Qz (by lia)
   have c2:decide (1+m % 12<=1000000)=true:=Qz (by lia)
   show(if decide (-1000000<=1+m % 12)&&decide (1+m % 12<=1000000) then some (sI 0 (1+m % 12).toNat) else none)=_
   rw[c1,c2];rfl
 obtain⟨ρ',e,y,x7,hy,rfl⟩:=zYR (g:=gN 11) (body:=tE) (P:=fun i ρ=>∃y:Str,∃x7,y.length=i/\ρ=[.fz (.int q),.fz (.int j),.fz (.str yZ),.fz (.int m),.fz (.int fam),.fz (.str ⟨#[sl]⟩),.fz (.str ⟨#[sm]⟩),.fz (.int fr),.fz (.int (1+m % 12)),.fz (.int pl),.fz (.str y),x7,.no]) (sI 0 (1+m % 12).toNat) 0 (fun i d hd ρ hρ=>by
     obtain⟨hi,rfl⟩:=zUn hd
     obtain⟨y,x7,hy,rfl⟩:=hρ
     have hk:=uE q (20+(0+(i:Int))) (by lia) (by lia)
     obtain⟨s,es⟩:=gB (fb:=zL 2 yE (zY (eV 0) (zY (xA (eC (.int 20)) (eV 11)) zN))) (ρ:=[.fz (.int q),.fz (.int j),.fz (.str yZ),.fz (.int m),.fz (.int fam),.fz (.str ⟨#[sl]⟩),.fz (.str ⟨#[sm]⟩),.fz (.int fr),.fz (.int (1+m % 12)),.fz (.int pl),.fz (.str y),.fz (.int (0+(i:Int))),.no]) rfl ((vJ rfl (sM rfl rfl)).trans hk)
     have hl:y.length+(⟨#[s]⟩:Str).length<=100000:=by show y.length+1<=100000;lia
     refine⟨_,[.fz (.int q),.fz (.int j),.fz (.str yZ),.fz (.int m),.fz (.int fam),.fz (.str ⟨#[sl]⟩),.fz (.str ⟨#[sm]⟩),.fz (.int fr),.fz (.int (1+m % 12)),.fz (.int pl),.fz (.str (y++⟨#[s]⟩)),.fz (.int (0+(i:Int))),.no],rfl,?_,y++⟨#[s]⟩,_,by rw[mM,hy];rfl,rfl⟩
     unfold tE yO
     have:=mN (fa:=eV 10) (x:=y) rfl es hl
     refine(Ep (Option.map _) this).trans rfl) [.fz (.int q),.fz (.int j),.fz (.str yZ),.fz (.int m),.fz (.int fam),.fz (.str ⟨#[sl]⟩),.fz (.str ⟨#[sm]⟩),.fz (.int fr),.fz (.int (1+m % 12)),.fz (.int pl),.fz (.str (Str.ofString "")),.no,.no] ⟨_,_,by decide +kernel,rfl⟩
 rw[mO] at hy
 obtain⟨s,es⟩:=gB (fb:=xA (sE (eV 3) (eC (.int 144))) (eV 1)) (ρ:=[.fz (.int q),.fz (.int j),.fz (.str yZ),.fz (.int m),.fz (.int fam),.fz (.str ⟨#[sl]⟩),.fz (.str ⟨#[sm]⟩),.fz (.int fr),.fz (.int (1+m % 12)),.fz (.int pl),.fz (.str y),x7,.no]) rfl (sM (zI rfl rfl rfl) rfl)
 obtain⟨u,eu,lu⟩:=zXD (fa:=eV 10) (lo:=oNo) (hi:=xN (eV 9)) (ρ:=[.fz (.int q),.fz (.int j),.fz (.str yZ),.fz (.int m),.fz (.int fam),.fz (.str ⟨#[sl]⟩),.fz (.str ⟨#[sm]⟩),.fz (.int fr),.fz (.int (1+m % 12)),.fz (.int pl),.fz (.str y),x7,.fz (.str ⟨#[s]⟩)]) (x:=y) rfl rfl rfl (by lia)
 obtain⟨v,ev,lv⟩:=zXD (fa:=eV 10) (lo:=xN (xA (eV 9) (eC (.int 1)))) (hi:=oNo) (ρ:=[.fz (.int q),.fz (.int j),.fz (.str yZ),.fz (.int m),.fz (.int fam),.fz (.str ⟨#[sl]⟩),.fz (.str ⟨#[sm]⟩),.fz (.int fr),.fz (.int (1+m % 12)),.fz (.int pl),.fz (.str y),x7,.fz (.str ⟨#[s]⟩)]) (x:=y) rfl rfl rfl (by lia)
 have l1:(u++(⟨#[s]⟩:Str)).length<=101:=by rw[mM];show u.length+1<=101;lia
 refine⟨(u++⟨#[s]⟩)++v,start _ ?_ hfam⟩
 unfold vR
 refine oS (by rw[lZ (x:=fam) rfl,Ww f1]) ?_
 unfold rL
 refine oS (by rw[lZ (x:=fam) rfl,Ww f2]) ?_
 unfold nM
 refine yS (d:=.int (1+m % 12)) (sM rfl (zI rfl rfl rfl)) ?_
 unfold nG
 refine yS (d:=.int pl) ha ?_
 unfold pH
 refine yS (d:=.str (Str.ofString "")) rfl ?_
 unfold pF
 refine xU (ρ':=[.fz (.int q),.fz (.int j),.fz (.str yZ),.fz (.int m),.fz (.int fam),.fz (.str ⟨#[sl]⟩),.fz (.str ⟨#[sm]⟩),.fz (.int fr),.fz (.int (1+m % 12)),.fz (.int pl),.fz (.str y),x7,.no]) ?_ ?_
 · show lQ (iR (eV 8)) (gN 11) tE [.fz (.int q),.fz (.int j),.fz (.str yZ),.fz (.int m),.fz (.int fam),.fz (.str ⟨#[sl]⟩),.fz (.str ⟨#[sm]⟩),.fz (.int fr),.fz (.int (1+m % 12)),.fz (.int pl),.fz (.str (Str.ofString "")),.no,.no]=_
   unfold lQ
   rw[src,Qw]
   exact e
 unfold pU
 refine yS (d:=.str ⟨#[s]⟩) es ?_
 unfold kJ
 rw[uP]
 exact mN (mN eu rfl (by show u.length+1<=100000;lia)) ev (by lia)
theorem zRx (q:Int):∃(ws:List Str) (a b:Int),jK [.int q]=some (.tup [.lst (ws.map .str),.int a,.int b])/\ws.length=14/\0<=a/\a < 3/\0<=b/\b < 3:=by
 obtain⟨ws,e,el,_⟩:=zY9 (α:=Str) (elt:=zL 2 rC (zY (eV 1) (zY (eV 0) zN))) (f:=D.str) (Q:=fun _=>True) (rest:=[.fz (.int q)]) (sI 0 14) .no [] fun d hd=>by
   obtain⟨i,hi,rfl⟩:=bD hd
   obtain⟨w,ew⟩:=zRk q (0+(i:Int)) (by lia) (by lia)
   exact⟨w,(vJ rfl rfl).trans ew,trivial⟩
 rw[mO] at el
 rw[Yd] at e
 refine⟨ws,fR q 12 % 3,fR q 13 % 3,?_,el,by lia,by lia,by lia,by lia⟩
 show(rU [.fz (.int q),.no]).bind vV=_
 unfold rU
 refine xU (ρ':=[.fz (.int q),.ow (ws.map .str)]) ?_ ?_
 · unfold kB yC
   have s1:(iR (eC (.int 14)) [.fz (.int q),.no]).bind okL=some (sI 0 14):=rfl
   rw[s1,Qw]
   have s2:upB 1 [0] [.fz (.int q),.no]=[.no,.fz (.int q)]:=rfl
   rw[s2,e]
   rfl
 · unfold iM aN
   have s3:zVn 1 [.fz (.int q),.ow (ws.map .str)]=[.fz (.int q),.fz (.lst (ws.map .str))]:=rfl
   rw[s3,uP]
   exact tV (zR rfl (zR (zI ((vJ rfl rfl).trans (uE q 12 (by decide) (by decide))) rfl rfl) (zR (zI ((vJ rfl rfl).trans (uE q 13 (by decide) (by decide))) rfl rfl) rfl))) (by simp)
abbrev pgN:List Str:=["leaf","things","leasts","most"]
def dE (e:Et):D:=.tup [.int e.f,.int e.l,.str e.z]
def zXl (h:Nat)(xs:List (It h)):D:=if (xs.map (most h)).isEmpty=true then .non else .int (mF (xs.map (most h)))
def iD:(h:Nat)->It h->D
 | 0,e=>dE e
 | h+1,xs=>.obj "Page" pgN [.bl (h==0),.lst (List.map (iD h) xs),.lst (List.map (fun x=>dE (zA h x)) xs),zXl h xs]
abbrev pgD (h:Nat)(xs:List (It h)):D:=iD (h+1) xs
def ne:(h:Nat)->It h->Prop
 | 0,_=>True
 | h+1,xs=>0 < List.length xs
theorem oA {n h:Nat}(hn:4<=n){x:It h}(H:wC n h x):ne h x:=by
 cases h with
 | zero=>trivial
 | succ h=>have:=(yJ H).1;show 0 < List.length x;lia
theorem zYJ {fa:Ef}{ρ:List B}{a b c d:D}(h:fa ρ=some (.obj "Page" pgN [a,b,c,d])):yY "Page" "leaf" fa ρ=some a/\yY "Page" "things" fa ρ=some b/\yY "Page" "leasts" fa ρ=some c/\yY "Page" "most" fa ρ=some d:=by
 refine⟨?_,?_,?_,?_⟩
 all_goals
   unfold yY
   rw[h,Qw]
   refine(Qi rfl).trans ?_
   kernel_rfl
section
variable {fa:Ef} {ρ:List B} {h:Nat} {xs:List (It h)}
theorem wT (H:fa ρ=some (pgD h xs)):yY "Page" "leaf" fa ρ=some (.bl (h==0)):=(zYJ H).1
theorem yV (H:fa ρ=some (pgD h xs)):yY "Page" "things" fa ρ=some (.lst (xs.map (iD h))):=(zYJ H).2.1
theorem oI (H:fa ρ=some (pgD h xs)):yY "Page" "leasts" fa ρ=some (.lst (xs.map fun x=>dE (zA h x))):=(zYJ H).2.2.1
theorem cX (H:fa ρ=some (pgD h xs)):yY "Page" "most" fa ρ=some (zXl h xs):=(zYJ H).2.2.2
end
theorem zYC {α:Type}{elt:Ef}{f h:α->D}{rest:List B}:∀(l:List α) (x0:B) (acc:List D),(∀a∈l,elt (.fz (f a)::rest)=some (h a))->tO (gN 0) tOK elt (l.map f) (x0::rest) acc=some (acc++l.map h)
 | [],_,acc,_=>by simp[tO]
 | a::r,x0,acc,hh=>by
   rw[Ql]
   unfold tO
   have e1:gN 0 (f a) (x0::rest)=some (.fz (f a)::rest):=rfl
   have e2:tOK (.fz (f a)::rest)=some true:=rfl
   rw[e1,Qw,e2,Qw,Qi rfl,hh a Qb,Qw,zYC r _ _ fun q hq=>hh q (Qj _ hq)]
   simp
theorem gU {α:Type}{t:Tf}{f:α->D}{p:α->Bool}{rest:List B}:∀(l:List α) (x0:B) (acc:List D),(∀a∈l,t (.fz (f a)::rest)=some (p a))->tO (gN 0) t (eV 0) (l.map f) (x0::rest) acc=some (acc++(l.filter p).map f)
 | [],_,acc,_=>by simp[tO]
 | a::r,x0,acc,hh=>by
   rw[Ql]
   unfold tO
   have e1:gN 0 (f a) (x0::rest)=some (.fz (f a)::rest):=rfl
   have e3:eV 0 (.fz (f a)::rest)=some (f a):=rfl
   rw[e1,Qw,hh a Qb,Qw]
   cases hp:p a with
   | true=>rw[Qi rfl,e3,Qw,gU r _ _ fun q hq=>hh q (Qj _ hq),Tx hp];simp
   | false=>rw[Qa (by decide),gU r _ _ fun q hq=>hh q (Qj _ hq),Yv (by simp[hp])]
theorem fQ:∀l:List Int,bG (l.map .int)=some l
 | []=>rfl
 | i::r=>by show(bG (r.map .int)).map _=_;rw[fQ r];rfl
theorem zRV {g:Lf}{ρ:List B}{l:List Int}(h:g ρ=some (l.map .int)):zZR g ρ=some (if l.isEmpty=true then .non else .int (mF l)):=by
 unfold zZR
 rw[h,Qw,fQ,Qw]
 split<;>rfl
theorem cW {h:Nat}{x:List (It h)}(hx:0 < x.length):zXl h x = .int (most (h+1) x):=by
 unfold zXl
 rw[Qa (by cases x;simp at hx;simp)]
 rfl
theorem gK {α:Type}(f:α->D){x:α}{r:List α}:atD (.lst ((x::r).map f)) (.int 0)=some (f x):=by
 show atI ((x::r).map f) 0=_
 rw[mK _ 0 .non (by decide) (by rw[Qu,Qs];lia)]
 rfl
theorem dN {src elt:Ef}{ρ:List B}{α:Type}{l:List α}{f g:α->D}(hs:src ρ=some (.lst (l.map f)))(hl:l.length<=100000)(he:∀a∈l,elt [.fz (f a)]=some (g a)):yC (iL src) 1 [] (gN 0) tOK elt ρ=some (l.map g):=by
 unfold yC iL
 rw[hs,Qw]
 show((some (l.map f)).bind okL).bind _=_
 rw[Qw,tN (by rw[Qu];lia),Qw]
 have:=zYC (elt:=elt) (f:=f) (h:=g) (rest:=[]) l .no [] he
 rw[Yd] at this
 exact this
theorem zRO (h:Nat)(xs:List (It h))(hl:xs.length<=100000)(hne:∀x∈xs,ne h x):rR [.bl (h==0),.lst (xs.map (iD h))]=some [.bl (h==0),.lst (xs.map (iD h)),.lst (xs.map fun x=>dE (zA h x)),zXl h xs]:=by
 show zZm [.no,.fz (.bl (h==0)),.fz (.lst (xs.map (iD h))),.no]=_
 have e1:eIf (tB1 (eV 1)) (eL (yC (iL (eV 2)) 1 [] (gN 0) tOK (eIx (eV 0) (eC (.int 1))))) (eL (yC (iL (eV 2)) 1 [] (gN 0) tOK (yY "Page" "most" (eV 0)))) [.no,.fz (.bl (h==0)),.fz (.lst (xs.map (iD h))),.no]=some (.lst ((xs.map (most h)).map .int)):=by
   rw[Rp]
   cases h with
   | zero=>exact xB (dN (l:=xs) (f:=iD 0) (g:=D.int ∘ most 0) rfl hl fun e _=>rfl)
   | succ h=>exact xB (dN (l:=xs) (f:=iD (h+1)) (g:=D.int ∘ most (h+1)) rfl hl fun x hx=>by
       rw[cX (h:=h) (xs:=x) rfl,cW (hne x hx)];rfl)
 unfold zZm
 rw[e1,Qw]
 show zY (eV 1) (zY (eV 2) (zY _ (zY (zZR (iL (eV 3))) zN))) [.no,.fz (.bl (h==0)),.fz (.lst (xs.map (iD h))),.fz (.lst ((xs.map (most h)).map .int))]=_
 refine zR rfl (zR rfl (zR ?_ (zR (zRV rfl) rfl)))
 cases h with
 | zero=>rfl
 | succ h =>
   show eL (yC (iL (eV 2)) 1 [] (gN 0) tOK (eIx (yY "Page" "leasts" (eV 0)) (eC (.int 0)))) _=_
   exact xB (dN (l:=xs) (f:=iD (h+1)) (g:=fun x=>dE (zA (h+1) x)) rfl hl fun x hx=>by
     match x,hne x hx with
     | y::t,_=>exact(vI (oI (h:=h) (xs:=y::t) rfl) rfl).trans (gK _))
theorem lA {fb fx:Ef}{ρ:List B}{h:Nat}{xs:List (It h)}(h1:fb ρ=some (.bl (h==0)))(h2:fx ρ=some (.lst (xs.map (iD h))))(hl:xs.length<=100000)(hne:∀x∈xs,ne h x):lN "Page" pgN 2 rR (zY fb (zY fx zN)) ρ=some (pgD h xs) :=
 zUv (zR h1 (zR h2 rfl)) rfl (zRO h xs hl hne) rfl
theorem zQl {α:Type}(f:α->D)(xs:List α)(k:Nat)(hk:k<=xs.length):dX (xs.map f) none (some (k:Int))=(xs.take k).map f:=by
 unfold dX
 rw[HT.sIx_none,HT.sIx_nat,List.drop_zero,Qu,Tk,Tl hk]
 rfl
theorem zQq {α:Type}(f:α->D)(xs:List α)(k:Nat):dX (xs.map f) (some (k:Int)) none=(xs.drop k).map f:=by
 unfold dX
 rw[HT.sIx_none,HT.sIx_nat,Qu,Yu,Ed (by simp)]
 by_cases h:k<=xs.length
 · rw[Tl h]
 · rw[Oa (by lia),Tn (by simp),Tn (by simp;lia)]
theorem zRG {α:Type}(f:α->D)(xs:List α)(k:Nat):dX (xs.map f) (some (k:Int)) (some ((k+2:Nat):Int))=((xs.drop k).take 2).map f:=by
 unfold dX
 rw[HT.sIx_nat,HT.sIx_nat,Qu,Tk,Yu]
 by_cases h:k<=xs.length
 · rw[Tl h]
   by_cases h2:k+2<=xs.length
   · rw[Tl h2,show k+2 - k=2 by lia]
   · rw[Oa (by lia),Ed (by simp),Ed (by simp;lia)]
 · rw[show min k xs.length=xs.length from Oa (by lia),Tn (by simp),Tn (by simp;lia)];simp
theorem jA {α:Type}{fa fk:Ef}{ρ:List B}{f:α->D}{xs:List α}{k:Nat}(h:fa ρ=some (.lst (xs.map f)))(hk:fk ρ=some (.int (k:Int)))(hkl:k<=xs.length):xJ fa oNo (xN fk) ρ=some ((xs.take k).map f):=by
 unfold xJ oNo xN
 rw[h,Qw,Qw,hk]
 exact Ep some (zQl f xs k hkl)
theorem cL {α:Type}{fa fk:Ef}{ρ:List B}{f:α->D}{xs:List α}{k:Nat}(h:fa ρ=some (.lst (xs.map f)))(hk:fk ρ=some (.int (k:Int))):xJ fa (xN fk) oNo ρ=some ((xs.drop k).map f):=by
 unfold xJ oNo xN
 rw[h,Qw,hk]
 exact Ep some (zQq f xs k)
theorem sQ (n h:Nat)(xs:List (It h))(hl:xs.length<=1000)(hne:∀x∈xs,ne h x):uR [.bl (h==0),.lst (xs.map (iD h)),.int (n:Int)]=some (.lst ((wJ n xs).map (iD (h+1)))):=by
 show(rN [.fz (.bl (h==0)),.fz (.lst (xs.map (iD h))),.fz (.int (n:Int)),.no]).bind vV=_
 unfold rN
 by_cases h0:xs.length=0
 · have:xs=[]:=Yn.mp h0
   subst this
   exact qC rfl rfl
 · have hc0:wJ n xs=if xs.length<=n then [xs] else [xs.take (xs.length / 2),xs.drop (xs.length / 2)]:=Qa h0
   refine oS (by
     show some (!(!(xs.map (iD h)).isEmpty))=some false
     cases xs with
     | nil=>exact absurd rfl h0
     | cons x r=>rfl) ?_
   unfold nZ
   have ht:eB2 gLe (vH (eV 1)) (eV 2) [.fz (.bl (h==0)),.fz (.lst (xs.map (iD h))),.fz (.int (n:Int)),.no]=some (decide (xs.length<=n)):=by
     show some (decide (((xs.map (iD h)).length:Int)<=(n:Int)))=_
     rw[Qu]
     congr 1
     by_cases q:xs.length<=n
     · rw[Qz q,Qz (by lia)]
     · rw[Ww q,Ww (by lia)]
   by_cases h1:xs.length<=n
   · rw[hc0,Qi h1]
     refine qC (by rw[ht,Qz h1]) ?_
     exact xB (wN (zR (lA (h:=h) (xs:=xs) rfl rfl (by lia) hne) rfl) (by simp))
   · rw[hc0,Qa h1]
     refine oS (by rw[ht,Ww h1]) ?_
     unfold nN
     refine yS (d:=.int ((xs.length / 2:Nat):Int)) (by
       refine(zI (i:=(xs.length:Int)) (j:=2) ?_ rfl rfl).trans ?_
       · show some (D.int ((xs.map (iD h)).length:Int))=_
         rw[Qu]
       · rfl) ?_
     unfold iP
     rw[uP]
     refine xB (wN (zR (lA (h:=h) (xs:=xs.take (xs.length / 2)) rfl (xB (jA rfl rfl (by lia))) (by rw[Qh];lia) fun x hx=>hne x (Wz hx)) (zR (lA (h:=h) (xs:=xs.drop (xs.length / 2)) rfl (xB (cL rfl rfl)) (by rw[Wi];lia) fun x hx=>hne x (Wl hx)) rfl)) (by simp))
theorem iT (e:Et):uG [dE e]=some (dIS (kE e)):=rfl
theorem zW2 (h:Nat)(xs:List (It h))(e:Et)(hl:xs.length<=1000):dA [pgD h xs,dE e]=some (.int ((zVp (xs.map (zA h)) e:Nat):Int)):=by
 show(dJ [.fz (pgD h xs),.fz (dE e),.no]).bind vV=_
 unfold dJ
 refine xU (ρ':=[.fz (pgD h xs),.fz (dE e),.ow ((xs.filter fun x => !yF (kE e) (kE (zA h x))).map fun x=>dE (zA h x))]) ?_ ?_
 · unfold kB yC iL
   rw[oI (h:=h) (xs:=xs) rfl,Qw]
   show Option.map _ (((some (xs.map fun x=>dE (zA h x))).bind okL).bind _)=_
   rw[Qw,tN (by rw[Qu];lia),Qw]
   have:=gU (t:=eB2 zWa (zL 1 uG (zY (eV 0) zN)) (zL 1 uG (zY (eV 1) zN))) (f:=fun x=>dE (zA h x)) (p:=fun x => !yF (kE e) (kE (zA h x))) (rest:=[.fz (dE e)]) xs .no [] fun a _=>by
     unfold eB2
     rw[tT (x:=dE (zA h a)) rfl,tT (x:=dE e) rfl,iT,iT]
     rfl
   exact(Ep (Option.map _) this).trans rfl
 · unfold zVV
   rw[uP]
   have hlen:((xs.filter fun x => !yF (kE e) (kE (zA h x))).map fun x=>dE (zA h x)).length=((xs.map (zA h)).filter fun a => !yF (kE e) (kE a)).length:=by
     rw[Qu,List.filter_map,Qu];rfl
   show some (D.int (if (0:Int) > ((List.map (fun x=>dE (zA h x)) (xs.filter fun x => !yF (kE e) (kE (zA h x)))).length:Int) - 1 then 0 else((List.map (fun x=>dE (zA h x)) (xs.filter fun x => !yF (kE e) (kE (zA h x)))).length:Int) - 1))=_
   rw[hlen]
   unfold zVp
   congr 2
   split<;>lia
theorem zYX {α:Type}(f:α->D){xs:List α}{k:Nat}{d:α}(h:k < xs.length):atD (.lst (xs.map f)) (.int (k:Int))=some (f (xs.getD k d)):=by
 show atI (xs.map f) (k:Int)=_
 rw[mK _ _ .non (by lia) (by rw[Qu];lia)]
 have:(k:Int).toNat=k:=by lia
 rw[this]
 simp[h]
theorem zPa (p q:Int×Str):zWK (dIS p) (dIS q)=some (decide (p=q)):=by
 show some ((p.1==q.1&&(p.2==q.2&&true))&&true)=_
 congr 1
 obtain⟨a,b⟩:=p
 obtain⟨c,d⟩:=q
 by_cases h1:a=c<;>by_cases h2:b=d<;>simp[h1,h2]
theorem zQt (a e:Et):kD (dE a) (dE e)=some (!yB a e):=by
 show some (!((a.f==e.f&&(a.l==e.l&&(a.z==e.z&&true)))&&true))=_
 unfold yB
 simp
def Way (n h:Nat)(xs:List (It h)):Prop:=xs.length<=n/\(h=0∨0 < xs.length)/\∀x∈xs,wC n h x
theorem Way.down {n h:Nat}(hn:4<=n){xs:List (It (h+1))}(H:Way n (h+1) xs)(e:Et):yH h xs e < xs.length/\Way n h (xs.getD (yH h xs e) []):=by
 obtain⟨a,b,c⟩:=H
 have h0:0 < xs.length:=by rcases b with z | z;cases z;exact z
 have hw:=zZz (e:=e) h0
 have hm:xs.getD (yH h xs e) []∈xs:=by
   have:xs.getD (yH h xs e) []=xs[yH h xs e]:=by simp[hw]
   rw[this];exact Ta hw
 obtain⟨c1,c2,c3⟩:=yJ (c _ hm)
 exact⟨hw,c2,.inr (by lia),c3⟩
theorem Way.ne {n h:Nat}(hn:4<=n){xs:List (It h)}(H:Way n h xs):∀x∈xs,My.ne h x:=fun x hx=>oA hn (H.2.2 x hx)
def zXt:(h:Nat)->List (It h)->Et->List Et
 | 0,xs,_=>xs
 | h+1,xs,e=>zXt h (List.getD xs (yH h xs e) []) e
theorem aU:∀(h:Nat) (xs:List (It h)) (e:Et),eN h xs e=((zXt h xs e).filter fun a=>decide (kE a=kE e)).head?
 | 0,_,_=>rfl
 | h+1,xs,e=>aU h (List.getD xs (yH h xs e) []) e
theorem zZM {n:Nat}(hn:4<=n):∀(h:Nat) (xs:List (It h)) (e:Et),Way n h xs->(zXt h xs e).length<=n
 | 0,_,_,H=>H.1
 | h+1,xs,e,H=>zZM hn h (List.getD xs (yH h xs e) []) e (H.down hn e).2
def zOs:Option Et->D | none=>.non | some e=>dE e
theorem zWm {n:Nat}(hn:4<=n)(h12:n<=900)(e:Et):∀(h:Nat) (xs:List (It h)) (k:Nat),Way n h xs->h < k ->
   uI (yD (tB1 (yY "Page" "leaf" (eV 0)))) (yO 0 (eIx (yY "Page" "things" (eV 0)) (zL 2 dA (zY (eV 0) (zY (eV 1) zN))))) k [.fz (pgD h xs),.fz (dE e),.no]=some (.nx [.fz (pgD 0 (zXt h xs e)),.fz (dE e),.no])
 | 0,xs,k+1,H,hk=>by
   have t:yD (tB1 (yY "Page" "leaf" (eV 0))) [.fz (pgD 0 xs),.fz (dE e),.no]=some false:=by
     unfold yD tB1
     rw[wT (h:=0) (xs:=xs) rfl];rfl
   rw[uI,t,Qw,Qa (by decide)]
   rfl
 | h+1,xs,k+1,H,hk=>by
   obtain⟨hw,H'⟩:=H.down hn e
   have t:yD (tB1 (yY "Page" "leaf" (eV 0))) [.fz (pgD (h+1) xs),.fz (dE e),.no]=some true:=by
     unfold yD tB1
     rw[wT (h:=h+1) (xs:=xs) rfl];rfl
   have b:yO 0 (eIx (yY "Page" "things" (eV 0)) (zL 2 dA (zY (eV 0) (zY (eV 1) zN)))) [.fz (pgD (h+1) xs),.fz (dE e),.no]=some (.nx [.fz (pgD h (xs.getD (yH h xs e) [])),.fz (dE e),.no]):=by
     unfold yO
     rw[(vI (yV (h:=h+1) (xs:=xs) rfl) ((vJ rfl rfl).trans (zW2 (h+1) xs e (Wu H.1 (by lia))))).trans (zYX (iD (h+1)) (d:=([]:It (h+1))) hw)]
     rfl
   rw[uI,t,Qw,Qi rfl,b,Qw]
   exact zWm hn h12 e h _ k H' (by lia)
theorem zWo {n:Nat}(hn:4<=n)(h12:n<=900)(e:Et)(h:Nat)(xs:List (It h))(H:Way n h xs)(hh:h < 10):vS [pgD h xs,dE e]=some (zOs (eN h xs e)):=by
 have hl:=zZM hn h xs e H
 show(tW [.fz (pgD h xs),.fz (dE e),.no]).bind vV=_
 unfold tW
 refine xU (zWm hn h12 e h xs 10 H hh) ?_
 rw[aU]
 generalize zXt h xs e=es at hl
 unfold qV
 refine xU (ρ':=[.fz (pgD 0 es),.fz (dE e),.ow ((es.filter fun a=>decide (kE a=kE e)).map dE)]) ?_ ?_
 · unfold kB yC iL
   rw[yV (h:=0) (xs:=es) rfl,Qw]
   show Option.map _ (((some (es.map dE)).bind okL).bind _)=_
   rw[Qw,tN (by rw[Qu];lia),Qw]
   have:=gU (t:=eB2 zWK (zL 1 uG (zY (eV 0) zN)) (zL 1 uG (zY (eV 1) zN))) (f:=dE) (p:=fun a=>decide (kE a=kE e)) (rest:=[.fz (dE e)]) es .no [] fun a _=>by
     unfold eB2
     rw[tT (x:=dE a) rfl,tT (x:=dE e) rfl,iT,iT]
     exact zPa _ _
   exact(Ep (Option.map _) this).trans rfl
 · unfold mH aN
   have s3:zVn 2 [.fz (pgD 0 es),.fz (dE e),.ow ((es.filter fun a=>decide (kE a=kE e)).map dE)]=[.fz (pgD 0 es),.fz (dE e),.fz (.lst ((es.filter fun a=>decide (kE a=kE e)).map dE))]:=rfl
   rw[s3,uP]
   cases es.filter fun a=>decide (kE a=kE e) with
   | nil=>rfl
   | cons x r=>exact gK dE
theorem zZH:∀l:List Et,bU uG (l.map dE)=some (l.map kE)
 | []=>rfl
 | e::r=>by
   show((uG [dE e]).bind zVc).bind _=_
   rw[iT,zZH r]
   rfl
theorem zTr {g:Lf}{ρ:List B}{l:List Et}(h:g ρ=some (l.map dE))(hl:l.length<=1000):dF uG g ρ=some ((rB l).map dE):=by
 unfold dF
 rw[h,Qw,zZH,Qw,Qi (by rw[Qu];lia)]
 unfold rB
 rw[Rp]
 congr 1
 refine Iq fun i hi=>?_
 have h:=zQZ hi
 show(l.map dE).getD i .non=dE (l.getD i zE)
 simp[h]
theorem gH {f g:Lf}{ρ:List B}{α:Type}{d:α->D}{xs ys:List α}(h1:f ρ=some (xs.map d))(h2:g ρ=some (ys.map d))(hl:xs.length+ys.length<=100000):mL f g ρ=some ((xs++ys).map d):=by
 unfold mL
 rw[h1,Qw,h2,Qw,tN (by rw[Qr,Qu,Qu];exact hl),Tu]
theorem gY {f:Ef}{ρ:List B}{xs:List D}(h:f ρ=some (.lst xs)):iL f ρ=some xs:=by unfold iL;rw[h];rfl
theorem zWk {n:Nat}(hn:4<=n)(e:Et)(h:Nat)(xs:List (It h))(H:Way n h xs):(pC n h xs e).length<=2/\(0 < xs.length∨h=0->∀y∈pC n h xs e,ne (h+1) y):=by
 have p:=zXa n hn e h xs H.1 H.2.1 H.2.2
 have q:0 < xs.length∨h=0->∀y∈pC n h xs e,ne (h+1) y:=by
   intro hx y hy
   by_cases h0:h=0
   · subst h0
     have hy:y∈wJ n (rB (xs++[e])):=hy
     have hL:(rB (xs++[e])).length=xs.length+1:=by rw[fL];exact Qr
     unfold wJ at hy
     rw[Qa (by lia)] at hy
     have h1:=H.1
     split at hy
     · rw[Wq] at hy;subst hy;show 0 < List.length _;lia
     · rcases Qd.mp hy with rfl | hy
       · show 0 < List.length _;rw[Qh];lia
       · rw[Wq] at hy;subst hy;show 0 < List.length _;rw[Wi];lia
   · have hx:0 < xs.length:=by rcases hx with z | z;exact z;exact absurd z h0
     generalize pC n h xs e=ys at p hy
     cases p with
     | one a b c=>rw[Wq] at hy;subst hy;show 0 < List.length _;lia
     | two a b =>
       rcases Qd.mp hy with rfl | hy
       · exact oA hn a
       · rw[Wq] at hy;subst hy;exact oA hn b
 refine⟨?_,q⟩
 generalize pC n h xs e=ys at p
 cases p with
 | one a b c=>simp
 | two a b=>simp
theorem zWr {ρ:List B}{fx fk fi:Ef}{h:Nat}{xs:List (It (h+1))}{ys:List (List (It h))}{k:Nat}(h1:fx ρ=some (.lst (xs.map (iD (h+1)))))(h2:fk ρ=some (.int (k:Int)))(h3:fi ρ=some (.lst (ys.map (iD (h+1)))))(hk:k < xs.length)(hl:xs.length<=900)(hy:ys.length<=2) :
   eL (mL (mL (xJ fx oNo (xN fk)) (iL fi)) (xJ fx (xN (uJ fk (eC (.int 1)))) oNo)) ρ=some (.lst ((xs.take k++ys++xs.drop (k+1)).map (iD (h+1)))):=by
 have hk2:uJ fk (eC (.int 1)) ρ=some (.int ((k+1:Nat):Int)):=(zI h2 rfl rfl).trans rfl
 exact xB (gH (gH (jA h1 h2 (by lia)) (gY h3) (by rw[Qh];lia)) (cL h1 hk2) (by rw[Qr,Qh,Wi];lia))
theorem lG {n:Nat}(hn:4<=n)(h12:n<=800)(e:Et):∀(h:Nat) (xs:List (It h)) (k:Nat),Way n h xs->h < k->wW k [pgD h xs,dE e,.int (n:Int)]=some (.lst ((pC n h xs e).map (iD (h+1))))
 | 0,xs,k+1,H,_=>by
   have hl:=H.1
   show(xI (wW k) [.fz (pgD 0 xs),.fz (dE e),.fz (.int (n:Int)),.no,.no]).bind vV=_
   unfold xI
   refine qC ?_ ?_
   · unfold tB1
     rw[wT (h:=0) (xs:=xs) rfl];rfl
   · have hc:mL (iL (yY "Page" "things" (eV 0))) (wQ (zY (eV 1) zN)) [.fz (pgD 0 xs),.fz (dE e),.fz (.int (n:Int)),.no,.no]=some (List.map dE (xs++[e])) :=
       gH (d:=dE) (ys:=[e]) (gY (yV (h:=0) (xs:=xs) rfl)) (wN (zR rfl rfl) (by simp)) (by simp;lia)
     refine(lR rfl (xB (zTr hc (by simp;lia))) rfl).trans ?_
     exact sQ n 0 (rB (xs++[e])) (by rw[fL];simp;lia) fun _ _=>trivial
 | h+1,xs,k+1,H,hk=>by
   have hl:=H.1
   obtain⟨hw,H'⟩:=H.down hn e
   obtain⟨p1,p2⟩:=zWk hn e h _ H'
   have ih:=lG hn h12 e h _ k H' (by lia)
   show(xI (wW k) [.fz (pgD (h+1) xs),.fz (dE e),.fz (.int (n:Int)),.no,.no]).bind vV=_
   unfold xI
   refine oS ?_ ?_
   · unfold tB1
     rw[wT (h:=h+1) (xs:=xs) rfl];rfl
   unfold sB
   refine yS ((vJ rfl rfl).trans (zW2 (h+1) xs e (by lia))) ?_
   unfold sH
   refine yS ((lR ((vI (yV (h:=h+1) (xs:=xs) rfl) rfl).trans (zYX (iD (h+1)) (d:=([]:It (h+1))) hw)) rfl rfl).trans ih) ?_
   unfold mY
   rw[uP]
   refine(lR rfl (zWr (h:=h) (xs:=xs) (k:=yH h xs e) (yV (h:=h+1) (xs:=xs) rfl) rfl rfl hw (by lia) p1) rfl).trans ?_
   refine sQ n (h+1) _ (by rw[Qr,Qr,Qh,Wi];lia) fun x hx=>?_
   rcases Qn.mp hx with hx | hx
   · rcases Qn.mp hx with hx | hx
     · exact H.ne hn x (Wz hx)
     · exact p2 (by rcases H'.2.1 with z | z;exact .inr z;exact .inl z) x hx
   · exact H.ne hn x (Wl hx)
def bO (n:Nat){α:Type}:Nat->List (List α)->List Nat
 | _,[]=>[]
 | k,p::r=>if p.length < n / 2 then k::bO n (k+1) r else bO n (k+1) r
theorem zZP (n:Nat){α:Type}:∀(k:Nat) (ps:List (List α)),(bO n k ps).head?=(ps.findIdx? fun x=>decide (x.length < n / 2)).map (· + k)
 | _,[]=>rfl
 | k,p::r=>by
   unfold bO
   rw[Ig]
   by_cases h:p.length < n / 2
   · simp[h]
   · rw[Qa h,zZP n (k+1) r]
     simp only[h,Ow]
     cases r.findIdx? fun x=>decide (x.length < n / 2) with
     | none=>rfl
     | some i=>show some (i+(k+1))=some (i+1+k);congr 1;lia
theorem zYL {n h:Nat}:∀(ps:List (List (It h))) (k:Nat) (x0 x1:B) (acc:List D),
   tO (gT (zD (gN 0) (zD (gN 1) wE))) (eB2 gLt (vH (yY "Page" "things" (eV 1))) (sE (eV 2) (eC (.int 2)))) (eV 0) (((ps.map (iD (h+1))).zipIdx k).map fun q=>D.tup [.int (q.2:Nat),q.1]) [x0,x1,.fz (.int (n:Int))] acc=some (acc++(bO n k ps).map fun i:Nat=>D.int (i:Int))
 | [],k,x0,x1,acc=>by simp[tO,bO]
 | p::r,k,x0,x1,acc=>by
   rw[Ql,List.zipIdx_cons,Ql]
   unfold tO
   have e1:gT (zD (gN 0) (zD (gN 1) wE)) (D.tup [.int (k:Nat),iD (h+1) p]) [x0,x1,.fz (.int (n:Int))]=some [.fz (.int (k:Nat)),.fz (iD (h+1) p),.fz (.int (n:Int))]:=rfl
   have e2:eB2 gLt (vH (yY "Page" "things" (eV 1))) (sE (eV 2) (eC (.int 2))) [.fz (.int (k:Nat)),.fz (iD (h+1) p),.fz (.int (n:Int))]=some (decide (p.length < n / 2)):=by
     unfold eB2 vH
     rw[yV (h:=h) (xs:=p) rfl]
     show some (decide (((p.map (iD h)).length:Int) < (n:Int) / 2))=_
     rw[Qu]
     congr 1
     by_cases q:p.length < n / 2
     · rw[Qz q,Qz (by lia)]
     · rw[Ww q,Ww (by lia)]
   have e3:eV 0 [.fz (.int (k:Nat)),.fz (iD (h+1) p),.fz (.int (n:Int))]=some (.int (k:Nat)):=rfl
   show(gT (zD (gN 0) (zD (gN 1) wE)) (D.tup [.int (k:Nat),iD (h+1) p]) [x0,x1,.fz (.int (n:Int))]).bind _=_
   rw[e1,Qw,e2,Qw]
   unfold bO
   by_cases q:p.length < n / 2
   · rw[Qz q,Qi rfl,Qi q,e3,Qw,zYL r (k+1)]
     simp
   · rw[Ww q,Qa (by decide),Qa q,zYL r (k+1)]
theorem zVI {h:Nat}{a0 a1 a2 a3:B}:∀(ps:List (List (It h))) (acc:List (It h)) (x5:B),acc.length+ps.flatten.length<=100000 ->
   ∃y5,lW (gN 5) lM (ps.map (iD (h+1))) [a0,a1,a2,a3,.ow (acc.map (iD h)),x5]=some (.nx [a0,a1,a2,a3,.ow ((acc++ps.flatten).map (iD h)),y5])
 | [],acc,x5,_=>⟨x5,by simp[lW]⟩
 | p::r,acc,x5,hl=>by
   rw[Yw,Qr] at hl
   obtain⟨y5,e⟩:=zVI r (acc++p) (.fz (iD (h+1) p)) (by rw[Qr];lia) (a0:=a0) (a1:=a1) (a2:=a2) (a3:=a3)
   refine⟨y5,?_⟩
   rw[Ql,oB (ρ1:=[a0,a1,a2,a3,.ow (acc.map (iD h)),.fz (iD (h+1) p)]) (ρ2:=[a0,a1,a2,a3,.ow ((acc++p).map (iD h)),.fz (iD (h+1) p)]) rfl ?_,e,Yw,Qm]
   unfold lM zSx
   rw[gY (yV (h:=h) (xs:=p) rfl),Qw]
   show(if (acc.map (iD h)).length+(p.map (iD h)).length<=lim then some (Out.nx [a0,a1,a2,a3,.ow (acc.map (iD h)++p.map (iD h)),.fz (iD (h+1) p)]) else none)=_
   rw[Qi (by rw[Qu,Qu];show _<=100000;lia),Tu]
theorem zUY {n h:Nat}(ps:List (List (It h)))(hl:ps.length<=900)(hn:n<=300)(hp:∀p∈ps,p.length<=n/\∀x∈p,ne h x):bB [.lst (ps.map (iD (h+1))),.int (n:Int)]=some (.lst ((qN n ps).map (iD (h+1)))):=by
 show(nO [.fz (.lst (ps.map (iD (h+1)))),.fz (.int (n:Int)),.no,.no,.no,.no]).bind vV=_
 unfold nO
 refine xU (ρ':=[.fz (.lst (ps.map (iD (h+1)))),.fz (.int (n:Int)),.ow ((bO n 0 ps).map fun i:Nat=>D.int (i:Int)),.no,.no,.no]) ?_ ?_
 · unfold kB yC zWp
   rw[gY (xs:=ps.map (iD (h+1))) rfl]
   show Option.map _ (((some (L2.bY (ps.map (iD (h+1))))).bind okL).bind _)=_
   rw[Qw,tN (by unfold L2.bY;rw[Qu,List.length_zipIdx,Qu];lia),Qw]
   have:=zYL (n:=n) ps 0 .no .no []
   exact(Ep (Option.map _) this).trans rfl
 have hh:=zZP n 0 ps
 unfold jX
 cases hf:ps.findIdx? fun x=>decide (x.length < n / 2) with
 | none =>
   rw[hf] at hh
   have hfe:bO n 0 ps=[]:=List.head?_eq_none_iff.mp hh
   rw[hfe]
   have hI:qN n ps=ps:=by unfold qN;rw[hf]
   rw[hI]
   have s1:aN 2 (sIf (yD (zWO (eV 2))) (xT (eV 0)) sR) [.fz (.lst (ps.map (iD (h+1)))),.fz (.int (n:Int)),.ow (([]:List Nat).map fun i:Nat=>D.int (i:Int)),.no,.no,.no]=some (.rt (.lst (ps.map (iD (h+1))))):=rfl
   rw[zVA s1]
   rfl
 | some i =>
   rw[hf] at hh
   obtain⟨t,hfe⟩:∃t,bO n 0 ps=i::t:=by
     cases hq:bO n 0 ps with
     | nil=>rw[hq] at hh;cases hh
     | cons a t=>rw[hq] at hh;cases hh;exact⟨t,rfl⟩
   rw[hfe]
   have hi:i < ps.length:=(List.findIdx?_eq_some_iff_getElem.mp hf).1
   have hI:qN n ps=ps.take (i - 1)++wJ n ((ps.drop (i - 1)).take 2).flatten++ps.drop (i - 1+2):=by unfold qN;rw[hf]
   rw[hI]
   refine xU (ρ':=[.fz (.lst (ps.map (iD (h+1)))),.fz (.int (n:Int)),.fz (.lst ((i::t).map fun i:Nat=>D.int (i:Int))),.no,.no,.no]) rfl ?_
   unfold jS
   refine yS (d:=.int ((i - 1:Nat):Int)) ?_ ?_
   · have e0:eIx (eV 2) (eC (.int 0)) [.fz (.lst (ps.map (iD (h+1)))),.fz (.int (n:Int)),.fz (.lst ((i::t).map fun i:Nat=>D.int (i:Int))),.no,.no,.no]=some (.int (i:Int)):=(vI (x:=.lst ((i::t).map fun i:Nat=>D.int (i:Int))) rfl rfl).trans (gK fun i:Nat=>D.int (i:Int))
     unfold zSG
     rw[show zS5 (eIx (eV 2) (eC (.int 0))) (eC (.int 1)) [.fz (.lst (ps.map (iD (h+1)))),.fz (.int (n:Int)),.fz (.lst ((i::t).map fun i:Nat=>D.int (i:Int))),.no,.no,.no]=some (.int ((i:Int) - 1)) from(zI e0 rfl rfl).trans rfl]
     show some (D.int (if (0:Int) > (i:Int) - 1 then 0 else(i:Int) - 1))=_
     congr 2
     split<;>lia
   unfold jO
   refine xU (ρ':=[.fz (.lst (ps.map (iD (h+1)))),.fz (.int (n:Int)),.fz (.lst ((i::t).map fun i:Nat=>D.int (i:Int))),.fz (.int ((i - 1:Nat):Int)),.ow [],.no]) rfl ?_
   unfold jF
   have hfl:((ps.drop (i - 1)).take 2).flatten.length<=2*n/\∀x∈((ps.drop (i - 1)).take 2).flatten,ne h x:=by
     have hm:∀p∈(ps.drop (i - 1)).take 2,p.length<=n/\∀x∈p,ne h x:=fun p hp'=>hp p (Wl (Wz hp'))
     have h2:((ps.drop (i - 1)).take 2).length<=2:=by rw[Qh];lia
     generalize(ps.drop (i - 1)).take 2=qs at hm h2
     refine⟨?_,fun x hx=>?_⟩
     · match qs,h2,hm with
       | [],_,_=>simp
       | [a],_,hm=>have:=(hm a (by simp)).1;simp;lia
       | [a,b],_,hm=>have:=(hm a (by simp)).1;have:=(hm b (by simp)).1;simp;lia
       | _::_::_::_,h2,_=>simp at h2
     · obtain⟨p,hp',hx⟩:=List.mem_flatten.mp hx
       exact(hm p hp').2 x hx
   obtain⟨y5,ex⟩:=zVI (h:=h) (a0:=.fz (.lst (ps.map (iD (h+1))))) (a1:=.fz (.int (n:Int))) (a2:=.fz (.lst ((i::t).map fun i:Nat=>D.int (i:Int)))) (a3:=.fz (.int ((i - 1:Nat):Int))) ((ps.drop (i - 1)).take 2) [] .no (by simp only[Od];lia)
   refine xU (ρ':=[.fz (.lst (ps.map (iD (h+1)))),.fz (.int (n:Int)),.fz (.lst ((i::t).map fun i:Nat=>D.int (i:Int))),.fz (.int ((i - 1:Nat):Int)),.ow (((ps.drop (i - 1)).take 2).flatten.map (iD h)),y5]) ?_ ?_
   · unfold lQ
     have src:xJ (eV 0) (xN (eV 3)) (xN (uJ (eV 3) (eC (.int 2)))) [.fz (.lst (ps.map (iD (h+1)))),.fz (.int (n:Int)),.fz (.lst ((i::t).map fun i:Nat=>D.int (i:Int))),.fz (.int ((i - 1:Nat):Int)),.ow [],.no]=some (((ps.drop (i - 1)).take 2).map (iD (h+1))):=by
       show some (dX (ps.map (iD (h+1))) (some ((i - 1:Nat):Int)) (some (((i - 1:Nat):Int)+2)))=_
       rw[show((i - 1:Nat):Int)+2=((i - 1+2:Nat):Int) by lia,zRG]
     rw[src,Qw]
     exact ex
   unfold cJ aN
   have s3:zVn 4 [.fz (.lst (ps.map (iD (h+1)))),.fz (.int (n:Int)),.fz (.lst ((i::t).map fun i:Nat=>D.int (i:Int))),.fz (.int ((i - 1:Nat):Int)),.ow (((ps.drop (i - 1)).take 2).flatten.map (iD h)),y5]=[.fz (.lst (ps.map (iD (h+1)))),.fz (.int (n:Int)),.fz (.lst ((i::t).map fun i:Nat=>D.int (i:Int))),.fz (.int ((i - 1:Nat):Int)),.fz (.lst (((ps.drop (i - 1)).take 2).flatten.map (iD h))),y5]:=rfl
   rw[s3,uP]
   have hlf:yY "Page" "leaf" (eIx (eV 0) (eC (.int 0))) [.fz (.lst (ps.map (iD (h+1)))),.fz (.int (n:Int)),.fz (.lst ((i::t).map fun i:Nat=>D.int (i:Int))),.fz (.int ((i - 1:Nat):Int)),.fz (.lst (((ps.drop (i - 1)).take 2).flatten.map (iD h))),y5]=some (.bl (h==0)):=by
     match ps,hi with
     | p::r,_=>exact wT (h:=h) (xs:=p) ((vI rfl rfl).trans (gK (iD (h+1))))
   have hpg:=sQ n h ((ps.drop (i - 1)).take 2).flatten (by lia) hfl.2
   have hcl:(wJ n ((ps.drop (i - 1)).take 2).flatten).length<=2:=by unfold wJ;split;simp;split<;>simp
   refine xB (gH (d:=iD (h+1)) (gH (d:=iD (h+1)) (jA (f:=iD (h+1)) rfl rfl (by lia)) (gY ((lR hlf rfl rfl).trans hpg)) (by rw[Qh];lia)) (cL (f:=iD (h+1)) (k:=i - 1+2) rfl ((zI (j:=2) rfl rfl rfl).trans rfl)) (by rw[Qr,Qh,Wi];lia))
theorem RtOk.way {n h:Nat}{xs:List (It h)}(H:RtOk n h xs):Way n h xs:=⟨H.len,by rcases H.two with z | z;exact .inl z;exact .inr (by lia),H.full⟩
theorem zYz {n:Nat}(hn:4<=n)(h12:n<=300)(e:Et):∀(h:Nat) (xs:List (It h)) (k:Nat),RtOk n h xs->h < k->xO k [pgD h xs,dE e,.int (n:Int)]=some (.lst ((eF n h xs e).map (iD (h+1))))
 | 0,xs,k+1,H,_=>by
   have hl:=H.len
   show(xV (xO k) [.fz (pgD 0 xs),.fz (dE e),.fz (.int (n:Int)),.no,.no]).bind vV=_
   unfold xV
   refine qC ?_ ?_
   · unfold tB1
     rw[wT (h:=0) (xs:=xs) rfl];rfl
   · have hfl:=Tw (fun a:Et => !yB a e) xs
     refine(lR (y:=.lst (List.map (iD 0) (List.filter (fun a:Et => !yB a e) xs))) rfl (xB ?_) rfl).trans (sQ n 0 (List.filter (fun a:Et => !yB a e) xs) (by have:=Wu hfl hl;lia) fun _ _=>trivial)
     unfold yC iL
     rw[yV (h:=0) (xs:=xs) rfl,Qw]
     show((some (xs.map dE)).bind okL).bind _=_
     rw[Qw,tN (by rw[Qu];lia),Qw]
     exact gU (t:=eB2 kD (eV 0) (eV 1)) (f:=dE) (p:=fun a => !yB a e) (rest:=[.fz (dE e)]) xs .no [] fun a _=>zQt a e
 | h+1,xs,k+1,H,hk=>by
   have hl:=H.len
   have h2:2<=xs.length:=by rcases H.two with z | z;cases z;exact z
   obtain⟨hw,H'⟩:=H.way.down hn e
   have hm:xs.getD (yH h xs e) []∈xs:=by
     have:xs.getD (yH h xs e) []=xs[yH h xs e]:=by simp[hw]
     rw[this];exact Ta hw
   obtain⟨c1,c2,c3⟩:=yJ (H.full _ hm)
   have HB:RtOk n h (xs.getD (yH h xs e) []):=⟨c2,.inr (by lia),c3,H.srt.sublist (qU (f:=uT (h+1)) hm)⟩
   have ih:=zYz hn h12 e h _ k HB (by lia)
   obtain⟨_,i2⟩:=iE hn e h _ HB.len HB.two HB.full HB.srt
   show(xV (xO k) [.fz (pgD (h+1) xs),.fz (dE e),.fz (.int (n:Int)),.no,.no]).bind vV=_
   rcases i2 with⟨_,_,z⟩ | ⟨y,ey,y1,y2,y3,y4⟩
   · lia
   have hsp:=zTg (xs:=xs) (d:=([]:It (h+1))) hw
   obtain⟨g1,g2,g3,g4⟩:=zVv hn (L:=xs.take (yH h xs e)) (R:=xs.drop (yH h xs e+1)) (c:=y) (fun x hx=>H.full x (Wz hx)) (fun x hx=>H.full x (Wl hx)) (by lia) y2 y4 (by rw[Qh,Wi];lia)
   have hmid:xs.take (yH h xs e)++eF n h (xs.getD (yH h xs e) []) e++xs.drop (yH h xs e+1)=xs.take (yH h xs e)++y::xs.drop (yH h xs e+1):=by rw[ey];simp
   have hfill:=zUY (n:=n) (h:=h) (xs.take (yH h xs e)++eF n h (xs.getD (yH h xs e) []) e++xs.drop (yH h xs e+1)) (by rw[hmid,Qr,Qs,Qh,Wi];lia) h12 (fun p hp=>by
     rw[hmid] at hp
     rcases Qn.mp hp with z | z
     · obtain⟨a,b,c⟩:=yJ (H.full p (Wz z))
       exact⟨b,fun x hx=>oA hn (c x hx)⟩
     · rcases Qd.mp z with z | z
       · rw[z];exact⟨y2,fun x hx=>oA hn (y4 x hx)⟩
       · obtain⟨a,b,c⟩:=yJ (H.full p (Wl z))
         exact⟨b,fun x hx=>oA hn (c x hx)⟩)
   unfold xV
   refine oS ?_ ?_
   · unfold tB1
     rw[wT (h:=h+1) (xs:=xs) rfl];rfl
   unfold uA
   refine yS ((vJ rfl rfl).trans (zW2 (h+1) xs e (by lia))) ?_
   unfold uC
   refine yS ((lR ((vI (yV (h:=h+1) (xs:=xs) rfl) rfl).trans (zYX (iD (h+1)) (d:=([]:It (h+1))) hw)) rfl rfl).trans ih) ?_
   unfold qJ
   rw[uP]
   refine(lR rfl ((vJ (zWr (h:=h) (xs:=xs) (k:=yH h xs e) (yV (h:=h+1) (xs:=xs) rfl) rfl rfl hw (by lia) (by rw[ey];simp)) rfl).trans hfill) rfl).trans ?_
   refine sQ n (h+1) _ ?_ fun x hx=>?_
   · rw[hmid]
     rw[Qh,Wi] at g3
     lia
   · rw[hmid] at hx
     exact oA hn (g1 x hx)
def rtD (r:Rt):D:=pgD r.1 r.2
theorem zXE {x0:B}:∀(h:Nat) (xs:List (It h)) (k:Nat),h < k ->
   uI (eS (yD (tB1 (yY "Page" "leaf" (eV 1)))) (eB2 gEq (vH (yY "Page" "things" (eV 1))) (eC (.int 1)))) (yO 1 (eIx (yY "Page" "things" (eV 1)) (eC (.int 0)))) k [x0,.fz (pgD h xs)]=some (.nx [x0,.fz (rtD (zVE h xs))])
 | 0,xs,k+1,_=>by
   have t:eS (yD (tB1 (yY "Page" "leaf" (eV 1)))) (eB2 gEq (vH (yY "Page" "things" (eV 1))) (eC (.int 1))) [x0,.fz (pgD 0 xs)]=some false:=by
     unfold eS yD tB1
     rw[wT (h:=0) (xs:=xs) rfl];rfl
   rw[uI,t,Qw,Qa (by decide)]
   rfl
 | h+1,xs,k+1,hk=>by
   have t:eS (yD (tB1 (yY "Page" "leaf" (eV 1)))) (eB2 gEq (vH (yY "Page" "things" (eV 1))) (eC (.int 1))) [x0,.fz (pgD (h+1) xs)]=some (decide (xs.length=1)):=by
     unfold eS yD tB1 eB2 vH
     rw[wT (h:=h+1) (xs:=xs) rfl,yV (h:=h+1) (xs:=xs) rfl]
     show some (decide (((xs.map (iD (h+1))).length:Int)=1))=_
     rw[Qu]
     congr 1
     by_cases q:xs.length=1
     · rw[Qz q,Qz (by lia)]
     · rw[Ww q,Ww (by lia)]
   rw[uI,t,Qw]
   match xs with
   | []=>rfl
   | [x] =>
     rw[Qi (by simp)]
     have b:yO 1 (eIx (yY "Page" "things" (eV 1)) (eC (.int 0))) [x0,.fz (pgD (h+1) [x])]=some (.nx [x0,.fz (pgD h x)]):=by
       unfold yO
       rw[(vI (yV (h:=h+1) (xs:=[x]) rfl) rfl).trans (gK (iD (h+1)))]
       rfl
     rw[b,Qw]
     exact zXE h x k (by lia)
   | x::y::r =>
     rw[Qa (by simp)]
     rfl
theorem zVC {h:Nat}(ys:List (List (It h)))(hh:h < 9)(hl:ys.length<=100000)(hne:∀y∈ys,0 < y.length):kX [.lst (ys.map (iD (h+1)))]=some (rtD (gE h ys)):=by
 show(qI [.fz (.lst (ys.map (iD (h+1)))),.no]).bind vV=_
 unfold qI
 unfold gE
 by_cases h0:ys.length=0
 · have:ys=[]:=Yn.mp h0
   subst this
   rw[Qi h0]
   exact qC rfl (lA (h:=0) (xs:=[]) rfl (xB (wN rfl (by decide))) (by decide) fun _ _=>trivial)
 · rw[Qa h0]
   refine oS (by
     show some (!(!(ys.map (iD (h+1))).isEmpty))=some false
     cases ys with
     | nil=>exact absurd rfl h0
     | cons x r=>rfl) ?_
   unfold mB
   refine yS (d:=pgD (h+1) ys) (lA (h:=h+1) (xs:=ys) rfl rfl hl hne) ?_
   unfold lK
   exact xU (zXE (h+1) ys 10 (by lia)) rfl
def shD:(h:Nat)->List (It h)->D
 | 0,xs=>.tup [.str "leaf",.lst (List.map dE xs)]
 | h+1,xs=>.tup [.str "branch",.lst (List.map (fun x=>.tup [dE (zA (h+1) x),.int (most (h+1) x),shD h x]) xs)]
theorem bK {α:Type}{elt:Ef}{f g h:α->D}:∀(l:List α) (x0 x1:B) (acc:List D),(∀a∈l,elt [.fz (f a),.fz (g a)]=some (h a))->tO (gT (zD (gN 0) (zD (gN 1) wE))) tOK elt (nX (l.map f) (l.map g)) [x0,x1] acc=some (acc++l.map h)
 | [],_,_,acc,_=>by simp[tO,nX]
 | a::r,x0,x1,acc,hh=>by
   rw[Ql,Ql]
   show tO _ _ _ (D.tup [f a,g a]::nX (r.map f) (r.map g)) _ _=_
   unfold tO
   have e1:gT (zD (gN 0) (zD (gN 1) wE)) (D.tup [f a,g a]) [x0,x1]=some [.fz (f a),.fz (g a)]:=rfl
   have e2:tOK [.fz (f a),.fz (g a)]=some true:=rfl
   rw[e1,Qw,e2,Qw,Qi rfl,hh a Qb,Qw,bK r _ _ _ fun q hq=>hh q (Qj _ hq)]
   simp
theorem oW {α:Type}(f g:α->D):∀l:List α,(nX (l.map f) (l.map g)).length=l.length
 | []=>rfl
 | a::r=>by show(nX (r.map f) (r.map g)).length+1=_;rw[oW f g r];rfl
theorem eJ {n:Nat}(hn:4<=n)(h12:n<=300):∀(h:Nat) (xs:List (It h)) (k:Nat),Way n h xs->h < k->vX k [pgD h xs]=some (shD h xs)
 | 0,xs,k+1,H,_=>by
   show(vM (vX k) [.fz (pgD 0 xs)]).bind vV=_
   unfold vM
   refine qC ?_ ?_
   · unfold tB1
     rw[wT (h:=0) (xs:=xs) rfl];rfl
   · refine tV (zR rfl (zR (xB (ds:=xs.map dE) ?_) rfl)) (by simp)
     unfold nH
     rw[yV (h:=0) (xs:=xs) rfl];rfl
 | h+1,xs,k+1,H,hk=>by
   have hl:=H.1
   show(vM (vX k) [.fz (pgD (h+1) xs)]).bind vV=_
   unfold vM
   refine oS ?_ ?_
   · unfold tB1
     rw[wT (h:=h+1) (xs:=xs) rfl];rfl
   unfold iY
   rw[uP]
   refine tV (zR rfl (zR (xB ?_) rfl)) (by simp)
   unfold yC zZV
   rw[oI (h:=h+1) (xs:=xs) rfl,yV (h:=h+1) (xs:=xs) rfl]
   show((some (nX (xs.map fun x=>dE (zA (h+1) x)) (xs.map (iD (h+1))))).bind okL).bind _=_
   rw[Qw,tN (by rw[oW];lia),Qw]
   have:=bK (elt:=wD (zY (eV 0) (zY (yY "Page" "most" (eV 1)) (zY (zL 1 (vX k) (zY (eV 1) zN)) zN)))) (f:=fun x=>dE (zA (h+1) x)) (g:=iD (h+1)) (h:=fun x=>.tup [dE (zA (h+1) x),.int (most (h+1) x),shD h x]) xs .no .no [] fun x hx=>by
     obtain⟨c1,c2,c3⟩:=yJ (H.2.2 x hx)
     refine tV (zR rfl (zR ?_ (zR ((tT rfl).trans (eJ hn h12 h x k ⟨c2,.inr (by lia),c3⟩ (by lia))) rfl))) (by simp)
     rw[cX (h:=h) (xs:=x) rfl,cW (by lia)]
   exact this
abbrev stN:List Str:=["size","root"]
def stD (n:Nat)(r:Rt):D:=.obj "Store" stN [.int (n:Int),rtD r]
theorem zOY (n:Nat)(r:Rt)(ρ:List B):kH 0 "Store" "root" (.mu (stD n r)::ρ)=some (rtD r)/\kH 0 "Store" "size" (.mu (stD n r)::ρ)=some (.int (n:Int)):=by
 refine⟨?_,?_⟩
 all_goals
   refine(Qi rfl:(if ("Store":Str)="Store" then _ else none)=_).trans ?_
   kernel_rfl
theorem zSU {fa:Ef}{ρ:List B}{n:Nat}{r:Rt}(h:fa ρ=some (stD n r)):yY "Store" "root" fa ρ=some (rtD r):=by
 unfold yY
 rw[h,Qw]
 refine(Qi rfl:(if ("Store":Str)="Store" then _ else none)=_).trans ?_
 kernel_rfl
theorem zXK (n:Nat)(a b:D):setF "root" b stN [.int (n:Int),a]=[.int (n:Int),b]:=by kernel_rfl
section
variable {n:Nat} (hn:4<=n) (h12:n<=300)
include hn h12
theorem zUE {h:Nat}{xs:List (It h)}(H:RtOk n h xs)(e:Et)(hk:∀a∈zS h xs,kE a≠kE e)(hl:(zS h xs).length < 500):∃h' xs',RtOk n h' xs'/\(zS h' xs').Perm (e::zS h xs)/\rQ stN [.int (n:Int),rtD ⟨h,xs⟩] [dE e]=some [.int (n:Int),rtD ⟨h',xs'⟩]:=by
 have hd:=H.deep hn (by lia)
 obtain⟨h',xs',e1,H',pm⟩:=H.put hn e hk
 obtain⟨m1,m2⟩:=zOY n ⟨h,xs⟩ [.fz (dE e)]
 refine⟨h',xs',H',pm,?_⟩
 show fnM 2 "Store" stN "root" uM sL [.int (n:Int),rtD ⟨h,xs⟩] [dE e]=_
 unfold fnM
 show(uM [.mu (stD n ⟨h,xs⟩),.fz (dE e)]).bind _=_
 have ht:uM [.mu (stD n ⟨h,xs⟩),.fz (dE e)]=some false:=by
   unfold uM eB2
   rw[vJ m1 rfl,show vS [rtD ⟨h,xs⟩,dE e]=_ from zWo hn (by lia) e h xs H.way (by lia),H.like_none hn hk]
   rfl
 rw[ht,Qw,Qi ⟨rfl,by decide +kernel,by decide⟩]
 obtain⟨p1,p2⟩:=zWk hn e h xs H.way
 have he:sL [.mu (stD n ⟨h,xs⟩),.fz (dE e)]=some (rtD ⟨h',xs'⟩):=by
   refine(tT ((lR m1 rfl m2).trans (lG hn (by lia) e h xs 8 H.way (by lia)))).trans ?_
   rw[zVC _ (by lia) (by lia) (p2 (by rcases H.two with z | z;exact .inr z;exact .inl (by lia))),e1]
 show(sL [.mu (stD n ⟨h,xs⟩),.fz (dE e)]).map _=_
 rw[he]
 exact Ep some (zXK n _ _)
theorem zWB {h:Nat}{xs:List (It h)}(H:RtOk n h xs)(e:Et)(he:e∈zS h xs)(hl:(zS h xs).length < 500):∃h' xs',RtOk n h' xs'/\zS h' xs'=(zS h xs).filter (fun a => !yB a e)/\tG stN [.int (n:Int),rtD ⟨h,xs⟩] [dE e]=some [.int (n:Int),rtD ⟨h',xs'⟩]:=by
 have hd:=H.deep hn (by lia)
 obtain⟨h',xs',e1,H',pm⟩:=H.take hn e
 obtain⟨m1,m2⟩:=zOY n ⟨h,xs⟩ [.fz (dE e)]
 refine⟨h',xs',H',pm,?_⟩
 show fnM 2 "Store" stN "root" vP tU [.int (n:Int),rtD ⟨h,xs⟩] [dE e]=_
 unfold fnM
 show(vP [.mu (stD n ⟨h,xs⟩),.fz (dE e)]).bind _=_
 have ht:vP [.mu (stD n ⟨h,xs⟩),.fz (dE e)]=some false:=by
   unfold vP eB2
   rw[vJ m1 rfl,show vS [rtD ⟨h,xs⟩,dE e]=_ from zWo hn (by lia) e h xs H.way (by lia),H.like_some hn he rfl]
   show kD (dE e) (dE e)=_
   rw[zQt,uO.mpr rfl];rfl
 rw[ht,Qw,Qi ⟨rfl,by decide +kernel,by decide⟩]
 have hE:tU [.mu (stD n ⟨h,xs⟩),.fz (dE e)]=some (rtD ⟨h',xs'⟩):=by
   refine(tT ((lR m1 rfl m2).trans (zYz hn (by lia) e h xs 8 H (by lia)))).trans ?_
   obtain⟨_,i2⟩:=iE hn e h xs H.len H.two H.full H.srt
   rw[zVC _ (by lia) (by rcases i2 with⟨_,z,_⟩ | ⟨y,z,_⟩<;>rw[z]<;>simp) (by
     rcases i2 with⟨_,z,_⟩ | ⟨y,z,_,_,y3,_⟩
     · rw[z];exact fun y hy=>nomatch hy
     · rw[z];intro y hy;rw[Wq] at hy;subst hy;exact y3),e1]
 show(tU [.mu (stD n ⟨h,xs⟩),.fz (dE e)]).map _=_
 rw[hE]
 exact Ep some (zXK n _ _)
theorem zYu {h:Nat}{xs:List (It h)}(H:RtOk n h xs)(hl:(zS h xs).length < 500):vC [stD n ⟨h,xs⟩]=some (shD h xs):=by
 have hd:=H.deep hn (by lia)
 show(sK [.fz (stD n ⟨h,xs⟩)]).bind vV=_
 unfold sK
 rw[uP]
 exact(tT (zSU (n:=n) (r:=⟨h,xs⟩) rfl)).trans (eJ hn h12 h xs 8 H.way (by lia))
end
theorem zRH {xs:List Int}{i:Int}(h0:0<=i)(h1:i < xs.length):∃x∈xs,atD (.lst (xs.map .int)) (.int i)=some (.int x):=by
 obtain⟨x,hx,e⟩:=zVz h0 h1
 refine⟨x,hx,?_⟩
 show atI (xs.map D.int) i=_
 rw[zYG,e];rfl
theorem cF {fa fb:Ef}{ρ:List B}{i j:Int}(h1:fa ρ=some (.int i))(h2:fb ρ=some (.int j))(h:zX8 i j=true):fK fa fb ρ=some (.int (i^j.toNat)):=zI h1 h2 h
theorem zTc (ws:List Str)(a b c k:Int)(hw:ws.length=14)(a0:0<=a)(a1:a < 3)(k0:0<=k)(k1:k < 300):∃e:Et,qQ [.tup [.lst (ws.map .str),.int a,.int b],.int c,.int k]=some (dE e):=by
 have ck:mT 3 k=true:=rA (by lia) (by lia)
 have m1:=uE c (3*k+1) (by lia) (by lia)
 have m2:=uE c (3*k+2) (by lia) (by lia)
 have m3:=uE c (3*k+3) (by lia) (by lia)
 have n1:=zWg c (3*k+1)
 have n2:=zWg c (3*k+2)
 have l1:=zVD c (3*k+1)
 have l2:=zVD c (3*k+2)
 generalize fR c (3*k+1)=one at m1 n1 l1
 generalize fR c (3*k+2)=two at m2 n2 l2
 generalize fR c (3*k+3)=thr at m3
 obtain⟨s0,hs0,es0⟩:=zRH (xs:=[1,5,60,2000]) (i:=two % 4) (by lia) (by show two % 4 < 4;lia)
 obtain⟨t0,ht0,et0⟩:=zRH (xs:=[30,200,4000]) (i:=a) a0 a1
 obtain⟨s1,hs1,es1⟩:=zRH (xs:=[1,5,60,two^5 % 10^40+1]) (i:=two % 4) (by lia) (by show two % 4 < 4;lia)
 have s0p:0 < s0:=by simp at hs0;lia
 have t0p:0 < t0:=by simp at ht0;lia
 have s1p:0 < s1:=by
   have:0<=two^5 % 10^40:=Tv _ (by decide)
   simp at hs1
   lia
 have c6:zX8 one 6=true:=by
   unfold zX8
   rw[Qz (by decide),Qz (by decide),Qz (by lia)];rfl
 have c5:zX8 two 5=true:=by
   unfold zX8
   rw[Qz (by decide),Qz (by decide),Qz (by lia)];rfl
 obtain⟨w,hw',ew⟩:=zVz (xs:=ws) (i:=thr % 12) (by lia) (by rw[hw];show thr % 12 < 14;lia)
 have mid:∃s f:Int,0 < s/\sIf (eB2 gEq (eIx (eV 0) (eC (.int 2))) (eC (.int 1))) (zC (yO 6 (yA (fK (eV 3) (eC (.int 6))) (fK (eC (.int 10)) (eC (.int 54)))))
     (yO 5 (eIx (eL (wQ (zY (eC (.int 1)) (zY (eC (.int 5)) (zY (eC (.int 60)) (zY (uJ (yA (fK (eV 4) (eC (.int 5))) (fK (eC (.int 10)) (eC (.int 40)))) (eC (.int 1))) zN)))))) (yA (eV 4) (eC (.int 4)))))) sR
     [.fz (.tup [.lst (ws.map .str),.int a,.int b]),.fz (.int c),.fz (.int k),.fz (.int one),.fz (.int two),.fz (.int s0),.fz (.int (one % t0)),.no]
     = some (.nx [.fz (.tup [.lst (ws.map .str),.int a,.int b]),.fz (.int c),.fz (.int k),.fz (.int one),.fz (.int two),.fz (.int s),.fz (.int f),.no]):=by
   by_cases hb:b=1
   · refine⟨s1,one^6 % 10^54,s1p,(lS (b:=true) ?_).trans ?_⟩
     · rw[lZ (x:=b) rfl,Qz hb]
     · rw[Qi rfl]
       rw[zXH (d:=.int (one^6 % 10^54)) (zI (cF rfl rfl c6) (cF (i:=10) (j:=54) rfl rfl (by decide)) (by decide))]
       unfold yO
       have:=vI (ρ:=[.fz (.tup [.lst (ws.map .str),.int a,.int b]),.fz (.int c),.fz (.int k),.fz (.int one),.fz (.int two),.fz (.int s0),.fz (.int (one^6 % 10^54)),.no]) (fa:=eL (wQ (zY (eC (.int 1)) (zY (eC (.int 5)) (zY (eC (.int 60)) (zY (uJ (yA (fK (eV 4) (eC (.int 5))) (fK (eC (.int 10)) (eC (.int 40)))) (eC (.int 1))) zN)))))) (fb:=yA (eV 4) (eC (.int 4)))
         (xB (wN (zR rfl (zR rfl (zR rfl (zR (zI (zI (cF rfl rfl c5) (cF (i:=10) (j:=40) rfl rfl (by decide)) (by decide)) rfl rfl) rfl)))) (by simp))) (zI rfl rfl rfl)
       exact(Ep (Option.map _) (this.trans es1)).trans rfl
   · refine⟨s0,one % t0,s0p,(lS (b:=false) ?_).trans rfl⟩
     rw[lZ (x:=b) rfl,Ww hb]
 obtain⟨s,f,sp,emid⟩:=mid
 have cm:mT (two / 4) (48611^8)=true:=rA (by lia) (by lia)
 refine⟨⟨f,f+two / 4*48611^8 % s,w⟩,?_⟩
 show(sY [.fz (.tup [.lst (ws.map .str),.int a,.int b]),.fz (.int c),.fz (.int k),.no,.no,.no,.no,.no]).bind vV=_
 unfold sY
 refine yS (d:=.int one) ((vJ rfl (zI (zI rfl rfl ck) rfl rfl)).trans m1) ?_
 unfold pR
 refine yS (d:=.int two) ((vJ rfl (zI (zI rfl rfl ck) rfl rfl)).trans m2) ?_
 unfold qE
 refine yS (d:=.int s0) ((vI (xB (wN (zR rfl (zR rfl (zR rfl (zR rfl rfl)))) (by simp))) (zI rfl rfl rfl)).trans es0) ?_
 unfold pS
 refine yS (d:=.int (one % t0)) (zI rfl ((vI (xB (wN (zR rfl (zR rfl (zR rfl rfl))) (by simp))) rfl).trans et0) (Qz t0p)) ?_
 unfold qB
 refine xU emid ?_
 unfold pP
 refine yS (d:=.int (f+two / 4*48611^8 % s)) (zI rfl (zI (zI (zI rfl rfl rfl) (cF (i:=48611) (j:=8) rfl rfl (by decide)) cm) rfl (Qz sp)) rfl) ?_
 unfold kL
 rw[uP]
 refine tV (zR rfl (zR rfl (zR ?_ rfl))) (by simp)
 refine(vI (x:=.lst (ws.map .str)) (y:=.int (thr % 12)) rfl (zI ((vJ rfl (zI (zI rfl rfl ck) rfl rfl)).trans m3) rfl rfl)).trans ?_
 show atI (ws.map D.str) (thr % 12)=_
 rw[zYG,ew];rfl
def ktD (qs:List Et):D:=.dct (qs.map fun q=>isK (kE q)) (qs.map fun q=>.int q.l)
theorem zZa {p q:Int×Str}(h:isK p=isK q):p=q:=by
 obtain⟨a,b⟩:=p
 obtain⟨c,d⟩:=q
 unfold isK at h
 injection h with h1 h2
 injection h2 with h2
 cases h1;cases h2;rfl
theorem zZc:∀ {qs:List Et} {e:Et},e∈qs->(qs.map kE).Nodup->nB (qs.map fun q=>isK (kE q)) (qs.map fun q=>.int q.l) (isK (kE e))=some (.int e.l)
 | [],_,h,_=>by cases h
 | a::r,e,h,nd=>by
   rw[Ql,Rw] at nd
   unfold nB
   rw[Ql,Ql,Ez,Tq]
   by_cases q:isK (kE a)=isK (kE e)
   · have ea:a=e:=by
       rcases Qd.mp h with z | z
       · exact z.symm
       · exact absurd (by rw[zZa q];exact Yf z) nd.1
     subst ea
     simp
   · have hr:e∈r:=by
       rcases Qd.mp h with z | z
       · exact absurd (by rw[z]) q
       · exact z
     have ih:=zZc hr nd.2
     unfold nB at ih
     simp only[q,Ow]
     exact ih
theorem zWL:∀ {qs:List Et} {p:Int×Str},(∀q∈qs,kE q≠p)->nB (qs.map fun q=>isK (kE q)) (qs.map fun q=>.int q.l) (isK p)=none
 | [],_,_=>rfl
 | a::r,p,h=>by
   unfold nB
   rw[Ql,Ql,Ez,Tq]
   have q:¬isK (kE a)=isK p:=fun z=>h a Qb (zZa z)
   have ih:=zWL (qs:=r) fun q hq=>h q (Qj _ hq)
   unfold nB at ih
   simp only[q,Ow]
   exact ih
structure Kp (es qs:List Et):Prop where
 pm:es.Perm qs
 up:Srt es
theorem Kp.nd {es qs:List Et}(h:Kp es qs):(qs.map kE).Nodup:=(h.pm.map kE).nodup_iff.mp h.up.nd
theorem zWH {es qs:List Et}(h:Kp es qs)(hl:qs.length<=1000):tR [ktD qs]=some (.lst (es.map dE)):=by
 have hk:oO (qs.map kE)=es.map kE:=iF ((zXL _).trans (h.pm.map kE).symm) (kO _) h.up.up
 have src:zZx (eV 0) [.fz (ktD qs)]=some (es.map fun e=>dIS (kE e)):=by
   show(fG (qs.map fun q=>isK (kE q))).bind _=_
   have e:(qs.map fun q=>isK (kE q))=(qs.map kE).map isK:=by rw[Rp];rfl
   rw[e,zZK,Qw,Qi (by rw[Qu];lia),hk,Rp]
   rfl
 show(lP [.fz (ktD qs)]).bind vV=_
 unfold lP
 rw[uP]
 refine xB ?_
 unfold yC
 rw[src,Qw,tN (by rw[Qu,h.pm.length_eq];lia),Qw]
 have key:∀(l:List Et) (x0 x1:B) (acc:List D),(∀e∈l,e∈qs)->tO (gT (zD (gN 0) (zD (gN 1) wE))) tOK (wD (zY (eV 0) (zY (zYn (eV 2) (wD (zY (eV 0) (zY (eV 1) zN)))) (zY (eV 1) zN)))) (l.map fun e=>dIS (kE e)) [x0,x1,.fz (ktD qs)] acc=some (acc++l.map dE):=by
   intro l
   induction l with
   | nil=>intro x0 x1 acc _;simp[tO]
   | cons e r ih =>
     intro x0 x1 acc hh
     rw[Ql]
     unfold tO
     have e1:gT (zD (gN 0) (zD (gN 1) wE)) (dIS (kE e)) [x0,x1,.fz (ktD qs)]=some [.fz (.int e.f),.fz (.str e.z),.fz (ktD qs)]:=rfl
     have e2:tOK [.fz (.int e.f),.fz (.str e.z),.fz (ktD qs)]=some true:=rfl
     have e3:wD (zY (eV 0) (zY (zYn (eV 2) (wD (zY (eV 0) (zY (eV 1) zN)))) (zY (eV 1) zN))) [.fz (.int e.f),.fz (.str e.z),.fz (ktD qs)]=some (dE e):=by
       refine tV (zR rfl (zR (d:=.int e.l) ?_ (zR rfl rfl))) (by simp)
       exact zZc (hh e Qb) h.nd
     rw[e1,Qw,e2,Qw,Qi rfl,e3,Qw,ih _ _ _ fun q hq=>hh q (Qj _ hq)]
     simp
 exact key es .no .no [] fun e he=>h.pm.subset he
def sF (e:Et):D:=.tup [.str "put",dE e]
def rO (e:Et):D:=.tup [.str "take",dE e]
theorem orT {t u:Tf}{ρ:List B}{a b:Bool}(h1:t ρ=some a)(h2:u ρ=some b):lU t u ρ=some (a||b):=by unfold lU;rw[h1];cases a<;>simp[h2]
theorem zON {f:Ef}{ρ:List B}{x k:Int}(h:f ρ=some (.int x)):eB2 gLt f (eC (.int k)) ρ=some (decide (x < k)):=by unfold eB2;rw[h];rfl
theorem zSl {fa fb:Ef}{ρ:List B}{i j:Int}(h1:fa ρ=some (.int i))(h2:fb ρ=some (.int j)):zUL fa fb ρ=some (.int (if j < i then j else i)):=by unfold zUL;rw[h1,h2];rfl
theorem zRb {f:Ef}{ρ:List B}{m:Int}(h:f ρ=some (.int m))(h0:0<=m)(h1:m<=1000000):iR f ρ=some (sI 0 m.toNat):=by
 unfold iR
 rw[h,Qw]
 show(if decide (-1000000<=m)&&decide (m<=1000000) then some (sI 0 m.toNat) else none)=_
 rw[Qz (by lia),Qz h1];rfl
theorem zQB {f elt:Ef}{ρ rest:List B}{js:List Nat}{m:Int}{α:Type}{g:α->D}{Q:α->Prop}(h:f ρ=some (.int m))(h0:0<=m)(h1:m<=100000)(hr:upB 1 js ρ = .no::rest)(he:∀i:Nat,(i:Int) < m->∃a,elt (.fz (.int (0+(i:Int)))::rest)=some (g a)/\Q a) :
   ∃l:List α,yC (iR f) 1 js (gN 0) tOK elt ρ=some (l.map g)/\(l.length:Int)=m/\∀a∈l,Q a:=by
 obtain⟨as,e,el,hq⟩:=zY9 (α:=α) (elt:=elt) (f:=g) (Q:=Q) (rest:=rest) (sI 0 m.toNat) .no [] fun d hd=>by
   obtain⟨i,hi,rfl⟩:=bD hd
   exact he i (by lia)
 rw[mO] at el
 rw[Yd] at e
 refine⟨as,?_,by lia,hq⟩
 unfold yC
 rw[zRb h h0 (by lia),Qw,tN (by rw[mO];lia),Qw,hr]
 exact e
theorem zT2 {ws:List Str}{a b:Int}(c:Int)(hw:ws.length=14)(a0:0<=a)(a1:a < 3){es qs:List Et}(h:Kp es qs)(hl:qs.length<=1000) :
   ∃l:List Et,(vY [.tup [.lst (ws.map .str),.int a,.int b],.int c,ktD qs]=some (.lst (l.map sF))/\l.length<=5) ∨
     (vY [.tup [.lst (ws.map .str),.int a,.int b],.int c,ktD qs]=some (.lst (l.map rO))/\l.Nodup/\∀e∈l,e∈qs):=by
 have m0:=uE c 0 (by decide) (by decide)
 generalize fR c 0=m at m0
 have hlen:=h.pm.length_eq
 have many:1<=1+m / 8 % 5/\1+m / 8 % 5<=5:=by lia
 have hmany:uJ (eC (.int 1)) (yA (sE (eV 3) (eC (.int 8))) (eC (.int 5))) [.fz (.tup [.lst (ws.map .str),.int a,.int b]),.fz (.int c),.fz (ktD qs),.fz (.int m),.no,.no,.no]=some (.int (1+m / 8 % 5)):=zI rfl (zI (zI rfl rfl rfl) rfl rfl) rfl
 generalize 1+m / 8 % 5=y at many hmany
 generalize hpl:D.tup [.lst (ws.map .str),.int a,.int b]=pl at hmany
 have ht:lU (eB2 gLt (yA (eV 3) (eC (.int 8))) (eC (.int 5))) (eB2 gEq (zVU (eV 2)) (eC (.int 0))) [.fz pl,.fz (.int c),.fz (ktD qs),.fz (.int m),.fz (.int y),.no,.no]=some (decide (m % 8 < 5)||decide (qs.length=0)):=by
   refine orT (zON (zI rfl rfl rfl)) ?_
   show some (decide (((qs.map fun q=>isK (kE q)).length:Int)=0))=_
   rw[Qu]
   congr 1
   by_cases q:qs.length=0
   · rw[Qz q,Qz (by lia)]
   · rw[Ww q,Ww (by lia)]
 have start:∀r,(vE [.fz pl,.fz (.int c),.fz (ktD qs),.fz (.int m),.fz (.int y),.no,.no]).bind vV=r->vY [pl,.int c,ktD qs]=r:=fun r hr=>by
   show(tH [.fz pl,.fz (.int c),.fz (ktD qs),.no,.no,.no,.no]).bind vV=_
   unfold tH
   refine yS (d:=.int m) ((vJ rfl rfl).trans m0) ?_
   unfold pG
   exact yS (d:=.int y) hmany hr
 cases hb:decide (m % 8 < 5)||decide (qs.length=0) with
 | true =>
   rw[hb] at ht
   obtain⟨l,el,ll,_⟩:=zQB (α:=Et) (f:=eV 4) (elt:=wD (zY (eC (.str "put")) (zY (zL 3 qQ (zY (eV 1) (zY (eV 2) (zY (eV 0) zN)))) zN))) (ρ:=[.fz pl,.fz (.int c),.fz (ktD qs),.fz (.int m),.fz (.int y),.no,.no]) (rest:=[.fz pl,.fz (.int c)]) (js:=[0,1]) (m:=y) (g:=sF) (Q:=fun _=>True) rfl (by lia) (by lia) rfl fun i hi=>by
     obtain⟨e,he⟩:=zTc ws a b c (0+(i:Int)) hw a0 a1 (by lia) (by lia)
     rw[hpl] at he
     exact⟨e,tV (zR rfl (zR ((lR rfl rfl rfl).trans he) rfl)) (by simp),trivial⟩
   refine⟨l,.inl ⟨start _ ?_,by lia⟩⟩
   unfold vE
   exact qC ht (xB el)
 | false =>
   rw[hb] at ht
   have hq:0 < qs.length:=by
     rw[Bool.or_eq_false_iff,decide_eq_false_iff_not,decide_eq_false_iff_not] at hb
     lia
   obtain⟨x,hx,ex⟩:=zRH (xs:=[y,3*y,30]) (i:=m / 40 % 3) (by lia) (by show m / 40 % 3 < 3;lia)
   have hxp:0<=x:=by simp at hx;lia
   have hidx:(m / 120 % ((es.map dE).length:Int)) < (es.length:Int):=by
     rw[Qu]
     exact Int.emod_lt_of_pos _ (by lia)
   have hidx0:0<=(m / 120 % ((es.map dE).length:Int)):=Tv _ (by rw[Qu];lia)
   have hc3:mT 3 y=true:=rA (by lia) (by lia)
   have hat:yA (sE (eV 3) (eC (.int 120))) (vH (eV 5)) [.fz pl,.fz (.int c),.fz (ktD qs),.fz (.int m),.fz (.int (if x < (es.map dE).length then x else(es.map dE).length)),.fz (.lst (es.map dE)),.no]=some (.int (m / 120 % ((es.map dE).length:Int))):=zI (zI rfl rfl rfl) rfl (Qz (by rw[Qu];lia))
   generalize m / 120 % ((es.map dE).length:Int)=p at hidx hidx0 hat
   have hminl:(if x < ((es.map dE).length:Int) then x else((es.map dE).length:Int))<=(es.length:Int)/\0<=(if x < ((es.map dE).length:Int) then x else((es.map dE).length:Int)):=by
     rw[Qu];split<;>lia
   have hmin:zUL (vH (eV 5)) (eIx (eL (wQ (zY (eV 4) (zY (oU (eC (.int 3)) (eV 4)) (zY (eC (.int 30)) zN))))) (yA (sE (eV 3) (eC (.int 40))) (eC (.int 3)))) [.fz pl,.fz (.int c),.fz (ktD qs),.fz (.int m),.fz (.int y),.fz (.lst (es.map dE)),.no]=some (.int (if x < ((es.map dE).length:Int) then x else((es.map dE).length:Int))) :=
     zSl rfl ((vI (xB (wN (zR rfl (zR (zI rfl rfl hc3) (zR rfl rfl))) (by simp))) (zI (zI rfl rfl rfl) rfl rfl)).trans ex)
   generalize(if x < ((es.map dE).length:Int) then x else((es.map dE).length:Int))=r at hminl hmin hat
   let ix:Nat->Nat:=fun i=>((p+(0+(i:Int))) % (es.length:Int)).toNat
   have hix:∀i:Nat,ix i < es.length:=fun i=>by
     have h1:=Int.emod_lt_of_pos (p+(0+(i:Int))) (show(0:Int) < es.length by lia)
     have h2:=Tv (p+(0+(i:Int))) (show(es.length:Int)≠0 by lia)
     show((p+(0+(i:Int))) % (es.length:Int)).toNat < es.length
     lia
   let g:Nat->Et:=fun i=>es.getD (ix i) zE
   have hel:∀i:Nat,(i:Int) < r->wD (zY (eC (.str "take")) (zY (eIx (eV 1) (yA (uJ (eV 2) (eV 0)) (vH (eV 1)))) zN)) [.fz (.int (0+(i:Int))),.fz (.lst (es.map dE)),.fz (.int p)]=some (rO (g i)):=fun i _=>by
     refine tV (zR rfl (zR ?_ rfl)) (by simp)
     have h2:=Tv (p+(0+(i:Int))) (show(es.length:Int)≠0 by lia)
     refine(vI (x:=.lst (es.map dE)) (y:=.int ((ix i:Nat):Int)) rfl ((zI rfl rfl (Qz (by rw[Qu];lia))).trans ?_)).trans (zYX dE (d:=zE) (hix i))
     show some (D.int ((p+(0+(i:Int))) % ((es.map dE).length:Int)))=_
     rw[Qu]
     congr 2
     show _=(((p+(0+(i:Int))) % (es.length:Int)).toNat:Int)
     lia
   have hmap:tO (gN 0) tOK (wD (zY (eC (.str "take")) (zY (eIx (eV 1) (yA (uJ (eV 2) (eV 0)) (vH (eV 1)))) zN))) (sI 0 r.toNat) [.no,.fz (.lst (es.map dE)),.fz (.int p)] []=some (((List.range r.toNat).map g).map rO):=by
     have:=zYC (elt:=wD (zY (eC (.str "take")) (zY (eIx (eV 1) (yA (uJ (eV 2) (eV 0)) (vH (eV 1)))) zN))) (f:=fun i:Nat=>D.int (0+(i:Int))) (h:=fun i=>rO (g i)) (rest:=[.fz (.lst (es.map dE)),.fz (.int p)]) (List.range r.toNat) .no [] fun i hi=>hel i (by have:=Oc.mp hi;lia)
     rw[Rp]
     exact this
   refine⟨(List.range r.toNat).map g,.inr ⟨start _ ?_,?_,?_⟩⟩
   · unfold vE
     refine oS ht ?_
     unfold pN
     refine yS (d:=.lst (es.map dE)) ((tT rfl).trans (zWH h hl)) ?_
     unfold qA
     refine yS hmin ?_
     unfold pM
     refine yS (d:=.int p) hat ?_
     unfold kR
     rw[uP]
     refine xB ?_
     unfold yC
     rw[zRb (m:=r) rfl (by lia) (by lia),Qw,tN (by rw[mO];lia),Qw]
     exact hmap
   · have gi:∀i j,i < r.toNat->j < r.toNat->i < j->g i≠g j:=fun i j hi hj hij z=>by
       have nde:es.Nodup:=(Em.mp h.up.nd).imp fun hne e=>hne (by rw[e])
       have hz:es[ix i]'(hix i)=es[ix j]'(hix j):=by
         have e1:g i=es[ix i]'(hix i):=by show es.getD (ix i) zE=_;simp[hix i]
         have e2:g j=es[ix j]'(hix j):=by show es.getD (ix j) zE=_;simp[hix j]
         rw[←e1,←e2];exact z
       have he:ix i=ix j:=by
         rcases Nat.lt_trichotomy (ix i) (ix j) with q | q | q
         · exact absurd hz (Ra.mp nde _ _ (hix i) (hix j) q)
         · exact q
         · exact absurd hz.symm (Ra.mp nde _ _ (hix j) (hix i) q)
       have hz:(p+(0+(i:Int))) % (es.length:Int)=(p+(0+(j:Int))) % (es.length:Int):=by
         have h1:=Tv (p+(0+(i:Int))) (show(es.length:Int)≠0 by lia)
         have h2:=Tv (p+(0+(j:Int))) (show(es.length:Int)≠0 by lia)
         have he:((p+(0+(i:Int))) % (es.length:Int)).toNat=((p+(0+(j:Int))) % (es.length:Int)).toNat:=he
         lia
       have h1:((p+(0+(j:Int))) - (p+(0+(i:Int)))) % (es.length:Int)=0:=Int.emod_eq_emod_iff_emod_sub_eq_zero.mp hz.symm
       rw[Int.emod_eq_of_lt (by lia) (by lia)] at h1
       lia
     refine Em.mpr ?_
     rw[Ra]
     intro i j hi hj hij
     rw[List.getElem_range,List.getElem_range]
     rw[Rq] at hi hj
     exact gi i j hi hj hij
   · intro e he
     obtain⟨i,_,rfl⟩:=Tt.mp he
     refine h.pm.subset ?_
     show es.getD (ix i) zE∈es
     have e1:es.getD (ix i) zE=es[ix i]'(hix i):=by simp[hix i]
     rw[e1]
     exact Ta _
section
variable {n:Nat} (hn:4<=n) (h12:n<=300)
include hn h12
theorem zTp {h:Nat}{xs:List (It h)}{qs:List Et}(H:RtOk n h xs)(hK:Kp (zS h xs) qs)(hl:qs.length < 500)(e:Et)(hk:∀q∈qs,kE q≠kE e):∃h' xs',RtOk n h' xs'/\Kp (zS h' xs') (qs++[e])/\wB (stD n ⟨h,xs⟩) [sF e]=some (stD n ⟨h',xs'⟩):=by
 obtain⟨h',xs',H',pm,eq⟩:=zUE hn h12 H e (fun a ha=>hk a (hK.pm.subset ha)) (by rw[hK.pm.length_eq];exact hl)
 refine⟨h',xs',H',⟨pm.trans ((hK.pm.cons e).trans (Eo (l₁:=[e]))),H'.srt⟩,?_⟩
 show jN (vZ [.mu (stD n ⟨h,xs⟩),.fz (sF e)])=_
 have q:vZ [.mu (stD n ⟨h,xs⟩),.fz (sF e)]=some (.nx [.mu (stD n ⟨h',xs'⟩),.fz (sF e)]):=by
   unfold vZ sIf
   rw[show eB2 gEq (eIx (eV 1) (eC (.int 0))) (eC (.str "put")) [.mu (stD n ⟨h,xs⟩),.fz (sF e)]=some true from by kernel_rfl,Qw,Qi rfl]
   unfold fU
   show(if ("Store":Str)="Store"/\([dE e]:List D).length=1/\("put":Str)∉stN/\rY 0 1 [.mu (stD n ⟨h,xs⟩),.fz (sF e)]=true then(rQ stN [.int (n:Int),rtD ⟨h,xs⟩] [dE e]).map _ else none)=_
   rw[Qi ⟨rfl,rfl,by decide +kernel,rfl⟩,eq]
   rfl
 rw[q]
 rfl
theorem zU5 {h:Nat}{xs:List (It h)}{qs:List Et}(H:RtOk n h xs)(hK:Kp (zS h xs) qs)(hl:qs.length < 500)(e:Et)(he:e∈qs):∃h' xs',RtOk n h' xs'/\Kp (zS h' xs') (qs.filter fun a => !yB a e)/\wB (stD n ⟨h,xs⟩) [rO e]=some (stD n ⟨h',xs'⟩):=by
 obtain⟨h',xs',H',pm,eq⟩:=zWB hn h12 H e (hK.pm.symm.subset he) (by rw[hK.pm.length_eq];exact hl)
 refine⟨h',xs',H',⟨by rw[pm];exact hK.pm.filter _,H'.srt⟩,?_⟩
 show jN (vZ [.mu (stD n ⟨h,xs⟩),.fz (rO e)])=_
 have q:vZ [.mu (stD n ⟨h,xs⟩),.fz (rO e)]=some (.nx [.mu (stD n ⟨h',xs'⟩),.fz (rO e)]):=by
   unfold vZ sIf
   rw[show eB2 gEq (eIx (eV 1) (eC (.int 0))) (eC (.str "put")) [.mu (stD n ⟨h,xs⟩),.fz (rO e)]=some false from by kernel_rfl,Qw,Qa (by decide)]
   unfold fU
   show(if ("Store":Str)="Store"/\([dE e]:List D).length=1/\("take":Str)∉stN/\rY 0 1 [.mu (stD n ⟨h,xs⟩),.fz (rO e)]=true then(tG stN [.int (n:Int),rtD ⟨h,xs⟩] [dE e]).map _ else none)=_
   rw[Qi ⟨rfl,rfl,by decide +kernel,rfl⟩,eq]
   rfl
 rw[q]
 rfl
end
theorem zZW {l:List Et}{e:Et}(he:e∈l)(nd:(l.map kE).Nodup):∀q∈l,(!yB q e)=decide (isK (kE q)≠isK (kE e)):=by
 intro q hq
 by_cases h:q=e
 · subst h;rw[uO.mpr rfl];simp
 · have h1:yB q e=false:=by cases z:yB q e;rfl;exact absurd (uO.mp z) h
   have h2:isK (kE q)≠isK (kE e):=fun z=>by
     have z:=zZa z
     clear h1
     induction l with
     | nil=>cases he
     | cons a r ih =>
       rw[Ql,Rw] at nd
       rcases Qd.mp he with rfl | he'<;>rcases Qd.mp hq with rfl | hq'
       · exact h rfl
       · exact nd.1 (by rw[←z];exact Yf hq')
       · exact nd.1 (by rw[z];exact Yf he')
       · exact ih he' nd.2 hq'
   rw[h1,Qz h2];rfl
theorem zWb {p:Et->Bool}{k:List Key}:∀ {qs:List Et},(∀q∈qs,p q=decide (isK (kE q)≠k))->((qs.map fun q=>isK (kE q)).filter fun x=>decide (x≠k))=(qs.filter p).map fun q=>isK (kE q)
 | [],_=>rfl
 | a::r,h=>by
   rw[Ql,Wm,Wm,←h a Qb,zWb fun q hq=>h q (Qj _ hq)]
   cases p a<;>rfl
theorem zVx {p:Et->Bool}{k:List Key}:∀ {qs:List Et},(∀q∈qs,p q=decide (isK (kE q)≠k))->eT (qs.map fun q=>isK (kE q)) (qs.map fun q=>.int q.l) k=(qs.filter p).map fun q=>.int q.l
 | [],_=>rfl
 | a::r,h=>by
   have ih:=zVx (qs:=r) fun q hq=>h q (Qj _ hq)
   unfold eT at ih ⊢
   rw[Ql,Ql,Ez,Wm,Wm]
   show(if decide (isK (kE a)≠k)=true then _ else _:List _).map _=_
   rw[←h a Qb]
   cases p a with
   | true=>rw[Qi rfl,Qi rfl,Ql,Ql,ih]
   | false=>rw[Qa (by decide),Qa (by decide),ih]
theorem zU4 {qs:List Et}(e:Et)(hk:∀q∈qs,kE q≠kE e)(hl:qs.length<=1000):uQ (ktD qs) [sF e]=some (ktD (qs++[e])):=by
 show jN (wA [.mu (ktD qs),.fz (sF e),.no,.no,.no])=_
 have q:wA [.mu (ktD qs),.fz (sF e),.no,.no,.no]=some (.nx [.mu (ktD (qs++[e])),.fz (sF e),.fz (.int e.f),.fz (.int e.l),.fz (.str e.z)]):=by
   unfold wA
   rw[sZ (ρ':=[.mu (ktD qs),.fz (sF e),.fz (.int e.f),.fz (.int e.l),.fz (.str e.z)]) rfl]
   unfold sIf
   rw[show eB2 gEq (eIx (eV 1) (eC (.int 0))) (eC (.str "put")) [.mu (ktD qs),.fz (sF e),.fz (.int e.f),.fz (.int e.l),.fz (.str e.z)]=some true from by kernel_rfl,Qw,Qi rfl]
   refine Eq.trans (b:=if (qs.map fun q=>isK (kE q)).length<=lim/\rY 0 2 [.mu (ktD qs),.fz (sF e),.fz (.int e.f),.fz (.int e.l),.fz (.str e.z)]=true/\(nB (qs.map fun q=>isK (kE q)) (qs.map fun q=>.int q.l) (isK (kE e))).isSome=false then some (.nx [.mu (.dct ((qs.map fun q=>isK (kE q))++[isK (kE e)]) ((qs.map fun q=>.int q.l)++[.int e.l])),.fz (sF e),.fz (.int e.f),.fz (.int e.l),.fz (.str e.z)]) else none) rfl ?_
   rw[Qi ⟨by rw[Qu];show qs.length<=100000;lia,rfl,by rw[zWL hk];rfl⟩]
   unfold ktD
   rw[Tu,Tu]
   rfl
 rw[q]
 rfl
theorem zUK {qs:List Et}(e:Et)(he:e∈qs)(nd:(qs.map kE).Nodup):uQ (ktD qs) [rO e]=some (ktD (qs.filter fun a => !yB a e)):=by
 show jN (wA [.mu (ktD qs),.fz (rO e),.no,.no,.no])=_
 have q:wA [.mu (ktD qs),.fz (rO e),.no,.no,.no]=some (.nx [.mu (ktD (qs.filter fun a => !yB a e)),.fz (rO e),.fz (.int e.f),.fz (.int e.l),.fz (.str e.z)]):=by
   unfold wA
   rw[sZ (ρ':=[.mu (ktD qs),.fz (rO e),.fz (.int e.f),.fz (.int e.l),.fz (.str e.z)]) rfl]
   unfold sIf
   rw[show eB2 gEq (eIx (eV 1) (eC (.int 0))) (eC (.str "put")) [.mu (ktD qs),.fz (rO e),.fz (.int e.f),.fz (.int e.l),.fz (.str e.z)]=some false from by kernel_rfl,Qw,Qa (by decide)]
   unfold zWj
   have hkey:wD (zY (eV 2) (zY (eV 4) zN)) [.mu (ktD qs),.fz (rO e),.fz (.int e.f),.fz (.int e.l),.fz (.str e.z)]=some (.tup [.int e.f,.str e.z]):=rfl
   rw[hkey,Qw]
   have hk2:zUI (.tup [.int e.f,.str e.z])=some (isK (kE e)):=rfl
   rw[hk2,Qw]
   show(if rY 0 2 [.mu (ktD qs),.fz (rO e),.fz (.int e.f),.fz (.int e.l),.fz (.str e.z)]=true/\(nB (qs.map fun q=>isK (kE q)) (qs.map fun q=>.int q.l) (isK (kE e))).isSome=true then _ else none)=_
   rw[Qi ⟨rfl,by rw[zZc he nd];rfl⟩]
   rw[zWb (p:=fun a => !yB a e) (zZW he nd),zVx (p:=fun a => !yB a e) (zZW he nd)]
   rfl
 rw[q]
 rfl
theorem zZF (val:Nat->Int):∀k i,i<=k->val i<=wK val k
 | 0,i,h=>by cases (Nat.le_zero.mp h);exact Int.le_refl _
 | k+1,i,h=>by
   unfold wK
   by_cases e:i=k+1
   · subst e;split<;>lia
   · have:=zZF val k i (by lia)
     split<;>lia
theorem zTo {l:List Int}{x:Int}(h:x∈l):x<=mF l:=by
 obtain⟨i,hi,rfl⟩:=List.getElem_of_mem h
 have:=zZF (fun i=>l.getD i 0) (l.length - 1) i (by lia)
 simpa [hi,mF] using this
theorem zVP:∀(h:Nat) (x:It h),∀e∈uT h x,e.l<=most h x
 | 0,x,e,he=>by
   have he:e∈[x]:=he
   rw[Wq] at he
   rw[he];exact Int.le_refl _
 | h+1,xs,e,he=>by
   obtain⟨y,hy,he⟩:=Eb.mp he
   exact Int.le_trans (zVP h y e he) (zTo (Yf hy))
theorem zPo {es:List Et}{i:Nat}(h:i < es.length):atD (.lst (es.map dE)) (.int (0+(i:Int)))=some (dE es[i]):=by
 show atI (es.map dE) (0+(i:Int))=_
 rw[mK _ _ .non (by lia) (by rw[Qu];lia)]
 have:(0+(i:Int)).toNat=i:=by lia
 rw[this]
 simp[h]
theorem oN (es:List Et)(hl:es.length<=1000):yQ [.lst (es.map dE),.lst (es.map dE)]=some (.bl true):=by
 show(uZ [.fz (.lst (es.map dE)),.fz (.lst (es.map dE)),.no,.no]).bind vV=_
 unfold uZ
 refine oS ?_ ?_
 · have e1:eB2 kD (vH (eV 0)) (vH (eV 1)) [.fz (.lst (es.map dE)),.fz (.lst (es.map dE)),.no,.no]=some false:=by
     show some (!(((es.map dE).length:Int)==((es.map dE).length:Int)))=_
     simp
   show lU (yD (tB1 (zYw eG (eV 0)))) (eB2 kD (vH (eV 0)) (vH (eV 1))) [.fz (.lst (es.map dE)),.fz (.lst (es.map dE)),.no,.no]=_
   exact e1
 · unfold sC
   obtain⟨ρ',e,x2,x3,rfl⟩:=cY (g:=gN 2) (body:=wR) (P:=fun ρ=>∃x2 x3,ρ=[.fz (.lst (es.map dE)),.fz (.lst (es.map dE)),x2,x3]) (sI 0 es.length) (fun d hd ρ hρ=>by
       obtain⟨i,hi,rfl⟩:=bD hd
       obtain⟨x2,x3,rfl⟩:=hρ
       refine⟨_,[.fz (.lst (es.map dE)),.fz (.lst (es.map dE)),.fz (.int (0+(i:Int))),.fz (dE es[i])],rfl,?_,_,_,rfl⟩
       show wR [.fz (.lst (es.map dE)),.fz (.lst (es.map dE)),.fz (.int (0+(i:Int))),x3]=_
       unfold wR
       rw[zXH (d:=dE es[i]) ((vI (x:=.lst (es.map dE)) (y:=.int (0+(i:Int))) rfl rfl).trans (zPo hi))]
       show vN [.fz (.lst (es.map dE)),.fz (.lst (es.map dE)),.fz (.int (0+(i:Int))),.fz (dE es[i])]=_
       unfold vN
       rw[sZ (ρ':=[.fz (.lst (es.map dE)),.fz (.lst (es.map dE)),.fz (.int (0+(i:Int))),.fz (dE es[i])]) ((lS (b:=false) rfl).trans rfl)]
       unfold pB
       refine(lS (b:=false) ?_).trans rfl
       have q:eB2 kD (eV 3) (eIx (eV 1) (eV 2)) [.fz (.lst (es.map dE)),.fz (.lst (es.map dE)),.fz (.int (0+(i:Int))),.fz (dE es[i])]=some false:=by
         unfold eB2
         rw[(vI (x:=.lst (es.map dE)) (y:=.int (0+(i:Int))) rfl rfl).trans (zPo hi)]
         show kD (dE es[i]) (dE es[i])=_
         rw[zQt,uO.mpr rfl];rfl
       exact q) [.fz (.lst (es.map dE)),.fz (.lst (es.map dE)),.no,.no] ⟨_,_,rfl⟩
   refine xU (ρ':=[.fz (.lst (es.map dE)),.fz (.lst (es.map dE)),x2,x3]) ?_ rfl
   unfold lQ
   have src:iR (vH (eV 1)) [.fz (.lst (es.map dE)),.fz (.lst (es.map dE)),.no,.no]=some (sI 0 es.length):=by
     show(if decide (-1000000<=((es.map dE).length:Int))&&decide (((es.map dE).length:Int)<=1000000) then some (sI 0 ((es.map dE).length:Int).toNat) else none)=_
     rw[Qu,Qz (by lia),Qz (by lia)]
     rfl
   rw[src,Qw]
   exact e
def zVe (h:Nat)(x:List (It h)):D:=.tup [dE (zA (h+1) x),.int (most (h+1) x),shD h x]
theorem zZJ (val:Nat->Int):∀k,∃i,i<=k/\wK val k=val i
 | 0=>⟨0,Qp _,rfl⟩
 | k+1=>by
   obtain⟨i,hi,e⟩:=zZJ val k
   unfold wK
   split
   · exact⟨k+1,Qp _,rfl⟩
   · exact⟨i,by lia,e⟩
theorem zVd {l:List Int}(h:0 < l.length):mF l∈l:=by
 obtain⟨i,hi,e⟩:=zZJ (fun i=>l.getD i 0) (l.length - 1)
 have hl:i < l.length:=by lia
 unfold mF
 rw[e]
 simp[hl]
theorem zXI {n:Nat}(hn:4<=n):∀(h:Nat) (x:It h),wC n h x->∃e∈uT h x,e.l=most h x
 | 0,x,_=>⟨x,Wq.mpr rfl,rfl⟩
 | h+1,xs,H=>by
   obtain⟨c1,c2,c3⟩:=yJ H
   obtain⟨y,hy,e⟩:=Tt.mp (zVd (l:=List.map (most h) xs) (by rw[Qu];lia))
   obtain⟨a,ha,ea⟩:=zXI hn h y (c3 y hy)
   exact⟨a,Eb.mpr ⟨y,hy,ha⟩,ea.trans e⟩
theorem zRI {g:Lf}{ρ:List B}{l:List Int}{v:Int}(h:g ρ=some (l.map .int))(hv:v∈l)(ha:∀x∈l,x<=v):zXY g ρ=some (.int v):=by
 have h0:0 < l.length:=List.length_pos_of_mem hv
 have hb:eR l=v:=by
   obtain⟨h1,h2⟩:=argBest_gt (fun i=>l.getD i 0) (l.length - 1)
   obtain⟨j,hj,ej⟩:=List.getElem_of_mem hv
   have gm:∀i,i < l.length->l.getD i 0∈l:=fun i hi=>by simp[hi]
   have m1:eR l<=v:=by
     refine ha _ ?_
     unfold eR
     have:argBest (fun i j=>decide (l.getD i 0 > l.getD j 0)) (l.length - 1) < l.length:=by lia
     exact gm _ this
   have m2:v<=eR l:=by
     have:=h2 j (by lia)
     have e:l.getD j 0=v:=by rw[←ej];simp[hj]
     rw[←e]
     exact this
   lia
 unfold zXY
 rw[h,Qw,fQ,Qw,Qi h0,hb]
theorem zXz {n h:Nat}(hn:4<=n){t:B}{self:List D->Option D}:∀(xs:List (It (h+1))) (acc:List Et) (x2 x3 x4 x5:B),(∀x∈xs,wC n (h+1) x/\(zS h x).length<=50000/\self [shD h x]=some (.lst ((zS h x).map dE)))->acc.length+(zS (h+1) xs).length<=50000 ->
   ∃y2 y3 y4 y5,lW (gT (zD (gN 2) (zD (gN 3) (zD (gN 4) wE)))) (tI self) (xs.map (zVe h)) [t,.fz (.lst (acc.map dE)),x2,x3,x4,x5]=some (.nx [t,.fz (.lst ((acc++zS (h+1) xs).map dE)),y2,y3,y4,y5])
 | [],acc,x2,x3,x4,x5,_,_=>⟨x2,x3,x4,x5,by simp[lW]⟩
 | x::r,acc,x2,x3,x4,x5,hx,hl=>by
   rw[wO,Qr] at hl
   obtain⟨F,hx0,hx1⟩:=hx x Qb
   obtain⟨c1,c2,c3⟩:=yJ F
   obtain⟨tl,ht⟩:=fJ (n:=n) (by lia) (h+1) x F
   have h2:2^(h+1)<=(uT (h+1) x).length:=iV hn (h+1) x F
   have h3:2<=(uT (h+1) x).length:=Wu (by have:=Nat.one_le_two_pow (n:=h);rw[Nat.pow_succ];lia) h2
   have hE:zS h x=uT (h+1) x:=rfl
   rw[hE] at hx0 hx1
   obtain⟨y2,y3,y4,y5,e2⟩:=zXz hn (t:=t) (self:=self) r (acc++uT (h+1) x) (.fz (dE (zA (h+1) x))) (.fz (.int (most (h+1) x))) (.fz (shD h x)) (.fz (.lst ((uT (h+1) x).map dE))) (fun z hz=>hx z (Qj _ hz)) (by rw[Qr];lia)
   refine⟨y2,y3,y4,y5,?_⟩
   rw[Ql,oB (ρ1:=[t,.fz (.lst (acc.map dE)),.fz (dE (zA (h+1) x)),.fz (.int (most (h+1) x)),.fz (shD h x),x5]) (ρ2:=[t,.fz (.lst ((acc++uT (h+1) x).map dE)),.fz (dE (zA (h+1) x)),.fz (.int (most (h+1) x)),.fz (shD h x),.fz (.lst ((uT (h+1) x).map dE))]) rfl ?_,e2,wO,Qm]
   obtain⟨me,hme,eme⟩:=zXI hn (h+1) x F
   have mge:=zVP (h+1) x
   generalize hEE:uT (h+1) x=E at ht h3 hx0 hx1 hme mge hl
   generalize most (h+1) x=mo at eme mge
   unfold tI
   rw[zXH ((tT rfl).trans hx1)]
   unfold pI
   show zC _ _ [t,.fz (.lst (acc.map dE)),.fz (dE (zA (h+1) x)),.fz (.int mo),.fz (shD h x),.fz (.lst (E.map dE))]=_
   rw[sZ (ρ':=[t,.fz (.lst (acc.map dE)),.fz (dE (zA (h+1) x)),.fz (.int mo),.fz (shD h x),.fz (.lst (E.map dE))]) ((lS (b:=false) (by
     refine orT (a:=false) (b:=false) ?_ (orT (a:=false) (b:=false) ?_ ?_)
     · show(if (E.map dE).length=([]:List D).length then _ else some false)=_
       rw[Qa (by rw[Qu];show ¬E.length=0;lia)]
     · show(if (E.map dE).length=([.non]:List D).length then _ else some false)=_
       rw[Qa (by rw[Qu];show ¬E.length=1;lia)]
     · unfold yD tB1
       rw[vJ (y:=.lst ([zA (h+1) x].map dE)) (xB (wN (zR rfl rfl) (by simp))) (xB (by
         rw[jA (f:=dE) (xs:=E) (k:=1) rfl rfl (by lia),ht]
         rfl))]
       rw[show yQ [.lst [dE (zA (h+1) x)],.lst ([zA (h+1) x].map dE)]=_ from oN [zA (h+1) x] (by simp)]
       rfl)).trans rfl)]
   unfold pV
   rw[sZ (ρ':=[t,.fz (.lst (acc.map dE)),.fz (dE (zA (h+1) x)),.fz (.int mo),.fz (shD h x),.fz (.lst (E.map dE))]) ((lS (b:=false) (by
     refine orT (a:=false) (b:=false) rfl ?_
     unfold eB2
     rw[zRI (l:=E.map (·.l)) (v:=mo) (by
       rw[dN (f:=dE) (g:=fun e=>.int e.l) (l:=E) rfl (by lia) (fun a _=>rfl),Rp];rfl) (Tt.mpr ⟨me,hme,eme⟩) (fun z hz=>by
         obtain⟨a,ha,rfl⟩:=Tt.mp hz
         exact mge a ha)]
     show(some (mo==mo)).map _=_
     simp)).trans rfl)]
   unfold kG yO
   rw[xB (gH (d:=dE) (xs:=acc) (ys:=E) (gY rfl) (gY rfl) (by lia))]
   rfl
theorem zVR {n:Nat}(hn:4<=n):∀(h:Nat) (xs:List (It h)) (k:Nat),Way n h xs->(zS h xs).length<=50000->h < k->w6 k [shD h xs]=some (.lst ((zS h xs).map dE))
 | 0,xs,k+1,H,_,_=>by
   show(vO (w6 k) [.fz (shD 0 xs),.no,.no,.no,.no,.no]).bind vV=_
   unfold vO
   refine qC rfl ?_
   rw[uS]
   exact xB rfl
 | h+1,xs,k+1,H,hl,hk=>by
   show(vO (w6 k) [.fz (shD (h+1) xs),.no,.no,.no,.no,.no]).bind vV=_
   unfold vO
   refine oS rfl ?_
   unfold oF
   refine yS (d:=.lst []) (xB (wN rfl (by decide))) ?_
   unfold oC
   obtain⟨y2,y3,y4,y5,e⟩:=zXz hn (t:=.fz (shD (h+1) xs)) (self:=w6 k) xs [] .no .no .no .no (fun x hx=>by
     obtain⟨c1,c2,c3⟩:=yJ (H.2.2 x hx)
     have hxl:(zS h x).length<=(zS (h+1) xs).length:=(qU (f:=uT (h+1)) hx).length_le
     exact⟨H.2.2 x hx,by lia,zVR hn h x k ⟨c2,.inr (by lia),c3⟩ (by lia) (by lia)⟩) (by simp only[Od];lia)
   refine xU (ρ':=[.fz (shD (h+1) xs),.fz (.lst ((zS (h+1) xs).map dE)),y2,y3,y4,y5]) ?_ rfl
   unfold lQ
   rw[gY (f:=eIx (eV 0) (eC (.int 1))) (xs:=xs.map (zVe h)) rfl,Qw]
   exact e
theorem zV4:∀es:List Et,qF (es.map dE)=true
 | []=>rfl
 | e::r=>by
   show(fE (dE e)&&qF (r.map dE))=true
   rw[zV4 r];rfl
theorem zZg {f:Ef}{ρ:List B}{d:D}(h:f ρ=some d)(hf:fE d=true):aR f ρ=some d:=by
 unfold aR
 rw[h,Qw,Qi hf]
theorem aF {n:Nat}(hn:4<=n)(h12:n<=300):∀(h:Nat) (xs:List (It h)) (k:Nat),Way n h xs->h < k->xF k [pgD h xs]=some (shD h xs)
 | 0,xs,k+1,H,_=>by
   show uL (xF k) [.fz (pgD 0 xs)]=_
   unfold uL eIf
   have t1:tB1 (yY "Page" "leaf" (eV 0)) [.fz (pgD 0 xs)]=some true:=by
     unfold tB1
     rw[wT (h:=0) (xs:=xs) rfl];rfl
   rw[t1,Qw,Qi rfl]
   refine tV (zR (zZg rfl rfl) (zR (d:=.lst (xs.map dE)) ?_ rfl)) (by simp)
   unfold zRf nH
   rw[yV (h:=0) (xs:=xs) rfl]
   show(if qF (xs.map dE)=true then some (D.lst (xs.map dE)) else none)=_
   rw[Qi (zV4 xs)]
 | h+1,xs,k+1,H,hk=>by
   show uL (xF k) [.fz (pgD (h+1) xs)]=_
   unfold uL eIf
   have t1:tB1 (yY "Page" "leaf" (eV 0)) [.fz (pgD (h+1) xs)]=some false:=by
     unfold tB1
     rw[wT (h:=h+1) (xs:=xs) rfl];rfl
   rw[t1,Qw,Qa (by decide)]
   have hl:=H.1
   refine tV (zR (zZg rfl rfl) (zR (xB ?_) rfl)) (by simp)
   unfold yC zZV
   rw[oI (h:=h+1) (xs:=xs) rfl,yV (h:=h+1) (xs:=xs) rfl]
   show((some (nX (xs.map fun x=>dE (zA (h+1) x)) (xs.map (iD (h+1))))).bind okL).bind _=_
   rw[Qw,tN (by rw[oW];lia),Qw]
   have:=bK (elt:=wD (zY (aR (eV 0)) (zY (aR (yY "Page" "most" (eV 1))) (zY (zL 1 (xF k) (zY (eV 1) zN)) zN)))) (f:=fun x=>dE (zA (h+1) x)) (g:=iD (h+1)) (h:=fun x=>.tup [dE (zA (h+1) x),.int (most (h+1) x),shD h x]) xs .no .no [] fun x hx=>by
     obtain⟨c1,c2,c3⟩:=yJ (H.2.2 x hx)
     refine tV (zR (zZg rfl rfl) (zR (d:=.int (most (h+1) x)) (zZg ?_ rfl) (zR ((tT rfl).trans (aF hn h12 h x k ⟨c2,.inr (by lia),c3⟩ (by lia))) rfl))) (by simp)
     rw[cX (h:=h) (xs:=x) rfl,cW (by lia)]
   exact this
theorem zY6 {n:Nat}(hn:4<=n)(h12:n<=300){h:Nat}{xs:List (It h)}(H:RtOk n h xs)(hl:(zS h xs).length < 500):w9 [stD n ⟨h,xs⟩]=some (shD h xs):=by
 have hd:=H.deep hn (by lia)
 show zL 1 (xF 8) (zY (yY "Store" "root" (eV 0)) zN) [.fz (stD n ⟨h,xs⟩)]=_
 exact(tT (zSU (n:=n) (r:=⟨h,xs⟩) rfl)).trans (aF hn h12 h xs 8 H.way (by lia))
theorem zVF {n:Nat}(hn:4<=n):∀(h:Nat) (xs:List (It h)) (k:Nat),Way n h xs->h < k->∃es:List Et,iN wH (dIx 2 (dIx 0 (dIx 1 some))) k (shD h xs)=some (.tup [.str "leaf",.lst (es.map dE)])
 | 0,xs,k+1,_,_=>⟨xs,by
   unfold iN
   have t:wH [.fz (shD 0 xs)]=some false:=rfl
   rw[t];rfl⟩
 | h+1,xs,k+1,H,hk=>by
   have h0:0 < xs.length:=by rcases H.2.1 with z | z;cases z;exact z
   obtain⟨x,r,rfl⟩:∃x r,xs=x::r:=by
     cases xs with
     | nil=>simp at h0
     | cons x r=>exact⟨x,r,rfl⟩
   obtain⟨c1,c2,c3⟩:=yJ (H.2.2 x Qb)
   obtain⟨es,e⟩:=zVF hn h x k ⟨c2,.inr (by lia),c3⟩ (by lia)
   refine⟨es,?_⟩
   unfold iN
   have t:wH [.fz (shD (h+1) (x::r))]=some true:=rfl
   have s0:atS 0 (.lst ((x::r).map (zVe h)))=some (zVe h x):=gK (zVe h)
   have s1:dIx 2 (dIx 0 (dIx 1 some)) (shD (h+1) (x::r))=some (shD h x):=by
     show(atS 0 (.lst ((x::r).map (zVe h)))).bind (atS 2)=_
     rw[s0];rfl
   rw[t,Qw,Qi rfl,s1,Qw]
   exact e
theorem zTk {n:Nat}(hn:4<=n){h:Nat}{xs:List (It h)}(H:Way n h xs)(hh:h < 9):zZA (dIx 1 (eY some yT)) (shD h xs)=true:=by
 obtain⟨es,e⟩:=zVF hn h xs 9 H hh
 have e2:dIx 1 (eY some yT) (shD h xs)=some (.lst (es.map dE)):=by
   show((some (shD h xs)).bind yT).bind (atS 1)=_
   rw[Qw,show yT (shD h xs)=_ from e]
   rfl
 unfold zZA
 rw[e2]
 cases h<;>rfl
theorem zWd (ns:List Int)(k:Nat):∃c:Int,qX [.lst (ns.map D.int),.int (k:Nat)]=some (.int c):=by
 have hl:(ns.map D.int).length=ns.length:=by simp
 have t1:eB2 gLt (eV 1) (vH (eV 0)) [.fz (.lst (ns.map D.int)),.fz (.int (k:Nat))]=some (decide ((k:Int) < (ns.length:Nat))):=by rw[←hl];rfl
 by_cases h:(k:Int) < (ns.length:Nat)
 · refine⟨ns.getD k 0,?_⟩
   show(vT [.fz (.lst (ns.map D.int)),.fz (.int (k:Nat))]).bind vV=_
   unfold vT
   rw[zVA (d:=.int (ns.getD k 0)) (by
     unfold sIf
     rw[t1,Qz h,Qw,Qi rfl]
     unfold xT eIx
     show((atI (ns.map D.int) (k:Int))).map Out.rt=_
     rw[zYG,mK ns (k:Int) 0 (by lia) h];rfl)]
   rfl
 · refine⟨0,?_⟩
   show(vT [.fz (.lst (ns.map D.int)),.fz (.int (k:Nat))]).bind vV=_
   unfold vT
   exact oS (by rw[t1,Ww h]) rfl
theorem bP {i k:Nat}{ρ:List B}{d:D}(h:ρ[i]?=some (.mu d))(hk:gZ d=k)(ho:rY i k ρ=true):cA i k ρ=some (ρ.set i (.fz d)):=by
 unfold cA
 rw[h]
 exact Qi ⟨hk,ho⟩
theorem zSR {i k:Nat}{ρ:List B}{d:D}{t:Tf}(h:ρ[i]?=some (.mu d))(hk:gZ d=k)(ho:rY i k ρ=true):fW i k t ρ=t (ρ.set i (.fz d)):=by
 unfold fW
 rw[bP h hk ho];rfl
theorem aY {α:Type}{f:α->D}:∀(es:List α),(∀e∈es,mU (f e)=true)->mR (es.map f)=true
 | [],_=>rfl
 | e::r,hf=>by
   show(mU (f e)&&mR (r.map f))=true
   rw[aY r fun q hq=>hf q (Qj _ hq),hf e Qb];rfl
theorem iQ {i k:Nat}{ρ:List B}{d r:D}{f:Ef}(h:ρ[i]?=some (.mu d))(hk:gZ d=k)(ho:rY i k ρ=true)(hf:f (ρ.set i (.fz d))=some r)(hr:mU r=true):rE i k f ρ=some r:=by
 unfold rE
 rw[bP h hk ho,Qw,hf,Qw,Qi hr]
def hD (r:Rt):D:=.tup [shD r.1 r.2,.lst ((zS r.1 r.2).map dE)]
abbrev Q (a0 a1:D)(hs:List Rt)(n:Nat)(r:Rt)(qs:List Et)(k:Int)(x6 x7 x8 x9:B):List B:=[.fz a0,.fz a1,.ow (hs.map hD),.mu (stD n r),.mu (ktD qs),.fz (.int k),x6,x7,x8,x9]
section
variable {a0 a1 d:D} {n:Nat} {r r':Rt} {qs qs':List Et} {hs:List Rt} {k:Int} {x6 x8 x9:B}
theorem zTO (h1:wB (stD n r) [d]=some (stD n r'))(h3:uQ (ktD qs) [d]=some (ktD qs')):zC (rT 3 1 wB (zY (eV 7) zN)) (rT 4 1 uQ (zY (eV 7) zN)) (Q a0 a1 hs n r qs k x6 (.fz d) x8 x9)=some (.nx (Q a0 a1 hs n r' qs' k x6 (.fz d) x8 x9)):=by
 have c1:rT 3 1 wB (zY (eV 7) zN) (Q a0 a1 hs n r qs k x6 (.fz d) x8 x9)=some (.nx (Q a0 a1 hs n r' qs k x6 (.fz d) x8 x9)):=by
   unfold rT
   show(if ([d]:List D).length=1/\true=true then(wB (stD n r) [d]).map _ else none)=_
   rw[Qi ⟨rfl,rfl⟩,h1]
   rfl
 rw[sZ c1]
 unfold rT
 show(if ([d]:List D).length=1/\true=true then(uQ (ktD qs) [d]).map _ else none)=_
 rw[Qi ⟨rfl,rfl⟩,h3]
 rfl
theorem zVw {e:Et}{b:Bool}{w:Str}(hd:d = .tup [.str w,dE e])(hb:decide (w=("take":Str))=b):fW 4 2 (lU (eB2 gEq (eIx (eV 7) (eC (.int 0))) (eC (.str "take"))) (zUb false (wD (zY (eIx (eIx (eV 7) (eC (.int 1))) (eC (.int 0))) (zY (eIx (eIx (eV 7) (eC (.int 1))) (eC (.int 2))) zN))) (eV 4))) (Q a0 a1 hs n r qs k x6 (.fz d) x8 x9)=some (b||((nB (qs.map fun q=>isK (kE q)) (qs.map fun q=>.int q.l) (isK (kE e))).isSome==false)):=by
 subst hd
 rw[zSR (k:=2) (d:=ktD qs) rfl rfl rfl]
 exact orT (by rw[←hb];rfl) rfl
end
section
variable {a0 a1:D} {n:Nat} {hs:List Rt} {k:Int} {x6 x8 x9:B} (hn:4<=n) (hn1:n<=300)
include hn hn1
theorem zYU:∀(l:List Et) (h:Nat) (xs:List (It h)) (qs:List Et) (x7:B),RtOk n h xs->Kp (zS h xs) qs->qs.length+l.length < 500 ->
   ∃h' xs' qs' y7,RtOk n h' xs'/\Kp (zS h' xs') qs'/\qs'.length<=qs.length+l.length/\lW (gN 7) oR (l.map sF) (Q a0 a1 hs n ⟨h,xs⟩ qs k x6 x7 x8 x9)=some (.nx (Q a0 a1 hs n ⟨h',xs'⟩ qs' k x6 y7 x8 x9))
 | [],h,xs,qs,x7,H,K,_=>⟨h,xs,qs,x7,H,K,Qp _,rfl⟩
 | e::l,h,xs,qs,x7,H,K,hl=>by
   rw[Qs] at hl
   rw[Ql]
   have ht:=zVw (a0:=a0) (a1:=a1) (n:=n) (r:=⟨h,xs⟩) (qs:=qs) (hs:=hs) (k:=k) (x6:=x6) (x8:=x8) (x9:=x9) (d:=sF e) (e:=e) (b:=false) rfl (by decide +kernel)
   by_cases hk:∃z∈qs,kE z=kE e
   · obtain⟨z,hq1,hq2⟩:=hk
     rw[←hq2,zZc hq1 K.nd] at ht
     obtain⟨h',xs',qs',y7,H',K',hl',e'⟩:=zYU l h xs qs (.fz (sF e)) H K (by lia)
     refine⟨h',xs',qs',y7,H',K',by rw[Qs];lia,?_⟩
     rw[oB (ρ1:=Q a0 a1 hs n ⟨h,xs⟩ qs k x6 (.fz (sF e)) x8 x9) (ρ2:=Q a0 a1 hs n ⟨h,xs⟩ qs k x6 (.fz (sF e)) x8 x9) rfl ?_]
     · exact e'
     · unfold oR
       exact(lS ht).trans rfl
   · have hk':∀z∈qs,kE z≠kE e:=fun z hz u=>hk ⟨z,hz,u⟩
     rw[zWL hk'] at ht
     obtain⟨h1,xs1,H1,K1,d1⟩:=zTp hn hn1 H K (by lia) e hk'
     obtain⟨h',xs',qs',y7,H',K',hl',e'⟩:=zYU l h1 xs1 (qs++[e]) (.fz (sF e)) H1 K1 (by rw[Qr];simp;lia)
     rw[Qr] at hl'
     refine⟨h',xs',qs',y7,H',K',by simp at hl';rw[Qs];lia,?_⟩
     rw[oB (ρ1:=Q a0 a1 hs n ⟨h,xs⟩ qs k x6 (.fz (sF e)) x8 x9) (ρ2:=Q a0 a1 hs n ⟨h1,xs1⟩ (qs++[e]) k x6 (.fz (sF e)) x8 x9) rfl ?_]
     · exact e'
     · unfold oR
       refine(lS ht).trans ?_
       rw[Qi (by decide)]
       exact zTO d1 (zU4 e hk' (by lia))
theorem zXP:∀(l:List Et) (h:Nat) (xs:List (It h)) (qs:List Et) (x7:B),RtOk n h xs->Kp (zS h xs) qs->qs.length < 500->l.Nodup->(∀e∈l,e∈qs) ->
   ∃h' xs' qs' y7,RtOk n h' xs'/\Kp (zS h' xs') qs'/\qs'.length<=qs.length/\lW (gN 7) oR (l.map rO) (Q a0 a1 hs n ⟨h,xs⟩ qs k x6 x7 x8 x9)=some (.nx (Q a0 a1 hs n ⟨h',xs'⟩ qs' k x6 y7 x8 x9))
 | [],h,xs,qs,x7,H,K,_,_,_=>⟨h,xs,qs,x7,H,K,Qp _,rfl⟩
 | e::l,h,xs,qs,x7,H,K,hl,nd,hme=>by
   obtain⟨nd1,nd2⟩:=Rw.mp nd
   rw[Ql]
   have ht:=zVw (a0:=a0) (a1:=a1) (n:=n) (r:=⟨h,xs⟩) (qs:=qs) (hs:=hs) (k:=k) (x6:=x6) (x8:=x8) (x9:=x9) (d:=rO e) (e:=e) (b:=true) rfl (by decide +kernel)
   have he:=hme e Qb
   obtain⟨h1,xs1,H1,K1,d1⟩:=zU5 hn hn1 H K hl e he
   have hfl:=Tw (fun a:Et => !yB a e) qs
   obtain⟨h',xs',qs',y7,H',K',hl',e'⟩:=zXP l h1 xs1 _ (.fz (rO e)) H1 K1 (by lia) nd2 fun a ha=>Yp.mpr ⟨hme a (Qj _ ha),by
     cases z:yB a e
     · rfl
     · rw[uO.mp z] at ha;exact absurd ha nd1⟩
   refine⟨h',xs',qs',y7,H',K',by lia,?_⟩
   rw[oB (ρ1:=Q a0 a1 hs n ⟨h,xs⟩ qs k x6 (.fz (rO e)) x8 x9) (ρ2:=Q a0 a1 hs n ⟨h1,xs1⟩ (qs.filter fun a => !yB a e) k x6 (.fz (rO e)) x8 x9) rfl ?_]
   · exact e'
   · unfold oR
     refine(lS ht).trans ?_
     rw[Bool.true_or,Qi rfl]
     exact zTO d1 (zUK e he K.nd)
end
def bM (r:Rt):Prop:=∃n,4<=n/\Way n r.1 r.2/\(zS r.1 r.2).length<=900/\r.1 < 8
theorem gL {r:Rt}(h:bM r):wP [shD r.1 r.2]=some (.lst ((zS r.1 r.2).map dE)):=by
 obtain⟨n,hn,H,hl,hd⟩:=h
 exact zVR hn r.1 r.2 8 H (by lia) hd
section
variable {a0 a1:D} {n:Nat} {hs:List Rt} {k:Int} {x6 x7 x8 x9:B} (hn:4<=n) (hn1:n<=300)
include hn hn1
theorem zVN {h:Nat}{xs:List (It h)}{qs:List Et}(H:RtOk n h xs)(K:Kp (zS h xs) qs)(hl:qs.length < 490)(hh:hs.length < 1000)(hhd:∀r∈hs,bM r):∃(hs':List Rt) (y8 y9:B),(∀r∈hs',bM r)/\hs'.length<=hs.length+1/\cO (Q a0 a1 hs n ⟨h,xs⟩ qs k x6 x7 x8 x9)=some (.nx (Q a0 a1 hs' n ⟨h,xs⟩ qs k x6 x7 y8 y9)):=by
 have l1:=K.pm.length_eq
 have hd:=H.deep hn (by lia)
 have e1:=zWH K (by lia)
 have HH:bM ⟨h,xs⟩:=⟨n,hn,H.way,by show(zS h xs).length<=900;lia,by show h < 8;lia⟩
 have fl:=gL HH
 have en:=oN (zS h xs) (by lia)
 have fle:mR ((zS h xs).map dE)=true:=aY _ fun _ _=>rfl
 have s1:cK 3 1 (kF "Store" "shape" 1 w9 (eV 3) zN) (Q a0 a1 hs n ⟨h,xs⟩ qs k x6 x7 x8 x9)=some (shD h xs):=by
   unfold cK
   rw[bP (k:=1) (d:=stD n ⟨h,xs⟩) rfl rfl rfl,Qw]
   unfold kF
   show(if ("Store":Str)="Store"/\([]:List D).length+1=1/\("shape":Str)∉stN then w9 [stD n ⟨h,xs⟩] else none)=_
   rw[Qi ⟨rfl,rfl,by decide +kernel⟩,zY6 hn hn1 H (by lia)]
 have s2:rE 4 2 (zL 1 tR (zY (eV 4) zN)) (Q a0 a1 hs n ⟨h,xs⟩ qs k x6 x7 .no x9)=some (.lst ((zS h xs).map dE)):=iQ (k:=2) (d:=ktD qs) rfl rfl rfl ((tT rfl).trans e1) fle
 have s3:yD (tB1 (zL 2 yQ (zY (zL 1 wP (zY (eV 8) zN)) (zY (eV 9) zN)))) (Q a0 a1 hs n ⟨h,xs⟩ qs k x6 x7 (.fz (shD h xs)) (.fz (.lst ((zS h xs).map dE))))=some false:=by
   unfold yD tB1
   rw[(vJ ((tT rfl).trans fl) rfl).trans en]
   rfl
 unfold cO zWl
 rw[Qi (show 8 < (Q a0 a1 hs n ⟨h,xs⟩ qs k x6 x7 x8 x9).length from(show 8 < 10 by decide)),s1,Qw]
 show ∃(hs':List Rt) (y8 y9:B),(∀r∈hs',bM r)/\hs'.length<=hs.length+1/\zTf 9 (rE 4 2 (zL 1 tR (zY (eV 4) zN))) (hIf 8 (yD (tB1 (zL 2 yQ (zY (zL 1 wP (zY (eV 8) zN)) (zY (eV 9) zN))))) (xT (eC (.bl false))) (zZ5 8 (eB2 gEq (yA (eV 5) (eC (.int 8))) (eC (.int 5))) (zUV 2 (wD (zY (eV 8) (zY (eV 9) zN)))) (zTl (dIx 1 (eY some yT))))) (shD h xs) (Q a0 a1 hs n ⟨h,xs⟩ qs k x6 x7 .no x9)=_
 unfold zTf
 rw[s2,Qw]
 show ∃(hs':List Rt) (y8 y9:B),(∀r∈hs',bM r)/\hs'.length<=hs.length+1/\hIf 8 (yD (tB1 (zL 2 yQ (zY (zL 1 wP (zY (eV 8) zN)) (zY (eV 9) zN))))) (xT (eC (.bl false))) (zZ5 8 (eB2 gEq (yA (eV 5) (eC (.int 8))) (eC (.int 5))) (zUV 2 (wD (zY (eV 8) (zY (eV 9) zN)))) (zTl (dIx 1 (eY some yT)))) (shD h xs) (Q a0 a1 hs n ⟨h,xs⟩ qs k x6 x7 .no (.fz (.lst ((zS h xs).map dE))))=_
 unfold hIf
 show ∃(hs':List Rt) (y8 y9:B),(∀r∈hs',bM r)/\hs'.length<=hs.length+1/\(yD (tB1 (zL 2 yQ (zY (zL 1 wP (zY (eV 8) zN)) (zY (eV 9) zN)))) (Q a0 a1 hs n ⟨h,xs⟩ qs k x6 x7 (.fz (shD h xs)) (.fz (.lst ((zS h xs).map dE))))).bind _=_
 rw[s3,Qw,Qa (by decide)]
 unfold zZ5
 have t4:eB2 gEq (yA (eV 5) (eC (.int 8))) (eC (.int 5)) (Q a0 a1 hs n ⟨h,xs⟩ qs k x6 x7 .no (.fz (.lst ((zS h xs).map dE))))=some (decide (k % 8=5)):=lZ (zI rfl rfl rfl)
 rw[t4,Qw]
 by_cases h5:k % 8=5
 · rw[Qi (Qz h5)]
   refine⟨hs++[⟨h,xs⟩],.fz (shD h xs),.fz (.lst ((zS h xs).map dE)),fun r hr=>?_,by simp,?_⟩
   · rcases Qn.mp hr with z | z
     · exact hhd r z
     · rw[Wq.mp z];exact HH
   · unfold zUV
     show(if (hs.map hD).length < lim then some (Out.nx [.fz a0,.fz a1,.ow (hs.map hD++[hD ⟨h,xs⟩]),.mu (stD n ⟨h,xs⟩),.mu (ktD qs),.fz (.int k),x6,x7,.fz (shD h xs),.fz (.lst ((zS h xs).map dE))]) else none)=_
     rw[Qi (by rw[Qu];show _ < 100000;lia)]
     show _=some (Out.nx [.fz a0,.fz a1,.ow ((hs++[(⟨h,xs⟩:Rt)]).map hD),.mu (stD n ⟨h,xs⟩),.mu (ktD qs),.fz (.int k),x6,x7,.fz (shD h xs),.fz (.lst ((zS h xs).map dE))])
     rw[Tu]
     rfl
 · rw[Qa (by rw[Ww h5];decide)]
   refine⟨hs,.no,.fz (.lst ((zS h xs).map dE)),hhd,by lia,?_⟩
   unfold zTl
   rw[Qi (zTk hn H.way (by lia))]
end
section
variable {a0:D} {n:Nat} {hs:List Rt} (hn:4<=n) (hn1:n<=300)
include hn hn1
theorem turn {ws:List Str}{a b:Int}(hw:ws.length=14)(ha0:0<=a)(ha1:a < 3){h:Nat}{xs:List (It h)}{qs:List Et}(H:RtOk n h xs)(K:Kp (zS h xs) qs)(hl:qs.length+5 < 490)(hh:hs.length < 1000)(hhd:∀r∈hs,bM r)(k c:Int)(k0:0<=k)(k1:k < 1000)(x7 x8 x9:B) :
   ∃(h':Nat) (xs':List (It h')) (qs':List Et) (hs':List Rt) (y6 y7 y8 y9:B),RtOk n h' xs'/\Kp (zS h' xs') qs'/\qs'.length<=qs.length+5/\(∀r∈hs',bM r)/\hs'.length<=hs.length+1/\pD (Q a0 (.tup [.lst (ws.map .str),.int a,.int b]) hs n ⟨h,xs⟩ qs k (.fz (.int c)) x7 x8 x9)=some (.nx (Q a0 (.tup [.lst (ws.map .str),.int a,.int b]) hs' n ⟨h',xs'⟩ qs' (k+1) y6 y7 y8 y9)):=by
 have c1:mT k k=true:=rA (by lia) (by lia)
 have c2:mT (k*k) 1000003=true:=zQH (by lia) (by lia)
 have hcc:uJ (eV 6) (oU (oU (eV 5) (eV 5)) (eC (.int 1000003))) (Q a0 (.tup [.lst (ws.map .str),.int a,.int b]) hs n ⟨h,xs⟩ qs k (.fz (.int c)) x7 x8 x9)=some (.int (c+k*k*1000003)):=zI rfl (zI (zI rfl rfl c1) rfl c2) rfl
 generalize c+k*k*1000003=c' at hcc
 generalize hB:D.tup [.lst (ws.map .str),.int a,.int b]=PB at hcc
 have first:∀r,lI (Q a0 PB hs n ⟨h,xs⟩ qs (k+1) (.fz (.int c')) x7 x8 x9)=r->pD (Q a0 PB hs n ⟨h,xs⟩ qs k (.fz (.int c)) x7 x8 x9)=r:=fun r hr=>by
   unfold pD
   rw[zXH hcc]
   unfold aW
   show zC _ _ (Q a0 PB hs n ⟨h,xs⟩ qs k (.fz (.int c')) x7 x8 x9)=_
   rw[zXH (d:=.int (k+1)) (zI rfl rfl rfl)]
   exact hr
 have src:∀(l:List Et) (f:Et->D),(∀e,mU (f e)=true)->vY [PB,.int c',ktD qs]=some (.lst (l.map f))->iL (rE 4 2 (zL 3 vY (zY (eV 1) (zY (eV 6) (zY (eV 4) zN))))) (Q a0 PB hs n ⟨h,xs⟩ qs (k+1) (.fz (.int c')) x7 x8 x9)=some (l.map f):=fun l f hf hd =>
   gY (iQ (k:=2) (d:=ktD qs) rfl rfl rfl ((lR rfl rfl rfl).trans hd) (aY l fun e _=>hf e))
 obtain⟨l,hd⟩:=zT2 c' hw ha0 ha1 K (by lia) (b:=b)
 rw[hB] at hd
 rcases hd with⟨hd,hl5⟩ | ⟨hd,nd,hme⟩
 · obtain⟨h',xs',qs',y7,H',K',hq,e⟩:=zYU (a0:=a0) (a1:=PB) (hs:=hs) (k:=k+1) (x6:=.fz (.int c')) (x8:=x8) (x9:=x9) hn hn1 l h xs qs x7 H K (by lia)
   obtain⟨hs',y8,y9,g1,g2,e2⟩:=zVN (a0:=a0) (a1:=PB) (hs:=hs) (k:=k+1) (x6:=.fz (.int c')) (x7:=y7) (x8:=x8) (x9:=x9) hn hn1 H' K' (by lia) hh hhd
   refine⟨h',xs',qs',hs',.fz (.int c'),y7,y8,y9,H',K',by lia,g1,g2,first _ ?_⟩
   unfold lI
   rw[sZ (by unfold lQ;rw[src l sF (fun _=>rfl) hd,Qw];exact e)]
   exact e2
 · obtain⟨h',xs',qs',y7,H',K',hq,e⟩:=zXP (a0:=a0) (a1:=PB) (hs:=hs) (k:=k+1) (x6:=.fz (.int c')) (x8:=x8) (x9:=x9) hn hn1 l h xs qs x7 H K (by lia) nd hme
   obtain⟨hs',y8,y9,g1,g2,e2⟩:=zVN (a0:=a0) (a1:=PB) (hs:=hs) (k:=k+1) (x6:=.fz (.int c')) (x7:=y7) (x8:=x8) (x9:=x9) hn hn1 H' K' (by lia) hh hhd
   refine⟨h',xs',qs',hs',.fz (.int c'),y7,y8,y9,H',K',by lia,g1,g2,first _ ?_⟩
   unfold lI
   rw[sZ (by unfold lQ;rw[src l rO (fun _=>rfl) hd,Qw];exact e)]
   exact e2
end
theorem zTu (ns:List Int)(h:ns.length<=63):zZQ [.lst (ns.map .int)]=some (.bl true):=by
 obtain⟨v0,c0⟩:=zWd ns 0
 obtain⟨v1,c1⟩:=zWd ns 1
 obtain⟨ws,a,b,hp,hw,ha0,ha1,hb0,hb1⟩:=zRx v1
 obtain⟨n,hn⟩:∃n:Nat,(n:Int)=4+v0 % 9:=⟨(4+v0 % 9).toNat,by lia⟩
 have n4:4<=n:=by lia
 have n12:n<=300:=by lia
 obtain⟨cs,hcs,hcl⟩:∃cs:List Int,dX (ns.map .int) (some 2) (some 63)=cs.map D.int/\cs.length<=ns.length:=by
   unfold dX
   refine⟨(ns.drop (HT.sIx (ns.map D.int).length 0 (some 2))).take (HT.sIx (ns.map D.int).length (ns.map D.int).length (some 63) - HT.sIx (ns.map D.int).length 0 (some 2)),by rw[Tk,Yu],?_⟩
   rw[Qh,Wi]
   lia
 generalize hA:D.lst (ns.map .int)=A at c0 c1
 generalize hB:D.tup [.lst (ws.map .str),.int a,.int b]=PB at hp
 have hsz:uJ (eC (.int 4)) (yA (zL 2 qX (zY (eV 0) (zY (eC (.int 0)) zN))) (eC (.int 9))) [.fz A,.fz PB,.ow [],.no,.no,.no,.no,.no,.no,.no]=some (.int (4+v0 % 9)):=zI rfl (zI ((vJ rfl rfl).trans c0) rfl rfl) rfl
 rw[←hn] at hsz
 obtain⟨ρ',e,hh,xs,qs,hs,y6,y7,y8,y9,H,K,hq,hhd,hhs,rfl⟩:=zYR (g:=gN 6) (body:=pD) (P:=fun i ρ=>∃(hh:Nat) (xs:List (It hh)) (qs:List Et) (hs:List Rt) (y6 y7 y8 y9:B),RtOk n hh xs/\Kp (zS hh xs) qs/\qs.length<=5*i/\(∀r∈hs,bM r)/\hs.length<=i/\ρ=Q A PB hs n ⟨hh,xs⟩ qs (i:Int) y6 y7 y8 y9) (cs.map D.int) 0 (fun i d hd ρ hρ=>by
     obtain⟨hh,xs,qs,hs,y6,y7,y8,y9,H,K,hq,hhd,hhs,rfl⟩:=hρ
     have hi:i < cs.length:=by have:=(We.mp hd).1;simpa using this
     rw[Ws] at hd
     obtain⟨c,_,rfl⟩:=Qt.mp hd
     obtain⟨h',xs',qs',hs',z6,z7,z8,z9,H',K',hq',g1,g2,e⟩:=turn (a0:=A) (hs:=hs) n4 n12 hw ha0 ha1 H K (by lia) (by lia) hhd ((0+i:Nat):Int) c (by lia) (by lia) y7 y8 y9 (b:=b)
     rw[hB] at e
     exact⟨_,_,rfl,e,h',xs',qs',hs',z6,z7,z8,z9,H',K',by lia,g1,by lia,by rw[show((0+i:Nat):Int)+1=((0+i+1:Nat):Int) by lia]⟩) (Q A PB [] n ⟨0,[]⟩ [] 0 .no .no .no .no) ⟨0,[],[],[],.no,.no,.no,.no,.nil,⟨.refl _,List.Pairwise.nil⟩,Qp _,(by intro z hz;cases hz),Qp _,rfl⟩
 rw[Qu] at hq
 have hst:bF [.int (n:Int)]=some [.int (n:Int),pgD 0 []]:=by
   show zXp [.no,.fz (.int (n:Int))]=_
   exact zR rfl (zR (lA (h:=0) (xs:=[]) rfl (xB (wN rfl (by decide))) (by decide) fun _ _=>trivial) rfl)
 show(dP [.fz A,.no,.no,.no,.no,.no,.no,.no,.no,.no]).bind vV=_
 unfold dP
 refine yS (d:=PB) ((tT ((vJ rfl rfl).trans c1)).trans hp) ?_
 unfold zZe
 refine xU (ρ':=[.fz A,.fz PB,.ow [],.no,.no,.no,.no,.no,.no,.no]) ?_ ?_
 · unfold kB
   rw[wN (show zN _=some [] from rfl) (by decide)]
   rfl
 unfold zYK
 refine xU (ρ':=[.fz A,.fz PB,.ow [],.mu (stD n ⟨0,[]⟩),.no,.no,.no,.no,.no,.no]) ?_ ?_
 · unfold zZy
   show(zY _ zN [.fz A,.fz PB,.ow [],.no,.no,.no,.no,.no,.no,.no]).bind _=_
   rw[zR hsz (show zN _=some [] from rfl),Qw,Qi (show([.int (n:Int)]:List D).length=1 from rfl),hst,Qw,Qi (show(["size","root"]:List Str).length=([.int (n:Int),pgD 0 []]:List D).length from rfl)]
   rfl
 unfold zZd
 refine xU (ρ':=[.fz A,.fz PB,.ow [],.mu (stD n ⟨0,[]⟩),.mu (ktD []),.no,.no,.no,.no,.no]) rfl ?_
 unfold zYY
 refine yS (d:=.int 0) rfl ?_
 unfold zYF
 refine xU (ρ':=Q A PB hs n ⟨hh,xs⟩ qs ((0+(cs.map D.int).length:Nat):Int) y6 y7 y8 y9) ?_ ?_
 · unfold lQ
   have src:xJ (eV 0) (xN (eC (.int 2))) (xN (eC (.int 63))) (Q A PB [] n ⟨0,[]⟩ [] 0 .no .no .no .no)=some (cs.map D.int):=by
     rw[←hA]
     show some (dX (ns.map .int) (some 2) (some 63))=_
     rw[hcs]
   show(xJ (eV 0) (xN (eC (.int 2))) (xN (eC (.int 63))) (Q A PB [] n ⟨0,[]⟩ [] 0 .no .no .no .no)).bind _=_
   rw[src,Qw]
   exact e
 generalize((0+(cs.map D.int).length:Nat):Int)=kk
 unfold zZj
 obtain⟨ρ2,e2,x8,x9,rfl⟩:=cY (g:=gT (zD (gN 8) (zD (gN 9) wE))) (body:=cN) (P:=fun ρ=>∃x8 x9:B,ρ=[.fz A,.fz PB,.fz (.lst (hs.map hD)),.mu (stD n ⟨hh,xs⟩),.mu (ktD qs),.fz (.int kk),y6,y7,x8,x9]) (hs.map hD) (fun d hd ρ hρ=>by
     obtain⟨r,hr,rfl⟩:=Tt.mp hd
     obtain⟨x8,x9,rfl⟩:=hρ
     have HH:=hhd r hr
     obtain⟨m,_,_,hml,_⟩:=id HH
     refine⟨[.fz A,.fz PB,.fz (.lst (hs.map hD)),.mu (stD n ⟨hh,xs⟩),.mu (ktD qs),.fz (.int kk),y6,y7,.fz (shD r.1 r.2),.fz (.lst ((zS r.1 r.2).map dE))],[.fz A,.fz PB,.fz (.lst (hs.map hD)),.mu (stD n ⟨hh,xs⟩),.mu (ktD qs),.fz (.int kk),y6,y7,.fz (shD r.1 r.2),.fz (.lst ((zS r.1 r.2).map dE))],rfl,?_,_,_,rfl⟩
     unfold cN
     refine(lS (b:=false) ?_).trans rfl
     unfold yD tB1
     rw[(vJ ((tT rfl).trans (gL HH)) rfl).trans (oN (zS r.1 r.2) (by lia))];rfl) [.fz A,.fz PB,.fz (.lst (hs.map hD)),.mu (stD n ⟨hh,xs⟩),.mu (ktD qs),.fz (.int kk),y6,y7,y8,y9] ⟨_,_,rfl⟩
 refine xU (ρ':=[.fz A,.fz PB,.fz (.lst (hs.map hD)),.mu (stD n ⟨hh,xs⟩),.mu (ktD qs),.fz (.int kk),y6,y7,x8,x9]) e2 ?_
 have l1:=K.pm.length_eq
 have hdp:=H.deep n4 (by lia)
 have HH:bM ⟨hh,xs⟩:=⟨n,n4,H.way,by show(zS hh xs).length<=900;lia,by show hh < 8;lia⟩
 unfold zWe
 rw[uP]
 refine iQ (k:=2) (d:=ktD qs) rfl rfl rfl (iQ (k:=1) (d:=stD n ⟨hh,xs⟩) rfl rfl rfl ?_ rfl) rfl
 have sh:kF "Store" "shape" 1 vC (eV 3) zN [.fz A,.fz PB,.fz (.lst (hs.map hD)),.fz (stD n ⟨hh,xs⟩),.fz (ktD qs),.fz (.int kk),y6,y7,x8,x9]=some (shD hh xs):=by
   unfold kF
   show(if ("Store":Str)="Store"/\([]:List D).length+1=1/\("shape":Str)∉stN then vC [stD n ⟨hh,xs⟩] else none)=_
   rw[Qi ⟨rfl,rfl,by decide +kernel⟩,zYu n4 n12 H (by lia)]
 exact(vJ ((tT sh).trans (gL HH)) ((tT rfl).trans (zWH K (by lia)))).trans (oN (zS hh xs) (by lia))
end My
open PySem PySem.W PyProof.Rows
set_option maxRecDepth 100000 in
set_option maxHeartbeats 0 in
theorem PySem.Challenge.cw_curveyard_k32_branches_tell_holds : PySem.Challenge.rw_curveyard_k32_branches_tell.Holds := by
 w_on
 refine PySem.W.holds_law My.zSi fun said=>?_
 refine PySem.W.holds_open (r:=PySem.Challenge.rw_curveyard_k32_branches_tell.row) (q:=My.lF) (loose:=My.loose) (XP:=PySem.W.XL My.lF [])
   (YP:=PySem.W.InK My.zZb) My.zSm (PySem.W.InK.of My.zXV) PySem.W.InK.keeps
   (fun s e=>PySem.W.xl_of s (Bool.and_eq_true_iff.mp e).1) PySem.W.XL.keeps (by rfl) (by rfl) (by rfl)
   (fun s e=>PySem.W.recFacts_of (Bool.and_eq_true_iff.mp e).2) (by rfl) (by assumption) (by decide +kernel)
   ⟨rfl,rfl,rfl,rfl,rfl,by decide +kernel⟩ ?hw ?hc
 case hw=>w_witness2
 k_fill
 refine L2.zRS (l:=PySem.Challenge.rw_curveyard_k32_branches_tell) (n:=63) (k:=18) (x:="_law_script") (CX:=fun _=>L2.CX0) (sp:=fun w=>L2.spF _ 1 My.zZQ) rfl (by decide) rfl ⟨rfl,by decide,by decide⟩ (fun w h Y=>Y) ?F (fun w H a ns hl hO hS=>My.zPQ hS (My.zTu ns hl)) (fun _ _ _ _ _ z=>z)
 case F =>
   intro w mg fa h KX G hmg
   refine' My.zQn KX G hmg ?g0 ?g1 ?g2 ?g3 ?g4 ?g5 ?g6 ?g7 ?g8 ?g9 ?g10 ?g11 ?g12 ?g13 ?g14 ?g15 ?g17 ?g18 ?g20 ?g21 ?g22 ?g23 ?g25 ?ca0 ?ci0 ?cn0 ?cl0 ?cc0 ?ck0 ?cpg0 ?chd0 ?cpo0 ?csa0 ?cmk0 ?ckc0 ?cf0_leaf ?cf0_leasts ?cf0_most ?cf0_things ?ca1 ?ci1 ?cn1 ?cl1 ?cc1 ?ck1 ?cpg1 ?chd1 ?cpo1 ?csa1 ?cmk1 ?ckc1 ?cf1_root ?cf1_size ?a16 ?n16 ?l16 ?c16 ?k16 ?a19 ?n19 ?l19 ?c19 ?k19 ?a24 ?n24 ?l24 ?c24 ?k24 ?z_bool ?z_enumerate ?z_int ?z_isinstance ?z_len ?z_list ?z_max ?z_min ?z_range ?z_sorted ?z_str ?z_tuple ?z_zip
   all_goals (try exact⟨_,_,_,_,_,_,_,_,_,_,by k_is,by k_is,by k_is,by k_is⟩)
   all_goals (try k_is)

import PyProof.Rows.All
import OpenK.KLine
import KE.KItem
import Wide.Once
import Wide.FinOn
import Lean
import PyProof.EqAt
import PyProof.EqKinds
import PyProof.TupleCall
import KE.KDictList
import KE.KSortAsk
import PyProof.TupleKey
import KE.KIntText
import KE.IntTextLaws
import OpenK.KOwn
import KE.KIsAll
import PyProof.InstStoreFacts
import PyProof.MaxThree
import PyProof.WalkInts
import PyProof.MinMaxWalk
import KE.KSortTup
import PyProof.Rows.SortRuns
import KE.KRevIter
import PyProof.ListRange
import KE.RegMulBits
import PyProof.Rows.SumAny
import PyProof.Rows.RuleN_abs
import Wide.Seal
import PyProof.FactsAll.bool_1
import PyProof.DictRoadsH
import PyProof.Rows.CallKwBuiltin
import PyProof.ZipIter
import PyProof.RaisesMany
import PyProof.RulesAs
import KE.KTryMore
import PyProof.ReprRoads
import PyProof.ReprLen
import OpenK.KTop
import PyProof.FString5
import PyProof.StrCalls
import PyProof.AutoSeq1
import PyProof.NeKinds
import PySem.Challenge.RW_curveyard_k29_take_what_is_not_there
set_option Elab.async false
set_option Elab.async false
set_option linter.all false
set_option maxRecDepth 100000
set_option maxRecDepth 100000
noncomputable section
theorem ja{p:Prop}(h:p:=by decide +kernel):p:=h
theorem jb{p:Prop}(h:p:=by decide):p:=h
theorem jc{p:Prop}(h:p:=by lia):p:=h
theorem jd{p:Prop}(h:p:=by omega):p:=h
theorem je{p:Prop}(h:p:=by simp):p:=h
theorem jf{p:Prop}(h:p:=by kernel_rfl):p:=h
theorem jg{p:Prop}(h:p:=by rfl):p:=h
abbrev jh:=PySem.W.Frag
abbrev jk:=PySem.Value->PySem.Shared->Prop
abbrev jl:=List (PySem.Addr×PySem.Obj)
abbrev jm:=List PySem.Value
abbrev jn:=Array PySem.Value
section
open PySem PySem.Spec PyProof.Rows
def Qq:=@Option.bind_eq_some_iff
def Qw:=@Option.bind_some
def Qe:=@wpAny_bind
def Qr:=@Option.map_eq_some_iff
def Qt:=@List.length_append
def Qy:=@Heap.get?_push_of_some
def Qu:=@if_pos
def Qi:=@List.length_map
def Qo:=@List.length_cons
def Qp:=@List.size_toArray
def Qa:=@List.mem_cons
def Qs:=@if_neg
def Qd:=@Heap.lt_size
def Qf:=@Nat.le_refl
def Qg:=@wpS_bind
def Qh:=@wpAny_pure
def Qj:=@List.length_take
def Qk:=@List.mem_cons_of_mem
def Ql:=@List.getElem?_set_ne
def Qz:=@List.map_cons
def Qx:=@List.pairwise_append
def Qc:=@decide_eq_true
def Qv:=@List.mem_cons_self
def Qb:=@wpS_pure
def Qn:=@List.getElem?_eq_some_iff
def Qm:=@List.append_assoc
def Wq:=@List.mem_append
def Ww:=@Heap.get?_push_size
def We:=@decide_eq_false
def Wr:=@List.mem_singleton
def Wt:=@List.getElem?_append_right
def Wy:=@Nat.lt_of_lt_of_le
def Wu:=@List.length_drop
def Wi:=@Nat.ne_of_lt
def Wo:=@List.getElem?_eq_getElem
def Wp:=@Nat.le_trans
def Wa:=@Bool.false_ne_true
def Ws:=@List.mem_append_right
def Wd:=@List.getElem?_map
def Wf:=@Bool.false_eq_true
def Wg:=@Bool.and_eq_true
def Wh:=@Option.some.inj
def Wj:=@List.getElem?_append_left
def Wk:=@Array.length_toList
def Wl:=@Array.getElem?_append_right
def Wz:=@Nat.lt_irrefl
def Wx:=@List.mem_of_mem_drop
def Wc:=@List.mem_of_mem_take
def Wv:=@List.getD_eq_getElem?_getD
def Wb:=@Nat.le_of_lt
def Wn:=@List.append_nil
def Wm:=@List.take_append_drop
def Ew:=@List.filter_cons
def Ee:=@sizeLine_eq
def Er:=@wpS_forRange
def Ey:=@List.not_mem_nil
def Eu:=@List.getElem?_replicate
def Ei:=@Nat.zero_le
def Eo:=@congrArg
def Ep:=@List.getElem?_set_self
def Ea:=@Heap.get?_update_ne
def Es:=@List.take_sublist
def Ed:=@decide_eq_true_eq
def Eg:=@List.perm_append_comm
def Eh:=@List.lookup_cons
def Ej:=@List.take_of_length_le
def Ek:=@List.drop_eq_nil_of_le
def El:=@PySem.mem_of_lookup
def Ez:=@List.drop_eq_getElem_cons
def Ex:=@List.find?_cons
def Ec:=@Heap.get?_update_self
def Ev:=@wpAny_Call_Name_kw
def Eb:=@Option.isSome_iff_exists
def En:=@List.zip_cons_cons
def Em:=@wpS_mono
def Rq:=@Array.toList_inj
def Rw:=@Paired.length
def Re:=@wpAny_holding
def Rr:=@List.pairwise_map
def Ry:=@List.length_range
def Ru:=@List.nodup_cons
def Ri:=@Heap.get?_update_other
def Ro:=@Array.getElem?_append_left
def Rp:=@Array.getElem?_eq_some_iff
def Ra:=@wpAny_call_entry
def Rs:=@List.length_filter_le
def Rf:=@Array.ext_getElem?
def Rg:=@List.pairwise_cons
def Rh:=@List.pairwise_iff_getElem
def Rj:=@Around.under_plainId
def Rk:=@Option.map_some
def Rl:=@wpAny_loadPart_at
def Rz:=@PassesOwn.never
def Rx:=@List.map_map
def Rc:=@beq_eq_false_iff_ne
def Rv:=@if_false
def Rb:=@List.replicate_succ
def Rm:=@List.getElem?_cons_succ
def Tq:=@List.cons_append
def Tw:=@List.mem_flatMap
def Te:=@wpAny_mono
def Tr:=@beq_iff_eq
def Tt:=@Array.getElem?_eq_none
def Tu:=@tupleKind_room_in1
def Ti:=@List.getElem?_take
def To:=@List.getElem?_drop
def Tp:=@wpAny_passesOwn
def Ta:=@PyProof.Rows.callWith_type1
def Ts:=@Bool.or_eq_true
def Td:=@PySem.W.kia_one
def Tg:=@codeAny_builtin
def Th:=@Nat.lt_or_ge
def Tj:=@List.nil_append
def Tk:=@List.map_append
def Tl:=@Int.emod_nonneg
def Tz:=@wpAny_truthy_bool
def Tx:=@wpAny_newObj_type
def Tc:=@wpS_modify
def Tv:=@wpAny_rule
def Tb:=@listUpdate_at
def Tn:=@List.getElem_mem
def Yq:=@List.mem_filter
def Yw:=@PySem.W.callWith_K
def Ye:=@List.length_set
def Yr:=@wpAny_getItem_str_slice
def Yt:=@List.map_take
def Yy:=@Nat.min_eq_left
def Yu:=@List.eraseIdx_cons_succ
def Yi:=@List.filter_cons_of_neg
def Yo:=@List.filter_cons_of_pos
def Yp:=@List.drop_of_length_le
def Ya:=@List.getElem?_set
def Ys:=@List.flatten_cons
def Yd:=@List.flatMap_cons
def Yf:=@or_false
def Yg:=@List.mem_map
def Yh:=@beq_self_eq_true
def Yj:=@List.mem_append_left
def Yk:=@List.range_eq_range'
def Yl:=@wpAny_standAt
def Yz:=@List.map_drop
def Yx:=@plainId_quiet
def Yc:=@List.filterMap_cons
def Yv:=@Bool.eq_iff_iff
def Yn:=@Nat.le_succ
def Ym:=@List.length_zip
def Uq:=@List.filter_eq_self
def Uw:=@assignInOrder_cons
def Ue:=@codeAny_mono
def Ur:=@Heap.size_push
def Ut:=@wpAny_tryCatch
def Uy:=@Option.isSome_map
def Uu:=@wpS_get
def Ui:=@wpAny_letGo
def Uo:=@seqEpoch_at
def Up:=@wpAny_newList
def Ua:=@List.length_eq_zero_iff
def Us:=@Array.toList_map
def Ud:=@wpAny_execs_nil
def Ug:=@Nat.le_of_eq
def Uh:=@List.length_replicate
def Uj:=@if_true
def Uk:=@post_val_or_str
def Ul:=@Txt.slice_le
def Uz:=@List.getElem?_eq_none
def Ux:=@get?_update_seq
def Uc:=@Array.getElem?_setIfInBounds_self_of_lt
def Uv:=@wpAny_updateSeq
def Ub:=@Nat.not_lt
def Um:=@List.mem_of_getElem?
def Iq:=@codeAny_call_builtin
def Iw:=@Obj.data_mapDictKeys
def Ie:=@List.take_take
def Ir:=@wpAny_bindName
def Iy:=@wpAny_seqItems
def Iu:=@PySem.W.plainGet_of
def Ii:=@getElem?_mirror_all
def Ia:=@List.getElem?_range
def Ig:=@List.map_congr_left
def Ih:=@Heap.SameBut.update
def Ij:=@List.flatten_append
def Ik:=@List.flatMap_append
def Il:=@List.mem_map_of_mem
def Ix:=@Array.find?_toList
def Ic:=@List.any_cons
def Iv:=@wpAny_attempt
def Ib:=@wpS_lift
def Im:=@Nat.eq_zero_or_pos
def Oq:=@List.findIdx?_cons
def Ow:=@Int.emod_lt_of_pos
def Oe:=@wpAny_pyIter_list
def Ot:=@wpAny_call
def Oy:=@Int.toNat_natCast
def Ou:=@Bool.not_eq_true'
def Oi:=@Array.size_append
def Oo:=@List.drop_sublist
def Op:=@Array.toList_eraseIdxIfInBounds
def Oa:=@bne_self_eq_false
def Os:=@wpAny_dictEntries
def Od:=@listItems_at
def Og:=@decide_false
def Oh:=@wpAny_eqBool_int
def Oj:=@wpAny_eqBool_str
def Ol:=@wpAny_execs_cons
def Oz:=@Nat.lt_succ_self
def Ox:=@Heap.size_update
def Oc:=@List.drop_append
def Ov:=@List.take_append_of_le_length
def Ob:=@Nat.min_eq_right
def On:=@Array.getElem?_setIfInBounds
def Om:=@List.of_mem_zip
def Pq:=@List.length_nil
def Pw:=@Array.getD_eq_getD_getElem?
def Pe:=@getElem?_bubble
def Pr:=@SeqAt.EqAt.same
def Pt:=@wpAny_field
def Py:=@size_of_entries
def Pu:=@Calls.Name_function_global
def Pi:=@Array.perm_iff_toList_perm
def Po:=@List.mem_range
def Pp:=@Bool.false_and
def Pa:=@wpAny_loadPart
def Ps:=@List.take_zero
def Pd:=@PySem.boot_len
def Pf:=@Array.size_map
def Pg:=@List.drop_drop
def Ph:=@wpAny_newTuple
def Pj:=@Array.getElem?_eq_getElem
end
namespace L2
open PySem PySem.Spec PyProof.Rows
def wI (s:Stmt)(j:Nat):Stmt:=match s with
 | .ClassDef _ _ _ body _ _ _ _ _ _ _=>body.getD j (.Pass ⟨0,0,0,0⟩)
 | _=>.Pass ⟨0,0,0,0⟩
def vY (s:Stmt):Arguments:=match s with
 | .FunctionDef _ a _ _ _ _ _ _ _ _=>a
 | _=>{ posonlyargs:=[],args:=[],vararg:=none,kwonlyargs:=[],kw_defaults:=[],kwarg:=none,defaults:=[] }
def yQ (s:Stmt):List Stmt:=match s with
 | .FunctionDef _ _ b _ _ _ _ _ _ _=>b
 | _=>[]
def zW (s:Stmt):Scope:=match s with
 | .FunctionDef _ _ _ _ _ _ sc _ _ _=>sc
 | _=>{ kind:=.function,names:=[],isGenerator:=false,isCoroutine:=false }
end L2
namespace My
open PySem L2
def top (i:Nat):Stmt:=PySem.Challenge.pw_curveyard_k29_take_what_is_not_there.main.body.getD i (.Pass ⟨0,0,0,0⟩)
end My
namespace My
open PySem PySem.W L2 PyData
abbrev di (l:Array DictEntry)(n:Nat):Obj:=⟨.type "dict",none,.dict l n,#[]⟩
abbrev co (n q:Str)(t1 t2 t3 l a x y z r1 m r2:Nat)(v1 v2 v3:Value)(r3 o t4:Nat):Obj:=⟨.type "code",none,.fields #[.str n t1,.str q t2,.str "/claim/cut.py" t3,.int l 0,.int a 0,.int x 0,.int y 0,.int z 0,.ref r1,.bool true,.int m 0,.ref r2,v1,v2,v3,.ref r3,.int o 0,.int l 0,.str "/claim/cut.py" t4],#[]⟩
abbrev fu (n q:Str)(s:Stmt)(m:Str)(t c:Nat):Obj:=⟨.type "function",none,.func (fnOf n q (vY s) (yQ s) (zW s) (.none) (.none) (.none) (.str m t) none (.ref c) (.none)),#[]⟩
abbrev ke (P:Params)(n:Str)(t:Nat)(v:Value):DictEntry:=⟨keyHash P n,.str n t,v⟩
abbrev cl (n:Str)(b r:jm)(s:Nat)(u:jm)(l:Array (Option Value)):Obj:=⟨.type "type",none,.cls { name:=n,bases:=b,mro:=r,ns:=s,qualname:=n,hasDict:=true,slotNames:=[],subclasses:=u,abstract:=false,collection:=none,hasDel:=false },l⟩
abbrev gd (t a:Nat):Obj:=⟨.type "getset_descriptor",none,.fields #[.str "__dict__" t,.ref a,.builtin "function.__dict__",.builtin "function.__dict__#set"],#[]⟩
abbrev gw (t a:Nat):Obj:=⟨.type "getset_descriptor",none,.fields #[.str "__weakref__" t,.ref a,.builtin "ExceptionGroup.__weakref__",.none],#[]⟩
def zYA:Params->Frag:=fun P =>
 (nat_lit 3,di #[ke P "__name__" 165 (.str "law_curveyard_k29_take_what_is_not_there" 545),ke P "__doc__" 166 .none,ke P "__package__" 167 .none,ke P "__loader__" 168 (.builtin "__main__.__loader__#opaque"),ke P "__spec__" 169 .none,ke P "__annotations__" 170 (.ref 6),ke P "__builtins__" 171 (.ref 4),ke P "__file__" 173 (.str "/claim/cut.py" 172),ke P "__cached__" 174 .none,ke P "_wall" 193 (.ref 21),ke P "YardError" 213 (.ref 31),ke P "OffFloor" 229 (.ref 44),ke P "TooWide" 245 (.ref 56),ke P "BadBox" 261 (.ref 68),ke P "Twice" 277 (.ref 80),ke P "NoThing" 293 (.ref 92),ke P "NoEntry" 309 (.ref 104),ke P "TextError" 334 (.ref 123),ke P "Unmet" 363 (.ref 142),ke P "Page" 395 (.ref 159),ke P "rank" 405 (.ref 170),ke P "way" 411 (.ref 175),ke P "entry_like" 417 (.ref 180),ke P "put_beneath" 428 (.ref 187),ke P "taken_beneath" 434 (.ref 192),ke P "pages_of" 444 (.ref 199),ke P "filled" 450 (.ref 204),ke P "root_of" 458 (.ref 211),ke P "entries_beneath" 467 (.ref 218),ke P "shape_of" 473 (.ref 223),ke P "Store" 544 (.ref 275),ke P "_law_cell" 554 (.ref 286),ke P "_law_mixed" 563 (.ref 293),ke P "_law_word" 578 (.ref 300),ke P "_law_pool" 584 (.ref 305),ke P "_law_entry" 598 (.ref 312),ke P "_law_number" 605 (.ref 319),ke P "_law_entries" 615 (.ref 326),ke P "_law_due" 621 (.ref 331),ke P "_law_deeds" 627 (.ref 336),ke P "_law_done" 635 (.ref 343),ke P "_law_kept" 646 (.ref 350),ke P "_law_refused" 656 (.ref 357),ke P "_law_is" 665 (.ref 364),ke P "_law_stranger" 678 (.ref 371),ke P "_law_missed" 692 (.ref 378),ke P "law" 706 (.ref 385)] 47) ::
 (nat_lit 20,co "_wall" "_wall" 187 188 189 1 1 0 0 3 15 181 16 .none (.ref 17) (.ref 18) 19 191 192) ::
 (nat_lit 21,fu "_wall" "_wall" (top 0) "__main__" 164 20) ::
 (nat_lit 30,di #[ke P "__module__" 203 (.str "curveyard.errors" 194),ke P "__firstlineno__" 207 (.int 5 206),ke P "__static_attributes__" 208 (.ref 29),ke P "__weakref__" 210 (.ref 32),ke P "__doc__" 211 .none] 3) ::
 (nat_lit 31,cl "YardError" [.type "ValueError"] [.ref 31,.type "ValueError",.type "Exception",.type "BaseException",.type "object"] 30 [.ref 44,.ref 56,.ref 68,.ref 80,.ref 92,.ref 104,.ref 123,.ref 142] #[some (.ref 22),none,some (.str "YardError" 196),some (.str "YardError" 204),some (.builtin "ValueError.__new__"),some (.bool true)]) ::
 (nat_lit 32,gw 209 31) ::
 (nat_lit 43,di #[ke P "__module__" 221 (.str "curveyard.errors" 194),ke P "__firstlineno__" 225 (.int 7 224),ke P "__static_attributes__" 226 (.ref 42),ke P "__doc__" 227 .none] 2) ::
 (nat_lit 44,cl "OffFloor" [.ref 31] [.ref 44,.ref 31,.type "ValueError",.type "Exception",.type "BaseException",.type "object"] 43 [] #[some (.ref 35),none,some (.str "OffFloor" 214),some (.str "OffFloor" 222),some (.builtin "ValueError.__new__"),some (.bool true)]) ::
 (nat_lit 55,di #[ke P "__module__" 237 (.str "curveyard.errors" 194),ke P "__firstlineno__" 241 (.int 9 240),ke P "__static_attributes__" 242 (.ref 54),ke P "__doc__" 243 .none] 2) ::
 (nat_lit 56,cl "TooWide" [.ref 31] [.ref 56,.ref 31,.type "ValueError",.type "Exception",.type "BaseException",.type "object"] 55 [] #[some (.ref 47),none,some (.str "TooWide" 230),some (.str "TooWide" 238),some (.builtin "ValueError.__new__"),some (.bool true)]) ::
 (nat_lit 67,di #[ke P "__module__" 253 (.str "curveyard.errors" 194),ke P "__firstlineno__" 257 (.int 11 256),ke P "__static_attributes__" 258 (.ref 66),ke P "__doc__" 259 .none] 2) ::
 (nat_lit 68,cl "BadBox" [.ref 31] [.ref 68,.ref 31,.type "ValueError",.type "Exception",.type "BaseException",.type "object"] 67 [] #[some (.ref 59),none,some (.str "BadBox" 246),some (.str "BadBox" 254),some (.builtin "ValueError.__new__"),some (.bool true)]) ::
 (nat_lit 79,di #[ke P "__module__" 269 (.str "curveyard.errors" 194),ke P "__firstlineno__" 273 (.int 13 272),ke P "__static_attributes__" 274 (.ref 78),ke P "__doc__" 275 .none] 2) ::
 (nat_lit 80,cl "Twice" [.ref 31] [.ref 80,.ref 31,.type "ValueError",.type "Exception",.type "BaseException",.type "object"] 79 [] #[some (.ref 71),none,some (.str "Twice" 262),some (.str "Twice" 270),some (.builtin "ValueError.__new__"),some (.bool true)]) ::
 (nat_lit 91,di #[ke P "__module__" 285 (.str "curveyard.errors" 194),ke P "__firstlineno__" 289 (.int 15 288),ke P "__static_attributes__" 290 (.ref 90),ke P "__doc__" 291 .none] 2) ::
 (nat_lit 92,cl "NoThing" [.ref 31] [.ref 92,.ref 31,.type "ValueError",.type "Exception",.type "BaseException",.type "object"] 91 [] #[some (.ref 83),none,some (.str "NoThing" 278),some (.str "NoThing" 286),some (.builtin "ValueError.__new__"),some (.bool true)]) ::
 (nat_lit 103,di #[ke P "__module__" 301 (.str "curveyard.errors" 194),ke P "__firstlineno__" 305 (.int 17 304),ke P "__static_attributes__" 306 (.ref 102),ke P "__doc__" 307 .none] 2) ::
 (nat_lit 104,cl "NoEntry" [.ref 31] [.ref 104,.ref 31,.type "ValueError",.type "Exception",.type "BaseException",.type "object"] 103 [] #[some (.ref 95),none,some (.str "NoEntry" 294),some (.str "NoEntry" 302),some (.builtin "ValueError.__new__"),some (.bool true)]) ::
 (nat_lit 119,co "__init__" "TextError.__init__" 322 323 324 21 2 0 0 3 114 181 115 .none (.ref 116) (.ref 117) 118 327 328) ::
 (nat_lit 120,fu "__init__" "TextError.__init__" (wI (top 9) 0) "curveyard.errors" 194 119) ::
 (nat_lit 122,di #[ke P "__module__" 317 (.str "curveyard.errors" 194),ke P "__firstlineno__" 321 (.int 19 320),ke P "__init__" 329 (.ref 120),ke P "__static_attributes__" 331 (.ref 121),ke P "__doc__" 332 .none] 2) ::
 (nat_lit 123,cl "TextError" [.ref 31] [.ref 123,.ref 31,.type "ValueError",.type "Exception",.type "BaseException",.type "object"] 122 [] #[some (.ref 107),none,some (.str "TextError" 310),some (.str "TextError" 318),some (.builtin "ValueError.__new__"),some (.bool true)]) ::
 (nat_lit 138,co "__init__" "Unmet.__init__" 347 348 349 25 4 0 0 3 133 181 134 .none (.ref 135) (.ref 136) 137 354 355) ::
 (nat_lit 139,fu "__init__" "Unmet.__init__" (wI (top 10) 0) "curveyard.errors" 194 138) ::
 (nat_lit 141,di #[ke P "__module__" 342 (.str "curveyard.errors" 194),ke P "__firstlineno__" 346 (.int 23 345),ke P "__init__" 356 (.ref 139),ke P "__static_attributes__" 360 (.ref 140),ke P "__doc__" 361 .none] 2) ::
 (nat_lit 142,cl "Unmet" [.ref 31] [.ref 142,.ref 31,.type "ValueError",.type "Exception",.type "BaseException",.type "object"] 141 [] #[some (.ref 126),none,some (.str "Unmet" 335),some (.str "Unmet" 343),some (.builtin "ValueError.__new__"),some (.bool true)]) ::
 (nat_lit 155,co "__init__" "Page.__init__" 378 379 380 32 3 0 0 3 152 181 153 .none .none .none 154 381 382) ::
 (nat_lit 156,fu "__init__" "Page.__init__" (wI (top 12) 0) "curveyard.pages" 364 155) ::
 (nat_lit 158,di #[ke P "__module__" 373 (.str "curveyard.pages" 364),ke P "__firstlineno__" 377 (.int 30 376),ke P "__init__" 383 (.ref 156),ke P "__static_attributes__" 388 (.ref 157),ke P "__dict__" 390 (.ref 160),ke P "__weakref__" 392 (.ref 161),ke P "__doc__" 393 .none] 4) ::
 (nat_lit 159,cl "Page" [.type "object"] [.ref 159,.type "object"] 158 [] #[none,none,some (.str "Page" 366),some (.str "Page" 374),some (.builtin "object.__new__"),some (.bool true)]) ::
 (nat_lit 160,gd 389 159) ::
 (nat_lit 161,gw 391 159) ::
 (nat_lit 169,co "rank" "rank" 396 397 398 38 1 0 0 3 164 181 165 .none (.ref 166) (.ref 167) 168 403 404) ::
 (nat_lit 170,fu "rank" "rank" (top 13) "curveyard.pages" 364 169) ::
 (nat_lit 174,co "way" "way" 406 407 408 41 2 0 0 3 171 181 172 .none .none .none 173 409 410) ::
 (nat_lit 175,fu "way" "way" (top 14) "curveyard.pages" 364 174) ::
 (nat_lit 179,co "entry_like" "entry_like" 412 413 414 44 2 0 0 3 176 181 177 .none .none .none 178 415 416) ::
 (nat_lit 180,fu "entry_like" "entry_like" (top 15) "curveyard.pages" 364 179) ::
 (nat_lit 186,co "put_beneath" "put_beneath" 418 419 420 49 3 0 0 3 181 181 182 .none (.ref 183) (.ref 184) 185 426 427) ::
 (nat_lit 187,fu "put_beneath" "put_beneath" (top 16) "curveyard.pages" 364 186) ::
 (nat_lit 191,co "taken_beneath" "taken_beneath" 429 430 431 55 3 0 0 3 188 181 189 .none .none .none 190 432 433) ::
 (nat_lit 192,fu "taken_beneath" "taken_beneath" (top 17) "curveyard.pages" 364 191) ::
 (nat_lit 198,co "pages_of" "pages_of" 435 436 437 61 3 0 0 3 193 181 194 .none (.ref 195) (.ref 196) 197 442 443) ::
 (nat_lit 199,fu "pages_of" "pages_of" (top 18) "curveyard.pages" 364 198) ::
 (nat_lit 203,co "filled" "filled" 445 446 447 68 2 0 0 3 200 181 201 .none .none .none 202 448 449) ::
 (nat_lit 204,fu "filled" "filled" (top 19) "curveyard.pages" 364 203) ::
 (nat_lit 210,co "root_of" "root_of" 451 452 453 77 1 0 0 3 205 181 206 .none (.ref 207) (.ref 208) 209 456 457) ::
 (nat_lit 211,fu "root_of" "root_of" (top 20) "curveyard.pages" 364 210) ::
 (nat_lit 217,co "entries_beneath" "entries_beneath" 459 460 461 84 1 0 0 3 212 181 213 .none (.ref 214) (.ref 215) 216 465 466) ::
 (nat_lit 218,fu "entries_beneath" "entries_beneath" (top 21) "curveyard.pages" 364 217) ::
 (nat_lit 222,co "shape_of" "shape_of" 468 469 470 91 1 0 0 3 219 181 220 .none .none .none 221 471 472) ::
 (nat_lit 223,fu "shape_of" "shape_of" (top 22) "curveyard.pages" 364 222) ::
 (nat_lit 236,co "__init__" "Store.__init__" 488 489 490 98 2 0 0 3 231 181 232 .none (.ref 233) (.ref 234) 235 493 494) ::
 (nat_lit 237,fu "__init__" "Store.__init__" (wI (top 24) 0) "curveyard.store" 474 236) ::
 (nat_lit 243,co "put" "Store.put" 496 497 498 102 2 0 0 3 238 181 239 .none (.ref 240) (.ref 241) 242 501 502) ::
 (nat_lit 244,fu "put" "Store.put" (wI (top 24) 1) "curveyard.store" 474 243) ::
 (nat_lit 250,co "take" "Store.take" 504 505 506 107 2 0 0 3 245 181 246 .none (.ref 247) (.ref 248) 249 509 510) ::
 (nat_lit 251,fu "take" "Store.take" (wI (top 24) 2) "curveyard.store" 474 250) ::
 (nat_lit 257,co "listed" "Store.listed" 512 513 514 112 1 0 0 3 252 181 253 .none (.ref 254) (.ref 255) 256 516 517) ::
 (nat_lit 258,fu "listed" "Store.listed" (wI (top 24) 3) "curveyard.store" 474 257) ::
 (nat_lit 264,co "crossing" "Store.crossing" 519 520 521 115 3 0 0 3 259 181 260 .none (.ref 261) (.ref 262) 263 525 526) ::
 (nat_lit 265,fu "crossing" "Store.crossing" (wI (top 24) 4) "curveyard.store" 474 264) ::
 (nat_lit 271,co "shape" "Store.shape" 528 529 530 118 1 0 0 3 266 181 267 .none (.ref 268) (.ref 269) 270 532 533) ::
 (nat_lit 272,fu "shape" "Store.shape" (wI (top 24) 5) "curveyard.store" 474 271) ::
 (nat_lit 274,di #[ke P "__module__" 483 (.str "curveyard.store" 474),ke P "__firstlineno__" 487 (.int 96 486),ke P "__init__" 495 (.ref 237),ke P "put" 503 (.ref 244),ke P "take" 511 (.ref 251),ke P "listed" 518 (.ref 258),ke P "crossing" 527 (.ref 265),ke P "shape" 534 (.ref 272),ke P "__static_attributes__" 537 (.ref 273),ke P "__dict__" 539 (.ref 276),ke P "__weakref__" 541 (.ref 277),ke P "__doc__" 542 .none] 4) ::
 (nat_lit 275,cl "Store" [.type "object"] [.ref 275,.type "object"] 274 [] #[none,none,some (.str "Store" 476),some (.str "Store" 484),some (.builtin "object.__new__"),some (.bool true)]) ::
 (nat_lit 276,gd 538 275) ::
 (nat_lit 277,gw 540 275) ::
 (nat_lit 285,co "_law_cell" "_law_cell" 547 548 549 121 2 0 0 3 280 181 281 .none (.ref 282) (.ref 283) 284 552 553) ::
 (nat_lit 286,fu "_law_cell" "_law_cell" (top 26) "law_curveyard_k29_take_what_is_not_there" 545 285) ::
 (nat_lit 292,co "_law_mixed" "_law_mixed" 555 556 557 125 2 0 0 3 287 181 288 .none (.ref 289) (.ref 290) 291 561 562) ::
 (nat_lit 293,fu "_law_mixed" "_law_mixed" (top 27) "law_curveyard_k29_take_what_is_not_there" 545 292) ::
 (nat_lit 299,co "_law_word" "_law_word" 564 565 566 129 2 0 0 3 294 181 295 .none (.ref 296) (.ref 297) 298 576 577) ::
 (nat_lit 300,fu "_law_word" "_law_word" (top 28) "law_curveyard_k29_take_what_is_not_there" 545 299) ::
 (nat_lit 304,co "_law_pool" "_law_pool" 579 580 581 139 1 0 0 3 301 181 302 .none .none .none 303 582 583) ::
 (nat_lit 305,fu "_law_pool" "_law_pool" (top 29) "law_curveyard_k29_take_what_is_not_there" 545 304) ::
 (nat_lit 311,co "_law_entry" "_law_entry" 585 586 587 142 3 0 0 3 306 181 307 .none (.ref 308) (.ref 309) 310 596 597) ::
 (nat_lit 312,fu "_law_entry" "_law_entry" (top 30) "law_curveyard_k29_take_what_is_not_there" 545 311) ::
 (nat_lit 318,co "_law_number" "_law_number" 599 600 601 152 1 0 0 3 313 181 314 .none (.ref 315) (.ref 316) 317 603 604) ::
 (nat_lit 319,fu "_law_number" "_law_number" (top 31) "law_curveyard_k29_take_what_is_not_there" 545 318) ::
 (nat_lit 325,co "_law_entries" "_law_entries" 606 607 608 154 2 0 0 3 320 181 321 .none (.ref 322) (.ref 323) 324 613 614) ::
 (nat_lit 326,fu "_law_entries" "_law_entries" (top 32) "law_curveyard_k29_take_what_is_not_there" 545 325) ::
 (nat_lit 330,co "_law_due" "_law_due" 616 617 618 164 1 0 0 3 327 181 328 .none .none .none 329 619 620) ::
 (nat_lit 331,fu "_law_due" "_law_due" (top 33) "law_curveyard_k29_take_what_is_not_there" 545 330) ::
 (nat_lit 335,co "_law_deeds" "_law_deeds" 622 623 624 166 3 0 0 3 332 181 333 .none .none .none 334 625 626) ::
 (nat_lit 336,fu "_law_deeds" "_law_deeds" (top 34) "law_curveyard_k29_take_what_is_not_there" 545 335) ::
 (nat_lit 342,co "_law_done" "_law_done" 628 629 630 175 2 0 0 3 337 181 338 .none (.ref 339) (.ref 340) 341 633 634) ::
 (nat_lit 343,fu "_law_done" "_law_done" (top 35) "law_curveyard_k29_take_what_is_not_there" 545 342) ::
 (nat_lit 349,co "_law_kept" "_law_kept" 636 637 638 180 2 0 0 3 344 181 345 .none (.ref 346) (.ref 347) 348 644 645) ::
 (nat_lit 350,fu "_law_kept" "_law_kept" (top 36) "law_curveyard_k29_take_what_is_not_there" 545 349) ::
 (nat_lit 356,co "_law_refused" "_law_refused" 647 648 649 186 2 0 0 3 351 181 352 .none (.ref 353) (.ref 354) 355 654 655) ::
 (nat_lit 357,fu "_law_refused" "_law_refused" (top 37) "law_curveyard_k29_take_what_is_not_there" 545 356) ::
 (nat_lit 363,co "_law_is" "_law_is" 657 658 659 193 2 0 0 3 358 181 359 .none (.ref 360) (.ref 361) 362 663 664) ::
 (nat_lit 364,fu "_law_is" "_law_is" (top 38) "law_curveyard_k29_take_what_is_not_there" 545 363) ::
 (nat_lit 370,co "_law_stranger" "_law_stranger" 666 667 668 201 3 0 0 3 365 181 366 .none (.ref 367) (.ref 368) 369 676 677) ::
 (nat_lit 371,fu "_law_stranger" "_law_stranger" (top 39) "law_curveyard_k29_take_what_is_not_there" 545 370) ::
 (nat_lit 377,co "_law_missed" "_law_missed" 679 680 681 214 3 0 0 3 372 181 373 .none (.ref 374) (.ref 375) 376 690 691) ::
 (nat_lit 378,fu "_law_missed" "_law_missed" (top 40) "law_curveyard_k29_take_what_is_not_there" 545 377) ::
 (nat_lit 384,co "law" "law" 693 694 695 230 1 0 0 3 379 181 380 .none (.ref 381) (.ref 382) 383 704 705) ::
 (nat_lit 385,fu "law" "law" (top 41) "law_curveyard_k29_take_what_is_not_there" 545 384)::[]
def jV:Program:=view PySem.Challenge.pw_curveyard_k29_take_what_is_not_there [41]
def loose:List Str:="_wall"::"YardError"::"OffFloor"::"TooWide"::"BadBox"::"Twice"::"NoThing"::"NoEntry"::"TextError"::"Unmet"::"Page"::"rank"::"way"::"entry_like"::"put_beneath"::"taken_beneath"::"pages_of"::"filled"::"root_of"::"entries_beneath"::"shape_of"::"Store"::"_law_cell"::"_law_mixed"::"_law_word"::"_law_pool"::"_law_entry"::"_law_number"::"_law_entries"::"_law_due"::"_law_deeds"::"_law_done"::"_law_kept"::"_law_refused"::"_law_is"::"_law_stranger"::"_law_missed"::[]
def zPk:List Addr:=nat_lit 3::nat_lit 20::nat_lit 21::nat_lit 30::nat_lit 31::nat_lit 32::nat_lit 43::nat_lit 44::nat_lit 55::nat_lit 56::nat_lit 67::nat_lit 68::nat_lit 79::nat_lit 80::nat_lit 91::nat_lit 92::nat_lit 103::nat_lit 104::nat_lit 119::nat_lit 120::nat_lit 122::nat_lit 123::nat_lit 138::nat_lit 139::nat_lit 141::nat_lit 142::nat_lit 155::nat_lit 156::nat_lit 158::nat_lit 159::nat_lit 160::nat_lit 161::nat_lit 169::nat_lit 170::nat_lit 174::nat_lit 175::nat_lit 179::nat_lit 180::nat_lit 186::nat_lit 187::nat_lit 191::nat_lit 192::nat_lit 198::nat_lit 199::nat_lit 203::nat_lit 204::nat_lit 210::nat_lit 211::nat_lit 217::nat_lit 218::nat_lit 222::nat_lit 223::nat_lit 236::nat_lit 237::nat_lit 243::nat_lit 244::nat_lit 250::nat_lit 251::nat_lit 257::nat_lit 258::nat_lit 264::nat_lit 265::nat_lit 271::nat_lit 272::nat_lit 274::nat_lit 275::nat_lit 276::nat_lit 277::nat_lit 285::nat_lit 286::nat_lit 292::nat_lit 293::nat_lit 299::nat_lit 300::nat_lit 304::nat_lit 305::nat_lit 311::nat_lit 312::nat_lit 318::nat_lit 319::nat_lit 325::nat_lit 326::nat_lit 330::nat_lit 331::nat_lit 335::nat_lit 336::nat_lit 342::nat_lit 343::nat_lit 349::nat_lit 350::nat_lit 356::nat_lit 357::nat_lit 363::nat_lit 364::nat_lit 370::nat_lit 371::nat_lit 377::nat_lit 378::nat_lit 384::nat_lit 385::[]
theorem zWS (P:Params):zPk=(zYA P).map (fun x=>x.1):=jf
abbrev hook:Hook:=kHook zYA zPk zWS
abbrev zPs (s:Shared):Bool:=xlAt jV [] s&&recOk (RowW.records PySem.Challenge.rw_curveyard_k29_take_what_is_not_there.row.toRowW) s
theorem zSm (w:World):(openEnds treeTable PySem.Challenge.rw_curveyard_k29_take_what_is_not_there.row.prog w 6966).map (fun s=>openSeen jV loose (importedModules PySem.Challenge.rw_curveyard_k29_take_what_is_not_there.row.prog.main.body) zPs true s)=some (openGood jV loose):=jf
theorem zS3 (w:World):(openEnds treeTable PySem.Challenge.rw_curveyard_k29_take_what_is_not_there.row.prog w 6966).map hook.obs=some (hook.val w):=jf
theorem zQM {α β γ:Type}{x:Option α}{f:α->β}{g:α->γ}{a:β}{b:γ}(h1:x.map f=some a)(h2:x.map g=some b):x.map (fun s=>(f s,g s))=some (a,b):=by
 cases x with
 | none=>cases h1
 | some s=>cases h1;cases h2;rfl
theorem zPU:LeftO PySem.Challenge.rw_curveyard_k29_take_what_is_not_there.row.prog jV loose zPs hook.obs hook.val 6966:=fun w=>zQM (zSm w) (zS3 w)
theorem zRv:PySem.Challenge.rw_curveyard_k29_take_what_is_not_there.row.wellSaid=true:=jf
theorem zQz:PySem.W.OpenLaw.wellSaid PySem.Challenge.rw_curveyard_k29_take_what_is_not_there=true:=by
 unfold PySem.W.OpenLaw.wellSaid
 rw[zRv]
 kernel_rfl
end My
namespace L2
open PySem PySem.Spec PyProof.Rows
abbrev Key:=Sum Int Str
def zZv:Key->Value->Bool
 | .inl k,v=>Value.isInt k v
 | .inr x,v=>Value.isStrOf x v
def zM1 (w:World):Key->Int
 | .inl k=>hashInt k
 | .inr x=>hashStr w x
theorem wY:∀ {k:Key} {v:Value},zZv k v=true->(∃i t,k=Sum.inl i/\v=Value.int i t)∨(∃x t,k=Sum.inr x/\v=Value.str x t)
 | .inl i,v,h=>by
   obtain⟨t,e⟩:=Value.isInt_shape (k:=i) (v:=v) h
   exact .inl ⟨i,t,rfl,e⟩
 | .inr x,v,h=>by
   obtain⟨t,e⟩:=Value.isStrOf_shape (x:=x) (v:=v) h
   exact .inr ⟨x,t,rfl,e⟩
theorem zT3 (i:Int)(t:Tok):zZv (.inl i) (.int i t)=true:=by simp[zZv,Value.isInt]
theorem zT0 (x:Str)(t:Tok):zZv (.inr x) (.str x t)=true:=by simp[zZv,Value.isStrOf]
theorem zNR (a b:Int):decide ((Sum.inl a:Key)=Sum.inl b)=(a==b):=by
 by_cases e:a=b
 · subst e;simp
 · have h:¬(Sum.inl a:Key)=Sum.inl b:=fun q=>e (Sum.inl.inj q)
   rw[We h]
   exact(Rc.mpr e).symm
theorem zOw (a b:Str):decide ((Sum.inr a:Key)=Sum.inr b)=decide (a=b):=by
 by_cases e:a=b
 · subst e;simp
 · have h:¬(Sum.inr a:Key)=Sum.inr b:=fun q=>e (Sum.inr.inj q)
   rw[We h,We e]
theorem zOb (a:Int)(b:Str):decide ((Sum.inl a:Key)=Sum.inr b)=false:=We (fun q=>nomatch q)
theorem zO9 (a:Str)(b:Int):decide ((Sum.inr a:Key)=Sum.inl b)=false:=We (fun q=>nomatch q)
def y9 (prog:Program)(w:World):PySem.KeyKind prog w Key where
 is:=zZv
 hash:=zM1 w
 inj:=fun v a b ha hb=>by
   rcases wY ha with⟨i,t,rfl,rfl⟩ | ⟨x,t,rfl,rfl⟩
   · rcases wY hb with⟨j,u,rfl,e⟩ | ⟨y,u,rfl,e⟩
     · injection e with e1 _;rw[e1]
     · exact nomatch e
   · rcases wY hb with⟨j,u,rfl,e⟩ | ⟨y,u,rfl,e⟩
     · exact nomatch e
     · injection e with e1 _;rw[e1]
 byValue:=fun k v h=>by
   rcases wY h with⟨i,t,rfl,rfl⟩ | ⟨x,t,rfl,rfl⟩<;>rfl
 pyHash:=fun hv h=>by
   rcases wY hv with⟨i,t,rfl,rfl⟩ | ⟨x,t,rfl,rfl⟩
   · exact wpAny_pyHash_int h
   · exact wpAny_pyHash_str h
 eqBool:=fun hu hv h=>by
   rcases wY hu with⟨i,t,rfl,rfl⟩ | ⟨x,t,rfl,rfl⟩
   · rcases wY hv with⟨j,u,rfl,rfl⟩ | ⟨y,u,rfl,rfl⟩
     · rw[zNR] at h;exact Oh h
     · rw[zOb] at h;exact SeqAt.EqAt.int_str i t y u _ _ _ _ h
   · rcases wY hv with⟨j,u,rfl,rfl⟩ | ⟨y,u,rfl,rfl⟩
     · rw[zO9] at h;exact SeqAt.EqAt.str_int x t j u _ _ _ _ h
     · rw[zOw] at h;exact Oj h
 «strs» := fun k x t v h=>by
   rcases wY h with⟨i,u,rfl,e⟩ | ⟨y,u,rfl,e⟩
   · exact nomatch e
   · injection e with e1 _
     subst e1
     cases v<;>rfl
theorem zWC (prog:Program)(w:World)(i:Int)(t:Tok):(y9 prog w).is (.inl i) (.int i t)=true:=zT3 i t
theorem zVT (prog:Program)(w:World)(x:Str)(t:Tok):(y9 prog w).is (.inr x) (.str x t)=true:=zT0 x t
inductive V where
 | non | bl (b:Bool) | int (i:Int) | str (x:Str) | byt (b:Array UInt8) | flt (b:UInt64) | ref (a:Addr) | ty (n:String)
 deriving DecidableEq
def RelV:V->Value->Prop
 | .non,u=>u=Value.none
 | .bl b,u=>u=Value.bool b
 | .int i,u=>∃t,u=Value.int i t
 | .str x,u=>∃t,u=Value.str x t
 | .byt b,u=>∃t,u=Value.bytes b t
 | .flt b,u=>∃t,u=Value.float b t
 | .ref a,u=>u=Value.ref a
 | .ty n,u=>u=Value.type n
abbrev Vals:List V->List Value->Prop:=Paired RelV
theorem Vals.length {xs:List V}{us:jm}(r:Vals xs us):xs.length=us.length:=Rw r
theorem Vals.get:∀ {xs:List V} {us:jm} {i:Nat} {x:V},Vals xs us->xs[i]?=some x->∃u,us[i]?=some u/\RelV x u
 | _,_,_,_,.nil,e=>by simp at e
 | _,_,0,_,.cons r _,e=>by simp at e;subst e;exact⟨_,rfl,r⟩
 | _,_,i+1,x,.cons _ t,e=>by
   obtain⟨u,h1,h2⟩:=Vals.get (i:=i) (x:=x) t (by simpa using e)
   exact⟨u,by simpa using h1,h2⟩
theorem Vals.append:∀ {xs ys:List V} {us ws:jm},Vals xs us->Vals ys ws->Vals (xs++ys) (us++ws)
 | _,_,_,_,.nil,s=>s
 | _,_,_,_,.cons r t,s=>.cons r (Vals.append t s)
theorem Vals.take:∀ {xs:List V} {us:jm} (n:Nat),Vals xs us->Vals (xs.take n) (us.take n)
 | _,_,0,_=>.nil
 | _,_,_+1,.nil=>.nil
 | _,_,n+1,.cons r t=>.cons r (Vals.take n t)
theorem Vals.drop:∀ {xs:List V} {us:jm} (n:Nat),Vals xs us->Vals (xs.drop n) (us.drop n)
 | _,_,0,r=>r
 | _,_,_+1,.nil=>.nil
 | _,_,n+1,.cons _ t=>Vals.drop n t
def RelO:Option V->Option Value->Prop
 | some v,some u=>RelV v u
 | none,none=>True
 | _,_=>False
def KV {κ:Type}:List (κ×V)->List (κ×Value)->Prop:=Paired fun(p:κ×V) (q:κ×Value)=>p.1=q.1/\RelV p.2 q.2
def kV:Key->V
 | .inl i=>.int i
 | .inr x=>.str x
inductive HO where
 /-- a list -/
 | lst (xs:List V)
 /-- a tuple (never changes) -/
 | tup (xs:List V)
 /-- a dict whose keys are ints and texts; one whose keys are tuples of ints and texts (the empty one is both) -/
 | dK (j8:List (Key×V)) | dT (j8:List (List Key×V))
 /-- a set of ints: j6 members, j6 size -/
 | set (S:Int->Bool) (n:Nat)
 /-- an instance of the class at C, j6 dict at dx, j6 attributes -/
 | ins (C dx:Addr) (fs:List (Str×V))
 /-- the dict of the instance at x -/
 | own (x:Addr)
 /-- the dict of an exception -/
 | xd (fs:List (Str×V))
 /-- a bound method, f of x -/
 | met (f x:Addr)
 /-- a range object lo, lo + 1, .. below hi -/
 | rng (lo hi:Int)
 /-- a thing that is known to the object (the script; a dict while a loop walks it): read, never written while it is so -/
 | frz (o:Obj) (u:HO)
 /-- a code object's table -/
 | tbl (ps:jn)
 /-- any other thing, by what is true of j6 one object (a def of one's own: SetO a S n := HO.ext fun h => ..) -/
 | ext (φ:Heap->Prop)
abbrev Hp:=Addr->Option HO
def upd (H:Hp)(a:Addr)(o:HO):Hp:=fun b=>if b=a then some o else H b
theorem zL {H:Hp}{a:Addr}{o:HO}:upd H a o a=some o:=by unfold upd;rw[Qu rfl]
theorem zN {H:Hp}{a b:Addr}{o:HO}(h:b≠a):upd H a o b=H b:=by unfold upd;rw[Qs h]
theorem zPj {H:Hp}{a b:Addr}{o u:HO}(h:H a=some o)(h':H b=some u)(d:o≠u):a≠b:=by
 intro e;subst e;rw[h] at h';exact d (Wh h')
theorem zC {H:Hp}{a b:Addr}{o:HO}(h:H a=some o)(h':H b=none):a≠b:=by
 intro e;subst e;rw[h] at h';cases h'
section
variable (P:Program) (w:World)
def ObjOk (H:Hp)(h:Heap)(a:Addr):HO->Prop
 | .lst xs=>xs.length<=sizeLine/\∃(j6:jm) (n:Nat),Vals xs j6/\h.get? a=some { cls:=.type "list",data:=.seq j6.toArray n }
 | .tup xs=>xs.length<=sizeLine/\∃j6:List Value,Vals xs j6/\IsTup h a j6.toArray
 | .dK j8=>j8.length<=sizeLine/\(a==sysModules)=false/\∃vs,KV j8 vs/\h.DictOf (y9 P w) a vs
 | .dT j8=>j8.length<=sizeLine/\(a==sysModules)=false/\∃xs:List (List Key×Addr×Value),
     Paired (fun(p:List Key×V) (q:List Key×Addr×Value)=>p.1=q.1/\H q.2.1=some (.tup (p.1.map kV))/\RelV p.2 q.2.2) j8 xs /\
     ∃o es ep,h.get? a=some o/\o.ExactDict/\o.data = .dict es ep/\es.toList=xs.map (entryOfKey (tupleKind (y9 P w)))/\(xs.map (·.1)).Nodup
 | .set S n=>h.SetOf (intKind P w) a S n
 | .ins C dx fs=>H dx=some (.own a)/\fs.length<=1000/\dx≠a/\h.get? a=some (PySem.W.instObj C dx) /\
     ∃mA,h.Ns1 dx mA/\(∀f,RelO (fs.lookup f) (mA f))/\PySem.Within mA (fs.map (·.1))
 | .own _=>∃o,h.get? a=some o
 | .xd fs=>∃mA,h.Ns1 a mA/\∀f,RelO (fs.lookup f) (mA f)
 | .rng lo hi=>∃t u v,h.get? a=some { cls:=.type "range",data:=.fields #[.int lo t,.int hi u,.int 1 v] }
 | .frz o u=>h.get? a=some o/\ObjOk H h a u
 | .tbl ps=>h.get? a=some { cls:=.none,data:=.fields ps }
 | .met f x=>h.get? a=some (PySem.W.methodObj (.ref f) (.ref x))
 | .ext φ=>φ h/\(∃o,h.get? a=some o)/\∀h1 h2:Heap,φ h1->(∀o,h1.get? a=some o->h2.get? a=some o)->φ h2
def HOk (H:Hp)(h:Heap):Prop:=∀a o,H a=some o->ObjOk P w H h a o
end
section
variable {P:Program} {w:World} {H H':Hp} {h h':Heap} {a:Addr} {o:HO}
theorem ObjOk.lt (x:ObjOk P w H h a o):a < h.objs.size:=by
 cases o with
 | lst xs=>obtain⟨_,_,_,_,e⟩:=x;exact Qd e
 | tup xs=>obtain⟨_,_,_,p⟩:=x;exact p.lt
 | dK j8=>obtain⟨_,_,_,_,o,_,_,e,_⟩:=x;exact Qd e
 | dT j8=>obtain⟨_,_,_,_,o,_,_,e,_⟩:=x;exact Qd e
 | set S n=>obtain⟨o,_,_,_,e,_⟩:=x;exact Qd e
 | ins C dx fs=>obtain⟨_,_,_,e,_⟩:=x;exact Qd e
 | own y=>obtain⟨_,e⟩:=x;exact Qd e
 | xd fs=>obtain⟨_,⟨_,_,_,e,_⟩,_⟩:=x;exact Qd e
 | rng lo hi=>obtain⟨_,_,_,e⟩:=x;exact Qd e
 | frz ob u=>obtain⟨e,_⟩:=x;exact Qd e
 | tbl ps=>exact Qd (show h.get? a=some _ from x)
 | met f y=>exact Qd (show h.get? a=some _ from x)
 | ext φ=>obtain⟨_,⟨_,e⟩,_⟩:=x;exact Qd e
theorem Paired.mapP {α β:Type}{F G:α->β->Prop}:∀ {l₁:List α} {l₂:List β},Paired F l₁ l₂->(∀a b,F a b->G a b)->Paired G l₁ l₂
 | _,_,.nil,_=>.nil
 | _,_,.cons r t,f=>.cons (f _ _ r) (Paired.mapP t f)
theorem ObjOk.stay (x:ObjOk P w H h a o)(k:∀b u,(b=a∨H b=some (.own a))->h.get? b=some u->h'.get? b=some u)
   (ho:∀b,H b=some (.own a)->H' b=some (.own a)) (ht:∀b xs,H b=some (.tup xs)->H' b=some (.tup xs)):ObjOk P w H' h' a o:=by
 induction o with
 | lst xs=>obtain⟨z,j6,n,r,e⟩:=x;exact⟨z,j6,n,r,k _ _ (.inl rfl) e⟩
 | tup xs=>obtain⟨z,j6,r,ob,e,c⟩:=x;exact⟨z,j6,r,ob,k _ _ (.inl rfl) e,c⟩
 | dK j8=>obtain⟨z,y,vs,r,ob,es,ep,e,c⟩:=x;exact⟨z,y,vs,r,ob,es,ep,k _ _ (.inl rfl) e,c⟩
 | dT j8 =>
   obtain⟨z,y,xs,r,ob,es,ep,e,c⟩:=x
   exact⟨z,y,xs,Paired.mapP r fun p q z=>⟨z.1,ht _ _ z.2.1,z.2.2⟩,ob,es,ep,k _ _ (.inl rfl) e,c⟩
 | set S n=>obtain⟨ob,es,ep,t,e,c⟩:=x;exact⟨ob,es,ep,t,k _ _ (.inl rfl) e,c⟩
 | ins C dx fs =>
   obtain⟨d,z,ne,e,mA,⟨od,es,ep,e2,c⟩,r⟩:=x
   exact⟨ho _ d,z,ne,k _ _ (.inl rfl) e,mA,⟨od,es,ep,k _ _ (.inr d) e2,c⟩,r⟩
 | own y=>obtain⟨ob,e⟩:=x;exact⟨ob,k _ _ (.inl rfl) e⟩
 | xd fs=>obtain⟨mA,⟨od,es,ep,e,c⟩,r⟩:=x;exact⟨mA,⟨od,es,ep,k _ _ (.inl rfl) e,c⟩,r⟩
 | rng lo hi=>obtain⟨t,u,v,e⟩:=x;exact⟨t,u,v,k _ _ (.inl rfl) e⟩
 | frz ob u ih=>obtain⟨e,q⟩:=x;exact⟨k _ _ (.inl rfl) e,ih q⟩
 | tbl ps =>
   have e:h.get? a=some { cls:=.none,data:=.fields ps }:=x
   show h'.get? a=some { cls:=.none,data:=.fields ps }
   exact k a _ (.inl rfl) e
 | met f y =>
   have e:h.get? a=some (PySem.W.methodObj (.ref f) (.ref y)):=x
   show h'.get? a=some (PySem.W.methodObj (.ref f) (.ref y))
   exact k a _ (.inl rfl) e
 | ext φ=>obtain⟨p,⟨o,e⟩,st⟩:=x;exact⟨st _ _ p fun o q=>k _ _ (.inl rfl) q,⟨o,k _ _ (.inl rfl) e⟩,st⟩
theorem HOk.lt (x:HOk P w H h)(e:H a=some o):a < h.objs.size:=(x a o e).lt
theorem HOk.fresh (x:HOk P w H h)(e:h.objs.size<=a):H a=none:=by
 cases q:H a with
 | none=>rfl
 | some u=>exact absurd (Wy (x.lt q) e) (Wz _)
theorem HOk.kept (x:HOk P w H h)(k:∀b u,h.get? b=some u->h'.get? b=some u):HOk P w H h':=fun a o e =>
 (x a o e).stay (fun b u _ q=>k b u q) (fun _ q=>q) fun _ _ q=>q
theorem HOk.laid (x:HOk P w H h)(k:∀b u,h.get? b=some u->h'.get? b=some u)(hp:h.objs.size<=a)(new:ObjOk P w (upd H a o) h' a o):HOk P w (upd H a o) h':=fun b u e=>by
 have hn:=x.fresh hp
 by_cases hb:b=a
 · subst hb;rw[zL] at e;cases e;exact new
 · rw[zN hb] at e
   exact(x b u e).stay (fun c v _ q=>k c v q) (fun c q=>by rw[zN (zC q hn)];exact q) fun c xs q=>by rw[zN (zC q hn)];exact q
end
def Rd (H:Hp)(a:Addr)(u:HO):Prop:=H a=some u∨∃o,H a=some (.frz o u)
theorem Rd.ok {P:Program}{w:World}{H:Hp}{h:Heap}{a:Addr}{u:HO}(r:Rd H a u)(x:HOk P w H h):ObjOk P w H h a u:=by
 rcases r with r | ⟨o,r⟩
 · exact x a u r
 · obtain⟨_,q⟩:=x a _ r
   exact q
def Mut:Option HO->Prop
 | some (.lst _)=>True
 | some (.dK _)=>True
 | some (.dT _)=>True
 | some (.set _ _)=>True
 | some (.ins _ _ _)=>True
 | some (.ext _)=>True
 | _=>False
section
variable {P:Program} {w:World} {H:Hp} {h h':Heap} {x e:Addr} {o':HO}
theorem HOk.write (ok:HOk P w H h)(mu:Mut (H x))(he:e=x∨H e=some (.own x))(k:∀b u,b≠e->h.get? b=some u->h'.get? b=some u)(heo:∃u,h'.get? e=some u)
   (new:ObjOk P w (upd H x o') h' x o'):HOk P w (upd H x o') h':=fun b u q=>by
 have nown:∀c y,H c=some (.own y)->c≠x:=fun c y r z=>by subst z;rw[r] at mu;exact mu
 have ntup:∀c xs,H c=some (.tup xs)->c≠x:=fun c xs r z=>by subst z;rw[r] at mu;exact mu
 by_cases hb:b=x
 · subst hb;rw[zL] at q;cases q;exact new
 · rw[zN hb] at q
   by_cases hbe:b=e
   · have q':H b=some (.own x):=by
       rcases he with z | z
       · exact absurd (hbe.trans z) hb
       · rw[hbe];exact z
     rw[q] at q';cases q'
     obtain⟨v,hv⟩:=heo
     exact⟨v,by rw[hbe];exact hv⟩
   · refine(ok b u q).stay (fun c v hc r=>k c v ?_ r) (fun c r=>by rw[zN (nown c b r)];exact r) fun c xs r=>by rw[zN (ntup c xs r)];exact r
     rcases hc with rfl | hc
     · exact hbe
     · rintro rfl
       rcases he with z | z
       · exact nown c b hc z
       · rw[hc] at z;cases z;exact hb rfl
end
structure Un (fs ex:List Addr)(H H':Hp)(h h':Heap):Prop where
 keep:∀b o,h.get? b=some o->H b=none->b∉fs->b∉ex->h'.get? b=some o
 slot:∀b o,h.get? b=some o->H b=none->b∈fs->b∉ex->∃sl,h'.get? b=some { o with slots:=sl }
 free:∀b o,h.get? b=some o->H b=none->b∉ex->H' b=none
 there:∀b o,h.get? b=some o->b∉ex->∃o',h'.get? b=some o'
 tups:∀b xs,H b=some (.tup xs)->H' b=some (.tup xs)
 frzs:∀b o u,H b=some (.frz o u)->H' b=some (.frz o u)
 tbls:∀b ps,H b=some (.tbl ps)->∃more,H' b=some (.tbl (ps++more))
section
variable {fs ex:List Addr} {H H1 H2:Hp} {h h1 h2 h':Heap} {a x e:Addr} {o:HO}
theorem Un.any (u:Un fs ex H H1 h h1){b:Addr}{ob:Obj}(q:h.get? b=some ob)(n:H b=none)(hx:b∉ex):∃sl,h1.get? b=some { ob with slots:=sl }:=by
 by_cases hb:b∈fs
 · exact u.slot b ob q n hb hx
 · exact⟨ob.slots,u.keep b ob q n hb hx⟩
theorem Un.trans (a:Un fs ex H H1 h h1)(b:Un fs ex H1 H2 h1 h2):Un fs ex H H2 h h2 where
 keep:=fun c ob q n hc hx=>b.keep c ob (a.keep c ob q n hc hx) (a.free c ob q n hx) hc hx
 slot:=fun c ob q n hc hx=>by
   obtain⟨sl,e1⟩:=a.slot c ob q n hc hx
   obtain⟨sl',e2⟩:=b.slot c _ e1 (a.free c ob q n hx) hc hx
   exact⟨sl',e2⟩
 free:=fun c ob q n hx=>by
   obtain⟨o',e1⟩:=a.there c ob q hx
   exact b.free c o' e1 (a.free c ob q n hx) hx
 there:=fun c ob q hx=>by
   obtain⟨o',e1⟩:=a.there c ob q hx
   exact b.there c o' e1 hx
 tups:=fun c xs q=>b.tups c xs (a.tups c xs q)
 frzs:=fun c ob xs q=>b.frzs c ob xs (a.frzs c ob xs q)
 tbls:=fun c ps q=>by
   obtain⟨m1,e1⟩:=a.tbls c ps q
   obtain⟨m2,e2⟩:=b.tbls c _ e1
   exact⟨m1++m2,by rw[e2,Array.append_assoc]⟩
theorem Un.kept (k:∀b u,h.get? b=some u->h'.get? b=some u):Un fs ex H H h h' :=
 ⟨fun b ob q _ _ _=>k b ob q,fun b ob q _ _ _=>⟨ob.slots,k b ob q⟩,fun _ _ _ n _=>n,fun b ob q _=>⟨ob,k b ob q⟩,fun _ _ q=>q,fun _ _ _ q=>q,fun _ ps q=>⟨#[],by rw[q];simp⟩⟩
theorem Un.refl:Un fs ex H H h h:=Un.kept fun _ _ q=>q
theorem Un.laid (k:∀b u,h.get? b=some u->h'.get? b=some u)(hp:h.objs.size<=a)(hn:H a=none):Un fs ex H (upd H a o) h h' where
 keep:=fun b u q _ _ _=>k b u q
 slot:=fun b u q _ _ _=>⟨u.slots,k b u q⟩
 free:=fun b u q n _=>by rw[zN (Wi (Wy (Qd q) hp))];exact n
 there:=fun b u q _=>⟨u,k b u q⟩
 tups:=fun b xs q=>by rw[zN (zC q hn)];exact q
 frzs:=fun b u xs q=>by rw[zN (zC q hn)];exact q
 tbls:=fun b ps q=>⟨#[],by rw[zN (zC q hn),q];simp⟩
theorem Un.write (mu:Mut (H x))(he:e=x∨H e=some (.own x))(k:∀b u,b≠e->h.get? b=some u->h'.get? b=some u)(heo:∃u,h'.get? e=some u):Un fs ex H (upd H x o) h h':=by
 have hx:∀b,H b=none->b≠x:=fun b n z=>by subst z;rw[n] at mu;exact mu
 have hb:∀b,H b=none->b≠e:=fun b n z=>by
   subst z
   rcases he with r | r
   · exact hx b n r
   · rw[n] at r;cases r
 have hm:∀b u,H b=some u->¬Mut (some u)->b≠x:=fun b u q nm z=>by subst z;rw[q] at mu;exact nm mu
 refine⟨fun b u q n _ _=>k b u (hb b n) q,fun b u q n _ _=>⟨u.slots,k b u (hb b n) q⟩,fun b u q n _=>by rw[zN (hx b n)];exact n,fun b u q _=>?_,
   fun b xs q=>by rw[zN (hm b _ q fun z=>z)];exact q,fun b u xs q=>by rw[zN (hm b _ q fun z=>z)];exact q,fun b ps q=>⟨#[],by rw[zN (hm b _ q fun z=>z),q];simp⟩⟩
 by_cases hbe:b=e
 · subst hbe;exact heo
 · exact⟨u,k b u hbe q⟩
end
def trk (h:Heap)(H:Hp):List Addr:=(List.range h.objs.size).filter fun a=>(H a).isSome
def zXL (h:Heap)(H:Hp):Heap:=PySem.W.hideAll h (trk h H)
theorem zTs (h:Heap)(H:Hp):(zXL h H).objs.size=h.objs.size:=PySem.W.hideAll_size _ _
theorem zRZ {h:Heap}{H:Hp}{b:Addr}{o:Obj}(e:h.get? b=some o)(n:H b=none):(zXL h H).get? b=some o :=
 PySem.W.hideAll_get _ e fun hm=>by
   have q:(H b).isSome=true:=(Yq.mp hm).2
   rw[n] at q;simp at q
theorem zQK {h:Heap}{H:Hp}{b:Addr}{o:Obj}(e:(zXL h H).get? b=some o):h.get? b=some o/\H b=none:=by
 have e':h.get? b=some o:=PySem.W.of_hideAll (trk h H) e
 refine⟨e',?_⟩
 cases q:H b with
 | none=>rfl
 | some x =>
   have hm:b∈trk h H:=Yq.mpr ⟨Po.mpr (Qd e'),by simp[q]⟩
   have z:(zXL h H).get? b=none:=PySem.W.hideAll_none (trk h H) hm
   rw[z] at e;cases e
def zQ1 (g h:Heap)(L:Addr):jl:=(List.range h.objs.size).filterMap fun a=>if a=L∨(g.get? a).isSome=true then none else(h.get? a).map fun o=>(a,o)
def rest (g h:Heap)(L d:Addr):jl:=(zQ1 g h L).filter fun p=>decide (p.1≠d)
structure Mod (K:jh)(mg:Str->Option Value)(base:Heap):Prop where
 kin:K.In base
 glob:base.Ns mainGlobals mg
 blt:∃mb,base.Ns builtinsNs mb/\∀x:Str,x≠"__name__"->mb x=bootBuiltins x
 nolimit:base.NoLimit
/-- the context: a def's body (or a comprehension's block) running. base: fixed through the whole law; s₀, H₀: the entry; outer: the frames whose slots others may change (a def's callers); stack: all frames that run;
  ex: iterators that were made ahead of the entry and are walked here (a comprehension's);fn: the names whose cells were made at the entry (a def: all;a comprehension's block: j6 own);calm: not within an except suite;pn: Z that every state bears;xe: what is wanted of an exception that leaves the code -/
structure Cx where
 prog:Program
 w:World
 K:jh
 mg:Str->Option Value
 base:Heap
 A:Around
 N:List Str
 s₀:Shared
 H₀:Hp
 env:Env
 outer:List Env
 stack:List Env
 ex:List Addr
 fn:Str->Bool
 calm:Bool
 pn:jl
 xe:Value->Shared->Prop
def frs (l:List Env):List Addr:=l.filterMap (·.frame)
abbrev Cx.fs (X:Cx):List Addr:=frs X.outer
def Vis (sc:Scope)(x:Str):Prop:=sc.names.lookup x=some .local∨sc.names.lookup x=some .cell∨sc.names.lookup x=some .free
def Loc (sc:Scope)(x:Str):Prop:=sc.names.lookup x=some .local∨sc.names.lookup x=some .cell
def zMn (env:Env)(h:Heap)(m:Str->Option Value)(x:Str)(u:Value):Prop :=
 (env.kindOf x=some .local/\m x=some u)∨((env.kindOf x=some .cell∨env.kindOf x=some .free)/\∃c,env.cells.lookup x=some c/\h.IsCell c (some u))
structure Cx.Ok (X:Cx):Prop where
 mod:Mod X.K X.mg X.base
 kind:X.env.scope.kind = .function
 glob:X.env.globals=mainGlobals
 blt:X.env.builtins=builtinsNs
 above:X.s₀.heap.objs.size<=X.env.locals
 inj:∀x y c,X.env.cells.lookup x=some c->X.env.cells.lookup y=some c->x=y
 has:∀x,(X.env.kindOf x=some .cell∨X.env.kindOf x=some .free)->∃c,X.env.cells.lookup x=some c
 cab:∀x c,X.fn x=true->X.env.cells.lookup x=some c->X.s₀.heap.objs.size<=c
 hd:X.calm=true->X.A.handled=none
 frames:X.A.frames=some X.stack
 stk:X.stack=X.outer∨(X.stack=X.env::X.outer/\X.env.frame=some X.env.locals)
 exf:∀b∈X.ex,b≠X.env.locals/\∀x c,X.env.cells.lookup x=some c->c≠b
 bs:∀b o,X.base.get? b=some o->X.s₀.heap.get? b=some o/\X.H₀ b=none
 bsz:X.base.objs.size<=X.s₀.heap.objs.size
 noex:∀b o,X.base.get? b=some o->b∉X.ex
 exfs:∀b∈X.ex,b∉X.fs
 funs:X.s₀.heap.FunFrames X.base X.outer
 frf:∀b∈X.fs,X.H₀ b=none
structure Inv (X:Cx)(Z:jl)(σ:List (Option V))(H:Hp)(s:Shared):Prop where
 ok:X.Ok
 os:s.os=X.s₀.os
 bare:AllBare s.gens
 base:Un X.fs X.ex X.H₀ H X.s₀.heap s.heap
 loc:∃m,s.heap.Ns X.env.locals m/\∀(i:Nat) (x:Str) (v:V),X.N[i]?=some x->σ[i]?=some (some v)->Vis X.env.scope x->∃u,RelV v u/\zMn X.env s.heap m x u
 cell:∀x c,X.env.cells.lookup x=some c->∃v,s.heap.IsCell c v
 free:H X.env.locals=none
 freeC:∀x c,X.env.cells.lookup x=some c->H c=none
 pin:∀p∈X.pn++Z,s.heap.get? p.1=some p.2/\H p.1=none/\p.1≠X.env.locals/\p.1∉X.fs/\∀v,p.2.data ≠ .cell v
 hok:HOk X.prog X.w H s.heap
 len:σ.length=X.N.length
section
variable {X:Cx} {Z:jl} {σ:List (Option V)} {H H':Hp} {s:Shared} {h':Heap}
theorem Cx.Ok.nofr (ok:X.Ok){b:Addr}{o:Obj}(e:X.base.get? b=some o):b∉X.fs:=fun hb=>by
 have:=(ok.funs.mem hb).1
 rw[e] at this;cases this
theorem Inv.bs (I:Inv X Z σ H s):∀b o,X.base.get? b=some o->s.heap.get? b=some o/\H b=none:=fun b o e =>
 ⟨I.base.keep b o (I.ok.bs b o e).1 (I.ok.bs b o e).2 (I.ok.nofr e) (I.ok.noex b o e),I.base.free b o (I.ok.bs b o e).1 (I.ok.bs b o e).2 (I.ok.noex b o e)⟩
theorem Inv.bk (I:Inv X Z σ H s):∀b o,X.base.get? b=some o->s.heap.get? b=some o:=fun b o e=>(I.bs b o e).1
theorem Inv.mod (I:Inv X Z σ H s):Mod X.K X.mg X.base:=I.ok.mod
theorem Inv.kIn (I:Inv X Z σ H s):X.K.In s.heap:=I.ok.mod.kin.keeps I.bk
theorem Inv.lt (I:Inv X Z σ H s):X.env.locals < s.heap.objs.size:=let ⟨_,hn,_⟩:=I.loc;hn.lt
theorem Inv.sz (I:Inv X Z σ H s):X.s₀.heap.objs.size<=s.heap.objs.size:=Wp I.ok.above (Wb I.lt)
theorem Inv.nofs (I:Inv X Z σ H s){a:Addr}(h:s.heap.objs.size<=a):a∉X.fs:=fun hb=>by
 obtain⟨_,o,ho,_⟩:=I.ok.funs.mem hb
 exact absurd (Wy (Qd ho) (Wp I.sz h)) (Wz _)
theorem Inv.cne (I:Inv X Z σ H s):∀x c,X.env.cells.lookup x=some c->c≠X.env.locals:=fun x c e z=>by
 obtain⟨v,o,ho,hd⟩:=I.cell x c e
 obtain⟨m,⟨o',es,ep,ho',hd',_⟩,_⟩:=I.loc
 rw[z,ho'] at ho;cases ho;rw[hd'] at hd;cases hd
theorem Inv.funs (I:Inv X Z σ H s):s.heap.FunFrames X.base X.outer:=by
 have all:∀(l:List Env),(∀b∈frs l,b∈X.fs)->X.s₀.heap.FunFrames X.base l->s.heap.FunFrames X.base l:=by
   intro l
   induction l with
   | nil=>intro _ _;trivial
   | cons env r ih =>
     intro hs hl
     obtain⟨hk,⟨L,o,hf,hn,ho,hd⟩,hr⟩:=hl
     have hL:L∈X.fs:=hs L (by unfold frs;rw[Yc,hf];exact Qv)
     obtain⟨sl,e⟩:=I.base.slot L o ho (I.ok.frf L hL) hL fun z=>I.ok.exfs L z hL
     exact⟨hk,⟨L,_,hf,hn,e,hd⟩,ih (fun b hb=>hs b (by unfold frs;rw[Yc,hf];exact Qk _ hb)) hr⟩
 exact all X.outer (fun _ hb=>hb) I.ok.funs
theorem Inv.stack (I:Inv X Z σ H s):s.heap.FunFrames X.base X.stack:=by
 rcases I.ok.stk with e | ⟨e,hf⟩
 · rw[e];exact I.funs
 · rw[e]
   obtain⟨m,hn,_⟩:=I.loc
   refine .cons (by rw[I.ok.kind];decide) hf hn ?_ I.funs
   exact Heap.get?_none_of_le (Wp I.ok.bsz I.ok.above)
theorem Inv.stkSub (I:Inv X Z σ H s):∀b∈frs X.stack,b∈X.env.locals::X.fs:=fun b hb=>by
 rcases I.ok.stk with e | ⟨e,hf⟩
 · rw[e] at hb;exact Qk _ hb
 · rw[e] at hb
   unfold frs at hb
   rw[Yc,hf] at hb
   exact hb
theorem Inv.stkFree (I:Inv X Z σ H s):∀b∈frs X.stack,H b=none:=fun b hb=>by
 rcases Qa.mp (I.stkSub b hb) with e | hb
 · rw[e];exact I.free
 · obtain⟨_,o,ho,_⟩:=I.ok.funs.mem hb
   exact I.base.free b o ho (I.ok.frf b hb) fun z=>I.ok.exfs b z hb
theorem Inv.step {g':Array GenState}{t':Nat}{d':Drawn}{ch:List Addr}(I:Inv X Z σ H s)
   (hch:∀b∈ch,(b∈X.ex∨X.s₀.heap.objs.size<=b)/\b≠X.env.locals/\(∀x c,X.env.cells.lookup x=some c->c≠b)/\∀p∈X.pn++Z,p.1≠b)
   (keep:∀b o,b≠X.env.locals->b∉X.fs->b∉ch->s.heap.get? b=some o->H b=none->h'.get? b=some o)
   (slot:∀b o,b≠X.env.locals->b∈X.fs->b∉ch->s.heap.get? b=some o->H b=none->∃sl,h'.get? b=some { o with slots:=sl }) (free:∀b o,b∉ch->s.heap.get? b=some o->H b=none->H' b=none)
   (there:∀b o,b∉ch->s.heap.get? b=some o->∃o',h'.get? b=some o')
   (tups:∀b xs,H b=some (.tup xs)->H' b=some (.tup xs)) (frzs:∀b o u,H b=some (.frz o u)->H' b=some (.frz o u)) (tbls:∀b ps,H b=some (.tbl ps)->∃more,H' b=some (.tbl (ps++more)))
   (ns:∀m,s.heap.Ns X.env.locals m->h'.Ns X.env.locals m) (hok:HOk X.prog X.w H' h') (hg:AllBare g') :
   Inv X Z σ H' { s with heap:=h',gens:=g',drawn:=d',toks:=t' }:=by
 have neL:∀b o,X.s₀.heap.get? b=some o->b≠X.env.locals:=fun b o e=>Wi (Wy (Qd e) I.ok.above)
 have neC:∀b o,X.s₀.heap.get? b=some o->b∉X.ex->b∉ch:=fun b o e hx hb=>by
   rcases(hch b hb).1 with z | z
   · exact hx z
   · exact absurd (Wy (Qd e) z) (Wz _)
 have cellK:∀x c,X.env.cells.lookup x=some c->∀v,s.heap.IsCell c v->h'.IsCell c v:=fun x c e v ⟨o,ho,hd⟩=>by
   have nch:c∉ch:=fun z=>(hch c z).2.2.1 x c e rfl
   by_cases hc:c∈X.fs
   · obtain⟨sl,q⟩:=slot c o (I.cne x c e) hc nch ho (I.freeC x c e)
     exact⟨_,q,hd⟩
   · exact⟨o,keep c o (I.cne x c e) hc nch ho (I.freeC x c e),hd⟩
 refine⟨I.ok,I.os,hg,⟨fun b o e n hb hx=>?_,fun b o e n hb hx=>?_,fun b o e n hx=>?_,fun b o e hx=>?_,fun b xs e=>tups b xs (I.base.tups b xs e),fun b o xs e=>frzs b o xs (I.base.frzs b o xs e),fun b ps e=>?_⟩,?_,fun x c e=>?_,?_,fun x c e=>?_,fun p hp=>?_,hok,I.len⟩
 · exact keep b o (neL b o e) hb (neC b o e hx) (I.base.keep b o e n hb hx) (I.base.free b o e n hx)
 · obtain⟨sl,e1⟩:=I.base.slot b o e n hb hx
   obtain⟨sl',e2⟩:=slot b _ (neL b o e) hb (neC b o e hx) e1 (I.base.free b o e n hx)
   exact⟨sl',e2⟩
 · obtain⟨o',e1⟩:=I.base.there b o e hx
   exact free b o' (neC b o e hx) e1 (I.base.free b o e n hx)
 · obtain⟨o',e1⟩:=I.base.there b o e hx
   exact there b o' (neC b o e hx) e1
 · obtain⟨m1,e1⟩:=I.base.tbls b ps e
   obtain⟨m2,e2⟩:=tbls b _ e1
   exact⟨m1++m2,by rw[e2,Array.append_assoc]⟩
 · obtain⟨m,hn,hl⟩:=I.loc
   refine⟨m,ns m hn,fun i x v e1 e2 e3=>?_⟩
   obtain⟨u,r,l⟩:=hl i x v e1 e2 e3
   refine⟨u,r,?_⟩
   rcases l with l | ⟨k,c,e,z⟩
   · exact .inl l
   · exact .inr ⟨k,c,e,cellK x c e _ z⟩
 · obtain⟨v,z⟩:=I.cell x c e
   exact⟨v,cellK x c e v z⟩
 · obtain⟨m,⟨o,_,_,ho,_⟩,_⟩:=I.loc
   exact free _ o (fun z=>(hch _ z).2.1 rfl) ho I.free
 · obtain⟨v,o,ho,hd⟩:=I.cell x c e
   exact free c o (fun z=>(hch c z).2.2.1 x c e rfl) ho (I.freeC x c e)
 · obtain⟨e,n,ne,nf,d⟩:=I.pin p hp
   have nch:p.1∉ch:=fun z=>(hch p.1 z).2.2.2 p hp rfl
   exact⟨keep p.1 p.2 ne nf nch e n,free p.1 p.2 nch e n,ne,nf,d⟩
theorem Inv.un {t':Nat}(I:Inv X Z σ H s)(u:Un X.fs [] H H' s.heap h')(hok:HOk X.prog X.w H' h'):Inv X Z σ H' { s with heap:=h',toks:=t' }:=by
 obtain⟨m,⟨o,es,ep,ho,r⟩,_⟩:=id I.loc
 obtain⟨sl,hL⟩:=u.any ho I.free je
 exact I.step (g':=s.gens) (d':=s.drawn) (ch:=[]) (fun _ z=>nomatch z) (fun b o _ hb _ e n=>u.keep b o e n hb je) (fun b o _ hb _ e n=>u.slot b o e n hb je) (fun b o _ e n=>u.free b o e n je) (fun b o _ e=>u.there b o e je) u.tups u.frzs u.tbls (fun m' hm=>by
   obtain⟨o',es',ep',ho',r'⟩:=hm
   rw[ho] at ho';cases ho'
   exact⟨_,es',ep',hL,r'⟩) hok I.bare
theorem Inv.call {g':Array GenState}{t':Nat}{d':Drawn}{ch:List Addr}(I:Inv X Z σ H s)(u:Un (frs X.stack) ch H H' s.heap h')(hok:HOk X.prog X.w H' h')(hg:AllBare g')
   (hch:∀b∈ch,(b∈X.ex∨X.s₀.heap.objs.size<=b)/\b≠X.env.locals/\(∀x c,X.env.cells.lookup x=some c->c≠b)/\∀p∈X.pn++Z,p.1≠b) :
   Inv X Z σ H' { s with heap:=h',gens:=g',drawn:=d',toks:=t' }:=by
 obtain⟨m,⟨o,es,ep,ho,r⟩,_⟩:=id I.loc
 obtain⟨sl,hL⟩:=u.any ho I.free fun z=>(hch _ z).2.1 rfl
 exact I.step (ch:=ch) hch (fun b o hL hb hc e n=>u.keep b o e n (fun z=>(Qa.mp (I.stkSub b z)).elim hL hb) hc) (fun b o _ _ hc e n=>u.any e n hc) (fun b o hc e n=>u.free b o e n hc) (fun b o hc e=>u.there b o e hc) u.tups u.frzs u.tbls (fun m' hm=>by
   obtain⟨o',es',ep',ho',r'⟩:=hm
   rw[ho] at ho';cases ho'
   exact⟨_,es',ep',hL,r'⟩) hok hg
theorem Inv.turned {t':Nat}{it:Addr}(I:Inv X Z σ H s)(k:∀b o,b≠it->s.heap.get? b=some o->h'.get? b=some o)(hn:H it=none)(hL:it≠X.env.locals)
   (h1:it∈X.ex∨X.s₀.heap.objs.size<=it) (h2:∀x c,X.env.cells.lookup x=some c->c≠it) (h3:∀p∈X.pn++Z,p.1≠it):Inv X Z σ H { s with heap:=h',toks:=t' }:=by
 have nit:∀b u,H b=some u->b≠it:=fun b u e z=>by rw[z,hn] at e;cases e
 refine I.step (g':=s.gens) (d':=s.drawn) (ch:=[it]) (fun b hb=>?_) (fun b o _ _ hc e _=>k b o (fun z=>hc (by simp[z])) e) (fun b o _ _ hc e _=>⟨o.slots,k b o (fun z=>hc (by simp[z])) e⟩) (fun _ _ _ _ n=>n)
   (fun b o hc e=>⟨o,k b o (fun z=>hc (by simp[z])) e⟩) (fun _ _ e=>e) (fun _ _ _ e=>e) (fun b ps e=>⟨#[],by rw[e];simp⟩) (fun m hm=>?_) (fun b u e=>?_) I.bare
 · have e:b=it:=by simpa using hb
   subst e
   exact⟨h1,hL,h2,h3⟩
 · obtain⟨o,es,ep,ho,r⟩:=hm
   exact⟨o,es,ep,k _ o (Ne.symm hL) ho,r⟩
 · refine(I.hok b u e).stay (fun c v hc q=>k c v ?_ q) (fun _ q=>q) fun _ _ q=>q
   rcases hc with z | z
   · rw[z];exact nit b u e
   · exact nit c _ z
theorem Inv.tok (I:Inv X Z σ H s)(t:Nat):Inv X Z σ H { s with toks:=t }:=I.un (h':=s.heap) (t':=t) Un.refl I.hok
theorem Inv.kept {t':Nat}(I:Inv X Z σ H s)(k:∀b u,s.heap.get? b=some u->h'.get? b=some u):Inv X Z σ H { s with heap:=h',toks:=t' }:=I.un (Un.kept k) (I.hok.kept k)
theorem Inv.laid {a:Addr}{o:HO}{t':Nat}(I:Inv X Z σ H s)(k:∀b u,s.heap.get? b=some u->h'.get? b=some u)(hp:s.heap.objs.size<=a)(new:ObjOk X.prog X.w (upd H a o) h' a o) :
   Inv X Z σ (upd H a o) { s with heap:=h',toks:=t' }:=I.un (Un.laid k hp (I.hok.fresh hp)) (I.hok.laid k hp new)
theorem Inv.write {x e:Addr}{o:HO}{t':Nat}(I:Inv X Z σ H s)(mu:Mut (H x))(he:e=x∨H e=some (.own x))(k:∀b u,b≠e->s.heap.get? b=some u->h'.get? b=some u)(heo:∃u,h'.get? e=some u)
   (new:ObjOk X.prog X.w (upd H x o) h' x o):Inv X Z σ (upd H x o) { s with heap:=h',toks:=t' }:=I.un (Un.write mu he k heo) (I.hok.write mu he k heo new)
theorem Inv.pins_of {pins':jl}(I:Inv X Z σ H s)(h:∀p∈pins',s.heap.get? p.1=some p.2/\H p.1=none/\p.1≠X.env.locals/\p.1∉X.fs/\∀v,p.2.data ≠ .cell v):Inv X pins' σ H s :=
 ⟨I.ok,I.os,I.bare,I.base,I.loc,I.cell,I.free,I.freeC,fun p hp=>(Wq.mp hp).elim (fun z=>I.pin p (Yj _ z)) (h p),I.hok,I.len⟩
theorem zVQ {N:List Str}(hN:N.Nodup){i j:Nat}{x:Str}(a:N[i]?=some x)(b:N[j]?=some x):i=j:=by
 obtain⟨h1,e1⟩:=Qn.mp a
 obtain⟨h2,e2⟩:=Qn.mp b
 exact(List.getElem_inj hN).mp (e1.trans e2.symm)
theorem eY {M:Model}{A:Around}{E:jk}{i:Nat}{x:Str}{v:V}{u:Value}{Q:Unit->Shared->Prop}(I:Inv X Z σ H s)(hN:X.N.Nodup)(hi:X.N[i]?=some x)(hx:Loc X.env.scope x)(r:RelV v u)
   (h:∀s',Inv X Z (σ.set i (some v)) H s'->(∃a,Heap.SameBut a s.heap s'.heap/\(a=X.env.locals∨X.env.cells.lookup x=some a))->Q () s') (hf:X.fn x=true∨X.env.scope.names.lookup x=some .local:=by first | exact .inl rfl | exact .inr rfl | assumption):wpAny M A (storeName X.env x u) Q E s:=by
 obtain⟨m,hn,hl⟩:=id I.loc
 have hcls:(X.env.scope.kind == .class||(X.env.scope.kind == .module&&X.env.locals != X.env.globals))=false:=by rw[I.ok.kind];rfl
 have hiσ:i < σ.length:=by rw[I.len];exact(Qn.mp hi).1
 have cne:=I.cne
 have tracked:∀ {a:Addr} {h':Heap},(∃o,s.heap.get? a=some o/\H a=none)->Heap.SameBut a s.heap h'->HOk X.prog X.w H h':=fun {a h'} ha hs b ob e=>by
   obtain⟨_,_,hfree⟩:=ha
   refine(I.hok b ob e).stay (fun c w' hc q=>(hs.2 c ?_).trans q) (fun _ q=>q) fun _ _ q=>q
   rintro rfl
   rcases hc with rfl | hc
   · rw[hfree] at e;cases e
   · rw[hfree] at hc;cases hc
 rcases hx with hk | hk
 · refine wpAny_storeName_local hk hn (fun h' hn' hs=>?_) hcls
   obtain⟨oL,_,_,hoL,_⟩:=id hn
   refine h _ ⟨I.ok,I.os,I.bare,⟨fun b o e n hb hx=>?_,fun b o e n hb hx=>?_,I.base.free,fun b o e hx=>?_,I.base.tups,I.base.frzs,I.base.tbls⟩,⟨_,hn',fun j y v' e1 e2 e3=>?_⟩,fun y c e=>?_,I.free,I.freeC,fun p hp=>?_,tracked ⟨oL,hoL,I.free⟩ hs,by simpa using I.len⟩ ⟨_,hs,.inl rfl⟩
   · exact(hs.2 b (Wi (Wy (Qd e) I.ok.above))).trans (I.base.keep b o e n hb hx)
   · obtain⟨sl,e1⟩:=I.base.slot b o e n hb hx
     exact⟨sl,(hs.2 b (Wi (Wy (Qd e) I.ok.above))).trans e1⟩
   · obtain⟨o',e1⟩:=I.base.there b o e hx
     exact⟨o',(hs.2 b (Wi (Wy (Qd e) I.ok.above))).trans e1⟩
   · by_cases hj:j=i
     · subst hj
       rw[hi] at e1;cases e1
       rw[Ep hiσ] at e2
       cases e2
       exact⟨u,r,.inl ⟨hk,je⟩⟩
     · rw[Ql (Ne.symm hj)] at e2
       obtain⟨u',r',q⟩:=hl j y v' e1 e2 e3
       refine⟨u',r',?_⟩
       rcases q with⟨k,e⟩ | ⟨k,c,e,z⟩
       · refine .inl ⟨k,?_⟩
         have:y≠x:=fun e=>hj (zVQ hN e1 (e ▸ hi))
         simp[this,e]
       · exact .inr ⟨k,c,e,z.sameBut hs (cne y c e)⟩
   · obtain⟨w',z⟩:=I.cell y c e
     exact⟨w',z.sameBut hs (cne y c e)⟩
   · obtain⟨e,n,ne,nf,d⟩:=I.pin p hp
     exact⟨(hs.2 p.1 ne).trans e,n,ne,nf,d⟩
 · have hfn:X.fn x=true:=by
     rcases hf with z | z
     · exact z
     · rw[z] at hk;cases hk
   obtain⟨c,hc⟩:=I.ok.has x (.inl hk)
   obtain⟨w',z⟩:=I.cell x c hc
   refine wpAny_storeName_cell I.ok.kind hk hc z (fun h' hc' hs=>?_)
   obtain⟨oc,hoc,hocd⟩:=id z
   refine h { s with heap:=h' } ⟨I.ok,I.os,I.bare,⟨fun b o e n hb hx=>?_,fun b o e n hb hx=>?_,I.base.free,fun b o e hx=>?_,I.base.tups,I.base.frzs,I.base.tbls⟩,⟨m,hn.sameBut hs (Ne.symm (cne x c hc)),fun j y v' e1 e2 e3=>?_⟩,fun y c' e=>?_,I.free,I.freeC,fun p hp=>?_,tracked ⟨oc,hoc,I.freeC x c hc⟩ hs,by simpa using I.len⟩ ⟨c,hs,.inr hc⟩
   · exact(hs.2 b (Wi (Wy (Qd e) (I.ok.cab x c hfn hc)))).trans (I.base.keep b o e n hb hx)
   · obtain⟨sl,e1⟩:=I.base.slot b o e n hb hx
     exact⟨sl,(hs.2 b (Wi (Wy (Qd e) (I.ok.cab x c hfn hc)))).trans e1⟩
   · obtain⟨o',e1⟩:=I.base.there b o e hx
     exact⟨o',(hs.2 b (Wi (Wy (Qd e) (I.ok.cab x c hfn hc)))).trans e1⟩
   · by_cases hj:j=i
     · subst hj
       rw[hi] at e1;cases e1
       rw[Ep hiσ] at e2
       cases e2
       exact⟨u,r,.inr ⟨.inl hk,c,hc,hc'⟩⟩
     · rw[Ql (Ne.symm hj)] at e2
       obtain⟨u',r',q⟩:=hl j y v' e1 e2 e3
       refine⟨u',r',?_⟩
       rcases q with q | ⟨k,c',e,z'⟩
       · exact .inl q
       · refine .inr ⟨k,c',e,z'.sameBut hs ?_⟩
         rintro rfl
         exact hj (zVQ hN e1 (I.ok.inj _ _ _ e hc ▸ hi))
   · by_cases hcc:c'=c
     · subst hcc;exact⟨_,hc'⟩
     · obtain⟨w2,z2⟩:=I.cell y c' e
       exact⟨w2,z2.sameBut hs hcc⟩
   · obtain⟨e,n,ne,nf,d⟩:=I.pin p hp
     refine⟨(hs.2 p.1 ?_).trans e,n,ne,nf,d⟩
     intro q
     rw[q,hoc] at e
     have q':oc=p.2:=Wh e
     exact d w' (by rw[←q'];exact hocd)
theorem qB {M:Model}{A:Around}{E:jk}{i:Nat}{x:Str}{v:V}{u:Value}{Q:Unit->Shared->Prop}(I:Inv X Z σ H s)(hN:X.N.Nodup)(hi:X.N[i]?=some x)(hx:Loc X.env.scope x)(r:RelV v u)
   (h:∀s',Inv X Z (σ.set i (some v)) H s'->Q () s') (hf:X.fn x=true∨X.env.scope.names.lookup x=some .local:=by first | exact .inl rfl | exact .inr rfl | assumption):wpAny M A (storeName X.env x u) Q E s :=
 eY I hN hi hx r (fun s' I' _=>h s' I') hf
theorem Inv.call' {s':Shared}{ch:List Addr}(I:Inv X Z σ H s)(ho:s'.os=s.os)(u:Un (frs X.stack) ch H H' s.heap s'.heap)(hok:HOk X.prog X.w H' s'.heap)(hg:AllBare s'.gens)
   (hch:∀b∈ch,(b∈X.ex∨X.s₀.heap.objs.size<=b)/\b≠X.env.locals/\(∀x c,X.env.cells.lookup x=some c->c≠b)/\∀p∈X.pn++Z,p.1≠b):Inv X Z σ H' s':=by
 obtain⟨h',g',d',t',o'⟩:=s'
 have e:o'=s.os:=ho
 subst e
 exact I.call (g':=g') (t':=t') (d':=d') u hok hg hch
end
abbrev XK:=Value->Option Addr->Hp->Prop
abbrev St:=List (Option V)
abbrev VK:=V->Hp->Prop
abbrev TE:=St->Hp->VK->Prop
abbrev TT:=St->Hp->(Bool->Hp->Prop)->Prop
abbrev TA:=St->Hp->(List V->Hp->Prop)->Prop
structure Ends where
 nx:St->Hp->Prop
 rt:VK
 bk:St->Hp->Prop:=fun _ _=>False
 ct:St->Hp->Prop:=fun _ _=>False
abbrev TS:=Ends->St->Hp->Prop
def EP (X:Cx)(Z:jl)(σ:St)(Q:VK)(u:Value)(s':Shared):Prop:=∃v H',Inv X Z σ H' s'/\RelV v u/\Q v H'
def TP (X:Cx)(Z:jl)(σ:St)(Q:Bool->Hp->Prop)(b:Bool)(s':Shared):Prop:=∃H',Inv X Z σ H' s'/\Q b H'
def AP (X:Cx)(Z:jl)(σ:St)(Q:List V->Hp->Prop)(us:jm)(s':Shared):Prop:=∃vs H',Inv X Z σ H' s'/\Vals vs us/\Q vs H'
def SP (X:Cx)(Z:jl)(D:Ends)(f:Flow)(s':Shared):Prop :=
 match f with
 | .next=>∃σ' H',Inv X Z σ' H' s'/\D.nx σ' H'
 | .brk=>∃σ' H',Inv X Z σ' H' s'/\D.bk σ' H'
 | .cont=>∃σ' H',Inv X Z σ' H' s'/\D.ct σ' H'
 | .ret u=>∃v σ' H',Inv X Z σ' H' s'/\RelV v u/\D.rt v H'
def PE (X:Cx)(e:Expr)(t:TE):Prop :=
 ∀(Z:jl) (s:Shared) (σ:St) (H:Hp) (Q:VK),Inv X Z σ H s->t σ H Q->wpAny (model X.prog X.w) X.A (eval e X.env) (EP X Z σ Q) X.xe s
def PT (X:Cx)(e:Expr)(t:TT):Prop :=
 ∀(Z:jl) (s:Shared) (σ:St) (H:Hp) (Q:Bool->Hp->Prop),Inv X Z σ H s->t σ H Q->wpAny (model X.prog X.w) X.A (isTrue e X.env (eval e X.env)) (TP X Z σ Q) X.xe s
def PW (X:Cx)(e:Expr)(t:TT):Prop :=
 ∀(whole:Sem Value) (Z:jl) (s:Shared) (σ:St) (H:Hp) (Q:Bool->Hp->Prop),Inv X Z σ H s->t σ H Q->wpAny (model X.prog X.w) X.A (isTrue e X.env whole) (TP X Z σ Q) X.xe s
theorem PW.pt {X:Cx}{e:Expr}{t:TT}(h:PW X e t):PT X e t:=h _
def PA (X:Cx)(es:List Expr)(t:TA):Prop :=
 ∀(pos:Pos) (Z:jl) (s:Shared) (σ:St) (H:Hp) (Q:List V->Hp->Prop),Inv X Z σ H s->t σ H Q->wpAny (model X.prog X.w) X.A (spliced (backTo pos (starEach es X.env))) (AP X Z σ Q) X.xe s
def PS (X:Cx)(st:Stmt)(t:TS):Prop :=
 ∀(Z:jl) (s:Shared) (σ:St) (H:Hp) (D:Ends),Inv X Z σ H s->t D σ H->wpAny (model X.prog X.w) X.A (exec st X.env) (SP X Z D) X.xe s
def PSs (X:Cx)(st:List Stmt)(t:TS):Prop :=
 ∀(Z:jl) (s:Shared) (σ:St) (H:Hp) (D:Ends),Inv X Z σ H s->t D σ H->wpAny (model X.prog X.w) X.A (execs st X.env) (SP X Z D) X.xe s
theorem thn {α:Type}{t:Sem α}{Q Q':α->Shared->Prop}{M:Model}{A:Around}{E:jk}{s:Shared}(h:wpAny M A t Q E s)(hQ:∀a s,Q a s->Q' a s):wpAny M A t Q' E s:=Te h hQ fun _ _ x=>x
section
variable {X:Cx}
def zTp (i:Nat):TE:=fun σ H Q=>∃v,σ[i]?=some (some v)/\Q v H
def tC (v:V):TE:=fun _ H Q=>Q v H
theorem sW {i:Nat}{x:Str}{pos:Pos}(hN:X.N[i]?=some x)(hv:Vis X.env.scope x)(hd:(x==("__debug__":Str))=false:=by decide)(hcd:(x==("__classdict__":Str))=false:=by decide):PE X (.Name x pos) (zTp i):=by
 intro Z s σ H Q I h
 obtain⟨v,e,h⟩:=h
 obtain⟨m,hn,hl⟩:=I.loc
 obtain⟨u,r,l⟩:=hl i x v hN e hv
 have fin:EP X Z σ Q u s:=⟨v,H,I,r,h⟩
 rcases l with⟨hk,hm⟩ | ⟨hk,c,hc,hcell⟩
 · exact wpAny_Name (wpAny_loadName_local I.ok.kind hk hn hm fin) hd
 · rcases hk with hk | hk
   · exact wpAny_Name (wpAny_loadName_cell I.ok.kind hk hc hcell fin) hd
   · exact wpAny_Name (wpAny_loadName_free I.ok.kind hk hc hcell fin hcd) hd
theorem zO5 {i j pos}:PE X (.Constant (.int i) j pos) (tC (.int i)):=fun _ _ _ H _ I h=>wpAny_Constant_int ⟨.int i,H,I.tok _,⟨_,rfl⟩,h⟩
theorem zMU {b j pos}:PE X (.Constant (.bool b) j pos) (tC (.bl b)):=fun _ _ _ H _ I h=>Constant_bool ⟨.bl b,H,I,rfl,h⟩
theorem zSS {j pos}:PE X (.Constant .none j pos) (tC .non):=fun _ _ _ H _ I h=>Constant_none ⟨.non,H,I,rfl,h⟩
theorem zSw {x j pos}:PE X (.Constant (.str x) j pos) (tC (.str x)):=fun _ _ _ H _ I h=>Calls.Constant_str ⟨.str x,H,I.tok _,⟨_,rfl⟩,h⟩
def Gl (X:Cx)(x:Str):Prop:=X.env.kindOf x=some .globalImplicit
theorem nB {E:jk}{Z:jl}{s:Shared}{σ:St}{H:Hp}{x:Str}{u:Value}{pos:Pos}{Q:jk}(I:Inv X Z σ H s)(hg:Gl X x)(hm:X.mg x=some u)(h:Q u s)
   (hd:(x==("__debug__":Str))=false:=by decide):wpAny (model X.prog X.w) X.A (eval (.Name x pos) X.env) Q E s :=
 Pu I.ok.kind hg (Calls.loadGlobal_global (by rw[I.ok.glob];exact I.mod.glob.keeps I.bk) hm h) hd
theorem lM {E:jk}{Z:jl}{s:Shared}{σ:St}{H:Hp}{x:Str}{u:Value}{pos:Pos}{Q:jk}(I:Inv X Z σ H s)(hg:Gl X x)(hm:X.mg x=none)(hv:bootBuiltins x=some u)(h:Q u s)
   (hn:x≠"__name__":=by decide) (hd:(x==("__debug__":Str))=false:=by decide):wpAny (model X.prog X.w) X.A (eval (.Name x pos) X.env) Q E s:=by
 obtain⟨mb,h1,h2⟩:=I.mod.blt
 exact Pu I.ok.kind hg (Calls.loadGlobal_builtin (by rw[I.ok.glob];exact I.mod.glob.keeps I.bk) hm (by rw[I.ok.blt];exact h1.keeps I.bk) ((h2 x hn).trans hv) h) hd
theorem zQJ {x:Str}{v:V}{u:Value}{pos:Pos}(hg:Gl X x)(hm:X.mg x=some u)(r:RelV v u)(hd:(x==("__debug__":Str))=false:=by decide):PE X (.Name x pos) (tC v) :=
 fun _ _ _ H _ I h=>nB I hg hm ⟨v,H,I,r,h⟩ hd
theorem zU0 {x:Str}{v:V}{u:Value}{pos:Pos}(hg:Gl X x)(hm:X.mg x=none)(hv:bootBuiltins x=some u)(r:RelV v u)(hn:x≠"__name__":=by decide)(hd:(x==("__debug__":Str))=false:=by decide):PE X (.Name x pos) (tC v) :=
 fun _ _ _ H _ I h=>lM I hg hm hv ⟨v,H,I,r,h⟩ hn hd
variable {a b:Expr} {ta tb:TE} {pos:Pos}
def tB (t:TE):TT:=fun σ H Q=>t σ H fun x H1=>∃c,x = .bl c/\Q c H1
theorem zSt {e:Expr}{t:TE}(h:PE X e t)(he:∀whole,isTrue e X.env whole=(do let v ←whole;standAt e.pos;holding [v] (truthy v)):=by intro _;rfl):PT X e (tB t):=by
 intro Z s σ H Q I hw
 refine isTrue_plain (thn (h Z s σ H _ I hw) fun v s1 ⟨x,H1,I1,r1,q1⟩=>?_) (he _)
 obtain⟨d,rfl,q⟩:=q1
 cases r1
 exact Tz ⟨H1,I1,q⟩
variable {tA tB':TT} {rest:List Expr}
def zMA (t u:TT):TT:=fun σ H Q=>t σ H fun c H1=>if c=true then u σ H1 Q else Q false H1
def tOr (t u:TT):TT:=fun σ H Q=>t σ H fun c H1=>if c=true then Q true H1 else u σ H1 Q
def zMf (t:TT):TT:=fun σ H Q=>t σ H fun c H1=>Q (!c) H1
theorem zU2 (ha:PT X a tA):PW X (.BoolOp .And [a] pos) tA:=by
 intro wh Z s σ H Q I h
 refine isTrue_and (thn (ha Z s σ H Q I h) fun c s1 e=>?_)
 cases c with
 | true=>exact isTrue_and_nil e
 | false=>exact e
theorem zO1 (ha:PT X a tA):PW X (.BoolOp .Or [a] pos) tA:=by
 intro wh Z s σ H Q I h
 refine isTrue_or (thn (ha Z s σ H Q I h) fun c s1 e=>?_)
 cases c with
 | false=>exact isTrue_or_nil e
 | true=>exact e
theorem zRw (ha:PT X a tA)(hb:PW X (.BoolOp .And (b::rest) pos) tB'):PW X (.BoolOp .And (a::b::rest) pos) (zMA tA tB'):=by
 intro wh Z s σ H Q I h
 refine isTrue_and (thn (ha Z s σ H _ I h) fun c s1 ⟨H1,I1,q1⟩=>?_)
 cases c with
 | true=>exact hb wh Z s1 σ H1 Q I1 q1
 | false=>exact⟨H1,I1,q1⟩
theorem zNj (ha:PT X a tA)(hb:PW X (.BoolOp .Or (b::rest) pos) tB'):PW X (.BoolOp .Or (a::b::rest) pos) (tOr tA tB'):=by
 intro wh Z s σ H Q I h
 refine isTrue_or (thn (ha Z s σ H _ I h) fun c s1 ⟨H1,I1,q1⟩=>?_)
 cases c with
 | true=>exact⟨H1,I1,q1⟩
 | false=>exact hb wh Z s1 σ H1 Q I1 q1
theorem zRY (ha:PT X a tA):PT X (.UnaryOp .Not a pos) (zMf tA):=by
 intro Z s σ H Q I h
 exact isTrue_not (ha Z s σ H (fun c H1=>Q (!c) H1) I h)
def zNv (ta tb:TE):TE:=fun σ H Q=>ta σ H fun x H1=>∃c,x = .bl c/\if c=true then tb σ H1 Q else Q (.bl false) H1
def zME (ta:TE):TE:=fun σ H Q=>ta σ H fun x H1=>∃c,x = .bl c/\Q (.bl (!c)) H1
theorem zNJ {op}{t:TE}(h:PE X a t):PE X (.BoolOp op [a] pos) t:=fun Z s σ H Q I hw=>BoolOp_one (h Z s σ H Q I hw)
theorem zNE (ha:PE X a ta)(hb:PE X (.BoolOp .And (b::rest) pos) tb):PE X (.BoolOp .And (a::b::rest) pos) (zNv ta tb):=by
 intro Z s σ H Q I h
 refine BoolOp_and (thn (ha Z s σ H _ I h) fun v s1 ⟨x,H1,I1,r1,q1⟩=>?_)
 obtain⟨c,rfl,q1⟩:=q1
 cases r1
 refine Tz ?_
 cases c with
 | true=>exact hb Z s1 σ H1 Q I1 q1
 | false=>exact⟨.bl false,H1,I1,rfl,q1⟩
theorem zOB (ha:PE X a ta):PE X (.UnaryOp .Not a pos) (zME ta):=by
 intro Z s σ H Q I h
 refine UnaryOp_ (thn (ha Z s σ H _ I h) fun v s1 ⟨x,H1,I1,r1,q1⟩=>?_)
 obtain⟨c,rfl,q1⟩:=q1
 cases r1
 exact not_of (Tz ⟨.bl (!c),H1,I1,rfl,q1⟩)
def tIf (t:TT)(ta tb:TE):TE:=fun σ H Q=>t σ H fun c H1=>if c=true then ta σ H1 Q else tb σ H1 Q
theorem zSK {c:Expr}(hc:PT X c tA)(ha:PE X a ta)(hb:PE X b tb):PE X (.IfExp c a b pos) (tIf tA ta tb):=by
 intro Z s σ H Q I h
 refine wpAny_IfExp (thn (hc Z s σ H _ I h) fun d s1 ⟨H1,I1,q1⟩=>?_)
 cases d with
 | true=>exact ha Z s1 σ H1 Q I1 q1
 | false=>exact hb Z s1 σ H1 Q I1 q1
end
def SqL (K:jh)(H:Hp)(a:Addr)(xs:List V):Prop :=
 Rd H a (.lst xs) ∨
   ∃(o:Obj) (j6:jn) (n:Nat),K.lookup a=some o/\o.cls = .type "list"/\o.dict=none/\o.data = .seq j6 n/\j6.size<=sizeLine/\Vals xs j6.toList
def SqT (K:jh)(H:Hp)(a:Addr)(xs:List V):Prop :=
 Rd H a (.tup xs) ∨
   ∃(o:Obj) (j6:jn) (n:Nat),K.lookup a=some o/\o.cls = .type "tuple"/\o.data = .seq j6 n/\j6.size<=sizeLine/\Vals xs j6.toList
def zMj:Value->Option V
 | .none=>some .non
 | .bool b=>some (.bl b)
 | .int i _=>some (.int i)
 | .str x _=>some (.str x)
 | .bytes b _=>some (.byt b)
 | .float b _=>some (.flt b)
 | .ref a=>some (.ref a)
 | .type n=>some (.ty n)
 | _=>none
theorem RelV.abs {x:V}{u:Value}(r:RelV x u):zMj u=some x:=by
 cases x with
 | non=>cases r;rfl
 | bl _=>cases r;rfl
 | int _=>obtain⟨t,rfl⟩:=r;rfl
 | str _=>obtain⟨t,rfl⟩:=r;rfl
 | byt _=>obtain⟨t,rfl⟩:=r;rfl
 | flt _=>obtain⟨t,rfl⟩:=r;rfl
 | ref _=>cases r;rfl
 | ty _=>cases r;rfl
theorem RelV.inj {x y:V}{u:Value}(r:RelV x u)(q:RelV y u):x=y:=Wh (r.abs.symm.trans q.abs)
theorem Vals.inj:∀ {xs ys:List V} {us:jm},Vals xs us->Vals ys us->xs=ys
 | _,_,_,.nil,.nil=>rfl
 | _,_,_,.cons r t,.cons r' t'=>by rw[r.inj r',Vals.inj t t']
section
variable {X:Cx} {Z:jl} {σ:St} {H:Hp} {s:Shared} {a:Addr} {xs ys:List V}
theorem SqL.of {K:jh}(h:H a=some (.lst xs)):SqL K H a xs:=.inl (.inl h)
theorem SqT.of {K:jh}(h:H a=some (.tup xs)):SqT K H a xs:=.inl (.inl h)
theorem Inv.list (I:Inv X Z σ H s)(h:SqL X.K H a xs):∃j6:List Value,Vals xs j6/\PlainL s.heap a j6.toArray/\xs.length<=sizeLine:=by
 rcases h with h | ⟨o,j6,n,hk,hc,hd,hs,hz,r⟩
 · obtain⟨z,j6,n,r,e⟩:=h.ok I.hok
   exact⟨j6,r,⟨_,n,e,rfl,rfl,rfl⟩,z⟩
 · refine⟨j6.toList,r,⟨o,n,I.kIn a o hk,hc,hd,by simpa using hs⟩,?_⟩
   have e:=r.length
   simp only[Wk] at e
   lia
theorem Inv.tuple (I:Inv X Z σ H s)(h:SqT X.K H a xs):∃j6:List Value,Vals xs j6/\IsTup s.heap a j6.toArray/\xs.length<=sizeLine:=by
 rcases h with h | ⟨o,j6,n,hk,hc,hs,hz,r⟩
 · obtain⟨z,j6,r,p⟩:=h.ok I.hok
   exact⟨j6,r,p,z⟩
 · refine⟨j6.toList,r,⟨o,I.kIn a o hk,hc,n,by simpa using hs⟩,?_⟩
   have e:=r.length
   simp only[Wk] at e
   lia
theorem Inv.list_inj (I:Inv X Z σ H s)(h:SqL X.K H a xs)(h':SqL X.K H a ys):xs=ys:=by
 obtain⟨j6,r,⟨o,n,e,_,_,d⟩,_⟩:=I.list h
 obtain⟨its',r',⟨o',n',e',_,_,d'⟩,_⟩:=I.list h'
 rw[e] at e';cases e'
 rw[d] at d'
 injection d' with d1 _
 have:j6=its':=by simpa using Eo Array.toList d1
 subst this
 exact r.inj r'
theorem Inv.tuple_inj (I:Inv X Z σ H s)(h:SqT X.K H a xs)(h':SqT X.K H a ys):xs=ys:=by
 obtain⟨j6,r,⟨o,e,_,n,d⟩,_⟩:=I.tuple h
 obtain⟨its',r',⟨o',e',_,n',d'⟩,_⟩:=I.tuple h'
 rw[e] at e';cases e'
 rw[d] at d'
 injection d' with d1 _
 have:j6=its':=by simpa using Eo Array.toList d1
 subst this
 exact r.inj r'
end
abbrev Cx.wish (X:Cx)(E:jk):Cx:={ X with xe:=E }
abbrev Cx.nox (X:Cx):Cx:=X.wish fun _ _=>False
theorem Cx.Ok.wish {X:Cx}(ok:X.Ok)(E:jk):(X.wish E).Ok :=
 ⟨ok.mod,ok.kind,ok.glob,ok.blt,ok.above,ok.inj,ok.has,ok.cab,ok.hd,ok.frames,ok.stk,ok.exf,ok.bs,ok.bsz,ok.noex,ok.exfs,ok.funs,ok.frf⟩
theorem Cx.Ok.unwish {X:Cx}{E:jk}(ok:(X.wish E).Ok):X.Ok :=
 ⟨ok.mod,ok.kind,ok.glob,ok.blt,ok.above,ok.inj,ok.has,ok.cab,ok.hd,ok.frames,ok.stk,ok.exf,ok.bs,ok.bsz,ok.noex,ok.exfs,ok.funs,ok.frf⟩
section
variable {X:Cx} {Z:jl} {σ:St} {H:Hp} {s:Shared} {E:jk}
theorem Inv.wish (I:Inv X Z σ H s)(E:jk):Inv (X.wish E) Z σ H s:=⟨I.ok.wish E,I.os,I.bare,I.base,I.loc,I.cell,I.free,I.freeC,I.pin,I.hok,I.len⟩
theorem Inv.unwish (I:Inv (X.wish E) Z σ H s):Inv X Z σ H s:=⟨I.ok.unwish,I.os,I.bare,I.base,I.loc,I.cell,I.free,I.freeC,I.pin,I.hok,I.len⟩
theorem SP.unwish {D:Ends}{f:Flow}{s':Shared}(h:SP (X.wish E) Z D f s'):SP X Z D f s':=by
 cases f with
 | next=>obtain⟨σ',H',I,q⟩:=h;exact⟨σ',H',I.unwish,q⟩
 | brk=>obtain⟨σ',H',I,q⟩:=h;exact⟨σ',H',I.unwish,q⟩
 | cont=>obtain⟨σ',H',I,q⟩:=h;exact⟨σ',H',I.unwish,q⟩
 | ret u=>obtain⟨v,σ',H',I,r,q⟩:=h;exact⟨v,σ',H',I.unwish,r,q⟩
theorem PSs.nox {st:List Stmt}{t:TS}(h:PSs X.nox st t):PSs X st t:=fun Z s σ H D I hw =>
 Te (h Z s σ H D (I.wish _) hw) (fun _ _ q=>q.unwish) fun _ _ z=>False.elim z
variable {st:Stmt} {rest:List Stmt} {t u:TS} {e:Expr} {te:TE} {pos:Pos}
def zOZ:TS:=fun D σ H=>D.nx σ H
def zMv (t u:TS):TS:=fun D σ H=>t { D with nx:=u D } σ H
theorem cK:PSs X [] zOZ:=fun _ _ σ H _ I h=>Ud ⟨σ,H,I,h⟩
theorem qE (h1:PS X st t)(h2:PSs X rest u):PSs X (st::rest) (zMv t u):=by
 intro Z s σ H D I h
 refine Ol (thn (h1 Z s σ H { D with nx:=u D } I h) fun f s1 q=>?_)
 cases f with
 | next =>
   obtain⟨σ',H',I',q⟩:=q
   exact h2 Z s1 σ' H' D I' q
 | ret v=>exact q
 | brk=>exact q
 | cont=>exact q
theorem cA (h1:PS X st t):PSs X [st] t:=by
 intro Z s σ H D I h
 refine Ol (thn (h1 Z s σ H D I h) fun f s1 q=>?_)
 cases f with
 | next=>exact Ud q
 | ret v=>exact q
 | brk=>exact q
 | cont=>exact q
theorem Inv.quiet {Z:jl}{σ:St}{H:Hp}{s:Shared}(I:Inv X Z σ H s):interactive X.env=false:=by simp[interactive,I.ok.kind]
def zNm (te:TE):TS:=fun D σ H=>te σ H fun _ H1=>D.nx σ H1
theorem pM (he:PE X e te)(hs:swapsWith e none pos.line X.env=pure false:=by rfl):PS X (.Expr e pos) (zNm te):=by
 intro Z s σ H D I h
 exact wpAny_Expr_any (thn (he Z s σ H _ I h) fun v s1 ⟨x,H1,I1,r1,q1⟩=>⟨σ,H1,I1,q1⟩) I.quiet hs
def zMr (te:TE):TS:=fun D σ H=>te σ H D.rt
theorem zYn (he:PE X e te):PS X (.Return (some e) pos) (zMr te):=by
 intro Z s σ H D I h
 exact wpAny_Return_some (thn (he Z s σ H _ I h) fun v s1 ⟨x,H1,I1,r1,q1⟩=>⟨x,σ,H1,I1,r1,q1⟩)
def zMg (c:TT)(t u:TS):TS:=fun D σ H=>c σ H fun b H1=>if b=true then t D σ H1 else u D σ H1
theorem zZ2 {c:Expr}{a b:List Stmt}{tc:TT}(hc:PT X c tc)(ha:PSs X a t)(hb:PSs X b u):PS X (.If c a b pos) (zMg tc t u):=by
 intro Z s σ H D I h
 refine wpAny_If (thn (hc Z s σ H _ I h) fun d s1 ⟨H1,I1,q1⟩=>?_)
 cases d with
 | true=>exact ha Z s1 σ H1 D I1 q1
 | false=>exact hb Z s1 σ H1 D I1 q1
end
abbrev TG:=V->St->Hp->(St->Hp->Prop)->Prop
abbrev TGs:=List V->St->Hp->(St->Hp->Prop)->Prop
def PG (X:Cx)(target:Expr)(t:TG):Prop :=
 ∀(Z:jl) (s:Shared) (σ:St) (H:Hp) (v:V) (u:Value) (Q:St->Hp->Prop),Inv X Z σ H s->RelV v u->t v σ H Q ->
   wpAny (model X.prog X.w) X.A (assign target X.env u) (fun _ s'=>∃σ' H',Inv X Z σ' H' s'/\Q σ' H') X.xe s
def PGs (X:Cx)(ts:List Expr)(t:TGs):Prop :=
 ∀(Z:jl) (s:Shared) (σ:St) (H:Hp) (vs:List V) (us:jm) (Q:St->Hp->Prop),Inv X Z σ H s->Vals vs us->t vs σ H Q ->
   wpAny (model X.prog X.w) X.A (assignInOrder ((assignEach ts X.env).map (·.2)) us) (fun _ s'=>∃σ' H',Inv X Z σ' H' s'/\Q σ' H') X.xe s
abbrev zOt:=V->V->V->Hp->(Hp->Prop)->Prop
def zMK (X:Cx)(t:zOt):Prop :=
 ∀(Z:jl) (s:Shared) (σ:St) (H:Hp) (o i v:V) (ov iv u:Value) (Q:Hp->Prop),Inv X Z σ H s->RelV o ov->RelV i iv->RelV v u->t o i v H Q ->
   wpAny (model X.prog X.w) X.A (setItem ov iv u) (fun _ s'=>∃H',Inv X Z σ H' s'/\Q H') X.xe s
abbrev TIp:=V->V->Hp->VK->Prop
def PIp (X:Cx)(op:Operator)(t:TIp):Prop :=
 ∀(Z:jl) (s:Shared) (σ:St) (H:Hp) (x y:V) (v u:Value) (Q:VK),Inv X Z σ H s->RelV x v->RelV y u->t x y H Q ->
   wpAny (model X.prog X.w) X.A (inplaceOp op v u) (EP X Z σ Q) X.xe s
section
variable {X:Cx} {pos:Pos}
def zWs (i:Nat):TG:=fun v σ H Q=>Q (σ.set i (some v)) H
theorem nN {i:Nat}{x:Str}(hN:X.N.Nodup)(hi:X.N[i]?=some x)(hx:Loc X.env.scope x)(hf:X.fn x=true∨X.env.scope.names.lookup x=some .local:=by first | exact .inl rfl | exact .inr rfl | assumption):PG X (.Name x pos) (zWs i):=by
 intro Z s σ H v u Q I r h
 exact wpAny_assign_Name (qB I hN hi hx r (fun s' I'=>⟨_,H,I',h⟩) hf)
def zM7:TGs:=fun vs σ H Q=>vs=[]/\Q σ H
def zMR (t:TG)(u:TGs):TGs:=fun vs σ H Q=>∃v r,vs=v::r/\t v σ H fun σ' H'=>u r σ' H' Q
theorem zX4:PGs X [] zM7:=by
 intro Z s σ H vs us Q I r h
 obtain⟨e,h⟩:=h
 subst e
 cases r
 exact assignInOrder_nil ⟨σ,H,I,h⟩
theorem qQ {e:Expr}{es:List Expr}{t:TG}{u:TGs}(h1:PG X e t)(h2:PGs X es u)
   (hs:(assignEach (e::es) X.env).map (·.2)=assign e X.env::(assignEach es X.env).map (·.2):=by rfl):PGs X (e::es) (zMR t u):=by
 intro Z s σ H vs us Q I r h
 obtain⟨v,vr,e1,h⟩:=h
 subst e1
 cases r with
 | cons r rr =>
   rw[hs]
   refine Uw (thn (h1 Z s σ H _ _ _ I r h) fun _ s1 ⟨σ1,H1,I1,q1⟩=>?_)
   exact h2 Z s1 σ1 H1 _ _ Q I1 rr q1
def zMu (K:jh)(n:Nat)(t:TGs):TG:=fun v σ H Q=>∃a xs,v = .ref a/\SqT K H a xs/\xs.length=n/\t xs σ H Q
theorem zVK {es:List Expr}{k:Nat}{t:TGs}{n:Nat}(hc:X.calm=true)(h:PGs X es t)
   (hn:(assignEach es X.env).length=n:=by rfl) (hst:(assignEach es X.env).findIdx? (·.1)=none:=by rfl):PG X (.Tuple es k pos) (zMu X.K n t):=by
 intro Z s σ H v u Q I r hw
 obtain⟨a,xs,e1,hq,hl,hw⟩:=hw
 subst e1
 cases r
 obtain⟨j6,rv,ht,hz⟩:=I.tuple hq
 refine assign_Tuple_tuple (I.ok.hd hc) ht (by simp[hn,←hl,rv.length]) hst fun h' hx=>?_
 have I1:Inv X Z σ H { s with heap:=h' }:=I.kept (t':=s.toks) fun b o e=>hx b o (Wi (Qd e)) e
 exact h Z _ σ H xs _ Q I1 (by simpa using rv) hw
def zMy (to ti:TE)(t:zOt):TG:=fun v σ H Q=>to σ H fun o H1=>ti σ H1 fun i H2=>t o i v H2 fun H3=>Q σ H3
theorem zOL {o i:Expr}{to ti:TE}{t:zOt}(ho:PE X o to)(hi:PE X i ti)(hs:zMK X t)
   (ha:∀v,assign (.Subscript o i pos) X.env v=(do
     let ov ←holding [v] (eval o X.env)
     let iv ←holding [v,ov] (eval i X.env)
     standAt pos
     holding [v,ov,iv] (setItem ov iv v)
     release [v,ov,iv] []):=by intro _;rfl):PG X (.Subscript o i pos) (zMy to ti t):=by
 intro Z s σ H v u Q I r h
 rw[ha]
 refine Qe (Re (thn (ho Z s σ H _ I h) fun ov s1 ⟨x,H1,I1,r1,q1⟩=>?_))
 refine Qe (Re (thn (hi Z s1 σ H1 _ I1 q1) fun iv s2 ⟨y,H2,I2,r2,q2⟩=>?_))
 refine Qe (Yl (Qe (Re (thn (hs Z s2 σ H2 x y v ov iv u _ I2 r1 r2 r q2) fun _ s3 ⟨H3,I3,q3⟩=>?_))))
 exact wpAny_release ⟨σ,H3,I3,q3⟩
def zTb (te:TE)(g:TG):TS:=fun D σ H=>te σ H fun x H1=>g x σ H1 D.nx
theorem zYv {tg e:Expr}{te:TE}{g:TG}(he:PE X e te)(hg:PG X tg g)(hs:swapsWithSole [tg] e pos.line X.env=pure false:=by rfl)(hw:swappedStores [tg] e X.env=pure none:=by rfl)
   (h1:(assignEach [tg] X.env).map (·.2)=[assign tg X.env]:=by rfl):PS X (.Assign [tg] e pos) (zTb te g):=by
 intro Z s σ H D I h
 refine wpAny_Assign_stores (thn (he Z s σ H _ I h) fun v s1 ⟨x,H1,I1,r1,q1⟩=>?_) hs hw
 rw[h1]
 exact thn (hg Z s1 σ H1 x v _ I1 r1 q1) fun _ s2 q=>q
theorem eT {i:Nat}{x:Str}{e:Expr}{te:TE}{pos':Pos}(hN:X.N.Nodup)(hi:X.N[i]?=some x)(hx:Loc X.env.scope x)(he:PE X e te)(hs:swapsWith e (some (.Name x pos')) pos.line X.env=pure false:=by rfl)(hf:X.fn x=true∨X.env.scope.names.lookup x=some .local:=by first | exact .inl rfl | exact .inr rfl | assumption) :
   PS X (.Assign [.Name x pos'] e pos) (zTb te (zWs i)):=by
 intro Z s σ H D I h
 refine wpAny_Assign_Name (thn (he Z s σ H _ I h) fun v s1 ⟨y,H1,I1,r1,q1⟩=>?_) hs
 exact qB I1 hN hi hx r1 (fun s2 I2=>⟨_,H1,I2,q1⟩) hf
def zMw (i:Nat)(te:TE)(ti:TIp):TS:=fun D σ H=>∃x,σ[i]?=some (some x)/\te σ H fun y H1=>ti x y H1 fun z H2=>D.nx (σ.set i (some z)) H2
theorem zNK {i:Nat}{x:Str}{e:Expr}{te:TE}{op:Operator}{ti:TIp}{pos':Pos}(hN:X.N.Nodup)(hi:X.N[i]?=some x)(hx:Loc X.env.scope x)(he:PE X e te)(ho:PIp X op ti)(hf:X.fn x=true∨X.env.scope.names.lookup x=some .local:=by first | exact .inl rfl | exact .inr rfl | assumption) :
   PS X (.AugAssign (.Name x pos') op e pos) (zMw i te ti):=by
 intro Z s σ H D I h
 obtain⟨v,e1,h⟩:=h
 obtain⟨m,hn,hl⟩:=I.loc
 have vis:Vis X.env.scope x:=by rcases hx with k | k;exact .inl k;exact .inr (.inl k)
 obtain⟨u,r,l⟩:=hl i x v hi e1 vis
 refine wpAny_AugAssign_Name ?_
 have go:wpAny (model X.prog X.w) X.A (eval e X.env) (fun w s₂=>wpAny (model X.prog X.w) X.A (inplaceOp op u w) (fun r s₃ => wpAny (model X.prog X.w) X.A (storeName X.env x r) (fun _=>SP X Z D .next) X.xe s₃) X.xe s₂) X.xe s:=by
   refine thn (he Z s σ H _ I h) fun w s1 ⟨y,H1,I1,r1,q1⟩=>?_
   refine thn (ho Z s1 σ H1 v y u w _ I1 r r1 q1) fun z s2 ⟨zv,H2,I2,r2,q2⟩=>?_
   exact qB I2 hN hi hx r2 (fun s3 I3=>⟨_,H2,I3,q2⟩) hf
 rcases l with⟨hk,hm⟩ | ⟨hk,c,hc,hcell⟩
 · exact wpAny_loadName_local I.ok.kind hk hn hm go
 · rcases hk with hk | hk
   · exact wpAny_loadName_cell I.ok.kind hk hc hcell go
   · rcases hx with k | k
     · have:X.env.scope.names.lookup x=some .free:=hk
       rw[k] at this;cases this
     · have:X.env.scope.names.lookup x=some .free:=hk
       rw[k] at this;cases this
def ipI (f:Int->Int->Int):TIp:=fun x y H Q=>∃i j,x = .int i/\y = .int j/\Q (.int (f i j)) H
theorem zOJ:PIp X .Add (ipI fun i j=>i+j):=by
 intro Z s σ H x y v u Q I r1 r2 h
 obtain⟨i,j,e1,e2,q⟩:=h
 subst e1;subst e2
 obtain⟨t,rfl⟩:=r1
 obtain⟨t',rfl⟩:=r2
 exact iadd_int ⟨.int _,H,I.tok _,⟨_,rfl⟩,q⟩
def zOs (c:TT)(tb:TS):TS:=fun D σ H=>∃W:Nat->St->Hp->Prop,(∃m,W m σ H)/\∀m σ H,W m σ H ->
 c σ H fun b H1=>if b=true then ∃N:St->Hp->Prop,(∀σ' H',N σ' H'->∃m',m' < m/\W m' σ' H')/\tb { D with nx:=N,ct:=N,bk:=D.nx } σ H1 else D.nx σ H1
theorem zSg {c:Expr}{body:List Stmt}{tc:TT}{tb:TS}(hp:PassesOwn (model X.prog X.w) X.A X.env X.xe)(hc:PT X c tc)(hb:PSs X body tb):PS X (.While c body [] pos) (zOs tc tb):=by
 intro Z s σ H D I h
 obtain⟨W,⟨m0,w0⟩,turn⟩:=h
 refine wpAny_While (codeAny_whileLoop (fun n s'=>∃σ' H',Inv X Z σ' H' s'/\W n σ' H') ?_ m0 ⟨σ,H,I,w0⟩)
 rintro n s1 ⟨σ1,H1,I1,w1⟩
 refine Tp hp (thn (hc Z s1 σ1 H1 _ I1 (turn n σ1 H1 w1)) fun b s2 ⟨H2,I2,q2⟩=>?_)
 cases b with
 | true =>
   obtain⟨N,hN,q2⟩:=q2
   rw[Qu rfl]
   refine Tp hp (thn (hb Z s2 σ1 H2 _ I2 q2) fun f s3 q3=>?_)
   cases f with
   | next =>
     obtain⟨σ3,H3,I3,n3⟩:=q3
     obtain⟨m',hm,w3⟩:=hN σ3 H3 n3
     exact⟨m',hm,σ3,H3,I3,w3⟩
   | cont =>
     obtain⟨σ3,H3,I3,n3⟩:=q3
     obtain⟨m',hm,w3⟩:=hN σ3 H3 n3
     exact⟨m',hm,σ3,H3,I3,w3⟩
   | brk=>exact q3
   | ret v=>exact q3
 | false =>
   rw[Qs Wa]
   exact Ud ⟨σ1,H2,I2,q2⟩
end
structure It where
 go:Nat->Hp->Prop
 yld:Nat->Hp->V->Hp->Prop
 stop:Nat->Hp->Prop
def iC (X:Cx)(Z:jl)(H:Hp)(b:Addr):Prop :=
 H b=none/\b≠X.env.locals/\b∉X.fs/\(b∈X.ex∨X.s₀.heap.objs.size<=b)/\(∀x c,X.env.cells.lookup x=some c->c≠b)/\∀p∈X.pn++Z,p.1≠b
theorem Inv.fpOk {X:Cx}{Z:jl}{σ:St}{H H':Hp}{s:Shared}{b:Addr}(I:Inv X Z σ H s)(hb:s.heap.objs.size<=b)(hn:H' b=none):iC X Z H' b:=by
 refine⟨hn,Nat.ne_of_gt (Wy I.lt hb),I.nofs hb,.inr (Wp I.sz hb),fun x c e z=>?_,fun p hp z=>?_⟩
 · obtain⟨v,q⟩:=I.cell x c e
   exact absurd (Wy q.lt (by rw[z];exact hb)) (Wz _)
 · exact absurd (Wy (Qd (I.pin p hp).1) (by rw[z];exact hb)) (Wz _)
structure Turn (P:Program)(w:World)(K:jh)(tg:Expr)(J:It)(fp:List Addr)(it:Addr)(tn:Nat->Heap->Prop):Prop where
 mem:it∈fp
 obj:∀i h,tn i h->∀b∈fp,∃o,h.get? b=some o/\∀v,o.data ≠ .cell v
 keep:∀i h h',tn i h->(∀b∈fp,∀o,h.get? b=some o->h'.get? b=some o)->tn i h'
 item:∀(X:Cx),X.prog=P->X.w=w->X.K=K->X.calm=true->∀(i:Nat) (Z:jl) (s:Shared) (σ:St) (H:Hp) (E:jk),Inv X Z σ H s->(∀b∈fp,iC X Z H b)->tn i s.heap->J.go i H ->
   wpAny (model P w) X.A (pyNext (.ref it)) (fun r s1=>∃u,r=some u /\
     wpAny (model P w) X.A (letOwnedTupleGo tg (.ref it) u) (fun _ s2=>∃x H',Inv X Z σ H' s2/\RelV x u/\J.yld i H x H'/\tn (i+1) s2.heap/\∀b∈fp,H' b=none) E s1) E s
 done:∀(X:Cx),X.prog=P->X.w=w->X.K=K->X.calm=true->∀(i:Nat) (Z:jl) (s:Shared) (σ:St) (H:Hp) (E:jk),Inv X Z σ H s->(∀b∈fp,iC X Z H b)->tn i s.heap->J.stop i H ->
   wpAny (model P w) X.A (pyNext (.ref it)) (fun r s1=>r=none/\Inv X Z σ H s1) E s
 self:∀(A:Around) (i:Nat) (s:Shared) (Q:jk) (E:jk),tn i s.heap->Q (.ref it) s->wpAny (model P w) A (pyIter (.ref it)) Q E s
abbrev TI:=St->Hp->(It->Hp->Prop)->Prop
def PIE (X:Cx)(Z:jl)(σ:St)(tg:Expr)(R:It->Hp->Prop)(itv:Value)(s2:Shared):Prop :=
 ∃(it:Addr) (fp:List Addr) (tn:Nat->Heap->Prop) (J:It) (H':Hp),itv = .ref it/\Inv X Z σ H' s2/\Turn X.prog X.w X.K tg J fp it tn/\tn 0 s2.heap/\(∀b∈fp,iC X Z H' b)/\R J H'
def PI (X:Cx)(tg iter:Expr)(wi:TI):Prop :=
 ∀(Z:jl) (s:Shared) (σ:St) (H:Hp) (R:It->Hp->Prop),Inv X Z σ H s->wi σ H R ->
   wpAny (model X.prog X.w) X.A (eval iter X.env) (fun v s1=>wpAny (model X.prog X.w) X.A (pyIter v) (PIE X Z σ tg R) X.xe s1) X.xe s
theorem zPt {M:Model}{A:Around}{E:jk}{s:Shared}{tg:Expr}{it:Addr}{u:Value}{o:Obj}{n:String}{vs:jn}{Q:Unit->Shared->Prop}(ho:s.heap.get? it=some o)(hc:o.cls = .type n)(hd:o.data = .fields vs)
   (hn:["enumerate","zip","dict_itemiterator","dict_reverseitemiterator","odict_iterator","itertools.zip_longest","itertools.pairwise"].contains n=false) (hQ:Q () s):wpAny M A (letOwnedTupleGo tg (.ref it) u) Q E s:=by
 unfold letOwnedTupleGo
 cases tg<;>first
   | exact Qh hQ
   | (cases u<;>first
       | exact Qh hQ
       | (refine Qe (wpAny_load ho ?_)
          rw[hc,hd]
          show wpAny M A (if (["enumerate","zip","dict_itemiterator","dict_reverseitemiterator","odict_iterator","itertools.zip_longest","itertools.pairwise"].contains n&&vs[0]?==some (rawInt _))=true then _ else _) Q E s
          rw[Qs (by intro h;rw[hn,Pp] at h;cases h)]
          exact Qh hQ))
def Itl (K:jh)(a:Addr):It :=
 ⟨fun i H=>∃xs x,SqL K H a xs/\xs[i]?=some x,fun i H x H'=>H'=H/\∀xs,SqL K H a xs->xs[i]?=some x,fun i H=>∃xs,SqL K H a xs/\xs.length<=i⟩
def Itr (lo:Int)(n:Nat):It:=⟨fun i _=>i < n,fun i H x H'=>H'=H/\x = .int (lo+i),fun i _=>n<=i⟩
theorem zTl {P:Program}{w:World}{K:jh}{tg:Expr}(a it:Addr):Turn P w K tg (Itl K a) [it] it (fun i h=>h.IsListIter it a i) where
 mem:=je
 obj:=fun i h st b hb=>by
   have e:b=it:=by simpa using hb
   subst e
   obtain⟨o,e,c,d⟩:=st
   exact⟨o,e,fun v z=>by rw[d] at z;cases z⟩
 keep:=fun i h h' st k=>st.at fun o e=>k it je o e
 item:=by
   intro X hP hw hK hc i Z s σ H E I hf st hg
   subst hP hw hK
   obtain⟨xs,x,hq,hx⟩:=hg
   obtain⟨j6,rv,p,hz⟩:=I.list hq
   obtain⟨u,hu,ru⟩:=rv.get hx
   obtain⟨f0,f1,f2,f3,f4,f5⟩:=hf it je
   refine wpAny_pyNext_list_item st p.isList (x:=u) (by simpa using hu) fun h' st' sb=>?_
   have I1:Inv X Z σ H { s with heap:=h' }:=I.turned (t':=s.toks) (fun b o hb e=>(sb.2 b hb).trans e) f0 f1 f3 f4 f5
   obtain⟨o,e,c,d⟩:=id st'
   exact⟨u,rfl,zPt (s:={ s with heap:=h' }) e c d jb ⟨x,H,I1,ru,⟨rfl,fun ys hy=>by rw[I.list_inj hy hq];exact hx⟩,st',fun b hb=>(hf b hb).1⟩⟩
 done:=by
   intro X hP hw hK hc i Z s σ H E I hf st hg
   subst hP hw hK
   obtain⟨xs,hq,hx⟩:=hg
   obtain⟨j6,rv,p,hz⟩:=I.list hq
   obtain⟨f0,f1,f2,f3,f4,f5⟩:=hf it je
   have hl:=rv.length
   exact wpAny_pyNext_list_end (I.ok.hd hc) st p.isList (by simp;lia) fun h' eb=>⟨rfl,I.turned (t':=s.toks) (fun b o hb e=>eb b o hb e) f0 f1 f3 f4 f5⟩
 self:=fun _ _ _ _ _ st h=>wpAny_pyIter_listiter st h
theorem zVj {P:Program}{w:World}{K:jh}{tg:Expr}(it:Addr)(lo:Int)(n:Nat):Turn P w K tg (Itr lo n) [it] it (fun i h=>IsRangeIter h it (lo+(i:Nat)*1) ((n:Int) - (i:Nat)) 1) where
 mem:=je
 obj:=fun i h st b hb=>by
   have e:b=it:=by simpa using hb
   subst e
   exact⟨_,st,fun v z=>by
     have z':Data.fields _=Data.cell v:=z
     cases z'⟩
 keep:=fun i h h' st k=>k it je _ st
 item:=by
   intro X hP hw hK hc i Z s σ H E I hf st hg
   subst hP hw hK
   obtain⟨f0,f1,f2,f3,f4,f5⟩:=hf it je
   have W:=Walks.range (prog:=X.prog) (w:=X.w) (I.ok.hd hc) it lo 1 n
   refine W.item i s _ _ hg st fun v h' tk hv st' kk=>?_
   obtain⟨t,rfl⟩:=hv
   have I1:Inv X Z σ H { s with heap:=h',toks:=tk }:=I.turned (fun b o hb e=>kk b o (by simpa using hb) e) f0 f1 f3 f4 f5
   refine⟨_,rfl,zPt (s:={ s with heap:=h',toks:=tk }) (n:="range_iterator") st' rfl rfl jb ⟨.int (lo+i),H,I1,⟨t,?_⟩,⟨rfl,rfl⟩,st',fun b hb=>(hf b hb).1⟩⟩
   rw[Int.mul_one]
 done:=by
   intro X hP hw hK hc i Z s σ H E I hf st hg
   subst hP hw hK
   obtain⟨f0,f1,f2,f3,f4,f5⟩:=hf it je
   exact wpAny_pyNext_range_end (I.ok.hd hc) st (by have:n<=i:=hg;lia) fun h' eb=>⟨rfl,I.turned (t':=s.toks) (fun b o hb e=>eb b o hb e) f0 f1 f3 f4 f5⟩
 self:=fun _ _ _ _ _ st h=>wpAny_pyIter_rangeiter st h
section
variable {X:Cx} {tg:Expr}
def zNp (K:jh)(tl:TE):TI:=fun σ H R=>tl σ H fun x H1=>∃a,x = .ref a/\(∃xs,SqL K H1 a xs)/\R (Itl K a) H1
theorem zTT {l:Expr}{tl:TE}(hl:PE X l tl):PI X tg l (zNp X.K tl):=by
 intro Z s σ H R I h
 refine thn (hl Z s σ H _ I h) fun v s1 ⟨x,H1,I1,r1,q1⟩=>?_
 obtain⟨a,e,⟨xs,hq⟩,q⟩:=q1
 subst e
 cases r1
 obtain⟨j6,rv,p,hz⟩:=I1.list hq
 refine Oe p.isList ?_
 refine⟨s1.heap.objs.size,[s1.heap.objs.size],_,_,H1,rfl,I1.kept (t':=s1.toks) fun b o e=>Qy _ e,zTl a _,⟨_,Ww _ rfl,rfl,rfl⟩,fun b hb=>?_,q⟩
 have e:b=s1.heap.objs.size:=by simpa using hb
 subst e
 exact I1.fpOk (Qf _) (I1.hok.fresh (Qf _))
theorem zRL {Z:jl}{σ:St}{H:Hp}{s:Shared}{R:It->Hp->Prop}{E:jk}{lo hi:Int}{t u v:Tok}{tk:Nat}(I:Inv X Z σ H s)(h1 : -(2^62)<=lo)(h2:lo < 2^62)(h3 : -(2^62)<=hi)(h4:hi < 2^62)
   (q:R (Itr lo (hi - lo).toNat) H):wpAny (model X.prog X.w) X.A (pyIter (.ref s.heap.objs.size)) (PIE X Z σ tg R) E { s with heap:=s.heap.push { cls:=.type "range",data:=.fields #[.int lo t,.int hi u,.int 1 v] },toks:=tk }:=by
 refine wpAny_pyIter_range (IsRange.new ..) (small_one h1 h2 h3 h4) ?_
 have I1:Inv X Z σ H { s with heap:=s.heap.push { cls:=.type "range",data:=.fields #[.int lo t,.int hi u,.int 1 v] },toks:=tk }:=I.kept fun b o e=>Qy _ e
 refine⟨(s.heap.push { cls:=.type "range",data:=.fields #[.int lo t,.int hi u,.int 1 v] }).objs.size,[(s.heap.push { cls:=.type "range",data:=.fields #[.int lo t,.int hi u,.int 1 v] }).objs.size],_,_,H,rfl,
   I1.kept (t':=tk) fun b o e=>Qy _ e,zVj _ lo (hi - lo).toNat,?_,fun b hb=>?_,q⟩
 · have e1:lo+((0:Nat):Int)*1=lo:=by simp
   have e2:(((hi - lo).toNat:Nat):Int) - ((0:Nat):Int)=Builtin.Range.rangeSize lo hi 1:=by rw[rangeSize_one];split<;>lia
   show IsRangeIter _ _ (lo+((0:Nat):Int)*1) ((((hi - lo).toNat:Nat):Int) - ((0:Nat):Int)) 1
   rw[e1,e2]
   exact Ww _ rfl
 · have e:b=(s.heap.push { cls:=.type "range",data:=.fields #[.int lo t,.int hi u,.int 1 v] }).objs.size:=by simpa using hb
   subst e
   exact I1.fpOk (Qf _) (I1.hok.fresh (Qf _))
def zMX (ta:TA):TI:=fun σ H R=>ta σ H fun vs H1=>∃j:Int,vs=[.int j] /\ -(2^62)<=j/\j < 2^62/\R (Itr 0 j.toNat) H1
theorem zT7 {a:Expr}{ta:TA}{p pos:Pos}(hg:Gl X "range")(hm:X.mg "range"=none)(ha:PA X [a] ta)(hs:starEach [a] X.env=[(false,eval a X.env)]:=by rfl):PI X tg (.Call (.Name "range" p) [a] [] pos) (zMX ta):=by
 intro Z s σ H R I h
 refine Call_ (lM I hg hm boot_range (Ta (thn (ha pos Z s σ H _ I h) fun us s1 ⟨vs,H1,I1,r1,q1⟩=>?_) hs rfl))
 obtain⟨j,e,q1,q2,q⟩:=q1
 subst e
 cases r1 with
 | cons r rr =>
   cases rr
   obtain⟨t,rfl⟩:=r
   exact call_range_1 (zRL I1 jc jc q1 q2 (by simpa using q))
def zM0 (wi:TI)(g:TG)(tb:TS):TS:=fun D σ H=>wi σ H fun J H1=>∃W:Nat->Nat->St->Hp->Prop,(∃m,W 0 m σ H1)/\∀i m σ H,W i m σ H ->
 (J.stop i H/\D.nx σ H)∨(J.go i H/\∃N:St->Hp->Prop,(∀σ' H',N σ' H'->∃m',m' < m/\W (i+1) m' σ' H')/\∀x H',J.yld i H x H'->g x σ H' fun σ2 H2=>tb { D with nx:=N,ct:=N,bk:=D.nx } σ2 H2)
def bX (fp:List Addr)(h:Heap):jl:=fp.filterMap fun b=>(h.get? b).map fun o=>(b,o)
theorem nA {fp:List Addr}{h:Heap}{b:Addr}{o:Obj}(hb:b∈fp)(e:h.get? b=some o):(b,o)∈bX fp h:=List.mem_filterMap.mpr ⟨b,hb,by rw[e];rfl⟩
theorem zTL {fp:List Addr}{h:Heap}{p:Addr×Obj}(hp:p∈bX fp h):p.1∈fp/\h.get? p.1=some p.2:=by
 obtain⟨b,hb,e⟩:=List.mem_filterMap.mp hp
 cases q:h.get? b with
 | none=>rw[q] at e;cases e
 | some o =>
   rw[q] at e
   have e':(b,o)=p:=Wh e
   subst e'
   exact⟨hb,q⟩
theorem Inv.pinned {Z:jl}{σ:St}{H:Hp}{s:Shared}{fp:List Addr}(I:Inv X Z σ H s)(hf:∀b∈fp,iC X Z H b)(ho:∀b∈fp,∃o,s.heap.get? b=some o/\∀v,o.data ≠ .cell v):Inv X (Z++bX fp s.heap) σ H s :=
 I.pins_of fun p hp=>(Wq.mp hp).elim (fun z=>I.pin p (Ws _ z)) fun z=>by
   obtain⟨hb,e⟩:=zTL z
   obtain⟨f0,f1,f2,_⟩:=hf p.1 hb
   obtain⟨o,e',d⟩:=ho p.1 hb
   rw[e] at e';cases e'
   exact⟨e,f0,f1,f2,d⟩
theorem Inv.unpinned {Z pl:jl}{σ:St}{H:Hp}{s:Shared}(I:Inv X (Z++pl) σ H s):Inv X Z σ H s:=I.pins_of fun p hp=>I.pin p (Ws _ (Yj _ hp))
theorem zOf {iter:Expr}{body:List Stmt}{wi:TI}{g:TG}{tb:TS}{pos:Pos}(hp:PassesOwn (model X.prog X.w) X.A X.env X.xe)(hc:X.calm=true)(hi:PI X tg iter wi)(hg:PG X tg g)(hb:PSs X body tb)
   (hs:∀x,foldedSetIterable iter X.env x=pure x:=by intro _;rfl):PS X (.For tg iter body [] pos) (zM0 wi g tb):=by
 intro Z s σ H D I h
 refine wpAny_For (thn (hi Z s σ H _ I h) fun v s1 h1=>thn h1 fun itv s2 h2=>?_) hs
 obtain⟨it,fp,tn,J,H2,e,I2,T,st2,f2,W,⟨m0,w0⟩,turn⟩:=h2
 subst e
 -- what stays true of the iterator's objects through the loop
 have stat:∀ {H':Hp},(∀b∈fp,H' b=none)->∀b∈fp,iC X Z H' b:=fun hn b hb=>⟨hn b hb,(f2 b hb).2⟩
 refine codeAny_forLoop_any (fun n s'=>∃i σ' H',Inv X Z σ' H' s'/\tn i s'.heap/\(∀b∈fp,H' b=none)/\W i n σ' H') ?_ m0 ⟨0,σ,H2,I2,st2,fun b hb=>(f2 b hb).1,w0⟩
 rintro n s3 ⟨i,σ3,H3,I3,st3,fr3,w3⟩
 rcases turn i n σ3 H3 w3 with⟨stop,qn⟩ | ⟨go,N,hN,step⟩
 · refine Tp hp (thn (T.done X rfl rfl rfl hc i Z s3 σ3 H3 X.xe I3 (stat fr3) st3 stop) fun r s4 ⟨hr,I4⟩=>?_)
   subst hr
   exact Ud ⟨σ3,H3,I4,qn⟩
 · refine Tp hp (thn (T.item X rfl rfl rfl hc i Z s3 σ3 H3 X.xe I3 (stat fr3) st3 go) fun r s4 ⟨u,hr,h4⟩=>?_)
   subst hr
   refine Tp hp (thn h4 fun _ s5 ⟨x,H5,I5,r5,y5,st5,fr5⟩=>?_)
   have I5':=I5.pinned (stat fr5) (T.obj _ _ st5)
   refine Tp hp (thn (hg _ s5 σ3 H5 x u _ I5' r5 (step x H5 y5)) fun _ s6 ⟨σ6,H6,I6,q6⟩=>?_)
   refine Tp hp (thn (hb _ s6 σ6 H6 _ I6 q6) fun f s7 q7=>?_)
   have again:∀ {σ7:St} {H7:Hp},Inv X (Z++bX fp s5.heap) σ7 H7 s7->N σ7 H7->∃m,m < n/\∃i σ' H',Inv X Z σ' H' s7/\tn i s7.heap/\(∀b∈fp,H' b=none)/\W i m σ' H':=fun {σ7 H7} I7 n7=>by
     obtain⟨m',hm,w7⟩:=hN σ7 H7 n7
     refine⟨m',hm,i+1,σ7,H7,I7.unpinned,T.keep _ _ _ st5 fun b hb o e=>(I7.pin (b,o) (Ws _ (Ws _ (nA hb e)))).1,fun b hb=>?_,w7⟩
     obtain⟨o,e,d⟩:=T.obj _ _ st5 b hb
     exact(I7.pin (b,o) (Ws _ (Ws _ (nA hb e)))).2.1
   cases f with
   | next=>obtain⟨σ7,H7,I7,n7⟩:=q7;exact again I7 n7
   | cont=>obtain⟨σ7,H7,I7,n7⟩:=q7;exact again I7 n7
   | brk=>obtain⟨σ7,H7,I7,q7⟩:=q7;exact⟨σ7,H7,I7.unpinned,q7⟩
   | ret v=>obtain⟨x7,σ7,H7,I7,r7,q7⟩:=q7;exact⟨x7,σ7,H7,I7.unpinned,r7,q7⟩
end
abbrev R2:=V->V->Hp->VK->Prop
def OpR (X:Cx)(f:Value->Value->Sem Value)(r:R2):Prop :=
 ∀(Z:jl) (s:Shared) (σ:St) (H:Hp) (x y:V) (v u:Value) (Q:VK),Inv X Z σ H s->RelV x v->RelV y u->r x y H Q ->
   wpAny (model X.prog X.w) X.A (f v u) (EP X Z σ Q) X.xe s
def CallR (X:Cx)(f:Value)(r:List V->Hp->VK->Prop):Prop :=
 ∀(Z:jl) (s:Shared) (σ:St) (H:Hp) (xs:List V) (us:jm) (Q:VK),Inv X Z σ H s->Vals xs us->r xs H Q ->
   wpAny (model X.prog X.w) X.A (call f us) (EP X Z σ Q) X.xe s
def zM8 (X:Cx)(r:V->Hp->(Bool->Hp->Prop)->Prop):Prop :=
 ∀(Z:jl) (s:Shared) (σ:St) (H:Hp) (x:V) (v:Value) (Q:Bool->Hp->Prop),Inv X Z σ H s->RelV x v->r x H Q ->
   wpAny (model X.prog X.w) X.A (truthy v) (TP X Z σ Q) X.xe s
def tOp (r:R2)(ta tb:TE):TE:=fun σ H Q=>ta σ H fun x H1=>tb σ H1 fun y H2=>r x y H2 Q
def rI (C:Int->Int->Prop)(g:Int->Int->V):R2:=fun x y H Q=>∃i j,x = .int i/\y = .int j/\C i j/\Q (g i j) H
def rI0 (g:Int->Int->V):R2:=fun x y H Q=>∃i j,x = .int i/\y = .int j/\Q (g i j) H
section
variable {X:Cx} {a b:Expr} {ta tb:TE} {pos:Pos}
theorem zOA (ha:PE X a ta)(hb:PE X b tb){Z:jl}{s:Shared}{σ:St}{H:Hp}{R:V->V->Hp->Prop}(I:Inv X Z σ H s)
   (h:ta σ H fun x H1=>tb σ H1 fun y H2=>R x y H2) {Q:jk} {f:Value->Value->Sem Value}
   (hf:∀v u s2 x y H2,Inv X Z σ H2 s2->RelV x v->RelV y u->R x y H2->wpAny (model X.prog X.w) X.A (f v u) Q X.xe s2) :
   wpAny (model X.prog X.w) X.A (eval a X.env) (fun v s₁=>wpAny (model X.prog X.w) X.A (eval b X.env) (fun u s₂=>wpAny (model X.prog X.w) X.A (f v u) Q X.xe s₂) X.xe s₁) X.xe s:=by
 refine thn (ha Z s σ H _ I h) fun v s1 ⟨x,H1,I1,r1,q1⟩=>?_
 refine thn (hb Z s1 σ H1 _ I1 q1) fun u s2 ⟨y,H2,I2,r2,q2⟩=>?_
 exact hf v u s2 x y H2 I2 r1 r2 q2
theorem zXc {op:Operator}{r:R2}(ho:OpR X (binaryOp op) r)(ha:PE X a ta)(hb:PE X b tb):PE X (.BinOp a op b pos) (tOp r ta tb):=by
 intro Z s σ H Q I h
 exact wpAny_BinOp (zOA ha hb I h fun v u s2 x y H2 I2 rx ry q=>ho Z s2 σ H2 x y v u Q I2 rx ry q)
theorem opI {f:Value->Value->Sem Value}{C:Int->Int->Prop}{g:Int->Int->Int}
   (rule:∀(i j:Int) (t u:Tok) (s:Shared) (Q:jk) (E:jk),C i j->Q (.int (g i j) s.toks) { s with toks:=s.toks+1 }->wpAny (model X.prog X.w) X.A (f (.int i t) (.int j u)) Q E s) :
   OpR X f (rI C fun i j=>.int (g i j)):=by
 intro Z s σ H x y v u Q I rx ry h
 obtain⟨i,j,rfl,rfl,hc,q⟩:=h
 obtain⟨t,rfl⟩:=rx
 obtain⟨t',rfl⟩:=ry
 exact rule i j t t' s _ _ hc ⟨.int (g i j),H,I.tok _,⟨_,rfl⟩,q⟩
theorem zNc {f:Value->Value->Sem Value}{g:Int->Int->Int}
   (rule:∀(i j:Int) (t u:Tok) (s:Shared) (Q:jk) (E:jk),Q (.int (g i j) s.toks) { s with toks:=s.toks+1 }->wpAny (model X.prog X.w) X.A (f (.int i t) (.int j u)) Q E s) :
   OpR X f (rI0 fun i j=>.int (g i j)):=by
 intro Z s σ H x y v u Q I rx ry h
 obtain⟨i,j,rfl,rfl,q⟩:=h
 obtain⟨t,rfl⟩:=rx
 obtain⟨t',rfl⟩:=ry
 exact rule i j t t' s _ _ ⟨.int (g i j),H,I.tok _,⟨_,rfl⟩,q⟩
theorem zOy {f:Value->Value->Sem Value}{g:Int->Int->Bool}
   (rule:∀(i j:Int) (t u:Tok) (s:Shared) (Q:jk) (E:jk),Q (.bool (g i j)) s->wpAny (model X.prog X.w) X.A (f (.int i t) (.int j u)) Q E s) :
   OpR X f (rI0 fun i j=>.bl (g i j)):=by
 intro Z s σ H x y v u Q I rx ry h
 obtain⟨i,j,rfl,rfl,q⟩:=h
 obtain⟨t,rfl⟩:=rx
 obtain⟨t',rfl⟩:=ry
 exact rule i j t t' s _ _ ⟨.bl (g i j),H,I,rfl,q⟩
def zMo (i j:Int):Prop:=0 < j/\j < 1073741824
def zNf (i j:Int):Prop:=0<=j/\j<=1000000/\i.natAbs < 2^64
def CMul (i j:Int):Prop:=(-(2^64) < i/\i < 2^64)∨(-(2^64) < j/\j < 2^64)
theorem CMul.ok {i j:Int}(h:CMul i j):IntMulOk i j:=by
 rcases h with⟨h1,h2⟩ | ⟨h1,h2⟩
 · exact .of_left (intBits_le_64 h1 h2)
 · exact .of_right (intBits_le_64 h1 h2)
theorem zRc:OpR X (binaryOp .Add) (rI0 fun i j=>.int (i+j)):=zNc fun _ _ _ _ _ _ _ q=>add_int q
theorem zOp:OpR X (binaryOp .Sub) (rI0 fun i j=>.int (i - j)):=zNc fun _ _ _ _ _ _ _ q=>sub_int q
theorem zOa:OpR X (binaryOp .Mult) (rI CMul fun i j=>.int (i*j)):=opI fun _ _ _ _ _ _ _ hc q=>mul_int q hc.ok
theorem zPL:OpR X (binaryOp .FloorDiv) (rI zMo fun i j=>.int (i / j)):=opI fun i j _ _ _ _ _ hc q=>by
 have h1:(0:Int) < j:=hc.1
 have h2:j < 1073741824:=hc.2
 exact floordiv_int jc (by rw[Int.fdiv_eq_ediv_of_nonneg i jc];exact q) (.inl (PyProof.noPylong_small jc))
theorem zNA:OpR X (binaryOp .Mod) (rI (fun _ j=>0 < j) fun i j=>.int (i % j)):=opI fun i j _ _ _ _ _ hc q=>by
 have h1:(0:Int) < j:=hc
 exact mod_int' jc (by rw[Int.fmod_eq_emod_of_nonneg i jc];exact q)
theorem zNX:OpR X (binaryOp .Pow) (rI zNf fun i j=>.int (i^j.toNat)):=opI fun _ _ _ _ _ _ _ hc q=>pow_int_small hc.1 hc.2.1 hc.2.2 q
def zO8:V->V->Bool
 | .non,.non=>true | .non,.int _=>true | .int _,.non=>true | .non,.bl _=>true | .bl _,.non=>true | .non,.str _=>true | .str _,.non=>true
 | .int _,.int _=>true | .bl _,.bl _=>true | .str _,.str _=>true | .byt _,.byt _=>true
 | .int _,.str _=>true | .str _,.int _=>true | .bl _,.str _=>true | .str _,.bl _=>true
 | _,_=>false
def rEq:R2:=fun x y H Q=>zO8 x y=true/\Q (.bl (decide (x=y))) H
def rNe:R2:=fun x y H Q=>zO8 x y=true/\Q (.bl (!decide (x=y))) H
theorem zUE {i j:Int}:decide (V.int i=V.int j)=(i==j):=by
 rw[Yv]
 simp
theorem zRz {i j:Bool}:decide (V.bl i=V.bl j)=(i==j):=by
 rw[Yv]
 simp
theorem zUI {i j:Str}:decide (V.str i=V.str j)=(i==j):=by
 rw[Yv]
 simp
theorem zUi {i j:Array UInt8}:decide (V.byt i=V.byt j)=(i.toList==j.toList):=by
 rw[Yv]
 cases i
 cases j
 simp
variable {c:Expr}
theorem yO {Z:jl}{σ:St}{H:Hp}{s:Shared}{Q:VK}{k k':Bool}(I:Inv X Z σ H s)(q:Q (.bl k) H)(e:k=k'):EP X Z σ Q (.bool k') s:=by
 subst e
 exact⟨.bl k,H,I,rfl,q⟩
theorem zNn:OpR X (compareOp .Eq) rEq:=by
 intro Z s σ H x y v u Q I rx ry h
 obtain⟨hs,q⟩:=h
 cases x with
 | non =>
   cases rx
   cases y with
   | non=>cases ry;exact PySem.EqNone.eq_none_none (yO I q je)
   | bl j=>cases ry;exact PySem.EqNone.eq_none_bool (yO I q je)
   | int j=>obtain⟨t',rfl⟩:=ry;exact PySem.EqNone.eq_none_int (yO I q je)
   | str j=>obtain⟨t',rfl⟩:=ry;exact PySem.EqNone.eq_none_str (yO I q je)
   | _=>exact absurd (show false=true from hs) Wa
 | bl i =>
   cases rx
   cases y with
   | non=>cases ry;exact PySem.EqNone.eq_bool_none (yO I q je)
   | bl j=>cases ry;exact eq_bool (yO I q zRz)
   | str j=>obtain⟨t',rfl⟩:=ry;exact PySem.EqMixed.eq_bool_str (yO I q je)
   | _=>exact absurd (show false=true from hs) Wa
 | int i =>
   obtain⟨t,rfl⟩:=rx
   cases y with
   | non=>cases ry;exact PySem.EqNone.eq_int_none (yO I q je)
   | int j=>obtain⟨t',rfl⟩:=ry;exact eq_int (yO I q zUE)
   | str j=>obtain⟨t',rfl⟩:=ry;exact PySem.EqMixed.eq_int_str (yO I q je)
   | _=>exact absurd (show false=true from hs) Wa
 | str i =>
   obtain⟨t,rfl⟩:=rx
   cases y with
   | non=>cases ry;exact PySem.EqNone.eq_str_none (yO I q je)
   | bl j=>cases ry;exact PySem.EqMixed.eq_str_bool (yO I q je)
   | int j=>obtain⟨t',rfl⟩:=ry;exact PySem.EqMixed.eq_str_int (yO I q je)
   | str j=>obtain⟨t',rfl⟩:=ry;exact eq_str (yO I q zUI)
   | _=>exact absurd (show false=true from hs) Wa
 | byt i =>
   obtain⟨t,rfl⟩:=rx
   cases y with
   | byt j=>obtain⟨t',rfl⟩:=ry;exact PySem.W.eq_bytes (yO I q zUi)
   | _=>exact absurd (show false=true from hs) Wa
 | _=>cases y<;>exact absurd (show false=true from hs) Wa
theorem zNs:OpR X (compareOp .NotEq) rNe:=by
 intro Z s σ H x y v u Q I rx ry h
 obtain⟨hs,q⟩:=h
 cases x with
 | non =>
   cases rx
   cases y with
   | non=>cases ry;exact PySem.EqNone.ne_none_none (yO I q je)
   | bl j=>cases ry;exact PySem.EqNone.ne_none_bool (yO I q je)
   | int j=>obtain⟨t',rfl⟩:=ry;exact PySem.EqNone.ne_none_int (yO I q je)
   | str j=>obtain⟨t',rfl⟩:=ry;exact PySem.EqNone.ne_none_str (yO I q je)
   | _=>exact absurd (show false=true from hs) Wa
 | bl i =>
   cases rx
   cases y with
   | non=>cases ry;exact PySem.EqNone.ne_bool_none (yO I q je)
   | bl j=>cases ry;exact ne_bool (yO I q (Eo not zRz))
   | str j=>obtain⟨t',rfl⟩:=ry;exact PySem.EqMixed.ne_bool_str (yO I q je)
   | _=>exact absurd (show false=true from hs) Wa
 | int i =>
   obtain⟨t,rfl⟩:=rx
   cases y with
   | non=>cases ry;exact PySem.EqNone.ne_int_none (yO I q je)
   | int j=>obtain⟨t',rfl⟩:=ry;exact ne_int (yO I q (Eo not zUE))
   | str j=>obtain⟨t',rfl⟩:=ry;exact PySem.EqMixed.ne_int_str (yO I q je)
   | _=>exact absurd (show false=true from hs) Wa
 | str i =>
   obtain⟨t,rfl⟩:=rx
   cases y with
   | non=>cases ry;exact PySem.EqNone.ne_str_none (yO I q je)
   | bl j=>cases ry;exact PySem.EqMixed.ne_str_bool (yO I q je)
   | int j=>obtain⟨t',rfl⟩:=ry;exact PySem.EqMixed.ne_str_int (yO I q je)
   | str j=>obtain⟨t',rfl⟩:=ry;exact ne_str (yO I q (Eo not zUI))
   | _=>exact absurd (show false=true from hs) Wa
 | byt i =>
   obtain⟨t,rfl⟩:=rx
   cases y with
   | byt j=>obtain⟨t',rfl⟩:=ry;exact PySem.W.ne_bytes (yO I q (Eo not zUi))
   | _=>exact absurd (show false=true from hs) Wa
 | _=>cases y<;>exact absurd (show false=true from hs) Wa
theorem zNx:OpR X (compareOp .Lt) (rI0 fun i j=>.bl (decide (i < j))):=zOy fun _ _ _ _ _ _ _ q=>lt_int q
theorem zMI:OpR X (compareOp .LtE) (rI0 fun i j=>.bl (decide (i<=j))):=zOy fun _ _ _ _ _ _ _ q=>le_int q
theorem zMQ:OpR X (compareOp .Gt) (rI0 fun i j=>.bl (decide (j < i))):=zOy fun _ _ _ _ _ _ _ q=>gt_int q
theorem zPW:OpR X (compareOp .IsNot) (fun x y H Q=>y = .non/\Q (.bl (!decide (x = .non))) H):=by
 intro Z s σ H x y v u Q I rx ry h
 obtain⟨rfl,q⟩:=h
 cases ry
 refine isnot_none_gen (yO I q ?_)
 cases x<;>first
   | (cases rx;rfl)
   | (obtain⟨t,rfl⟩:=rx;rfl)
theorem OpR.or {f:Value->Value->Sem Value}{r r':R2}(h:OpR X f r)(h':OpR X f r'):OpR X f (fun x y H Q=>r x y H Q∨r' x y H Q):=by
 intro Z s σ H x y v u Q I rx ry q
 rcases q with q | q
 · exact h Z s σ H x y v u Q I rx ry q
 · exact h' Z s σ H x y v u Q I rx ry q
theorem zYF (b:Expr){op:CmpOp}(h:op ≠ .In:=by decide)(h2:op ≠ .NotIn:=by decide):behindInMarks op b=false:=by
 have e1:(op==CmpOp.In)=false:=by cases op<;>first | rfl | exact absurd rfl h
 have e2:(op==CmpOp.NotIn)=false:=by cases op<;>first | rfl | exact absurd rfl h2
 cases b<;>simp[behindInMarks,e1,e2]
theorem zQv {op:CmpOp}{r:R2}(ho:OpR X (compareOp op) r)(ha:PE X a ta)(hb:PE X b tb)(hm:behindInMarks op b=false):PE X (.Compare a [op] [b] pos) (tOp r ta tb):=by
 intro Z s σ H Q I h
 exact wpAny_Compare1 (zOA ha hb I h fun v u s2 x y H2 I2 rx ry q=>ho Z s2 σ H2 x y v u Q I2 rx ry q) hm
def zN4 (t:TE):TT:=fun σ H Q=>t σ H fun x H'=>∃k,x = .bl k/\Q k H'
theorem zXK {op:CmpOp}{r:R2}(ho:OpR X (compareOp op) r)(ha:PE X a ta)(hb:PE X b tb)(hm:behindInMarks op b=false):PT X (.Compare a [op] [b] pos) (zN4 (tOp r ta tb)):=by
 intro Z s σ H Q I h
 refine wpAny_isTrue_Compare1 (thn (ha Z s σ H _ I h) fun v s1 ⟨x,H1,I1,r1,q1⟩=>thn (hb Z s1 σ H1 _ I1 q1) fun u s2 ⟨y,H2,I2,r2,q2⟩ =>
   thn (ho Z s2 σ H2 x y v u _ I2 r1 r2 q2) fun c s3 ⟨z,H3,I3,r3,k,e,q3⟩=>?_) hm
 subst e
 cases r3
 exact Tz ⟨H3,I3,q3⟩
def zN7 (K:jh)(x:V)(H:Hp)(k:Bool):Prop :=
 match x with
 | .non=>k=false
 | .bl b=>k=b
 | .int i=>k=(i != 0)
 | .str y=>y.length<=sizeLine/\k=((y.length:Int) != 0)
 | .byt y=>y.size<=sizeLine/\k=((y.size:Int) != 0)
 | .ref p=>(∃xs,SqL K H p xs/\k = !xs.isEmpty)∨(∃xs,SqT K H p xs/\k = !xs.isEmpty)∨∃j8,H p=some (.dK j8)/\k = !j8.isEmpty
 | _=>False
theorem zVI {κ:Type}{j8:List (κ×V)}{vs:List (κ×Value)}(r:KV j8 vs):(!vs.isEmpty) = !j8.isEmpty:=by
 cases r<;>rfl
theorem aF {xs:List V}{j6:jm}(r:Vals xs j6):(!j6.toArray.isEmpty) = !xs.isEmpty:=by
 cases r<;>simp
theorem dS:(sizeLine:Nat) < 2^63:=by rw[Ee];decide
theorem zOx:zM8 X (fun x H Q=>∃k,zN7 X.K x H k/\Q k H):=by
 intro Z s σ H x v Q I rx h
 obtain⟨k,e,q⟩:=h
 have hl:=dS
 have hs:sizeLine=16777216:=Ee
 cases x with
 | non =>
   cases rx
   have e':k=false:=e
   subst e'
   exact truthy_none ⟨H,I,q⟩
 | bl b =>
   cases rx
   have e':k=b:=e
   subst e'
   exact Tz ⟨H,I,q⟩
 | int i =>
   obtain⟨t,rfl⟩:=rx
   have e':k=(i != 0):=e
   subst e'
   exact PySem.P.truthy_int ⟨H,I,q⟩
 | str y =>
   obtain⟨t,rfl⟩:=rx
   obtain⟨hy,e'⟩:y.length<=sizeLine/\k=((y.length:Int) != 0):=e
   subst e'
   exact PySem.P.truthy_str jc ⟨H,I.tok _,q⟩
 | byt y =>
   obtain⟨t,rfl⟩:=rx
   obtain⟨hy,e'⟩:y.size<=sizeLine/\k=((y.size:Int) != 0):=e
   subst e'
   exact PySem.W.truthy_bytes jc ⟨H,I.tok _,q⟩
 | ref p =>
   cases rx
   have e':(∃xs,SqL X.K H p xs/\k = !xs.isEmpty)∨(∃xs,SqT X.K H p xs/\k = !xs.isEmpty)∨∃j8,H p=some (.dK j8)/\k = !j8.isEmpty:=e
   rcases e' with⟨xs,hx,e'⟩ | ⟨xs,hx,e'⟩ | ⟨j8,hx,e'⟩
   · subst e'
     obtain⟨j6,r,pl,hz⟩:=I.list hx
     have j5:=r.length
     exact wpAny_truthy_list pl.isList (by simp only[Qp];lia) ⟨H,I.tok _,by rw[aF r];exact q⟩
   · subst e'
     obtain⟨j6,r,pl,hz⟩:=I.tuple hx
     have j5:=r.length
     exact truthy_tuple pl (by simp only[Qp];lia) ⟨H,I.tok _,by rw[aF r];exact q⟩
   · subst e'
     obtain⟨hz,hS,vs,r,m⟩:j8.length<=sizeLine/\(p==sysModules)=false/\∃vs,KV j8 vs/\s.heap.DictOf (y9 X.prog X.w) p vs:=I.hok p _ hx
     have j5:j8.length=vs.length:=Rw r
     exact wpAny_truthy_dict hS m jc ⟨H,I.tok _,by rw[zVI r];exact q⟩
 | _=>exact(show False from e).elim
theorem zRO (ha:PE X a ta)(he:∀whole,isTrue a X.env whole=(do let v ←whole;standAt a.pos;holding [v] (truthy v))) :
   PT X a (fun σ H Q=>ta σ H fun x H'=>∃k,zN7 X.K x H' k/\Q k H'):=by
 intro Z s σ H Q I h
 exact isTrue_plain (thn (ha Z s σ H _ I h) fun v s1 ⟨x,H1,I1,r1,q1⟩=>zOx Z s1 σ H1 x v Q I1 r1 q1) (he _)
theorem zV3:OpR X (binaryOp .Add) (fun x y H Q=>∃i j,x = .str i/\y = .str j/\i.length+j.length<=sizeLine/\Q (.str (i++j)) H):=by
 intro Z s σ H x y v u Q I rx ry h
 obtain⟨i,j,rfl,rfl,hz,q⟩:=h
 obtain⟨t,rfl⟩:=rx
 obtain⟨t',rfl⟩:=ry
 exact add_str (fun t' tk=>⟨.str (i++j),H,I.tok _,⟨_,rfl⟩,q⟩) hz
theorem zZO {x:V}{us:jm}(r:Vals [x] us):∃u,us=[u]/\RelV x u:=by
 cases r with
 | cons r1 r2=>cases r2;exact⟨_,rfl,r1⟩
theorem zWc {x y:V}{us:jm}(r:Vals [x,y] us):∃u w',us=[u,w']/\RelV x u/\RelV y w':=by
 cases r with
 | cons r1 r2 =>
   cases r2 with
   | cons r3 r4=>cases r4;exact⟨_,_,rfl,r1,r3⟩
theorem zTm (hc:X.calm=true):CallR X (.builtin "max") (fun xs H Q=>∃i j,xs=[.int i,.int j]/\Q (.int (if j > i then j else i)) H):=by
 intro Z s σ H xs us Q I r h
 obtain⟨i,j,rfl,q⟩:=h
 obtain⟨u,w',rfl,⟨t,rfl⟩,⟨t',rfl⟩⟩:=zWc r
 refine max_two_ints (I.ok.hd hc) fun h' tk k=>⟨_,H,I.kept k,?_,q⟩
 by_cases hj:j > i
 · rw[Qu hj,Qu hj];exact⟨_,rfl⟩
 · rw[Qs hj,Qs hj];exact⟨_,rfl⟩
theorem zT6 (hc:X.calm=true):CallR X (.builtin "min") (fun xs H Q=>∃i j,xs=[.int i,.int j]/\Q (.int (if j < i then j else i)) H):=by
 intro Z s σ H xs us Q I r h
 obtain⟨i,j,rfl,q⟩:=h
 obtain⟨u,w',rfl,⟨t,rfl⟩,⟨t',rfl⟩⟩:=zWc r
 refine min_two_ints (I.ok.hd hc) fun h' tk k=>⟨_,H,I.kept k,?_,q⟩
 by_cases hj:j < i
 · rw[Qu hj,Qu hj];exact⟨_,rfl⟩
 · rw[Qs hj,Qs hj];exact⟨_,rfl⟩
end
structure ObjM (h:Heap)(x dx C:Addr)(mA:Str->Option Value):Prop where
 obj:h.get? x=some (PySem.W.instObj C dx)
 ns:h.Ns1 dx mA
 ne:dx≠x
theorem zTh {h:Heap}{dx:Addr}{mA:Str->Option Value}(n:h.Ns1 dx mA):∃od,h.get? dx=some od/\∀name,PySem.W.lookIn name od=some (mA name):=by
 obtain⟨o,es,ep,ho,hd,hk,_,hm⟩:=n
 refine⟨o,ho,fun name=>?_⟩
 have e:=hm name
 unfold nsFind findBy at e
 rw[←Ix] at e
 unfold PySem.W.lookIn
 rw[hd]
 dsimp only
 split
 · rename_i y q
   rw[q] at e
   exact Eo some e
 · rename_i q
   rw[q] at e
   have a:es.toList.any (·.refKey)=false:=by
     rw[List.any_eq_false]
     intro y hy
     obtain⟨z,t,hkey⟩:=hk y (Array.mem_toList_iff.mp hy)
     simp[DictEntry.refKey,hkey]
   have a':¬es.toList.any (·.refKey)=true:=by rw[a];exact Wa
   rw[Qs a']
   exact Eo some e
theorem ObjM.look {h:Heap}{x dx C:Addr}{mA:Str->Option Value}(I:ObjM h x dx C mA):∃od,PySem.W.InstAt h x (PySem.W.instObj C dx) C (some od)/\∀name,PySem.W.lookIn name od=some (mA name) :=
 let ⟨od,ho,hl⟩:=zTh I.ns
 ⟨od,⟨I.obj,rfl,rfl,ho⟩,hl⟩
section
variable {prog:Program} {w:World} {A:Around} {E:jk} {s:Shared} {K:jh} {x dx C f:Addr} {mA:Str->Option Value} {name:Str} {v:Value}
theorem zPX {expr:Bool}{Q:jk}(X:K.In s.heap)(I:ObjM s.heap x dx C mA)(hg:PySem.W.plainGet K C name=true)(hh:PySem.W.hasDictIn K C=true)
   (ha:PySem.W.findIn K (.ref C) name=some none) (hv:mA name=some v) (hv':PySem.W.handedIn v=true) (h:Q v { s with toks:=s.toks+1 }) :
   wpAny (model prog w) A (getAttr (.ref x) name expr) Q E s:=by
 obtain⟨od,J,hl⟩:=I.look
 exact PySem.W.get_value X J (Iu hg).1 (PySem.W.findObj_own hh ha rfl (by rw[hl,hv])) hv' h
theorem zRF {pl:Sem Bool}{Q:Value×List Value->Shared->Prop}(X:K.In s.heap)(I:ObjM s.heap x dx C mA)(hg:PySem.W.plainGet K C name=true)
   (hf:PySem.W.findIn K (.ref C) name=some (some (.ref f))) (ht:PySem.W.isFn K (.ref f)=true) (hv:mA name=none) (h:Q (.ref f,[.ref x]) s) :
   wpAny (model prog w) A (getMethod (.ref x) name pl) Q E s:=by
 obtain⟨od,J,hl⟩:=I.look
 exact PySem.W.method_fn X J (Iu hg).1 (Iu hg).2 hf (Tr.mp ht) (by show(PySem.W.lookIn name od).map (·.isSome)=some false;rw[hl,hv];rfl) h
theorem zQr {ns:List Str}{Q:Unit->Shared->Prop}(X:K.In s.heap)(I:ObjM s.heap x dx C mA)
   (hs:PySem.W.findIn K (.ref C) "__setattr__"=some (some (.builtin "object.__setattr__"))) (hp:PySem.W.plainOver K C=true) (ht:PySem.W.takerIn K C name=some none) (hh:PySem.W.hasDictIn K C=true)
   (hw:PySem.Within mA ns) (hsz:ns.length<=sizeLine)
   (h:∀h',ObjM h' x dx C (fun y=>if y=name then some v else mA y)->Heap.SameBut dx s.heap h'->Q () { s with heap:=h',toks:=s.toks+2 }) :
   wpAny (model prog w) A (setAttr (.ref x) name v) Q E s:=by
 obtain⟨od,J,hl⟩:=I.look
 refine PySem.W.set_plain X J hs (PySem.W.osa_open (s:={ s with toks:=s.toks+1 }) (r:=none) X J hp ht fun b=>?_)
 obtain⟨cd,hc,hd'⟩:=PySem.W.any_some hh
 have hx:s.heap.get? x=some ⟨.ref C,some dx,.plain,#[]⟩:=I.obj
 refine Qe (Qh (Qe (Qe (Pa hx (Qe (PySem.W.Looks.here (s:={ s with toks:=s.toks+1 }) (PySem.W.looks_clsIn X hc) ?_))))))
 rw[hd']
 refine Qh (a:=some dx) (Qe (Qh (Qe ?_)))
 refine wpAny_nsSet1 (s:={ s with toks:=s.toks+1 }) I.ns fun h' hn2 hs2=>?_
 obtain⟨oD,esD,epD,hoD,hdD,hcD⟩:=hn2.count (PySem.Within.cons name v hw)
 refine Qe (wpAny_lookBehind hoD (by rw[hdD];exact pastItsLine_dict (Wp hcD (by rw[Qo];lia))) ?_)
 exact Qh (h _ ⟨(hs2.2 _ (Ne.symm I.ne)).trans I.obj,hn2,I.ne⟩ hs2)
theorem zQX {R:Result->Shared->Prop}{vs:jm}{kw:List (Str×Value)}(X:K.In s.heap)(hm:PySem.W.makesIn K C=true)
   (hi:PySem.W.findIn K (.ref C) "__init__"=some (some (.ref f))) (hf:PySem.W.typeIn K (.ref f)=some (.type "function"))
   (h:codeAny (model prog w) (A.under (.builtin "type.__call__" ⟨.ref C::vs,kw⟩)) (.call (.ref f) ⟨.ref (s.heap.objs.size+1)::vs,kw⟩) (PySem.W.InitBack (s.heap.objs.size+1) R)
     { s with heap:=(s.heap.push PySem.W.emptyDict).push (PySem.W.instObj C s.heap.objs.size) }) :
   codeAny (model prog w) A (.call (.ref C) ⟨vs,kw⟩) R s:=by
 obtain⟨hh,g,d,t,os⟩:=s
 exact PySem.W.make_core (PySem.W.makes_of X hm) (PySem.W.looks_findIn X hi) (fun self=>PySem.W.bind_fn X self hf) (.inl rfl) h
end
def nQ (f:Str)(v:V):List (Str×V)->List (Str×V)
 | []=>[(f,v)]
 | (g,x)::r=>if g=f then(g,v)::r else(g,x)::nQ f v r
theorem dN (f g:Str)(v:V):∀fs:List (Str×V),(nQ f v fs).lookup g=if g=f then some v else fs.lookup g
 | []=>by
   show List.lookup g [(f,v)]=_
   by_cases h:g=f
   · have hb:(g==f)=true:=Tr.mpr h
     simp only[List.lookup,hb,Qu h]
   · have hb:(g==f)=false:=Rc.mpr h
     simp only[List.lookup,hb,Qs h]
 | (k,x)::r=>by
   have ih:=dN f g v r
   rw[show nQ f v ((k,x)::r)=(if k=f then(k,v)::r else(k,x)::nQ f v r) from rfl]
   by_cases hk:k=f
   · rw[Qu hk]
     by_cases h:g=k
     · have hb:(g==k)=true:=Tr.mpr h
       simp only[List.lookup,hb,Qu (h.trans hk)]
     · have hb:(g==k)=false:=Rc.mpr h
       simp only[List.lookup,hb,Qs (fun e:g=f=>h (e.trans hk.symm))]
   · rw[Qs hk]
     by_cases h:g=k
     · have hb:(g==k)=true:=Tr.mpr h
       simp only[List.lookup,hb,Qs (fun e:g=f=>hk (h.symm.trans e))]
     · have hb:(g==k)=false:=Rc.mpr h
       simp only[List.lookup,hb]
       exact ih
theorem eM (f:Str)(v:V):∀fs:List (Str×V),f∈(nQ f v fs).map (·.1)/\∀g,g∈fs.map (·.1)->g∈(nQ f v fs).map (·.1)
 | []=>⟨by simp[nQ],fun g h=>by simp at h⟩
 | (k,x)::r=>by
   obtain⟨i1,i2⟩:=eM f v r
   rw[show nQ f v ((k,x)::r)=(if k=f then(k,v)::r else(k,x)::nQ f v r) from rfl]
   by_cases hk:k=f
   · rw[Qu hk]
     subst hk
     exact⟨je,fun g h=>by simpa using h⟩
   · rw[Qs hk]
     refine⟨?_,fun g h=>?_⟩
     · rw[Qz]
       exact Qk _ i1
     · rw[Qz] at h ⊢
       rcases Qa.mp h with e | e
       · exact Qa.mpr (.inl e)
       · exact Qk _ (i2 g e)
theorem dH (f:Str)(v:V):∀fs:List (Str×V),(nQ f v fs).length<=fs.length+1
 | []=>by simp[nQ]
 | (k,x)::r=>by
   have ih:=dH f v r
   rw[show nQ f v ((k,x)::r)=(if k=f then(k,v)::r else(k,x)::nQ f v r) from rfl]
   by_cases hk:k=f
   · rw[Qu hk,Qo,Qo];lia
   · rw[Qs hk,Qo,Qo];lia
theorem RelO.some_of {v:V}{o:Option Value}(r:RelO (some v) o):∃u,o=some u/\RelV v u:=by
 cases o with
 | none=>exact(show False from r).elim
 | some u=>exact⟨u,rfl,r⟩
theorem RelO.none_of {o:Option Value}(r:RelO none o):o=none:=by
 cases o with
 | none=>rfl
 | some u=>exact(show False from r).elim
theorem zTr {v:V}{u:Value}(r:RelV v u):PySem.W.handedIn u=true:=by
 cases v with
 | non=>cases (show u=Value.none from r);rfl
 | bl b=>cases (show u=Value.bool b from r);rfl
 | int i=>obtain⟨t,e⟩:=(show ∃t,u=Value.int i t from r);cases e;rfl
 | str x=>obtain⟨t,e⟩:=(show ∃t,u=Value.str x t from r);cases e;rfl
 | byt b=>obtain⟨t,e⟩:=(show ∃t,u=Value.bytes b t from r);cases e;rfl
 | flt b=>obtain⟨t,e⟩:=(show ∃t,u=Value.float b t from r);cases e;rfl
 | ref a=>cases (show u=Value.ref a from r);rfl
 | ty n=>cases (show u=Value.type n from r);rfl
section
variable {P:Program} {w:World} {H:Hp} {h:Heap} {a C dx:Addr} {fs:List (Str×V)}
theorem zX6 (hok:HOk P w H h)(e:H a=some (.ins C dx fs)):∃mA,ObjM h a dx C mA/\(∀f,RelO (fs.lookup f) (mA f))/\PySem.Within mA (fs.map (·.1))/\fs.length<=1000/\H dx=some (.own a):=by
 obtain⟨d,z,ne,ob,mA,n,r,q⟩:=(show ObjOk P w H h a (.ins C dx fs) from hok a _ e)
 exact⟨mA,⟨ob,n,ne⟩,r,q,z,d⟩
end
structure Cls (K:jh)(C:Addr):Prop where
 pg:PySem.W.plainGet K C Str.empty=true
 hd:PySem.W.hasDictIn K C=true
 po:PySem.W.plainOver K C=true
 sa:PySem.W.findIn K (.ref C) "__setattr__"=some (some (.builtin "object.__setattr__"))
theorem Cls.get {K:jh}{C:Addr}(c:Cls K C)(f:Str):PySem.W.plainGet K C f=true:=c.pg
def NoAttr (K:jh)(C:Addr)(f:Str):Prop:=PySem.W.findIn K (.ref C) f=some none
theorem NoAttr.taker {K:jh}{C:Addr}{f:Str}(n:NoAttr K C f):PySem.W.takerIn K C f=some none:=by
 unfold PySem.W.takerIn
 rw[show PySem.W.findIn K (.ref C) f=some none from n]
 rfl
structure Con (K:jh)(C:Addr)(f:Str)(v:V)(u:Value):Prop where
 at_:PySem.W.findIn K (.ref C) f=some (some u)
 rel:RelV v u
 get:PySem.W.specialIn K u "__get__"=some none
 cp:PySem.W.copiedNames.contains f=false
structure Meth (K:jh)(C:Addr)(m:Str)(f:Addr):Prop where
 at_:PySem.W.findIn K (.ref C) m=some (some (.ref f))
 fn:PySem.W.isFn K (.ref f)=true
 kp:PySem.W.keepIn K (.ref f)=true
section
variable {X:Cx} {Z:jl} {σ:St} {H:Hp} {s:Shared} {a C dx:Addr} {fs:List (Str×V)} {f:Str} {v:V} {A:Around} {E:jk}
theorem zUX {b:Bool}{Q:jk}(I:Inv X Z σ H s)(e:H a=some (.ins C dx fs))(c:Cls X.K C)(n:NoAttr X.K C f)(l:fs.lookup f=some v)
   (h:∀u s',Inv X Z σ H s'->RelV v u->Q u s'):wpAny (model X.prog X.w) A (getAttr (.ref a) f b) Q E s:=by
 obtain⟨mA,O,r,_,_,_⟩:=zX6 I.hok e
 obtain⟨u,hu,ru⟩:=RelO.some_of (v:=v) (o:=mA f) (by rw[←l];exact r f)
 exact zPX I.kIn O (c.get f) c.hd n hu (zTr ru) (h u _ (I.tok _) ru)
theorem bY {m:Str}{g:Addr}{pl:Sem Bool}{Q:Value×List Value->Shared->Prop}(I:Inv X Z σ H s)(e:H a=some (.ins C dx fs))(c:Cls X.K C)(k:Meth X.K C m g)(l:fs.lookup m=none)
   (h:Q (.ref g,[.ref a]) s):wpAny (model X.prog X.w) A (getMethod (.ref a) m pl) Q E s:=by
 obtain⟨mA,O,r,_,_,_⟩:=zX6 I.hok e
 have hn:mA m=none:=RelO.none_of (by rw[←l];exact r m)
 exact zRF I.kIn O (c.get m) k.at_ k.fn hn h
theorem zVJ {y:V}{u:Value}{Q:Unit->Shared->Prop}(I:Inv X Z σ H s)(e:H a=some (.ins C dx fs))(c:Cls X.K C)(n:NoAttr X.K C f)(hl:fs.length < 1000)(ry:RelV y u)
   (h:∀s',Inv X Z σ (upd H a (.ins C dx (nQ f y fs))) s'->Q () s'):wpAny (model X.prog X.w) A (setAttr (.ref a) f u) Q E s:=by
 obtain⟨mA,O,r,wi,_,ho⟩:=zX6 I.hok e
 have hz:(fs.map (·.1)).length<=sizeLine:=by rw[Qi,Ee];lia
 refine zQr I.kIn O c.sa c.po n.taker c.hd wi hz fun h' O' sb=>h _ ?_
 have hd:∃o,h'.get? dx=some o:=let ⟨o,_,_,e',_⟩:=O'.ns;⟨o,e'⟩
 refine I.write (x:=a) (e:=dx) (by rw[e];exact True.intro) (.inr ho) (fun b q hb z=>(sb.2 b hb).trans z) hd ?_
 refine⟨by rw[zN O.ne];exact ho,?_,O.ne,O'.obj,_,O'.ns,fun g=>?_,fun g hg=>?_⟩
 · have:=dH f y fs;lia
 · show RelO ((nQ f y fs).lookup g) (if g=f then some u else mA g)
   rw[dN]
   by_cases q:g=f
   · rw[Qu q,Qu q];exact ry
   · rw[Qs q,Qs q];exact r g
 · by_cases q:g=f
   · rw[q];exact(eM f y fs).1
   · refine(eM f y fs).2 g (wi g fun z=>hg ?_)
     show(if g=f then some u else mA g)=none
     rw[Qs q];exact z
theorem Inv.made (I:Inv X Z σ H s):Inv X Z σ (upd (upd H s.heap.objs.size (.own (s.heap.objs.size+1))) (s.heap.objs.size+1) (.ins C s.heap.objs.size []))
   { s with heap:=(s.heap.push PySem.W.emptyDict).push (PySem.W.instObj C s.heap.objs.size) }:=by
 have e1:(s.heap.push PySem.W.emptyDict).get? s.heap.objs.size=some PySem.W.emptyDict:=Ww s.heap rfl
 have e2:((s.heap.push PySem.W.emptyDict).push (PySem.W.instObj C s.heap.objs.size)).get? (s.heap.objs.size+1)=some (PySem.W.instObj C s.heap.objs.size):=by
   have:=Ww (s.heap.push PySem.W.emptyDict) (o:=PySem.W.instObj C s.heap.objs.size) rfl
   rwa[Ur] at this
 have e3:(s.heap.push PySem.W.emptyDict).Ns s.heap.objs.size (fun _=>none):=⟨PySem.W.emptyDict,#[],_,e1,rfl,(fun e he=>absurd he je),fun _=>rfl⟩
 have I1:=I.laid (a:=s.heap.objs.size) (o:=.own (s.heap.objs.size+1)) (h':=s.heap.push PySem.W.emptyDict) (t':=s.toks) (fun b u q=>Qy _ q) (Qf _) ⟨_,e1⟩
 refine I1.laid (a:=s.heap.objs.size+1) (o:=.ins C s.heap.objs.size []) (t':=s.toks) (fun b u q=>Qy _ q) (Ug (Ur _ _)) ?_
 have ne:s.heap.objs.size≠s.heap.objs.size+1:=Wi (Oz _)
 refine⟨by rw[zN ne,zL],Ei _,ne,e2,fun _=>none,(Heap.Ns1.of_empty e3).at fun o q=>Qy _ q,fun _=>True.intro,fun y hy=>absurd rfl hy⟩
theorem zQ5 {prog:Program}{w:World}{env:Env}{e:Expr}{f:Str}{pos:Pos}{s:Shared}{Q:jk}(hb:attributeBase e f env (eval e env)=eval e env)
   (h:wpAny (model prog w) A (eval e env) (fun o s₁=>wpAny (model prog w) A (getAttr o f true) Q E s₁) E s):wpAny (model prog w) A (eval (.Attribute e f pos) env) Q E s :=
 Attribute_any_ h (by rw[arm_eval_Attribute,hb])
end
def zM9 (K:jh)(ta:TE)(f:Str):TE:=fun σ H Q=>ta σ H fun x H1=>∃a C dx fs v,x = .ref a/\H1 a=some (.ins C dx fs)/\Cls K C/\NoAttr K C f/\fs.lookup f=some v/\Q v H1
def zMi (K:jh)(ta tv:TE)(f:Str):TS:=fun D σ H=>tv σ H fun y H1=>ta σ H1 fun x H2=>∃a C dx fs,x = .ref a/\H2 a=some (.ins C dx fs)/\Cls K C/\NoAttr K C f/\fs.length < 1000 /\
 D.nx σ (upd H2 a (.ins C dx (nQ f y fs)))
section
variable {X:Cx} {o e value:Expr} {f:Str} {pos pos':Pos} {ta tv:TE}
theorem zRR (he:PE X e ta)(hb:attributeBase e f X.env (eval e X.env)=eval e X.env):PE X (.Attribute e f pos) (zM9 X.K ta f):=by
 intro Z s σ H Q I h
 refine zQ5 hb (thn (he Z s σ H _ I h) fun u s1 ⟨x,H1,I1,rx,a,C,dx,fs,v,ex,ea,c,n,l,q⟩=>?_)
 subst ex
 obtain rfl:u=Value.ref a:=rx
 exact zUX I1 ea c n l fun u' s2 I2 ru=>⟨v,H1,I2,ru,q⟩
theorem zRU (ha:PE X o ta)(hv:PE X value tv)(hs:swapsWith value (some (.Attribute o f pos')) pos.line X.env=pure false):PS X (.Assign [.Attribute o f pos'] value pos) (zMi X.K ta tv f):=by
 intro Z s σ H D I h
 refine plainObj_wpAny_Assign_Attribute (thn (hv Z s σ H _ I h) fun u s1 ⟨y,H1,I1,ry,q⟩=>thn (ha Z s1 σ H1 _ I1 q) fun ov s2 ⟨x,H2,I2,rx,a,C,dx,fs,ex,ea,c,n,l,q2⟩=>?_) hs
 subst ex
 obtain rfl:ov=Value.ref a:=rx
 exact zVJ I2 ea c n l ry fun s3 I3=>⟨σ,_,I3,q2⟩
variable {H:Hp}
inductive TyOf (K:jh)(H:Hp):V->Value->Prop where
 | non:TyOf K H .non (.type "NoneType")
 | bl (x:Bool):TyOf K H (.bl x) (.type "bool")
 | int (i:Int):TyOf K H (.int i) (.type "int")
 | str (x:Str):TyOf K H (.str x) (.type "str")
 | flt (x:UInt64):TyOf K H (.flt x) (.type "float")
 | lst {a:Addr} {xs:List V} (e:H a=some (.lst xs)):TyOf K H (.ref a) (.type "list")
 | frz {a:Addr} {o:Obj} {xs:List V} (e:H a=some (.frz o (.lst xs))):TyOf K H (.ref a) (.type "list")
 | tup {a:Addr} {xs:List V} (e:H a=some (.tup xs)):TyOf K H (.ref a) (.type "tuple")
 | dK {a:Addr} {j8:List (Key×V)} (e:H a=some (.dK j8)):TyOf K H (.ref a) (.type "dict")
 | dT {a:Addr} {j8:List (List Key×V)} (e:H a=some (.dT j8)):TyOf K H (.ref a) (.type "dict")
 | ins {a C dx:Addr} {fs:List (Str×V)} (e:H a=some (.ins C dx fs)) (cl:Cls K C) (ha:PySem.W.findIn K (.ref C) "__class__"=some (some (.builtin "object.__class__")))
     (hn:PySem.W.specialIn K (.builtin "object.__class__") "__get__"=some (some (.builtin "getset_descriptor.__get__"))) (htk:PySem.W.takesIn K (.builtin "object.__class__")=some true)
     (hm:PySem.W.mroIn K C (.type "object")=some true):TyOf K H (.ref a) (.ref C)
end
structure Room (k:Nat)(A:Around):Prop where
 hd:A.handled=none
 dp:A.depth+3*k+5 < recursionLimit
 un:A.units+16*k+200 < cLine
theorem Room.mono {j k:Nat}{A:Around}(r:Room k A)(h:j<=k):Room j A:=⟨r.hd,by have:=r.dp;lia,by have:=r.un;lia⟩
theorem Room.deeper {k:Nat}{A:Around}(r:Room (k+1) A)(env:Env):Room k (A.deeper env) :=
 ⟨r.hd,by have:=r.dp;show A.depth+1+3*k+5 < _;lia,by have:=r.un;show A.units+3+16*k+200 < _;lia⟩
theorem Room.in1 {k:Nat}{A:Around}(r:Room (k+1) A):Room k A.in1 :=
 ⟨r.hd,by have:=r.dp;show A.depth+3*k+5 < _;lia,by have:=r.un;show A.units+1+16*k+200 < _;lia⟩
theorem zVC {A:Around}{C:Addr}{us:jm}{kw:List (Str×Value)}:(A.under (.builtin "type.__call__" ⟨.ref C::us,kw⟩)).depth=A.depth+1:=by
 first | rfl | simp[Around.under,Code.weight,Code.isCreation,Code.isGuard,Code.isCaller,Code.frames,Code.isFrame,guardIds]
theorem zV4 {A:Around}{C:Addr}{us:jm}{kw:List (Str×Value)}:(A.under (.builtin "type.__call__" ⟨.ref C::us,kw⟩)).units=A.units+1:=by
 first | rfl | simp[Around.under,Code.cUnits,Code.frames,Code.isFrame]
theorem Room.make {k:Nat}{A:Around}(r:Room (k+1) A)(C:Addr)(us:jm)(kw:List (Str×Value)):Room k (A.under (.builtin "type.__call__" ⟨.ref C::us,kw⟩)) :=
 ⟨r.hd,by have:=r.dp;rw[zVC];lia,by have:=r.un;rw[zV4];lia⟩
theorem Room.depth {k:Nat}{A:Around}(r:Room k A):A.depth < recursionLimit:=by have:=r.dp;lia
theorem Room.units {k:Nat}{A:Around}(r:Room k A):A.units+64 < cLine:=by have:=r.un;lia
theorem Room.units0 {k:Nat}{A:Around}(r:Room k A):A.units < cLine:=by have:=r.un;lia
def zVt:TA:=fun _ H Q=>Q [] H
def aT (ta:TE)(tr:TA):TA:=fun σ H Q=>ta σ H fun x H1=>tr σ H1 fun xs H2=>Q (x::xs) H2
section
variable {X:Cx} {e:Expr} {es:List Expr} {te:TE} {t:TA} {pos:Pos}
theorem wH:PA X [] zVt:=fun _ _ _ _ H Q I h=>Calls.spliced_nil ⟨[],H,I,.nil,h⟩
theorem yZ (ha:PE X e te)(hr:PA X es t)(hs:starEach (e::es) X.env=(false,eval e X.env)::starEach es X.env:=by rfl):PA X (e::es) (aT te t):=by
 intro pos Z s σ H Q I h
 rw[hs]
 show wpAny _ _ (spliced ((false,eval e X.env)::backTo pos (starEach es X.env))) _ _ s
 refine Calls.spliced_cons (thn (ha Z s σ H _ I h) fun u s1 ⟨x,H1,I1,r1,q1⟩=>?_)
 exact thn (hr pos Z s1 σ H1 _ I1 q1) fun us s2 ⟨xs,H2,I2,r2,q2⟩=>⟨x::xs,H2,I2,.cons r1 r2,q2⟩
def zM4 (t:TA):TE:=fun σ H Q=>t σ H fun xs H1=>xs.length<=sizeLine/\∀p,H1 p=none->Q (.ref p) (upd H1 p (.tup xs))
def zM3 (t:TA):TE:=fun σ H Q=>t σ H fun xs H1=>xs.length<=sizeLine/\∀p,H1 p=none->Q (.ref p) (upd H1 p (.lst xs))
theorem zQW {x1}(h:PA X es t):PE X (.Tuple es x1 pos) (zM4 t):=by
 intro Z s σ H Q I hq
 refine wpAny_Tuple_spliced (thn (h pos Z s σ H _ I hq) fun us s1 ⟨xs,H1,I1,r,z,q⟩=>⟨by rw[←r.length];exact z,?_⟩)
 have hf:H1 s1.heap.objs.size=none:=I1.hok.fresh (Qf _)
 refine⟨.ref s1.heap.objs.size,upd H1 s1.heap.objs.size (.tup xs),I1.laid (t':=s1.toks) (fun b u e=>Qy _ e) (Qf _) ?_,rfl,q _ hf⟩
 exact⟨z,us,r,⟨_,Ww _ rfl,rfl,_,rfl⟩⟩
theorem zOi (h:PA X es t):PE X (.List es pos) (zM3 t):=by
 intro Z s σ H Q I hq
 refine wpAny_List_spliced (thn (h pos Z s σ H _ I hq) fun us s1 ⟨xs,H1,I1,r,z,q⟩=>⟨by rw[←r.length];exact z,?_⟩)
 have hf:H1 s1.heap.objs.size=none:=I1.hok.fresh (Qf _)
 refine⟨.ref s1.heap.objs.size,upd H1 s1.heap.objs.size (.lst xs),I1.laid (t':=s1.toks) (fun b u e=>Qy _ e) (Qf _) ?_,rfl,q _ hf⟩
 exact⟨z,us,0,r,Ww _ rfl⟩
end
abbrev Sp:=List V->Hp->VK->XK->Prop
abbrev CXT:=List Env->Hp->Shared->XK->Value->Shared->Prop
structure Env0 (P:Program)(w:World)(K:jh)(mg:Str->Option Value)(base:Heap)(A:Around)(outer:List Env)(s:Shared)(H:Hp):Prop where
 frames:A.frames=some outer
 mod:Mod K mg base
 bs:∀b o,base.get? b=some o->s.heap.get? b=some o/\H b=none
 bsz:base.objs.size<=s.heap.objs.size
 funs:s.heap.FunFrames base outer
 frf:∀b∈frs outer,H b=none
 hok:HOk P w H s.heap
 bare:AllBare s.gens
def CE (outer:List Env)(P:Program)(w:World)(H:Hp)(s:Shared)(Q:VK)(u:Value)(s':Shared):Prop :=
 ∃v H',s'.os=s.os/\AllBare s'.gens/\Un (frs outer) [] H H' s.heap s'.heap/\HOk P w H' s'.heap/\RelV v u/\Q v H'
def CR (CX:CXT)(outer:List Env)(P:Program)(w:World)(H:Hp)(s:Shared)(Q:VK)(E:XK)(r:Result)(s':Shared):Prop :=
 match r with
 | .ok (.ret u)=>CE outer P w H s Q u s'
 | .ok _=>False
 | .error e=>CX outer H s E e s'
structure FnOk (P:Program)(w:World)(K:jh)(mg:Str->Option Value)(base:Heap)(CX:CXT)(k:Nat)(f:Addr)(fd:FuncData)(ps:List Str)(sp:Sp):Prop where
 len:∀vs H Q E,sp vs H Q E->vs.length=ps.length
 run:∀(A:Around) (outer:List Env) (s:Shared) (H:Hp) (args:Args) (us:jm) (vs:List V) (Q:VK) (E:XK),Room k A->Env0 P w K mg base A outer s H->BindsTo s fd args (ps.zip us)->Vals vs us->sp vs H Q E ->
   codeAny (model P w) A (.call (.ref f) args) (CR CX outer P w H s Q E) s
theorem Env0.make {P:Program}{w:World}{K:jh}{mg:Str->Option Value}{base:Heap}{A:Around}{outer:List Env}{s:Shared}{H:Hp}(e:Env0 P w K mg base A outer s H)(C:Addr)(us:jm)(kw:List (Str×Value)) :
   Env0 P w K mg base (A.under (.builtin "type.__call__" ⟨.ref C::us,kw⟩)) outer s H:=⟨by first | exact e.frames | (simpa [Around.under,Code.envs,Code.isFrame,pushEnvs] using e.frames),e.mod,e.bs,e.bsz,e.funs,e.frf,e.hok,e.bare⟩
theorem Env0.in1 {P:Program}{w:World}{K:jh}{mg:Str->Option Value}{base:Heap}{A:Around}{outer:List Env}{s:Shared}{H:Hp}(e:Env0 P w K mg base A outer s H) :
   Env0 P w K mg base A.in1 outer s H:=⟨e.frames,e.mod,e.bs,e.bsz,e.funs,e.frf,e.hok,e.bare⟩
section
variable {X:Cx} {Z:jl} {σ:St} {H:Hp} {s s':Shared}
theorem Inv.env0 (I:Inv X Z σ H s):Env0 X.prog X.w X.K X.mg X.base X.A X.stack s H :=
 ⟨I.ok.frames,I.ok.mod,I.bs,Wp I.ok.bsz I.sz,I.stack,I.stkFree,I.hok,I.bare⟩
theorem Inv.after {Q:VK}{u:Value}(I:Inv X Z σ H s)(h:CE X.stack X.prog X.w H s Q u s'):EP X Z σ Q u s':=by
 obtain⟨v,H',os,bare,un,hok,r,q⟩:=h
 obtain⟨hh,g,d,t,os'⟩:=s'
 obtain rfl:os'=s.os:=os
 exact⟨v,H',I.call (h':=hh) (g':=g) (d':=d) (t':=t) (ch:=[]) un hok bare (fun b z=>absurd z je),r,q⟩
end
def zN3 (sp:Sp)(dvs:List V)(E:XK)(t:TA):TE:=fun σ H Q=>t σ H fun vs H1=>sp (vs++dvs) H1 Q E
def zPc (C:Addr)(m:Str)(sp:Sp)(dvs:List V)(E:XK)(ta:TE)(t:TA):TE:=fun σ H Q=>ta σ H fun x H1=>∃a dx fs,x = .ref a/\H1 a=some (.ins C dx fs)/\fs.lookup m=none /\
 t σ H1 fun vs H2=>sp (x::(vs++dvs)) H2 Q E
def zMJ (C:Addr)(sp:Sp)(dvs:List V)(E:XK)(t:TA):TE:=fun σ H Q=>t σ H fun vs H1=>∀x dx,H1 x=none->H1 dx=none->dx≠x ->
 sp (.ref x::(vs++dvs)) (upd (upd H1 dx (.own x)) x (.ins C dx [])) (fun v H2=>v = .non/\Q (.ref x) H2) E
def Binds (K:jh)(fd:FuncData)(ps:List Str)(ds:jm):Prop :=
 ∀(s:Shared) (us:jm),K.In s.heap->(us++ds).length=ps.length->BindsTo s fd ⟨us,[]⟩ (ps.zip (us++ds))
theorem Binds.all {K:jh}{fd:FuncData}{ps:List Str}(h:∀us:List Value,us.length=ps.length->bindArgs fd ⟨us,[]⟩=pure (ps.zip us)):Binds K fd ps []:=fun s us _ hl=>by
 rw[Wn] at hl ⊢
 exact .of_eq (h us hl)
def oP (CX:CXT)(X:Cx)(E:XK):Prop:=∀(Z:jl) (σ:St) (H:Hp) (s:Shared) (e:Value) (s':Shared),Inv X Z σ H s->CX X.stack H s E e s'->X.xe e s'
section
variable {X:Cx} {CX:CXT} {k:Nat} {f C:Addr} {fd:FuncData} {ps:List Str} {sp:Sp} {dvs:List V} {ds:jm} {E:XK} {x m:Str} {p pos apos:Pos} {e o:Expr} {es:List Expr} {ta:TE} {t:TA}
theorem zV0 {Z:jl}{σ:St}{H:Hp}{s:Shared}{Q:VK}{us:jm}{vs:List V}(F:FnOk X.prog X.w X.K X.mg X.base CX k f fd ps sp)(hr:Room k X.A)(hb:Binds X.K fd ps ds)(hd:Vals dvs ds)(hx:oP CX X E)
   (I:Inv X Z σ H s) (r:Vals vs us) (h:sp (vs++dvs) H Q E):wpAny (model X.prog X.w) X.A (call (.ref f) us) (EP X Z σ Q) X.xe s:=by
 have r2:Vals (vs++dvs) (us++ds):=r.append hd
 have hl:(us++ds).length=ps.length:=by rw[←r2.length];exact F.len _ _ _ _ h
 refine Ot (Ue (F.run X.A X.stack s H ⟨us,[]⟩ (us++ds) (vs++dvs) Q E hr I.env0 (hb s us I.kIn hl) r2 h) fun r s' hq=>?_)
 cases r with
 | error e=>exact hx Z σ H s e s' I hq
 | ok fl =>
   cases fl with
   | ret u=>exact I.after hq
   | next=>exact False.elim hq
   | brk=>exact False.elim hq
   | cont=>exact False.elim hq
theorem cC (F:FnOk X.prog X.w X.K X.mg X.base CX k f fd ps sp)(hr:Room k X.A)(hg:Gl X x)(hm:X.mg x=some (.ref f))(hk:PySem.W.keepIn X.K (.ref f)=true)(hb:Binds X.K fd ps ds)(hd:Vals dvs ds)(hx:oP CX X E)
   (ha:PA X (e::es) t) (hdb:(x==("__debug__":Str))=false:=by decide) (he:starEach (e::es) X.env=(false,eval e X.env)::starEach es X.env:=by rfl) (hpl:(backTo pos (starEach es X.env)).any (·.1)=false:=by rfl) :
   PE X (.Call (.Name x p) (e::es) [] pos) (zN3 sp dvs E t):=by
 intro Z s σ H Q I h
 refine Ev (nB I hg hm ?_ hdb)
 refine Yw (h₀:=X.base) I.ok.mod.kin hk (thn (ha pos Z s σ H _ I h) fun us s1 ⟨vs,H1,I1,r,q⟩=>⟨I1.kIn,?_⟩) he hpl
 exact zV0 F hr hb hd hx I1 r q
theorem zYj {pl:Sem Bool}(he:PE X o ta)(c:Cls X.K C)(hm:Meth X.K C m f)(F:FnOk X.prog X.w X.K X.mg X.base CX k f fd ps sp)(hr:Room k X.A)(hb:Binds X.K fd ps ds)(hd:Vals dvs ds)(hx:oP CX X E)(ha:PA X (e::es) t)
   (hst:starEach (e::es) X.env=(false,eval e X.env)::starEach es X.env:=by rfl) (hpl:(backTo pos (starEach es X.env)).any (·.1)=false:=by rfl)
   (ht:eval (.Call (.Attribute o m apos) (e::es) [] pos) X.env=(do
     let ov ←eval o X.env
     standAt apos.atName
     let (f,first) ←holding [ov] (getMethod ov m pl)
     callWith pos f first (backTo pos (starEach (e::es) X.env)) (backToKw pos (keywordEach [] X.env))):=by rfl) :
   PE X (.Call (.Attribute o m apos) (e::es) [] pos) (zPc C m sp dvs E ta t):=by
 intro Z s σ H Q I h
 refine PySem.W.methodCall_KW (pl:=pl) (thn (he Z s σ H _ I h) fun u s1 ⟨x,H1,I1,rx,a,dx,fs,ex,ea,l,q⟩=>?_) ht
 subst ex
 obtain rfl:u=Value.ref a:=rx
 refine bY I1 ea c hm l ?_
 refine Yw (first:=[.ref a]) (h₀:=X.base) I.ok.mod.kin hm.kp (thn (ha pos Z s1 σ H1 _ I1 q) fun us s2 ⟨vs,H2,I2,r,q2⟩=>⟨I2.kIn,?_⟩) hst hpl
 exact zV0 (us:=.ref a::us) (vs:=.ref a::vs) F hr hb hd hx I2 (.cons rfl r) q2
theorem zXd {pl:Sem Bool}(he:PE X o ta)(c:Cls X.K C)(hm:Meth X.K C m f)(F:FnOk X.prog X.w X.K X.mg X.base CX k f fd ps sp)(hr:Room k X.A)(hb:Binds X.K fd ps ds)(hd:Vals dvs ds)(hx:oP CX X E)
   (ht:eval (.Call (.Attribute o m apos) [] [] pos) X.env=(do
     let ov ←eval o X.env
     standAt apos.atName
     let (f,first) ←holding [ov] (getMethod ov m pl)
     callWith pos f first (backTo pos (starEach [] X.env)) (backToKw pos (keywordEach [] X.env))):=by rfl) :
   PE X (.Call (.Attribute o m apos) [] [] pos) (zPc C m sp dvs E ta zVt):=by
 intro Z s σ H Q I h
 refine PySem.W.methodCall_KW (pl:=pl) (thn (he Z s σ H _ I h) fun u s1 ⟨x,H1,I1,rx,a,dx,fs,ex,ea,l,q⟩=>?_) ht
 subst ex
 obtain rfl:u=Value.ref a:=rx
 refine bY I1 ea c hm l ?_
 exact PySem.W.callWith_K0 (first:=[.ref a]) I1.kIn hm.kp (zV0 (us:=[.ref a]) (vs:=[.ref a]) F hr hb hd hx I1 (.cons rfl .nil) q)
structure Mk (K:jh)(C f:Addr):Prop where
 makes:PySem.W.makesIn K C=true
 init:PySem.W.findIn K (.ref C) "__init__"=some (some (.ref f))
 fn:PySem.W.isFn K (.ref f)=true
 kp:PySem.W.keepIn K (.ref C)=true
theorem zS8 {Z:jl}{σ:St}{H:Hp}{s:Shared}{Q:VK}{us:jm}{vs:List V}(M:Mk X.K C f)(F:FnOk X.prog X.w X.K X.mg X.base CX k f fd ps sp)(hr:Room (k+1) X.A)(hb:Binds X.K fd ps ds)(hd:Vals dvs ds)
   (hx:oP CX X E) (I:Inv X Z σ H s) (r:Vals vs us)
   (h:∀x dx,H x=none->H dx=none->dx≠x->sp (.ref x::(vs++dvs)) (upd (upd H dx (.own x)) x (.ins C dx [])) (fun v H2=>v = .non/\Q (.ref x) H2) E) :
   wpAny (model X.prog X.w) X.A (call (.ref C) us) (EP X Z σ Q) X.xe s:=by
 have hq:=h (s.heap.objs.size+1) s.heap.objs.size (I.hok.fresh (Yn _)) (I.hok.fresh (Qf _)) (Wi (Oz _))
 have I2:=Inv.made (C:=C) I
 have r2:Vals (V.ref (s.heap.objs.size+1)::(vs++dvs)) (Value.ref (s.heap.objs.size+1)::(us++ds)):=.cons rfl (r.append hd)
 have hl:(Value.ref (s.heap.objs.size+1)::us++ds).length=ps.length:=by
   have e:=r2.length
   rw[F.len _ _ _ _ hq] at e
   exact e.symm
 refine Ot (zQX (f:=f) I.kIn M.makes M.init (Tr.mp M.fn) (Ue (F.run _ X.stack _ _ ⟨Value.ref (s.heap.objs.size+1)::us,[]⟩ (Value.ref (s.heap.objs.size+1)::(us++ds)) _ _ E (hr.make C us [])
   (I2.env0.make C us []) (hb _ (Value.ref (s.heap.objs.size+1)::us) I2.kIn hl) r2 hq) fun r s' hq'=>?_))
 cases r with
 | error e=>exact hx Z σ _ _ e s' I2 hq'
 | ok fl =>
   cases fl with
   | ret u =>
     obtain⟨v,H',I3,rv,ev,q3⟩:=I2.after hq'
     subst ev
     exact⟨rv,⟨V.ref (s.heap.objs.size+1),H',I3,rfl,q3⟩⟩
   | next=>exact False.elim hq'
   | brk=>exact False.elim hq'
   | cont=>exact False.elim hq'
theorem zUN (M:Mk X.K C f)(F:FnOk X.prog X.w X.K X.mg X.base CX k f fd ps sp)(hr:Room (k+1) X.A)(hg:Gl X x)(hm:X.mg x=some (.ref C))(hb:Binds X.K fd ps ds)(hd:Vals dvs ds)(hx:oP CX X E)
   (ha:PA X (e::es) t) (hdb:(x==("__debug__":Str))=false:=by decide) (he:starEach (e::es) X.env=(false,eval e X.env)::starEach es X.env:=by rfl) (hpl:(backTo pos (starEach es X.env)).any (·.1)=false:=by rfl) :
   PE X (.Call (.Name x p) (e::es) [] pos) (zMJ C sp dvs E t):=by
 intro Z s σ H Q I h
 refine Ev (nB I hg hm ?_ hdb)
 refine Yw (h₀:=X.base) I.ok.mod.kin M.kp (thn (ha pos Z s σ H _ I h) fun us s1 ⟨vs,H1,I1,r,q⟩=>⟨I1.kIn,?_⟩) he hpl
 exact zS8 M F hr hb hd hx I1 r q
variable {ks:List Str}
structure KBinds (K:jh)(fd:FuncData)(ps ks:List Str)(g:List Value->List Value->List Value)(gV:List V->List V->List V):Prop where
 to:∀(s:Shared) (us ws:jm),K.In s.heap->(g us ws).length=ps.length->BindsTo s fd ⟨us,ks.zip ws⟩ (ps.zip (g us ws))
 rel:∀ {vs:List V} {us:jm} {zs:List V} {ws:jm},Vals vs us->Vals zs ws->Vals (gV vs zs) (g us ws)
variable {g:List Value->List Value->List Value} {gV:List V->List V->List V}
end
structure FnScope (N P:List Str)(sc:Scope):Prop where
 kind:sc.kind = .function
 co:sc.isCoroutine=false
 gen:sc.isGenerator=false
 nd:N.Nodup
 pre:N.take P.length=P
 par:∀x∈P,sc.names.lookup x=some .local∨sc.names.lookup x=some .cell
 nofree:∀y∈sc.names,y.2 ≠ .free
theorem zZn {kindOf:Str->Option NameKind}{x:Str}:∀ {binds:List (Str×Value)} {m:Str->Option Value},(∀v,(x,v)∉binds)->bindL kindOf binds m x=m x
 | [],_,_=>rfl
 | (n,v)::r,m,h=>by
   unfold bindL
   rw[zZn fun w hw=>h w (Qk _ hw)]
   split
   · have:x≠n:=by rintro rfl;exact h v Qv
     simp[this]
   · rfl
theorem zYW {kindOf:Str->Option NameKind}{x:Str}:∀ {binds:List (Str×Value)} {m:Str->Option Value},(∀v,(x,v)∉binds)->bindC kindOf binds m x=m x
 | [],_,_=>rfl
 | (n,v)::r,m,h=>by
   unfold bindC
   rw[zYW fun w hw=>h w (Qk _ hw)]
   split
   · rfl
   · have:x≠n:=by rintro rfl;exact h v Qv
     simp[this]
theorem zZ1 {kindOf:Str->Option NameKind}{x:Str}{v:Value}:∀ {P:List Str} {vs:jm} {i:Nat} {m:Str->Option Value},P.Nodup->P[i]?=some x->vs[i]?=some v->kindOf x=some .local ->
   bindL kindOf (P.zip vs) m x=some v
 | [],_,_,_,_,h,_,_=>by simp at h
 | _::_,[],_,_,_,_,h,_=>by simp at h
 | p::P,w::vs,0,m,nd,h1,h2,hk=>by
   simp at h1 h2;subst h1;subst h2
   show bindL kindOf ((p,w)::P.zip vs) m p=_
   unfold bindL
   rw[zZn fun v hv=>(Ru.mp nd).1 (Om hv).1,Qu hk]
   simp
 | p::P,w::vs,i+1,m,nd,h1,h2,hk=>by
   show bindL kindOf ((p,w)::P.zip vs) m x=_
   unfold bindL
   exact zZ1 (i:=i) (Ru.mp nd).2 (by simpa using h1) (by simpa using h2) hk
theorem zZb {kindOf:Str->Option NameKind}{x:Str}{v:Value}:∀ {P:List Str} {vs:jm} {i:Nat} {m:Str->Option Value},P.Nodup->P[i]?=some x->vs[i]?=some v->kindOf x≠some .local ->
   bindC kindOf (P.zip vs) m x=some v
 | [],_,_,_,_,h,_,_=>by simp at h
 | _::_,[],_,_,_,_,h,_=>by simp at h
 | p::P,w::vs,0,m,nd,h1,h2,hk=>by
   simp at h1 h2;subst h1;subst h2
   show bindC kindOf ((p,w)::P.zip vs) m p=_
   unfold bindC
   rw[zYW fun v hv=>(Ru.mp nd).1 (Om hv).1,Qs hk]
   simp
 | p::P,w::vs,i+1,m,nd,h1,h2,hk=>by
   show bindC kindOf ((p,w)::P.zip vs) m x=_
   unfold bindC
   exact zZb (i:=i) (Ru.mp nd).2 (by simpa using h1) (by simpa using h2) hk
def xE (N:List Str)(vs:List V):St:=vs.map some++List.replicate (N.length - vs.length) none
def rL (CX:CXT)(P:Program)(w:World)(K:jh)(mg:Str->Option Value)(base:Heap)(N:List Str)(qual:Str)(scope:Scope)(f:Addr)(cd:Value)(A:Around)(outer:List Env)(s:Shared)(H:Hp)(E:XK):Cx where
 prog:=P
 w:=w
 K:=K
 mg:=mg
 base:=base
 A:=A.deeper (envOfC qual scope s.heap.objs.size f cd)
 N:=N
 s₀:=s
 H₀:=H
 env:=envOfC qual scope s.heap.objs.size f cd
 outer:=outer
 stack:=envOfC qual scope s.heap.objs.size f cd::outer
 ex:=[]
 calm:=true
 fn:=fun _=>true
 pn:=[]
 xe:=fun e s'=>wpAny (model P w) (A.deeper (envOfC qual scope s.heap.objs.size f cd)) (leaving (envOfC qual scope s.heap.objs.size f cd) e) (fun _ s''=>CX outer H s E e s'') (fun e' s''=>CX outer H s E e' s'') s'
theorem zXu {sc:Scope}{n:Nat}{x:Str}(h:sc.names.lookup x=some .cell):∃c,(cellsFrom n sc.names []).lookup x=some c:=by
 have q:=PySem.W.cellsFrom_some sc.names n [] (.inl h)
 exact Eb.mp q
theorem zTt {CX:CXT}{P:Program}{w:World}{K:jh}{mg:Str->Option Value}{base:Heap}{N ps:List Str}{qual:Str}{scope:Scope}{f:Addr}{cd:Value}{A:Around}{outer:List Env}{s s1:Shared}{H:Hp}{E:XK}{us:jm}{vs:List V}
   (S:FnScope N ps scope) (hd:A.handled=none) (e0:Env0 P w K mg base A outer s H) (hl:vs.length=ps.length) (r:Vals vs us)
   (x:InCallC s s.heap.objs.size (bindL (envOfC qual scope s.heap.objs.size f cd).kindOf (ps.zip us) fun _=>none) (cellsFrom (s.heap.objs.size+1) scope.names []) (bindC (envOfC qual scope s.heap.objs.size f cd).kindOf (ps.zip us) fun _=>none) s1) :
   Inv (rL CX P w K mg base N qual scope f cd A outer s H E) [] (xE N vs) H s1:=by
 have hpl:ps.length<=N.length:=by have:=Eo List.length S.pre;rw[Qj] at this;lia
 obtain⟨h1,tk,rfl,hk⟩:=x.done
 have noA:∀b:Addr,b∉(rL CX P w K mg base N qual scope f cd A outer s H E).ex:=fun b z=>absurd (show b∈([]:List Addr) from z) je
 refine⟨⟨e0.mod,S.kind,rfl,rfl,Qf _,fun y z c h1 h2=>?_,fun y hy=>?_,fun y c _ h=>?_,fun _=>hd,Around.frames_deeper e0.frames,.inr ⟨rfl,rfl⟩,fun b z=>absurd z (noA b),e0.bs,e0.bsz,fun b _ _=>noA b,fun b z=>absurd z (noA b),e0.funs,e0.frf⟩,
   rfl,e0.bare,Un.kept hk,⟨_,x.toInCall.ns,fun i y v h1 h2 h3=>?_⟩,fun y c h=>⟨_,x.cell y c h⟩,e0.hok.fresh (Qf _),fun y c h=>?_,fun p hp=>absurd (show p∈([]:jl) from hp) je,e0.hok.kept hk,?_⟩
 · exact name_of_addr x.apart (El h1) (El h2)
 · have hy:scope.names.lookup y=some .cell∨scope.names.lookup y=some .free:=hy
   rcases hy with hy | hy
   · exact zXu hy
   · exact absurd rfl (S.nofree _ (El hy))
 · exact Wb (x.above y c (El h))
 · have hi:i < vs.length:=by
     unfold xE at h2
     by_cases hi:i < vs.length
     · exact hi
     · rw[Wt (by simpa using hi)] at h2
       rw[Eu] at h2
       split at h2<;>cases h2
   have ha:vs[i]?=some v:=by
     unfold xE at h2
     rw[Wj (by simpa using hi),Wd] at h2
     cases e:vs[i]? with
     | none=>rw[e] at h2;cases h2
     | some a=>rw[e] at h2;cases h2;rfl
   obtain⟨u,hu,rv⟩:=r.get ha
   have hp:ps[i]?=some y:=by
     rw[←S.pre,List.getElem?_take_of_lt jc];exact h1
   have ndP:ps.Nodup:=by rw[←S.pre];exact S.nd.sublist (Es _ _)
   refine⟨u,rv,?_⟩
   rcases S.par y (Um hp) with k | k
   · exact .inl ⟨k,zZ1 ndP hp hu k⟩
   · obtain⟨c,e⟩:=zXu (n:=s.heap.objs.size+1) k
     refine .inr ⟨.inl k,c,e,?_⟩
     have q:=x.cell y c e
     rw[zZb ndP hp hu (by show scope.names.lookup y≠_;rw[k];decide)] at q
     exact q
 · exact e0.hok.fresh (Wb (x.above y c (El h)))
 · unfold xE
   show _=N.length
   rw[Qt,Qi,Uh]
   lia
theorem zPb {CX:CXT}{P:Program}{w:World}{K:jh}{mg:Str->Option Value}{base:Heap}{k:Nat}{f:Addr}{name qual:Str}{params:Arguments}{body:List Stmt}{scope:Scope}{dV kV doc pm j9 ct oc:Value}{an od:Option Addr}
   {osl:Array (Option Value)} {N ps:List Str} {sp:Sp} (lk:K.lookup f=some ⟨oc,od,.func (PySem.W.fnOf name qual params body scope dV kV doc pm an j9 ct),osl⟩) (hcd:PySem.W.codeIn K j9 qual=true) (S:FnScope N ps scope)
   (len:∀vs H Q E,sp vs H Q E->vs.length=ps.length)
   (hbody:∀(A:Around) (outer:List Env) (s:Shared) (H:Hp) (vs:List V) (Q:VK) (E:XK),Room k (A.deeper (envOfC qual scope s.heap.objs.size f j9))->sp vs H Q E ->
     ∃t,PSs (rL CX P w K mg base N qual scope f j9 A outer s H E) body t/\t { nx:=fun _ H'=>Q .non H',rt:=Q } (xE N vs) H) :
   FnOk P w K mg base CX (k+1) f (PySem.W.fnOf name qual params body scope dV kV doc pm an j9 ct) ps sp:=by
 refine⟨len,fun A outer s H args us vs Q E hr e0 hb r hsp=>?_⟩
 have hl:=len _ _ _ _ hsp
 have KX:K.In s.heap:=e0.mod.kin.keeps fun b o e=>(e0.bs b o e).1
 have lim:s.heap.NoLimit:=e0.mod.nolimit.keeps fun b o e=>(e0.bs b o e).1
 have hkind:∀y∈ps.zip us,scope.names.lookup y.1=some .local∨(scope.names.lookup y.1=some .cell/\((cellsFrom (s.heap.objs.size+1) scope.names []).lookup y.1).isSome=true):=fun⟨n,v⟩ hy=>by
   rcases S.par n (Om hy).1 with q | q
   · exact .inl q
   · exact .inr ⟨q,PySem.W.cellsFrom_some _ _ _ (.inl q)⟩
 refine codeAny_call_function hr.depth (KX _ _ lk) rfl S.co S.gen rfl (PySem.W.codeRec_of KX hcd) (hb _ _ _ _ ?_)
 refine wpAny_newFunctionEnv_cells S.kind hkind fun env he s1 x=>?_
 subst he
 refine⟨lim.keeps x.toInCall.keep,codeAny_func ?_⟩
 obtain⟨t,ht,hq⟩:=hbody A outer s H vs Q E (hr.deeper _) hsp
 have I:Inv (rL CX P w K mg base N qual scope f j9 A outer s H E) [] (xE N vs) H s1:=zTt S hr.hd e0 hl r x
 refine Te (ht [] s1 (xE N vs) H _ I hq) (fun fl s' hs=>?_) fun e s' hs=>hs
 have fin:∀ {σ':St} {H':Hp} {v:V} {u:Value},Inv (rL CX P w K mg base N qual scope f j9 A outer s H E) [] σ' H' s'->RelV v u->Q v H'->CE outer P w H s Q u s' :=
   fun {σ' H' v u} J rv q=>⟨v,H',J.os,J.bare,J.base,J.hok,rv,q⟩
 cases fl with
 | ret u =>
   obtain⟨v,σ',H',J,rv,q⟩:=hs
   exact fin J rv q
 | next =>
   obtain⟨σ',H',J,q⟩:=hs
   exact fin (v:=V.non) (u:=Value.none) J rfl q
 | brk =>
   obtain⟨_,_,_,q⟩:=hs
   exact False.elim q
 | cont =>
   obtain⟨_,_,_,q⟩:=hs
   exact False.elim q
section
variable {X:Cx} {x:Str} {p pos:Pos} {e:Expr} {es:List Expr} {t:TA} {id T:String} {r:List V->Hp->VK->Prop}
def tCB (r:List V->Hp->VK->Prop)(t:TA):TE:=fun σ H Q=>t σ H fun vs H1=>r vs H1 Q
theorem tJ (hc:CallR X (.builtin id) r)(hg:Gl X x)(hm:X.mg x=none)(hv:bootBuiltins x=some (.builtin id))(ha:PA X (e::es) t)(hn:x≠"__name__":=by decide)(hdb:(x==("__debug__":Str))=false:=by decide)
   (he:starEach (e::es) X.env=(false,eval e X.env)::starEach es X.env:=by rfl) (hpl:(backTo pos (starEach es X.env)).any (·.1)=false:=by rfl):PE X (.Call (.Name x p) (e::es) [] pos) (tCB r t):=by
 intro Z s σ H Q I h
 refine Ev (lM I hg hm hv ?_ hn hdb)
 exact PyProof.Rows.callWith_builtin1 (thn (ha pos Z s σ H _ I h) fun us s1 ⟨vs,H1,I1,r1,q1⟩=>hc Z s1 σ H1 vs us Q I1 r1 q1) he hpl
theorem zTx (hc:CallR X (.type T) r)(hg:Gl X x)(hm:X.mg x=none)(hv:bootBuiltins x=some (.type T))(ha:PA X (e::es) t)(hn:x≠"__name__":=by decide)(hdb:(x==("__debug__":Str))=false:=by decide)
   (he:starEach (e::es) X.env=(false,eval e X.env)::starEach es X.env:=by rfl) (hpl:(backTo pos (starEach es X.env)).any (·.1)=false:=by rfl):PE X (.Call (.Name x p) (e::es) [] pos) (tCB r t):=by
 intro Z s σ H Q I h
 refine Ev (lM I hg hm hv ?_ hn hdb)
 exact Ta (thn (ha pos Z s σ H _ I h) fun us s1 ⟨vs,H1,I1,r1,q1⟩=>hc Z s1 σ H1 vs us Q I1 r1 q1) he hpl
end
end L2
namespace HT
open PySem PyProof.Rows
section
def sIx (n d:Nat):Option Int->Nat
 | none=>d
 | some v=>if v < 0 then(v+(n:Int)).toNat else min v.toNat n
theorem sIx_none (n d:Nat):sIx n d none=d:=rfl
theorem sIx_nat (n d k:Nat):sIx n d (some (k:Int))=min k n:=by
 show(if (k:Int) < 0 then((k:Int)+(n:Int)).toNat else min (k:Int).toNat n)=min k n
 rw[Qs jc,Oy]
end
end HT
namespace L2
open PySem PySem.Spec PyProof.Rows
abbrev TO:=St->Hp->(Option Int->Hp->Prop)->Prop
def PO (X:Cx)(e:Option Expr)(t:TO):Prop :=
 ∀(Z:jl) (s:Shared) (σ:St) (H:Hp) (Q:Option Int->Hp->Prop),Inv X Z σ H s->t σ H Q ->
   wpAny (model X.prog X.w) X.A (evalPart e X.env) (fun u s'=>∃o H',Inv X Z σ H' s'/\IsPart u o/\Q o H') X.xe s
def zQP:TO:=fun _ H Q=>Q none H
def zMV (t:TE):TO:=fun σ H Q=>t σ H fun x H1=>∃i,x = .int i/\Q (some i) H1
section
variable {X:Cx} {e:Expr} {te:TE} {lo hi:Option Expr} {tl th:TO} {pos p2:Pos}
theorem zPP:PO X none zQP:=by
 intro Z s σ H Q I h
 rw[evalPart_none]
 exact Qh ⟨none,H,I,.none,h⟩
theorem zQo (h:PE X e te):PO X (some e) (zMV te):=by
 intro Z s σ H Q I hw
 rw[evalPart_some]
 refine thn (h Z s σ H _ I hw) fun u s1 ⟨x,H1,I1,r1,q1⟩=>?_
 obtain⟨i,rfl,q⟩:=q1
 obtain⟨t,rfl⟩:=r1
 exact⟨some i,H1,I1,.int i t,q⟩
def SlR (X:Cx)(r:V->Option Int->Option Int->Hp->VK->Prop):Prop :=
 ∀(Z:jl) (s:Shared) (σ:St) (H:Hp) (x:V) (v vl vu:Value) (lo hi:Option Int) (sl:Addr) (Q:VK),Inv X Z σ H s->RelV x v->s.heap.IsSliceOf sl vl vu .none->IsPart vl lo->IsPart vu hi->r x lo hi H Q ->
   ∃T id,typeLookup (.type T) "__getitem__"=pure (some (.builtin id))/\s.TypeIs v T/\wpAny (model X.prog X.w) X.A (getItem v (.ref sl)) (EP X Z σ Q) X.xe s
def tSl (r:V->Option Int->Option Int->Hp->VK->Prop)(te:TE)(tl th:TO):TE:=fun σ H Q=>te σ H fun x H1=>tl σ H1 fun l H2=>th σ H2 fun u H3=>r x l u H3 Q
theorem zXo {r:V->Option Int->Option Int->Hp->VK->Prop}(hr:SlR X r)(he:PE X e te)(hl:PO X lo tl)(hu:PO X hi th):PE X (.Subscript e (.Slice lo hi none p2) pos) (tSl r te tl th):=by
 intro Z s σ H Q I h
 refine Subscript_ (thn (he Z s σ H _ I h) fun v s1 ⟨x,H1,I1,r1,q1⟩=>?_)
 refine wpAny_Slice (thn (hl Z s1 σ H1 _ I1 q1) fun vl s2 ⟨l,H2,I2,pl,q2⟩=>thn (hu Z s2 σ H2 _ I2 q2) fun vu s3 ⟨u,H3,I3,pu,q3⟩=>?_)
 rw[evalPart_none]
 refine Qh ?_
 have I4:Inv X Z σ H3 { s3 with heap:=s3.heap.push { cls:=.type "slice",data:=.fields #[vl,vu,.none] } }:=I3.kept (t':=s3.toks) fun b ob q=>Qy _ q
 obtain⟨T,id,hT,ht,hg⟩:=hr Z { s3 with heap:=s3.heap.push { cls:=.type "slice",data:=.fields #[vl,vu,.none] } } σ H3 x v vl vu l u s3.heap.objs.size Q I4 r1 (Heap.IsSliceOf.new ..) pl pu q3
 show wpAny (model X.prog X.w) X.A (subscriptTail e (.Slice lo hi none p2) v (.ref s3.heap.objs.size)) (EP X Z σ Q) X.xe { s3 with heap:=s3.heap.push { cls:=.type "slice",data:=.fields #[vl,vu,.none] } }
 exact tail_any (ops:=[.ref s3.heap.objs.size,v]) ht hT hg (by with_unfolding_all rfl)
def zTv (xs:List V)(lo hi:Option Int):List V:=(xs.drop (HT.sIx xs.length 0 lo)).take (HT.sIx xs.length xs.length hi - HT.sIx xs.length 0 lo)
theorem zWu (xs:List V)(lo hi:Option Int):(zTv xs lo hi).length<=xs.length:=by
 unfold zTv
 rw[Qj,Wu]
 lia
end
def ixN (n:Nat)(i:Int):Option Nat:=if 0<=i then(if i < n then some i.toNat else none) else if -(n:Int)<=i then some (i+n).toNat else none
def atI {α:Type}(xs:List α)(i:Int):Option α:=(ixN xs.length i).bind fun j=>xs[j]?
theorem zQh {n:Nat}{i:Int}{j:Nat}(h:ixN n i=some j):seqIndex? i n=some j/\j < n /\ -(n:Int)<=i/\i < n:=by
 unfold ixN at h
 by_cases h0:0<=i
 · rw[Qu h0] at h
   by_cases h1:i < n
   · rw[Qu h1] at h
     have e:i.toNat=j:=Wh h
     exact⟨by rw[seqIndex_of h0 h1,e],jc,jc,h1⟩
   · rw[Qs h1] at h;cases h
 · rw[Qs h0] at h
   by_cases h1 : -(n:Int)<=i
   · rw[Qu h1] at h
     have e:(i+n).toNat=j:=Wh h
     exact⟨by rw[seqIndex_neg jc h1,e],jc,h1,jc⟩
   · rw[Qs h1] at h;cases h
theorem zYE {α:Type}{xs:List α}{i:Int}{v:α}(h:atI xs i=some v):∃j,seqIndex? i xs.length=some j/\xs[j]?=some v/\j < xs.length /\ -(xs.length:Int)<=i/\i < xs.length:=by
 unfold atI at h
 cases e:ixN xs.length i with
 | none=>rw[e] at h;cases h
 | some j =>
   rw[e] at h
   obtain⟨h1,h2,h3,h4⟩:=zQh e
   exact⟨j,h1,h,h2,h3,h4⟩
def zX7 (b:Expr):Prop:=∀o i,subscripted b false o i=operate [o,i] (getItem o i)
def IxR (X:Cx)(r:R2):Prop :=
 ∀(value slice:Expr) (Z:jl) (s:Shared) (σ:St) (H:Hp) (x y:V) (v u:Value) (Q:VK),Inv X Z σ H s->RelV x v->RelV y u->r x y H Q ->
   subscripted slice false v u=operate [v,u] (getItem v u)->wpAny (model X.prog X.w) X.A (subscriptTail value slice v u) (EP X Z σ Q) X.xe s
def MtR (X:Cx)(id:String)(r:V->List V->Hp->VK->Prop):Prop :=
 ∀(Z:jl) (s:Shared) (σ:St) (H:Hp) (x:V) (xs:List V) (v:Value) (us:jm) (Q:VK),Inv X Z σ H s->RelV x v->Vals xs us->r x xs H Q ->
   wpAny (model X.prog X.w) X.A (call (.builtin id) (v::us)) (EP X Z σ Q) X.xe s
section
variable {X:Cx} {a b:Expr} {ta tb:TE} {pos:Pos}
theorem IxR.or {r r':R2}(h:IxR X r)(h':IxR X r'):IxR X (fun x y H Q=>r x y H Q∨r' x y H Q):=by
 intro value slice Z s σ H x y v u Q I rx ry q hs
 rcases q with q | q
 · exact h value slice Z s σ H x y v u Q I rx ry q hs
 · exact h' value slice Z s σ H x y v u Q I rx ry q hs
theorem zPm {r:R2}(hr:IxR X r)(ha:PE X a ta)(hb:PE X b tb)(hs:zX7 b):PE X (.Subscript a b pos) (tOp r ta tb):=by
 intro Z s σ H Q I h
 exact Subscript_ (zOA ha hb I h fun v u s2 x y H2 I2 rx ry q=>hr a b Z s2 σ H2 x y v u Q I2 rx ry q (hs _ _))
def zMD (K:jh):R2:=fun x y H Q=>∃p xs i v,x = .ref p/\y = .int i/\SqL K H p xs/\atI xs i=some v/\Q v H
def zMC (K:jh):R2:=fun x y H Q=>∃p xs i v,x = .ref p/\y = .int i/\SqT K H p xs/\atI xs i=some v/\Q v H
def zNg:R2:=fun x y H Q=>∃z i c,x = .str z/\y = .int i/\z.length<=sizeLine/\atI z.cps.toList i=some c/\Q (.str ⟨#[c]⟩) H
theorem zP8:IxR X (zMD X.K):=by
 intro value slice Z s σ H x y v u Q I rx ry h hs
 obtain⟨p,xs,i,z,rfl,rfl,hq,he,q⟩:=h
 cases rx
 obtain⟨t,rfl⟩:=ry
 obtain⟨j6,r,pl,hz⟩:=I.list hq
 obtain⟨j,h1,h2,h3,h4,h5⟩:=zYE he
 obtain⟨w,ew,rw'⟩:=r.get h2
 have hl:=r.length
 have hn:=dS
 have fin:EP X Z σ Q w s:=⟨z,H,I,rw',q⟩
 by_cases h0:0<=i
 · have hj:i.toNat=j:=by
     rw[seqIndex_of h0 h5] at h1
     exact Wh h1
   exact item_listR pl.isList h0 jc (by rw[hj];simpa using ew) fin hs
 · have hj:(i+(j6.toArray.size:Int)).toNat=j:=by
     rw[seqIndex_neg jc h4] at h1
     rw[Qp,←hl]
     exact Wh h1
   exact subscriptTail_builtinR (x:=w) pl.isList.typeIs slot_list_getitem.lookup
     (wpAny_getItem_list_neg (Q:=fun r s'=>r=w/\EP X Z σ Q r s') pl.isList jc (by rw[Qp]<;>lia) jc (by rw[hj];simpa using ew) ⟨rfl,fin⟩) hs
theorem zNC:IxR X (zMC X.K):=by
 intro value slice Z s σ H x y v u Q I rx ry h hs
 obtain⟨p,xs,i,z,rfl,rfl,hq,he,q⟩:=h
 cases rx
 obtain⟨t,rfl⟩:=ry
 obtain⟨j6,r,pl,hz⟩:=I.tuple hq
 obtain⟨j,h1,h2,h3,h4,h5⟩:=zYE he
 obtain⟨w,ew,rw'⟩:=r.get h2
 have hl:=r.length
 have hn:=dS
 have fin:EP X Z σ Q w s:=⟨z,H,I,rw',q⟩
 exact subscriptTail_builtinR (x:=w) pl.typeIs slot_tuple_getitem.lookup
   (getItem_tuple (j:=j) (Q:=fun r s'=>r=w/\EP X Z σ Q r s') pl jc jc (by rw[Qp,←hl];exact h1) (by simpa using ew) ⟨rfl,fin⟩) hs
theorem zNB:IxR X zNg:=by
 intro value slice Z s σ H x y v u Q I rx ry h hs
 obtain⟨z,i,c,rfl,rfl,hz,he,q⟩:=h
 obtain⟨t,rfl⟩:=rx
 obtain⟨t',rfl⟩:=ry
 obtain⟨j,h1,h2,h3,h4,h5⟩:=zYE he
 have hl:z.cps.toList.length=z.length:=by simp[Str.length]
 rw[hl] at h1 h4 h5
 have hn:=dS
 exact tail_any (typeIs_str s z t) slot_str_getitem.lookup (getItem_str (c:=c) (by
   have e1:decide (i < -(2^63:Int))=false:=We jc
   have e2:decide (i≥2^63)=false:=We jc
   rw[e1,e2,Bool.or_false]) (by rw[h1];simpa using h2) ⟨.str ⟨#[c]⟩,H,I.tok _,⟨_,rfl⟩,q⟩) hs
def rIx (K:jh):R2:=fun x y H Q=>zMD K x y H Q∨zMC K x y H Q∨zNg x y H Q
theorem zO6:IxR X (rIx X.K):=zP8.or (zNC.or zNB)
theorem zY2 (lo hi:Option Int)(n:Nat):(sliceBounds lo hi none n).1=((HT.sIx n 0 lo:Nat):Int)/\(sliceBounds lo hi none n).2.1=((HT.sIx n n hi:Nat):Int)/\(sliceBounds lo hi none n).2.2=1:=by
 refine⟨?_,?_,rfl⟩
 · cases lo with
   | none=>simp[sliceBounds,HT.sIx]
   | some i =>
     simp only[sliceBounds,HT.sIx,Option.getD_none,show(1:Int) > 0 by decide,Uj]
     by_cases h:i < 0
     · simp only[h,Uj]<;>lia
     · simp only[h,Rv]<;>lia
 · cases hi with
   | none=>simp[sliceBounds,HT.sIx]
   | some i =>
     simp only[sliceBounds,HT.sIx,Option.getD_none,show(1:Int) > 0 by decide,Uj]
     by_cases h:i < 0
     · simp only[h,Uj]<;>lia
     · simp only[h,Rv]<;>lia
theorem zZ5 (j6:jm)(lo hi:Option Int):slicePick j6.toArray lo hi none=((j6.drop (HT.sIx j6.length 0 lo)).take (HT.sIx j6.length j6.length hi - HT.sIx j6.length 0 lo)).toArray:=by
 obtain⟨h1,h2,h3⟩:=zY2 lo hi j6.toArray.size
 unfold slicePick
 rw[h1,h2,h3]
 simp only[sliceRange_one,pick_run,Qp]<;>rfl
def zMh (K:jh):V->Option Int->Option Int->Hp->VK->Prop:=fun x lo hi H Q=>∃a xs,x = .ref a/\SqL K H a xs/\∀p,H p=none->Q (.ref p) (upd H p (.lst (zTv xs lo hi)))
theorem zQ4:SlR X (zMh X.K):=by
 intro Z s σ H x v vl vu lo hi sl Q I rx hs pl pu h
 obtain⟨a,xs,rfl,hx,q⟩:=h
 cases rx
 obtain⟨j6,r,ht,hz⟩:=I.list hx
 have j5:=r.length
 refine⟨"list",_,slot_list_getitem.lookup,ht.isList.typeIs,?_⟩
 refine wpAny_getItem_list_slice ht.isList hs pl pu .none je ?_ (by rw[Qp]<;>lia)
 rw[zZ5,←j5]
 refine⟨.ref s.heap.objs.size,_,I.laid (t':=s.toks) (o:=.lst (zTv xs lo hi)) (fun b ob q=>Qy _ q) (Qf _) ?_,rfl,q _ (I.hok.fresh (Qf _))⟩
 exact⟨Wp (zWu xs lo hi) hz,_,0,(r.drop (HT.sIx xs.length 0 lo)).take (HT.sIx xs.length xs.length hi - HT.sIx xs.length 0 lo),Ww _ rfl⟩
theorem fO:CallR X (.builtin "len") (fun xs H Q=>∃p ys,xs=[.ref p]/\(SqL X.K H p ys∨SqT X.K H p ys)/\Q (.int ys.length) H):=by
 intro Z s σ H xs us Q I r h
 obtain⟨p,ys,rfl,hq,q⟩:=h
 obtain⟨u,rfl,rx⟩:=zZO r
 cases rx
 have hn:=dS
 rcases hq with hq | hq
 · obtain⟨j6,r',pl,hz⟩:=I.list hq
   have j5:=r'.length
   exact Calls.call_len_list pl.isList (by simp only[Qp]<;>lia) ⟨.int ys.length,H,I.tok _,⟨s.toks+1,by rw[Qp,j5]⟩,q⟩
 · obtain⟨j6,r',pl,hz⟩:=I.tuple hq
   have j5:=r'.length
   exact len_tuple pl (by simp only[Qp]<;>lia) ⟨.int ys.length,H,I.tok _,⟨s.toks+1,by rw[Qp,j5]⟩,q⟩
theorem zYy:CallR X (.builtin "len") (fun xs H Q=>∃z,xs=[.str z]/\z.length<=sizeLine/\Q (.int z.length) H):=by
 intro Z s σ H xs us Q I r h
 obtain⟨z,rfl,hz,q⟩:=h
 obtain⟨u,rfl,t,rfl⟩:=zZO r
 have hn:=dS
 exact len_str jc ⟨.int z.length,H,I.tok _,⟨_,rfl⟩,q⟩
theorem CallR.or {f:Value}{r r':List V->Hp->VK->Prop}(h:CallR X f r)(h':CallR X f r'):CallR X f (fun xs H Q=>r xs H Q∨r' xs H Q):=by
 intro Z s σ H xs us Q I rs q
 rcases q with q | q
 · exact h Z s σ H xs us Q I rs q
 · exact h' Z s σ H xs us Q I rs q
theorem zYi:CallR X (.type "list") (fun xs H Q=>∃p ys,xs=[.ref p]/\(SqL X.K H p ys∨SqT X.K H p ys)/\∀l,H l=none->Q (.ref l) (upd H l (.lst ys))):=by
 intro Z s σ H xs us Q I r h
 obtain⟨p,ys,rfl,hq,q⟩:=h
 obtain⟨u,rfl,rx⟩:=zZO r
 cases rx
 have fin:∀(j6:jm),Vals ys j6->ys.length<=sizeLine->∀(h':Heap) (c':Nat),(∀b o',s.heap.get? b=some o'->h'.get? b=some o') ->
     h'.get? s.heap.objs.size=some { cls:=.type "list",dict:=none,data:=.seq j6.toArray c',slots:=#[] }->EP X Z σ Q (.ref s.heap.objs.size) { s with heap:=h' }:=fun j6 r' hz h' c' kp e =>
   ⟨.ref s.heap.objs.size,_,I.laid (t':=s.toks) kp (Qf _) (show ObjOk X.prog X.w _ h' _ (.lst ys) from⟨hz,j6,c',r',e⟩),rfl,q _ (I.hok.fresh (Qf _))⟩
 rcases hq with hq | hq
 · obtain⟨j6,r',pl,hz⟩:=I.list hq
   have j5:=r'.length
   obtain⟨o,ho,hc,n,hd⟩:=pl.isList
   exact call_list_seq p (.inl rfl) ho hc hd (fun h' c' kp e=>fin j6 r' hz h' c' kp e) (by simp only[Qp]<;>lia)
 · obtain⟨j6,r',pl,hz⟩:=I.tuple hq
   have j5:=r'.length
   obtain⟨o,ho,hc,n,hd⟩:=pl
   exact call_list_seq p (.inr rfl) ho hc hd (fun h' c' kp e=>fin j6 r' hz h' c' kp e) (by simp only[Qp]<;>lia)
def tyV (K:jh)(T:String)(x:V)(H:Hp):Prop:=match x with
 | .str _=>T="str"
 | .int _=>T="int"
 | .ref p=>(T="list"/\∃xs,SqL K H p xs)∨(T="tuple"/\∃o,K.lookup p=some o/\o.cls = .type "tuple"/\o.dict=none) ∨
     (T="dict"/\((∃j8,H p=some (.dK j8))∨∃j8,H p=some (.dT j8)))∨(T="set"/\∃S n,H p=some (.set S n))
 | _=>False
theorem zOF {Z:jl}{σ:St}{H:Hp}{s:Shared}{T:String}{x:V}{v:Value}(I:Inv X Z σ H s)(r:RelV x v)(ty:tyV X.K T x H) :
   s.TypeIs v T/\∀a,v = .ref a->∃ob,s.heap.get? a=some ob/\ob.dict=none:=by
 cases x with
 | str z =>
   obtain⟨t,rfl⟩:=r
   cases (show T="str" from ty)
   exact⟨typeIs_str s z t,fun _ e=>nomatch e⟩
 | int i =>
   obtain⟨t,rfl⟩:=r
   cases (show T="int" from ty)
   exact⟨typeIs_int s i t,fun _ e=>nomatch e⟩
 | ref p =>
   cases r
   rcases ty with⟨rfl,xs,hq⟩ | ⟨rfl,o,hk,hc,hd⟩ | ⟨rfl,hk⟩ | ⟨rfl,S,n,hk⟩
   · obtain⟨j6,_,pl,_⟩:=I.list hq
     refine⟨pl.isList.typeIs,fun a e=>?_⟩
     cases e
     obtain⟨o,n,e,c,hd,_⟩:=pl
     exact⟨o,e,hd⟩
   · refine⟨⟨o,I.kIn p o hk,hc⟩,fun a e=>?_⟩
     cases e
     exact⟨o,I.kIn _ o hk,hd⟩
   · have z:∃o,s.heap.get? p=some o/\o.ExactDict:=by
       rcases hk with⟨j8,hk⟩ | ⟨j8,hk⟩
       · obtain⟨_,_,_,_,o,_,_,e,ex,_⟩:=I.hok p _ hk
         exact⟨o,e,ex⟩
       · obtain⟨_,_,_,_,o,_,_,e,ex,_⟩:=I.hok p _ hk
         exact⟨o,e,ex⟩
     obtain⟨o,e,ex⟩:=z
     refine⟨⟨o,e,ex.1⟩,fun a e2=>?_⟩
     cases e2
     exact⟨o,e,ex.2.1⟩
   · obtain⟨o,_,_,_,e,ex,_⟩:=I.hok p _ hk
     refine⟨⟨o,e,ex.1⟩,fun a e2=>?_⟩
     cases e2
     exact⟨o,e,ex.2.1⟩
 | _=>exact False.elim ty
def tBM (K:jh)(T:String)(r:V->List V->Hp->VK->Prop)(to:TE)(t:TA):TE:=fun σ H Q=>to σ H fun x H1=>tyV K T x H1/\t σ H1 fun xs H2=>r x xs H2 Q
variable {o e:Expr} {es:List Expr} {to:TE} {t:TA} {name:Str} {apos cpos:Pos} {T id:String} {r:V->List V->Hp->VK->Prop}
theorem zUw (pa:PlainAttrs T)(slot:Slot T name id)(hty:typeOf (.builtin id)=pure (.type "method_descriptor"))(hm:MtR X id r)(ho:PE X o to)(ha:PA X (e::es) t)
   (hbase:attributeBase o name X.env (eval o X.env)=eval o X.env:=by rfl)
   (hfew:((backTo cpos (starEach (e::es) X.env)).all (fun x => !x.1)&&(backToKw cpos (keywordEach [] X.env)).all (fun x=>x.1.isSome)
     && decide ((e::es).length+([]:List Keyword).length+(if ([]:List Keyword).isEmpty then 0 else 1) < 30))=true:=by rfl)
   (hline:(apos.endLine==cpos.line)=true:=by rfl) (hs:starEach (e::es) X.env=(false,eval e X.env)::starEach es X.env:=by rfl) (hplain:(backTo cpos (starEach es X.env)).any (·.1)=false:=by rfl) :
   PE X (.Call (.Attribute o name apos) (e::es) [] cpos) (tBM X.K T r to t):=by
 intro Z s σ H Q I h
 refine wpAny_Call_method_late hbase hfew hline rfl (thn (ho Z s σ H _ I h) fun v s1 ⟨x,H1,I1,r1,ty,q1⟩=>?_)
 obtain⟨h1,h2⟩:=zOF I1 r1 ty
 refine⟨T,id,pa,slot,hty,h1,h2,?_⟩
 have hA:=ha cpos Z s1 σ H1 _ I1 q1
 rw[hs] at hA ⊢
 refine Calls.callWith_builtin (by show(false||(backTo cpos (starEach es X.env)).any (·.1))=false;rw[hplain]<;>rfl) (Calls.evalArgs_plain ?_)
 exact thn hA fun us s2 ⟨vs,H2,I2,r2,q2⟩=>hm Z s2 σ H2 x vs v us Q I2 r1 r2 q2
end
def MtM (X:Cx)(id:String)(r:V->List V->Hp->VK->Prop):Prop :=
 ∀(Z:jl) (s:Shared) (σ:St) (H:Hp) (x:V) (xs:List V) (v:Value) (us:jm) (Q:VK),Inv X Z σ H s->RelV x v->Vals xs us->r x xs H Q ->
   wpAny (model X.prog X.w) X.A (call (.builtin id) (v::us)) (EP X Z σ Q) X.xe s
theorem Vals.one:∀ {x:V} {us:jm},Vals [x] us->∃u,us=[u]/\RelV x u
 | _,_,.cons r .nil=>⟨_,rfl,r⟩
section
variable {X:Cx} {Z:jl} {σ:St} {H:Hp} {s:Shared} {l:Addr} {xs ys:List V}
theorem Inv.lset {j6 its':jm}{n:Nat}{f:Array Value->Array Value}{t':Nat}(I:Inv X Z σ H s)(hH:H l=some (.lst xs))
   (e:s.heap.get? l=some { cls:=.type "list",data:=.seq j6.toArray n }) (hf:f j6.toArray=its'.toArray) (hv:Vals ys its') (hz:ys.length<=sizeLine) :
   Inv X Z σ (upd H l (.lst ys)) { s with heap:=s.heap.update l (Obj.mapSeq f),toks:=t' }:=by
 have q:=PySem.IsL.update e f
 rw[hf] at q
 refine I.write (x:=l) (e:=l) (by rw[hH];exact trivial) (.inl rfl) (fun b' u hb hu=>(Ri s.heap (Obj.mapSeq f) (Ne.symm hb)).trans hu) ⟨_,q⟩ ?_
 exact⟨hz,its',_,hv,q⟩
theorem Inv.lnew {j6:jm}{t':Nat}(I:Inv X Z σ H s)(hv:Vals ys j6)(hz:ys.length<=sizeLine) :
   Inv X Z σ (upd H s.heap.objs.size (.lst ys)) { s with heap:=s.heap.push { cls:=.type "list",data:=.seq j6.toArray },toks:=t' } :=
 I.laid (fun _ _ q=>Qy _ q) (Qf _) ⟨hz,j6,0,hv,Ww _ rfl⟩
theorem Inv.fresh (I:Inv X Z σ H s):H s.heap.objs.size=none:=I.hok.fresh (Qf _)
theorem Inv.lstM (I:Inv X Z σ H s)(hH:H l=some (.lst xs)):xs.length<=sizeLine/\∃(j6:jm) (n:Nat),Vals xs j6/\xs.length=j6.length/\s.heap.get? l=some { cls:=.type "list",data:=.seq j6.toArray n }:=by
 obtain⟨z,j6,n,r,e⟩:=I.hok l _ hH
 exact⟨z,j6,n,r,r.length,e⟩
theorem zW3 {n:Nat}(h:n<=sizeLine):Builtin.List.listTooLong n=false:=by
 unfold Builtin.List.listTooLong
 exact We jc
def zPB:V->List V->Hp->VK->Prop:=fun x vs H Q=>∃l xs y,x = .ref l/\vs=[y]/\H l=some (.lst xs)/\xs.length < sizeLine/\Q .non (upd H l (.lst (xs++[y])))
theorem zT2:MtM X "list.append" zPB:=by
 intro Z s σ H x vs v us Q I rx rv h
 obtain⟨l,xs,y,rfl,rfl,hH,hz,q⟩:=h
 cases rx
 obtain⟨u,rfl,ru⟩:=rv.one
 obtain⟨z,j6,n,r,hl,e⟩:=I.lstM hH
 refine call_meets F.slot_list_append ⟨_,e,rfl⟩ F.entry_list_append (F.args_list_append_2 _ _) (PySem.list_append l j6.toArray n u (by rw[Qp];lia)) ⟨e,?_⟩
 refine⟨.non,_,I.lset (its':=j6++[u]) hH e je (r.append (.cons ru .nil)) ?_,rfl,q⟩
 rw[Qt,List.length_singleton]
 lia
def zUP:V->List V->Hp->VK->Prop:=fun x vs H Q=>∃l b xs zs,x = .ref l/\vs=[.ref b]/\H l=some (.lst xs)/\H b=some (.lst zs)/\xs.length+zs.length<=sizeLine/\Q .non (upd H l (.lst (xs++zs)))
theorem zTi:MtM X "list.extend" zUP:=by
 intro Z s σ H x vs v us Q I rx rv h
 obtain⟨l,b,xs,zs,rfl,rfl,hH,hB,hz,q⟩:=h
 cases rx
 obtain⟨u,rfl,ru⟩:=rv.one
 cases ru
 obtain⟨z,j6,n,r,hl,e⟩:=I.lstM hH
 obtain⟨z2,its2,n2,r2,hl2,e2⟩:=I.lstM hB
 have hsz:j6.toArray.size+its2.toArray.size<=sizeLine:=by rw[Qp,Qp];lia
 have hlong:¬(!j6.toArray.isEmpty&&Builtin.List.listTooLong (j6.toArray.size+its2.toArray.size))=true:=by
   rw[zW3 hsz,Bool.and_false]
   exact Wa
 refine call_meets F.slot_list_extend ⟨_,e,rfl⟩ F.entry_list_extend (F.args_list_extend_2 _ _)
   (AutoSeq1.list_extend_list_list_0 l j6.toArray n b its2.toArray n2 hlong (by rw[Qp];lia) jc) ⟨e,e2,?_⟩
 refine⟨.non,_,I.lset (its':=j6++its2) hH e je (r.append r2) ?_,rfl,q⟩
 rw[Qt]
 lia
def zM5:R2:=fun x y H Q=>∃l b xs zs,x = .ref l/\y = .ref b/\H l=some (.lst xs)/\H b=some (.lst zs)/\xs.length+zs.length<=sizeLine/\∀p,H p=none->Q (.ref p) (upd H p (.lst (xs++zs)))
theorem zOu:OpR X (binaryOp .Add) zM5:=by
 intro Z s σ H x y v u Q I rx ry h
 obtain⟨l,b,xs,zs,rfl,rfl,hH,hB,hz,q⟩:=h
 cases rx
 cases ry
 obtain⟨z,j6,n,r,hl,e⟩:=I.lstM hH
 obtain⟨z2,its2,n2,r2,hl2,e2⟩:=I.lstM hB
 refine PySem.P.add_list e e2 ?_ (by rw[Qp,Qp];lia)
 have ea:j6.toArray++its2.toArray=(j6++its2).toArray:=je
 rw[ea]
 exact⟨.ref _,_,I.lnew (t':=s.toks) (r.append r2) (by rw[Qt];lia),rfl,q _ I.fresh⟩
end
end L2
namespace Att
open PySem PySem.W PySem.Calls PyProof.Rows
theorem cO {P:Params}{h:Heap}:∀(ns:List Int) (vs:jm),WellAll P h vs (ns.map WData.int)->IntsAre vs ns:=by
 intro ns
 induction ns with
 | nil =>
   intro vs w
   rw[List.map_nil] at w
   cases w
   exact .nil
 | cons n ns ih =>
   intro vs w
   rw[Qz] at w
   cases w with
   | cons a b =>
     cases a
     exact .cons _ _ (ih _ b)
theorem zT5 {l:OpenLaw}{n:Nat}(hn:l.most=some n){P:Params}{h:Heap}{args:List WData}{vals:jm}
   (hpre:l.row.toRowW.claim.pre args=true) (hwl:WellAll P h vals args) :
   ∃a vs ns,vals=[Value.ref a]/\args=[WData.list (ns.map WData.int)]/\h.get? a=some { cls:=.type "list",data:=.seq vs.toArray }/\IntsAre vs ns/\ns.length<=n:=by
 have hsh:WShape.hasAll [] args [.list .int]=true:=(pre_splitW hpre).1
 have hc:l.pre.holds [] { args:=args }=true:=(pre_splitW hpre).2
 obtain⟨d,r,rfl,h1,h2⟩:=hasAllW_cons hsh
 obtain rfl:=hasAllW_nil h2
 obtain⟨xs,rfl,h3⟩:=hasW_list h1
 obtain⟨ns,rfl⟩:=items_int h3
 have j5:ns.length<=n:=by
   unfold OpenLaw.pre at hc
   have h4:(WTm.not (.lt (.lit (.int (n:Int))) (.len (.arg 0)))).holds [] { args:=[.list (ns.map .int)] }=true:=by
     have h4:=(holds_andW hc).1
     rw[hn] at h4
     exact h4
   have h5:=condW_of h4 (w_not (w_lt w_lit (w_len_list (w_arg rfl))))
   rw[Qi] at h5
   refine Nat.le_of_not_lt fun q=>?_
   have q':(n:Int) < ((ns.length:Nat):Int):=jc
   first
     | (rw[Qc q'] at h5;exact absurd h5 jb)
     | (simp at h5;lia)
 cases hwl with
 | cons w1 w2 =>
   cases w2
   cases w1 with
   | list ho hall=>exact⟨_,_,ns,rfl,rfl,ho,cO ns _ hall,j5⟩
theorem zTf (l:OpenLaw)(args:List WData):l.row.toRowW.claim.post args (.bool true) args=true :=
 postW_of (r:=l.row.toRowW) (X:=(true==true))
   (show WShape.has [] (.bool true) .bool=true by first | rfl | decide | simp[WShape.has,WShape.arms,WShape.armsAll])
   (show(WTm.eq .res (.lit (.bool true))).value [] { args:=args,res:=some (.bool true),after:=args }=some (.bool (true==true)) from w_eq_bool (w_res rfl) w_lit) rfl
theorem attach_call {l:OpenLaw}{n:Nat}{q:Program}{loose:List Str}{XP:(Str->Option Value)->Heap->Prop}{YP:World->Heap->Prop}{d:DefRec}
   (hn:l.most=some n) (hdf:d.params.defaults=[])
   (call:∀(w:World) (s₀ s₁:Shared) (mg mb:Str->Option Value) (fa:Addr) (o:Obj) (pm cd doc:Value) (a:Addr) (vs:jm) (ns:List Int),
     Ground q loose [] XP w s₀ mg mb s₁.heap->YP w s₁.heap ->
     s₁.heap.get? fa=some o->o.data = .func (docDef d.name d.params d.body d.scope pm cd doc)->s₁.heap.CodeRec cd d.name->mg d.name=some (.ref fa) ->
     s₁.heap.get? a=some { cls:=.type "list",data:=.seq vs.toArray }->IntsAre vs ns->ns.length<=n->s₁.gens=#[] ->
     codeAny (model l.prog w) callerA (.call (.ref fa) ⟨[.ref a],[]⟩) (fun r s'=>r = .ok (.ret (.bool true))/\OldK s₁.heap s'.heap/\s'.os=s₁.os/\AllBare s'.gens) s₁) :
   WalkO q loose XP YP l.row.toRowW d [] (fun f vs=>PySem.call f vs):=by
 intro w s₀ s₁ mg mb G Y fa o pm cd doc dV kV ho hd hcd hD hmg hg args vals as hpre hlay hrd hwl hlo
 obtain rfl:dV = .none:=Dflts.none hD hdf
 obtain rfl:kV = .none:=Dflts.noKw hD
 obtain⟨a,vs,ns,rfl,rfl,hobj,hints,j5⟩:=zT5 hn hpre hwl
 refine enter_call (Ue (call w s₀ s₁ mg mb fa o pm cd doc a vs ns G Y ho (fd_plain hd) hcd hmg hobj hints j5 hg) fun r s' hq=>?_)
 obtain⟨rfl,h2,h3,h4⟩:=hq
 exact⟨.inl ⟨.bool true,.bool true,[],rfl,fun _=>rfl,.bool true,zTf l _,fun _=>⟨List.Pairwise.nil,fun _ hm=>(nomatch hm)⟩⟩,h2,h3,h4⟩
end Att
namespace L2
open PySem PySem.Spec PyProof.Rows
theorem zZp:∀ {vs:jm} {ns:List Int},IntsAre vs ns->Vals (ns.map V.int) vs
 | _,_,.nil=>.nil
 | _,_,.cons n t h=>.cons ⟨t,rfl⟩ (zZp h)
def zOO (H:Hp):Prop:=∀b,H b=none∨∃o xs,H b=some (.frz o (.lst xs))
theorem zRS {P:Program}{w:World}{K:jh}{mg mb:Str->Option Value}{CX:CXT}{k:Nat}{fa a:Addr}{fd:FuncData}{x:Str}{sp:Sp}{s₁:Shared}{vs:jm}{ns:List Int}
   (KX:K.In s₁.heap) (hns:s₁.heap.Ns mainGlobals mg) (hb:s₁.heap.Ns builtinsNs mb) (hbb:∀x:Str,x≠"__name__"->mb x=bootBuiltins x) (hlim:s₁.heap.NoLimit) (hg:s₁.gens=#[])
   (ha:s₁.heap.get? a=some { cls:=.type "list",data:=.seq vs.toArray }) (hi:IntsAre vs ns) (hl:ns.length<=sizeLine) (hr:Room k callerA)
   (F:∀base:Heap,K.In base->base.Ns mainGlobals mg->FnOk P w K mg base CX k fa fd [x] sp) (hbind:∀(s:Shared) (u:Value),BindsTo s fd ⟨[u],[]⟩ [(x,u)])
   (hsp:∀H:Hp,zOO H->SqL K H a (ns.map V.int)->sp [.ref a] H (fun v _=>v = .bl true) fun _ _ _=>False)
   (hCX:∀H e s',CX [] H s₁ (fun _ _ _=>False) e s'->False) :
   codeAny (model P w) callerA (.call (.ref fa) ⟨[.ref a],[]⟩) (fun r s'=>r = .ok (.ret (.bool true))/\OldK s₁.heap s'.heap/\s'.os=s₁.os/\AllBare s'.gens) s₁:=by
 have rv:=zZp hi
 have lenV:=hi.length
 -- from an abstract heap in which nothing but the script may be tracked
 have core:∀H:Hp,zOO H->SqL K H a (ns.map V.int)->HOk P w H s₁.heap->(∀b,H b≠none->b=a)->(H a≠none->K.lookup a=none) ->
     codeAny (model P w) callerA (.call (.ref fa) ⟨[.ref a],[]⟩) (fun r s'=>r = .ok (.ret (.bool true))/\OldK s₁.heap s'.heap/\s'.os=s₁.os/\AllBare s'.gens) s₁:=by
   intro H hO hS hok hA hK
   have base_of:∀ {b:Addr} {o:Obj},s₁.heap.get? b=some o->H b=none->(zXL s₁.heap H).get? b=some o:=fun e n=>zRZ e n
   have noA:∀ {b:Addr} {o:Obj} {es:Array DictEntry} {ep:Nat},s₁.heap.get? b=some o->o.data = .dict es ep->H b=none:=fun {b o es ep} e d=>by
     cases q:H b with
     | none=>rfl
     | some u =>
       have e':b=a:=hA b (by rw[q];simp)
       subst e'
       rw[ha] at e;cases e
       have d':Data.seq vs.toArray _=Data.dict es ep:=d
       cases d'
   have nsK:∀ {b:Addr} {m:Str->Option Value},s₁.heap.Ns b m->(zXL s₁.heap H).Ns b m:=fun {b m} ⟨o,es,ep,e,d,r⟩=>⟨o,es,ep,base_of e (noA e d),d,r⟩
   have hKb:K.In (zXL s₁.heap H):=fun b o e=>base_of (KX b o e) (by
     cases q:H b with
     | none=>rfl
     | some u =>
       have e':b=a:=hA b (by rw[q];simp)
       subst e'
       rw[hK (by rw[q];simp)] at e;cases e)
   have hM:Mod K mg (zXL s₁.heap H):=⟨hKb,nsK hns,⟨mb,nsK hb,hbb⟩,let ⟨mc,h1,h2⟩:=hlim;⟨mc,nsK h1,h2⟩⟩
   have e0:Env0 P w K mg (zXL s₁.heap H) callerA [] s₁ H:=⟨rfl,hM,fun b o e=>zQK e,Ug (zTs _ _),trivial,fun b hb=>absurd (show b∈([]:List Addr) from hb) je,hok,.of_eq hg⟩
   refine Ue ((F _ hKb (nsK hns)).run callerA [] s₁ H ⟨[.ref a],[]⟩ [.ref a] [.ref a] _ _ hr e0 (hbind s₁ (.ref a)) (.cons rfl .nil) (hsp H hO hS)) fun r s' h=>?_
   cases r with
   | error e=>exact(hCX H e s' h).elim
   | ok fl =>
     cases fl with
     | next=>exact False.elim h
     | brk=>exact False.elim h
     | cont=>exact False.elim h
     | ret u =>
       obtain⟨v,H',os,bare,un,hok',r',q⟩:=h
       have q':v = .bl true:=q
       subst q'
       obtain rfl:u=Value.bool true:=r'
       refine⟨rfl,OldK.of_keep fun b o e=>?_,os,bare⟩
       cases q:H b with
       | none=>exact un.keep b o e q (by intro z;exact absurd (show b∈([]:List Addr) from z) je) je
       | some u =>
         rcases hO b with z | ⟨ob,xs,z⟩
         · rw[q] at z;cases z
         · have z2:=un.frzs b ob _ z
           obtain⟨e1,_⟩:=hok b _ z
           obtain⟨e2,_⟩:=hok' b _ z2
           rw[e] at e1;cases e1
           exact e2
 cases hk:K.lookup a with
 | some o =>
   -- the script is one of the module's own objects
   have e:=KX a o hk
   rw[ha] at e
   cases e
   refine core (fun _=>none) (fun _=>.inl rfl) (.inr ⟨_,vs.toArray,_,hk,rfl,rfl,rfl,by rw[Qp,lenV];exact hl,by simpa using rv⟩) (fun b u z=>by have z':(none:Option HO)=some u:=z;cases z') (fun b z=>absurd rfl z) fun z=>absurd rfl z
 | none =>
   refine core (fun b=>if b=a then some (.frz { cls:=.type "list",data:=.seq vs.toArray } (.lst (ns.map V.int))) else none) (fun b=>?_) (.inl (.inr ⟨{ cls:=.type "list",data:=.seq vs.toArray },Qu rfl⟩)) (fun b u z=>?_) (fun b z=>?_) fun _=>hk
   · by_cases hb:b=a
     · exact .inr ⟨_,_,Qu hb⟩
     · exact .inl (Qs hb)
   · by_cases hb:b=a
     · have z':=(Qu hb).symm.trans z
       cases z'
       subst hb
       exact⟨ha,by rw[Qi];exact hl,vs,_,rv,ha⟩
     · have z':=(Qs hb).symm.trans z
       cases z'
   · by_cases hb:b=a
     · exact hb
     · exact absurd (Qs hb) z
theorem zQF {l:PySem.W.OpenLaw}{n k:Nat}{q:Program}{loose:List Str}{XP:(Str->Option Value)->Heap->Prop}{YP:World->Heap->Prop}{d:DefRec}{K:Params->jh}{CX:World->CXT}{sp:World->Sp}{x:Str}
   (hn:l.most=some n) (hn2:n<=sizeLine) (hdf:d.params.defaults=[]) (hr:Room k callerA)
   (hY:∀(w:World) (h:Heap),YP w h->(K w.params).In h)
   (F:∀(w:World) (mg:Str->Option Value) (fa:Addr) (h:Heap),(K w.params).In h->h.Ns mainGlobals mg->mg d.name=some (.ref fa) ->
     ∃fd:FuncData,(∀(s:Shared) (u:Value),BindsTo s fd ⟨[u],[]⟩ [(x,u)]) /\
       ∀base:Heap,(K w.params).In base->base.Ns mainGlobals mg->FnOk l.prog w (K w.params) mg base (CX w) k fa fd [x] (sp w))
   (hsp:∀(w:World) (H:Hp) (a:Addr) (ns:List Int),ns.length<=n->zOO H->SqL (K w.params) H a (ns.map V.int)->sp w [.ref a] H (fun v _=>v = .bl true) fun _ _ _=>False)
   (hCX:∀(w:World) (H:Hp) (s:Shared) (e:Value) (s':Shared),CX w [] H s (fun _ _ _=>False) e s'->False) :
   PySem.W.WalkO q loose XP YP l.row.toRowW d [] (fun f vs=>PySem.call f vs):=by
 refine Att.attach_call hn hdf fun w s₀ s₁ mg mb fa o pm cd doc a vs ns G Y ho hd hcd hmg hobj hints j5 hg=>?_
 have KX:=hY w _ Y
 obtain⟨fd,hb,hF⟩:=F w mg fa _ KX G.T.g hmg
 exact zRS KX G.T.g G.T.b G.T.builtins G.T.nolimit hg hobj hints (Wp j5 hn2) hr hF hb (fun H hO hS=>hsp w H a ns j5 hO hS) fun H e s'=>hCX w H s₁ e s'
abbrev CX0:CXT:=fun _ _ _ _ _ _=>False
abbrev E0:XK:=fun _ _ _=>False
theorem jJ {X:Cx}:oP CX0 X E0:=fun _ _ _ _ _ _ _ h=>h.elim
structure Fun (K:jh)(x qual:Str)(st:Stmt)(f:Addr)(fd:FuncData):Prop where
 ex:∃(oc:Value) (od:Option Addr) (kV doc pm:Value) (an:Option Addr) (j9 ct:Value) (osl:Array (Option Value)),
   fd=PySem.W.fnOf x qual (vY st) (yQ st) (zW st) .none kV doc pm an j9 ct/\K.lookup f=some ⟨oc,od,.func fd,osl⟩/\PySem.W.codeIn K j9 qual=true
 kp:PySem.W.keepIn K (.ref f)=true
section
variable {P:Program} {w:World} {K:jh} {mg:Str->Option Value} {base:Heap}
theorem Fun.ok {x qual:Str}{st:Stmt}{f:Addr}{fd:FuncData}{N ps:List Str}{k:Nat}{sp:Sp}(F:Fun K x qual st f fd)(S:FnScope N ps (zW st))(len:∀vs H Q E,sp vs H Q E->vs.length=ps.length)
   (hbody:∀(j9:Value) (A:Around) (outer:List Env) (s:Shared) (H:Hp) (vs:List V) (Q:VK) (E:XK),Room k (A.deeper (envOfC qual (zW st) s.heap.objs.size f j9))->sp vs H Q E ->
     ∃t,PSs (rL CX0 P w K mg base N qual (zW st) f j9 A outer s H E).nox (yQ st) t/\t { nx:=fun _ H'=>Q .non H',rt:=Q } (xE N vs) H):FnOk P w K mg base CX0 (k+1) f fd ps sp:=by
 obtain⟨oc,od,kV,doc,pm,an,j9,ct,osl,rfl,lk,hcd⟩:=F.ex
 refine zPb lk hcd S len fun A outer s H vs Q E hr hsp=>?_
 obtain⟨t,h,q⟩:=hbody j9 A outer s H vs Q E hr hsp
 exact⟨t,h.nox,q⟩
theorem Fun.binds {x qual:Str}{st:Stmt}{f:Addr}{fd:FuncData}{ps:List Str}(F:Fun K x qual st f fd)
   (h:∀(kV doc pm:Value) (an:Option Addr) (j9 ct:Value) (us:jm),us.length=ps.length->bindArgs (PySem.W.fnOf x qual (vY st) (yQ st) (zW st) .none kV doc pm an j9 ct) ⟨us,[]⟩=pure (ps.zip us)):Binds K fd ps []:=by
 obtain⟨oc,od,kV,doc,pm,an,j9,ct,osl,rfl,lk,hcd⟩:=F.ex
 exact .all (h kV doc pm an j9 ct)
theorem lU {x qual:Str}{st:Stmt}{f:Addr}{oc:Value}{od an:Option Addr}{osl:Array (Option Value)}{kV doc pm j9 ct:Value}(l:K.lookup f=some ⟨oc,od,.func (PySem.W.fnOf x qual (vY st) (yQ st) (zW st) .none kV doc pm an j9 ct),osl⟩)
   (c:PySem.W.codeIn K j9 qual=true) (k:PySem.W.keepIn K (.ref f)=true):Fun K x qual st f (PySem.W.fnOf x qual (vY st) (yQ st) (zW st) .none kV doc pm an j9 ct):=⟨⟨oc,od,kV,doc,pm,an,j9,ct,osl,rfl,l,c⟩,k⟩
variable {X:Cx}
theorem pv (i:Nat){x:Str}{pos:Pos}(hN:X.N[i]?=some x:=by rfl)(hv:Vis X.env.scope x:=by first | exact Or.inl rfl | exact Or.inr (Or.inl rfl) | exact Or.inr (Or.inr rfl))(hd:(x==("__debug__":Str))=false:=by decide)
   (hcd:(x==("__classdict__":Str))=false:=by decide):PE X (.Name x pos) (zTp i):=sW hN hv hd hcd
end
def Same (H H':Hp):Prop:=∀b o,H b=some o->H' b=some o
theorem Same.refl (H:Hp):Same H H:=fun _ _ h=>h
theorem Same.trans {H H1 H2:Hp}(a:Same H H1)(b:Same H1 H2):Same H H2:=fun c o h=>b c o (a c o h)
theorem Same.free {H H':Hp}(e:Same H H'){l:Addr}(h:H' l=Option.none):H l=Option.none:=by
 cases q:H l with
 | none=>rfl
 | some o =>
   rw[e l o q] at h
   cases h
theorem Same.seq {K:jh}{H H':Hp}{a:Addr}{xs:List V}(e:Same H H')(h:SqL K H a xs):SqL K H' a xs:=by
 rcases h with(h | ⟨o,h⟩) | h
 · exact .inl (.inl (e _ _ h))
 · exact .inl (.inr ⟨o,e _ _ h⟩)
 · exact .inr h
section
variable {κ:Type} [DecidableEq κ]
def lW (j8:List (κ×V))(k:κ):Option V:=(j8.find? fun kv=>decide (kv.1=k)).map (·.2)
def fW (j8:List (κ×V))(k:κ)(v:V):List (κ×V) :=
 if (j8.any fun kv=>decide (kv.1=k))=true then j8.map (fun kv=>if kv.1=k then(kv.1,v) else kv) else j8++[(k,v)]
def gM (j8:List (κ×V))(k:κ):List (κ×V):=j8.filter fun kv=>decide (kv.1≠k)
theorem zW9 {p:κ×V}{r:List (κ×V)}{k:κ}(e:p.1=k):lW (p::r) k=some p.2:=by simp[lW,Ex,e]
theorem zWy {p:κ×V}{r:List (κ×V)}{k:κ}(e:¬p.1=k):lW (p::r) k=lW r k:=by simp[lW,Ex,e]
theorem bE (k:κ):∀j8:List (κ×V),(j8.any fun kv=>decide (kv.1=k))=(lW j8 k).isSome
 | []=>rfl
 | p::r=>by
   rw[Ic]
   by_cases e:p.1=k
   · simp only[zW9 e,Qc e,Bool.true_or,Option.isSome_some]
   · rw[zWy e,We e,Bool.false_or];exact bE k r
theorem cY (j8:List (κ×V))(k:κ)(v:V):(fW j8 k v).length<=j8.length+1:=by
 unfold fW
 split
 · rw[Qi];lia
 · rw[Qt,Qo,Pq];lia
theorem zSf {j8:List (κ×V)}{k:κ}(v:V)(h:lW j8 k=none):fW j8 k v=j8++[(k,v)]:=by
 unfold fW
 rw[bE,h]
 exact Qs jb
theorem RelO.isSome_eq {o:Option V}{u:Option Value}(r:RelO o u):o.isSome=u.isSome:=by
 cases o with
 | none=>cases u with
   | none=>rfl
   | some _=>exact(show False from r).elim
 | some _=>cases u with
   | none=>exact(show False from r).elim
   | some _=>rfl
theorem KV.any {j8:List (κ×V)}{vs:List (κ×Value)}(r:KV j8 vs)(k:κ):(j8.any fun kv=>decide (kv.1=k))=vs.any fun kv=>decide (kv.1=k):=by
 unfold KV at r
 induction r with
 | nil=>rfl
 | cons h t ih=>rw[Ic,Ic,ih,h.1]
theorem KV.repl {j8:List (κ×V)}{vs:List (κ×Value)}(r:KV j8 vs)(k:κ){y:V}{u:Value}(ry:RelV y u) :
   KV (j8.map fun kv=>if kv.1=k then(kv.1,y) else kv) (vs.map fun kv=>if kv.1=k then(kv.1,u) else kv):=by
 unfold KV at r ⊢
 induction r with
 | nil=>exact .nil
 | @cons p q ps qs h t ih =>
   rw[Qz,Qz]
   refine .cons ?_ ih
   obtain⟨h1,h2⟩:=h
   by_cases e:p.1=k
   · rw[Qu e,Qu (h1.symm.trans e)];exact⟨h1,ry⟩
   · rw[Qs e,Qs (fun z=>e (h1.trans z))];exact⟨h1,h2⟩
theorem KV.put {j8:List (κ×V)}{vs:List (κ×Value)}(r:KV j8 vs)(k:κ){y:V}{u:Value}(ry:RelV y u):KV (fW j8 k y) (stored vs k u):=by
 unfold fW stored
 rw[r.any k]
 by_cases e:(vs.any fun kv=>decide (kv.1=k))=true
 · rw[Qu e,Qu e];exact r.repl k ry
 · rw[Qs e,Qs e];exact Paired.snoc r ⟨rfl,ry⟩
theorem KV.length {j8:List (κ×V)}{vs:List (κ×Value)}(r:KV j8 vs):j8.length=vs.length:=Rw r
theorem zR7 (j8:List (κ×V))(k:κ):(gM j8 k).length<=j8.length:=Rs _ _
end
theorem zPn {P:Program}{w:World}{k:Key}{u:Value}(r:RelV (kV k) u):(y9 P w).is k u=true:=by
 cases k with
 | inl i=>obtain⟨t,e⟩:=(show ∃t,u=Value.int i t from r);subst e;exact zWC P w i t
 | inr x=>obtain⟨t,e⟩:=(show ∃t,u=Value.str x t from r);subst e;exact zVT P w x t
theorem eU {P:Program}{w:World}:∀ {ks:List Key} {us:jm},Vals (ks.map kV) us->ItemsAre (y9 P w) ks us
 | [],_,r=>by rw[List.map_nil] at r;cases r;exact .nil
 | k::ks,_,r=>by
   rw[Qz] at r
   cases r with
   | cons h t=>exact .cons (zPn h) (eU t)
abbrev KTd (H:Hp):List (List Key×V)->List (List Key×Addr×Value)->Prop:=Paired fun p q=>p.1=q.1/\H q.2.1=some (.tup (p.1.map kV))/\RelV p.2 q.2.2
theorem KTd.val {H:Hp}{j8:List (List Key×V)}{xs:List (List Key×Addr×Value)}(r:KTd H j8 xs)(k:List Key):RelO (lW j8 k) ((atKey xs k).map (·.2)):=by
 induction r with
 | nil=>exact True.intro
 | @cons p q ps qs h t ih =>
   obtain⟨h1,_,h2⟩:=h
   by_cases e:p.1=k
   · have e':q.1=k:=h1.symm.trans e
     have b:atKey (q::qs) k=some q.2:=by simp[atKey,Ex,e']
     rw[zW9 e,b];exact h2
   · have e':¬q.1=k:=fun z=>e (h1.trans z)
     have b:atKey (q::qs) k=atKey qs k:=by simp[atKey,Ex,e']
     rw[zWy e,b];exact ih
theorem KTd.repl {H:Hp}{j8:List (List Key×V)}{xs:List (List Key×Addr×Value)}(r:KTd H j8 xs)(k:List Key){y:V}{u:Value}(ry:RelV y u) :
   KTd H (j8.map fun kv=>if kv.1=k then(kv.1,y) else kv) (xs.map (putAt k u)):=by
 induction r with
 | nil=>exact .nil
 | @cons p q ps qs h t ih =>
   rw[Qz,Qz]
   refine .cons ?_ ih
   obtain⟨h1,h2,h3⟩:=h
   unfold putAt
   by_cases e:p.1=k
   · rw[Qu e,Qu (h1.symm.trans e)];exact⟨h1,h2,ry⟩
   · rw[Qs e,Qs (fun z=>e (h1.trans z))];exact⟨h1,h2,h3⟩
theorem KTd.put {H:Hp}{j8:List (List Key×V)}{xs:List (List Key×Addr×Value)}(r:KTd H j8 xs)(k:List Key){b:Addr}{y:V}{u:Value}(hb:H b=some (.tup (k.map kV)))(ry:RelV y u) :
   KTd H (fW j8 k y) (storedH xs k b u):=by
 have e:(j8.any fun kv=>decide (kv.1=k))=(atKey xs k).isSome:=by
   rw[bE,(r.val k).isSome_eq,Uy]
 unfold fW storedH
 rw[e]
 by_cases q:(atKey xs k).isSome=true
 · rw[Qu q,Qu q];exact r.repl k ry
 · rw[Qs q,Qs q];exact Paired.snoc r ⟨rfl,hb,ry⟩
theorem KTd.keeps {H H':Hp}{j8:List (List Key×V)}{xs:List (List Key×Addr×Value)}(r:KTd H j8 xs)(ht:∀b ys,H b=some (.tup ys)->H' b=some (.tup ys)):KTd H' j8 xs :=
 Paired.mapP r fun _ _ z=>⟨z.1,ht _ _ z.2.1,z.2.2⟩
section
variable {P:Program} {w:World} {H:Hp} {h:Heap} {a:Addr}
theorem zPp {u:HO}(ok:HOk P w H h)(e:Rd H a u):ObjOk P w H h a u:=e.ok ok
theorem zNy {j8:List (Key×V)}(ok:HOk P w H h)(e:Rd H a (.dK j8)):j8.length<=sizeLine/\(a==sysModules)=false/\∃vs,KV j8 vs/\h.DictOf (y9 P w) a vs :=
 show ObjOk P w H h a (.dK j8) from zPp ok e
theorem zN5 {j8:List (Key×V)}(ok:HOk P w H h)(e:H a=some (.dK j8)):j8.length<=sizeLine/\(a==sysModules)=false/\∃vs,KV j8 vs/\h.DictOf (y9 P w) a vs:=zNy ok (.inl e)
theorem zRV {ks:List Key}(ok:HOk P w H h)(e:H a=some (.tup (ks.map kV))):(tupleKind (y9 P w)).is h ks a:=by
 obtain⟨_,j6,r,o,h1,h2,n,h3⟩:=(show ObjOk P w H h a (.tup (ks.map kV)) from ok a _ e)
 exact⟨o,j6.toArray,n,h1,h2,h3,by simpa using eU r⟩
theorem zNb {j8:List (List Key×V)}(ok:HOk P w H h)(e:Rd H a (.dT j8)):j8.length<=sizeLine/\(a==sysModules)=false /\
   ∃xs,KTd H j8 xs/\h.DictOfH (tupleKind (y9 P w)) a xs:=by
 obtain⟨z,y,xs,r,o,es,ep,h1,h2,h3,h4,h5⟩:=(show ObjOk P w H h a (.dT j8) from zPp ok e)
 refine⟨z,y,xs,r,o,es,ep,h1,h2,h3,h4,fun x hx=>?_,h5⟩
 have all:∀ {l:List (List Key×V)} {m:List (List Key×Addr×Value)},KTd H l m->∀x∈m,(tupleKind (y9 P w)).is h x.1 x.2.1:=by
   intro l m q
   induction q with
   | nil=>intro x hx;exact nomatch hx
   | @cons p q ps qs hq t ih =>
     intro x hx
     rcases Qa.mp hx with e | hx
     · subst e
       exact zRV ok (by rw[←hq.1];exact hq.2.1)
     · exact ih x hx
 exact all r x hx
theorem aP {j8:List (List Key×V)}(ok:HOk P w H h)(e:H a=some (.dT j8)):j8.length<=sizeLine/\(a==sysModules)=false /\
   ∃xs,KTd H j8 xs/\h.DictOfH (tupleKind (y9 P w)) a xs:=zNb ok (.inl e)
end
def DPut (H:Hp)(a:Addr)(y v:V)(H':Hp):Prop :=
 (∃j8 k,H a=some (.dK j8)/\y=kV k/\j8.length < sizeLine/\H'=upd H a (.dK (fW j8 k v))) ∨
 ∃j8 k b,H a=some (.dT j8)/\y = .ref b/\H b=some (.tup (k.map kV))/\j8.length < sizeLine/\H'=upd H a (.dT (fW j8 k v))
theorem DPut.t {H:Hp}{a b:Addr}{j8:List (List Key×V)}{k:List Key}{v:V}(e:H a=some (.dT j8))(eb:H b=some (.tup (k.map kV)))(hl:j8.length < sizeLine) :
   DPut H a (.ref b) v (upd H a (.dT (fW j8 k v))):=.inr ⟨j8,k,b,e,rfl,eb,hl,rfl⟩
section
variable {X:Cx} {Z:jl} {σ:St} {H:Hp} {s:Shared} {a:Addr} {y v:V} {u r:Value} {A:Around} {E:jk}
theorem Inv.big (I:Inv X Z σ H s):sysModules < s.heap.objs.size:=by
 have h:mainGlobals < s.heap.objs.size:=(I.mod.glob.keeps I.bk).lt
 exact Nat.lt_trans jb h
theorem zYD {h':Heap}{t':Nat}{ob:HO}(I:Inv X Z σ H s)(mu:Mut (H a))(hs:Heap.SameBut a s.heap h')(he:∃q,h'.get? a=some q)(new:ObjOk X.prog X.w (upd H a ob) h' a ob) :
   Inv X Z σ (upd H a ob) { s with heap:=h',toks:=t' } :=
 I.write (x:=a) (e:=a) mu (.inl rfl) (fun b q hb z=>(hs.2 b hb).trans z) he new
theorem zOl {P:Program}{w:World}{H':Hp}{h':Heap}{j8:List (Key×V)}{vs:List (Key×Value)}(z:j8.length<=sizeLine)(hd:(a==sysModules)=false)(rel:KV j8 vs)(dd:h'.DictOf (y9 P w) a vs) :
   ObjOk P w H' h' a (.dK j8):=⟨z,hd,vs,rel,dd⟩
theorem zTA {H':Hp}{Q:Unit->Shared->Prop}(hu:A.units+1 < cLine)(I:Inv X Z σ H s)(g:DPut H a y v H')(ry:RelV y u)(rv:RelV v r)(h:∀s',Inv X Z σ H' s'->Q () s') :
   wpAny (model X.prog X.w) A (setItem (.ref a) u r) Q E s:=by
 rcases g with⟨j8,k,e,ey,l,eH⟩ | ⟨j8,k,b,e,ey,eb,l,eH⟩
 · subst ey eH
   obtain⟨z,hd,vs,rel,dd⟩:=zN5 I.hok e
   have hz:vs.length<=sizeLine:=by rw[←rel.length];exact z
   have hl:(fW j8 k v).length<=sizeLine:=by have:=cY j8 k v;lia
   refine wpAny_setItem_pairs (hsz:=hz) (zPn ry) dd fun h' dd' hs=>h _ ?_
   have he:∃q,h'.get? a=some q:=let ⟨q,_,_,hq,_⟩:=dd';⟨q,hq⟩
   exact zYD I (by rw[e];exact True.intro) hs he (zOl hl hd (rel.put k rv) dd')
 · subst ey eH
   cases (show u=Value.ref b from ry)
   obtain⟨z,hd,xs,rel,dd⟩:=aP I.hok e
   have hz:xs.length<=sizeLine:=by rw[←Rw rel];exact z
   have hl:(fW j8 k v).length<=sizeLine:=by have:=cY j8 k v;lia
   refine wpAny_setItem_heap (hsz:=hz) (Tu hu) (zRV I.hok eb) dd fun h' dd' hs=>h _ ?_
   obtain⟨q,es,ep,hq,h2,h3,h4,_,h5⟩:=dd'
   refine zYD I (by rw[e];exact True.intro) hs ⟨q,hq⟩ ⟨hl,hd,_,(rel.put k eb rv).keeps fun c ys ec=>?_,q,es,ep,hq,h2,h3,h4,h5⟩
   rw[zN (zPj ec e (fun z=>nomatch z))]
   exact ec
end
theorem zSd {P:Program}{w:World}{H:Hp}(h:Heap)(hb:sysModules < h.objs.size):ObjOk P w H (h.push { cls:=.type "dict",data:=.dict #[] }) h.objs.size (.dT []) :=
 ⟨Ei _,Rc.mpr (Ne.symm (Wi hb)),[],.nil,_,#[],0,Ww _ rfl,⟨rfl,rfl,rfl⟩,rfl,rfl,List.nodup_nil⟩
def zNS:TE:=fun _ H Q=>∀p,H p=none->Q (.ref p) (upd H p (.dT []))
section
variable {X:Cx} {pos:Pos}
theorem zRs:PE X (.Dict [] [] pos) zNS:=fun Z s σ H Q I h =>
 wpAny_Dict_empty ⟨.ref s.heap.objs.size,_,I.laid (a:=s.heap.objs.size) (o:=.dT []) (t':=s.toks) (fun _ _ q=>Qy _ q) (Qf _) (zSd s.heap I.big),rfl,h _ (I.hok.fresh (Qf _))⟩
end
structure M1 (X:Cx)(o:Expr)(m:Str)(apos:Pos)(e:Expr)(cpos:Pos):Prop where
 base:attributeBase o m X.env (eval o X.env)=eval o X.env
 few:((backTo cpos (starEach [e] X.env)).all (fun x => !x.1)&&(backToKw cpos (keywordEach [] X.env)).all (fun x=>x.1.isSome)
   && decide (([e]:List Expr).length+([]:List Keyword).length+(if ([]:List Keyword).isEmpty then 0 else 1) < 30))=true
 line:(apos.endLine==cpos.line)=true
 trees:backTo cpos (starEach [e] X.env)=[(false,eval e X.env)]
structure M2 (X:Cx)(o:Expr)(m:Str)(apos:Pos)(e f:Expr)(cpos:Pos):Prop where
 base:attributeBase o m X.env (eval o X.env)=eval o X.env
 few:((backTo cpos (starEach [e,f] X.env)).all (fun x => !x.1)&&(backToKw cpos (keywordEach [] X.env)).all (fun x=>x.1.isSome)
   && decide (([e,f]:List Expr).length+([]:List Keyword).length+(if ([]:List Keyword).isEmpty then 0 else 1) < 30))=true
 line:(apos.endLine==cpos.line)=true
 trees:backTo cpos (starEach [e,f] X.env)=[(false,eval e X.env),(false,eval f X.env)]
def DEs (h:Heap)(d:Addr)(es:Array DictEntry)(ep:Nat):Prop:=∃o,h.get? d=some o/\o.ExactDict/\o.data = .dict es ep
theorem DEs.keep {h h':Heap}{d:Addr}{es:Array DictEntry}{ep:Nat}(x:DEs h d es ep)(k:∀o,h.get? d=some o->h'.get? d=some o):DEs h' d es ep:=let ⟨o,h1,h2⟩:=x;⟨o,k o h1,h2⟩
section
variable {P:Program} {w:World} {A:Around} {E:jk} {s:Shared} {d I:Addr} {es:Array DictEntry} {ep i:Nat}
abbrev kiO (d:Addr)(i n ep:Nat):Obj:={ cls:=.type "dict_keyiterator",data:=.fields #[.ref d,rawInt i,rawInt n,rawInt ep] }
theorem zQA {v:Value}{Q:Option Value->Shared->Prop}(hd:DEs s.heap d es ep)(hI:s.heap.get? I=some (kiO d i es.size ep))(hv:es[i]?.map (·.key)=some v)
   (h:∀h',Heap.SameBut I s.heap h'->h'.get? I=some (kiO d (i+1) es.size ep)->Q (some v) { s with heap:=h' }):wpAny (model P w) A (pyNext (.ref I)) Q E s:=by
 have hT:s.TypeIs (.ref I) "dict_keyiterator":=⟨_,hI,rfl⟩
 obtain⟨o,ho,hx,hdt⟩:=hd
 unfold pyNext
 refine Qe (Iv ?_)
 have sl:Slot "dict_keyiterator" "__next__" "dict_keyiterator.__next__":=F.slot_dict_keyiterator_next
 refine wpAny_callSpecial?_slot (name:=Str.ofString "__next__") hT sl (Ra sl hT F.entry_dict_keyiterator_next ?_ (F.args_dict_keyiterator_next_1 _))
 obtain⟨cc,dd,dt,sz⟩:=o
 dsimp only at hdt
 subst hdt
 wp_walk
 rw[Qs je]
 wp_walk
 have ei:((i:Nat):Int).toNat=i:=Oy i
 rw[ei]
 cases he:es[i]? with
 | none=>rw[he] at hv;cases hv
 | some e =>
   rw[he] at hv
   have hv:some e.key=some v:=hv
   cases hv
   dsimp only
   wp_walk
   have key:∀(n:Nat) (m:Int),n=1->m=(i:Int)+1->Q (some e.key) { s with heap:=s.heap.update I (Obj.mapFields fun x=>x.setIfInBounds n (rawInt m)) }:=fun n m e1 e2=>by
     subst e1;subst e2
     refine h _ ⟨Ox _ _ _,fun b hb=>Ea _ _ _ _ hb⟩ ?_
     have:=Ec (Obj.mapFields fun x=>x.setIfInBounds 1 (rawInt ((i:Int)+1))) hI rfl
     refine this.trans ?_
     rfl
   refine⟨_,rfl,Qh (key _ _ jf ?_)⟩
   rw[Qs ja]
theorem zNI {Q:Option Value->Shared->Prop}(hh:A.handled=none)(hd:DEs s.heap d es ep)(hI:s.heap.get? I=some (kiO d i es.size ep))(hv:es[i]?=none)
   (h:∀h',(∀c o,c≠I->s.heap.get? c=some o->h'.get? c=some o)->Q none { s with heap:=h' }):wpAny (model P w) A (pyNext (.ref I)) Q E s:=by
 have hT:s.TypeIs (.ref I) "dict_keyiterator":=⟨_,hI,rfl⟩
 obtain⟨o,ho,hx,hdt⟩:=hd
 unfold pyNext
 refine Qe (Iv ?_)
 have sl:Slot "dict_keyiterator" "__next__" "dict_keyiterator.__next__":=F.slot_dict_keyiterator_next
 refine wpAny_callSpecial?_slot (name:=Str.ofString "__next__") hT sl (Ra sl hT F.entry_dict_keyiterator_next ?_ (F.args_dict_keyiterator_next_1 _))
 obtain⟨cc,dd,dt,sz⟩:=o
 dsimp only at hdt
 subst hdt
 wp_walk
 rw[Qs je]
 wp_walk
 have ei:((i:Nat):Int).toNat=i:=Oy i
 rw[ei,hv]
 dsimp only
 wp_walk
 refine wpAny_raiseNew_none (by simp[hh]) (Qe (wpAny_isInstance (T:="StopIteration") (b:=true) ⟨_,Ww _ rfl,rfl⟩ isSubtype_stop (Qh (h _ fun c o hc e=>?_))))
 exact Qy _ (Qy _ (by rw[Ea _ _ _ _ hc];exact e))
theorem zQb {Q:jk}(hd:DEs s.heap d es ep)(hs:(d==sysModules)=false)(h:Q (.ref s.heap.objs.size) { s with heap:=s.heap.push (kiO d 0 es.size ep) }):wpAny (model P w) A (pyIter (.ref d)) Q E s:=by
 obtain⟨o,ho,hx,hdt⟩:=hd
 have hT:s.TypeIs (.ref d) "dict":=⟨_,ho,hx.1⟩
 refine wpAny_pyIter_slot hT F.slot_dict_iter (Ra F.slot_dict_iter hT F.entry_dict_iter ?_ (F.args_dict_iter_1 _))
 obtain⟨cc,dd,dt,sz⟩:=o
 dsimp only at hdt
 subst hdt
 have hc:cc = .type "dict":=hx.1
 subst hc
 wp_walk
 exact⟨_,rfl,_,_,⟨_,Ww _ rfl,rfl⟩,F.slot_dict_keyiterator_next.lookup,h⟩
end
end L2
namespace L2
open PySem PySem.W PyProof.Rows
structure SWO (lt:Nat->Nat->Bool):Prop where
 irr:∀a,lt a a=false
 tr:∀a b c,lt a b=true->lt b c=true->lt a c=true
 neg:∀a b c,lt a c=true->lt a b=true∨lt b c=true
def Lx (lt:Nat->Nat->Bool)(a b:Nat):Prop:=lt a b=true∨(lt a b=false/\lt b a=false/\a < b)
section
variable {lt:Nat->Nat->Bool} (W:SWO lt)
include W
theorem SWO.asym {a b:Nat}(h:lt a b=true):lt b a=false:=by
 cases e:lt b a
 · rfl
 · have:=W.tr _ _ _ h e;rw[W.irr] at this;cases this
theorem SWO.eqr {a b c:Nat}(h:lt a b=true)(h1:lt c b=false):lt a c=true:=by
 rcases W.neg a c b h with e | e
 · exact e
 · rw[h1] at e;cases e
theorem SWO.eql {a b c:Nat}(h:lt a b=true)(h1:lt a c=false):lt c b=true:=by
 rcases W.neg a c b h with e | e
 · rw[h1] at e;cases e
 · exact e
theorem SWO.ntr {a b c:Nat}(h1:lt a b=false)(h2:lt b c=false):lt a c=false:=by
 cases e:lt a c
 · rfl
 · rcases W.neg a b c e with z | z
   · rw[h1] at z;cases z
   · rw[h2] at z;cases z
theorem Lx.trans {a b c:Nat}(h1:Lx lt a b)(h2:Lx lt b c):Lx lt a c:=by
 rcases h1 with h1 | ⟨x1,x2,x3⟩<;>rcases h2 with h2 | ⟨y1,y2,y3⟩
 · exact .inl (W.tr _ _ _ h1 h2)
 · exact .inl (W.eqr h1 y2)
 · exact .inl (W.eql h2 x2)
 · exact .inr ⟨W.ntr x1 y1,W.ntr y2 x2,jc⟩
theorem Lx.le {a b:Nat}(h:Lx lt a b):lt b a=false:=by
 rcases h with h | ⟨_,h,_⟩
 · exact W.asym h
 · exact h
theorem Lx.of {a b:Nat}(h:lt b a=false)(hab:a < b):Lx lt a b:=by
 cases e:lt a b
 · exact .inr ⟨e,h,hab⟩
 · exact .inl e
end
abbrev gg (p:Array Nat)(k:Nat):Nat:=p.getD k 0
theorem pB (p:Array Nat)(k:Nat):gg p k=(p[k]?).getD 0:=by unfold gg;simp[Pw]
theorem rV {p:Array Nat}{i j:Nat}(hj:j<=p.size)(k:Nat):gg (kas_rev p i j) k=if i<=k/\k < j then gg p (i+j - 1 - k) else gg p k:=by
 rw[pB,pB,pB]
 unfold kas_rev
 rw[Ii hj]
 split<;>rfl
theorem zYs {p:Array Nat}{k l:Nat}(hk:k < p.size)(hl:l<=k)(i:Nat):gg (bubble p k (k - l)) i=if i=l then gg p k else if l < i/\i<=k then gg p (i - 1) else gg p i:=by
 rw[pB,pB,pB,pB,Pe hk (k - l) jc,show k - (k - l)=l by lia]
 split
 · rfl
 · split<;>rfl
def Srt (lt:Nat->Nat->Bool)(p:Array Nat)(a:Nat):Prop:=∀i j,i < j->j < a->Lx lt (gg p i) (gg p j)
def Dcr (lt:Nat->Nat->Bool)(p:Array Nat)(a:Nat):Prop:=∀i j,i < j->j < a->Lx lt (gg p j) (gg p i)
structure Org (N:Nat)(p:Array Nat)(a:Nat):Prop where
 sz:p.size=N
 pm:p.toList.Perm (List.range N)
 hi:∀j,a<=j->j < N->gg p j=j
 lo:∀i,i < a->gg p i < a
theorem zOR {p:Array Nat}{N i j:Nat}(h:p.toList.Perm (List.range N)):(kas_rev p i j).toList.Perm (List.range N):=(Pi.mp (mirror_perm _ _ _ _)).trans h
theorem Org.rev {N a i:Nat}{p:Array Nat}(h:Org N p a)(ha:a<=N):Org N (kas_rev p i a) a:=by
 have hs:a<=p.size:=by rw[h.sz];exact ha
 refine⟨by unfold kas_rev;rw[mirror_size];exact h.sz,zOR h.pm,fun j h1 h2=>?_,fun k hk=>?_⟩
 · rw[rV hs,Qs jc];exact h.hi j h1 h2
 · rw[rV hs]
   split
   · exact h.lo _ jc
   · exact h.lo _ hk
theorem Org.next {N a:Nat}{p:Array Nat}(h:Org N p a)(ha:a < N):Org N p (a+1) :=
 ⟨h.sz,h.pm,fun j h1 h2=>h.hi j jc h2,fun i hi=>by
   by_cases e:i=a
   · subst e;rw[h.hi i jc ha];lia
   · have:=h.lo i jc;lia⟩
section
variable {lt:Nat->Nat->Bool} (W:SWO lt) {N:Nat}
include W
theorem zZT {p:Array Nat}{n:Nat}(h1:1<=n)(hn:n < N)(hs:Srt lt p n)(ho:Org N p n)(hlt:lt (gg p n) (gg p (n - 1))=false):Srt lt p (n+1):=by
 have hl:Lx lt (gg p (n - 1)) (gg p n):=Lx.of W hlt (by rw[ho.hi n jc hn];exact ho.lo _ jc)
 intro i j hij hj
 by_cases e:j=n
 · subst e
   by_cases e':i=j - 1
   · subst e';exact hl
   · exact Lx.trans W (hs i (j - 1) jc jc) hl
 · exact hs i j hij jc
omit W in
theorem zQg {p:Array Nat}{n:Nat}(hn:n<=p.size)(h:Dcr lt p n):Srt lt (kas_rev p 0 n) n:=fun i j hij hj=>by
 rw[rV hn,rV hn,Qu jc,Qu jc]
 exact h _ _ jc jc
structure Fal (lt:Nat->Nat->Bool)(N:Nat)(p:Array Nat)(n q:Nat):Prop where
 hq:q+1<=n
 dn:∀i j,i < j->j < n - (q+1)->Lx lt (gg p j) (gg p i)
 ac:∀i j,i < n - (q+1)->n - (q+1)<=j->j < n->lt (gg p j) (gg p i)=true
 eq:∀i j,n - (q+1)<=i->i < j->j < n->lt (gg p i) (gg p j)=false/\lt (gg p j) (gg p i)=false/\gg p i < gg p j
 og:Org N p n
theorem Fal.last {p:Array Nat}{n q:Nat}(h:Fal lt N p n q){i:Nat}(hi:n - (q+1)<=i)(hin:i < n):lt (gg p i) (gg p (n - 1))=false/\lt (gg p (n - 1)) (gg p i)=false:=by
 by_cases e:i=n - 1
 · subst e;exact⟨W.irr _,W.irr _⟩
 · have:=h.eq i (n - 1) hi jc (by have:=h.hq;lia)
   exact⟨this.1,this.2.1⟩
theorem Fal.turn {p:Array Nat}{n q:Nat}(h:Fal lt N p n q)(hn:n<=N):Dcr lt (kas_rev p (n - (q+1)) n) n/\Org N (kas_rev p (n - (q+1)) n) n:=by
 have hs:n<=p.size:=by rw[h.og.sz];exact hn
 have hq:=h.hq
 refine⟨fun i j hij hj=>?_,h.og.rev hn⟩
 rw[rV hs,rV hs]
 by_cases hj':n - (q+1)<=j
 · rw[Qu ⟨hj',hj⟩]
   by_cases hi':n - (q+1)<=i
   · rw[Qu ⟨hi',jc⟩]
     exact .inr (h.eq _ _ jc jc jc)
   · rw[Qs jc]
     exact .inl (h.ac _ _ jc jc jc)
 · rw[Qs jc,Qs jc]
   exact h.dn i j hij jc
theorem gY {p:Array Nat}{n:Nat}(h1:1<=n)(hn:n < N)(hd:Dcr lt p n)(ho:Org N p n)(hl:∀i,i < n->lt (gg p n) (gg p i)=true):Fal lt N p (n+1) 0:=by
 refine⟨jc,fun i j hij hj=>hd i j hij jc,fun i j hi hj hj'=>?_,fun i j hi hij hj=>jc,ho.next hn⟩
 have:j=n:=jc
 subst this
 exact hl i jc
theorem Fal.less {p:Array Nat}{n q:Nat}(h:Fal lt N p n q)(hc:lt (gg p n) (gg p (n - 1))=true)(i:Nat)(hi:i < n):lt (gg p n) (gg p i)=true:=by
 have hq:=h.hq
 by_cases hr:n - (q+1)<=i
 · exact W.eqr hc (Fal.last W h hr hi).1
 · exact W.tr _ _ _ hc (h.ac i (n - 1) jc jc jc)
theorem Fal.dcr {p:Array Nat}{n:Nat}(h:Fal lt N p n 0):Dcr lt p n:=fun i j hij hj=>by
 by_cases e:j=n - 1
 · exact .inl (h.ac i j jc jc hj)
 · exact h.dn i j hij jc
def zM6 (lt:Nat->Nat->Bool)(N:Nat)(r:Nat×Array Nat):Prop:=1<=r.1/\r.1<=N/\Srt lt r.2 r.1/\Org N r.2 r.1
theorem zTq (hN:1<=N):Org N (List.toArray (List.range N)) 1:=by
 have e:∀j,j < N->gg (List.toArray (List.range N)) j=j:=fun j hj=>by rw[pB];simp[hj]
 refine⟨je,je,fun j h1 h2=>e j h2,fun i hi=>?_⟩
 have:i=0:=jc
 subst this
 rw[e 0 jc]
 lia
end
end L2
namespace L2
open PySem PySem.Spec PyProof.Rows
section
variable {prog:Program} {w:World} {A:Around} {R:Result->Shared->Prop} {s:Shared}
abbrev F0:Value->Shared->Prop:=fun _ _=>False
theorem zZy {α:Type}{t:Sem α}{Q Q':α->Shared->Prop}{M:Model}{A:Around}{E:jk}{s:Shared}(h:wpAny M A t Q F0 s)(hq:∀a s,Q a s->Q' a s):wpAny M A t Q' E s:=Te h hq fun _ _ z=>z.elim
theorem zZN {elt target iter:Expr}{ifs:List Expr}{scope:Scope}{pos:Pos}{it j7:Value}{env:Env}(I:Nat->Shared->Prop)
   (turn:∀n s,I n s->wpAny (model prog w) A (pyNext it) (fun r s₁=>match r with
     | none=>R (.ok .next) s₁
     | some v=>wpAny (model prog w) A (letOwnedTupleGo target it v) (fun _ s₁=>wpAny (model prog w) A (assign target env v) (fun _ s₂ =>
         wpAny (model prog w) A (forIn ifs true fun c r=>if r=true then do let ok ←isTrue c env (eval c env);pure (ForInStep.yield ok) else pure (ForInStep.yield r)) (fun ok s₃ =>
           if ok=true then wpAny (model prog w) A (eval elt env) (fun x s₄ =>
             wpAny (model prog w) A (call (.builtin "list.append") [j7,x]) (fun _ s₅ => ∃m,m < n/\I m s₅) F0 s₄) F0 s₃
           else ∃m,m < n/\I m s₃) F0 s₂) F0 s₁) F0 s₁) F0 s)
   (n:Nat) (h:I n s) :
   codeAny (model prog w) A (.compLoop (.ListComp elt [⟨target,iter,ifs,0⟩] scope pos) 0 it j7 env) R s:=by
 refine codeAny_loop rfl I (fun n s hI=>?_) n h
 show wpAny _ A ((compTurn (.ListComp elt [⟨target,iter,ifs,0⟩] scope pos) 0 it j7 env).onRaise (fun x=>do noteFrame x env;theTreesLotGoes x)) _ _ s
 refine wpAny_noted ?_
 rw[compTurn_list]
 refine Qe (Yl (Qe (zZy (turn n s hI) (fun r s₁ h₁=>?_))))
 cases r with
 | none=>exact Qh h₁
 | some v =>
   refine Qe (zZy h₁ fun _ s₁' h₁'=>?_)
   refine Qe (zZy h₁' fun _ s₂ h₂=>Qe (zZy h₂ fun ok s₃ h₃ => ?_))
   cases ok with
   | false=>exact Qh ⟨rfl,h₃⟩
   | true =>
     exact Qe (Qe (zZy h₃ fun x s₄ h₄ => Qe (zZy h₄ fun _ s₅ h₅ => Qh (Qh ⟨rfl,h₅⟩))))
end
theorem lO {env:Env}(x:Str):∀(names:List (Str×NameKind)),
   (names.map fun(n,k)=>if (k==NameKind.free&&env.scope.kind == .function&&env.kindOf n==some .cell) then(n,NameKind.cell) else(n,k)).lookup x
     = (names.lookup x).map fun k=>if (k==NameKind.free&&env.scope.kind == .function&&env.kindOf x==some .cell)=true then NameKind.cell else k
 | []=>rfl
 | (n,k)::r=>by
   have ih:=lO (env:=env) x r
   rw[Qz]
   cases hx:x==n with
   | true =>
     have e:x=n:=eq_of_beq hx
     subst e
     by_cases hc:(k==NameKind.free&&env.scope.kind == .function&&env.kindOf x==some .cell)=true
     · simp only[hc,Uj,Eh,Yh,Rk]
     · simp only[hc,Rv,Eh,Yh,Rk,Wf]
   | false =>
     by_cases hc:(k==NameKind.free&&env.scope.kind == .function&&env.kindOf n==some .cell)=true
     · simp only[hc,Uj,Eh,hx];exact ih
     · simp only[hc,Rv,Eh,hx,Wf];exact ih
def jR (env:Env):List (Str×NameKind)->List (Str×Addr)->List (Str×Addr)
 | [],j7=>j7
 | (n,k)::r,j7=>jR env r (if k = .free then(match env.cells.lookup n with | some c=>(n,c)::j7 | none=>j7) else j7)
theorem zVn {env:Env}{scope:Scope}(h:∀p∈scope.names,p.2 = .free->∃c,env.cells.lookup p.1=some c):closureFor scope env=pure (jR env scope.names []):=by
 have gen:∀(l:List (Str×NameKind)) (j7:List (Str×Addr)),(∀p∈l,p.2 = .free->∃c,env.cells.lookup p.1=some c) ->
     (forIn l j7 fun x r=>if (x.2==NameKind.free)=true then(do let a ←cellOf env x.1;pure (ForInStep.yield ((x.1,a)::r))) else pure (ForInStep.yield r):Sem (List (Str×Addr)))=pure (jR env l j7):=by
   intro l
   induction l with
   | nil=>intro j7 _;rfl
   | cons p r ih =>
     intro j7 hp
     obtain⟨n,k⟩:=p
     rw[List.forIn_cons]
     have hr:∀p∈r,p.2 = .free->∃c,env.cells.lookup p.1=some c:=fun p hm=>hp p (Qk _ hm)
     by_cases hk:k = .free
     · subst hk
       obtain⟨c,hc⟩:=hp (n,.free) Qv rfl
       have e:cellOf env n=pure c:=by unfold cellOf;rw[hc]
       simp only[Yh,Uj,e]
       show(forIn r ((n,c)::j7) _:Sem _)=_
       rw[ih _ hr]
       show _=(pure (jR env r (if NameKind.free=NameKind.free then(match env.cells.lookup n with | some c=>(n,c)::j7 | none=>j7) else j7)):Sem _)
       rw[Qu rfl,hc]
     · have hb:(k==NameKind.free)=false:=by simpa using hk
       simp only[hb,Wf,Rv]
       show(forIn r j7 _:Sem _)=_
       rw[ih _ hr]
       show _=(pure (jR env r (if k=NameKind.free then(match env.cells.lookup n with | some c=>(n,c)::j7 | none=>j7) else j7)):Sem _)
       rw[Qs hk]
 have q:=gen scope.names [] h
 simp only[closureFor]
 rw[q]
 rfl
theorem zZV {env:Env}:∀(l:List (Str×NameKind)) (j7:List (Str×Addr)),(∀x c,j7.lookup x=some c->env.cells.lookup x=some c)->∀x c,(jR env l j7).lookup x=some c->env.cells.lookup x=some c
 | [],_,h=>h
 | (n,k)::r,j7,h=>by
   refine zZV r _ ?_
   by_cases hk:k = .free
   · rw[Qu hk]
     cases e:env.cells.lookup n with
     | none=>exact h
     | some c =>
       intro x c' hx
       rw[Eh] at hx
       cases q:x==n with
       | true=>rw[q] at hx;cases hx;rw[eq_of_beq q];exact e
       | false=>rw[q] at hx;exact h x c' hx
   · rw[Qs hk];exact h
theorem zXq {env:Env}:∀(l:List (Str×NameKind)) (j7:List (Str×Addr)) (x:Str),(j7.lookup x).isSome=true->((jR env l j7).lookup x).isSome=true
 | [],_,_,h=>h
 | (n,k)::r,j7,x,h=>by
   refine zXq r _ x ?_
   by_cases hk:k = .free
   · rw[Qu hk]
     cases e:env.cells.lookup n with
     | none=>exact h
     | some c =>
       show(List.lookup x ((n,c)::j7)).isSome=true
       rw[Eh]
       cases q:x==n with
       | true=>rfl
       | false=>exact h
   · rw[Qs hk];exact h
theorem zZL {env:Env}:∀(l:List (Str×NameKind)) (j7:List (Str×Addr)),(∀p∈l,p.2 = .free->∃c,env.cells.lookup p.1=some c)->∀x,(x,NameKind.free)∈l->((jR env l j7).lookup x).isSome=true
 | [],_,_,_,h=>nomatch h
 | (n,k)::r,j7,hp,x,h=>by
   rcases Qa.mp h with e | h
   · cases e
     obtain⟨c,hc⟩:=hp (n,.free) Qv rfl
     show((jR env r (if NameKind.free=NameKind.free then(match env.cells.lookup n with | some c=>(n,c)::j7 | none=>j7) else j7)).lookup n).isSome=true
     rw[Qu rfl,hc]
     exact zXq r _ n (by simp[Eh])
   · exact zZL r _ (fun p hm=>hp p (Qk _ hm)) x h
def nP (sc scope:Scope)(N tgs j4:List Str)(js:List Nat):Bool :=
 scope.kind == .function&&scope.names.all (fun p=>p.2 != .cell&&(p.2 != .free||sc.names.lookup p.1==some .cell||sc.names.lookup p.1==some .free)&&(p.2 != .local||scope.names.lookup p.1==some .local))
   && tgs.all (fun x=>scope.names.lookup x==some .local)&&j4.all (fun x=>scope.names.lookup x==some .free)&&(js.map fun j=>N[j]?)==j4.map some
def upC (m:Nat)(js:List Nat)(σ:St):St:=List.replicate m none++js.map fun j=>(σ[j]?).join
def w8 (X:Cx)(Nc:List Str)(scope:Scope)(C:Addr)(s₀:Shared)(H₀:Hp)(fp:List Addr):Cx where
 prog:=X.prog
 w:=X.w
 K:=X.K
 mg:=X.mg
 base:=X.base
 A:=X.A
 N:=Nc
 s₀:=s₀
 H₀:=H₀
 env:=compEnvC scope (jR X.env scope.names []) C X.env
 outer:=X.stack
 stack:=X.stack
 ex:=fp
 fn:=fun _=>false
 calm:=X.calm
 pn:=[]
 xe:=F0
def zVw (X:Cx)(ifs:List Expr)(t:TT):Prop :=
 ∀(Z:jl) (s:Shared) (σ:St) (H:Hp) (Q:Bool->Hp->Prop),Inv X Z σ H s->t σ H Q ->
   wpAny (model X.prog X.w) X.A (forIn ifs true fun c r=>if r=true then do let ok ←isTrue c X.env (eval c X.env);pure (ForInStep.yield ok) else pure (ForInStep.yield r)) (TP X Z σ Q) X.xe s
def zMm:TT:=fun _ H Q=>Q true H
theorem zR5 {X:Cx}:zVw X [] zMm:=fun _ _ _ H _ I h=>wpAny_tests_nil ⟨H,I,h⟩
theorem zRT {X:Cx}{c:Expr}{t:TT}(h:PT X c t):zVw X [c] t:=fun Z s σ H Q I hq=>wpAny_tests_one (h Z s σ H Q I hq)
def zMB (J:It)(m:Nat)(js:List Nat)(g:TG)(tc:TT)(te:TE)(σ:St)(H1:Hp)(Q:VK):Prop:=∀D,H1 D=none ->
 ∃W:Nat->Nat->St->Hp->Prop,(∃k,W 0 k (upC m js σ) (upd H1 D (.lst [])))/\∀i k σ' H',W i k σ' H' ->
   (J.stop i H'/\Q (.ref D) H')∨(J.go i H'/\∀x H2,J.yld i H' x H2->g x σ' H2 fun σ2 H3=>tc σ2 H3 fun b H4=>if b=true then te σ2 H4 fun y H5=>∃ys k',H5 D=some (.lst ys)/\ys.length < sizeLine/\k' < k/\W (i+1) k' σ2 (upd H5 D (.lst (ys++[y])))
     else ∃k',k' < k/\W (i+1) k' σ2 H4)
section
variable {X:Cx} {Z:jl} {σ:St} {H2:Hp} {s2:Shared} {tg elt iter:Expr} {ifs:List Expr} {scope sc:Scope} {pos:Pos} {tgs j4:List Str} {js:List Nat} {g:TG} {te:TE} {tc:TT}
theorem tV {N:List Str}(h:nP sc scope N tgs j4 js=true):scope.kind = .function/\(∀p∈scope.names,p.2 ≠ .cell)/\(∀p∈scope.names,p.2 = .free->sc.names.lookup p.1=some .cell∨sc.names.lookup p.1=some .free) /\
   (∀p∈scope.names,p.2 = .local->scope.names.lookup p.1=some .local)/\(∀x∈tgs,scope.names.lookup x=some .local)/\(∀x∈j4,scope.names.lookup x=some .free)/\(js.map fun j=>N[j]?)=j4.map some:=by
 unfold nP at h
 simp only[Wg,List.all_eq_true,bne_iff_ne,ne_eq,Ts,Tr] at h
 obtain⟨⟨⟨⟨h1,h2⟩,h3⟩,h4⟩,h5⟩:=h
 refine⟨h1,fun p hp=>(h2 p hp).1.1,fun p hp e=>?_,fun p hp e=>?_,h3,h4,h5⟩
 · rcases(h2 p hp).1.2 with(q | q) | q
   · exact absurd e q
   · exact .inl q
   · exact .inr q
 · rcases(h2 p hp).2 with q | q
   · exact absurd e q
   · exact q
theorem zUV {C:Addr}{s3:Shared}{H3:Hp}{h4:Heap}{tk:Nat}{fp:List Addr}{m0:Str->Option Value}(I:Inv X Z σ H3 s3)(f3:∀b∈fp,iC X Z H3 b)(ofp:∀b∈fp,b < s3.heap.objs.size)
   (hsc:X.env.scope=sc) (hok:nP sc scope X.N tgs j4 js=true) (hC:C=s3.heap.objs.size) (hk:∀b o,s3.heap.get? b=some o->h4.get? b=some o) (hn:h4.Ns C m0) :
   Inv (w8 X (tgs++j4) scope C s3 H3 fp) [] (upC tgs.length js σ) H3 { s3 with heap:=h4,toks:=tk }:=by
 obtain⟨k1,k2,k3,k4,k5,k6,k7⟩:=tV hok
 have hcl:∀x c,(jR X.env scope.names []).lookup x=some c->X.env.cells.lookup x=some c:=zZV scope.names [] (fun _ _ z=>nomatch z)
 have hfr:∀p∈scope.names,p.2 = .free->∃c,X.env.cells.lookup p.1=some c:=fun p hp e=>I.ok.has p.1 (by
   show X.env.scope.names.lookup p.1=_∨X.env.scope.names.lookup p.1=_
   rw[hsc];exact k3 p hp e)
 have rl:∀x,(relabel scope X.env).names.lookup x=(scope.names.lookup x).map fun k=>if (k==NameKind.free&&X.env.scope.kind == .function&&X.env.kindOf x==some .cell)=true then NameKind.cell else k:=fun x=>lO x scope.names
 have hasc:∀x,((relabel scope X.env).names.lookup x=some .cell∨(relabel scope X.env).names.lookup x=some .free)->∃c,(jR X.env scope.names []).lookup x=some c:=fun x hx=>by
   rw[rl x] at hx
   cases e:scope.names.lookup x with
   | none=>rw[e] at hx;simp at hx
   | some k =>
     have hm:=El e
     have hkf:k = .free:=by
       rw[e] at hx
       simp only[Rk,Option.some.injEq] at hx
       by_cases q:k = .free
       · exact q
       · have hb:(k==NameKind.free)=false:=by simpa using q
         rw[hb] at hx
         simp only[Pp,Wf,Rv] at hx
         rcases hx with z | z
         · exact absurd z (k2 _ hm)
         · exact z
     subst hkf
     exact Eb.mp (zZL scope.names [] hfr x hm)
 have cfr:∀x c,X.env.cells.lookup x=some c->c≠C:=fun x c e z=>by
   obtain⟨v,q⟩:=I.cell x c e
   exact absurd (z ▸ q.lt) (by rw[hC];exact Wz _)
 have base0:∀b o,X.base.get? b=some o->b∉fp:=fun b o e hb=>by
   obtain⟨_,_,_,q,_⟩:=f3 b hb
   rcases q with q | q
   · exact I.ok.noex b o e q
   · exact absurd (Wy (Qd (I.ok.bs b o e).1) q) (Wz _)
 have stk:∀b∈fp,b∉frs X.stack:=fun b hb z=>by
   obtain⟨_,q1,q2,_⟩:=f3 b hb
   rcases Qa.mp (I.stkSub b z) with e | e
   · exact q1 e
   · exact q2 e
 refine⟨⟨I.ok.mod,k1,I.ok.glob,I.ok.blt,by rw[hC];exact Qf _,fun x y c e1 e2=>I.ok.inj x y c (hcl x c e1) (hcl y c e2),hasc,(fun x c z _=>nomatch z),I.ok.hd,I.ok.frames,.inl rfl,
     fun b hb=>⟨fun z=>absurd (ofp b hb) (by rw[show b=C from z,hC];exact Wz _),fun x c e=>(f3 b hb).2.2.2.2.1 x c (hcl x c e)⟩,
     fun b o e=>I.bs b o e,Wp I.ok.bsz I.sz,base0,stk,I.stack,I.stkFree⟩,
   rfl,I.bare,Un.kept hk,⟨m0,hn,fun i x v e1 e2 e3=>?_⟩,fun x c e=>?_,I.hok.fresh (by rw[show(w8 X (tgs++j4) scope C s3 H3 fp).env.locals=C from rfl,hC];exact Qf _),fun x c e=>I.freeC x c (hcl x c e),
   fun p hp=>absurd (show p∈([]:jl) from hp) je,I.hok.kept hk,?_⟩
 · -- a name's value
   have hi:tgs.length<=i:=by
     refine Nat.le_of_not_lt fun hlt=>?_
     have e2:(upC tgs.length js σ)[i]?=some (some v):=e2
     unfold upC at e2
     rw[Wj (by simpa using hlt),Eu] at e2
     split at e2<;>cases e2
   have e2:(upC tgs.length js σ)[i]?=some (some v):=e2
   unfold upC at e2
   rw[Wt (by simpa using hi),Uh,Wd] at e2
   have e1:(tgs++j4)[i]?=some x:=e1
   rw[Wt hi] at e1
   obtain⟨j,ej,e2⟩:=Qr.mp e2
   have hj:X.N[j]?=some x:=by
     have q:=Eo (fun l=>l[i - tgs.length]?) k7
     simp only[Wd,ej,e1,Rk] at q
     exact Wh q
   have hσ:σ[j]?=some (some v):=by
     cases q:σ[j]? with
     | none=>rw[q] at e2;cases e2
     | some o=>rw[q] at e2;exact Eo some e2
   have hf:scope.names.lookup x=some .free:=k6 x (Um e1)
   have hX:X.env.kindOf x=some .cell∨X.env.kindOf x=some .free:=by
     show X.env.scope.names.lookup x=_∨X.env.scope.names.lookup x=_
     rw[hsc];exact k3 _ (El hf) rfl
   obtain⟨m,_,hl⟩:=I.loc
   obtain⟨u,r,l⟩:=hl j x v hj hσ (by
     rcases hX with q | q
     · exact .inr (.inl q)
     · exact .inr (.inr q))
   refine⟨u,r,.inr ⟨?_,?_⟩⟩
   · show(relabel scope X.env).names.lookup x=_∨(relabel scope X.env).names.lookup x=_
     rw[rl x,hf]
     by_cases q:(NameKind.free==NameKind.free&&X.env.scope.kind == .function&&X.env.kindOf x==some .cell)=true
     · exact .inl (by rw[Rk,Qu q])
     · exact .inr (by rw[Rk,Qs q])
   · rcases l with⟨q,_⟩ | ⟨_,c,ec,hcell⟩
     · rcases hX with z | z<;>(rw[z] at q;cases q)
     · obtain⟨c',ec'⟩:=Eb.mp (zZL scope.names [] hfr x (El hf))
       have e:c'=c:=Wh ((hcl x c' ec').symm.trans ec)
       subst e
       obtain⟨o,ho,hd⟩:=hcell
       exact⟨c',ec',o,hk _ _ ho,hd⟩
 · obtain⟨v,o,ho,hd⟩:=I.cell x c (hcl x c e)
   exact⟨v,o,hk _ _ ho,hd⟩
 · show(upC tgs.length js σ).length=(tgs++j4).length
   have q:=Eo List.length k7
   rw[Qi,Qi] at q
   unfold upC
   rw[Qt,Uh,Qi,Qt,q]
theorem zZU {J:It}{fp:List Addr}{it:Addr}{tn:Nat->Heap->Prop}{RR:Value->Addr->Result->Shared->Prop}{E:jk}{Q:VK}
   (I2:Inv X Z σ H2 s2) (T:Turn X.prog X.w X.K tg J fp it tn) (st2:tn 0 s2.heap) (f2:∀b∈fp,iC X Z H2 b) (hc:X.calm=true)
   (hsc:X.env.scope=sc) (hok:nP sc scope X.N tgs j4 js=true)
   (hg:∀C s₀ H₀ fp,PG (w8 X (tgs++j4) scope C s₀ H₀ fp) tg g) (hi:∀C s₀ H₀ fp,zVw (w8 X (tgs++j4) scope C s₀ H₀ fp) ifs tc) (he:∀C s₀ H₀ fp,PE (w8 X (tgs++j4) scope C s₀ H₀ fp) elt te)
   (hw:zMB J tgs.length js g tc te σ H2 Q)
   (hRR:∀D C s' H' m,Inv X Z σ H' s'->Q (.ref D) H'->iC X Z H' C->s'.heap.Ns C m->RR (.ref D) C (.ok .next) s') :
   wpAny (model X.prog X.w) X.A (newList []) (fun j7 s₃ => wpAny (model X.prog X.w) X.A (newFunctionEnv scope X.env.globals (jR X.env scope.names []) [] X.env.qual none .none (some X.env)) (fun cenv s₄ =>
     codeAny (model X.prog X.w) X.A (.compStart (.ListComp elt [⟨tg,iter,ifs,0⟩] scope pos) 0 (.ref it) j7 { cenv with scope:=relabel scope X.env }) (RR j7 cenv.locals) s₄) E s₃) E s2:=by
 obtain⟨k1,k2,k3,k4,k5,k6,k7⟩:=tV hok
 refine Tx (wpAny_newFunctionEnv k2 (by intro y hy;simp at hy) (fun h4 hn4 hs4=>?_) k1)
 dsimp only at hn4 hs4 ⊢
 generalize hh3:s2.heap.push { cls:=.type "list",dict:=none,data:=.seq ([]:jm).toArray }=h3 at hn4 hs4 ⊢
 generalize hD:s2.heap.objs.size=D
 have hDn:H2 D=none:=by rw[←hD];exact I2.fresh
 have hsz3:h3.objs.size=D+1:=by rw[←hh3,Ur,hD]
 have keep23:∀b o,s2.heap.get? b=some o->h3.get? b=some o:=fun b o e=>by rw[←hh3];exact Qy _ e
 have keep34:∀b o,h3.get? b=some o->h4.get? b=some o:=fun b o e=>hs4.extBut b o (Wi (Qd e)) (Qy _ e)
 have I3:Inv X Z σ (upd H2 D (.lst [])) { s2 with heap:=h3 }:=by
   have q:=I2.lnew (j6:=[]) (ys:=[]) (t':=s2.toks) .nil (Ei _)
   rw[hD] at q
   rw[←hh3]
   exact q
 have nfp:∀b∈fp,b≠D:=fun b hb z=>by
   obtain⟨o,e,_⟩:=T.obj 0 _ st2 b hb
   exact absurd (Qd e) (by rw[z,hD];exact Wz _)
 have f3:∀b∈fp,iC X Z (upd H2 D (.lst [])) b:=fun b hb=>by
   obtain⟨q0,q⟩:=f2 b hb
   exact⟨by rw[zN (nfp b hb)];exact q0,q⟩
 have ofp:∀b∈fp,b < h3.objs.size:=fun b hb=>by
   obtain⟨o,e,_⟩:=T.obj 0 _ st2 b hb
   exact Qd (keep23 b o e)
 obtain⟨W,⟨n0,w0⟩,turn⟩:=hw D hDn
 have loop:∀s4:Shared,s4={ s2 with heap:=h4,toks:=s2.toks+([]:List (Str×Value)).length } ->
     codeAny (model X.prog X.w) X.A (.compLoop (.ListComp elt [⟨tg,iter,ifs,0⟩] scope pos) 0 (.ref it) (.ref D) (compEnvC scope (jR X.env scope.names []) h3.objs.size X.env)) (RR (.ref D) h3.objs.size) s4:=by
   rintro s4 rfl
   generalize hX':w8 X (tgs++j4) scope h3.objs.size { s2 with heap:=h3 } (upd H2 D (.lst [])) fp=X'
   have I4:Inv X' [] (upC tgs.length js σ) (upd H2 D (.lst [])) { s2 with heap:=h4,toks:=s2.toks+([]:List (Str×Value)).length }:=by
     rw[←hX']
     exact zUV (s3:={ s2 with heap:=h3 }) I3 f3 ofp hsc hok rfl keep34 hn4
   have eP:X'.prog=X.prog:=by rw[←hX'];rfl
   have eW:X'.w=X.w:=by rw[←hX'];rfl
   have eK:X'.K=X.K:=by rw[←hX'];rfl
   have eA:X'.A=X.A:=by rw[←hX'];rfl
   have eC:X'.calm=true:=by rw[←hX'];exact hc
   have T':Turn X'.prog X'.w X'.K tg J fp it tn:=by rw[eP,eW,eK];exact T
   have eE:X'.env=compEnvC scope (jR X.env scope.names []) h3.objs.size X.env:=by rw[←hX'];rfl
   have eX:X'.xe=F0:=by rw[←hX'];rfl
   have stat:∀ {H':Hp},(∀b∈fp,H' b=none)->∀b∈fp,iC X' [] H' b:=fun {H'} hn b hb=>by
     obtain⟨_,q1,q2,q3,q4,q5⟩:=f3 b hb
     rw[←hX']
     refine⟨hn b hb,?_,?_,.inl hb,fun x c e=>?_,fun p hp=>absurd (show p∈([]:jl) from hp) je⟩
     · exact fun z=>absurd (ofp b hb) (by rw[show b=h3.objs.size from z];exact Wz _)
     · intro z
       rcases Qa.mp (I3.stkSub b z) with e | e
       · exact q1 e
       · exact q2 e
     · exact q4 x c (zZV scope.names [] (fun _ _ z=>nomatch z) x c e)
   have hgX:PG X' tg g:=by rw[←hX'];exact hg _ _ _ _
   have hiX:zVw X' ifs tc:=by rw[←hX'];exact hi _ _ _ _
   have heX:PE X' elt te:=by rw[←hX'];exact he _ _ _ _
   refine zZN (fun n s'=>∃i σ' H',Inv X' [] σ' H' s'/\tn i s'.heap/\(∀b∈fp,H' b=none)/\W i n σ' H') ?_ n0 ⟨0,_,_,I4,T.keep 0 _ _ st2 (fun b _ o e=>keep34 b o (keep23 b o e)),fun b hb=>(f3 b hb).1,w0⟩
   rintro n s5 ⟨i,σ5,H5,I5,st5,fr5,w5⟩
   rw[←eP,←eW,←eE,←eA]
   rcases turn i n σ5 H5 w5 with⟨stop,qn⟩ | ⟨go,step⟩
   · refine thn (T'.done X' rfl rfl rfl eC i [] s5 σ5 H5 F0 I5 (stat fr5) st5 stop) fun r s6 ⟨hr,I6⟩=>?_
     subst hr
     have un:Un (frs X.stack) fp H2 H5 s2.heap s6.heap:=by
       have u1:Un (frs X.stack) fp H2 (upd H2 D (.lst [])) s2.heap h3:=Un.laid keep23 (Ug hD) hDn
       have u2:=I6.base
       rw[←hX'] at u2
       exact u1.trans u2
     have hpx:HOk X.prog X.w H5 s6.heap:=by have q:=I6.hok;rw[eP,eW] at q;exact q
     have hos:s6.os=s2.os:=by have q:=I6.os;rw[←hX'] at q;exact q
     have IX:Inv X Z σ H5 s6:=I2.call' (ch:=fp) hos un hpx I6.bare fun b hb=>⟨(f2 b hb).2.2.2.1,(f2 b hb).2.1,(f2 b hb).2.2.2.2.1,(f2 b hb).2.2.2.2.2⟩
     obtain⟨m,hm,_⟩:=I6.loc
     have hloc:X'.env.locals=h3.objs.size:=by rw[eE];rfl
     rw[hloc] at hm
     have hle:s2.heap.objs.size<=h3.objs.size:=by rw[hD,hsz3];exact Yn _
     refine hRR D h3.objs.size s6 H5 m IX qn (I2.fpOk hle ?_) hm
     have q:=I6.free
     rw[hloc] at q
     exact q
   · refine thn (T'.item X' rfl rfl rfl eC i [] s5 σ5 H5 F0 I5 (stat fr5) st5 go) fun r s6 ⟨u,hr,h6⟩=>?_
     subst hr
     refine thn h6 fun _ s7 ⟨x,H7,I7,r7,y7,st7,fr7⟩=>?_
     have I7':=I7.pinned (stat fr7) (T.obj _ _ st7)
     have xe0:X'.xe=F0:=eX
     have conv:∀ {α:Type} {t:Sem α} {Q:α->Shared->Prop} {s:Shared},wpAny (model X'.prog X'.w) X'.A t Q X'.xe s->wpAny (model X'.prog X'.w) X'.A t Q F0 s:=fun h=>by rw[xe0] at h;exact h
     refine thn (conv (hgX _ s7 σ5 H7 x u _ I7' r7 (step x H7 y7))) fun _ s8 ⟨σ8,H8,I8,q8⟩=>?_
     refine thn (conv (hiX _ s8 σ8 H8 _ I8 q8)) fun ok s9 ⟨H9,I9,q9⟩=>?_
     have again:∀ {σz:St} {Hz:Hp} {sz:Shared} {k':Nat},Inv X' ([]++bX fp s7.heap) σz Hz sz->k' < n->W (i+1) k' σz Hz->∃m,m < n/\∃i σ' H',Inv X' [] σ' H' sz/\tn i sz.heap/\(∀b∈fp,H' b=none)/\W i m σ' H':=fun {σz Hz sz k'} Iz hk wz=>by
       refine⟨k',hk,i+1,σz,Hz,Iz.unpinned,T.keep _ _ _ st7 fun b hb o e=>(Iz.pin (b,o) (Ws _ (Ws _ (nA hb e)))).1,fun b hb=>?_,wz⟩
       obtain⟨o,e,d⟩:=T.obj _ _ st7 b hb
       exact(Iz.pin (b,o) (Ws _ (Ws _ (nA hb e)))).2.1
     cases ok with
     | false =>
       rw[Qs jb] at q9
       rw[Qs jb]
       obtain⟨k',hk,wz⟩:=q9
       exact again I9 hk wz
     | true =>
       rw[Qu rfl] at q9
       rw[Qu rfl]
       refine thn (conv (heX _ s9 σ8 H9 _ I9 q9)) fun v s10 ⟨y,H10,I10,r10,ys,k',hys,hl,hk,wz⟩=>?_
       refine thn (conv (zT2 (X:=X') _ s10 σ8 H10 (.ref D) [y] (.ref D) [v] (fun z Hz=>W (i+1) k' σ8 Hz) I10 rfl (.cons r10 .nil) ⟨D,ys,y,rfl,rfl,hys,hl,wz⟩)) fun _ s11 ⟨_,H11,I11,_,q11⟩=>?_
       exact again I11 hk q11
 rw[show s2.heap.objs.size=D from hD] at *
 exact codeAny_compStart_list (loop _ rfl) (T.self _ 0 _ _ _ (T.keep 0 _ _ st2 fun b _ o e=>keep34 b o (keep23 b o e)) (loop _ rfl))
def zRI (wi:TI)(m:Nat)(js:List Nat)(g:TG)(tc:TT)(te:TE):TE:=fun σ H Q=>wi σ H fun J H1=>zMB J m js g tc te σ H1 Q
theorem aG (ok:X.Ok)(hsc:X.env.scope=sc)(hok:nP sc scope X.N tgs j4 js=true):closureFor scope X.env=pure (jR X.env scope.names []) :=
 zVn fun p hp e=>ok.has p.1 (by
   show X.env.scope.names.lookup p.1=_∨X.env.scope.names.lookup p.1=_
   rw[hsc];exact(tV hok).2.2.1 p hp e)
theorem zPK (sc:Scope)(tgs j4:List Str)(js:List Nat){wi:TI}(hp:PI X tg iter wi)(hc:X.calm=true)(hsc:X.env.scope=sc)(hok:nP sc scope X.N tgs j4 js=true)
   (hg:∀C s₀ H₀ fp,PG (w8 X (tgs++j4) scope C s₀ H₀ fp) tg g) (hi:∀C s₀ H₀ fp,zVw (w8 X (tgs++j4) scope C s₀ H₀ fp) ifs tc) (he:∀C s₀ H₀ fp,PE (w8 X (tgs++j4) scope C s₀ H₀ fp) elt te)
   (hs:∀x,foldedSetIterable iter X.env x=pure x:=by intro _;rfl) :
   PE X (.ListComp elt [⟨tg,iter,ifs,0⟩] scope pos) (zRI wi tgs.length js g tc te):=by
 intro Z s σ H Q I h
 obtain⟨k1,k2,k3,k4,k5,k6,k7⟩:=tV hok
 rw[eval_ListComp]
 refine wpAny_comprehension_free (use:=none) rfl hs (aG I.ok hsc hok) k1 k4 (thn (hp Z s σ H _ I h) fun v s1 h1=>thn h1 fun itv s2 h2=>?_)
 obtain⟨it,fp,tn,J,H2,e,I2,T,st2,f2,hw⟩:=h2
 subst e
 refine zZU (RR:=fun j7 C=>compPost (model X.prog X.w) X.A X.xe none (EP X Z σ Q) j7 C) I2 T st2 f2 hc hsc hok hg hi he hw ?_
 intro D C s' H' m I' q fC hn
 refine⟨m,hn,fun h' hs'=>⟨.ref D,H',?_,rfl,q⟩⟩
 obtain⟨c0,c1,c2,c3,c4,c5⟩:=fC
 exact I'.turned (t':=s'.toks) (fun b o hb e=>hs'.extBut b o hb e) c0 c1 c3 c4 c5
theorem zV2 (sc:Scope)(tgs j4:List Str)(js:List Nat){wi:TI}{i:Nat}{x:Str}{pos' spos:Pos}(hN:X.N.Nodup)(hx:X.N[i]?=some x)(hl:X.env.scope.names.lookup x=some .local)
   (hp:PI X tg iter wi) (hc:X.calm=true) (hsc:X.env.scope=sc) (hok:nP sc scope X.N tgs j4 js=true)
   (hg:∀C s₀ H₀ fp,PG (w8 X (tgs++j4) scope C s₀ H₀ fp) tg g) (hi:∀C s₀ H₀ fp,zVw (w8 X (tgs++j4) scope C s₀ H₀ fp) ifs tc) (he:∀C s₀ H₀ fp,PE (w8 X (tgs++j4) scope C s₀ H₀ fp) elt te)
   (hsw:swapsWith (.ListComp elt [⟨tg,iter,ifs,0⟩] scope pos) (some (.Name x pos')) spos.line X.env=pure true:=by with_unfolding_all rfl) (hs:∀x,foldedSetIterable iter X.env x=pure x:=by intro _;rfl) :
   PS X (.Assign [.Name x pos'] (.ListComp elt [⟨tg,iter,ifs,0⟩] scope pos) spos) (zTb (zRI wi tgs.length js g tc te) (zWs i)):=by
 intro Z s σ H D I h
 obtain⟨k1,k2,k3,k4,k5,k6,k7⟩:=tV hok
 rw[exec_Assign_Name_used _ _ _ _ hsw]
 refine Qe (Yl (Qe ?_))
 show wpAny _ X.A (do let _ ←comprehension (.ListComp elt [⟨tg,iter,ifs,0⟩] scope pos) scope X.env _ (newList []) false (eval iter X.env) (some (assign (.Name x pos') X.env))) _ _ s
 refine Qe (Te (wpAny_comprehension_free (use:=some (assign (.Name x pos') X.env)) (Q:=fun _ s'=>SP X Z D .next s') rfl hs (aG I.ok hsc hok) k1 k4
   (thn (hp Z s σ H _ I h) fun v s1 h1=>thn h1 fun itv s2 h2=>?_)) (fun _ s' hq=>Qh (Qh hq)) fun _ _ e=>e)
 obtain⟨it,fp,tn,J,H2,e,I2,T,st2,f2,hw⟩:=h2
 subst e
 refine zZU (RR:=fun j7 C=>compPost (model X.prog X.w) X.A X.xe (some (assign (.Name x pos') X.env)) (fun _ s'=>SP X Z D .next s') j7 C) I2 T st2 f2 hc hsc hok hg hi he hw ?_
 intro D' C s' H' m I' q fC hn
 obtain⟨c0,c1,c2,c3,c4,c5⟩:=fC
 show wpAny _ X.A (assign (.Name x pos') X.env (.ref D')) _ _ _
 refine wpAny_assign_Name (eY (v:=V.ref D') I' hN hx (.inl hl) rfl (fun s3 I3 hb=>?_) (.inr hl))
 obtain⟨a,sb,ha⟩:=hb
 have hCa:C≠a:=by
   rcases ha with z | z
   · rw[z];exact c1
   · exact(c4 x a z).symm
 refine⟨m,hn.sameBut sb hCa,fun h' hs'=>⟨_,H',I3.turned (t':=s3.toks) (fun b o hb e=>hs'.extBut b o hb e) c0 c1 c3 c4 c5,q⟩⟩
end
inductive KT where
 | int (i:Int) | tup (l:List KT)
instance:DecidableEq KT:=fun _ _=>Classical.propDecidable _
def zML:KT->Int
 | .int i=>hashInt i
 | .tup _=>0
def hK:Nat->KT->Int
 | n+1,.tup ks=>reduceHash (Builtin.Tuple.tupleHashOf (ks.map (hK n)))
 | _,k=>zML k
def zPh:List KT->List Addr->List Value->List DictEntry
 | k::ks,a::as,u::us=>⟨hK 8 k,.ref a,u⟩::zPh ks as us
 | _,_,_=>[]
def zNw (a:Addr)(ks:List KT)(as:List Addr)(vs:List V):Heap->Prop:=fun h =>
 ∃us,Vals vs us/\∃o es ep,h.get? a=some o/\o.ExactDict/\o.data = .dict es ep/\es.toList=zPh ks as us
inductive D where
 | non | bl (b:Bool) | int (i:Int) | str (x:Str) | tup (ds:List D) | lst (ds:List D) | obj (c:Str) (ns:List Str) (ds:List D)
 /-- an exception of an own class -/
 | exc (c:Str) (ns:List Str) (ds:List D)
 /-- a dict whose keys are tuples of ints and texts -/
 | dct (ks:List (List Key)) (ds:List D)
 deriving Inhabited
theorem Same.tup {K:jh}{H H':Hp}{a:Addr}{xs:List V}(e:Same H H')(h:SqT K H a xs):SqT K H' a xs:=by
 rcases h with(h | ⟨o,h⟩) | h
 · exact .inl (.inl (e _ _ h))
 · exact .inl (.inr ⟨o,e _ _ h⟩)
 · exact .inr h
def ClsAt (K:jh)(c:Str)(C:Addr):Prop:=PySem.W.nsIn K mainGlobals c=some (some (.ref C))
theorem ClsAt.one {K:jh}{c:Str}{C C':Addr}(h:ClsAt K c C)(h':ClsAt K c C'):C'=C:=by
 have:=h.symm.trans h'
 cases this;rfl
def Xe (C a:Addr)(od:Option Addr):Heap->Prop:=fun h=>∃fs,h.get? a=some { cls:=.ref C,dict:=od,data:=.fields fs }
def Xd (dx:Addr)(fs:List (Str×V)):Heap->Prop:=fun h=>∃mA,h.Ns1 dx mA/\∀f,RelO (fs.lookup f) (mA f)
def XD (G:Hp):Option Addr->List (Str×V)->Prop
 | none,fs=>fs=[]
 | some dx,fs=>G dx=some (.ext (Xd dx fs))
theorem XD.mono {G G':Hp}(e:Same G G'):∀ {od:Option Addr} {fs:List (Str×V)},XD G od fs->XD G' od fs
 | none,_,h=>h
 | some _,_,h=>e _ _ h
mutual
def Rep (K:jh)(G:Hp):D->V->Prop
 | .non,v=>v = .non
 | .bl b,v=>v = .bl b
 | .int i,v=>v = .int i
 | .str x,v=>v = .str x
 | .tup ds,v=>∃a vs,v = .ref a/\SqT K G a vs/\Reps K G ds vs
 | .lst ds,v=>∃a vs,v = .ref a/\SqL K G a vs/\Reps K G ds vs
 | .obj c ns ds,v=>∃C a dx vs,ClsAt K c C/\v = .ref a/\G a=some (.ins C dx (ns.zip vs))/\ns.length=ds.length/\Reps K G ds vs
 | .exc c ns ds,v=>∃C a od vs,ClsAt K c C/\v = .ref a/\G a=some (.ext (Xe C a od))/\XD G od (ns.zip vs)/\ns.length=ds.length/\Reps K G ds vs
 | .dct ks ds,v=>∃a vs,v = .ref a/\G a=some (.dT (ks.zip vs))/\ks.length=ds.length/\Reps K G ds vs
def Reps (K:jh)(G:Hp):List D->List V->Prop
 | [],vs=>vs=[]
 | d::r,vs=>∃v vr,vs=v::vr/\Rep K G d v/\Reps K G r vr
end
section
variable {K:jh} {G G':Hp}
mutual
theorem Rep.mono (e:Same G G'):∀(d:D) (v:V),Rep K G d v->Rep K G' d v
 | .non,_,h=>by unfold Rep at h ⊢;exact h
 | .bl _,_,h=>by unfold Rep at h ⊢;exact h
 | .int _,_,h=>by unfold Rep at h ⊢;exact h
 | .str _,_,h=>by unfold Rep at h ⊢;exact h
 | .tup ds,_,h=>by
   unfold Rep at h ⊢
   obtain⟨a,vs,h1,h2,h3⟩:=h
   exact⟨a,vs,h1,e.tup h2,Reps.mono e ds vs h3⟩
 | .lst ds,_,h=>by
   unfold Rep at h ⊢
   obtain⟨a,vs,h1,h2,h3⟩:=h
   exact⟨a,vs,h1,e.seq h2,Reps.mono e ds vs h3⟩
 | .obj C ns ds,_,h=>by
   unfold Rep at h ⊢
   obtain⟨C,a,dx,vs,h0,h1,h2,h4,h3⟩:=h
   exact⟨C,a,dx,vs,h0,h1,e _ _ h2,h4,Reps.mono e ds vs h3⟩
 | .exc C ns ds,_,h=>by
   unfold Rep at h ⊢
   obtain⟨C,a,od,vs,h0,h1,h2,h5,h4,h3⟩:=h
   exact⟨C,a,od,vs,h0,h1,e _ _ h2,h5.mono e,h4,Reps.mono e ds vs h3⟩
 | .dct ks ds,_,h=>by
   unfold Rep at h ⊢
   obtain⟨a,vs,h1,h2,h4,h3⟩:=h
   exact⟨a,vs,h1,e _ _ h2,h4,Reps.mono e ds vs h3⟩
theorem Reps.mono (e:Same G G'):∀(ds:List D) (vs:List V),Reps K G ds vs->Reps K G' ds vs
 | [],_,h=>by unfold Reps at h ⊢;exact h
 | d::r,_,h=>by
   unfold Reps at h ⊢
   obtain⟨v,vr,h1,h2,h3⟩:=h
   exact⟨v,vr,h1,Rep.mono e d v h2,Reps.mono e r vr h3⟩
end
theorem w4 {v:V}:Rep K G .non v↔v = .non:=by unfold Rep;exact Iff.rfl
theorem xD {b:Bool}{v:V}:Rep K G (.bl b) v↔v = .bl b:=by unfold Rep;exact Iff.rfl
theorem zK {i:Int}{v:V}:Rep K G (.int i) v↔v = .int i:=by unfold Rep;exact Iff.rfl
theorem yI {x:Str}{v:V}:Rep K G (.str x) v↔v = .str x:=by unfold Rep;exact Iff.rfl
theorem yR {ds:List D}{v:V}:Rep K G (.tup ds) v↔∃a vs,v = .ref a/\SqT K G a vs/\Reps K G ds vs:=by
 constructor<;>(intro h;unfold Rep at *;exact h)
theorem yA {ds:List D}{v:V}:Rep K G (.lst ds) v↔∃a vs,v = .ref a/\SqL K G a vs/\Reps K G ds vs:=by
 constructor<;>(intro h;unfold Rep at *;exact h)
theorem mF {c:Str}{ns:List Str}{ds:List D}{v:V}:Rep K G (.obj c ns ds) v↔∃C a dx vs,ClsAt K c C/\v = .ref a/\G a=some (.ins C dx (ns.zip vs))/\ns.length=ds.length/\Reps K G ds vs:=by
 constructor<;>(intro h;unfold Rep at *;exact h)
theorem zXX {c:Str}{ns:List Str}{ds:List D}{v:V}:Rep K G (.exc c ns ds) v↔∃C a od vs,ClsAt K c C/\v = .ref a/\G a=some (.ext (Xe C a od))/\XD G od (ns.zip vs)/\ns.length=ds.length/\Reps K G ds vs:=by
 constructor<;>(intro h;unfold Rep at *;exact h)
theorem zYq {ks:List (List Key)}{ds:List D}{v:V}:Rep K G (.dct ks ds) v↔∃a vs,v = .ref a/\G a=some (.dT (ks.zip vs))/\ks.length=ds.length/\Reps K G ds vs:=by
 constructor<;>(intro h;unfold Rep at *;exact h)
theorem zM {vs:List V}:Reps K G [] vs↔vs=[]:=by unfold Reps;exact Iff.rfl
theorem zR {d:D}{r:List D}{vs:List V}:Reps K G (d::r) vs↔∃v vr,vs=v::vr/\Rep K G d v/\Reps K G r vr:=by
 rw[Reps]
theorem Reps.length:∀ {ds:List D} {vs:List V},Reps K G ds vs->ds.length=vs.length
 | [],_,h=>by rw[zM] at h;rw[h];rfl
 | d::r,_,h=>by
   rw[zR] at h
   obtain⟨v,vr,rfl,_,h3⟩:=h
   rw[Qo,Qo,Reps.length h3]
theorem Reps.get:∀ {ds:List D} {vs:List V} {i:Nat} {d:D},Reps K G ds vs->ds[i]?=some d->∃v,vs[i]?=some v/\Rep K G d v
 | [],_,_,_,_,e=>by simp at e
 | d::r,_,0,_,h,e=>by
   rw[zR] at h
   obtain⟨v,vr,rfl,h2,h3⟩:=h
   simp at e;subst e
   exact⟨v,rfl,h2⟩
 | d::r,_,i+1,_,h,e=>by
   rw[zR] at h
   obtain⟨v,vr,rfl,h2,h3⟩:=h
   obtain⟨u,e1,e2⟩:=Reps.get h3 (by simpa using e)
   exact⟨u,by simpa using e1,e2⟩
theorem Reps.snoc:∀ {ds:List D} {vs:List V} {d:D} {v:V},Reps K G ds vs->Rep K G d v->Reps K G (ds++[d]) (vs++[v])
 | [],_,d,v,h,r=>by
   rw[zM] at h;subst h
   exact zR.mpr ⟨v,[],rfl,r,zM.mpr rfl⟩
 | e::t,_,d,v,h,r=>by
   rw[zR] at h
   obtain⟨u,vr,rfl,h2,h3⟩:=h
   exact zR.mpr ⟨u,vr++[v],rfl,h2,h3.snoc r⟩
theorem Reps.append:∀ {ds es:List D} {vs us:List V},Reps K G ds vs->Reps K G es us->Reps K G (ds++es) (vs++us)
 | [],_,_,_,h,r=>by rw[zM] at h;subst h;exact r
 | e::t,_,_,us,h,r=>by
   rw[zR] at h
   obtain⟨u,vr,rfl,h2,h3⟩:=h
   exact zR.mpr ⟨u,vr++us,rfl,h2,h3.append r⟩
theorem Reps.take:∀ {ds:List D} {vs:List V} (n:Nat),Reps K G ds vs->Reps K G (ds.take n) (vs.take n)
 | _,_,0,_=>by rw[Ps,Ps];exact zM.mpr rfl
 | [],_,_+1,h=>by rw[zM] at h;subst h;exact zM.mpr rfl
 | e::t,_,n+1,h=>by
   rw[zR] at h
   obtain⟨u,vr,rfl,h2,h3⟩:=h
   exact zR.mpr ⟨u,vr.take n,rfl,h2,h3.take n⟩
theorem Reps.drop:∀ {ds:List D} {vs:List V} (n:Nat),Reps K G ds vs->Reps K G (ds.drop n) (vs.drop n)
 | _,_,0,h=>h
 | [],_,_+1,h=>by rw[zM] at h;subst h;exact zM.mpr rfl
 | e::t,_,n+1,h=>by
   rw[zR] at h
   obtain⟨u,vr,rfl,h2,h3⟩:=h
   exact h3.drop n
end
def zY9:HO->Bool | .tup _=>false | _=>true
structure Step (G H G' H':Hp):Prop where
 hh:Same H H'
 gg:Same G G'
 sub:Same G' H'
 new:∀a o,H a=some o->zY9 o=true->G' a=G a
theorem Step.refl {G H:Hp}(h:Same G H):Step G H G H:=⟨Same.refl _,Same.refl _,h,fun _ _ _ _=>rfl⟩
theorem Step.trans {G H G1 H1 G2 H2:Hp}(a:Step G H G1 H1)(b:Step G1 H1 G2 H2):Step G H G2 H2 :=
 ⟨a.hh.trans b.hh,a.gg.trans b.gg,b.sub,fun c o hc hn=>(b.new c o (a.hh _ _ hc) hn).trans (a.new c o hc hn)⟩
theorem Same.new {H:Hp}{p:Addr}{o:HO}(hp:H p=none):Same H (upd H p o):=fun b u e=>by rw[zN (zC e hp)];exact e
theorem Step.laid {G H:Hp}{p:Addr}{o:HO}(s:Same G H)(hp:H p=none):Step G H (upd G p o) (upd H p o):=by
 refine⟨Same.new hp,Same.new (s.free hp),fun b u e=>?_,fun a o' ha hn=>?_⟩
 · by_cases hb:b=p
   · subst hb;rw[zL] at e ⊢;exact e
   · rw[zN hb] at e ⊢;exact s b u e
 · exact zN (fun z:a=p=>by rw[z,hp] at ha;cases ha)
theorem Step.own {G H:Hp}{p:Addr}{o:HO}(s:Same G H)(hp:H p=none):Step G H G (upd H p o) :=
 ⟨Same.new hp,Same.refl _,s.trans (Same.new hp),fun _ _ _ _=>rfl⟩
theorem Step.frz {G H G' H':Hp}{p:Addr}{o:HO}(s:Step G H G' H')(hp:H p=none)(h':H' p=some o)(g':G' p=none):Step G H (upd G' p o) H':=by
 refine⟨s.hh,s.gg.trans (Same.new g'),fun b u e=>?_,fun a o' ha hn=>?_⟩
 · by_cases hb:b=p
   · subst hb;rw[zL] at e;rw[h'];exact e
   · rw[zN hb] at e;exact s.sub b u e
 · rw[zN (fun z:a=p=>by rw[z,hp] at ha;cases ha)];exact s.new a o' ha hn
theorem Step.adopt {G H:Hp}{p:Addr}{xs:List V}(s:Same G H)(hp:H p=some (.tup xs)):Step G H (upd G p (.tup xs)) H:=by
 refine⟨Same.refl _,fun b u e=>?_,fun b u e=>?_,fun a o ha hn=>?_⟩
 · by_cases hb:b=p
   · subst hb
     have:=s _ _ e
     rw[hp] at this
     rw[zL];exact this
   · rw[zN hb];exact e
 · by_cases hb:b=p
   · subst hb;rw[zL] at e;rw[hp];exact e
   · rw[zN hb] at e;exact s b u e
 · refine zN fun z=>?_
   rw[z,hp] at ha
   cases ha
   cases hn
inductive B where
 | no | fz (d:D) | ow (ds:List D)
 /-- a dict of j6 own: keys and values -/
 | od (j8:List (D×D))
 /-- a thing of j6 own that may change: an object, a dict -/
 | mu (d:D)
 deriving Inhabited
def zNr (f:D->Option KT):List D->Option (List KT)
 | []=>some []
 | d::r=>(f d).bind fun k=>(zNr f r).map fun ks=>k::ks
def ktD:Nat->D->Option KT
 | _,.int i=>some (.int i)
 | _,.bl b=>some (.int (if b then 1 else 0))
 | n+1,.tup ds=>(zNr (ktD n) ds).map .tup
 | _,_=>none
inductive ODs (K:jh)(G:Hp):List (D×D)->List KT->List Addr->List V->Prop
 | nil:ODs K G [] [] [] []
 | cons {d e:D} {k:KT} {a:Addr} {v:V} {j8:List (D×D)} {ks:List KT} {as:List Addr} {vs:List V}:ktD 8 d=some k->Rep K G d (.ref a)->Rep K G e v->ODs K G j8 ks as vs->ODs K G ((d,e)::j8) (k::ks) (a::as) (v::vs)
theorem ODs.mono {K:jh}{G G':Hp}(h:Same G G'):∀ {j8 ks as vs},ODs K G j8 ks as vs->ODs K G' j8 ks as vs
 | _,_,_,_,.nil=>.nil
 | _,_,_,_,.cons h1 h2 h3 h4=>.cons h1 (h2.mono h) (h3.mono h) (ODs.mono h h4)
def RepO (K:jh)(G:Hp)(o:HO):D->Prop
 | .obj c ns ds=>∃C dx vs,ClsAt K c C/\o = .ins C dx (ns.zip vs)/\ns.length=ds.length/\Reps K G ds vs
 | .dct ks ds=>∃vs,o = .dT (ks.zip vs)/\ks.length=ds.length/\Reps K G ds vs
 | _=>False
theorem RepO.mono {K:jh}{G G':Hp}{o:HO}(e:Same G G'):∀ {d:D},RepO K G o d->RepO K G' o d
 | .obj _ _ _,⟨C,dx,vs,h1,h2,h3,h4⟩=>⟨C,dx,vs,h1,h2,h3,h4.mono e⟩
 | .dct _ _,⟨vs,h1,h2,h3⟩=>⟨vs,h1,h2,h3.mono e⟩
theorem RepO.two {K:jh}{G:Hp}{o:HO}:∀ {d:D},RepO K G o d->(∃C dx fs,o = .ins C dx fs)∨∃j8,o = .dT j8
 | .obj _ _ _,⟨C,dx,vs,_,h2,_⟩=>.inl ⟨C,dx,_,h2⟩
 | .dct _ _,⟨vs,h1,_⟩=>.inr ⟨_,h1⟩
theorem RepO.nl {K:jh}{G:Hp}{us:List V}{d:D}(h:RepO K G (.lst us) d):False:=by
 rcases h.two with⟨_,_,_,z⟩ | ⟨_,z⟩<;>cases z
theorem RepO.nt {K:jh}{G:Hp}{o:HO}{d:D}(h:RepO K G o d):zY9 o=true:=by
 rcases h.two with⟨_,_,_,z⟩ | ⟨_,z⟩<;>(subst z;rfl)
theorem RepO.nx {K:jh}{G:Hp}{φ:Heap->Prop}{d:D}(h:RepO K G (.ext φ) d):False:=by
 rcases h.two with⟨_,_,_,z⟩ | ⟨_,z⟩<;>cases z
inductive RB (K:jh)(H0 G H:Hp):Option V->B->Prop where
 | no {o:Option V}:RB K H0 G H o .no
 | fz {v:V} {d:D}:Rep K G d v->RB K H0 G H (some v) (.fz d)
 | ow {a:Addr} {vs:List V} {ds:List D}:H a=some (.lst vs)->G a=none->H0 a=none->Reps K G ds vs->RB K H0 G H (some (.ref a)) (.ow ds)
 | od {a:Addr} {j8:List (D×D)} {ks:List KT} {as:List Addr} {vs:List V}:H a=some (.ext (zNw a ks as vs))->G a=none->H0 a=none->ODs K G j8 ks as vs->ks.Nodup->(a==sysModules)=false->RB K H0 G H (some (.ref a)) (.od j8)
 | mu {a:Addr} {o:HO} {d:D}:H a=some o->G a=none->H0 a=none->RepO K G o d->RB K H0 G H (some (.ref a)) (.mu d)
def pR:B->Bool | .ow _=>true | .mu _=>true | _=>false
structure Good (K:jh)(G0 H0 G H:Hp)(σ:St)(ρ:List B):Prop where
 st:Step G0 H0 G H
 vals:Paired (RB K H0 G H) σ ρ
 apart:∀(i j:Nat) (a:Addr) (b c:B),ρ[i]?=some b->ρ[j]?=some c->pR b=true->pR c=true->σ[i]?=some (some (.ref a))->σ[j]?=some (some (.ref a))->i=j
theorem Paired.get {α β:Type}{F:α->β->Prop}:∀ {l:List α} {r:List β} {i:Nat} {b:β},Paired F l r->r[i]?=some b->∃a,l[i]?=some a/\F a b
 | _,_,_,_,.nil,e=>by simp at e
 | _,_,0,_,.cons h _,e=>by simp at e;subst e;exact⟨_,rfl,h⟩
 | _,_,i+1,b,.cons _ t,e=>by
   obtain⟨a,h1,h2⟩:=Paired.get (i:=i) (b:=b) t (by simpa using e)
   exact⟨a,by simpa using h1,h2⟩
theorem Paired.set {α β:Type}{F:α->β->Prop}{a:α}{b:β}(h:F a b):∀ {l:List α} {r:List β} (i:Nat),Paired F l r->Paired F (l.set i a) (r.set i b)
 | _,_,_,.nil=>.nil
 | _,_,0,.cons _ t=>.cons h t
 | _,_,i+1,.cons q t=>.cons q (Paired.set h i t)
theorem RB.step {K:jh}{H0 G H G' H':Hp}{o:Option V}{b:B}(r:RB K H0 G H o b)(s:Step G H G' H'):RB K H0 G' H' o b:=by
 cases r with
 | no=>exact .no
 | fz q=>exact .fz (q.mono s.gg)
 | ow h1 h2 h3 h4=>exact .ow (s.hh _ _ h1) ((s.new _ _ h1 rfl).trans h2) h3 (h4.mono s.gg)
 | od h1 h2 h3 h4 h5 h6=>exact .od (s.hh _ _ h1) ((s.new _ _ h1 rfl).trans h2) h3 (h4.mono s.gg) h5 h6
 | mu h1 h2 h3 h4=>exact .mu (s.hh _ _ h1) ((s.new _ _ h1 h4.nt).trans h2) h3 (h4.mono s.gg)
theorem Good.step {K:jh}{G0 H0 G H G' H':Hp}{σ:St}{ρ:List B}(g:Good K G0 H0 G H σ ρ)(s:Step G H G' H'):Good K G0 H0 G' H' σ ρ :=
 ⟨g.st.trans s,Paired.mapP g.vals fun _ _ r=>r.step s,g.apart⟩
theorem Good.sub {K:jh}{G0 H0 G H:Hp}{σ:St}{ρ:List B}(g:Good K G0 H0 G H σ ρ):Same G H:=g.st.sub
abbrev Ef:=List B->Option D
def tF (K:jh)(f:Ef):TE:=fun σ H Q=>∃G0 H0 G ρ d,Good K G0 H0 G H σ ρ/\f ρ=some d/\∀v H' G',Step G H G' H'->Rep K G' d v->Q v H'
def PF (X:Cx)(e:Expr)(f:Ef):Prop:=PE X e (tF X.K f)
theorem PE.to {X:Cx}{e:Expr}{t:TE}{f:Ef}(h:PE X e t)(imp:∀σ H Q,tF X.K f σ H Q->t σ H Q):PF X e f:=fun Z s σ H Q I q=>h Z s σ H Q I (imp σ H Q q)
abbrev Lf:=List B->Option (List D)
def tFr (K:jh)(f:Lf):TE:=fun σ H Q=>∃G0 H0 G ρ ds,Good K G0 H0 G H σ ρ/\f ρ=some ds/\∀a vs H' G',Step G H G' H'->H a=none->H' a=some (.lst vs)->G' a=none->Reps K G' ds vs->Q (.ref a) H'
def PFr (X:Cx)(e:Expr)(f:Lf):Prop:=PE X e (tFr X.K f)
theorem PE.toR {X:Cx}{e:Expr}{t:TE}{f:Lf}(h:PE X e t)(imp:∀σ H Q,tFr X.K f σ H Q->t σ H Q):PFr X e f:=fun Z s σ H Q I q=>h Z s σ H Q I (imp σ H Q q)
def eL (f:Lf):Ef:=fun ρ=>(f ρ).map .lst
theorem uD {X:Cx}{e:Expr}{f:Lf}(h:PFr X e f):PF X e (eL f):=by
 refine PE.to h ?_
 rintro σ H Q ⟨G0,H0,G,ρ,d,j0,hf,k⟩
 unfold eL at hf
 obtain⟨ds,h1,rfl⟩:=Qr.mp hf
 refine⟨G0,H0,G,ρ,ds,j0,h1,fun a vs H' G' s hn ha ga rs=>?_⟩
 exact k _ _ (upd G' a (.lst vs)) (s.frz hn ha ga) (yA.mpr ⟨a,vs,rfl,.of zL,rs.mono (Same.new ga)⟩)
abbrev Tf:=List B->Option Bool
def tFT (K:jh)(f:Tf):TT:=fun σ H Q=>∃G0 H0 G ρ b,Good K G0 H0 G H σ ρ/\f ρ=some b/\∀H' G',Step G H G' H'->Q b H'
def PFT (X:Cx)(e:Expr)(f:Tf):Prop:=PT X e (tFT X.K f)
theorem PT.to {X:Cx}{e:Expr}{t:TT}{f:Tf}(h:PT X e t)(imp:∀σ H Q,tFT X.K f σ H Q->t σ H Q):PFT X e f:=fun Z s σ H Q I q=>h Z s σ H Q I (imp σ H Q q)
def PFW (X:Cx)(e:Expr)(f:Tf):Prop:=PW X e (tFT X.K f)
def tFA (K:jh)(f:Lf):TA:=fun σ H Q=>∃G0 H0 G ρ ds,Good K G0 H0 G H σ ρ/\f ρ=some ds/\∀vs H' G',Step G H G' H'->Reps K G' ds vs->Q vs H'
def PFA (X:Cx)(es:List Expr)(f:Lf):Prop:=PA X es (tFA X.K f)
theorem PA.to {X:Cx}{es:List Expr}{t:TA}{f:Lf}(h:PA X es t)(imp:∀σ H Q,tFA X.K f σ H Q->t σ H Q):PFA X es f:=fun pos Z s σ H Q I q=>h pos Z s σ H Q I (imp σ H Q q)
section
variable {X:Cx} {a b c e:Expr} {es:List Expr} {fa fb:Ef} {ga:Lf} {ta tb:Tf} {pos:Pos}
def zSo (ρ:List B)(i:Nat):Option D:=match ρ[i]? with | some (.fz d)=>some d | _=>none
def eV (i:Nat):Ef:=fun ρ=>zSo ρ i
theorem zZk {K:jh}{G0 H0 G H:Hp}{σ:St}{ρ:List B}{i:Nat}{d:D}(g:Good K G0 H0 G H σ ρ)(h:zSo ρ i=some d):∃v,σ[i]?=some (some v)/\Rep K G d v:=by
 unfold zSo at h
 split at h
 · rename_i d' e
   cases h
   obtain⟨o,h1,r⟩:=Paired.get g.vals e
   cases r with
   | fz r=>exact⟨_,h1,r⟩
 · cases h
theorem zX (i:Nat){x:Str}(hN:X.N[i]?=some x:=by rfl)(hv:Vis X.env.scope x:=by first | exact Or.inl rfl | exact Or.inr (Or.inl rfl) | exact Or.inr (Or.inr rfl))(hd:(x==("__debug__":Str))=false:=by decide)(hcd:(x==("__classdict__":Str))=false:=by decide):PF X (.Name x pos) (eV i):=by
 refine PE.to (sW hN hv hd hcd) ?_
 rintro σ H Q ⟨G0,H0,G,ρ,d,j0,hf,k⟩
 obtain⟨v,h1,r⟩:=zZk j0 hf
 exact⟨v,h1,k v H G (.refl j0.sub) r⟩
def eC (d:D):Ef:=fun _=>some d
abbrev jo:Ef:=eC (.int 0)
abbrev jp:Ef:=eC (.int 1)
abbrev jq:Ef:=eC (.int 2)
abbrev jr:Ef:=eC (.int 3)
abbrev jt:Ef:=eC (.int 4)
abbrev ju:Ef:=eC (.int 5)
abbrev jw:Ef:=eC (.int 7)
abbrev jx:Ef:=eC (.int 8)
abbrev jy:=List D->Option D
abbrev jz:=@List.Nodup PySem.Str
theorem zXI {v:V}{d:D}(h:PE X e (tC v))(r:∀G,Rep X.K G d v):PF X e (eC d):=by
 refine PE.to h ?_
 rintro σ H Q ⟨G0,H0,G,ρ,d',j0,hf,k⟩
 cases hf
 exact k v H G (.refl j0.sub) (r G)
theorem zU {i:Int}{j:Nat}:PF X (.Constant (.int i) j pos) (eC (.int i)):=zXI zO5 fun _=>zK.mpr rfl
theorem uH {i:Bool}{j:Nat}:PF X (.Constant (.bool i) j pos) (eC (.bl i)):=zXI zMU fun _=>xD.mpr rfl
theorem zX3 {j:Nat}:PF X (.Constant .none j pos) (eC .non):=zXI zSS fun _=>w4.mpr rfl
theorem uZ {x:Str}{j:Nat}:PF X (.Constant (.str x) j pos) (eC (.str x)):=zXI zSw fun _=>yI.mpr rfl
def eI (C:Int->Int->Bool)(g:Int->Int->Int)(fa fb:Ef):Ef:=fun ρ=>(fa ρ).bind fun x=>(fb ρ).bind fun y=>match x,y with | .int i,.int j=>if C i j then some (.int (g i j)) else none | _,_=>none
theorem zVg {C:Int->Int->Bool}{g:Int->Int->Int}{ρ:List B}{d:D}(h:eI C g fa fb ρ=some d):∃i j,fa ρ=some (.int i)/\fb ρ=some (.int j)/\C i j=true/\d = .int (g i j):=by
 unfold eI at h
 obtain⟨x,h1,h⟩:=Qq.mp h
 obtain⟨y,h2,h⟩:=Qq.mp h
 cases x with
 | int i =>
   cases y with
   | int j =>
     dsimp only at h
     split at h
     · rename_i hc;cases h;exact⟨i,j,h1,h2,hc,rfl⟩
     · cases h
   | _=>cases h
 | _=>cases h
theorem zP9 {op:Operator}{C:Int->Int->Bool}{P:Int->Int->Prop}{g:Int->Int->Int}(ho:OpR X (binaryOp op) (rI P fun i j=>.int (g i j)))(hP:∀i j,C i j=true->P i j)(ha:PF X a fa)(hb:PF X b fb):PF X (.BinOp a op b pos) (eI C g fa fb):=by
 refine PE.to (zXc ho ha hb) ?_
 rintro σ H Q ⟨G0,H0,G,ρ,d,j0,hf,k⟩
 obtain⟨i,j,h1,h2,hc,rfl⟩:=zVg hf
 refine⟨G0,H0,G,ρ,_,j0,h1,fun x H1 G1 s1 r1=>⟨G0,H0,G1,ρ,_,j0.step s1,h2,fun y H2 G2 s2 r2=>?_⟩⟩
 exact⟨i,j,zK.mp r1,zK.mp r2,hP i j hc,k _ _ G2 (s1.trans s2) (zK.mpr rfl)⟩
theorem zOS {op:Operator}{g:Int->Int->Int}(ho:OpR X (binaryOp op) (rI0 fun i j=>.int (g i j)))(ha:PF X a fa)(hb:PF X b fb):PF X (.BinOp a op b pos) (eI (fun _ _=>true) g fa fb):=by
 refine PE.to (zXc ho ha hb) ?_
 rintro σ H Q ⟨G0,H0,G,ρ,d,j0,hf,k⟩
 obtain⟨i,j,h1,h2,hc,rfl⟩:=zVg hf
 refine⟨G0,H0,G,ρ,_,j0,h1,fun x H1 G1 s1 r1=>⟨G0,H0,G1,ρ,_,j0.step s1,h2,fun y H2 G2 s2 r2=>?_⟩⟩
 exact⟨i,j,zK.mp r1,zK.mp r2,k _ _ G2 (s1.trans s2) (zK.mpr rfl)⟩
abbrev xG:=eI (fun _ _=>true) (fun i j=>i+j)
abbrev zWr:=eI (fun _ _=>true) (fun i j=>i - j)
def jN (i j:Int):Bool:=(decide (-(2^64) < i)&&decide (i < 2^64))||(decide (-(2^64) < j)&&decide (j < 2^64))
abbrev jO:=eI jN (fun i j=>i*j)
def zNd (_ j:Int):Bool:=decide (0 < j)&&decide (j < 1073741824)
abbrev uW:=eI zNd (fun i j=>i / j)
abbrev yW:=eI (fun _ j=>decide (0 < j)) (fun i j=>i % j)
def zVY (i j:Int):Bool:=decide (0<=j)&&decide (j<=1000000)&&decide (i.natAbs < 2^64)
abbrev dX:=eI zVY (fun i j=>i^j.toNat)
theorem wX (ha:PF X a fa)(hb:PF X b fb):PF X (.BinOp a .Add b pos) (xG fa fb):=zOS zRc ha hb
theorem zVs (ha:PF X a fa)(hb:PF X b fb):PF X (.BinOp a .Sub b pos) (zWr fa fb):=zOS zOp ha hb
theorem rN (ha:PF X a fa)(hb:PF X b fb):PF X (.BinOp a .Mult b pos) (jO fa fb):=zP9 zOa (fun i j h=>by
 unfold jN at h
 simp only[Ts,Wg,Ed] at h
 exact h) ha hb
theorem tQ (ha:PF X a fa)(hb:PF X b fb):PF X (.BinOp a .FloorDiv b pos) (uW fa fb):=zP9 zPL (fun i j h=>by
 unfold zNd at h
 simp only[Wg,Ed] at h
 exact h) ha hb
theorem yP (ha:PF X a fa)(hb:PF X b fb):PF X (.BinOp a .Mod b pos) (yW fa fb):=zP9 zNA (fun i j h=>of_decide_eq_true h) ha hb
theorem zP3 {i j:Int}(h:zVY i j=true):zNf i j:=by
 unfold zVY at h
 simp only[Wg,Ed] at h
 exact⟨h.1.1,h.1.2,h.2⟩
theorem aO (ha:PF X a fa)(hb:PF X b fb):PF X (.BinOp a .Pow b pos) (dX fa fb):=zP9 zNX (fun i j h=>zP3 h) ha hb
def eB2 (g:D->D->Option Bool)(fa fb:Ef):Tf:=fun ρ=>(fa ρ).bind fun x=>(fb ρ).bind fun y=>g x y
def zWR (t:Tf):Ef:=fun ρ=>(t ρ).map .bl
def gLt:D->D->Option Bool | .int i,.int j=>some (decide (i < j)) | _,_=>none
def gLe:D->D->Option Bool | .int i,.int j=>some (decide (i<=j)) | _,_=>none
def gGt:D->D->Option Bool | .int i,.int j=>some (decide (j < i)) | _,_=>none
def gEq:D->D->Option Bool
 | .int i,.int j=>some (decide (i=j))
 | .bl i,.bl j=>some (decide (i=j))
 | .str i,.str j=>some (decide (i=j))
 | _,_=>none
def gNe (x y:D):Option Bool:=(gEq x y).map (!·)
def CmR (X:Cx)(op:CmpOp)(g:D->D->Option Bool):Prop:=∃r:R2,OpR X (compareOp op) r/\∀(d d':D) (k:Bool) (G H:Hp) (x y:V) (Q:VK),g d d'=some k->Same G H->Rep X.K G d x->Rep X.K G d' y->(∀H' G',Step G H G' H'->Q (.bl k) H')->r x y H Q
theorem zVr {op:CmpOp}{p:Int->Int->Bool}{g:D->D->Option Bool}(ho:OpR X (compareOp op) (rI0 fun i j=>.bl (p i j)))(hg:∀d d' k,g d d'=some k->∃i j,d = .int i/\d' = .int j/\k=p i j):CmR X op g:=by
 refine⟨_,ho,fun d d' k G H x y Q h s rx ry q=>?_⟩
 obtain⟨i,j,rfl,rfl,rfl⟩:=hg d d' k h
 exact⟨i,j,zK.mp rx,zK.mp ry,q H G (.refl s)⟩
theorem zTZ:CmR X .Lt gLt:=zVr zNx fun d d' k h=>by unfold gLt at h;split at h<;>cases h;exact⟨_,_,rfl,rfl,rfl⟩
theorem zMN:CmR X .LtE gLe:=zVr zMI fun d d' k h=>by unfold gLe at h;split at h<;>cases h;exact⟨_,_,rfl,rfl,rfl⟩
theorem zPr:CmR X .Gt gGt:=zVr zMQ fun d d' k h=>by unfold gGt at h;split at h<;>cases h;exact⟨_,_,rfl,rfl,rfl⟩
theorem zSD {d d':D}{k:Bool}{K:jh}{G:Hp}{x y:V}(h:gEq d d'=some k)(rx:Rep K G d x)(ry:Rep K G d' y):zO8 x y=true/\decide (x=y)=k:=by
 unfold gEq at h
 split at h
 · cases h;rw[zK] at rx ry;subst rx;subst ry;exact⟨rfl,je⟩
 · cases h;rw[xD] at rx ry;subst rx;subst ry;exact⟨rfl,je⟩
 · cases h;rw[yI] at rx ry;subst rx;subst ry;exact⟨rfl,je⟩
 · cases h
theorem lG:CmR X .Eq gEq:=⟨_,zNn,fun d d' k G H x y Q h s rx ry q=>by
 obtain⟨h1,h2⟩:=zSD h rx ry
 exact⟨h1,by rw[h2];exact q H G (.refl s)⟩⟩
theorem zOV:CmR X .NotEq gNe:=⟨_,zNs,fun d d' k G H x y Q h s rx ry q=>by
 unfold gNe at h
 obtain⟨k',h',rfl⟩:=Qr.mp h
 obtain⟨h1,h2⟩:=zSD h' rx ry
 exact⟨h1,by rw[h2];exact q H G (.refl s)⟩⟩
theorem zTW {g:D->D->Option Bool}{ρ:List B}{k:Bool}(h:eB2 g fa fb ρ=some k):∃x y,fa ρ=some x/\fb ρ=some y/\g x y=some k:=by
 unfold eB2 at h
 obtain⟨x,h1,h⟩:=Qq.mp h
 obtain⟨y,h2,h⟩:=Qq.mp h
 exact⟨x,y,h1,h2,h⟩
theorem zWl {t:Tf}{ρ:List B}{d:D}(h:zWR t ρ=some d):∃k,t ρ=some k/\d = .bl k:=by
 unfold zWR at h
 obtain⟨k,h1,rfl⟩:=Qr.mp h
 exact⟨k,h1,rfl⟩
theorem zVl {op:CmpOp}{g:D->D->Option Bool}(hc:CmR X op g)(ha:PF X a fa)(hb:PF X b fb)(hm:behindInMarks op b=false:=by first | exact zYF _ | (with_unfolding_all rfl)):PF X (.Compare a [op] [b] pos) (zWR (eB2 g fa fb)):=by
 obtain⟨r,ho,hr⟩:=hc
 refine PE.to (zQv ho ha hb hm) ?_
 rintro σ H Q ⟨G0,H0,G,ρ,d,j0,hf,k⟩
 obtain⟨c,hf2,rfl⟩:=zWl hf
 obtain⟨x,y,h1,h2,h3⟩:=zTW hf2
 refine⟨G0,H0,G,ρ,_,j0,h1,fun u H1 G1 s1 r1=>⟨G0,H0,G1,ρ,_,j0.step s1,h2,fun v H2 G2 s2 r2=>?_⟩⟩
 exact hr x y c G2 H2 u v Q h3 s2.sub (r1.mono s2.gg) r2 fun H' G' s3=>k _ _ G' ((s1.trans s2).trans s3) (xD.mpr rfl)
theorem z9 {op:CmpOp}{g:D->D->Option Bool}(hc:CmR X op g)(ha:PF X a fa)(hb:PF X b fb)(hm:behindInMarks op b=false:=by first | exact zYF _ | (with_unfolding_all rfl)):PFT X (.Compare a [op] [b] pos) (eB2 g fa fb):=by
 obtain⟨r,ho,hr⟩:=hc
 refine PT.to (zXK ho ha hb hm) ?_
 rintro σ H Q ⟨G0,H0,G,ρ,c,j0,hf,k⟩
 obtain⟨x,y,h1,h2,h3⟩:=zTW hf
 refine⟨G0,H0,G,ρ,_,j0,h1,fun u H1 G1 s1 r1=>⟨G0,H0,G1,ρ,_,j0.step s1,h2,fun v H2 G2 s2 r2=>?_⟩⟩
 exact hr x y c G2 H2 u v _ h3 s2.sub (r1.mono s2.gg) r2 fun H' G' s3=>⟨c,rfl,k _ G' ((s1.trans s2).trans s3)⟩
def jC:D->Bool | .non=>true | _=>false
theorem zSZ {K:jh}{G:Hp}{d:D}{v:V}(r:Rep K G d v):decide (v = .non)=jC d:=by
 cases d with
 | non=>rw[w4] at r;subst r;rfl
 | bl b=>rw[xD] at r;subst r;simp[jC]
 | int b=>rw[zK] at r;subst r;simp[jC]
 | str b=>rw[yI] at r;subst r;simp[jC]
 | tup ds=>obtain⟨p,_,rfl,_⟩:=yR.mp r;simp[jC]
 | lst ds=>obtain⟨p,_,rfl,_⟩:=yA.mp r;simp[jC]
 | obj C ns ds=>obtain⟨_,p,_,_,_,rfl,_⟩:=mF.mp r;simp[jC]
 | exc C ns ds=>obtain⟨_,p,_,_,_,rfl,_⟩:=zXX.mp r;simp[jC]
 | dct ks ds=>obtain⟨p,_,rfl,_⟩:=zYq.mp r;simp[jC]
def zYp:D->D->Option Bool | d,.non=>some (!jC d) | _,_=>none
theorem zWX:CmR X .IsNot zYp:=⟨_,zPW,fun d d' k G H x y Q h s rx ry q=>by
 unfold zYp at h
 split at h
 · cases h
   refine⟨w4.mp ry,?_⟩
   rw[zSZ rx];exact q H G (.refl s)
 · cases h⟩
def tB1 (f:Ef):Tf:=fun ρ=>(f ρ).bind fun x=>match x with | .bl k=>some k | _=>none
theorem zYd {f:Ef}{ρ:List B}{k:Bool}(h:tB1 f ρ=some k):f ρ=some (.bl k):=by
 unfold tB1 at h
 obtain⟨x,h1,h⟩:=Qq.mp h
 split at h
 · cases h;exact h1
 · cases h
theorem xI (ha:PF X a fa)(he:∀whole,isTrue a X.env whole=(do let v ←whole;standAt a.pos;holding [v] (truthy v)):=by intro _;rfl):PFT X a (tB1 fa):=by
 refine PT.to (zSt ha he) ?_
 rintro σ H Q ⟨G0,H0,G,ρ,c,j0,hf,k⟩
 exact⟨G0,H0,G,ρ,_,j0,zYd hf,fun u H1 G1 s1 r1=>⟨c,xD.mp r1,k _ G1 s1⟩⟩
def y8 (t:Tf):Tf:=fun ρ=>(t ρ).map (!·)
def oG (t u:Tf):Tf:=fun ρ=>(t ρ).bind fun c=>if c=true then u ρ else some false
def kQ (t u:Tf):Tf:=fun ρ=>(t ρ).bind fun c=>if c=true then some true else u ρ
theorem wK (ha:PFT X a ta):PFT X (.UnaryOp .Not a pos) (y8 ta):=by
 refine PT.to (zRY ha) ?_
 rintro σ H Q ⟨G0,H0,G,ρ,c,j0,hf,k⟩
 unfold y8 at hf
 obtain⟨c',h1,rfl⟩:=Qr.mp hf
 exact⟨G0,H0,G,ρ,_,j0,h1,fun H1 G1 s1=>k _ G1 s1⟩
theorem PW.to {t:TT}{f:Tf}(h:PW X e t)(imp:∀σ H Q,tFT X.K f σ H Q->t σ H Q):PFW X e f:=fun whole Z s σ H Q I q=>h whole Z s σ H Q I (imp σ H Q q)
theorem zWO (ha:PFT X a ta):PFW X (.BoolOp .And [a] pos) ta:=zU2 ha
theorem pP (ha:PFT X a ta):PFW X (.BoolOp .Or [a] pos) ta:=zO1 ha
theorem zUQ {rest:List Expr}(ha:PFT X a ta)(hb:PFW X (.BoolOp .And (b::rest) pos) tb):PFW X (.BoolOp .And (a::b::rest) pos) (oG ta tb):=by
 refine PW.to (zRw ha hb) ?_
 rintro σ H Q ⟨G0,H0,G,ρ,c,j0,hf,k⟩
 unfold oG at hf
 obtain⟨c',h1,hf⟩:=Qq.mp hf
 refine⟨G0,H0,G,ρ,_,j0,h1,fun H1 G1 s1=>?_⟩
 split at hf
 · rename_i h;rw[Qu h];exact⟨G0,H0,G1,ρ,c,j0.step s1,hf,fun H2 G2 s2=>k _ G2 (s1.trans s2)⟩
 · rename_i h;rw[Qs h];cases hf;exact k _ G1 s1
theorem pA {rest:List Expr}(ha:PFT X a ta)(hb:PFW X (.BoolOp .Or (b::rest) pos) tb):PFW X (.BoolOp .Or (a::b::rest) pos) (kQ ta tb):=by
 refine PW.to (zNj ha hb) ?_
 rintro σ H Q ⟨G0,H0,G,ρ,c,j0,hf,k⟩
 unfold kQ at hf
 obtain⟨c',h1,hf⟩:=Qq.mp hf
 refine⟨G0,H0,G,ρ,_,j0,h1,fun H1 G1 s1=>?_⟩
 split at hf
 · rename_i h;rw[Qu h];cases hf;exact k _ G1 s1
 · rename_i h;rw[Qs h];exact⟨G0,H0,G1,ρ,c,j0.step s1,hf,fun H2 G2 s2=>k _ G2 (s1.trans s2)⟩
theorem zZD (h:PFW X e ta):PFT X e ta:=h.pt
theorem zNY {op:BoolOp}(h:PF X a fa):PF X (.BoolOp op [a] pos) fa:=zNJ h
def zPa (fa fb:Ef):Ef:=fun ρ=>(tB1 fa ρ).bind fun c=>if c=true then fb ρ else some (.bl false)
theorem zOM {rest:List Expr}(ha:PF X a fa)(hb:PF X (.BoolOp .And (b::rest) pos) fb):PF X (.BoolOp .And (a::b::rest) pos) (zPa fa fb):=by
 refine PE.to (zNE ha hb) ?_
 rintro σ H Q ⟨G0,H0,G,ρ,d,j0,hf,k⟩
 obtain⟨c,h1,hf⟩:=Qq.mp hf
 refine⟨G0,H0,G,ρ,_,j0,zYd h1,fun u H1 G1 s1 r1=>⟨c,xD.mp r1,?_⟩⟩
 split at hf
 · rename_i h;rw[Qu h];exact⟨G0,H0,G1,ρ,d,j0.step s1,hf,fun v H2 G2 s2 r2=>k _ _ G2 (s1.trans s2) r2⟩
 · rename_i h;rw[Qs h];cases hf;exact k _ _ G1 s1 (xD.mpr rfl)
theorem zOP (ha:PF X a fa):PF X (.UnaryOp .Not a pos) (zWR (y8 (tB1 fa))):=by
 refine PE.to (zOB ha) ?_
 rintro σ H Q ⟨G0,H0,G,ρ,d,j0,hf,k⟩
 obtain⟨c,hf2,rfl⟩:=zWl hf
 unfold y8 at hf2
 obtain⟨c',h1,rfl⟩:=Qr.mp hf2
 exact⟨G0,H0,G,ρ,_,j0,zYd h1,fun u H1 G1 s1 r1=>⟨c',xD.mp r1,k _ _ G1 s1 (xD.mpr rfl)⟩⟩
def eIf (t:Tf)(fa fb:Ef):Ef:=fun ρ=>(t ρ).bind fun c=>if c=true then fa ρ else fb ρ
theorem zSN (ht:PFT X c ta)(ha:PF X a fa)(hb:PF X b fb):PF X (.IfExp c a b pos) (eIf ta fa fb):=by
 refine PE.to (zSK ht ha hb) ?_
 rintro σ H Q ⟨G0,H0,G,ρ,d,j0,hf,k⟩
 unfold eIf at hf
 obtain⟨c',h1,hf⟩:=Qq.mp hf
 refine⟨G0,H0,G,ρ,_,j0,h1,fun H1 G1 s1=>?_⟩
 split at hf
 · rename_i h;rw[Qu h];exact⟨G0,H0,G1,ρ,d,j0.step s1,hf,fun v H2 G2 s2 r2=>k _ _ G2 (s1.trans s2) r2⟩
 · rename_i h;rw[Qs h];exact⟨G0,H0,G1,ρ,d,j0.step s1,hf,fun v H2 G2 s2 r2=>k _ _ G2 (s1.trans s2) r2⟩
def zP:Lf:=fun _=>some []
def zY (f:Ef)(r:Lf):Lf:=fun ρ=>(f ρ).bind fun d=>(r ρ).map fun ds=>d::ds
theorem zV:PFA X [] zP:=by
 refine PA.to wH ?_
 rintro σ H Q ⟨G0,H0,G,ρ,d,j0,hf,k⟩
 cases hf
 exact k [] H G (.refl j0.sub) (zM.mpr rfl)
theorem zZm {f:Ef}{r:Lf}{ρ:List B}{ds:List D}(h:zY f r ρ=some ds):∃d dr,f ρ=some d/\r ρ=some dr/\ds=d::dr:=by
 unfold zY at h
 obtain⟨d,h1,h⟩:=Qq.mp h
 obtain⟨dr,h2,rfl⟩:=Qr.mp h
 exact⟨d,dr,h1,h2,rfl⟩
theorem zZ (ha:PF X e fa)(hr:PFA X es ga)(hs:starEach (e::es) X.env=(false,eval e X.env)::starEach es X.env:=by rfl):PFA X (e::es) (zY fa ga):=by
 refine PA.to (yZ ha hr hs) ?_
 rintro σ H Q ⟨G0,H0,G,ρ,ds,j0,hf,k⟩
 obtain⟨d,dr,h1,h2,rfl⟩:=zZm hf
 refine⟨G0,H0,G,ρ,_,j0,h1,fun u H1 G1 s1 r1=>⟨G0,H0,G1,ρ,_,j0.step s1,h2,fun v H2 G2 s2 r2=>?_⟩⟩
 exact k _ _ G2 (s1.trans s2) (zR.mpr ⟨u,v,rfl,r1.mono s2.gg,r2⟩)
abbrev lim:Nat:=100000
theorem wE {n:Nat}(h:n<=lim):n < sizeLine:=Nat.lt_of_le_of_lt h jb
def okL (ds:List D):Option (List D):=if ds.length<=lim then some ds else none
theorem kD {ds es:List D}(h:okL ds=some es):es=ds/\ds.length<=lim:=by
 unfold okL at h
 split at h
 · rename_i q;cases h;exact⟨rfl,q⟩
 · cases h
def xH (g:Lf):Ef:=fun ρ=>((g ρ).bind okL).map .tup
theorem wF {k:Nat}(h:PFA X es ga):PF X (.Tuple es k pos) (xH ga):=by
 refine PE.to (zQW h) ?_
 rintro σ H Q ⟨G0,H0,G,ρ,d,j0,hf,k⟩
 unfold xH at hf
 obtain⟨ds,h1,rfl⟩:=Qr.mp hf
 obtain⟨es,h1,h2⟩:=Qq.mp h1
 obtain⟨rfl,h3⟩:=kD h2
 refine⟨G0,H0,G,ρ,_,j0,h1,fun vs H1 G1 s1 r1=>⟨by rw[←r1.length];exact Wb (wE h3),fun p hp=>?_⟩⟩
 have s2:=Step.laid (o:=.tup vs) s1.sub hp
 exact k _ _ _ (s1.trans s2) (yR.mpr ⟨p,vs,rfl,.of zL,r1.mono s2.gg⟩)
def wL (g:Lf):Lf:=fun ρ=>(g ρ).bind okL
theorem wG (h:PFA X es ga):PFr X (.List es pos) (wL ga):=by
 refine PE.toR (zOi h) ?_
 rintro σ H Q ⟨G0,H0,G,ρ,d,j0,hf,k⟩
 unfold wL at hf
 obtain⟨es,h1,h2⟩:=Qq.mp hf
 obtain⟨rfl,h3⟩:=kD h2
 refine⟨G0,H0,G,ρ,_,j0,h1,fun vs H1 G1 s1 r1=>⟨by rw[←r1.length];exact Wb (wE h3),fun p hp=>?_⟩⟩
 exact k p vs _ G1 (s1.trans (Step.own s1.sub hp)) (s1.hh.free hp) zL (s1.sub.free hp) r1
def atD (x y:D):Option D:=match x,y with
 | .tup ds,.int i=>atI ds i
 | .lst ds,.int i=>atI ds i
 | .str z,.int i=>if z.length<=lim then(atI z.cps.toList i).map fun c=>.str ⟨#[c]⟩ else none
 | _,_=>none
def eIx (fa fb:Ef):Ef:=fun ρ=>(fa ρ).bind fun x=>(fb ρ).bind fun y=>atD x y
theorem zVV {K:jh}{G:Hp}{ds:List D}{vs:List V}{i:Int}{d:D}(r:Reps K G ds vs)(h:atI ds i=some d):∃v,atI vs i=some v/\Rep K G d v:=by
 unfold atI at h ⊢
 rw[r.length] at h
 obtain⟨j,h1,h2⟩:=Qq.mp h
 obtain⟨v,h3,h4⟩:=r.get h2
 exact⟨v,by rw[h1];exact h3,h4⟩
theorem yU (ha:PF X a fa)(hb:PF X b fb)(hs:zX7 b:=by exact fun _ _=>rfl):PF X (.Subscript a b pos) (eIx fa fb):=by
 refine PE.to (zPm zO6 ha hb hs) ?_
 rintro σ H Q ⟨G0,H0,G,ρ,d,j0,hf,k⟩
 unfold eIx at hf
 obtain⟨x,h1,hf⟩:=Qq.mp hf
 obtain⟨y,h2,hf⟩:=Qq.mp hf
 refine⟨G0,H0,G,ρ,_,j0,h1,fun u H1 G1 s1 r1=>⟨G0,H0,G1,ρ,_,j0.step s1,h2,fun v H2 G2 s2 r2=>?_⟩⟩
 have r1:=r1.mono s2.gg
 have s3:=s1.trans s2
 unfold atD at hf
 split at hf
 · obtain⟨p,vs,rfl,q,rs⟩:=yR.mp r1
   obtain⟨w,e,rw'⟩:=zVV rs hf
   exact .inr (.inl ⟨p,vs,_,w,rfl,zK.mp r2,s2.sub.tup q,e,k _ _ G2 s3 rw'⟩)
 · obtain⟨p,vs,rfl,q,rs⟩:=yA.mp r1
   obtain⟨w,e,rw'⟩:=zVV rs hf
   exact .inl ⟨p,vs,_,w,rfl,zK.mp r2,s2.sub.seq q,e,k _ _ G2 s3 rw'⟩
 · split at hf
   · rename_i hz
     obtain⟨c,e,rfl⟩:=Qr.mp hf
     exact .inr (.inr ⟨_,_,c,yI.mp r1,zK.mp r2,Wb (wE hz),e,k _ _ G2 s3 (yI.mpr rfl)⟩)
   · cases hf
 · cases hf
end
inductive Out where
 | nx (ρ:List B) | rt (d:D) | rl (ds:List D) | bk (ρ:List B) | ct (ρ:List B)
 deriving Inhabited
abbrev Sf:=List B->Option Out
def Wants (K:jh)(G0 H0 G:Hp)(D:Ends):Out->Prop
 | .nx ρ'=>∀σ' H' G',Same G G'->Good K G0 H0 G' H' σ' ρ'->D.nx σ' H'
 | .bk ρ'=>∀σ' H' G',Same G G'->Good K G0 H0 G' H' σ' ρ'->D.bk σ' H'
 | .ct ρ'=>∀σ' H' G',Same G G'->Good K G0 H0 G' H' σ' ρ'->D.ct σ' H'
 | .rt d=>∀v H' G',Step G0 H0 G' H'->Rep K G' d v->D.rt v H'
 | .rl ds=>∀a vs H' G',Step G0 H0 G' H'->H0 a=none->H' a=some (.lst vs)->G' a=none->Reps K G' ds vs->D.rt (.ref a) H'
def tFS (K:jh)(f:Sf):TS:=fun D σ H=>∃G0 H0 G ρ o,Good K G0 H0 G H σ ρ/\f ρ=some o/\Wants K G0 H0 G D o
def PFS (X:Cx)(st:Stmt)(f:Sf):Prop:=PS X st (tFS X.K f)
def PFSs (X:Cx)(sts:List Stmt)(f:Sf):Prop:=PSs X sts (tFS X.K f)
theorem PS.to {X:Cx}{st:Stmt}{t:TS}{f:Sf}(h:PS X st t)(imp:∀D σ H,tFS X.K f D σ H->t D σ H):PFS X st f:=fun Z s σ H D I q=>h Z s σ H D I (imp D σ H q)
theorem PSs.to {X:Cx}{st:List Stmt}{t:TS}{f:Sf}(h:PSs X st t)(imp:∀D σ H,tFS X.K f D σ H->t D σ H):PFSs X st f:=fun Z s σ H D I q=>h Z s σ H D I (imp D σ H q)
theorem Wants.mono {K:jh}{G0 H0 G G':Hp}{D:Ends}{o:Out}(h:Wants K G0 H0 G D o)(s:Same G G'):Wants K G0 H0 G' D o:=by
 cases o with
 | nx ρ=>exact fun σ' H' G2 s2 g=>h σ' H' G2 (s.trans s2) g
 | bk ρ=>exact fun σ' H' G2 s2 g=>h σ' H' G2 (s.trans s2) g
 | ct ρ=>exact fun σ' H' G2 s2 g=>h σ' H' G2 (s.trans s2) g
 | rt d=>exact h
 | rl ds=>exact h
theorem cR {ρ:List B}{i j:Nat}{d:D}{ds:List D}(h:(ρ.set i (.fz d))[j]?=some (.ow ds)):j≠i/\ρ[j]?=some (.ow ds):=by
 by_cases e:j=i
 · subst e
   rw[Ya] at h
   split at h
   · split at h<;>cases h
   · rename_i z;exact absurd rfl z
 · rw[Ql (Ne.symm e)] at h
   exact⟨e,h⟩
theorem eN {ρ:List B}{i j:Nat}{d:D}{ds:List (D×D)}(h:(ρ.set i (.fz d))[j]?=some (.od ds)):j≠i/\ρ[j]?=some (.od ds):=by
 by_cases e:j=i
 · subst e
   rw[Ya] at h
   split at h
   · split at h<;>cases h
   · rename_i z;exact absurd rfl z
 · rw[Ql (Ne.symm e)] at h
   exact⟨e,h⟩
theorem eZ {ρ:List B}{i j:Nat}{d d':D}(h:(ρ.set i (.fz d))[j]?=some (.mu d')):j≠i/\ρ[j]?=some (.mu d'):=by
 by_cases e:j=i
 · subst e
   rw[Ya] at h
   split at h
   · split at h<;>cases h
   · rename_i z;exact absurd rfl z
 · rw[Ql (Ne.symm e)] at h
   exact⟨e,h⟩
theorem pK {ρ:List B}{i j:Nat}{b b':B}(hb:pR b'=false)(h:(ρ.set i b')[j]?=some b)(o:pR b=true):j≠i/\ρ[j]?=some b:=by
 by_cases e:j=i
 · subst e
   rw[Ya] at h
   split at h
   · split at h
     · cases h;rw[hb] at o;cases o
     · cases h
   · rename_i z;exact absurd rfl z
 · rw[Ql (Ne.symm e)] at h
   exact⟨e,h⟩
theorem Good.setF {K:jh}{G0 H0 G H:Hp}{σ:St}{ρ:List B}{v:V}{d:D}(g:Good K G0 H0 G H σ ρ)(i:Nat)(r:Rep K G d v):Good K G0 H0 G H (σ.set i (some v)) (ρ.set i (.fz d)):=by
 refine⟨g.st,Paired.set (.fz r) i g.vals,fun j k a ds es h1 h2 o1 o2 h3 h4=>?_⟩
 obtain⟨n1,e1⟩:=pK rfl h1 o1
 obtain⟨n2,e2⟩:=pK rfl h2 o2
 rw[Ql (Ne.symm n1)] at h3
 rw[Ql (Ne.symm n2)] at h4
 exact g.apart j k a ds es e1 e2 o1 o2 h3 h4
theorem Good.addr {K:jh}{G0 H0 G H:Hp}{σ:St}{ρ:List B}{i:Nat}{ds:List D}(g:Good K G0 H0 G H σ ρ)(h:ρ[i]?=some (.ow ds)):∃a vs,σ[i]?=some (some (.ref a))/\H a=some (.lst vs)/\G a=none/\H0 a=none/\Reps K G ds vs:=by
 obtain⟨o,e,r⟩:=Paired.get g.vals h
 cases r with
 | ow h1 h2 h3 h4=>exact⟨_,_,e,h1,h2,h3,h4⟩
theorem Good.setO {K:jh}{G0 H0 G H:Hp}{σ:St}{ρ:List B}{a:Addr}{vs:List V}{ds:List D}(g:Good K G0 H0 G H σ ρ)(i:Nat)(ha:H a=some (.lst vs))(ga:G a=none)(h0:H0 a=none)(rs:Reps K G ds vs)
   (fr:∀(j:Nat) (es:List D),ρ[j]?=some (B.ow es)->σ[j]?≠some (some (V.ref a))):Good K G0 H0 G H (σ.set i (some (.ref a))) (ρ.set i (.ow ds)):=by
 have hl:σ.length=ρ.length:=Rw g.vals
 have fr':∀(j:Nat) (b:B),ρ[j]?=some b->pR b=true->σ[j]?≠some (some (V.ref a)):=fun j b e o z=>by
   cases b with
   | ow es=>exact fr j es e z
   | mu d =>
     obtain⟨x,e1,r⟩:=Paired.get g.vals e
     rw[z] at e1;cases e1
     cases r with
     | mu q1 q2 q3 q4=>rw[ha] at q1;cases q1;exact q4.nl
   | _=>cases o
 refine⟨g.st,Paired.set (.ow ha ga h0 rs) i g.vals,fun j k b d1 d2 h1 h2 o1 o2 h3 h4=>?_⟩
 by_cases hj:j=i
 · by_cases hk:k=i
   · rw[hj,hk]
   · subst hj
     rw[Ql (Ne.symm hk)] at h2 h4
     have hlt:j < σ.length:=by
       have:=(Qn.mp h3).1
       rwa[Ye] at this
     rw[Ep hlt] at h3
     cases h3
     exact absurd h4 (fr' k d2 h2 o2)
 · rw[Ql (Ne.symm hj)] at h1 h3
   by_cases hk:k=i
   · subst hk
     have hlt:k < σ.length:=by
       have:=(Qn.mp h4).1
       rwa[Ye] at this
     rw[Ep hlt] at h4
     cases h4
     exact absurd h3 (fr' j d1 h1 o1)
   · rw[Ql (Ne.symm hk)] at h2 h4
     exact g.apart j k b d1 d2 h1 h2 o1 o2 h3 h4
theorem Good.wr {K:jh}{G0 H0 G H:Hp}{σ:St}{ρ:List B}{a:Addr}{us:List V}{ds es:List D}{i:Nat}(g:Good K G0 H0 G H σ ρ)(hi:ρ[i]?=some (.ow ds))(hs:σ[i]?=some (some (.ref a)))(rs:Reps K G es us) :
   Good K G0 H0 G (upd H a (.lst us)) σ (ρ.set i (.ow es)):=by
 obtain⟨a',vs,h1,h2,h3,h4,_⟩:=g.addr hi
 rw[hs] at h1;cases h1
 have st:Step G0 H0 G (upd H a (.lst us)):=by
   refine⟨fun b o e=>?_,g.st.gg,fun b o e=>?_,g.st.new⟩
   · rw[zN (zC e h4)];exact g.st.hh b o e
   · rw[zN (zC e h3)];exact g.st.sub b o e
 have hl:σ.length=ρ.length:=Rw g.vals
 have hil:i < ρ.length:=(Qn.mp hi).1
 have key:∀(l:List (Option V)) (r:List B) (n:Nat),Paired (RB K H0 G H) l r->(∀j es,n+j≠i->r[j]?=some (.ow es)->l[j]?≠some (some (.ref a)))->(∀j,n+j=i->l[j]?=some (some (.ref a))) ->
     Paired (RB K H0 G (upd H a (.lst us))) l (if i < n then r else r.set (i - n) (.ow es)):=by
   intro l r n p
   induction p generalizing n with
   | nil=>intro _ _;split<;>exact .nil
   | @cons o b l' r' q t ih =>
     intro hne hat
     have tl:=ih (n+1) (fun j es z e=>by have:=hne (j+1) es jc (by simpa using e);simpa using this) (fun j z=>by have:=hat (j+1) jc;simpa using this)
     have keepq:(∀es,b = .ow es->o≠some (.ref a))->RB K H0 G (upd H a (.lst us)) o b:=fun hb=>by
       cases q with
       | no=>exact .no
       | fz r=>exact .fz r
       | @ow c vs ds' c1 c2 c3 c4 =>
         have:c≠a:=fun z=>hb _ rfl (by rw[z])
         exact .ow (by rw[zN this];exact c1) c2 c3 c4
       | @od c _ _ _ _ c1 c2 c3 c4 c5 c6 =>
         have:c≠a:=fun z=>by rw[z,h2] at c1;cases c1
         exact .od (by rw[zN this];exact c1) c2 c3 c4 c5 c6
       | @mu c _ _ c1 c2 c3 c4 =>
         have:c≠a:=fun z=>by rw[z,h2] at c1;cases c1;exact c4.nl
         exact .mu (by rw[zN this];exact c1) c2 c3 c4
     by_cases h1:i < n
     · rw[Qu h1]
       rw[Qu jc] at tl
       refine .cons (keepq fun es e z=>?_) tl
       exact hne 0 es jc (by simp[e]) (by simp[z])
     · rw[Qs h1]
       by_cases h2:i=n
       · subst h2
         rw[Qu jc] at tl
         have:=hat 0 jc
         simp at this
         subst this
         rw[Nat.sub_self]
         exact .cons (.ow zL h3 h4 rs) tl
       · rw[Qs jc] at tl
         have e:i - n=(i - (n+1))+1:=jc
         rw[e]
         refine .cons (keepq fun es e z=>?_) tl
         exact hne 0 es jc (by simp[e]) (by simp[z])
 have vals:=key σ ρ 0 g.vals (fun j es' z e w=>by
   have:=g.apart j i a _ _ e hi rfl rfl w hs
   lia) (fun j z=>by rw[show j=i by lia];exact hs)
 rw[Qs (Nat.not_lt_zero _),Nat.sub_zero] at vals
 refine⟨st,vals,fun j k b d1 d2 e1 e2 o1 o2 e3 e4=>?_⟩
 have un:∀(j:Nat) (d1:B),(ρ.set i (B.ow es))[j]?=some d1->pR d1=true->∃d,ρ[j]?=some d/\pR d=true:=fun j d1 e o=>by
   by_cases hj:j=i
   · subst hj;exact⟨.ow ds,hi,rfl⟩
   · rw[Ql (Ne.symm hj)] at e;exact⟨d1,e,o⟩
 obtain⟨c1,f1,p1⟩:=un j d1 e1 o1
 obtain⟨c2,f2,p2⟩:=un k d2 e2 o2
 exact g.apart j k b c1 c2 f1 f2 p1 p2 e3 e4
section
variable {X:Cx} {b c e tg:Expr} {es:List Expr} {fa:Ef} {ga:Lf} {ta:Tf} {pos:Pos} {st:Stmt} {rest:List Stmt} {f g:Sf}
def zG (f g:Sf):Sf:=fun ρ=>(f ρ).bind fun o=>match o with | .nx ρ'=>g ρ' | o=>some o
def wA:Sf:=fun ρ=>some (.nx ρ)
theorem yY:PFSs X [] wA:=by
 refine PSs.to cK ?_
 rintro D σ H ⟨G0,H0,G,ρ,o,j0,hf,k⟩
 cases hf
 exact k σ H G (Same.refl _) j0
theorem zO (h:PFS X st f):PFSs X [st] f:=cA h
theorem sV (h1:PFS X st f)(h2:PFSs X rest g):PFSs X (st::rest) (zG f g):=by
 refine PSs.to (qE h1 h2) ?_
 rintro D σ H ⟨G0,H0,G,ρ,o,j0,hf,k⟩
 unfold zG at hf
 obtain⟨o1,h1,hf⟩:=Qq.mp hf
 refine⟨G0,H0,G,ρ,o1,j0,h1,?_⟩
 cases o1 with
 | nx ρ'=>exact fun σ' H' G' s g'=>⟨G0,H0,G',ρ',o,g',hf,k.mono s⟩
 | rt d=>cases hf;exact k
 | rl d=>cases hf;exact k
 | bk d=>cases hf;exact k
 | ct d=>cases hf;exact k
def xM (f:Ef):Sf:=fun ρ=>(f ρ).map .rt
theorem zD (h:PF X e fa):PFS X (.Return (some e) pos) (xM fa):=by
 refine PS.to (zYn h) ?_
 rintro D σ H ⟨G0,H0,G,ρ,o,j0,hf,k⟩
 unfold xM at hf
 obtain⟨d,h1,rfl⟩:=Qr.mp hf
 exact⟨G0,H0,G,ρ,d,j0,h1,fun v H' G' s r=>k v H' G' (j0.st.trans s) r⟩
def dA (f:Lf):Sf:=fun ρ=>(f ρ).map .rl
theorem zUC (h:PFr X e ga):PFS X (.Return (some e) pos) (dA ga):=by
 refine PS.to (zYn h) ?_
 rintro D σ H ⟨G0,H0,G,ρ,o,j0,hf,k⟩
 unfold dA at hf
 obtain⟨d,h1,rfl⟩:=Qr.mp hf
 exact⟨G0,H0,G,ρ,d,j0,h1,fun p vs H' G' s hn hp gp rs=>k p vs H' G' (j0.st.trans s) (j0.st.hh.free hn) hp gp rs⟩
def zSO (i:Nat):Sf:=fun ρ=>match ρ[i]? with | some (.ow ds)=>some (.rl ds) | _=>none
theorem zQc (i:Nat){x:Str}{pos':Pos}(hN:X.N[i]?=some x:=by rfl)(hv:Vis X.env.scope x:=by first | exact Or.inl rfl | exact Or.inr (Or.inl rfl) | exact Or.inr (Or.inr rfl))(hd:(x==("__debug__":Str))=false:=by decide)(hcd:(x==("__classdict__":Str))=false:=by decide) :
   PFS X (.Return (some (.Name x pos')) pos) (zSO i):=by
 refine PS.to (zYn (sW hN hv hd hcd)) ?_
 rintro D σ H ⟨G0,H0,G,ρ,o,j0,hf,k⟩
 unfold zSO at hf
 split at hf
 · rename_i ds e
   cases hf
   obtain⟨p,vs,h1,h2,h3,h4,h5⟩:=j0.addr e
   exact⟨.ref p,h1,k p vs H G j0.st h4 h2 h3 h5⟩
 · cases hf
def sIf (t:Tf)(f g:Sf):Sf:=fun ρ=>(t ρ).bind fun c=>if c=true then f ρ else g ρ
theorem wW {sa sb:List Stmt}(ht:PFT X c ta)(ha:PFSs X sa f)(hb:PFSs X sb g):PFS X (.If c sa sb pos) (sIf ta f g):=by
 refine PS.to (zZ2 ht ha hb) ?_
 rintro D σ H ⟨G0,H0,G,ρ,o,j0,hf,k⟩
 unfold sIf at hf
 obtain⟨c',h1,hf⟩:=Qq.mp hf
 refine⟨G0,H0,G,ρ,_,j0,h1,fun H1 G1 s1=>?_⟩
 split at hf
 · rename_i h;rw[Qu h];exact⟨G0,H0,G1,ρ,o,j0.step s1,hf,k.mono s1.gg⟩
 · rename_i h;rw[Qs h];exact⟨G0,H0,G1,ρ,o,j0.step s1,hf,k.mono s1.gg⟩
abbrev Gf:=D->List B->Option (List B)
def tFG (K:jh)(g:Gf):TG:=fun v σ H Q=>∃G0 H0 G ρ d ρ',Good K G0 H0 G H σ ρ/\Rep K G d v/\g d ρ=some ρ'/\∀σ' H' G',Step G H G' H'->Good K G0 H0 G' H' σ' ρ'->Q σ' H'
def PFG (X:Cx)(tg:Expr)(g:Gf):Prop:=PG X tg (tFG X.K g)
abbrev Gfs:=List D->List B->Option (List B)
def zM2 (K:jh)(g:Gfs):TGs:=fun vs σ H Q=>∃G0 H0 G ρ ds ρ',Good K G0 H0 G H σ ρ/\Reps K G ds vs/\g ds ρ=some ρ'/\∀σ' H' G',Step G H G' H'->Good K G0 H0 G' H' σ' ρ'->Q σ' H'
def zQH (X:Cx)(tgs:List Expr)(g:Gfs):Prop:=PGs X tgs (zM2 X.K g)
def gN (i:Nat):Gf:=fun d ρ=>some (ρ.set i (.fz d))
theorem tD (i:Nat){x:Str}(hN:X.N.Nodup)(hi:X.N[i]?=some x:=by rfl)(hx:Loc X.env.scope x:=by first | exact .inl rfl | exact .inr rfl)(hf:X.fn x=true∨X.env.scope.names.lookup x=some .local:=by first | exact .inl rfl | exact .inr rfl):PFG X (.Name x pos) (gN i):=by
 have h:=nN (pos:=pos) hN hi hx hf
 intro Z s σ H v u Q I r q
 refine h Z s σ H v u Q I r ?_
 obtain⟨G0,H0,G,ρ,d,ρ',j0,rd,hf,k⟩:=q
 cases hf
 exact k _ H G (.refl j0.sub) (j0.setF i rd)
def vZ:Gfs:=fun ds ρ=>match ds with | []=>some ρ | _=>none
def zF (g:Gf)(r:Gfs):Gfs:=fun ds ρ=>match ds with | d::dr=>(g d ρ).bind fun ρ'=>r dr ρ' | _=>none
theorem lP:zQH X [] vZ:=by
 intro Z s σ H vs us Q I r q
 refine zX4 Z s σ H vs us Q I r ?_
 obtain⟨G0,H0,G,ρ,ds,ρ',j0,rd,hf,k⟩:=q
 unfold vZ at hf
 split at hf
 · cases hf
   rw[zM] at rd
   exact⟨rd,k _ H G (.refl j0.sub) j0⟩
 · cases hf
theorem xC {g:Gf}{r:Gfs}(h1:PFG X e g)(h2:zQH X es r)(hs:(assignEach (e::es) X.env).map (·.2)=assign e X.env::(assignEach es X.env).map (·.2):=by rfl):zQH X (e::es) (zF g r):=by
 intro Z s σ H vs us Q I rv q
 refine qQ h1 h2 hs Z s σ H vs us Q I rv ?_
 obtain⟨G0,H0,G,ρ,ds,ρ',j0,rd,hf,k⟩:=q
 unfold zF at hf
 split at hf
 · rename_i d dr
   obtain⟨ρ1,e1,e2⟩:=Qq.mp hf
   obtain⟨v,vr,rfl,r1,r2⟩:=zR.mp rd
   exact⟨v,vr,rfl,G0,H0,G,ρ,d,ρ1,j0,r1,e1,fun σ' H' G' s' g'=>⟨G0,H0,G',ρ1,dr,ρ',g',r2.mono s'.gg,e2,fun σ2 H2 G2 s2 g2=>k σ2 H2 G2 (s'.trans s2) g2⟩⟩
 · cases hf
def gT (r:Gfs):Gf:=fun d ρ=>match d with | .tup ds=>r ds ρ | _=>none
theorem zRi {r:Gfs}{k:Nat}(n:Nat)(hc:X.calm=true)(h:zQH X es r)(hr:∀ds ρ ρ',r ds ρ=some ρ'->ds.length=n)(hn:(assignEach es X.env).length=n:=by rfl)(hst:(assignEach es X.env).findIdx? (·.1)=none:=by rfl):PFG X (.Tuple es k pos) (gT r):=by
 have h:=zVK (pos:=pos) (k:=k) hc h hn hst
 intro Z s σ H v u Q I rv q
 refine h Z s σ H v u Q I rv ?_
 obtain⟨G0,H0,G,ρ,d,ρ',j0,rd,hf,k⟩:=q
 unfold gT at hf
 split at hf
 · obtain⟨p,vs,rfl,h1,h2⟩:=yR.mp rd
   exact⟨p,vs,rfl,j0.sub.tup h1,by rw[←h2.length];exact hr _ _ _ hf,G0,H0,G,ρ,_,ρ',j0,h2,hf,k⟩
 · cases hf
theorem uO {g:Gf}{r:Gfs}{n:Nat}(h:∀ds ρ ρ',r ds ρ=some ρ'->ds.length=n):∀ds ρ ρ',zF g r ds ρ=some ρ'->ds.length=n+1:=by
 intro ds ρ ρ' q
 unfold zF at q
 split at q
 · obtain⟨ρ1,e1,e2⟩:=Qq.mp q
   rw[Qo,h _ _ _ e2]
 · cases q
theorem gX:∀ds ρ ρ',vZ ds ρ=some ρ'->ds.length=0:=by
 intro ds ρ ρ' q
 unfold vZ at q
 split at q
 · rfl
 · cases q
def NoOw (ρ:List B):Prop:=(∀(j:Nat) (es:List D),ρ[j]?≠some (B.ow es))/\(∀(j:Nat) (ks:List (D×D)),ρ[j]?≠some (B.od ks))/\∀(j:Nat) (d:D),ρ[j]?≠some (B.mu d)
theorem NoOw.own {ρ:List B}(n:NoOw ρ){j:Nat}{b:B}(h:ρ[j]?=some b)(o:pR b=true):False:=by
 cases b with
 | ow es=>exact n.1 j es h
 | mu d=>exact n.2.2 j d h
 | _=>cases o
def zTI (g:Gf):Prop:=∀d ρ ρ',g d ρ=some ρ'->NoOw ρ->NoOw ρ'
def zUR (g:Gfs):Prop:=∀d ρ ρ',g d ρ=some ρ'->NoOw ρ->NoOw ρ'
theorem iS (i:Nat):zTI (gN i):=fun d ρ ρ' h n=>by
 cases h
 exact⟨fun j es e=>n.1 j es (cR e).2,fun j ks e=>n.2.1 j ks (eN e).2,fun j d' e=>n.2.2 j d' (eZ e).2⟩
theorem zYe:zUR vZ:=fun d ρ ρ' h n=>by
 unfold vZ at h
 split at h
 · cases h;exact n
 · cases h
theorem nW {g:Gf}{r:Gfs}(h1:zTI g)(h2:zUR r):zUR (zF g r):=fun d ρ ρ' h n=>by
 unfold zF at h
 split at h
 · obtain⟨ρ1,e1,e2⟩:=Qq.mp h
   exact h2 _ _ _ e2 (h1 _ _ _ e1 n)
 · cases h
theorem zOq {r:Gfs}(h:zUR r):zTI (gT r):=fun d ρ ρ' q n=>by
 unfold gT at q
 split at q
 · exact h _ _ _ q n
 · cases q
def gH (f:Ef)(g:Gf):Sf:=fun ρ=>(f ρ).bind fun d=>(g d ρ).map .nx
theorem zSn {K:jh}{t:TE}{f:Ef}{g:Gf}(imp:∀σ H Q,tF K f σ H Q->t σ H Q){D:Ends}{σ:St}{H:Hp}(h:tFS K (gH f g) D σ H):zTb t (tFG K g) D σ H:=by
 obtain⟨G0,H0,G,ρ,o,j0,hf,k⟩:=h
 unfold gH at hf
 obtain⟨d,h1,hf⟩:=Qq.mp hf
 obtain⟨ρ',h2,rfl⟩:=Qr.mp hf
 exact imp _ _ _ ⟨G0,H0,G,ρ,d,j0,h1,fun v H' G' s r=>⟨G0,H0,G',ρ,d,ρ',j0.step s,r,h2,fun σ2 H2 G2 s2 g2=>k σ2 H2 G2 (s.gg.trans s2.gg) g2⟩⟩
theorem zUv {g:Gf}(he:PF X e fa)(hg:PFG X tg g)(hs:swapsWithSole [tg] e pos.line X.env=pure false:=by rfl)(hw:swappedStores [tg] e X.env=pure none:=by rfl)(h1:(assignEach [tg] X.env).map (·.2)=[assign tg X.env]:=by rfl) :
   PFS X (.Assign [tg] e pos) (gH fa g):=PS.to (zYv he hg hs hw h1) fun D σ H h=>zSn (fun _ _ _ q=>q) h
def zA (i:Nat)(f:Ef):Sf:=fun ρ=>(f ρ).map fun d=>.nx (ρ.set i (.fz d))
theorem zRB {K:jh}{t:TE}{f:Ef}{i:Nat}(imp:∀σ H Q,tF K f σ H Q->t σ H Q){D:Ends}{σ:St}{H:Hp}(h:tFS K (zA i f) D σ H):zTb t (zWs i) D σ H:=by
 obtain⟨G0,H0,G,ρ,o,j0,hf,k⟩:=h
 unfold zA at hf
 obtain⟨d,h1,rfl⟩:=Qr.mp hf
 exact imp _ _ _ ⟨G0,H0,G,ρ,d,j0,h1,fun v H' G' s r=>k _ H' G' s.gg ((j0.step s).setF i r)⟩
theorem zH (i:Nat){x:Str}{pos':Pos}(hN:X.N.Nodup)(he:PF X e fa)(hi:X.N[i]?=some x:=by rfl)(hx:Loc X.env.scope x:=by first | exact .inl rfl | exact .inr rfl)(hs:swapsWith e (some (.Name x pos')) pos.line X.env=pure false:=by rfl)
   (hf:X.fn x=true∨X.env.scope.names.lookup x=some .local:=by first | exact .inl rfl | exact .inr rfl):PFS X (.Assign [.Name x pos'] e pos) (zA i fa) :=
 PS.to (eT hN hi hx he hs hf) fun D σ H h=>zRB (fun _ _ _ q=>q) h
def fT (i:Nat)(f:Lf):Sf:=fun ρ=>(f ρ).map fun ds=>.nx (ρ.set i (.ow ds))
theorem zW1 {K:jh}{t:TE}{f:Lf}{i:Nat}(imp:∀σ H Q,tFr K f σ H Q->t σ H Q){D:Ends}{σ:St}{H:Hp}(h:tFS K (fT i f) D σ H):zTb t (zWs i) D σ H:=by
 obtain⟨G0,H0,G,ρ,o,j0,hf,k⟩:=h
 unfold fT at hf
 obtain⟨ds,h1,rfl⟩:=Qr.mp hf
 refine imp _ _ _ ⟨G0,H0,G,ρ,ds,j0,h1,fun p vs H' G' s hn hp gp rs=>?_⟩
 refine k _ H' G' s.gg ((j0.step s).setO i hp gp (j0.st.hh.free hn) rs fun j es e z=>?_)
 obtain⟨q,us,e1,e2,_⟩:=j0.addr e
 rw[e1] at z;cases z
 rw[hn] at e2;cases e2
theorem zSk (i:Nat){x:Str}{pos':Pos}(hN:X.N.Nodup)(he:PFr X e ga)(hi:X.N[i]?=some x:=by rfl)(hx:Loc X.env.scope x:=by first | exact .inl rfl | exact .inr rfl)(hs:swapsWith e (some (.Name x pos')) pos.line X.env=pure false:=by rfl)
   (hf:X.fn x=true∨X.env.scope.names.lookup x=some .local:=by first | exact .inl rfl | exact .inr rfl):PFS X (.Assign [.Name x pos'] e pos) (fT i ga) :=
 PS.to (eT hN hi hx he hs hf) fun D σ H h=>zW1 (fun _ _ _ q=>q) h
def zTJ (i:Nat)(ρ:List B):List B:=match ρ[i]? with | some (.ow ds)=>ρ.set i (.fz (.lst ds)) | _=>ρ
def zX0 (i:Nat)(f:Sf):Sf:=fun ρ=>f (zTJ i ρ)
theorem Good.frz {K:jh}{G0 H0 G H:Hp}{σ:St}{ρ:List B}(g:Good K G0 H0 G H σ ρ)(i:Nat):∃G',Same G G'/\Good K G0 H0 G' H σ (zTJ i ρ):=by
 unfold zTJ
 split
 · rename_i ds e
   obtain⟨p,vs,h1,h2,h3,h4,h5⟩:=g.addr e
   have sG:Same G (upd G p (.lst vs)):=Same.new h3
   have st:Step G0 H0 (upd G p (.lst vs)) H:=by
     refine⟨g.st.hh,g.st.gg.trans sG,fun b o q=>?_,fun b o' hb hn=>?_⟩
     · by_cases z:b=p
       · subst z;rw[zL] at q;rw[h2];exact q
       · rw[zN z] at q;exact g.st.sub b o q
     · rw[zN (fun z:b=p=>by rw[z,h4] at hb;cases hb)];exact g.st.new b o' hb hn
   have vals:Paired (RB K H0 (upd G p (.lst vs)) H) σ (ρ.set i (.fz (.lst ds))):=by
     have key:∀(l:List (Option V)) (r:List B) (n:Nat),Paired (RB K H0 G H) l r->(∀j es,n+j≠i->r[j]?=some (.ow es)->l[j]?≠some (some (.ref p)))->(∀j,n+j=i->l[j]?=some (some (.ref p))) ->
         Paired (RB K H0 (upd G p (.lst vs)) H) l (if i < n then r else r.set (i - n) (.fz (.lst ds))):=by
       intro l r n q
       induction q generalizing n with
       | nil=>intro _ _;split<;>exact .nil
       | @cons o b l' r' q t ih =>
         intro hne hat
         have tl:=ih (n+1) (fun j es z e=>by have:=hne (j+1) es jc (by simpa using e);simpa using this) (fun j z=>by have:=hat (j+1) jc;simpa using this)
         have keepq:(∀es,b = .ow es->o≠some (.ref p))->RB K H0 (upd G p (.lst vs)) H o b:=fun hb=>by
           cases q with
           | no=>exact .no
           | fz r=>exact .fz (r.mono sG)
           | @ow c vs' ds' c1 c2 c3 c4 =>
             have:c≠p:=fun z=>hb _ rfl (by rw[z])
             exact .ow c1 (by rw[zN this];exact c2) c3 (c4.mono sG)
           | @od c _ _ _ _ c1 c2 c3 c4 c5 c6 =>
             have:c≠p:=fun z=>by rw[z,h2] at c1;cases c1
             exact .od c1 (by rw[zN this];exact c2) c3 (c4.mono sG) c5 c6
           | @mu c _ _ c1 c2 c3 c4 =>
             have:c≠p:=fun z=>by rw[z,h2] at c1;cases c1;exact c4.nl
             exact .mu c1 (by rw[zN this];exact c2) c3 (c4.mono sG)
         by_cases h1:i < n
         · rw[Qu h1]
           rw[Qu jc] at tl
           exact .cons (keepq fun es e z=>hne 0 es jc (by simp[e]) (by simp[z])) tl
         · rw[Qs h1]
           by_cases h2:i=n
           · subst h2
             rw[Qu jc] at tl
             have:=hat 0 jc
             simp at this
             subst this
             rw[Nat.sub_self]
             exact .cons (.fz (yA.mpr ⟨p,vs,rfl,.of zL,h5.mono sG⟩)) tl
           · rw[Qs jc] at tl
             have e:i - n=(i - (n+1))+1:=jc
             rw[e]
             exact .cons (keepq fun es e z=>hne 0 es jc (by simp[e]) (by simp[z])) tl
     have v:=key σ ρ 0 g.vals (fun j es' z e' w=>by have:=g.apart j i p _ _ e' e rfl rfl w h1;lia) (fun j z=>by rw[show j=i by lia];exact h1)
     rw[Qs (Nat.not_lt_zero _),Nat.sub_zero] at v
     exact v
   refine⟨_,sG,st,vals,fun j k b d1 d2 e1 e2 o1 o2 e3 e4=>?_⟩
   obtain⟨_,f1⟩:=pK rfl e1 o1
   obtain⟨_,f2⟩:=pK rfl e2 o2
   exact g.apart j k b d1 d2 f1 f2 o1 o2 e3 e4
 · exact⟨G,Same.refl _,g⟩
theorem zYm (i:Nat)(h:PFS X st f):PFS X st (zX0 i f):=by
 refine PS.to h ?_
 rintro D σ H ⟨G0,H0,G,ρ,o,j0,hf,k⟩
 obtain⟨G',s,g'⟩:=j0.frz i
 exact⟨G0,H0,G',_,o,g',hf,k.mono s⟩
end
def aJ (K:jh)(J:It)(G:Hp)(ds:List D):Prop:=∀(i:Nat) (G2 H2:Hp),Same G G2->Same G2 H2 ->
 (∀d,ds[i]?=some d->J.go i H2/\∀x H3,J.yld i H2 x H3->∃G3,Step G2 H2 G3 H3/\Rep K G3 d x)/\(ds.length<=i->J.stop i H2)
def tFI (K:jh)(f:Lf):TI:=fun σ H R=>∃G0 H0 G ρ ds,Good K G0 H0 G H σ ρ/\f ρ=some ds/\∀J H' G',Step G H G' H'->aJ K J G' ds->R J H'
def PFI (X:Cx)(tg iter:Expr)(f:Lf):Prop:=PI X tg iter (tFI X.K f)
theorem PI.to {X:Cx}{tg e:Expr}{t:TI}{f:Lf}(h:PI X tg e t)(imp:∀σ H R,tFI X.K f σ H R->t σ H R):PFI X tg e f:=fun Z s σ H R I q=>h Z s σ H R I (imp σ H R q)
theorem fX {K:jh}{G:Hp}{a:Addr}{vs:List V}{ds:List D}(h:SqL K G a vs)(r:Reps K G ds vs):aJ K (Itl K a) G ds:=by
 intro i G2 H2 s1 s2
 have q:SqL K H2 a vs:=(s1.trans s2).seq h
 refine⟨fun d hd=>?_,fun hi=>⟨vs,q,by rw[←r.length];exact hi⟩⟩
 obtain⟨v,e,rv⟩:=r.get hd
 refine⟨⟨vs,v,q,e⟩,fun x H3 y=>?_⟩
 obtain⟨rfl,y⟩:=y
 have:=y vs q
 rw[e] at this;cases this
 exact⟨G2,.refl s2,rv.mono s1⟩
def rQ (lo:Int)(n:Nat):List D:=(List.range n).map fun i=>D.int (lo+(i:Nat))
theorem zY7 {K:jh}{G:Hp}{lo:Int}{n:Nat}:aJ K (Itr lo n) G (rQ lo n):=by
 intro i G2 H2 s1 s2
 have hl:(rQ lo n).length=n:=by simp[rQ]
 refine⟨fun d hd=>?_,fun hi=>by rw[hl] at hi;exact hi⟩
 have hi:i < n:=by rw[←hl];exact(Qn.mp hd).1
 refine⟨hi,fun x H3 y=>?_⟩
 obtain⟨rfl,rfl⟩:=y
 have e:d = .int (lo+i):=by
   unfold rQ at hd
   rw[Wd,Ia hi] at hd
   exact(Wh hd).symm
 subst e
 exact⟨G2,.refl s2,zK.mpr rfl⟩
section
variable {X:Cx} {a b c e tg elt iter:Expr} {es ifs:List Expr} {fa fb:Ef} {ga gi:Lf} {tc:Tf} {pos:Pos} {st:Stmt} {f g:Sf}
def iL (f:Ef):Lf:=fun ρ=>(f ρ).bind fun d=>match d with | .lst ds=>some ds | _=>none
theorem zWn (h:PF X e fa):PFI X tg e (iL fa):=by
 refine PI.to (zTT h) ?_
 rintro σ H R ⟨G0,H0,G,ρ,ds,j0,hf,k⟩
 unfold iL at hf
 obtain⟨d,h1,hf⟩:=Qq.mp hf
 cases d with
 | lst es =>
   cases hf
   refine⟨G0,H0,G,ρ,_,j0,h1,fun x H1 G1 s1 r1=>?_⟩
   obtain⟨p,vs,rfl,q,rs⟩:=yA.mp r1
   exact⟨p,rfl,⟨vs,s1.sub.seq q⟩,k _ H1 G1 s1 (fX q rs)⟩
 | _=>cases hf
theorem zSs (h:PFr X e ga):PFI X tg e ga:=by
 refine PI.to (zTT h) ?_
 rintro σ H R ⟨G0,H0,G,ρ,ds,j0,hf,k⟩
 refine⟨G0,H0,G,ρ,_,j0,hf,fun p vs H1 G1 s1 hn hp gp rs=>?_⟩
 exact⟨p,rfl,⟨vs,.of hp⟩,k _ H1 (upd G1 p (.lst vs)) (s1.frz hn hp gp) (fX (.of zL) (rs.mono (Same.new gp)))⟩
def iR (f:Ef):Lf:=fun ρ=>(f ρ).bind fun d=>match d with | .int n=>if decide (-1000000<=n)&&decide (n<=1000000) then some (rQ 0 n.toNat) else none | _=>none
theorem zRn {p:Pos}(hg:Gl X "range")(hm:X.mg "range"=none)(h:PF X a fa)(hs:starEach [a] X.env=[(false,eval a X.env)]:=by rfl):PFI X tg (.Call (.Name "range" p) [a] [] pos) (iR fa):=by
 refine PI.to (zT7 hg hm (yZ h wH (by rw[hs];rfl)) hs) ?_
 rintro σ H R ⟨G0,H0,G,ρ,ds,j0,hf,k⟩
 unfold iR at hf
 obtain⟨d,h1,hf⟩:=Qq.mp hf
 cases d with
 | int n =>
   dsimp only at hf
   split at hf
   · rename_i hc
     cases hf
     simp only[Wg,Ed] at hc
     refine⟨G0,H0,G,ρ,_,j0,h1,fun x H1 G1 s1 r1=>⟨n,by rw[zK.mp r1],jc,jc,k _ H1 G1 s1 zY7⟩⟩
   · cases hf
 | _=>cases hf
def lL (g:Gf)(body:Sf):List D->Sf
 | [],ρ=>some (.nx ρ)
 | d::r,ρ=>(g d ρ).bind fun ρ1=>(body ρ1).bind fun o=>match o with
   | .nx ρ2=>lL g body r ρ2
   | .ct ρ2=>lL g body r ρ2
   | .bk ρ2=>some (.nx ρ2)
   | o=>some o
def jQ (src:Lf)(g:Gf)(body:Sf):Sf:=fun ρ=>(src ρ).bind fun ds=>lL g body ds ρ
theorem jY {gt:Gf}{body:List Stmt}{fb:Sf}(hp:PassesOwn (model X.prog X.w) X.A X.env X.xe)(hc:X.calm=true)(hi:PFI X tg iter gi)(hg:PFG X tg gt)(hb:PFSs X body fb)(hs:∀x,foldedSetIterable iter X.env x=pure x:=by intro _;rfl) :
   PFS X (.For tg iter body [] pos) (jQ gi gt fb):=by
 refine PS.to (zOf hp hc hi hg hb hs) ?_
 rintro D σ H ⟨G0,H0,G,ρ,o,j0,hf,k⟩
 unfold jQ at hf
 obtain⟨ds,h1,hf⟩:=Qq.mp hf
 refine⟨G0,H0,G,ρ,ds,j0,h1,fun J H1 G1 s1 y=>?_⟩
 refine⟨fun i m σ H=>m=ds.length - i/\i<=ds.length/\∃G2 ρ2,Same G1 G2/\Good X.K G0 H0 G2 H σ ρ2/\lL gt fb (ds.drop i) ρ2=some o,⟨ds.length,je,Ei _,G1,ρ,Same.refl _,j0.step s1,by simpa using hf⟩,?_⟩
 rintro i m σ2 H2 ⟨rfl,hi',G2,ρ2,sg,good2,hf2⟩
 obtain⟨y1,y2⟩:=y i G2 H2 sg good2.sub
 by_cases hlt:i < ds.length
 · obtain⟨go,yl⟩:=y1 ds[i] (Wo hlt)
   rw[Ez hlt] at hf2
   unfold lL at hf2
   obtain⟨ρ3,e1,hf2⟩:=Qq.mp hf2
   obtain⟨o1,e2,hf2⟩:=Qq.mp hf2
   refine .inr ⟨go,fun σ' H'=>∃G' ρ',Same G1 G'/\Good X.K G0 H0 G' H' σ' ρ'/\lL gt fb (ds.drop (i+1)) ρ'=some o,fun σ' H' ⟨G',ρ',a1,a2,a3⟩=>⟨ds.length - (i+1),jc,rfl,hlt,G',ρ',a1,a2,a3⟩,fun x H3 yx=>?_⟩
   obtain⟨G3,s3,r3⟩:=yl x H3 yx
   refine⟨G0,H0,G3,ρ2,_,ρ3,good2.step s3,r3,e1,fun σ4 H4 G4 s4 good4=>?_⟩
   have sg4:Same G1 G4:=(sg.trans s3.gg).trans s4.gg
   refine⟨G0,H0,G4,ρ3,o1,good4,e2,?_⟩
   cases o1 with
   | nx ρ5=>exact fun σ5 H5 G5 s5 good5=>⟨G5,ρ5,sg4.trans s5,good5,hf2⟩
   | ct ρ5=>exact fun σ5 H5 G5 s5 good5=>⟨G5,ρ5,sg4.trans s5,good5,hf2⟩
   | bk ρ5=>cases hf2;exact fun σ5 H5 G5 s5 good5=>k σ5 H5 G5 ((s1.gg.trans sg4).trans s5) good5
   | rt d=>cases hf2;exact k
   | rl d=>cases hf2;exact k
 · have e:i=ds.length:=by lia
   subst e
   rw[List.drop_length] at hf2
   cases hf2
   exact .inl ⟨y2 (Qf _),k σ2 H2 G2 (s1.gg.trans sg) good2⟩
def rU (g:Gf)(t:Tf)(elt:Ef):List D->List B->List D->Option (List D)
 | [],_,j7=>some j7
 | d::r,ρ,j7=>(g d ρ).bind fun ρ1=>(t ρ1).bind fun c=>if c=true then(elt ρ1).bind fun y=>rU g t elt r ρ1 (j7++[y]) else rU g t elt r ρ1 j7
def upB (m:Nat)(js:List Nat)(ρ:List B):List B:=List.replicate m .no++js.map fun j=>match ρ[j]? with | some (.fz d)=>.fz d | _=>.no
def xL (src:Lf)(m:Nat)(js:List Nat)(g:Gf)(t:Tf)(elt:Ef):Lf:=fun ρ=>((src ρ).bind okL).bind fun ds=>rU g t elt ds (upB m js ρ) []
theorem Good.up {K:jh}{G0 H0 G H:Hp}{σ:St}{ρ:List B}(g:Good K G0 H0 G H σ ρ)(m:Nat)(js:List Nat):Good K G H G H (upC m js σ) (upB m js ρ):=by
 refine⟨.refl g.sub,?_,fun i j a b c h1 _ o1 _=>?_⟩
 · unfold upC upB
   have rep:∀m:Nat,Paired (RB K H G H) (List.replicate m (none:Option V)) (List.replicate m B.no):=fun m=>by
     induction m with
     | zero=>exact .nil
     | succ n ih=>rw[Rb,Rb];exact .cons .no ih
   have app:∀ {l1 l2:List (Option V)} {r1 r2:List B},Paired (RB K H G H) l1 r1->Paired (RB K H G H) l2 r2->Paired (RB K H G H) (l1++l2) (r1++r2):=fun h1 h2=>by
     induction h1 with
     | nil=>exact h2
     | cons q t ih=>exact .cons q ih
   refine app (rep m) ?_
   induction js with
   | nil=>exact .nil
   | cons j r ih =>
     rw[Qz,Qz]
     refine .cons ?_ ih
     cases e:ρ[j]? with
     | none=>exact .no
     | some b =>
       obtain⟨o,e1,r1⟩:=Paired.get g.vals e
       cases r1 with
       | no=>exact .no
       | fz q=>rw[e1];exact .fz q
       | ow q1 q2 q3 q4=>exact .no
       | od q1 q2 q3 q4 q5 q6=>exact .no
       | mu q1 q2 q3 q4=>exact .no
 · unfold upB at h1
   exfalso
   by_cases hi:i < m
   · rw[Wj (by simpa using hi),Eu] at h1
     split at h1<;>cases h1<;>cases o1
   · rw[Wt (by simpa using hi),Wd] at h1
     obtain⟨k,_,h1⟩:=Qr.mp h1
     split at h1<;>cases h1<;>cases o1
theorem zSG (m:Nat)(js:List Nat)(ρ:List B):NoOw (upB m js ρ):=by
 refine⟨?_,?_,?_⟩
 all_goals
   intro i es h1
   unfold upB at h1
   by_cases hi:i < m
   · rw[Wj (by simpa using hi),Eu] at h1
     split at h1<;>cases h1
   · rw[Wt (by simpa using hi),Wd] at h1
     obtain⟨k,_,h1⟩:=Qr.mp h1
     split at h1<;>cases h1
theorem Good.wrX {K:jh}{G0 H0 G H:Hp}{σ:St}{ρ:List B}{p:Addr}{o:HO}(g:Good K G0 H0 G H σ ρ)(n:NoOw ρ)(gp:G p=none)(h0:H0 p=none):Good K G0 H0 G (upd H p o) σ ρ:=by
 refine⟨⟨fun b u e=>?_,g.st.gg,fun b u e=>?_,g.st.new⟩,?_,g.apart⟩
 · rw[zN (zC e h0)];exact g.st.hh b u e
 · rw[zN (zC e gp)];exact g.st.sub b u e
 · have key:∀(l:List (Option V)) (r:List B),Paired (RB K H0 G H) l r->NoOw r->Paired (RB K H0 G (upd H p o)) l r:=by
     intro l r q
     induction q with
     | nil=>intro _;exact .nil
     | @cons x b l' r' q t ih =>
       intro n
       refine .cons ?_ (ih ⟨fun j es e=>n.1 (j+1) es (by simpa using e),fun j es e=>n.2.1 (j+1) es (by simpa using e),fun j es e=>n.2.2 (j+1) es (by simpa using e)⟩)
       cases q with
       | no=>exact .no
       | fz r=>exact .fz r
       | ow _ _ _ _=>exact absurd rfl (n.1 0 _)
       | od _ _ _ _ _ _=>exact absurd rfl (n.2.1 0 _)
       | mu _ _ _ _=>exact absurd rfl (n.2.2 0 _)
   exact key σ ρ g.vals n
theorem zXw {K:jh}{m:Nat}{js:List Nat}{gt:Gf}{t:Tf}{el:Ef}(hgo:zTI gt){σ:St}{H:Hp}{Q:VK}(h:tFr K (xL gi m js gt t el) σ H Q):zRI (tFI K gi) m js (tFG K gt) (tFT K t) (tF K el) σ H Q:=by
 obtain⟨G0,H0,G,ρ,out,j0,hf,k⟩:=h
 unfold xL at hf
 obtain⟨ds,h1,hf⟩:=Qq.mp hf
 obtain⟨ds',h1,h1'⟩:=Qq.mp h1
 obtain⟨rfl,j5⟩:=kD h1'
 refine⟨G0,H0,G,ρ,_,j0,h1,fun J H1 G1 s1 y D hD=>?_⟩
 have good1:=(j0.step s1).up m js
 have hGD:G1 D=none:=s1.sub.free hD
 refine⟨fun i n σ2 H2=>n=ds.length - i/\i<=ds.length/\∃G2 ρ2 j7 us,Same G1 G2/\G2 D=none/\H2 D=some (.lst us)/\Reps K G2 j7 us/\j7.length<=i/\NoOw ρ2/\Good K G1 H1 G2 H2 σ2 ρ2/\rU gt t el (ds.drop i) ρ2 j7=some out,
   ⟨ds.length,je,Ei _,G1,upB m js ρ,[],[],Same.refl _,hGD,zL,zM.mpr rfl,Qf _,zSG _ _ _,good1.step (Step.own s1.sub hD),by simpa using hf⟩,?_⟩
 rintro i n σ2 H2 ⟨rfl,hi,G2,ρ2,j7,us,sg,gD,hD2,rs,hal,now,good2,hf2⟩
 obtain⟨y1,y2⟩:=y i G2 H2 sg good2.sub
 by_cases hlt:i < ds.length
 · obtain⟨go,yl⟩:=y1 ds[i] (Wo hlt)
   rw[Ez hlt] at hf2
   unfold rU at hf2
   obtain⟨ρ3,e1,hf2⟩:=Qq.mp hf2
   obtain⟨c,e2,hf2⟩:=Qq.mp hf2
   have now3:=hgo _ _ _ e1 now
   refine .inr ⟨go,fun x H3 yx=>?_⟩
   obtain⟨G3,s3,r3⟩:=yl x H3 yx
   refine⟨G1,H1,G3,ρ2,_,ρ3,good2.step s3,r3,e1,fun σ4 H4 G4 s4 good4=>?_⟩
   refine⟨G1,H1,G4,ρ3,c,good4,e2,fun H5 G5 s5=>?_⟩
   have s35:=(s3.trans s4).trans s5
   have hne:H2 D≠none:=by rw[hD2];exact fun z=>nomatch z
   split at hf2
   · rename_i hc
     show if c=true then _ else _
     rw[Qu hc]
     obtain⟨yd,e3,hf2⟩:=Qq.mp hf2
     refine⟨G1,H1,G5,ρ3,yd,good4.step s5,e3,fun v H6 G6 s6 r6=>?_⟩
     have s36:=s35.trans s6
     have hD6:H6 D=some (.lst us):=s36.hh _ _ hD2
     have gD6:G6 D=none:=(s36.new D _ hD2 rfl).trans gD
     refine⟨us,ds.length - (i+1),hD6,?_,jc,rfl,hlt,G6,ρ3,j7++[yd],us++[v],sg.trans s36.gg,gD6,zL,(rs.mono s36.gg).snoc r6,by rw[Qt,List.length_singleton];lia,now3,((good4.step s5).step s6).wrX now3 gD6 hD,hf2⟩
     rw[←rs.length]
     exact wE (Wp hal (Wp hi j5))
   · rename_i hc
     show if c=true then _ else _
     rw[Qs hc]
     exact⟨ds.length - (i+1),jc,rfl,hlt,G5,ρ3,j7,us,sg.trans s35.gg,(s35.new D _ hD2 rfl).trans gD,s35.hh _ _ hD2,rs.mono s35.gg,jc,now3,good4.step s5,hf2⟩
 · have e:i=ds.length:=by lia
   subst e
   rw[List.drop_length] at hf2
   cases hf2
   exact .inl ⟨y2 (Qf _),k D us H2 G2 (s1.trans good2.st) (s1.hh.free hD) hD2 gD rs⟩
def tOK:Tf:=fun _=>some true
def zU7 (X:Cx)(ifs:List Expr)(t:Tf):Prop:=zVw X ifs (tFT X.K t)
theorem uJ {X:Cx}:zU7 X [] tOK:=fun Z s σ H Q I h=>zR5 Z s σ H Q I (by
 obtain⟨G0,H0,G,ρ,b,j0,hf,k⟩:=h
 cases hf
 exact k H G (.refl j0.sub))
theorem jU {X:Cx}{c:Expr}{t:Tf}(h:PFT X c t):zU7 X [c] t:=zRT h
theorem pF (sc:Scope)(N tgs j4:List Str)(js:List Nat){scope:Scope}{gt:Gf}{t:Tf}{el:Ef}(hgo:zTI gt)(hp:PFI X tg iter gi)(hc:X.calm=true)(hsc:X.env.scope=sc)(hNN:X.N=N)(hok:nP sc scope N tgs j4 js=true)
   (hg:∀C s₀ H₀ fp,PFG (w8 X (tgs++j4) scope C s₀ H₀ fp) tg gt) (hi:∀C s₀ H₀ fp,zU7 (w8 X (tgs++j4) scope C s₀ H₀ fp) ifs t) (he:∀C s₀ H₀ fp,PF (w8 X (tgs++j4) scope C s₀ H₀ fp) elt el)
   (hs:∀x,foldedSetIterable iter X.env x=pure x:=by intro _;rfl) :
   PFr X (.ListComp elt [⟨tg,iter,ifs,0⟩] scope pos) (xL gi tgs.length js gt t el) :=
 PE.toR (zPK (g:=tFG X.K gt) (tc:=tFT X.K t) (te:=tF X.K el) sc tgs j4 js hp hc hsc (by rw[hNN];exact hok) hg hi he hs) fun σ H Q h=>zXw hgo h
theorem mL (sc:Scope)(N tgs j4:List Str)(js:List Nat){scope:Scope}{gt:Gf}{t:Tf}{el:Ef}(hgo:zTI gt)(i:Nat){x:Str}{pos' spos:Pos}(hN:X.N.Nodup)(hx:X.N[i]?=some x)(hl:X.env.scope.names.lookup x=some .local)(hp:PFI X tg iter gi)(hc:X.calm=true)(hsc:X.env.scope=sc)(hNN:X.N=N)(hok:nP sc scope N tgs j4 js=true)
   (hg:∀C s₀ H₀ fp,PFG (w8 X (tgs++j4) scope C s₀ H₀ fp) tg gt) (hi:∀C s₀ H₀ fp,zU7 (w8 X (tgs++j4) scope C s₀ H₀ fp) ifs t) (he:∀C s₀ H₀ fp,PF (w8 X (tgs++j4) scope C s₀ H₀ fp) elt el)
   (hsw:swapsWith (.ListComp elt [⟨tg,iter,ifs,0⟩] scope pos) (some (.Name x pos')) spos.line X.env=pure true:=by with_unfolding_all rfl) (hs:∀x,foldedSetIterable iter X.env x=pure x:=by intro _;rfl) :
   PFS X (.Assign [.Name x pos'] (.ListComp elt [⟨tg,iter,ifs,0⟩] scope pos) spos) (fT i (xL gi tgs.length js gt t el)) :=
 PS.to (zV2 (g:=tFG X.K gt) (tc:=tFT X.K t) (te:=tF X.K el) sc tgs j4 js hN hx hl hp hc hsc (by rw[hNN];exact hok) hg hi he hsw hs) fun D σ H h=>zW1 (fun _ _ _ q=>zXw hgo q) h
end
section
variable {X:Cx} {a:Expr} {fa:Ef} {pos:Pos} {f:Sf}
def zMY:D->Option D
 | .tup ds=>some (.int ds.length)
 | .lst ds=>some (.int ds.length)
 | .str z=>if z.length<=lim then some (.int z.length) else none
 | _=>none
def wJ (f:Ef):Ef:=fun ρ=>(f ρ).bind zMY
theorem tX {p:Pos}(hg:Gl X "len")(hm:X.mg "len"=none)(h:PF X a fa)(hs:starEach [a] X.env=[(false,eval a X.env)]:=by rfl):PF X (.Call (.Name "len" p) [a] [] pos) (wJ fa):=by
 refine PE.to (tJ (fO.or zYy) hg hm Pd (yZ h wH (by rw[hs];rfl)) jb jb (by rw[hs];rfl) jg) ?_
 rintro σ H Q ⟨G0,H0,G,ρ,d,j0,hf,k⟩
 unfold wJ at hf
 obtain⟨x,h1,hf⟩:=Qq.mp hf
 refine⟨G0,H0,G,ρ,_,j0,h1,fun v H1 G1 s1 r1=>?_⟩
 unfold zMY at hf
 split at hf
 · cases hf
   obtain⟨p,vs,rfl,q,rs⟩:=yR.mp r1
   exact .inl ⟨p,vs,rfl,.inr (s1.sub.tup q),k _ _ G1 s1 (zK.mpr (by rw[rs.length]))⟩
 · cases hf
   obtain⟨p,vs,rfl,q,rs⟩:=yA.mp r1
   exact .inl ⟨p,vs,rfl,.inl (s1.sub.seq q),k _ _ G1 s1 (zK.mpr (by rw[rs.length]))⟩
 · split at hf
   · rename_i hz
     cases hf
     exact .inr ⟨_,by rw[yI.mp r1],Wb (wE hz),k _ _ G1 s1 (zK.mpr rfl)⟩
   · cases hf
 · cases hf
def zS9 (i:Nat):Ef:=fun ρ=>match ρ[i]? with | some (.ow ds)=>some (.int ds.length) | _=>none
theorem zQj (i:Nat){x:Str}{p p1:Pos}(hg:Gl X "len")(hm:X.mg "len"=none)(hN:X.N[i]?=some x:=by rfl)(hv:Vis X.env.scope x:=by first | exact Or.inl rfl | exact Or.inr (Or.inl rfl) | exact Or.inr (Or.inr rfl))(hd:(x==("__debug__":Str))=false:=by decide)(hcd:(x==("__classdict__":Str))=false:=by decide):PF X (.Call (.Name "len" p) [.Name x p1] [] pos) (zS9 i):=by
 refine PE.to (tJ fO hg hm Pd (yZ (sW hN hv hd hcd) wH)) ?_
 rintro σ H Q ⟨G0,H0,G,ρ,d,j0,hf,k⟩
 unfold zS9 at hf
 split at hf
 · rename_i ds hi
   cases hf
   obtain⟨q,vs,e1,e2,e3,e4,e5⟩:=j0.addr hi
   exact⟨.ref q,e1,q,vs,rfl,.inl (.of e2),k _ _ G (.refl j0.sub) (zK.mpr (by rw[e5.length]))⟩
 · cases hf
def zSi:D->Option (List D) | .lst ds=>some ds | .tup ds=>some ds | _=>none
def jX (f:Ef):Lf:=fun ρ=>(f ρ).bind zSi
theorem zYY {p:Pos}(hg:Gl X "list")(hm:X.mg "list"=none)(h:PF X a fa)(hs:starEach [a] X.env=[(false,eval a X.env)]:=by rfl):PFr X (.Call (.Name "list" p) [a] [] pos) (jX fa):=by
 refine PE.toR (zTx zYi hg hm jg (yZ h wH (by rw[hs];rfl)) jb jb (by rw[hs];rfl) jg) ?_
 rintro σ H Q ⟨G0,H0,G,ρ,d,j0,hf,k⟩
 unfold jX at hf
 obtain⟨x,h1,hf⟩:=Qq.mp hf
 refine⟨G0,H0,G,ρ,_,j0,h1,fun v H1 G1 s1 r1=>?_⟩
 unfold zSi at hf
 split at hf
 · cases hf
   obtain⟨p,vs,rfl,q,rs⟩:=yA.mp r1
   exact⟨p,vs,rfl,.inl (s1.sub.seq q),fun l hl=>k l vs _ G1 (s1.trans (Step.own s1.sub hl)) (s1.hh.free hl) zL (s1.sub.free hl) rs⟩
 · cases hf
   obtain⟨p,vs,rfl,q,rs⟩:=yR.mp r1
   exact⟨p,vs,rfl,.inr (s1.sub.tup q),fun l hl=>k l vs _ G1 (s1.trans (Step.own s1.sub hl)) (s1.hh.free hl) zL (s1.sub.free hl) rs⟩
 · cases hf
end
def spF (K:jh)(n:Nat)(f:jy):Sp:=fun vs H Q _=>∃G ds d,Same G H/\Reps K G ds vs/\ds.length=n/\f ds=some d/\∀v H' G',Step G H G' H'->Rep K G' d v->Q v H'
def spL (K:jh)(n:Nat)(f:List D->Option (List D)):Sp:=fun vs H Q _=>∃G ds es,Same G H/\Reps K G ds vs/\ds.length=n/\f ds=some es/\∀a us H' G',Step G H G' H'->H a=none->H' a=some (.lst us)->G' a=none->Reps K G' es us->Q (.ref a) H'
def hU (N:Nat)(ds:List D):List B:=ds.map .fz++List.replicate (N - ds.length) .no
def vW:Out->Option D
 | .nx _=>some .non
 | .rt d=>some d
 | .rl ds=>some (.lst ds)
 | _=>none
def zWi:Out->Option (List D)
 | .rl ds=>some ds
 | _=>none
def fnF (N:Nat)(body:Sf)(ds:List D):Option D:=(body (hU N ds)).bind vW
def fnL (N:Nat)(body:Sf)(ds:List D):Option (List D):=(body (hU N ds)).bind zWi
theorem mN {K:jh}{G H:Hp}{N:List Str}{ds:List D}{vs:List V}(s:Same G H)(r:Reps K G ds vs):Good K G H G H (xE N vs) (hU N.length ds):=by
 refine⟨.refl s,?_,fun i j a b c h1 _ o1 _=>?_⟩
 · unfold xE hU
   rw[r.length]
   have rep:∀m:Nat,Paired (RB K H G H) (List.replicate m (none:Option V)) (List.replicate m B.no):=fun m=>by
     induction m with
     | zero=>exact .nil
     | succ n ih=>rw[Rb,Rb];exact .cons .no ih
   have key:∀(ds:List D) (vs:List V) (l:List (Option V)) (q:List B),Reps K G ds vs->Paired (RB K H G H) l q->Paired (RB K H G H) (vs.map some++l) (ds.map .fz++q):=by
     intro ds
     induction ds with
     | nil=>intro vs l q h p;rw[zM] at h;subst h;exact p
     | cons d r ih =>
       intro vs l q h p
       obtain⟨v,vr,rfl,h1,h2⟩:=zR.mp h
       exact .cons (.fz h1) (ih vr l q h2 p)
   exact key ds vs _ _ r (rep _)
 · unfold hU at h1
   exfalso
   by_cases hi:i < ds.length
   · rw[Wj (by simpa using hi),Wd] at h1
     obtain⟨k,_,h1⟩:=Qr.mp h1
     cases h1;cases o1
   · rw[Wt (by simpa using hi),Eu] at h1
     split at h1<;>cases h1<;>cases o1
section
variable {P:Program} {w:World} {K:jh} {mg:Str->Option Value} {base:Heap} {x qual:Str} {st:Stmt} {f:Addr} {fd:FuncData} {N ps:List Str} {k:Nat}
theorem vN {body:Sf}(F:Fun K x qual st f fd)(S:FnScope N ps (zW st))
   (hb:∀(j9:Value) (A:Around) (outer:List Env) (s:Shared) (H:Hp) (E:XK),Room k (A.deeper (envOfC qual (zW st) s.heap.objs.size f j9))->PFSs (rL CX0 P w K mg base N qual (zW st) f j9 A outer s H E).nox (yQ st) body) :
   FnOk P w K mg base CX0 (k+1) f fd ps (spF K ps.length (fnF N.length body)):=by
 refine F.ok S (fun vs H Q E h=>?_) (fun j9 A outer s H vs Q E hr h=>⟨_,hb j9 A outer s H E hr,?_⟩)
 · obtain⟨G,ds,d,sub,rs,hl,_⟩:=h
   rw[←rs.length];exact hl
 · obtain⟨G,ds,d,sub,rs,hl,hf,k⟩:=h
   unfold fnF at hf
   obtain⟨o,h1,h2⟩:=Qq.mp hf
   refine⟨G,H,G,_,o,mN sub rs,h1,?_⟩
   cases o with
   | nx ρ=>cases h2;exact fun σ' H' G' s' g'=>k .non H' G' g'.st (w4.mpr rfl)
   | rt e=>cases h2;exact fun v H' G' s' r=>k v H' G' s' r
   | rl es=>cases h2;exact fun p us H' G' s' hn hp gp r=>k _ H' (upd G' p (.lst us)) (s'.frz hn hp gp) (yA.mpr ⟨p,us,rfl,.of zL,r.mono (Same.new gp)⟩)
   | bk ρ=>cases h2
   | ct ρ=>cases h2
theorem zSL {body:Sf}(F:Fun K x qual st f fd)(S:FnScope N ps (zW st))
   (hb:∀(j9:Value) (A:Around) (outer:List Env) (s:Shared) (H:Hp) (E:XK),Room k (A.deeper (envOfC qual (zW st) s.heap.objs.size f j9))->PFSs (rL CX0 P w K mg base N qual (zW st) f j9 A outer s H E).nox (yQ st) body) :
   FnOk P w K mg base CX0 (k+1) f fd ps (spL K ps.length (fnL N.length body)):=by
 refine F.ok S (fun vs H Q E h=>?_) (fun j9 A outer s H vs Q E hr h=>⟨_,hb j9 A outer s H E hr,?_⟩)
 · obtain⟨G,ds,d,sub,rs,hl,_⟩:=h
   rw[←rs.length];exact hl
 · obtain⟨G,ds,d,sub,rs,hl,hf,k⟩:=h
   unfold fnL at hf
   obtain⟨o,h1,h2⟩:=Qq.mp hf
   refine⟨G,H,G,_,o,mN sub rs,h1,?_⟩
   cases o with
   | rl es=>cases h2;exact fun p us H' G' s' hn hp gp r=>k p us H' G' s' hn hp gp r
   | _=>cases h2
theorem zZZ {CX:CXT}{n:Nat}:FnOk P w K mg base CX k f fd ps (spF K n fun _=>none) :=
 ⟨fun vs H Q E h=>(by obtain⟨_,_,_,_,_,_,z,_⟩:=h;exact nomatch z),fun A outer s H args us vs Q E _ _ _ _ h=>(by obtain⟨_,_,_,_,_,_,z,_⟩:=h;exact nomatch z)⟩
end
section
variable {X:Cx} {a c e:Expr} {es:List Expr} {fa fb:Ef} {ga:Lf} {tc:Tf} {pos p:Pos} {f g:Sf}
def zI (n:Nat)(f:jy)(g:Lf):Ef:=fun ρ=>(g ρ).bind fun ds=>if ds.length=n then f ds else none
theorem zP5 {k n:Nat}{fad:Addr}{fd:FuncData}{ps:List Str}{x:Str}{fD:jy}(F:FnOk X.prog X.w X.K X.mg X.base CX0 k fad fd ps (spF X.K n fD))(hr:Room k X.A)(hm:X.mg x=some (.ref fad))(hk:PySem.W.keepIn X.K (.ref fad)=true)(hb:Binds X.K fd ps [])(hg:Gl X x)
   (ha:PFA X (e::es) ga) (hdb:(x==("__debug__":Str))=false:=by decide) (he:starEach (e::es) X.env=(false,eval e X.env)::starEach es X.env:=by rfl) (hpl:(backTo pos (starEach es X.env)).any (·.1)=false:=by rfl) :
   PF X (.Call (.Name x p) (e::es) [] pos) (zI n fD ga):=by
 refine PE.to (cC (E:=E0) F hr hg hm hk hb .nil jJ ha hdb he hpl) ?_
 rintro σ H Q ⟨G0,H0,G,ρ,d,j0,hf,k⟩
 unfold zI at hf
 obtain⟨ds,h1,hf⟩:=Qq.mp hf
 split at hf
 · rename_i hl
   refine⟨G0,H0,G,ρ,_,j0,h1,fun vs H1 G1 s1 r1=>?_⟩
   show spF X.K n fD (vs++[]) H1 Q E0
   rw[Wn]
   exact⟨G1,ds,d,s1.sub,r1,hl,hf,fun v H' G' s r=>k v H' G' (s1.trans s) r⟩
 · cases hf
def cW (n:Nat)(f:List D->Option (List D))(g:Lf):Lf:=fun ρ=>(g ρ).bind fun ds=>if ds.length=n then f ds else none
theorem zP1 {k n:Nat}{fad:Addr}{fd:FuncData}{ps:List Str}{x:Str}{fD:List D->Option (List D)}(F:FnOk X.prog X.w X.K X.mg X.base CX0 k fad fd ps (spL X.K n fD))(hr:Room k X.A)(hm:X.mg x=some (.ref fad))(hk:PySem.W.keepIn X.K (.ref fad)=true)(hb:Binds X.K fd ps [])(hg:Gl X x)
   (ha:PFA X (e::es) ga) (hdb:(x==("__debug__":Str))=false:=by decide) (he:starEach (e::es) X.env=(false,eval e X.env)::starEach es X.env:=by rfl) (hpl:(backTo pos (starEach es X.env)).any (·.1)=false:=by rfl) :
   PFr X (.Call (.Name x p) (e::es) [] pos) (cW n fD ga):=by
 refine PE.toR (cC (E:=E0) F hr hg hm hk hb .nil jJ ha hdb he hpl) ?_
 rintro σ H Q ⟨G0,H0,G,ρ,d,j0,hf,k⟩
 unfold cW at hf
 obtain⟨ds,h1,hf⟩:=Qq.mp hf
 split at hf
 · rename_i hl
   refine⟨G0,H0,G,ρ,_,j0,h1,fun vs H1 G1 s1 r1=>?_⟩
   show spL X.K n fD (vs++[]) H1 Q E0
   rw[Wn]
   exact⟨G1,ds,d,s1.sub,r1,hl,hf,fun p us H' G' s hn hp gp r=>k p us H' G' (s1.trans s) (s1.hh.free hn) hp gp r⟩
 · cases hf
def tR (t:Tf)(body:Sf):Nat->Sf
 | 0,_=>none
 | n+1,ρ=>(t ρ).bind fun c=>if c=true then(body ρ).bind fun o=>match o with
     | .nx ρ2=>tR t body n ρ2
     | .ct ρ2=>tR t body n ρ2
     | .bk ρ2=>some (.nx ρ2)
     | o=>some o
   else some (.nx ρ)
theorem zZs (n:Nat){body:List Stmt}{fb:Sf}(hp:PassesOwn (model X.prog X.w) X.A X.env X.xe)(hc:PFT X c tc)(hb:PFSs X body fb):PFS X (.While c body [] pos) (tR tc fb n):=by
 refine PS.to (zSg hp hc hb) ?_
 rintro D σ H ⟨G0,H0,G,ρ,o,j0,hf,k⟩
 refine⟨fun m σ H=>∃G2 ρ2,Same G G2/\Good X.K G0 H0 G2 H σ ρ2/\tR tc fb m ρ2=some o,⟨n,G,ρ,Same.refl _,j0,hf⟩,?_⟩
 rintro m σ2 H2 ⟨G2,ρ2,sg,good2,hf2⟩
 cases m with
 | zero=>cases hf2
 | succ m =>
   unfold tR at hf2
   obtain⟨c',h1,hf2⟩:=Qq.mp hf2
   refine⟨G0,H0,G2,ρ2,c',good2,h1,fun H3 G3 s3=>?_⟩
   cases c' with
   | true =>
     rw[Qu rfl] at hf2
     obtain⟨o1,e2,hf2⟩:=Qq.mp hf2
     refine⟨fun σ' H'=>∃G2 ρ2,Same G G2/\Good X.K G0 H0 G2 H' σ' ρ2/\tR tc fb m ρ2=some o,fun σ' H' h=>⟨m,Oz _,h⟩,?_⟩
     refine⟨G0,H0,G3,ρ2,o1,good2.step s3,e2,?_⟩
     have sg3:Same G G3:=sg.trans s3.gg
     cases o1 with
     | nx ρ5=>exact fun σ5 H5 G5 s5 good5=>⟨G5,ρ5,sg3.trans s5,good5,hf2⟩
     | ct ρ5=>exact fun σ5 H5 G5 s5 good5=>⟨G5,ρ5,sg3.trans s5,good5,hf2⟩
     | bk ρ5=>cases hf2;exact fun σ5 H5 G5 s5 good5=>k σ5 H5 G5 (sg3.trans s5) good5
     | rt d=>cases hf2;exact k
     | rl d=>cases hf2;exact k
   | false =>
     rw[Qs jb] at hf2
     cases hf2
     exact k σ2 H3 G3 (sg.trans s3.gg) (good2.step s3)
def tyD:D->Option String
 | .non=>some "NoneType"
 | .bl _=>some "bool"
 | .int _=>some "int"
 | .str _=>some "str"
 | .tup _=>some "tuple"
 | .lst _=>some "list"
 | _=>none
theorem zMG {Z:jl}{σ:St}{H G:Hp}{s:Shared}{A:Around}{E:jk}{Q:jk}{d:D}{v:V}{u cl:Value}{t:String}{k:Bool}(I:Inv X Z σ H s)(rv:RelV v u)(sub:Same G H)(r:Rep X.K G d v)(ht:tyD d=some t)
   (e:PySem.W.kitOne X.K (.type t) cl=some k) (h:∀tk,Q (.bool k) { s with toks:=tk }):wpAny (model X.prog X.w) A (call (.builtin "isinstance") [u,cl]) Q E s:=by
 cases d with
 | non=>cases ht;rw[w4] at r;subst r;cases rv;exact Td PySem.W.kitx_none I.kIn True.intro e (fun z=>nomatch z) h
 | bl y=>cases ht;rw[xD] at r;subst r;cases rv;exact Td PySem.W.kitx_bool I.kIn True.intro e (fun z=>nomatch z) h
 | int i=>cases ht;rw[zK] at r;subst r;obtain⟨t,rfl⟩:=rv;exact Td PySem.W.kitx_int I.kIn True.intro e (fun z=>nomatch z) h
 | str i=>cases ht;rw[yI] at r;subst r;obtain⟨t,rfl⟩:=rv;exact Td PySem.W.kitx_str I.kIn True.intro e (fun z=>nomatch z) h
 | tup ds =>
   cases ht
   obtain⟨p,vs,rfl,q,_⟩:=yR.mp r
   cases rv
   obtain⟨j6,_,⟨o,h1,h2,_⟩,_⟩:=I.tuple (sub.tup q)
   exact Td PySem.W.kitx_tuple I.kIn ⟨o,h1,h2⟩ e (fun z=>nomatch z) h
 | lst ds =>
   cases ht
   obtain⟨p,vs,rfl,q,_⟩:=yA.mp r
   cases rv
   obtain⟨j6,_,⟨o,n,h1,h2,_⟩,_⟩:=I.list (sub.seq q)
   exact Td PySem.W.kitx_list I.kIn ⟨o,h1,h2⟩ e (fun z=>nomatch z) h
 | obj C ns ds=>cases ht
 | exc C ns ds=>cases ht
 | dct ks ds=>cases ht
theorem zPA (K:jh):∀t:String,t∈["NoneType","bool","int","str","tuple","list"]->PySem.W.kitOne K (.type t) (.type "int")=some (decide (t="bool"∨t="int")):=by
 intro t ht
 simp only[Qa,Ey,Yf] at ht
 rcases ht with rfl | rfl | rfl | rfl | rfl | rfl<;>kernel_rfl
theorem zRr (K:jh):∀t:String,t∈["NoneType","bool","int","str","tuple","list"]->PySem.W.kitOne K (.type t) (.type "bool")=some (decide (t="bool")):=by
 intro t ht
 simp only[Qa,Ey,Yf] at ht
 rcases ht with rfl | rfl | rfl | rfl | rfl | rfl<;>kernel_rfl
theorem zPJ (K:jh):∀t:String,t∈["NoneType","bool","int","str","tuple","list"]->PySem.W.kitOne K (.type t) (.type "str")=some (decide (t="str")):=by
 intro t ht
 simp only[Qa,Ey,Yf] at ht
 rcases ht with rfl | rfl | rfl | rfl | rfl | rfl<;>kernel_rfl
theorem zTM (K:jh):∀t:String,t∈["NoneType","bool","int","str","tuple","list"]->PySem.W.kitOne K (.type t) (.type "tuple")=some (decide (t="tuple")):=by
 intro t ht
 simp only[Qa,Ey,Yf] at ht
 rcases ht with rfl | rfl | rfl | rfl | rfl | rfl<;>kernel_rfl
theorem zS2 (K:jh):∀t:String,t∈["NoneType","bool","int","str","tuple","list"]->PySem.W.kitOne K (.type t) (.type "list")=some (decide (t="list")):=by
 intro t ht
 simp only[Qa,Ey,Yf] at ht
 rcases ht with rfl | rfl | rfl | rfl | rfl | rfl<;>kernel_rfl
theorem gE {d:D}{t:String}(h:tyD d=some t):t∈["NoneType","bool","int","str","tuple","list"]:=by
 cases d<;>cases h<;>simp
def zXz (p:D->Bool)(f:Ef):Ef:=fun ρ=>(f ρ).bind fun d=>match d with | .obj _ _ _=>none | .exc _ _ _=>none | .dct _ _=>none | d=>some (.bl (p d))
def isInt:D->Bool | .int _=>true | .bl _=>true | _=>false
def iM:D->Bool | .bl _=>true | _=>false
def isStr:D->Bool | .str _=>true | _=>false
def bT:D->Bool | .tup _=>true | _=>false
def dG:D->Bool | .lst _=>true | _=>false
theorem bO {T:Str}{TT:String}{q:D->Bool}{p1:Pos}(hT:bootBuiltins T=some (.type TT))(hq:∀(K:jh) d t,tyD d=some t->PySem.W.kitOne K (.type t) (.type TT)=some (q d))(hg:Gl X "isinstance")(hm:X.mg "isinstance"=none)(hgT:Gl X T)(hmT:X.mg T=none)(h:PF X a fa)
   (hn:T≠"__name__":=by decide) (hd:(T==("__debug__":Str))=false:=by decide) (hs:starEach [a,.Name T p1] X.env=[(false,eval a X.env),(false,eval (.Name T p1) X.env)]:=by rfl):PF X (.Call (.Name "isinstance" p) [a,.Name T p1] [] pos) (zXz q fa):=by
 have hcall:CallR X (.builtin "isinstance") (fun xs H Q=>∃x G d,xs=[x,.ty TT]/\Same G H/\Rep X.K G d x/\(tyD d).isSome=true/\Q (.bl (q d)) H):=by
   intro Z s σ H xs us Q I r hh
   obtain⟨x,G,d,rfl,sub,rx,ht,qq⟩:=hh
   obtain⟨u,u',rfl,ru,ru'⟩:=zWc r
   cases ru'
   obtain⟨t,ht⟩:=Eb.mp ht
   exact zMG I ru sub rx ht (hq _ d t ht) fun tk=>⟨.bl (q d),H,I.tok tk,rfl,qq⟩
 refine PE.to (tJ hcall hg hm jg (yZ h (yZ (zU0 (v:=.ty TT) hgT hmT hT rfl hn hd) wH) (by rw[hs];rfl)) jb jb (by rw[hs];rfl) jg) ?_
 rintro σ H Q ⟨G0,H0,G,ρ,d,j0,hf,k⟩
 unfold zXz at hf
 obtain⟨x,h1,hf⟩:=Qq.mp hf
 refine⟨G0,H0,G,ρ,_,j0,h1,fun v H1 G1 s1 r1=>?_⟩
 have hx:(tyD x).isSome=true/\d = .bl (q x):=by
   cases x<;>first
     | (cases hf;exact⟨rfl,rfl⟩)
     | cases hf
 obtain⟨hx,rfl⟩:=hx
 exact⟨v,G1,x,rfl,s1.sub,r1,hx,k _ _ G1 s1 (xD.mpr rfl)⟩
theorem zNG (K:jh)(d:D)(t:String)(h:tyD d=some t):PySem.W.kitOne K (.type t) (.type "int")=some (isInt d):=by
 rw[zPA K t (gE h)];cases d<;>cases h<;>simp[isInt,iM,isStr,bT,dG]
theorem zQG (K:jh)(d:D)(t:String)(h:tyD d=some t):PySem.W.kitOne K (.type t) (.type "bool")=some (iM d):=by
 rw[zRr K t (gE h)];cases d<;>cases h<;>simp[isInt,iM,isStr,bT,dG]
theorem zO2 (K:jh)(d:D)(t:String)(h:tyD d=some t):PySem.W.kitOne K (.type t) (.type "str")=some (isStr d):=by
 rw[zPJ K t (gE h)];cases d<;>cases h<;>simp[isInt,iM,isStr,bT,dG]
theorem zNM (K:jh)(d:D)(t:String)(h:tyD d=some t):PySem.W.kitOne K (.type t) (.type "tuple")=some (bT d):=by
 rw[zTM K t (gE h)];cases d<;>cases h<;>simp[isInt,iM,isStr,bT,dG]
theorem zNT (K:jh)(d:D)(t:String)(h:tyD d=some t):PySem.W.kitOne K (.type t) (.type "list")=some (dG d):=by
 rw[zS2 K t (gE h)];cases d<;>cases h<;>simp[isInt,iM,isStr,bT,dG]
end
theorem Inv.turnedNew {X:Cx}{Z:jl}{σ:St}{H:Hp}{s:Shared}{h':Heap}{t':Nat}{fp:List Addr}{T:Addr}{o:HO}(I:Inv X Z σ H s)(k:∀b u,b∉fp->s.heap.get? b=some u->h'.get? b=some u)
   (hf:∀b∈fp,iC X Z H b) (hT:s.heap.objs.size<=T) (new:ObjOk X.prog X.w (upd H T o) h' T o):Inv X Z σ (upd H T o) { s with heap:=h',toks:=t' }:=by
 have fr:H T=none:=I.hok.fresh hT
 have neT:∀b u,s.heap.get? b=some u->b≠T:=fun b u e=>Wi (Wy (Qd e) hT)
 have nfp:∀b u,H b=some u->b∉fp:=fun b u e z=>by have:=(hf b z).1;rw[e] at this;cases this
 refine I.step (g':=s.gens) (d':=s.drawn) (ch:=fp) (fun b hb=>⟨(hf b hb).2.2.2.1,(hf b hb).2.1,(hf b hb).2.2.2.2.1,(hf b hb).2.2.2.2.2⟩) (fun b u _ _ hc e _=>k b u hc e)
   (fun b u _ _ hc e _=>⟨u.slots,k b u hc e⟩) (fun b u _ e n=>by rw[zN (neT b u e)];exact n) (fun b u hc e=>⟨u,k b u hc e⟩)
   (fun b xs e=>by rw[zN (zC e fr)];exact e) (fun b u x e=>by rw[zN (zC e fr)];exact e) (fun b ps e=>⟨#[],by rw[zN (zC e fr),e];simp⟩) (fun m hm=>?_) (fun b u e=>?_) I.bare
 · obtain⟨ob,es,ep,ho,r⟩:=hm
   exact⟨ob,es,ep,k _ ob (fun z=>(hf _ z).2.1 rfl) ho,r⟩
 · by_cases hb:b=T
   · subst hb;rw[zL] at e;cases e;exact new
   · rw[zN hb] at e
     refine(I.hok b u e).stay (fun c v hc q=>k c v ?_ q) (fun c q=>by rw[zN (zC q fr)];exact q) fun c xs q=>by rw[zN (zC q fr)];exact q
     rcases hc with z | z
     · rw[z];exact nfp b u e
     · exact nfp c _ z
theorem Inv.turnedL {X:Cx}{Z:jl}{σ:St}{H:Hp}{s:Shared}{h':Heap}{t':Nat}{fp:List Addr}(I:Inv X Z σ H s)(k:∀b u,b∉fp->s.heap.get? b=some u->h'.get? b=some u)
   (hf:∀b∈fp,iC X Z H b):Inv X Z σ H { s with heap:=h',toks:=t' }:=by
 have nfp:∀b u,H b=some u->b∉fp:=fun b u e z=>by have:=(hf b z).1;rw[e] at this;cases this
 refine I.step (g':=s.gens) (d':=s.drawn) (ch:=fp) (fun b hb=>⟨(hf b hb).2.2.2.1,(hf b hb).2.1,(hf b hb).2.2.2.2.1,(hf b hb).2.2.2.2.2⟩) (fun b u _ _ hc e _=>k b u hc e)
   (fun b u _ _ hc e _=>⟨u.slots,k b u hc e⟩) (fun b u _ e n=>n) (fun b u hc e=>⟨u,k b u hc e⟩) (fun b xs e=>e) (fun b u x e=>e) (fun b ps e=>⟨#[],by rw[e];simp⟩) (fun m hm=>?_) (fun b u e=>?_) I.bare
 · obtain⟨ob,es,ep,ho,r⟩:=hm
   exact⟨ob,es,ep,k _ ob (fun z=>(hf _ z).2.1 rfl) ho,r⟩
 · refine(I.hok b u e).stay (fun c v hc q=>k c v ?_ q) (fun c q=>q) fun c xs q=>q
   rcases hc with z | z
   · rw[z];exact nfp b u e
   · exact nfp c _ z
def Ite (K:jh)(a:Addr):It :=
 ⟨fun i H=>∃xs x,SqL K H a xs/\xs[i]?=some x,fun i H x H'=>∃p v,H p=none/\x = .ref p/\H'=upd H p (.tup [.int (i:Nat),v])/\∀xs,SqL K H a xs->xs[i]?=some v,fun i H=>∃xs,SqL K H a xs/\xs.length<=i⟩
theorem zSY {P:Program}{w:World}{K:jh}{elts:List Expr}{k:Nat}{pos:Pos}(a e it:Addr)(hei:e≠it):Turn P w K (.Tuple elts k pos) (Ite K a) [e,it] e (fun i h=>(∃old,IsEnum h e it (i:Nat) old)/\h.IsListIter it a i) where
 mem:=je
 obj:=fun i h st b hb=>by
   obtain⟨⟨old,he⟩,o,h1,h2,h3⟩:=st
   rcases Qa.mp hb with z | z
   · subst z;exact⟨_,he,fun v q=>nomatch q⟩
   · rcases Qa.mp z with z | z
     · subst z;exact⟨o,h1,fun v q=>by rw[h3] at q;cases q⟩
     · cases z
 keep:=fun i h h' st kk=>by
   obtain⟨⟨old,he⟩,hl⟩:=st
   exact⟨⟨old,kk e je _ he⟩,hl.at fun o q=>kk it je o q⟩
 item:=by
   intro X hP hw hK hc i Z s σ H E I hf st hg
   subst hP hw hK
   obtain⟨xs,x,hq,hx⟩:=hg
   obtain⟨j6,rv,p,hz⟩:=I.list hq
   obtain⟨u,hu,ru⟩:=rv.get hx
   obtain⟨⟨old,he⟩,hit⟩:=st
   refine wpAny_pyNext_enum_item he hit p.isList (x:=u) (by simpa using hu) hei fun h1 ho hit1 hT hsz hk=>?_
   have I1:Inv X Z σ (upd H s.heap.objs.size (.tup [.int (i:Nat),x])) { s with heap:=h1,toks:=s.toks+1 }:=I.turnedNew (fun b o hb e=>hk b o (fun z=>hb (by simp[z])) (fun z=>hb (by simp[z])) e) hf (Qf _)
     ⟨by show 2<=sizeLine;exact Wb (wE jb),[.int (i:Nat) s.toks,u],.cons ⟨_,rfl⟩ (.cons ru .nil),⟨_,hT,rfl,_,rfl⟩⟩
   refine⟨_,rfl,wpAny_letOwnedTupleGo_enum ho fun h2 he2 hs2=>?_⟩
   have hs2:Heap.SameBut e h1 h2:=hs2
   have neT:∀b∈[e,it],b≠s.heap.objs.size:=fun b hb z=>by
     obtain⟨o,h1,h2,h3⟩:=hit
     rcases Qa.mp hb with q | q
     · exact absurd (Qd he) (by rw[←q,z];exact Wz _)
     · rcases Qa.mp q with q | q
       · exact absurd (Qd h1) (by rw[←q,z];exact Wz _)
       · cases q
   have hf1:∀b∈[e,it],iC X Z (upd H s.heap.objs.size (.tup [.int (i:Nat),x])) b:=fun b hb=>⟨by rw[zN (neT b hb)];exact(hf b hb).1,(hf b hb).2⟩
   have I2:=I1.turnedL (h':=h2) (t':=s.toks+1) (fp:=[e,it]) (fun b o hb q=>(hs2.2 b (fun z=>hb (by simp[z]))).trans q) hf1
   refine⟨.ref s.heap.objs.size,_,I2,rfl,⟨s.heap.objs.size,x,I.fresh,rfl,rfl,fun ys hy=>by rw[I.list_inj hy hq];exact hx⟩,⟨⟨_,by simpa using he2⟩,hit1.at fun o q=>(hs2.2 it hei.symm).trans q⟩,fun b hb=>(hf1 b hb).1⟩
 done:=by
   intro X hP hw hK hc i Z s σ H E I hf st hg
   subst hP hw hK
   obtain⟨xs,hq,hx⟩:=hg
   obtain⟨j6,rv,p,hz⟩:=I.list hq
   obtain⟨⟨old,he⟩,hit⟩:=st
   have hl:=rv.length
   exact wpAny_pyNext_enum_end (I.ok.hd hc) he hit p.isList (by simp;lia) fun h' eb=>⟨rfl,I.turnedL (t':=s.toks) (fp:=[e,it]) (fun b o hb q=>eb b o (fun z=>hb (by simp[z])) q) hf⟩
 self:=fun _ _ _ _ _ st h=>wpAny_pyIter_enum st.1.choose_spec h
theorem zWe {K:jh}{G:Hp}{a:Addr}{vs:List V}{ds:List D}(h:SqL K G a vs)(r:Reps K G ds vs):aJ K (Ite K a) G (ds.zipIdx.map fun q=>D.tup [.int (q.2:Nat),q.1]):=by
 intro i G2 H2 s1 s2
 have q:SqL K H2 a vs:=(s1.trans s2).seq h
 refine⟨fun d hd=>?_,fun hi=>⟨vs,q,by rw[←r.length];simpa using hi⟩⟩
 rw[Wd,List.getElem?_zipIdx] at hd
 obtain⟨⟨d0,j⟩,hd2,hd3⟩:=Qr.mp hd
 obtain⟨d1,hd1,e⟩:=Qr.mp hd2
 cases e
 subst hd3
 obtain⟨v,e,rv⟩:=r.get hd1
 refine⟨⟨vs,v,q,e⟩,fun x H3 y=>?_⟩
 obtain⟨p,u,hp,rfl,rfl,y⟩:=y
 have e2:=y vs q
 rw[e] at e2;cases e2
 have s3:=Step.laid (o:=.tup [.int (i:Nat),v]) s2 hp
 refine⟨_,s3,yR.mpr ⟨p,_,rfl,.of zL,zR.mpr ⟨_,_,rfl,zK.mpr je,zR.mpr ⟨_,_,rfl,(rv.mono s1).mono s3.gg,zM.mpr rfl⟩⟩⟩⟩
section
variable {X:Cx} {a b e:Expr} {es:List Expr} {fa:Ef} {ga gb:Lf} {pos p:Pos}
def aD (ds:List D):List D:=ds.zipIdx.map fun q=>D.tup [.int (q.2:Nat),q.1]
def zUL (g:Lf):Lf:=fun ρ=>(g ρ).map aD
def zOG (K:jh)(f:Lf):TE:=fun σ H Q=>∃G0 H0 G ρ ds,Good K G0 H0 G H σ ρ/\f ρ=some ds/\∀a vs H' G',Step G H G' H'->SqL K G' a vs->Reps K G' ds vs->Q (.ref a) H'
def zVL (X:Cx)(e:Expr)(f:Lf):Prop:=PE X e (zOG X.K f)
theorem zZo (h:PFr X e ga):zVL X e ga:=fun Z s σ H Q I q=>h Z s σ H Q I (by
 obtain⟨G0,H0,G,ρ,ds,j0,hf,k⟩:=q
 exact⟨G0,H0,G,ρ,ds,j0,hf,fun p vs H' G' s hn hp gp rs=>k p vs H' (upd G' p (.lst vs)) (s.frz hn hp gp) (.of zL) (rs.mono (Same.new gp))⟩)
theorem dM (h:PF X e fa):zVL X e (iL fa):=fun Z s σ H Q I q=>h Z s σ H Q I (by
 obtain⟨G0,H0,G,ρ,ds,j0,hf,k⟩:=q
 unfold iL at hf
 obtain⟨d,h1,hf⟩:=Qq.mp hf
 cases d with
 | lst es =>
   cases hf
   refine⟨G0,H0,G,ρ,_,j0,h1,fun x H1 G1 s1 r1=>?_⟩
   obtain⟨p,vs,rfl,q,rs⟩:=yA.mp r1
   exact k p vs H1 G1 s1 q rs
 | _=>cases hf)
theorem zPR {elts:List Expr}{k:Nat}{pos':Pos}(hg:Gl X "enumerate")(hm:X.mg "enumerate"=none)(h:zVL X a ga)(hs:starEach [a] X.env=[(false,eval a X.env)]:=by rfl):PFI X (.Tuple elts k pos') (.Call (.Name "enumerate" p) [a] [] pos) (zUL ga):=by
 intro Z s σ H R I q
 obtain⟨G0,H0,G,ρ,ds,j0,hf,kk⟩:=q
 unfold zUL at hf
 obtain⟨es,h1,rfl⟩:=Qr.mp hf
 have h2:=yZ h wH (by rw[hs];rfl) pos Z s σ H (fun vs H'=>∃a us G',vs=[.ref a]/\Step G H G' H'/\SqL X.K G' a us/\Reps X.K G' es us) I ⟨G0,H0,G,ρ,es,j0,h1,fun a us H' G' s' hq rs=>⟨a,us,G',rfl,s',hq,rs⟩⟩
 refine Call_ (lM I hg hm jg (Ta (thn h2 fun us s1 ⟨vs,H1,I1,r1,l,ws,G1,e1,st1,hq,rs⟩=>?_) hs rfl))
 subst e1
 obtain⟨u,rfl,ru⟩:=zZO r1
 cases ru
 obtain⟨j6,rv,pl,hz⟩:=I1.list (st1.sub.seq hq)
 refine call_enumerate_list pl.isList fun h' he hit hsz hk=>?_
 have I2:Inv X Z σ H1 { s1 with heap:=h' }:=I1.kept (t':=s1.toks) hk
 refine wpAny_pyIter_enum he ?_
 refine⟨_,[s1.heap.objs.size+1,s1.heap.objs.size],_,_,H1,rfl,I2,zSY l _ _ (Nat.succ_ne_self _),⟨⟨_,he⟩,hit⟩,fun b hb=>?_,kk _ H1 G1 st1 (zWe hq rs)⟩
 have hb':s1.heap.objs.size<=b:=by
   rcases Qa.mp hb with z | z
   · rw[z];exact Yn _
   · rcases Qa.mp z with z | z
     · exact Ug z.symm
     · cases z
 exact I1.fpOk hb' (I1.hok.fresh hb')
def lJ (f g:Lf):Lf:=fun ρ=>(f ρ).bind fun xs=>(g ρ).bind fun ys=>okL (xs++ys)
theorem zVf (ha:PFr X a ga)(hb:PFr X b gb):PFr X (.BinOp a .Add b pos) (lJ ga gb):=by
 refine PE.toR (zXc zOu ha hb) ?_
 rintro σ H Q ⟨G0,H0,G,ρ,d,j0,hf,k⟩
 unfold lJ at hf
 obtain⟨xs,h1,hf⟩:=Qq.mp hf
 obtain⟨ys,h2,hf⟩:=Qq.mp hf
 obtain⟨rfl,h3⟩:=kD hf
 refine⟨G0,H0,G,ρ,_,j0,h1,fun p vs H1 G1 s1 hn hp gp rs=>⟨G0,H0,G1,ρ,_,j0.step s1,h2,fun q us H2 G2 s2 hn2 hq gq rs2=>?_⟩⟩
 refine⟨p,q,vs,us,rfl,rfl,s2.hh _ _ hp,hq,?_,fun l hl=>?_⟩
 · rw[←rs.length,←rs2.length,←Qt];exact Wb (wE h3)
 · have s3:=Step.own (o:=.lst (vs++us)) s2.sub hl
   exact k l _ _ G2 ((s1.trans s2).trans s3) ((s1.trans s2).hh.free hl) zL (s2.sub.free hl) ((rs.mono s2.gg).append rs2)
abbrev Of:=List B->Option (Option Int)
def tFO (K:jh)(f:Of):TO:=fun σ H Q=>∃G0 H0 G ρ o,Good K G0 H0 G H σ ρ/\f ρ=some o/\∀H' G',Step G H G' H'->Q o H'
def PFO (X:Cx)(e:Option Expr)(f:Of):Prop:=PO X e (tFO X.K f)
def oNo:Of:=fun _=>some none
def xF (f:Ef):Of:=fun ρ=>(f ρ).bind fun d=>match d with | .int i=>some (some i) | _=>none
theorem jM:PFO X none oNo:=fun Z s σ H Q I h=>zPP Z s σ H Q I (by
 obtain⟨G0,H0,G,ρ,o,j0,hf,k⟩:=h
 cases hf
 exact k H G (.refl j0.sub))
theorem pD (h:PF X e fa):PFO X (some e) (xF fa):=fun Z s σ H Q I q=>zQo h Z s σ H Q I (by
 obtain⟨G0,H0,G,ρ,o,j0,hf,k⟩:=q
 unfold xF at hf
 obtain⟨d,h1,hf⟩:=Qq.mp hf
 cases d with
 | int i=>cases hf;exact⟨G0,H0,G,ρ,_,j0,h1,fun v H' G' s r=>⟨i,zK.mp r,k H' G' s⟩⟩
 | _=>cases hf)
def cM (xs:List D)(lo hi:Option Int):List D:=(xs.drop (HT.sIx xs.length 0 lo)).take (HT.sIx xs.length xs.length hi - HT.sIx xs.length 0 lo)
def wV (f:Ef)(lo hi:Of):Lf:=fun ρ=>(f ρ).bind fun d=>(lo ρ).bind fun l=>(hi ρ).bind fun u=>match d with | .lst ds=>some (cM ds l u) | _=>none
theorem uX {lo hi:Option Expr}{fl fh:Of}{p2:Pos}(ha:PF X a fa)(hl:PFO X lo fl)(hh:PFO X hi fh):PFr X (.Subscript a (.Slice lo hi none p2) pos) (wV fa fl fh):=by
 refine PE.toR (zXo zQ4 ha hl hh) ?_
 rintro σ H Q ⟨G0,H0,G,ρ,d,j0,hf,k⟩
 unfold wV at hf
 obtain⟨x,h1,hf⟩:=Qq.mp hf
 obtain⟨l,h2,hf⟩:=Qq.mp hf
 obtain⟨u,h3,hf⟩:=Qq.mp hf
 cases x with
 | lst ds =>
   cases hf
   refine⟨G0,H0,G,ρ,_,j0,h1,fun v H1 G1 s1 r1=>⟨G0,H0,G1,ρ,_,j0.step s1,h2,fun H2 G2 s2=>⟨G0,H0,G2,ρ,_,(j0.step s1).step s2,h3,fun H3 G3 s3=>?_⟩⟩⟩
   obtain⟨q,vs,rfl,hq,rs⟩:=yA.mp r1
   have s23:=s2.trans s3
   refine⟨q,vs,rfl,s23.hh |> fun z=>(s1.sub.trans z).seq hq,fun p hp=>?_⟩
   have s4:=Step.own (o:=.lst (zTv vs l u)) s23.sub hp
   refine k p _ _ G3 ((s1.trans s23).trans s4) ((s1.trans s23).hh.free hp) zL (s23.sub.free hp) ?_
   unfold zTv cM
   rw[←rs.length]
   exact((rs.mono s23.gg).drop _).take _
 | _=>cases hf
end
section
structure ZApart (z TI TO i1 i2 l1 l2:Addr):Prop where
 a1:TI≠z
 a2:TO≠z
 a3:i1≠z
 a4:i2≠z
 a5:TI≠TO
 a6:TI≠i1
 a7:TI≠i2
 a8:TO≠i1
 a9:TO≠i2
 b1:i1≠i2
 b2:l1≠z
 b3:l1≠TO
 b4:l1≠i1
 b5:l1≠i2
 b6:l2≠z
 b7:l2≠TO
 b8:l2≠i1
 b9:l2≠i2
end
theorem zne {n:Nat}(i j:Nat)(h:i≠j):n+i≠n+j:=fun z=>h (Nat.add_left_cancel z)
def lV:List D->List D->List D
 | x::xs,y::ys=>.tup [x,y]::lV xs ys
 | _,_=>[]
theorem zWo:∀ {xs ys:List D} {i:Nat} {d:D},(lV xs ys)[i]?=some d->∃x y,xs[i]?=some x/\ys[i]?=some y/\d = .tup [x,y]
 | [],_,_,_,h=>by simp[lV] at h
 | _::_,[],_,_,h=>by simp[lV] at h
 | x::xs,y::ys,0,d,h=>by simp[lV] at h;exact⟨x,y,rfl,rfl,h.symm⟩
 | x::xs,y::ys,i+1,d,h=>by
   simp only[lV,Rm] at h
   obtain⟨a,b,h1,h2,h3⟩:=zWo h
   exact⟨a,b,by simpa using h1,by simpa using h2,h3⟩
theorem lD:∀(xs ys:List D),(lV xs ys).length=min xs.length ys.length
 | [],_=>by simp[lV]
 | _::_,[]=>by simp[lV]
 | x::xs,y::ys=>by rw[lV,Qo,lD xs ys,Qo,Qo];lia
end L2
set_option maxHeartbeats 4000000
namespace L2
open PySem PySem.Spec PyProof.Rows
def zXR (f:D->D->Option Bool):List D->List D->Option Bool
 | x::xs,y::ys=>(f x y).bind fun a=>(zXR f xs ys).map fun b=>a&&b
 | _,_=>some true
def eqD:Nat->D->D->Option Bool
 | _+1,.int i,.int j=>some (i==j)
 | _+1,.bl i,.bl j=>some (i==j)
 | _+1,.str i,.str j=>some (i==j)
 | _+1,.non,.non=>some true
 | n+1,.tup xs,.tup ys=>(zXR (eqD n) xs ys).map fun b=>b&&xs.length==ys.length
 | n+1,.lst xs,.lst ys=>if xs.length=ys.length then zXR (eqD n) xs ys else some false
 | _,_,_=>none
theorem zVP (d d':D):eqD 0 d d'=none:=rfl
def nI (f:D->D->Option Bool)(xs ys:List D)(j:Nat):Bool:=match xs[j]?,ys[j]? with | some a,some c=>(f a c).getD true | _,_=>true
theorem bV {f:D->D->Option Bool}:∀ {xs ys:List D} {b:Bool},zXR f xs ys=some b->b=(List.range (min xs.length ys.length)).all (nI f xs ys)/\∀(j:Nat) (a c:D),xs[j]?=some a->ys[j]?=some c->f a c=some (nI f xs ys j)
 | [],_,_,h=>by cases h;exact⟨je,fun j a c e=>by simp at e⟩
 | _::_,[],_,h=>by cases h;exact⟨je,fun j a c _ e=>by simp at e⟩
 | x::xs,y::ys,b,h=>by
   unfold zXR at h
   obtain⟨a,h1,h⟩:=Qq.mp h
   obtain⟨b',h2,rfl⟩:=Qr.mp h
   obtain⟨e1,e2⟩:=bV h2
   constructor
   · rw[Qo,Qo,Nat.succ_min_succ,List.range_succ_eq_map,List.all_cons,List.all_map,e1]
     congr 1
     simp[nI,h1]
   · intro j p q hp hq
     cases j with
     | zero =>
       simp at hp hq
       subst hp;subst hq
       simp[nI,h1]
     | succ j =>
       have:=e2 j p q (by simpa using hp) (by simpa using hq)
       simpa [nI] using this
section
variable {X:Cx} {Z:jl} {σ:St} {H G:Hp} {s:Shared}
theorem zVX (I:Inv X Z σ H s)(sub:Same G H):∀(n:Nat) (d d':D) (x:V) (k:Bool),eqD n d d'=some k->Rep X.K G d x->Rep X.K G d' x->k=true:=by
 intro n
 induction n with
 | zero=>intro d d' x k h;rw[zVP] at h;cases h
 | succ n ih =>
   have many:∀(ds es:List D) (vs:List V) (b:Bool),zXR (eqD n) ds es=some b->Reps X.K G ds vs->Reps X.K G es vs->b=true:=by
     intro ds
     induction ds with
     | nil=>intro es vs b h _ _;cases h;rfl
     | cons d r ihr =>
       intro es vs b h r1 r2
       cases es with
       | nil=>cases h;rfl
       | cons e t =>
         unfold zXR at h
         obtain⟨a,h1,h⟩:=Qq.mp h
         obtain⟨b',h2,rfl⟩:=Qr.mp h
         obtain⟨v,vr,rfl,q1,q2⟩:=zR.mp r1
         obtain⟨v',vr',e',q3,q4⟩:=zR.mp r2
         cases e'
         rw[ih d e v a h1 q1 q3,ihr t vr b' h2 q2 q4];rfl
   intro d d' x k h r1 r2
   cases d with
   | int i =>
     cases d' with
     | int j=>cases h;rw[zK] at r1 r2;rw[r1] at r2;cases r2;simp
     | _=>cases h
   | bl i =>
     cases d' with
     | bl j=>cases h;rw[xD] at r1 r2;rw[r1] at r2;cases r2;simp
     | _=>cases h
   | str i =>
     cases d' with
     | str j=>cases h;rw[yI] at r1 r2;rw[r1] at r2;cases r2;simp
     | _=>cases h
   | non =>
     cases d' with
     | non=>cases h;rfl
     | _=>cases h
   | tup ds =>
     cases d' with
     | tup es =>
       unfold eqD at h
       obtain⟨b,h1,rfl⟩:=Qr.mp h
       obtain⟨p,vs,e1,q1,q2⟩:=yR.mp r1
       obtain⟨p',vs',e2,q3,q4⟩:=yR.mp r2
       rw[e1] at e2;cases e2
       have ev:=I.tuple_inj (sub.tup q1) (sub.tup q3)
       subst ev
       rw[many ds es vs b h1 q2 q4,q2.length,q4.length];simp
     | _=>cases h
   | lst ds =>
     cases d' with
     | lst es =>
       unfold eqD at h
       obtain⟨p,vs,e1,q1,q2⟩:=yA.mp r1
       obtain⟨p',vs',e2,q3,q4⟩:=yA.mp r2
       rw[e1] at e2;cases e2
       have ev:=I.list_inj (sub.seq q1) (sub.seq q3)
       subst ev
       rw[Qu (by rw[q2.length,q4.length])] at h
       exact many ds es vs k h q2 q4
     | _=>cases h
   | obj C ns ds=>cases d'<;>cases h
   | exc C ns ds=>cases d'<;>cases h
   | dct ks ds=>cases d'<;>cases h
theorem zS4 (I:Inv X Z σ H s)(sub:Same G H):∀(n:Nat) (A:Around) (d d':D) (x y:V) (u v:Value) (k:Bool),A.units+n < cLine->eqD n d d'=some k->Rep X.K G d x->Rep X.K G d' y->RelV x u->RelV y v ->
   SeqAt.RcAt A s u v k/\SeqAt.RcNeAt A s u v (!k)/\SeqAt.EqAt A s u v k:=by
 intro n
 induction n with
 | zero=>intro A d d' x y u v k _ h;rw[zVP] at h;cases h
 | succ n ih =>
   intro A d d' x y u v k hu h r1 r2 ru rv
   have hu1:A.units < cLine:=jc
   have hin:A.in1.units+n < cLine:=by show A.units+1+n < cLine;lia
   cases d with
   | int i =>
     cases d' with
     | int j=>cases h;rw[zK] at r1 r2;subst r1;subst r2;obtain⟨t,rfl⟩:=ru;obtain⟨t',rfl⟩:=rv;exact⟨SeqAt.RcAt.int_int _ _ _ _,SeqAt.RcNeAt.int_int _ _ _ _,SeqAt.EqAt.int_int _ _ _ _⟩
     | _=>cases h
   | bl i =>
     cases d' with
     | bl j=>cases h;rw[xD] at r1 r2;subst r1;subst r2;cases ru;cases rv;exact⟨SeqAt.RcAt.bool_bool _ _,SeqAt.RcNeAt.bool_bool _ _,SeqAt.EqAt.bool_bool _ _⟩
     | _=>cases h
   | str i =>
     cases d' with
     | str j=>cases h;rw[yI] at r1 r2;subst r1;subst r2;obtain⟨t,rfl⟩:=ru;obtain⟨t',rfl⟩:=rv;exact⟨SeqAt.RcAt.str_str _ _ _ _,SeqAt.RcNeAt.str_str _ _ _ _,SeqAt.EqAt.str_str _ _ _ _⟩
     | _=>cases h
   | non =>
     cases d' with
     | non=>cases h;rw[w4] at r1 r2;subst r1;subst r2;cases ru;cases rv;exact⟨SeqAt.RcAt.none_none,SeqAt.RcNeAt.none_none,Pr _⟩
     | _=>cases h
   | tup ds =>
     cases d' with
     | tup es =>
       have h0:=h
       unfold eqD at h
       obtain⟨b,h1,rfl⟩:=Qr.mp h
       obtain⟨p,vs,rfl,q1,q2⟩:=yR.mp r1
       obtain⟨p',vs',rfl,q3,q4⟩:=yR.mp r2
       cases ru;cases rv
       obtain⟨j6,w1,t1,_⟩:=I.tuple (sub.tup q1)
       obtain⟨jts,w2,t2,_⟩:=I.tuple (sub.tup q3)
       obtain⟨e1,e2⟩:=bV h1
       have l1:ds.length=j6.length:=q2.length.trans w1.length
       have l2:es.length=jts.length:=q4.length.trans w2.length
       have he:∀j (a1:j < j6.toArray.size) (a2:j < jts.toArray.size),SeqAt.EqAt A.in1 s j6.toArray[j] jts.toArray[j] (nI (eqD n) ds es j):=fun j a1 a2=>by
         have b1:j < ds.length:=by rw[l1];simpa using a1
         have b2:j < es.length:=by rw[l2];simpa using a2
         obtain⟨v1,f1,g1⟩:=q2.get (Wo b1)
         obtain⟨v2,f2,g2⟩:=q4.get (Wo b2)
         obtain⟨u1,f3,g3⟩:=w1.get f1
         obtain⟨u2,f4,g4⟩:=w2.get f2
         have x1:j6.toArray[j]=u1:=by
           have:=(Qn.mp f3).2
           simpa using this
         have x2:jts.toArray[j]=u2:=by
           have:=(Qn.mp f4).2
           simpa using this
         rw[x1,x2]
         exact(ih A.in1 _ _ v1 v2 u1 u2 _ hin (e2 j _ _ (Wo b1) (Wo b2)) g1 g2 g3 g4).2.2
       have ek:((List.range (min j6.toArray.size jts.toArray.size)).all (nI (eqD n) ds es)&&j6.toArray.size==jts.toArray.size)=(b&&ds.length==es.length):=by
         rw[Qp,Qp,←l1,←l2,e1]
       have R1:=SeqAt.RcAt.tuples t1 t2 hu1 he
       have R2:=SeqAt.RcNeAt.tuples t1 t2 hu1 he
       rw[ek] at R1 R2
       refine⟨R1,R2,?_⟩
       by_cases hp:p=p'
       · subst hp
         have hk:=zVX I sub (n+1) (.tup ds) (.tup es) (.ref p) _ h0 r1 r2
         rw[hk]
         exact Pr _
       · exact .of_refs hp R1
     | _=>cases h
   | lst ds =>
     cases d' with
     | lst es =>
       have h0:=h
       unfold eqD at h
       obtain⟨p,vs,rfl,q1,q2⟩:=yA.mp r1
       obtain⟨p',vs',rfl,q3,q4⟩:=yA.mp r2
       cases ru;cases rv
       obtain⟨j6,w1,t1,_⟩:=I.list (sub.seq q1)
       obtain⟨jts,w2,t2,_⟩:=I.list (sub.seq q3)
       have l1:ds.length=j6.length:=q2.length.trans w1.length
       have l2:es.length=jts.length:=q4.length.trans w2.length
       have fin:SeqAt.RcAt A s (.ref p) (.ref p') k/\SeqAt.RcNeAt A s (.ref p) (.ref p') (!k):=by
         split at h
         · rename_i hl
           obtain⟨e1,e2⟩:=bV h
           have he:∀j (a1:j < j6.toArray.size) (a2:j < jts.toArray.size),SeqAt.EqAt A.in1 s j6.toArray[j] jts.toArray[j] (nI (eqD n) ds es j):=fun j a1 a2=>by
             have b1:j < ds.length:=by rw[l1];simpa using a1
             have b2:j < es.length:=by rw[l2];simpa using a2
             obtain⟨v1,f1,g1⟩:=q2.get (Wo b1)
             obtain⟨v2,f2,g2⟩:=q4.get (Wo b2)
             obtain⟨u1,f3,g3⟩:=w1.get f1
             obtain⟨u2,f4,g4⟩:=w2.get f2
             have x1:j6.toArray[j]=u1:=by
               have:=(Qn.mp f3).2
               simpa using this
             have x2:jts.toArray[j]=u2:=by
               have:=(Qn.mp f4).2
               simpa using this
             rw[x1,x2]
             exact(ih A.in1 _ _ v1 v2 u1 u2 _ hin (e2 j _ _ (Wo b1) (Wo b2)) g1 g2 g3 g4).2.2
           have hsz:j6.toArray.size=jts.toArray.size:=by rw[Qp,Qp,←l1,←l2,hl]
           have ek:(List.range j6.toArray.size).all (nI (eqD n) ds es)=k:=by
             rw[e1,Qp,←l1,←hl,Nat.min_self]
           have R1:=SeqAt.RcAt.lists t1.isList t2.isList hsz hu1 he
           have R2:=SeqAt.RcNeAt.lists t1.isList t2.isList hsz hu1 he
           rw[ek] at R1 R2
           exact⟨R1,R2⟩
         · rename_i hl
           cases h
           have hsz:(j6.toArray.size != jts.toArray.size)=true:=by
             rw[Qp,Qp,←l1,←l2]
             simpa using hl
           exact⟨SeqAt.RcAt.lists_lengths t1.isList t2.isList hsz hu1,SeqAt.RcNeAt.lists_lengths t1.isList t2.isList hsz hu1⟩
       refine⟨fin.1,fin.2,?_⟩
       by_cases hp:p=p'
       · subst hp
         have hk:=zVX I sub (n+1) (.lst ds) (.lst es) (.ref p) _ h0 r1 r2
         rw[hk]
         exact Pr _
       · exact .of_refs hp fin.1
     | _=>cases h
   | obj C ns ds=>cases d'<;>cases h
   | exc C ns ds=>cases d'<;>cases h
   | dct ks ds=>cases d'<;>cases h
variable {b:Expr} {k:Nat}
def zQ2:D->D->Option Bool:=eqD 8
def jS (x y:D):Option Bool:=(eqD 8 x y).map (!·)
theorem zOC (hr:Room k X.A):CmR X .Eq zQ2:=by
 refine⟨fun x y H Q=>∃G d d' b,Same G H/\Rep X.K G d x/\Rep X.K G d' y/\eqD 8 d d'=some b/\Q (.bl b) H,?_,fun d d' k G H x y Q h s rx ry q=>⟨G,d,d',k,s,rx,ry,h,q H G (.refl s)⟩⟩
 intro Z s σ H x y v u Q I rx ry ⟨G,d,d',b,sub,r1,r2,h,q⟩
 have hu:=hr.units
 exact(zS4 I sub 8 X.A d d' x y v u b jc h r1 r2 rx ry).1 X.prog X.w X.xe _ ⟨.bl b,H,I,rfl,q⟩
theorem zXJ (hr:Room k X.A):CmR X .NotEq jS:=by
 refine⟨fun x y H Q=>∃G d d' b,Same G H/\Rep X.K G d x/\Rep X.K G d' y/\eqD 8 d d'=some b/\Q (.bl (!b)) H,?_,fun d d' k G H x y Q h s rx ry q=>?_⟩
 · intro Z s σ H x y v u Q I rx ry ⟨G,d,d',b,sub,r1,r2,h,q⟩
   have hu:=hr.units
   exact(zS4 I sub 8 X.A d d' x y v u b jc h r1 r2 rx ry).2.1 X.prog X.w X.xe _ ⟨.bl (!b),H,I,rfl,q⟩
 · unfold jS at h
   obtain⟨b,h1,rfl⟩:=Qr.mp h
   exact⟨G,d,d',b,s,rx,ry,h1,q H G (.refl s)⟩
def zYK:List D->Option (List Int)
 | []=>some []
 | .int i::r=>(zYK r).map fun is=>i::is
 | _=>none
theorem zYO {K:jh}{G:Hp}:∀ {ds:List D} {is:List Int} {vs:List V},zYK ds=some is->Reps K G ds vs->vs=is.map V.int
 | [],_,_,h,r=>by cases h;rw[zM] at r;rw[r];rfl
 | d::t,_,_,h,r=>by
   unfold zYK at h
   split at h
   · rename_i h';cases h'
   · rename_i k t' h'
     cases h'
     obtain⟨v,vr,rfl,r1,r2⟩:=zR.mp r
     obtain⟨ks,h1,rfl⟩:=Qr.mp h
     rw[zYO h1 r2,zK.mp r1];rfl
   · cases h
end
section
variable {X:Cx} {a b:Expr} {fa fb:Ef} {pos:Pos} {st:Stmt}
def zOn:D->D->Option D
 | .int i,.int j=>some (.int (i+j))
 | .str i,.str j=>if i.length+j.length<=lim then some (.str (i++j)) else none
 | _,_=>none
def rK (fa fb:Ef):Ef:=fun ρ=>(fa ρ).bind fun x=>(fb ρ).bind fun y=>zOn x y
theorem nC (ha:PF X a fa)(hb:PF X b fb):PF X (.BinOp a .Add b pos) (rK fa fb):=by
 refine PE.to (zXc (zRc.or zV3) ha hb) ?_
 rintro σ H Q ⟨G0,H0,G,ρ,d,j0,hf,k⟩
 unfold rK at hf
 obtain⟨x,h1,hf⟩:=Qq.mp hf
 obtain⟨y,h2,hf⟩:=Qq.mp hf
 refine⟨G0,H0,G,ρ,_,j0,h1,fun u H1 G1 s1 r1=>⟨G0,H0,G1,ρ,_,j0.step s1,h2,fun v H2 G2 s2 r2=>?_⟩⟩
 have r1:=r1.mono s2.gg
 unfold zOn at hf
 split at hf
 · cases hf;exact .inl ⟨_,_,zK.mp r1,zK.mp r2,k _ _ G2 (s1.trans s2) (zK.mpr rfl)⟩
 · split at hf
   · rename_i hz;cases hf;exact .inr ⟨_,_,yI.mp r1,yI.mp r2,Wb (wE hz),k _ _ G2 (s1.trans s2) (yI.mpr rfl)⟩
   · cases hf
 · cases hf
def zMt:V->Option Int->Option Int->Hp->VK->Prop:=fun x lo hi H Q=>∃z,x = .str z/\z.length<=sizeLine/\Q (.str (Txt.slice z lo hi)) H
theorem zOe:SlR X zMt:=by
 intro Z s σ H x v vl vu lo hi sl Q I rx hs pl pu h
 obtain⟨z,rfl,hz,q⟩:=h
 obtain⟨t,rfl⟩:=rx
 refine⟨"str",_,F.slot_str_getitem.lookup,typeIs_str s z t,?_⟩
 have fin:∀t' k,EP X Z σ Q (.str (Txt.slice z lo hi) t') { s with toks:=k }:=fun t' k=>⟨.str (Txt.slice z lo hi),H,I.tok k,⟨t',rfl⟩,q⟩
 cases pl with
 | none =>
   cases pu with
   | none=>exact Yr (l:=none) (u:=none) (st:=none) hs rfl (Uk ⟨Wp (Ul z _ _) hz,fin⟩)
   | int j tj=>exact Yr (l:=none) (u:=some (j,tj)) (st:=none) hs rfl (Uk ⟨Wp (Ul z _ _) hz,fin⟩)
 | int i ti =>
   cases pu with
   | none=>exact Yr (l:=some (i,ti)) (u:=none) (st:=none) hs rfl (Uk ⟨Wp (Ul z _ _) hz,fin⟩)
   | int j tj=>exact Yr (l:=some (i,ti)) (u:=some (j,tj)) (st:=none) hs rfl (Uk ⟨Wp (Ul z _ _) hz,fin⟩)
def eD (f:Ef)(lo hi:Of):Ef:=fun ρ=>(f ρ).bind fun d=>(lo ρ).bind fun l=>(hi ρ).bind fun u=>match d with | .str x=>if x.length<=lim then some (.str (Txt.slice x l u)) else none | _=>none
theorem zYL {lo hi:Option Expr}{fl fh:Of}{p2:Pos}(ha:PF X a fa)(hl:PFO X lo fl)(hh:PFO X hi fh):PF X (.Subscript a (.Slice lo hi none p2) pos) (eD fa fl fh):=by
 refine PE.to (zXo zOe ha hl hh) ?_
 rintro σ H Q ⟨G0,H0,G,ρ,d,j0,hf,k⟩
 unfold eD at hf
 obtain⟨x,h1,hf⟩:=Qq.mp hf
 obtain⟨l,h2,hf⟩:=Qq.mp hf
 obtain⟨u,h3,hf⟩:=Qq.mp hf
 cases x with
 | str z =>
   dsimp only at hf
   split at hf
   · rename_i hz
     cases hf
     refine⟨G0,H0,G,ρ,_,j0,h1,fun v H1 G1 s1 r1=>⟨G0,H0,G1,ρ,_,j0.step s1,h2,fun H2 G2 s2=>⟨G0,H0,G2,ρ,_,(j0.step s1).step s2,h3,fun H3 G3 s3=>?_⟩⟩⟩
     exact⟨z,yI.mp r1,Wb (wE hz),k _ _ G3 ((s1.trans s2).trans s3) (yI.mpr rfl)⟩
   · cases hf
 | _=>cases hf
end
section
variable {X:Cx} {a b e:Expr} {fa fb:Ef} {ga gb:Lf} {pos p:Pos}
def zSx (fa fb:Ef):Ef:=fun ρ=>(fa ρ).bind fun x=>(fb ρ).bind fun y=>match x,y with | .int i,.int j=>some (.int (if j > i then j else i)) | _,_=>none
theorem zRA (hc:X.calm=true)(hg:Gl X "max")(hm:X.mg "max"=none)(ha:PF X a fa)(hb:PF X b fb)(hs:starEach [a,b] X.env=[(false,eval a X.env),(false,eval b X.env)]:=by rfl)(hs2:starEach [b] X.env=[(false,eval b X.env)]:=by rfl) :
   PF X (.Call (.Name "max" p) [a,b] [] pos) (zSx fa fb):=by
 refine PE.to (tJ (zTm hc) hg hm jg (yZ ha (yZ hb wH (by rw[hs2];rfl)) (by rw[hs,hs2])) jb jb (by rw[hs,hs2]) (by rw[hs2];rfl)) ?_
 rintro σ H Q ⟨G0,H0,G,ρ,d,j0,hf,k⟩
 unfold zSx at hf
 obtain⟨x,h1,hf⟩:=Qq.mp hf
 obtain⟨y,h2,hf⟩:=Qq.mp hf
 refine⟨G0,H0,G,ρ,_,j0,h1,fun u H1 G1 s1 r1=>⟨G0,H0,G1,ρ,_,j0.step s1,h2,fun v H2 G2 s2 r2=>?_⟩⟩
 split at hf
 · cases hf
   exact⟨_,_,by rw[zK.mp r1,zK.mp r2],k _ _ G2 (s1.trans s2) (zK.mpr rfl)⟩
 · cases hf
theorem zQd:OpR X (binaryOp .Add) (fun x y H Q=>∃l b xs zs,x = .ref l/\y = .ref b/\SqL X.K H l xs/\SqL X.K H b zs/\xs.length+zs.length<=sizeLine/\∀p,H p=none->Q (.ref p) (upd H p (.lst (xs++zs)))):=by
 intro Z s σ H x y v u Q I rx ry h
 obtain⟨l,b,xs,zs,rfl,rfl,hH,hB,hz,q⟩:=h
 cases rx
 cases ry
 obtain⟨j6,r,pl,_⟩:=I.list hH
 obtain⟨its2,r2,pl2,_⟩:=I.list hB
 obtain⟨⟨cls,dd,data,sl⟩,ho,hc,n,hd⟩:=pl.isList
 obtain⟨⟨cls2,dd2,data2,sl2⟩,ho2,hc2,n2,hd2⟩:=pl2.isList
 simp only at hc hd hc2 hd2
 subst hc hd hc2 hd2
 have hl:=r.length
 have hl2:=r2.length
 have e:j6.toArray++its2.toArray=(j6++its2).toArray:=je
 refine concat_meets ⟨_,ho,rfl⟩ ⟨_,ho2,rfl⟩ noFill_list_add seq_list_add PySem.F.slot_list_add PySem.F.entry_list_add (PySem.F.args_list_add_2 _ _) (list_addW l b j6.toArray its2.toArray n n2 dd dd2 sl sl2 (by rw[Qp,Qp];lia)) ⟨ho,ho2,?_⟩
 rw[e]
 exact⟨.ref _,_,I.lnew (t':=s.toks) (r.append r2) (by rw[Qt];lia),rfl,q _ I.fresh⟩
theorem gF (ha:zVL X a ga)(hb:zVL X b gb):PFr X (.BinOp a .Add b pos) (lJ ga gb):=by
 refine PE.toR (zXc zQd ha hb) ?_
 rintro σ H Q ⟨G0,H0,G,ρ,d,j0,hf,k⟩
 unfold lJ at hf
 obtain⟨xs,h1,hf⟩:=Qq.mp hf
 obtain⟨ys,h2,hf⟩:=Qq.mp hf
 obtain⟨rfl,h3⟩:=kD hf
 refine⟨G0,H0,G,ρ,_,j0,h1,fun p vs H1 G1 s1 hq rs=>⟨G0,H0,G1,ρ,_,j0.step s1,h2,fun q us H2 G2 s2 hq2 rs2=>?_⟩⟩
 refine⟨p,q,vs,us,rfl,rfl,(s1.sub.trans s2.hh).seq hq,s2.sub.seq hq2,?_,fun l hl=>?_⟩
 · rw[←rs.length,←rs2.length,←Qt];exact Wb (wE h3)
 · have s3:=Step.own (o:=.lst (vs++us)) s2.sub hl
   exact k l _ _ G2 ((s1.trans s2).trans s3) ((s1.trans s2).hh.free hl) zL (s2.sub.free hl) ((rs.mono s2.gg).append rs2)
end
structure FunD (K:jh)(x qual:Str)(st:Stmt)(f:Addr)(fd:FuncData):Prop where
 ex:∃(oc:Value) (od:Option Addr) (dV kV doc pm:Value) (an:Option Addr) (j9 ct:Value) (osl:Array (Option Value)),
   fd=PySem.W.fnOf x qual (vY st) (yQ st) (zW st) dV kV doc pm an j9 ct/\K.lookup f=some ⟨oc,od,.func fd,osl⟩/\PySem.W.codeIn K j9 qual=true
 kp:PySem.W.keepIn K (.ref f)=true
theorem iI {K:jh}{G:Hp}{f:Str}{d:D}:∀ {ns:List Str} {ds:List D} {vs:List V},ns.length=ds.length->Reps K G ds vs->(ns.zip ds).lookup f=some d->∃u,(ns.zip vs).lookup f=some u/\Rep K G d u
 | [],_,_,_,_,h=>by simp at h
 | n::ns,[],_,hl,_,_=>by simp at hl
 | n::ns,e::ds,_,hl,r,h=>by
   obtain⟨v,vr,rfl,r1,r2⟩:=zR.mp r
   rw[En,Eh] at h ⊢
   cases hq:f==n with
   | true=>rw[hq] at h;cases h;exact⟨v,rfl,r1⟩
   | false=>rw[hq] at h;exact iI (by simpa using hl) r2 h
section
variable {X:Cx} {a c e:Expr} {fa:Ef} {pos p:Pos} {st:Stmt}
def yS (c f:Str)(fa:Ef):Ef:=fun ρ=>(fa ρ).bind fun d=>match d with | .obj c' ns ds=>if c'=c then(ns.zip ds).lookup f else none | _=>none
theorem yV {C:Addr}{c f:Str}(hC:ClsAt X.K c C)(hcl:Cls X.K C)(hn:NoAttr X.K C f)(ha:PF X a fa)(hb:attributeBase a f X.env (eval a X.env)=eval a X.env:=by rfl):PF X (.Attribute a f pos) (yS c f fa):=by
 refine PE.to (zRR ha hb) ?_
 rintro σ H Q ⟨G0,H0,G,ρ,d,j0,hf,k⟩
 unfold yS at hf
 obtain⟨x,h1,hf2⟩:=Qq.mp hf
 cases x with
 | obj c' ns ds =>
   dsimp only at hf2
   by_cases hc:c'=c
   · rw[Qu hc] at hf2
     subst hc
     refine⟨G0,H0,G,ρ,_,j0,h1,fun v H1 G1 s1 r1=>?_⟩
     obtain⟨C',q,dx,vs,e0,rfl,e1,e2,e3⟩:=mF.mp r1
     have ec:=hC.one e0
     subst ec
     obtain⟨u,e4,e5⟩:=iI e2 e3 hf2
     exact⟨q,_,dx,ns.zip vs,u,rfl,s1.sub _ _ e1,hcl,hn,e4,k _ _ G1 s1 e5⟩
   · rw[Qs hc] at hf2;cases hf2
 | _=>cases hf2
theorem zVR {f:Str}{y:V}:∀ {ns:List Str} {vs:List V},ns.length=vs.length->f∉ns->nQ f y (ns.zip vs)=(ns++[f]).zip (vs++[y])
 | [],[],_,_=>rfl
 | [],_::_,h,_=>by simp at h
 | _::_,[],h,_=>by simp at h
 | n::ns,v::vs,h,hf=>by
   show(if n=f then _ else(n,v)::nQ f y (ns.zip vs))=_
   rw[Qs (fun z=>hf (by rw[z];exact Qv)),zVR (by simpa using h) (fun z=>hf (Qk _ z))]
   rfl
def zRp (K:jh)(C:Addr)(ns:List Str)(g:Lf):TS:=fun DD σ H=>∃(G0 H0 G:Hp) (ρ:List B) (p dx:Addr) (pre:List Str) (us:List V) (xs ds:List D),
 Good K G0 H0 G H σ ρ/\NoOw ρ/\σ[0]?=some (some (.ref p))/\H p=some (.ins C dx (pre.zip us))/\G p=none/\H0 p=none/\pre.length=us.length/\(pre++ns).Nodup/\(pre++ns).length<=900/\Reps K G xs us/\g ρ=some ds /\
 ∀H' G' vs,Step G0 H0 G' H'->H' p=some (.ins C dx ((pre++ns).zip vs))->G' p=none->Reps K G' (xs++ds) vs->DD.nx σ H'
theorem zU4 {C:Addr}:PSs X [] (zRp X.K C [] zP):=by
 intro Z s σ H D I h
 refine cK Z s σ H D I ?_
 obtain⟨G0,H0,G,ρ,p,dx,pre,us,xs,ds,j0,now,hs,hp,gp,h0,hl,nd,hz,rs,hg,k⟩:=h
 cases hg
 rw[Wn] at k
 exact k H G us j0.st (by rw[Wn] at *;exact hp) gp (by rw[Wn];exact rs)
theorem oE {C:Addr}{f x:Str}{ns:List Str}{g:Lf}{rest:List Stmt}{pos' p1:Pos}(hcl:Cls X.K C)(hn:NoAttr X.K C f)(hself:X.N[0]?=some x)(hvis:Vis X.env.scope x)(he:PF X e fa)(hr:PSs X rest (zRp X.K C ns g))(hd:(x==("__debug__":Str))=false:=by decide)(hcd:(x==("__classdict__":Str))=false:=by decide)
   (hs:swapsWith e (some (.Attribute (.Name x p1) f pos')) pos.line X.env=pure false:=by rfl):PSs X (.Assign [.Attribute (.Name x p1) f pos'] e pos::rest) (zRp X.K C (f::ns) (zY fa g)):=by
 intro Z s σ H D I h
 refine qE (zRU (sW hself hvis hd hcd) he hs) hr Z s σ H D I ?_
 obtain⟨G0,H0,G,ρ,p,dx,pre,us,xs,ds,j0,now,hself,hp,gp,h0,hl,nd,hz,rs,hg,k⟩:=h
 obtain⟨d,dr,h1,h2,rfl⟩:=zZm hg
 have hlp:pre.length < 1000:=by rw[Qt] at hz;lia
 have hnp:f∉pre:=fun z=>(List.nodup_append.mp nd).2.2 f z f Qv rfl
 have e1:pre++f::ns=(pre++[f])++ns:=je
 refine⟨G0,H0,G,ρ,d,j0,h1,fun v H1 G1 s1 r1=>⟨.ref p,hself,p,C,dx,pre.zip us,rfl,s1.hh _ _ hp,hcl,hn,?_,?_⟩⟩
 · rw[Ym];lia
 · have hne:H p≠none:=by rw[hp];exact fun z=>nomatch z
   have gp1:G1 p=none:=(s1.new p _ hp rfl).trans gp
   refine⟨G0,H0,G1,ρ,p,dx,pre++[f],us++[v],xs++[d],dr,(j0.step s1).wrX now gp1 h0,now,hself,?_,gp1,h0,by rw[Qt,Qt,hl];rfl,by rw[←e1];exact nd,by rw[←e1];exact hz,(rs.mono s1.gg).snoc r1,h2,fun H' G' vs st q1 q2 q3=>?_⟩
   · rw[zL,zVR hl hnp]
   · refine k H' G' vs st (by rw[e1];exact q1) q2 ?_
     rw[show xs++d::dr=(xs++[d])++dr by simp]
     exact q3
end
def spI (K:jh)(C:Addr)(ns:List Str)(n:Nat)(f:List D->Option (List D)):Sp:=fun vs H Q _=>∃(p dx:Addr) (rest:List V) (G H0:Hp) (ds xs:List D),vs = .ref p::rest/\H=upd (upd H0 dx (.own p)) p (.ins C dx [])/\H0 p=none/\H0 dx=none/\dx≠p/\Same G H0/\Reps K G ds rest/\ds.length=n/\f ds=some xs /\
 ∀H' G' us,Step G H0 G' H'->H' p=some (.ins C dx (ns.zip us))->G' p=none->Reps K G' xs us->Q .non H'
theorem qV {K:jh}{G H0 H:Hp}(m:Nat):∀ {ds:List D} {vs:List V},Reps K G ds vs->Paired (RB K H0 G H) (vs.map some++List.replicate m none) (ds.map .fz++List.replicate m .no)
 | [],_,h=>by
   rw[zM] at h;subst h
   show Paired _ (List.replicate m none) (List.replicate m B.no)
   induction m with
   | zero=>exact .nil
   | succ n ih=>rw[Rb,Rb];exact .cons .no ih
 | d::r,_,h=>by
   obtain⟨v,vr,rfl,h1,h2⟩:=zR.mp h
   exact .cons (.fz h1) (qV m h2)
theorem cI (m:Nat)(ds:List D):NoOw (.no::(ds.map B.fz++List.replicate m B.no)):=by
 refine⟨?_,?_,?_⟩
 all_goals
   intro j es h
   cases j with
   | zero=>cases h
   | succ j =>
     rw[Rm] at h
     by_cases hi:j < ds.length
     · rw[Wj (by simpa using hi),Wd] at h
       obtain⟨k,_,h⟩:=Qr.mp h
       cases h
     · rw[Wt (by simpa using hi),Eu] at h
       split at h<;>cases h
def lR (N:Nat)(ds:List D):List B:=.no::(ds.map .fz++List.replicate (N - (ds.length+1)) .no)
section
variable {P:Program} {w:World} {K:jh} {mg:Str->Option Value} {base:Heap} {x qual:Str} {st:Stmt} {f C:Addr} {fd:FuncData} {N ps ns:List Str} {k:Nat} {sf:Str}
theorem zPZ {g:Lf}(F:Fun K x qual st f fd)(S:FnScope N (sf::ps) (zW st))(hnd:ns.Nodup)(j5:ns.length<=900)
   (hb:∀(j9:Value) (A:Around) (outer:List Env) (s:Shared) (H:Hp) (E:XK),Room k (A.deeper (envOfC qual (zW st) s.heap.objs.size f j9))->PSs (rL CX0 P w K mg base N qual (zW st) f j9 A outer s H E).nox (yQ st) (zRp K C ns g)) :
   FnOk P w K mg base CX0 (k+1) f fd (sf::ps) (spI K C ns ps.length fun ds=>g (lR N.length ds)):=by
 refine F.ok S (fun vs H Q E h=>?_) (fun j9 A outer s H vs Q E hr h=>⟨_,hb j9 A outer s H E hr,?_⟩)
 · obtain⟨p,dx,rest,G,H0,ds,xs,rfl,_,_,_,_,_,rs,hl,_⟩:=h
   rw[Qo,Qo,←rs.length,hl]
 · obtain⟨p,dx,rest,G,H0,ds,xs,rfl,rfl,h1,h2,h3,sub,rs,hl,hf,k⟩:=h
   have hne:p≠dx:=h3.symm
   have hp1:(upd H0 dx (.own p)) p=none:=by rw[zN hne];exact h1
   have st1:Step G H0 G (upd H0 dx (.own p)):=Step.own sub h2
   have st2:Step G H0 G (upd (upd H0 dx (.own p)) p (.ins C dx [])):=st1.trans (Step.own st1.sub hp1)
   have j0:Good K G H0 G (upd (upd H0 dx (.own p)) p (.ins C dx [])) (xE N (.ref p::rest)) (lR N.length ds):=by
     refine⟨st2,?_,fun i j a b c q1 _ o1 _=>((cI _ ds).own q1 o1).elim⟩
     unfold xE lR
     rw[Qz,Qo,Tq,←rs.length]
     exact .cons .no (qV _ rs)
   refine⟨G,H0,G,_,p,dx,[],[],[],xs,j0,cI _ ds,rfl,zL,sub.free h1,h1,rfl,hnd,j5,zM.mpr rfl,hf,fun H' G' us s' q1 q2 q3=>k H' G' us s' q1 q2 q3⟩
variable {X:Cx} {c e:Expr} {es:List Expr} {ga:Lf} {pos p:Pos}
def kP (c:Str)(ns:List Str)(n:Nat)(f:List D->Option (List D))(g:Lf):Ef:=fun ρ=>(g ρ).bind fun ds=>if ds.length=n then(f ds).bind fun xs=>if ns.length=xs.length then some (.obj c ns xs) else none else none
theorem kI {k n:Nat}{C fI:Addr}{fd:FuncData}{ps ns:List Str}{c:Str}{f:List D->Option (List D)}(hC:ClsAt X.K c C)(M:Mk X.K C fI)(F:FnOk X.prog X.w X.K X.mg X.base CX0 k fI fd ps (spI X.K C ns n f))(hr:Room (k+1) X.A)(hm:X.mg c=some (.ref C))(hb:Binds X.K fd ps [])(hg:Gl X c)
   (ha:PFA X (e::es) ga) (hdb:(c==("__debug__":Str))=false:=by decide) (he:starEach (e::es) X.env=(false,eval e X.env)::starEach es X.env:=by rfl) (hpl:(backTo pos (starEach es X.env)).any (·.1)=false:=by rfl) :
   PF X (.Call (.Name c p) (e::es) [] pos) (kP c ns n f ga):=by
 refine PE.to (zUN (E:=E0) M F hr hg hm hb .nil jJ ha hdb he hpl) ?_
 rintro σ H Q ⟨G0,H0,G,ρ,d,j0,hf,k⟩
 unfold kP at hf
 obtain⟨ds,h1,hf⟩:=Qq.mp hf
 split at hf
 · rename_i hl
   obtain⟨xs,h2,hf⟩:=Qq.mp hf
   split at hf
   · rename_i hn
     cases hf
     refine⟨G0,H0,G,ρ,_,j0,h1,fun vs H1 G1 s1 r1 x dx hx hdx hne=>?_⟩
     refine⟨x,dx,vs++[],G1,H1,ds,xs,rfl,rfl,hx,hdx,hne,s1.sub,by rw[Wn];exact r1,hl,h2,fun H' G' us s' q1 q2 q3=>⟨rfl,?_⟩⟩
     exact k _ _ _ (s1.trans (s'.frz hx q1 q2)) (mF.mpr ⟨C,x,dx,us,hC,rfl,zL,hn,q3.mono (Same.new q2)⟩)
   · cases hf
 · cases hf
end
end L2
namespace L2
open PySem PySem.Spec PyProof.Rows
theorem ObjOk.got {P:Program}{w:World}{H:Hp}{h:Heap}{a:Addr}{o:HO}(x:ObjOk P w H h a o):∃u,h.get? a=some u:=by
 cases o with
 | lst xs=>obtain⟨_,_,_,_,e⟩:=x;exact⟨_,e⟩
 | tup xs=>obtain⟨_,_,_,_,e,_⟩:=x;exact⟨_,e⟩
 | dK j8=>obtain⟨_,_,_,_,o,_,_,e,_⟩:=x;exact⟨_,e⟩
 | dT j8=>obtain⟨_,_,_,_,o,_,_,e,_⟩:=x;exact⟨_,e⟩
 | set S n=>obtain⟨o,_,_,_,e,_⟩:=x;exact⟨_,e⟩
 | ins C dx fs=>obtain⟨_,_,_,e,_⟩:=x;exact⟨_,e⟩
 | own y=>exact x
 | xd fs=>obtain⟨_,⟨_,_,_,e,_⟩,_⟩:=x;exact⟨_,e⟩
 | rng lo hi=>obtain⟨_,_,_,e⟩:=x;exact⟨_,e⟩
 | frz ob u=>obtain⟨e,_⟩:=x;exact⟨_,e⟩
 | tbl ps=>exact⟨_,x⟩
 | met f y=>exact⟨_,x⟩
 | ext φ=>obtain⟨_,q,_⟩:=x;exact q
abbrev zQq:List Value:=[.type "ValueError",.type "Exception",.type "BaseException",.type "object"]
def zV8 (K:jh)(C:Addr):Prop:=∃bm N nm q bs hdct sn sub ab col dd k0 k1 k2 k3 k5,K.lookup C=some (excClassObj nm q C N bs bm hdct sn sub ab col dd k0 k1 k2 k3 k5 "ValueError.__new__") /\
 PySem.W.nsOkIn K N=true/\PySem.W.nsIn K N "__init__"=some none/\PySem.W.tailIn K zQq bm=true
open PySem.W
section
variable {prog:Program} {w:World} {A:Around} {E:jk} {h:Heap} {g:Array GenState} {d:Drawn} {t:Nat} {os:OsState} {a C:Addr} {o:Obj} {K:Frag}
theorem zOE {R:Result->Shared->Prop}(X:K.In h)(hx:h.get? a=some o)(hc:o.cls = .ref C)(g3:subIn K (.ref C) (.type "object")=some true)(hq:R (.ok (.ret (.ref C))) ⟨h,g,d,t,os⟩) :
   codeAny (model prog w) A (.call (.builtin "getset_descriptor.__get__") ⟨[.builtin "object.__class__",.ref a,.ref C],[]⟩) R ⟨h,g,d,t,os⟩:=by
 have L3:=looks_subIn (M:=model prog w) X g3
 have hT5:(⟨h,g,d,t,os⟩:Shared).TypeIs (.builtin "object.__class__") "getset_descriptor":=F.typeOf_object_class
 have e8:(".".intercalate ("object.__class__".cutAt '.').dropLast)="object":=F.owner_object_class
 refine Iq F.slot_gs_get.plain F.entry_gs_get (F.slot_gs_get.check _ _ _ _ _ _ _ _ hT5 (F.args_gs_get _ _ _) ?_)
 repeat (any_goals (first | assumption | (with_reducible refine Rl hx ?_;rw[hc]) | wp_step))
 rw[e8]
 refine L3.at ?_
 repeat (any_goals (first | assumption | (with_reducible refine Rl hx ?_;rw[hc]) | wp_step))
 refine⟨Code.quiet_builtin _ ja,Tg F.entry_object_class ?_⟩
 repeat (any_goals (first | assumption | (with_reducible refine Rl hx ?_;rw[hc]) | wp_step))
theorem zRC {tk:Tok}{Q:Fin->Shared->Prop}(X:K.In h)(hx:h.get? a=some o)(hc:o.cls = .ref C)(g2:findIn K (.ref C) "__class__"=some (some (.builtin "object.__class__")))(g3:subIn K (.ref C) (.type "object")=some true)(hq:Q (.done (.ret (.ref C))) ⟨h,g,d,t,os⟩) :
   wpAny (model prog w) A (Builtin.«object.__getattribute__» ⟨[.ref a,.str "__class__" tk],[]⟩) Q E ⟨h,g,d,t,os⟩:=by
 have L2:=looks_findIn (M:=model prog w) X g2
 have hT5:(⟨h,g,d,t,os⟩:Shared).TypeIs (.builtin "object.__class__") "getset_descriptor":=F.typeOf_object_class
 have f5:=F.typeOf_object_class
 have f6:=F.slot_gs_get.lookup
 have f7:=F.slot_gs_set.lookup
 repeat (any_goals (first | assumption | (with_reducible refine Rl hx ?_;rw[hc]) | with_reducible refine L2.at ?_ | wp_step))
 refine zOE X hx hc g3 ?_
 repeat (any_goals (first | assumption | wp_step))
theorem zSF {M:Model}{id:String}{rest:jm}{Q:Unit->Shared->Prop}{n:String}(X:K.In h)(hx:h.get? a=some o)(hc:o.cls = .ref C)(hk:builtinKind id=some .slot)(hsp:splitId id=some ("BaseException",n))(g4:subIn K (.ref C) (.type "BaseException")=some true)
   (ha:argsOk id ⟨.ref a::rest,[]⟩) (hq:Q () ⟨h,g,d,t,os⟩):wpAny M A (checkBuiltinCall id ⟨.ref a::rest,[]⟩) Q E ⟨h,g,d,t,os⟩:=by
 have L4:=looks_subIn (M:=M) X g4
 simp only[checkBuiltinCall,hk,hsp]
 refine Qe ?_
 unfold isInstance
 repeat (first | (with_reducible refine Rl hx ?_;rw[hc]) | with_reducible refine L4.at ?_ | wp_step)
 cases hsig:Manifest.signature? id with
 | none=>exact Qh hq
 | some sig =>
   simp only[argsOk,hsig] at ha
   show wpAny M A (Bind.checkArgs id sig ⟨.ref a::rest,[]⟩) Q E _
   rw[show Bind.checkArgs id sig ⟨.ref a::rest,[]⟩=pure () from ha]
   exact Qh hq
theorem zSy:builtinKind "BaseException.__getattribute__"=some .slot:=ja
theorem zTg:splitId "BaseException.__getattribute__"=some ("BaseException","__getattribute__"):=ja
theorem zPG {tk:Tok}{R:Result->Shared->Prop}(X:K.In h)(hx:h.get? a=some o)(hc:o.cls = .ref C)(g2:findIn K (.ref C) "__class__"=some (some (.builtin "object.__class__")))(g3:subIn K (.ref C) (.type "object")=some true)(g4:subIn K (.ref C) (.type "BaseException")=some true)
   (hq:R (.ok (.ret (.ref C))) ⟨h,g,d,t,os⟩):codeAny (model prog w) A (.call (.builtin "BaseException.__getattribute__") ⟨[.ref a,.str "__class__" tk],[]⟩) R ⟨h,g,d,t,os⟩:=by
 have ha:=F.args_bexc_ga (.ref a) (.str "__class__" tk)
 refine Iq F.excAttr_ValueError.ga.plain F.entry_bexc_ga ?_
 refine zSF (id:="BaseException.__getattribute__") (rest:=[.str "__class__" tk]) X hx hc zSy zTg g4 ha ?_
 exact zRC X hx hc g2 g3 hq
theorem zN2 {tk:Tok}{Q:jk}(X:K.In h)(hx:h.get? a=some o)(hc:o.cls = .ref C)(g1:findIn K (.ref C) "__getattribute__"=some (some (.builtin "BaseException.__getattribute__")))(g5:findIn K (.ref C) "__getattr__"=some none)(g2:findIn K (.ref C) "__class__"=some (some (.builtin "object.__class__")))(g3:subIn K (.ref C) (.type "object")=some true)(g4:subIn K (.ref C) (.type "BaseException")=some true)
   (hq:Q (.ref C) ⟨h,g,d,t,os⟩):wpAny (model prog w) A (getAttrBy (.ref a) (.str "__class__" tk) false) Q E ⟨h,g,d,t,os⟩:=by
 have L1:=looks_findIn (M:=model prog w) X g1
 have L5:=looks_findIn (M:=model prog w) X g5
 have f3:=F.excAttr_ValueError.ga.bind (.ref a)
 repeat (any_goals (first | assumption | (with_reducible refine Rl hx ?_;rw[hc]) | with_reducible refine L1.at ?_ | with_reducible refine L5.at ?_ | wp_step))
 refine zPG X hx hc g2 g3 g4 ?_
 repeat (any_goals (first | assumption | wp_step))
theorem zQB {Q:Option Value->Shared->Prop}(X:K.In h)(hx:h.get? a=some o)(hc:o.cls = .ref C)(g1:findIn K (.ref C) "__getattribute__"=some (some (.builtin "BaseException.__getattribute__")))(g5:findIn K (.ref C) "__getattr__"=some none)(g2:findIn K (.ref C) "__class__"=some (some (.builtin "object.__class__")))(g3:subIn K (.ref C) (.type "object")=some true)(g4:subIn K (.ref C) (.type "BaseException")=some true)
   (hq:Q (some (.ref C)) ⟨h,g,d,t+1,os⟩):wpAny (model prog w) A (getAttr? (.ref a) "__class__") Q E ⟨h,g,d,t,os⟩:=by
 unfold getAttr? getAttrBy?
 repeat (any_goals (first | assumption | with_reducible apply zN2 X hx hc g1 g5 g2 g3 g4 | wp_step))
theorem zRq (hcl:(clsIn K C).isSome=true)(g1:findIn K (.ref C) "__getattribute__"=some (some (.builtin "BaseException.__getattribute__")))(g5:findIn K (.ref C) "__getattr__"=some none)(g2:findIn K (.ref C) "__class__"=some (some (.builtin "object.__class__")))(g3:subIn K (.ref C) (.type "object")=some true)(g4:subIn K (.ref C) (.type "BaseException")=some true) :
   KitX K (.ref a) (.ref C) (fun h=>∃o,h.get? a=some o/\o.cls = .ref C) where
 ty:=fun M h X ⟨o,e1,e2⟩=>by
   intro A' Q' E' s' k q
   unfold typeOf
   obtain⟨h',g',d',t',os'⟩:=s'
   repeat (first | (with_reducible refine Rl (k _ _ e1) ?_;rw[e2]) | wp_step)
   exact q
 it:=fun M h X _=>by
   unfold clsIn at hcl
   split at hcl
   · rename_i c' d' cd' sl' ho
     intro A' Q' E' s' k q
     unfold isType loadHead
     exact Qe (Pa (k _ _ (X _ _ ho)) (Qh q))
   · cases hcl
 ne:=fun h tp dd j6 n sl X htp=>by
   refine Bool.eq_false_iff.mpr fun q=>?_
   have e:C=tp:=Value.ref.inj (Tr.mp q)
   subst e
   unfold clsIn at hcl
   split at hcl
   · rename_i c' d' cd' sl' ho
     have z:=(X _ _ ho).symm.trans htp
     cases z
   · cases hcl
 ca:=fun {prog w A E Q s} X p k=>by
   obtain⟨o,e1,e2⟩:=p
   obtain⟨h',g',d',t',os'⟩:=s
   exact zQB X e1 e2 g1 g5 g2 g3 g4 k
end
end L2
namespace L2
open PySem PySem.Spec PySem.W
end L2
namespace L2
open PySem PySem.Spec PySem.W
open Builtin Builtin.ObjectAttr
def zXt:List Value->Bool
 | []=>false
 | v::r=>(v::r)==[.type "ValueError",.type "Exception",.type "BaseException",.type "object"]||match v with | .ref _=>zXt r | _=>false
end L2
namespace L2
open PySem PySem.Spec PyProof.Rows
structure XKit (K:jh)(C:Addr):Prop where
 cl:(PySem.W.clsIn K C).isSome=true
 ga:PySem.W.findIn K (.ref C) "__getattribute__"=some (some (.builtin "BaseException.__getattribute__"))
 gt:PySem.W.findIn K (.ref C) "__getattr__"=some none
 gc:PySem.W.findIn K (.ref C) "__class__"=some (some (.builtin "object.__class__"))
 so:PySem.W.subIn K (.ref C) (.type "object")=some true
 sb:PySem.W.subIn K (.ref C) (.type "BaseException")=some true
def zNh (K:jh)(C:Addr):Prop:=∃nm q N bs bm sn sub ab col dd k0 k1 k2 k3 k5,K.lookup C=some (excClassObj nm q C N bs bm true sn sub ab col dd k0 k1 k2 k3 k5 "ValueError.__new__")/\zXt bm=true
def zX8 (K:jh)(C:Addr):Bool:=PySem.W.isClsIn K C&&(PySem.W.findIn K (.ref C) "__getattribute__"==some (some (.builtin "BaseException.__getattribute__")))&&(PySem.W.findIn K (.ref C) "__getattr__"==some none) &&
 (PySem.W.findIn K (.ref C) "__class__"==some (some (.builtin "object.__class__")))&&(PySem.W.subIn K (.ref C) (.type "object")==some true)&&(PySem.W.subIn K (.ref C) (.type "BaseException")==some true)
theorem zUs {K:jh}{C:Addr}(h:zX8 K C=true):XKit K C:=by
 unfold zX8 at h
 simp only[Wg,Tr] at h
 obtain⟨⟨⟨⟨⟨h1,h2⟩,h3⟩,h4⟩,h5⟩,h6⟩:=h
 exact⟨h1,h2,h3,h4,h5,h6⟩
theorem zUn {K:jh}{C:Addr}(q:PySem.W.excIn K C zQq "ValueError.__new__"=true):zV8 K C:=by
 unfold PySem.W.excIn at q
 split at q
 · rename_i dd cd sl ho
   split at q
   · rename_i C' bm k0 k1 k2 k3 n k5 hm hs
     simp only[Wg,Tr,Ou] at q
     obtain⟨⟨⟨⟨⟨rfl,rfl⟩,hdel⟩,ht⟩,hok⟩,hni⟩:=q
     obtain⟨nm,bs,mro,ns,qn,hd,sn,sub,ab,col,del⟩:=cd
     dsimp only at hm hdel hok hni
     subst hm hdel
     have hsl:sl=#[k0,k1,k2,k3,some (.builtin "ValueError.__new__"),k5]:=by
       obtain⟨l⟩:=sl
       simp only at hs
       rw[hs]
     subst hsl
     exact⟨bm,ns,nm,qn,bs,hd,sn,sub,ab,col,dd,k0,k1,k2,k3,k5,ho,hok,hni,ht⟩
   · cases q
 · cases q
def IsxOk (K:jh)(v:Value):List (Str×Bool)->Prop
 | []=>True
 | (c,b)::r=>(∃C,ClsAt K c C/\XKit K C/\PySem.W.kitOne K (.ref C) v=some b)/\IsxOk K v r
theorem IsxOk.at {K:jh}{v:Value}:∀ {tb:List (Str×Bool)} {c:Str} {b:Bool},IsxOk K v tb->tb.lookup c=some b->∃C,ClsAt K c C/\XKit K C/\PySem.W.kitOne K (.ref C) v=some b
 | [],_,_,_,h=>by cases h
 | (n,x)::r,c,b,⟨h1,h2⟩,h=>by
   rw[Eh] at h
   cases hq:c==n with
   | true =>
     rw[hq] at h;cases h
     have e:=Tr.mp hq
     subst e
     exact h1
   | false=>rw[hq] at h;exact h2.at h
def vR (K:jh)(v:Value)(l:List (Addr×Bool)):Bool:=l.all fun x=>PySem.W.kitOne K (.ref x.1) v==some x.2
theorem sO {K:jh}{v:Value}:IsxOk K v []:=True.intro
theorem yM {K:jh}{v:Value}{C:Addr}{c:Str}{b:Bool}{r:List (Addr×Bool)}{tb:List (Str×Bool)}(ca:ClsAt K c C)(k:XKit K C)(h:vR K v ((C,b)::r)=true)(rest:vR K v r=true->IsxOk K v tb):IsxOk K v ((c,b)::tb):=by
 unfold vR at h
 rw[List.all_cons,Wg] at h
 exact⟨⟨C,ca,k,Tr.mp h.1⟩,rest h.2⟩
section
variable {X:Cx} {a b c e:Expr} {fa:Ef} {ga:Lf} {pos p:Pos}
theorem zVZ {v:Value}{vv:V}(hv:∀u,RelV vv u->u=v){tb:List (Str×Bool)}(h:IsxOk X.K v tb):CallR X (.builtin "isinstance") (fun xs H Q=>∃x G c ns ds b,xs=[x,vv]/\Same G H/\Rep X.K G (.exc c ns ds) x/\tb.lookup c=some b/\Q (.bl b) H):=by
 intro Z s σ H xs us Q I r hh
 obtain⟨x,G,c,ns,ds,b,rfl,sub,rx,ht,q⟩:=hh
 obtain⟨u,u',rfl,ru,ru'⟩:=zWc r
 have e:=hv _ ru'
 subst e
 obtain⟨C,hC,hk,ho⟩:=h.at ht
 obtain⟨C',a,od,vs,h0,rfl,h1,_⟩:=zXX.mp rx
 have ec:=hC.one h0
 subst ec
 cases ru
 obtain⟨⟨fs,h2⟩,_⟩:=(show ObjOk X.prog X.w H s.heap a (.ext _) from I.hok a _ (sub _ _ h1))
 exact Td (zRq hk.cl hk.ga hk.gt hk.gc hk.so hk.sb) I.kIn ⟨_,h2,rfl⟩ ho (fun z=>nomatch z) fun tk=>⟨.bl b,H,I.tok tk,rfl,q⟩
def gO (tb:List (Str×Bool))(fa:Ef):Ef:=fun ρ=>(fa ρ).bind fun d=>match d with | .exc c _ _=>(tb.lookup c).map .bl | _=>none
theorem zRJ {e:Expr}{v:Value}{vv:V}{tb:List (Str×Bool)}(h:PE X e (tCB (fun xs H Q=>∃x G c ns ds b,xs=[x,vv]/\Same G H/\Rep X.K G (.exc c ns ds) x/\tb.lookup c=some b/\Q (.bl b) H) (aT (tF X.K fa) (aT (tC vv) zVt)))):PF X e (gO tb fa):=by
 refine PE.to h ?_
 rintro σ H Q ⟨G0,H0,G,ρ,d,j0,hf,k⟩
 unfold gO at hf
 obtain⟨x,h1,hf⟩:=Qq.mp hf
 cases x with
 | exc c ns ds =>
   obtain⟨b,h2,rfl⟩:=Qr.mp hf
   exact⟨G0,H0,G,ρ,_,j0,h1,fun v H1 G1 s1 r1=>⟨v,G1,c,ns,ds,b,rfl,s1.sub,r1,h2,k _ _ G1 s1 (xD.mpr rfl)⟩⟩
 | _=>cases hf
theorem mK {DN:Str}{DA:Addr}{tb:List (Str×Bool)}{p1:Pos}(hok:IsxOk X.K (.ref DA) tb)(hmD:X.mg DN=some (.ref DA))(hgD:Gl X DN)(hg:Gl X "isinstance")(hm:X.mg "isinstance"=none)(h:PF X a fa)
   (hd:(DN==("__debug__":Str))=false:=by decide) (hs:starEach [a,.Name DN p1] X.env=[(false,eval a X.env),(false,eval (.Name DN p1) X.env)]:=by rfl):PF X (.Call (.Name "isinstance" p) [a,.Name DN p1] [] pos) (gO tb fa) :=
 zRJ (v:=.ref DA) (vv:=.ref DA) (tJ (zVZ (vv:=.ref DA) (fun _ z=>z) hok) hg hm jg (yZ h (yZ (zQJ (v:=.ref DA) hgD hmD rfl hd) wH) (by rw[hs];rfl)) jb jb (by rw[hs];rfl) jg)
theorem zQi {T:Str}{TT:String}{tb:List (Str×Bool)}{p1:Pos}(hT:bootBuiltins T=some (.type TT))(hok:IsxOk X.K (.type TT) tb)(hmT:X.mg T=none)(hgT:Gl X T)(hg:Gl X "isinstance")(hm:X.mg "isinstance"=none)(h:PF X a fa)
   (hn:T≠"__name__":=by decide) (hd:(T==("__debug__":Str))=false:=by decide) (hs:starEach [a,.Name T p1] X.env=[(false,eval a X.env),(false,eval (.Name T p1) X.env)]:=by rfl):PF X (.Call (.Name "isinstance" p) [a,.Name T p1] [] pos) (gO tb fa) :=
 zRJ (v:=.type TT) (vv:=.ty TT) (tJ (zVZ (vv:=.ty TT) (fun _ z=>z) hok) hg hm jg (yZ h (yZ (zU0 (v:=.ty TT) hgT hmT hT rfl hn hd) wH) (by rw[hs];rfl)) jb jb (by rw[hs];rfl) jg)
structure XSt (K:jh)(C:Addr):Prop where
 kit:XKit K C
 ob:zNh K C
 sa:PySem.W.findIn K (.ref C) "__setattr__"=some (some (.builtin "object.__setattr__"))
end
structure XMk (K:jh)(C f:Addr):Prop where
 ob:zNh K C
 init:PySem.W.findIn K (.ref C) "__init__"=some (some (.ref f))
 fn:PySem.W.isFn K (.ref f)=true
 kp:PySem.W.keepIn K (.ref C)=true
section
structure Z3 (z TI TO i1 i2 i3 l1 l2 l3:Addr):Prop where
 TIz:TI≠z
 TOz:TO≠z
 i1z:i1≠z
 i2z:i2≠z
 i3z:i3≠z
 TITO:TI≠TO
 TIi1:TI≠i1
 TIi2:TI≠i2
 TIi3:TI≠i3
 TOi1:TO≠i1
 TOi2:TO≠i2
 TOi3:TO≠i3
 i12:i1≠i2
 i13:i1≠i3
 i23:i2≠i3
 a1:l1≠z
 a2:l1≠TO
 a3:l1≠i1
 a4:l1≠i2
 a5:l1≠i3
 b1:l2≠z
 b2:l2≠TO
 b3:l2≠i1
 b4:l2≠i2
 b5:l2≠i3
 c1:l3≠z
 c2:l3≠TO
 c3:l3≠i1
 c4:l3≠i2
 c5:l3≠i3
end
section
variable {X:Cx} {a b:Expr} {fa fb:Ef} {pos p:Pos}
def zT8 (fa fb:Ef):Ef:=fun ρ=>(fa ρ).bind fun x=>(fb ρ).bind fun y=>match x,y with | .int i,.int j=>some (.int (if j < i then j else i)) | _,_=>none
theorem zOv (hc:X.calm=true)(hg:Gl X "min")(hm:X.mg "min"=none)(ha:PF X a fa)(hb:PF X b fb)(hs:starEach [a,b] X.env=[(false,eval a X.env),(false,eval b X.env)]:=by rfl)(hs2:starEach [b] X.env=[(false,eval b X.env)]:=by rfl) :
   PF X (.Call (.Name "min" p) [a,b] [] pos) (zT8 fa fb):=by
 refine PE.to (tJ (zT6 hc) hg hm jg (yZ ha (yZ hb wH (by rw[hs2];rfl)) (by rw[hs,hs2])) jb jb (by rw[hs,hs2]) (by rw[hs2];rfl)) ?_
 rintro σ H Q ⟨G0,H0,G,ρ,d,j0,hf,k⟩
 unfold zT8 at hf
 obtain⟨x,h1,hf⟩:=Qq.mp hf
 obtain⟨y,h2,hf⟩:=Qq.mp hf
 split at hf
 · rename_i i j _h
   cases hf
   exact⟨G0,H0,G,ρ,_,j0,h1,fun v H1 G1 s1 r1=>⟨G0,H0,G1,ρ,_,j0.step s1,h2,fun u H2 G2 s2 r2=>⟨i,j,by rw[zK.mp r1,zK.mp r2],k _ _ G2 (s1.trans s2) (zK.mpr rfl)⟩⟩⟩
 · cases hf
theorem zZq:∀ {ns:List Int} {j6:jm},Vals (ns.map V.int) j6->∃ps:List (Int×Tok),j6=ps.map (fun p=>Value.int p.1 p.2)/\ps.map (·.1)=ns
 | [],_,h=>by cases h;exact⟨[],rfl,rfl⟩
 | n::ns,_,h=>by
   cases h with
   | cons h1 h2 =>
     obtain⟨t,rfl⟩:=h1
     obtain⟨ps,rfl,rfl⟩:=zZq h2
     exact⟨(n,t)::ps,rfl,rfl⟩
end
end L2
namespace L2
open PySem PySem.W PyProof.Rows
section
variable {N:Nat} (hN:0 < N)
include hN
end
section
theorem sJ {α β:Type}{F:α->β->Prop}{da:α}{db:β}:∀ {l:List α} {m:List β} {i:Nat},Paired F l m->i < l.length->F (l.getD i da) (m.getD i db)
 | _,_,_,.nil,h=>by simp at h
 | _,_,0,.cons r _,_=>r
 | _,_,i+1,.cons _ t,h=>by simpa using sJ (i:=i) t (by simpa using h)
end
theorem tZ {α:Type}(d:α):∀l:List α,(List.range l.length).map (fun i=>l.getD i d)=l:=fun l=>by
 apply List.ext_getElem
 · simp
 · intro i h1 h2
   simp at h1
   simp[h1]
end L2
namespace L2
open PySem PySem.W PyProof.Rows
section
variable {prog:Program} {w:World} {A:Around} {E:jk} {s:Shared} {κ:SortKind} {it:Array Keyed} {lt:Nat->Nat->Bool} {N:Nat}
def Orc (prog:Program)(w:World)(A:Around)(s:Shared)(κ:SortKind)(it:Array Keyed)(lt:Nat->Nat->Bool)(N:Nat):Prop :=
 ∀(i j:Nat) (C:Bool->Shared->Prop),i < N->j < N->C (lt i j) s->kas_cmp prog w A κ it i j C s
theorem zWH {i j:Nat}{Q:Option Bool->SortSt->Prop}{st:SortSt}(hq:Orc prog w A s κ it lt N)(hk:kindOf st=κ)(hi:i < N)(hj:j < N)(h:Q (some (lt i j)) st):wpS (model prog w) A E s (lt' (kas_item it i) (kas_item it j)) Q st:=by
 rw[lt'_eq]
 refine Qg (Uu ?_)
 refine Qg (Ib (Iv ?_))
 rw[hk]
 exact Te (hq i j (fun c s'=>c=lt i j/\s'=s) hi hj ⟨rfl,rfl⟩) (fun c s' ⟨e1,e2⟩=>by subst e1;exact⟨e2,Qb h⟩) fun _ _ z=>z.elim
theorem yH {α:Type}{arr:Array Keyed}{i:Nat}{x:Keyed}{Q:Keyed->SortSt->Prop}{st:SortSt}(hx:arr[i]?=some x)(h:Q x st):wpS (model prog w) A E s (elem' arr i) Q st:=by
 rw[elem'_eq,hx]
 exact Qb h
structure At (it:Array Keyed)(lo:Nat)(pre:Array Keyed)(q:Array Nat)(st:SortSt):Prop where
 arr:arrOf st=pre++q.map fun i=>kas_item it (lo+i)
 pl:pre.size=lo
theorem At.get {lo:Nat}{pre:Array Keyed}{q:Array Nat}{st:SortSt}(h:At it lo pre q st){i:Nat}(hi:i < q.size):(arrOf st)[lo+i]?=some (kas_item it (lo+gg q i)):=by
 rw[h.arr,Wl (by rw[h.pl];lia),h.pl]
 have:lo+i - lo=i:=jc
 rw[this,pB]
 simp[hi]
theorem zU9 {lo i j:Nat}{pre:Array Keyed}{q:Array Nat}{Q:Option Bool->SortSt->Prop}{st:SortSt}(hq:Orc prog w A s κ it lt N)(hk:kindOf st=κ)(h:At it lo pre q st)(hi:i < q.size)(hj:j < q.size)(bi:lo+gg q i < N)(bj:lo+gg q j < N)
   (hQ:Q (some (lt (lo+gg q i) (lo+gg q j))) st):wpS (model prog w) A E s (ltAt' (lo+i) (lo+j)) Q st:=by
 rw[ltAt'_eq]
 refine Qg (Uu (Qg (yH (α:=Unit) (h.get hi) (Qg (yH (α:=Unit) (h.get hj) ?_)))))
 exact zWH hq hk bi bj hQ
theorem zVc {α:Type}{pre X:Array α}{i j:Nat}(hj:j<=X.size):mirror (pre++X) (pre.size+i) (pre.size+j) ((pre.size+j - (pre.size+i)) / 2)=pre++mirror X i j ((j - i) / 2):=by
 apply Rf
 intro k
 rw[Ii (by rw[Oi];lia)]
 rcases Th k pre.size with h | h
 · rw[Qs jc,Ro h,Ro h]
 · rw[Wl (xs:=pre) (ys:=mirror X i j ((j - i) / 2)) h,Ii hj]
   by_cases c:i<=k - pre.size/\k - pre.size < j
   · rw[Qu jc,Qu c,Wl jc]
     congr 1;lia
   · rw[Qs jc,Qs c,Wl h]
theorem zVe {α:Type}{pre X:Array α}{k l:Nat}(hk:k < X.size)(hl:l<=k):bubble (pre++X) (pre.size+k) (pre.size+k - (pre.size+l))=pre++bubble X k (k - l):=by
 apply Rf
 intro i
 rw[Pe (by rw[Oi];lia) _ jc]
 rcases Th i pre.size with h | h
 · rw[Qs jc,Qs jc,Ro h,Ro h]
 · rw[Wl (xs:=pre) (ys:=bubble X k (k - l)) h,Pe hk _ jc]
   by_cases c1:i - pre.size=k - (k - l)
   · rw[Qu jc,Qu c1,Wl jc]
     congr 1;lia
   · rw[Qs jc,Qs c1]
     by_cases c2:k - (k - l) < i - pre.size/\i - pre.size<=k
     · rw[Qu jc,Qu c2,Wl jc]
       congr 1;lia
     · rw[Qs jc,Qs c2,Wl h]
theorem zX1 {lo i j:Nat}{pre:Array Keyed}{q:Array Nat}{Q:Unit->SortSt->Prop}{st:SortSt}(h:At it lo pre q st)(hj:j<=q.size)(hQ:∀st',At it lo pre (kas_rev q i j) st'->kindOf st'=kindOf st->pendingOf st'=pendingOf st->gallopOf st'=gallopOf st->failedOf st'=failedOf st->Q () st') :
   wpS (model prog w) A E s (reverseSlice' (lo+i) (lo+j)) Q st:=by
 rw[reverseSlice'_eq]
 refine Tc (hQ _ ⟨?_,h.pl⟩ rfl rfl rfl rfl)
 show mirror (arrOf st) (lo+i) (lo+j) ((lo+j - (lo+i)) / 2)=_
 rw[h.arr]
 have e:=zVc (pre:=pre) (X:=q.map fun i=>kas_item it (lo+i)) (i:=i) (j:=j) (by rw[Pf];exact hj)
 rw[h.pl] at e
 rw[e]
 congr 1
 exact kas_swaps_map (fun i=>kas_item it (lo+i)) (fun k=>i+k) (fun k=>j - 1 - k) _ q
theorem zP0 {lo k l:Nat}{pre:Array Keyed}{q:Array Nat}{Q:Unit->SortSt->Prop}{st:SortSt}(h:At it lo pre q st)(hk:k < q.size)(hl:l<=k)(hQ:∀st',At it lo pre (bubble q k (k - l)) st'->kindOf st'=kindOf st->pendingOf st'=pendingOf st->gallopOf st'=gallopOf st->failedOf st'=failedOf st->Q () st') :
   wpS (model prog w) A E s (moveDown' (lo+k) (lo+l)) Q st:=by
 rw[moveDown'_eq]
 refine Tc (hQ _ ⟨?_,h.pl⟩ rfl rfl rfl rfl)
 show bubble (arrOf st) (lo+k) (lo+k - (lo+l))=_
 rw[h.arr]
 have e:=zVe (pre:=pre) (X:=q.map fun i=>kas_item it (lo+i)) (k:=k) (l:=l) (by rw[Pf];exact hk) hl
 rw[h.pl] at e
 rw[e]
 congr 1
 exact kas_swaps_map (fun i=>kas_item it (lo+i)) (fun i=>k - i) (fun i=>k - i - 1) _ q
structure Alk (st st':SortSt):Prop where
 k:kindOf st'=kindOf st
 p:pendingOf st'=pendingOf st
 f:failedOf st'=failedOf st
theorem Alk.rfl' {st:SortSt}:Alk st st:=⟨rfl,rfl,rfl⟩
theorem Alk.tr {a b c:SortSt}(h:Alk a b)(h':Alk b c):Alk a c:=⟨h'.k.trans h.k,h'.p.trans h.p,h'.f.trans h.f⟩
theorem zVN (W:SWO lt)(lo:Nat):SWO fun a b=>lt (lo+a) (lo+b):=⟨fun a=>W.irr _,fun a b c=>W.tr _ _ _,fun a b c=>W.neg _ _ _⟩
theorem Org.bd {M a:Nat}{q:Array Nat}(h:Org M q a){i:Nat}(hi:i < M):gg q i < M:=by
 have h1:i < q.size:=by rw[h.sz];exact hi
 have:gg q i∈q.toList:=by rw[pB];simp[h1]
 simpa using h.pm.subset this
theorem zQL {c:Prop}[Decidable c]{P:StateT SortSt Sem (Option Nat)}{X:StateT SortSt Sem (Option Bool)}{Y:StateT SortSt Sem Unit}{n:Nat}{Q:Option Nat->SortSt->Prop}{st:SortSt}(H:SortSt->Prop)(hP:∀st2,H st2->wpS (model prog w) A E s P Q st2)
   (h1:c->wpS (model prog w) A E s X (fun x st2=>∃r:Bool,x=some r/\(r=true->Q (some n) st2)/\(r=false->wpS (model prog w) A E s Y (fun _ st3=>H st3) st2)) st) (h2:¬c->H st) :
   wpS (model prog w) A E s (if c then(X >>= fun x=>match x with | some r=>if r=true then pure (some n) else(Y >>= fun _=>P) | _=>pure none) else P) Q st:=by
 by_cases hc:c
 · rw[Qu hc]
   refine Qg (Em (h1 hc) ?_)
   rintro x st2 ⟨r,rfl,a1,a2⟩
   dsimp only
   cases r with
   | true=>rw[Qu rfl];exact Qb (a1 rfl)
   | false=>rw[Qs jb];exact Qg (Em (a2 rfl) fun _ st3 h3=>hP st3 h3)
 · rw[Qs hc]
   exact hP st (h2 hc)
theorem zSe (W:SWO lt){M:Nat}{p:Array Nat}{k l:Nat}(hk:k < M)(a1:l<=k)(hs:Srt lt p k)(ho:Org M p k)(a2:∀i,i < l->lt (gg p k) (gg p i)=false)(a3:∀i,l<=i->i < k->lt (gg p k) (gg p i)=true):Srt lt (bubble p k (k - l)) (k+1)/\Org M (bubble p k (k - l)) (k+1):=by
 have hks:k < p.size:=by rw[ho.sz];exact hk
 have hkk:gg p k=k:=ho.hi k (Qf _) hk
 refine⟨fun i j hij hj=>?_,⟨by rw[bubble_size];exact ho.sz,(Pi.mp (bubble_perm _ _ _)).trans ho.pm,fun j h1 h2=>?_,fun i hi=>?_⟩⟩
 · have hlo:∀i,i < l->Lx lt (gg p i) (gg p k):=fun i hi=>Lx.of W (a2 i hi) (by rw[hkk];exact ho.lo i jc)
   rw[zYs hks a1,zYs hks a1]
   by_cases ei:i=l
   · rw[Qu ei,Qs jc,Qu jc]
     exact .inl (a3 _ jc jc)
   · rw[Qs ei]
     by_cases ej:j=l
     · rw[Qu ej,Qs jc]
       exact hlo i jc
     · rw[Qs ej]
       by_cases hi':l < i/\i<=k
       · rw[Qu hi',Qu jc]
         exact hs _ _ jc jc
       · rw[Qs hi']
         by_cases hj':l < j/\j<=k
         · rw[Qu hj']
           exact hs _ _ jc jc
         · rw[Qs hj']
           exact hs _ _ jc jc
 · rw[zYs hks a1,Qs jc,Qs jc]
   exact ho.hi j jc h2
 · rw[zYs hks a1]
   by_cases e0:i=l
   · rw[Qu e0,hkk];lia
   · rw[Qs e0]
     by_cases e1:l < i/\i<=k
     · rw[Qu e1]
       have:=ho.lo (i - 1) jc
       lia
     · rw[Qs e1]
       have:=ho.lo i jc
       lia
section
variable {lo M:Nat} {pre:Array Keyed} (W:SWO lt) (hq:Orc prog w A s κ it lt N) (hb:lo+M<=N)
include W hq hb
theorem zRm {q:Array Nat}{Q:Option Nat->SortSt->Prop}{st:SortSt}(hk:kindOf st=κ)(h:At it lo pre q st)(hM:1<=M)(ho:Org M q 1)
   (hQ:∀n q' st',At it lo pre q' st'->Alk st st'->zM6 (fun a b=>lt (lo+a) (lo+b)) M (n,q')->Q (some n) st'):wpS (model prog w) A E s (countRun' lo M) Q st:=by
 have WL:=zVN W lo
 have ask:∀ {q:Array Nat} {st':SortSt} {a:Nat} {i j:Nat} {R:Option Bool->SortSt->Prop},kindOf st'=κ->At it lo pre q st'->Org M q a->i < M->j < M->R (some (lt (lo+gg q i) (lo+gg q j))) st'->wpS (model prog w) A E s (ltAt' (lo+i) (lo+j)) R st':=fun {q st' a i j R} k1 k2 k3 k4 k5 k6 =>
   zU9 hq k1 k2 (by rw[k3.sz];exact k4) (by rw[k3.sz];exact k5) (by have:=k3.bd k4;lia) (by have:=k3.bd k5;lia) k6
 rw[countRun'_eq]
 refine Qg (Em (Er (I:=fun i c st'=>c=(none,i)/\st'=st/\Srt (fun a b=>lt (lo+a) (lo+b)) q i/\Org M q i)
   (Q:=fun c st'=>∃m,c=(none,m)/\st'=st/\1<=m/\m<=M/\Srt (fun a b=>lt (lo+a) (lo+b)) q m/\Org M q m/\(m < M->lt (lo+gg q m) (lo+gg q (m - 1))=true)) ?step ?fin ⟨rfl,rfl,fun i j hij hj=>jc,ho⟩) ?post)
 case step =>
   rintro i c st' hi1 hi2 ⟨rfl,rfl,hs,ho⟩
   dsimp only
   have e1:lo+i - 1=lo+(i - 1):=jc
   rw[e1]
   refine Qg (ask hk h ho hi2 jc ?_)
   dsimp only
   cases hc:lt (lo+gg q i) (lo+gg q (i - 1)) with
   | true =>
     rw[Qu rfl]
     exact Qb ⟨i,rfl,rfl,hi1,jc,hs,ho,fun _=>hc⟩
   | false =>
     rw[Qs jb]
     exact Qb ⟨rfl,rfl,zZT WL hi1 hi2 hs ho hc,ho.next hi2⟩
 case fin =>
   rintro c st' ⟨rfl,rfl,hs,ho⟩
   have e:max 1 M=M:=jc
   rw[e] at hs ho ⊢
   exact⟨M,rfl,rfl,hM,Qf _,hs,ho,fun z=>absurd z (Wz _)⟩
 case post =>
   rintro c st' ⟨n,rfl,rfl,h1,hn,hs,ho,hlt⟩
   dsimp only
   by_cases hnM:n=M
   · rw[Qu (by simpa using hnM)]
     exact Qb (hQ n q st' h .rfl' ⟨h1,hn,hs,ho⟩)
   rw[Qs (by simpa using hnM)]
   have hlt:=hlt jc
   have hsz:n<=q.size:=by rw[ho.sz];lia
   refine zQL (fun st2=>∃q2,At it lo pre q2 st2/\Alk st' st2/\Fal (fun a b=>lt (lo+a) (lo+b)) M q2 (n+1) 0) ?down ?rose ?one
   case one =>
     intro hn1
     have:n=1:=jc
     subst this
     refine⟨q,h,.rfl',gY WL jc jc (fun i j hij hj=>jc) ho fun i hi=>?_⟩
     have:i=0:=jc
     subst this
     exact hlt
   case rose =>
     intro hn1
     have e1:lo+n - 1=lo+(n - 1):=jc
     rw[e1]
     have e0:lo=lo+0:=rfl
     refine ask (i:=0) hk h ho jc jc ⟨_,rfl,fun _=>hQ n q st' h .rfl' ⟨h1,hn,hs,ho⟩,fun hc=>?_⟩
     have hall:∀i j,i < j->j < n->lt (lo+gg q i) (lo+gg q j)=false:=fun i j hij hj=>by
       have z0:lt (lo+gg q i) (lo+gg q 0)=false:=by
         by_cases e:i=0
         · subst e;exact W.irr _
         · exact Lx.le WL (hs 0 i jc jc)
       have z1:lt (lo+gg q (n - 1)) (lo+gg q j)=false:=by
         by_cases e:j=n - 1
         · subst e;exact W.irr _
         · exact Lx.le WL (hs j (n - 1) jc jc)
       exact W.ntr z0 (W.ntr hc z1)
     refine zX1 (i:=0) h hsz fun st2 g1 g2 g3 g4 g5=>⟨_,g1,⟨g2,g3,g5⟩,gY WL jc jc (fun i j hij hj=>?_) (ho.rev jc) fun i hi=>?_⟩
     · rw[rV hsz,rV hsz,Qu jc,Qu jc]
       exact hs _ _ jc jc
     · show lt _ _=true
       rw[rV hsz,rV hsz,Qs jc,Qu jc]
       by_cases e:0+n - 1 - i=n - 1
       · rw[e];exact hlt
       · exact W.eqr hlt (hall _ _ jc jc)
   case down =>
     rintro st2 ⟨q2,g1,g2,g3⟩
     refine Qg (Ib (Tv ⟨rfl,?_⟩))
     refine Qg (Em (Er (I:=fun i c st3=>∃q3 m,c=(none,i,m)/\At it lo pre q3 st3/\Alk st' st3/\Fal (fun a b=>lt (lo+a) (lo+b)) M q3 i m)
       (Q:=fun c st3=>∃q3 i m,c=(none,i,m)/\n+1<=i/\i<=M/\At it lo pre q3 st3/\Alk st' st3/\Fal (fun a b=>lt (lo+a) (lo+b)) M q3 i m) ?dstep ?dfin ⟨q2,0,rfl,g1,g2,g3⟩) ?dpost)
     case dfin =>
       rintro c st3 ⟨q3,m,rfl,a1,a2,a3⟩
       have e:max (n+1) M=M:=jc
       rw[e] at a3 ⊢
       exact⟨q3,M,m,rfl,jc,Qf _,a1,a2,a3⟩
     case dstep =>
       rintro i c st3 hi1 hi2 ⟨q3,m,rfl,a1,a2,a3⟩
       dsimp only
       have hm:=a3.hq
       have e1:lo+i - 1=lo+(i - 1):=jc
       rw[e1]
       have hk3:kindOf st3=κ:=a2.k.trans hk
       refine Qg (ask hk3 a1 a3.og hi2 jc ?_)
       dsimp only
       cases hc:lt (lo+gg q3 i) (lo+gg q3 (i - 1)) with
       | true =>
         rw[Qu rfl]
         have hl:=fun i' hi'=>Fal.less WL a3 hc i' hi'
         by_cases hm0:m > 0
         · rw[Qu hm0]
           have e2:lo+i - (m+1)=lo+(i - (m+1)):=jc
           rw[e2]
           obtain⟨t1,t2⟩:=Fal.turn WL a3 jc
           have hs3:i<=q3.size:=by rw[a3.og.sz];lia
           refine Qg (zX1 a1 hs3 fun st4 b1 b2 b3 b4 b5=>Qb ⟨_,0,rfl,b1,a2.tr ⟨b2,b3,b5⟩,gY WL jc jc t1 t2 fun i' hi'=>?_⟩)
           show lt _ _=true
           rw[rV hs3,rV hs3,Qs jc]
           split
           · exact hl _ jc
           · exact hl _ hi'
         · rw[Qs hm0]
           have:m=0:=jc
           subst this
           exact Qb ⟨q3,0,rfl,a1,a2,gY WL jc jc (Fal.dcr WL a3) a3.og hl⟩
       | false =>
         rw[Qs jb]
         refine Qg (ask hk3 a1 a3.og jc hi2 ?_)
         dsimp only
         cases hd:lt (lo+gg q3 (i - 1)) (lo+gg q3 i) with
         | true =>
           rw[Qu rfl]
           exact Qb ⟨q3,i,m,rfl,hi1,jc,a1,a2,a3⟩
         | false =>
           rw[Qs jb]
           have hnn:gg q3 i=i:=a3.og.hi i jc jc
           refine Qb ⟨q3,m+1,rfl,a1,a2,jc,fun x y hxy hy=>a3.dn x y hxy jc,fun x y hx hy hy'=>?_,fun x y hx hxy hy=>?_,a3.og.next jc⟩
           · by_cases e:y=i
             · subst e;exact WL.eql (a3.ac x (y - 1) jc jc jc) hd
             · exact a3.ac x y jc jc jc
           · by_cases e:y=i
             · subst e
               obtain⟨l1,l2⟩:=Fal.last WL a3 (i:=x) jc jc
               exact⟨WL.ntr l1 hd,WL.ntr hc l2,by rw[hnn];exact a3.og.lo x jc⟩
             · exact a3.eq x y jc hxy jc
     case dpost =>
       rintro c st3 ⟨q3,i,m,rfl,hi1,hi2,a1,a2,a3⟩
       dsimp only
       have hm:=a3.hq
       have hs3:i<=q3.size:=by rw[a3.og.sz];lia
       -- turned as a whole, and what rises zYA it
       have tail:∀(q4:Array Nat) (st4:SortSt),At it lo pre q4 st4->Alk st' st4->Dcr (fun a b=>lt (lo+a) (lo+b)) q4 i->Org M q4 i->wpS (model prog w) A E s (reverseSlice' lo (lo+i)) (fun _ st5=>∃q5,At it lo pre q5 st5/\Alk st' st5/\Srt (fun a b=>lt (lo+a) (lo+b)) q5 i/\Org M q5 i) st4:=fun q4 st4 b1 b2 b3 b4=>by
         have hs4:i<=q4.size:=by rw[b4.sz];lia
         exact zX1 (i:=0) b1 hs4 fun st5 c1 c2 c3 c4 c5=>⟨_,c1,b2.tr ⟨c2,c3,c5⟩,zQg hs4 b3,b4.rev hi2⟩
       by_cases hm0:m > 0
       · rw[Qu hm0]
         have e2:lo+i - (m+1)=lo+(i - (m+1)):=jc
         rw[e2]
         obtain⟨t1,t2⟩:=Fal.turn WL a3 hi2
         refine Qg (zX1 a1 hs3 fun st4 b1 b2 b3 b4 b5=>Qg (Em (tail _ st4 b1 (a2.tr ⟨b2,b3,b5⟩) t1 t2) ?_))
         rintro _ st5 ⟨q5,c1,c2,c3,c4⟩
         refine Qg (Em (Er (I:=fun k c st6=>c=(none,k)/\st6=st5/\Srt (fun a b=>lt (lo+a) (lo+b)) q5 k/\Org M q5 k) (Q:=fun c st6=>∃k,c=(none,k)/\st6=st5/\i<=k/\k<=M/\Srt (fun a b=>lt (lo+a) (lo+b)) q5 k/\Org M q5 k) ?_ ?_ ⟨rfl,rfl,c3,c4⟩) ?_)
         · intro k c st6 hk1 hk2 hI
           obtain⟨rfl,rfl,s1,s2⟩:=hI
           dsimp only
           have e1:lo+k - 1=lo+(k - 1):=jc
           rw[e1]
           refine Qg (ask (c2.k.trans hk) c1 s2 hk2 jc ?_)
           dsimp only
           cases hc:lt (lo+gg q5 k) (lo+gg q5 (k - 1)) with
           | true=>rw[Qu rfl];exact Qb ⟨k,rfl,rfl,hk1,jc,s1,s2⟩
           | false=>rw[Qs jb];exact Qb ⟨rfl,rfl,zZT WL jc hk2 s1 s2 hc,s2.next hk2⟩
         · rintro c st6 ⟨rfl,rfl,s1,s2⟩
           have e:max i M=M:=jc
           rw[e] at s1 s2 ⊢
           exact⟨M,rfl,rfl,hi2,Qf _,s1,s2⟩
         · rintro c st6 ⟨k,rfl,rfl,k1,k2,s1,s2⟩
           exact Qb (hQ k q5 st6 c1 c2 ⟨by show 1<=k;lia,k2,s1,s2⟩)
       · rw[Qs hm0]
         have:m=0:=jc
         subst this
         refine Qg (Em (tail _ st3 a1 a2 (Fal.dcr WL a3) a3.og) ?_)
         rintro _ st5 ⟨q5,c1,c2,c3,c4⟩
         refine Qg (Em (Er (I:=fun k c st6=>c=(none,k)/\st6=st5/\Srt (fun a b=>lt (lo+a) (lo+b)) q5 k/\Org M q5 k) (Q:=fun c st6=>∃k,c=(none,k)/\st6=st5/\i<=k/\k<=M/\Srt (fun a b=>lt (lo+a) (lo+b)) q5 k/\Org M q5 k) ?_ ?_ ⟨rfl,rfl,c3,c4⟩) ?_)
         · intro k c st6 hk1 hk2 hI
           obtain⟨rfl,rfl,s1,s2⟩:=hI
           dsimp only
           have e1:lo+k - 1=lo+(k - 1):=jc
           rw[e1]
           refine Qg (ask (c2.k.trans hk) c1 s2 hk2 jc ?_)
           dsimp only
           cases hc:lt (lo+gg q5 k) (lo+gg q5 (k - 1)) with
           | true=>rw[Qu rfl];exact Qb ⟨k,rfl,rfl,hk1,jc,s1,s2⟩
           | false=>rw[Qs jb];exact Qb ⟨rfl,rfl,zZT WL jc hk2 s1 s2 hc,s2.next hk2⟩
         · rintro c st6 ⟨rfl,rfl,s1,s2⟩
           have e:max i M=M:=jc
           rw[e] at s1 s2 ⊢
           exact⟨M,rfl,rfl,hi2,Qf _,s1,s2⟩
         · rintro c st6 ⟨k,rfl,rfl,k1,k2,s1,s2⟩
           exact Qb (hQ k q5 st6 c1 c2 ⟨by show 1<=k;lia,k2,s1,s2⟩)
theorem zOz {q:Array Nat}{n m:Nat}{Q:Bool->SortSt->Prop}{st:SortSt}(hk:kindOf st=κ)(h:At it lo pre q st)(h1:1<=n)(hnm:n<=m)(hmM:m<=M)(hs:Srt (fun a b=>lt (lo+a) (lo+b)) q n)(ho:Org M q n)
   (hQ:∀q' st',At it lo pre q' st'->Alk st st'->Srt (fun a b=>lt (lo+a) (lo+b)) q' m->Org M q' m->Q true st'):wpS (model prog w) A E s (binarySort' lo m n) Q st:=by
 have WL:=zVN W lo
 rw[binarySort'_eq]
 have e1:max n 1=n:=jc
 rw[e1]
 refine Qg (Em (Er (I:=fun k c st2=>c=(none,())/\∃q2,At it lo pre q2 st2/\Alk st st2/\Srt (fun a b=>lt (lo+a) (lo+b)) q2 k/\Org M q2 k) (Q:=fun c st2=>c=(none,())/\∃q2,At it lo pre q2 st2/\Alk st st2/\Srt (fun a b=>lt (lo+a) (lo+b)) q2 m/\Org M q2 m) ?step ?fin ⟨rfl,q,h,.rfl',hs,ho⟩) ?post)
 case fin =>
   rintro c st2 ⟨rfl,q2,a1,a2,a3,a4⟩
   have e:max n m=m:=jc
   rw[e] at a3 a4
   exact⟨rfl,q2,a1,a2,a3,a4⟩
 case post =>
   rintro c st2 ⟨rfl,q2,a1,a2,a3,a4⟩
   exact Qb (hQ q2 st2 a1 a2 a3 a4)
 case step =>
   rintro k c st2 hk1 hk2 ⟨rfl,q2,a1,a2,a3,a4⟩
   dsimp only
   refine Qg (Em (Er (I:=fun x c st3=>st3=st2/\∃l r,c=(none,l,r)/\l<=r/\r<=k/\r - l<=k - x/\(∀i,i < l->lt (lo+gg q2 k) (lo+gg q2 i)=false)/\(∀i,r<=i->i < k->lt (lo+gg q2 k) (lo+gg q2 i)=true))
     (Q:=fun c st3=>st3=st2/\∃l r,c=(none,l,r)/\l<=k/\(∀i,i < l->lt (lo+gg q2 k) (lo+gg q2 i)=false)/\(∀i,l<=i->i < k->lt (lo+gg q2 k) (lo+gg q2 i)=true)) ?istep ?ifin ⟨rfl,0,k,rfl,Ei _,Qf _,Qf _,fun i hi=>jc,fun i h1 h2=>jc⟩) ?ipost)
   case ifin =>
     rintro c st3 ⟨rfl,l,r,rfl,b1,b2,b3,b4,b5⟩
     have:r - l<=k - max 0 k:=b3
     exact⟨rfl,l,r,rfl,jc,b4,fun i hi=>b5 i jc⟩
   case istep =>
     rintro x c st3 hx1 hx2 ⟨rfl,l,r,rfl,b1,b2,b3,b4,b5⟩
     dsimp only
     by_cases hge:l≥r
     · rw[Qu hge]
       exact Qb ⟨rfl,l,r,rfl,jc,b4,fun i hi=>b5 i jc⟩
     · rw[Qs hge]
       refine Qg (zU9 hq (a2.k.trans hk) a1 (by rw[a4.sz];lia) (by rw[a4.sz];lia) (by have:=a4.bd (i:=k) jc;lia) (by have:=a4.bd (i:=(l+r) / 2) jc;lia) ?_)
       dsimp only
       cases hc:lt (lo+gg q2 k) (lo+gg q2 ((l+r) / 2)) with
       | true =>
         rw[Qu rfl]
         refine Qb ⟨rfl,l,(l+r) / 2,rfl,jc,jc,jc,b4,fun i hi hik=>?_⟩
         by_cases e:i=(l+r) / 2
         · rw[e];exact hc
         · exact W.eqr hc (Lx.le WL (a3 ((l+r) / 2) i jc hik))
       | false =>
         rw[Qs jb]
         refine Qb ⟨rfl,(l+r) / 2+1,r,rfl,jc,b2,jc,fun i hi=>?_,b5⟩
         by_cases e:i=(l+r) / 2
         · rw[e];exact hc
         · exact W.ntr hc (Lx.le WL (a3 i ((l+r) / 2) jc jc))
   case ipost =>
     rintro c st3 ⟨rfl,l,r,rfl,b1,b2,b3⟩
     dsimp only
     obtain⟨t1,t2⟩:=zSe WL jc b1 a3 a4 b2 b3
     exact Qg (zP0 a1 (by rw[a4.sz];lia) b1 fun st4 c1 c2 c3 c4 c5=>Qb ⟨rfl,_,c1,a2.tr ⟨c2,c3,c5⟩,t1,t2⟩)
end
end
end L2
namespace L2
open PySem PySem.W PyProof.Rows
def zQa:Bool->Keyed->Array Keyed->Nat->Nat->Nat->StateT SortSt Sem (Option Nat):=sortPriv% PySem.Builtin.gallop
section
variable {prog:Program} {w:World} {A:Around} {E:jk} {s:Shared} {κ:SortKind} {it:Array Keyed} {lt:Nat->Nat->Bool} {N:Nat}
abbrev GSt:=Option (Option Nat)×Nat×Nat
theorem zYZ {n:Nat}{body:Nat->GSt->StateT SortSt Sem (ForInStep GSt)}{bd:Nat->Bool}{st:SortSt}{Q:GSt->SortSt->Prop}(mono:∀i j,i<=j->j < n->bd j=true->bd i=true)
   (h1:∀x lo hi,lo≥hi->body x (none,lo,hi)=pure (.done (none,lo,hi)))
   (h2:∀x lo hi (R:ForInStep GSt->SortSt->Prop),lo < hi->hi<=n->(bd (lo+(hi - lo) / 2)=true->R (.yield (none,lo+(hi - lo) / 2+1,hi)) st)->(bd (lo+(hi - lo) / 2)=false->R (.yield (none,lo,lo+(hi - lo) / 2)) st)->wpS (model prog w) A E s (body x (none,lo,hi)) R st)
   {lo hi:Nat} (hlh:lo<=hi) (hhn:hi<=n) (a1:∀i,i < lo->bd i=true) (a2:∀i,hi<=i->i < n->bd i=false)
   (hQ:∀l r,r<=n->(∀i,i < r->bd i=true)->(∀i,r<=i->i < n->bd i=false)->Q (none,l,r) st):wpS (model prog w) A E s (forIn [0:n] ((none,lo,hi):GSt) body) Q st:=by
 refine Em (Er (I:=fun x c st'=>st'=st/\∃l r,c=(none,l,r)/\l<=r/\r<=n/\r - l<=n - x/\(∀i,i < l->bd i=true)/\(∀i,r<=i->i < n->bd i=false))
   (Q:=fun c st'=>st'=st/\∃l r,c=(none,l,r)/\r<=n/\(∀i,i < r->bd i=true)/\(∀i,r<=i->i < n->bd i=false)) ?step ?fin ⟨rfl,lo,hi,rfl,hlh,hhn,jc,a1,a2⟩) ?post
 case fin =>
   rintro c st' ⟨rfl,l,r,rfl,b1,b2,b3,b4,b5⟩
   exact⟨rfl,l,r,rfl,b2,fun i hi=>b4 i jc,b5⟩
 case post =>
   rintro c st' ⟨rfl,l,r,rfl,b1,b2,b3⟩
   exact hQ l r b1 b2 b3
 case step =>
   rintro x c st' _ hx ⟨rfl,l,r,rfl,b1,b2,b3,b4,b5⟩
   by_cases hge:l≥r
   · rw[h1 x l r hge]
     exact Qb ⟨rfl,l,r,rfl,b2,fun i hi=>b4 i jc,b5⟩
   · refine h2 x l r _ jc b2 (fun hc=>?_) fun hc=>?_
     · exact⟨rfl,_,_,rfl,jc,b2,jc,fun i hi=>mono i _ jc jc hc,b5⟩
     · refine⟨rfl,_,_,rfl,jc,jc,jc,b4,fun i hi hin=>?_⟩
       cases hb:bd i with
       | false=>rfl
       | true=>rw[mono _ i hi hin hb] at hc;cases hc
theorem zS0 {n mx:Nat}{body:Nat->GSt->StateT SortSt Sem (ForInStep GSt)}{go:Nat->Bool}{st:SortSt}{Q:GSt->SortSt->Prop}(hmx:mx<=n)(hm1:1<=mx)
   (h1:∀x l o,o≥mx->body x (none,l,o)=pure (.done (none,l,o)))
   (h2:∀x l o (R:ForInStep GSt->SortSt->Prop),1<=o->o < mx->(go o=true->R (.yield (none,o,2*o+1)) st)->(go o=false->R (.done (none,l,o)) st)->wpS (model prog w) A E s (body x (none,l,o)) R st) (h0:go 0=true)
   (hQ:∀l o,l < o->l < mx->go l=true->(o≥mx∨go o=false)->Q (none,l,o) st):wpS (model prog w) A E s (forIn [0:n] ((none,0,1):GSt) body) Q st:=by
 refine Em (Er (I:=fun x c st'=>st'=st/\∃l o,c=(none,l,o)/\l < o/\l < mx/\go l=true/\x+1<=o)
   (Q:=fun c st'=>st'=st/\∃l o,c=(none,l,o)/\l < o/\l < mx/\go l=true/\(o≥mx∨go o=false)) ?step ?fin ⟨rfl,0,1,rfl,jc,jc,h0,jc⟩) ?post
 case fin =>
   rintro c st' ⟨rfl,l,o,rfl,b1,b2,b3,b4⟩
   have:max 0 n+1<=o:=b4
   exact⟨rfl,l,o,rfl,b1,b2,b3,.inl jc⟩
 case post =>
   rintro c st' ⟨rfl,l,o,rfl,b1,b2,b3,b4⟩
   exact hQ l o b1 b2 b3 b4
 case step =>
   rintro x c st' _ hx ⟨rfl,l,o,rfl,b1,b2,b3,b4⟩
   by_cases hge:o≥mx
   · rw[h1 x l o hge]
     exact Qb ⟨rfl,l,o,rfl,b1,b2,b3,.inl hge⟩
   · exact h2 x l o _ jc jc (fun hc=>⟨rfl,_,_,rfl,jc,jc,hc,jc⟩) fun hc=>⟨rfl,l,o,rfl,b1,b2,b3,.inr hc⟩
theorem qX {left:Bool}{kk base n hint:Nat}{arr:Array Keyed}{f:Nat->Nat}{Q:Option Nat->SortSt->Prop}{st:SortSt}(hq:Orc prog w A s κ it lt N)(hk:kindOf st=κ)(hkk:kk < N)(hf:∀i,i < n->arr[base+i]?=some (kas_item it (f i))/\f i < N)
   (bd:Nat->Bool) (hbd:∀i,bd i=if left=true then lt (f i) kk else !lt kk (f i)) (mono:∀i j,i<=j->j < n->bd j=true->bd i=true) (hh:hint < n)
   (hQ:∀r,r<=n->(∀i,i < r->bd i=true)->(∀i,r<=i->i < n->bd i=false)->Q (some r) st):wpS (model prog w) A E s (zQa left (kas_item it kk) arr base n hint) Q st:=by
 have ask:∀i (R:Option Bool->SortSt->Prop),i < n->R (some (bd i)) st->wpS (model prog w) A E s (elem' arr (base+i) >>= fun x=>if left=true then lt' x (kas_item it kk) else(lt' (kas_item it kk) x >>= fun b=>pure (b.map (!·)))) R st:=fun i R hi hR=>by
   obtain⟨e1,e2⟩:=hf i hi
   refine Qg (yH (α:=Unit) e1 ?_)
   have e:=hbd i
   cases left with
   | true =>
     rw[Qu rfl] at e ⊢
     exact zWH hq hk e2 hkk (by rw[←e];exact hR)
   | false =>
     rw[Qs jb] at e ⊢
     refine Qg (zWH hq hk hkk e2 (Qb ?_))
     show R (some (!lt kk (f i))) st
     rw[←e];exact hR
 refine Qg (ask hint _ hh ?_)
 dsimp only
 cases hr:bd hint with
 | true =>
   rw[Qu rfl]
   refine Qg (zS0 (mx:=n - hint) (go:=fun o=>bd (hint+o)) jc jc (fun x l o ho=>?_) (fun x l o R o1 o2 g1 g2=>?_) hr fun l o b1 b2 b3 b4=>?_)
   · exact Qu ho
   · refine(Eo (fun m=>wpS (model prog w) A E s m R st) (Qs (Nat.not_le.mpr o2))).mpr ?_
     refine Qg (ask (hint+o) _ jc ?_)
     dsimp only
     cases hc:bd (hint+o) with
     | true=>rw[Qs jb];exact Qb (g1 hc)
     | false=>rw[Qu (show(!false)=true from rfl)];exact Qb (g2 hc)
   · dsimp only
     refine Qg (zYZ (bd:=bd) mono (fun x l r hx=>Qu hx) (fun x l r R q1 q2 g1 g2=>?_) jc jc (fun i hi=>mono i (hint+l) jc jc b3) (fun i h1 h2=>?_) fun l' r q1 q2 q3=>Qb (hQ r q1 q2 q3))
     · refine(Eo (fun m=>wpS (model prog w) A E s m R st) (Qs (Nat.not_le.mpr q1))).mpr ?_
       refine Qg (ask (l+(r - l) / 2) _ jc ?_)
       dsimp only
       cases hc:bd (l+(r - l) / 2) with
       | true=>rw[Qu rfl];exact Qb (g1 hc)
       | false=>rw[Qs jb];exact Qb (g2 hc)
     · rcases b4 with b4 | b4
       · lia
       · cases hb:bd i with
         | false=>rfl
         | true=>rw[mono (hint+o) i jc h2 hb] at b4;cases b4
 | false =>
   rw[Qs jb]
   refine Qg (zS0 (mx:=hint+1) (go:=fun o => !bd (hint - o)) jc jc (fun x l o ho=>?_) (fun x l o R o1 o2 g1 g2=>?_) (by show(!bd (hint - 0))=true;rw[Nat.sub_zero,hr];rfl) fun l o b1 b2 b3 b4=>?_)
   · exact Qu ho
   · refine(Eo (fun m=>wpS (model prog w) A E s m R st) (Qs (Nat.not_le.mpr o2))).mpr ?_
     refine Qg (ask (hint - o) _ jc ?_)
     dsimp only
     cases hc:bd (hint - o) with
     | true=>rw[Qu rfl];exact Qb (g2 (by show(!bd (hint - o))=false;rw[hc];rfl))
     | false=>rw[Qs jb];exact Qb (g1 (by show(!bd (hint - o))=true;rw[hc];rfl))
   · dsimp only
     have b3':bd (hint - l)=false:=by simpa using b3
     refine Qg (zYZ (bd:=bd) mono (fun x l r hx=>Qu hx) (fun x l r R q1 q2 g1 g2=>?_) jc jc (fun i hi=>?_) (fun i h1 h2=>?_) fun l' r q1 q2 q3=>Qb (hQ r q1 q2 q3))
     · refine(Eo (fun m=>wpS (model prog w) A E s m R st) (Qs (Nat.not_le.mpr q1))).mpr ?_
       refine Qg (ask (l+(r - l) / 2) _ jc ?_)
       dsimp only
       cases hc:bd (l+(r - l) / 2) with
       | true=>rw[Qu rfl];exact Qb (g1 hc)
       | false=>rw[Qs jb];exact Qb (g2 hc)
     · rcases b4 with b4 | b4
       · lia
       · have b4':bd (hint - o)=true:=by simpa using b4
         exact mono i (hint - o) jc jc b4'
     · cases hb:bd i with
       | false=>rfl
       | true=>rw[mono (hint - l) i jc h2 hb] at b3';cases b3'
end
end L2
namespace L2
open PySem PySem.W PyProof.Rows
section
variable {lt:Nat->Nat->Bool} {xs ys os:List Nat} {ia ib k:Nat}
structure Two (lt:Nat->Nat->Bool)(xs ys:List Nat):Prop where
 x:xs.Pairwise (Lx lt)
 y:ys.Pairwise (Lx lt)
 o:∀a∈xs,∀b∈ys,a < b
def Mrg (lt:Nat->Nat->Bool)(xs ys zs:List Nat):Prop:=zs.Perm (xs++ys)/\zs.Pairwise (Lx lt)
structure Far (lt:Nat->Nat->Bool)(xs ys os:List Nat)(ia ib:Nat):Prop where
 pm:os.Perm (xs.take ia++ys.take ib)
 up:os.Pairwise (Lx lt)
 lx:∀o∈os,∀x∈xs.drop ia,Lx lt o x
 ly:∀o∈os,∀y∈ys.drop ib,Lx lt o y
theorem take_add (l:List Nat)(i k:Nat):l.take (i+k)=l.take i++(l.drop i).take k:=List.take_add
theorem zXv {l:List Nat}{i k:Nat}{x:Nat}(h:x∈l.drop (i+k)):x∈l.drop i:=by
 rw[←Pg] at h
 exact Wx h
theorem pC {l:List Nat}(h:l.Pairwise (Lx lt))(i:Nat):(l.drop i).Pairwise (Lx lt):=h.sublist (Oo _ _)
theorem bP {l:List Nat}(h:l.Pairwise (Lx lt))(k:Nat):∀a∈l.take k,∀b∈l.drop k,Lx lt a b:=by
 have e:l=l.take k++l.drop k:=(Wm k l).symm
 rw[e] at h
 exact fun a ha b hb=>(Qx.mp h).2.2 a ha b hb
theorem Far.pY (T:Two lt xs ys)(h:Far lt xs ys os ia ib)(k:Nat)(hk:∀y∈(ys.drop ib).take k,∀x∈xs.drop ia,Lx lt y x):Far lt xs ys (os++(ys.drop ib).take k) ia (ib+k):=by
 refine⟨?_,?_,fun o ho x hx=>?_,fun o ho y hy=>?_⟩
 · rw[take_add,←Qm]
   exact h.pm.append_right _
 · refine Qx.mpr ⟨h.up,(pC T.y ib).sublist (Es _ _),fun a ha b hb=>h.ly a ha b (Wc hb)⟩
 · rcases Wq.mp ho with ho | ho
   · exact h.lx o ho x hx
   · exact hk o ho x hx
 · rcases Wq.mp ho with ho | ho
   · exact h.ly o ho y (zXv hy)
   · rw[←Pg] at hy
     exact bP (pC T.y ib) k o ho y hy
theorem Far.pX (T:Two lt xs ys)(h:Far lt xs ys os ia ib)(k:Nat)(hk:∀x∈(xs.drop ia).take k,∀y∈ys.drop ib,Lx lt x y):Far lt xs ys (os++(xs.drop ia).take k) (ia+k) ib:=by
 refine⟨?_,?_,fun o ho x hx=>?_,fun o ho y hy=>?_⟩
 · rw[take_add]
   refine(h.pm.append_right _).trans ?_
   rw[Qm,Qm]
   exact(Eg).append_left _
 · refine Qx.mpr ⟨h.up,(pC T.x ia).sublist (Es _ _),fun a ha b hb=>h.lx a ha b (Wc hb)⟩
 · rcases Wq.mp ho with ho | ho
   · exact h.lx o ho x (zXv hx)
   · rw[←Pg] at hx
     exact bP (pC T.x ia) k o ho x hx
 · rcases Wq.mp ho with ho | ho
   · exact h.ly o ho y hy
   · exact hk o ho y hy
theorem Far.pmAll (h:Far lt xs ys os ia ib):(os++(xs.drop ia++ys.drop ib)).Perm (xs++ys):=by
 refine(h.pm.append_right _).trans ?_
 have e:xs++ys=(xs.take ia++xs.drop ia)++(ys.take ib++ys.drop ib):=by rw[Wm,Wm]
 rw[e,Qm,Qm]
 refine List.Perm.append_left _ ?_
 rw[←Qm,←Qm]
 exact(Eg).append_right _
theorem Far.done (T:Two lt xs ys)(h:Far lt xs ys os ia ib)(hx:∀x∈xs.drop ia,∀y∈ys.drop ib,Lx lt x y):Mrg lt xs ys (os++xs.drop ia++ys.drop ib):=by
 rw[Qm]
 refine⟨h.pmAll,Qx.mpr ⟨h.up,Qx.mpr ⟨pC T.x ia,pC T.y ib,hx⟩,fun a ha b hb=>?_⟩⟩
 rcases Wq.mp hb with hb | hb
 · exact h.lx a ha b hb
 · exact h.ly a ha b hb
theorem Far.last (T:Two lt xs ys)(h:Far lt xs ys os ia ib)(hx:∀y∈ys.drop ib,∀x∈xs.drop ia,Lx lt y x):Mrg lt xs ys (os++ys.drop ib++xs.drop ia):=by
 rw[Qm]
 refine⟨((Eg).append_left _).trans h.pmAll,Qx.mpr ⟨h.up,Qx.mpr ⟨pC T.y ib,pC T.x ia,hx⟩,fun a ha b hb=>?_⟩⟩
 rcases Wq.mp hb with hb | hb
 · exact h.ly a ha b hb
 · exact h.lx a ha b hb
end
end L2
namespace L2
open PySem PySem.W PyProof.Rows
def zR4:Array Keyed->Array Keyed->StateT SortSt Sem (Array Keyed):=sortPriv% PySem.Builtin.mergeLo
def Ar (it:Array Keyed)(l:List Nat):Array Keyed:=(l.map (kas_item it)).toArray
section
variable {it:Array Keyed}
theorem zB (l:List Nat):(Ar it l).size=l.length:=by simp[Ar]
theorem xK {l:List Nat}{i:Nat}(h:i < l.length):(Ar it l)[i]?=some (kas_item it (l.getD i 0)):=by simp[Ar,h]
theorem xS (l m:List Nat):Ar it l++Ar it m=Ar it (l++m):=by simp[Ar]
theorem gL (l:List Nat)(x:Nat):(Ar it l).push (kas_item it x)=Ar it (l++[x]):=by simp[Ar]
theorem wU (l:List Nat)(i:Nat):(Ar it l).extract i (Ar it l).size=Ar it (l.drop i):=by
 apply Rq.mp
 simp[Ar,Yz]
 rw[Ej je]
theorem zVo (l:List Nat)(i k:Nat):(Ar it l).extract i (i+k)=Ar it ((l.drop i).take k):=by
 apply Rq.mp
 simp[Ar,Yz,Yt]
theorem yL {l:List Nat}{i:Nat}(h:i < l.length):l.getD i 0∈l:=by simp[h]
theorem zTE {l:List Nat}{i:Nat}(h:i < l.length):l.drop i=l.getD i 0::l.drop (i+1):=by
 rw[Ez h];simp[h]
theorem uY {l:List Nat}{i:Nat}(h:i < l.length):(l.drop i).take 1=[l.getD i 0]:=by rw[zTE h];rfl
theorem oY {l:List Nat}{i k x:Nat}(h:x∈(l.drop i).take k):∃j,j < k/\i+j < l.length/\x=l.getD (i+j) 0:=by
 obtain⟨j,hj,e⟩:=List.mem_iff_getElem.mp h
 have h1:j < k/\j < (l.drop i).length:=by rw[Qj] at hj;lia
 have h2:i+j < l.length:=by rw[Wu] at h1;lia
 refine⟨j,h1.1,h2,?_⟩
 rw[←e]
 simp[h2]
theorem nS {l:List Nat}{i x:Nat}(h:x∈l.drop i):∃j,i+j < l.length/\x=l.getD (i+j) 0:=by
 obtain⟨j,hj,e⟩:=List.mem_iff_getElem.mp h
 have h2:i+j < l.length:=by rw[Wu] at hj;lia
 exact⟨j,h2,by rw[←e];simp[h2]⟩
theorem kW {lt:Nat->Nat->Bool}{l:List Nat}(h:l.Pairwise (Lx lt)){i j:Nat}(hij:i < j)(hj:j < l.length):Lx lt (l.getD i 0) (l.getD j 0):=by
 have:=Rh.mp h i j jc hj hij
 have hi:i < l.length:=jc
 simpa [hi,hj] using this
structure Gly (st st':SortSt):Prop where
 k:kindOf st'=kindOf st
 a:arrOf st'=arrOf st
 p:pendingOf st'=pendingOf st
 f:failedOf st'=failedOf st
theorem Gly.rfl' {st:SortSt}:Gly st st:=⟨rfl,rfl,rfl,rfl⟩
variable {prog:Program} {w:World} {A:Around} {E:jk} {s:Shared} {κ:SortKind} {lt:Nat->Nat->Bool} {N:Nat}
theorem zWT {α:Type}{c:Prop}{dc:Decidable c}{F:Nat->StateT SortSt Sem α}{a b:Nat}{Q:α->SortSt->Prop}{st:SortSt}(h:∀g,wpS (model prog w) A E s (F g) Q st):wpS (model prog w) A E s (if c then F a else F b) Q st:=by
 split
 · exact h a
 · exact h b
theorem zNa {xs ys:List Nat}{Q:Array Keyed->SortSt->Prop}{st:SortSt}(W:SWO lt)(hq:Orc prog w A s κ it lt N)(hk:kindOf st=κ)(T:Two lt xs ys)(hxN:∀i∈xs,i < N)(hyN:∀i∈ys,i < N)(hx:0 < xs.length)(hy:0 < ys.length)
   (h1:lt (ys.getD 0 0) (xs.getD 0 0)=true) (h2:lt (ys.getD (ys.length - 1) 0) (xs.getD (xs.length - 1) 0)=true) (hQ:∀zs st',Mrg lt xs ys zs->Gly st st'->Q (Ar it zs) st'):wpS (model prog w) A E s (zR4 (Ar it xs) (Ar it ys)) Q st:=by
 have lastY:∀y∈ys,lt y (xs.getD (xs.length - 1) 0)=true:=fun y hy'=>by
   obtain⟨j,hj,rfl⟩:=nS (i:=0) (by simpa using hy')
   by_cases e:0+j=ys.length - 1
   · rw[e];exact h2
   · exact W.eql h2 (Lx.le W (kW T.y (i:=0+j) (j:=ys.length - 1) jc jc))
 have lastL:∀ {ia ib:Nat},ia+1=xs.length->∀y∈ys.drop ib,∀x∈xs.drop ia,Lx lt y x:=fun {ia ib} e y hy' x hx'=>by
   obtain⟨j,hj,rfl⟩:=nS hx'
   have:ia+j=xs.length - 1:=jc
   rw[this]
   exact .inl (lastY y (Wx hy'))
 -- what is less than the first of the rest is less than the rest
 have lessX:∀ {y ia:Nat},ia < xs.length->lt y (xs.getD ia 0)=true->∀x∈xs.drop ia,Lx lt y x:=fun {y ia} hia hc x hx'=>by
   obtain⟨j,hj,rfl⟩:=nS hx'
   cases j with
   | zero=>exact .inl hc
   | succ j=>exact Lx.trans W (.inl hc) (kW T.x jc hj)
 have lessY:∀ {ia ib:Nat},ia < xs.length->ib < ys.length->lt (ys.getD ib 0) (xs.getD ia 0)=false->∀y∈ys.drop ib,Lx lt (xs.getD ia 0) y:=fun {ia ib} hia hib hc y hy'=>by
   obtain⟨j,hj,rfl⟩:=nS hy'
   have l0:Lx lt (xs.getD ia 0) (ys.getD ib 0):=Lx.of W hc (T.o _ (yL hia) _ (yL hib))
   cases j with
   | zero=>exact l0
   | succ j=>exact Lx.trans W l0 (kW T.y jc hj)
 have F0:Far lt xs ys [] 0 0:=⟨je,.nil,fun o ho=>(nomatch ho),fun o ho=>(nomatch ho)⟩
 have F1:Far lt xs ys [ys.getD 0 0] 0 1:=by
   have:=F0.pY T 1 (fun y hy' x hx'=>by rw[uY hy] at hy';rw[Wr.mp hy'];exact lessX hx h1 x hx')
   rw[uY hy] at this
   simpa using this
 refine Qg (Ib (Tv ⟨rfl,?_⟩))
 refine Qg (yH (α:=Unit) (xK hy) ?_)
 dsimp only
 have eo:(#[kas_item it (ys.getD 0 0)]:Array Keyed)=Ar it [ys.getD 0 0]:=rfl
 rw[eo]
 by_cases hb1:1=ys.length
 · rw[Qu (by rw[zB];simpa using hb1),wU,wU,xS,xS]
   refine Qb (hQ _ _ (F1.done T fun x _ y hy'=>?_) .rfl')
   rw[Ek jc] at hy'
   cases hy'
 rw[Qs (by rw[zB];simpa using hb1)]
 by_cases ha1:0+1=xs.length
 · rw[Qu (by rw[zB];simpa using ha1),wU,wU,xS,xS]
   exact Qb (hQ _ _ (F1.last T (lastL ha1)) .rfl')
 rw[Qs (by rw[zB];simpa using ha1)]
 refine Qg (Uu ?_)
 refine Qg (Em (Er (I:=fun x c st'=>∃o os ia ib g,c=(none,o,ia,ib,g)/\o=Ar it os/\Gly st st'/\Far lt xs ys os ia ib/\ia+1 < xs.length/\ib < ys.length/\x<=ia+ib)
   (Q:=fun c st'=>∃zs r,c=(some (Ar it zs),r)/\Mrg lt xs ys zs/\Gly st st') ?step ?fin ⟨_,_,0,1,_,rfl,rfl,.rfl',F1,jc,jc,jc⟩) ?post)
 case fin =>
   rintro c st' ⟨o,os,ia,ib,g,rfl,rfl,a1,a2,a3,a4,a5⟩
   rw[zB,zB] at a5
   lia
 case post =>
   rintro c st' ⟨zs,r,rfl,a1,a2⟩
   exact Qb (hQ zs st' a1 a2)
 case step =>
   rintro x c st' _ hx' ⟨o,os,ia,ib,g,rfl,ho,a1,a2,a3,a4,a5⟩
   dsimp only
   refine Qg (Em (Er (I:=fun x c st2=>st2=st'/\∃o os ia' ib' p q,c=(none,o,ia',ib',p,q)/\o=Ar it os/\Far lt xs ys os ia' ib'/\ia'+1 < xs.length/\ib' < ys.length/\x+(ia+ib)<=ia'+ib')
     (Q:=fun c st2=>st2=st'/\((∃zs r,c=(some (Ar it zs),r)/\Mrg lt xs ys zs)∨∃o os ia' ib' p q,c=(none,o,ia',ib',p,q)/\o=Ar it os/\Far lt xs ys os ia' ib'/\ia'+1 < xs.length/\ib' < ys.length/\ia+ib+1<=ia'+ib')) ?step1 ?fin1 ⟨rfl,o,os,ia,ib,0,0,rfl,ho,a2,a3,a4,jc⟩) ?post1)
   case fin1 =>
     rintro c st2 ⟨rfl,o,os,ia',ib',p,q,rfl,rfl,b1,b2,b3,b4⟩
     rw[zB,zB] at b4
     lia
   case step1 =>
     rintro x c st2 _ _ ⟨rfl,o,os,ia',ib',p,q,rfl,rfl,b1,b2,b3,b4⟩
     dsimp only
     refine Qg (yH (α:=Unit) (xK b3) (Qg (yH (α:=Unit) (xK jc) ?_)))
     refine Qg (zWH hq (a1.k.trans hk) (hyN _ (yL b3)) (hxN _ (yL jc)) ?_)
     dsimp only
     cases hc:lt (ys.getD ib' 0) (xs.getD ia' 0) with
     | true =>
       rw[Qu rfl]
       refine Qg (yH (α:=Unit) (xK b3) ?_)
       try dsimp only
       rw[gL]
       have F2:Far lt xs ys (os++[ys.getD ib' 0]) ia' (ib'+1):=by
         have:=b1.pY T 1 (fun y hy' x hx'=>by rw[uY b3] at hy';rw[Wr.mp hy'];exact lessX jc hc x hx')
         rwa[uY b3] at this
       by_cases e:ib'+1=ys.length
       · rw[Qu (by rw[zB];simpa using e),wU,wU,xS,xS]
         refine Qb ⟨rfl,.inl ⟨_,_,rfl,F2.done T fun x _ y hy'=>?_⟩⟩
         rw[Ek jc] at hy'
         cases hy'
       · rw[Qs (by rw[zB];simpa using e)]
         split
         · exact Qb ⟨rfl,.inr ⟨_,_,_,_,_,_,rfl,rfl,F2,b2,jc,jc⟩⟩
         · exact Qb ⟨rfl,_,_,_,_,_,_,rfl,rfl,F2,b2,jc,jc⟩
     | false =>
       rw[Qs jb]
       refine Qg (yH (α:=Unit) (xK jc) ?_)
       try dsimp only
       rw[gL]
       have F2:Far lt xs ys (os++[xs.getD ia' 0]) (ia'+1) ib':=by
         have:=b1.pX T 1 (fun x hx' y hy'=>by rw[uY jc] at hx';rw[Wr.mp hx'];exact lessY jc b3 hc y hy')
         rwa[uY jc] at this
       by_cases e:ia'+1+1=xs.length
       · rw[Qu (by rw[zB];simpa using e),wU,wU,xS,xS]
         exact Qb ⟨rfl,.inl ⟨_,_,rfl,F2.last T (lastL e)⟩⟩
       · rw[Qs (by rw[zB];simpa using e)]
         split
         · exact Qb ⟨rfl,.inr ⟨_,_,_,_,_,_,rfl,rfl,F2,jc,b3,jc⟩⟩
         · exact Qb ⟨rfl,_,_,_,_,_,_,rfl,rfl,F2,jc,b3,jc⟩
   case post1 =>
     rintro c st2 ⟨rfl,hcc⟩
     rcases hcc with⟨zs,r,rfl,hm⟩ | ⟨o2,os2,ia2,ib2,p2,q2,rfl,ho2,b1,b2,b3,b4⟩
     · exact Qb ⟨zs,_,rfl,hm,a1⟩
     · dsimp only
       refine Qg (Ib (Tv ⟨rfl,?_⟩))
       refine Qg (Em (Er (I:=fun x c st3=>Gly st st3/\∃o os ia' ib' g p q,c=(none,o,ia',ib',g,p,q)/\o=Ar it os/\Far lt xs ys os ia' ib'/\ia'+1 < xs.length/\ib' < ys.length/\x+(ia2+ib2)<=ia'+ib')
         (Q:=fun c st3=>Gly st st3/\((∃zs r,c=(some (Ar it zs),r)/\Mrg lt xs ys zs)∨∃o os ia' ib' g p q,c=(none,o,ia',ib',g,p,q)/\o=Ar it os/\Far lt xs ys os ia' ib'/\ia'+1 < xs.length/\ib' < ys.length/\ia2+ib2<=ia'+ib')) ?step2 ?fin2 ⟨a1,o2,os2,ia2,ib2,_,p2,q2,rfl,ho2,b1,b2,b3,jc⟩) ?post2)
       case fin2 =>
         rintro c st3 ⟨c0,o,os,ia',ib',g,p,q,rfl,rfl,c1,c2,c3,c4⟩
         rw[zB,zB] at c4
         lia
       case post2 =>
         rintro c st3 ⟨c0,hcc⟩
         rcases hcc with⟨zs,r,rfl,hm⟩ | ⟨o3,os3,ia3,ib3,g3,p3,q3,rfl,ho3,c1,c2,c3,c4⟩
         · exact Qb ⟨zs,_,rfl,hm,c0⟩
         · exact Qg (Tc (Qb ⟨o3,os3,ia3,ib3,_,rfl,ho3,⟨c0.k,c0.a,c0.p,c0.f⟩,c1,c2,c3,jc⟩))
       case step2 =>
         rintro x c st3 _ _ ⟨c0,o,os,ia',ib',g,p,q,rfl,ho,c1,c2,c3,c4⟩
         dsimp +instances only
         generalize g - 1=g1
         apply zWT (c:=g > 1) (a:=g1) (b:=g)
         intro g
         all_goals
           refine Qg (Tc ?_)
           refine Qg (yH (α:=Unit) (xK c3) ?_)
           refine Qg (qX (f:=fun i=>xs.getD (ia'+i) 0) (bd:=fun i => !lt (ys.getD ib' 0) (xs.getD (ia'+i) 0)) hq (c0.k.trans hk) (hyN _ (yL c3)) (fun i hi=>?_) (fun i=>rfl) (fun i j hij hj hbj=>?_) (by rw[zB];lia) fun k hk1 hk2 hk3=>?_)
           · rw[zB] at hi
             exact⟨xK jc,hxN _ (yL jc)⟩
           · rw[zB] at hj
             by_cases e:i=j
             · rw[e];exact hbj
             · have hbj:lt (ys.getD ib' 0) (xs.getD (ia'+j) 0)=false:=by simpa using hbj
               have:=W.ntr hbj (Lx.le W (kW T.x (i:=ia'+i) (j:=ia'+j) jc jc))
               simpa using this
           · rw[zB] at hk1 hk3
             have hk2':∀i,i < k->lt (ys.getD ib' 0) (xs.getD (ia'+i) 0)=false:=fun i hi=>by simpa using hk2 i hi
             have hk3':∀i,k<=i->i < xs.length - ia'->lt (ys.getD ib' 0) (xs.getD (ia'+i) 0)=true:=fun i h h'=>by simpa using hk3 i h h'
             have hkl:k < xs.length - ia':=by
               rcases Th k (xs.length - ia') with z | z
               · exact z
               · have z1:=hk2' (xs.length - 1 - ia') jc
                 have e:ia'+(xs.length - 1 - ia')=xs.length - 1:=jc
                 rw[e,lastY _ (yL c3)] at z1
                 cases z1
             have hyx:lt (ys.getD ib' 0) (xs.getD (ia'+k) 0)=true:=hk3' k (Qf _) hkl
             have FX:Far lt xs ys (os++(xs.drop ia').take k) (ia'+k) ib':=c1.pX T k fun x hx' y hy'=>by
               obtain⟨j,j1,j2,rfl⟩:=oY hx'
               exact lessY j2 c3 (hk2' j j1) y hy'
             dsimp only
             by_cases hk0:k > 0
             case' pos =>
               rw[Qu hk0]
               by_cases e:ia'+k+1=xs.length
               · rw[Qu (by rw[zB];simpa using e),ho,zVo,wU,wU,xS,xS,xS]
                 exact Qb ⟨⟨c0.k,c0.a,c0.p,c0.f⟩,.inl ⟨_,_,rfl,FX.last T (lastL e)⟩⟩
               rw[Qs (by rw[zB];simpa using e),Qs (by rw[zB];simp;lia),ho,zVo,xS]
               obtain⟨os3,ho3⟩:∃os3,os3=os++(xs.drop ia').take k:=⟨_,rfl⟩
               obtain⟨i3,hi3⟩:∃i3,i3=ia'+k:=⟨_,rfl⟩
               rw[←ho3,←hi3]
               have F3:Far lt xs ys os3 i3 ib':=by rw[ho3,hi3];exact FX
               have b3':i3+1 < xs.length:=jc
               have y3:lt (ys.getD ib' 0) (xs.getD i3 0)=true:=by rw[hi3];exact hyx
               have l3:ia'<=i3:=jc
             case' neg =>
               rw[Qs hk0,ho]
               have hk00:k=0:=jc
               obtain⟨os3,ho3⟩:∃os3,os3=os:=⟨_,rfl⟩
               obtain⟨i3,hi3⟩:∃i3,i3=ia':=⟨_,rfl⟩
               rw[←ho3,←hi3]
               have F3:Far lt xs ys os3 i3 ib':=by rw[ho3,hi3];exact c1
               have b3':i3+1 < xs.length:=jc
               have y3:lt (ys.getD ib' 0) (xs.getD i3 0)=true:=by rw[hk00] at hyx;rw[hi3];exact hyx
               have l3:ia'<=i3:=jc
             all_goals
               refine Qg (yH (α:=Unit) (xK c3) ?_)
               rw[gL]
               have F4:Far lt xs ys (os3++[ys.getD ib' 0]) i3 (ib'+1):=by
                 have:=F3.pY T 1 (fun y hy' x hx'=>by rw[uY c3] at hy';rw[Wr.mp hy'];exact lessX jc y3 x hx')
                 rwa[uY c3] at this
               by_cases e:ib'+1=ys.length
               · rw[Qu (by rw[zB];simpa using e),wU,wU,xS,xS]
                 refine Qb ⟨⟨c0.k,c0.a,c0.p,c0.f⟩,.inl ⟨_,_,rfl,F4.done T fun x _ y hy'=>?_⟩⟩
                 rw[Ek jc] at hy'
                 cases hy'
               rw[Qs (by rw[zB];simpa using e)]
               refine Qg (yH (α:=Unit) (xK jc) ?_)
               refine Qg (qX (f:=fun i=>ys.getD (ib'+1+i) 0) (bd:=fun i=>lt (ys.getD (ib'+1+i) 0) (xs.getD i3 0)) hq (c0.k.trans hk) (hxN _ (yL jc)) (fun i hi=>?_) (fun i=>rfl) (fun i j hij hj hbj=>?_) (by rw[zB];lia) fun k2 kk1 kk2 kk3=>?_)
               · rw[zB] at hi
                 exact⟨xK jc,hyN _ (yL jc)⟩
               · rw[zB] at hj
                 by_cases e:i=j
                 · rw[e];exact hbj
                 · exact W.eql hbj (Lx.le W (kW T.y (i:=ib'+1+i) (j:=ib'+1+j) jc jc))
               · rw[zB] at kk1 kk3
                 have FY:Far lt xs ys (os3++[ys.getD ib' 0]++(ys.drop (ib'+1)).take k2) i3 (ib'+1+k2):=F4.pY T k2 fun y hy' x hx'=>by
                   obtain⟨j,j1,j2,rfl⟩:=oY hy'
                   exact lessX jc (kk2 j j1) x hx'
                 dsimp only
                 by_cases hk20:k2 > 0
                 case' pos =>
                   rw[Qu hk20,zVo,xS]
                   by_cases e2:ib'+1+k2=ys.length
                   · rw[Qu (by rw[zB];simpa using e2),wU,wU,xS,xS]
                     refine Qb ⟨⟨c0.k,c0.a,c0.p,c0.f⟩,.inl ⟨_,_,rfl,FY.done T fun x _ y hy'=>?_⟩⟩
                     rw[Ek jc] at hy'
                     cases hy'
                   rw[Qs (by rw[zB];simpa using e2)]
                   obtain⟨os5,ho5⟩:∃os5,os5=os3++[ys.getD ib' 0]++(ys.drop (ib'+1)).take k2:=⟨_,rfl⟩
                   obtain⟨i5,hi5⟩:∃i5,i5=ib'+1+k2:=⟨_,rfl⟩
                   rw[←ho5,←hi5]
                   have F5:Far lt xs ys os5 i3 i5:=by rw[ho5,hi5];exact FY
                   have b5:i5 < ys.length:=jc
                   have y5:lt (ys.getD i5 0) (xs.getD i3 0)=false:=by rw[hi5];exact kk3 k2 (Qf _) jc
                   have l5:ib'+1<=i5:=jc
                 case' neg =>
                   have hk200:k2=0:=jc
                   rw[Qs hk20]
                   obtain⟨os5,ho5⟩:∃os5,os5=os3++[ys.getD ib' 0]:=⟨_,rfl⟩
                   obtain⟨i5,hi5⟩:∃i5,i5=ib'+1:=⟨_,rfl⟩
                   rw[←ho5,←hi5]
                   have F5:Far lt xs ys os5 i3 i5:=by rw[ho5,hi5];exact F4
                   have b5:i5 < ys.length:=jc
                   have y5:lt (ys.getD i5 0) (xs.getD i3 0)=false:=by rw[hi5];exact kk3 0 jc jc
                   have l5:ib'+1<=i5:=jc
                 all_goals
                   refine Qg (yH (α:=Unit) (xK jc) ?_)
                   rw[gL]
                   have F6:Far lt xs ys (os5++[xs.getD i3 0]) (i3+1) i5:=by
                     have:=F5.pX T 1 (fun x hx' y hy'=>by rw[uY jc] at hx';rw[Wr.mp hx'];exact lessY jc b5 y5 y hy')
                     rwa[uY jc] at this
                   by_cases e3:i3+1+1=xs.length
                   · rw[Qu (by rw[zB];simpa using e3),wU,wU,xS,xS]
                     exact Qb ⟨⟨c0.k,c0.a,c0.p,c0.f⟩,.inl ⟨_,_,rfl,F6.last T (lastL e3)⟩⟩
                   rw[Qs (by rw[zB];simpa using e3)]
                   by_cases h7:(decide (k < 7)&&decide (k2 < 7))=true
                   · rw[Qu h7]
                     exact Qb ⟨⟨c0.k,c0.a,c0.p,c0.f⟩,.inr ⟨_,_,_,_,_,_,_,rfl,rfl,F6,jc,b5,jc⟩⟩
                   · rw[Qs h7]
                     exact Qb ⟨⟨c0.k,c0.a,c0.p,c0.f⟩,_,_,_,_,_,_,_,rfl,rfl,F6,jc,b5,jc⟩
end
end L2
namespace L2
open PySem PySem.W PyProof.Rows
def zRj:Array Keyed->Array Keyed->StateT SortSt Sem (Array Keyed):=sortPriv% PySem.Builtin.mergeHi
section
variable {lt:Nat->Nat->Bool} {xs ys rs:List Nat} {na nb:Nat}
structure Beh (lt:Nat->Nat->Bool)(xs ys rs:List Nat)(na nb:Nat):Prop where
 pm:rs.Perm (xs.drop na++ys.drop nb)
 up:rs.Pairwise (Lx lt)
 lx:∀o∈rs,∀x∈xs.take na,Lx lt x o
 ly:∀o∈rs,∀y∈ys.take nb,Lx lt y o
theorem fL {l:List Nat}{a n:Nat}(h:a<=n):l.drop a=(l.take n).drop a++l.drop n:=by
 have e:l.drop a=(l.take n++l.drop n).drop a:=by rw[Wm]
 rw[e,Oc]
 rcases Th n l.length with z | z
 · have:(l.take n).length=n:=by rw[Qj];lia
   rw[this,show a - n=0 by lia];rfl
 · rw[Ek z];simp
theorem zWd {l:List Nat}{a n x:Nat}(h:a<=n)(hx:x∈l.take a):x∈l.take n:=by
 have e:l.take a=(l.take n).take a:=by rw[Ie];congr 1;lia
 rw[e] at hx
 exact Wc hx
theorem zWZ {l:List Nat}(hl:l.Pairwise (Lx lt)){a n x c:Nat}(h:a<=n)(hx:x∈l.take a)(hc:c∈(l.take n).drop a):Lx lt x c:=by
 have e:l.take a=(l.take n).take a:=by rw[Ie];congr 1;lia
 rw[e] at hx
 exact bP (hl.sublist (Es n l)) a x hx c hc
theorem Beh.pX (T:Two lt xs ys)(h:Beh lt xs ys rs na nb){a:Nat}(ha:a<=na)(hk:∀x∈(xs.take na).drop a,∀y∈ys.take nb,Lx lt y x):Beh lt xs ys ((xs.take na).drop a++rs) a nb:=by
 refine⟨?_,Qx.mpr ⟨(T.x.sublist (Es na xs)).sublist (Oo _ _),h.up,fun x hx o ho=>h.lx o ho x (Wx hx)⟩,fun o ho x hx=>?_,fun o ho y hy=>?_⟩
 · rw[fL (l:=xs) ha,Qm]
   exact h.pm.append_left _
 · rcases Wq.mp ho with ho | ho
   · exact zWZ T.x ha hx ho
   · exact h.lx o ho x (zWd ha hx)
 · rcases Wq.mp ho with ho | ho
   · exact hk o ho y hy
   · exact h.ly o ho y hy
theorem Beh.pY (T:Two lt xs ys)(h:Beh lt xs ys rs na nb){a:Nat}(ha:a<=nb)(hk:∀y∈(ys.take nb).drop a,∀x∈xs.take na,Lx lt x y):Beh lt xs ys ((ys.take nb).drop a++rs) na a:=by
 refine⟨?_,Qx.mpr ⟨(T.y.sublist (Es nb ys)).sublist (Oo _ _),h.up,fun x hx o ho=>h.ly o ho x (Wx hx)⟩,fun o ho x hx=>?_,fun o ho y hy=>?_⟩
 · rw[fL (l:=ys) ha]
   refine(h.pm.append_left _).trans ?_
   rw[←Qm,←Qm]
   exact(Eg).append_right _
 · rcases Wq.mp ho with ho | ho
   · exact hk o ho x hx
   · exact h.lx o ho x hx
 · rcases Wq.mp ho with ho | ho
   · exact zWZ T.y ha hy ho
   · exact h.ly o ho y (zWd ha hy)
theorem Beh.pmAll (h:Beh lt xs ys rs na nb):(xs.take na++ys.take nb++rs).Perm (xs++ys):=by
 refine(h.pm.append_left _).trans ?_
 have e:xs++ys=(xs.take na++xs.drop na)++(ys.take nb++ys.drop nb):=by rw[Wm,Wm]
 rw[e,Qm,Qm]
 refine List.Perm.append_left _ ?_
 rw[←Qm,←Qm]
 exact(Eg).append_right _
theorem Beh.done (T:Two lt xs ys)(h:Beh lt xs ys rs na nb)(hx:∀x∈xs.take na,∀y∈ys.take nb,Lx lt x y):Mrg lt xs ys (xs.take na++ys.take nb++rs):=by
 refine⟨h.pmAll,Qx.mpr ⟨Qx.mpr ⟨T.x.sublist (Es _ _),T.y.sublist (Es _ _),hx⟩,h.up,fun a ha b hb=>?_⟩⟩
 rcases Wq.mp ha with ha | ha
 · exact h.lx b hb a ha
 · exact h.ly b hb a ha
theorem Beh.first (T:Two lt xs ys)(h:Beh lt xs ys rs na nb)(hx:∀y∈ys.take nb,∀x∈xs.take na,Lx lt y x):Mrg lt xs ys (ys.take nb++xs.take na++rs):=by
 refine⟨((Eg).append_right _).trans h.pmAll,Qx.mpr ⟨Qx.mpr ⟨T.y.sublist (Es _ _),T.x.sublist (Es _ _),hx⟩,h.up,fun a ha b hb=>?_⟩⟩
 rcases Wq.mp ha with ha | ha
 · exact h.ly b hb a ha
 · exact h.lx b hb a ha
theorem gC {l:List Nat}{n x:Nat}(h:x∈l.take n):∃j,j < n/\j < l.length/\x=l.getD j 0:=by
 have h':x∈(l.drop 0).take n:=by simpa using h
 obtain⟨j,a,b,c⟩:=oY h'
 exact⟨j,a,by simpa using b,by simpa using c⟩
theorem kF {l:List Nat}{a n x:Nat}(h:x∈(l.take n).drop a):∃j,a<=j/\j < n/\j < l.length/\x=l.getD j 0:=by
 obtain⟨j,hj,e⟩:=nS h
 rw[Qj] at hj
 refine⟨a+j,jc,jc,jc,?_⟩
 rw[e]
 have h1:a+j < (l.take n).length:=by rw[Qj];exact hj
 have h2:a+j < l.length:=jc
 simp[h1,h2,Ti]
 rw[Qu jc]
 simp[h2]
theorem qY {l:List Nat}{n:Nat}(h1:1<=n)(h:n<=l.length):(l.take n).drop (n - 1)=[l.getD (n - 1) 0]:=by
 have hl:(l.take n).length=n:=by rw[Qj];lia
 rw[Ez jc,Ek jc]
 have:n - 1 < l.length:=jc
 simp[this]
variable {it:Array Keyed}
theorem zVk (l:List Nat):(Ar it l).reverse=Ar it l.reverse:=by simp[Ar,List.map_reverse]
theorem cB (l:List Nat)(n:Nat):(Ar it l).extract 0 n=Ar it (l.take n):=by
 apply Rq.mp
 simp[Ar,Yt]
theorem zZS (l:List Nat)(a n:Nat):(Ar it l).extract a n=Ar it ((l.take n).drop a):=by
 apply Rq.mp
 simp[Ar,Yt,Yz,List.drop_take]
variable {prog:Program} {w:World} {A:Around} {E:jk} {s:Shared} {κ:SortKind} {N:Nat}
theorem zN1 {xs ys:List Nat}{Q:Array Keyed->SortSt->Prop}{st:SortSt}(W:SWO lt)(hq:Orc prog w A s κ it lt N)(hk:kindOf st=κ)(T:Two lt xs ys)(hxN:∀i∈xs,i < N)(hyN:∀i∈ys,i < N)(hx:0 < xs.length)(hy:0 < ys.length)
   (h1:lt (ys.getD 0 0) (xs.getD 0 0)=true) (h2:lt (ys.getD (ys.length - 1) 0) (xs.getD (xs.length - 1) 0)=true) (hQ:∀zs st',Mrg lt xs ys zs->Gly st st'->Q (Ar it zs) st'):wpS (model prog w) A E s (zRj (Ar it xs) (Ar it ys)) Q st:=by
 have firstX:∀x∈xs,lt (ys.getD 0 0) x=true:=fun x hx'=>by
   obtain⟨j,hj,rfl⟩:=nS (i:=0) (by simpa using hx')
   by_cases e:0+j=0
   · rw[e];exact h1
   · exact W.eqr h1 (Lx.le W (kW T.x (i:=0) (j:=0+j) jc jc))
 have firstL:∀ {na:Nat},∀y∈ys.take 1,∀x∈xs.take na,Lx lt y x:=fun {na} y hy' x hx'=>by
   obtain⟨j,j1,j2,rfl⟩:=gC hy'
   have:j=0:=jc
   subst this
   exact .inl (firstX x (Wc hx'))
 -- what the last of the rest is less than, all of the rest is less than
 have lessY:∀ {x nb:Nat},0 < nb->nb<=ys.length->lt (ys.getD (nb - 1) 0) x=true->∀y∈ys.take nb,Lx lt y x:=fun {x nb} n0 n1 hc y hy'=>by
   obtain⟨j,j1,j2,rfl⟩:=gC hy'
   by_cases e:j=nb - 1
   · rw[e];exact .inl hc
   · exact Lx.trans W (kW T.y (i:=j) (j:=nb - 1) jc jc) (.inl hc)
 have lessX:∀ {y na:Nat},y∈ys->0 < na->na<=xs.length->lt y (xs.getD (na - 1) 0)=false->∀x∈xs.take na,Lx lt x y:=fun {y na} hy' n0 n1 hc x hx'=>by
   obtain⟨j,j1,j2,rfl⟩:=gC hx'
   have l0:Lx lt (xs.getD (na - 1) 0) y:=Lx.of W hc (T.o _ (yL jc) _ hy')
   by_cases e:j=na - 1
   · rw[e];exact l0
   · exact Lx.trans W (kW T.x (i:=j) (j:=na - 1) jc jc) l0
 have F0:Beh lt xs ys [] xs.length ys.length:=⟨je,.nil,fun o ho=>(nomatch ho),fun o ho=>(nomatch ho)⟩
 have F1:Beh lt xs ys [xs.getD (xs.length - 1) 0] (xs.length - 1) ys.length:=by
   have:=F0.pX T (a:=xs.length - 1) jc (fun x hx' y hy'=>by rw[qY hx (Qf _)] at hx';rw[Wr.mp hx'];exact lessY hy (Qf _) h2 y hy')
   rw[qY hx (Qf _)] at this
   simpa using this
 have doneE:∀(rs:List Nat) (na nb:Nat),(Ar it xs).extract 0 na++(Ar it ys).extract 0 nb++(Ar it rs.reverse).reverse=Ar it (xs.take na++ys.take nb++rs):=fun rs na nb=>by rw[cB,cB,zVk,List.reverse_reverse,xS,xS]
 have firstE:∀(rs:List Nat) (na nb:Nat),(Ar it ys).extract 0 nb++(Ar it xs).extract 0 na++(Ar it rs.reverse).reverse=Ar it (ys.take nb++xs.take na++rs):=fun rs na nb=>by rw[cB,cB,zVk,List.reverse_reverse,xS,xS]
 have pushE:∀(rs:List Nat) (x:Nat),(Ar it rs.reverse).push (kas_item it x)=Ar it (x::rs).reverse:=fun rs x=>by rw[gL,List.reverse_cons]
 have chunkE:∀(l rs:List Nat) (a n:Nat),Ar it rs.reverse++((Ar it l).extract a n).reverse=Ar it ((l.take n).drop a++rs).reverse:=fun l rs a n=>by rw[zZS,zVk,xS,List.reverse_append]
 have hnil:∀ {rs:List Nat} {na nb:Nat},na=0->Beh lt xs ys rs na nb->Mrg lt xs ys (xs.take na++ys.take nb++rs):=fun {rs na nb} e F=>F.done T fun x hx'=>by rw[e] at hx';simp at hx'
 have hone:∀ {rs:List Nat} {na nb:Nat},nb=1->Beh lt xs ys rs na nb->Mrg lt xs ys (ys.take nb++xs.take na++rs):=fun {rs na nb} e F=>F.first T fun y hy'=>by rw[e] at hy';exact firstL y hy'
 have stepX:∀ {rs:List Nat} {na nb:Nat},Beh lt xs ys rs na nb->0 < na->na<=xs.length->0 < nb->nb<=ys.length->lt (ys.getD (nb - 1) 0) (xs.getD (na - 1) 0)=true->Beh lt xs ys (xs.getD (na - 1) 0::rs) (na - 1) nb:=fun {rs na nb} F n0 n1 m0 m1 hc=>by
   have:=F.pX T (a:=na - 1) jc (fun x hx' y hy'=>by rw[qY n0 n1] at hx';rw[Wr.mp hx'];exact lessY m0 m1 hc y hy')
   rwa[qY n0 n1] at this
 have stepY:∀ {rs:List Nat} {na nb:Nat},Beh lt xs ys rs na nb->na<=xs.length->0 < nb->nb<=ys.length->(0 < na->lt (ys.getD (nb - 1) 0) (xs.getD (na - 1) 0)=false)->Beh lt xs ys (ys.getD (nb - 1) 0::rs) na (nb - 1):=fun {rs na nb} F n1 m0 m1 hc=>by
   have:=F.pY T (a:=nb - 1) jc (fun y hy' x hx'=>by
     rw[qY m0 m1] at hy'
     rw[Wr.mp hy']
     have:0 < na:=by
       obtain⟨j,j1,j2,rfl⟩:=gC hx'
       lia
     exact lessX (yL jc) this n1 (hc this) x hx')
   rwa[qY m0 m1] at this
 refine Qg (Ib (Tv ⟨rfl,?_⟩))
 rw[show(Ar it xs).size - 1=xs.length - 1 by rw[zB],show(Ar it ys).size=ys.length from zB _]
 refine Qg (yH (α:=Unit) (xK jc) ?_)
 dsimp only
 have eo:(#[kas_item it (xs.getD (xs.length - 1) 0)]:Array Keyed)=Ar it [xs.getD (xs.length - 1) 0].reverse:=rfl
 rw[eo]
 by_cases ha1:xs.length - 1=0
 · rw[Qu (by simpa using ha1),doneE]
   exact Qb (hQ _ _ (hnil ha1 F1) .rfl')
 rw[Qs (by simpa using ha1)]
 by_cases hb1:ys.length=1
 · rw[Qu (by simpa using hb1),firstE]
   exact Qb (hQ _ _ (hone hb1 F1) .rfl')
 rw[Qs (by simpa using hb1)]
 refine Qg (Uu ?_)
 rw[show(Ar it xs).size+ys.length=xs.length+ys.length by rw[zB]]
 refine Qg (Em (Er (I:=fun x c st'=>∃o rs na nb g,c=(none,na,nb,o,g)/\o=Ar it rs.reverse/\Gly st st'/\Beh lt xs ys rs na nb/\0 < na/\na<=xs.length/\1 < nb/\nb<=ys.length/\x+(na+nb)<=xs.length+ys.length)
   (Q:=fun c st'=>∃zs r,c=(some (Ar it zs),r)/\Mrg lt xs ys zs/\Gly st st') ?step ?fin ⟨_,_,xs.length - 1,ys.length,_,rfl,rfl,.rfl',F1,jc,jc,jc,jc,jc⟩) ?post)
 case fin =>
   rintro c st' ⟨o,rs,na,nb,g,rfl,rfl,a1,a2,a3,a4,a5,a6,a7⟩
   lia
 case post =>
   rintro c st' ⟨zs,r,rfl,a1,a2⟩
   exact Qb (hQ zs st' a1 a2)
 case step =>
   rintro x c st' _ hx' ⟨o,rs,na,nb,g,rfl,ho,a1,a2,a3,a4,a5,a6,a7⟩
   dsimp only
   refine Qg (Em (Er (I:=fun x c st2=>st2=st'/\∃o rs na' nb' p q,c=(none,na',nb',o,p,q)/\o=Ar it rs.reverse/\Beh lt xs ys rs na' nb'/\0 < na'/\na'<=xs.length/\1 < nb'/\nb'<=ys.length/\x+(na'+nb')<=na+nb)
     (Q:=fun c st2=>st2=st'/\((∃zs r,c=(some (Ar it zs),r)/\Mrg lt xs ys zs)∨∃o rs na' nb' p q,c=(none,na',nb',o,p,q)/\o=Ar it rs.reverse/\Beh lt xs ys rs na' nb'/\0 < na'/\na'<=xs.length/\1 < nb'/\nb'<=ys.length/\1+(na'+nb')<=na+nb)) ?step1 ?fin1 ⟨rfl,o,rs,na,nb,0,0,rfl,ho,a2,a3,a4,a5,a6,jc⟩) ?post1)
   case fin1 =>
     rintro c st2 ⟨rfl,o,rs,na',nb',p,q,rfl,rfl,b1,b2,b3,b4,b5,b6⟩
     lia
   case step1 =>
     rintro x c st2 _ _ ⟨rfl,o,rs,na',nb',p,q,rfl,rfl,b1,b2,b3,b4,b5,b6⟩
     dsimp only
     refine Qg (yH (α:=Unit) (xK jc) (Qg (yH (α:=Unit) (xK jc) ?_)))
     refine Qg (zWH hq (a1.k.trans hk) (hyN _ (yL jc)) (hxN _ (yL jc)) ?_)
     dsimp only
     cases hc:lt (ys.getD (nb' - 1) 0) (xs.getD (na' - 1) 0) with
     | true =>
       rw[Qu rfl]
       refine Qg (yH (α:=Unit) (xK jc) ?_)
       rw[pushE]
       have F2:=stepX b1 b2 b3 jc b5 hc
       by_cases e:na' - 1=0
       · rw[Qu (by simpa using e),doneE]
         exact Qb ⟨rfl,.inl ⟨_,_,rfl,hnil e F2⟩⟩
       · rw[Qs (by simpa using e)]
         split
         · exact Qb ⟨rfl,.inr ⟨_,_,_,_,_,_,rfl,rfl,F2,jc,jc,b4,b5,jc⟩⟩
         · exact Qb ⟨rfl,_,_,_,_,_,_,rfl,rfl,F2,jc,jc,b4,b5,jc⟩
     | false =>
       rw[Qs jb]
       refine Qg (yH (α:=Unit) (xK jc) ?_)
       rw[pushE]
       have F2:=stepY b1 b3 jc b5 fun _=>hc
       by_cases e:nb' - 1=1
       · rw[Qu (by simpa using e),firstE]
         exact Qb ⟨rfl,.inl ⟨_,_,rfl,hone e F2⟩⟩
       · rw[Qs (by simpa using e)]
         split
         · exact Qb ⟨rfl,.inr ⟨_,_,_,_,_,_,rfl,rfl,F2,b2,b3,jc,jc,jc⟩⟩
         · exact Qb ⟨rfl,_,_,_,_,_,_,rfl,rfl,F2,b2,b3,jc,jc,jc⟩
   case post1 =>
     rintro c st2 ⟨rfl,hcc⟩
     rcases hcc with⟨zs,r,rfl,hm⟩ | ⟨o2,rs2,na2,nb2,p2,q2,rfl,ho2,b1,b2,b3,b4,b5,b6⟩
     · exact Qb ⟨zs,_,rfl,hm,a1⟩
     · dsimp only
       refine Qg (Ib (Tv ⟨rfl,?_⟩))
       refine Qg (Em (Er (I:=fun x c st3=>Gly st st3/\∃o rs na' nb' g p q,c=(none,na',nb',o,g,p,q)/\o=Ar it rs.reverse/\Beh lt xs ys rs na' nb'/\0 < na'/\na'<=xs.length/\1 < nb'/\nb'<=ys.length/\x+(na'+nb')<=na2+nb2)
         (Q:=fun c st3=>Gly st st3/\((∃zs r,c=(some (Ar it zs),r)/\Mrg lt xs ys zs)∨∃o rs na' nb' g p q,c=(none,na',nb',o,g,p,q)/\o=Ar it rs.reverse/\Beh lt xs ys rs na' nb'/\0 < na'/\na'<=xs.length/\1 < nb'/\nb'<=ys.length/\na'+nb'<=na2+nb2)) ?step2 ?fin2 ⟨a1,o2,rs2,na2,nb2,_,p2,q2,rfl,ho2,b1,b2,b3,b4,b5,jc⟩) ?post2)
       case fin2 =>
         rintro c st3 ⟨c0,o,rs,na',nb',g,p,q,rfl,rfl,c1,c2,c3,c4,c5,c6⟩
         lia
       case post2 =>
         rintro c st3 ⟨c0,hcc⟩
         rcases hcc with⟨zs,r,rfl,hm⟩ | ⟨o3,rs3,na3,nb3,g3,p3,q3,rfl,ho3,c1,c2,c3,c4,c5,c6⟩
         · exact Qb ⟨zs,_,rfl,hm,c0⟩
         · exact Qg (Tc (Qb ⟨o3,rs3,na3,nb3,_,rfl,ho3,⟨c0.k,c0.a,c0.p,c0.f⟩,c1,c2,c3,c4,c5,jc⟩))
       case step2 =>
         rintro x c st3 _ _ ⟨c0,o,rs,na',nb',g,p,q,rfl,ho,c1,c2,c3,c4,c5,c6⟩
         dsimp +instances only
         generalize g - 1=g1
         apply zWT (c:=g > 1) (a:=g1) (b:=g)
         intro g
         all_goals
           refine Qg (Tc ?_)
           refine Qg (yH (α:=Unit) (xK jc) ?_)
           refine Qg (qX (f:=fun i=>xs.getD (0+i) 0) (bd:=fun i => !lt (ys.getD (nb' - 1) 0) (xs.getD (0+i) 0)) hq (c0.k.trans hk) (hyN _ (yL jc)) (fun i hi=>?_) (fun i=>rfl) (fun i j hij hj hbj=>?_) jc fun k hk1 hk2 hk3=>?_)
           · exact⟨xK jc,hxN _ (yL jc)⟩
           · by_cases e:i=j
             · rw[e];exact hbj
             · have hbj:lt (ys.getD (nb' - 1) 0) (xs.getD (0+j) 0)=false:=by simpa using hbj
               have:=W.ntr hbj (Lx.le W (kW T.x (i:=0+i) (j:=0+j) jc jc))
               simpa using this
           · have hk2':∀i,i < k->lt (ys.getD (nb' - 1) 0) (xs.getD i 0)=false:=fun i hi=>by simpa using hk2 i hi
             have hk3':∀i,k<=i->i < na'->lt (ys.getD (nb' - 1) 0) (xs.getD i 0)=true:=fun i h h'=>by simpa using hk3 i h h'
             have FX:Beh lt xs ys ((xs.take na').drop k++rs) k nb':=c1.pX T hk1 fun x hx' y hy'=>by
               obtain⟨j,j1,j2,j3,rfl⟩:=kF hx'
               exact lessY jc c5 (hk3' j j1 j2) y hy'
             dsimp only
             by_cases hk0:na' - k > 0
             case' pos =>
               rw[Qu hk0]
               by_cases e:k=0
               · rw[Qu (by simpa using e),ho,chunkE,doneE]
                 exact Qb ⟨⟨c0.k,c0.a,c0.p,c0.f⟩,.inl ⟨_,_,rfl,hnil e FX⟩⟩
               rw[Qs (by simpa using e),ho,chunkE]
               obtain⟨rs3,ho3⟩:∃rs3,rs3=(xs.take na').drop k++rs:=⟨_,rfl⟩
               obtain⟨n3,hi3⟩:∃n3,n3=k:=⟨_,rfl⟩
               rw[←ho3,←hi3]
               have F3:Beh lt xs ys rs3 n3 nb':=by rw[ho3,hi3];exact FX
               have p3':0 < n3:=jc
               have l3:n3<=na':=jc
               have y3:lt (ys.getD (nb' - 1) 0) (xs.getD (n3 - 1) 0)=false:=hk2' _ jc
             case' neg =>
               rw[Qs hk0,ho]
               have hkn:k=na':=jc
               obtain⟨rs3,ho3⟩:∃rs3,rs3=rs:=⟨_,rfl⟩
               obtain⟨n3,hi3⟩:∃n3,n3=na':=⟨_,rfl⟩
               rw[←ho3,←hi3]
               have F3:Beh lt xs ys rs3 n3 nb':=by rw[ho3,hi3];exact c1
               have p3':0 < n3:=jc
               have l3:n3<=na':=jc
               have y3:lt (ys.getD (nb' - 1) 0) (xs.getD (n3 - 1) 0)=false:=hk2' _ jc
             all_goals
               refine Qg (yH (α:=Unit) (xK jc) ?_)
               rw[pushE]
               have F4:=stepY F3 jc jc c5 fun _=>y3
               by_cases e:nb' - 1=1
               · rw[Qu (by simpa using e),firstE]
                 exact Qb ⟨⟨c0.k,c0.a,c0.p,c0.f⟩,.inl ⟨_,_,rfl,hone e F4⟩⟩
               rw[Qs (by simpa using e)]
               refine Qg (yH (α:=Unit) (xK jc) ?_)
               refine Qg (qX (f:=fun i=>ys.getD (0+i) 0) (bd:=fun i=>lt (ys.getD (0+i) 0) (xs.getD (n3 - 1) 0)) hq (c0.k.trans hk) (hxN _ (yL jc)) (fun i hi=>?_) (fun i=>rfl) (fun i j hij hj hbj=>?_) jc fun k2 kk1 kk2 kk3=>?_)
               · exact⟨xK jc,hyN _ (yL jc)⟩
               · by_cases e:i=j
                 · rw[e];exact hbj
                 · exact W.eql hbj (Lx.le W (kW T.y (i:=0+i) (j:=0+j) jc jc))
               · have kk2':∀i,i < k2->lt (ys.getD i 0) (xs.getD (n3 - 1) 0)=true:=fun i hi=>by simpa using kk2 i hi
                 have kk3':∀i,k2<=i->i < nb' - 1->lt (ys.getD i 0) (xs.getD (n3 - 1) 0)=false:=fun i h h'=>by simpa using kk3 i h h'
                 have k2p:0 < k2:=by
                   rcases Im k2 with z | z
                   · have z1:=kk3' 0 jc jc
                     rw[firstX _ (yL jc)] at z1
                     cases z1
                   · exact z
                 have FY:Beh lt xs ys ((ys.take (nb' - 1)).drop k2++(ys.getD (nb' - 1) 0::rs3)) n3 k2:=F4.pY T kk1 fun y hy' x hx'=>by
                   obtain⟨j,j1,j2,j3,rfl⟩:=kF hy'
                   exact lessX (yL j3) p3' jc (kk3' j j1 j2) x hx'
                 dsimp only
                 by_cases hk20:nb' - 1 - k2 > 0
                 case' pos =>
                   rw[Qu hk20,chunkE]
                   by_cases e2:k2=1
                   · rw[Qu (by simpa using e2),firstE]
                     exact Qb ⟨⟨c0.k,c0.a,c0.p,c0.f⟩,.inl ⟨_,_,rfl,hone e2 FY⟩⟩
                   rw[Qs (by simpa using e2),Qs (by simp;lia)]
                   obtain⟨rs5,ho5⟩:∃rs5,rs5=(ys.take (nb' - 1)).drop k2++(ys.getD (nb' - 1) 0::rs3):=⟨_,rfl⟩
                   obtain⟨m5,hi5⟩:∃m5,m5=k2:=⟨_,rfl⟩
                   rw[←ho5,←hi5]
                   have F5:Beh lt xs ys rs5 n3 m5:=by rw[ho5,hi5];exact FY
                   have b5':1 < m5:=jc
                   have l5:m5<=nb' - 1:=jc
                   have y5:lt (ys.getD (m5 - 1) 0) (xs.getD (n3 - 1) 0)=true:=kk2' _ jc
                 case' neg =>
                   have hk2n:k2=nb' - 1:=jc
                   rw[Qs hk20]
                   obtain⟨rs5,ho5⟩:∃rs5,rs5=ys.getD (nb' - 1) 0::rs3:=⟨_,rfl⟩
                   obtain⟨m5,hi5⟩:∃m5,m5=nb' - 1:=⟨_,rfl⟩
                   rw[←ho5,←hi5]
                   have F5:Beh lt xs ys rs5 n3 m5:=by rw[ho5,hi5];exact F4
                   have b5':1 < m5:=jc
                   have l5:m5<=nb' - 1:=jc
                   have y5:lt (ys.getD (m5 - 1) 0) (xs.getD (n3 - 1) 0)=true:=kk2' _ jc
                 all_goals
                   refine Qg (yH (α:=Unit) (xK jc) ?_)
                   rw[pushE]
                   have F6:=stepX F5 p3' jc jc jc y5
                   by_cases e3:n3 - 1=0
                   · rw[Qu (by simpa using e3),doneE]
                     exact Qb ⟨⟨c0.k,c0.a,c0.p,c0.f⟩,.inl ⟨_,_,rfl,hnil e3 F6⟩⟩
                   rw[Qs (by simpa using e3)]
                   by_cases h7:(decide (na' - k < 7)&&decide (nb' - 1 - k2 < 7))=true
                   · rw[Qu (by first | exact h7 | (rw[←hi5] at h7;exact h7) | simpa [hi3,hi5] using h7)]
                     exact Qb ⟨⟨c0.k,c0.a,c0.p,c0.f⟩,.inr ⟨_,_,_,_,_,_,_,rfl,rfl,F6,jc,jc,b5',jc,jc⟩⟩
                   · rw[Qs (by first | exact h7 | (rw[←hi5] at h7;exact h7) | simpa [hi3,hi5] using h7)]
                     exact Qb ⟨⟨c0.k,c0.a,c0.p,c0.f⟩,_,_,_,_,_,_,_,rfl,rfl,F6,jc,jc,b5',jc,jc⟩
end
end L2
namespace L2
open PySem PySem.W PyProof.Rows
theorem zZF {it:Array Keyed}(l:List Nat)(i:Nat):(Ar it l)[i]?=l[i]?.map (kas_item it):=by unfold Ar;rw[List.getElem?_toArray,Wd]
theorem zUm {α:Type}(off:Nat):∀(l:List α) (n:Nat) (arr:Array α),off+n+l.length<=arr.size->∀i,((l.zipIdx n).foldl (fun a (x:α×Nat)=>a.setIfInBounds (off+x.2) x.1) arr)[i]?=if off+n<=i/\i < off+n+l.length then l[i - (off+n)]? else arr[i]?
 | [],n,arr,h,i=>by
   rw[Qs (by rintro⟨a,b⟩;simp at b;lia)];rfl
 | x::l,n,arr,h,i=>by
   rw[List.zipIdx_cons,List.foldl_cons,zUm off l (n+1) _ (by rw[Array.size_setIfInBounds];simp at h;lia)]
   rw[Qo] at h ⊢
   by_cases c:off+(n+1)<=i/\i < off+(n+1)+l.length
   · rw[Qu c,Qu jc]
     have:i - (off+n)=i - (off+(n+1))+1:=jc
     rw[this,Rm]
   · rw[Qs c,On]
     by_cases e:off+n=i
     · rw[Qu e,Qu jc,Qu jc]
       have:i - (off+n)=0:=jc
       rw[this];rfl
     · rw[Qs e,Qs jc]
theorem zNH {it:Array Keyed}{P zs:List Nat}{o:Nat}(h:o+zs.length<=P.length):(Ar it zs).toList.zipIdx.foldl (fun a (x:Keyed×Nat)=>a.setIfInBounds (o+x.2) x.1) (Ar it P)=Ar it (P.take o++zs++P.drop (o+zs.length)):=by
 apply Rf
 intro i
 have hz:(Ar it zs).toList.length=zs.length:=by simp[Ar]
 rw[zUm o (Ar it zs).toList 0 (Ar it P) (by rw[hz,zB];lia),hz,Nat.add_zero]
 have e3:∀j:Nat,(Ar it zs).toList[j]?=zs[j]?.map (kas_item it):=fun j=>by rw[Array.getElem?_toList,zZF]
 rw[zZF,zZF,e3]
 have lt:(P.take o).length=o:=by rw[Qj];lia
 by_cases c:o<=i/\i < o+zs.length
 · rw[Qu c,Qm,Wt jc,lt,Wj jc]
 · rw[Qs c]
   congr 1
   rcases Th i o with z | z
   · rw[Qm,Wj jc,Ti,Qu z]
   · rw[Wt (by rw[Qt];lia),To,Qt,lt]
     congr 1;lia
abbrev ck (P:List Nat)(u v:Nat):List Nat:=(P.take v).drop u
theorem lH {P:List Nat}{u v:Nat}(hv:v<=P.length):(ck P u v).length=v - u:=by rw[Wu,Qj];lia
theorem iJ {P:List Nat}{u v i:Nat}(hi:u+i < v):(ck P u v).getD i 0=P.getD (u+i) 0:=by
 rw[Wv,Wv,To,Ti,Qu hi]
theorem lI {P:List Nat}{u v x:Nat}(h1:u<=v)(h2:v<=x):ck P u x=ck P u v++ck P v x:=by
 have:=fL (l:=P.take x) h1
 rw[Ie,Yy h2] at this
 exact this
theorem zS6 {P:List Nat}{u v:Nat}(h:u<=v):P=P.take u++ck P u v++P.drop v:=by
 have e1:P.drop u=ck P u v++P.drop v:=fL h
 rw[Qm,←e1,Wm]
structure Sg (lt:Nat->Nat->Bool)(P:List Nat)(a n:Nat):Prop where
 up:(ck P a (a+n)).Pairwise (Lx lt)
 pm:(ck P a (a+n)).Perm (List.range' a n)
theorem Sg.lx {lt:Nat->Nat->Bool}{P:List Nat}{a n i j:Nat}(g:Sg lt P a n)(hl:a+n<=P.length)(hij:i < j)(hj:j < n):Lx lt (P.getD (a+i) 0) (P.getD (a+j) 0):=by
 have:=kW g.up (i:=i) (j:=j) hij (by rw[lH hl];lia)
 rwa[iJ jc,iJ jc] at this
theorem Sg.bd {lt:Nat->Nat->Bool}{P:List Nat}{a n i:Nat}(g:Sg lt P a n)(hl:a+n<=P.length)(hi:i < n):a<=P.getD (a+i) 0/\P.getD (a+i) 0 < a+n:=by
 have h1:(ck P a (a+n)).getD i 0∈ck P a (a+n):=yL (by rw[lH hl];lia)
 rw[iJ jc] at h1
 have:=g.pm.subset h1
 rw[List.mem_range'_1] at this
 exact this
theorem zOk {prog:Program}{w:World}{A:Around}{E:jk}{s:Shared}{x st:SortSt}{Q:PUnit->SortSt->Prop}(h:Q ⟨⟩ x):wpS (model prog w) A E s (set x:StateT SortSt Sem PUnit) Q st:=by
 unfold wpS;rw[StateT.run_set];exact Qh ⟨rfl,h⟩
section
variable {prog:Program} {w:World} {A:Around} {E:jk} {s:Shared} {κ:SortKind} {it:Array Keyed} {lt:Nat->Nat->Bool} {N:Nat}
theorem zMH {P:List Nat}{pend:Array (Nat×Nat×Nat)}{i a n1 n2 p1 p2:Nat}{Q:Bool->SortSt->Prop}{st:SortSt}(W:SWO lt)(hq:Orc prog w A s κ it lt N)(hk:kindOf st=κ)(hf:failedOf st=none)(ha:arrOf st=Ar it P)(hp:pendingOf st=pend)
   (h1:pend[i]?=some (a,n1,p1)) (h2:pend[i+1]?=some (a+n1,n2,p2)) (l1:0 < n1) (l2:0 < n2) (hN:P.length=N) (hb:a+n1+n2<=N) (g1:Sg lt P a n1) (g2:Sg lt P (a+n1) n2)
   (hQ:∀(zs:List Nat) (st':SortSt),PyProof.Rows.kindOf st'=κ->failedOf st'=none->zs.length=n1+n2->arrOf st'=Ar it (P.take a++zs++P.drop (a+n1+n2))->pendingOf st'=(pend.setIfInBounds i (a,n1+n2,p1)).eraseIdxIfInBounds (i+1)->zs.Pairwise (Lx lt)->zs.Perm (List.range' a (n1+n2))->Q true st') :
   wpS (model prog w) A E s (mergeAt' i) Q st:=by
 have hA:∀ {i:Nat},i < P.length->(Ar it P)[i]?=some (kas_item it (P.getD i 0)):=fun hi=>xK hi
 have X1:∀ {i j:Nat},i < j->j < n1->Lx lt (P.getD (a+i) 0) (P.getD (a+j) 0):=fun h h'=>g1.lx jc h h'
 have Y1:∀ {i j:Nat},i < j->j < n2->Lx lt (P.getD (a+n1+i) 0) (P.getD (a+n1+j) 0):=fun h h'=>g2.lx jc h h'
 have Xb:∀ {i:Nat},i < n1->P.getD (a+i) 0 < a+n1:=fun h=>(g1.bd jc h).2
 have Yb:∀ {i:Nat},i < n2->a+n1<=P.getD (a+n1+i) 0/\P.getD (a+n1+i) 0 < N:=fun h=>by have:=g2.bd jc h;lia
 have cxy:(ck P a (a+n1)++ck P (a+n1) (a+n1+n2)).Perm (List.range' a (n1+n2)):=by
   refine(g1.pm.append g2.pm).trans ?_
   have:=List.range'_append_1 (s:=a) (m:=n1) (n:=n2)
   rw[this]
 have mx:∀ {u v x:Nat},a<=u->v<=a+n1->x∈ck P u v->∃i,u<=a+i/\a+i < v/\i < n1/\x=P.getD (a+i) 0:=fun {u v x} h1 h2 h=>by
   obtain⟨j,j1,j2,j3,rfl⟩:=kF h
   exact⟨j - a,jc,jc,jc,by rw[show a+(j - a)=j by lia]⟩
 have my:∀ {u v x:Nat},a+n1<=u->v<=a+n1+n2->x∈ck P u v->∃i,u<=a+n1+i/\a+n1+i < v/\i < n2/\x=P.getD (a+n1+i) 0:=fun {u v x} h1 h2 h=>by
   obtain⟨j,j1,j2,j3,rfl⟩:=kF h
   exact⟨j - (a+n1),jc,jc,jc,by rw[show a+n1+(j - (a+n1))=j by lia]⟩
 obtain⟨k0,a0,p0,g0,f0⟩:=st
 have hk:k0=κ:=hk
 have hf:f0=none:=hf
 have ha:a0=Ar it P:=ha
 have hp:p0=pend:=hp
 subst hk;subst hf;subst ha;subst hp
 refine Qg (Uu ?_)
 dsimp only
 rw[h1,h2]
 dsimp only
 refine Qg (zOk ?_)
 refine Qg (yH (α:=Unit) (hA (i:=a+n1) jc) ?_)
 have y0:P.getD (a+n1) 0=P.getD (a+n1+0) 0:=rfl
 refine Qg (qX (f:=fun i=>P.getD (a+i) 0) (bd:=fun i => !lt (P.getD (a+n1) 0) (P.getD (a+i) 0)) hq rfl (Yb (i:=0) l2).2 (fun i hi=>⟨hA jc,by have:=Xb hi;lia⟩) (fun i=>rfl) (fun i j hij hj hbj=>?_) l1 fun k hk1 hk2 hk3=>?_)
 · by_cases e:i=j
   · rw[e];exact hbj
   · have hbj:lt (P.getD (a+n1) 0) (P.getD (a+j) 0)=false:=by simpa using hbj
     have:=W.ntr hbj (Lx.le W (X1 (i:=i) (j:=j) jc hj))
     simpa using this
 have hk2':∀i,i < k->lt (P.getD (a+n1) 0) (P.getD (a+i) 0)=false:=fun i hi=>by simpa using hk2 i hi
 have hk3':∀i,k<=i->i < n1->lt (P.getD (a+n1) 0) (P.getD (a+i) 0)=true:=fun i h h'=>by simpa using hk3 i h h'
 -- the first ones are less than all of the second run
 have low:∀i j,i < k->j < n2->Lx lt (P.getD (a+i) 0) (P.getD (a+n1+j) 0):=fun i j hi hj=>by
   have l0:Lx lt (P.getD (a+i) 0) (P.getD (a+n1) 0):=Lx.of W (hk2' i hi) (by have:=Xb (i:=i) jc;have:=Yb (i:=0) l2;lia)
   cases j with
   | zero=>exact l0
   | succ j=>exact Lx.trans W l0 (Y1 (i:=0) jc hj)
 dsimp only
 by_cases e0:n1 - k=0
 · rw[Qu (by simpa using e0)]
   refine Qb (hQ (ck P a (a+n1)++ck P (a+n1) (a+n1+n2)) _ rfl rfl ?_ ?_ rfl ?_ cxy)
   · rw[Qt,lH jc,lH jc];lia
   · rw[←lI jc jc,←zS6 jc]
   · refine Qx.mpr ⟨g1.up,g2.up,fun x hx y hy=>?_⟩
     obtain⟨i',i1,i2,i3,rfl⟩:=mx (Qf _) (Qf _) hx
     obtain⟨j',j1,j2,j3,rfl⟩:=my (Qf _) (Qf _) hy
     exact low i' j' jc j3
 rw[Qs (by simpa using e0)]
 have e1:a+k+(n1 - k) - 1=a+(n1 - 1):=jc
 rw[e1]
 refine Qg (yH (α:=Unit) (hA (i:=a+(n1 - 1)) jc) ?_)
 refine Qg (qX (f:=fun i=>P.getD (a+n1+i) 0) (bd:=fun i=>lt (P.getD (a+n1+i) 0) (P.getD (a+(n1 - 1)) 0)) hq rfl (by have:=Xb (i:=n1 - 1) jc;lia) (fun i hi=>⟨hA jc,(Yb hi).2⟩) (fun i=>rfl) (fun i j hij hj hbj=>?_) jc fun m hm1 hm2 hm3=>?_)
 · by_cases e:i=j
   · rw[e];exact hbj
   · exact W.eql hbj (Lx.le W (Y1 (i:=i) (j:=j) jc hj))
 dsimp only
 have y0x:lt (P.getD (a+n1) 0) (P.getD (a+(n1 - 1)) 0)=true:=hk3' (n1 - 1) jc jc
 have m0:0 < m:=by
   rcases Im m with z | z
   · have:=hm3 0 jc l2
     have:lt (P.getD (a+n1) 0) (P.getD (a+(n1 - 1)) 0)=false:=this
     rw[y0x] at this;cases this
   · exact z
 rw[Qs (by simp;lia),zZS,zZS]
 have lx:(ck P (a+k) (a+n1)).length=n1 - k:=by rw[lH jc];lia
 have ly:(ck P (a+n1) (a+n1+m)).length=m:=by rw[lH jc];lia
 have T:Two lt (ck P (a+k) (a+n1)) (ck P (a+n1) (a+n1+m)):=by
   refine⟨?_,?_,fun x hx y hy=>?_⟩
   · have:=g1.up
     rw[lI (v:=a+k) jc jc] at this
     exact(Qx.mp this).2.1
   · have:=g2.up
     rw[lI (v:=a+n1+m) jc jc] at this
     exact(Qx.mp this).1
   · obtain⟨i',i1,i2,i3,rfl⟩:=mx jc (Qf _) hx
     obtain⟨j',j1,j2,j3,rfl⟩:=my (Qf _) jc hy
     have:=Xb i3
     have:=Yb j3
     lia
 have tx:∀x∈ck P (a+k) (a+n1),x < N:=fun x hx=>by
   obtain⟨i',i1,i2,i3,rfl⟩:=mx jc (Qf _) hx
   have:=Xb i3
   lia
 have ty:∀y∈ck P (a+n1) (a+n1+m),y < N:=fun y hy=>by
   obtain⟨j',j1,j2,j3,rfl⟩:=my (Qf _) jc hy
   exact(Yb j3).2
 have q1:lt ((ck P (a+n1) (a+n1+m)).getD 0 0) ((ck P (a+k) (a+n1)).getD 0 0)=true:=by
   rw[iJ jc,iJ jc]
   exact hk3' k (Qf _) jc
 have q2:lt ((ck P (a+n1) (a+n1+m)).getD ((ck P (a+n1) (a+n1+m)).length - 1) 0) ((ck P (a+k) (a+n1)).getD ((ck P (a+k) (a+n1)).length - 1) 0)=true:=by
   rw[lx,ly,iJ jc,iJ jc,show a+k+(n1 - k - 1)=a+(n1 - 1) by lia]
   exact hm2 (m - 1) jc
 -- laid back
 have fin:∀(zs:List Nat) (st':SortSt),Mrg lt (ck P (a+k) (a+n1)) (ck P (a+n1) (a+n1+m)) zs->arrOf st'=Ar it P->PyProof.Rows.kindOf st'=k0->failedOf st'=none->pendingOf st'=(p0.setIfInBounds i (a,n1+n2,p1)).eraseIdxIfInBounds (i+1) ->
     Q true (SortSt.mk' (PyProof.Rows.kindOf st') ((Ar it zs).toList.zipIdx.foldl (fun b (x:Keyed×Nat)=>b.setIfInBounds (a+k+x.2) x.1) (arrOf st')) (pendingOf st') (gallopOf st') (failedOf st')):=fun zs st' hm b1 b2 b3 b4=>by
   have lz:zs.length=n1 - k+m:=by rw[hm.1.length_eq,Qt,lx,ly]
   have mz:∀z∈zs,z∈ck P (a+k) (a+n1)∨z∈ck P (a+n1) (a+n1+m):=fun z hz=>Wq.mp (hm.1.subset hz)
   refine hQ (ck P a (a+k)++zs++ck P (a+n1+m) (a+n1+n2)) _ b2 b3 ?_ ?_ b4 ?_ ?_
   · rw[Qt,Qt,lH jc,lH jc,lz];lia
   · show(Ar it zs).toList.zipIdx.foldl _ (arrOf st')=_
     rw[b1,zNH (by rw[lz];lia)]
     congr 1
     have e2:P.take (a+k)=P.take a++ck P a (a+k):=by
       have:=lI (P:=P) (u:=0) (v:=a) (x:=a+k) jc jc
       simpa using this
     have e3:P.drop (a+k+zs.length)=ck P (a+n1+m) (a+n1+n2)++P.drop (a+n1+n2):=by
       rw[lz,show a+k+(n1 - k+m)=a+n1+m by lia]
       exact fL jc
     rw[e2,e3]
     simp only[Qm]
   · refine Qx.mpr ⟨Qx.mpr ⟨?_,hm.2,fun x hx z hz=>?_⟩,?_,fun x hx y hy=>?_⟩
     · have:=g1.up
       rw[lI (v:=a+k) jc jc] at this
       exact(Qx.mp this).1
     · obtain⟨i',i1,i2,i3,rfl⟩:=mx (Qf _) jc hx
       rcases mz z hz with hz | hz
       · obtain⟨j',j1,j2,j3,rfl⟩:=mx jc (Qf _) hz
         exact X1 jc j3
       · obtain⟨j',j1,j2,j3,rfl⟩:=my (Qf _) jc hz
         exact low i' j' jc j3
     · have:=g2.up
       rw[lI (v:=a+n1+m) jc jc] at this
       exact(Qx.mp this).2.1
     · obtain⟨j',j1,j2,j3,rfl⟩:=my jc (Qf _) hy
       have hi:∀i',i' < n1->k<=i'∨i' < k->Lx lt (P.getD (a+i') 0) (P.getD (a+n1+j') 0):=fun i' i1 _=>by
         have l0:Lx lt (P.getD (a+(n1 - 1)) 0) (P.getD (a+n1+j') 0):=Lx.of W (hm3 j' jc j3) (by have:=Xb (i:=n1 - 1) jc;have:=Yb j3;lia)
         by_cases e:i'=n1 - 1
         · rw[e];exact l0
         · exact Lx.trans W (X1 (i:=i') (j:=n1 - 1) jc jc) l0
       rcases Wq.mp hx with hx | hx
       · obtain⟨i',i1,i2,i3,rfl⟩:=mx (Qf _) jc hx
         exact hi i' i3 jc
       · rcases mz x hx with hx | hx
         · obtain⟨i',i1,i2,i3,rfl⟩:=mx jc (Qf _) hx
           exact hi i' i3 jc
         · obtain⟨i',i1,i2,i3,rfl⟩:=my (Qf _) jc hx
           exact Y1 jc j3
   · refine List.Perm.trans ?_ cxy
     rw[lI (P:=P) (u:=a) (v:=a+k) (x:=a+n1) jc jc,lI (P:=P) (u:=a+n1) (v:=a+n1+m) (x:=a+n1+n2) jc jc]
     have:=(hm.1.append_left (ck P a (a+k))).append_right (ck P (a+n1+m) (a+n1+n2))
     refine this.trans ?_
     simp only[Qm]
     exact .refl _
 by_cases hle:n1 - k<=m
 · rw[Qu hle]
   refine Qg (zNa W hq rfl T tx ty (by rw[lx];lia) (by rw[ly];lia) q1 q2 fun zs st' hm gl=>?_)
   refine Qg (Tc (Qg (Uu ?_)))
   have:=fin zs st' hm gl.a gl.k gl.f gl.p
   refine Qb ?_
   have e:(failedOf st').isNone=true:=by rw[gl.f];rfl
   show Q (failedOf st').isNone _
   rw[e]
   exact this
 · rw[Qs hle]
   refine Qg (zN1 W hq rfl T tx ty (by rw[lx];lia) (by rw[ly];lia) q1 q2 fun zs st' hm gl=>?_)
   refine Qg (Tc (Qg (Uu ?_)))
   have:=fin zs st' hm gl.a gl.k gl.f gl.p
   refine Qb ?_
   have e:(failedOf st').isNone=true:=by rw[gl.f];rfl
   show Q (failedOf st').isNone _
   rw[e]
   exact this
end
end L2
namespace L2
open PySem PySem.W PyProof.Rows
def Rn (lt:Nat->Nat->Bool)(P:List Nat):List (Nat×Nat×Nat)->Nat->Nat->Prop
 | [],a,e=>a=e
 | r::l,a,e=>r.1=a/\0 < r.2.1/\Sg lt P a r.2.1/\Rn lt P l (a+r.2.1) e
section
variable {lt:Nat->Nat->Bool} {P P':List Nat}
theorem Rn.app:∀ {l1 l2:List (Nat×Nat×Nat)} {a e:Nat},Rn lt P (l1++l2) a e↔∃m,Rn lt P l1 a m/\Rn lt P l2 m e
 | [],l2,a,e=>⟨fun h=>⟨a,rfl,h⟩,fun⟨m,h1,h2⟩=>by cases h1;exact h2⟩
 | r::l1,l2,a,e=>by
   constructor
   · rintro⟨h1,h2,h3,h4⟩
     obtain⟨m,h5,h6⟩:=(Rn.app (l1:=l1)).mp h4
     exact⟨m,⟨h1,h2,h3,h5⟩,h6⟩
   · rintro⟨m,⟨h1,h2,h3,h5⟩,h6⟩
     exact⟨h1,h2,h3,(Rn.app (l1:=l1)).mpr ⟨m,h5,h6⟩⟩
theorem Rn.le:∀ {l:List (Nat×Nat×Nat)} {a e:Nat},Rn lt P l a e->a+l.length<=e
 | [],a,e,h=>by cases h;simp
 | r::l,a,e,⟨h1,h2,h3,h4⟩=>by have:=Rn.le h4;rw[Qo];lia
theorem Sg.of {a n:Nat}(h:Sg lt P a n)(e:ck P' a (a+n)=ck P a (a+n)):Sg lt P' a n:=⟨by rw[e];exact h.up,by rw[e];exact h.pm⟩
theorem Rn.of:∀ {l:List (Nat×Nat×Nat)} {a e:Nat},Rn lt P l a e->(∀u v,a<=u->u<=v->v<=e->ck P' u v=ck P u v)->Rn lt P' l a e
 | [],a,e,h,_=>h
 | r::l,a,e,⟨h1,h2,h3,h4⟩,k=>⟨h1,h2,h3.of (k _ _ (Qf _) jc (by have:=Rn.le h4;lia)),Rn.of h4 fun u v x y z=>k u v jc y z⟩
theorem Rn.last {l:List (Nat×Nat×Nat)}{r:Nat×Nat×Nat}{a e:Nat}(h:Rn lt P (l++[r]) a e)(p:Nat):Rn lt P (l++[(r.1,r.2.1,p)]) a e:=by
 obtain⟨m,h1,h2,h3,h4,h5⟩:=Rn.app.mp h
 exact Rn.app.mpr ⟨m,h1,h2,h3,h4,h5⟩
theorem zOU {zs:List Nat}{a n u v:Nat}(ha:a<=P.length)(hv:v<=a):ck (P.take a++zs++P.drop n) u v=ck P u v:=by
 show((P.take a++zs++P.drop n).take v).drop u=(P.take v).drop u
 have:(P.take a).length=a:=by rw[Qj];lia
 rw[Qm,Ov jc,Ie,Yy hv]
theorem zPd {zs:List Nat}{a n u v:Nat}(ha:a+n<=P.length)(hz:zs.length=n)(hu:a+n<=u):ck (P.take a++zs++P.drop (a+n)) u v=ck P u v:=by
 have lt:(P.take a).length=a:=by rw[Qj];lia
 apply List.ext_getElem?
 intro i
 show(((P.take a++zs++P.drop (a+n)).take v).drop u)[i]?=((P.take v).drop u)[i]?
 rw[To,To,Ti,Ti]
 by_cases c:u+i < v
 · rw[Qu c,Qu c,Wt (by rw[Qt];lia),To,Qt,lt,hz]
   congr 1;lia
 · rw[Qs c,Qs c]
theorem zRh {zs:List Nat}{a n:Nat}(ha:a<=P.length)(hz:zs.length=n):ck (P.take a++zs++P.drop (a+n)) a (a+n)=zs:=by
 have lt:(P.take a).length=a:=by rw[Qj];lia
 show((P.take a++zs++P.drop (a+n)).take (a+n)).drop a=zs
 rw[Ov (by rw[Qt];lia),Ej (by rw[Qt];lia),List.drop_left' lt]
theorem Rn.merge {l1 l2:List (Nat×Nat×Nat)}{a n1 n2 p1 p2 b e:Nat}{zs:List Nat}(h:Rn lt P (l1++(a,n1,p1)::(b,n2,p2)::l2) 0 e)(he:e<=P.length)(hz:zs.length=n1+n2)(zu:zs.Pairwise (Lx lt))(zp:zs.Perm (List.range' a (n1+n2))) :
   Rn lt (P.take a++zs++P.drop (a+n1+n2)) (l1++(a,n1+n2,p1)::l2) 0 e:=by
 obtain⟨m,h1,rfl,h3,h4,rfl,h6,h7,h8⟩:=Rn.app.mp h
 have hle:=Rn.le h8
 dsimp only at *
 have e3:a+n1+n2=a+(n1+n2):=jc
 rw[e3]
 refine Rn.app.mpr ⟨a,h1.of fun u v _ _ y=>zOU jc y,rfl,by show 0 < n1+n2;lia,⟨by rw[zRh jc hz];exact zu,by rw[zRh jc hz];exact zp⟩,?_⟩
 show Rn lt _ l2 (a+(n1+n2)) e
 rw[←e3]
 rw[e3]
 rw[e3] at h8
 exact h8.of fun u v x _ _=>zPd jc hz x
theorem Rn.two {l1 l2:List (Nat×Nat×Nat)}{a n1 n2 p1 p2 b e:Nat}(h:Rn lt P (l1++(a,n1,p1)::(b,n2,p2)::l2) 0 e):b=a+n1/\0 < n1/\0 < n2/\Sg lt P a n1/\Sg lt P (a+n1) n2/\a+n1+n2<=e:=by
 obtain⟨m,h1,rfl,h3,h4,rfl,h6,h7,h8⟩:=Rn.app.mp h
 have hle:=Rn.le h8
 exact⟨rfl,h3,h6,h4,h7,by dsimp only at hle;lia⟩
theorem zUF {α:Type}{p:Array α}{i:Nat}(h:i+1 < p.size):∃l1 x y l2,p.toList=l1++x::y::l2/\l1.length=i/\p[i]?=some x/\p[i+1]?=some y:=by
 have hl:p.toList.length=p.size:=Wk
 refine⟨p.toList.take i,p[i],p[i+1],p.toList.drop (i+2),?_,by rw[Qj];lia,je,je⟩
 have h1:p.toList.drop i=p.toList[i]' jc::p.toList.drop (i+1):=Ez jc
 have h2:p.toList.drop (i+1)=p.toList[i+1]' jc::p.toList.drop (i+2):=Ez jc
 conv=>lhs;rw[←Wm i p.toList,h1,h2]
 simp
theorem zSC {α:Type}{p:Array α}{l1 l2:List α}{x y z:α}(h:p.toList=l1++x::y::l2):((p.setIfInBounds l1.length z).eraseIdxIfInBounds (l1.length+1)).toList=l1++z::l2:=by
 rw[Op,Array.toList_setIfInBounds,h,List.set_append_right _ _ (Qf _),Nat.sub_self,List.set_cons_zero,List.eraseIdx_append_of_length_le jc]
 have:l1.length+1 - l1.length=1:=jc
 rw[this];rfl
theorem Org.take {M n:Nat}{q:Array Nat}(h:Org M q n)(hn:n<=M):(q.toList.take n).Perm (List.range n):=by
 have hl:q.toList.length=M:=by rw[Wk,h.sz]
 have hd:q.toList.drop n=List.range' n (M - n):=by
   apply List.ext_getElem
   · rw[Wu,List.length_range',hl]
   · intro i h1 h2
     rw[List.length_range'] at h2
     have:=h.hi (n+i) jc jc
     rw[pB] at this
     have h3:n+i < q.size:=by rw[h.sz];lia
     simp[h3] at this
     simp[this]
 have hp:(q.toList.take n++q.toList.drop n).Perm (List.range n++List.range' n (M - n)):=by
   rw[Wm]
   refine h.pm.trans ?_
   rw[Yk,Yk]
   have:=List.range'_append_1 (s:=0) (m:=n) (n:=M - n)
   rw[Nat.zero_add] at this
   rw[this,show n+(M - n)=M by lia]
 rw[hd] at hp
 exact(List.perm_append_right_iff _).mp hp
variable {prog:Program} {w:World} {A:Around} {E:jk} {s:Shared} {κ:SortKind} {it:Array Keyed} {N:Nat}
def zZ8 (P:List Nat)(lo:Nat)(q:Array Nat):List Nat:=P.take lo++q.toList.map (lo+·)
theorem At.ar {P:List Nat}{lo:Nat}{q:Array Nat}{st:SortSt}(h:At it lo (Ar it (P.take lo)) q st):arrOf st=Ar it (zZ8 P lo q):=by
 rw[h.arr]
 apply Rq.mp
 simp[Ar,zZ8]
theorem zQR {P:List Nat}{lo M n:Nat}{q:Array Nat}(hl:lo<=P.length)(hn:n<=M)(ho:Org M q n)(hs:Srt (fun a b=>lt (lo+a) (lo+b)) q n):Sg lt (zZ8 P lo q) lo n:=by
 have lt':(P.take lo).length=lo:=by rw[Qj];lia
 have e:ck (zZ8 P lo q) lo (lo+n)=(q.toList.take n).map (lo+·):=by
   show((P.take lo++q.toList.map (lo+·)).take (lo+n)).drop lo=_
   rw[List.take_append,lt',Nat.add_sub_cancel_left,Ej jc,List.drop_left' lt',Yt]
 refine⟨?_,?_⟩
 · rw[e,Rr,Rh]
   intro i j hi hj hij
   rw[Qj,Wk,ho.sz] at hi hj
   have:=hs i j hij jc
   have h1:i < q.size:=by rw[ho.sz];lia
   have h2:j < q.size:=by rw[ho.sz];lia
   rw[pB,pB] at this
   simp[h1,h2] at this
   have z:∀a b,Lx (fun a b=>lt (lo+a) (lo+b)) a b->Lx lt (lo+a) (lo+b):=fun a b h=>by
     rcases h with h | ⟨h1,h2,h3⟩
     · exact .inl h
     · exact .inr ⟨h1,h2,jc⟩
   simpa using z _ _ this
 · rw[e]
   refine((ho.take hn).map (lo+·)).trans ?_
   rw[Yk,List.map_add_range']
   exact .refl _
structure SI (it:Array Keyed)(lt:Nat->Nat->Bool)(N:Nat)(κ:SortKind)(st:SortSt)(P:List Nat)(lo:Nat):Prop where
 k:PyProof.Rows.kindOf st=κ
 f:failedOf st=none
 a:arrOf st=Ar it P
 len:P.length=N
 rn:Rn lt P (pendingOf st).toList 0 lo
 le:lo<=N
 id:∀j,lo<=j->j < N->P.getD j 0=j
theorem zQO {P zs:List Nat}{a n j:Nat}(ha:a+n<=P.length)(hz:zs.length=n)(hj:a+n<=j):(P.take a++zs++P.drop (a+n)).getD j 0=P.getD j 0:=by
 have lt:(P.take a).length=a:=by rw[Qj];lia
 rw[Wv,Wv,Wt (by rw[Qt];lia),To,Qt,lt,hz]
 congr 2;lia
theorem zQy {P zs:List Nat}{a n:Nat}(ha:a+n<=P.length)(hz:zs.length=n):(P.take a++zs++P.drop (a+n)).length=P.length:=by
 rw[Qt,Qt,Qj,Wu];lia
theorem zUk {P:List Nat}{i e:Nat}{Q:Bool->SortSt->Prop}{st:SortSt}(W:SWO lt)(hq:Orc prog w A s κ it lt N)(hk:PyProof.Rows.kindOf st=κ)(hf:failedOf st=none)(ha:arrOf st=Ar it P)(hN:P.length=N)(hrn:Rn lt P (pendingOf st).toList 0 e)(he:e<=N)(hi:i+1 < (pendingOf st).size)
   (hQ:∀(P':List Nat) (st':SortSt),PyProof.Rows.kindOf st'=κ->failedOf st'=none->arrOf st'=Ar it P'->P'.length=N->Rn lt P' (pendingOf st').toList 0 e->(pendingOf st').size+1=(pendingOf st).size->(∀u v,e<=u->ck P' u v=ck P u v)->(∀j,e<=j->P'.getD j 0=P.getD j 0)->Q true st'):wpS (model prog w) A E s (mergeAt' i) Q st:=by
 obtain⟨l1,⟨a,n1,p1⟩,⟨b,n2,p2⟩,l2,t1,t2,t3,t4⟩:=zUF hi
 rw[t1] at hrn
 obtain⟨rfl,b1,b2,b3,b4,b5⟩:=hrn.two
 refine zMH (P:=P) W hq hk hf ha rfl t3 t4 b1 b2 hN jc b3 b4 fun zs st' c1 c2 c3 c4 c5 c6 c7=>?_
 have e3:a+n1+n2=a+(n1+n2):=jc
 rw[e3] at c4
 have tl:(pendingOf st').toList=l1++(a,n1+n2,p1)::l2:=by rw[c5,←t2,zSC t1]
 refine hQ _ st' c1 c2 c4 (by rw[zQy jc c3];exact hN) ?_ ?_ (fun u v h=>zPd jc c3 jc) fun j h=>zQO jc c3 jc
 · rw[tl,←e3]
   exact hrn.merge jc c3 c6 c7
 · have h1:(pendingOf st').toList.length=(pendingOf st').size:=Wk
   have h2:(pendingOf st).toList.length=(pendingOf st).size:=Wk
   rw[tl] at h1
   rw[t1] at h2
   simp at h1 h2
   lia
theorem zWI {α:Type}{p:Array α}{r:α}(h:p.back?=some r):∃l,p.toList=l++[r]:=by
 obtain⟨l⟩:=p
 have h:l.getLast?=some r:=by simpa using h
 obtain⟨ys,h⟩:=List.getLast?_eq_some_iff.mp h
 exact⟨ys,h⟩
theorem zXf {α:Type}{r:α}{f:α->α}:∀l:List α,(l++[r]).modify l.length f=l++[f r]
 | []=>rfl
 | a::l=>by
   show a::(l++[r]).modify l.length f=_
   rw[zXf l];rfl
theorem zQ0 {α:Type}{p:Array α}{l:List α}{r:α}{f:α->α}(h:p.toList=l++[r]):(p.modify (p.size - 1) f).toList=l++[f r]:=by
 have hs:p.size=l.length+1:=by rw[←Wk,h];simp
 rw[Array.toList_modify,h,hs,Nat.add_sub_cancel,zXf]
theorem zO7 {c:Prop}[Decidable c]{a b m:Nat}(h1:a<=m)(h2:b<=m):(if c then a else b)<=m:=by split<;>assumption
theorem zP7 {Q:Unit->SortSt->Prop}{st:SortSt}(W:SWO lt)(hq:Orc prog w A s κ it lt N)(hN:0 < N)(hk:PyProof.Rows.kindOf st=κ)(hf:failedOf st=none)(ha:arrOf st=Ar it (List.range N))(hp:pendingOf st=#[])
   (hQ:∀(P:List Nat) (st':SortSt),arrOf st'=Ar it P->failedOf st'=none->P.Perm (List.range N)->P.Pairwise (Lx lt)->Q () st'):wpS (model prog w) A E s sortRuns' Q st:=by
 have hsz:(arrOf st).size=N:=by rw[ha,zB,Ry]
 rw[sortRuns'_eq]
 refine Qg (Uu ?_)
 dsimp only
 rw[hsz]
 refine Qg (Em (Er (I:=fun x c st'=>∃P lo,c=(none,lo)/\SI it lt N κ st' P lo/\x<=lo) (Q:=fun c st'=>∃P,c=(none,N)/\SI it lt N κ st' P N) ?step ?fin ⟨List.range N,0,rfl,⟨hk,hf,ha,Ry,by rw[hp];rfl,Ei _,fun j _ h=>by simp[h]⟩,Qf _⟩) ?post)
 case fin =>
   rintro c st' ⟨P,lo,rfl,a1,a2⟩
   have e:lo=N:=by have:=a1.le;lia
   subst e
   exact⟨P,rfl,a1⟩
 case step =>
   rintro x c st1 _ hx ⟨P,lo,rfl,a1,a2⟩
   dsimp only
   by_cases hge:lo≥N
   · rw[Qu hge]
     have e:lo=N:=by have:=a1.le;lia
     subst e
     exact Qb ⟨P,rfl,a1⟩
   rw[Qs hge]
   have WL:=zVN W lo
   have hM:1<=N - lo:=jc
   have j5:=a1.len
   have at0:At it lo (Ar it (P.take lo)) (List.toArray (List.range (N - lo))) st1:=by
     refine⟨?_,by rw[zB,Qj];lia⟩
     rw[a1.a]
     apply Rf
     intro i
     have hs:(Ar it (P.take lo)).size=lo:=by rw[zB,Qj];lia
     rcases Th i lo with z | z
     · rw[Ro jc,zZF,zZF,Ti,Qu z]
     · rw[Wl jc,zZF,hs]
       rcases Th i N with y | y
       · have:=a1.id i z y
         rw[Wv] at this
         have h3:i < P.length:=jc
         have h4:i - lo < N - lo:=jc
         simp[h3] at this
         simp[h3,h4,this]
         congr 1;lia
       · rw[Uz jc,Tt (by rw[Pf,Qp,Ry];lia)]
         rfl
   refine Qg (zRm W hq jc a1.k at0 hM (zTq WL hM) fun n q2 st2 b1 b2 b3=>?_)
   obtain⟨d1,d2,d3,d4⟩:=b3
   dsimp only at d1 d2 d3 d4 ⊢
   generalize minRun' N N 0=mr
   by_cases hlt:n < mr
   case' pos =>
     rw[Qu hlt]
     refine Qg (Ib (Tv ⟨rfl,?_⟩))
     refine Qg (zOz W hq jc (b2.k.trans a1.k) b1 d1 (m:=min (N - lo) mr) jc jc d3 d4 fun q3 st3 g1 g2 g3 g4=>?_)
     rw[Qs jb]
     have n1:1<=min (N - lo) mr:=jc
     have n2:min (N - lo) mr<=N - lo:=jc
     generalize min (N - lo) mr=n' at *
     have g5:Alk st1 st3:=b2.tr g2
   case' neg =>
     rw[Qs hlt]
     obtain⟨n',rfl⟩:∃n',n'=n:=⟨_,rfl⟩
     obtain⟨q3,rfl⟩:∃q3,q3=q2:=⟨_,rfl⟩
     obtain⟨st3,rfl⟩:∃st3,st3=st2:=⟨_,rfl⟩
     have g1:=b1
     have g3:=d3
     have g4:=d4
     have n1:=d1
     have n2:=d2
     have g5:=b2
   all_goals
     have P3a:arrOf st3=Ar it (zZ8 P lo q3):=g1.ar
     have P3s:Sg lt (zZ8 P lo q3) lo n':=zQR jc n2 g4 g3
     have P3l:(zZ8 P lo q3).length=N:=by
       show(P.take lo++q3.toList.map (lo+·)).length=N
       have hq3:q3.toList.length=N - lo:=by rw[Wk,g4.sz]
       rw[Qt,Qj,Qi,hq3];lia
     have P3e:zZ8 P lo q3=P.take lo++q3.toList.map (lo+·)++P.drop N:=by
       rw[Ek jc,Wn];rfl
     have P3r:Rn lt (zZ8 P lo q3) (pendingOf st3).toList 0 lo:=by
       rw[g5.p]
       exact a1.rn.of fun u v _ _ y=>by rw[P3e];exact zOU jc y
     have P3i:∀j,lo+n'<=j->j < N->(zZ8 P lo q3).getD j 0=j:=fun j h1 h2=>by
       have lt':(P.take lo).length=lo:=by rw[Qj];lia
       have:=g4.hi (j - lo) jc jc
       rw[pB] at this
       have h3:j - lo < q3.size:=by rw[g4.sz];lia
       show(P.take lo++q3.toList.map (lo+·)).getD j 0=j
       rw[Wv,Wt jc,lt',Wd,Array.getElem?_toList]
       simp[h3] at this
       simp[h3,this]
       lia
     -- pushed
     have push:∀(P4:List Nat) (st4:SortSt),PyProof.Rows.kindOf st4=κ->failedOf st4=none->arrOf st4=Ar it P4->P4.length=N->Rn lt P4 (pendingOf st4).toList 0 lo->Sg lt P4 lo n'->(∀j,lo+n'<=j->j < N->P4.getD j 0=j)->SI it lt N κ (setPending st4 ((pendingOf st4).push (lo,n',0))) P4 (lo+n'):=fun P4 st4 k1 k2 k3 k4 k5 k6 k7 =>
       ⟨k1,k2,k3,k4,by
         show Rn lt P4 ((pendingOf st4).push (lo,n',0)).toList 0 (lo+n')
         rw[Array.toList_push]
         exact Rn.app.mpr ⟨lo,k5,rfl,n1,k6,rfl⟩,jc,k7⟩
     refine Qg (Uu ?_)
     cases hbk:(pendingOf st3).back? with
     | none =>
       dsimp only
       exact Qg (Tc (Qb ⟨_,_,rfl,push _ st3 (g5.k.trans a1.k) (g5.f.trans a1.f) P3a P3l P3r P3s P3i,jc⟩))
     | some r =>
       obtain⟨s1,m1,r3⟩:=r
       dsimp only
       refine Qg (Em (Er (I:=fun _ c st4=>c=(none,())/\∃P4,PyProof.Rows.kindOf st4=κ/\failedOf st4=none/\arrOf st4=Ar it P4/\P4.length=N/\Rn lt P4 (pendingOf st4).toList 0 lo/\Sg lt P4 lo n'/\(∀j,lo+n'<=j->j < N->P4.getD j 0=j)/\0 < (pendingOf st4).size)
         (Q:=fun c st4=>c=(none,())/\∃P4,PyProof.Rows.kindOf st4=κ/\failedOf st4=none/\arrOf st4=Ar it P4/\P4.length=N/\Rn lt P4 (pendingOf st4).toList 0 lo/\Sg lt P4 lo n'/\(∀j,lo+n'<=j->j < N->P4.getD j 0=j)/\0 < (pendingOf st4).size) ?istep (fun _ _ h=>h) ⟨rfl,_,g5.k.trans a1.k,g5.f.trans a1.f,P3a,P3l,P3r,P3s,P3i,by
           obtain⟨l,hl⟩:=zWI hbk
           rw[←Wk,hl];simp⟩) ?ipost)
       case istep =>
         rintro y c st4 _ _ ⟨rfl,P4,k1,k2,k3,k4,k5,k6,k7,k8⟩
         refine Qg (Uu ?_)
         by_cases h1:(pendingOf st4).size > 1
         · rw[Qu h1]
           obtain⟨l1,⟨x1,x2,x3⟩,y1,l2,t1,t2,t3,t4⟩:=zUF (p:=pendingOf st4) (i:=(pendingOf st4).size - 2) jc
           rw[t3]
           dsimp only
           by_cases h2:x3<=power' N (2*s1+m1) (2*s1+m1+m1+n') N
           · rw[Qu h2]
             exact Qb ⟨rfl,P4,k1,k2,k3,k4,k5,k6,k7,k8⟩
           · rw[Qs h2]
             refine Qg (zUk W hq k1 k2 k3 k4 k5 jc jc fun P5 st5 e1 e2 e3 e4 e5 e6 e7 e8=>?_)
             rw[Qs jb]
             exact Qb ⟨rfl,P5,e1,e2,e3,e4,e5,k6.of (e7 _ _ (Qf _)),fun j j1 j2=>by rw[e8 j jc];exact k7 j j1 j2,jc⟩
         · rw[Qs h1]
           exact Qb ⟨rfl,P4,k1,k2,k3,k4,k5,k6,k7,k8⟩
       case ipost =>
         rintro c st4 ⟨rfl,P4,k1,k2,k3,k4,k5,k6,k7,k8⟩
         dsimp only
         refine Qg (Tc (Qg (Tc (Qb ⟨P4,_,rfl,?_,jc⟩))))
         refine push P4 (setPending st4 _) k1 k2 k3 k4 ?_ k6 k7
         show Rn lt P4 ((pendingOf st4).modify ((pendingOf st4).size - 1) _).toList 0 lo
         obtain⟨r,hr⟩:∃r,(pendingOf st4).back?=some r:=by
           cases hb:(pendingOf st4).back? with
           | none =>
             have:pendingOf st4=#[]:=by simpa using hb
             rw[this] at k8
             exact absurd k8 jb
           | some r=>exact⟨r,rfl⟩
         obtain⟨l,hl⟩:=zWI hr
         rw[zQ0 hl]
         rw[hl] at k5
         exact k5.last _
 case post =>
   rintro c st1 ⟨P,rfl,a1⟩
   dsimp only
   have j5:=a1.len
   refine Qg (Em (Er (I:=fun x c st2=>c=(none,())/\∃P2,PyProof.Rows.kindOf st2=κ/\failedOf st2=none/\arrOf st2=Ar it P2/\P2.length=N/\Rn lt P2 (pendingOf st2).toList 0 N/\x+(pendingOf st2).size<=N)
     (Q:=fun c st2=>c=(none,())/\∃P2,failedOf st2=none/\arrOf st2=Ar it P2/\P2.length=N/\Rn lt P2 (pendingOf st2).toList 0 N/\(pendingOf st2).size<=1) ?fstep ?ffin ⟨rfl,P,a1.k,a1.f,a1.a,a1.len,a1.rn,by
       have:=a1.rn.le
       rw[Wk] at this
       lia⟩) ?fpost)
   case ffin =>
     rintro c st2 ⟨rfl,P2,k1,k2,k3,k4,k5,k6⟩
     exact⟨rfl,P2,k2,k3,k4,k5,jc⟩
   case fstep =>
     rintro x c st2 _ _ ⟨rfl,P2,k1,k2,k3,k4,k5,k6⟩
     refine Qg (Uu ?_)
     by_cases h1:(pendingOf st2).size<=1
     · rw[Qu h1]
       exact Qb ⟨rfl,P2,k2,k3,k4,k5,h1⟩
     · rw[Qs h1]
       have go:∀i,i+1 < (pendingOf st2).size->wpS (model prog w) A E s (mergeAt' i) (fun b st3=>b=true/\∃P3,PyProof.Rows.kindOf st3=κ/\failedOf st3=none/\arrOf st3=Ar it P3/\P3.length=N/\Rn lt P3 (pendingOf st3).toList 0 N/\x+1+(pendingOf st3).size<=N) st2:=fun i hi =>
         zUk W hq k1 k2 k3 k4 k5 (Qf _) hi fun P5 st5 e1 e2 e3 e4 e5 e6 e7 e8=>⟨rfl,P5,e1,e2,e3,e4,e5,jc⟩
       refine Qg (Em (go _ ?_) ?_)
       · exact Nat.lt_of_le_of_lt (Nat.succ_le_succ (zO7 (m:=(pendingOf st2).size - 2) jc (Qf _))) jc
       · rintro b st3 ⟨rfl,P3,h3⟩
         rw[Qs jb]
         exact Qb ⟨rfl,P3,h3⟩
   case fpost =>
     rintro c st2 ⟨rfl,P2,k2,k3,k4,k5,k6⟩
     dsimp only
     have hone:∃r,(pendingOf st2).toList=[r]:=by
       have hl:(pendingOf st2).toList.length<=1:=by rw[Wk];exact k6
       match hh:(pendingOf st2).toList with
       | []=>rw[hh] at k5;exact absurd (show 0=N from k5) jc
       | [r]=>exact⟨r,rfl⟩
       | _::_::_=>rw[hh] at hl;simp at hl
     obtain⟨⟨r1,r2,r3⟩,hr⟩:=hone
     rw[hr] at k5
     obtain⟨c1,c2,c3,c4⟩:=k5
     have c4:0+r2=N:=c4
     have c3:Sg lt P2 0 r2:=c3
     have er:r2=N:=jc
     subst er
     have ep:ck P2 0 (0+P2.length)=P2:=je
     rw[←k4] at c3
     have u1:=c3.up
     have u2:=c3.pm
     rw[ep] at u1 u2
     exact Qb (hQ P2 st2 k3 k2 (by rw[←k4,Yk];exact u2) u1)
end
end L2
namespace L2
open PySem PySem.W PyProof.Rows
def zSH (lt:Nat->Nat->Bool)(a b:Nat):Bool:=lt a b||(!lt b a&&decide (a<=b))
def wO (lt:Nat->Nat->Bool)(N:Nat):List Nat:=(List.range N).mergeSort (zSH lt)
theorem zW8 {lt:Nat->Nat->Bool}{a b:Nat}:zSH lt a b=true↔(Lx lt a b∨(lt b a=false/\a=b)):=by
 unfold zSH Lx
 simp only[Ts,Wg,Ou,Ed]
 cases h1:lt a b<;>cases h2:lt b a<;>simp<;>lia
theorem sF (lt:Nat->Nat->Bool)(N:Nat):(wO lt N).Perm (List.range N):=List.mergeSort_perm _ _
theorem zZe {lt:Nat->Nat->Bool}(W:SWO lt)(N:Nat):(wO lt N).Pairwise (Lx lt):=by
 have h:=List.pairwise_mergeSort (le:=zSH lt) (fun a b c h1 h2=>by
   rw[zW8] at h1 h2 ⊢
   rcases h1 with h1 | ⟨h1,rfl⟩
   · rcases h2 with h2 | ⟨h2,rfl⟩
     · exact .inl (Lx.trans W h1 h2)
     · exact .inl h1
   · exact h2) (fun a b=>by
   unfold zSH
   cases h1:lt a b<;>cases h2:lt b a<;>simp<;>lia) (List.range N)
 have nd:(wO lt N).Nodup:=(sF lt N).nodup_iff.mpr List.nodup_range
 refine(h.and nd).imp fun {a b} z=>?_
 rcases zW8.mp z.1 with q | ⟨_,q⟩
 · exact q
 · exact absurd q z.2
theorem zP2 {lt:Nat->Nat->Bool}(W:SWO lt){a b:Nat}(h1:Lx lt a b)(h2:Lx lt b a):False:=by
 rcases h1 with h1 | ⟨_,_,h1⟩
 · rcases h2 with h2 | ⟨_,h2,_⟩
   · rw[W.asym h1] at h2;cases h2
   · rw[h1] at h2;cases h2
 · rcases h2 with h2 | ⟨_,_,h2⟩
   · rename_i q _
     have:=W.asym h2
     simp_all
   · lia
theorem zRM {lt:Nat->Nat->Bool}(W:SWO lt):∀ {l m:List Nat},l.Perm m->l.Pairwise (Lx lt)->m.Pairwise (Lx lt)->l=m
 | [],m,h,_,_=>(List.Perm.nil_eq h)
 | a::r,m,h,h1,h2=>by
   cases m with
   | nil=>exact absurd h.length_eq je
   | cons b t =>
     obtain⟨p1,p2⟩:=Rg.mp h1
     obtain⟨q1,q2⟩:=Rg.mp h2
     have e:a=b:=by
       have ha:a∈b::t:=h.subset je
       have hb:b∈a::r:=h.symm.subset je
       rcases Qa.mp ha with e | e
       · exact e
       · rcases Qa.mp hb with e' | e'
         · exact e'.symm
         · exact(zP2 W (q1 a e) (p1 b e')).elim
     subst e
     rw[zRM W (List.Perm.cons_inv h) p2 q2]
theorem zTd {lt:Nat->Nat->Bool}(W:SWO lt){n:Nat}{P:List Nat}(h1:P.Perm (List.range n))(h2:P.Pairwise (Lx lt)):P=wO lt n:=zRM W (h1.trans (sF lt n).symm) h2 (zZe W n)
theorem zZY (lt:Nat->Nat->Bool){n:Nat}(h:n < 2):wO lt n=List.range n:=by
 match n,h with
 | 0,_=>simp[wO]
 | 1,_=>simp[wO,List.range_succ]
section
variable {prog:Program} {w:World} {A:Around} {E:jk} {s:Shared}
theorem zRa {keys vs:jm}{i:Nat}(h:i < keys.length)(h':i < vs.length):(keys.zip vs)[i]?=some (keys[i],vs[i]):=by
 rw[Wo (by rw[Ym];lia),List.getElem_zip]
theorem zWv {keys vs:jm}{κ:SortKind}{lt:Nat->Nat->Bool}{Q:Unit×SortSt->Shared->Prop}(W:SWO lt)(hl:keys.length=vs.length)(h1:1<=vs.length)(hc:∀i j C,i < vs.length->j < vs.length->C (lt i j) s->kas_ask prog w A κ keys i j C s)
   (hQ:∀st',(arrOf st').map (·.2)=List.toArray ((wO lt vs.length).map fun i=>vs.getD i Value.none)->failedOf st'=none->Q ((),st') s):wpAny (model prog w) A (sortRuns'.run (SortSt.mk' κ (keys.toArray.zip vs.toArray) #[] 7 none)) Q E s:=by
 have hi:∀i,i < vs.length->kas_item (keys.toArray.zip vs.toArray) i=(keys.getD i Value.none,vs.getD i Value.none):=fun i h=>by
   have h':i < keys.length:=jc
   unfold kas_item
   simp[Pw,h,h',zRa h' h]
 have hA:keys.toArray.zip vs.toArray=Ar (keys.toArray.zip vs.toArray) (List.range vs.length):=by
   apply Rf
   intro i
   rw[zZF]
   rcases Th i vs.length with z | z
   · have h':i < keys.length:=by lia
     rw[Ia z,Rk,hi i z]
     simp[z,h',zRa h' z]
   · rw[Uz (by simpa using z),Tt (by simp;lia)];rfl
 have:=zP7 (prog:=prog) (w:=w) (A:=A) (E:=E) (s:=s) (κ:=κ) (it:=keys.toArray.zip vs.toArray) (lt:=lt) (N:=vs.length) (st:=SortSt.mk' κ (keys.toArray.zip vs.toArray) #[] 7 none)
   (Q:=fun _ st'=>(arrOf st').map (·.2)=List.toArray ((wO lt vs.length).map fun i=>vs.getD i Value.none)/\failedOf st'=none) W (fun i j C hi' hj' hC=>?_) h1 rfl rfl hA rfl fun P st' p1 p2 p3 p4=>⟨?_,p2⟩
 · unfold wpS at this
   refine Te this ?_ fun _ _ e=>e
   rintro⟨⟨⟩,st'⟩ s' ⟨rfl,h1,h2⟩
   exact hQ st' h1 h2
 · have:=hc i j C hi' hj' hC
   unfold kas_cmp
   rw[hi i hi',hi j hj']
   exact this
 · rw[p1,←zTd W p3 p4]
   apply Rq.mp
   simp only[Ar,Us,Rx]
   refine Ig fun i h=>?_
   have:i < vs.length:=by simpa using p3.subset h
   show(kas_item _ i).2=_
   rw[hi i this]
end
end L2
namespace L2
open PySem PySem.Spec PyProof.Rows
end L2
namespace Att
open PySem PySem.W PySem.Spec PyProof.Rows
end Att
namespace Att
open PySem PySem.W PySem.Calls PyProof.Rows
end Att
namespace L2
open PySem PySem.Spec PyProof.Rows
inductive All2 {α β:Type}(R:α->β->Prop):List α->List β->Prop
 | nil:All2 R [] []
 | cons {a b l m}:R a b->All2 R l m->All2 R (a::l) (b::m)
theorem Paired.upd {α β:Type}{F F':α->β->Prop}{b':β}:∀ {l:List α} {r:List β} (i:Nat),Paired F l r->(∀(j:Nat) (a:α) (b:β),j≠i->l[j]?=some a->r[j]?=some b->F a b->F' a b)->(∀a,l[i]?=some a->F' a b')->Paired F' l (r.set i b')
 | _,_,_,.nil,_,_=>.nil
 | _,_,0,.cons q t,h1,h2=>by
   rw[List.set_cons_zero]
   refine .cons (h2 _ rfl) ?_
   have tl:∀ {l:List α} {r:List β} (n:Nat),Paired F l r->(∀(j:Nat) (a:α) (b:β),l[j]?=some a->r[j]?=some b->F a b->F' a b)->Paired F' l r:=by
     intro l r n p
     induction p with
     | nil=>intro _;exact .nil
     | cons q t ih=>intro h;exact .cons (h 0 _ _ rfl rfl q) (ih fun j a b e1 e2=>h (j+1) a b (by simpa using e1) (by simpa using e2))
   exact tl 0 t fun j a b e1 e2=>h1 (j+1) a b jc (by simpa using e1) (by simpa using e2)
 | _,_,i+1,.cons q t,h1,h2=>by
   rw[List.set_cons_succ]
   exact .cons (h1 0 _ _ jc rfl rfl q) (Paired.upd i t (fun j a b hj e1 e2=>h1 (j+1) a b jc (by simpa using e1) (by simpa using e2)) fun a e=>h2 a (by simpa using e))
section
variable {a:Expr}
theorem zYV:∀ {vs:List V} {us:jm} {v:V} {u:Value},Vals vs us->RelV v u->Vals (vs++[v]) (us++[u])
 | _,_,_,_,.nil,h=>.cons h .nil
 | _,_,_,_,.cons a t,h=>.cons a (zYV t h)
end
section
variable {prog:Program} {w:World} {A:Around} {E:jk} {s:Shared}
theorem mT {id:String}{b:Builtin}{args:jm}{kw:List (Str×Value)}{Q:jk}(hk:builtinKind id=none)(hp:plainId id=true)
   (hb:entryFor table id=some b) (ha:argsOk id ⟨args,kw⟩)
   (hc:wpAny (model prog w) A.in1 (b ⟨args,kw⟩) (fun fin s'=>match fin with
     | .done f=>(match (Except.ok f:Result) with | .ok (.ret v)=>Q v s' | .ok _=>False | .error e=>E e s')
     | .again c'=>c'.quiet=true/\codeAny (model prog w) A c' (fun r s'=>match r with | .ok (.ret v)=>Q v s' | .ok _=>False | .error e=>E e s') s') E s) :
   wpAny (model prog w) A (call (.builtin id) args kw) Q E s:=by
 refine Ot (Iq hp hb ?_)
 simp only[checkBuiltinCall,hk]
 cases hsig:Manifest.signature? id with
 | none=>exact Qh hc
 | some sig =>
   have h2:Bind.checkArgs id sig ⟨args,kw⟩=pure ():=by simpa only [argsOk,hsig] using ha
   show wpAny _ A.in1 (Bind.checkArgs id sig ⟨args,kw⟩) _ _ s
   rw[h2];exact Qh hc
end
end L2
namespace L2
open PySem PySem.W PyProof.Rows
section
variable {X:Cx} {Z:jl} {σ:St} {H:Hp} {s:Shared}
theorem Inv.adopt {D kS:Addr}{o:HO}{h':Heap}(I:Inv X Z σ H s)(k:∀b u,b≠D->b≠kS->s.heap.get? b=some u->h'.get? b=some u)(hD:H D=none)(hK:H kS=none)(hne:D≠kS)
   (h1:∀b,b=D∨b=kS->X.s₀.heap.objs.size<=b/\b≠X.env.locals/\(∀x c,X.env.cells.lookup x=some c->c≠b)/\∀p∈X.pn++Z,p.1≠b) (new:ObjOk X.prog X.w (upd H D o) h' D o) :
   Inv X Z σ (upd H D o) { s with heap:=h' }:=by
 have nD:∀b u,H b=some u->b≠D:=fun b u e z=>by rw[z,hD] at e;cases e
 have nK:∀b u,H b=some u->b≠kS:=fun b u e z=>by rw[z,hK] at e;cases e
 have hin:∀ {b:Addr},b∉[D,kS]->b≠D/\b≠kS:=fun hb=>⟨fun z=>hb (by simp[z]),fun z=>hb (by simp[z])⟩
 refine I.step (g':=s.gens) (d':=s.drawn) (t':=s.toks) (ch:=[D,kS]) (fun b hb=>?_) (fun b u _ _ hc e _=>k b u (hin hc).1 (hin hc).2 e) (fun b u _ _ hc e _=>⟨u.slots,k b u (hin hc).1 (hin hc).2 e⟩) (fun b u hc _ n=>by rw[zN (hin hc).1];exact n)
   (fun b u hc e=>⟨u,k b u (hin hc).1 (hin hc).2 e⟩) (fun b xs e=>by rw[zN (nD b _ e)];exact e) (fun b u xs e=>by rw[zN (nD b _ e)];exact e) (fun b ps e=>⟨#[],by rw[zN (nD b _ e),e];simp⟩) (fun m hm=>?_) (fun b u e=>?_) I.bare
 · have hb':b=D∨b=kS:=by simpa using hb
   obtain⟨a1,a2,a3,a4⟩:=h1 b hb'
   exact⟨.inr a1,a2,a3,a4⟩
 · obtain⟨u,es,ep,hu,r⟩:=hm
   exact⟨u,es,ep,k _ u (Ne.symm (h1 D (.inl rfl)).2.1) (Ne.symm (h1 kS (.inr rfl)).2.1) hu,r⟩
 · by_cases hb:b=D
   · subst hb
     rw[zL] at e
     cases e
     exact new
   · rw[zN hb] at e
     refine(I.hok b u e).stay (fun c v hc q=>?_) (fun c q=>by rw[zN (nD c _ q)];exact q) fun c xs q=>by rw[zN (nD c _ q)];exact q
     have hc':c≠D/\c≠kS:=by
       rcases hc with z | z
       · rw[z];exact⟨hb,nK b u e⟩
       · exact⟨nD c _ z,nK c _ z⟩
     exact k c v hc'.1 hc'.2 q
def Own (X:Cx)(Z:jl)(b:Addr):Prop:=X.s₀.heap.objs.size<=b/\b≠X.env.locals/\(∀x c,X.env.cells.lookup x=some c->c≠b)/\(∀p∈X.pn++Z,p.1≠b)/\b∉X.fs
theorem zUf {H:Hp}{s:Shared}(I:Inv X Z σ H s){b:Addr}(hb:s.heap.objs.size<=b):Own X Z b:=by
 refine⟨Wp I.sz hb,fun z=>?_,fun x c e z=>?_,fun p hp z=>?_,I.nofs hb⟩
 · have:=I.lt
   rw[←z] at this
   exact absurd this (Ub.mpr hb)
 · obtain⟨v,o,ho,_⟩:=I.cell x c e
   have:=Qd ho
   rw[z] at this
   exact absurd this (Ub.mpr hb)
 · have:=Qd (I.pin p hp).1
   rw[z] at this
   exact absurd this (Ub.mpr hb)
abbrev sC (us:jm)(c:Nat):Obj:=seqObj "list" us.toArray c
theorem bG (us:jm)(c:Nat):∀v,(sC us c).data ≠ .cell v:=fun _ h=>nomatch h
theorem zRx {D kS fa:Addr}{e1:Nat}{us:jm}(J:Nat->List Value->Hp->Prop)(hD:Own X Z D)(hK:Own X Z kS)(hne:D≠kS)(j5:us.length<=1000)
   (hstep:∀i x ws H' s' pins',us[i]?=some x->J i ws H'->Inv X pins' σ H' s'->wpAny (model X.prog X.w) X.A.in1.in1 (call (.ref fa) [x]) (fun u s''=>∃H'',Inv X pins' σ H'' s''/\J (i+1) (ws++[u]) H'') (fun _ _=>False) s')
   {s:Shared} {H:Hp} (hJ:J 0 [] H) (I:Inv X ((D,sC [] e1)::(kS,sC [] 0)::Z) σ H s) {P:PySem.Fin->Shared->Prop} {E:jk}
   (hfin:∀ws c H' s',J us.length ws H'->ws.length=us.length->Inv X ((D,sC [] e1)::(kS,sC ws c)::Z) σ H' s'->wpAny (model X.prog X.w) X.A.in1.in1 (ksk_end D false us.toArray e1 (.ref kS) ws.toArray) P E s') :
   wpAny (model X.prog X.w) X.A.in1.in1 (ksk_rest D (.ref fa) false us.toArray e1 (.ref kS)) P E s:=by
 unfold ksk_rest
 refine Qe (Tv ?_)
 first
   | rw[List.forIn_toArray]
   | (rw[←Array.forIn_toList];simp only[List.toList_toArray])
   | rw[←Array.forIn_toList]
 refine Qe (ksk_fold (fun i s'=>∃ws c H',J i ws H'/\ws.length=i/\Inv X ((D,sC [] e1)::(kS,sC ws c)::Z) σ H' s') us 0 s ⟨[],0,H,hJ,rfl,I⟩ (fun j x s' hx hd=>?_) fun s' hd=>?_)
 · obtain⟨ws,c,H',j1,j2,I'⟩:=hd
   rw[Nat.zero_add] at j1 j2 ⊢
   have hj:j < us.length:=(Qn.mp hx).1
   refine Qe (Iv (Te (hstep j x ws H' s' _ hx j1 I') (fun u s'' hu=>?_) fun _ _ z=>z.elim))
   obtain⟨H'',I'',j3⟩:=hu
   have pk:=I''.pin (kS,sC ws c) je
   have pd:=I''.pin (D,sC [] e1) je
   have ea:(List.toArray ws).push u=List.toArray (ws++[u]):=je
   obtain⟨c2,hc2⟩:∃c2,(s''.heap.update kS (Obj.mapSeq (·.push u))).get? kS=some (sC (ws++[u]) c2):=⟨_,by show _=some (seqObj "list" (List.toArray (ws++[u])) _);rw[←ea];exact Ux pk.1 (·.push u)⟩
   try dsimp only
   refine Qe (Tb pk.1 rfl ?_ (by rw[Qp,Ee];lia) (Wp (Ug (Array.size_push ..)) (by rw[Qp,Ee];lia)))
   refine Qh ⟨rfl,ws++[u],c2,H'',j3,by rw[Qt,j2];rfl,?_⟩
   have Id:Inv X ((D,sC [] e1)::Z) σ H'' s'':=I''.pins_of fun p hp=>by
     rcases Qa.mp hp with rfl | hp
     · exact pd
     · exact I''.pin p (by simp[hp])
   have keep:∀b o,b≠kS->s''.heap.get? b=some o->(s''.heap.update kS (Obj.mapSeq (·.push u))).get? b=some o:=fun b o hb e=>by rw[Ea _ _ _ _ hb];exact e
   have It:=Id.turned (t':=s''.toks) (it:=kS) (h':=s''.heap.update kS (Obj.mapSeq (·.push u))) keep pk.2.1 hK.2.1 (.inr hK.1) hK.2.2.1 (fun p hp=>by
     rcases Wq.mp hp with z | z
     · exact hK.2.2.2.1 p (Yj _ z)
     · rcases Qa.mp z with rfl | z
       · exact hne
       · exact hK.2.2.2.1 p (Ws _ z))
   refine It.pins_of fun p hp=>?_
   rcases Qa.mp hp with rfl | hp
   · exact It.pin _ je
   · rcases Qa.mp hp with rfl | hp
     · exact⟨hc2,pk.2.1,hK.2.1,hK.2.2.2.2,bG _ _⟩
     · exact It.pin p (by simp[hp])
 · obtain⟨ws,c,H',j1,j2,I'⟩:=hd
   rw[Nat.zero_add] at j1 j2
   have pk:=I'.pin (kS,sC ws c) je
   try dsimp only
   exact Qe (Od pk.1 rfl (hfin ws c H' s' j1 j2 I'))
variable {D kS:Addr} {e1:Nat} {ws:jm} {c:Nat} {P:PySem.Fin->Shared->Prop} {E:jk}
theorem zWG {st:SortSt}{out:jm}(hne:D≠kS)(hout:(arrOf st).map (·.2)=List.toArray out)(hf:failedOf st=none)(hz:out.length<=1000)(hw:ws.length<=1000)(I:Inv X ((D,sC [] e1)::(kS,sC ws c)::Z) σ H s)
   (h:∀h' c3,(∀b o,b≠D->b≠kS->s.heap.get? b=some o->h'.get? b=some o)->h'.get? D=some (sC out c3)->P (.done (.ret .none)) { s with heap:=h' }) :
   wpAny (model X.prog X.w) X.A.in1.in1 (ksk_tail D false e1 (.ref kS) st) P E s:=by
 have pk:=I.pin (kS,sC ws c) je
 have pd:=I.pin (D,sC [] e1) je
 have pd':(s.heap.update kS (Obj.mapSeq fun _=>(#[]:jn))).get? D=some (seqObj "list" #[] e1):=by rw[Ea _ _ _ _ hne];exact pd.1
 obtain⟨c3,hc3⟩:∃c3,((s.heap.update kS (Obj.mapSeq fun _=>(#[]:jn))).update D (Obj.mapSeq fun _=>List.toArray out)).get? D=some (sC out c3):=⟨_,Ux pd' fun _=>List.toArray out⟩
 unfold ksk_tail
 try dsimp only
 rw[hout]
 refine Qe (Tb pk.1 rfl (Qe (Ui (Qe (Uo pd' rfl ?_)))) (by rw[Qp,Ee];lia) (Ei _))
 refine Qe (Tb pd' rfl ?_ (Ei _) (by show(List.toArray out).size<=_;rw[Qp,Ee];lia))
 rw[hf]
 simp only[Oa,Wf,Rv]
 refine Qh (h _ c3 (fun b o h1 h2 e=>?_) hc3)
 rw[Ea _ _ _ _ h1,Ea _ _ _ _ h2]
 exact e
theorem zPV {us:jm}{lt:Nat->Nat->Bool}(W:SWO lt)(hne:D≠kS)(hl:ws.length=us.length)(h64:us.length<=1000)(I:Inv X ((D,sC [] e1)::(kS,sC ws c)::Z) σ H s)
   (hq:2<=us.length->∃κ,(∀(E':jk) Q,Q κ s->wpAny (model X.prog X.w) X.A.in1.in1 (keyKind' ws.toArray) Q E' s)/\∀i j C,i < us.length->j < us.length->C (lt i j) s->kas_ask X.prog X.w X.A.in1.in1 κ ws i j C s)
   (h:∀h' c3,(∀b o,b≠D->b≠kS->s.heap.get? b=some o->h'.get? b=some o)->h'.get? D=some (sC ((wO lt us.length).map fun i=>us.getD i Value.none) c3)->P (.done (.ret .none)) { s with heap:=h' }) :
   wpAny (model X.prog X.w) X.A.in1.in1 (ksk_end D false us.toArray e1 (.ref kS) ws.toArray) P E s:=by
 unfold ksk_end
 try dsimp only
 simp only[Wf,Rv]
 by_cases h2:us.toArray.size < 2
 · have h2':us.length < 2:=by simpa using h2
   rw[Qu h2,Qu h2]
   refine Qe (Qh ?_)
   rw[StateT.run_pure]
   refine Qe (Qh ?_)
   have e:(wO lt us.length).map (fun i=>us.getD i Value.none)=us:=by
     rw[zZY lt h2',tZ]
   rw[e] at h
   refine zWG (out:=us) hne ?_ rfl h64 jc I h
   apply Rq.mp
   show((ws.toArray.zip us.toArray).map (·.2)).toList=us
   rw[Us,ksk_zip]
   have:∀(a b:jm),a.length=b.length->(List.zip a b).map (fun x=>x.2)=b:=by
     intro a b hab
     exact List.map_snd_zip jc
   exact this ws us hl
 · have h2':2<=us.length:=(by have:¬us.length < 2:=(by simpa using h2);lia)
   rw[Qs h2,Qs h2]
   obtain⟨κ,hk,hc⟩:=hq h2'
   refine Qe (hk _ _ ?_)
   refine Qe (zWv W hl jc hc fun st' har hf=>?_)
   have j5:(wO lt us.length).length=us.length:=by
     rw[(sF lt _).length_eq,Ry]
   exact zWG hne har hf (by rw[Qi,j5];exact h64) jc I h
theorem zXO {q fa:Addr}{us:jm}{lt:Nat->Nat->Bool}{Q:jk}(W:SWO lt)(J:Nat->List Value->Hp->Prop)(hl:s.heap.IsList q us.toArray)(h64:us.length<=1000)(I:Inv X Z σ H s)(hJ:J 0 [] H)
   (hstep:∀i x ws H' s' pins',us[i]?=some x->J i ws H'->Inv X pins' σ H' s'->wpAny (model X.prog X.w) X.A.in1.in1 (call (.ref fa) [x]) (fun u s''=>∃H'',Inv X pins' σ H'' s''/\J (i+1) (ws++[u]) H'') (fun _ _=>False) s')
   (hq:∀ws H' s' pins',J us.length ws H'->ws.length=us.length->Inv X pins' σ H' s'->2<=us.length->∃κ,(∀(E':jk) Q,Q κ s'->wpAny (model X.prog X.w) X.A.in1.in1 (keyKind' ws.toArray) Q E' s')/\∀i j C,i < us.length->j < us.length->C (lt i j) s'->kas_ask X.prog X.w X.A.in1.in1 κ ws i j C s')
   (hend:∀ws H' D s',J us.length ws H'->H' D=none->(∀o,(∀h':Heap,(∃c3,h'.get? D=some (sC ((wO lt us.length).map fun i=>us.getD i Value.none) c3))->ObjOk X.prog X.w (upd H' D o) h' D o)->Inv X Z σ (upd H' D o) s')->Q (.ref D) s') :
   wpAny (model X.prog X.w) X.A (call (.builtin "sorted") [.ref q] [(Str.ofString "key",.ref fa)]) Q E s:=by
 have hsz:((s.heap.push (seqObj "list" #[] 0)).update s.heap.objs.size (Obj.mapSeq (· ++ us.toArray))).objs.size=s.heap.objs.size+1:=by rw[Ox,size_push']
 have qD:(((s.heap.push (seqObj "list" #[] 0)).update s.heap.objs.size (Obj.mapSeq (· ++ us.toArray))).push (seqObj "list" us.toArray 0)).get? (s.heap.objs.size+1)=some (seqObj "list" us.toArray 0):=by
   rw[←hsz];exact Ww _ rfl
 have old:∀b o,s.heap.get? b=some o->(((s.heap.push (seqObj "list" #[] 0)).update s.heap.objs.size (Obj.mapSeq (· ++ us.toArray))).push (seqObj "list" us.toArray 0)).get? b=some o:=fun b o e=>by
   have hlt:b < s.heap.objs.size:=Qd e
   exact Qy _ (by rw[Ea _ _ _ _ (Wi hlt)];exact Qy _ e)
 generalize hh1:(((s.heap.push (seqObj "list" #[] 0)).update s.heap.objs.size (Obj.mapSeq (· ++ us.toArray))).push (seqObj "list" us.toArray 0))=h1 at qD old
 have hD0:s.heap.objs.size<=s.heap.objs.size+1:=Yn _
 generalize hDd:s.heap.objs.size+1=D at qD hD0
 refine mT kind_sorted plain_sorted entry_sorted (ksk_s1 _ _) ?_
 unfold Builtin.«sorted»
 refine Qe (m:=checkCount "sorted" 1 1 _) (Qh (Qe (collect_list hl ?_ (by rw[Ee];lia))))
 refine Qe (Up ?_ (by rw[Ee];lia))
 show wpAny _ _ _ _ _ { s with heap:=((s.heap.push (seqObj "list" #[] 0)).update s.heap.objs.size (Obj.mapSeq (· ++ us.toArray))).push (seqObj "list" us.toArray 0) }
 rw[hsz,hh1,hDd]
 -- the list is sorted
 obtain⟨e1,q1⟩:∃e1,(h1.update D (Obj.mapSeq fun _=>(#[]:jn))).get? D=some (seqObj "list" #[] e1):=⟨_,Ux qD (fun _=>#[])⟩
 have hDlt:D < h1.objs.size:=Qd qD
 have old2:∀b o,s.heap.get? b=some o->(h1.update D (Obj.mapSeq fun _=>(#[]:jn))).get? b=some o:=fun b o e=>by
   rw[Ea _ _ _ _ (Wi (Wy (Qd e) hD0))];exact old b o e
 have hkS:((h1.update D (Obj.mapSeq fun _=>(#[]:jn))).push (seqObj "tuple" us.toArray 0)).objs.size=h1.objs.size+1:=by rw[size_push',Ox]
 refine Qe (Re (wpAny_call_entry_kw slot_list_sort ⟨_,qD,rfl⟩ entry_list_sort ?body (ksk_l1 _ _)))
 rw[ksk_t1]
 unfold ksk_tree
 refine Qe (Od (n:=0) qD rfl (Qe (Tb (n:=0) qD rfl ?_ (by rw[Qp,Ee];lia) (Ei _))))
 refine Qe (Uo q1 rfl (Qe (Ph ?_ (by show us.length<=_;rw[Ee];lia))))
 refine Qe (Up (Re ?_) (Ei _))
 show wpAny (model X.prog X.w) X.A.in1.in1 (ksk_rest D (.ref fa) false us.toArray e1 (.ref ((h1.update D (Obj.mapSeq fun _=>(#[]:jn))).push (seqObj "tuple" us.toArray 0)).objs.size)) _ _ { s with heap:=((h1.update D (Obj.mapSeq fun _=>(#[]:jn))).push (seqObj "tuple" us.toArray 0)).push (seqObj "list" #[] 0) }
 have qk:(((h1.update D (Obj.mapSeq fun _=>(#[]:jn))).push (seqObj "tuple" us.toArray 0)).push (seqObj "list" #[] 0)).get? ((h1.update D (Obj.mapSeq fun _=>(#[]:jn))).push (seqObj "tuple" us.toArray 0)).objs.size=some (sC [] 0):=Ww _ rfl
 have hks1:s.heap.objs.size<=((h1.update D (Obj.mapSeq fun _=>(#[]:jn))).push (seqObj "tuple" us.toArray 0)).objs.size:=by rw[hkS];exact Wp hD0 (Wp (Wb hDlt) (Yn _))
 have hne:D≠((h1.update D (Obj.mapSeq fun _=>(#[]:jn))).push (seqObj "tuple" us.toArray 0)).objs.size:=by rw[hkS];exact Wi (Nat.lt_succ_of_lt hDlt)
 have I1:Inv X Z σ H { s with heap:=((h1.update D (Obj.mapSeq fun _=>(#[]:jn))).push (seqObj "tuple" us.toArray 0)).push (seqObj "list" #[] 0),toks:=s.toks }:=I.kept fun b o e=>Qy _ (Qy _ (old2 b o e))
 generalize((h1.update D (Obj.mapSeq fun _=>(#[]:jn))).push (seqObj "tuple" us.toArray 0)).objs.size=kS at qk hks1 hne
 have oD:=zUf I hD0
 have oK:=zUf I hks1
 have qd:(((h1.update D (Obj.mapSeq fun _=>(#[]:jn))).push (seqObj "tuple" us.toArray 0)).push (seqObj "list" #[] 0)).get? D=some (sC [] e1):=Qy _ (Qy _ q1)
 refine zRx (X:=X) (Z:=Z) (σ:=σ) J oD oK hne h64 hstep hJ (I1.pins_of fun p hp=>?_) fun ws c H' s' j1 j2 I'=>?_
 · rcases Qa.mp hp with rfl | hp
   · exact⟨qd,I.hok.fresh hD0,oD.2.1,oD.2.2.2.2,bG _ _⟩
   · rcases Qa.mp hp with rfl | hp
     · exact⟨qk,I.hok.fresh hks1,oK.2.1,oK.2.2.2.2,bG _ _⟩
     · exact I1.pin p (Ws _ hp)
 · refine zPV (lt:=lt) W hne j2 h64 I' (fun h2=>hq ws H' s' _ j1 j2 I' h2) fun h' c3 kk hd=>⟨_,rfl,?_⟩
   refine Qh ?_
   have pd:=I'.pin (D,sC [] e1) je
   have pk:=I'.pin (kS,sC ws c) je
   have Ip:Inv X Z σ H' s':=I'.pins_of fun p hp=>I'.pin p (by simp[hp])
   refine hend ws H' D _ j1 pd.2.1 fun o ho=>?_
   exact Ip.adopt kk pd.2.1 pk.2.1 hne (fun b hb=>by
     rcases hb with rfl | rfl
     · exact⟨oD.1,oD.2.1,oD.2.2.1,oD.2.2.2.1⟩
     · exact⟨oK.1,oK.2.1,oK.2.2.1,oK.2.2.2.1⟩) (ho h' ⟨c3,hd⟩)
end
end L2
namespace L2
open PySem PySem.W PySem.Spec PyProof.Rows
section
variable {P:Program} {w:World} {A:Around} {E:jk} {s:Shared} {d:Addr} {es:Array DictEntry} {ep:Nat}
theorem zON (lo:(d==sysModules)=false):KdlSrc P w "dict" d d es.size (fun i v=>es[i]?.map (·.key)=some v) (fun h=>DEs h d es ep) where
 type:=fun s ⟨o,ho,hx,_⟩=>⟨o,ho,hx.1⟩
 there:=fun h ⟨o,ho,_⟩=>⟨Qd ho,Qd ho⟩
 keep:=fun h h' x k=>x.keep fun o e=>k d (.inl rfl) o e
 notList:=jb
 notTuple:=jb
 hint:=fun A E s Q ⟨o,ho,hx,_⟩ q=>kdl_hint_dict ⟨o,ho,hx.1⟩ q
 iter:=fun A s hh x=>⟨kiO d 0 es.size ep,fun i h=>h.get? s.heap.objs.size=some (kiO d i es.size ep)/\DEs h d es ep,fun E Q q=>zQb x lo q,
   { sub:=fun b q=>by simp at q;simp[q]
     frame:=fun i h h' y k=>⟨k _ je _ y.1,y.2.keep fun o e=>k d je o e⟩
     item:=fun i s' Q E hi y hQ=>by
       have hv:es[i]?.map (·.key)=some es[i].key:=by simp[hi]
       refine zQA y.2 y.1 hv fun h' sb e=>hQ _ h' s'.toks hv ⟨e,y.2.keep fun o e'=>(sb.2 d ?_).trans e'⟩ fun b o hb e'=>(sb.2 b (by simpa using hb)).trans e'
       obtain⟨o,ho,_⟩:=x
       exact Wi (Qd ho)
     done:=fun s' Q E y hQ=>zNI hh y.2 y.1 je fun h' k=>hQ h' s'.toks fun b o hb e=>k b o (by simpa using hb) e
     self:=fun i s' Q E y hQ=>by
       have hT:s'.TypeIs (.ref s.heap.objs.size) "dict_keyiterator":=⟨_,y.1,rfl⟩
       refine wpAny_pyIter_slot hT F.slot_dict_keyiterator_iter (Ra F.slot_dict_keyiterator_iter hT F.entry_dict_keyiterator_iter ?_ (F.args_dict_keyiterator_iter_1 _))
       exact Qh ⟨_,rfl,"dict_keyiterator",_,hT,F.slot_dict_keyiterator_next.lookup,hQ⟩ },
   ⟨Ww _ rfl,x.keep fun o e=>Qy _ e⟩⟩
theorem zQn {R:Result->Shared->Prop}(hh:A.handled=none)(hd:DEs s.heap d es ep)(lo:(d==sysModules)=false)(hz:es.size<=1000)
   (h:∀h' tk c,(∀c o,s.heap.get? c=some o->h'.get? c=some o)->h'.get? s.heap.objs.size=some { cls:=.type "list",dict:=none,data:=.seq (es.map (·.key)) c,slots:=#[] }->R (.ok (.ret (.ref s.heap.objs.size))) { s with heap:=h',toks:=tk }) :
   codeAny (model P w) A (.builtin "proto.collect" ⟨[.ref d],[]⟩) R s:=by
 have ld:d < s.heap.objs.size:=let ⟨o,ho,_⟩:=hd;Qd ho
 refine Tg F.entry_proto_collect ?_
 rw[Rj F.plain_proto_collect _]
 change wpAny _ A.in1 (newList [] >>= fun l=>again (.builtin "list.__iadd__" ⟨[l,.ref d],[]⟩)) _ _ s
 refine Qe (Tx (Qh ⟨Yx F.plain_list_iadd _,Tg F.entry_list_iadd ?_⟩))
 rw[Rj F.plain_list_iadd _]
 have hL1:(s.heap.push { cls:=.type "list",data:=.seq ([]:jm).toArray }).get? s.heap.objs.size=some { cls:=.type "list",data:=.seq #[] 0 }:=Ww _ rfl
 change wpAny _ A.in1 (Builtin.List.listExtendWith (.ref s.heap.objs.size) (.ref d) (.ref s.heap.objs.size)) _ _ _
 refine kdl_extend (R:=R) (s:={ s with heap:=s.heap.push { cls:=.type "list",data:=.seq ([]:jm).toArray } }) (zON (P:=P) (w:=w) (es:=es) (ep:=ep) lo) hh (hd.keep fun o e=>Qy _ e) s.heap.objs.size (Nat.ne_of_gt ld) (Nat.ne_of_gt ld) (.ref s.heap.objs.size) 0 hL1 (fun h' tk j7 c k hS it=>?_) (Wb (wE (by show es.size<=100000;lia)))
 have ea:j7=es.map (·.key):=by
   apply Rf
   intro i
   rw[Array.getElem?_map]
   rcases Th i j7.size with z | z
   · rw[Pj z]
     exact(it.2 i _ (Pj z)).symm
   · rw[Tt z,Tt (by rw[←it.1];exact z)];rfl
 rw[ea] at hS
 exact h h' tk c (fun c o e=>k c o (Wi (Qd e)) (Qy _ e)) hS
theorem zVx {Q:List Value->Shared->Prop}(hh:A.handled=none)(hd:DEs s.heap d es ep)(lo:(d==sysModules)=false)(hz:es.size<=1000)
   (h:∀h' tk,(∀c o,s.heap.get? c=some o->h'.get? c=some o)->Q (es.toList.map (·.key)) { s with heap:=h',toks:=tk }):wpAny (model P w) A (collect (.ref d)) Q E s:=by
 unfold collect
 refine Qe (wpAny_runValue (zQn hh hd lo hz fun h' tk c k hS=>?_))
 change wpAny _ A (load s.heap.objs.size >>= _) _ _ _
 refine Qe (wpAny_load hS (Qh ?_))
 show Q (es.map (·.key)).toList _
 rw[Us]
 exact h h' tk k
theorem zPY {a:Addr}{vs:jm}{n:Nat}{P':PySem.Fin->Shared->Prop}{lt:Nat->Nat->Bool}(W:SWO lt)(ho:s.heap.get? a=some (seqObj "list" vs.toArray n))(h64:vs.length<=1000)
   (hq:2<=vs.length->∀h':Heap,(∀b o,b≠a->s.heap.get? b=some o->h'.get? b=some o)->∃κ,(∀(E':jk) Q,Q κ { s with heap:=h' }->wpAny (model P w) A (keyKind' vs.toArray) Q E' { s with heap:=h' }) /\
     ∀i j C,i < vs.length->j < vs.length->C (lt i j) { s with heap:=h' }->kas_ask P w A κ vs i j C { s with heap:=h' })
   (h:P' (.done (.ret .none)) { s with heap:=sortedHeap s.heap a vs (List.toArray ((wO lt vs.length).map fun i=>vs.getD i Value.none)) }) :
   wpAny (model P w) A (Builtin.«list.sort» ⟨[.ref a],[]⟩) P' E s:=by
 have hlt:a < s.heap.objs.size:=Qd ho
 obtain⟨e1,q1⟩:∃e1,(s.heap.update a (Obj.mapSeq fun _=>#[])).get? a=some (seqObj "list" #[] e1):=⟨_,Ux ho (fun _=>#[])⟩
 have q6:(((s.heap.update a (Obj.mapSeq fun _=>#[])).push (seqObj "tuple" vs.toArray 0)).push (seqObj "list" #[] 0)).get? a=some (seqObj "list" #[] e1):=Qy _ (Qy _ q1)
 by_cases h2:2<=vs.length
 · obtain⟨κ,hk,hc⟩:=hq h2 (((s.heap.update a (Obj.mapSeq fun _=>#[])).push (seqObj "tuple" vs.toArray 0)).push (seqObj "list" #[] 0)) (fun b o hb e=>Qy _ (Qy _ (by rw[Ea _ _ _ _ hb];exact e)))
   have hz:¬vs.toArray.size < 2:=by rw[Qp];lia
   have j5:(wO lt vs.length).length=vs.length:=by
     rw[(sF lt _).length_eq,Ry]
   rw[list_sort_plain]
   refine Qe (Od (n:=n) ho rfl (Qe (Tb (n:=n) ho rfl ?_ (by rw[Qp,Ee];lia) (Ei _))))
   refine Qe (Uo q1 rfl (Qe (Ph ?_ (by show vs.length<=_;rw[Ee];lia))))
   refine Qe (Up (Re ?_) (Ei _))
   show wpAny (model P w) A _ P' E { s with heap:=((s.heap.update a (Obj.mapSeq fun _=>#[])).push (seqObj "tuple" vs.toArray 0)).push (seqObj "list" #[] 0) }
   dsimp only
   rw[Qs hz,Qs hz]
   refine Qe (hk _ _ ?_)
   refine Qe (zWv W rfl jc hc fun st' har hf=>?_)
   dsimp only
   rw[har]
   refine Qe (Uo q6 rfl (Qe (Tb q6 rfl ?_ (Ei _) (by rw[Qp,Qi,j5,Ee];lia))))
   rw[hf]
   simp only[Oa,Wf,Rv]
   exact Qh h
 · have e:(wO lt vs.length).map (fun i=>vs.getD i Value.none)=vs:=by rw[zZY lt jc,tZ]
   rw[e] at h
   have hz:vs.toArray.size < 2:=by rw[Qp];lia
   rw[list_sort_plain]
   refine Qe (Od (n:=n) ho rfl (Qe (Tb (n:=n) ho rfl ?_ (by rw[Qp,Ee];lia) (Ei _))))
   refine Qe (Uo q1 rfl (Qe (Ph ?_ (by show vs.length<=_;rw[Ee];lia))))
   refine Qe (Up (Re ?_) (Ei _))
   show wpAny (model P w) A _ P' E { s with heap:=((s.heap.update a (Obj.mapSeq fun _=>#[])).push (seqObj "tuple" vs.toArray 0)).push (seqObj "list" #[] 0) }
   dsimp only
   rw[Qu hz,Qu hz]
   refine Qe (Qh ?_)
   rw[StateT.run_pure]
   refine Qe (Qh ?_)
   have har:(arrOf (SortSt.mk' general' (vs.toArray.zip vs.toArray) #[] 7 none)).map (·.2)=vs.toArray:=by
     apply Rq.mp
     show((vs.toArray.zip vs.toArray).map (·.2)).toList=vs
     rw[Us,ksk_zip]
     exact List.map_snd_zip je
   dsimp only
   rw[har]
   refine Qe (Uo q6 rfl (Qe (Tb q6 rfl ?_ (Ei _) (by rw[Qp,Ee];lia))))
   simp only[Oa,Wf,Rv]
   exact Qh h
theorem zTD {Q:jk}{lt:Nat->Nat->Bool}(W:SWO lt)(hh:A.handled=none)(hd:DEs s.heap d es ep)(lo:(d==sysModules)=false)(h64:es.size<=1000)
   (hq:2<=es.size->∀(h':Heap) tk,(∀b o,s.heap.get? b=some o->h'.get? b=some o)->∃κ,(∀(E':jk) Q,Q κ { s with heap:=h',toks:=tk }->wpAny (model P w) A.in1.in1 (keyKind' (es.toList.map (·.key)).toArray) Q E' { s with heap:=h',toks:=tk }) /\
     ∀i j C,i < es.size->j < es.size->C (lt i j) { s with heap:=h',toks:=tk }->kas_ask P w A.in1.in1 κ (es.toList.map (·.key)) i j C { s with heap:=h',toks:=tk })
   (h:∀(h1 h':Heap) tk n,(∀c o,s.heap.get? c=some o->h1.get? c=some o)->(∀c o,h1.get? c=some o->h'.get? c=some o)->h'.get? h1.objs.size=some (seqObj "list" (List.toArray ((wO lt es.size).map fun i=>(es.toList.map (·.key)).getD i Value.none)) n)->Q (.ref h1.objs.size) { s with heap:=h',toks:=tk }) :
   wpAny (model P w) A (call (.builtin "sorted") [.ref d]) Q E s:=by
 refine Calls.call_function_entry kind_sorted plain_sorted entry_sorted (args_sorted1 _) ?_
 unfold Builtin.«sorted»
 refine Qe (m:=checkCount "sorted" 1 1 _) (Qh (Qe (zVx (by simp[hh]) hd lo jc fun h1 tk k=>?_)))
 have hl:(es.toList.map (·.key)).length=es.size:=je
 refine Qe (Up ?_ (by rw[hl,Ee];lia))
 have hoL:(h1.push (seqObj "list" (es.toList.map (·.key)).toArray 0)).get? h1.objs.size=some (seqObj "list" (es.toList.map (·.key)).toArray 0):=Ww _ rfl
 refine Qe (Re (Ra slot_list_sort ⟨_,hoL,rfl⟩ entry_list_sort (zPY (lt:=lt) W (s:={ s with heap:=h1.push (seqObj "list" (es.toList.map (·.key)).toArray 0),toks:=tk }) hoL jc (fun h2 h' kp=>?_) ⟨_,rfl,?_⟩) (args_list_sort _)))
 · have:=hq (by rw[←hl];exact h2) h' tk fun b o e=>kp b o (Wi (Qd (k b o e))) (Qy _ (k b o e))
   rw[←hl] at this
   exact this
 · obtain⟨n,hn⟩:=sortedHeap_at (out:=List.toArray ((wO lt (es.toList.map (·.key)).length).map fun i=>(es.toList.map (·.key)).getD i Value.none)) hoL
   rw[hl] at hn
   refine Qh ⟨_,rfl,h h1 _ tk n k (fun c o z=>?_) (by rw[hl];exact hn)⟩
   have lt:c < h1.objs.size:=Qd z
   exact(sortedHeap_old (Wi lt) (by rw[Ur];exact Nat.lt_succ_of_lt lt)).trans (Qy _ z)
end
end L2
namespace L2
open PySem PySem.Spec PyProof.Rows
def zNi (K:jh)(a b:Addr):It :=
 ⟨fun i H=>∃xs ys x y,SqL K H a xs/\SqL K H b ys/\xs[i]?=some x/\ys[i]?=some y,fun i H x H'=>∃p v u,H p=none/\x = .ref p/\H'=upd H p (.tup [v,u])/\(∀xs,SqL K H a xs->xs[i]?=some v)/\∀ys,SqL K H b ys->ys[i]?=some u,
   fun i H=>∃xs ys,SqL K H a xs/\SqL K H b ys/\(xs.length<=i∨ys.length<=i)⟩
theorem zTG {P:Program}{w:World}{K:jh}{elts:List Expr}{k:Nat}{pos:Pos}(a b n:Addr):Turn P w K (.Tuple elts k pos) (zNi K a b) [n+4,n+2,n+3,n,n+1] (n+4)
   (fun i h=>IsZip h (n+4) (n+2) (n+3) .none/\IsPair h (n+2) (.ref n) (.ref (n+1))/\(∃p q,IsPair h (n+3) p q)/\h.IsListIter n a i/\h.IsListIter (n+1) b i) where
 mem:=je
 obj:=fun i h st c hc=>by
   obtain⟨h1,h2,⟨p,q,h3⟩,⟨o1,e1,_,d1⟩,⟨o2,e2,_,d2⟩⟩:=st
   simp only[Qa,Ey,Yf] at hc
   rcases hc with z | z | z | z | z
   · subst z;exact⟨_,h1,fun v q=>nomatch q⟩
   · subst z;exact⟨_,h2,fun v q=>nomatch q⟩
   · subst z;exact⟨_,h3,fun v q=>nomatch q⟩
   · subst z;exact⟨o1,e1,fun v q=>by rw[d1] at q;cases q⟩
   · subst z;exact⟨o2,e2,fun v q=>by rw[d2] at q;cases q⟩
 keep:=fun i h h' st kk=>by
   obtain⟨h1,h2,⟨p,q,h3⟩,⟨o1,e1,r1⟩,⟨o2,e2,r2⟩⟩:=st
   exact⟨kk _ je _ h1,kk _ je _ h2,⟨p,q,kk _ je _ h3⟩,⟨o1,kk _ je _ e1,r1⟩,⟨o2,kk _ je _ e2,r2⟩⟩
 item:=by
   intro X hP hw hK hc i Z s σ H E I hf st hg
   subst hP hw hK
   obtain⟨xs,ys,x,y,hq,hq',hx,hy⟩:=hg
   obtain⟨j6,rv,p1,hz⟩:=I.list hq
   obtain⟨jts,rv',p2,hz'⟩:=I.list hq'
   obtain⟨u,hu,ru⟩:=rv.get hx
   obtain⟨u',hu',ru'⟩:=rv'.get hy
   obtain⟨h1,h2,⟨p,q,h3⟩,h4,h5⟩:=st
   have apart:∀c∈[n+4,n+2,n+3,n,n+1],∀v:List V,∀d:Addr,SqL X.K H d v->d≠c:=fun c hc v d hd z=>by
     have e:=(hf c hc).1
     obtain⟨j6,_,⟨o,e1,e2,_⟩,_⟩:=I.list hd
     rcases hd with(hd | ⟨ob,hd⟩) | hd
     · rw[z,e] at hd;cases hd
     · rw[z,e] at hd;cases hd
     · obtain⟨ob,_,_,hk,_⟩:=hd
       have e3:=I.ok.mod.kin d ob hk
       obtain⟨_,q1,_,q3,_⟩:=hf c hc
       rcases q3 with q3 | q3
       · exact I.ok.noex d ob e3 (z ▸ q3)
       · exact absurd (Wy (Qd (I.ok.bs d ob e3).1) (z ▸ q3)) (Wz _)
   have D:ZipApart (n+4) (n+2) (n+3) n (n+1) a b:=⟨zne 2 4 jb,zne 3 4 jb,zne 0 4 jb,zne 1 4 jb,zne 2 3 jb,zne 2 0 jb,zne 2 1 jb,zne 3 0 jb,zne 3 1 jb,zne 0 1 jb,apart _ je xs a hq,apart _ je xs a hq,apart _ je xs a hq,apart _ je xs a hq,apart _ je ys b hq',apart _ je ys b hq',apart _ je ys b hq',apart _ je ys b hq'⟩
   refine wpAny_pyNext_zip_item D h1 h2 h3 h4 h5 p1.isList p2.isList (x:=u) (y:=u') (by simpa using hu) (by simpa using hu') fun g g1 g2 g3 g4 g5 _ hk=>?_
   have hk':∀c o,c∉[n+4,n+2,n+3,n,n+1]->s.heap.get? c=some o->g.get? c=some o:=fun c o hc e=>hk c o (fun z=>hc (by simp[z])) (fun z=>hc (by simp[z])) (fun z=>hc (by simp[z])) (fun z=>hc (by simp[z])) e
   have I1:Inv X Z σ (upd H s.heap.objs.size (.tup [x,y])) { s with heap:=g }:=I.turnedNew (t':=s.toks) hk' hf (Qf _) ⟨by show 2<=sizeLine;exact Wb (wE jb),[u,u'],.cons ru (.cons ru' .nil),⟨_,g5,rfl,_,rfl⟩⟩
   refine⟨_,rfl,wpAny_letOwnedTupleGo_zip g1 fun g' z' t'=>?_⟩
   have t':Heap.SameBut (n+4) g g':=t'
   have neT:∀c∈[n+4,n+2,n+3,n,n+1],c≠s.heap.objs.size:=fun c hc z=>by
     have lt:c < s.heap.objs.size:=by
       obtain⟨o1,e1,_⟩:=h4
       obtain⟨o2,e2,_⟩:=h5
       simp only[Qa,Ey,Yf] at hc
       rcases hc with q | q | q | q | q
       · rw[q];exact Qd h1
       · rw[q];exact Qd h2
       · rw[q];exact Qd h3
       · rw[q];exact Qd e1
       · rw[q];exact Qd e2
     rw[z] at lt
     exact Wz _ lt
   have hf1:∀c∈[n+4,n+2,n+3,n,n+1],iC X Z (upd H s.heap.objs.size (.tup [x,y])) c:=fun c hc=>⟨by rw[zN (neT c hc)];exact(hf c hc).1,(hf c hc).2⟩
   have I2:=I1.turnedL (h':=g') (t':=s.toks) (fp:=[n+4,n+2,n+3,n,n+1]) (fun c o hc e=>(t'.2 c (fun z=>hc (by simp[z]))).trans e) hf1
   have g2':IsPair g (n+2) (.ref n) (.ref (n+1)):=hk _ _ D.TIz D.TITO D.TIi1 D.TIi2 h2
   obtain⟨o3,e3,r3⟩:=g3
   obtain⟨o4,e4,r4⟩:=g4
   exact⟨.ref s.heap.objs.size,_,I2,rfl,⟨s.heap.objs.size,x,y,I.fresh,rfl,rfl,fun zs hs=>by rw[I.list_inj hs hq];exact hx,fun zs hs=>by rw[I.list_inj hs hq'];exact hy⟩,
     ⟨z',(t'.2 _ D.TIz).trans g2',⟨_,_,(t'.2 _ D.TOz).trans g2⟩,⟨o3,(t'.2 _ D.i1z).trans e3,r3⟩,⟨o4,(t'.2 _ D.i2z).trans e4,r4⟩⟩,fun c hc=>(hf1 c hc).1⟩
 done:=by
   intro X hP hw hK hc i Z s σ H E I hf st hg
   subst hP hw hK
   obtain⟨xs,ys,hq,hq',hx⟩:=hg
   obtain⟨j6,rv,p1,hz⟩:=I.list hq
   obtain⟨jts,rv',p2,hz'⟩:=I.list hq'
   obtain⟨h1,h2,⟨p,q,h3⟩,h4,h5⟩:=st
   have apart:∀c∈[n+4,n+2,n+3,n,n+1],∀v:List V,∀d:Addr,SqL X.K H d v->d≠c:=fun c hc v d hd z=>by
     have e:=(hf c hc).1
     rcases hd with(hd | ⟨ob,hd⟩) | hd
     · rw[z,e] at hd;cases hd
     · rw[z,e] at hd;cases hd
     · obtain⟨ob,_,_,hk,_⟩:=hd
       have e3:=I.ok.mod.kin d ob hk
       obtain⟨_,q1,_,q3,_⟩:=hf c hc
       rcases q3 with q3 | q3
       · exact I.ok.noex d ob e3 (z ▸ q3)
       · exact absurd (Wy (Qd (I.ok.bs d ob e3).1) (z ▸ q3)) (Wz _)
   have D:ZipApart (n+4) (n+2) (n+3) n (n+1) a b:=⟨zne 2 4 jb,zne 3 4 jb,zne 0 4 jb,zne 1 4 jb,zne 2 3 jb,zne 2 0 jb,zne 2 1 jb,zne 3 0 jb,zne 3 1 jb,zne 0 1 jb,apart _ je xs a hq,apart _ je xs a hq,apart _ je xs a hq,apart _ je xs a hq,apart _ je ys b hq',apart _ je ys b hq',apart _ je ys b hq',apart _ je ys b hq'⟩
   have l1:=rv.length
   have l2:=rv'.length
   refine wpAny_pyNext_zip_end (I.ok.hd hc) D h1 h2 h3 h4 h5 p1.isList p2.isList ?_ fun g hk=>⟨rfl,I.turnedL (t':=s.toks) (fp:=[n+4,n+2,n+3,n,n+1]) (fun c o hc e=>hk c o (fun z=>hc (by simp[z])) (fun z=>hc (by simp[z])) (fun z=>hc (by simp[z])) (fun z=>hc (by simp[z])) e) hf⟩
   rcases hx with q | q
   · exact .inl (by simp;lia)
   · exact .inr (by simp;lia)
 self:=fun _ _ _ _ _ st h=>wpAny_pyIter_zip st.1 h
theorem zXs {K:jh}{G:Hp}{a b:Addr}{vs us:List V}{ds es:List D}(h:SqL K G a vs)(r:Reps K G ds vs)(h':SqL K G b us)(r':Reps K G es us):aJ K (zNi K a b) G (lV ds es):=by
 intro i G2 H2 s1 s2
 have q:SqL K H2 a vs:=(s1.trans s2).seq h
 have q':SqL K H2 b us:=(s1.trans s2).seq h'
 refine⟨fun d hd=>?_,fun hi=>⟨vs,us,q,q',?_⟩⟩
 · obtain⟨x,y,h1,h2,rfl⟩:=zWo hd
   obtain⟨v,e1,rv⟩:=r.get h1
   obtain⟨u,e2,ru⟩:=r'.get h2
   refine⟨⟨vs,us,v,u,q,q',e1,e2⟩,fun x' H3 yy=>?_⟩
   obtain⟨p,v',u',hp,rfl,rfl,y1,y2⟩:=yy
   have f1:=y1 vs q
   rw[e1] at f1;cases f1
   have f2:=y2 us q'
   rw[e2] at f2;cases f2
   have s3:=Step.laid (o:=.tup [v,u]) s2 hp
   exact⟨_,s3,yR.mpr ⟨p,_,rfl,.of zL,zR.mpr ⟨_,_,rfl,(rv.mono s1).mono s3.gg,zR.mpr ⟨_,_,rfl,(ru.mono s1).mono s3.gg,zM.mpr rfl⟩⟩⟩⟩
 · rw[lD] at hi
   rw[←r.length,←r'.length]
   lia
section
variable {X:Cx} {a b:Expr} {fa fb:Ef} {pos p:Pos}
def zUH (f g:Ef):Lf:=fun ρ=>(f ρ).bind fun x=>(g ρ).bind fun y=>match x,y with | .lst xs,.lst ys=>some (lV xs ys) | _,_=>none
theorem zPI {elts:List Expr}{k:Nat}{pos':Pos}(hg:Gl X "zip")(hm:X.mg "zip"=none)(ha:PF X a fa)(hb:PF X b fb)(hs:starEach [a,b] X.env=[(false,eval a X.env),(false,eval b X.env)]:=by rfl)(hs2:starEach [b] X.env=[(false,eval b X.env)]:=by rfl) :
   PFI X (.Tuple elts k pos') (.Call (.Name "zip" p) [a,b] [] pos) (zUH fa fb):=by
 intro Z s σ H R I q
 obtain⟨G0,H0,G,ρ,ds,j0,hf,kk⟩:=q
 unfold zUH at hf
 obtain⟨x,h1,hf⟩:=Qq.mp hf
 obtain⟨y,h2,hf⟩:=Qq.mp hf
 cases x with
 | lst xs =>
   cases y with
   | lst ys =>
     cases hf
     have hA:=yZ ha (yZ hb wH (by rw[hs2];rfl)) (by rw[hs,hs2]) pos Z s σ H (fun vs H'=>∃a b us ws G',vs=[.ref a,.ref b]/\Step G H G' H'/\SqL X.K G' a us/\Reps X.K G' xs us/\SqL X.K G' b ws/\Reps X.K G' ys ws) I
       ⟨G0,H0,G,ρ,_,j0,h1,fun v H1 G1 s1 r1=>⟨G0,H0,G1,ρ,_,j0.step s1,h2,fun u H2 G2 s2 r2=>by
         obtain⟨a,us,rfl,q1,q2⟩:=yA.mp (r1.mono s2.gg)
         obtain⟨b,ws,rfl,q3,q4⟩:=yA.mp r2
         exact⟨a,b,us,ws,G2,rfl,s1.trans s2,q1,q2,q3,q4⟩⟩⟩
     refine Call_ (lM I hg hm jg (Ta (thn hA fun us s1 ⟨vs,H1,I1,r1,l1,l2,ws,zs,G1,e1,st1,q1,q2,q3,q4⟩=>?_) (by rw[hs,hs2]) (by rw[hs2];rfl)))
     subst e1
     obtain⟨u,u',rfl,ru,ru'⟩:=zWc r1
     cases ru
     cases ru'
     obtain⟨j6,rv,p1,_⟩:=I1.list (st1.sub.seq q1)
     obtain⟨jts,rv',p2,_⟩:=I1.list (st1.sub.seq q3)
     refine call_zip_2 p1.isList p2.isList fun h' z1 z2 z3 z4 z5 _ hk=>?_
     have I2:Inv X Z σ H1 { s1 with heap:=h' }:=I1.kept (t':=s1.toks) hk
     refine wpAny_pyIter_zip z1 ?_
     refine⟨_,[s1.heap.objs.size+4,s1.heap.objs.size+2,s1.heap.objs.size+3,s1.heap.objs.size,s1.heap.objs.size+1],_,_,H1,rfl,I2,zTG l1 l2 s1.heap.objs.size,⟨z1,z2,⟨_,_,z3⟩,z4,z5⟩,fun b hb=>?_,kk _ H1 G1 st1 (zXs q1 q2 q3 q4)⟩
     have hb':s1.heap.objs.size<=b:=by
       simp only[Qa,Ey,Yf] at hb
       rcases hb with z | z | z | z | z<;>(rw[z];first | exact Qf _ | exact Nat.le_add_right _ _)
     exact I1.fpOk hb' (I1.hok.fresh hb')
   | _=>cases hf
 | _=>cases hf
end
mutual
def uU:D->Bool
 | .non=>true
 | .bl _=>true
 | .int _=>true
 | .str _=>true
 | .tup ds=>pN ds
 | _=>false
def pN:List D->Bool
 | []=>true
 | d::r=>uU d&&pN r
end
def sH (G:Hp)(p:Addr):Hp:=fun a=>if a=p then none else G a
theorem xW {G:Hp}{p a:Addr}(h:a≠p):sH G p a=G a:=Qs h
theorem xN {G:Hp}{p:Addr}:sH G p p=none:=Qu rfl
section
variable {X:Cx} {e:Expr} {fa:Ef}
def zUU (f:Ef):Tf:=fun ρ=>(f ρ).bind fun x=>match x with | .lst ds=>some (!ds.isEmpty) | _=>none
theorem cF (ha:PF X e fa)(he:∀whole,isTrue e X.env whole=(do let v ←whole;standAt e.pos;holding [v] (truthy v)):=by intro _;rfl):PFT X e (zUU fa):=by
 refine PT.to (zRO ha he) ?_
 rintro σ H Q ⟨G0,H0,G,ρ,c,j0,hf,k⟩
 unfold zUU at hf
 obtain⟨x,h1,hf⟩:=Qq.mp hf
 cases x with
 | lst ds =>
   cases hf
   refine⟨G0,H0,G,ρ,_,j0,h1,fun v H1 G1 s1 r1=>?_⟩
   obtain⟨p,vs,rfl,q,rs⟩:=yA.mp r1
   have hl:=rs.length
   refine⟨_,.inl ⟨vs,s1.sub.seq q,?_⟩,k _ G1 s1⟩
   cases ds<;>cases vs<;>first | rfl | cases hl
 | _=>cases hf
end
theorem zR0 {x y:V}{v:Value}(h1:RelV x v)(h2:RelV y v):x=y:=by
 cases x<;>cases y<;>simp_all [RelV]<;>(obtain⟨t,rfl⟩:=h1;obtain⟨t',e⟩:=h2;cases e;try rfl)
section
variable {X:Cx} {Z:jl} {σ:St} {H G:Hp} {s:Shared}
mutual
theorem zUB (I:Inv X Z σ H s)(sub:Same G H):∀(d d':D) (x:V),uU d=true->uU d'=true->Rep X.K G d x->Rep X.K G d' x->d=d'
 | .non,d',x,f,f',h,h'=>by
   rw[w4] at h;subst h
   cases d' with
   | non=>rfl
   | bl b=>rw[xD] at h';cases h'
   | int i=>rw[zK] at h';cases h'
   | str y=>rw[yI] at h';cases h'
   | tup es=>obtain⟨a,vs,e,_⟩:=yR.mp h';cases e
   | lst es=>unfold uU at f';cases f'
   | obj c ns es=>unfold uU at f';cases f'
   | exc c ns es=>unfold uU at f';cases f'
   | dct ks es=>unfold uU at f';cases f'
 | .bl b,d',x,f,f',h,h'=>by
   rw[xD] at h;subst h
   cases d' with
   | non=>rw[w4] at h';cases h'
   | bl b=>rw[xD] at h';cases h';rfl
   | int i=>rw[zK] at h';cases h'
   | str y=>rw[yI] at h';cases h'
   | tup es=>obtain⟨a,vs,e,_⟩:=yR.mp h';cases e
   | lst es=>unfold uU at f';cases f'
   | obj c ns es=>unfold uU at f';cases f'
   | exc c ns es=>unfold uU at f';cases f'
   | dct ks es=>unfold uU at f';cases f'
 | .int i,d',x,f,f',h,h'=>by
   rw[zK] at h;subst h
   cases d' with
   | non=>rw[w4] at h';cases h'
   | bl b=>rw[xD] at h';cases h'
   | int i=>rw[zK] at h';cases h';rfl
   | str y=>rw[yI] at h';cases h'
   | tup es=>obtain⟨a,vs,e,_⟩:=yR.mp h';cases e
   | lst es=>unfold uU at f';cases f'
   | obj c ns es=>unfold uU at f';cases f'
   | exc c ns es=>unfold uU at f';cases f'
   | dct ks es=>unfold uU at f';cases f'
 | .str i,d',x,f,f',h,h'=>by
   rw[yI] at h;subst h
   cases d' with
   | non=>rw[w4] at h';cases h'
   | bl b=>rw[xD] at h';cases h'
   | int i=>rw[zK] at h';cases h'
   | str y=>rw[yI] at h';cases h';rfl
   | tup es=>obtain⟨a,vs,e,_⟩:=yR.mp h';cases e
   | lst es=>unfold uU at f';cases f'
   | obj c ns es=>unfold uU at f';cases f'
   | exc c ns es=>unfold uU at f';cases f'
   | dct ks es=>unfold uU at f';cases f'
 | .tup ds,d',x,f,f',h,h'=>by
   obtain⟨a,vs,rfl,q,r⟩:=yR.mp h
   cases d' with
   | non=>rw[w4] at h';cases h'
   | bl b=>rw[xD] at h';cases h'
   | int i=>rw[zK] at h';cases h'
   | str y=>rw[yI] at h';cases h'
   | tup es =>
     obtain⟨a',vs',e,q',r'⟩:=yR.mp h'
     cases e
     have ev:=I.tuple_inj (sub.tup q) (sub.tup q')
     subst ev
     unfold uU at f f'
     rw[zXb I sub ds es vs f f' r r']
   | lst es=>unfold uU at f';cases f'
   | obj c ns es=>unfold uU at f';cases f'
   | exc c ns es=>unfold uU at f';cases f'
   | dct ks es=>unfold uU at f';cases f'
 | .lst ds,d',x,f,f',h,h'=>by unfold uU at f;cases f
 | .obj _ _ _,d',x,f,f',h,h'=>by unfold uU at f;cases f
 | .exc _ _ _,d',x,f,f',h,h'=>by unfold uU at f;cases f
 | .dct _ _,d',x,f,f',h,h'=>by unfold uU at f;cases f
theorem zXb (I:Inv X Z σ H s)(sub:Same G H):∀(ds es:List D) (xs:List V),pN ds=true->pN es=true->Reps X.K G ds xs->Reps X.K G es xs->ds=es
 | [],es,xs,f,f',h,h'=>by
   rw[zM] at h;subst h
   cases es with
   | nil=>rfl
   | cons e r=>obtain⟨v,vr,z,_⟩:=zR.mp h';cases z
 | d::r,es,xs,f,f',h,h'=>by
   obtain⟨v,vr,rfl,q1,q2⟩:=zR.mp h
   cases es with
   | nil=>rw[zM] at h';cases h'
   | cons e t =>
     obtain⟨v',vr',z,q3,q4⟩:=zR.mp h'
     cases z
     unfold pN at f f'
     rw[Wg] at f f'
     rw[zUB I sub d e v f.1 f'.1 q1 q3,zXb I sub r t vr f.2 f'.2 q2 q4]
end
def cU (x:D):List D->Option Bool
 | []=>some false
 | d::r=>(eqD 8 d x).bind fun a=>(cU x r).map fun b=>a||b
def eOf (K:jh)(G:Hp)(x:D)(w:Value):Bool:=by
 classical
 exact if h:∃d,uU d=true/\∃z,Rep K G d z/\RelV z w then(eqD 8 h.choose x).getD false else false
theorem zNL (I:Inv X Z σ H s)(sub:Same G H){x d:D}{z:V}{w:Value}(f:uU d=true)(r:Rep X.K G d z)(rv:RelV z w):eOf X.K G x w=(eqD 8 d x).getD false:=by
 unfold eOf
 have h:∃d,uU d=true/\∃z,Rep X.K G d z/\RelV z w:=⟨d,f,z,r,rv⟩
 rw[dif_pos h]
 obtain⟨f',z',r',rv'⟩:=h.choose_spec
 have ez:=zR0 rv' rv
 subst ez
 rw[zUB I sub _ d z' f' f r' r]
theorem zUM (I:Inv X Z σ H s)(sub:Same G H){x:D}:∀ {ds:List D} {xs:List V} {j6:jm} {b:Bool},pN ds=true->Reps X.K G ds xs->Vals xs j6->cU x ds=some b->j6.any (eOf X.K G x)=b/\∀w∈j6,∃d z,d∈ds/\Rep X.K G d z/\RelV z w/\eqD 8 d x=some (eOf X.K G x w)
 | [],_,_,b,f,r,v,h=>by
   rw[zM] at r;subst r
   cases v
   cases h
   exact⟨rfl,fun w hw=>nomatch hw⟩
 | d::t,_,_,b,f,r,v,h=>by
   obtain⟨z,zr,rfl,q1,q2⟩:=zR.mp r
   cases v with
   | cons v1 v2 =>
     unfold pN at f
     rw[Wg] at f
     unfold cU at h
     obtain⟨a,h1,h⟩:=Qq.mp h
     obtain⟨b',h2,rfl⟩:=Qr.mp h
     obtain⟨i1,i2⟩:=zUM I sub f.2 q2 v2 h2
     have e:=zNL (x:=x) I sub f.1 q1 v1
     rw[h1] at e
     refine⟨by rw[Ic,i1,e];rfl,fun w hw=>?_⟩
     rcases Qa.mp hw with rfl | hw
     · exact⟨d,z,Qv,q1,v1,by rw[e];exact h1⟩
     · obtain⟨d',z',m,y⟩:=i2 w hw
       exact⟨d',z',Qk _ m,y⟩
end
section
variable {X:Cx} {k:Nat}
def zQS (x y:D):Option Bool:=match y with
 | .lst ds=>if pN ds then cU x ds else none
 | .tup ds=>if pN ds then cU x ds else none
 | _=>none
def kB (x y:D):Option Bool:=(zQS x y).map (!·)
theorem zQu (hr:Room k X.A)(neg:Bool):OpR X (compareOp (if neg then .NotIn else .In)) (fun x y H Q=>∃G d d' b,Same G H/\Rep X.K G d x/\Rep X.K G d' y/\zQS d d'=some b/\Q (.bl (if neg then !b else b)) H):=by
 intro Z s σ H x y v u Q I rx ry h
 obtain⟨G,d,d',b,sub,r1,r2,h,q⟩:=h
 have hu:=hr.units
 have main:∀(ds:List D) (xs:List V) (j6:jm),pN ds=true->Reps X.K G ds xs->Vals xs j6->cU d ds=some b->j6.toArray.any (eOf X.K G d)=b/\∀w,w∈j6.toArray->SeqAt.EqAt X.A.in1 s w v (eOf X.K G d w):=by
   intro ds xs j6 f r vv ha
   obtain⟨e1,e2⟩:=zUM I sub f r vv ha
   refine⟨by simpa using e1,fun w hw=>?_⟩
   obtain⟨d1,z,_,q1,q2,q3⟩:=e2 w (by simpa using hw)
   exact(zS4 I sub 8 X.A.in1 d1 d z x w v _ (by show X.A.units+1+8 < cLine;lia) q3 q1 r1 q2 rx).2.2
 cases d' with
 | lst ds =>
   unfold zQS at h
   dsimp only at h
   split at h
   · rename_i f
     obtain⟨p,xs,rfl,q1,q2⟩:=yA.mp r2
     cases ry
     obtain⟨j6,rv,pl,hz⟩:=I.list (sub.seq q1)
     obtain⟨m1,m2⟩:=main ds xs j6 f q2 rv h
     cases neg with
     | false=>exact SeqAt.in_listAt (eOf X.K G d) pl.isList m2 ⟨.bl _,H,I,rfl,by rw[m1];exact q⟩
     | true=>exact SeqAt.notIn_listAt (eOf X.K G d) pl.isList m2 ⟨.bl _,H,I,rfl,by rw[m1];exact q⟩
   · cases h
 | tup ds =>
   unfold zQS at h
   dsimp only at h
   split at h
   · rename_i f
     obtain⟨p,xs,rfl,q1,q2⟩:=yR.mp r2
     cases ry
     obtain⟨j6,rv,pl,hz⟩:=I.tuple (sub.tup q1)
     obtain⟨m1,m2⟩:=main ds xs j6 f q2 rv h
     cases neg with
     | false=>exact SeqAt.in_tupleAt (eOf X.K G d) pl m2 ⟨.bl _,H,I,rfl,by rw[m1];exact q⟩
     | true=>exact SeqAt.notIn_tupleAt (eOf X.K G d) pl m2 ⟨.bl _,H,I,rfl,by rw[m1];exact q⟩
   · cases h
 | _=>cases h
theorem zZa (hr:Room k X.A):CmR X .NotIn kB:=⟨_,zQu hr true,fun d d' k G H x y Q h s rx ry q=>by
 unfold kB at h
 obtain⟨b,h1,rfl⟩:=Qr.mp h
 exact⟨G,d,d',b,s,rx,ry,h1,q H G (.refl s)⟩⟩
end
def zYx (h:Heap)(e:Addr)(v:Value):Prop:=v = .none∨∃T oT ts,v = .ref T/\T≠e/\h.get? T=some oT/\oT.data = .fields ts/\ts[3]?=some .none
structure Flew (fs:List Addr)(e:Addr)(c:Value)(od:Option Addr)(vs:jn)(sl:Array (Option Value))(h h':Heap):Prop where
 obj:h'.get? e=some { cls:=c,dict:=od,data:=.fields (vs.setIfInBounds 1 (.ref h.objs.size)),slots:=sl }
 ne:h.objs.size≠e
 head:∃oT ts,h'.get? h.objs.size=some oT/\oT.data = .fields ts/\ts[3]?=some .none
 keep:∀b o,h.get? b=some o->b≠e->b∉fs->some (Value.ref b)≠vs[1]?->h'.get? b=some o
 slot:∀b o,h.get? b=some o->b≠e->b∈fs->some (Value.ref b)≠vs[1]?->∃z,h'.get? b=some { o with slots:=z }
section
variable {M:Model} {A:Around} {E:jk} {s:Shared}
theorem jZ {a:Addr}{c x:Value}{od:Option Addr}{vs:jn}{sl:Array (Option Value)}{k:Nat}{Q:Unit->Shared->Prop}(ho:s.heap.get? a=some { cls:=c,dict:=od,data:=.fields vs,slots:=sl })(hk:k < vs.size)
   (h:∀h',h'.get? a=some { cls:=c,dict:=od,data:=.fields (vs.setIfInBounds k x),slots:=sl }->Heap.SameBut a s.heap h'->Q () { s with heap:=h' }):wpAny M A (setField (.ref a) k x) Q E s :=
 wpAny_setField ho rfl hk (h _ (Ec _ ho rfl) (Ih ..))
theorem zZg {base:Heap}{env:Env}{outer:List Env}{L e:Addr}{c:Value}{od:Option Addr}{vs:jn}{sl:Array (Option Value)}{hd:Value}{nx:Bool}{Q:Unit->Shared->Prop}
   (hfr:A.frames=some (env::outer)) (hl:s.heap.FunFrames base (env::outer)) (hf:env.frame=some L)
   (he:s.heap.get? e=some { cls:=c,dict:=od,data:=.fields vs,slots:=sl }) (hsz:1 < vs.size)
   (h:∀h',(h'.get? e=some { cls:=c,dict:=od,data:=.fields (vs.setIfInBounds 1 (.ref s.heap.objs.size)),slots:=sl }/\s.heap.objs.size≠e/\∃oT ts,h'.get? s.heap.objs.size=some oT/\oT.data = .fields ts/\ts[3]?=some .none) ->
     (∀b o,s.heap.get? b=some o->b≠e->b∉frs (env::outer)->h'.get? b=some o)->(∀b o,s.heap.get? b=some o->b≠e->b∈frs (env::outer)->∃z,h'.get? b=some { o with slots:=z })->Q () { s with heap:=h' }) :
   wpAny M A (do let a ←frameOf env;let pl ←entryPlaceOf L nx;let b ←EntryCells.newEntry hd a .none (rawInt L) .none pl;setField (.ref e) 1 b) (fun _ s'=>wpAny M A (setFlight (.ref e) none) Q E s') E s:=by
 have ne:e∉frs (env::outer):=fun z=>by
   obtain⟨_,o,q,n⟩:=hl.mem z
   rw[he] at q
   cases q
   exact n vs rfl
 refine Qe (wpAny_frameOf_fun hfr hl hf fun g1 k1=>Qe (wpAny_entryPlaceOf fun pl hp=>?_))
 unfold EntryCells.newEntry newFields
 refine Qe (Tx ?_ (hp.sizeOk5 _ _ _ _ _))
 have e1:g1.get? e=some { cls:=c,dict:=od,data:=.fields vs,slots:=sl }:=(k1.2.1 e ne).trans he
 have ln:g1.objs.size≠e:=fun z=>Wz _ (z ▸ Qd e1)
 have hsz3:3 < ([hd,.ref L,.none,rawInt L,.none]++(if pl.isEmpty then List.replicate 6 Value.none else pl)).toArray.size:=by
   rw[Qp,Qt];show 3 < 5+_;lia
 generalize hts:([hd,.ref L,.none,rawInt L,.none]++(if pl.isEmpty then List.replicate 6 Value.none else pl)).toArray=ts at hsz3
 have e2:(g1.push { cls:=.type "traceback",data:=.fields ts }).get? e=some { cls:=c,dict:=od,data:=.fields vs,slots:=sl }:=Qy _ e1
 have t2:(g1.push { cls:=.type "traceback",data:=.fields ts }).get? g1.objs.size=some { cls:=.type "traceback",dict:=none,data:=.fields ts,slots:=#[] }:=Ww _ rfl
 refine jZ e2 hsz fun g3 e3 k3=>?_
 have t3:g3.get? g1.objs.size=some { cls:=.type "traceback",dict:=none,data:=.fields ts,slots:=#[] }:=k3.extBut _ _ ln t2
 unfold setFlight
 refine Qe (Pt e3 rfl (x:=.ref g1.objs.size) (by simp[hsz]) ?_)
 rw[Qu je]
 refine jZ t3 hsz3 fun g4 t4 k4=>h g4 (by rw[←k1.1];exact⟨k4.extBut _ _ (fun z=>ln z.symm) e3,ln,_,_,t4,rfl,by simp[hsz3]⟩) (fun b o q n1 n2=>?_) fun b o q n1 n2=>?_
 · have q1:g1.get? b=some o:=(k1.2.1 b n2).trans q
   exact k4.extBut _ _ (Wi (Qd q1)) (k3.extBut _ _ n1 (Qy _ q1))
 · obtain⟨w,q1⟩:=k1.2.2 b o q
   exact⟨w,k4.extBut _ _ (Wi (Qd q1)) (k3.extBut _ _ n1 (Qy _ q1))⟩
theorem aL {base:Heap}{env:Env}{outer:List Env}{L e:Addr}{c v:Value}{od:Option Addr}{vs:jn}{sl:Array (Option Value)}{Q:Unit->Shared->Prop}
   (hfr:A.frames=some (env::outer)) (hl:s.heap.FunFrames base (env::outer)) (hf:env.frame=some L)
   (he:s.heap.get? e=some { cls:=c,dict:=od,data:=.fields vs,slots:=sl }) (hv:vs[1]?=some v) (hh:zYx s.heap e v)
   (h:∀h',Flew (frs (env::outer)) e c od vs sl s.heap h'->Q () { s with heap:=h' }):wpAny M A (noteFrame (.ref e) env) (fun _ s'=>wpAny M A (setFlight (.ref e) none) Q E s') E s:=by
 have hsz:1 < vs.size:=(Rp.mp hv).1
 unfold noteFrame
 simp only[hf]
 refine Qe (Pt he rfl hv ?_)
 rcases hh with rfl | ⟨T,oT,ts,rfl,ne,hT,hdT,h3⟩
 · rw[Qs jb]
   exact zZg hfr hl hf he hsz fun h' a1 a2 a3=>h h' ⟨a1.1,a1.2.1,a1.2.2,fun b o q n1 n2 _=>a2 b o q n1 n2,fun b o q n1 n2 _=>a3 b o q n1 n2⟩
 · rw[Qu je]
   refine Qe (Pt hT hdT h3 ?_)
   rw[Qs (show ¬((Value.none==rawInt L)=true) by simp[rawInt])]
   obtain⟨cT,dT,daT,slT⟩:=oT
   dsimp only at hdT
   subst hdT
   refine Qe (jZ hT (Rp.mp h3).1 fun g1 t1 k1=>?_)
   have up:∀b o,b≠T->s.heap.get? b=some o->g1.get? b=some o:=fun b o z q=>k1.extBut _ _ z q
   have nT:∀b o,s.heap.get? b=some o->(∀vs,o.data ≠ .fields vs)->b≠T:=fun b o q n z=>by
     rw[z,hT] at q
     cases q
     exact n ts rfl
   refine zZg hfr (hl.of_keeps fun b o q n=>⟨o,up b o (nT b o q n) q,rfl⟩) hf (up _ _ (fun z=>ne z.symm) he) hsz fun h' a1 a2 a3=>?_
   have es:g1.objs.size=s.heap.objs.size:=k1.1
   dsimp only at a1
   rw[es] at a1
   exact h h' ⟨a1.1,a1.2.1,a1.2.2,fun b o q n1 n2 n3=>a2 b o (up b o (fun z=>n3 (by rw[hv,z])) q) n1 n2,fun b o q n1 n2 n3=>a3 b o (up b o (fun z=>n3 (by rw[hv,z])) q) n1 n2⟩
theorem zWA {base:Heap}{env:Env}{outer:List Env}{L e:Addr}{c v:Value}{od:Option Addr}{vs:jn}{sl:Array (Option Value)}{Q:Unit->Shared->Prop}
   (hfr:A.frames=some (env::outer)) (hl:s.heap.FunFrames base (env::outer)) (hf:env.frame=some L)
   (he:s.heap.get? e=some { cls:=c,dict:=od,data:=.fields vs,slots:=sl }) (hv:vs[1]?=some v) (hh:zYx s.heap e v)
   (h:∀h',Flew (frs (env::outer)) e c od vs sl s.heap h'->Q () { s with heap:=h' }):wpAny M A (leaving env (.ref e)) Q E s:=Qe (aL hfr hl hf he hv hh h)
theorem zWB {a T:Addr}{o oT:Obj}{vs ts:jn}{Q:Unit->Shared->Prop}(ho:s.heap.get? a=some o)(hd:o.data = .fields vs)(hv:vs[1]?=some (.ref T))(hT:s.heap.get? T=some oT)(hdT:oT.data = .fields ts)(h3:ts[3]?=some .none)
   (h:∀h',(∀b u,s.heap.get? b=some u->h'.get? b=some u)->Q () { s with heap:=h' }):wpAny M A (setFlight (.ref a) none) Q E s:=by
 unfold setFlight
 refine Qe (Pt ho hd hv ?_)
 rw[Qu je]
 obtain⟨cT,dT,daT,slT⟩:=oT
 dsimp only at hdT
 subst hdT
 refine jZ hT (Rp.mp h3).1 fun g q1 q2=>h g fun b u q=>?_
 by_cases hb:b=T
 · subst hb
   rw[hT] at q
   cases q
   rw[q1]
   have:ts.setIfInBounds 3 ((none:Option Addr).elim Value.none fun f=>rawInt f)=ts:=by
     apply Rf
     intro k
     rw[On]
     split
     · rename_i z
       subst z
       split
       · exact h3.symm
       · rename_i z;rw[Tt jc]
     · rfl
   rw[this]
 · exact q2.extBut _ _ hb q
end
structure Fly (h:Heap)(H:Hp)(h0:Heap)(C a:Addr):Prop where
 ob:∃vs v,h.get? a=some { cls:=.ref C,dict:=none,data:=.fields vs,slots:=#[] }/\vs[1]?=some v/\zYx h a v/\∀T,v = .ref T->H T=none/\h0.get? T=none
 free:H a=none
 new:h0.get? a=none
def CXq (P:Program)(w:World):CXT:=fun outer H s E e s'=>∃C a H',e = .ref a/\s'.os=s.os/\AllBare s'.gens/\Un (frs outer) [] H H' s.heap s'.heap/\HOk P w H' s'.heap/\Fly s'.heap H' s.heap C a/\E (.ref C) none H'
section
variable {P:Program} {w:World} {K:jh} {mg:Str->Option Value} {base:Heap} {N:List Str} {qual:Str} {scope:Scope} {f:Addr} {cd:Value} {A:Around} {outer:List Env} {s₀ s:Shared} {H₀ H:Hp} {E:XK} {Z:jl} {σ:St} {C a:Addr}
theorem zPi (I:Inv (rL (CXq P w) P w K mg base N qual scope f cd A outer s₀ H₀ E) Z σ H s)(fl:Fly s.heap H s₀.heap C a)(hE:E (.ref C) none H) :
   (rL (CXq P w) P w K mg base N qual scope f cd A outer s₀ H₀ E).xe (.ref a) s:=by
 obtain⟨vs,v,ho,hv,hh,hT⟩:=fl.ob
 have hfr:=I.ok.frames
 have hst:=I.stack
 have hfree:=I.stkFree
 show wpAny (model P w) (A.deeper (envOfC qual scope s₀.heap.objs.size f cd)) (leaving (envOfC qual scope s₀.heap.objs.size f cd) (.ref a)) _ _ s
 refine zWA (base:=base) hfr hst rfl ho hv hh fun h' fw=>?_
 have old:∀b o,s₀.heap.get? b=some o->b≠a/\some (Value.ref b)≠vs[1]?/\b≠s₀.heap.objs.size:=fun b o q=>by
   refine⟨fun z=>?_,fun z=>?_,fun z=>Wz _ (z ▸ Qd q)⟩
   · rw[z,fl.new] at q;cases q
   · rw[hv] at z
     have:=(hT b (Wh z).symm).2
     rw[this] at q;cases q
 have inF:∀b,b∈frs (envOfC qual scope s₀.heap.objs.size f cd::outer)↔b=s₀.heap.objs.size∨b∈frs outer:=fun b=>by
   show b∈List.filterMap (·.frame) (_::outer)↔_
   rw[Yc]
   show b∈s₀.heap.objs.size::frs outer↔_
   exact Qa
 have U:=I.base
 refine⟨C,a,H,rfl,I.os,I.bare,⟨fun b o q n hb hx=>?_,fun b o q n hb hx=>?_,fun b o q n hx=>U.free b o q n hx,fun b o q hx=>?_,U.tups,U.frzs,U.tbls⟩,fun b o q=>?_,⟨⟨_,_,fw.obj,by rw[Uc (Rp.mp hv).1],.inr ?_,fun T z=>?_⟩,fl.free,fl.new⟩,hE⟩
 · obtain⟨n1,n2,n3⟩:=old b o q
   exact fw.keep b o (U.keep b o q n hb hx) n1 (fun z=>((inF b).mp z).elim n3 hb) n2
 · obtain⟨n1,n2,n3⟩:=old b o q
   obtain⟨z,q1⟩:=U.slot b o q n hb hx
   obtain⟨z',q2⟩:=fw.slot b _ q1 n1 ((inF b).mpr (.inr hb)) n2
   exact⟨z',q2⟩
 · obtain⟨n1,n2,n3⟩:=old b o q
   obtain⟨o1,q1⟩:=U.there b o q hx
   by_cases hb:b∈frs (envOfC qual scope s₀.heap.objs.size f cd::outer)
   · obtain⟨z,q2⟩:=fw.slot b o1 q1 n1 hb n2
     exact⟨_,q2⟩
   · exact⟨o1,fw.keep b o1 q1 n1 hb n2⟩
 · refine(I.hok b o q).stay (fun b' u hb' q'=>?_) (fun _ z=>z) (fun _ _ z=>z)
   have tr:H b'≠none:=by
     rcases hb' with z | z
     · rw[z,q];exact fun y=>nomatch y
     · rw[z];exact fun y=>nomatch y
   refine fw.keep b' u q' (fun z=>tr (by rw[z];exact fl.free)) (fun z=>tr (hfree b' z)) fun z=>?_
   rw[hv] at z
   exact tr (hT b' (Wh z).symm).1
 · obtain⟨oT,ts,h1,h2,h3⟩:=fw.head
   exact⟨_,oT,ts,rfl,fw.ne,h1,h2,h3⟩
 · cases z
   refine⟨I.fresh,?_⟩
   cases y:s₀.heap.get? s.heap.objs.size with
   | none=>rfl
   | some o=>exact absurd (Qd y) (Ub.mpr I.sz)
theorem zMW {E':XK}(h:∀(C:Addr) (H:Hp),E' (.ref C) none H->E (.ref C) none H):oP (CXq P w) (rL (CXq P w) P w K mg base N qual scope f cd A outer s₀ H₀ E) E':=by
 intro Z σ H s e s' I hx
 obtain⟨C,a,H',rfl,os,bare,un,hok,fl,he⟩:=hx
 have I':Inv (rL (CXq P w) P w K mg base N qual scope f cd A outer s₀ H₀ E) Z σ H' s':=I.call' (ch:=[]) os un hok bare (fun b z=>absurd z je)
 obtain⟨vs,v,ho,hv,hh,hT⟩:=fl.ob
 have back:∀b,s.heap.get? b=none->s₀.heap.get? b=none:=fun b z=>by
   cases y:s₀.heap.get? b with
   | none=>rfl
   | some o =>
     obtain⟨o',q⟩:=I.base.there b o y (fun z=>nomatch (show b∈([]:List Addr) from z))
     rw[z] at q;cases q
 exact zPi I' ⟨⟨vs,v,ho,hv,hh,fun T z=>⟨(hT T z).1,back T (hT T z).2⟩⟩,fl.free,back a fl.new⟩ (h C H' he)
end
def zYg (X:Cx)(E:XK):Prop:=∀(Z:jl) (σ:St) (H:Hp) (s:Shared) (C a:Addr),Inv X Z σ H s->Fly s.heap H X.s₀.heap C a->E (.ref C) none H->X.xe (.ref a) s
section
variable {X:Cx} {E:XK} {C:Addr} {c:Str} {p cpos pos:Pos} {e:Expr} {es:List Expr} {t:TA}
theorem zPz (M:zV8 X.K C){Z:jl}{σ:St}{H:Hp}{s:Shared}{us:jm}{Q:jk}(I:Inv X Z σ H s)(hl:us.length<=1000)
   (h:∀h' a t,Inv X Z σ H { s with heap:=h' }->s.heap.get? a=none->h'.get? a=some { cls:=.ref C,data:=.fields #[.ref t,.none,.none,.none,.bool false,.none] }->Q (.ref a) { s with heap:=h' }) :
   wpAny (model X.prog X.w) X.A (call (.ref C) us) Q X.xe s:=by
 obtain⟨bm,N,nm,qn,bs,hdct,sn,sub,ab,col,dd,k0,k1,k2,k3,k5,hk,x1,x2,x3⟩:=M
 have hsl:1001<=sizeLine:=Wb (wE jb)
 obtain⟨hp,g,d,tk,os⟩:=s
 refine wpAny_call_exc_subU (Bn:="ValueError") F.excBase_ValueError jb F.excBase_ValueError (PySem.W.tail_of_in I.kIn x3) (I.kIn _ _ hk) (.of_isNs (PySem.W.isNs_of_in I.kIn x1)) (PySem.W.nsMap_none_of_in I.kIn x1 x2) (fun h' a m=>?_) jc
 obtain⟨t,et,_,_⟩:=m.there
 exact h h' a t (I.kept (t':=tk) m.keeps) m.new et
def zO3 (C:Addr)(E:XK)(t:TA):TS:=fun _ σ H=>t σ H fun vs H1=>vs.length<=1000/\E (.ref C) none H1
theorem zRy (M:zV8 X.K C)(hx:X.ex=[])(hm:X.mg c=some (.ref C))(kp:PySem.W.keepIn X.K (.ref C)=true)(hg:Gl X c)(hc:X.calm=true)(th:zYg X E)(ha:PA X (e::es) t)(hdb:(c==("__debug__":Str))=false:=by decide)
   (he:starEach (e::es) X.env=(false,eval e X.env)::starEach es X.env:=by rfl) (hpl:(backTo cpos (starEach es X.env)).any (·.1)=false:=by rfl):PS X (.Raise (some (.Call (.Name c p) (e::es) [] cpos)) none pos) (zO3 C E t):=by
 intro Z s σ H D I h
 obtain⟨bm,N,nm,qn,bs,hdct,sn,sub,ab,col,dd,k0,k1,k2,k3,k5,hk,x1,x2,x3⟩:=id M
 rw[arm_exec_Raise]
 refine Qe (Yl (wpAny_raiseStmt_made_sub (C:=C) (nm:=nm) (q:=qn) (N:=N) (bs:=bs) (bm:=bm) (hdct:=hdct) (sn:=sn) (sub:=sub) (ab:=ab) (col:=col) (dd:=dd) (k0:=k0) (k1:=k1) (k2:=k2) (k3:=k3) (k5:=k5) (newId:="ValueError.__new__") ((PySem.W.tail_of_in I.kIn x3).hasType jb) (I.ok.hd hc) ?_))
 refine Qe (thn ?_ fun v s1 q=>Qe (Yl (Qh q)))
 refine Ev (nB I hg hm ?_ hdb)
 refine Yw (h₀:=X.base) I.ok.mod.kin kp (thn (ha cpos Z s σ H _ I h) fun us s1 ⟨vs,H1,I1,r,q1,q2⟩=>⟨I1.kIn,?_⟩) he hpl
 refine zPz M I1 (by rw[Tj,←r.length];exact q1) fun h' a t I2 new ob=>⟨a,t,rfl,I2.kIn _ _ hk,ob,th Z σ H1 _ C a I2 ⟨⟨_,_,ob,rfl,.inl rfl,fun T z=>nomatch z⟩,?_,?_⟩ q2⟩
 · cases z:H1 a with
   | none=>rfl
   | some o=>obtain⟨u,y⟩:=(I1.hok a o z).got;rw[new] at y;cases y
 · cases z:X.s₀.heap.get? a with
   | none=>rfl
   | some o =>
     obtain⟨u,y⟩:=I1.base.there a o z (by rw[hx];simp)
     rw[new] at y;cases y
end
theorem bJ {α:Type}(p:α->Bool):∀(l:List α) (i:Nat),(∀x,l[i]?=some x->p x=false)->(l.eraseIdx i).find? p=l.find? p
 | [],_,_=>rfl
 | x::r,0,h=>by
   have q:=h x rfl
   rw[List.eraseIdx_cons_zero,Ex,q]
 | x::r,i+1,h=>by
   rw[Yu,Ex,Ex,bJ p r i fun y e=>h y (by simpa using e)]
theorem zSp {k:Value}{x y:Str}(h:k.isStr x=true)(ne:y≠x):k.isStr y=false:=by
 cases k<;>simp_all [Value.isStr]
 rename_i z t
 intro q
 exact ne q.symm
section
variable {M:Model} {A:Around} {E:jk} {s:Shared}
theorem zNO {a:Addr}{m:Str->Option Value}{n:Str}{Q:Bool->Shared->Prop}(hn:s.heap.Ns a m)
   (hQ:∀h' m',h'.Ns a m'->(∀x,x≠n->m' x=m x)->Heap.SameBut a s.heap h'->Q (m n).isSome { s with heap:=h' }):wpAny M A (nsDel a n) Q E s:=by
 obtain⟨⟨c,d,dt,sl⟩,es,ep,ho,hd,hk,hm⟩:=id hn
 dsimp only at hd
 subst hd
 have noref:es.any (·.refKey)=false:=Array.any_eq_false'.mpr fun e he=>by
   obtain⟨w,t,q⟩:=hk e he
   simp[DictEntry.refKey,q]
 have hh:nsHas n ⟨c,d,.dict es ep,sl⟩=pure (es.any (·.key.isStr n)):=by
   rw[nsHas_eq]
   unfold nsHasByArray
   show(if (es.any fun x=>x.key.isStr n)=true then _ else _)=_
   cases es.any fun x=>x.key.isStr n<;>simp[noref]
 have hs:(m n).isSome=es.any (·.key.isStr n):=by
   rw[←hm n]
   unfold nsFind findBy
   rw[Uy,Yv,Array.find?_isSome,Array.any_eq_true']
 unfold nsDel
 refine Qe (Pa ho ?_)
 rw[hh]
 refine Qe (Qh ?_)
 rw[←hs]
 cases hb:(m n).isSome with
 | false =>
   have:=hQ s.heap m hn (fun _ _=>rfl) (.refl ..)
   rw[hb] at this
   exact Qh this
 | true =>
   refine Qe (wpAny_updatePart ho (Qh ?_))
   rw[hb] at hs
   obtain⟨k,hk1,hk2⟩:=Array.any_eq_true'.mp hs.symm
   cases hi:es.findIdx? (·.key.isStr n) with
   | none =>
     have:=Array.findIdx?_eq_none_iff.mp hi k hk1
     rw[this] at hk2;cases hk2
   | some i =>
     have hd':Obj.dropName n ⟨c,d,.dict es ep,sl⟩=⟨c,d,.dict (es.eraseIdxIfInBounds i) (ep+1),sl⟩:=by
       rw[Obj.dropName_eq];unfold Obj.dropNameByArray;dsimp only;rw[hi]
     have hg:=Ec (Obj.dropName n) ho (by rw[hd'];rfl)
     rw[hd'] at hg
     have:=hQ _ (nsFind (es.eraseIdxIfInBounds i)) ⟨_,_,_,hg,rfl,hk.erase i,fun _=>rfl⟩ (fun x ne=>?_) (Ih ..)
     · rw[hb] at this;exact this
     · rw[←hm x]
       unfold nsFind findBy
       congr 1
       have hi2:=Array.findIdx?_eq_some_iff_getElem.mp hi
       obtain⟨hlt,hp,_⟩:=hi2
       rw[←Ix,←Ix,show(es.eraseIdxIfInBounds i).toList=es.toList.eraseIdx i by simp[Array.eraseIdxIfInBounds,hlt]]
       refine bJ _ _ _ fun y e=>zSp (x:=n) ?_ ne
       rw[Wo (by simpa using hlt)] at e
       cases e
       simpa using hp
variable {X:Cx} {Z:jl} {σ:St} {H:Hp}
theorem Inv.gone {i:Nat}{n:Str}{h':Heap}{m m':Str->Option Value}{t':Nat}(I:Inv X Z σ H s)(hN:X.N.Nodup)(hi:X.N[i]?=some n)(hm:s.heap.Ns X.env.locals m)(hm':h'.Ns X.env.locals m')(e:∀x,x≠n->m' x=m x)(sb:Heap.SameBut X.env.locals s.heap h') :
   Inv X Z (σ.set i none) H { s with heap:=h',toks:=t' }:=by
 have keep:∀b o,b≠X.env.locals->s.heap.get? b=some o->h'.get? b=some o:=fun b o ne q=>sb.extBut _ _ ne q
 have neL:∀b o,X.s₀.heap.get? b=some o->b≠X.env.locals:=fun b o q=>Wi (Wy (Qd q) I.ok.above)
 obtain⟨m0,hn0,hl⟩:=I.loc
 have em:∀x,m0 x=m x:=fun x=>by
   obtain⟨o,es,ep,q1,q2,_,q3⟩:=hn0
   obtain⟨o',es',ep',r1,r2,_,r3⟩:=hm
   rw[q1] at r1;cases r1
   rw[q2] at r2;cases r2
   rw[←q3,←r3]
 refine⟨I.ok,I.os,I.bare,⟨fun b o q n hb hx=>keep b o (neL b o q) (I.base.keep b o q n hb hx),fun b o q n hb hx=>?_,I.base.free,fun b o q hx=>?_,I.base.tups,I.base.frzs,I.base.tbls⟩,⟨m',hm',fun j x v hj hσ hv=>?_⟩,fun x c q=>?_,I.free,I.freeC,fun p hp=>?_,fun b o q=>?_,?_⟩
 · obtain⟨z,y⟩:=I.base.slot b o q n hb hx
   exact⟨z,keep b _ (neL b o q) y⟩
 · obtain⟨z,y⟩:=I.base.there b o q hx
   exact⟨z,keep b _ (neL b o q) y⟩
 · have ji:j≠i:=fun z=>by
     subst z
     by_cases hl':j < σ.length
     · rw[Ep hl'] at hσ;cases hσ
     · rw[Uz (by rw[Ye];lia)] at hσ;cases hσ
   rw[Ql (Ne.symm ji)] at hσ
   obtain⟨u,r,lk⟩:=hl j x v hj hσ hv
   have xn:x≠n:=fun z=>ji (by
     subst z
     exact(List.getElem?_inj (Qn.mp hj).1 hN).mp (hj.trans hi.symm))
   refine⟨u,r,?_⟩
   rcases lk with⟨k1,k2⟩ | ⟨k1,c,k2,ob,k3,k4⟩
   · exact .inl ⟨k1,by rw[e x xn,←em];exact k2⟩
   · exact .inr ⟨k1,c,k2,ob,keep c ob (I.cne x c k2) k3,k4⟩
 · obtain⟨v,ob,k1,k2⟩:=I.cell x c q
   exact⟨v,ob,keep c ob (I.cne x c q) k1,k2⟩
 · obtain⟨p1,p2,p3,p4⟩:=I.pin p hp
   exact⟨keep _ _ p3 p1,p2,p3,p4⟩
 · refine(I.hok b o q).stay (fun b' u hb' q'=>keep b' u (fun z=>?_) q') (fun _ z=>z) (fun _ _ z=>z)
   have fr:=I.free
   rcases hb' with y | y
   · rw[←z,y,q] at fr;cases fr
   · rw[←z,y] at fr;cases fr
 · rw[Ye];exact I.len
theorem zTy {M:Model}{A:Around}{E:jk}{i:Nat}{n:Str}{pos:Pos}{Q:Unit->Shared->Prop}(I:Inv X Z σ H s)(hN:X.N.Nodup)(hi:X.N[i]?=some n)(hk:X.env.kindOf n=some .local)(hx:Loc X.env.scope n)
   (h:∀s',Inv X Z (σ.set i none) H s'->Q () s') (hf:X.fn n=true∨X.env.scope.names.lookup n=some .local):wpAny M A (do bindName X.env n .none;unbindBehindTheSuite X.env n pos) Q E s:=by
 refine Qe (Ir (eY (v:=.non) I hN hi hx rfl (fun s1 I1 _=>?_) hf))
 have hp:(X.env.scope.kind == .class||(X.env.scope.kind == .module&&X.env.locals != X.env.globals))=false:=by rw[I.ok.kind];rfl
 obtain⟨m1,hn1,hl1⟩:=I1.loc
 unfold unbindBehindTheSuite
 refine wpAny_onRaise ?_
 unfold unbindName
 refine Qe (wpAny_point (Qe ?_))
 unfold deleteName
 simp only[hk,hp]
 rw[Qs jb]
 have hii:i < σ.length:=by rw[I.len];exact(Qn.mp hi).1
 obtain⟨u,_,lk⟩:=hl1 i n .non hi (Ep hii) (.inl (show X.env.scope.names.lookup n=some .local from hk))
 have hs:(m1 n).isSome=true:=by
   rcases lk with⟨_,k2⟩ | ⟨k1,_⟩
   · rw[k2];rfl
   · rw[hk] at k1;rcases k1 with z | z<;>cases z
 refine Qe (zNO hn1 fun h2 m2 q1 q2 q3=>?_)
 rw[hs]
 rw[Qs jb]
 refine Qh (wpAny_point ?_)
 have J:=I1.gone (t':=s1.toks) hN hi hn1 q1 q2 q3
 rw[List.set_set] at J
 exact h _ J
theorem Inv.caught {H2 H':Hp}{s2 s':Shared}{g:Heap}{C a:Addr}{t':Nat}(I2:Inv X Z σ H2 s2)(os:s'.os=s2.os)(bare:AllBare s'.gens)(un:Un (frs X.stack) [] H2 H' s2.heap s'.heap)(hok:HOk X.prog X.w H' s'.heap)(fa:H' a=none)(na:s2.heap.get? a=none)
   (k1:∀b o,s'.heap.get? b=some o->(H' b≠none∨∃o',s2.heap.get? b=some o')->b∉frs X.stack->g.get? b=some o) (k2:∀b o,s'.heap.get? b=some o->(∃o',s2.heap.get? b=some o')->b∈frs X.stack->∃z,g.get? b=some { o with slots:=z })
   (oa:∃fs,g.get? a=some { cls:=.ref C,dict:=none,data:=.fields fs }):Inv X Z σ (upd H' a (.ext (Xe C a none))) { s' with heap:=g,toks:=t' }:=by
 have I':Inv X Z σ H' s':=I2.call' (ch:=[]) os un hok bare (fun b z=>nomatch z)
 have nea:∀b o,s2.heap.get? b=some o->b≠a:=fun b o q z=>by rw[z,na] at q;cases q
 refine I2.call' (s':={ s' with heap:=g,toks:=t' }) (ch:=[]) os ⟨fun b o q n hb hx=>k1 b o (un.keep b o q n hb hx) (.inr ⟨o,q⟩) hb,fun b o q n hb hx=>?_,fun b o q n hx=>?_,fun b o q hx=>?_,fun b xs q=>?_,fun b o u q=>?_,fun b ps q=>?_⟩ (fun b o q=>?_) bare (fun b z=>nomatch z)
 · obtain⟨z,y⟩:=un.slot b o q n hb hx
   obtain⟨z',y'⟩:=k2 b _ y ⟨o,q⟩ hb
   exact⟨z',y'⟩
 · rw[zN (nea b o q)];exact un.free b o q n hx
 · obtain⟨o1,y⟩:=un.there b o q hx
   by_cases hb:b∈frs X.stack
   · obtain⟨z,y'⟩:=k2 b o1 y ⟨o,q⟩ hb
     exact⟨_,y'⟩
   · exact⟨o1,k1 b o1 y (.inr ⟨o,q⟩) hb⟩
 · have y:=un.tups b xs q
   rw[zN (zC y fa)];exact y
 · have y:=un.frzs b o u q
   rw[zN (zC y fa)];exact y
 · obtain⟨more,y⟩:=un.tbls b ps q
   exact⟨more,by rw[zN (zC y fa)];exact y⟩
 · by_cases hb:b=a
   · subst hb
     rw[zL] at q
     cases q
     exact⟨oa,(let ⟨_,e⟩:=oa;⟨_,e⟩),fun h1 h2 ⟨fs,e⟩ k=>⟨fs,k _ e⟩⟩
   · rw[zN hb] at q
     have fr:=I'.stkFree
     refine(hok b o q).stay (fun b' u hb' q'=>?_) (fun b' z=>by rw[zN (zC z fa)];exact z) (fun b' xs z=>by rw[zN (zC z fa)];exact z)
     have tr:H' b'≠none:=by
       rcases hb' with z | z
       · rw[z,q];exact fun y=>nomatch y
       · rw[z];exact fun y=>nomatch y
     exact k1 b' u q' (.inl tr) fun z=>tr (fr b' z)
end
abbrev Cx.marked (X:Cx)(a:Addr)(R:jk):Cx:={ X with A:=X.A.mark (some (.ref a)),calm:=false,xe:=R }
theorem Cx.Ok.marked {X:Cx}(ok:X.Ok)(a:Addr)(R:jk):(X.marked a R).Ok :=
 ⟨ok.mod,ok.kind,ok.glob,ok.blt,ok.above,ok.inj,ok.has,ok.cab,(fun z=>by cases z),ok.frames,ok.stk,ok.exf,ok.bs,ok.bsz,ok.noex,ok.exfs,ok.funs,ok.frf⟩
theorem Inv.marked {X:Cx}{Z:jl}{σ:St}{H:Hp}{s:Shared}(I:Inv X Z σ H s)(a:Addr)(R:jk):Inv (X.marked a R) Z σ H s:=⟨I.ok.marked a R,I.os,I.bare,I.base,I.loc,I.cell,I.free,I.freeC,I.pin,I.hok,I.len⟩
theorem Inv.unmarked {X:Cx}{Z:jl}{σ:St}{H:Hp}{s:Shared}{a:Addr}{R:jk}(ok:X.Ok)(I:Inv (X.marked a R) Z σ H s):Inv X Z σ H s:=⟨ok,I.os,I.bare,I.base,I.loc,I.cell,I.free,I.freeC,I.pin,I.hok,I.len⟩
section
variable {X:Cx} {Z:jl} {σ:St}
theorem zSa {H2 H':Hp}{s2 s':Shared}{C a Y:Addr}{D:Ends}{i:Nat}{n y:Str}{yp hp:Pos}{b₀:Stmt}{suite:List Stmt}{t:TS}(I2:Inv X Z σ H2 s2)(os:s'.os=s2.os)(bare:AllBare s'.gens)(un:Un (frs X.stack) [] H2 H' s2.heap s'.heap)(hok:HOk X.prog X.w H' s'.heap)
   (fl:Fly s'.heap H' s2.heap C a) (hst:X.stack=X.env::X.outer) (hef:X.env.frame=some X.env.locals) (hg:Gl X y) (hm:X.mg y=some (.ref Y)) (hdb:(y==("__debug__":Str))=false) (hx:PySem.W.exmOne X.K (.ref C) (.ref Y)=some true)
   (hN:X.N.Nodup) (hi:X.N[i]?=some n) (hk:X.env.kindOf n=some .local) (hl:Loc X.env.scope n) (hf:X.fn n=true∨X.env.scope.names.lookup n=some .local)
   (hs:PSs (X.marked a fun _ _=>False) (b₀::suite) t) (ht:t { nx:=fun σ' H''=>D.nx (σ'.set i none) H'',rt:=fun _ _=>False } (σ.set i (some (.ref a))) (upd H' a (.ext (Xe C a none)))) :
   wpAny (model X.prog X.w) X.A (noteFrame (.ref a) X.env) (fun _ s3=>wpAny (model X.prog X.w) X.A (setFlight (.ref a) none) (fun _ s4=>wpAny (model X.prog X.w) X.A (handleBy (.ref a) X.env [.ExceptHandler (some (.Name y yp)) (some n) (b₀::suite) hp]) (SP X Z D) X.xe s4) X.xe s3) X.xe s':=by
 have I':Inv X Z σ H' s':=I2.call' (ch:=[]) os un hok bare (fun b z=>nomatch z)
 obtain⟨vs,v,ho,hv,hh,hT⟩:=fl.ob
 have hfr:X.A.frames=some (X.env::X.outer):=by rw[←hst];exact I2.ok.frames
 have hfun:s'.heap.FunFrames X.base (X.env::X.outer):=by rw[←hst];exact I'.stack
 refine aL (base:=X.base) hfr hfun hef ho hv hh fun h3 fw=>?_
 rw[←hst] at fw
 have old:∀b o',s2.heap.get? b=some o'->b≠a/\some (Value.ref b)≠vs[1]?:=fun b o' q=>by
   refine⟨fun z=>?_,fun z=>?_⟩
   · rw[z,fl.new] at q;cases q
   · rw[hv] at z
     have:=(hT b (Wh z).symm).2
     rw[this] at q;cases q
 have J:∀tk,Inv X Z σ (upd H' a (.ext (Xe C a none))) { s' with heap:=h3,toks:=tk }:=fun tk=>I2.caught os bare un hok fl.free fl.new (fun b o q hb hn=>by
     rcases hb with z | ⟨o',z⟩
     · refine fw.keep b o q (fun e=>z (by rw[e];exact fl.free)) hn fun e=>z ?_
       rw[hv] at e
       exact(hT b (Wh e).symm).1
     · exact fw.keep b o q (old b o' z).1 hn (old b o' z).2) (fun b o q ⟨o',z⟩ hb=>fw.slot b o q (old b o' z).1 hb (old b o' z).2) ⟨_,fw.obj⟩
 have J:=J s'.toks
 have hsz:1 < vs.size:=(Rp.mp hv).1
 obtain⟨oT,ts,hT1,hT2,hT3⟩:=fw.head
 have cls:PySem.W.Looks (model X.prog X.w) h3 (typeOf (.ref a)) (.ref C):=(PySem.W.Looks.ld fw.obj).andThen .now
 refine wpAny_handleBy_cons (codeAny_handlers_test ?_) (by intro q;cases q)
 refine nB (X:=X.marked a fun _ _=>False) (J.marked a _) hg hm ?_ hdb
 have kx:X.K.In h3:=J.kIn
 refine(PySem.W.exm_one kx cls hx) (X.A.mark (some (.ref a))) _ _ _ (fun _ _ q=>q) ?_
 show codeAny _ _ _ _ _
 refine codeAny_handlers_suite_as ?_
 refine zWB fw.obj rfl (by rw[Uc hsz]) hT1 hT2 hT3 fun h4 k4=>?_
 have J4:Inv X Z σ (upd H' a (.ext (Xe C a none))) { s' with heap:=h4 }:=J.kept (t':=s'.toks) k4
 refine qB J4 hN hi hl (v:=.ref a) rfl (fun s6 I6=>?_) hf
 refine Te (hs Z s6 _ _ _ (I6.marked a _) ht) (fun f s7 h7=>?_) fun _ _ z=>z.elim
 cases f with
 | next =>
   obtain⟨σ',H'',I7,q7⟩:=h7
   exact zTy (I7.unmarked I2.ok) hN hi hk hl (fun s8 I8=>⟨_,H'',I8,q7⟩) hf
 | brk=>obtain⟨_,_,_,z⟩:=h7;exact False.elim z
 | cont=>obtain⟨_,_,_,z⟩:=h7;exact False.elim z
 | ret u=>obtain⟨_,_,_,_,_,z⟩:=h7;exact False.elim z
end
def spQ (K:jh)(n:Nat)(d:jy)(x:List D->Option Str):Sp:=fun vs H Q E=>∃G ds,Same G H/\Reps K G ds vs/\ds.length=n /\
 ((∃r,d ds=some r/\∀v H' G',Step G H G' H'->Rep K G' r v->Q v H')∨∃c C,x ds=some c/\ClsAt K c C/\∀H' G',Step G H G' H'->E (.ref C) none H')
def tXS (K:jh)(E:XK)(x:List B->Option Str):TS:=fun _ σ H=>∃G0 H0 G ρ c C,Good K G0 H0 G H σ ρ/\x ρ=some c/\ClsAt K c C/\∀H' G',Step G H G' H'->E (.ref C) none H'
def PXS (X:Cx)(E:XK)(st:Stmt)(x:List B->Option Str):Prop:=PS X st (tXS X.K E x)
def zYk (X:Cx)(E:XK)(sts:List Stmt)(x:List B->Option Str):Prop:=PSs X sts (tXS X.K E x)
def tXE (K:jh)(E:XK)(x:List B->Option Str):TE:=fun σ H _=>∃G0 H0 G ρ c C,Good K G0 H0 G H σ ρ/\x ρ=some c/\ClsAt K c C/\∀H' G',Step G H G' H'->E (.ref C) none H'
def PXE (X:Cx)(E:XK)(e:Expr)(x:List B->Option Str):Prop:=PE X e (tXE X.K E x)
def zMs (K:jh)(p:List B->Bool):TA:=fun σ H Q=>∃G0 H0 G ρ,Good K G0 H0 G H σ ρ/\p ρ=true/\∀vs H' G',Step G H G' H'->vs.length<=1000->Q vs H'
def zQ3 (X:Cx)(es:List Expr)(p:List B->Bool):Prop:=PA X es (zMs X.K p)
section
variable {X:Cx} {E:XK} {a e:Expr} {es:List Expr} {tt:Tf} {x xa xb:List B->Option Str} {pos p cpos:Pos} {st:Stmt} {sts rest:List Stmt}
theorem zRP {C:Addr}{c:Str}{q:List B->Bool}(hC:ClsAt X.K c C)(M:zV8 X.K C)(hx:X.ex=[])(hm:X.mg c=some (.ref C))(kp:PySem.W.keepIn X.K (.ref C)=true)(hg:Gl X c)(hc:X.calm=true)(th:zYg X E)(ha:zQ3 X (e::es) q)(hdb:(c==("__debug__":Str))=false:=by decide)
   (he:starEach (e::es) X.env=(false,eval e X.env)::starEach es X.env:=by rfl) (hpl:(backTo cpos (starEach es X.env)).any (·.1)=false:=by rfl):PXS X E (.Raise (some (.Call (.Name c p) (e::es) [] cpos)) none pos) (fun ρ=>if q ρ then some c else none):=by
 intro Z s σ H D I h
 obtain⟨G0,H0,G,ρ,c',C',j0,hq,hC',k⟩:=h
 dsimp only at hq
 split at hq
 · rename_i hq'
   cases hq
   have ec:=hC.one hC'
   subst ec
   exact zRy M hx hm kp hg hc th ha hdb he hpl Z s σ H D I ⟨G0,H0,G,ρ,j0,hq',fun vs H' G' st hl=>⟨hl,k H' G' st⟩⟩
 · cases hq
theorem zNo (ht:PFT X a tt)(h1:zYk X E sts xa)(h2:zYk X E rest xb):PXS X E (.If a sts rest pos) (fun ρ=>(tt ρ).bind fun c=>if c=true then xa ρ else xb ρ):=by
 intro Z s σ H D I h
 obtain⟨G0,H0,G,ρ,c,C,j0,hq,hC,k⟩:=h
 obtain⟨v,hv,hq⟩:=Qq.mp hq
 refine zZ2 ht h1 h2 Z s σ H D I ⟨G0,H0,G,ρ,v,j0,hv,fun H1 G1 st=>?_⟩
 cases v with
 | true =>
   rw[Qu rfl] at hq
   exact⟨G0,H0,G1,ρ,c,C,j0.step st,hq,hC,fun H' G' st'=>k H' G' (st.trans st')⟩
 | false =>
   rw[Qs jb] at hq
   exact⟨G0,H0,G1,ρ,c,C,j0.step st,hq,hC,fun H' G' st'=>k H' G' (st.trans st')⟩
theorem zOQ:zYk X E [] (fun _=>none):=fun Z s σ H D I h=>by
 obtain⟨_,_,_,_,_,_,_,z,_⟩:=h;cases z
theorem mX (h:PXS X E st x):zYk X E (st::rest) x:=by
 intro Z s σ H D I q
 refine qE (u:=fun _ _ _=>False) h (fun Z s σ H D I z=>z.elim) Z s σ H D I ?_
 exact q
theorem zTN (h:PXE X E e x)(hs:swapsWith e none pos.line X.env=pure false:=by rfl):PXS X E (.Expr e pos) x:=fun Z s σ H D I q=>pM h hs Z s σ H D I q
end
section
variable {P:Program} {w:World} {K:jh} {mg:Str->Option Value} {base:Heap} {x qual:Str} {st:Stmt} {f:Addr} {fd:FuncData} {N ps:List Str} {k:Nat}
theorem zOo {body:Sf}{xb:List B->Option Str}(F:Fun K x qual st f fd)(S:FnScope N ps (zW st))
   (hb:∀(j9:Value) (A:Around) (outer:List Env) (s:Shared) (H:Hp) (E:XK),Room k (A.deeper (envOfC qual (zW st) s.heap.objs.size f j9))->PFSs (rL (CXq P w) P w K mg base N qual (zW st) f j9 A outer s H E) (yQ st) body)
   (hx:∀(j9:Value) (A:Around) (outer:List Env) (s:Shared) (H:Hp) (E:XK),Room k (A.deeper (envOfC qual (zW st) s.heap.objs.size f j9))->zYk (rL (CXq P w) P w K mg base N qual (zW st) f j9 A outer s H E) E (yQ st) xb) :
   FnOk P w K mg base (CXq P w) (k+1) f fd ps (spQ K ps.length (fnF N.length body) (fun ds=>xb (hU N.length ds))):=by
 obtain⟨oc,od,kV,doc,pm,an,j9,ct,osl,rfl,lk,hcd⟩:=F.ex
 refine zPb lk hcd S (fun vs H Q E h=>?_) fun A outer s H vs Q E hr h=>?_
 · obtain⟨G,ds,sub,rs,hl,_⟩:=h
   rw[←rs.length];exact hl
 · obtain⟨G,ds,sub,rs,hl,h | ⟨c,C,hc,hC,k⟩⟩:=h
   · obtain⟨d,hf,k⟩:=h
     refine⟨_,hb j9 A outer s H E hr,?_⟩
     unfold fnF at hf
     obtain⟨o,h1,h2⟩:=Qq.mp hf
     refine⟨G,H,G,_,o,mN sub rs,h1,?_⟩
     cases o with
     | nx ρ=>cases h2;exact fun σ' H' G' s' g'=>k .non H' G' g'.st (w4.mpr rfl)
     | rt e=>cases h2;exact fun v H' G' s' r=>k v H' G' s' r
     | rl es=>cases h2;exact fun p us H' G' s' hn hp gp r=>k _ H' (upd G' p (.lst us)) (s'.frz hn hp gp) (yA.mpr ⟨p,us,rfl,.of zL,r.mono (Same.new gp)⟩)
     | bk ρ=>cases h2
     | ct ρ=>cases h2
   · exact⟨_,hx j9 A outer s H E hr,⟨G,H,G,_,c,C,mN sub rs,hc,hC,k⟩⟩
end
theorem zRt {M:Model}{A:Around}{st:Stmt}{env:Env}{Q:Flow->Shared->Prop}{R:jk}{s:Shared}(h:wpAny M A (exec st env) (fun _ _=>False) R s):wpAny M A (execs [st] env) Q R s:=Ol (Te h (fun _ _ z=>z.elim) fun _ _ z=>z)
def PXB (X:Cx)(st:Stmt)(xb:List B->Option Str):Prop:=∀(Z:jl) (s:Shared) (σ:St) (H:Hp) (R:jk) (G0 H0 G:Hp) (ρ:List B) (c:Str) (C:Addr),Inv X Z σ H s->Good X.K G0 H0 G H σ ρ->xb ρ=some c->ClsAt X.K c C ->
 (∀s2 H2 G2 e s',Inv X Z σ H2 s2->Step G H G2 H2->CXq X.prog X.w X.stack H2 s2 (fun v _ H'=>v = .ref C/\∃G',Step G2 H2 G' H') e s'->R e s')->wpAny (model X.prog X.w) X.A (exec st X.env) (fun _ _=>False) R s
section
variable {X:Cx} {a e:Expr} {es:List Expr} {ga:Lf} {xb:List B->Option Str} {pos p cpos:Pos} {st st':Stmt}
theorem zS1 {k n:Nat}{fad:Addr}{fd:FuncData}{ps:List Str}{y:Str}{d:jy}{xf:List D->Option Str}(hno:∀e s,¬X.xe e s)(F:FnOk X.prog X.w X.K X.mg X.base (CXq X.prog X.w) k fad fd ps (spQ X.K n d xf))(hr:Room k X.A)(hm:X.mg y=some (.ref fad))(hk:PySem.W.keepIn X.K (.ref fad)=true)(hb:Binds X.K fd ps [])(hg:Gl X y)
   (ha:PFA X (e::es) ga) (hdb:(y==("__debug__":Str))=false:=by decide) (he:starEach (e::es) X.env=(false,eval e X.env)::starEach es X.env:=by rfl) (hpl:(backTo cpos (starEach es X.env)).any (·.1)=false:=by rfl) (hs:swapsWith (.Call (.Name y p) (e::es) [] cpos) none pos.line X.env=pure false:=by rfl) :
   PXB X (.Expr (.Call (.Name y p) (e::es) [] cpos) pos) (fun ρ=>(ga ρ).bind fun ds=>if ds.length=n then xf ds else none):=by
 intro Z s σ H R G0 H0 G ρ c C I j0 hq hC k
 obtain⟨ds,h1,hq⟩:=Qq.mp hq
 split at hq
 · rename_i hl
   refine wpAny_Expr_any ?_ I.quiet hs
   refine Ev (nB I hg hm ?_ hdb)
   refine Yw (h₀:=X.base) I.ok.mod.kin hk (Te (ha cpos Z s σ H (fun vs H1=>∃G1,Step G H G1 H1/\Reps X.K G1 ds vs) I ⟨G0,H0,G,ρ,ds,j0,h1,fun vs H1 G1 s1 r1=>⟨G1,s1,r1⟩⟩) (fun us s1 ⟨vs,H1,I1,r,G1,st1,r1⟩=>⟨I1.kIn,?_⟩) fun e s z=>(hno e s z).elim) he hpl
   have j5:us.length=ps.length:=by
     rw[←r.length]
     exact F.len vs H1 (fun _ _=>False) (fun v _ H'=>v = .ref C/\∃G',Step G1 H1 G' H') ⟨G1,ds,st1.sub,r1,hl,.inr ⟨c,C,hq,hC,fun H' G' z=>⟨rfl,G',z⟩⟩⟩
   rw[Tj]
   refine Ot (Ue (F.run X.A X.stack s1 H1 ⟨us,[]⟩ us vs (fun _ _=>False) (fun v _ H'=>v = .ref C/\∃G',Step G1 H1 G' H') hr I1.env0 (by have:=hb s1 us I1.kIn (by rw[Wn];exact j5);rwa[Wn] at this) r ⟨G1,ds,st1.sub,r1,hl,.inr ⟨c,C,hq,hC,fun H' G' z=>⟨rfl,G',z⟩⟩⟩) fun r s' hq=>?_)
   cases r with
   | error e=>exact k s1 H1 G1 e s' I1 st1 hq
   | ok fl =>
     cases fl with
     | ret u=>obtain⟨_,_,_,_,_,_,_,z⟩:=hq;exact z.elim
     | next=>exact False.elim hq
     | brk=>exact False.elim hq
     | cont=>exact False.elim hq
 · cases hq
theorem Good.setNo {K:jh}{G0 H0 G H:Hp}{σ:St}{ρ:List B}(g:Good K G0 H0 G H σ ρ)(i:Nat):Good K G0 H0 G H (σ.set i none) (ρ.set i .no):=by
 refine⟨g.st,Paired.set .no i g.vals,fun j k a ds es h1 h2 o1 o2 h3 h4=>?_⟩
 obtain⟨n1,e1⟩:=pK rfl h1 o1
 obtain⟨n2,e2⟩:=pK rfl h2 o2
 rw[Ql (Ne.symm n1)] at h3
 rw[Ql (Ne.symm n2)] at h4
 exact g.apart j k a ds es e1 e2 o1 o2 h3 h4
def zTo (cs:List Str)(xb:List B->Option Str)(i:Nat)(f:Sf):Sf:=fun ρ=>(xb ρ).bind fun c=>if cs.contains c then(f (ρ.set i (.fz (.exc c [] [])))).bind fun o=>match o with | .nx ρ'=>some (.nx (ρ'.set i .no)) | _=>none else none
theorem zPH {cs:List Str}{Y:Addr}{i:Nat}{n y:Str}{yp hp:Pos}{b₀:Stmt}{suite:List Stmt}{f:Sf}(hb:PXB X st xb)(hcs:∀c C,cs.contains c=true->ClsAt X.K c C->PySem.W.exmOne X.K (.ref C) (.ref Y)=some true)
   (hst:X.stack=X.env::X.outer) (hef:X.env.frame=some X.env.locals) (hg:Gl X y) (hm:X.mg y=some (.ref Y)) (hC:∀c,cs.contains c=true->∃C,ClsAt X.K c C) (hN:X.N.Nodup) (hh:∀a,PFSs (X.marked a fun _ _=>False) (b₀::suite) f)
   (hi:X.N[i]?=some n:=by rfl) (hk:X.env.kindOf n=some .local:=by rfl) (hl:Loc X.env.scope n:=by first | exact .inl rfl | exact .inr rfl) (hf:X.fn n=true∨X.env.scope.names.lookup n=some .local:=by first | exact .inl rfl | exact .inr rfl) (hdb:(y==("__debug__":Str))=false:=by decide) :
   PFS X (.Try [st] [.ExceptHandler (some (.Name y yp)) (some n) (b₀::suite) hp] [] [] pos) (zTo cs xb i f):=by
 intro Z s σ H D I q
 obtain⟨G0,H0,G,ρ,o,j0,hq,k⟩:=q
 unfold zTo at hq
 obtain⟨c,hc,hq⟩:=Qq.mp hq
 split at hq
 · rename_i hcc
   obtain⟨C,hCC⟩:=hC c hcc
   obtain⟨o1,ho1,hq⟩:=Qq.mp hq
   split at hq
   · rename_i ρ'
     cases hq
     refine wpAny_Try_except (zRt (hb Z s σ H _ G0 H0 G ρ c C I j0 hc hCC fun s2 H2 G2 e s' I2 st2 hx=>?_))
     obtain⟨C',a,H',rfl,os,bare,un,hok,fl,eC,G',st'⟩:=hx
     cases eC
     have g1:Good X.K G0 H0 G' H' σ ρ:=(j0.step st2).step st'
     have g2:=g1.step (Step.laid (o:=.ext (Xe C a none)) st'.sub fl.free)
     have rp:Rep X.K (upd G' a (.ext (Xe C a none))) (.exc c [] []) (.ref a):=zXX.mpr ⟨C,a,none,[],hCC,rfl,zL,rfl,rfl,zM.mpr rfl⟩
     refine zSa I2 os bare un hok fl hst hef hg hm hdb (hcs c C hcc hCC) hN hi hk hl hf (hh a) ⟨G0,H0,_,_,.nx ρ',g2.setF i rp,ho1,fun σ' H'' G'' sg g3=>?_⟩
     exact k _ H'' G'' (((st2.gg.trans st'.gg).trans (Same.new (st'.sub.free fl.free))).trans sg) (g3.setNo i)
   · cases hq
 · cases hq
end
section
variable {X:Cx} {pos:Pos} {k:Nat}
theorem zR9 {y:Str}{j:Nat}(hs:starEach [Expr.Constant (.str y) j pos] X.env=[(false,eval (.Constant (.str y) j pos) X.env)]:=by rfl):zQ3 X [.Constant (.str y) j pos] (fun _=>true):=by
 intro pos' Z s σ H Q I h'
 obtain⟨G0,H0,G,ρ,j0,hp,k⟩:=h'
 exact yZ zSw wH (by rw[hs];rfl) pos' Z s σ H Q I (k [.str y] H G (.refl j0.sub) (Nat.le_of_ble_eq_true rfl))
end
def zNF:List B->Bool:=fun _=>true
def zVF (c:Str)(q:List B->Bool):List B->Option Str:=fun ρ=>if q ρ then some c else none
def xIf (tt:Tf)(xa xb:List B->Option Str):List B->Option Str:=fun ρ=>(tt ρ).bind fun c=>if c=true then xa ρ else xb ρ
def zUz (n:Nat)(xf:List D->Option Str)(ga:Lf):List B->Option Str:=fun ρ=>(ga ρ).bind fun ds=>if ds.length=n then xf ds else none
def zOK:List B->Option Str:=fun _=>none
def fnX (n:Nat)(xb:List B->Option Str):List D->Option Str:=fun ds=>xb (hU n ds)
section
variable {X:Cx} {q:List B->Bool} {pos:Pos}
theorem zPo {y:Str}{j:Nat}(hs:starEach [Expr.Constant (.str y) j pos] X.env=[(false,eval (.Constant (.str y) j pos) X.env)]:=by rfl):zQ3 X [.Constant (.str y) j pos] zNF:=zR9 hs
theorem eQ {sts:List Stmt}:PFSs X sts (fun _=>none):=by
 intro Z s σ H D I q
 obtain⟨G0,H0,G,ρ,o,j0,hf,k⟩:=q
 cases hf
variable {P:Program} {w:World} {K:jh} {mg:Str->Option Value} {base:Heap} {N:List Str} {qual:Str} {scope:Scope} {f:Addr} {cd:Value} {A:Around} {outer:List Env} {s₀:Shared} {H₀:Hp} {E:XK}
theorem zUG:zYg (rL (CXq P w) P w K mg base N qual scope f cd A outer s₀ H₀ E) E:=fun Z σ H s C a I fl hE=>zPi I fl hE
theorem zUc:oP (CXq P w) (rL (CXq P w) P w K mg base N qual scope f cd A outer s₀ H₀ E) E:=zMW fun _ _ h=>h
theorem PXB.nox {X:Cx}{st:Stmt}{xb:List B->Option Str}(h:PXB X.nox st xb):PXB X st xb:=fun Z s σ H R G0 H0 G ρ c C I j0 hq hC k=>h Z s σ H R G0 H0 G ρ c C (I.wish _) j0 hq hC fun s2 H2 G2 e s' I2 st hx=>k s2 H2 G2 e s' I2.unwish st hx
theorem zMx {X:Cx}:∀e s,¬X.nox.xe e s:=fun _ _ z=>z
variable {a e:Expr} {es:List Expr} {ga:Lf} {tt:Tf} {xa xb:List B->Option Str} {p cpos:Pos} {st:Stmt} {sts rest:List Stmt}
theorem zUO:zYk X E [] zOK:=zOQ
theorem zVb (ht:PFT X a tt)(h1:zYk X E sts xa)(h2:zYk X E rest xb):PXS X E (.If a sts rest pos) (xIf tt xa xb):=zNo ht h1 h2
theorem zZ0 {C:Addr}{c:Str}{q:List B->Bool}(hC:ClsAt X.K c C)(M:zV8 X.K C)(hx:X.ex=[])(hm:X.mg c=some (.ref C))(kp:PySem.W.keepIn X.K (.ref C)=true)(hg:Gl X c)(hc:X.calm=true)(th:zYg X E)(ha:zQ3 X (e::es) q)(hdb:(c==("__debug__":Str))=false:=by decide)
   (he:starEach (e::es) X.env=(false,eval e X.env)::starEach es X.env:=by rfl) (hpl:(backTo cpos (starEach es X.env)).any (·.1)=false:=by rfl):PXS X E (.Raise (some (.Call (.Name c p) (e::es) [] cpos)) none pos) (zVF c q):=zRP hC M hx hm kp hg hc th ha hdb he hpl
theorem zTj {k n:Nat}{fad:Addr}{fd:FuncData}{ps:List Str}{y:Str}{d:jy}{xf:List D->Option Str}(hno:∀e s,¬X.xe e s)(F:FnOk X.prog X.w X.K X.mg X.base (CXq X.prog X.w) k fad fd ps (spQ X.K n d xf))(hr:Room k X.A)(hm:X.mg y=some (.ref fad))(hk:PySem.W.keepIn X.K (.ref fad)=true)(hb:Binds X.K fd ps [])(hg:Gl X y)
   (ha:PFA X (e::es) ga) (hdb:(y==("__debug__":Str))=false:=by decide) (he:starEach (e::es) X.env=(false,eval e X.env)::starEach es X.env:=by rfl) (hpl:(backTo cpos (starEach es X.env)).any (·.1)=false:=by rfl) (hs:swapsWith (.Call (.Name y p) (e::es) [] cpos) none pos.line X.env=pure false:=by rfl) :
   PXB X (.Expr (.Call (.Name y p) (e::es) [] cpos) pos) (zUz n xf ga):=zS1 hno F hr hm hk hb hg ha hdb he hpl hs
def ExOk (K:jh)(Y:Addr):List Str->Prop
 | []=>True
 | c::r=>(∃C,ClsAt K c C/\PySem.W.exmOne K (.ref C) (.ref Y)=some true)/\ExOk K Y r
theorem ExOk.at {K:jh}{Y:Addr}:∀ {cs:List Str} {c:Str},ExOk K Y cs->cs.contains c=true->∃C,ClsAt K c C/\PySem.W.exmOne K (.ref C) (.ref Y)=some true
 | [],c,_,h=>by cases h
 | n::r,c,⟨h1,h2⟩,h=>by
   rw[List.contains_cons,Ts] at h
   rcases h with h | h
   · have e:=Tr.mp h
     subst e
     exact h1
   · exact h2.at h
theorem zP4 {cs:List Str}{Y:Addr}{i:Nat}{n y:Str}{yp hp:Pos}{b₀:Stmt}{suite:List Stmt}{f:Sf}(ok:ExOk X.K Y cs)(hb:PXB X.nox st xb)
   (hst:X.stack=X.env::X.outer) (hef:X.env.frame=some X.env.locals) (hg:Gl X y) (hm:X.mg y=some (.ref Y)) (hN:X.N.Nodup) (hh:∀a,PFSs (X.marked a fun _ _=>False) (b₀::suite) f)
   (hi:X.N[i]?=some n:=by rfl) (hk:X.env.kindOf n=some .local:=by rfl) (hl:Loc X.env.scope n:=by first | exact .inl rfl | exact .inr rfl) (hf:X.fn n=true∨X.env.scope.names.lookup n=some .local:=by first | exact .inl rfl | exact .inr rfl) (hdb:(y==("__debug__":Str))=false:=by decide) :
   PFS X (.Try [st] [.ExceptHandler (some (.Name y yp)) (some n) (b₀::suite) hp] [] [] pos) (zTo cs xb i f) :=
 zPH hb.nox (fun c C hc hC=>by obtain⟨C',h1,h2⟩:=ok.at hc;have e:=h1.one hC;subst e;exact h2) hst hef hg hm (fun c hc=>by obtain⟨C',h1,_⟩:=ok.at hc;exact⟨C',h1⟩) hN hh hi hk hl hf hdb
variable {x:Str} {fd:FuncData} {ps:List Str} {k:Nat}
theorem PFSs.nox {X:Cx}{sts:List Stmt}{g:Sf}(h:PFSs X.nox sts g):PFSs X sts g:=fun Z s σ H D I hw =>
 Te (h Z s σ H D (I.wish _) hw) (fun _ _ q=>q.unwish) fun _ _ z=>False.elim z
theorem zVE {body:Sf}{xb:List B->Option Str}(F:Fun K x qual st f fd)(S:FnScope N ps (zW st))
   (hb:∀(j9:Value) (A:Around) (outer:List Env) (s:Shared) (H:Hp) (E:XK),Room k (A.deeper (envOfC qual (zW st) s.heap.objs.size f j9))->PFSs (rL (CXq P w) P w K mg base N qual (zW st) f j9 A outer s H E).nox (yQ st) body)
   (hx:∀(j9:Value) (A:Around) (outer:List Env) (s:Shared) (H:Hp) (E:XK),Room k (A.deeper (envOfC qual (zW st) s.heap.objs.size f j9))->zYk (rL (CXq P w) P w K mg base N qual (zW st) f j9 A outer s H E) E (yQ st) xb) :
   FnOk P w K mg base (CXq P w) (k+1) f fd ps (spQ K ps.length (fnF N.length body) (fnX N.length xb)) :=
 zOo F S (fun j9 A outer s H E hr=>(hb j9 A outer s H E hr).nox) hx
end
def vT:D->Nat | .obj _ _ _=>1 | .dct _ _=>2 | _=>0
def xJ (_ _:Nat)(_:List B):Bool:=true
section
variable {K:jh} {G0 H0 G G' H H':Hp} {σ:St} {ρ:List B} {o o':HO} {d d':D} {a:Addr} {i:Nat}
def kindO:HO->Nat | .ins _ _ _=>1 | .dT _=>2 | _=>0
theorem RepO.kindO:∀ {d:D},RepO K G o d->vT d=kindO o
 | .obj _ _ _,⟨_,_,_,_,h,_⟩=>by rw[h];rfl
 | .dct _ _,⟨_,h,_⟩=>by rw[h];rfl
theorem RepO.kind (h:RepO K G o d)(h':RepO K G' o d'):vT d=vT d':=h.kindO.trans h'.kindO.symm
theorem RepO.rep (g:G a=none):∀ {d:D},RepO K G o d->Rep K (upd G a o) d (.ref a)
 | .obj _ _ _,⟨C,dx,vs,h1,h2,h3,h4⟩=>mF.mpr ⟨C,a,dx,vs,h1,rfl,by rw[zL,h2],h3,h4.mono (Same.new g)⟩
 | .dct _ _,⟨vs,h1,h2,h3⟩=>zYq.mpr ⟨a,vs,rfl,by rw[zL,h1],h2,h3.mono (Same.new g)⟩
theorem Good.mu (g:Good K G0 H0 G H σ ρ)(h:ρ[i]?=some (.mu d)):∃a o,σ[i]?=some (some (.ref a))/\H a=some o/\G a=none/\H0 a=none/\RepO K G o d:=by
 obtain⟨x,e,r⟩:=Paired.get g.vals h
 cases r with
 | mu h1 h2 h3 h4=>exact⟨_,_,e,h1,h2,h3,h4⟩
theorem Good.setM (g:Good K G0 H0 G H σ ρ)(i:Nat)(ha:H a=some o)(ga:G a=none)(h0:H0 a=none)(r:RepO K G o d)(fr:∀(j:Nat) (b:B),ρ[j]?=some b->pR b=true->σ[j]?≠some (some (V.ref a))):Good K G0 H0 G H (σ.set i (some (.ref a))) (ρ.set i (.mu d)):=by
 refine⟨g.st,Paired.set (.mu ha ga h0 r) i g.vals,fun j k b d1 d2 h1 h2 o1 o2 h3 h4=>?_⟩
 by_cases hj:j=i
 · by_cases hk:k=i
   · rw[hj,hk]
   · subst hj
     rw[Ql (Ne.symm hk)] at h2 h4
     have hlt:j < σ.length:=by
       have:=(Qn.mp h3).1
       rwa[Ye] at this
     rw[Ep hlt] at h3
     cases h3
     exact absurd h4 (fr k d2 h2 o2)
 · rw[Ql (Ne.symm hj)] at h1 h3
   by_cases hk:k=i
   · subst hk
     have hlt:k < σ.length:=by
       have:=(Qn.mp h4).1
       rwa[Ye] at this
     rw[Ep hlt] at h4
     cases h4
     exact absurd h3 (fr j d1 h1 o1)
   · rw[Ql (Ne.symm hk)] at h2 h4
     exact g.apart j k b d1 d2 h1 h2 o1 o2 h3 h4
theorem Good.fresh (g:Good K G0 H0 G H σ ρ)(hn:H a=none):∀(j:Nat) (b:B),ρ[j]?=some b->pR b=true->σ[j]?≠some (some (V.ref a)):=fun j b e o z=>by
 obtain⟨x,e1,r⟩:=Paired.get g.vals e
 rw[z] at e1;cases e1
 cases r with
 | ow q1 _ _ _=>rw[hn] at q1;cases q1
 | mu q1 _ _ _=>rw[hn] at q1;cases q1
 | _=>cases o
theorem zRD {i j:Nat}{d d':D}{b:B}(hi:ρ[i]?=some (.mu d))(h:(ρ.set i (.mu d'))[j]?=some b)(o:pR b=true):∃c,ρ[j]?=some c/\pR c=true:=by
 by_cases hj:j=i
 · subst hj;exact⟨_,hi,rfl⟩
 · rw[Ql (Ne.symm hj)] at h;exact⟨b,h,o⟩
theorem Good.ioM (g:Good K G0 H0 G H σ ρ)(hi:ρ[i]?=some (.mu d))(ho:xJ i (vT d) ρ=true)(hs:σ[i]?=some (some (.ref a)))(s:Step G (sH H a) G' H')(h':H' a=some o')(g':G' a=none)(r:RepO K G' o' d') :
   Good K G0 H0 G' H' σ (ρ.set i (.mu d')):=by
 obtain⟨a',o,e1,e2,e3,e4,e5⟩:=g.mu hi
 rw[hs] at e1;cases e1
 have up:∀b u,b≠a->H b=some u->H' b=some u:=fun b u hb q=>s.hh b u (by rw[xW hb];exact q)
 have nn:∀b u,b≠a->H b=some u->zY9 u=true->G' b=G b:=fun b u hb q z=>s.new b u (by rw[xW hb];exact q) z
 refine⟨⟨fun b u q=>?_,g.st.gg.trans s.gg,s.sub,fun b u q z=>?_⟩,?_,fun j k b d1 d2 h1 h2 o1 o2 h3 h4=>?_⟩
 · have hb:b≠a:=fun z=>by rw[z,e4] at q;cases q
   exact up b u hb (g.st.hh b u q)
 · have hb:b≠a:=fun z=>by rw[z,e4] at q;cases q
   exact(nn b u hb (g.st.hh b u q) z).trans (g.st.new b u q z)
 · refine Paired.upd i g.vals (fun j x b hj q1 q2 q=>?_) fun x e=>?_
   · cases q with
     | no=>exact .no
     | fz r=>exact .fz (r.mono s.gg)
     | @ow c us ds c1 c2 c3 c4 =>
       have hc:c≠a:=fun z=>by rw[z,e2] at c1;cases c1;exact e5.nl
       exact .ow (up c _ hc c1) ((nn c _ hc c1 rfl).trans c2) c3 (c4.mono s.gg)
     | @od c _ _ _ _ c1 c2 c3 c4 c5 c6 =>
       have hc:c≠a:=fun z=>by rw[z,e2] at c1;cases c1;exact e5.nx
       exact .od (up c _ hc c1) ((nn c _ hc c1 rfl).trans c2) c3 (c4.mono s.gg) c5 c6
     | @mu c oc dc c1 c2 c3 c4 =>
       have hc:c≠a:=fun z=>hj (g.apart j i a _ _ q2 hi rfl rfl (by rw[q1,z]) hs)
       exact .mu (up c _ hc c1) ((nn c _ hc c1 c4.nt).trans c2) c3 (c4.mono s.gg)
   · rw[hs] at e;cases e
     exact .mu h' g' e4 r
 · obtain⟨c1,f1,p1⟩:=zRD hi h1 o1
   obtain⟨c2,f2,p2⟩:=zRD hi h2 o2
   exact g.apart j k b c1 c2 f1 f2 p1 p2 h3 h4
theorem Step.wrO {G H:Hp}{a:Addr}{o o':HO}(s:Same G H)(g:G a=none):Step G (sH H a) G (upd H a o'):=by
 refine⟨fun b u e=>?_,Same.refl _,fun b u e=>?_,fun _ _ _ _=>rfl⟩
 · by_cases hb:b=a
   · rw[hb,xN] at e;cases e
   · rw[xW hb] at e;rw[zN hb];exact e
 · rw[zN (zC e g)];exact s b u e
theorem Good.wrM (g:Good K G0 H0 G H σ ρ)(hi:ρ[i]?=some (.mu d))(ho:xJ i (vT d) ρ=true)(hs:σ[i]?=some (some (.ref a)))(r:RepO K G o' d'):Good K G0 H0 G (upd H a o') σ (ρ.set i (.mu d')):=by
 obtain⟨a',o,e1,e2,e3,e4,e5⟩:=g.mu hi
 rw[hs] at e1;cases e1
 exact g.ioM hi ho hs (Step.wrO (o:=o) g.sub e3) zL e3 r
theorem Good.lendM (g:Good K G0 H0 G H σ ρ)(hi:ρ[i]?=some (.mu d))(ho:xJ i (vT d) ρ=true):∃a o,G a=none/\H a=some o/\RepO K G o d/\Good K G0 H0 (upd G a o) H σ (ρ.set i (.fz d)):=by
 obtain⟨a,o,e1,e2,e3,e4,e5⟩:=g.mu hi
 refine⟨a,o,e3,e2,e5,?_⟩
 have sG:Same G (upd G a o):=Same.new e3
 refine⟨⟨g.st.hh,g.st.gg.trans sG,fun b u q=>?_,fun b u q z=>?_⟩,?_,fun j k b d1 d2 h1 h2 o1 o2 h3 h4=>?_⟩
 · by_cases z:b=a
   · subst z;rw[zL] at q;rw[e2];exact q
   · rw[zN z] at q;exact g.st.sub b u q
 · rw[zN (fun y:b=a=>by rw[y,e4] at q;cases q)];exact g.st.new b u q z
 · refine Paired.upd i g.vals (fun j x b hj q1 q2 q=>?_) fun x e=>?_
   · cases q with
     | no=>exact .no
     | fz r=>exact .fz (r.mono sG)
     | @ow c us ds c1 c2 c3 c4 =>
       have hc:c≠a:=fun z=>by rw[z,e2] at c1;cases c1;exact e5.nl
       exact .ow c1 (by rw[zN hc];exact c2) c3 (c4.mono sG)
     | @od c _ _ _ _ c1 c2 c3 c4 c5 c6 =>
       have hc:c≠a:=fun z=>by rw[z,e2] at c1;cases c1;exact e5.nx
       exact .od c1 (by rw[zN hc];exact c2) c3 (c4.mono sG) c5 c6
     | @mu c oc dc c1 c2 c3 c4 =>
       have hc:c≠a:=fun z=>hj (g.apart j i a _ _ q2 hi rfl rfl (by rw[q1,z]) e1)
       exact .mu c1 (by rw[zN hc];exact c2) c3 (c4.mono sG)
   · rw[e1] at e;cases e
     exact .fz (e5.rep e3)
 · obtain⟨_,f1⟩:=pK rfl h1 o1
   obtain⟨_,f2⟩:=pK rfl h2 o2
   exact g.apart j k b d1 d2 f1 f2 o1 o2 h3 h4
end
mutual
def qP:D->Bool
 | .non=>true
 | .bl _=>true
 | .int _=>true
 | .str _=>true
 | .tup ds=>nJ ds
 | .lst ds=>nJ ds
 | _=>false
def nJ:List D->Bool
 | []=>true
 | d::r=>qP d&&nJ r
end
section
variable {K:jh} {G:Hp} {p:Addr} {o:HO}
theorem SqT.outM {a:Addr}{vs:List V}(hp:G p=some o)(hn:(∃C dx fs,o = .ins C dx fs)∨∃j8,o = .dT j8)(h:SqT K G a vs):SqT K (sH G p) a vs:=by
 have ne:∀u,G a=some u->(∀C dx fs,u ≠ .ins C dx fs)->(∀j8,u ≠ .dT j8)->a≠p:=fun u e h1 h2 z=>by
   rw[z,hp] at e;cases e
   rcases hn with⟨_,_,_,y⟩ | ⟨_,y⟩
   · exact h1 _ _ _ y
   · exact h2 _ y
 rcases h with(h | ⟨u,h⟩) | h
 · exact .inl (.inl (by rw[xW (ne _ h (fun _ _ _ z=>nomatch z) fun _ z=>nomatch z)];exact h))
 · exact .inl (.inr ⟨u,by rw[xW (ne _ h (fun _ _ _ z=>nomatch z) fun _ z=>nomatch z)];exact h⟩)
 · exact .inr h
theorem SqL.outM {a:Addr}{vs:List V}(hp:G p=some o)(hn:(∃C dx fs,o = .ins C dx fs)∨∃j8,o = .dT j8)(h:SqL K G a vs):SqL K (sH G p) a vs:=by
 have ne:∀u,G a=some u->(∀C dx fs,u ≠ .ins C dx fs)->(∀j8,u ≠ .dT j8)->a≠p:=fun u e h1 h2 z=>by
   rw[z,hp] at e;cases e
   rcases hn with⟨_,_,_,y⟩ | ⟨_,y⟩
   · exact h1 _ _ _ y
   · exact h2 _ y
 rcases h with(h | ⟨u,h⟩) | h
 · exact .inl (.inl (by rw[xW (ne _ h (fun _ _ _ z=>nomatch z) fun _ z=>nomatch z)];exact h))
 · exact .inl (.inr ⟨u,by rw[xW (ne _ h (fun _ _ _ z=>nomatch z) fun _ z=>nomatch z)];exact h⟩)
 · exact .inr h
mutual
theorem Rep.outM (hp:G p=some o)(hn:(∃C dx fs,o = .ins C dx fs)∨∃j8,o = .dT j8):∀(d:D) (v:V),qP d=true->Rep K G d v->Rep K (sH G p) d v
 | .non,_,_,h=>by unfold Rep at h ⊢;exact h
 | .bl _,_,_,h=>by unfold Rep at h ⊢;exact h
 | .int _,_,_,h=>by unfold Rep at h ⊢;exact h
 | .str _,_,_,h=>by unfold Rep at h ⊢;exact h
 | .tup ds,_,f,h=>by
   unfold Rep at h ⊢
   obtain⟨a,vs,h1,h2,h3⟩:=h
   exact⟨a,vs,h1,SqT.outM hp hn h2,Reps.outM hp hn ds vs (by unfold qP at f;exact f) h3⟩
 | .lst ds,_,f,h=>by
   unfold Rep at h ⊢
   obtain⟨a,vs,h1,h2,h3⟩:=h
   exact⟨a,vs,h1,SqL.outM hp hn h2,Reps.outM hp hn ds vs (by unfold qP at f;exact f) h3⟩
 | .obj C ns ds,_,f,_=>by unfold qP at f;cases f
 | .exc C ns ds,_,f,_=>by unfold qP at f;cases f
 | .dct ks ds,_,f,_=>by unfold qP at f;cases f
theorem Reps.outM (hp:G p=some o)(hn:(∃C dx fs,o = .ins C dx fs)∨∃j8,o = .dT j8):∀(ds:List D) (vs:List V),nJ ds=true->Reps K G ds vs->Reps K (sH G p) ds vs
 | [],_,_,h=>by unfold Reps at h ⊢;exact h
 | d::r,_,f,h=>by
   unfold Reps at h ⊢
   obtain⟨v,vr,h1,h2,h3⟩:=h
   unfold nJ at f
   rw[Wg] at f
   exact⟨v,vr,h1,Rep.outM hp hn d v f.1 h2,Reps.outM hp hn r vr f.2 h3⟩
end
theorem Step.backM {G H G1 H':Hp}{p:Addr}{o:HO}(s:Step (upd G p o) H G1 H')(hG:G p=none)(hH:H p=some o)(nt:zY9 o=true):Step G H (sH G1 p) H'/\G1 p=some o:=by
 refine⟨⟨s.hh,fun b u e=>?_,fun b u e=>?_,fun a u ha hn=>?_⟩,s.gg p _ zL⟩
 · have hb:b≠p:=fun z=>by rw[z,hG] at e;cases e
   rw[xW hb]
   exact s.gg b u (by rw[zN hb];exact e)
 · by_cases hb:b=p
   · rw[hb,xN] at e;cases e
   · rw[xW hb] at e;exact s.sub b u e
 · by_cases hb:a=p
   · rw[hb,xN,hG]
   · rw[xW hb,s.new a u ha hn,zN hb]
end
section
variable {X:Cx} {e:Expr} {fa:Ef} {ta:Tf}
def zZj (i k:Nat)(ρ:List B):Option (List B):=match ρ[i]? with | some (.mu d)=>if vT d=k/\xJ i k ρ=true then some (ρ.set i (.fz d)) else none | _=>none
theorem zZl {i k:Nat}{ρ ρ':List B}(h:zZj i k ρ=some ρ'):∃d,ρ[i]?=some (.mu d)/\vT d=k/\xJ i k ρ=true/\ρ'=ρ.set i (.fz d):=by
 unfold zZj at h
 split at h
 · rename_i d e
   split at h
   · rename_i q
     cases h
     exact⟨d,e,q.1,q.2,rfl⟩
   · cases h
 · cases h
def vM (i k:Nat)(f:Ef):Ef:=fun ρ=>(zZj i k ρ).bind fun ρ'=>(f ρ').bind fun d=>if qP d then some d else none
theorem sB (i k:Nat)(h:PF X e fa):PF X e (vM i k fa):=by
 refine PE.to h ?_
 rintro σ H Q ⟨G0,H0,G,ρ,d,j0,hf,kk⟩
 unfold vM at hf
 obtain⟨ρ',h1,hf1⟩:=Qq.mp hf
 obtain⟨d',h2,hf2⟩:=Qq.mp hf1
 obtain⟨dm,q1,q2,q3,rfl⟩:=zZl h1
 split at hf2
 · rename_i fl
   cases hf2
   obtain⟨p,o,hG,hH,ro,good'⟩:=j0.lendM q1 (by rw[q2];exact q3)
   refine⟨G0,H0,_,_,_,good',h2,fun v H' G1 s r=>?_⟩
   obtain⟨st,hp⟩:=s.backM hG hH ro.nt
   exact kk v H' _ st (Rep.outM hp ro.two _ _ fl r)
 · cases hf2
def tL (i k:Nat)(t:Tf):Tf:=fun ρ=>(zZj i k ρ).bind fun ρ'=>t ρ'
theorem nU (i k:Nat)(h:PFT X e ta):PFT X e (tL i k ta):=by
 refine PT.to h ?_
 rintro σ H Q ⟨G0,H0,G,ρ,b,j0,hf,kk⟩
 unfold tL at hf
 obtain⟨ρ',h1,hf⟩:=Qq.mp hf
 obtain⟨dm,q1,q2,q3,rfl⟩:=zZl h1
 obtain⟨p,o,hG,hH,ro,good'⟩:=j0.lendM q1 (by rw[q2];exact q3)
 exact⟨G0,H0,_,_,b,good',hf,fun H' G1 s=>kk H' _ (s.backM hG hH ro.nt).1⟩
end
def setF {α:Type}(f:Str)(y:α):List Str->List α->List α
 | n::ns,x::xs=>if n=f then y::xs else x::setF f y ns xs
 | _,xs=>xs
theorem zXn {α:Type}{f:Str}{y:α}:∀ {ns:List Str} {xs:List α},(setF f y ns xs).length=xs.length
 | [],xs=>by unfold setF;rfl
 | _::_,[]=>rfl
 | n::ns,x::xs=>by
   unfold setF
   split
   · rfl
   · rw[Qo,Qo,zXn]
theorem zWb {f:Str}{y:V}:∀ {ns:List Str} {vs:List V},ns.length=vs.length->f∈ns->nQ f y (ns.zip vs)=ns.zip (setF f y ns vs)
 | [],_,_,h=>by cases h
 | _::_,[],h,_=>by simp at h
 | n::ns,v::vs,h,hf=>by
   show(if n=f then _ else(n,v)::nQ f y (ns.zip vs))=_
   unfold setF
   by_cases hn:n=f
   · rw[Qu hn,Qu hn,En,hn];rfl
   · rw[Qs hn,Qs hn,En,zWb (by simpa using h) ((Qa.mp hf).resolve_left fun z=>hn z.symm)]
theorem zYT {K:jh}{G:Hp}{f:Str}{d:D}{v:V}(r:Rep K G d v):∀ {ns:List Str} {ds:List D} {vs:List V},Reps K G ds vs->Reps K G (setF f d ns ds) (setF f v ns vs)
 | [],_,_,h=>by unfold setF;exact h
 | n::ns,[],_,h=>by rw[zM] at h;subst h;exact zM.mpr rfl
 | n::ns,e::ds,_,h=>by
   obtain⟨u,vr,rfl,h2,h3⟩:=zR.mp h
   unfold setF
   by_cases hn:n=f
   · rw[Qu hn,Qu hn];exact zR.mpr ⟨v,vr,rfl,r,h3⟩
   · rw[Qs hn,Qs hn];exact zR.mpr ⟨u,_,rfl,h2,zYT r h3⟩
section
variable {X:Cx} {c e o:Expr} {es:List Expr} {ga:Lf} {pos p cpos:Pos}
def jI (i:Nat)(c f:Str):Ef:=fun ρ=>match ρ[i]? with | some (.mu (.obj c' ns ds))=>if c'=c then(ns.zip ds).lookup f else none | _=>none
theorem kH {C:Addr}{c f:Str}(i:Nat){x:Str}{p1:Pos}(hC:ClsAt X.K c C)(hcl:Cls X.K C)(hn:NoAttr X.K C f)(hN:X.N[i]?=some x:=by rfl)(hv:Vis X.env.scope x:=by first | exact Or.inl rfl | exact Or.inr (Or.inl rfl) | exact Or.inr (Or.inr rfl))(hd:(x==("__debug__":Str))=false:=by decide)(hcd:(x==("__classdict__":Str))=false:=by decide)
   (hb:attributeBase (.Name x p1) f X.env (eval (.Name x p1) X.env)=eval (.Name x p1) X.env:=by rfl):PF X (.Attribute (.Name x p1) f pos) (jI i c f):=by
 refine PE.to (zRR (sW hN hv hd hcd) hb) ?_
 rintro σ H Q ⟨G0,H0,G,ρ,d,j0,hf,k⟩
 unfold jI at hf
 split at hf
 · rename_i c' ns ds e
   split at hf
   · rename_i hc
     subst hc
     obtain⟨q,o,e1,e2,e3,e4,C',dx,vs,r1,r2,r3,r4⟩:=j0.mu e
     have ec:=hC.one r1
     subst ec
     obtain⟨u,l1,l2⟩:=iI r3 r4 hf
     exact⟨.ref q,e1,q,_,dx,_,u,rfl,by rw[e2,r2],hcl,hn,l1,k _ _ G (.refl j0.sub) l2⟩
   · cases hf
 · cases hf
def zXA (i:Nat)(c:Str)(ns:List Str)(n:Nat)(f:List D->Option (List D))(g:Lf):Sf:=fun ρ=>(g ρ).bind fun ds=>if ds.length=n then(f ds).bind fun xs=>if ns.length=xs.length then some (.nx (ρ.set i (.mu (.obj c ns xs)))) else none else none
theorem zR2 (i:Nat){x:Str}{k n:Nat}{C fI:Addr}{fd:FuncData}{ps ns:List Str}{c:Str}{f:List D->Option (List D)}{pos':Pos}(hN:X.N.Nodup)(hC:ClsAt X.K c C)(M:Mk X.K C fI)(F:FnOk X.prog X.w X.K X.mg X.base CX0 k fI fd ps (spI X.K C ns n f))(hr:Room (k+1) X.A)(hm:X.mg c=some (.ref C))(hb:Binds X.K fd ps [])(hg:Gl X c)
   (ha:PFA X (e::es) ga) (hi:X.N[i]?=some x:=by rfl) (hx:Loc X.env.scope x:=by first | exact .inl rfl | exact .inr rfl) (hs:swapsWith (.Call (.Name c p) (e::es) [] cpos) (some (.Name x pos')) pos.line X.env=pure false:=by rfl)
   (hf:X.fn x=true∨X.env.scope.names.lookup x=some .local:=by first | exact .inl rfl | exact .inr rfl) (hdb:(c==("__debug__":Str))=false:=by decide) (he:starEach (e::es) X.env=(false,eval e X.env)::starEach es X.env:=by rfl) (hpl:(backTo cpos (starEach es X.env)).any (·.1)=false:=by rfl) :
   PFS X (.Assign [.Name x pos'] (.Call (.Name c p) (e::es) [] cpos) pos) (zXA i c ns n f ga):=by
 refine PS.to (eT hN hi hx (zUN (E:=E0) M F hr hg hm hb .nil jJ ha hdb he hpl) hs hf) ?_
 rintro D σ H ⟨G0,H0,G,ρ,o,j0,hf,k⟩
 unfold zXA at hf
 obtain⟨ds,h1,hf⟩:=Qq.mp hf
 split at hf
 · rename_i hl
   obtain⟨xs,h2,hf⟩:=Qq.mp hf
   split at hf
   · rename_i hn
     cases hf
     refine⟨G0,H0,G,ρ,_,j0,h1,fun vs H1 G1 s1 r1 x dx hx hdx hne=>?_⟩
     refine⟨x,dx,vs++[],G1,H1,ds,xs,rfl,rfl,hx,hdx,hne,s1.sub,by rw[Wn];exact r1,hl,h2,fun H' G' us s' q1 q2 q3=>⟨rfl,?_⟩⟩
     have g2:=(j0.step s1).step s'
     exact k _ H' G' (s1.trans s').gg (g2.setM i q1 q2 ((j0.step s1).st.hh.free hx) ⟨C,dx,us,hC,rfl,hn,q3⟩ ((j0.step s1).fresh hx))
   · cases hf
 · cases hf
end
def spM (K:jh)(c:Str)(ns:List Str)(n:Nat)(f:List D->List D->Option (List D)):Sp:=fun vs H Q _=>∃(a:Addr) (o:HO) (rest:List V) (G:Hp) (xs ds ys:List D),vs = .ref a::rest/\H a=some o/\G a=none/\RepO K G o (.obj c ns xs)/\Same G H/\Reps K G ds rest/\ds.length=n/\f xs ds=some ys /\
 ∀H' G' o',Step G (sH H a) G' H'->H' a=some o'->G' a=none->RepO K G' o' (.obj c ns ys)->Q .non H'
def zY0 (N:Nat)(c:Str)(ns:List Str)(xs ds:List D):List B:=.mu (.obj c ns xs)::(ds.map .fz++List.replicate (N - (ds.length+1)) .no)
def fnM (N:Nat)(c:Str)(ns:List Str)(f:Str)(t:Tf)(e:Ef):List D->List D->Option (List D):=fun xs ds=>(t (zY0 N c ns xs ds)).bind fun b=>if b=false/\f∈ns/\ns.length<=900 then(e (zY0 N c ns xs ds)).map fun d=>setF f d ns xs else none
section
variable {P:Program} {w:World} {K:jh} {mg:Str->Option Value} {base:Heap} {x qual:Str} {st:Stmt} {fad C:Addr} {fd:FuncData} {N ps ns:List Str} {k:Nat} {sf c f:Str} {t e:Expr} {rs:List Stmt} {tt:Tf} {fe:Ef} {p1 p2 p3 p4:Pos}
theorem Step.wrP {G H G' H':Hp}{p:Addr}{o:HO}(s:Step G H G' H')(hp:H p=none)(g':G' p=none):Step G H G' (upd H' p o) :=
 ⟨fun b u e=>by rw[zN (zC e hp)];exact s.hh b u e,s.gg,fun b u e=>by rw[zN (zC e g')];exact s.sub b u e,s.new⟩
theorem zTF {X:Cx}{sts:List Stmt}:PSs X sts (fun _ _ _=>False):=fun _ _ _ _ _ _ z=>z.elim
theorem mZ (m:Nat)(d:D)(ds:List D){j:Nat}{b:B}(h:(B.mu d::(ds.map B.fz++List.replicate m B.no))[j]?=some b)(o:pR b=true):j=0:=by
 cases j with
 | zero=>rfl
 | succ j =>
   exfalso
   rw[Rm] at h
   by_cases hi:j < ds.length
   · rw[Wj (by simpa using hi),Wd] at h
     obtain⟨k,_,h⟩:=Qr.mp h
     cases h;cases o
   · rw[Wt (by simpa using hi),Eu] at h
     split at h<;>cases h<;>cases o
theorem zSu (F:Fun K x qual st fad fd)(S:FnScope N (sf::ps) (zW st))(hC:ClsAt K c C)(hcl:Cls K C)(hn:NoAttr K C f)(hbody:yQ st=[.If t rs [] p1,.Assign [.Attribute (.Name sf p2) f p3] e p4])
   (ht:∀(j9:Value) (A:Around) (outer:List Env) (s:Shared) (H:Hp) (E:XK),Room k (A.deeper (envOfC qual (zW st) s.heap.objs.size fad j9))->PFT (rL CX0 P w K mg base N qual (zW st) fad j9 A outer s H E).nox t tt)
   (he:∀(j9:Value) (A:Around) (outer:List Env) (s:Shared) (H:Hp) (E:XK),Room k (A.deeper (envOfC qual (zW st) s.heap.objs.size fad j9))->PF (rL CX0 P w K mg base N qual (zW st) fad j9 A outer s H E).nox e fe)
   (hN0:N[0]?=some sf) (hv:Vis (zW st) sf) (hd:(sf==("__debug__":Str))=false:=by decide) (hcd:(sf==("__classdict__":Str))=false:=by decide)
   (hs:∀(j9:Value) (A:Around) (outer:List Env) (s:Shared) (H:Hp) (E:XK),swapsWith e (some (.Attribute (.Name sf p2) f p3)) p4.line (rL CX0 P w K mg base N qual (zW st) fad j9 A outer s H E).nox.env=pure false:=by exact fun _ _ _ _ _ _=>rfl) :
   FnOk P w K mg base CX0 (k+1) fad fd (sf::ps) (spM K c ns ps.length (fnM N.length c ns f tt fe)):=by
 refine F.ok S (fun vs H Q E h=>?_) (fun j9 A outer s H vs Q E hr h=>?_)
 · obtain⟨a,o,rest,G,xs,ds,ys,rfl,_,_,_,_,rr,hl,_⟩:=h
   rw[Qo,Qo,←rr.length,hl]
 · rw[hbody]
   refine⟨_,qE (zZ2 (ht j9 A outer s H E hr) zTF cK) (cA (zRU (sW hN0 hv hd hcd) (he j9 A outer s H E hr) (hs j9 A outer s H E))),?_⟩
   obtain⟨a,o,rest,G,xs,ds,ys,rfl,h1,h2,h3,sub,rr,hl,hf,kk⟩:=h
   have j0:Good K G (sH H a) G H (xE N (.ref a::rest)) (zY0 N.length c ns xs ds):=by
     refine⟨⟨fun b u q=>?_,Same.refl _,sub,fun _ _ _ _=>rfl⟩,?_,fun i j a b c q1 q2 o1 o2 _ _=>(mZ _ _ ds q1 o1).trans (mZ _ _ ds q2 o2).symm⟩
     · by_cases hb:b=a
       · rw[hb,xN] at q;cases q
       · rwa[xW hb] at q
     · unfold xE zY0
       rw[Qz,Qo,Tq,←rr.length]
       exact .cons (.mu h1 h2 xN h3) (qV _ rr)
   unfold fnM at hf
   obtain⟨b,e1,hf⟩:=Qq.mp hf
   split at hf
   · rename_i hq
     obtain⟨rfl,hfn,hn9⟩:=hq
     obtain⟨d,e2,rfl⟩:=Qr.mp hf
     refine⟨G,sH H a,G,_,false,j0,e1,fun H1 G1 s1=>?_⟩
     show zOZ _ _ _
     refine⟨G,sH H a,G1,_,d,j0.step s1,e2,fun v H2 G2 s2 r2=>?_⟩
     have s12:=s1.trans s2
     obtain⟨C',dx,vs,r3,r4,r5,r6⟩:=h3
     have ec:=hC.one r3
     subst ec
     have hlv:ns.length=vs.length:=by rw[r5];exact r6.length
     refine⟨.ref a,rfl,a,_,dx,ns.zip vs,rfl,by rw[s12.hh _ _ h1,r4],hcl,hn,by rw[Ym];lia,?_⟩
     have ga:G2 a=none:=(s12.new a _ h1 (by rw[r4];rfl)).trans h2
     exact kk _ G2 _ ((j0.st.trans s12).wrP xN ga) zL ga ⟨_,dx,_,hC,by rw[zWb hlv hfn],by rw[zXn];exact r5,zYT r2 (r6.mono s12.gg)⟩
   · cases hf
end
theorem xA {f:Str}:∀ {ns:List Str} {vs:List V},f∉ns->(ns.zip vs).lookup f=none
 | [],_,_=>je
 | _::_,[],_=>je
 | n::ns,v::vs,h=>by
   rw[En,Eh,Rc.mpr fun z=>h (by simp[z])]
   exact xA fun z=>h (by simp[z])
section
variable {X:Cx} {c o:Expr} {fa:Ef} {apos cpos:Pos}
def tU (i:Nat)(c m:Str)(n:Nat)(f:List Str->List D->List D->Option (List D))(g:Lf):Sf:=fun ρ=>(g ρ).bind fun ds=>match ρ[i]? with
 | some (.mu (.obj c' ns xs))=>if c'=c/\ds.length=n/\m∉ns/\xJ i 1 ρ=true then(f ns xs ds).map fun ys=>.nx (ρ.set i (.mu (.obj c ns ys))) else none
 | _=>none
def zZz (c m:Str)(n:Nat)(d:jy)(fa:Ef)(g:Lf):Ef:=fun ρ=>(fa ρ).bind fun x=>(g ρ).bind fun ds=>match x with
 | .obj c' ns _=>if c'=c/\ds.length+1=n/\m∉ns then d (x::ds) else none
 | _=>none
theorem zXm {pl:Sem Bool}{c m:Str}{k n:Nat}{C fad:Addr}{fd:FuncData}{ps:List Str}{d:jy}(hC:ClsAt X.K c C)(hcl:Cls X.K C)(hm:Meth X.K C m fad)(F:FnOk X.prog X.w X.K X.mg X.base CX0 k fad fd ps (spF X.K n d))(hr:Room k X.A)(hb:Binds X.K fd ps [])
   (ho:PF X o fa)
   (ht:eval (.Call (.Attribute o m apos) [] [] cpos) X.env=(do
     let ov ←eval o X.env
     standAt apos.atName
     let (f,first) ←holding [ov] (getMethod ov m pl)
     callWith cpos f first (backTo cpos (starEach [] X.env)) (backToKw cpos (keywordEach [] X.env))):=by rfl) :
   PF X (.Call (.Attribute o m apos) [] [] cpos) (zZz c m n d fa zP):=by
 refine PE.to (zXd (pl:=pl) (E:=E0) ho hcl hm F hr hb .nil jJ ht) ?_
 rintro σ H Q ⟨G0,H0,G,ρ,r,j0,hf,kk⟩
 unfold zZz at hf
 obtain⟨x,h1,hf1⟩:=Qq.mp hf
 obtain⟨ds,h2,hf2⟩:=Qq.mp hf1
 clear hf hf1
 cases h2
 cases x with
 | obj c' ns xs =>
   dsimp only at hf2
   split at hf2
   · rename_i hq
     obtain⟨rfl,hl,hmn⟩:=hq
     refine⟨G0,H0,G,ρ,_,j0,h1,fun v H1 G1 s1 r1=>?_⟩
     obtain⟨C',q,dx,vs,r2,rfl,r3,r4,r5⟩:=mF.mp r1
     have ec:=hC.one r2
     subst ec
     refine⟨q,dx,_,rfl,s1.sub _ _ r3,xA hmn,?_⟩
     exact⟨G1,[.obj c' ns xs],r,s1.sub,zR.mpr ⟨_,_,rfl,r1,zM.mpr rfl⟩,hl,hf2,fun v H' G' st rr=>kk v H' G' (s1.trans st) rr⟩
   · cases hf2
 | _=>cases hf2
def zUx (c m:Str)(n:Nat)(xf:List D->Option Str)(fa:Ef)(g:Lf):List B->Option Str:=fun ρ=>(fa ρ).bind fun x=>(g ρ).bind fun ds=>match x with
 | .obj c' ns _=>if c'=c/\ds.length+1=n/\m∉ns then xf (x::ds) else none
 | _=>none
end
def zMF:Value->Option D
 | .none=>some .non
 | .bool b=>some (.bl b)
 | .int i _=>some (.int i)
 | .str x _=>some (.str x)
 | _=>none
def zMz (P:Params)(l:List (Str×Tok×Value)):List DictEntry:=l.map fun p=>⟨PyData.keyHash P p.1,.str p.1 p.2.1,p.2.2⟩
def kvC (l:List (Str×Tok×Value)):List (Str×D):=l.map fun p=>(p.1,(zMF p.2.2).getD .non)
structure DictC (w:World)(K:jh)(a:Addr)(j8:List (Str×D)):Prop where
 sys:(a==sysModules)=false
 at':∃(l:List (Str×Tok×Value)) (n:Nat),K.lookup a=some ⟨.type "dict",none,.dict (zMz w.params l).toArray n,#[]⟩/\j8=kvC l/\(l.all fun p=>(zMF p.2.2).isSome)=true
end L2
namespace L2
open PySem PySem.W PySem.Spec PyProof.Rows
def zNk:D->Option Key | .int i=>some (.inl i) | .str s=>some (.inr s) | _=>none
def zVW:List D->Option (List Key)
 | []=>some []
 | d::r=>(zNk d).bind fun k=>(zVW r).map (k::·)
def zVu:D->Option (List Key) | .tup ds=>zVW ds | _=>none
section
variable {K:jh} {G:Hp}
theorem zSj {d:D}{k:Key}{v:V}(h:zNk d=some k)(r:Rep K G d v):v=kV k:=by
 cases d with
 | int i=>cases h;exact zK.mp r
 | str z=>cases h;exact yI.mp r
 | _=>cases h
theorem eJ:∀ {ds:List D} {k:List Key} {vs:List V},zVW ds=some k->Reps K G ds vs->vs=k.map kV
 | [],k,vs,h,r=>by cases h;exact zM.mp r
 | d::ds,k,vs,h,r=>by
   unfold zVW at h
   obtain⟨a,h1,h⟩:=Qq.mp h
   obtain⟨b,h2,rfl⟩:=Qr.mp h
   obtain⟨v,vr,rfl,r1,r2⟩:=zR.mp r
   rw[zSj h1 r1,eJ h2 r2];rfl
theorem kR {d:D}{k:List Key}{v:V}(h:zVu d=some k)(r:Rep K G d v):∃b,v = .ref b/\SqT K G b (k.map kV):=by
 cases d with
 | tup ds =>
   obtain⟨b,vs,rfl,h1,h2⟩:=yR.mp r
   rw[eJ h h2] at h1
   exact⟨b,rfl,h1⟩
 | _=>cases h
def pU (ks:List (List Key))(ds:List D)(k:List Key):Option D:=((ks.zip ds).find? fun p=>decide (p.1=k)).map (·.2)
theorem bW:∀ {ks:List (List Key)} {ds:List D} {vs:List V} (k:List Key),ks.length=ds.length->Reps K G ds vs->match pU ks ds k,lW (ks.zip vs) k with | some d,some v=>Rep K G d v | none,none=>True | _,_=>False
 | [],ds,vs,k,h,r=>by simp[pU,lW]
 | q::ks,[],vs,k,h,r=>by simp at h
 | q::ks,d::ds,vs,k,h,r=>by
   obtain⟨v,vr,rfl,r1,r2⟩:=zR.mp r
   have ih:=bW (ks:=ks) k (by simpa using h) r2
   unfold pU lW at ih ⊢
   simp only[En,Ex]
   by_cases e:q=k
   · simp only[e,decide_true,Rk];exact r1
   · simp only[e,Og];exact ih
theorem sD {ks:List (List Key)}{ds:List D}{vs:List V}(k:List Key)(h:ks.length=ds.length)(r:Reps K G ds vs):(lW (ks.zip vs) k).isSome=(pU ks ds k).isSome:=by
 have:=bW k h r
 split at this
 · rename_i e1 e2;rw[e1,e2];rfl
 · rename_i e1 e2;rw[e1,e2];rfl
 · exact this.elim
def dL (ks:List (List Key))(ds:List D)(k:List Key):List D:=((ks.zip ds).filter fun p=>decide (p.1≠k)).map (·.2)
theorem eG:∀ {ks:List (List Key)} {ds:List D} {vs:List V} (k:List Key),ks.length=ds.length->Reps K G ds vs ->
   ∃us,gM (ks.zip vs) k=(ks.filter fun q=>decide (q≠k)).zip us/\(ks.filter fun q=>decide (q≠k)).length=(dL ks ds k).length/\Reps K G (dL ks ds k) us
 | [],ds,vs,k,h,r=>⟨[],by simp[gM],by simp[dL],by simp[dL];exact zM.mpr rfl⟩
 | q::ks,[],vs,k,h,r=>by simp at h
 | q::ks,d::ds,vs,k,h,r=>by
   obtain⟨v,vr,rfl,r1,r2⟩:=zR.mp r
   obtain⟨us,a1,a2,a3⟩:=eG (ks:=ks) k (by simpa using h) r2
   unfold gM dL at *
   by_cases e:q=k
   · refine⟨us,?_,?_,?_⟩
     · simpa [Ew,e] using a1
     · simpa [Ew,e] using a2
     · simpa [Ew,e] using a3
   · refine⟨v::us,?_,?_,?_⟩
     · simpa [Ew,e] using a1
     · simpa [Ew,e] using a2
     · have:Reps K G (d::((ks.zip ds).filter fun p=>decide (p.1≠k)).map (·.2)) (v::us):=zR.mpr ⟨v,us,rfl,r1,a3⟩
       simpa [Ew,e] using this
variable {X:Cx} {Z:jl} {σ:St} {H:Hp} {s:Shared} {a b:Addr} {k:List Key} {j8:List (List Key×V)} {A:Around}
theorem zY6 (I:Inv X Z σ H s)(h:SqT X.K H b (k.map kV)):(tupleKind (y9 X.prog X.w)).is s.heap k b:=by
 obtain⟨j6,rv,⟨o,e,c,n,d⟩,_⟩:=I.tuple h
 exact⟨o,j6.toArray,n,e,c,d,by simpa using eU rv⟩
theorem zOj (hu:X.A.units+1 < cLine):OpR X (compareOp .In) (fun x y H Q=>∃a b j8 k,x = .ref b/\y = .ref a/\H a=some (.dT j8)/\SqT X.K H b (k.map kV)/\Q (.bl (lW j8 k).isSome) H):=by
 intro Z s σ H x y v u Q I rx ry ⟨a,b,j8,k,e1,e2,ha,hb,q⟩
 subst e1 e2
 cases rx
 cases ry
 obtain⟨z,hd,xs,rel,dd⟩:=aP I.hok ha
 refine wpAny_in_heap (Tu hu) (zY6 I hb) hd dd ?_
 have e:=(rel.val k).isSome_eq
 rw[Uy] at e
 rw[←e]
 exact⟨.bl _,H,I.tok _,rfl,q⟩
theorem zTC (hu:X.A.units+1 < cLine):OpR X (compareOp .NotIn) (fun x y H Q=>∃a b j8 k,x = .ref b/\y = .ref a/\H a=some (.dT j8)/\SqT X.K H b (k.map kV)/\Q (.bl (!(lW j8 k).isSome)) H):=by
 intro Z s σ H x y v u Q I rx ry ⟨a,b,j8,k,e1,e2,ha,hb,q⟩
 subst e1 e2
 cases rx
 cases ry
 obtain⟨z,hd,xs,rel,dd⟩:=aP I.hok ha
 refine wpAny_notIn_heap (Tu hu) (zY6 I hb) hd dd ?_
 have e:=(rel.val k).isSome_eq
 rw[Uy] at e
 rw[←e]
 exact⟨.bl _,H,I.tok _,rfl,q⟩
theorem zMp (hu:X.A.units+1 < cLine):IxR X (fun x y H Q=>∃a b j8 k v,x = .ref a/\y = .ref b/\H a=some (.dT j8)/\SqT X.K H b (k.map kV)/\lW j8 k=some v/\Q v H):=by
 intro value slice Z s σ H x y v u Q I rx ry ⟨a,b,j8,k,v',e1,e2,ha,hb,hv,q⟩ hs
 subst e1 e2
 cases rx
 cases ry
 obtain⟨z,hd,xs,rel,dd⟩:=aP I.hok ha
 obtain⟨w',hw,rw'⟩:=RelO.some_of (v:=v') (o:=(atKey xs k).map (·.2)) (by rw[←hv];exact rel.val k)
 obtain⟨p,hp,hp2⟩:=Qr.mp hw
 subst hp2
 exact tail_any dd.typeIs slot_dict_getitem.lookup (wpAny_getItem_heap (Tu hu) (zY6 I hb) dd hp ⟨v',H,I.tok _,rw',q⟩) hs
theorem zTk:CallR X (.builtin "len") (fun xs H Q=>∃a j8,xs=[.ref a]/\H a=some (.dT j8)/\Q (.int j8.length) H):=by
 intro Z s σ H xs us Q I r ⟨a,j8,e,ha,q⟩
 subst e
 obtain⟨u,rfl,ru⟩:=zZO r
 cases ru
 obtain⟨z,hd,xs,rel,dd⟩:=aP I.hok ha
 have hl:j8.length=xs.length:=Rw rel
 have hz:xs.length<=16777216:=by rw[←hl];rw[Ee] at z;lia
 refine call_len_slot (n:=(j8.length:Int)) dd.typeIs F.slot_dict_len (fun Q' q'=>Ra F.slot_dict_len dd.typeIs F.entry_dict_len ?_ (F.args_dict_len_1 _)) jc jc ⟨.int _,H,(I.tok _).tok _,⟨_,rfl⟩,q⟩
 obtain⟨o,es,ep,ho,hc,hdat,hk,hp,hn⟩:=dd
 show wpAny _ _ (dictSize a >>= _) _ _ s
 unfold dictSize
 refine Qe (Qe (Os ho hdat (Qh ?_)))
 show wpAny _ _ (Builtin.Dict.pendingCount a >>= _) _ _ s
 refine Qe (wpAny_pendingCount_other hd ?_)
 refine wpAny_ret_mkInt ?_
 have:es.size=j8.length:=by rw[Py hk,hl]
 rw[this]
 exact q'
theorem KTd.drop {xs:List (List Key×Addr×Value)}(r:KTd H j8 xs)(k:List Key):KTd H (gM j8 k) (xs.filter fun x=>decide (x.1≠k)):=by
 unfold gM
 induction r with
 | nil=>exact .nil
 | @cons p q ps qs h t ih =>
   obtain⟨h1,h2⟩:=h
   by_cases e:p.1=k
   · simpa [Ew,e,h1.symm.trans e] using ih
   · have e':¬q.1=k:=fun z=>e (h1.trans z)
     have:KTd H (p::ps.filter fun kv=>decide (kv.1≠k)) (q::qs.filter fun x=>decide (x.1≠k)):=.cons ⟨h1,h2⟩ ih
     simpa [Ew,e,e'] using this
theorem zYJ {α β:Type}(f:α->β):∀(l:List α) (i:Nat),(l.map f).eraseIdx i=(l.eraseIdx i).map f
 | [],_=>rfl
 | _::_,0=>rfl
 | a::l,i+1=>by rw[Qz,Yu,Yu,Qz,zYJ f l i]
theorem fN {α:Type}{k:List Key}:∀ {xs:List (List Key×α)} {j:Nat} {p:α},(xs.map (·.1)).Nodup->xs[j]?=some (k,p)->xs.eraseIdx j=xs.filter fun x=>decide (x.1≠k)
 | [],_,_,_,h=>by simp at h
 | x::r,0,p,nd,h=>by
   cases h
   simp only[Qz,Ru,Yg,not_exists,not_and] at nd
   rw[List.eraseIdx_cons_zero,Yi je]
   refine(Uq.mpr fun a ha=>?_).symm
   simpa using nd.1 a ha
 | x::r,j+1,p,nd,h=>by
   rw[Rm] at h
   simp only[Qz,Ru,Yg,not_exists,not_and] at nd
   have hx:x.1≠k:=fun e=>nd.1 _ (Um h) (by rw[e])
   rw[Yu,Yo (by simpa using hx),fN nd.2 h]
def zTO (K:jh):V->List V->Hp->VK->Prop:=fun x vs H Q=>∃a b j8 k v,x = .ref a/\vs=[.ref b]/\H a=some (.dT j8)/\SqT K H b (k.map kV)/\lW j8 k=some v/\Q v (upd H a (.dT (gM j8 k)))
theorem zQT (hu:X.A.units+1 < cLine):MtR X "dict.pop" (zTO X.K):=by
 intro Z s σ H x xs v us Q I rx r ⟨a,b,j8,k,v',e1,e2,ha,hb,hv,q⟩
 subst e1 e2
 cases rx
 obtain⟨u,rfl,ru⟩:=zZO r
 cases ru
 have hkey:=zY6 I hb
 obtain⟨z,hd,xs,rel,dd⟩:=aP I.hok ha
 have hT:=dd.typeIs
 obtain⟨o,es,ep,ho,hc,hdat,he,his,hn⟩:=dd
 have hl:j8.length=xs.length:=Rw rel
 have hes:es.size=xs.length:=Py he
 obtain⟨w',hw,rw'⟩:=RelO.some_of (v:=v') (o:=(atKey xs k).map (·.2)) (by rw[←hv];exact rel.val k)
 obtain⟨p0,hp0,hp2⟩:=Qr.mp hw
 refine Ra F.slot_dict_pop hT F.entry_dict_pop ?_ (F.args_dict_pop_2 _ _)
 unfold Builtin.«dict.pop»
 refine Qe ?_
 unfold Builtin.Dict.keyAndDefault
 refine Qe (wpAny_notOrdered_dict hT ?_)
 show wpAny _ _ (pure (a,Value.ref b,none)) _ _ s
 refine Qh ?_
 dsimp only
 have hne:es.isEmpty=false:=by
   cases xs with
   | nil=>simp[atKey] at hp0
   | cons y r=>simp[Array.isEmpty,hes]
 have hkp:(keyPart (Value.ref b)).isSome=false:=rfl
 simp only[hkp,Wf,Rv]
 refine Qe (Os ho hdat (Qe (Qh ?_)))
 rw[hne]
 simp only[Wf,Rv]
 refine Qe ?_
 unfold Builtin.Dict.takeOut
 refine Re ?_
 refine Qe ((tupleKind (y9 X.prog X.w)).pyHash (Tu hu) hkey ?_)
 refine Qe (wpAny_dictFind_heap (knd:=tupleKind (y9 X.prog X.w)) (s:={ s with toks:=s.toks+(tupleKind (y9 X.prog X.w)).draws k }) (Tu hu) hkey ho hdat he his hn (fun hno=>?_) fun j p hj=>?_)
 · exfalso
   rw[atKey_none_of_get hno] at hp0
   cases hp0
 · have he':es[j]?=some (entryOfKey (tupleKind (y9 X.prog X.w)) (k,p)):=by rw[entry_at he j,hj];rfl
   have hpp:p=p0:=by
     have:=atKey_of_get hn hj
     rw[hp0] at this
     exact(Wh this).symm
   subst hpp
   dsimp only
   refine Qe (Os (s:={ s with toks:=s.toks+(tupleKind (y9 X.prog X.w)).draws k }) ho hdat ?_)
   rw[he']
   refine Qe (wpAny_updateDictKeys (hz:=by rw[hes,←hl];exact z) (s:={ s with toks:=s.toks+(tupleKind (y9 X.prog X.w)).draws k }) ho hdat (Qh ?_))
   simp only[Option.isNone_some,Wf,Rv]
   refine Qe (Ui (Qh ⟨_,rfl,?_⟩))
   have er:p.2=w':=hp2
   have ok:ObjOk X.prog X.w (upd H a (.dT (gM j8 k))) (s.heap.update a (Obj.mapDictKeys fun x=>x.eraseIdxIfInBounds j)) a (.dT (gM j8 k)):=by
     refine⟨Wp (zR7 j8 k) z,hd,xs.filter fun x=>decide (x.1≠k),?_,_,_,ep+1,Ec _ ho (Obj.isFreed_of_dict (Iw hdat _)),hc.mapDictKeys _,Iw hdat _,?_,hn.sublist ((List.filter_sublist).map _)⟩
     · refine(rel.drop k).keeps fun c ys ec=>?_
       rw[zN (zPj ec ha (fun z=>nomatch z))]
       exact ec
     · rw[←fN hn hj,Op,he,zYJ]
   exact⟨v',_,zYD I (by rw[ha];exact True.intro) (Ih ..) ⟨_,Ec _ ho (Obj.isFreed_of_dict (Iw hdat _))⟩ ok,by rw[←hp2] at rw';exact rw',q⟩
end
end L2
namespace L2
open PySem PySem.W PySem.Spec PyProof.Rows
section
variable {X:Cx} {a b c e:Expr} {fa fb:Ef} {ga:Lf} {pos p:Pos} {k:Nat}
def zSQ (i:Nat):Sf:=fun ρ=>some (.nx (ρ.set i (.mu (.dct [] []))))
theorem zSE (i:Nat){x:Str}{pos':Pos}(hN:X.N.Nodup)(hi:X.N[i]?=some x:=by rfl)(hx:Loc X.env.scope x:=by first | exact .inl rfl | exact .inr rfl)(hs:swapsWith (.Dict [] [] p) (some (.Name x pos')) pos.line X.env=pure false:=by rfl)
   (hf:X.fn x=true∨X.env.scope.names.lookup x=some .local:=by first | exact .inl rfl | exact .inr rfl):PFS X (.Assign [.Name x pos'] (.Dict [] [] p) pos) (zSQ i):=by
 refine PS.to (eT hN hi hx zRs hs hf) ?_
 rintro D σ H ⟨G0,H0,G,ρ,o,j0,hf,k⟩
 cases hf
 intro q hq
 have s1:=Step.own (o:=.dT []) j0.st.sub hq
 exact k _ _ G s1.gg ((j0.step s1).setM i zL (j0.st.sub.free hq) (j0.st.hh.free hq) ⟨[],rfl,rfl,zM.mpr rfl⟩ (j0.fresh hq))
def zUr (f:Ef):Ef:=fun ρ=>(f ρ).bind fun d=>match d with | .dct ks _=>some (.int (ks.length:Int)) | _=>none
theorem zZH {K:jh}{G H:Hp}{ks:List (List Key)}{ds:List D}{v:V}(sub:Same G H)(r:Rep K G (.dct ks ds) v):∃q vs,v = .ref q/\H q=some (.dT (ks.zip vs))/\ks.length=ds.length/\Reps K G ds vs/\(ks.zip vs).length=ks.length:=by
 obtain⟨q,vs,rfl,h1,h2,h3⟩:=zYq.mp r
 exact⟨q,vs,rfl,sub _ _ h1,h2,h3,by rw[Ym,←h3.length,←h2];simp⟩
theorem zQQ (hg:Gl X "len")(hm:X.mg "len"=none)(h:PF X a fa)(hs:starEach [a] X.env=[(false,eval a X.env)]:=by rfl):PF X (.Call (.Name "len" p) [a] [] pos) (zUr fa):=by
 refine PE.to (tJ zTk hg hm Pd (yZ h wH (by rw[hs];rfl)) jb jb (by rw[hs];rfl) jg) ?_
 rintro σ H Q ⟨G0,H0,G,ρ,d,j0,hf,k⟩
 unfold zUr at hf
 obtain⟨x,h1,hf⟩:=Qq.mp hf
 split at hf
 · cases hf
   refine⟨G0,H0,G,ρ,_,j0,h1,fun v H1 G1 s1 r1=>?_⟩
   obtain⟨q,vs,rfl,e1,e2,e3,e4⟩:=zZH s1.sub r1
   exact⟨q,_,rfl,e1,k _ _ G1 s1 (zK.mpr (by rw[e4]))⟩
 · cases hf
def zY1 (y:Bool)(fk fd:Ef):Tf:=fun ρ=>(fk ρ).bind fun dk=>(fd ρ).bind fun d=>(zVu dk).bind fun k=>match d with | .dct ks ds=>some ((pU ks ds k).isSome==y) | _=>none
theorem zWN {y:Bool}{fk fd:Ef}{ρ:List B}{r:Bool}(h:zY1 y fk fd ρ=some r):∃dk k ks ds,fk ρ=some dk/\fd ρ=some (.dct ks ds)/\zVu dk=some k/\r=((pU ks ds k).isSome==y):=by
 unfold zY1 at h
 obtain⟨dk,h1,h⟩:=Qq.mp h
 obtain⟨d,h2,h⟩:=Qq.mp h
 obtain⟨k,h3,h⟩:=Qq.mp h
 split at h
 · cases h;exact⟨dk,k,_,_,h1,h2,h3,rfl⟩
 · cases h
theorem zOd (hr:Room k X.A)(ha:PF X a fa)(hb:PF X b fb)(hm:behindInMarks .In b=false:=by first | exact zYF _ | (with_unfolding_all rfl)):PFT X (.Compare a [.In] [b] pos) (zY1 true fa fb):=by
 have hu:=hr.un
 refine PT.to (zXK (zOj jc) ha hb hm) ?_
 rintro σ H Q ⟨G0,H0,G,ρ,c,j0,hf,kk⟩
 obtain⟨dk,k,ks,ds,h1,h2,h3,rfl⟩:=zWN hf
 refine⟨G0,H0,G,ρ,_,j0,h1,fun u H1 G1 s1 r1=>⟨G0,H0,G1,ρ,_,j0.step s1,h2,fun v H2 G2 s2 r2=>?_⟩⟩
 obtain⟨q,vs,rfl,e1,e2,e3,e4⟩:=zZH s2.sub r2
 obtain⟨b',rfl,e5⟩:=kR h3 (r1.mono s2.gg)
 refine⟨q,b',_,k,rfl,rfl,e1,s2.sub.tup e5,_,rfl,?_⟩
 rw[sD k e2 e3]
 have:=kk _ G2 (s1.trans s2)
 simpa using this
theorem zTn (hr:Room k X.A)(ha:PF X a fa)(hb:PF X b fb)(hm:behindInMarks .NotIn b=false:=by first | exact zYF _ | (with_unfolding_all rfl)):PFT X (.Compare a [.NotIn] [b] pos) (zY1 false fa fb):=by
 have hu:=hr.un
 refine PT.to (zXK (zTC jc) ha hb hm) ?_
 rintro σ H Q ⟨G0,H0,G,ρ,c,j0,hf,kk⟩
 obtain⟨dk,k,ks,ds,h1,h2,h3,rfl⟩:=zWN hf
 refine⟨G0,H0,G,ρ,_,j0,h1,fun u H1 G1 s1 r1=>⟨G0,H0,G1,ρ,_,j0.step s1,h2,fun v H2 G2 s2 r2=>?_⟩⟩
 obtain⟨q,vs,rfl,e1,e2,e3,e4⟩:=zZH s2.sub r2
 obtain⟨b',rfl,e5⟩:=kR h3 (r1.mono s2.gg)
 refine⟨q,b',_,k,rfl,rfl,e1,s2.sub.tup e5,_,rfl,?_⟩
 rw[sD k e2 e3]
 have:=kk _ G2 (s1.trans s2)
 simpa using this
def fS (fd fk:Ef):Ef:=fun ρ=>(fd ρ).bind fun d=>(fk ρ).bind fun dk=>(zVu dk).bind fun k=>match d with | .dct ks ds=>pU ks ds k | _=>none
theorem zTS (hr:Room k X.A)(ha:PF X a fa)(hb:PF X b fb)(hs:zX7 b:=by exact fun _ _=>rfl):PF X (.Subscript a b pos) (fS fa fb):=by
 have hu:=hr.un
 refine PE.to (zPm (zMp jc) ha hb hs) ?_
 rintro σ H Q ⟨G0,H0,G,ρ,c,j0,hf,kk⟩
 unfold fS at hf
 obtain⟨d,h1,hf⟩:=Qq.mp hf
 obtain⟨dk,h2,hf⟩:=Qq.mp hf
 obtain⟨k,h3,hf⟩:=Qq.mp hf
 cases d with
 | dct ks ds =>
   refine⟨G0,H0,G,ρ,_,j0,h1,fun u H1 G1 s1 r1=>⟨G0,H0,G1,ρ,_,j0.step s1,h2,fun v H2 G2 s2 r2=>?_⟩⟩
   obtain⟨q,vs,rfl,e1,e2,e3,e4⟩:=zZH s2.sub (r1.mono s2.gg)
   obtain⟨b',rfl,e5⟩:=kR h3 r2
   have hv:=bW k e2 e3
   have hf:pU ks ds k=some c:=hf
   rw[hf] at hv
   cases hw:lW (ks.zip vs) k with
   | none=>rw[hw] at hv;exact hv.elim
   | some w=>rw[hw] at hv;exact⟨q,b',_,k,w,rfl,rfl,e1,s2.sub.tup e5,hw,kk _ _ G2 (s1.trans s2) hv⟩
 | _=>cases hf
def zMS:V->V->V->Hp->(Hp->Prop)->Prop:=fun o i v H Q=>∃a b j8 k,o = .ref a/\i = .ref b/\H a=some (.dT j8)/\H b=some (.tup (k.map kV))/\j8.length < sizeLine/\Q (upd H a (.dT (fW j8 k v)))
theorem zNz (hu:X.A.units+1 < cLine):zMK X zMS:=by
 intro Z s σ H o i v ov iv u Q I ro ri rv ⟨a,b,j8,k,e1,e2,h1,h2,h3,q⟩
 subst e1 e2
 cases ro
 exact zTA hu I (DPut.t h1 h2 h3) ri rv fun s' I'=>⟨_,I',q⟩
def zR1 (i:Nat)(ga:Lf)(fv:Ef):Sf:=fun ρ=>(fv ρ).bind fun e=>((ga ρ).bind okL).bind fun dk=>(zVW dk).bind fun k=>match ρ[i]? with
 | some (.mu (.dct ks ds))=>if ks.length<=lim/\xJ i 2 ρ=true/\(pU ks ds k).isSome=false then some (.nx (ρ.set i (.mu (.dct (ks++[k]) (ds++[e]))))) else none
 | _=>none
theorem zUy (hr:Room k X.A):MtR X "dict.pop" (zTO X.K):=zQT (by have:=hr.un;lia)
def lS (i:Nat)(fk:Ef):Sf:=fun ρ=>(fk ρ).bind fun dk=>(zVu dk).bind fun k=>match ρ[i]? with
 | some (.mu (.dct ks ds))=>if xJ i 2 ρ=true/\(pU ks ds k).isSome=true then some (.nx (ρ.set i (.mu (.dct (ks.filter fun q=>decide (q≠k)) (dL ks ds k))))) else none
 | _=>none
end
end L2
namespace L2
open PySem PySem.Spec PyProof.Rows
def tFK (K:jh)(i:Nat)(f:Sf):TS:=fun D σ H=>∃G0 H0 G ρ ρ1,Good K G0 H0 G H σ ρ/\f ρ=some (.nx ρ1)/\∀σ' H' G',Same G G'->Good K G0 H0 G' H' σ' ρ1->σ'[i]?=σ[i]?->D.nx σ' H'
def PFK (X:Cx)(i:Nat)(st:Stmt)(f:Sf):Prop:=PS X st (tFK X.K i f)
def zUT (X:Cx)(i:Nat)(st:List Stmt)(f:Sf):Prop:=PSs X st (tFK X.K i f)
theorem PSK.to {X:Cx}{st:Stmt}{t:TS}{i:Nat}{f:Sf}(h:PS X st t)(imp:∀D σ H,tFK X.K i f D σ H->t D σ H):PFK X i st f:=fun Z s σ H D I q=>h Z s σ H D I (imp D σ H q)
theorem PSsK.to {X:Cx}{st:List Stmt}{t:TS}{i:Nat}{f:Sf}(h:PSs X st t)(imp:∀D σ H,tFK X.K i f D σ H->t D σ H):zUT X i st f:=fun Z s σ H D I q=>h Z s σ H D I (imp D σ H q)
section
variable {X:Cx} {c:Expr} {st:Stmt} {rest sa sb:List Stmt} {ta:Tf} {f g:Sf} {pos:Pos} {i:Nat}
theorem kG (h:PFK X i st f):zUT X i [st] f:=cA h
theorem zRf (h1:PFK X i st f)(h2:zUT X i rest g):zUT X i (st::rest) (zG f g):=by
 refine PSsK.to (qE h1 h2) ?_
 rintro D σ H ⟨G0,H0,G,ρ,ρ1,j0,hf,k⟩
 unfold zG at hf
 obtain⟨o1,h1,hf⟩:=Qq.mp hf
 cases o1 with
 | nx ρ'=>exact⟨G0,H0,G,ρ,ρ',j0,h1,fun σ' H' G' s g' e=>⟨G0,H0,G',ρ',ρ1,g',hf,fun σ2 H2 G2 s2 g2 e2=>k σ2 H2 G2 (s.trans s2) g2 (e2.trans e)⟩⟩
 | rt d=>cases hf
 | rl d=>cases hf
 | bk d=>cases hf
 | ct d=>cases hf
theorem zPx (ht:PFT X c ta)(ha:zUT X i sa f)(hb:zUT X i sb g):PFK X i (.If c sa sb pos) (sIf ta f g):=by
 refine PSK.to (zZ2 ht ha hb) ?_
 rintro D σ H ⟨G0,H0,G,ρ,ρ1,j0,hf,k⟩
 unfold sIf at hf
 obtain⟨c',h1,hf⟩:=Qq.mp hf
 refine⟨G0,H0,G,ρ,_,j0,h1,fun H1 G1 s1=>?_⟩
 split at hf
 · rename_i h;rw[Qu h];exact⟨G0,H0,G1,ρ,ρ1,j0.step s1,hf,fun σ' H' G' s g e=>k σ' H' G' (s1.gg.trans s) g e⟩
 · rename_i h;rw[Qs h];exact⟨G0,H0,G1,ρ,ρ1,j0.step s1,hf,fun σ' H' G' s g e=>k σ' H' G' (s1.gg.trans s) g e⟩
variable {e o:Expr} {es:List Expr} {fa:Ef} {ga:Lf} {p apos cpos p1 p2:Pos} {k:Nat}
theorem zWg (i:Nat){pl:Sem Bool}{x c m:Str}{k n:Nat}{C fad:Addr}{fd:FuncData}{ps:List Str}{f:List Str->List D->List D->Option (List D)}{p1:Pos}(hC:ClsAt X.K c C)(hcl:Cls X.K C)(hm:Meth X.K C m fad)(F:∀ns,FnOk X.prog X.w X.K X.mg X.base CX0 k fad fd ps (spM X.K c ns n (f ns)))(hr:Room k X.A)(hb:Binds X.K fd ps [])
   (ha:PFA X (e::es) ga) (hN:X.N[i]?=some x:=by rfl) (hv:Vis X.env.scope x:=by first | exact Or.inl rfl | exact Or.inr (Or.inl rfl) | exact Or.inr (Or.inr rfl)) (hd:(x==("__debug__":Str))=false:=by decide) (hcd:(x==("__classdict__":Str))=false:=by decide)
   (hst:starEach (e::es) X.env=(false,eval e X.env)::starEach es X.env:=by rfl) (hpl:(backTo cpos (starEach es X.env)).any (·.1)=false:=by rfl)
   (ht:eval (.Call (.Attribute (.Name x p1) m apos) (e::es) [] cpos) X.env=(do
     let ov ←eval (.Name x p1) X.env
     standAt apos.atName
     let (f,first) ←holding [ov] (getMethod ov m pl)
     callWith cpos f first (backTo cpos (starEach (e::es) X.env)) (backToKw cpos (keywordEach [] X.env))):=by rfl)
   (hs:swapsWith (.Call (.Attribute (.Name x p1) m apos) (e::es) [] cpos) none pos.line X.env=pure false:=by rfl) :
   PFK X i (.Expr (.Call (.Attribute (.Name x p1) m apos) (e::es) [] cpos) pos) (tU i c m n f ga):=by
 rintro Z s σ H D I ⟨G0,H0,G,ρ,ρ1,j0,hf,kk⟩
 unfold tU at hf
 obtain⟨ds,h1,hf⟩:=Qq.mp hf
 split at hf
 · rename_i c' ns xs hi
   split at hf
   · rename_i hq
     obtain⟨rfl,hl,hmn,hon⟩:=hq
     obtain⟨ys,h2,hf⟩:=Qr.mp hf
     cases hf
     obtain⟨q,ob,e1,e2,e3,e4,e5⟩:=j0.mu hi
     have e5':=e5
     obtain⟨C',dx,vs,r1,r2,r3,r4⟩:=e5'
     have ec:=hC.one r1
     subst ec
     refine pM (zYj (pl:=pl) (E:=E0) (sW hN hv hd hcd) hcl hm (F ns) hr hb .nil jJ ha hst hpl ht) hs Z s σ H D I ?_
     refine⟨.ref q,e1,q,dx,_,rfl,by rw[e2,r2],xA hmn,G0,H0,G,ρ,ds,j0,h1,fun us H1 G1 s1 rs=>?_⟩
     show spM X.K c' ns n (f ns) (.ref q::(us++[])) H1 _ E0
     rw[Wn]
     have g1:=j0.step s1
     refine⟨q,ob,us,G1,xs,ds,ys,rfl,s1.hh _ _ e2,(s1.new q _ e2 e5.nt).trans e3,e5.mono s1.gg,s1.sub,rs,hl,h2,fun H' G' o' st q1 q2 q3=>?_⟩
     exact kk σ H' G' (s1.gg.trans st.gg) (g1.ioM hi hon e1 st q1 q2 q3) rfl
   · cases hf
 · cases hf
theorem zPO (i:Nat)(ht:PE X c (tBM X.K "dict" (zTO X.K) (zTp i) (aT (tF X.K fa) zVt)))(hs:swapsWith c none pos.line X.env=pure false:=by rfl):PFK X i (.Expr c pos) (lS i fa):=by
 refine PSK.to (pM ht hs) ?_
 rintro D σ H ⟨G0,H0,G,ρ,o,j0,hf,kk⟩
 unfold lS at hf
 obtain⟨dk,g2,hf⟩:=Qq.mp hf
 obtain⟨k,g3,hf⟩:=Qq.mp hf
 split at hf
 · rename_i ks ds hi
   split at hf
   · rename_i hc
     obtain⟨ho,hn⟩:=hc
     cases hf
     obtain⟨q,oq,e1,e2,e3,e4,e5⟩:=j0.mu hi
     obtain⟨vs0,rfl,_,_⟩:=e5
     refine⟨.ref q,e1,.inr (.inr (.inl ⟨rfl,.inr ⟨_,e2⟩⟩)),G0,H0,G,ρ,_,j0,g2,fun u H1 G1 s1 r1=>?_⟩
     obtain⟨q',oq',f1,f2,f3,f4,f5⟩:=(j0.step s1).mu hi
     rw[e1] at f1;cases f1
     obtain⟨vs,rfl,l1,l2⟩:=f5
     obtain⟨b',rfl,e5⟩:=kR g3 r1
     have hv:=sD k l1 l2
     rw[hn] at hv
     obtain⟨w,hw⟩:=Eb.mp hv
     obtain⟨us,a1,a2,a3⟩:=eG k l1 l2
     refine⟨q,b',_,k,w,rfl,rfl,f2,s1.sub.tup e5,hw,?_⟩
     rw[a1]
     exact kk _ _ G1 s1.gg ((j0.step s1).wrM hi ho e1 ⟨us,rfl,a2,a3⟩) rfl
   · cases hf
 · cases hf
theorem zQk (i:Nat){x:Str}{kk':Nat}(hr:Room k X.A)(he:PF X e fa)(hb:PFA X es ga)(hN:X.N[i]?=some x:=by rfl)(hv:Vis X.env.scope x:=by first | exact Or.inl rfl | exact Or.inr (Or.inl rfl) | exact Or.inr (Or.inr rfl))(hd:(x==("__debug__":Str))=false:=by decide)(hcd:(x==("__classdict__":Str))=false:=by decide)
   (ha:∀v,assign (.Subscript (.Name x p1) (.Tuple es kk' p) p2) X.env v=(do
     let ov ←holding [v] (eval (.Name x p1) X.env)
     let iv ←holding [v,ov] (eval (.Tuple es kk' p) X.env)
     standAt p2
     holding [v,ov,iv] (setItem ov iv v)
     release [v,ov,iv] []):=by intro _;rfl)
   (hs:swapsWithSole [.Subscript (.Name x p1) (.Tuple es kk' p) p2] e pos.line X.env=pure false:=by rfl) (hw:swappedStores [.Subscript (.Name x p1) (.Tuple es kk' p) p2] e X.env=pure none:=by rfl)
   (h1:(assignEach [.Subscript (.Name x p1) (.Tuple es kk' p) p2] X.env).map (·.2)=[assign (.Subscript (.Name x p1) (.Tuple es kk' p) p2) X.env]:=by rfl):PFK X i (.Assign [.Subscript (.Name x p1) (.Tuple es kk' p) p2] e pos) (zR1 i ga fa):=by
 have hu:=hr.un
 refine PSK.to (zYv he (zOL (sW hN hv hd hcd) (zQW hb) (zNz jc) ha) hs hw h1) ?_
 rintro D σ H ⟨G0,H0,G,ρ,o,j0,hf,kk⟩
 unfold zR1 at hf
 obtain⟨de,g1,hf⟩:=Qq.mp hf
 obtain⟨dk,g2,hf⟩:=Qq.mp hf
 obtain⟨dk',g2,g4⟩:=Qq.mp g2
 obtain⟨rfl,g4⟩:=kD g4
 obtain⟨k,g3,hf⟩:=Qq.mp hf
 split at hf
 · rename_i ks ds hi
   split at hf
   · rename_i hc
     obtain⟨hl,ho,hn⟩:=hc
     cases hf
     refine⟨G0,H0,G,ρ,_,j0,g1,fun v H1 G1 s1 r1=>?_⟩
     obtain⟨q,oq,e1,e2,e3,e4,e5⟩:=(j0.step s1).mu hi
     refine⟨.ref q,e1,G0,H0,G1,ρ,_,j0.step s1,g2,fun us H2 G2 s2 r2=>⟨?_,fun b' hb'=>?_⟩⟩
     · rw[←r2.length];exact Wb (wE g4)
     · have eu:=eJ g3 r2
       subst eu
       have s3:=Step.own (o:=.tup (k.map kV)) s2.sub hb'
       have gd:=(j0.step s1).step (s2.trans s3)
       obtain⟨q',oq',f1,f2,f3,f4,f5⟩:=gd.mu hi
       rw[e1] at f1;cases f1
       obtain⟨vs,rfl,l1,l2⟩:=f5
       have hnk:lW (ks.zip vs) k=none:=by
         have:=sD k l1 l2
         rw[hn] at this
         simpa using this
       refine⟨q,b',_,k,rfl,rfl,f2,zL,?_,?_⟩
       · rw[Ym,←l2.length,←l1,Nat.min_self];exact wE hl
       · rw[zSf v hnk]
         have ez:ks.zip vs++[(k,v)]=(ks++[k]).zip (vs++[v]):=by rw[List.zip_append (by rw[l1,l2.length])];rfl
         rw[ez]
         refine kk _ _ G2 (s1.gg.trans s2.gg) (gd.wrM hi ho e1 ⟨vs++[v],rfl,by simp[l1],?_⟩) rfl
         exact l2.append (zR.mpr ⟨v,[],rfl,r1.mono s2.gg,zM.mpr rfl⟩)
   · cases hf
 · cases hf
end
def zQY (K:jh)(n:Nat)(f:D->List D->Option D):Sp:=fun vs H Q _=>∃(a:Addr) (o:HO) (rest:List V) (G:Hp) (x:D) (ds:List D) (y:D),vs = .ref a::rest/\H a=some o/\G a=none/\RepO K G o x/\Same G H/\Reps K G ds rest/\ds.length=n/\f x ds=some y /\
 ∀H' G' o',Step G (sH H a) G' H'->H' a=some o'->G' a=none->RepO K G' o' y->Q .non H'
def zXE (N:Nat)(x:D)(ds:List D):List B:=.mu x::(ds.map .fz++List.replicate (N - (ds.length+1)) .no)
def iK:Option Out->Option D | some (.nx (.mu y::_))=>some y | _=>none
theorem zVz {o:Option Out}{y:D}(h:iK o=some y):∃ρ,o=some (.nx ρ)/\ρ[0]?=some (.mu y):=by
 unfold iK at h
 split at h
 · cases h;exact⟨_,rfl,rfl⟩
 · cases h
def zND (N:Nat)(f:Sf):D->List D->Option D:=fun x ds=>iK (f (zXE N x ds))
section
variable {P:Program} {w:World} {K:jh} {mg:Str->Option Value} {base:Heap} {x qual:Str} {st:Stmt} {fad:Addr} {fd:FuncData} {N ps:List Str} {k:Nat} {sf:Str} {f:Sf}
theorem zUl (F:Fun K x qual st fad fd)(S:FnScope N (sf::ps) (zW st))
   (hb:∀(j9:Value) (A:Around) (outer:List Env) (s:Shared) (H:Hp) (E:XK),Room k (A.deeper (envOfC qual (zW st) s.heap.objs.size fad j9))->zUT (rL CX0 P w K mg base N qual (zW st) fad j9 A outer s H E).nox 0 (yQ st) f) :
   FnOk P w K mg base CX0 (k+1) fad fd (sf::ps) (zQY K ps.length (zND N.length f)):=by
 refine F.ok S (fun vs H Q E h=>?_) (fun j9 A outer s H vs Q E hr h=>?_)
 · obtain⟨a,o,rest,G,xs,ds,ys,rfl,_,_,_,_,rr,hl,_⟩:=h
   rw[Qo,Qo,←rr.length,hl]
 · refine⟨_,hb j9 A outer s H E hr,?_⟩
   obtain⟨a,o,rest,G,x,ds,y,rfl,h1,h2,h3,sub,rr,hl,hf,kk⟩:=h
   have j0:Good K G (sH H a) G H (xE N (.ref a::rest)) (zXE N.length x ds):=by
     refine⟨⟨fun b u q=>?_,Same.refl _,sub,fun _ _ _ _=>rfl⟩,?_,fun i j a b c q1 q2 o1 o2 _ _=>(mZ _ _ ds q1 o1).trans (mZ _ _ ds q2 o2).symm⟩
     · by_cases hb:b=a
       · rw[hb,xN] at q;cases q
       · rwa[xW hb] at q
     · unfold xE zXE
       rw[Qz,Qo,Tq,←rr.length]
       exact .cons (.mu h1 h2 xN h3) (qV _ rr)
   obtain⟨ρ1,e1,e2⟩:=zVz hf
   refine⟨G,sH H a,G,_,ρ1,j0,e1,fun σ' H' G' s' g' e=>?_⟩
   obtain⟨a',o',q1,q2,q3,q4,q5⟩:=g'.mu e2
   have e3:(xE N (.ref a::rest))[0]?=some (some (.ref a)):=rfl
   rw[e,e3] at q1
   cases q1
   exact kk H' G' o' g'.st q2 q3 q5
end
structure FlyV (h:Heap)(H:Hp)(h0:Heap)(C a:Addr)(od:Option Addr):Prop where
 ob:∃vs v,h.get? a=some { cls:=.ref C,dict:=od,data:=.fields vs,slots:=#[] }/\vs[1]?=some v/\zYx h a v/\∀T,v = .ref T->H T=none/\h0.get? T=none
 tr:H a=some (.ext (Xe C a od))
 new:h0.get? a=none
theorem zSV {X:Cx}{st:Stmt}{rest:List Stmt}{B f g:Sf}(e:B=zG f g)(h1:PFS X st f)(h2:PFSs X rest g):PFSs X (st::rest) B:=by
 subst e
 exact sV h1 h2
theorem zT {X:Cx}{st:Stmt}{rest:List Stmt}(B:Sf){f g:Sf}(e:B=zG f g)(h1:PFS X st f)(h2:PFSs X rest g):PFSs X (st::rest) B:=zSV e h1 h2
structure FnT (K:jh)(mg:Str->Option Value)(x:Str)(st:Stmt)(ps:List Str) where
 f:Addr
 fd:FuncData
 F:Fun K x x st f fd
 b:Binds K fd ps []
 m:mg x=some (.ref f)
def sZ (K:jh)(x:Str)(st:Stmt):Prop:=∃(f:Addr) (od an:Option Addr) (sl:Array (Option Value)) (oc kV dc pm cd ct:Value),PySem.W.nsIn K mainGlobals x=some (some (.ref f))/\K.lookup f=some ⟨oc,od,.func (PySem.W.fnOf x x (vY st) (yQ st) (zW st) .none kV dc pm an cd ct),sl⟩/\PySem.W.codeIn K cd x=true/\PySem.W.keepIn K (.ref f)=true
abbrev fnQ (x:Str)(st:Stmt)(kV dc pm:Value)(an:Option Addr)(cd ct:Value):FuncData:=PySem.W.fnOf x x (vY st) (yQ st) (zW st) .none kV dc pm an cd ct
def Bd (x:Str)(st:Stmt)(ps:List Str):Prop:=∀(kV doc pm:Value) (an:Option Addr) (j9 ct:Value) (us:jm),us.length=ps.length->bindArgs (fnQ x st kV doc pm an j9 ct) ⟨us,[]⟩=pure (ps.zip us)
section
variable {x a b c:Str} {st:Stmt}
theorem bd1 (h:∀kV dc pm an cd ct u,bindArgs (fnQ x st kV dc pm an cd ct) ⟨[u],[]⟩=pure [(a,u)]):Bd x st [a]:=fun _ _ _ _ _ _ us hl=>match us,hl with | [_],_=>h _ _ _ _ _ _ _
theorem bd2 (h:∀kV dc pm an cd ct u v,bindArgs (fnQ x st kV dc pm an cd ct) ⟨[u,v],[]⟩=pure [(a,u),(b,v)]):Bd x st [a,b]:=fun _ _ _ _ _ _ us hl=>match us,hl with | [_,_],_=>h _ _ _ _ _ _ _ _
theorem bd3 (h:∀kV dc pm an cd ct u v z,bindArgs (fnQ x st kV dc pm an cd ct) ⟨[u,v,z],[]⟩=pure [(a,u),(b,v),(c,z)]):Bd x st [a,b,c]:=fun _ _ _ _ _ _ us hl=>match us,hl with | [_,_,_],_=>h _ _ _ _ _ _ _ _ _
variable {K:jh} {h:Heap} {mg:Str->Option Value} {ps:List Str}
def sE (X:K.In h)(G:h.Ns mainGlobals mg)(g:sZ K x st)(hb:Bd x st ps):FnT K mg x st ps:=Classical.choice (by
 obtain⟨f,od,an,sl,oc,kV,dc,pm,cd,ct,a,l,c,k⟩:=g
 exact⟨⟨f,_,lU l c k,(lU l c k).binds hb,PySem.W.mg_of X G a⟩⟩)
theorem zOg {P:Program}{w:World}{k:Nat}{sp:Sp}{p:Str}{fa:Addr}(t:FnT K mg x st [p])(hb:Bd x st [p])(hfa:mg x=some (.ref fa))(ok:∀base:Heap,FnOk P w K mg base CX0 k t.f t.fd [p] sp) :
   ∃fd:FuncData,(∀(s:Shared) (v:Value),BindsTo s fd ⟨[v],[]⟩ [(p,v)])/\∀base:Heap,K.In base->base.Ns mainGlobals mg->FnOk P w K mg base CX0 k fa fd [p] sp:=by
 have e:=hfa.symm.trans t.m
 cases e
 refine⟨t.fd,fun s v=>?_,fun base _ _=>ok base⟩
 obtain⟨oc,od,kV,doc,pm,an,j9,ct,osl,e,lk,hcd⟩:=t.F.ex
 rw[e]
 exact .of_eq (hb kV doc pm an j9 ct [v] rfl)
end
abbrev OkT (P:Program)(w:World)(base:Heap){K:jh}{mg:Str->Option Value}{x:Str}{st:Stmt}{ps:List Str}(t:FnT K mg x st ps)(k n:Nat)(d:jy):Prop:=FnOk P w K mg base CX0 k t.f t.fd ps (spF K n d)
abbrev zMk (P:Program)(w:World)(base:Heap){K:jh}{mg:Str->Option Value}{x:Str}{st:Stmt}{ps:List Str}(t:FnT K mg x st ps)(k n:Nat)(d:List D->Option (List D)):Prop:=FnOk P w K mg base CX0 k t.f t.fd ps (spL K n d)
section
variable {X:Cx} {e:Expr} {es:List Expr} {ga:Lf} {pos p:Pos} {x:Str} {st:Stmt} {ps:List Str}
theorem yC {j k n:Nat}{t:FnT X.K X.mg x st ps}{fD:jy}(F:FnOk X.prog X.w X.K X.mg X.base CX0 j t.f t.fd ps (spF X.K n fD))(hr:Room k X.A)(ha:PFA X (e::es) ga)(hj:j<=k:=by lia)(hg:Gl X x:=by rfl)(hdb:(x==("__debug__":Str))=false:=by decide)(he:starEach (e::es) X.env=(false,eval e X.env)::starEach es X.env:=by rfl)(hpl:(backTo pos (starEach es X.env)).any (·.1)=false:=by rfl) :
   PF X (.Call (.Name x p) (e::es) [] pos) (zI n fD ga):=zP5 F (hr.mono hj) t.m t.F.kp t.b hg ha hdb he hpl
theorem zNq {j k n:Nat}{t:FnT X.K X.mg x st ps}{fD:List D->Option (List D)}(F:FnOk X.prog X.w X.K X.mg X.base CX0 j t.f t.fd ps (spL X.K n fD))(hr:Room k X.A)(ha:PFA X (e::es) ga)(hj:j<=k:=by lia)(hg:Gl X x:=by rfl)(hdb:(x==("__debug__":Str))=false:=by decide)(he:starEach (e::es) X.env=(false,eval e X.env)::starEach es X.env:=by rfl)(hpl:(backTo pos (starEach es X.env)).any (·.1)=false:=by rfl) :
   PFr X (.Call (.Name x p) (e::es) [] pos) (cW n fD ga):=zP1 F (hr.mono hj) t.m t.F.kp t.b hg ha hdb he hpl
end
theorem xP {N P:List Str}{sc:Scope}(h:(sc.kind == .function && !sc.isCoroutine && !sc.isGenerator&&decide (N.take P.length=P)&&decide N.Nodup&&decide (∀x∈P,sc.names.lookup x=some .local∨sc.names.lookup x=some .cell)&&decide (∀y∈sc.names,y.2 ≠ .free))=true):FnScope N P sc:=by
 simp only[Wg,Ed,Ou] at h
 obtain⟨⟨⟨⟨⟨⟨h1,h2⟩,h3⟩,h4⟩,h5⟩,h6⟩,h7⟩:=h
 refine⟨?_,h2,h3,h5,h4,h6,h7⟩
 generalize sc.kind=k at h1
 cases k<;>first | rfl | cases h1
section
variable {X:Cx} {es:List Expr} {ga:Lf} {pos p p1 cpos:Pos} {x y:Str} {st:Stmt} {ps:List Str}
def rG (i n:Nat)(f:D->List D->Option D)(g:Lf):Sf:=fun ρ=>(g ρ).bind fun ds=>match ρ[i]? with
 | some (.mu x)=>if ds.length=n/\xJ i (vT x) ρ=true then(f x ds).map fun y=>.nx (ρ.set i (.mu y)) else none
 | _=>none
theorem zZf (i:Nat){j k n:Nat}{t:FnT X.K X.mg y st ps}{f:D->List D->Option D}(F:FnOk X.prog X.w X.K X.mg X.base CX0 j t.f t.fd ps (zQY X.K n f))(hr:Room k X.A)(ha:PFA X es ga)(hj:j<=k:=by lia)(hg:Gl X y:=by rfl)
   (hN:X.N[i]?=some x:=by rfl) (hv:Vis X.env.scope x:=by first | exact Or.inl rfl | exact Or.inr (Or.inl rfl) | exact Or.inr (Or.inr rfl)) (hd:(x==("__debug__":Str))=false:=by decide) (hcd:(x==("__classdict__":Str))=false:=by decide) (hdb:(y==("__debug__":Str))=false:=by decide)
   (hst:starEach (.Name x p1::es) X.env=(false,eval (.Name x p1) X.env)::starEach es X.env:=by rfl) (hpl:(backTo cpos (starEach es X.env)).any (·.1)=false:=by rfl)
   (hs:swapsWith (.Call (.Name y p) (.Name x p1::es) [] cpos) none pos.line X.env=pure false:=by rfl) :
   PFS X (.Expr (.Call (.Name y p) (.Name x p1::es) [] cpos) pos) (rG i n f ga):=by
 refine PS.to (pM (cC (E:=E0) F (hr.mono hj) hg t.m t.F.kp t.b .nil jJ (yZ (sW hN hv hd hcd) ha hst) hdb hst hpl) hs) ?_
 rintro D σ H ⟨G0,H0,G,ρ,o,j0,hf,kk⟩
 unfold rG at hf
 obtain⟨ds,h1,hf⟩:=Qq.mp hf
 split at hf
 · rename_i x hi
   split at hf
   · rename_i hq
     obtain⟨hl,hon⟩:=hq
     obtain⟨y,h2,rfl⟩:=Qr.mp hf
     obtain⟨q,ob,e1,e2,e3,e4,e5⟩:=j0.mu hi
     refine⟨.ref q,e1,G0,H0,G,ρ,ds,j0,h1,fun us H1 G1 s1 rs=>?_⟩
     show zQY X.K n f ((.ref q::us)++[]) H1 _ E0
     rw[Wn]
     have g1:=j0.step s1
     exact⟨q,ob,us,G1,x,ds,y,rfl,s1.hh _ _ e2,(s1.new q _ e2 e5.nt).trans e3,e5.mono s1.gg,s1.sub,rs,hl,h2,fun H' G' o' st q1 q2 q3=>kk σ H' G' (s1.gg.trans st.gg) (g1.ioM hi hon e1 st q1 q2 q3)⟩
   · cases hf
 · cases hf
variable {e:Expr} {fa:Ef} {pt p2 p3:Pos} {z:Str} {kt:Nat}
theorem zPM (i j1 j2 j3:Nat)(hc:X.calm=true)(hN:X.N.Nodup)(he:PF X e fa)(n1:j1≠i:=by decide)(n2:j2≠i:=by decide)(n3:j3≠i:=by decide)
   (h1:X.N[j1]?=some x:=by rfl) (h2:X.N[j2]?=some y:=by rfl) (h3:X.N[j3]?=some z:=by rfl)
   (l1:Loc X.env.scope x:=by first | exact .inl rfl | exact .inr rfl) (l2:Loc X.env.scope y:=by first | exact .inl rfl | exact .inr rfl) (l3:Loc X.env.scope z:=by first | exact .inl rfl | exact .inr rfl)
   (f1:X.fn x=true∨X.env.scope.names.lookup x=some .local:=by first | exact .inl rfl | exact .inr rfl) (f2:X.fn y=true∨X.env.scope.names.lookup y=some .local:=by first | exact .inl rfl | exact .inr rfl) (f3:X.fn z=true∨X.env.scope.names.lookup z=some .local:=by first | exact .inl rfl | exact .inr rfl)
   (hs:swapsWithSole [.Tuple [.Name x p1,.Name y p2,.Name z p3] kt pt] e pos.line X.env=pure false:=by rfl) (hw:swappedStores [.Tuple [.Name x p1,.Name y p2,.Name z p3] kt pt] e X.env=pure none:=by rfl) :
   PFK X i (.Assign [.Tuple [.Name x p1,.Name y p2,.Name z p3] kt pt] e pos) (gH fa (gT (zF (gN j1) (zF (gN j2) (zF (gN j3) vZ))))):=by
 refine PSK.to (zYv he (zVK (n:=3) hc (qQ (nN hN h1 l1 f1) (qQ (nN hN h2 l2 f2) (qQ (nN hN h3 l3 f3) zX4 jg) jg) jg) jg jg) hs hw jg) ?_
 rintro D σ H ⟨G0,H0,G,ρ,ρ1,j0,hf,k⟩
 unfold gH at hf
 obtain⟨d,g1,hf⟩:=Qq.mp hf
 obtain⟨ρ',g2,hf⟩:=Qr.mp hf
 cases hf
 refine⟨G0,H0,G,ρ,d,j0,g1,fun v H1 G1 s1 r1=>?_⟩
 unfold gT at g2
 split at g2
 · rename_i ds
   match ds,g2,r1 with
   | [da,db,dc],g2,r1 =>
     cases g2
     obtain⟨p,vs,rfl,e1,e2⟩:=yR.mp r1
     obtain⟨va,r2,rfl,q1,e2⟩:=zR.mp e2
     obtain⟨vb,r3,rfl,q2,e2⟩:=zR.mp e2
     obtain⟨vc,r4,rfl,q3,e2⟩:=zR.mp e2
     rw[zM] at e2
     subst e2
     refine⟨p,_,rfl,s1.sub.tup e1,rfl,va,_,rfl,vb,_,rfl,vc,_,rfl,rfl,?_⟩
     exact k _ H1 G1 s1.gg ((((j0.step s1).setF j1 q1).setF j2 q2).setF j3 q3) (by rw[Ql n3,Ql n2,Ql n1])
 · cases g2
end
end L2
namespace L2
open PySem PySem.W PySem.Spec PyProof.Rows
def yF (a b:Int×Str):Bool:=decide (a.1 < b.1)||(a.1==b.1&&decide (a.2.cps.toList < b.2.cps.toList))
theorem lB {a b:Int×Str}:yF a b=true↔a.1 < b.1∨(a.1=b.1/\a.2.cps.toList < b.2.cps.toList):=by
 unfold yF
 simp[Ts,Wg]
theorem zMM (a:List Nat):¬a < a:=List.lt_irrefl a
theorem zN0 {a b c:List Nat}(h1:a < b)(h2:b < c):a < c:=List.lt_trans h1 h2
theorem zNV {a b c:List Nat}(h:a < c):a < b∨b < c:=by
 rcases Classical.em (a < b) with q | q
 · exact .inl q
 · exact .inr (List.lt_of_le_of_lt (List.not_lt.mp q) h)
theorem zN8 {a b:List Nat}(h1:¬a < b)(h2:¬b < a):a=b:=List.le_antisymm (List.not_lt.mp h2) (List.not_lt.mp h1)
theorem wQ (a:Int×Str):yF a a=false:=by
 cases h:yF a a
 · rfl
 · rw[lB] at h
   rcases h with h | h
   · lia
   · exact absurd h.2 (zMM _)
theorem zX5 {a b c:Int×Str}(h1:yF a b=true)(h2:yF b c=true):yF a c=true:=by
 rw[lB] at *
 rcases h1 with h1 | h1<;>rcases h2 with h2 | h2
 · exact .inl jc
 · exact .inl jc
 · exact .inl jc
 · exact .inr ⟨jc,zN0 h1.2 h2.2⟩
theorem zWF {a b c:Int×Str}(h:yF a c=true):yF a b=true∨yF b c=true:=by
 simp only[lB] at *
 rcases Int.lt_trichotomy a.1 b.1 with q | q | q
 · exact .inl (.inl q)
 · rcases h with h | h
   · exact .inr (.inl jc)
   · rcases zNV (b:=b.2.cps.toList) h.2 with z | z
     · exact .inl (.inr ⟨q,z⟩)
     · exact .inr (.inr ⟨jc,z⟩)
 · rcases h with h | h
   · exact .inr (.inl jc)
   · exact .inr (.inl jc)
theorem zU6 {a b:Int×Str}(h1:yF a b=false)(h2:yF b a=false):a=b:=by
 have q1:¬(a.1 < b.1∨(a.1=b.1/\a.2.cps.toList < b.2.cps.toList)):=fun z=>by rw[lB.mpr z] at h1;cases h1
 have q2:¬(b.1 < a.1∨(b.1=a.1/\b.2.cps.toList < a.2.cps.toList)):=fun z=>by rw[lB.mpr z] at h2;cases h2
 have e:a.1=b.1:=jc
 have e2:a.2.cps.toList=b.2.cps.toList:=zN8 (fun z=>q1 (.inr ⟨e,z⟩)) fun z=>q2 (.inr ⟨e.symm,z⟩)
 obtain⟨a1,⟨a2⟩⟩:=a
 obtain⟨b1,⟨b2⟩⟩:=b
 have e3:a2=b2:=Rq.mp e2
 cases e;cases e3;rfl
theorem zYc (f:Nat->Int×Str):SWO fun i j=>yF (f i) (f j):=⟨fun a=>wQ _,fun a b c=>zX5,fun a b c=>zWF⟩
abbrev isZ:Int×Str:=(0,⟨#[]⟩)
abbrev ltP (ps:List (Int×Str))(i j:Nat):Bool:=yF (ps.getD i isZ) (ps.getD j isZ)
def gA (ps:List (Int×Str)):List Nat:=wO (ltP ps) ps.length
theorem qW (ps:List (Int×Str)):(gA ps).Perm (List.range ps.length):=sF _ _
def mO (ps:List (Int×Str)):List (Int×Str):=(gA ps).map fun i=>ps.getD i isZ
theorem zWK (ps:List (Int×Str)):(mO ps).Perm ps:=by
 unfold mO
 refine((qW ps).map _).trans ?_
 rw[tZ]
theorem zWQ (ps:List (Int×Str)):(gA ps).Pairwise fun i j=>ltP ps j i=false :=
 (zZe (zYc fun i=>ps.getD i isZ) ps.length).imp fun {a b} h=>Lx.le (zYc fun i=>ps.getD i isZ) h
theorem jF (ps:List (Int×Str)):(mO ps).Pairwise fun a b=>yF b a=false:=by
 unfold mO
 rw[Rr]
 exact zWQ ps
def zVM (h:Heap)(p:Int×Str)(u:Value):Prop:=∃a o n t t',u = .ref a/\h.get? a=some o/\o.cls = .type "tuple"/\o.data = .seq #[.int p.1 t,.str p.2 t'] n
theorem zS7 {h:Heap}:∀ {ps:List (Int×Str)} {us:jm},Paired (zVM h) ps us->∃fs:List Value,KatTups h us fs/\fs.length=us.length/\∀v∈fs,∃i t,v=Value.int i t
 | _,_,.nil=>⟨[],KatTups.nil,rfl,fun _ h=>nomatch h⟩
 | _,_,.cons r t=>by
   obtain⟨a,o,n,t1,t2,rfl,e,c,d⟩:=r
   obtain⟨fs,q1,q2,q3⟩:=zS7 t
   refine⟨_::fs,KatTups.cons e c d rfl q1,by simp[q2],fun v hv=>?_⟩
   rcases Qa.mp hv with rfl | hv
   · exact⟨_,_,rfl⟩
   · exact q3 v hv
section
variable {P:Program} {w:World} {A:Around} {s:Shared}
theorem zUa {ps:List (Int×Str)}{us:jm}(hp:Paired (zVM s.heap) ps us)(h2:2<=us.length):∃κ,(∀(E':jk) Q,Q κ s->wpAny (model P w) A (keyKind' us.toArray) Q E' s) /\
   ∀i j C,i < us.length->j < us.length->C (ltP ps i j) s->kas_ask P w A κ us i j C s:=by
 obtain⟨fs,q1,q2,q3⟩:=zS7 hp
 have hl:ps.length=us.length:=Rw hp
 refine⟨tuples' ((Value.type "int") != Value.type "tuple"),fun E' Q' hQ=>kat_kind q1 jc (fun v hv=>?_) rfl hQ,fun i j C hi hj hC=>?_⟩
 · obtain⟨n,t,rfl⟩:=q3 v hv
   exact Looks.of_pure rfl
 · obtain⟨a,o,n,t1,t2,ea,e,c,d⟩:=sJ (i:=i) (da:=isZ) (db:=Value.none) hp jc
   obtain⟨b,o',n',t3,t4,eb,e',c',d'⟩:=sJ (i:=j) (da:=isZ) (db:=Value.none) hp jc
   have hC:C (yF (ps.getD i isZ) (ps.getD j isZ)) s:=hC
   generalize ps.getD i isZ=x at *
   generalize ps.getD j isZ=y at *
   unfold kas_ask
   rw[ea,eb]
   refine kat_lt e d e' d' ?_
   show KatLex _ _ _ _ _ _ [(Value.int x.1 t1,Value.int y.1 t3),(Value.str x.2 t2,Value.str y.2 t4)] 0 _
   refine kat_cons (Oh ?_)
   by_cases h1:x.1=y.1
   · have e1:(x.1==y.1)=true:=by simp[h1]
     rw[e1]
     refine kat_yes (kat_cons (Oj ?_))
     by_cases h3:x.2=y.2
     · have e2:decide (x.2=y.2)=true:=by simp[h3]
       rw[e2]
       refine kat_yes (kat_nil ?_)
       have e3:x=y:=Prod.ext h1 h3
       rw[e3,wQ] at hC
       simpa using hC
     · have e2:decide (x.2=y.2)=false:=by simp[h3]
       rw[e2]
       refine kat_no ?_
       refine kat_one _ _ (lt_str ?_)
       have e3:yF x y=decide (x.2.cps.toList < y.2.cps.toList):=by unfold yF;simp[h1]
       rw[e3] at hC
       exact hC
   · have e1:(x.1==y.1)=false:=by simp[h1]
     rw[e1]
     refine kat_no ?_
     refine oneLt_int ?_
     have e3:yF x y=decide (x.1 < y.1):=by unfold yF;simp[h1]
     rw[e3] at hC
     exact hC
abbrev isK (p:Int×Str):List Key:=[.inl p.1,.inr p.2]
variable {X:Cx} {Z:jl} {σ:St} {H:Hp}
theorem zPe {h':Heap}(I:Inv X Z σ H s)(k:∀b o,s.heap.get? b=some o->h'.get? b=some o){p:Int×Str}{b:Addr}(e:SqT X.K H b [.int p.1,.str p.2]):zVM h' p (.ref b):=by
 obtain⟨j6,rv,⟨o,e,c,n,d⟩,_⟩:=I.tuple e
 obtain⟨u1,r1,e1,r2⟩:∃u1 r1,j6=u1::r1/\RelV (.int p.1) u1/\Vals [.str p.2] r1:=by cases rv with | cons x y=>exact⟨_,_,rfl,x,y⟩
 obtain⟨u2,e2,r3⟩:∃u2,r1=[u2]/\RelV (.str p.2) u2:=by cases r2.2 with | cons x y=>cases y;exact⟨_,rfl,x⟩
 obtain⟨t,rfl⟩:=r2.1
 obtain⟨t',rfl⟩:=r3
 subst e1;subst e2
 exact⟨b,o,n,t,t',rfl,k _ _ e,c,d⟩
theorem zVB (hc:X.calm=true):CallR X (.builtin "sorted") (fun xs H Q=>∃(q:Addr) (j8:List (List Key×V)) (ps:List (Int×Str)),xs=[V.ref q]/\H q=some (.dT j8)/\j8.map (·.1)=ps.map isK/\ps.length<=1000 /\
   ∀l (bs:List Addr),H l=none->Paired (fun p b=>H b=some (.tup [.int p.1,.str p.2])) ps bs->Q (.ref l) (upd H l (.lst ((gA ps).map fun i=>.ref (bs.getD i 0))))):=by
 intro Z s σ H xs us Q I r h
 obtain⟨q,j8,ps,rfl,hq,hk,h64,k⟩:=h
 obtain⟨u,rfl,ru⟩:=zZO r
 cases ru
 obtain⟨z,hd,xs,rel,dd⟩:=aP I.hok hq
 obtain⟨o,es,ep,ho,hx,hdat,he,his,hn⟩:=dd
 have hb:Paired (fun p b=>H b=some (.tup [.int p.1,.str p.2])) ps (xs.map (·.2.1)):=by
   clear ho hx hdat he his hn hq z k h64
   induction rel generalizing ps with
   | nil =>
     cases ps with
     | nil=>exact .nil
     | cons _ _=>cases hk
   | @cons p x ps' xs' h t ih =>
     cases ps with
     | nil=>cases hk
     | cons y r =>
       rw[Qz,Qz] at hk
       injection hk with hk1 hk2
       refine .cons ?_ (ih r hk2)
       have:=h.2.1
       rw[hk1] at this
       exact this
 have hl:(xs.map (·.2.1)).length=ps.length:=(Rw hb).symm
 have hz:es.size=ps.length:=by rw[Py he,←hl];simp
 have hkeys:es.toList.map (·.key)=(xs.map (·.2.1)).map Value.ref:=by rw[he,Rx,Rx];rfl
 have hat:∀h':Heap,(∀b o,s.heap.get? b=some o->h'.get? b=some o)->Paired (zVM h') ps ((xs.map (·.2.1)).map Value.ref):=by
   intro h' kp
   clear hl hz hkeys k hk h64
   generalize xs.map (·.2.1)=bs at hb
   induction hb with
   | nil=>exact .nil
   | cons h t ih=>exact .cons (zPe I kp (.inl (.inl h))) ih
 refine zTD (lt:=ltP ps) (zYc fun i=>ps.getD i isZ) (I.ok.hd hc) ⟨o,ho,hx,hdat⟩ hd jc (fun h2 h' tk kp=>?_) fun h1 h' tk n k1 k2 hn'=>?_
 · have:=zUa (P:=X.prog) (w:=X.w) (A:=X.A.in1.in1) (s:={ s with heap:=h',toks:=tk }) (hat h' kp) (by rw[Qi,hl,←hz];exact h2)
   rw[hkeys,hz]
   rw[Qi,hl] at this
   exact this
 · have I1:Inv X Z σ H { s with heap:=h1,toks:=tk }:=I.kept k1
   have fr:H h1.objs.size=none:=I1.hok.fresh (Qf _)
   rw[hkeys,hz] at hn'
   have hpm:=qW ps
   have vals:Vals ((gA ps).map fun i=>V.ref ((xs.map (·.2.1)).getD i 0)) ((wO (ltP ps) ps.length).map fun i=>((xs.map (·.2.1)).map Value.ref).getD i Value.none):=by
     show Vals ((gA ps).map _) ((gA ps).map _)
     generalize xs.map (·.2.1)=bs at hl
     have key:∀l:List Nat,(∀i∈l,i < bs.length)->Vals (l.map fun i=>V.ref (bs.getD i 0)) (l.map fun i=>(bs.map Value.ref).getD i Value.none):=by
       intro l
       induction l with
       | nil=>intro _;exact .nil
       | cons i r ih =>
         intro hh
         refine .cons ?_ (ih fun j hj=>hh j (by simp[hj]))
         have hi:i < bs.length:=hh i je
         show(bs.map Value.ref).getD i Value.none=Value.ref (bs.getD i 0)
         simp[hi]
     exact key _ fun i hi=>by rw[hl];simpa using hpm.subset hi
   have I2:=I1.laid (t':=tk) (h':=h') (a:=h1.objs.size) (o:=.lst ((gA ps).map fun i=>V.ref ((xs.map (·.2.1)).getD i 0))) k2 (Qf _)
     ⟨by rw[Qi,hpm.length_eq,Ry];exact Wb (wE (by show ps.length<=100000;lia)),_,n,vals,by simpa [seqObj] using hn'⟩
   exact⟨.ref _,_,I2,rfl,k _ _ fr hb⟩
end
def dIS (p:Int×Str):D:=.tup [.int p.1,.str p.2]
def zOI:List Key->Option (Int×Str) | [.inl i,.inr z]=>some (i,z) | _=>none
def dF:List (List Key)->Option (List (Int×Str))
 | []=>some []
 | k::r=>(zOI k).bind fun p=>(dF r).map (p::·)
theorem zPD {k:List Key}{p:Int×Str}(h:zOI k=some p):k=isK p:=by
 unfold zOI at h
 split at h
 · cases h;rfl
 · cases h
theorem zXx:∀ {ks:List (List Key)} {ps:List (Int×Str)},dF ks=some ps->ks=ps.map isK
 | [],_,h=>by cases h;rfl
 | k::r,ps,h=>by
   unfold dF at h
   obtain⟨p,h1,h⟩:=Qq.mp h
   obtain⟨qs,h2,rfl⟩:=Qr.mp h
   rw[zPD h1,zXx h2];rfl
theorem zYP:∀ps:List (Int×Str),dF (ps.map isK)=some ps
 | []=>rfl
 | p::r=>by
   have:=zYP r
   simp only[Qz,dF,this]
   rfl
theorem zXh {G H:Hp}(s:Same G H):∀ {ps:List (Int×Str)} {bs:List Addr},Paired (fun p b=>H b=some (.tup [.int p.1,.str p.2])) ps bs->∃G',Step G H G' H/\Paired (fun p b=>G' b=some (.tup [.int p.1,.str p.2])) ps bs
 | _,_,.nil=>⟨G,.refl s,.nil⟩
 | _,_,.cons h t=>by
   obtain⟨G1,s1,r1⟩:=zXh s t
   have s2:=Step.adopt s1.sub h
   exact⟨_,s1.trans s2,.cons zL (Paired.mapP r1 fun p b e=>s2.gg _ _ e)⟩
def zXP (fd:Ef):Lf:=fun ρ=>(fd ρ).bind fun d=>match d with | .dct ks _=>(dF ks).bind fun ps=>if ps.length<=1000 then some ((mO ps).map dIS) else none | _=>none
section
variable {X:Cx} {a:Expr} {fa:Ef} {p pos:Pos}
theorem zQN {α β:Type}:∀ {ks:List α} {vs:List β},ks.length=vs.length->(ks.zip vs).map (·.1)=ks:=fun h=>List.map_fst_zip jc
theorem zSv (hc:X.calm=true)(hg:Gl X "sorted")(hm:X.mg "sorted"=none)(h:PF X a fa)(hs:starEach [a] X.env=[(false,eval a X.env)]:=by rfl):PFr X (.Call (.Name "sorted" p) [a] [] pos) (zXP fa):=by
 refine PE.toR (tJ (zVB hc) hg hm jg (yZ h wH (by rw[hs];rfl)) jb jb (by rw[hs];rfl) jg) ?_
 rintro σ H Q ⟨G0,H0,G,ρ,ds',j0,hf,k⟩
 unfold zXP at hf
 obtain⟨d,h1,hf⟩:=Qq.mp hf
 cases d with
 | dct ks ds =>
   obtain⟨ps,h2,hf⟩:=Qq.mp (show(dF ks).bind _=some ds' from hf)
   split at hf
   · rename_i h64
     cases hf
     refine⟨G0,H0,G,ρ,_,j0,h1,fun v H1 G1 s1 r1=>?_⟩
     obtain⟨q,vs,rfl,e1,e2,e3,e4⟩:=zZH s1.sub r1
     have ek:=zXx h2
     refine⟨q,_,ps,rfl,e1,by rw[zQN (by rw[e2,e3.length]),ek],h64,fun l bs hl hb=>?_⟩
     obtain⟨G2,s2,r2⟩:=zXh s1.sub hb
     have st:=s1.trans s2
     refine k l _ _ G2 (st.trans (Step.own st.sub hl)) (s1.hh.free hl) zL (st.sub.free hl) ?_
     unfold mO
     rw[Rx]
     have hp:=qW ps
     have hbl:ps.length=bs.length:=Rw hb
     have key:∀l:List Nat,(∀i∈l,i < ps.length)->Reps X.K G2 (l.map (dIS ∘ fun i=>ps.getD i isZ)) (l.map fun i=>V.ref (bs.getD i 0)):=by
       intro l
       induction l with
       | nil=>intro _;exact zM.mpr rfl
       | cons i r ih =>
         intro hh
         refine zR.mpr ⟨_,_,rfl,?_,ih fun j hj=>hh j (by simp[hj])⟩
         have:=sJ (i:=i) (da:=isZ) (db:=0) r2 (hh i je)
         exact yR.mpr ⟨_,_,rfl,.inl (.inl this),zR.mpr ⟨_,_,rfl,zK.mpr rfl,zR.mpr ⟨_,_,rfl,yI.mpr rfl,zM.mpr rfl⟩⟩⟩
     exact key _ fun i hi=>by simpa using hp.subset hi
   · cases hf
 | _=>cases hf
end
end L2
namespace L2
open PySem PySem.W PySem.Spec PyProof.Rows
def zSU:D->Option (Int×Str) | .tup [.int i,.str z]=>some (i,z) | _=>none
theorem zYu {d:D}{p:Int×Str}(h:zSU d=some p):d=dIS p:=by
 unfold zSU at h
 split at h
 · cases h;rfl
 · cases h
def aW (f:jy):List D->Option (List (Int×Str))
 | []=>some []
 | d::r=>((f [d]).bind zSU).bind fun p=>(aW f r).map (p::·)
theorem zZw {f:jy}:∀ {ds:List D} {ps:List (Int×Str)},aW f ds=some ps->ps.length=ds.length
 | [],_,h=>by cases h;rfl
 | d::r,ps,h=>by
   unfold aW at h
   obtain⟨p,h1,h⟩:=Qq.mp h
   obtain⟨qs,h2,rfl⟩:=Qr.mp h
   rw[Qo,Qo,zZw h2]
theorem zW5 {f:jy}:∀ {ds:List D} {ps:List (Int×Str)} {i:Nat} {d:D},aW f ds=some ps->ds[i]?=some d->∃p,ps[i]?=some p/\f [d]=some (dIS p)
 | [],_,_,_,_,e=>by simp at e
 | d::r,ps,i,d',h,e=>by
   unfold aW at h
   obtain⟨p,h1,h⟩:=Qq.mp h
   obtain⟨qs,h2,rfl⟩:=Qr.mp h
   obtain⟨x,h3,h4⟩:=Qq.mp h1
   cases i with
   | zero=>cases e;exact⟨p,rfl,by rw[h3,zYu h4]⟩
   | succ i=>exact zW5 (i:=i) h2 (by simpa using e)
def zZW (f:jy)(g:Lf):Lf:=fun ρ=>(g ρ).bind fun ds=>(aW f ds).bind fun ps=>if ps.length<=1000 then some ((gA ps).map fun i=>ds.getD i .non) else none
theorem Vals.at {x:Value}:∀ {vs:List V} {us:jm} {i:Nat},Vals vs us->us[i]?=some x->∃v,vs[i]?=some v/\RelV v x
 | _,_,_,.nil,e=>by simp at e
 | _,_,0,.cons r _,e=>by cases e;exact⟨_,rfl,r⟩
 | _,_,i+1,.cons _ t,e=>Vals.at (i:=i) t (by simpa using e)
theorem Reps.at {K:jh}{G:Hp}{v:V}:∀ {ds:List D} {vs:List V} {i:Nat},Reps K G ds vs->vs[i]?=some v->∃d,ds[i]?=some d/\Rep K G d v
 | [],vs,i,h,e=>by rw[zM] at h;subst h;simp at e
 | d::ds,vs,i,h,e=>by
   obtain⟨v',vr,rfl,r1,r2⟩:=zR.mp h
   cases i with
   | zero=>cases e;exact⟨d,rfl,r1⟩
   | succ i=>exact Reps.at (i:=i) r2 (by simpa using e)
theorem zX9 {X:Cx}{Z:jl}{σ:St}{G H:Hp}{s:Shared}(I:Inv X Z σ H s)(sub:Same G H):∀ {ps:List (Int×Str)} {vs:List V} {us:jm},Reps X.K G (ps.map dIS) vs->Vals vs us->Paired (zVM s.heap) ps us
 | [],vs,us,h,r=>by rw[List.map_nil,zM] at h;subst h;cases r;exact .nil
 | p::ps,vs,us,h,r=>by
   rw[Qz] at h
   obtain⟨v',vr,rfl,r1,r2⟩:=zR.mp h
   cases r with
   | cons w1 w2 =>
     refine .cons ?_ (zX9 I sub r2 w2)
     obtain⟨b,us',rfl,q1,q2⟩:=yR.mp r1
     cases w1
     obtain⟨_,_,rfl,a1,a2⟩:=zR.mp q2
     obtain⟨_,_,rfl,a3,a4⟩:=zR.mp a2
     rw[zM] at a4;subst a4
     rw[zK] at a1;rw[yI] at a3
     subst a1 a3
     exact zPe I (fun _ _ e=>e) (sub.tup q1)
section
variable {X:Cx} {a:Expr} {ga:Lf} {p p1 pos kp:Pos} {x y:Str} {st:Stmt} {j k:Nat} {fD:jy}
theorem zRQ {t:FnT X.K X.mg x st [y]}(F:FnOk X.prog X.w X.K X.mg X.base CX0 j t.f t.fd [y] (spF X.K 1 fD))(hr:Room k X.A)(hg:Gl X "sorted")(hm:X.mg "sorted"=none)(h:zVL X a ga)(hj:j+2<=k:=by lia)(hgx:Gl X x:=by rfl)(hdb:(x==("__debug__":Str))=false:=by decide)
   (hs:starEach [a] X.env=[(false,eval a X.env)]:=by rfl):PFr X (.Call (.Name "sorted" p) [a] [⟨some "key",.Name x p1,kp⟩] pos) (zZW fD ga):=by
 intro Z s σ H Q I h0
 obtain⟨G0,H0,G,ρ,ds',j0,hf,K⟩:=h0
 unfold zZW at hf
 obtain⟨ds,f1,hf⟩:=Qq.mp hf
 obtain⟨ps,f2,hf⟩:=Qq.mp hf
 split at hf
 case isFalse=>cases hf
 rename_i h64
 cases hf
 have j5:=zZw f2
 refine Ev (lM I hg hm (u:=.builtin "sorted") jg ?_ jb jb)
 refine callWith_kw ?_ (by first | rfl | (rw[hs];rfl)) (by first | rfl | (rw[hs];rfl)) (by first | rfl | (rw[hs];rfl)) (by first | rfl | (rw[hs];rfl))
 refine spliced_more (thn (h Z s σ H (fun v H1=>∃r vs G1,v = .ref r/\Step G H G1 H1/\SqL X.K G1 r vs/\Reps X.K G1 ds vs) I ?_) fun u s1 ⟨v,H1,I1,rv,r,vs,G1,e,st1,hr1,rs1⟩=>?_) (by rw[hs];rfl)
 · exact⟨G0,H0,G,ρ,ds,j0,f1,fun r vs H1 G1 s1 q1 q2=>⟨r,vs,G1,rfl,s1,q1,q2⟩⟩
 subst e
 cases rv
 refine spliced_none ?_
 refine kws_cons (nB I1 hgx t.m ?_ hdb)
 refine kws_nil ?_
 obtain⟨j6,rvl,pl,hz⟩:=I1.list (st1.sub.seq hr1)
 have hvl:vs.length=j6.length:=rvl.length
 have hdl:ds.length=vs.length:=rs1.length
 refine zXO (lt:=ltP ps) (zYc fun i=>ps.getD i isZ) (fun m ws H'=>∃G' j8,Step G1 H1 G' H'/\Reps X.K G' ((ps.take m).map dIS) j8/\Vals j8 ws) pl.isList jc I1 ⟨G1,[],.refl st1.sub,by rw[Ps];exact zM.mpr rfl,.nil⟩ ?step ?asks ?fin
 case step =>
   intro m x' ws H' s' pins' hx hJ I'
   obtain⟨G',j8,st,rk,iw⟩:=hJ
   obtain⟨v,ev,rvx⟩:=rvl.at hx
   obtain⟨d,ed,rd⟩:=rs1.at ev
   obtain⟨q,eq,fq⟩:=zW5 f2 ed
   have hb:=t.b s' [x'] I'.kIn rfl
   refine Ot (Ue (F.run X.A.in1.in1 X.stack s' H' ⟨[x'],[]⟩ [x'] [v] (fun v' H''=>∃G'',Step G' H' G'' H''/\Rep X.K G'' (dIS q) v') E0 ((hr.mono hj).in1.in1) I'.env0.in1.in1 (by simpa using hb) (.cons rvx .nil) ?_) fun r s'' hq=>?_)
   · exact⟨G',[d],dIS q,st.sub,zR.mpr ⟨v,[],rfl,rd.mono st.gg,zM.mpr rfl⟩,rfl,fq,fun v' H'' G'' s'' r=>⟨G'',s'',r⟩⟩
   · cases r with
     | error e=>exact False.elim hq
     | ok fl =>
       cases fl with
       | ret u =>
         obtain⟨v',H'',I'',rv',G'',st'',rp⟩:=I'.after hq
         refine⟨H'',I'',G'',j8++[v'],st.trans st'',?_,zYV iw rv'⟩
         rw[List.take_succ,eq,Tk]
         exact(rk.mono st''.gg).append (zR.mpr ⟨v',[],rfl,rp,zM.mpr rfl⟩)
       | next=>exact False.elim hq
       | brk=>exact False.elim hq
       | cont=>exact False.elim hq
 case asks =>
   intro ws H' s' pins' hJ hw I' h2
   obtain⟨G',j8,st,rk,iw⟩:=hJ
   rw[Ej jc] at rk
   have:=zUa (P:=X.prog) (w:=X.w) (A:=X.A.in1.in1) (zX9 I' st.sub rk iw) jc
   rw[hw] at this
   exact this
 case fin =>
   intro ws H' D s' hJ hD hI
   obtain⟨G',j8,st,rk,iw⟩:=hJ
   have stp:Step G H G' H':=st1.trans st
   have hpm:=qW ps
   have en:j6.length=ps.length:=jc
   rw[en] at hI
   have vals:Vals ((gA ps).map fun i=>vs.getD i .non) ((gA ps).map fun i=>j6.getD i Value.none):=by
     have key:∀l:List Nat,(∀i∈l,i < vs.length)->Vals (l.map fun i=>vs.getD i .non) (l.map fun i=>j6.getD i Value.none):=by
       intro l
       induction l with
       | nil=>intro _;exact .nil
       | cons i r ih=>intro hh;exact .cons (sJ rvl (hh i je)) (ih fun j hj=>hh j (by simp[hj]))
     exact key _ fun i hi=>(by have:i < ps.length:=(by simpa using hpm.subset hi);lia)
   refine⟨.ref D,_,hI (.lst ((gA ps).map fun i=>vs.getD i .non)) fun h' ⟨c3,e3⟩=>?_,rfl,?_⟩
   · refine⟨?_,_,c3,vals,e3⟩
     rw[Qi,hpm.length_eq,Ry]
     exact Wb (wE (by show ps.length<=100000;lia))
   · refine K D _ _ G' (stp.trans (Step.own stp.sub hD)) (stp.hh.free hD) zL (stp.sub.free hD) ?_
     have rs:=rs1.mono st.gg
     have key:∀l:List Nat,(∀i∈l,i < vs.length)->Reps X.K G' (l.map fun i=>ds.getD i .non) (l.map fun i=>vs.getD i .non):=by
       intro l
       induction l with
       | nil=>intro _;exact zM.mpr rfl
       | cons i r ih =>
         intro hh
         have hi:i < vs.length:=hh i je
         obtain⟨d,ed,rd⟩:=rs.at (i:=i) (v:=vs[i]) (by simp[hi])
         refine zR.mpr ⟨_,_,rfl,?_,ih fun j hj=>hh j (by simp[hj])⟩
         show Rep X.K G' (ds.getD i .non) (vs.getD i .non)
         rw[Wv,Wv,ed]
         simpa [hi] using rd
     exact key _ fun i hi=>(by have:i < ps.length:=(by simpa using hpm.subset hi);lia)
end
end L2
namespace L2
open PySem PySem.W PySem.Spec PyProof.Rows
section
variable {prog:Program} {w:World} {A:Around} {E:jk} {s:Shared}
theorem zRg {x y:Int×Str}{u v:Value}{Q:jk}(hu:A.units < cLine)(ha:zVM s.heap x u)(hb:zVM s.heap y v)(h:Q (.bool (!yF y x)) s):wpAny (model prog w) A (richCompare .LtE u v) Q E s:=by
 obtain⟨a,o,n,t1,t2,rfl,e1,c1,d1⟩:=ha
 obtain⟨b,o',n',t3,t4,rfl,e2,c2,d2⟩:=hb
 have ta:s.TypeIs (.ref a) "tuple":=⟨o,e1,c1⟩
 have tb:s.TypeIs (.ref b) "tuple":=⟨o',e2,c2⟩
 refine wpAny_richCompare_same_room ta tb PySem.F.slot_tuple_le (Ra PySem.F.slot_tuple_le ta PySem.F.entry_tuple_le ?_ (PySem.F.args_tuple_le_2 _ _)) hu
 show wpAny _ _ (isInstance (.ref b) (.type "tuple") >>= _) _ _ s
 refine Qe (wpAny_isInstance tb isSubtype_tuple_tuple ?_)
 simp only[Bool.not_true,Wf,Rv]
 refine Qe (wpAny_tupleItemsOf e1 d1 ?_)
 refine Qe (wpAny_tupleItemsOf e2 d2 ?_)
 dsimp only[List.zip,List.zipWith]
 simp only[List.forIn_cons,List.forIn_nil]
 refine Qe (Qe (Qe (Oh ?_)))
 by_cases h1:x.1=y.1
 · have q1:(x.1==y.1)=true:=by simp[h1]
   rw[q1]
   simp only[Bool.not_true,Wf,Rv]
   refine Qh (Qe (Qe (Oj ?_)))
   by_cases h2:x.2=y.2
   · have q2:decide (x.2=y.2)=true:=by simp[h2]
     rw[q2]
     simp only[Bool.not_true,Wf,Rv]
     refine Qh (Qh (Qh ⟨_,rfl,(fun e=>nomatch e),?_⟩))
     have e3:y=x:=Prod.ext h1.symm h2.symm
     rw[e3,wQ] at h
     exact h
   · have q2:decide (x.2=y.2)=false:=by simp[h2]
     rw[q2]
     simp only[Bool.not_false,Uj]
     have e3:yF y x=decide (y.2.cps.toList < x.2.cps.toList):=by unfold yF;simp[h1]
     rw[e3] at h
     refine Qe (Tv (Qe (PySem.P.le_str ?_)))
     exact Qh (Qh (Qh ⟨_,rfl,(fun e=>nomatch e),h⟩))
 · have q1:(x.1==y.1)=false:=by simp[h1]
   rw[q1]
   simp only[Bool.not_false,Uj]
   have e3:(!yF y x)=decide (x.1<=y.1):=by
     unfold yF
     have:(y.1==x.1)=false:=by simp;lia
     rw[this,Pp,Bool.or_false]
     by_cases h3:y.1 < x.1
     · simp[h3]
     · simp[h3];lia
   rw[e3] at h
   refine Qe (Tv (Qe (le_int ?_)))
   exact Qh (Qh (Qh ⟨_,rfl,(fun e=>nomatch e),h⟩))
variable {X:Cx}
def zTX (x y:D):Option Bool:=(zSU x).bind fun a=>(zSU y).map fun b => !yF b a
theorem zQt {k:Nat}(hr:Room k X.A):CmR X .LtE zTX:=by
 refine⟨fun x y H Q=>∃p q G,Same G H/\Rep X.K G (dIS p) x/\Rep X.K G (dIS q) y/\Q (.bl (!yF q p)) H,?_,fun d d' k G H x y Q h s rx ry kk=>?_⟩
 · intro Z s σ H x y v u Q I rx ry ⟨p,q,G,sm,hx,hy,hQ⟩
   have pa:=zX9 (ps:=[p]) (vs:=[x]) (us:=[v]) I sm (zR.mpr ⟨_,_,rfl,hx,zM.mpr rfl⟩) (.cons rx .nil)
   have pb:=zX9 (ps:=[q]) (vs:=[y]) (us:=[u]) I sm (zR.mpr ⟨_,_,rfl,hy,zM.mpr rfl⟩) (.cons ry .nil)
   cases pa with
   | cons pa _ =>
     cases pb with
     | cons pb _=>exact zRg hr.units0 pa pb ⟨.bl _,H,I,rfl,hQ⟩
 · unfold zTX at h
   obtain⟨p,h1,h⟩:=Qq.mp h
   obtain⟨q,h2,rfl⟩:=Qr.mp h
   rw[zYu h1] at rx
   rw[zYu h2] at ry
   exact⟨p,q,G,s,rx,ry,kk H G (.refl s)⟩
end
end L2
namespace L2
open PySem PySem.Spec PyProof.Rows
open PySem.Builtin PySem.Builtin.Str
section
variable {X:Cx} {c:Expr} {ga:Lf} {pos p:Pos}
def zXl (i:Nat)(g:Lf):Sf:=fun ρ=>(g ρ).bind fun es=>match ρ[i]? with | some (.ow ds)=>if ds.length+es.length<=lim then some (.nx (ρ.set i (.ow (ds++es)))) else none | _=>none
theorem zOD (i:Nat)(ht:PE X c (tBM X.K "list" zUP (zTp i) (aT (tFr X.K ga) zVt)))(hs:swapsWith c none pos.line X.env=pure false:=by rfl):PFS X (.Expr c pos) (zXl i ga):=by
 refine PS.to (pM ht hs) ?_
 rintro D σ H ⟨G0,H0,G,ρ,o,j0,hf,k⟩
 unfold zXl at hf
 obtain⟨es,h1,hf⟩:=Qq.mp hf
 split at hf
 · rename_i ds hi
   split at hf
   · rename_i hl
     cases hf
     obtain⟨p,vs,e1,e2,e3,e4,e5⟩:=j0.addr hi
     refine⟨.ref p,e1,.inl ⟨rfl,vs,.of e2⟩,G0,H0,G,ρ,es,j0,h1,fun q ws H1 G1 s1 hq0 hq1 gq rs=>?_⟩
     have good1:=j0.step s1
     obtain⟨p',vs',f1,f2,f3,f4,f5⟩:=good1.addr hi
     rw[e1] at f1;cases f1
     exact⟨p,q,vs',ws,rfl,rfl,f2,hq1,by rw[←f5.length,←rs.length];exact Wb (wE hl),k σ _ G1 s1.gg (good1.wr hi e1 (f5.append rs))⟩
   · cases hf
 · cases hf
variable {P:Program} {w:World} {K:jh} {mg:Str->Option Value} {base:Heap} {k:Nat} {f:Addr} {fd:FuncData} {ps:List Str}
theorem zTa {CX:CXT}{n:Nat}:FnOk P w K mg base CX k f fd ps (spL K n fun _=>none) :=
 ⟨fun vs H Q E h=>(by obtain⟨_,_,_,_,_,_,z,_⟩:=h;cases z),fun A outer s H args us vs Q E _ _ _ _ h=>(by obtain⟨_,_,_,_,_,_,z,_⟩:=h;cases z)⟩
end
end L2
namespace L2
open PySem PySem.Spec PyProof.Rows
open PySem.Builtin PySem.Builtin.Str
section
variable {X:Cx} {c:Expr} {ga:Lf} {pos p:Pos}
theorem zVD (l:Addr)(items:jn)(n:Nat)(b:Addr)(items2:jn)(n2:Nat)(sl:_)(hc0:¬(!items.isEmpty&&Builtin.List.listTooLong (items.size+items2.size))=true)(hc1:items.size<=sizeLine)(hs2:items.size+items2.size<=sizeLine+1) :
   Meets (Builtin.«list.extend» ⟨[.ref l,.ref b],[]⟩) (fun _ R s=>s.heap.get? l=some { cls:=.type "list",dict:=none,data:=.seq items n,slots:=#[] }/\s.heap.get? b=some { cls:=.type "list",dict:=none,data:=.seq items2 n2,slots:=sl }/\R (.ok (.ret Value.none)) { s with heap:=s.heap.update l (Obj.mapSeq fun x=>x++items2),toks:=s.toks }) :=
 .of_wp fun prog w A R s h=>by
   obtain⟨hp,g,d,tk,os⟩:=s;obtain⟨hl,hb,h⟩:=h;have f1:=AutoSeq1.idx_int;have f2:=AutoSeq1.sub_tuple_tuple;have f3:=AutoSeq1.sub_list_list;have f4:=AutoSeq1.sub_tuple_list;have f5:=AutoSeq1.sub_list_tuple;
   have hz':(items++items2).size<=sizeLine+1:=by rw[Oi];exact hs2
   wp_walk using (Uv hl rfl (hz:=hc1) (_hz':=hz')),AutoSeq1.wpAny_loadPart' hl,AutoSeq1.wpAny_loadPart' hb;exact⟨_,rfl,h⟩
def zOT (K:jh):V->List V->Hp->VK->Prop:=fun x vs H Q=>∃l b xs zs,x = .ref l/\vs=[.ref b]/\H l=some (.lst xs)/\SqL K H b zs/\xs.length+zs.length<=sizeLine/\Q .non (upd H l (.lst (xs++zs)))
theorem zQD:MtM X "list.extend" (zOT X.K):=by
 intro Z s σ H x vs v us Q I rx rv h
 obtain⟨l,b,xs,zs,rfl,rfl,hH,hB,hz,q⟩:=h
 cases rx
 obtain⟨u,rfl,ru⟩:=rv.one
 cases ru
 obtain⟨z,j6,n,r,hl,e⟩:=I.lstM hH
 obtain⟨its2,r2,⟨⟨cls,dd,data,sl⟩,n2,e2,hc,hd,ha⟩,z2⟩:=I.list hB
 simp only at hc hd ha
 subst hc hd ha
 have hl2:=r2.length
 have hsz:j6.toArray.size+its2.toArray.size<=sizeLine:=by rw[Qp,Qp];lia
 have hlong:¬(!j6.toArray.isEmpty&&Builtin.List.listTooLong (j6.toArray.size+its2.toArray.size))=true:=by
   rw[zW3 hsz,Bool.and_false]
   exact Wa
 refine call_meets F.slot_list_extend ⟨_,e,rfl⟩ F.entry_list_extend (F.args_list_extend_2 _ _)
   (zVD l j6.toArray n b its2.toArray n2 sl hlong (by rw[Qp];lia) jc) ⟨e,e2,?_⟩
 refine⟨.non,_,I.lset (its':=j6++its2) hH e je (r.append r2) ?_,rfl,q⟩
 rw[Qt]
 lia
theorem zQs (i:Nat)(ht:PE X c (tBM X.K "list" (zOT X.K) (zTp i) (aT (zOG X.K ga) zVt)))(hs:swapsWith c none pos.line X.env=pure false:=by rfl):PFS X (.Expr c pos) (zXl i ga):=by
 refine PS.to (pM ht hs) ?_
 rintro D σ H ⟨G0,H0,G,ρ,o,j0,hf,k⟩
 unfold zXl at hf
 obtain⟨es,h1,hf⟩:=Qq.mp hf
 split at hf
 · rename_i ds hi
   split at hf
   · rename_i hl
     cases hf
     obtain⟨p,vs,e1,e2,e3,e4,e5⟩:=j0.addr hi
     refine⟨.ref p,e1,.inl ⟨rfl,vs,.of e2⟩,G0,H0,G,ρ,es,j0,h1,fun q ws H1 G1 s1 sq rs=>?_⟩
     have good1:=j0.step s1
     obtain⟨p',vs',f1,f2,f3,f4,f5⟩:=good1.addr hi
     rw[e1] at f1;cases f1
     exact⟨p,q,vs',ws,rfl,rfl,f2,s1.sub.seq sq,by rw[←f5.length,←rs.length];exact Wb (wE hl),k σ _ G1 s1.gg (good1.wr hi e1 (f5.append rs))⟩
   · cases hf
 · cases hf
end
end L2
namespace L2
open PySem PySem.Spec PyProof.Rows
section
variable {prog:Program} {w:World} {A:Around} {E:jk} {s:Shared}
theorem zYR (a d:Value):argsOk "max" ⟨[a],[("default",d)]⟩:=by unfold argsOk;kernel_rfl
theorem zQ9 {l:Addr}{d:Value}{Q:jk}(hh:A.handled=none)(hl:s.heap.IsList l #[])(h:∀h' tk,(∀b o,s.heap.get? b=some o->h'.get? b=some o)->Q d { s with heap:=h',toks:=tk }) :
   wpAny (model prog w) A (call (.builtin "max") [.ref l] [("default",d)]) Q E s:=by
 have hname:(toString "max"++toString ".loop":String)="max.loop":=jb
 refine mT F.kind_max F.plain_max F.entry_max (zYR _ _) ?_
 show wpAny _ A.in1 (Builtin.Builtins.bindParams "max" ["key","default"] 0 ⟨[],[("default",d)]⟩ >>= _) _ _ s
 refine Qe (wpAny_of_eq (show Builtin.Builtins.bindParams "max" ["key","default"] 0 ⟨[],[("default",d)]⟩=pure [none,some d] from rfl) ?_)
 refine Qe (Qh ?_)
 refine Qe (Oe hl ?_)
 refine Qe (Tx ?_)
 rw[hname]
 have hne:l≠s.heap.objs.size:=by obtain⟨_,e,_⟩:=hl;exact Wi (Qd e)
 refine Qh ⟨Yx F.plain_max_loop _,Tg F.entry_max_loop ?_⟩
 rw[Rj F.plain_max_loop _]
 show wpAny _ A.in1 (seqItems? (.ref _) >>= _) _ _ _
 refine Qe (Iy (Ww _ rfl) rfl ?_)
 have W:=Walks.list (prog:=prog) (w:=w) (A:=A.in1) hh s.heap.objs.size l hne #[]
 refine Qe (Ut (W.done _ _ _ ⟨⟨_,Qy _ (Ww _ rfl),rfl,rfl⟩,(hl.push _).push _⟩ fun h' tk hk=>?_))
 refine Qe (Tv ?_)
 refine Qh (h h' tk fun b o e=>hk b o ?_ (Qy _ (Qy _ e)))
 intro hm
 rcases Qa.mp hm with z | z
 · exact absurd (z ▸ Qd e) (Wz _)
 · cases z
def tW (val:Nat->Int):Nat->Int
 | 0=>val 0
 | k+1=>if val (k+1) > tW val k then val (k+1) else tW val k
variable {R:Result->Shared->Prop} {I:Addr} {fp wr:List Addr} {n:Nat} {P:Nat->Value->Prop} {St:Nat->Heap->Prop}
theorem zQ7 {a b:Int}{t u:Tok}{s:Shared}{Q:jk}{E:jk}(h:Q (.bool (decide (a > b))) s):wpAny (model prog w) A (richCompare .Gt (.int a t) (.int b u)) Q E s :=
 CmpOf.ints_gt (prog:=prog) (w:=w) (A:=A) (P:=fun i v=>∃t,v = .int (if i=0 then a else b) t) (fun i=>if i=0 then a else b) (fun _ _ h=>h) 0 1 _ _ s Q E ⟨t,rfl⟩ ⟨u,rfl⟩ h
theorem zT9 (W:Walks prog w A.in1 I fp wr n P St)(val:Nat->Int)(hv:∀i v,P i v->∃t,v = .int (val i) t)(d:Value)(S:Addr)(hSf:S∉fp) :
   ∀(k j:Nat) (s:Shared) (t:Tok) (c:Nat),n - (j+1)=k->j+1<=n->St (j+1) s.heap ->
   s.heap.get? S=some { cls:=.type "list",dict:=none,data:=.seq #[.int (tW val j) t,.int (tW val j) t] c,slots:=#[] } ->
   (∀t' h' tk,(∀b o,b∉wr->b≠S->s.heap.get? b=some o->h'.get? b=some o)->R (.ok (.ret (.int (tW val (n - 1)) t'))) { s with heap:=h',toks:=tk }) ->
   codeAny (model prog w) A (.builtin "max.loop" ⟨[.ref I,.none,.ref S],[("default",d)]⟩) R s:=by
 have hSw:S∉wr:=fun h=>hSf (W.sub _ h)
 have hname:(toString "max"++toString ".loop":String)="max.loop":=jb
 intro k
 induction k with
 | zero =>
   intro j s t c hk hj hst hS hR
   have hin:j+1=n:=jc
   refine Tg F.entry_max_loop ?_
   rw[Rj F.plain_max_loop _]
   show wpAny _ A.in1 (seqItems? (.ref S) >>= _) _ _ s
   refine Qe (Iy hS rfl ?_)
   show wpAny _ A.in1 (tryCatch (pyNext (.ref I)) _ >>= _) _ _ s
   refine Qe (Ut (W.done s _ _ (hin ▸ hst) fun h' tk hk'=>?_))
   have hS':=hk' S _ hSw hS
   show wpAny _ A.in1 (updateSeq S (fun _=>#[]) >>= _) _ _ _
   refine Qe (Uv hS' rfl (Qe (Ui (Qh ?_))))
   rw[←hin] at hR
   exact hR t _ tk fun b o hbw hbS e=>(Ri _ _ (Ne.symm hbS)).trans (hk' b o hbw e)
 | succ k ih =>
   intro j s t c hk hj hst hS hR
   have hlt:j+1 < n:=jc
   refine Tg F.entry_max_loop ?_
   rw[Rj F.plain_max_loop _]
   show wpAny _ A.in1 (seqItems? (.ref S) >>= _) _ _ s
   refine Qe (Iy hS rfl ?_)
   show wpAny _ A.in1 (tryCatch (pyNext (.ref I)) _ >>= _) _ _ s
   refine Qe (Ut (W.item (j+1) s _ _ hlt hst fun v h' tk hP hst' hk'=>?_))
   obtain⟨tv,rfl⟩:=hv _ _ hP
   have hS':=hk' S _ hSw hS
   show wpAny _ A.in1 (tryCatch (holding _ (richCompare .Gt _ _ >>= _)) _ >>= _) _ _ _
   refine Qe (Ut (Re (Qe (zQ7 ?_))))
   refine Qe (Re (Tz ?_))
   refine Qe (Ui (Qh ?_))
   by_cases hb:val (j+1) > tW val j
   · rw[Qc hb]
     simp only[Uj]
     refine Qe (Uv hS' rfl (Qe (Ui ?_)))
     rw[hname]
     have em:tW val (j+1)=val (j+1):=by rw[tW,Qu hb]
     refine Qh ⟨Yx F.plain_max_loop _,ih (j+1) _ tv _ jc hlt (W.frame _ _ _ hst' fun b hbf o e=>?_) (by rw[em];exact Ec _ hS' rfl) fun t' h'' tk'' hk''=>?_⟩
     · exact(Ri _ _ (fun h:S=b=>hSf (by rw[h];exact hbf))).trans e
     · exact hR t' h'' tk'' fun b o hbw hbS e=>hk'' b o hbw hbS ((Ri _ _ (Ne.symm hbS)).trans (hk' b o hbw e))
   · rw[We hb]
     simp only[Wf,Rv]
     refine Qe (Ui ?_)
     rw[hname]
     have em:tW val (j+1)=tW val j:=by rw[tW,Qs hb]
     exact Qh ⟨Yx F.plain_max_loop _,ih (j+1) _ t c jc hlt hst' (by rw[em];exact hS') fun t' h'' tk'' hk''=>hR t' h'' tk'' fun b o hbw hbS e=>hk'' b o hbw hbS (hk' b o hbw e)⟩
theorem zSh {l:Addr}{d:Value}{xs:Array (Int×Tok)}{Q:jk}(hh:A.handled=none)(hl:s.heap.IsList l (intItems xs))(hn:0 < xs.size)
   (h:∀t h' tk,(∀b o,s.heap.get? b=some o->h'.get? b=some o)->Q (.int (tW (numAt xs) (xs.size - 1)) t) { s with heap:=h',toks:=tk }) :
   wpAny (model prog w) A (call (.builtin "max") [.ref l] [("default",d)]) Q E s:=by
 have hname:(toString "max"++toString ".loop":String)="max.loop":=jb
 refine mT F.kind_max F.plain_max F.entry_max (zYR _ _) ?_
 show wpAny _ A.in1 (Builtin.Builtins.bindParams "max" ["key","default"] 0 ⟨[],[("default",d)]⟩ >>= _) _ _ s
 refine Qe (wpAny_of_eq (show Builtin.Builtins.bindParams "max" ["key","default"] 0 ⟨[],[("default",d)]⟩=pure [none,some d] from rfl) ?_)
 refine Qe (Qh ?_)
 refine Qe (Oe hl ?_)
 refine Qe (Tx ?_)
 rw[hname]
 have hne:l≠s.heap.objs.size:=by obtain⟨_,e,_⟩:=hl;exact Wi (Qd e)
 have hsz:(intItems xs).size=xs.size:=by simp[intItems]
 have W:=Walks.list (prog:=prog) (w:=w) (A:=A.in1) hh s.heap.objs.size l hne (intItems xs)
 have hll:l < s.heap.objs.size:=by obtain⟨_,e,_⟩:=hl;exact Qd e
 refine Qh ⟨Yx F.plain_max_loop _,Tg F.entry_max_loop ?_⟩
 rw[Rj F.plain_max_loop _]
 show wpAny _ A.in1 (seqItems? (.ref _) >>= _) _ _ _
 refine Qe (Iy (Ww _ rfl) rfl ?_)
 have hps:(s.heap.push { cls:=.type "list_iterator",data:=.fields #[.ref l,.int 0 0] }).objs.size=s.heap.objs.size+1:=Ur _ _
 refine Qe (Ut (W.item 0 _ _ _ (by rw[hsz];exact hn) ⟨⟨_,Qy _ (Ww _ rfl),rfl,rfl⟩,(hl.push _).push _⟩ fun v h' tk hP hst' hk'=>?_))
 obtain⟨tv,rfl⟩:=intItems_at hP
 have hSw:(s.heap.push { cls:=.type "list_iterator",data:=.fields #[.ref l,.int 0 0] }).objs.size∉[s.heap.objs.size]:=fun hm=>by
   rw[Wr] at hm;lia
 have hS':=hk' _ _ hSw (Ww _ rfl)
 show wpAny _ A.in1 (updateSeq _ (fun _=>#[.int (numAt xs 0) tv,.int (numAt xs 0) tv]) >>= _) _ _ _
 refine Qe ?_
 refine Uv hS' rfl ?_
 rw[hname]
 have hSf:(s.heap.push { cls:=.type "list_iterator",data:=.fields #[.ref l,.int 0 0] }).objs.size∉[s.heap.objs.size,l]:=fun hm=>by
   rcases Qa.mp hm with z | z
   · rw[hps] at z;exact Nat.succ_ne_self _ z
   · rw[Wr,hps] at z
     rw[←z] at hll
     exact absurd hll (Ub.mpr (Yn _))
 refine Qh ⟨Yx F.plain_max_loop _,zT9 W (numAt xs) (fun i v h=>intItems_at h) d _ hSf _ 0 _ tv _ rfl (by rw[hsz];exact hn) (W.frame _ _ _ hst' fun b hbf o e=>?_) (Ec _ hS' rfl) fun t' h'' tk'' hk''=>?_⟩
 · exact(Ri _ _ (fun z=>hSf (by rw[z];exact hbf))).trans e
 · rw[hsz]
   refine h t' h'' tk'' fun b o e=>?_
   have hlt:=Qd e
   have n1:b∉[s.heap.objs.size]:=fun hm=>by rw[Wr] at hm;rw[hm] at hlt;exact Wz _ hlt
   have n2:b≠(s.heap.push { cls:=.type "list_iterator",data:=.fields #[.ref l,.int 0 0] }).objs.size:=fun z=>by rw[hps] at z;rw[z] at hlt;exact absurd hlt (Ub.mpr (Yn _))
   exact hk'' b o n1 n2 ((Ri _ _ (Ne.symm n2)).trans (hk' b o n1 (Qy _ (Qy _ e))))
variable {X:Cx} {a:Expr} {ga:Lf} {pos p:Pos}
def aZ (ns:List Int):Int:=tW (fun i=>ns.getD i 0) (ns.length - 1)
def zZd (g:Lf):Ef:=fun ρ=>(g ρ).bind fun ds=>(zYK ds).bind fun ns=>if ns.isEmpty=true then some .non else some (.int (aZ ns))
theorem zQ8 {kp:Pos}{j}{p2:Pos}(hc:X.calm=true)(hg:Gl X "max")(hm:X.mg "max"=none)(h:zVL X a ga)(hs:starEach [a] X.env=[(false,eval a X.env)]:=by rfl) :
   PF X (.Call (.Name "max" p) [a] [⟨some "default",.Constant .none j p2,kp⟩] pos) (zZd ga):=by
 refine PE.to (t:=fun σ H Q=>zOG X.K ga σ H fun v H1=>∃q ns,v = .ref q/\SqL X.K H1 q (ns.map V.int)/\Q (if ns.isEmpty=true then .non else .int (aZ ns)) H1) ?_ ?_
 · intro Z s σ H Q I h0
   refine Ev (lM I hg hm (u:=.builtin "max") jg ?_ jb jb)
   refine callWith_kw ?_ (by rw[hs];rfl) (by rw[hs];rfl) jg jg
   refine spliced_more (thn (h Z s σ H _ I h0) fun u s1 ⟨v,H1,I1,rv,q,ns,e,sq,q1⟩=>?_) (by rw[hs];rfl)
   subst e
   cases rv
   refine spliced_none ?_
   refine kws_cons (thn (zSS (X:=X) (j:=j) (pos:=p2) Z s1 σ H1 _ I1 (show tC .non σ H1 (fun v H2=>v = .non/\H2=H1) from⟨rfl,rfl⟩)) fun u2 s2 ⟨v2,H2,I2,rv2,e2,e3⟩=>?_)
   subst e2 e3
   cases rv2
   refine kws_nil ?_
   obtain⟨j6,rl,pl,_⟩:=I2.list sq
   cases ns with
   | nil =>
     cases rl
     exact zQ9 (I2.ok.hd hc) pl.isList fun h' tk hk=>⟨.non,H2,I2.kept hk,rfl,q1⟩
   | cons x r =>
     obtain⟨ps,rfl,hps⟩:=zZq rl
     have hit:s2.heap.IsList q (intItems ps.toArray):=by
       have:=pl.isList
       unfold intItems
       rw[List.map_toArray]
       exact this
     have j5:ps.length=r.length+1:=by
       have:=Eo List.length hps
       simpa using this
     have hnum:(fun i=>numAt ps.toArray i)=fun i=>(x::r).getD i 0:=by
       funext i
       rw[←hps]
       unfold numAt
       rw[List.getElem?_toArray,Wv,Wd]
     refine zSh (I2.ok.hd hc) hit (by simp[j5]) fun t h' tk hk=>⟨.int _,H2,I2.kept hk,⟨t,rfl⟩,?_⟩
     have e:tW (numAt ps.toArray) (ps.toArray.size - 1)=aZ (x::r):=by
       unfold aZ
       rw[←hnum,Qp,j5,Qo]
     rw[e]
     exact q1
 · rintro σ H Q ⟨G0,H0,G,ρ,d,j0,hf,k⟩
   unfold zZd at hf
   obtain⟨ds,h1,hf⟩:=Qq.mp hf
   obtain⟨ns,h2,hf⟩:=Qq.mp hf
   refine⟨G0,H0,G,ρ,ds,j0,h1,fun q vs H1 G1 s1 e1 r1=>⟨q,ns,rfl,by rw[←zYO h2 r1];exact s1.sub.seq e1,?_⟩⟩
   split at hf
   · rename_i he
     cases hf
     rw[Qu he]
     exact k _ _ G1 s1 (w4.mpr rfl)
   · rename_i he
     cases hf
     rw[Qs he]
     exact k _ _ G1 s1 (zK.mpr rfl)
end
def zNu (K:jh)(C:Addr)(ns:List Str)(g:Lf):TS:=fun DD σ H=>∃(G0 H0 G:Hp) (ρ:List B) (p dx:Addr) (pre:List Str) (us:List V) (xs ds:List D),
 Good K G0 H0 G H σ ρ/\NoOw ρ/\σ[0]?=some (some (.ref p))/\H p=some (.ins C dx (pre.zip us))/\G p=none/\H0 p=none/\pre.length=us.length/\(pre++ns).Nodup/\(pre++ns).length<=900/\Reps K G xs us/\g ρ=some ds /\
 ∀σ' H' G' vs,Step G0 H0 G' H'->H' p=some (.ins C dx ((pre++ns).zip vs))->G' p=none->Reps K G' (xs++ds) vs->DD.nx σ' H'
section
variable {X:Cx} {e:Expr} {fa:Ef} {pos:Pos}
theorem zSl {ρ:List B}(h:NoOw ρ)(i:Nat)(d:D):NoOw (ρ.set i (.fz d)):=by
 have key:∀(j:Nat) (b:B),(∀d',b ≠ .fz d')->(ρ.set i (.fz d))[j]?=some b->ρ[j]?=some b:=fun j b hb e=>by
   by_cases hj:i=j
   · subst hj
     rw[Ya] at e
     split at e
     · split at e
       · exact absurd (Wh e).symm (hb d)
       · cases e
     · rename_i z;exact absurd rfl z
   · rwa[Ql hj] at e
 exact⟨fun j es z=>h.1 j es (key j _ (fun _ y=>nomatch y) z),fun j es z=>h.2.1 j es (key j _ (fun _ y=>nomatch y) z),fun j es z=>h.2.2 j es (key j _ (fun _ y=>nomatch y) z)⟩
theorem zQm (i:Nat){C:Addr}{y:Str}{ns:List Str}{g:Lf}{rest:List Stmt}{pos':Pos}(hN:X.N.Nodup)(he:PF X e fa)(hr:PSs X rest (zRp X.K C ns g))(hi0:0≠i:=by decide)(hi:X.N[i]?=some y:=by rfl)(hx:Loc X.env.scope y:=by first | exact .inl rfl | exact .inr rfl)
   (hs:swapsWith e (some (.Name y pos')) pos.line X.env=pure false:=by rfl) (hf:X.fn y=true∨X.env.scope.names.lookup y=some .local:=by first | exact .inl rfl | exact .inr rfl) :
   PSs X (.Assign [.Name y pos'] e pos::rest) (zNu X.K C ns fun ρ=>(fa ρ).bind fun d=>g (ρ.set i (.fz d))):=by
 intro Z s σ H D I h
 refine qE (eT hN hi hx he hs hf) hr Z s σ H D I ?_
 obtain⟨G0,H0,G,ρ,p,dx,pre,us,xs,ds,j0,now,hself,hp,gp,h0,hl,nd,hz,rs,hg,k⟩:=h
 obtain⟨d,h1,h2⟩:=Qq.mp hg
 refine⟨G0,H0,G,ρ,d,j0,h1,fun v H1 G1 s1 r1=>?_⟩
 have gp1:G1 p=none:=(s1.new p _ hp rfl).trans gp
 refine⟨G0,H0,G1,ρ.set i (.fz d),p,dx,pre,us,xs,ds,(j0.step s1).setF i r1,zSl now i d,?_,s1.hh _ _ hp,gp1,h0,hl,nd,hz,rs.mono s1.gg,h2,fun H' G' vs st q1 q2 q3=>k _ H' G' vs st q1 q2 q3⟩
 rw[Ql (Ne.symm hi0)];exact hself
variable {P:Program} {w:World} {K:jh} {mg:Str->Option Value} {base:Heap} {x qual:Str} {st:Stmt} {f C:Addr} {fd:FuncData} {N ps ns:List Str} {k:Nat} {sf:Str}
theorem zSJ {g:Lf}(F:Fun K x qual st f fd)(S:FnScope N (sf::ps) (zW st))(hnd:ns.Nodup)(j5:ns.length<=900)
   (hb:∀(j9:Value) (A:Around) (outer:List Env) (s:Shared) (H:Hp) (E:XK),Room k (A.deeper (envOfC qual (zW st) s.heap.objs.size f j9))->PSs (rL CX0 P w K mg base N qual (zW st) f j9 A outer s H E).nox (yQ st) (zNu K C ns g)) :
   FnOk P w K mg base CX0 (k+1) f fd (sf::ps) (spI K C ns ps.length fun ds=>g (lR N.length ds)):=by
 refine F.ok S (fun vs H Q E h=>?_) (fun j9 A outer s H vs Q E hr h=>⟨_,hb j9 A outer s H E hr,?_⟩)
 · obtain⟨p,dx,rest,G,H0,ds,xs,rfl,_,_,_,_,_,rs,hl,_⟩:=h
   rw[Qo,Qo,←rs.length,hl]
 · obtain⟨p,dx,rest,G,H0,ds,xs,rfl,rfl,h1,h2,h3,sub,rs,hl,hf,k⟩:=h
   have hne:p≠dx:=h3.symm
   have hp1:(upd H0 dx (.own p)) p=none:=by rw[zN hne];exact h1
   have st1:Step G H0 G (upd H0 dx (.own p)):=Step.own sub h2
   have st2:Step G H0 G (upd (upd H0 dx (.own p)) p (.ins C dx [])):=st1.trans (Step.own st1.sub hp1)
   have j0:Good K G H0 G (upd (upd H0 dx (.own p)) p (.ins C dx [])) (xE N (.ref p::rest)) (lR N.length ds):=by
     refine⟨st2,?_,fun i j a b c q1 _ o1 _=>((cI _ ds).own q1 o1).elim⟩
     unfold xE lR
     rw[Qz,Qo,Tq,←rs.length]
     exact .cons .no (qV _ rs)
   refine⟨G,H0,G,_,p,dx,[],[],[],xs,j0,cI _ ds,rfl,zL,sub.free h1,h1,rfl,hnd,j5,zM.mpr rfl,hf,fun σ' H' G' us s' q1 q2 q3=>k H' G' us s' q1 q2 q3⟩
end
section
variable {X:Cx} {e:Expr} {fa:Ef} {pos:Pos}
theorem zQI (i:Nat){x:Str}{pos':Pos}(hN:X.N.Nodup)(he:PF X e fa)(hi:X.N[i]?=some x:=by rfl)(hx:Loc X.env.scope x:=by first | exact .inl rfl | exact .inr rfl)
   (hf:X.fn x=true∨X.env.scope.names.lookup x=some .local:=by first | exact .inl rfl | exact .inr rfl):PFS X (.AugAssign (.Name x pos') .Add e pos) (zA i (xG (eV i) fa)):=by
 refine PS.to (zNK hN hi hx he zOJ hf) ?_
 rintro D σ H ⟨G0,H0,G,ρ,o,j0,hf,k⟩
 unfold zA at hf
 obtain⟨d,h1,rfl⟩:=Qr.mp hf
 obtain⟨a,b,h3,h2,_,rfl⟩:=zVg h1
 obtain⟨v,e1,r1⟩:=zZk j0 h3
 refine⟨v,e1,G0,H0,G,ρ,_,j0,h2,fun y H1 G1 s1 r2=>⟨a,b,zK.mp r1,zK.mp r2,?_⟩⟩
 exact k _ _ G1 s1.gg ((j0.step s1).setF i (zK.mpr rfl))
end
section
variable {X:Cx} {c e o:Expr} {es:List Expr} {fa:Ef} {ga:Lf} {p apos cpos:Pos}
def zYN (c m:Str)(n:Nat)(d:List D->Option (List D))(fa:Ef)(g:Lf):Lf:=fun ρ=>(fa ρ).bind fun x=>(g ρ).bind fun ds=>match x with
 | .obj c' ns _=>if c'=c/\ds.length+1=n/\m∉ns then d (x::ds) else none
 | _=>none
theorem zWD {pl:Sem Bool}{c m:Str}{k n:Nat}{C fad:Addr}{fd:FuncData}{ps:List Str}{d:List D->Option (List D)}(hC:ClsAt X.K c C)(hcl:Cls X.K C)(hm:Meth X.K C m fad)(F:FnOk X.prog X.w X.K X.mg X.base CX0 k fad fd ps (spL X.K n d))(hr:Room k X.A)(hb:Binds X.K fd ps [])
   (ho:PF X o fa)
   (ht:eval (.Call (.Attribute o m apos) [] [] cpos) X.env=(do
     let ov ←eval o X.env
     standAt apos.atName
     let (f,first) ←holding [ov] (getMethod ov m pl)
     callWith cpos f first (backTo cpos (starEach [] X.env)) (backToKw cpos (keywordEach [] X.env))):=by rfl) :
   PFr X (.Call (.Attribute o m apos) [] [] cpos) (zYN c m n d fa zP):=by
 refine PE.toR (zXd (pl:=pl) (E:=E0) ho hcl hm F hr hb .nil jJ ht) ?_
 rintro σ H Q ⟨G0,H0,G,ρ,r,j0,hf,kk⟩
 unfold zYN at hf
 obtain⟨x,h1,hf1⟩:=Qq.mp hf
 obtain⟨ds,h2,hf2⟩:=Qq.mp hf1
 clear hf hf1
 cases h2
 cases x with
 | obj c' ns xs =>
   dsimp only at hf2
   split at hf2
   · rename_i hq
     obtain⟨rfl,hl,hmn⟩:=hq
     refine⟨G0,H0,G,ρ,_,j0,h1,fun v H1 G1 s1 r1=>?_⟩
     obtain⟨C',q,dx,vs,r2,rfl,r3,r4,r5⟩:=mF.mp r1
     have ec:=hC.one r2
     subst ec
     refine⟨q,dx,_,rfl,s1.sub _ _ r3,xA hmn,?_⟩
     exact⟨G1,[.obj c' ns xs],r,s1.sub,zR.mpr ⟨_,_,rfl,r1,zM.mpr rfl⟩,hl,hf2,fun p us H' G' st hn hp gp rr=>kk p us H' G' (s1.trans st) (s1.hh.free hn) hp gp rr⟩
   · cases hf2
 | _=>cases hf2
theorem zWM {E:XK}{pl:Sem Bool}{c m:Str}{k n:Nat}{C fad:Addr}{fd:FuncData}{ps:List Str}{d:jy}{xf:List D->Option Str}(hC:ClsAt X.K c C)(hcl:Cls X.K C)(hm:Meth X.K C m fad)(F:FnOk X.prog X.w X.K X.mg X.base (CXq X.prog X.w) k fad fd ps (spQ X.K n d xf))(hp:oP (CXq X.prog X.w) X E)(hr:Room k X.A)(hb:Binds X.K fd ps [])
   (ho:PF X o fa) (ha:PFA X (e::es) ga)
   (hst:starEach (e::es) X.env=(false,eval e X.env)::starEach es X.env:=by rfl) (hpl:(backTo cpos (starEach es X.env)).any (·.1)=false:=by rfl)
   (ht:eval (.Call (.Attribute o m apos) (e::es) [] cpos) X.env=(do
     let ov ←eval o X.env
     standAt apos.atName
     let (f,first) ←holding [ov] (getMethod ov m pl)
     callWith cpos f first (backTo cpos (starEach (e::es) X.env)) (backToKw cpos (keywordEach [] X.env))):=by rfl) :
   PXE X E (.Call (.Attribute o m apos) (e::es) [] cpos) (zUx c m n xf fa ga):=by
 intro Z s σ H Q I h
 obtain⟨G0,H0,G,ρ,cc,CC,j0,hf,hCC,kk⟩:=h
 unfold zUx at hf
 obtain⟨x,h1,hf1⟩:=Qq.mp hf
 obtain⟨ds,h2,hf2⟩:=Qq.mp hf1
 clear hf hf1
 cases x with
 | obj c' ns xs =>
   dsimp only at hf2
   split at hf2
   · rename_i hq
     obtain⟨rfl,hl,hmn⟩:=hq
     refine zYj (pl:=pl) (E:=E) ho hcl hm F hr hb .nil hp ha hst hpl ht Z s σ H Q I ⟨G0,H0,G,ρ,_,j0,h1,fun v H1 G1 s1 r1=>?_⟩
     obtain⟨C',q,dx,vs,r2,rfl,r3,r4,r5⟩:=mF.mp r1
     have ec:=hC.one r2
     subst ec
     refine⟨q,dx,_,rfl,s1.sub _ _ r3,xA hmn,?_⟩
     refine⟨G0,H0,G1,ρ,ds,j0.step s1,h2,fun us H2 G2 s2 rs=>?_⟩
     show spQ X.K n d xf (.ref q::(us++[])) H2 _ E
     rw[Wn]
     exact⟨G2,.obj c' ns xs::ds,s2.sub,zR.mpr ⟨_,_,rfl,r1.mono s2.gg,rs⟩,hl,.inr ⟨cc,CC,hf2,hCC,fun H' G' st=>kk H' G' ((s1.trans s2).trans st)⟩⟩
   · cases hf2
 | _=>cases hf2
end
abbrev Uf:=List B->Option (Bool×List B)
def tFU (K:jh)(f:Uf):TT:=fun σ H Q=>∃G0 H0 G ρ b ρ1,Good K G0 H0 G H σ ρ/\f ρ=some (b,ρ1)/\∀H' G',Same G G'->Good K G0 H0 G' H' σ ρ1->Q b H'
def PFU (X:Cx)(e:Expr)(f:Uf):Prop:=PT X e (tFU X.K f)
def zQp (X:Cx)(e:Expr)(f:Uf):Prop:=PW X e (tFU X.K f)
def zSM (t:Tf):Uf:=fun ρ=>(t ρ).map fun b=>(b,ρ)
def zV6 (f:Uf):Uf:=fun ρ=>(f ρ).map fun q=>(!q.1,q.2)
def zOh (f g:Uf):Uf:=fun ρ=>(f ρ).bind fun q=>if q.1=true then g q.2 else some (false,q.2)
section
variable {X:Cx} {a b c e:Expr} {rest:List Expr} {ta:Tf} {f g:Uf} {pos:Pos} {sa sb:List Stmt} {fa fb:Sf}
theorem zQe (h:PFT X a ta):PFU X a (zSM ta):=by
 intro Z s σ H Q I hw
 refine h Z s σ H Q I ?_
 obtain⟨G0,H0,G,ρ,b,ρ1,j0,hf,k⟩:=hw
 obtain⟨b',h1,h2⟩:=Qr.mp hf
 cases h2
 exact⟨G0,H0,G,ρ,b,j0,h1,fun H' G' s=>k H' G' s.gg (j0.step s)⟩
theorem zSb (h:PFU X a f):PFU X (.UnaryOp .Not a pos) (zV6 f):=by
 intro Z s σ H Q I hw
 refine zRY h Z s σ H Q I ?_
 obtain⟨G0,H0,G,ρ,b,ρ1,j0,hf,k⟩:=hw
 obtain⟨q,h1,h2⟩:=Qr.mp hf
 cases h2
 exact⟨G0,H0,G,ρ,q.1,q.2,j0,h1,k⟩
theorem zP6 (h:PFU X a f):zQp X (.BoolOp .And [a] pos) f:=zU2 h
theorem zOc (h:PFU X a f)(h2:zQp X (.BoolOp .And (b::rest) pos) g):zQp X (.BoolOp .And (a::b::rest) pos) (zOh f g):=by
 intro wh Z s σ H Q I hw
 refine zRw h h2 wh Z s σ H Q I ?_
 obtain⟨G0,H0,G,ρ,b,ρ1,j0,hf,k⟩:=hw
 obtain⟨q,h1,hf⟩:=Qq.mp hf
 refine⟨G0,H0,G,ρ,q.1,q.2,j0,h1,fun H1 G1 s1 g1=>?_⟩
 split at hf
 · rename_i z;rw[Qu z];exact⟨G0,H0,G1,q.2,b,ρ1,g1,hf,fun H2 G2 s2 g2=>k H2 G2 (s1.trans s2) g2⟩
 · rename_i z;rw[Qs z];cases hf;exact k H1 G1 s1 g1
theorem zMq (h:zQp X e f):PFU X e f:=h.pt
def zUY (f:Uf)(fa fb:Sf):Sf:=fun ρ=>(f ρ).bind fun q=>if q.1=true then fa q.2 else fb q.2
theorem zRW (h:PFU X c f)(ha:PFSs X sa fa)(hb:PFSs X sb fb):PFS X (.If c sa sb pos) (zUY f fa fb):=by
 refine PS.to (zZ2 h ha hb) ?_
 rintro D σ H ⟨G0,H0,G,ρ,o,j0,hf,k⟩
 obtain⟨q,h1,hf⟩:=Qq.mp hf
 refine⟨G0,H0,G,ρ,q.1,q.2,j0,h1,fun H1 G1 s1 g1=>?_⟩
 split at hf
 · rename_i z;rw[Qu z];exact⟨G0,H0,G1,q.2,o,g1,hf,k.mono s1⟩
 · rename_i z;rw[Qs z];exact⟨G0,H0,G1,q.2,o,g1,hf,k.mono s1⟩
end
inductive OutK where
 | nx (ρ:List B)
 | rt (d:D) (ρ:List B)
abbrev Kf:=List B->Option OutK
def WantsK (K:jh)(is:List Nat)(σ:St)(G0 H0 G:Hp)(D:Ends):OutK->Prop
 | .nx ρ1=>∀σ' H' G',Same G G'->Good K G0 H0 G' H' σ' ρ1->(∀i∈is,σ'[i]?=σ[i]?)->D.nx σ' H'
 | .rt d ρ1=>∀v σ' H' G',Same G G'->Good K G0 H0 G' H' σ' ρ1->(∀i∈is,σ'[i]?=σ[i]?)->Rep K G' d v->D.rt v H'
theorem WantsK.mono {K:jh}{is:List Nat}{σ σ1:St}{G0 H0 G G1:Hp}{D:Ends}:∀ {o:OutK},WantsK K is σ G0 H0 G D o->Same G G1->(∀i∈is,σ1[i]?=σ[i]?)->WantsK K is σ1 G0 H0 G1 D o
 | .nx _,h,s,e=>fun σ' H' G' s' g' e'=>h σ' H' G' (s.trans s') g' fun i hi=>(e' i hi).trans (e i hi)
 | .rt _ _,h,s,e=>fun v σ' H' G' s' g' e' r=>h v σ' H' G' (s.trans s') g' (fun i hi=>(e' i hi).trans (e i hi)) r
def tFR (K:jh)(is:List Nat)(f:Kf):TS:=fun D σ H=>∃G0 H0 G ρ o,Good K G0 H0 G H σ ρ/\f ρ=some o/\WantsK K is σ G0 H0 G D o
def PFR (X:Cx)(is:List Nat)(st:Stmt)(f:Kf):Prop:=PS X st (tFR X.K is f)
def zZB (X:Cx)(is:List Nat)(st:List Stmt)(f:Kf):Prop:=PSs X st (tFR X.K is f)
theorem PSR.to {X:Cx}{st:Stmt}{t:TS}{is:List Nat}{f:Kf}(h:PS X st t)(imp:∀D σ H,tFR X.K is f D σ H->t D σ H):PFR X is st f:=fun Z s σ H D I q=>h Z s σ H D I (imp D σ H q)
theorem PSsR.to {X:Cx}{st:List Stmt}{t:TS}{is:List Nat}{f:Kf}(h:PSs X st t)(imp:∀D σ H,tFR X.K is f D σ H->t D σ H):zZB X is st f:=fun Z s σ H D I q=>h Z s σ H D I (imp D σ H q)
def pT (f g:Kf):Kf:=fun ρ=>(f ρ).bind fun o=>match o with | .nx ρ'=>g ρ' | o=>some o
def kIf (t:Tf)(f g:Kf):Kf:=fun ρ=>(t ρ).bind fun c=>if c=true then f ρ else g ρ
def zVa (f:Ef):Kf:=fun ρ=>(f ρ).map fun d=>.rt d ρ
def zV5:Kf:=fun ρ=>some (.nx ρ)
def kOf (f:Sf):Kf:=fun ρ=>match f ρ with | some (.nx ρ')=>some (.nx ρ') | _=>none
theorem cD {f:Sf}{ρ:List B}{o:OutK}(h:kOf f ρ=some o):∃ρ',f ρ=some (.nx ρ')/\o = .nx ρ':=by
 unfold kOf at h
 split at h
 · rename_i ρ' e;cases h;exact⟨ρ',e,rfl⟩
 · cases h
section
variable {X:Cx} {c e:Expr} {st:Stmt} {rest sa sb:List Stmt} {ta:Tf} {fa:Ef} {f g:Kf} {pos:Pos} {is:List Nat}
theorem zXD:zZB X is [] zV5:=by
 refine PSsR.to cK ?_
 rintro D σ H ⟨G0,H0,G,ρ,o,j0,hf,k⟩
 cases hf
 exact k σ H G (Same.refl _) j0 fun _ _=>rfl
theorem aM (h:PFR X is st f):zZB X is [st] f:=cA h
theorem zUd (h1:PFR X is st f)(h2:zZB X is rest g):zZB X is (st::rest) (pT f g):=by
 refine PSsR.to (qE h1 h2) ?_
 rintro D σ H ⟨G0,H0,G,ρ,o,j0,hf,k⟩
 obtain⟨o1,h1,hf⟩:=Qq.mp hf
 refine⟨G0,H0,G,ρ,o1,j0,h1,?_⟩
 cases o1 with
 | nx ρ'=>exact fun σ' H' G' s g' e=>⟨G0,H0,G',ρ',o,g',hf,k.mono s e⟩
 | rt d ρ'=>cases hf;exact k
theorem tT (h:Kf)(hB:h=pT f g)(h1:PFR X is st f)(h2:zZB X is rest g):zZB X is (st::rest) h:=hB ▸ zUd h1 h2
theorem zUg (ht:PFT X c ta)(ha:zZB X is sa f)(hb:zZB X is sb g):PFR X is (.If c sa sb pos) (kIf ta f g):=by
 refine PSR.to (zZ2 ht ha hb) ?_
 rintro D σ H ⟨G0,H0,G,ρ,o,j0,hf,k⟩
 obtain⟨c',h1,hf⟩:=Qq.mp hf
 refine⟨G0,H0,G,ρ,_,j0,h1,fun H1 G1 s1=>?_⟩
 split at hf
 · rename_i h;rw[Qu h];exact⟨G0,H0,G1,ρ,o,j0.step s1,hf,k.mono s1.gg fun _ _=>rfl⟩
 · rename_i h;rw[Qs h];exact⟨G0,H0,G1,ρ,o,j0.step s1,hf,k.mono s1.gg fun _ _=>rfl⟩
theorem zYw (h:PF X e fa):PFR X is (.Return (some e) pos) (zVa fa):=by
 refine PSR.to (zYn h) ?_
 rintro D σ H ⟨G0,H0,G,ρ,o,j0,hf,k⟩
 obtain⟨d,h1,rfl⟩:=Qr.mp hf
 exact⟨G0,H0,G,ρ,d,j0,h1,fun v H' G' s r=>k v σ H' G' s.gg (j0.step s) (fun _ _=>rfl) r⟩
theorem zSq (j:Nat){x:Str}{pos':Pos}(hN:X.N.Nodup)(he:PF X e fa)(hj:j∉is:=by decide)(hi:X.N[j]?=some x:=by rfl)(hx:Loc X.env.scope x:=by first | exact .inl rfl | exact .inr rfl)
   (hs:swapsWith e (some (.Name x pos')) pos.line X.env=pure false:=by rfl) (hf:X.fn x=true∨X.env.scope.names.lookup x=some .local:=by first | exact .inl rfl | exact .inr rfl):PFR X is (.Assign [.Name x pos'] e pos) (kOf (zA j fa)):=by
 refine PSR.to (eT hN hi hx he hs hf) ?_
 rintro D σ H ⟨G0,H0,G,ρ,o,j0,hf,k⟩
 obtain⟨ρ',h0,eo⟩:=cD hf
 unfold zA at h0
 obtain⟨d,h1,h2⟩:=Qr.mp h0
 cases h2
 subst eo
 refine⟨G0,H0,G,ρ,d,j0,h1,fun v H' G' s r=>?_⟩
 exact k _ H' G' s.gg ((j0.step s).setF j r) fun i hi=>Ql fun z=>hj (by rw[z];exact hi)
theorem zQE (j1 j2 j3:Nat){x y z:Str}{pt p1 p2 p3:Pos}{kt:Nat}(hc:X.calm=true)(hN:X.N.Nodup)(he:PF X e fa)(n1:j1∉is:=by decide)(n2:j2∉is:=by decide)(n3:j3∉is:=by decide)
   (h1:X.N[j1]?=some x:=by rfl) (h2:X.N[j2]?=some y:=by rfl) (h3:X.N[j3]?=some z:=by rfl)
   (l1:Loc X.env.scope x:=by first | exact .inl rfl | exact .inr rfl) (l2:Loc X.env.scope y:=by first | exact .inl rfl | exact .inr rfl) (l3:Loc X.env.scope z:=by first | exact .inl rfl | exact .inr rfl)
   (f1:X.fn x=true∨X.env.scope.names.lookup x=some .local:=by first | exact .inl rfl | exact .inr rfl) (f2:X.fn y=true∨X.env.scope.names.lookup y=some .local:=by first | exact .inl rfl | exact .inr rfl) (f3:X.fn z=true∨X.env.scope.names.lookup z=some .local:=by first | exact .inl rfl | exact .inr rfl)
   (hs:swapsWithSole [.Tuple [.Name x p1,.Name y p2,.Name z p3] kt pt] e pos.line X.env=pure false:=by rfl) (hw:swappedStores [.Tuple [.Name x p1,.Name y p2,.Name z p3] kt pt] e X.env=pure none:=by rfl) :
   PFR X is (.Assign [.Tuple [.Name x p1,.Name y p2,.Name z p3] kt pt] e pos) (kOf (gH fa (gT (zF (gN j1) (zF (gN j2) (zF (gN j3) vZ)))))):=by
 refine PSR.to (zYv he (zVK (n:=3) hc (qQ (nN hN h1 l1 f1) (qQ (nN hN h2 l2 f2) (qQ (nN hN h3 l3 f3) zX4 jg) jg) jg) jg jg) hs hw jg) ?_
 rintro D σ H ⟨G0,H0,G,ρ,o,j0,hf,k⟩
 obtain⟨ρ1,hf2,eo⟩:=cD hf
 clear hf
 subst eo
 have hf:=hf2
 clear hf2
 unfold gH at hf
 obtain⟨d,g1,hf⟩:=Qq.mp hf
 obtain⟨ρ',g2,hf⟩:=Qr.mp hf
 cases hf
 refine⟨G0,H0,G,ρ,d,j0,g1,fun v H1 G1 s1 r1=>?_⟩
 unfold gT at g2
 split at g2
 · rename_i ds
   match ds,g2,r1 with
   | [da,db,dc],g2,r1 =>
     cases g2
     obtain⟨p,vs,rfl,e1,e2⟩:=yR.mp r1
     obtain⟨va,r2,rfl,q1,e2⟩:=zR.mp e2
     obtain⟨vb,r3,rfl,q2,e2⟩:=zR.mp e2
     obtain⟨vc,r4,rfl,q3,e2⟩:=zR.mp e2
     rw[zM] at e2
     subst e2
     refine⟨p,_,rfl,s1.sub.tup e1,rfl,va,_,rfl,vb,_,rfl,vc,_,rfl,rfl,?_⟩
     exact k _ H1 G1 s1.gg ((((j0.step s1).setF j1 q1).setF j2 q2).setF j3 q3) fun i hi=>by
       rw[Ql fun z=>n3 (by rw[z];exact hi),Ql fun z=>n2 (by rw[z];exact hi),Ql fun z=>n1 (by rw[z];exact hi)]
 · cases g2
variable {o:Expr} {es:List Expr} {ga:Lf} {apos cpos p1:Pos} {k:Nat}
theorem aS (i:Nat){pl:Sem Bool}{x c m:Str}{k n:Nat}{C fad:Addr}{fd:FuncData}{ps:List Str}{f:List Str->List D->List D->Option (List D)}{p1:Pos}(hC:ClsAt X.K c C)(hcl:Cls X.K C)(hm:Meth X.K C m fad)(F:∀ns,FnOk X.prog X.w X.K X.mg X.base CX0 k fad fd ps (spM X.K c ns n (f ns)))(hr:Room k X.A)(hb:Binds X.K fd ps [])
   (ha:PFA X (e::es) ga) (hN:X.N[i]?=some x:=by rfl) (hv:Vis X.env.scope x:=by first | exact Or.inl rfl | exact Or.inr (Or.inl rfl) | exact Or.inr (Or.inr rfl)) (hd:(x==("__debug__":Str))=false:=by decide) (hcd:(x==("__classdict__":Str))=false:=by decide)
   (hst:starEach (e::es) X.env=(false,eval e X.env)::starEach es X.env:=by rfl) (hpl:(backTo cpos (starEach es X.env)).any (·.1)=false:=by rfl)
   (ht:eval (.Call (.Attribute (.Name x p1) m apos) (e::es) [] cpos) X.env=(do
     let ov ←eval (.Name x p1) X.env
     standAt apos.atName
     let (f,first) ←holding [ov] (getMethod ov m pl)
     callWith cpos f first (backTo cpos (starEach (e::es) X.env)) (backToKw cpos (keywordEach [] X.env))):=by rfl)
   (hs:swapsWith (.Call (.Attribute (.Name x p1) m apos) (e::es) [] cpos) none pos.line X.env=pure false:=by rfl) :
   PFR X is (.Expr (.Call (.Attribute (.Name x p1) m apos) (e::es) [] cpos) pos) (kOf (tU i c m n f ga)):=by
 rintro Z s σ H D I ⟨G0,H0,G,ρ,o,j0,hf,kk⟩
 obtain⟨ρ1,hf2,eo⟩:=cD hf
 clear hf
 subst eo
 have hf:=hf2
 clear hf2
 unfold tU at hf
 obtain⟨ds,h1,hf⟩:=Qq.mp hf
 split at hf
 · rename_i c' ns xs hi
   split at hf
   · rename_i hq
     obtain⟨rfl,hl,hmn,hon⟩:=hq
     obtain⟨ys,h2,hf⟩:=Qr.mp hf
     cases hf
     obtain⟨q,ob,e1,e2,e3,e4,e5⟩:=j0.mu hi
     have e5':=e5
     obtain⟨C',dx,vs,r1,r2,r3,r4⟩:=e5'
     have ec:=hC.one r1
     subst ec
     refine pM (zYj (pl:=pl) (E:=E0) (sW hN hv hd hcd) hcl hm (F ns) hr hb .nil jJ ha hst hpl ht) hs Z s σ H D I ?_
     refine⟨.ref q,e1,q,dx,_,rfl,by rw[e2,r2],xA hmn,G0,H0,G,ρ,ds,j0,h1,fun us H1 G1 s1 rs=>?_⟩
     show spM X.K c' ns n (f ns) (.ref q::(us++[])) H1 _ E0
     rw[Wn]
     have g1:=j0.step s1
     refine⟨q,ob,us,G1,xs,ds,ys,rfl,s1.hh _ _ e2,(s1.new q _ e2 e5.nt).trans e3,e5.mono s1.gg,s1.sub,rs,hl,h2,fun H' G' o' st q1 q2 q3=>?_⟩
     exact kk σ H' G' (s1.gg.trans st.gg) (g1.ioM hi hon e1 st q1 q2 q3) fun _ _=>rfl
   · cases hf
 · cases hf
theorem zQV (i:Nat)(ht:PE X c (tBM X.K "dict" (zTO X.K) (zTp i) (aT (tF X.K fa) zVt)))(hs:swapsWith c none pos.line X.env=pure false:=by rfl):PFR X is (.Expr c pos) (kOf (lS i fa)):=by
 refine PSR.to (pM ht hs) ?_
 rintro D σ H ⟨G0,H0,G,ρ,o,j0,hf,kk⟩
 obtain⟨ρ1,hf2,eo⟩:=cD hf
 clear hf
 subst eo
 have hf:=hf2
 clear hf2
 unfold lS at hf
 obtain⟨dk,g2,hf⟩:=Qq.mp hf
 obtain⟨k,g3,hf⟩:=Qq.mp hf
 split at hf
 · rename_i ks ds hi
   split at hf
   · rename_i hc
     obtain⟨ho,hn⟩:=hc
     cases hf
     obtain⟨q,oq,e1,e2,e3,e4,e5⟩:=j0.mu hi
     obtain⟨vs0,rfl,_,_⟩:=e5
     refine⟨.ref q,e1,.inr (.inr (.inl ⟨rfl,.inr ⟨_,e2⟩⟩)),G0,H0,G,ρ,_,j0,g2,fun u H1 G1 s1 r1=>?_⟩
     obtain⟨q',oq',f1,f2,f3,f4,f5⟩:=(j0.step s1).mu hi
     rw[e1] at f1;cases f1
     obtain⟨vs,rfl,l1,l2⟩:=f5
     obtain⟨b',rfl,e5⟩:=kR g3 r1
     have hv:=sD k l1 l2
     rw[hn] at hv
     obtain⟨w,hw⟩:=Eb.mp hv
     obtain⟨us,a1,a2,a3⟩:=eG k l1 l2
     refine⟨q,b',_,k,w,rfl,rfl,f2,s1.sub.tup e5,hw,?_⟩
     rw[a1]
     exact kk _ _ G1 s1.gg ((j0.step s1).wrM hi ho e1 ⟨us,rfl,a2,a3⟩) fun _ _=>rfl
   · cases hf
 · cases hf
end
def zTR (K:jh)(n:Nat)(f:D->D->List D->Option (D×D×D)):Sp:=fun vs H Q _=>∃(a b:Addr) (o o2:HO) (rest:List V) (G:Hp) (x y:D) (ds:List D) (d x' y':D),vs = .ref a :: .ref b::rest/\H a=some o/\H b=some o2/\G a=none/\G b=none/\RepO K G o x/\RepO K G o2 y/\a≠b/\Same G H/\Reps K G ds rest/\ds.length=n/\f x y ds=some (d,x',y') /\
 ∀v H' G' o' o2',Step G (sH (sH H a) b) G' H'->H' a=some o'->H' b=some o2'->G' a=none->G' b=none->RepO K G' o' x'->RepO K G' o2' y'->Rep K G' d v->Q v H'
def fV (N:Nat)(x y:D)(ds:List D):List B:=.mu x :: .mu y::(ds.map .fz++List.replicate (N - (ds.length+2)) .no)
def zQC:Option OutK->Option (D×D×D) | some (.rt d (.mu x :: .mu y::_))=>some (d,x,y) | _=>none
theorem zQZ {o:Option OutK}{r:D×D×D}(h:zQC o=some r):∃ρ,o=some (.rt r.1 ρ)/\ρ[0]?=some (.mu r.2.1)/\ρ[1]?=some (.mu r.2.2):=by
 unfold zQC at h
 split at h
 · cases h;exact⟨_,rfl,rfl,rfl⟩
 · cases h
def zOY (N:Nat)(f:Kf):D->D->List D->Option (D×D×D):=fun x y ds=>zQC (f (fV N x y ds))
section
variable {P:Program} {w:World} {K:jh} {mg:Str->Option Value} {base:Heap} {x qual:Str} {st:Stmt} {fad:Addr} {fd:FuncData} {N ps:List Str} {k:Nat} {sf sg:Str} {f:Kf}
theorem zRd (F:Fun K x qual st fad fd)(S:FnScope N (sf::sg::ps) (zW st))
   (hb:∀(j9:Value) (A:Around) (outer:List Env) (s:Shared) (H:Hp) (E:XK),Room k (A.deeper (envOfC qual (zW st) s.heap.objs.size fad j9))->zZB (rL CX0 P w K mg base N qual (zW st) fad j9 A outer s H E).nox [0,1] (yQ st) f) :
   FnOk P w K mg base CX0 (k+1) fad fd (sf::sg::ps) (zTR K ps.length (zOY N.length f)):=by
 refine F.ok S (fun vs H Q E h=>?_) (fun j9 A outer s H vs Q E hr h=>?_)
 · obtain⟨a,b,o,o2,rest,G,x,y,ds,d,x',y',rfl,_,_,_,_,_,_,_,_,rr,hl,_⟩:=h
   rw[Qo,Qo,Qo,Qo,←rr.length,hl]
 · refine⟨_,hb j9 A outer s H E hr,?_⟩
   obtain⟨a,b,o,o2,rest,G,x,y,ds,d,x',y',rfl,h1,h2,g1,g2,r1,r2,hab,sub,rr,hl,hf,kk⟩:=h
   have j0:Good K G (sH (sH H a) b) G H (xE N (.ref a :: .ref b::rest)) (fV N.length x y ds):=by
     refine⟨⟨fun c u q=>?_,Same.refl _,sub,fun _ _ _ _=>rfl⟩,?_,fun i j c es es' q1 q1' o1 o2 q3 q4=>?_⟩
     · by_cases hc:c=b
       · rw[hc,xN] at q;cases q
       · rw[xW hc] at q
         by_cases hc2:c=a
         · rw[hc2,xN] at q;cases q
         · rwa[xW hc2] at q
     · unfold xE fV
       rw[Qz,Qz,Qo,Qo,Tq,Tq,←rr.length]
       exact .cons (.mu h1 g1 (by rw[xW hab,xN]) r1) (.cons (.mu h2 g2 xN r2) (qV _ rr))
     · have low:∀(i:Nat) (b:B),(fV N.length x y ds)[i]?=some b->pR b=true->i=0∨i=1:=fun i b q o=>by
         match i,q with
         | 0,_=>exact .inl rfl
         | 1,_=>exact .inr rfl
         | i+2,q =>
           exfalso
           have q:(ds.map B.fz++List.replicate (N.length - (ds.length+2)) B.no)[i]?=some b:=q
           by_cases hi:i < ds.length
           · rw[Wj (by simpa using hi),Wd] at q
             obtain⟨k,_,q⟩:=Qr.mp q
             cases q;cases o
           · rw[Wt (by simpa using hi),Eu] at q
             split at q<;>cases q<;>cases o
       have ea:(xE N (.ref a :: .ref b::rest))[0]?=some (some (.ref a)):=rfl
       have eb:(xE N (.ref a :: .ref b::rest))[1]?=some (some (.ref b)):=rfl
       rcases low i _ q1 o1 with rfl | rfl<;>rcases low j _ q1' o2 with rfl | rfl
       · rfl
       · rw[ea] at q3;rw[eb] at q4;cases q3;cases q4;exact absurd rfl hab
       · rw[eb] at q3;rw[ea] at q4;cases q3;cases q4;exact absurd rfl hab
       · rfl
   obtain⟨ρ1,e1,e2,e3⟩:=zQZ hf
   refine⟨G,sH (sH H a) b,G,_,_,j0,e1,fun v σ' H' G' s' g' e r=>?_⟩
   obtain⟨a',o',q1,q2,q3,q4,q5⟩:=g'.mu e2
   obtain⟨b',o2',t1,t2,t3,t4,t5⟩:=g'.mu e3
   have ea:(xE N (.ref a :: .ref b::rest))[0]?=some (some (.ref a)):=rfl
   have eb:(xE N (.ref a :: .ref b::rest))[1]?=some (some (.ref b)):=rfl
   rw[e 0 je,ea] at q1
   rw[e 1 je,eb] at t1
   cases q1;cases t1
   exact kk v H' G' o' o2' g'.st q2 t2 q3 t3 q5 t5 r
variable {G0 H0 G G' H H':Hp} {σ:St} {ρ:List B} {o' o2':HO} {d d2 x' y':D} {a b:Addr} {i j:Nat}
theorem Good.io2 (g:Good K G0 H0 G H σ ρ)(hi:ρ[i]?=some (.mu d))(hj:ρ[j]?=some (.mu d2))(hk:vT d≠vT d2)(hij:i≠j)(hoi:xJ i (vT d) ρ=true)(hoj:xJ j (vT d2) (ρ.set i (.mu x'))=true)(hs:σ[i]?=some (some (.ref a)))(ht:σ[j]?=some (some (.ref b)))(hab:a≠b)
   (s:Step G (sH (sH H a) b) G' H') (ha:H' a=some o') (hb:H' b=some o2') (ga:G' a=none) (gb:G' b=none) (rx:RepO K G' o' x') (ry:RepO K G' o2' y') :
   Good K G0 H0 G' H' σ ((ρ.set i (.mu x')).set j (.mu y')):=by
 obtain⟨b',o2,e1,e2,e3,e4,e5⟩:=g.mu hj
 rw[ht] at e1;cases e1
 have s1:Step G (sH H a) G' (upd H' b o2):=by
   refine⟨fun c u q=>?_,s.gg,fun c u q=>?_,fun c u q z=>?_⟩
   · by_cases hc:c=b
     · rw[hc,xW (Ne.symm hab),e2] at q
       rw[hc,zL];exact q
     · rw[zN hc];exact s.hh c u (by rw[xW hc];exact q)
   · rw[zN (zC q gb)];exact s.sub c u q
   · by_cases hc:c=b
     · rw[hc,gb,e3]
     · exact s.new c u (by rw[xW hc];exact q) z
 have g1:=g.ioM hi hoi hs s1 (by rw[zN hab];exact ha) ga rx
 have hj1:(ρ.set i (.mu x'))[j]?=some (.mu d2):=by rw[Ql hij];exact hj
 have s2:Step G' (sH (upd H' b o2) b) G' H':=by
   refine⟨fun c u q=>?_,Same.refl _,s.sub,fun _ _ _ _=>rfl⟩
   by_cases hc:c=b
   · rw[hc,xN] at q;cases q
   · rw[xW hc,zN hc] at q;exact q
 exact g1.ioM hj1 hoj ht s2 hb gb ry
variable {X:Cx} {es:List Expr} {ga:Lf} {pos p p1 p2 cpos:Pos} {x2 y:Str}
def gR (i j n:Nat)(f:D->D->List D->Option (D×D×D))(g:Lf):Uf:=fun ρ=>(g ρ).bind fun ds=>match ρ[i]?,ρ[j]? with
 | some (.mu x),some (.mu y)=>if ds.length=n/\i≠j/\vT x≠vT y/\xJ i (vT x) ρ=true then(f x y ds).bind fun r=>match r.1 with
     | .bl b=>if xJ j (vT y) (ρ.set i (.mu r.2.1))=true then some (b,(ρ.set i (.mu r.2.1)).set j (.mu r.2.2)) else none
     | _=>none
   else none
 | _,_=>none
theorem zUo (i j:Nat){jj k n:Nat}{t:FnT X.K X.mg y st ps}{f:D->D->List D->Option (D×D×D)}(F:FnOk X.prog X.w X.K X.mg X.base CX0 jj t.f t.fd ps (zTR X.K n f))(hr:Room k X.A)(ha:PFA X es ga)(hj:jj<=k:=by lia)(hg:Gl X y:=by rfl)
   (hN:X.N[i]?=some x:=by rfl) (hv:Vis X.env.scope x:=by first | exact Or.inl rfl | exact Or.inr (Or.inl rfl) | exact Or.inr (Or.inr rfl)) (hd:(x==("__debug__":Str))=false:=by decide) (hcd:(x==("__classdict__":Str))=false:=by decide)
   (hN2:X.N[j]?=some x2:=by rfl) (hv2:Vis X.env.scope x2:=by first | exact Or.inl rfl | exact Or.inr (Or.inl rfl) | exact Or.inr (Or.inr rfl)) (hd2:(x2==("__debug__":Str))=false:=by decide) (hcd2:(x2==("__classdict__":Str))=false:=by decide) (hdb:(y==("__debug__":Str))=false:=by decide)
   (hst:starEach (.Name x p1 :: .Name x2 p2::es) X.env=(false,eval (.Name x p1) X.env)::starEach (.Name x2 p2::es) X.env:=by rfl) (hst2:starEach (.Name x2 p2::es) X.env=(false,eval (.Name x2 p2) X.env)::starEach es X.env:=by rfl) (hpl:(backTo cpos (starEach (.Name x2 p2::es) X.env)).any (·.1)=false:=by rfl)
   (he:∀whole,isTrue (.Call (.Name y p) (.Name x p1 :: .Name x2 p2::es) [] cpos) X.env whole=(do let v ←whole;standAt (Expr.Call (.Name y p) (.Name x p1 :: .Name x2 p2::es) [] cpos).pos;holding [v] (truthy v)):=by intro _;rfl) :
   PFU X (.Call (.Name y p) (.Name x p1 :: .Name x2 p2::es) [] cpos) (gR i j n f ga):=by
 intro Z s σ H Q I hw
 refine zSt (cC (E:=E0) F (hr.mono hj) hg t.m t.F.kp t.b .nil jJ (yZ (sW hN hv hd hcd) (yZ (sW hN2 hv2 hd2 hcd2) ha hst2) hst) hdb hst hpl) he Z s σ H Q I ?_
 obtain⟨G0,H0,G,ρ,bb,ρ1,j0,hf,kk⟩:=hw
 unfold gR at hf
 obtain⟨ds,h1,hf⟩:=Qq.mp hf
 split at hf
 · rename_i x y hi hj'
   split at hf
   · rename_i hq
     obtain⟨hl,hij,hkk,hon⟩:=hq
     obtain⟨⟨d,x',y'⟩,h2,hf⟩:=Qq.mp hf
     dsimp only at hf
     split at hf
     · rename_i b hd
       split at hf
       · rename_i hon2
         cases hf
         obtain⟨q,ob,e1,e2,e3,e4,e5⟩:=j0.mu hi
         obtain⟨q2,ob2,f1,f2,f3,f4,f5⟩:=j0.mu hj'
         have hab:q≠q2:=fun z=>by
           rw[z,f2] at e2
           cases e2
           exact hkk (e5.kind f5)
         refine⟨.ref q,e1,.ref q2,f1,G0,H0,G,ρ,ds,j0,h1,fun us H1 G1 s1 rs=>?_⟩
         show zTR X.K n f ((.ref q :: .ref q2::us)++[]) H1 _ E0
         rw[Wn]
         have g1:=j0.step s1
         refine⟨q,q2,ob,ob2,us,G1,x,y,ds,_,x',y',rfl,s1.hh _ _ e2,s1.hh _ _ f2,(s1.new q _ e2 e5.nt).trans e3,(s1.new q2 _ f2 f5.nt).trans f3,e5.mono s1.gg,f5.mono s1.gg,hab,s1.sub,rs,hl,h2,fun v H' G' o' o2' st q1 t1 q2' t2 q3 t3 r=>?_⟩
         refine⟨_,xD.mp r,kk H' G' (s1.gg.trans st.gg) ?_⟩
         exact g1.io2 hi hj' hkk hij hon hon2 e1 f1 hab st q1 t1 q2' t2 q3 t3
       · cases hf
     · cases hf
   · cases hf
 · cases hf
def zRE (x y:D):Option Bool:=(eqD 40 x y).map (!·)
theorem zNP (hr:Room k X.A):CmR X .NotEq zRE:=by
 refine⟨fun x y H Q=>∃G d d' b,Same G H/\Rep X.K G d x/\Rep X.K G d' y/\eqD 40 d d'=some b/\Q (.bl (!b)) H,?_,fun d d' k G H x y Q h s rx ry q=>?_⟩
 · intro Z s σ H x y v u Q I rx ry ⟨G,d,d',b,sub,r1,r2,h,q⟩
   have hu:=hr.units
   exact(zS4 I sub 40 X.A d d' x y v u b jc h r1 r2 rx ry).2.1 X.prog X.w X.xe _ ⟨.bl (!b),H,I,rfl,q⟩
 · unfold zRE at h
   obtain⟨b,h1,rfl⟩:=Qr.mp h
   exact⟨G,d,d',b,s,rx,ry,h1,q H G (.refl s)⟩
end
section
variable {X:Cx} {k:Nat}
def zVh:D->D->Option Bool
 | .non,.tup _=>some true
 | d,d'=>jS d d'
theorem zSR (hr:Room k X.A):CmR X .NotEq zVh:=by
 refine⟨fun x y H Q=>∃G d d' b,Same G H/\Rep X.K G d x/\Rep X.K G d' y/\zVh d d'=some b/\Q (.bl b) H,?_,fun d d' k G H x y Q h s rx ry q=>⟨G,d,d',k,s,rx,ry,h,q H G (.refl s)⟩⟩
 intro Z s σ H x y v u Q I rx ry ⟨G,d,d',b,sub,r1,r2,h,q⟩
 have hu:=hr.units
 unfold zVh at h
 split at h
 · cases h
   rw[w4] at r1
   subst r1
   cases rx
   obtain⟨a,vs,rfl,q1,q2⟩:=yR.mp r2
   cases ry
   obtain⟨j6,w1,t1,_⟩:=I.tuple (sub.tup q1)
   exact SeqAt.RcNeAt.none_tuple t1 jc X.prog X.w X.xe _ ⟨.bl true,H,I,rfl,q⟩
 · unfold jS at h
   obtain⟨b',h1,rfl⟩:=Qr.mp h
   exact(zS4 I sub 8 X.A _ _ x y v u b' jc h1 r1 r2 rx ry).2.1 X.prog X.w X.xe _ ⟨.bl (!b'),H,I,rfl,q⟩
variable {pos:Pos}
def zMP (i j l:Nat)(ta:TA):TS:=fun D σ H=>ta σ H fun vs H1=>∃v w z,vs=[v,w,z]/\D.nx (((σ.set i (some v)).set j (some w)).set l (some z)) H1
theorem zPT {i j l:Nat}{x y z:Str}{a b c:Expr}{ta:TA}{px py pz pt:Pos}{kt k2 pt2}(hc:X.calm=true)(hN:X.N.Nodup)(hi:X.N[i]?=some x)(hj:X.N[j]?=some y)(hl:X.N[l]?=some z)(hij:i≠j)(hil:i≠l)(hjl:j≠l)
   (hx:X.env.scope.names.lookup x=some .local) (hy:X.env.scope.names.lookup y=some .local) (hz:X.env.scope.names.lookup z=some .local) (ha:PA X [a,b,c] ta)
   (hw:swappedStores [.Tuple [.Name x px,.Name y py,.Name z pz] kt pt] (.Tuple [a,b,c] k2 pt2) X.env=pure (some [x,y,z]))
   (hs:swapsWithSole [.Tuple [.Name x px,.Name y py,.Name z pz] kt pt] (.Tuple [a,b,c] k2 pt2) pos.line X.env=pure false:=by rfl) :
   PS X (.Assign [.Tuple [.Name x px,.Name y py,.Name z pz] kt pt] (.Tuple [a,b,c] k2 pt2) pos) (zMP i j l ta):=by
 intro Z s σ H D I h
 rw[exec_Assign_arm]
 refine Qe (Yl ?_)
 rw[hs]
 refine Qe (Qh ?_)
 rw[Qs jb]
 refine Qe (Tuple_ (thn (ha _ Z s σ H _ I h) fun us s1 ⟨vs,H1,I1,r1,q1⟩=>?_))
 obtain⟨v,w,zz,e1,q1⟩:=q1
 subst e1
 obtain⟨u1,u2,u3,rfl,rv,rw',rz⟩:∃u1 u2 u3,us=[u1,u2,u3]/\RelV v u1/\RelV w u2/\RelV zz u3:=by
   cases r1 with
   | cons p q =>
     cases q with
     | cons p' q' =>
       cases q' with
       | cons p'' q'' =>
         cases q''
         exact⟨_,_,_,rfl,p,p',p''⟩
 refine Tx ?_ (by show 3<=sizeLine;decide)
 have I2:Inv X Z σ H1 { s1 with heap:=s1.heap.push { cls:=.type "tuple",data:=.seq [u1,u2,u3].toArray } }:=I1.kept (t':=s1.toks) fun b o e=>Qy _ e
 rw[hw]
 refine Qe (Qh ?_)
 show wpAny (model X.prog X.w) X.A (do rule "assign.swapped-stores";let items ←unpackItems (.ref s1.heap.objs.size) 3 none;assignInOrder [fun v=>bindName X.env z v,fun v=>bindName X.env y v,fun v=>bindName X.env x v] items.reverse;pure Flow.next) _ _ _
 refine Qe (Tv (Qe (unpackItems_tuple (items:=#[u1,u2,u3]) (I.ok.hd hc) (IsTup.new s1.heap _) fun h' hx'=>?_)))
 have I3:=I2.kept (h':=h') (t':=s1.toks) fun b o e=>hx' b o (Wi (Qd e)) e
 show wpAny _ _ (assignInOrder [fun v=>bindName X.env z v,fun v=>bindName X.env y v,fun v=>bindName X.env x v] [u3,u2,u1] >>= fun _=>pure Flow.next) _ _ _
 refine Qe (Uw (Ir (qB I3 hN hl (.inl hz) rz (fun s2 I4=>?_) (.inr hz))))
 refine Uw (Ir (qB I4 hN hj (.inl hy) rw' (fun s3 I5=>?_) (.inr hy)))
 refine Uw (Ir (qB I5 hN hi (.inl hx) rv (fun s4 I6=>assignInOrder_nil (Qh ?_)) (.inr hx)))
 rw[List.set_comm _ _ (Ne.symm hij),List.set_comm _ _ (Ne.symm hil),List.set_comm _ _ (Ne.symm hjl)] at I6
 exact⟨_,H1,I6,q1⟩
def zUA (i j l:Nat)(g:Lf):Sf:=fun ρ=>match g ρ with | some [a,b,c]=>some (.nx (((ρ.set i (.fz a)).set j (.fz b)).set l (.fz c))) | _=>none
theorem zR6 (i j l:Nat){x y z:Str}{a b c:Expr}{ga:Lf}{px py pz pt:Pos}{kt k2 pt2}(hc:X.calm=true)(hN:X.N.Nodup)(ha:PFA X [a,b,c] ga)(hi:X.N[i]?=some x:=by rfl)(hj:X.N[j]?=some y:=by rfl)(hl:X.N[l]?=some z:=by rfl)(hij:i≠j:=by decide)(hil:i≠l:=by decide)(hjl:j≠l:=by decide)
   (hx:X.env.scope.names.lookup x=some .local:=by rfl) (hy:X.env.scope.names.lookup y=some .local:=by rfl) (hz:X.env.scope.names.lookup z=some .local:=by rfl)
   (hw:swappedStores [.Tuple [.Name x px,.Name y py,.Name z pz] kt pt] (.Tuple [a,b,c] k2 pt2) X.env=pure (some [x,y,z]):=by rfl)
   (hs:swapsWithSole [.Tuple [.Name x px,.Name y py,.Name z pz] kt pt] (.Tuple [a,b,c] k2 pt2) pos.line X.env=pure false:=by rfl) :
   PFS X (.Assign [.Tuple [.Name x px,.Name y py,.Name z pz] kt pt] (.Tuple [a,b,c] k2 pt2) pos) (zUA i j l ga):=by
 refine PS.to (zPT hc hN hi hj hl hij hil hjl hx hy hz ha hw hs) ?_
 rintro D σ H ⟨G0,H0,G,ρ,o,j0,hf,k⟩
 unfold zUA at hf
 split at hf
 · rename_i da db dc e
   cases hf
   refine⟨G0,H0,G,ρ,_,j0,e,fun vs H1 G1 s1 rs=>?_⟩
   obtain⟨va,r2,rfl,q1,e2⟩:=zR.mp rs
   obtain⟨vb,r3,rfl,q2,e2⟩:=zR.mp e2
   obtain⟨vc,r4,rfl,q3,e2⟩:=zR.mp e2
   rw[zM] at e2
   subst e2
   exact⟨va,vb,vc,rfl,k _ H1 G1 s1.gg ((((j0.step s1).setF i q1).setF j q2).setF l q3)⟩
 · cases hf
end
theorem uR {f g:Sf}{ρ ρ':List B}(h:f ρ=some (.nx ρ')):zG f g ρ=g ρ':=by unfold zG;rw[h];rfl
theorem yB {f g:Sf}{ρ ρ':List B}{r:Option D}(h:f ρ=some (.nx ρ'))(k:(g ρ').bind vW=r):(zG f g ρ).bind vW=r:=by rw[uR h];exact k
theorem zUj {f g:Sf}{ρ:List B}{d:D}(h:f ρ=some (.rt d)):zG f g ρ=some (.rt d):=by unfold zG;rw[h];rfl
theorem mH {g:Gf}{body:Sf}{d:D}{r:List D}{ρ ρ1 ρ2:List B}(h1:g d ρ=some ρ1)(h2:body ρ1=some (.nx ρ2)):lL g body (d::r) ρ=lL g body r ρ2:=by
 rw[lL,h1,Qw,h2,Qw]
theorem zQ {f:Ef}{g:Lf}{ρ:List B}{d:D}{ds:List D}(h1:f ρ=some d)(h2:g ρ=some ds):zY f g ρ=some (d::ds):=by unfold zY;rw[h1,h2];rfl
theorem wC {g:Lf}{ρ:List B}{ds:List D}(h:g ρ=some ds):eL g ρ=some (.lst ds):=by unfold eL;rw[h];rfl
theorem zZI {n:Nat}{f:jy}{g:Lf}{ρ:List B}{ds:List D}(h:g ρ=some ds)(hl:ds.length=n):zI n f g ρ=f ds:=by unfold zI;rw[h,Qw,Qu hl]
theorem zS5 {c:Str}{ns:List Str}{n:Nat}{f:List D->Option (List D)}{g:Lf}{ρ:List B}{ds xs:List D}(h:g ρ=some ds)(hl:ds.length=n)(hf:f ds=some xs)(hn:ns.length=xs.length):kP c ns n f g ρ=some (.obj c ns xs):=by
 unfold kP;rw[h,Qw,Qu hl,hf,Qw,Qu hn]
theorem zW6 {g:Gf}{body:Sf}{P:List B->Prop}:∀(ds:List D),(∀d∈ds,∀ρ,P ρ->∃ρ1 ρ2,g d ρ=some ρ1/\body ρ1=some (.nx ρ2)/\P ρ2)->∀ρ,P ρ->∃ρ',lL g body ds ρ=some (.nx ρ')/\P ρ'
 | [],_,ρ,h=>⟨ρ,rfl,h⟩
 | d::r,hs,ρ,h=>by
   obtain⟨ρ1,ρ2,e1,e2,h2⟩:=hs d Qv ρ h
   obtain⟨ρ',e,h'⟩:=zW6 r (fun d hd=>hs d (Qk _ hd)) ρ2 h2
   exact⟨ρ',by rw[mH e1 e2];exact e,h'⟩
theorem zYt {g:Gf}{body:Sf}{P:Nat->List B->Prop}:∀(ds:List D) (n:Nat),(∀(i:Nat) (d:D),ds[i]?=some d->∀ρ,P (n+i) ρ->∃ρ1 ρ2,g d ρ=some ρ1/\body ρ1=some (.nx ρ2)/\P (n+i+1) ρ2)->∀ρ,P n ρ->∃ρ',lL g body ds ρ=some (.nx ρ')/\P (n+ds.length) ρ'
 | [],_,_,ρ,h=>⟨ρ,rfl,h⟩
 | d::r,n,hs,ρ,h=>by
   obtain⟨ρ1,ρ2,e1,e2,h2⟩:=hs 0 d rfl ρ h
   obtain⟨ρ',e,h'⟩:=zYt r (n+1) (fun i d hd ρ hρ=>by
     have q:=hs (i+1) d (by simpa using hd) ρ (by rw[show n+(i+1)=n+1+i by lia];exact hρ)
     rw[show n+(i+1)+1=n+1+i+1 by lia] at q
     exact q) ρ2 h2
   exact⟨ρ',by rw[mH e1 e2];exact e,by rw[Qo,show n+(r.length+1)=n+1+r.length by lia];exact h'⟩
theorem aA {lo:Int}{n:Nat}{d:D}(h:d∈rQ lo n):∃i:Nat,i < n/\d = .int (lo+i):=by
 unfold rQ at h
 obtain⟨i,hi,rfl⟩:=Yg.mp h
 exact⟨i,Po.mp hi,rfl⟩
theorem zSA {lo:Int}{n i:Nat}{d:D}(h:(rQ lo n)[i]?=some d):i < n/\d = .int (lo+i):=by
 have hl:(rQ lo n).length=n:=by simp[rQ]
 have hi:i < n:=by rw[←hl];exact(Qn.mp h).1
 unfold rQ at h
 rw[Wd,Ia hi] at h
 exact⟨hi,(Wh h).symm⟩
theorem kL (lo:Int)(n:Nat):(rQ lo n).length=n:=by simp[rQ]
theorem rS {t:List D}(h:t.length<=100000):okL t=some t:=by
 unfold okL
 rw[Qu h]
theorem lN {α:Type}(xs:List α)(i:Int)(d:α)(h0:0<=i)(h1:i < xs.length):atI xs i=some (xs.getD i.toNat d):=by
 unfold atI ixN
 rw[Qu h0,Qu h1]
 have:i.toNat < xs.length:=jc
 simp[List.getD,this]
theorem kJ {α β:Type}(f:α->β)(xs:List α)(i:Int):atI (xs.map f) i=(atI xs i).map f:=by
 unfold atI
 rw[Qi]
 cases ixN xs.length i with
 | none=>rfl
 | some j=>simp
theorem nL {i j:Int}(h1 : -18446744073709551616 < i)(h2:i < 18446744073709551616):jN i j=true:=by
 unfold jN;simp only[Ts,Wg,Ed];exact .inl ⟨jc,jc⟩
theorem zO4 {i j:Int}(h1 : -18446744073709551616 < j)(h2:j < 18446744073709551616):jN i j=true:=by
 unfold jN;simp only[Ts,Wg,Ed];exact .inr ⟨jc,jc⟩
theorem kO (x y:Str):(x++y).length=x.length+y.length:=Str.length_append x y
theorem zVq {x y:Str}(h:x.length+y.length<=100000):zOn (.str x) (.str y)=some (.str (x++y)):=by
 show(if x.length+y.length<=lim then _ else none)=_
 rw[Qu h]
theorem zPC {x:Str}{i:Int}(h0:0<=i)(h1:i < x.length)(h:x.length<=100000):atD (.str x) (.int i)=some (.str ⟨#[x.cps.toList.getD i.toNat 0]⟩):=by
 have hl:x.cps.toList.length=x.length:=Wk
 show(if x.length<=lim then _ else none)=_
 rw[Qu h,lN _ i 0 h0 (by rw[hl];exact h1)]
 rfl
end L2
namespace My
open PySem L2
abbrev lQ:Stmt:=top 27
abbrev hV:Stmt:=top 28
abbrev mP:Stmt:=top 29
abbrev kC:Stmt:=top 33
abbrev qG:Stmt:=top 39
abbrev iQ:Stmt:=top 26
abbrev mE:Stmt:=top 31
abbrev oW:Stmt:=top 32
abbrev zZK:Stmt:=top 38
abbrev eS:Stmt:=top 20
abbrev zUW:Stmt:=top 13
abbrev zU3:Stmt:=top 14
abbrev rA:Stmt:=top 15
abbrev hW:Stmt:=top 18
abbrev oS:Stmt:=top 16
abbrev uI:Stmt:=wI (top 24) 1
abbrev gU:Stmt:=top 19
abbrev uP:Stmt:=top 17
abbrev vH:Stmt:=wI (top 24) 2
abbrev iP:Stmt:=top 35
abbrev oO:Stmt:=top 37
abbrev nE:Stmt:=top 22
abbrev w9:Stmt:=wI (top 24) 5
abbrev tP:Stmt:=top 21
abbrev wP:Stmt:=wI (top 24) 3
abbrev nO:Stmt:=top 40
abbrev kU:Stmt:=top 30
abbrev rZ:Stmt:=top 34
abbrev iG:Stmt:=top 36
abbrev zRG:Stmt:=top 41
abbrev rF:Stmt:=wI (top 12) 0
abbrev nX:Stmt:=wI (top 24) 0
set_option genInjectivity false
set_option genSizeOf false
set_option genSizeOfSpec false
structure Txt (K:jh)(mg:Str->Option Value) where
 q0:FnT K mg "_law_mixed" lQ ["_law_cell_here","_law_k"]
 q1:FnT K mg "_law_word" hV ["_law_seed","_law_j"]
 q2:FnT K mg "_law_pool" mP ["_law_seed"]
 q3:FnT K mg "_law_due" kC ["_law_kept_here"]
 q4:FnT K mg "_law_stranger" qG ["_law_pool_here","_law_kept_here","_law_pick"]
 q5:FnT K mg "_law_cell" iQ ["_law_script","_law_k"]
 q6:FnT K mg "_law_number" mE ["_law_found"]
 q7:FnT K mg "_law_entries" oW ["_law_found","_law_due_here"]
 q8:FnT K mg "_law_is" zZK ["_law_caught","_law_due_here"]
 q9:FnT K mg "root_of" eS ["pages"]
 q10:FnT K mg "rank" zUW ["entry"]
 q11:FnT K mg "way" zU3 ["branch","entry"]
 q12:FnT K mg "entry_like" rA ["page","entry"]
 q13:FnT K mg "pages_of" hW ["leaf","things","size"]
 q14:FnT K mg "put_beneath" oS ["page","entry","size"]
 q16:FnT K mg "filled" gU ["pages","size"]
 q17:FnT K mg "taken_beneath" uP ["page","entry","size"]
 q19:FnT K mg "_law_done" iP ["_law_store","_law_deed"]
 q20:FnT K mg "_law_refused" oO ["_law_store","_law_deed"]
 q21:FnT K mg "shape_of" nE ["page"]
 q23:FnT K mg "entries_beneath" tP ["page"]
 q25:FnT K mg "_law_missed" nO ["_law_store","_law_kept_here","_law_stranger_here"]
 q26:FnT K mg "_law_entry" kU ["_law_pool_here","_law_cell_here","_law_k"]
 q27:FnT K mg "_law_deeds" rZ ["_law_pool_here","_law_cell_here","_law_kept_here"]
 q28:FnT K mg "_law_kept" iG ["_law_kept_here","_law_deed"]
 q29:FnT K mg "law" zRG ["_law_script"]
 C_Page:Addr
 fi_Page:Addr
 fdi_Page:FuncData
 ca_Page:ClsAt K "Page" C_Page
 cl_Page:Cls K C_Page
 mc_Page:mg "Page"=some (.ref C_Page)
 Fi_Page:Fun K "__init__" "Page.__init__" rF fi_Page fdi_Page
 bi_Page:Binds K fdi_Page ["self","leaf","things"] []
 mk_Page:Mk K C_Page fi_Page
 n_Page_leaf:NoAttr K C_Page "leaf"
 n_Page_leasts:NoAttr K C_Page "leasts"
 n_Page_most:NoAttr K C_Page "most"
 n_Page_things:NoAttr K C_Page "things"
 C_Store:Addr
 fi_Store:Addr
 fdi_Store:FuncData
 ca_Store:ClsAt K "Store" C_Store
 cl_Store:Cls K C_Store
 mc_Store:mg "Store"=some (.ref C_Store)
 Fi_Store:Fun K "__init__" "Store.__init__" nX fi_Store fdi_Store
 bi_Store:Binds K fdi_Store ["self","size"] []
 mk_Store:Mk K C_Store fi_Store
 n_Store_root:NoAttr K C_Store "root"
 n_Store_size:NoAttr K C_Store "size"
 f_Store_put:Addr
 fd_Store_put:FuncData
 F_Store_put:Fun K "put" "Store.put" uI f_Store_put fd_Store_put
 b_Store_put:Binds K fd_Store_put ["self","entry"] []
 me_Store_put:Meth K C_Store "put" f_Store_put
 f_Store_take:Addr
 fd_Store_take:FuncData
 F_Store_take:Fun K "take" "Store.take" vH f_Store_take fd_Store_take
 b_Store_take:Binds K fd_Store_take ["self","entry"] []
 me_Store_take:Meth K C_Store "take" f_Store_take
 f_Store_shape:Addr
 fd_Store_shape:FuncData
 F_Store_shape:Fun K "shape" "Store.shape" w9 f_Store_shape fd_Store_shape
 b_Store_shape:Binds K fd_Store_shape ["self"] []
 me_Store_shape:Meth K C_Store "shape" f_Store_shape
 f_Store_listed:Addr
 fd_Store_listed:FuncData
 F_Store_listed:Fun K "listed" "Store.listed" wP f_Store_listed fd_Store_listed
 b_Store_listed:Binds K fd_Store_listed ["self"] []
 me_Store_listed:Meth K C_Store "listed" f_Store_listed
 C_Twice:Addr
 ca_Twice:ClsAt K "Twice" C_Twice
 mc_Twice:mg "Twice"=some (.ref C_Twice)
 xk_Twice:XKit K C_Twice
 kc_Twice:PySem.W.keepIn K (.ref C_Twice)=true
 xc_Twice:zV8 K C_Twice
 C_NoEntry:Addr
 ca_NoEntry:ClsAt K "NoEntry" C_NoEntry
 mc_NoEntry:mg "NoEntry"=some (.ref C_NoEntry)
 xk_NoEntry:XKit K C_NoEntry
 kc_NoEntry:PySem.W.keepIn K (.ref C_NoEntry)=true
 xc_NoEntry:zV8 K C_NoEntry
 C_YardError:Addr
 ca_YardError:ClsAt K "YardError" C_YardError
 mc_YardError:mg "YardError"=some (.ref C_YardError)
 C_BadBox:Addr
 ca_BadBox:ClsAt K "BadBox" C_BadBox
 mc_BadBox:mg "BadBox"=some (.ref C_BadBox)
 C_TooWide:Addr
 ca_TooWide:ClsAt K "TooWide" C_TooWide
 mc_TooWide:mg "TooWide"=some (.ref C_TooWide)
 C_OffFloor:Addr
 ca_OffFloor:ClsAt K "OffFloor" C_OffFloor
 mc_OffFloor:mg "OffFloor"=some (.ref C_OffFloor)
 C_Unmet:Addr
 ca_Unmet:ClsAt K "Unmet" C_Unmet
 mc_Unmet:mg "Unmet"=some (.ref C_Unmet)
 C_TextError:Addr
 ca_TextError:ClsAt K "TextError" C_TextError
 mc_TextError:mg "TextError"=some (.ref C_TextError)
 C_NoThing:Addr
 ca_NoThing:ClsAt K "NoThing" C_NoThing
 mc_NoThing:mg "NoThing"=some (.ref C_NoThing)
 ix_YardError:vR K (.ref C_YardError) [(C_Twice,true),(C_NoEntry,true)]=true
 ix_ValueError:vR K (.type "ValueError") [(C_Twice,true),(C_NoEntry,true)]=true
 ix_Twice:vR K (.ref C_Twice) [(C_Twice,true),(C_NoEntry,false)]=true
 ix_NoEntry:vR K (.ref C_NoEntry) [(C_Twice,false),(C_NoEntry,true)]=true
 ix_BadBox:vR K (.ref C_BadBox) [(C_Twice,false),(C_NoEntry,false)]=true
 ix_TooWide:vR K (.ref C_TooWide) [(C_Twice,false),(C_NoEntry,false)]=true
 ix_OffFloor:vR K (.ref C_OffFloor) [(C_Twice,false),(C_NoEntry,false)]=true
 ix_Unmet:vR K (.ref C_Unmet) [(C_Twice,false),(C_NoEntry,false)]=true
 ix_TextError:vR K (.ref C_TextError) [(C_Twice,false),(C_NoEntry,false)]=true
 ix_NoThing:vR K (.ref C_NoThing) [(C_Twice,false),(C_NoEntry,false)]=true
 em_YardError_Twice:PySem.W.exmOne K (.ref C_Twice) (.ref C_YardError)=some true
 em_YardError_NoEntry:PySem.W.exmOne K (.ref C_NoEntry) (.ref C_YardError)=some true
 z_ValueError:mg "ValueError"=none
 z_bool:mg "bool"=none
 z_enumerate:mg "enumerate"=none
 z_int:mg "int"=none
 z_isinstance:mg "isinstance"=none
 z_len:mg "len"=none
 z_list:mg "list"=none
 z_max:mg "max"=none
 z_min:mg "min"=none
 z_range:mg "range"=none
 z_sorted:mg "sorted"=none
 z_str:mg "str"=none
 z_tuple:mg "tuple"=none
 z_zip:mg "zip"=none
set_option genInjectivity true
set_option genSizeOf true
set_option genSizeOfSpec true
section
seal PySem.Sem.wp
variable {P:Program} {w:World} {K:jh} {mg:Str->Option Value} {base:Heap}
def fB:List (Str×Bool):=[("Twice",true),("NoEntry",true)]
theorem zZC (T:Txt K mg):IsxOk K (.ref T.C_YardError) fB:=have h:=T.ix_YardError;(yM T.ca_Twice T.xk_Twice h fun h=>(yM T.ca_NoEntry T.xk_NoEntry h fun h=>sO))
def iZ:List (Str×Bool):=[("Twice",true),("NoEntry",true)]
theorem zZX (T:Txt K mg):IsxOk K (.type "ValueError") iZ:=have h:=T.ix_ValueError;(yM T.ca_Twice T.xk_Twice h fun h=>(yM T.ca_NoEntry T.xk_NoEntry h fun h=>sO))
def zWp:List (Str×Bool):=[("Twice",true),("NoEntry",false)]
theorem zTu (T:Txt K mg):IsxOk K (.ref T.C_Twice) zWp:=have h:=T.ix_Twice;(yM T.ca_Twice T.xk_Twice h fun h=>(yM T.ca_NoEntry T.xk_NoEntry h fun h=>sO))
def aY:List (Str×Bool):=[("Twice",false),("NoEntry",true)]
theorem zXa (T:Txt K mg):IsxOk K (.ref T.C_NoEntry) aY:=have h:=T.ix_NoEntry;(yM T.ca_Twice T.xk_Twice h fun h=>(yM T.ca_NoEntry T.xk_NoEntry h fun h=>sO))
def zZr:List (Str×Bool):=[("Twice",false),("NoEntry",false)]
theorem zVv (T:Txt K mg):IsxOk K (.ref T.C_BadBox) zZr:=have h:=T.ix_BadBox;(yM T.ca_Twice T.xk_Twice h fun h=>(yM T.ca_NoEntry T.xk_NoEntry h fun h=>sO))
def aR:List (Str×Bool):=[("Twice",false),("NoEntry",false)]
theorem zXy (T:Txt K mg):IsxOk K (.ref T.C_TooWide) aR:=have h:=T.ix_TooWide;(yM T.ca_Twice T.xk_Twice h fun h=>(yM T.ca_NoEntry T.xk_NoEntry h fun h=>sO))
def dO:List (Str×Bool):=[("Twice",false),("NoEntry",false)]
theorem zY4 (T:Txt K mg):IsxOk K (.ref T.C_OffFloor) dO:=have h:=T.ix_OffFloor;(yM T.ca_Twice T.xk_Twice h fun h=>(yM T.ca_NoEntry T.xk_NoEntry h fun h=>sO))
def zWh:List (Str×Bool):=[("Twice",false),("NoEntry",false)]
theorem zTe (T:Txt K mg):IsxOk K (.ref T.C_Unmet) zWh:=have h:=T.ix_Unmet;(yM T.ca_Twice T.xk_Twice h fun h=>(yM T.ca_NoEntry T.xk_NoEntry h fun h=>sO))
def gP:List (Str×Bool):=[("Twice",false),("NoEntry",false)]
theorem zZ4 (T:Txt K mg):IsxOk K (.ref T.C_TextError) gP:=have h:=T.ix_TextError;(yM T.ca_Twice T.xk_Twice h fun h=>(yM T.ca_NoEntry T.xk_NoEntry h fun h=>sO))
def bU:List (Str×Bool):=[("Twice",false),("NoEntry",false)]
theorem zWf (T:Txt K mg):IsxOk K (.ref T.C_NoThing) bU:=have h:=T.ix_NoThing;(yM T.ca_Twice T.xk_Twice h fun h=>(yM T.ca_NoEntry T.xk_NoEntry h fun h=>sO))
theorem zZ7 (T:Txt K mg):ExOk K T.C_YardError ["Twice","NoEntry"]:=⟨⟨T.C_Twice,T.ca_Twice,T.em_YardError_Twice⟩,⟨⟨T.C_NoEntry,T.ca_NoEntry,T.em_YardError_NoEntry⟩,True.intro⟩⟩
theorem zXi:FnScope ["self","leaf","things","lasts"] ["self","leaf","things"] (zW rF):=xP ja
def zYa:Lf:=(fun ρ=>((eIf (tB1 (eV 1)) (eL (xL (iL (eV 2)) 1 [] (gN 0) tOK (eIx (eV 0) jp))) (eL (xL (iL (eV 2)) 1 [] (gN 0) tOK (yS "Page" "most" (eV 0))))) ρ).bind fun d=>(zY (eV 1) (zY (eV 2) (zY (eIf (tB1 (eV 1)) (eV 2) (eL (xL (iL (eV 2)) 1 [] (gN 0) tOK (eIx (yS "Page" "leasts" (eV 0)) jo)))) (zY (zZd (iL (eV 3))) zP)))) (ρ.set 3 (.fz d)))
def rB:List D->Option (List D):=fun ds=>zYa (lR 4 ds)
theorem nY (T:Txt K mg):FnOk P w K mg base CX0 1 T.fi_Page T.fdi_Page ["self","leaf","things"] (spI K T.C_Page ["leaf","things","leasts","most"] 2 rB) :=
 zSJ (k:=0) T.Fi_Page zXi ja jb fun j9 A outer s H E hr =>
   (zQm 3 zXi.nd (zSN (xI (zX 1)) (uD (pF (zW rF) ["self","leaf","things","lasts"] ["entry"] [] [] (iS 0) (zWn (zX 2)) rfl rfl rfl ja (fun _ _ _ _=>(tD 0 (show(jz ["entry"]) from ja))) (fun _ _ _ _=>uJ) (fun _ _ _ _=>(yU (zX 0) zU)))) (uD (pF (zW rF) ["self","leaf","things","lasts"] ["page"] [] [] (iS 0) (zWn (zX 2)) rfl rfl rfl ja (fun _ _ _ _=>(tD 0 (show(jz ["page"]) from ja))) (fun _ _ _ _=>uJ) (fun _ _ _ _=>(yV T.ca_Page T.cl_Page T.n_Page_most (zX 0)))))) (oE T.cl_Page T.n_Page_leaf rfl (Or.inl rfl) (zX 1) (oE T.cl_Page T.n_Page_things rfl (Or.inl rfl) (zX 2) (oE T.cl_Page T.n_Page_leasts rfl (Or.inl rfl) (zSN (xI (zX 1)) (zX 2) (uD (pF (zW rF) ["self","leaf","things","lasts"] ["page"] [] [] (iS 0) (zWn (zX 2)) rfl rfl rfl ja (fun _ _ _ _=>(tD 0 (show(jz ["page"]) from ja))) (fun _ _ _ _=>uJ) (fun _ _ _ _=>(yU (yV T.ca_Page T.cl_Page T.n_Page_leasts (zX 0)) zU))))) (oE T.cl_Page T.n_Page_most rfl (Or.inl rfl) (zQ8 rfl rfl T.z_max (dM (zX 3))) zU4)))))
theorem zTB:FnScope ["self","size"] ["self","size"] (zW nX):=xP ja
def zWz:Lf:=(zY (eV 1) (zY (kP "Page" ["leaf","things","leasts","most"] 2 rB (zY (eC (.bl true)) (zY (eL (wL zP)) zP))) zP))
def zZG:List D->Option (List D):=fun ds=>zWz (lR 2 ds)
theorem zSX (T:Txt K mg):FnOk P w K mg base CX0 3 T.fi_Store T.fdi_Store ["self","size"] (spI K T.C_Store ["size","root"] 1 zZG) :=
 zPZ (k:=2) T.Fi_Store zTB ja jb fun j9 A outer s H E hr =>
   (oE T.cl_Store T.n_Store_size rfl (Or.inl rfl) (zX 1) (oE T.cl_Store T.n_Store_root rfl (Or.inl rfl) (kI T.ca_Page T.mk_Page (nY T) (hr.mono jc) T.mc_Page T.bi_Page rfl (zZ uH (zZ (uD (wG zV)) zV))) zU4))
theorem mI:FnScope ["_law_cell_here","_law_k","_law_number_here"] ["_law_cell_here","_law_k"] (zW lQ):=xP ja
def jE:Sf:=(xM (uW (yW (jO (eV 2) (eV 2)) (eC (.int 2147483629))) jr))
def oV:Sf:=(zG (zA 2 (yW (xG (xG (eV 2) (eC (.int 12345))) (jO (eC (.int 7919)) (eV 1))) (eC (.int 2147483647))))
   (jE))
def sL:Sf:=(zG (zA 2 (jO (yW (eV 0) (eC (.int 1000000007))) (xG (eC (.int 48271)) (jO (jO jq (eV 1)) (eV 1)))))
   (oV))
def zXk:Sf :=
   (sL)
def yD:jy:=fnF 3 zXk
theorem xR (T:Txt K mg):OkT P w base T.q0 1 2 yD :=
 vN (k:=0) T.q0.F mI fun j9 A outer s H E hr =>
   (zT sL rfl (zH 2 mI.nd (rN (yP (zX 0) zU) (wX zU (rN (rN zU (zX 1)) (zX 1)))))
     (zT oV rfl (zH 2 mI.nd (yP (wX (wX (zX 2) zU) (rN zU (zX 1))) zU))
     (zO (zD (tQ (yP (rN (zX 2) (zX 2)) zU) zU)))))
theorem x9:FnScope ["_law_seed","_law_j","_law_letters","_law_number_here","_law_size","_law_at","_law_word_here","_law_k","_law_sign"] ["_law_seed","_law_j"] (zW hV):=xP ja
def sR:Sf:=(zA 6 (rK (eV 6) (eIx (eV 2) (yW (zI 2 yD (zY (eV 0) (zY (rK (eC (.int 20)) (eV 7)) zP))) (eC (.int 26))))))
def fG:Sf:=(xM (rK (rK (eD (eV 6) oNo (xF (eV 5))) (eV 8)) (eD (eV 6) (xF (rK (eV 5) jp)) oNo)))
def nM:Sf:=(zG (zA 8 (eIx (eV 2) (yW (rK (uW (eV 3) (eC (.int 144))) (eV 1)) (eC (.int 26)))))
   (fG))
def mJ:Sf:=(zG (jQ (iR (eV 4)) (gN 7) (sR))
   (nM))
def nH:Sf:=(zG (zA 6 (eC (.str "")))
   (mJ))
def mU:Sf:=(zG (zA 5 (yW (uW (eV 3) (eC (.int 12))) (eV 4)))
   (nH))
def mV:Sf:=(zG (zA 4 (rK jp (yW (eV 3) (eC (.int 12)))))
   (mU))
def nG:Sf:=(zG (zA 3 (zI 2 yD (zY (eV 0) (zY (eC (.int 11)) zP))))
   (mV))
def rH:Sf:=(zG (zA 2 (eC (.str "abcdefghijklmnopqrstuvwxyz")))
   (nG))
def zUZ:Sf :=
   (rH)
def mW:jy:=fnF 9 zUZ
theorem zWW (T:Txt K mg):OkT P w base T.q1 2 2 mW :=
 vN (k:=1) T.q1.F x9 fun j9 A outer s H E hr =>
   (zT rH rfl (zH 2 x9.nd uZ)
     (zT nG rfl (zH 3 x9.nd (yC (xR T) hr (zZ (zX 0) (zZ zU zV))))
     (zT mV rfl (zH 4 x9.nd (nC zU (yP (zX 3) zU)))
     (zT mU rfl (zH 5 x9.nd (yP (tQ (zX 3) zU) (zX 4)))
     (zT nH rfl (zH 6 x9.nd uZ)
     (zT mJ rfl (jY Rz rfl (zRn rfl T.z_range (zX 4)) (tD 7 x9.nd) (zO (zH 6 x9.nd (nC (zX 6) (yU (zX 2) (yP (yC (xR T) hr (zZ (zX 0) (zZ (nC zU (zX 7)) zV))) zU))))))
     (zT nM rfl (zH 8 x9.nd (yU (zX 2) (yP (nC (tQ (zX 3) zU) (zX 1)) zU)))
     (zO (zD (nC (nC (zYL (zX 6) jM (pD (zX 5))) (zX 8)) (zYL (zX 6) (pD (nC (zX 5) zU)) jM)))))))))))
theorem cZ:FnScope ["_law_seed","_law_words"] ["_law_seed"] (zW mP):=xP ja
def fU:Sf:=(zX0 1 (xM (xH (zY (eV 1) (zY (yW (zI 2 yD (zY (eV 0) (zY (eC (.int 12)) zP))) jr) (zY (yW (zI 2 yD (zY (eV 0) (zY (eC (.int 13)) zP))) jr) zP))))))
def rD:Sf:=(zG (fT 1 (xL (iR (eC (.int 14))) 1 [0] (gN 0) tOK (zI 2 mW (zY (eV 1) (zY (eV 0) zP)))))
   (fU))
def zV7:Sf :=
   (rD)
def iU:jy:=fnF 2 zV7
theorem zWL (T:Txt K mg):OkT P w base T.q2 3 1 iU :=
 vN (k:=2) T.q2.F cZ fun j9 A outer s H E hr =>
   (zT rD rfl (mL (zW mP) ["_law_seed","_law_words"] ["_law_j"] ["_law_seed"] [0] (iS 0) 1 cZ.nd rfl rfl (zRn rfl T.z_range zU) rfl rfl rfl ja (fun _ _ _ _=>(tD 0 (show(jz ["_law_j","_law_seed"]) from ja))) (fun _ _ _ _=>uJ) (fun _ _ _ _=>(yC (zWW T) hr (zZ (zX 1) (zZ (zX 0) zV)))))
     (zO (zYm 1 (zD (wF (zZ (zX 1) (zZ (yP (yC (xR T) hr (zZ (zX 0) (zZ zU zV))) zU) (zZ (yP (yC (xR T) hr (zZ (zX 0) (zZ zU zV))) zU) zV))))))))
theorem zVi:FnScope ["_law_kept_here"] ["_law_kept_here"] (zW kC):=xP ja
def lA:Sf:=(xM (eL (xL (zXP (eV 0)) 2 [0] (gT (zF (gN 0) (zF (gN 1) vZ))) tOK (xH (zY (eV 0) (zY (fS (eV 2) (xH (zY (eV 0) (zY (eV 1) zP)))) (zY (eV 1) zP)))))))
def zT1:Sf :=
   (lA)
def uG:jy:=fnF 1 zT1
theorem qT (T:Txt K mg):OkT P w base T.q3 1 1 uG :=
 vN (k:=0) T.q3.F zVi fun j9 A outer s H E hr =>
   (zO (zD (uD (pF (zW kC) ["_law_kept_here"] ["_law_first","_law_name"] ["_law_kept_here"] [0] (zOq (nW (iS 0) (nW (iS 1) zYe))) (zSs (zSv rfl rfl T.z_sorted (zX 0))) rfl rfl rfl ja (fun _ _ _ _=>(zRi 2 rfl (xC (tD 0 (show(jz ["_law_first","_law_name","_law_kept_here"]) from ja)) (xC (tD 1 (show(jz ["_law_first","_law_name","_law_kept_here"]) from ja)) lP)) (uO (uO gX)))) (fun _ _ _ _=>uJ) (fun _ _ _ _=>(wF (zZ (zX 0) (zZ (zTS hr (zX 2) (wF (zZ (zX 0) (zZ (zX 1) zV)))) (zZ (zX 1) zV)))))))))
theorem yX:FnScope ["_law_pool_here","_law_kept_here","_law_pick","_law_there","_law_first","_law_last","_law_name"] ["_law_pool_here","_law_kept_here","_law_pick"] (zW qG):=xP ja
def dW:Sf:=(xM (xH (zY (eV 4) (zY (eV 5) (zY (eV 6) zP)))))
def vK:Sf:=(zG (sIf (oG (eB2 gGt (wJ (eV 3)) jo) (eB2 gLt (yW (eV 2) ju) jt)) (zG (gH (eIx (eV 3) (yW (uW (eV 2) ju) (wJ (eV 3)))) (gT (zF (gN 4) (zF (gN 5) (zF (gN 6) vZ)))))
   (zG (sIf (eB2 gEq (yW (eV 2) ju) jo) (zA 6 (eIx (eIx (eV 0) jo) (yW (uW (eV 2) (eC (.int 11))) (eC (.int 14))))) wA)
   (zG (sIf (eB2 gEq (yW (eV 2) ju) jp) (zG (zA 5 (xG (eV 5) jp))
   (zA 4 (xG (eV 4) jp))) wA)
   (sIf (eB2 gGt (yW (eV 2) ju) jp) (zA 5 (xG (eV 4) (eIx (eL (wL (zY (xG (zWr (eV 5) (eV 4)) jp) (zY jo (zY (yW (uW (eV 2) jw) (eC (.int 90))) zP))))) (yW (uW (eV 2) (eC (.int 1009))) jr)))) wA)))) wA)
   (dW))
def tE:Sf:=(zG (zUA 4 5 6 (zY (eV 2) (zY (xG (eV 2) (yW (uW (eV 2) jw) (eC (.int 90)))) (zY (eIx (eIx (eV 0) jo) (yW (eV 2) (eC (.int 14)))) zP))))
   (vK))
def vJ:Sf:=(zG (zA 3 (zI 1 uG (zY (eV 1) zP)))
   (tE))
def bB:Sf :=
   (vJ)
def vU:jy:=fnF 7 bB
theorem lX (T:Txt K mg):OkT P w base T.q4 2 3 vU :=
 vN (k:=1) T.q4.F yX fun j9 A outer s H E hr =>
   (zT vJ rfl (zH 3 yX.nd (yC (qT T) hr (zZ (zX 1) zV)))
     (zT tE rfl (zR6 4 5 6 rfl yX.nd (zZ (zX 2) (zZ (wX (zX 2) (yP (tQ (zX 2) zU) zU)) (zZ (yU (yU (zX 0) zU) (yP (zX 2) zU)) zV))))
     (zT vK rfl (wW (zZD (zUQ (z9 zPr (tX rfl T.z_len (zX 3)) zU) (zWO (z9 zTZ (yP (zX 2) zU) zU)))) (sV (zUv (yU (zX 3) (yP (tQ (zX 2) zU) (tX rfl T.z_len (zX 3)))) (zRi 3 rfl (xC (tD 4 yX.nd) (xC (tD 5 yX.nd) (xC (tD 6 yX.nd) lP))) (uO (uO (uO gX)))))
     (sV (wW (z9 lG (yP (zX 2) zU) zU) (zO (zH 6 yX.nd (yU (yU (zX 0) zU) (yP (tQ (zX 2) zU) zU)))) yY)
     (sV (wW (z9 lG (yP (zX 2) zU) zU) (sV (zH 5 yX.nd (wX (zX 5) zU))
     (zO (zH 4 yX.nd (wX (zX 4) zU)))) yY)
     (zO (wW (z9 zPr (yP (zX 2) zU) zU) (zO (zH 5 yX.nd (wX (zX 4) (yU (uD (wG (zZ (wX (zVs (zX 5) (zX 4)) zU) (zZ zU (zZ (yP (tQ (zX 2) zU) zU) zV))))) (yP (tQ (zX 2) zU) zU))))) yY))))) yY)
     (zO (zD (wF (zZ (zX 4) (zZ (zX 5) (zZ (zX 6) zV)))))))))
theorem zWx:FnScope ["_law_script","_law_k"] ["_law_script","_law_k"] (zW iQ):=xP ja
def zYz:Sf:=(xM jo)
def vI:Sf:=(zG (sIf (eB2 gLt (eV 1) (wJ (eV 0))) (xM (eIx (eV 0) (eV 1))) wA)
   (zYz))
def zUS:Sf :=
   (vI)
def qS:jy:=fnF 2 zUS
theorem dC (T:Txt K mg):OkT P w base T.q5 1 2 qS :=
 vN (k:=0) T.q5.F zWx fun j9 A outer s H E hr =>
   (zT vI rfl (wW (z9 zTZ (zX 1) (tX rfl T.z_len (zX 0))) (zO (zD (yU (zX 0) (zX 1)))) yY)
     (zO (zD zU)))
theorem zZE:FnScope ["_law_found"] ["_law_found"] (zW mE):=xP ja
def bI:Sf:=(xM (zPa (zXz isInt (eV 0)) (zWR (y8 (tB1 (zXz iM (eV 0)))))))
def zXN:Sf :=
   (bI)
def nF:jy:=fnF 1 zXN
theorem jK (T:Txt K mg):OkT P w base T.q6 1 1 nF :=
 vN (k:=0) T.q6.F zZE fun j9 A outer s H E hr =>
   (zO (zD (zOM (bO (T:="int") (TT:="int") rfl zNG rfl T.z_isinstance rfl T.z_int (zX 0)) (zNY (zOP (bO (T:="bool") (TT:="bool") rfl zQG rfl T.z_isinstance rfl T.z_bool (zX 0)))))))
theorem pZ:FnScope ["_law_found","_law_due_here","_law_k","_law_one"] ["_law_found","_law_due_here"] (zW oW):=xP ja
def nV:Sf:=(sIf (kQ (y8 (tB1 (zI 1 nF (zY (eIx (eV 3) jo) zP)))) (kQ (y8 (tB1 (zI 1 nF (zY (eIx (eV 3) jp) zP)))) (eB2 jS (eV 3) (eIx (eV 1) (eV 2))))) (xM (eC (.bl false))) wA)
def vC:Sf:=(zG (sIf (kQ (y8 (tB1 (zXz bT (eV 3)))) (kQ (eB2 jS (wJ (eV 3)) jr) (y8 (tB1 (zXz isStr (eIx (eV 3) jq)))))) (xM (eC (.bl false))) wA)
   (nV))
def wN:Sf:=(zG (zA 3 (eIx (eV 0) (eV 2)))
   (vC))
def cV:Sf:=(xM (eC (.bl true)))
def rM:Sf:=(zG (jQ (iR (wJ (eV 1))) (gN 2) (wN))
   (cV))
def uS:Sf:=(zG (sIf (kQ (y8 (tB1 (zXz dG (eV 0)))) (eB2 jS (wJ (eV 0)) (wJ (eV 1)))) (xM (eC (.bl false))) wA)
   (rM))
def zZ9:Sf :=
   (uS)
def sS:jy:=fnF 4 zZ9
theorem lF (T:Txt K mg):OkT P w base T.q7 2 2 sS :=
 vN (k:=1) T.q7.F pZ fun j9 A outer s H E hr =>
   (zT uS rfl (wW (zZD (pA (wK (xI (bO (T:="list") (TT:="list") rfl zNT rfl T.z_isinstance rfl T.z_list (zX 0)))) (pP (z9 (zXJ hr) (tX rfl T.z_len (zX 0)) (tX rfl T.z_len (zX 1)))))) (zO (zD uH)) yY)
     (zT rM rfl (jY Rz rfl (zRn rfl T.z_range (tX rfl T.z_len (zX 1))) (tD 2 pZ.nd) (zT wN rfl (zH 3 pZ.nd (yU (zX 0) (zX 2)))
     (zT vC rfl (wW (zZD (pA (wK (xI (bO (T:="tuple") (TT:="tuple") rfl zNM rfl T.z_isinstance rfl T.z_tuple (zX 3)))) (pA (z9 (zXJ hr) (tX rfl T.z_len (zX 3)) zU) (pP (wK (xI (bO (T:="str") (TT:="str") rfl zO2 rfl T.z_isinstance rfl T.z_str (yU (zX 3) zU)))))))) (zO (zD uH)) yY)
     (zO (wW (zZD (pA (wK (xI (yC (jK T) hr (zZ (yU (zX 3) zU) zV)))) (pA (wK (xI (yC (jK T) hr (zZ (yU (zX 3) zU) zV)))) (pP (z9 (zXJ hr) (zX 3) (yU (zX 1) (zX 2))))))) (zO (zD uH)) yY)))))
     (zO (zD uH))))
theorem dZ:FnScope ["_law_caught","_law_due_here","_law_others"] ["_law_caught","_law_due_here"] (zW zZK):=xP ja
def zVy:Sf:=(xM (zWR (eB2 kB (eC (.bl true)) (eV 2))))
def bH:Sf:=(zG (zA 2 (eL (lJ (iL (eV 2)) (wL (zY (gO bU (eV 0)) (zY (gO gP (eV 0)) (zY (gO zWh (eV 0)) zP)))))))
   (zVy))
def aH:Sf:=(zG (zA 2 (eL (wL (zY (gO dO (eV 0)) (zY (gO aR (eV 0)) (zY (gO zZr (eV 0)) zP))))))
   (bH))
def bQ:Sf:=(zG (sIf (kQ (eB2 gNe (gO zWp (eV 0)) (zWR (eB2 gEq (eV 1) (eC (.str "twice"))))) (eB2 gNe (gO aY (eV 0)) (zWR (eB2 gEq (eV 1) (eC (.str "entry")))))) (xM (eC (.bl false))) wA)
   (aH))
def aQ:Sf:=(zG (sIf (kQ (y8 (tB1 (gO fB (eV 0)))) (y8 (tB1 (gO iZ (eV 0))))) (xM (eC (.bl false))) wA)
   (bQ))
def zRk:Sf :=
   (aQ)
def fP:jy:=fnF 3 zRk
theorem zYX (T:Txt K mg):OkT P w base T.q8 1 2 fP :=
 vN (k:=0) T.q8.F dZ fun j9 A outer s H E hr =>
   (zT aQ rfl (wW (zZD (pA (wK (xI (mK (zZC T) T.mc_YardError rfl rfl T.z_isinstance (zX 0)))) (pP (wK (xI (zQi (T:="ValueError") (TT:="ValueError") rfl (zZX T) T.z_ValueError rfl rfl T.z_isinstance (zX 0))))))) (zO (zD uH)) yY)
     (zT bQ rfl (wW (zZD (pA (z9 zOV (mK (zTu T) T.mc_Twice rfl rfl T.z_isinstance (zX 0)) (zVl lG (zX 1) uZ)) (pP (z9 zOV (mK (zXa T) T.mc_NoEntry rfl rfl T.z_isinstance (zX 0)) (zVl lG (zX 1) uZ))))) (zO (zD uH)) yY)
     (zT aH rfl (zH 2 dZ.nd (uD (wG (zZ (mK (zY4 T) T.mc_OffFloor rfl rfl T.z_isinstance (zX 0)) (zZ (mK (zXy T) T.mc_TooWide rfl rfl T.z_isinstance (zX 0)) (zZ (mK (zVv T) T.mc_BadBox rfl rfl T.z_isinstance (zX 0)) zV))))))
     (zT bH rfl (zH 2 dZ.nd (uD (gF (dM (zX 2)) (zZo (wG (zZ (mK (zWf T) T.mc_NoThing rfl rfl T.z_isinstance (zX 0)) (zZ (mK (zZ4 T) T.mc_TextError rfl rfl T.z_isinstance (zX 0)) (zZ (mK (zTe T) T.mc_Unmet rfl rfl T.z_isinstance (zX 0)) zV))))))))
     (zO (zD (zVl (zZa hr) uH (zX 2))))))))
theorem iO:FnScope ["pages","root"] ["pages"] (zW eS):=xP ja
def zW7:Sf:=(xM (eV 1))
def lK:Sf:=(zG (tR (oG (y8 (tB1 (yS "Page" "leaf" (eV 1)))) (eB2 gEq (wJ (yS "Page" "things" (eV 1))) jp)) (zA 1 (eIx (yS "Page" "things" (eV 1)) jo)) 10)
   (zW7))
def lT:Sf:=(zG (zA 1 (kP "Page" ["leaf","things","leasts","most"] 2 rB (zY (eC (.bl false)) (zY (eV 0) zP))))
   (lK))
def pG:Sf:=(zG (sIf (y8 (zUU (eV 0))) (xM (kP "Page" ["leaf","things","leasts","most"] 2 rB (zY (eC (.bl true)) (zY (eL (wL zP)) zP)))) wA)
   (lT))
def zTw:Sf :=
   (pG)
def kK:jy:=fnF 2 zTw
theorem bA (T:Txt K mg):OkT P w base T.q9 3 1 kK :=
 vN (k:=2) T.q9.F iO fun j9 A outer s H E hr =>
   (zT pG rfl (wW (wK (cF (zX 0))) (zO (zD (kI T.ca_Page T.mk_Page (nY T) (hr.mono jc) T.mc_Page T.bi_Page rfl (zZ uH (zZ (uD (wG zV)) zV))))) yY)
     (zT lT rfl (zH 1 iO.nd (kI T.ca_Page T.mk_Page (nY T) (hr.mono jc) T.mc_Page T.bi_Page rfl (zZ uH (zZ (zX 0) zV))))
     (zT lK rfl (zZs 10 Rz (zZD (zUQ (wK (xI (yV T.ca_Page T.cl_Page T.n_Page_leaf (zX 1)))) (zWO (z9 lG (tX rfl T.z_len (yV T.ca_Page T.cl_Page T.n_Page_things (zX 1))) zU)))) (zO (zH 1 iO.nd (yU (yV T.ca_Page T.cl_Page T.n_Page_things (zX 1)) zU))))
     (zO (zD (zX 1))))))
theorem cJ:FnScope ["entry","first","last","name"] ["entry"] (zW zUW):=xP ja
def zRo:Sf:=(xM (xH (zY (eV 1) (zY (eV 3) zP))))
def zXp:Sf:=(zG (gH (eV 0) (gT (zF (gN 1) (zF (gN 2) (zF (gN 3) vZ)))))
   (zRo))
def zNQ:Sf :=
   (zXp)
def tO:jy:=fnF 4 zNQ
theorem gJ (T:Txt K mg):OkT P w base T.q10 1 1 tO :=
 vN (k:=0) T.q10.F cJ fun j9 A outer s H E hr =>
   (zT zXp rfl (zUv (zX 0) (zRi 3 rfl (xC (tD 1 cJ.nd) (xC (tD 2 cJ.nd) (xC (tD 3 cJ.nd) lP))) (uO (uO (uO gX)))))
     (zO (zD (wF (zZ (zX 1) (zZ (zX 3) zV))))))
theorem zRb:FnScope ["branch","entry","ahead"] ["branch","entry"] (zW zU3):=xP ja
def zUu:Sf:=(xM (zSx (zWr (zS9 2) jp) jo))
def cL:Sf:=(zG (fT 2 (xL (iL (yS "Page" "leasts" (eV 0))) 1 [1] (gN 0) (eB2 zTX (zI 1 tO (zY (eV 0) zP)) (zI 1 tO (zY (eV 1) zP))) (eV 0)))
   (zUu))
def zNt:Sf :=
   (cL)
def aE:jy:=fnF 3 zNt
theorem zV9 (T:Txt K mg):OkT P w base T.q11 2 2 aE :=
 vN (k:=1) T.q11.F zRb fun j9 A outer s H E hr =>
   (zT cL rfl (mL (zW zU3) ["branch","entry","ahead"] ["least"] ["entry"] [1] (iS 0) 2 zRb.nd rfl rfl (zWn (yV T.ca_Page T.cl_Page T.n_Page_leasts (zX 0))) rfl rfl rfl ja (fun _ _ _ _=>(tD 0 (show(jz ["least","entry"]) from ja))) (fun _ _ _ _=>(jU (z9 (zQt hr) (yC (gJ T) hr (zZ (zX 0) zV)) (yC (gJ T) hr (zZ (zX 1) zV))))) (fun _ _ _ _=>(zX 0)))
     (zO (zD (zRA rfl rfl T.z_max (zVs (zQj 2 rfl T.z_len) zU) zU))))
theorem oX:FnScope ["page","entry","alike"] ["page","entry"] (zW rA):=xP ja
def kY:Sf:=(zX0 2 (xM (eIf (zUU (eV 2)) (eIx (eV 2) jo) (eC .non))))
def qN:Sf:=(zG (fT 2 (xL (iL (yS "Page" "things" (eV 0))) 1 [1] (gN 0) (eB2 zQ2 (zI 1 tO (zY (eV 0) zP)) (zI 1 tO (zY (eV 1) zP))) (eV 0)))
   (kY))
def tN:Sf:=(zG (tR (y8 (tB1 (yS "Page" "leaf" (eV 0)))) (zA 0 (eIx (yS "Page" "things" (eV 0)) (zI 2 aE (zY (eV 0) (zY (eV 1) zP))))) 10)
   (qN))
def zXG:Sf :=
   (tN)
def xU:jy:=fnF 3 zXG
theorem sM (T:Txt K mg):OkT P w base T.q12 3 2 xU :=
 vN (k:=2) T.q12.F oX fun j9 A outer s H E hr =>
   (zT tN rfl (zZs 10 Rz (wK (xI (yV T.ca_Page T.cl_Page T.n_Page_leaf (zX 0)))) (zO (zH 0 oX.nd (yU (yV T.ca_Page T.cl_Page T.n_Page_things (zX 0)) (yC (zV9 T) hr (zZ (zX 0) (zZ (zX 1) zV)))))))
     (zT qN rfl (mL (zW rA) ["page","entry","alike"] ["other"] ["entry"] [1] (iS 0) 2 oX.nd rfl rfl (zWn (yV T.ca_Page T.cl_Page T.n_Page_things (zX 0))) rfl rfl rfl ja (fun _ _ _ _=>(tD 0 (show(jz ["other","entry"]) from ja))) (fun _ _ _ _=>(jU (z9 (zOC hr) (yC (gJ T) hr (zZ (zX 0) zV)) (yC (gJ T) hr (zZ (zX 1) zV))))) (fun _ _ _ _=>(zX 0)))
     (zO (zYm 2 (zD (zSN (cF (zX 2)) (yU (zX 2) zU) zX3))))))
theorem dD:FnScope ["leaf","things","size","half"] ["leaf","things","size"] (zW hW):=xP ja
def gG:Sf:=(xM (eL (wL (zY (kP "Page" ["leaf","things","leasts","most"] 2 rB (zY (eV 0) (zY (eL (wV (eV 1) oNo (xF (eV 3)))) zP))) (zY (kP "Page" ["leaf","things","leasts","most"] 2 rB (zY (eV 0) (zY (eL (wV (eV 1) (xF (eV 3)) oNo)) zP))) zP)))))
def mM:Sf:=(zG (zA 3 (uW (wJ (eV 1)) jq))
   (gG))
def mR:Sf:=(zG (sIf (eB2 gLe (wJ (eV 1)) (eV 2)) (xM (eL (wL (zY (kP "Page" ["leaf","things","leasts","most"] 2 rB (zY (eV 0) (zY (eV 1) zP))) zP)))) wA)
   (mM))
def rE:Sf:=(zG (sIf (y8 (zUU (eV 1))) (xM (eL (wL zP))) wA)
   (mR))
def zVA:Sf :=
   (rE)
def uM:jy:=fnF 4 zVA
theorem sI (T:Txt K mg):OkT P w base T.q13 3 3 uM :=
 vN (k:=2) T.q13.F dD fun j9 A outer s H E hr =>
   (zT rE rfl (wW (wK (cF (zX 1))) (zO (zD (uD (wG zV)))) yY)
     (zT mR rfl (wW (z9 zMN (tX rfl T.z_len (zX 1)) (zX 2)) (zO (zD (uD (wG (zZ (kI T.ca_Page T.mk_Page (nY T) (hr.mono jc) T.mc_Page T.bi_Page rfl (zZ (zX 0) (zZ (zX 1) zV))) zV))))) yY)
     (zT mM rfl (zH 3 dD.nd (tQ (tX rfl T.z_len (zX 1)) zU))
     (zO (zD (uD (wG (zZ (kI T.ca_Page T.mk_Page (nY T) (hr.mono jc) T.mc_Page T.bi_Page rfl (zZ (zX 0) (zZ (uD (uX (zX 1) jM (pD (zX 3)))) zV))) (zZ (kI T.ca_Page T.mk_Page (nY T) (hr.mono jc) T.mc_Page T.bi_Page rfl (zZ (zX 0) (zZ (uD (uX (zX 1) (pD (zX 3)) jM)) zV))) zV)))))))))
theorem qH:FnScope ["page","entry","size","at","inner"] ["page","entry","size"] (zW oS):=xP ja
def lZ (self:jy):Sf:=(xM (zI 3 uM (zY (eC (.bl false)) (zY (eL (lJ (lJ (wV (yS "Page" "things" (eV 0)) oNo (xF (eV 3))) (iL (eV 4))) (wV (yS "Page" "things" (eV 0)) (xF (xG (eV 3) jp)) oNo))) (zY (eV 2) zP)))))
def rW (self:jy):Sf:=(zG (zA 4 (zI 3 self (zY (eIx (yS "Page" "things" (eV 0)) (eV 3)) (zY (eV 1) (zY (eV 2) zP)))))
   (lZ self))
def rR (self:jy):Sf:=(zG (zA 3 (zI 2 aE (zY (eV 0) (zY (eV 1) zP))))
   (rW self))
def xB (self:jy):Sf:=(zG (sIf (tB1 (yS "Page" "leaf" (eV 0))) (xM (zI 3 uM (zY (eC (.bl true)) (zY (eL (zZW tO (lJ (iL (yS "Page" "things" (eV 0))) (wL (zY (eV 1) zP))))) (zY (eV 2) zP))))) wA)
   (rR self))
def iY (self:jy):Sf :=
   (xB self)
def wM:Nat->List D->Option D
 | 0=>fun _=>none
 | n+1=>fnF 5 (iY (wM n))
abbrev iX:jy:=wM 8
theorem cQ (T:Txt K mg)(n:Nat)(self:jy)(IH:FnOk P w K mg base CX0 (7+n) T.q14.f T.q14.fd ["page","entry","size"] (spF K 3 self)):FnOk P w K mg base CX0 (7+n+1) T.q14.f T.q14.fd ["page","entry","size"] (spF K 3 (fnF 5 (iY self))) :=
 vN (k:=7+n) T.q14.F qH fun j9 A outer s H E hr =>
   (zT (xB self) rfl (wW (xI (yV T.ca_Page T.cl_Page T.n_Page_leaf (zX 0))) (zO (zD (yC (sI T) hr (zZ uH (zZ (uD (zRQ (gJ T) hr rfl T.z_sorted (zZo (gF (dM (yV T.ca_Page T.cl_Page T.n_Page_things (zX 0))) (zZo (wG (zZ (zX 1) zV))))))) (zZ (zX 2) zV)))))) yY)
     (zT (rR self) rfl (zH 3 qH.nd (yC (zV9 T) hr (zZ (zX 0) (zZ (zX 1) zV))))
     (zT (rW self) rfl (zH 4 qH.nd (yC IH hr (zZ (yU (yV T.ca_Page T.cl_Page T.n_Page_things (zX 0)) (zX 3)) (zZ (zX 1) (zZ (zX 2) zV)))))
     (zO (zD (yC (sI T) hr (zZ uH (zZ (uD (zVf (gF (zZo (uX (yV T.ca_Page T.cl_Page T.n_Page_things (zX 0)) jM (pD (zX 3)))) (dM (zX 4))) (uX (yV T.ca_Page T.cl_Page T.n_Page_things (zX 0)) (pD (wX (zX 3) zU)) jM))) (zZ (zX 2) zV)))))))))
theorem mB (T:Txt K mg):∀n:Nat,FnOk P w K mg base CX0 (7+n) T.q14.f T.q14.fd ["page","entry","size"] (spF K 3 (wM n))
 | 0=>zZZ
 | n+1=>cQ T n _ (mB T n)
theorem bZ (T:Txt K mg):OkT P w base T.q14 15 3 iX:=mB T 8
theorem gK:FnScope ["self","entry"] ["self","entry"] (zW uI):=xP ja
def uF:Tf:=(eB2 zYp (zI 2 xU (zY (jI 0 "Store" "root") (zY (eV 1) zP))) (eC .non))
def sA:Ef:=(zI 1 kK (zY (zI 3 iX (zY (jI 0 "Store" "root") (zY (eV 1) (zY (jI 0 "Store" "size") zP)))) zP))
def tI:List Str->List D->List D->Option (List D):=fun ns=>fnM 2 "Store" ns "root" uF sA
theorem jH (T:Txt K mg)(ns:List Str):FnOk P w K mg base CX0 16 T.f_Store_put T.fd_Store_put ["self","entry"] (spM K "Store" ns 1 (tI ns)) :=
 zSu (N:=["self","entry"]) (ps:=["entry"]) (k:=15) (tt:=uF) (fe:=sA) T.F_Store_put gK T.ca_Store T.cl_Store T.n_Store_root rfl (fun j9 A outer s H E hr =>
   (z9 zWX (yC (sM T) hr (zZ (kH 0 T.ca_Store T.cl_Store T.n_Store_root) (zZ (zX 1) zV))) zX3))
   (fun j9 A outer s H E hr=>(yC (bA T) hr (zZ (yC (bZ T) hr (zZ (kH 0 T.ca_Store T.cl_Store T.n_Store_root) (zZ (zX 1) (zZ (kH 0 T.ca_Store T.cl_Store T.n_Store_size) zV)))) zV))) rfl (Or.inl rfl)
def zYG:jy:=fnF 2 (fun _=>none)
def fH:List B->Option Str:=(xIf (eB2 zYp (zI 2 xU (zY (yS "Store" "root" (eV 0)) (zY (eV 1) zP))) (eC .non)) (zVF "Twice" zNF) zOK)
def dI:List D->Option Str:=fnX 2 fH
theorem zZ6 (T:Txt K mg):FnOk P w K mg base (CXq P w) 16 T.f_Store_put T.fd_Store_put ["self","entry"] (spQ K 2 zYG dI) :=
 zVE (N:=["self","entry"]) (ps:=["self","entry"]) (k:=15) (body:=fun _=>none) (xb:=fH) T.F_Store_put gK (fun j9 A outer s H E hr=>eQ)
   (fun j9 A outer s H E hr=>(mX (zVb (z9 zWX (yC (sM T) hr (zZ (yV T.ca_Store T.cl_Store T.n_Store_root (zX 0)) (zZ (zX 1) zV))) zX3) (mX (zZ0 T.ca_Twice T.xc_Twice rfl T.mc_Twice T.kc_Twice rfl rfl zUG zPo)) zUO)))
theorem oB:FnScope ["pages","size","few","start","things","page"] ["pages","size"] (zW gU):=xP ja
def kZ:Sf:=(zXl 4 (iL (yS "Page" "things" (eV 5))))
def bC:Sf:=(zX0 4 (xM (eL (lJ (lJ (wV (eV 0) oNo (xF (eV 3))) (iL (zI 3 uM (zY (yS "Page" "leaf" (eIx (eV 0) jo)) (zY (eV 4) (zY (eV 1) zP)))))) (wV (eV 0) (xF (xG (eV 3) jq)) oNo)))))
def iB:Sf:=(zG (jQ (wV (eV 0) (xF (eV 3)) (xF (xG (eV 3) jq))) (gN 5) (kZ))
   (bC))
def iA:Sf:=(zG (fT 4 (wL zP))
   (iB))
def iW:Sf:=(zG (zA 3 (zSx (zWr (eIx (eV 2) jo) jp) jo))
   (iA))
def hZ:Sf:=(zG (zX0 2 (sIf (y8 (zUU (eV 2))) (xM (eV 0)) wA))
   (iW))
def mQ:Sf:=(zG (fT 2 (xL (zUL (iL (eV 0))) 2 [1] (gT (zF (gN 0) (zF (gN 1) vZ))) (eB2 gLt (wJ (yS "Page" "things" (eV 1))) (uW (eV 2) jq)) (eV 0)))
   (hZ))
def zSB:Sf :=
   (mQ)
def zZR:jy:=fnF 6 zSB
theorem zTK (T:Txt K mg):OkT P w base T.q16 4 2 zZR :=
 vN (k:=3) T.q16.F oB fun j9 A outer s H E hr =>
   (zT mQ rfl (mL (zW gU) ["pages","size","few","start","things","page"] ["at","page"] ["size"] [1] (zOq (nW (iS 0) (nW (iS 1) zYe))) 2 oB.nd rfl rfl (zPR rfl T.z_enumerate (dM (zX 0))) rfl rfl rfl ja (fun _ _ _ _=>(zRi 2 rfl (xC (tD 0 (show(jz ["at","page","size"]) from ja)) (xC (tD 1 (show(jz ["at","page","size"]) from ja)) lP)) (uO (uO gX)))) (fun _ _ _ _=>(jU (z9 zTZ (tX rfl T.z_len (yV T.ca_Page T.cl_Page T.n_Page_things (zX 1))) (tQ (zX 2) zU)))) (fun _ _ _ _=>(zX 0)))
     (zT hZ rfl (zYm 2 (wW (wK (cF (zX 2))) (zO (zD (zX 0))) yY))
     (zT iW rfl (zH 3 oB.nd (zRA rfl rfl T.z_max (zVs (yU (zX 2) zU) zU) zU))
     (zT iA rfl (zSk 4 oB.nd (wG zV))
     (zT iB rfl (jY Rz rfl (zSs (uX (zX 0) (pD (zX 3)) (pD (wX (zX 3) zU)))) (tD 5 oB.nd) (zO (zQs 4 (zUw PySem.F.plainAttrs_list PySem.F.slot_list_extend PySem.F.type_list_extend zQD (pv 4) (yZ (dM (yV T.ca_Page T.cl_Page T.n_Page_things (zX 5))) wH)))))
     (zO (zYm 4 (zD (uD (zVf (gF (zZo (uX (zX 0) jM (pD (zX 3)))) (dM (yC (sI T) hr (zZ (yV T.ca_Page T.cl_Page T.n_Page_leaf (yU (zX 0) zU)) (zZ (zX 4) (zZ (zX 1) zV)))))) (uX (zX 0) (pD (wX (zX 3) zU)) jM)))))))))))
theorem sX:FnScope ["page","entry","size","at","inner"] ["page","entry","size"] (zW uP):=xP ja
def pH (self:jy):Sf:=(xM (zI 3 uM (zY (eC (.bl false)) (zY (zI 2 zZR (zY (eL (lJ (lJ (wV (yS "Page" "things" (eV 0)) oNo (xF (eV 3))) (iL (eV 4))) (wV (yS "Page" "things" (eV 0)) (xF (xG (eV 3) jp)) oNo))) (zY (eV 2) zP))) (zY (eV 2) zP)))))
def uE (self:jy):Sf:=(zG (zA 4 (zI 3 self (zY (eIx (yS "Page" "things" (eV 0)) (eV 3)) (zY (eV 1) (zY (eV 2) zP)))))
   (pH self))
def uC (self:jy):Sf:=(zG (zA 3 (zI 2 aE (zY (eV 0) (zY (eV 1) zP))))
   (uE self))
def xZ (self:jy):Sf:=(zG (sIf (tB1 (yS "Page" "leaf" (eV 0))) (xM (zI 3 uM (zY (eC (.bl true)) (zY (eL (xL (iL (yS "Page" "things" (eV 0))) 1 [1] (gN 0) (eB2 jS (eV 0) (eV 1)) (eV 0))) (zY (eV 2) zP))))) wA)
   (uC self))
def mC (self:jy):Sf :=
   (xZ self)
def xO:Nat->List D->Option D
 | 0=>fun _=>none
 | n+1=>fnF 5 (mC (xO n))
abbrev mD:jy:=xO 8
theorem fK (T:Txt K mg)(n:Nat)(self:jy)(IH:FnOk P w K mg base CX0 (5+n) T.q17.f T.q17.fd ["page","entry","size"] (spF K 3 self)):FnOk P w K mg base CX0 (5+n+1) T.q17.f T.q17.fd ["page","entry","size"] (spF K 3 (fnF 5 (mC self))) :=
 vN (k:=5+n) T.q17.F sX fun j9 A outer s H E hr =>
   (zT (xZ self) rfl (wW (xI (yV T.ca_Page T.cl_Page T.n_Page_leaf (zX 0))) (zO (zD (yC (sI T) hr (zZ uH (zZ (uD (pF (zW uP) ["page","entry","size","at","inner"] ["other"] ["entry"] [1] (iS 0) (zWn (yV T.ca_Page T.cl_Page T.n_Page_things (zX 0))) rfl rfl rfl ja (fun _ _ _ _=>(tD 0 (show(jz ["other","entry"]) from ja))) (fun _ _ _ _=>(jU (z9 (zXJ hr) (zX 0) (zX 1)))) (fun _ _ _ _=>(zX 0)))) (zZ (zX 2) zV)))))) yY)
     (zT (uC self) rfl (zH 3 sX.nd (yC (zV9 T) hr (zZ (zX 0) (zZ (zX 1) zV))))
     (zT (uE self) rfl (zH 4 sX.nd (yC IH hr (zZ (yU (yV T.ca_Page T.cl_Page T.n_Page_things (zX 0)) (zX 3)) (zZ (zX 1) (zZ (zX 2) zV)))))
     (zO (zD (yC (sI T) hr (zZ uH (zZ (yC (zTK T) hr (zZ (uD (zVf (gF (zZo (uX (yV T.ca_Page T.cl_Page T.n_Page_things (zX 0)) jM (pD (zX 3)))) (dM (zX 4))) (uX (yV T.ca_Page T.cl_Page T.n_Page_things (zX 0)) (pD (wX (zX 3) zU)) jM))) (zZ (zX 2) zV))) (zZ (zX 2) zV)))))))))
theorem pE (T:Txt K mg):∀n:Nat,FnOk P w K mg base CX0 (5+n) T.q17.f T.q17.fd ["page","entry","size"] (spF K 3 (xO n))
 | 0=>zZZ
 | n+1=>fK T n _ (pE T n)
theorem eF (T:Txt K mg):OkT P w base T.q17 13 3 mD:=pE T 8
theorem jD:FnScope ["self","entry"] ["self","entry"] (zW vH):=xP ja
def vF:Tf:=(eB2 zVh (zI 2 xU (zY (jI 0 "Store" "root") (zY (eV 1) zP))) (eV 1))
def uB:Ef:=(zI 1 kK (zY (zI 3 mD (zY (jI 0 "Store" "root") (zY (eV 1) (zY (jI 0 "Store" "size") zP)))) zP))
def xQ:List Str->List D->List D->Option (List D):=fun ns=>fnM 2 "Store" ns "root" vF uB
theorem qK (T:Txt K mg)(ns:List Str):FnOk P w K mg base CX0 14 T.f_Store_take T.fd_Store_take ["self","entry"] (spM K "Store" ns 1 (xQ ns)) :=
 zSu (N:=["self","entry"]) (ps:=["entry"]) (k:=13) (tt:=vF) (fe:=uB) T.F_Store_take jD T.ca_Store T.cl_Store T.n_Store_root rfl (fun j9 A outer s H E hr =>
   (z9 (zSR hr) (yC (sM T) hr (zZ (kH 0 T.ca_Store T.cl_Store T.n_Store_root) (zZ (zX 1) zV))) (zX 1)))
   (fun j9 A outer s H E hr=>(yC (bA T) hr (zZ (yC (eF T) hr (zZ (kH 0 T.ca_Store T.cl_Store T.n_Store_root) (zZ (zX 1) (zZ (kH 0 T.ca_Store T.cl_Store T.n_Store_size) zV)))) zV))) rfl (Or.inl rfl)
def zZ3:jy:=fnF 2 (fun _=>none)
def sQ:List B->Option Str:=(xIf (eB2 zVh (zI 2 xU (zY (yS "Store" "root" (eV 0)) (zY (eV 1) zP))) (eV 1)) (zVF "NoEntry" zNF) zOK)
def rC:List D->Option Str:=fnX 2 sQ
theorem bS (T:Txt K mg):FnOk P w K mg base (CXq P w) 14 T.f_Store_take T.fd_Store_take ["self","entry"] (spQ K 2 zZ3 rC) :=
 zVE (N:=["self","entry"]) (ps:=["self","entry"]) (k:=13) (body:=fun _=>none) (xb:=sQ) T.F_Store_take jD (fun j9 A outer s H E hr=>eQ)
   (fun j9 A outer s H E hr=>(mX (zVb (z9 (zSR hr) (yC (sM T) hr (zZ (yV T.ca_Store T.cl_Store T.n_Store_root (zX 0)) (zZ (zX 1) zV))) (zX 1)) (mX (zZ0 T.ca_NoEntry T.xc_NoEntry rfl T.mc_NoEntry T.kc_NoEntry rfl rfl zUG zPo)) zUO)))
theorem dQ:FnScope ["_law_store","_law_deed"] ["_law_store","_law_deed"] (zW iP):=xP ja
def vO:Sf :=
   (sIf (eB2 gEq (eIx (eV 1) jo) (eC (.str "put"))) (tU 0 "Store" "put" 1 tI (zY (eIx (eV 1) jp) zP)) (tU 0 "Store" "take" 1 xQ (zY (eIx (eV 1) jp) zP)))
def vP:D->List D->Option D:=zND 2 vO
def zWY:jy:=fnF 2 (fun _=>none)
def pJ:List B->Option Str:=(xIf (eB2 gEq (eIx (eV 1) jo) (eC (.str "put"))) (zUx "Store" "put" 2 dI (eV 0) (zY (eIx (eV 1) jp) zP)) (zUx "Store" "take" 2 rC (eV 0) (zY (eIx (eV 1) jp) zP)))
def mS:List D->Option Str:=fnX 2 pJ
theorem zYl (T:Txt K mg):FnOk P w K mg base (CXq P w) 17 T.q19.f T.q19.fd ["_law_store","_law_deed"] (spQ K 2 zWY mS) :=
 zVE (N:=["_law_store","_law_deed"]) (ps:=["_law_store","_law_deed"]) (k:=16) (body:=fun _=>none) (xb:=pJ) T.q19.F dQ (fun j9 A outer s H E hr=>eQ)
   (fun j9 A outer s H E hr=>(mX (zVb (z9 lG (yU (zX 1) zU) uZ) (mX (zTN (zWM T.ca_Store T.cl_Store T.me_Store_put (zZ6 T) zUc (hr.mono jc) T.b_Store_put (zX 0) (zZ (yU (zX 1) zU) zV)))) (mX (zTN (zWM T.ca_Store T.cl_Store T.me_Store_take (bS T) zUc (hr.mono jc) T.b_Store_take (zX 0) (zZ (yU (zX 1) zU) zV)))))))
theorem zW4 (T:Txt K mg):FnOk P w K mg base CX0 17 T.q19.f T.q19.fd ["_law_store","_law_deed"] (zQY K 1 vP) :=
 zUl (N:=["_law_store","_law_deed"]) (sf:="_law_store") (ps:=["_law_deed"]) (k:=16) (f:=vO) T.q19.F dQ fun j9 A outer s H E hr =>
   (kG (zPx (z9 lG (yU (zX 1) zU) uZ) (kG (zWg 0 T.ca_Store T.cl_Store T.me_Store_put (jH T) (hr.mono jc) T.b_Store_put (zZ (yU (zX 1) zU) zV))) (kG (zWg 0 T.ca_Store T.cl_Store T.me_Store_take (qK T) (hr.mono jc) T.b_Store_take (zZ (yU (zX 1) zU) zV)))))
theorem tH:FnScope ["_law_store","_law_deed","_law_caught","e"] ["_law_store","_law_deed"] (zW oO):=xP ja
def cN:Sf:=(xM (eV 2))
def rT:Sf:=(zG (zTo ["Twice","NoEntry"] (zUz 2 mS (zY (eV 0) (zY (eV 1) zP))) 3 (zA 2 (eV 3)))
   (cN))
def uQ:Sf:=(zG (zA 2 (eC .non))
   (rT))
def zZA:Sf :=
   (uQ)
def sT:jy:=fnF 4 zZA
theorem kT (T:Txt K mg):OkT P w base T.q20 18 2 sT :=
 vN (k:=17) T.q20.F tH fun j9 A outer s H E hr =>
   (zT uQ rfl (zH 2 tH.nd zX3)
     (zT rT rfl (zP4 (i:=3) (zZ7 T) (zTj zMx (zYl T) (hr.mono jc) T.q19.m T.q19.F.kp T.q19.b rfl (zZ (zX 0) (zZ (zX 1) zV))) rfl rfl rfl T.mc_YardError tH.nd (fun _=>(zO (zH 2 tH.nd (zX 3)))))
     (zO (zD (zX 2)))))
theorem zXg:FnScope ["page"] ["page"] (zW nE):=xP ja
def fE (self:jy):Sf:=(xM (xH (zY (eC (.str "branch")) (zY (eL (xL (zUH (yS "Page" "leasts" (eV 0)) (yS "Page" "things" (eV 0))) 2 [] (gT (zF (gN 0) (zF (gN 1) vZ))) tOK (xH (zY (eV 0) (zY (yS "Page" "most" (eV 1)) (zY (zI 1 self (zY (eV 1) zP)) zP)))))) zP))))
def vD (self:jy):Sf:=(zG (sIf (tB1 (yS "Page" "leaf" (eV 0))) (xM (xH (zY (eC (.str "leaf")) (zY (eL (jX (yS "Page" "things" (eV 0)))) zP)))) wA)
   (fE self))
def aC (self:jy):Sf :=
   (vD self)
def vS:Nat->List D->Option D
 | 0=>fun _=>none
 | n+1=>fnF 1 (aC (vS n))
abbrev bM:jy:=vS 8
theorem zXM (T:Txt K mg)(n:Nat)(self:jy)(IH:FnOk P w K mg base CX0 (1+n) T.q21.f T.q21.fd ["page"] (spF K 1 self)):FnOk P w K mg base CX0 (1+n+1) T.q21.f T.q21.fd ["page"] (spF K 1 (fnF 1 (aC self))) :=
 vN (k:=1+n) T.q21.F zXg fun j9 A outer s H E hr =>
   (zT (vD self) rfl (wW (xI (yV T.ca_Page T.cl_Page T.n_Page_leaf (zX 0))) (zO (zD (wF (zZ uZ (zZ (uD (zYY rfl T.z_list (yV T.ca_Page T.cl_Page T.n_Page_things (zX 0)))) zV))))) yY)
     (zO (zD (wF (zZ uZ (zZ (uD (pF (zW nE) ["page"] ["least","inner"] [] [] (zOq (nW (iS 0) (nW (iS 1) zYe))) (zPI rfl T.z_zip (yV T.ca_Page T.cl_Page T.n_Page_leasts (zX 0)) (yV T.ca_Page T.cl_Page T.n_Page_things (zX 0))) rfl rfl rfl ja (fun _ _ _ _=>(zRi 2 rfl (xC (tD 0 (show(jz ["least","inner"]) from ja)) (xC (tD 1 (show(jz ["least","inner"]) from ja)) lP)) (uO (uO gX)))) (fun _ _ _ _=>uJ) (fun _ _ _ _=>(wF (zZ (zX 0) (zZ (yV T.ca_Page T.cl_Page T.n_Page_most (zX 1)) (zZ (yC IH hr (zZ (zX 1) zV)) zV))))))) zV))))))
theorem fQ (T:Txt K mg):∀n:Nat,FnOk P w K mg base CX0 (1+n) T.q21.f T.q21.fd ["page"] (spF K 1 (vS n))
 | 0=>zZZ
 | n+1=>zXM T n _ (fQ T n)
theorem zW2 (T:Txt K mg):OkT P w base T.q21 9 1 bM:=fQ T 8
theorem aN:FnScope ["self"] ["self"] (zW w9):=xP ja
def rP:Sf:=(xM (zI 1 bM (zY (yS "Store" "root" (eV 0)) zP)))
def b_Store_shape:Sf :=
   (rP)
def sU:jy:=fnF 1 b_Store_shape
theorem lC (T:Txt K mg):FnOk P w K mg base CX0 10 T.f_Store_shape T.fd_Store_shape ["self"] (spF K 1 sU) :=
 vN (k:=9) T.F_Store_shape aN fun j9 A outer s H E hr =>
   (zO (zD (yC (zW2 T) hr (zZ (yV T.ca_Store T.cl_Store T.n_Store_root (zX 0)) zV))))
theorem uN:FnScope ["page","entries","inner"] ["page"] (zW tP):=xP ja
def vQ (self:List D->Option (List D)):Sf:=(zXl 1 (cW 1 self (zY (eV 2) zP)))
def jP (self:List D->Option (List D)):Sf:=(zSO 1)
def vA (self:List D->Option (List D)):Sf:=(zG (jQ (iL (yS "Page" "things" (eV 0))) (gN 2) (vQ self))
   (jP self))
def vB (self:List D->Option (List D)):Sf:=(zG (fT 1 (wL zP))
   (vA self))
def yG (self:List D->Option (List D)):Sf:=(zG (sIf (tB1 (yS "Page" "leaf" (eV 0))) (dA (jX (yS "Page" "things" (eV 0)))) wA)
   (vB self))
def pO (self:List D->Option (List D)):Sf :=
   (yG self)
def yN:Nat->List D->Option (List D)
 | 0=>fun _=>none
 | n+1=>fnL 3 (pO (yN n))
abbrev pS:List D->Option (List D):=yN 8
theorem jT (T:Txt K mg)(n:Nat)(self:List D->Option (List D))(IH:FnOk P w K mg base CX0 (1+n) T.q23.f T.q23.fd ["page"] (spL K 1 self)):FnOk P w K mg base CX0 (1+n+1) T.q23.f T.q23.fd ["page"] (spL K 1 (fnL 3 (pO self))) :=
 zSL (k:=1+n) T.q23.F uN fun j9 A outer s H E hr =>
   (zT (yG self) rfl (wW (xI (yV T.ca_Page T.cl_Page T.n_Page_leaf (zX 0))) (zO (zUC (zYY rfl T.z_list (yV T.ca_Page T.cl_Page T.n_Page_things (zX 0))))) yY)
     (zT (vB self) rfl (zSk 1 uN.nd (wG zV))
     (zT (vA self) rfl (jY Rz rfl (zWn (yV T.ca_Page T.cl_Page T.n_Page_things (zX 0))) (tD 2 uN.nd) (zO (zOD 1 (zUw PySem.F.plainAttrs_list PySem.F.slot_list_extend PySem.F.type_list_extend zTi (pv 1) (yZ (zNq IH hr (zZ (zX 2) zV)) wH)))))
     (zO (zQc 1)))))
theorem rJ (T:Txt K mg):∀n:Nat,FnOk P w K mg base CX0 (1+n) T.q23.f T.q23.fd ["page"] (spL K 1 (yN n))
 | 0=>zTa
 | n+1=>jT T n _ (rJ T n)
theorem iN (T:Txt K mg):zMk P w base T.q23 9 1 pS:=rJ T 8
theorem cP:FnScope ["self"] ["self"] (zW wP):=xP ja
def sY:Sf:=(dA (cW 1 pS (zY (yS "Store" "root" (eV 0)) zP)))
def b_Store_listed:Sf :=
   (sY)
def tY:List D->Option (List D):=fnL 1 b_Store_listed
theorem lY (T:Txt K mg):FnOk P w K mg base CX0 10 T.f_Store_listed T.fd_Store_listed ["self"] (spL K 1 tY) :=
 zSL (k:=9) T.F_Store_listed cP fun j9 A outer s H E hr =>
   (zO (zUC (zNq (iN T) hr (zZ (yV T.ca_Store T.cl_Store T.n_Store_root (zX 0)) zV))))
theorem sK:FnScope ["_law_store","_law_kept_here","_law_stranger_here","_law_first","_law_last","_law_name","_law_due_here","_law_shape"] ["_law_store","_law_kept_here","_law_stranger_here"] (zW nO):=xP ja
def kX:Kf:=(zVa (vM 1 2 (vM 0 1 (zI 2 sS (zY (eL (zYN "Store" "listed" 1 tY (eV 0) zP)) (zY (zI 1 uG (zY (eV 1) zP)) zP))))))
def qO:Kf:=(pT (kIf (tL 0 1 (y8 (tB1 (zI 2 fP (zY (zI 2 sT (zY (eV 0) (zY (xH (zY (eC (.str "take")) (zY (eV 2) zP))) zP))) (zY (eC (.str "entry")) zP)))))) (zVa (eC (.bl false))) zV5) kX)
def pV:Kf:=(pT (kOf (tU 0 "Store" "take" 1 xQ (zY (eV 2) zP))) qO)
def qI:Kf:=(pT (kOf (tU 0 "Store" "put" 1 tI (zY (eV 2) zP))) pV)
def qR:Kf:=(pT (kIf (tL 1 2 (zY1 true (xH (zY (eV 3) (zY (eV 5) zP))) (eV 1))) (pT (kOf (tU 0 "Store" "take" 1 xQ (zY (vM 1 2 (xH (zY (eV 3) (zY (fS (eV 1) (xH (zY (eV 3) (zY (eV 5) zP)))) (zY (eV 5) zP))))) zP))) (kOf (lS 1 (xH (zY (eV 3) (zY (eV 5) zP)))))) zV5) qI)
def pW:Kf:=(pT (kIf (tL 0 1 (eB2 zRE (zZz "Store" "shape" 1 sU (eV 0) zP) (eV 7))) (zVa (eC (.bl false))) zV5) qR)
def uA:Kf:=(pT (kIf (tL 0 1 (kQ (y8 (tB1 (zI 2 fP (zY (zI 2 sT (zY (eV 0) (zY (xH (zY (eC (.str "take")) (zY (eV 2) zP))) zP))) (zY (eC (.str "entry")) zP))))) (y8 (tB1 (zI 2 sS (zY (eL (zYN "Store" "listed" 1 tY (eV 0) zP)) (zY (eV 6) zP))))))) (zVa (eC (.bl false))) zV5) pW)
def tK:Kf:=(pT (kOf (zA 7 (vM 0 1 (zZz "Store" "shape" 1 sU (eV 0) zP)))) uA)
def qL:Kf:=(pT (kOf (zA 6 (vM 1 2 (zI 1 uG (zY (eV 1) zP))))) tK)
def wR:Kf:=(pT (kOf (gH (eV 2) (gT (zF (gN 3) (zF (gN 4) (zF (gN 5) vZ)))))) qL)
def xV:D->D->List D->Option (D×D×D):=zOY 8 wR
theorem jA (T:Txt K mg):FnOk P w K mg base CX0 19 T.q25.f T.q25.fd ["_law_store","_law_kept_here","_law_stranger_here"] (zTR K 1 xV) :=
 zRd (N:=["_law_store","_law_kept_here","_law_stranger_here","_law_first","_law_last","_law_name","_law_due_here","_law_shape"]) (sf:="_law_store") (sg:="_law_kept_here") (ps:=["_law_stranger_here"]) (k:=18) (f:=wR) T.q25.F sK fun j9 A outer s H E hr =>
   (tT wR rfl (zQE 3 4 5 rfl sK.nd (zX 2))
     (tT qL rfl (zSq 6 sK.nd (sB 1 2 (yC (qT T) hr (zZ (zX 1) zV))))
     (tT tK rfl (zSq 7 sK.nd (sB 0 1 (zXm T.ca_Store T.cl_Store T.me_Store_shape (lC T) (hr.mono jc) T.b_Store_shape (zX 0))))
     (tT uA rfl (zUg (nU 0 1 (zZD (pA (wK (xI (yC (zYX T) hr (zZ (yC (kT T) hr (zZ (zX 0) (zZ (wF (zZ uZ (zZ (zX 2) zV))) zV))) (zZ uZ zV))))) (pP (wK (xI (yC (lF T) hr (zZ (uD (zWD T.ca_Store T.cl_Store T.me_Store_listed (lY T) (hr.mono jc) T.b_Store_listed (zX 0))) (zZ (zX 6) zV))))))))) (aM (zYw uH)) zXD)
     (tT pW rfl (zUg (nU 0 1 (z9 (zNP hr) (zXm T.ca_Store T.cl_Store T.me_Store_shape (lC T) (hr.mono jc) T.b_Store_shape (zX 0)) (zX 7))) (aM (zYw uH)) zXD)
     (tT qR rfl (zUg (nU 1 2 (zOd hr (wF (zZ (zX 3) (zZ (zX 5) zV))) (zX 1))) (zUd (aS 0 T.ca_Store T.cl_Store T.me_Store_take (qK T) (hr.mono jc) T.b_Store_take (zZ (sB 1 2 (wF (zZ (zX 3) (zZ (zTS hr (zX 1) (wF (zZ (zX 3) (zZ (zX 5) zV)))) (zZ (zX 5) zV))))) zV)) (aM (zQV 1 (zUw PySem.F.plainAttrs_dict PySem.F.slot_dict_pop PySem.F.type_dict_pop (zUy hr) (pv 1) (yZ (wF (zZ (zX 3) (zZ (zX 5) zV))) wH))))) zXD)
     (tT qI rfl (aS 0 T.ca_Store T.cl_Store T.me_Store_put (jH T) (hr.mono jc) T.b_Store_put (zZ (zX 2) zV))
     (tT pV rfl (aS 0 T.ca_Store T.cl_Store T.me_Store_take (qK T) (hr.mono jc) T.b_Store_take (zZ (zX 2) zV))
     (tT qO rfl (zUg (nU 0 1 (wK (xI (yC (zYX T) hr (zZ (yC (kT T) hr (zZ (zX 0) (zZ (wF (zZ uZ (zZ (zX 2) zV))) zV))) (zZ uZ zV)))))) (aM (zYw uH)) zXD)
     (aM (zYw (sB 1 2 (sB 0 1 (yC (lF T) hr (zZ (uD (zWD T.ca_Store T.cl_Store T.me_Store_listed (lY T) (hr.mono jc) T.b_Store_listed (zX 0))) (zZ (yC (qT T) hr (zZ (zX 1) zV)) zV))))))))))))))))
theorem wZ:FnScope ["_law_pool_here","_law_cell_here","_law_k","_law_one","_law_two","_law_size","_law_first","_law_last"] ["_law_pool_here","_law_cell_here","_law_k"] (zW kU):=xP ja
def jG:Sf:=(xM (xH (zY (eV 6) (zY (eV 7) (zY (eIx (eIx (eV 0) jo) (yW (zI 2 yD (zY (eV 1) (zY (xG (jO jr (eV 2)) jr) zP))) (eC (.int 12)))) zP)))))
def oN:Sf:=(zG (zA 7 (xG (eV 6) (yW (jO (uW (eV 4) jt) (dX (eC (.int 48611)) jx)) (eV 5))))
   (jG))
def oJ:Sf:=(zG (sIf (eB2 gEq (eIx (eV 0) jq) jp) (zG (zA 6 (yW (dX (eV 3) (eC (.int 6))) (dX (eC (.int 10)) (eC (.int 54)))))
   (zA 5 (eIx (eL (wL (zY jp (zY ju (zY (eC (.int 60)) (zY (xG (yW (dX (eV 4) ju) (dX (eC (.int 10)) (eC (.int 40)))) jp) zP)))))) (yW (eV 4) jt)))) wA)
   (oN))
def oH:Sf:=(zG (zA 6 (yW (eV 3) (eIx (eL (wL (zY (eC (.int 30)) (zY (eC (.int 200)) (zY (eC (.int 4000)) zP))))) (eIx (eV 0) jp))))
   (oJ))
def oM:Sf:=(zG (zA 5 (eIx (eL (wL (zY jp (zY ju (zY (eC (.int 60)) (zY (eC (.int 2000)) zP)))))) (yW (eV 4) jt)))
   (oH))
def oU:Sf:=(zG (zA 4 (zI 2 yD (zY (eV 1) (zY (xG (jO jr (eV 2)) jq) zP))))
   (oM))
def sN:Sf:=(zG (zA 3 (zI 2 yD (zY (eV 1) (zY (xG (jO jr (eV 2)) jp) zP))))
   (oU))
def zXr:Sf :=
   (sN)
def pL:jy:=fnF 8 zXr
theorem zXZ (T:Txt K mg):OkT P w base T.q26 2 3 pL :=
 vN (k:=1) T.q26.F wZ fun j9 A outer s H E hr =>
   (zT sN rfl (zH 3 wZ.nd (yC (xR T) hr (zZ (zX 1) (zZ (wX (rN zU (zX 2)) zU) zV))))
     (zT oU rfl (zH 4 wZ.nd (yC (xR T) hr (zZ (zX 1) (zZ (wX (rN zU (zX 2)) zU) zV))))
     (zT oM rfl (zH 5 wZ.nd (yU (uD (wG (zZ zU (zZ zU (zZ zU (zZ zU zV)))))) (yP (zX 4) zU)))
     (zT oH rfl (zH 6 wZ.nd (yP (zX 3) (yU (uD (wG (zZ zU (zZ zU (zZ zU zV))))) (yU (zX 0) zU))))
     (zT oJ rfl (wW (z9 lG (yU (zX 0) zU) zU) (sV (zH 6 wZ.nd (yP (aO (zX 3) zU) (aO zU zU)))
     (zO (zH 5 wZ.nd (yU (uD (wG (zZ zU (zZ zU (zZ zU (zZ (wX (yP (aO (zX 4) zU) (aO zU zU)) zU) zV)))))) (yP (zX 4) zU))))) yY)
     (zT oN rfl (zH 7 wZ.nd (wX (zX 6) (yP (rN (tQ (zX 4) zU) (aO zU zU)) (zX 5))))
     (zO (zD (wF (zZ (zX 6) (zZ (zX 7) (zZ (yU (yU (zX 0) zU) (yP (yC (xR T) hr (zZ (zX 1) (zZ (wX (rN zU (zX 2)) zU) zV))) zU)) zV))))))))))))
theorem vG:FnScope ["_law_pool_here","_law_cell_here","_law_kept_here","_law_what","_law_many","_law_there","_law_at"] ["_law_pool_here","_law_cell_here","_law_kept_here"] (zW rZ):=xP ja
def jL:Sf:=(xM (eL (xL (iR (eV 4)) 1 [5,6] (gN 0) tOK (xH (zY (eC (.str "take")) (zY (eIx (eV 1) (yW (xG (eV 2) (eV 0)) (wJ (eV 1)))) zP))))))
def oI:Sf:=(zG (zA 6 (yW (uW (eV 3) (eC (.int 120))) (wJ (eV 5))))
   (jL))
def oR:Sf:=(zG (zA 4 (zT8 (wJ (eV 5)) (eIx (eL (wL (zY (eV 4) (zY (jO jr (eV 4)) (zY (eC (.int 30)) zP))))) (yW (uW (eV 3) (eC (.int 40))) jr))))
   (oI))
def oQ:Sf:=(zG (zA 5 (zI 1 uG (zY (eV 2) zP)))
   (oR))
def uV:Sf:=(zG (sIf (kQ (eB2 gLt (yW (eV 3) jx) ju) (eB2 gEq (zUr (eV 2)) jo)) (xM (eL (xL (iR (eV 4)) 1 [0,1] (gN 0) tOK (xH (zY (eC (.str "put")) (zY (zI 3 pL (zY (eV 1) (zY (eV 2) (zY (eV 0) zP)))) zP)))))) wA)
   (oQ))
def oZ:Sf:=(zG (zA 4 (xG jp (yW (uW (eV 3) jx) ju)))
   (uV))
def sP:Sf:=(zG (zA 3 (zI 2 yD (zY (eV 1) (zY jo zP))))
   (oZ))
def zWw:Sf :=
   (sP)
def vV:jy:=fnF 7 zWw
theorem zY5 (T:Txt K mg):OkT P w base T.q27 3 3 vV :=
 vN (k:=2) T.q27.F vG fun j9 A outer s H E hr =>
   (zT sP rfl (zH 3 vG.nd (yC (xR T) hr (zZ (zX 1) (zZ zU zV))))
     (zT oZ rfl (zH 4 vG.nd (wX zU (yP (tQ (zX 3) zU) zU)))
     (zT uV rfl (wW (zZD (pA (z9 zTZ (yP (zX 3) zU) zU) (pP (z9 lG (zQQ rfl T.z_len (zX 2)) zU)))) (zO (zD (uD (pF (zW rZ) ["_law_pool_here","_law_cell_here","_law_kept_here","_law_what","_law_many","_law_there","_law_at"] ["_law_k"] ["_law_pool_here","_law_cell_here"] [0,1] (iS 0) (zRn rfl T.z_range (zX 4)) rfl rfl rfl ja (fun _ _ _ _=>(tD 0 (show(jz ["_law_k","_law_pool_here","_law_cell_here"]) from ja))) (fun _ _ _ _=>uJ) (fun _ _ _ _=>(wF (zZ uZ (zZ (yC (zXZ T) hr (zZ (zX 1) (zZ (zX 2) (zZ (zX 0) zV)))) zV)))))))) yY)
     (zT oQ rfl (zH 5 vG.nd (yC (qT T) hr (zZ (zX 2) zV)))
     (zT oR rfl (zH 4 vG.nd (zOv rfl rfl T.z_min (tX rfl T.z_len (zX 5)) (yU (uD (wG (zZ (zX 4) (zZ (rN zU (zX 4)) (zZ zU zV))))) (yP (tQ (zX 3) zU) zU))))
     (zT oI rfl (zH 6 vG.nd (yP (tQ (zX 3) zU) (tX rfl T.z_len (zX 5))))
     (zO (zD (uD (pF (zW rZ) ["_law_pool_here","_law_cell_here","_law_kept_here","_law_what","_law_many","_law_there","_law_at"] ["_law_k"] ["_law_there","_law_at"] [5,6] (iS 0) (zRn rfl T.z_range (zX 4)) rfl rfl rfl ja (fun _ _ _ _=>(tD 0 (show(jz ["_law_k","_law_there","_law_at"]) from ja))) (fun _ _ _ _=>uJ) (fun _ _ _ _=>(wF (zZ uZ (zZ (yU (zX 1) (yP (wX (zX 2) (zX 0)) (tX rfl T.z_len (zX 1)))) zV))))))))))))))
theorem dJ:FnScope ["_law_kept_here","_law_deed","_law_first","_law_last","_law_name"] ["_law_kept_here","_law_deed"] (zW iG):=xP ja
def vL:Sf :=
   (zG (gH (eIx (eV 1) jp) (gT (zF (gN 2) (zF (gN 3) (zF (gN 4) vZ))))) (sIf (eB2 gEq (eIx (eV 1) jo) (eC (.str "put"))) (zR1 0 (zY (eV 2) (zY (eV 4) zP)) (eV 3)) (lS 0 (xH (zY (eV 2) (zY (eV 4) zP))))))
def uK:D->List D->Option D:=zND 5 vL
theorem zWj (T:Txt K mg):FnOk P w K mg base CX0 1 T.q28.f T.q28.fd ["_law_kept_here","_law_deed"] (zQY K 1 uK) :=
 zUl (N:=["_law_kept_here","_law_deed","_law_first","_law_last","_law_name"]) (sf:="_law_kept_here") (ps:=["_law_deed"]) (k:=0) (f:=vL) T.q28.F dJ fun j9 A outer s H E hr =>
   (zRf (zPM 0 2 3 4 rfl dJ.nd (yU (zX 1) zU)) (kG (zPx (z9 lG (yU (zX 1) zU) uZ) (kG (zQk 0 hr (zX 3) (zZ (zX 2) (zZ (zX 4) zV)))) (kG (zPO 0 (zUw PySem.F.plainAttrs_dict PySem.F.slot_dict_pop PySem.F.type_dict_pop (zUy hr) (pv 0) (yZ (wF (zZ (zX 2) (zZ (zX 4) zV))) wH)))))))
theorem qM:FnScope ["_law_script","_law_pool_here","_law_store","_law_kept_here","_law_stranger_here","_law_k","_law_cell_here","_law_deed"] ["_law_script"] (zW zRG):=xP ja
def oF:Sf:=(sIf (tL 3 2 (kQ (eB2 gEq (eIx (eV 7) jo) (eC (.str "take"))) (zY1 false (xH (zY (eIx (eIx (eV 7) jp) jo) (zY (eIx (eIx (eV 7) jp) jq) zP))) (eV 3)))) (zG (rG 2 1 vP (zY (eV 7) zP))
   (rG 3 1 uK (zY (eV 7) zP))) wA)
def zZM:Sf:=(zUY (zOh (zSM (tL 3 2 (eB2 kB (eV 4) (zI 1 uG (zY (eV 3) zP))))) (zV6 (gR 2 3 1 xV (zY (eV 4) zP)))) (xM (eC (.bl false))) wA)
def gB:Sf:=(zG (zA 4 (vM 3 2 (zI 3 vU (zY (eV 1) (zY (eV 3) (zY (zI 2 yD (zY (eV 6) (zY (eC (.int 30)) zP))) zP))))))
   (zZM))
def kM:Sf:=(zG (jQ (iL (vM 3 2 (zI 3 vV (zY (eV 1) (zY (eV 6) (zY (eV 3) zP)))))) (gN 7) (oF))
   (gB))
def aX:Sf:=(zG (zA 5 (xG (eV 5) jp))
   (kM))
def oA:Sf:=(zG (zA 6 (xG (eV 6) (jO (jO (eV 5) (eV 5)) (eC (.int 1000003)))))
   (aX))
def zQw:Sf:=(xM (eC (.bl true)))
def zY3:Sf:=(zG (jQ (wV (eV 0) (xF jq) (xF (eC (.int 63)))) (gN 6) (oA))
   (zQw))
def cG:Sf:=(zG (zA 5 jo)
   (zY3))
def zYf:Sf:=(zG (zUY (zV6 (gR 2 3 1 xV (zY (eV 4) zP))) (xM (eC (.bl false))) wA)
   (cG))
def zXV:Sf:=(zG (zA 4 (vM 3 2 (zI 3 vU (zY (eV 1) (zY (eV 3) (zY jw zP))))))
   (zYf))
def zY8:Sf:=(zG (zSQ 3)
   (zXV))
def zYo:Sf:=(zG (zXA 2 "Store" ["size","root"] 1 zZG (zY (xG jt (yW (zI 2 qS (zY (eV 0) (zY jo zP))) (eC (.int 9)))) zP))
   (zY8))
def cE:Sf:=(zG (zA 1 (zI 1 iU (zY (zI 2 qS (zY (eV 0) (zY jp zP))) zP)))
   (zYo))
def zN6:Sf :=
   (cE)
def zZt:jy:=fnF 8 zN6
theorem zNW (T:Txt K mg):OkT P w base T.q29 20 1 zZt :=
 vN (k:=19) T.q29.F qM fun j9 A outer s H E hr =>
   (zT cE rfl (zH 1 qM.nd (yC (zWL T) hr (zZ (yC (dC T) hr (zZ (zX 0) (zZ zU zV))) zV)))
     (zT zYo rfl (zR2 2 qM.nd T.ca_Store T.mk_Store (zSX T) (hr.mono jc) T.mc_Store T.bi_Store rfl (zZ (wX zU (yP (yC (dC T) hr (zZ (zX 0) (zZ zU zV))) zU)) zV))
     (zT zY8 rfl (zSE 3 qM.nd)
     (zT zXV rfl (zH 4 qM.nd (sB 3 2 (yC (lX T) hr (zZ (zX 1) (zZ (zX 3) (zZ zU zV))))))
     (zT zYf rfl (zRW (zSb (zUo 2 3 (jA T) hr (zZ (zX 4) zV))) (zO (zD uH)) yY)
     (zT cG rfl (zH 5 qM.nd zU)
     (zT zY3 rfl (jY Rz rfl (zSs (uX (zX 0) (pD zU) (pD zU))) (tD 6 qM.nd) (zT oA rfl (zH 6 qM.nd (wX (zX 6) (rN (rN (zX 5) (zX 5)) zU)))
     (zT aX rfl (zQI 5 qM.nd zU)
     (zT kM rfl (jY Rz rfl (zWn (sB 3 2 (yC (zY5 T) hr (zZ (zX 1) (zZ (zX 6) (zZ (zX 3) zV)))))) (tD 7 qM.nd) (zO (wW (nU 3 2 (zZD (pA (z9 lG (yU (zX 7) zU) uZ) (pP (zTn hr (wF (zZ (yU (yU (zX 7) zU) zU) (zZ (yU (yU (zX 7) zU) zU) zV))) (zX 3)))))) (sV (zZf 2 (zW4 T) hr (zZ (zX 7) zV))
     (zO (zZf 3 (zWj T) hr (zZ (zX 7) zV)))) yY)))
     (zT gB rfl (zH 4 qM.nd (sB 3 2 (yC (lX T) hr (zZ (zX 1) (zZ (zX 3) (zZ (yC (xR T) hr (zZ (zX 6) (zZ zU zV))) zV))))))
     (zO (zRW (zMq (zOc (zQe (nU 3 2 (z9 (zZa hr) (zX 4) (yC (qT T) hr (zZ (zX 3) zV))))) (zP6 (zSb (zUo 2 3 (jA T) hr (zZ (zX 4) zV)))))) (zO (zD uH)) yY)))))))
     (zO (zD uH)))))))))
end
open PySem.W
theorem zN9 {l:OpenLaw}{w:World}{K:Frag}{h:Heap}{mg:Str->Option Value}{fa:Addr}
   {f15:Addr} {od15 an15:Option Addr} {sl15:Array (Option Value)} {oc15 kV15 dc15 pm15 cd15 ct15:Value}
   {f18:Addr} {od18 an18:Option Addr} {sl18:Array (Option Value)} {oc18 kV18 dc18 pm18 cd18 ct18:Value}
   {f22:Addr} {od22 an22:Option Addr} {sl22:Array (Option Value)} {oc22 kV22 dc22 pm22 cd22 ct22:Value}
   {f24:Addr} {od24 an24:Option Addr} {sl24:Array (Option Value)} {oc24 kV24 dc24 pm24 cd24 ct24:Value}
   {cC0 cF0:Addr} {codi0 cani0:Option Addr} {csl0:Array (Option Value)} {coc0 ckV0 cdc0 cpm0 ccd0 cct0:Value}
   {cC1 cF1:Addr} {codi1 cani1:Option Addr} {csl1:Array (Option Value)} {coc1 ckV1 cdc1 cpm1 ccd1 cct1:Value}
   {xC0:Addr}
   {xC1:Addr}
   {xC2:Addr}
   {xC3:Addr}
   {xC4:Addr}
   {xC5:Addr}
   {xC6:Addr}
   {xC7:Addr}
   {xC8:Addr} (X:K.In h) (G:h.Ns mainGlobals mg) (hfa:mg "law"=some (.ref fa))
   (g0:sZ K "_law_mixed" lQ)
   (g1:sZ K "_law_word" hV)
   (g2:sZ K "_law_pool" mP)
   (g3:sZ K "_law_due" kC)
   (g4:sZ K "_law_stranger" qG)
   (g5:sZ K "_law_cell" iQ)
   (g6:sZ K "_law_number" mE)
   (g7:sZ K "_law_entries" oW)
   (g8:sZ K "_law_is" zZK)
   (g9:sZ K "root_of" eS)
   (g10:sZ K "rank" zUW)
   (g11:sZ K "way" zU3)
   (g12:sZ K "entry_like" rA)
   (g13:sZ K "pages_of" hW)
   (g14:sZ K "put_beneath" oS)
   (g16:sZ K "filled" gU)
   (g17:sZ K "taken_beneath" uP)
   (g19:sZ K "_law_done" iP)
   (g20:sZ K "_law_refused" oO)
   (g21:sZ K "shape_of" nE)
   (g23:sZ K "entries_beneath" tP)
   (g25:sZ K "_law_missed" nO)
   (g26:sZ K "_law_entry" kU)
   (g27:sZ K "_law_deeds" rZ)
   (g28:sZ K "_law_kept" iG)
   (g29:sZ K "law" zRG)
   (ca0:nsIn K mainGlobals "Page"=some (some (.ref cC0))) (ci0:findIn K (.ref cC0) "__init__"=some (some (.ref cF0))) (cn0:isFn K (.ref cF0)=true) (cl0:K.lookup cF0=some ⟨coc0,codi0,.func (fnOf "__init__" "Page.__init__" (vY rF) (yQ rF) (zW rF) .none ckV0 cdc0 cpm0 cani0 ccd0 cct0),csl0⟩) (cc0:codeIn K ccd0 "Page.__init__"=true) (ck0:keepIn K (.ref cF0)=true)
   (cpg0:plainGet K cC0 Str.empty=true) (chd0:hasDictIn K cC0=true) (cpo0:plainOver K cC0=true) (csa0:findIn K (.ref cC0) "__setattr__"=some (some (.builtin "object.__setattr__"))) (cmk0:makesIn K cC0=true) (ckc0:keepIn K (.ref cC0)=true)
   (cf0_leaf:findIn K (.ref cC0) "leaf"=some none)
   (cf0_leasts:findIn K (.ref cC0) "leasts"=some none)
   (cf0_most:findIn K (.ref cC0) "most"=some none)
   (cf0_things:findIn K (.ref cC0) "things"=some none)
   (ca1:nsIn K mainGlobals "Store"=some (some (.ref cC1))) (ci1:findIn K (.ref cC1) "__init__"=some (some (.ref cF1))) (cn1:isFn K (.ref cF1)=true) (cl1:K.lookup cF1=some ⟨coc1,codi1,.func (fnOf "__init__" "Store.__init__" (vY nX) (yQ nX) (zW nX) .none ckV1 cdc1 cpm1 cani1 ccd1 cct1),csl1⟩) (cc1:codeIn K ccd1 "Store.__init__"=true) (ck1:keepIn K (.ref cF1)=true)
   (cpg1:plainGet K cC1 Str.empty=true) (chd1:hasDictIn K cC1=true) (cpo1:plainOver K cC1=true) (csa1:findIn K (.ref cC1) "__setattr__"=some (some (.builtin "object.__setattr__"))) (cmk1:makesIn K cC1=true) (ckc1:keepIn K (.ref cC1)=true)
   (cf1_root:findIn K (.ref cC1) "root"=some none)
   (cf1_size:findIn K (.ref cC1) "size"=some none)
   (a15:findIn K (.ref cC1) "put"=some (some (.ref f15))) (n15:isFn K (.ref f15)=true) (l15:K.lookup f15=some ⟨oc15,od15,.func (fnOf "put" "Store.put" (vY uI) (yQ uI) (zW uI) .none kV15 dc15 pm15 an15 cd15 ct15),sl15⟩) (c15:codeIn K cd15 "Store.put"=true) (k15:keepIn K (.ref f15)=true)
   (a18:findIn K (.ref cC1) "take"=some (some (.ref f18))) (n18:isFn K (.ref f18)=true) (l18:K.lookup f18=some ⟨oc18,od18,.func (fnOf "take" "Store.take" (vY vH) (yQ vH) (zW vH) .none kV18 dc18 pm18 an18 cd18 ct18),sl18⟩) (c18:codeIn K cd18 "Store.take"=true) (k18:keepIn K (.ref f18)=true)
   (a22:findIn K (.ref cC1) "shape"=some (some (.ref f22))) (n22:isFn K (.ref f22)=true) (l22:K.lookup f22=some ⟨oc22,od22,.func (fnOf "shape" "Store.shape" (vY w9) (yQ w9) (zW w9) .none kV22 dc22 pm22 an22 cd22 ct22),sl22⟩) (c22:codeIn K cd22 "Store.shape"=true) (k22:keepIn K (.ref f22)=true)
   (a24:findIn K (.ref cC1) "listed"=some (some (.ref f24))) (n24:isFn K (.ref f24)=true) (l24:K.lookup f24=some ⟨oc24,od24,.func (fnOf "listed" "Store.listed" (vY wP) (yQ wP) (zW wP) .none kV24 dc24 pm24 an24 cd24 ct24),sl24⟩) (c24:codeIn K cd24 "Store.listed"=true) (k24:keepIn K (.ref f24)=true)
   (xa0:nsIn K mainGlobals "Twice"=some (some (.ref xC0)))
   (xk0:zX8 K xC0=true)
   (xe0:keepIn K (.ref xC0)=true)
   (xc0:excIn K xC0 zQq "ValueError.__new__"=true)
   (xa1:nsIn K mainGlobals "NoEntry"=some (some (.ref xC1)))
   (xk1:zX8 K xC1=true)
   (xe1:keepIn K (.ref xC1)=true)
   (xc1:excIn K xC1 zQq "ValueError.__new__"=true)
   (xa2:nsIn K mainGlobals "YardError"=some (some (.ref xC2)))
   (xa3:nsIn K mainGlobals "BadBox"=some (some (.ref xC3)))
   (xa4:nsIn K mainGlobals "TooWide"=some (some (.ref xC4)))
   (xa5:nsIn K mainGlobals "OffFloor"=some (some (.ref xC5)))
   (xa6:nsIn K mainGlobals "Unmet"=some (some (.ref xC6)))
   (xa7:nsIn K mainGlobals "TextError"=some (some (.ref xC7)))
   (xa8:nsIn K mainGlobals "NoThing"=some (some (.ref xC8)))
   (ix_YardError:vR K (.ref xC2) [(xC0,true),(xC1,true)]=true)
   (ix_ValueError:vR K (.type "ValueError") [(xC0,true),(xC1,true)]=true)
   (ix_Twice:vR K (.ref xC0) [(xC0,true),(xC1,false)]=true)
   (ix_NoEntry:vR K (.ref xC1) [(xC0,false),(xC1,true)]=true)
   (ix_BadBox:vR K (.ref xC3) [(xC0,false),(xC1,false)]=true)
   (ix_TooWide:vR K (.ref xC4) [(xC0,false),(xC1,false)]=true)
   (ix_OffFloor:vR K (.ref xC5) [(xC0,false),(xC1,false)]=true)
   (ix_Unmet:vR K (.ref xC6) [(xC0,false),(xC1,false)]=true)
   (ix_TextError:vR K (.ref xC7) [(xC0,false),(xC1,false)]=true)
   (ix_NoThing:vR K (.ref xC8) [(xC0,false),(xC1,false)]=true)
   (em_YardError_Twice:exmOne K (.ref xC0) (.ref xC2)=some true)
   (em_YardError_NoEntry:exmOne K (.ref xC1) (.ref xC2)=some true)
   (z_ValueError:nsIn K mainGlobals "ValueError"=some none)
   (z_bool:nsIn K mainGlobals "bool"=some none)
   (z_enumerate:nsIn K mainGlobals "enumerate"=some none)
   (z_int:nsIn K mainGlobals "int"=some none)
   (z_isinstance:nsIn K mainGlobals "isinstance"=some none)
   (z_len:nsIn K mainGlobals "len"=some none)
   (z_list:nsIn K mainGlobals "list"=some none)
   (z_max:nsIn K mainGlobals "max"=some none)
   (z_min:nsIn K mainGlobals "min"=some none)
   (z_range:nsIn K mainGlobals "range"=some none)
   (z_sorted:nsIn K mainGlobals "sorted"=some none)
   (z_str:nsIn K mainGlobals "str"=some none)
   (z_tuple:nsIn K mainGlobals "tuple"=some none)
   (z_zip:nsIn K mainGlobals "zip"=some none) :
   ∃fd:FuncData,(∀(s:Shared) (v:Value),BindsTo s fd ⟨[v],[]⟩ [("_law_script",v)])/\∀base:Heap,K.In base->base.Ns mainGlobals mg->FnOk l.prog w K mg base CX0 20 fa fd ["_law_script"] (spF K 1 zZt):=by
 have cFF0:=lU (st:=rF) cl0 cc0 ck0
 have cb0:=cFF0.binds (ps:=["self","leaf","things"]) fun _ _ _ _ _ _ us hl=>match us,hl with | [_,_,_],_=>rfl
 have cFF1:=lU (st:=nX) cl1 cc1 ck1
 have cb1:=cFF1.binds (ps:=["self","size"]) fun _ _ _ _ _ _ us hl=>match us,hl with | [_,_],_=>rfl
 have F15:=lU (st:=uI) l15 c15 k15
 have b15:=F15.binds (ps:=["self","entry"]) fun _ _ _ _ _ _ us hl=>match us,hl with | [_,_],_=>rfl
 have F18:=lU (st:=vH) l18 c18 k18
 have b18:=F18.binds (ps:=["self","entry"]) fun _ _ _ _ _ _ us hl=>match us,hl with | [_,_],_=>rfl
 have F22:=lU (st:=w9) l22 c22 k22
 have b22:=F22.binds (ps:=["self"]) fun _ _ _ _ _ _ us hl=>match us,hl with | [_],_=>rfl
 have F24:=lU (st:=wP) l24 c24 k24
 have b24:=F24.binds (ps:=["self"]) fun _ _ _ _ _ _ us hl=>match us,hl with | [_],_=>rfl
 exact zOg _ (bd1 fun _ _ _ _ _ _ _=>rfl) hfa fun base=>zNW ({ q0:=sE X G g0 (bd2 fun _ _ _ _ _ _ _ _=>rfl),q1:=sE X G g1 (bd2 fun _ _ _ _ _ _ _ _=>rfl),q2:=sE X G g2 (bd1 fun _ _ _ _ _ _ _=>rfl),q3:=sE X G g3 (bd1 fun _ _ _ _ _ _ _=>rfl),q4:=sE X G g4 (bd3 fun _ _ _ _ _ _ _ _ _=>rfl),q5:=sE X G g5 (bd2 fun _ _ _ _ _ _ _ _=>rfl),q6:=sE X G g6 (bd1 fun _ _ _ _ _ _ _=>rfl),q7:=sE X G g7 (bd2 fun _ _ _ _ _ _ _ _=>rfl),q8:=sE X G g8 (bd2 fun _ _ _ _ _ _ _ _=>rfl),q9:=sE X G g9 (bd1 fun _ _ _ _ _ _ _=>rfl),q10:=sE X G g10 (bd1 fun _ _ _ _ _ _ _=>rfl),q11:=sE X G g11 (bd2 fun _ _ _ _ _ _ _ _=>rfl),q12:=sE X G g12 (bd2 fun _ _ _ _ _ _ _ _=>rfl),q13:=sE X G g13 (bd3 fun _ _ _ _ _ _ _ _ _=>rfl),q14:=sE X G g14 (bd3 fun _ _ _ _ _ _ _ _ _=>rfl),q16:=sE X G g16 (bd2 fun _ _ _ _ _ _ _ _=>rfl),q17:=sE X G g17 (bd3 fun _ _ _ _ _ _ _ _ _=>rfl),q19:=sE X G g19 (bd2 fun _ _ _ _ _ _ _ _=>rfl),q20:=sE X G g20 (bd2 fun _ _ _ _ _ _ _ _=>rfl),q21:=sE X G g21 (bd1 fun _ _ _ _ _ _ _=>rfl),q23:=sE X G g23 (bd1 fun _ _ _ _ _ _ _=>rfl),q25:=sE X G g25 (bd3 fun _ _ _ _ _ _ _ _ _=>rfl),q26:=sE X G g26 (bd3 fun _ _ _ _ _ _ _ _ _=>rfl),q27:=sE X G g27 (bd3 fun _ _ _ _ _ _ _ _ _=>rfl),q28:=sE X G g28 (bd2 fun _ _ _ _ _ _ _ _=>rfl),q29:=sE X G g29 (bd1 fun _ _ _ _ _ _ _=>rfl),C_Page:=_,fi_Page:=_,fdi_Page:=_,ca_Page:=ca0,cl_Page:=⟨cpg0,chd0,cpo0,csa0⟩,mc_Page:=mg_of X G ca0,Fi_Page:=cFF0,bi_Page:=cb0,mk_Page:=⟨cmk0,ci0,cn0,ckc0⟩,n_Page_leaf:=cf0_leaf,n_Page_leasts:=cf0_leasts,n_Page_most:=cf0_most,n_Page_things:=cf0_things,C_Store:=_,fi_Store:=_,fdi_Store:=_,ca_Store:=ca1,cl_Store:=⟨cpg1,chd1,cpo1,csa1⟩,mc_Store:=mg_of X G ca1,Fi_Store:=cFF1,bi_Store:=cb1,mk_Store:=⟨cmk1,ci1,cn1,ckc1⟩,n_Store_root:=cf1_root,n_Store_size:=cf1_size,f_Store_put:=_,fd_Store_put:=_,F_Store_put:=F15,b_Store_put:=b15,me_Store_put:=⟨a15,n15,k15⟩,f_Store_take:=_,fd_Store_take:=_,F_Store_take:=F18,b_Store_take:=b18,me_Store_take:=⟨a18,n18,k18⟩,f_Store_shape:=_,fd_Store_shape:=_,F_Store_shape:=F22,b_Store_shape:=b22,me_Store_shape:=⟨a22,n22,k22⟩,f_Store_listed:=_,fd_Store_listed:=_,F_Store_listed:=F24,b_Store_listed:=b24,me_Store_listed:=⟨a24,n24,k24⟩,C_Twice:=_,ca_Twice:=xa0,mc_Twice:=mg_of X G xa0,xk_Twice:=zUs xk0,kc_Twice:=xe0,xc_Twice:=zUn xc0,C_NoEntry:=_,ca_NoEntry:=xa1,mc_NoEntry:=mg_of X G xa1,xk_NoEntry:=zUs xk1,kc_NoEntry:=xe1,xc_NoEntry:=zUn xc1,C_YardError:=_,ca_YardError:=xa2,mc_YardError:=mg_of X G xa2,C_BadBox:=_,ca_BadBox:=xa3,mc_BadBox:=mg_of X G xa3,C_TooWide:=_,ca_TooWide:=xa4,mc_TooWide:=mg_of X G xa4,C_OffFloor:=_,ca_OffFloor:=xa5,mc_OffFloor:=mg_of X G xa5,C_Unmet:=_,ca_Unmet:=xa6,mc_Unmet:=mg_of X G xa6,C_TextError:=_,ca_TextError:=xa7,mc_TextError:=mg_of X G xa7,C_NoThing:=_,ca_NoThing:=xa8,mc_NoThing:=mg_of X G xa8,ix_YardError:=ix_YardError,ix_ValueError:=ix_ValueError,ix_Twice:=ix_Twice,ix_NoEntry:=ix_NoEntry,ix_BadBox:=ix_BadBox,ix_TooWide:=ix_TooWide,ix_OffFloor:=ix_OffFloor,ix_Unmet:=ix_Unmet,ix_TextError:=ix_TextError,ix_NoThing:=ix_NoThing,em_YardError_Twice:=em_YardError_Twice,em_YardError_NoEntry:=em_YardError_NoEntry,z_ValueError:=mg_none_of X G z_ValueError,z_bool:=mg_none_of X G z_bool,z_enumerate:=mg_none_of X G z_enumerate,z_int:=mg_none_of X G z_int,z_isinstance:=mg_none_of X G z_isinstance,z_len:=mg_none_of X G z_len,z_list:=mg_none_of X G z_list,z_max:=mg_none_of X G z_max,z_min:=mg_none_of X G z_min,z_range:=mg_none_of X G z_range,z_sorted:=mg_none_of X G z_sorted,z_str:=mg_none_of X G z_str,z_tuple:=mg_none_of X G z_tuple,z_zip:=mg_none_of X G z_zip }:Txt K mg)
theorem zNU {K:Frag}{H:Hp}{a:Addr}{ns:List Int}(hS:SqL K H a (ns.map V.int))(h:zZt [.lst (ns.map .int)]=some (.bl true)):spF K 1 zZt [.ref a] H (fun v _=>v = .bl true) fun _ _ _=>False:=by
 have rs:∀ns:List Int,Reps K H (ns.map .int) (ns.map V.int):=fun ns=>by
   induction ns with
   | nil=>exact zM.mpr rfl
   | cons n r ih=>exact zR.mpr ⟨_,_,rfl,zK.mpr rfl,ih⟩
 exact⟨H,[.lst (ns.map .int)],.bl true,Same.refl _,zR.mpr ⟨_,_,rfl,yA.mpr ⟨a,_,rfl,hS,rs ns⟩,zM.mpr rfl⟩,rfl,h,fun v H' G' _ r=>xD.mp r⟩
end My
namespace My
open PySem L2
structure Et where
 f:Int
 l:Int
 z:Str
def kE (e:Et):Int×Str:=(e.f,e.z)
abbrev zE:Et:=⟨0,0,⟨#[]⟩⟩
def z8 (a e:Et):Bool:=a.f==e.f&&(a.l==e.l&&a.z==e.z)
theorem xY {a e:Et}:z8 a e=true↔a=e:=by
 obtain⟨f,l,z⟩:=a
 obtain⟨f',l',z'⟩:=e
 unfold z8
 simp
def qA (l:List Et):List Et:=(gA (l.map kE)).map fun i=>l.getD i zE
theorem zPv {l:List Et}{i:Nat}(h:i∈gA (l.map kE)):i < l.length:=by
 have:=(qW (l.map kE)).subset h
 simpa using this
theorem iT (l:List Et):(qA l).Perm l:=by
 unfold qA
 refine((qW (l.map kE)).map _).trans ?_
 rw[Qi,tZ]
theorem zVd (l:List Et):(qA l).map kE=mO (l.map kE):=by
 unfold qA mO
 rw[Rx]
 refine Ig fun i hi=>?_
 have h:=zPv hi
 show kE (l.getD i zE)=(l.map kE).getD i isZ
 simp[h]
theorem dU (l:List Et):(qA l).length=l.length:=(iT l).length_eq
def Srt (es:List Et):Prop:=es.Pairwise fun a b=>yF (kE a) (kE b)=true
theorem zUK {a b:Int×Str}(h:yF a b=true):yF b a=false:=by
 cases q:yF b a
 · rfl
 · have:=zX5 h q;rw[wQ] at this;cases this
theorem zPl {a b c:Int×Str}(h:yF a b=true)(h2:yF c b=false):yF a c=true:=by
 rcases zWF (b:=c) h with q | q
 · exact q
 · rw[h2] at q;cases q
theorem Srt.of {es:List Et}(h:(es.map kE).Pairwise fun a b=>yF b a=false)(nd:(es.map kE).Nodup):Srt es:=by
 unfold Srt
 rw[Rr] at h
 have nd:=Rr.mp nd
 refine(h.and nd).imp fun {a b} z=>?_
 cases q:yF (kE a) (kE b)
 · exact absurd (zU6 q z.1) z.2
 · rfl
theorem Srt.nd {es:List Et}(h:Srt es):(es.map kE).Nodup:=by
 refine Rr.mpr (h.imp fun {a b} z e=>?_)
 rw[e,wQ] at z;cases z
theorem Srt.up {es:List Et}(h:Srt es):(es.map kE).Pairwise fun a b=>yF b a=false:=Rr.mpr (h.imp fun {a b} z=>zUK z)
theorem zSW {l:List Et}(nd:(l.map kE).Nodup):Srt (qA l):=by
 refine Srt.of ?_ ((((iT l).map kE)).nodup_iff.mpr nd)
 rw[zVd];exact jF _
theorem Srt.inj {es:List Et}(h:Srt es){a b:Et}(ha:a∈es)(hb:b∈es)(e:kE a=kE b):a=b:=by
 induction es with
 | nil=>cases ha
 | cons x r ih =>
   obtain⟨p,q⟩:=Rg.mp h
   rcases Qa.mp ha with ea | ha'<;>rcases Qa.mp hb with eb | hb'
   · rw[ea,eb]
   · have:=p b hb';rw[←ea,e,wQ] at this;cases this
   · have:=p a ha';rw[←eb,e,wQ] at this;cases this
   · exact ih q ha' hb'
theorem fZ:∀ {l m:List (Int×Str)},l.Perm m->l.Pairwise (fun a b=>yF b a=false)->m.Pairwise (fun a b=>yF b a=false)->l=m
 | [],m,h,_,_=>(List.Perm.nil_eq h)
 | a::r,m,h,h1,h2=>by
   cases m with
   | nil=>exact absurd h.length_eq je
   | cons b t =>
     obtain⟨p1,p2⟩:=Rg.mp h1
     obtain⟨q1,q2⟩:=Rg.mp h2
     have e:a=b:=by
       have ha:a∈b::t:=h.subset je
       have hb:b∈a::r:=h.symm.subset je
       rcases Qa.mp ha with e | e
       · exact e
       · rcases Qa.mp hb with e' | e'
         · exact e'.symm
         · exact zU6 (q1 a e) (p1 b e')
     subst e
     rw[fZ (List.Perm.cons_inv h) p2 q2]
@[reducible] def It:Nat->Type
 | 0=>Et
 | h+1=>List (It h)
def zNe {α:Type}(f:α->Et):List α->Et
 | []=>zE
 | x::_=>f x
def yE:(h:Nat)->It h->Et
 | 0,e=>e
 | h+1,xs=>zNe (yE h) xs
def most:(h:Nat)->It h->Int
 | 0,e=>e.l
 | h+1,xs=>aZ (List.map (most h) xs)
def qF:(h:Nat)->It h->List Et
 | 0,e=>[e]
 | h+1,xs=>List.flatMap (qF h) xs
abbrev zS (h:Nat)(xs:List (It h)):List Et:=xs.flatMap (qF h)
def w6 {α:Type}(n:Nat)(xs:List α):List (List α):=if xs.length=0 then [] else if xs.length<=n then [xs] else [xs.take (xs.length / 2),xs.drop (xs.length / 2)]
def zTz (ls:List Et)(e:Et):Nat:=(ls.filter fun a => !yF (kE e) (kE a)).length - 1
def yJ (h:Nat)(xs:List (It (h+1)))(e:Et):Nat:=zTz (xs.map (yE (h+1))) e
def jB:(h:Nat)->List (It h)->Et->Option Et
 | 0,xs,e=>(List.filter (fun a:Et=>decide (kE a=kE e)) xs).head?
 | h+1,xs,e=>jB h (List.getD xs (yJ h xs e) []) e
def nZ (n:Nat):(h:Nat)->List (It h)->Et->List (List (It h))
 | 0,xs,e=>w6 n (qA (xs++[e]))
 | h+1,xs,e=>w6 n (List.take (yJ h xs e) xs++nZ n h (List.getD xs (yJ h xs e) []) e++List.drop (yJ h xs e+1) xs)
def pQ {α:Type}(n:Nat)(ps:List (List α)):List (List α) :=
 match ps.findIdx? (fun x=>decide (x.length < n / 2)) with
 | none=>ps
 | some i=>ps.take (i - 1)++w6 n ((ps.drop (i - 1)).take 2).flatten++ps.drop (i - 1+2)
def cS (n:Nat):(h:Nat)->List (It h)->Et->List (List (It h))
 | 0,xs,e=>w6 n (List.filter (fun a:Et => !z8 a e) xs)
 | h+1,xs,e=>w6 n (pQ n (List.take (yJ h xs e) xs++cS n h (List.getD xs (yJ h xs e) []) e++List.drop (yJ h xs e+1) xs))
def vE (n:Nat):(h:Nat)->It h->Prop
 | 0,_=>True
 | h+1,xs=>n / 2<=List.length xs/\List.length xs<=n/\∀x∈(xs:List (It h)),vE n h x
theorem mY {n h:Nat}{xs:List (It h)}(h1:n / 2<=xs.length)(h2:xs.length<=n)(h3:∀x∈xs,vE n h x):vE n (h+1) xs:=⟨h1,h2,h3⟩
theorem xT {n h:Nat}{xs:List (It h)}(H:vE n (h+1) xs):n / 2<=xs.length/\xs.length<=n/\∀x∈xs,vE n h x:=H
theorem zZi {α:Type}(n:Nat)(xs:List α):(w6 n xs).flatten=xs:=by
 unfold w6
 split
 · rename_i h;rw[Ua] at h;rw[h];rfl
 · split
   · simp
   · simp
theorem gI {α:Type}{n:Nat}{xs:List α}(h0:0 < xs.length)(h1:xs.length<=n):w6 n xs=[xs]:=by
 unfold w6
 rw[Qs jc,Qu h1]
theorem zWJ {α:Type}{n:Nat}{xs:List α}(h1:n < xs.length):w6 n xs=[xs.take (xs.length / 2),xs.drop (xs.length / 2)]:=by
 unfold w6
 rw[Qs jc,Qs jc]
inductive PutOk (n h:Nat)(m:Nat):List (List (It h))->Prop
 | one {y:List (It h)}:m<=y.length->y.length<=n->(∀x∈y,vE n h x)->PutOk n h m [y]
 | two {y z:List (It h)}:vE n (h+1) y->vE n (h+1) z->PutOk n h m [y,z]
theorem zYS {n h m:Nat}{xs:List (It h)}(hn:4<=n)(h0:0 < xs.length)(hm:m<=xs.length)(h1:xs.length<=n+1)(hf:∀x∈xs,vE n h x):PutOk n h m (w6 n xs):=by
 by_cases h2:xs.length<=n
 · rw[gI h0 h2];exact .one hm h2 hf
 · rw[zWJ jc]
   refine .two (mY ?_ ?_ ?_) (mY ?_ ?_ ?_)
   · rw[Qj];lia
   · rw[Qj];lia
   · exact fun x hx=>hf x (Wc hx)
   · rw[Wu];lia
   · rw[Wu];lia
   · exact fun x hx=>hf x (Wx hx)
theorem PutOk.all {n h m:Nat}{ys:List (List (It h))}(H:PutOk n h m ys)(hm:n / 2<=m):(∀y∈ys,vE n (h+1) y)/\(ys.length=1∨ys.length=2):=by
 cases H with
 | one a b c=>exact⟨fun y hy=>by rw[Wr] at hy;subst hy;exact mY (Wp hm a) b c,.inl rfl⟩
 | two a b =>
   refine⟨fun y hy=>?_,.inr rfl⟩
   rcases Qa.mp hy with rfl | hy
   · exact a
   · rw[Wr] at hy;subst hy;exact b
theorem zOr {ls:List Et}{e:Et}(h:0 < ls.length):zTz ls e < ls.length:=by
 have:=Rs (fun a => !yF (kE e) (kE a)) ls
 unfold zTz
 lia
theorem zXC {h:Nat}{xs:List (It (h+1))}{e:Et}(h0:0 < xs.length):yJ h xs e < xs.length:=by
 have:=zOr (ls:=xs.map (yE (h+1))) (e:=e) (by simpa using h0)
 simpa [yJ] using this
theorem zRX {α:Type}{xs:List α}{i:Nat}{d:α}(h:i < xs.length):xs=xs.take i++xs.getD i d::xs.drop (i+1):=by
 have:xs.getD i d=xs[i]:=by simp[h]
 rw[this,List.getElem_cons_drop,Wm]
theorem zV1 (n:Nat)(hn:4<=n)(e:Et):∀(h:Nat) (xs:List (It h)),xs.length<=n->(h=0∨0 < xs.length)->(∀x∈xs,vE n h x)->PutOk n h xs.length (nZ n h xs e)
 | 0,xs,hl,_,hf=>by
   have hL:(qA (xs++[e])).length=xs.length+1:=by
     rw[dU];exact Qt
   exact zYS (h:=0) hn jc jc jc fun _ _=>trivial
 | h+1,xs,hl,h0,hf=>by
   have h0:0 < xs.length:=by rcases h0 with z | z;cases z;exact z
   have hw:=zXC (e:=e) h0
   have hc:vE n (h+1) (xs.getD (yJ h xs e) []):=hf _ (by
     have:xs.getD (yJ h xs e) []=xs[yJ h xs e]:=by simp[hw]
     rw[this];exact Tn hw)
   obtain⟨c1,c2,c3⟩:=xT hc
   have ih:=zV1 n hn e h (xs.getD (yJ h xs e) []) c2 (.inr jc) c3
   obtain⟨hall,j5⟩:=ih.all c1
   show PutOk n (h+1) xs.length (w6 n (xs.take (yJ h xs e)++nZ n h (xs.getD (yJ h xs e) []) e++xs.drop (yJ h xs e+1)))
   have hL:(xs.take (yJ h xs e)++nZ n h (xs.getD (yJ h xs e) []) e++xs.drop (yJ h xs e+1)).length=xs.length - 1+(nZ n h (xs.getD (yJ h xs e) []) e).length:=by
     rw[Qt,Qt,Qj,Wu];lia
   refine zYS (h:=h+1) hn jc jc jc fun x hx=>?_
   rcases Wq.mp hx with hx | hx
   · rcases Wq.mp hx with hx | hx
     · exact hf x (Wc hx)
     · exact hall x hx
   · exact hf x (Wx hx)
theorem zWk {α:Type}{n:Nat}{L R:List (List α)}{c:List α}(hL:∀x∈L,n / 2<=x.length)(hR:∀x∈R,n / 2<=x.length) :
   (L++c::R).findIdx? (fun x=>decide (x.length < n / 2))=if c.length < n / 2 then some L.length else none:=by
 induction L with
 | nil =>
   rw[Tj,Oq]
   by_cases q:c.length < n / 2
   · rw[Qu q];simp[q]
   · have:R.findIdx? (fun x=>decide (x.length < n / 2))=none:=List.findIdx?_eq_none_iff.mpr fun x hx=>by have:=hR x hx;simp;lia
     rw[Qs q,this];simp[q]
 | cons x r ih =>
   have hx:=hL x Qv
   rw[Tq,Oq,ih fun y hy=>hL y (Qk _ hy)]
   rw[show decide (x.length < n / 2)=false from by simp;lia]
   by_cases q:c.length < n / 2<;>simp[q]
theorem zTY {n h:Nat}(hn:4<=n){L R:List (List (It h))}{c:List (It h)}(hL:∀x∈L,vE n (h+1) x)(hR:∀x∈R,vE n (h+1) x)(hc:n / 2<=c.length+1)(hc2:c.length<=n)(hcf:∀x∈c,vE n h x)(h2:1<=L.length+R.length) :
   (∀x∈pQ n (L++c::R),vE n (h+1) x)/\L.length+R.length<=(pQ n (L++c::R)).length/\(pQ n (L++c::R)).length<=L.length+R.length+1/\(pQ n (L++c::R)).flatten=(L++c::R).flatten:=by
 have hf:=zWk (n:=n) (L:=L) (R:=R) (c:=c) (fun x hx=>(xT (hL x hx)).1) (fun x hx=>(xT (hR x hx)).1)
 unfold pQ
 rw[hf]
 by_cases q:c.length < n / 2
 · rw[Qu q]
   show(∀x∈(L++c::R).take (L.length - 1)++w6 n (((L++c::R).drop (L.length - 1)).take 2).flatten++(L++c::R).drop (L.length - 1+2),vE n (h+1) x)/\_
   -- two pages put together
   have two:∀(A B:List (List (It h))) (u v:List (It h)),(∀x∈A,vE n (h+1) x)->(∀x∈B,vE n (h+1) x)->(∀x∈u++v,vE n h x)->n / 2*2<=(u++v).length+1->(u++v).length<=n / 2+n->A.length+2+B.length=L.length+1+R.length->A++u::v::B=L++c::R ->
       (∀x∈A++w6 n (u++v)++B,vE n (h+1) x)/\L.length+R.length<=(A++w6 n (u++v)++B).length/\(A++w6 n (u++v)++B).length<=L.length+R.length+1/\(A++w6 n (u++v)++B).flatten=(L++c::R).flatten:=by
     intro A B u v hA hB huv l1 l2 ll heq
     have j5:(∀x∈w6 n (u++v),vE n (h+1) x)/\1<=(w6 n (u++v)).length/\(w6 n (u++v)).length<=2:=by
       by_cases hs:(u++v).length<=n
       · rw[gI jc hs]
         refine⟨fun x hx=>?_,je,je⟩
         rw[Wr] at hx;subst hx
         exact mY jc hs huv
       · rw[zWJ jc]
         refine⟨fun x hx=>?_,je,je⟩
         rcases Qa.mp hx with rfl | hx
         · exact mY (by rw[Qj];lia) (by rw[Qj];lia) fun x hx=>huv x (Wc hx)
         · rw[Wr] at hx;subst hx
           exact mY (by rw[Wu];lia) (by rw[Wu];lia) fun x hx=>huv x (Wx hx)
     refine⟨fun x hx=>?_,?_,?_,?_⟩
     · rcases Wq.mp hx with hx | hx
       · rcases Wq.mp hx with hx | hx
         · exact hA x hx
         · exact j5.1 x hx
       · exact hB x hx
     · rw[Qt,Qt];lia
     · rw[Qt,Qt];lia
     · rw[←heq,Ij,Ij,zZi,Ij,Ys,Ys]
       simp
   rcases List.eq_nil_or_concat L with rfl | ⟨A,u,rfl⟩
   · cases R with
     | nil=>simp at h2
     | cons v B =>
       obtain⟨v1,v2,v3⟩:=xT (hR v Qv)
       have:=two [] B c v (fun x hx=>nomatch hx) (fun x hx=>hR x (Qk _ hx)) (fun x hx=>by rcases Wq.mp hx with z | z;exact hcf x z;exact v3 x z) (by rw[Qt];lia) (by rw[Qt];lia) (by simp;lia) je
       simpa using this
   · obtain⟨u1,u2,u3⟩:=xT (hL u je)
     have:=two A R u c (fun x hx=>hL x (by simp[hx])) hR (fun x hx=>by rcases Wq.mp hx with z | z;exact u3 x z;exact hcf x z) (by rw[Qt];lia) (by rw[Qt];lia) je je
     have e1:(A.concat u).length - 1=A.length:=je
     have e2:(A.concat u++c::R).take A.length=A:=je
     have e3:((A.concat u++c::R).drop A.length).take 2=[u,c]:=je
     have e4:(A.concat u++c::R).drop (A.length+2)=R:=by simp[Oc]
     rw[e1,e2,e3,e4]
     simpa using this
 · rw[Qs q]
   refine⟨fun x hx=>?_,je,by simp;lia,rfl⟩
   rcases Wq.mp hx with hx | hx
   · exact hL x hx
   · rcases Qa.mp hx with rfl | hx
     · exact mY jc hc2 hcf
     · exact hR x hx
theorem qC {α β:Type}{f:α->List β}:∀ {xs:List α} {x:α},x∈xs->(f x).Sublist (xs.flatMap f)
 | y::r,x,h=>by
   rw[Yd]
   rcases Qa.mp h with rfl | h
   · exact List.sublist_append_left _ _
   · exact(qC h).trans (List.sublist_append_right _ _)
theorem zYI {α β:Type}(f:α->List β):∀ys:List (List α),(ys.flatMap fun xs=>xs.flatMap f)=ys.flatten.flatMap f
 | []=>rfl
 | y::r=>by rw[Yd,zYI f r,Ys,Ik]
theorem iF (h:Nat)(ys:List (List (It h))):zS (h+1) ys=zS h ys.flatten:=zYI (qF h) ys
theorem gQ (n h:Nat)(zs:List (It h)):zS (h+1) (w6 n zs)=zS h zs:=by rw[iF,zZi]
theorem qU (h:Nat)(xs ys:List (It h)):zS h (xs++ys)=zS h xs++zS h ys:=Ik
theorem wD (h:Nat)(x:It h)(ys:List (It h)):zS h (x::ys)=qF h x++zS h ys:=Yd
theorem uL (xs:List (It 0)):zS 0 xs=xs:=by
 show xs.flatMap (fun e=>[e])=xs
 induction xs with
 | nil=>rfl
 | cons x r ih=>rw[Yd,ih];rfl
theorem zVp {es:List Et}(h:Srt es)(e:Et):es.length<=(es.filter fun a => !z8 a e).length+1:=by
 induction es with
 | nil=>simp
 | cons x r ih =>
   obtain⟨p,q⟩:=Rg.mp h
   have ih:=ih q
   by_cases z:x=e
   · subst z
     have:r.filter (fun a => !z8 a x)=r:=Uq.mpr fun a ha=>by
       cases y:z8 a x
       · rfl
       · have:=p a ha;rw[xY.mp y,wQ] at this;cases this
     rw[Ew,this];split<;>simp
   · have:z8 x e=false:=by cases y:z8 x e;rfl;exact absurd (xY.mp y) z
     rw[Yo (by simp[this])]
     simp only[Qo];lia
theorem zYQ {n:Nat}(hn:2<=n):∀(h:Nat) (x:It h),vE n h x->∃t,qF h x=yE h x::t
 | 0,x,_=>⟨[],rfl⟩
 | h+1,xs,H=>by
   obtain⟨a,b,c⟩:=xT H
   match xs,a,c with
   | [],a,_=>exact absurd a (by simp;lia)
   | x::r,a,c =>
     obtain⟨t,e⟩:=zYQ hn h x (c x Qv)
     refine⟨t++r.flatMap (qF h),?_⟩
     show List.flatMap (qF h) (x::r)=_
     rw[Yd,e];rfl
theorem eO {n h:Nat}(hn:2<=n){xs:List (It (h+1))}(hf:∀x∈xs,vE n (h+1) x)(hs:Srt (zS (h+1) xs))(e:Et)(h0:0 < xs.length) :
   ∃L c R,xs=L++c::R/\L.length=yJ h xs e/\(∀a∈zS (h+1) L,yF (kE a) (kE e)=true)/\(∀a∈zS (h+1) R,yF (kE e) (kE a)=true):=by
 have hd:=fun x hx=>zYQ hn (h+1) x (hf x hx)
 -- a page's yE is no greater than what stands on it
 have low:∀x∈xs,∀a∈qF (h+1) x,yF (kE a) (kE (yE (h+1) x))=false:=by
   intro x hx a ha
   obtain⟨t,et⟩:=hd x hx
   have sx:Srt (qF (h+1) x):=hs.sublist (qC hx)
   rw[et] at ha sx
   rcases Qa.mp ha with rfl | ha
   · exact wQ _
   · exact zUK ((Rg.mp sx).1 a ha)
 let p:It (h+1)->Bool:=fun x => !yF (kE e) (kE (yE (h+1) x))
 have cross:∀(A B:List (It (h+1))),A++B=xs->∀a∈zS (h+1) A,∀b∈zS (h+1) B,yF (kE a) (kE b)=true:=by
   intro A B he a ha b hb
   have:Srt (zS (h+1) (A++B)):=by rw[he];exact hs
   rw[show zS (h+1) (A++B)=zS (h+1) A++zS (h+1) B from Ik] at this
   exact(Qx.mp this).2.2 a ha b hb
 have lmem:∀x∈xs,yE (h+1) x∈qF (h+1) x:=fun x hx=>by obtain⟨t,et⟩:=hd x hx;rw[et];exact Qv
 have hfil:∀ys:List (It (h+1)),(∃A,A++ys=xs)->ys.filter p=ys.takeWhile p/\∀x∈ys.dropWhile p,p x=false:=by
   intro ys
   induction ys with
   | nil=>intro _;exact⟨rfl,fun x hx=>by simp at hx⟩
   | cons y r ih =>
     rintro⟨A,hA⟩
     by_cases py:p y=true
     · obtain⟨i1,i2⟩:=ih ⟨A++[y],by rw[←hA];simp⟩
       rw[Yo py,List.takeWhile_cons_of_pos py,i1,List.dropWhile_cons_of_pos py]
       exact⟨rfl,i2⟩
     · have py':p y=false:=by simpa using py
       have hy:y∈xs:=by rw[←hA];simp
       have key:∀x∈r,p x=false:=fun x hx=>by
         have hx':x∈xs:=by rw[←hA];simp[hx]
         have q1:yF (kE e) (kE (yE (h+1) y))=true:=by simpa [p] using py'
         have q2:yF (kE (yE (h+1) y)) (kE (yE (h+1) x))=true:=cross (A++[y]) r (by rw[←hA];simp) _ (Tw.mpr ⟨y,je,lmem y hy⟩) _ (Tw.mpr ⟨x,hx,lmem x hx'⟩)
         show(!_)=false
         rw[zX5 q1 q2];rfl
       rw[Yi py,List.takeWhile_cons_of_neg py,List.dropWhile_cons_of_neg py]
       refine⟨List.filter_eq_nil_iff.mpr fun x hx=>by rw[key x hx];decide,fun x hx=>?_⟩
       rcases Qa.mp hx with rfl | hx
       · exact py'
       · exact key x hx
 obtain⟨f1,f2⟩:=hfil xs ⟨[],rfl⟩
 have hw:yJ h xs e=(xs.takeWhile p).length - 1:=by
   unfold yJ zTz
   rw[List.filter_map,Qi]
   show(xs.filter p).length - 1=_
   rw[f1]
 have hsp:xs=xs.takeWhile p++xs.dropWhile p:=(List.takeWhile_append_dropWhile).symm
 have hR:∀x∈xs,p x=false->∀a∈qF (h+1) x,yF (kE e) (kE a)=true:=fun x hx px a ha=>by
   have q1:yF (kE e) (kE (yE (h+1) x))=true:=by simpa [p] using px
   exact zPl q1 (low x hx a ha)
 rcases List.eq_nil_or_concat (xs.takeWhile p) with z | ⟨L,c,z⟩
 · match xs,h0,hw,z,f2,hR,hsp with
   | x::r,_,hw,z,f2,hR,hsp =>
     rw[z] at hw hsp
     rw[Tj] at hsp
     rw[←hsp] at f2
     refine⟨[],x,r,rfl,by rw[hw];rfl,fun a ha=>by simp at ha,fun a ha=>?_⟩
     obtain⟨y,hy,ha⟩:=Tw.mp ha
     exact hR y (Qk _ hy) (f2 y (Qk _ hy)) a ha
 · have e1:xs=L++c::xs.dropWhile p:=by
     conv=>lhs;rw[hsp,z]
     simp
   have hc:c∈xs:=by rw[e1];simp
   have pc:p c=true:=by
     have:c∈xs.takeWhile p:=by rw[z];simp
     exact List.all_eq_true.mp List.all_takeWhile c this
   refine⟨L,c,xs.dropWhile p,e1,by rw[hw,z];simp,fun a ha=>?_,fun a ha=>?_⟩
   · have q1:yF (kE a) (kE (yE (h+1) c))=true:=cross L (c::xs.dropWhile p) e1.symm a ha _ (Tw.mpr ⟨c,je,lmem c hc⟩)
     have q2:yF (kE e) (kE (yE (h+1) c))=false:=by simpa [p] using pc
     exact zPl q1 q2
   · obtain⟨y,hy,ha⟩:=Tw.mp ha
     exact hR y (by rw[e1];simp[hy]) (f2 y hy) a ha
theorem bL {α:Type}{L R:List α}{c d:α}{i:Nat}(h:L.length=i):(L++c::R).take i=L/\(L++c::R).getD i d=c/\(L++c::R).drop (i+1)=R:=by
 subst h
 refine⟨je,je,?_⟩
 rw[Oc]
 simp
section
variable {n:Nat} (hn:4<=n) (e:Et)
include hn
theorem zU8:∀(h:Nat) (xs:List (It h)),(h=0∨0 < xs.length)->(∀x∈xs,vE n h x)->Srt (zS h xs)->(∀a∈zS h xs,kE a≠kE e)->(zS (h+1) (nZ n h xs e)).Perm (e::zS h xs)/\Srt (zS (h+1) (nZ n h xs e))
 | 0,xs,_,_,hs,hk=>by
   show(zS 1 (w6 n (qA (xs++[e])))).Perm _/\_
   rw[show zS 1 (nZ n 0 xs e)=zS 1 (w6 n (qA (xs++[e]))) from rfl,gQ,uL]
   rw[uL] at hs hk ⊢
   refine⟨(iT _).trans Eg,zSW ?_⟩
   rw[Tk]
   refine List.nodup_append.mpr ⟨hs.nd,je,fun a ha b hb=>?_⟩
   obtain⟨q,hq,rfl⟩:=Yg.mp ha
   have hb:b=kE e:=by simpa using hb
   rw[hb]
   exact hk q hq
 | h+1,xs,h0,hf,hs,hk=>by
   have h0:0 < xs.length:=by rcases h0 with z | z;cases z;exact z
   obtain⟨L,c,R,ex,hL,lt1,lt2⟩:=eO jc hf hs e h0
   obtain⟨t1,t2,t3⟩:=bL (L:=L) (R:=R) (c:=c) (d:=([]:It (h+1))) hL
   rw[←ex] at t1 t2 t3
   have hc:c∈xs:=by rw[ex];simp
   obtain⟨c1,c2,c3⟩:=xT (hf c hc)
   have sc:Srt (zS h c):=hs.sublist (qC (f:=qF (h+1)) hc)
   obtain⟨i1,i2⟩:=zU8 h c (.inr jc) c3 sc fun a ha=>hk a (Tw.mpr ⟨c,hc,ha⟩)
   have eq:zS (h+1+1) (nZ n (h+1) xs e)=zS (h+1) L++zS (h+1) (nZ n h c e)++zS (h+1) R:=by
     show zS (h+1+1) (w6 n (List.take (yJ h xs e) xs++nZ n h (List.getD xs (yJ h xs e) []) e++List.drop (yJ h xs e+1) xs))=_
     rw[gQ,t1,t2,t3,qU,qU]
   rw[eq]
   have eqx:zS (h+1) xs=zS (h+1) L++(zS h c++zS (h+1) R):=by
     conv=>lhs;rw[ex]
     rw[qU,wD];rfl
   rw[eqx] at hs ⊢
   obtain⟨s1,s2,s3⟩:=Qx.mp hs
   obtain⟨s4,s5,s6⟩:=Qx.mp s2
   have mem:∀a∈zS (h+1) (nZ n h c e),a=e∨a∈zS h c:=fun a ha=>by simpa using i1.subset ha
   refine⟨?_,?_⟩
   · refine((i1.append_left (zS (h+1) L)).append_right (zS (h+1) R)).trans ?_
     rw[Qm]
     exact List.perm_middle
   · rw[Qm]
     refine Qx.mpr ⟨s1,Qx.mpr ⟨i2,s5,fun a ha b hb=>?_⟩,fun a ha b hb=>?_⟩
     · rcases mem a ha with rfl | ha
       · exact lt2 b hb
       · exact s6 a ha b hb
     · rcases Wq.mp hb with hb | hb
       · rcases mem b hb with rfl | hb
         · exact lt1 a ha
         · exact s3 a ha b (Yj _ hb)
       · exact s3 a ha b (Ws _ hb)
theorem gS:∀(h:Nat) (xs:List (It h)),xs.length<=n->(h=0∨2<=xs.length)->(∀x∈xs,vE n h x)->Srt (zS h xs) ->
   zS (h+1) (cS n h xs e)=(zS h xs).filter (fun a => !z8 a e) /\
   ((h=0/\cS n h xs e=[]/\xs.length<=1)∨∃y,cS n h xs e=[y]/\xs.length<=y.length+1/\y.length<=n/\0 < y.length/\∀x∈y,vE n h x)
 | 0,xs,hl,_,hf,hs=>by
   rw[uL] at hs ⊢
   have hfo:=zVp hs e
   have hfl:=Rs (fun a => !z8 a e) xs
   rw[show zS 1 (cS n 0 xs e)=zS 1 (w6 n (List.filter (fun a:Et => !z8 a e) xs)) from rfl,gQ,uL]
   refine⟨rfl,?_⟩
   rcases Im (xs.filter fun a => !z8 a e).length with z | z
   · refine .inl ⟨rfl,?_,jc⟩
     show w6 n (xs.filter fun a => !z8 a e)=[]
     unfold w6
     rw[Qu z]
   · exact .inr ⟨List.filter (fun a:Et => !z8 a e) xs,gI z (Wp hfl hl),hfo,Wp hfl hl,z,fun _ _=>trivial⟩
 | h+1,xs,hl,h0,hf,hs=>by
   have h0:2<=xs.length:=by rcases h0 with z | z;cases z;exact z
   obtain⟨L,c,R,ex,hL,lt1,lt2⟩:=eO jc hf hs e jc
   obtain⟨t1,t2,t3⟩:=bL (L:=L) (R:=R) (c:=c) (d:=([]:It (h+1))) hL
   rw[←ex] at t1 t2 t3
   have hc:c∈xs:=by rw[ex];simp
   obtain⟨c1,c2,c3⟩:=xT (hf c hc)
   have sc:Srt (zS h c):=hs.sublist (qC (f:=qF (h+1)) hc)
   obtain⟨i1,i2⟩:=gS h c c2 (.inr jc) c3 sc
   have hxl:xs.length=L.length+R.length+1:=by rw[ex];simp;lia
   rcases i2 with⟨_,_,z⟩ | ⟨y,ey,y1,y2,y3,y4⟩
   · lia
   · obtain⟨g1,g2,g3,g4⟩:=zTY hn (L:=L) (R:=R) (c:=y) (fun x hx=>hf x (by rw[ex];simp[hx])) (fun x hx=>hf x (by rw[ex];simp[hx])) jc y2 y4 jc
     have eq:cS n (h+1) xs e=w6 n (pQ n (L++y::R)):=by
       show w6 n (pQ n (List.take (yJ h xs e) xs++cS n h (List.getD xs (yJ h xs e) []) e++List.drop (yJ h xs e+1) xs))=_
       rw[t1,t2,t3,ey]
       simp
     rw[eq,gQ]
     refine⟨?_,.inr ⟨pQ n (L++y::R),gI jc jc,jc,jc,jc,g1⟩⟩
     have eqx:zS (h+1) xs=zS (h+1) L++(zS h c++zS (h+1) R):=by
       conv=>lhs;rw[ex]
       rw[qU,wD];rfl
     rw[ey] at i1
     have iy:qF (h+1) y=(zS h c).filter fun a => !z8 a e:=by
       rw[←i1];show _=List.flatMap _ [y];simp
     have keep:∀M:List Et,(∀a∈M,kE a≠kE e)->M.filter (fun a => !z8 a e)=M:=fun M hM=>Uq.mpr fun a ha=>by
       cases q:z8 a e
       · rfl
       · exact absurd (by rw[xY.mp q]) (hM a ha)
     rw[eqx,List.filter_append,List.filter_append,keep _ fun a ha z=>by(have:=lt1 a ha;rw[z,wQ] at this;cases this),keep (zS (h+1) R) fun a ha z=>by(have:=lt2 a ha;rw[z,wQ] at this;cases this)]
     rw[iF,g4,←iF,qU,wD,iy]
theorem like_none:∀(h:Nat) (xs:List (It h)),(h=0∨0 < xs.length)->(∀x∈xs,vE n h x)->(∀a∈zS h xs,kE a≠kE e)->jB h xs e=none
 | 0,xs,_,_,hk=>by
   rw[uL] at hk
   show(List.filter (fun a:Et=>decide (kE a=kE e)) xs).head?=none
   rw[List.filter_eq_nil_iff.mpr fun a ha=>by simpa using hk a ha];rfl
 | h+1,xs,h0,hf,hk=>by
   have h0:0 < xs.length:=by rcases h0 with z | z;cases z;exact z
   have hw:=zXC (e:=e) h0
   have hm:xs.getD (yJ h xs e) []∈xs:=by
     have:xs.getD (yJ h xs e) []=xs[yJ h xs e]:=by simp[hw]
     rw[this];exact Tn hw
   obtain⟨c1,c2,c3⟩:=xT (hf _ hm)
   exact like_none h (xs.getD (yJ h xs e) []) (.inr jc) c3 fun a ha=>hk a (Tw.mpr ⟨_,hm,ha⟩)
theorem like_some {b:Et}(hb:kE b=kE e):∀(h:Nat) (xs:List (It h)),(h=0∨0 < xs.length)->(∀x∈xs,vE n h x)->Srt (zS h xs)->b∈zS h xs->jB h xs e=some b
 | 0,xs,_,_,hs,hm=>by
   rw[uL] at hs hm
   show(List.filter (fun a:Et=>decide (kE a=kE e)) xs).head?=some b
   have:∃r,xs.filter (fun a:Et=>decide (kE a=kE e))=b::r:=by
     have hx:b∈xs.filter (fun a:Et=>decide (kE a=kE e)):=Yq.mpr ⟨hm,by simpa using hb⟩
     match hq:xs.filter (fun a:Et=>decide (kE a=kE e)),hx with
     | c::r,_ =>
       have hc:c∈xs.filter (fun a:Et=>decide (kE a=kE e)):=by rw[hq];simp
       obtain⟨c1,c2⟩:=Yq.mp hc
       have:=hs.inj c1 hm ((of_decide_eq_true c2).trans hb.symm)
       exact⟨r,by rw[this]⟩
   obtain⟨r,er⟩:=this
   rw[er];rfl
 | h+1,xs,h0,hf,hs,hm=>by
   have h0:0 < xs.length:=by rcases h0 with z | z;cases z;exact z
   obtain⟨L,c,R,ex,hL,lt1,lt2⟩:=eO jc hf hs e h0
   obtain⟨t1,t2,t3⟩:=bL (L:=L) (R:=R) (c:=c) (d:=([]:It (h+1))) hL
   rw[←ex] at t1 t2 t3
   have hc:c∈xs:=by rw[ex];simp
   obtain⟨c1,c2,c3⟩:=xT (hf c hc)
   have sc:Srt (zS h c):=hs.sublist (qC (f:=qF (h+1)) hc)
   have eqx:zS (h+1) xs=zS (h+1) L++(zS h c++zS (h+1) R):=by
     conv=>lhs;rw[ex]
     rw[qU,wD];rfl
   rw[eqx] at hm
   have hbc:b∈zS h c:=by
     rcases Wq.mp hm with z | z
     · have:=lt1 b z;rw[hb,wQ] at this;cases this
     · rcases Wq.mp z with z | z
       · exact z
       · have:=lt2 b z;rw[hb,wQ] at this;cases this
   show jB h (List.getD xs (yJ h xs e) []) e=some b
   rw[t2]
   exact like_some hb h c (.inr jc) c3 sc hbc
end
structure RtOk (n h:Nat)(xs:List (It h)):Prop where
 len:xs.length<=n
 two:h=0∨2<=xs.length
 full:∀x∈xs,vE n h x
 srt:Srt (zS h xs)
abbrev Rt:=(h:Nat)×List (It h)
def zUq:(h:Nat)->List (It h)->Rt
 | 0,xs=>⟨0,xs⟩
 | h+1,xs=>match xs with
   | [x]=>zUq h x
   | xs=>⟨h+1,xs⟩
theorem eR {h:Nat}{xs:List (It h)}(h2:h=0∨2<=xs.length):zUq h xs=⟨h,xs⟩:=by
 cases h with
 | zero=>rfl
 | succ h =>
   match xs,h2 with
   | [],_=>rfl
   | [x],h2=>rcases h2 with z | z;cases z;exact absurd z je
   | _::_::_,_=>rfl
def dR (h:Nat)(ys:List (List (It h))):Rt:=if ys.length=0 then⟨0,[]⟩ else zUq (h+1) ys
theorem RtOk.nil {n:Nat}:RtOk n 0 []:=⟨Ei _,.inl rfl,(fun _ h=>nomatch h),List.Pairwise.nil⟩
section
variable {n:Nat} (hn:4<=n) (e:Et)
include hn
theorem RtOk.put {h:Nat}{xs:List (It h)}(H:RtOk n h xs)(hk:∀a∈zS h xs,kE a≠kE e):∃h' xs',dR h (nZ n h xs e)=⟨h',xs'⟩/\RtOk n h' xs'/\(zS h' xs').Perm (e::zS h xs):=by
 have h0:h=0∨0 < xs.length:=by rcases H.two with z | z;exact .inl z;exact .inr jc
 have p1:=zV1 n hn e h xs H.len h0 H.full
 obtain⟨p2,p3⟩:=zU8 hn e h xs h0 H.full H.srt hk
 unfold dR
 generalize nZ n h xs e=ys at p1 p2 p3
 cases p1 with
 | @one y a b c =>
   have hy:zS (h+1) [y]=zS h y:=by show List.flatMap _ [y]=_;simp[qF]
   rw[hy] at p2 p3
   have h2:h=0∨2<=y.length:=by rcases H.two with z | z;exact .inl z;exact .inr jc
   exact⟨h,y,eR h2,⟨b,h2,c,p3⟩,p2⟩
 | @two y z a b=>exact⟨h+1,[y,z],rfl,⟨by simp;lia,.inr je,fun x hx=>by
     rcases Qa.mp hx with rfl | hx
     · exact a
     · rw[Wr] at hx;subst hx;exact b,p3⟩,p2⟩
theorem RtOk.take {h:Nat}{xs:List (It h)}(H:RtOk n h xs):∃h' xs',dR h (cS n h xs e)=⟨h',xs'⟩/\RtOk n h' xs'/\zS h' xs'=(zS h xs).filter fun a => !z8 a e:=by
 obtain⟨p1,p2⟩:=gS hn e h xs H.len H.two H.full H.srt
 unfold dR
 generalize cS n h xs e=ys at p1 p2
 have hs:Srt ((zS h xs).filter fun a => !z8 a e):=H.srt.sublist List.filter_sublist
 rcases p2 with⟨z,rfl,_⟩ | ⟨y,rfl,y1,y2,y3,y4⟩
 · exact⟨0,[],rfl,.nil,p1⟩
 · have hy:zS (h+1) [y]=zS h y:=by show List.flatMap _ [y]=_;simp[qF]
   rw[hy] at p1
   by_cases h2:h=0∨2<=y.length
   · exact⟨h,y,eR h2,⟨y2,h2,y4,by rw[p1];exact hs⟩,p1⟩
   · cases h with
     | zero=>exact absurd (.inl rfl) h2
     | succ h =>
       match y,y3,y4,hy,h2,p1 with
       | [c],_,y4,hy,_,p1 =>
         obtain⟨c1,c2,c3⟩:=xT (y4 c Qv)
         have hc:zS (h+1) [c]=zS h c:=by show List.flatMap _ [c]=_;simp[qF]
         rw[hc] at p1
         have h2':h=0∨2<=List.length c:=.inr jc
         exact⟨h,c,eR h2',⟨c2,h2',c3,by rw[p1];exact hs⟩,p1⟩
       | _::_::_,_,_,_,h2,_=>exact absurd (.inr je) h2
omit e
theorem aU:∀(h:Nat) (x:It h),vE n h x->2^h<=(qF h x).length
 | 0,_,_=>Qf 1
 | h+1,xs,H=>by
   obtain⟨a,b,c⟩:=xT H
   have key:∀ys:List (It h),(∀y∈ys,vE n h y)->ys.length*2^h<=(zS h ys).length:=by
     intro ys
     induction ys with
     | nil=>intro _;simp
     | cons y r ih =>
       intro hy
       have i1:=ih fun z hz=>hy z (Qk _ hz)
       have i2:=aU h y (hy y Qv)
       rw[wD,Qt,Qo,Nat.add_mul]
       lia
   have:=key xs c
   show 2^(h+1)<=(zS h xs).length
   have h2:2*2^h<=List.length xs*2^h:=Nat.mul_le_mul_right _ jc
   rw[Nat.pow_succ];lia
theorem RtOk.deep {h:Nat}{xs:List (It h)}(H:RtOk n h xs)(hl:(zS h xs).length < 512):h<=7:=by
 rcases H.two with z | z
 · lia
 · match xs,z with
   | x::y::r,_ =>
     have a:=aU hn h x (H.full x je)
     have b:=aU hn h y (H.full y je)
     rw[wD,wD,Qt,Qt] at hl
     by_cases q:h<=7
     · exact q
     · have:2^8<=2^h:=Nat.pow_le_pow_right jb jc
       lia
theorem RtOk.like_none {h:Nat}{xs:List (It h)}(H:RtOk n h xs){e:Et}(hk:∀a∈zS h xs,kE a≠kE e):jB h xs e=none :=
 My.like_none hn e h xs (by rcases H.two with z | z;exact .inl z;exact .inr jc) H.full hk
theorem RtOk.like_some {h:Nat}{xs:List (It h)}(H:RtOk n h xs){e b:Et}(hb:b∈zS h xs)(hk:kE b=kE e):jB h xs e=some b :=
 My.like_some hn e hk h xs (by rcases H.two with z | z;exact .inl z;exact .inr jc) H.full H.srt hb
end
theorem zZu {i:Nat}{f:Ef}{g:Sf}{ρ:List B}{d:D}(h:f ρ=some d):zG (zA i f) g ρ=g (ρ.set i (.fz d)):=uR (by unfold zA;rw[h];rfl)
theorem yK {i:Nat}{f:Ef}{g:Sf}{ρ:List B}{d:D}{r:Option D}(h:f ρ=some d)(k:(g (ρ.set i (.fz d))).bind vW=r):(zG (zA i f) g ρ).bind vW=r:=yB (by unfold zA;rw[h];rfl) k
theorem fF {t:Tf}{f g:Sf}{ρ:List B}{r:Option D}(h:t ρ=some false)(k:(g ρ).bind vW=r):(zG (sIf t f wA) g ρ).bind vW=r:=yB (by unfold sIf;rw[h];rfl) k
theorem tG {t:Tf}{f:Sf}{ρ:List B}{b:Bool}(h:t ρ=some b):sIf t f wA ρ=if b then f ρ else some (.nx ρ):=by unfold sIf;rw[h];cases b<;>rfl
theorem iV {t:Tf}{e:Ef}{g:Sf}{ρ:List B}{r:Option D}(h:t ρ=some true)(k:e ρ=r):(zG (sIf t (xM e) wA) g ρ).bind vW=r:=by
 unfold zG
 rw[tG h,Qu rfl]
 unfold xM
 rw[k]
 cases r<;>rfl
theorem tS {e:Ef}{ρ:List B}:(xM e ρ).bind vW=e ρ:=by unfold xM;cases e ρ<;>rfl
theorem pI {f:jy}{fa:Ef}{ρ:List B}{x:D}(h:fa ρ=some x):zI 1 f (zY fa zP) ρ=f [x]:=zZI (zQ h rfl) rfl
theorem wB {f:jy}{fa fb:Ef}{ρ:List B}{x y:D}(h1:fa ρ=some x)(h2:fb ρ=some y):zI 2 f (zY fa (zY fb zP)) ρ=f [x,y]:=zZI (zQ h1 (zQ h2 rfl)) rfl
theorem oC {f:jy}{fa fb fc:Ef}{ρ:List B}{x y z:D}(h1:fa ρ=some x)(h2:fb ρ=some y)(h3:fc ρ=some z):zI 3 f (zY fa (zY fb (zY fc zP))) ρ=f [x,y,z]:=zZI (zQ h1 (zQ h2 (zQ h3 rfl))) rfl
theorem zJ {C:Int->Int->Bool}{g:Int->Int->Int}{fa fb:Ef}{ρ:List B}{i j:Int}(h1:fa ρ=some (.int i))(h2:fb ρ=some (.int j))(h:C i j=true):eI C g fa fb ρ=some (.int (g i j)):=by
 unfold eI;rw[h1,h2];simp[h]
theorem zXY {f:Ef}{ρ:List B}{x k:Int}(h:f ρ=some (.int x)):eB2 gEq f (eC (.int k)) ρ=some (decide (x=k)):=by unfold eB2;rw[h];rfl
theorem aI {fa fb:Ef}{ρ:List B}{i j:Int}(h1:fa ρ=some (.int i))(h2:fb ρ=some (.int j)):rK fa fb ρ=some (.int (i+j)):=by unfold rK;rw[h1,h2];rfl
theorem aK {fa fb:Ef}{ρ:List B}{x y:Str}(h1:fa ρ=some (.str x))(h2:fb ρ=some (.str y))(h:x.length+y.length<=100000):rK fa fb ρ=some (.str (x++y)):=by unfold rK;rw[h1,h2];exact zVq h
theorem qZ {g:Lf}{ρ:List B}{ds:List D}(h:g ρ=some ds)(hl:ds.length<=100000):xH g ρ=some (.tup ds):=by unfold xH;rw[h,Qw,rS hl];rfl
theorem uT {g:Lf}{ρ:List B}{ds:List D}(h:g ρ=some ds)(hl:ds.length<=100000):wL g ρ=some ds:=by unfold wL;rw[h,Qw,rS hl]
theorem wS {fa fb:Ef}{ρ:List B}{x y:D}(h1:fa ρ=some x)(h2:fb ρ=some y):eIx fa fb ρ=atD x y:=by unfold eIx;rw[h1,h2];rfl
theorem fM {α:Type}{xs:List α}{i:Int}(h0:0<=i)(h1:i < xs.length):∃x∈xs,atI xs i=some x:=by
 have hi:i.toNat < xs.length:=jc
 refine⟨xs[i.toNat],Tn hi,?_⟩
 unfold atI ixN
 rw[Qu h0,Qu h1]
 simp[hi]
theorem zXU {α:Type}{elt:Ef}{f:α->D}{Q:α->Prop}{rest:List B}:∀(ds:List D) (x0:B) (j7:List D),(∀d∈ds,∃a,elt (.fz d::rest)=some (f a)/\Q a)->∃as:List α,rU (gN 0) tOK elt ds (x0::rest) j7=some (j7++as.map f)/\as.length=ds.length/\∀a∈as,Q a
 | [],_,j7,_=>⟨[],by simp[rU],rfl,fun _ h=>by cases h⟩
 | d::r,x0,j7,hh=>by
   obtain⟨a,ha,qa⟩:=hh d Qv
   obtain⟨as,e,el,hq⟩:=zXU (Q:=Q) r (.fz d) (j7++[f a]) fun q hq=>hh q (Qk _ hq)
   refine⟨a::as,?_,by rw[Qo,Qo,el],fun b hb=>by
     rcases Qa.mp hb with z | z
     · rw[z];exact qa
     · exact hq b z⟩
   unfold rU
   have e1:gN 0 d (x0::rest)=some (.fz d::rest):=rfl
   have e2:tOK (.fz d::rest)=some true:=rfl
   rw[e1,Qw,e2,Qw,Qu rfl,ha,Qw,e]
   simp
def zVm (c k:Int):Int:=(c % 1000000007*(48271+2*k*k)+12345+7919*k) % 2147483647
def dY (c k:Int):Int:=zVm c k*zVm c k % 2147483629 / 3
theorem zUJ (c k:Int):0<=dY c k:=by unfold dY;lia
theorem zTU (c k:Int):dY c k < 2147483629:=by unfold dY;lia
theorem tM (c k:Int)(h0:0<=k)(h1:k < 1000):yD [.int c,.int k]=some (.int (dY c k)):=by
 have e1:jN (2:Int) k=true:=nL jc jc
 have e2:jN (2*k) k=true:=nL jc jc
 have e3:jN (c % 1000000007) (48271+2*k*k)=true:=nL jc jc
 have e4:jN (7919:Int) k=true:=nL jc jc
 have e5:jN (zVm c k) (zVm c k)=true:=nL (by unfold zVm;lia) (by unfold zVm;lia)
 show(sL [.fz (.int c),.fz (.int k),.no]).bind vW=_
 unfold sL
 refine yK (d:=.int (c % 1000000007*(48271+2*k*k))) (zJ (zJ rfl rfl rfl) (zJ rfl (zJ (zJ rfl rfl e1) rfl e2) rfl) e3) ?_
 unfold oV
 refine yK (d:=.int (zVm c k)) (zJ (zJ (zJ rfl rfl rfl) (zJ rfl rfl e4) rfl) rfl rfl) ?_
 unfold jE
 rw[tS]
 exact zJ (zJ (zJ rfl rfl e5) rfl rfl) rfl rfl
def xX:Str:=Str.ofString "abcdefghijklmnopqrstuvwxyz"
theorem fJ:xX.length=26:=ja
theorem zRH {fb:Ef}{ρ:List B}{i:Int}(h2:ρ[2]?=some (.fz (.str xX)))(h:fb ρ=some (.int i)):∃s:Nat,eIx (eV 2) (yW fb (eC (.int 26))) ρ=some (.str ⟨#[s]⟩):=by
 have e:=zPC (x:=xX) (i:=i % 26) jc (by rw[fJ];lia) (by rw[fJ];decide)
 refine⟨_,(wS (x:=.str xX) (y:=.int (i % 26)) ?_ (zJ h rfl rfl)).trans e⟩
 show zSo ρ 2=_
 unfold zSo
 rw[h2]
theorem zXj {fa:Ef}{lo hi:Of}{ρ:List B}{x:Str}{l u:Option Int}(h:fa ρ=some (.str x))(h1:lo ρ=some l)(h2:hi ρ=some u)(hx:x.length<=100):∃y:Str,eD fa lo hi ρ=some (.str y)/\y.length<=100:=by
 refine⟨Txt.slice x l u,?_,Wp (Ul x l u) hx⟩
 unfold eD
 rw[h,Qw,h1,Qw,h2,Qw]
 exact Qu (show x.length<=100000 by lia)
theorem zPN (q j:Int):∃w:Str,mW [.int q,.int j]=some (.str w):=by
 have hm:=tM q 11 jb jb
 generalize dY q 11=m at hm
 have z0:0<=m % 12:=jc
 have z1:m % 12 < 12:=jc
 have ha:yW (uW (eV 3) (eC (.int 12))) (eV 4) [.fz (.int q),.fz (.int j),.fz (.str xX),.fz (.int m),.fz (.int (1+m % 12)),.no,.no,.no,.no]=some (.int (m / 12 % (1+m % 12))):=zJ (zJ rfl rfl rfl) rfl (Qc jc)
 generalize m / 12 % (1+m % 12)=pl at ha
 have src:∀x6 x7 x8:B,iR (eV 4) [.fz (.int q),.fz (.int j),.fz (.str xX),.fz (.int m),.fz (.int (1+m % 12)),.fz (.int pl),x6,x7,x8]=some (rQ 0 (1+m % 12).toNat):=fun x6 x7 x8=>by
   have c1:decide (-1000000<=1+m % 12)=true:=Qc jc
   have c2:decide (1+m % 12<=1000000)=true:=Qc jc
   show(if decide (-1000000<=1+m % 12)&&decide (1+m % 12<=1000000) then some (rQ 0 (1+m % 12).toNat) else none)=_
   rw[c1,c2];rfl
 obtain⟨ρ',e,y,x7,hy,rfl⟩:=zYt (g:=gN 7) (body:=sR) (P:=fun i ρ=>∃y:Str,∃x7,y.length=i/\ρ=[.fz (.int q),.fz (.int j),.fz (.str xX),.fz (.int m),.fz (.int (1+m % 12)),.fz (.int pl),.fz (.str y),x7,.no]) (rQ 0 (1+m % 12).toNat) 0 (fun i d hd ρ hρ=>by
     obtain⟨hi,rfl⟩:=zSA hd
     obtain⟨y,x7,hy,rfl⟩:=hρ
     have hk:=tM q (20+(0+(i:Int))) jc jc
     obtain⟨s,es⟩:=zRH (fb:=zI 2 yD (zY (eV 0) (zY (rK (eC (.int 20)) (eV 7)) zP))) (ρ:=[.fz (.int q),.fz (.int j),.fz (.str xX),.fz (.int m),.fz (.int (1+m % 12)),.fz (.int pl),.fz (.str y),.fz (.int (0+(i:Int))),.no]) rfl ((wB rfl (aI rfl rfl)).trans hk)
     have hl:y.length+(⟨#[s]⟩:Str).length<=100000:=by show y.length+1<=100000;lia
     refine⟨_,[.fz (.int q),.fz (.int j),.fz (.str xX),.fz (.int m),.fz (.int (1+m % 12)),.fz (.int pl),.fz (.str (y++⟨#[s]⟩)),.fz (.int (0+(i:Int))),.no],rfl,?_,y++⟨#[s]⟩,_,by rw[kO,hy];rfl,rfl⟩
     unfold sR zA
     have:=aK (fa:=eV 6) (x:=y) rfl es hl
     refine(Eo (Option.map _) this).trans rfl) [.fz (.int q),.fz (.int j),.fz (.str xX),.fz (.int m),.fz (.int (1+m % 12)),.fz (.int pl),.fz (.str (Str.ofString "")),.no,.no] ⟨_,_,ja,rfl⟩
 rw[kL] at hy
 obtain⟨s,es⟩:=zRH (fb:=rK (uW (eV 3) (eC (.int 144))) (eV 1)) (ρ:=[.fz (.int q),.fz (.int j),.fz (.str xX),.fz (.int m),.fz (.int (1+m % 12)),.fz (.int pl),.fz (.str y),x7,.no]) rfl (aI (zJ rfl rfl rfl) rfl)
 obtain⟨u,eu,lu⟩:=zXj (fa:=eV 6) (lo:=oNo) (hi:=xF (eV 5)) (ρ:=[.fz (.int q),.fz (.int j),.fz (.str xX),.fz (.int m),.fz (.int (1+m % 12)),.fz (.int pl),.fz (.str y),x7,.fz (.str ⟨#[s]⟩)]) (x:=y) rfl rfl rfl jc
 obtain⟨v,ev,lv⟩:=zXj (fa:=eV 6) (lo:=xF (rK (eV 5) jp)) (hi:=oNo) (ρ:=[.fz (.int q),.fz (.int j),.fz (.str xX),.fz (.int m),.fz (.int (1+m % 12)),.fz (.int pl),.fz (.str y),x7,.fz (.str ⟨#[s]⟩)]) (x:=y) rfl rfl rfl jc
 have l1:(u++(⟨#[s]⟩:Str)).length<=101:=by rw[kO];show u.length+1<=101;lia
 refine⟨(u++⟨#[s]⟩)++v,?_⟩
 show(rH [.fz (.int q),.fz (.int j),.no,.no,.no,.no,.no,.no,.no]).bind vW=_
 unfold rH
 refine yK (d:=.str xX) rfl ?_
 unfold nG
 refine yK (d:=.int m) ((wB rfl rfl).trans hm) ?_
 unfold mV
 refine yK (d:=.int (1+m % 12)) (aI rfl (zJ rfl rfl rfl)) ?_
 unfold mU
 refine yK (d:=.int pl) ha ?_
 unfold nH
 refine yK (d:=.str (Str.ofString "")) rfl ?_
 unfold mJ
 refine yB (ρ':=[.fz (.int q),.fz (.int j),.fz (.str xX),.fz (.int m),.fz (.int (1+m % 12)),.fz (.int pl),.fz (.str y),x7,.no]) ?_ ?_
 · show jQ (iR (eV 4)) (gN 7) sR [.fz (.int q),.fz (.int j),.fz (.str xX),.fz (.int m),.fz (.int (1+m % 12)),.fz (.int pl),.fz (.str (Str.ofString "")),.no,.no]=_
   unfold jQ
   rw[src,Qw]
   exact e
 unfold nM
 refine yK (d:=.str ⟨#[s]⟩) es ?_
 unfold fG
 rw[tS]
 exact aK (aK eu rfl (by show u.length+1<=100000;lia)) ev jc
theorem zQU (q:Int):∃(ws:List Str) (a b:Int),iU [.int q]=some (.tup [.lst (ws.map .str),.int a,.int b])/\ws.length=14/\0<=a/\a < 3/\0<=b/\b < 3:=by
 obtain⟨ws,e,el,_⟩:=zXU (α:=Str) (elt:=zI 2 mW (zY (eV 1) (zY (eV 0) zP))) (f:=D.str) (Q:=fun _=>True) (rest:=[.fz (.int q)]) (rQ 0 14) .no [] fun d hd=>by
   obtain⟨i,hi,rfl⟩:=aA hd
   obtain⟨w,ew⟩:=zPN q (0+(i:Int))
   exact⟨w,(wB rfl rfl).trans ew,trivial⟩
 rw[kL] at el
 rw[Tj] at e
 refine⟨ws,dY q 12 % 3,dY q 13 % 3,?_,el,jc,jc,jc,jc⟩
 show(rD [.fz (.int q),.no]).bind vW=_
 unfold rD
 refine yB (ρ':=[.fz (.int q),.ow (ws.map .str)]) ?_ ?_
 · unfold fT xL
   have s1:(iR (eC (.int 14)) [.fz (.int q),.no]).bind okL=some (rQ 0 14):=rfl
   rw[s1,Qw]
   have s2:upB 1 [0] [.fz (.int q),.no]=[.no,.fz (.int q)]:=rfl
   rw[s2,e]
   rfl
 · unfold fU zX0
   have s3:zTJ 1 [.fz (.int q),.ow (ws.map .str)]=[.fz (.int q),.fz (.lst (ws.map .str))]:=rfl
   rw[s3,tS]
   exact qZ (zQ rfl (zQ (zJ ((wB rfl rfl).trans (tM q 12 jb jb)) rfl rfl) (zQ (zJ ((wB rfl rfl).trans (tM q 13 jb jb)) rfl rfl) rfl))) je
abbrev pgN:List Str:=["leaf","things","leasts","most"]
def dE (e:Et):D:=.tup [.int e.f,.int e.l,.str e.z]
def zWa (h:Nat)(xs:List (It h)):D:=if (xs.map (most h)).isEmpty=true then .non else .int (aZ (xs.map (most h)))
def iD:(h:Nat)->It h->D
 | 0,e=>dE e
 | h+1,xs=>.obj "Page" pgN [.bl (h==0),.lst (List.map (iD h) xs),.lst (List.map (fun x=>dE (yE h x)) xs),zWa h xs]
abbrev pgD (h:Nat)(xs:List (It h)):D:=iD (h+1) xs
def ne:(h:Nat)->It h->Prop
 | 0,_=>True
 | h+1,xs=>0 < List.length xs
theorem mG {n h:Nat}(hn:4<=n){x:It h}(H:vE n h x):ne h x:=by
 cases h with
 | zero=>trivial
 | succ h=>have:=(xT H).1;show 0 < List.length x;lia
theorem zYC {fa:Ef}{ρ:List B}{a b c d:D}(h:fa ρ=some (.obj "Page" pgN [a,b,c,d])):yS "Page" "leaf" fa ρ=some a/\yS "Page" "things" fa ρ=some b/\yS "Page" "leasts" fa ρ=some c/\yS "Page" "most" fa ρ=some d:=by
 refine⟨?_,?_,?_,?_⟩
 all_goals
   unfold yS
   rw[h,Qw]
   refine(Qu rfl).trans ?_
   kernel_rfl
section
variable {fa:Ef} {ρ:List B} {h:Nat} {xs:List (It h)}
theorem wT (H:fa ρ=some (pgD h xs)):yS "Page" "leaf" fa ρ=some (.bl (h==0)):=(zYC H).1
theorem yT (H:fa ρ=some (pgD h xs)):yS "Page" "things" fa ρ=some (.lst (xs.map (iD h))):=(zYC H).2.1
theorem iE (H:fa ρ=some (pgD h xs)):yS "Page" "leasts" fa ρ=some (.lst (xs.map fun x=>dE (yE h x))):=(zYC H).2.2.1
theorem zWV (H:fa ρ=some (pgD h xs)):yS "Page" "most" fa ρ=some (zWa h xs):=(zYC H).2.2.2
end
theorem zYh {α:Type}{elt:Ef}{f h:α->D}{rest:List B}:∀(l:List α) (x0:B) (j7:List D),(∀a∈l,elt (.fz (f a)::rest)=some (h a))->rU (gN 0) tOK elt (l.map f) (x0::rest) j7=some (j7++l.map h)
 | [],_,j7,_=>by simp[rU]
 | a::r,x0,j7,hh=>by
   rw[Qz]
   unfold rU
   have e1:gN 0 (f a) (x0::rest)=some (.fz (f a)::rest):=rfl
   have e2:tOK (.fz (f a)::rest)=some true:=rfl
   rw[e1,Qw,e2,Qw,Qu rfl,hh a Qv,Qw,zYh r _ _ fun q hq=>hh q (Qk _ hq)]
   simp
theorem fR {α:Type}{t:Tf}{f:α->D}{p:α->Bool}{rest:List B}:∀(l:List α) (x0:B) (j7:List D),(∀a∈l,t (.fz (f a)::rest)=some (p a))->rU (gN 0) t (eV 0) (l.map f) (x0::rest) j7=some (j7++(l.filter p).map f)
 | [],_,j7,_=>by simp[rU]
 | a::r,x0,j7,hh=>by
   rw[Qz]
   unfold rU
   have e1:gN 0 (f a) (x0::rest)=some (.fz (f a)::rest):=rfl
   have e3:eV 0 (.fz (f a)::rest)=some (f a):=rfl
   rw[e1,Qw,hh a Qv,Qw]
   cases hp:p a with
   | true=>rw[Qu rfl,e3,Qw,fR r _ _ fun q hq=>hh q (Qk _ hq),Yo hp];simp
   | false=>rw[Qs jb,fR r _ _ fun q hq=>hh q (Qk _ hq),Yi (by simp[hp])]
theorem zYM:∀l:List Int,zYK (l.map .int)=some l
 | []=>rfl
 | i::r=>by show(zYK (r.map .int)).map _=_;rw[zYM r];rfl
theorem zPF {g:Lf}{ρ:List B}{l:List Int}(h:g ρ=some (l.map .int)):zZd g ρ=some (if l.isEmpty=true then .non else .int (aZ l)):=by
 unfold zZd
 rw[h,Qw,zYM,Qw]
 split<;>rfl
theorem zWq {h:Nat}{x:List (It h)}(hx:0 < x.length):zWa h x = .int (most (h+1) x):=by
 unfold zWa
 rw[Qs (by cases x;simp at hx;simp)]
 rfl
theorem zZJ {α:Type}(f:α->D){x:α}{r:List α}:atD (.lst ((x::r).map f)) (.int 0)=some (f x):=by
 show atI ((x::r).map f) 0=_
 rw[lN _ 0 .non jb (by rw[Qi,Qo];lia)]
 rfl
theorem zX2 {src elt:Ef}{ρ:List B}{α:Type}{l:List α}{f g:α->D}(hs:src ρ=some (.lst (l.map f)))(hl:l.length<=100000)(he:∀a∈l,elt [.fz (f a)]=some (g a)):xL (iL src) 1 [] (gN 0) tOK elt ρ=some (l.map g):=by
 unfold xL iL
 rw[hs,Qw]
 show((some (l.map f)).bind okL).bind _=_
 rw[Qw,rS (by rw[Qi];lia),Qw]
 have:=zYh (elt:=elt) (f:=f) (h:=g) (rest:=[]) l .no [] he
 rw[Tj] at this
 exact this
theorem zPQ (h:Nat)(xs:List (It h))(hl:xs.length<=100000)(hne:∀x∈xs,ne h x):rB [.bl (h==0),.lst (xs.map (iD h))]=some [.bl (h==0),.lst (xs.map (iD h)),.lst (xs.map fun x=>dE (yE h x)),zWa h xs]:=by
 show zYa [.no,.fz (.bl (h==0)),.fz (.lst (xs.map (iD h))),.no]=_
 have e1:eIf (tB1 (eV 1)) (eL (xL (iL (eV 2)) 1 [] (gN 0) tOK (eIx (eV 0) jp))) (eL (xL (iL (eV 2)) 1 [] (gN 0) tOK (yS "Page" "most" (eV 0)))) [.no,.fz (.bl (h==0)),.fz (.lst (xs.map (iD h))),.no]=some (.lst ((xs.map (most h)).map .int)):=by
   rw[Rx]
   cases h with
   | zero=>exact wC (zX2 (l:=xs) (f:=iD 0) (g:=D.int ∘ most 0) rfl hl fun e _=>rfl)
   | succ h=>exact wC (zX2 (l:=xs) (f:=iD (h+1)) (g:=D.int ∘ most (h+1)) rfl hl fun x hx=>by
       rw[zWV (h:=h) (xs:=x) rfl,zWq (hne x hx)];rfl)
 unfold zYa
 rw[e1,Qw]
 show zY (eV 1) (zY (eV 2) (zY _ (zY (zZd (iL (eV 3))) zP))) [.no,.fz (.bl (h==0)),.fz (.lst (xs.map (iD h))),.fz (.lst ((xs.map (most h)).map .int))]=_
 refine zQ rfl (zQ rfl (zQ ?_ (zQ (zPF rfl) rfl)))
 cases h with
 | zero=>rfl
 | succ h =>
   show eL (xL (iL (eV 2)) 1 [] (gN 0) tOK (eIx (yS "Page" "leasts" (eV 0)) jo)) _=_
   exact wC (zX2 (l:=xs) (f:=iD (h+1)) (g:=fun x=>dE (yE (h+1) x)) rfl hl fun x hx=>by
     match x,hne x hx with
     | y::t,_=>exact(wS (iE (h:=h) (xs:=y::t) rfl) rfl).trans (zZJ _))
theorem kA {fb fx:Ef}{ρ:List B}{h:Nat}{xs:List (It h)}(h1:fb ρ=some (.bl (h==0)))(h2:fx ρ=some (.lst (xs.map (iD h))))(hl:xs.length<=100000)(hne:∀x∈xs,ne h x):kP "Page" pgN 2 rB (zY fb (zY fx zP)) ρ=some (pgD h xs) :=
 zS5 (zQ h1 (zQ h2 rfl)) rfl (zPQ h xs hl hne) rfl
theorem zOm {α:Type}(f:α->D)(xs:List α)(k:Nat)(hk:k<=xs.length):cM (xs.map f) none (some (k:Int))=(xs.take k).map f:=by
 unfold cM
 rw[HT.sIx_none,HT.sIx_nat,List.drop_zero,Qi,Yt,Yy hk]
 rfl
theorem zO0 {α:Type}(f:α->D)(xs:List α)(k:Nat):cM (xs.map f) (some (k:Int)) none=(xs.drop k).map f:=by
 unfold cM
 rw[HT.sIx_none,HT.sIx_nat,Qi,Yz,Ej je]
 by_cases h:k<=xs.length
 · rw[Yy h]
 · rw[Ob jc,Yp je,Yp (by simp;lia)]
theorem zQ6 {α:Type}(f:α->D)(xs:List α)(k:Nat):cM (xs.map f) (some (k:Int)) (some ((k+2:Nat):Int))=((xs.drop k).take 2).map f:=by
 unfold cM
 rw[HT.sIx_nat,HT.sIx_nat,Qi,Yt,Yz]
 by_cases h:k<=xs.length
 · rw[Yy h]
   by_cases h2:k+2<=xs.length
   · rw[Yy h2,show k+2 - k=2 by lia]
   · rw[Ob jc,Ej je,Ej (by simp;lia)]
 · rw[show min k xs.length=xs.length from Ob jc,Yp je,Yp (by simp;lia)];simp
theorem bD {α:Type}{fa fk:Ef}{ρ:List B}{f:α->D}{xs:List α}{k:Nat}(h:fa ρ=some (.lst (xs.map f)))(hk:fk ρ=some (.int (k:Int)))(hkl:k<=xs.length):wV fa oNo (xF fk) ρ=some ((xs.take k).map f):=by
 unfold wV oNo xF
 rw[h,Qw,Qw,hk]
 exact Eo some (zOm f xs k hkl)
theorem zZP {α:Type}{fa fk:Ef}{ρ:List B}{f:α->D}{xs:List α}{k:Nat}(h:fa ρ=some (.lst (xs.map f)))(hk:fk ρ=some (.int (k:Int))):wV fa (xF fk) oNo ρ=some ((xs.drop k).map f):=by
 unfold wV oNo xF
 rw[h,Qw,hk]
 exact Eo some (zO0 f xs k)
theorem rX (n h:Nat)(xs:List (It h))(hl:xs.length<=1000)(hne:∀x∈xs,ne h x):uM [.bl (h==0),.lst (xs.map (iD h)),.int (n:Int)]=some (.lst ((w6 n xs).map (iD (h+1)))):=by
 show(rE [.fz (.bl (h==0)),.fz (.lst (xs.map (iD h))),.fz (.int (n:Int)),.no]).bind vW=_
 unfold rE
 by_cases h0:xs.length=0
 · have:xs=[]:=Ua.mp h0
   subst this
   exact iV rfl rfl
 · have hc0:w6 n xs=if xs.length<=n then [xs] else [xs.take (xs.length / 2),xs.drop (xs.length / 2)]:=Qs h0
   refine fF (by
     show some (!(!(xs.map (iD h)).isEmpty))=some false
     cases xs with
     | nil=>exact absurd rfl h0
     | cons x r=>rfl) ?_
   unfold mR
   have ht:eB2 gLe (wJ (eV 1)) (eV 2) [.fz (.bl (h==0)),.fz (.lst (xs.map (iD h))),.fz (.int (n:Int)),.no]=some (decide (xs.length<=n)):=by
     show some (decide (((xs.map (iD h)).length:Int)<=(n:Int)))=_
     rw[Qi]
     congr 1
     by_cases q:xs.length<=n
     · rw[Qc q,Qc jc]
     · rw[We q,We jc]
   by_cases h1:xs.length<=n
   · rw[hc0,Qu h1]
     refine iV (by rw[ht,Qc h1]) ?_
     exact wC (uT (zQ (kA (h:=h) (xs:=xs) rfl rfl jc hne) rfl) je)
   · rw[hc0,Qs h1]
     refine fF (by rw[ht,We h1]) ?_
     unfold mM
     refine yK (d:=.int ((xs.length / 2:Nat):Int)) (by
       refine(zJ (i:=(xs.length:Int)) (j:=2) ?_ rfl rfl).trans ?_
       · show some (D.int ((xs.map (iD h)).length:Int))=_
         rw[Qi]
       · rfl) ?_
     unfold gG
     rw[tS]
     refine wC (uT (zQ (kA (h:=h) (xs:=xs.take (xs.length / 2)) rfl (wC (bD rfl rfl jc)) (by rw[Qj];lia) fun x hx=>hne x (Wc hx)) (zQ (kA (h:=h) (xs:=xs.drop (xs.length / 2)) rfl (wC (zZP rfl rfl)) (by rw[Wu];lia) fun x hx=>hne x (Wx hx)) rfl)) je)
theorem fY (e:Et):tO [dE e]=some (dIS (kE e)):=rfl
theorem zVH (h:Nat)(xs:List (It h))(e:Et)(hl:xs.length<=1000):aE [pgD h xs,dE e]=some (.int ((zTz (xs.map (yE h)) e:Nat):Int)):=by
 show(cL [.fz (pgD h xs),.fz (dE e),.no]).bind vW=_
 unfold cL
 refine yB (ρ':=[.fz (pgD h xs),.fz (dE e),.ow ((xs.filter fun x => !yF (kE e) (kE (yE h x))).map fun x=>dE (yE h x))]) ?_ ?_
 · unfold fT xL iL
   rw[iE (h:=h) (xs:=xs) rfl,Qw]
   show Option.map _ (((some (xs.map fun x=>dE (yE h x))).bind okL).bind _)=_
   rw[Qw,rS (by rw[Qi];lia),Qw]
   have:=fR (t:=eB2 zTX (zI 1 tO (zY (eV 0) zP)) (zI 1 tO (zY (eV 1) zP))) (f:=fun x=>dE (yE h x)) (p:=fun x => !yF (kE e) (kE (yE h x))) (rest:=[.fz (dE e)]) xs .no [] fun a _=>by
     unfold eB2
     rw[pI (x:=dE (yE h a)) rfl,pI (x:=dE e) rfl,fY,fY]
     rfl
   exact(Eo (Option.map _) this).trans rfl
 · unfold zUu
   rw[tS]
   have j5:((xs.filter fun x => !yF (kE e) (kE (yE h x))).map fun x=>dE (yE h x)).length=((xs.map (yE h)).filter fun a => !yF (kE e) (kE a)).length:=by
     rw[Qi,List.filter_map,Qi];rfl
   show some (D.int (if (0:Int) > ((List.map (fun x=>dE (yE h x)) (xs.filter fun x => !yF (kE e) (kE (yE h x)))).length:Int) - 1 then 0 else((List.map (fun x=>dE (yE h x)) (xs.filter fun x => !yF (kE e) (kE (yE h x)))).length:Int) - 1))=_
   rw[j5]
   unfold zTz
   congr 2
   split<;>lia
theorem zYr {α:Type}(f:α->D){xs:List α}{k:Nat}{d:α}(h:k < xs.length):atD (.lst (xs.map f)) (.int (k:Int))=some (f (xs.getD k d)):=by
 show atI (xs.map f) (k:Int)=_
 rw[lN _ _ .non jc (by rw[Qi];lia)]
 have:(k:Int).toNat=k:=jc
 rw[this]
 simp[h]
theorem zMZ (p q:Int×Str):zQ2 (dIS p) (dIS q)=some (decide (p=q)):=by
 show some ((p.1==q.1&&(p.2==q.2&&true))&&true)=_
 congr 1
 obtain⟨a,b⟩:=p
 obtain⟨c,d⟩:=q
 by_cases h1:a=c<;>by_cases h2:b=d<;>simp[h1,h2]
theorem zPE (a e:Et):jS (dE a) (dE e)=some (!z8 a e):=by
 show some (!((a.f==e.f&&(a.l==e.l&&(a.z==e.z&&true)))&&true))=_
 unfold z8
 simp
def Way (n h:Nat)(xs:List (It h)):Prop:=xs.length<=n/\(h=0∨0 < xs.length)/\∀x∈xs,vE n h x
theorem Way.down {n h:Nat}(hn:4<=n){xs:List (It (h+1))}(H:Way n (h+1) xs)(e:Et):yJ h xs e < xs.length/\Way n h (xs.getD (yJ h xs e) []):=by
 obtain⟨a,b,c⟩:=H
 have h0:0 < xs.length:=by rcases b with z | z;cases z;exact z
 have hw:=zXC (e:=e) h0
 have hm:xs.getD (yJ h xs e) []∈xs:=by
   have:xs.getD (yJ h xs e) []=xs[yJ h xs e]:=by simp[hw]
   rw[this];exact Tn hw
 obtain⟨c1,c2,c3⟩:=xT (c _ hm)
 exact⟨hw,c2,.inr jc,c3⟩
theorem Way.ne {n h:Nat}(hn:4<=n){xs:List (It h)}(H:Way n h xs):∀x∈xs,My.ne h x:=fun x hx=>mG hn (H.2.2 x hx)
def zVO:(h:Nat)->List (It h)->Et->List Et
 | 0,xs,_=>xs
 | h+1,xs,e=>zVO h (List.getD xs (yJ h xs e) []) e
theorem aV:∀(h:Nat) (xs:List (It h)) (e:Et),jB h xs e=((zVO h xs e).filter fun a=>decide (kE a=kE e)).head?
 | 0,_,_=>rfl
 | h+1,xs,e=>aV h (List.getD xs (yJ h xs e) []) e
theorem zZc {n:Nat}(hn:4<=n):∀(h:Nat) (xs:List (It h)) (e:Et),Way n h xs->(zVO h xs e).length<=n
 | 0,_,_,H=>H.1
 | h+1,xs,e,H=>zZc hn h (List.getD xs (yJ h xs e) []) e (H.down hn e).2
def zNZ:Option Et->D | none=>.non | some e=>dE e
theorem zTP {n:Nat}(hn:4<=n)(h12:n<=900)(e:Et):∀(h:Nat) (xs:List (It h)) (k:Nat),Way n h xs->h < k ->
   tR (y8 (tB1 (yS "Page" "leaf" (eV 0)))) (zA 0 (eIx (yS "Page" "things" (eV 0)) (zI 2 aE (zY (eV 0) (zY (eV 1) zP))))) k [.fz (pgD h xs),.fz (dE e),.no]=some (.nx [.fz (pgD 0 (zVO h xs e)),.fz (dE e),.no])
 | 0,xs,k+1,H,hk=>by
   have t:y8 (tB1 (yS "Page" "leaf" (eV 0))) [.fz (pgD 0 xs),.fz (dE e),.no]=some false:=by
     unfold y8 tB1
     rw[wT (h:=0) (xs:=xs) rfl];rfl
   rw[tR,t,Qw,Qs jb]
   rfl
 | h+1,xs,k+1,H,hk=>by
   obtain⟨hw,H'⟩:=H.down hn e
   have t:y8 (tB1 (yS "Page" "leaf" (eV 0))) [.fz (pgD (h+1) xs),.fz (dE e),.no]=some true:=by
     unfold y8 tB1
     rw[wT (h:=h+1) (xs:=xs) rfl];rfl
   have b:zA 0 (eIx (yS "Page" "things" (eV 0)) (zI 2 aE (zY (eV 0) (zY (eV 1) zP)))) [.fz (pgD (h+1) xs),.fz (dE e),.no]=some (.nx [.fz (pgD h (xs.getD (yJ h xs e) [])),.fz (dE e),.no]):=by
     unfold zA
     rw[(wS (yT (h:=h+1) (xs:=xs) rfl) ((wB rfl rfl).trans (zVH (h+1) xs e (Wp H.1 jc)))).trans (zYr (iD (h+1)) (d:=([]:It (h+1))) hw)]
     rfl
   rw[tR,t,Qw,Qu rfl,b,Qw]
   exact zTP hn h12 e h _ k H' jc
theorem zXS {n:Nat}(hn:4<=n)(h12:n<=900)(e:Et)(h:Nat)(xs:List (It h))(H:Way n h xs)(hh:h < 10):xU [pgD h xs,dE e]=some (zNZ (jB h xs e)):=by
 have hl:=zZc hn h xs e H
 show(tN [.fz (pgD h xs),.fz (dE e),.no]).bind vW=_
 unfold tN
 refine yB (zTP hn h12 e h xs 10 H hh) ?_
 rw[aV]
 generalize zVO h xs e=es at hl
 unfold qN
 refine yB (ρ':=[.fz (pgD 0 es),.fz (dE e),.ow ((es.filter fun a=>decide (kE a=kE e)).map dE)]) ?_ ?_
 · unfold fT xL iL
   rw[yT (h:=0) (xs:=es) rfl,Qw]
   show Option.map _ (((some (es.map dE)).bind okL).bind _)=_
   rw[Qw,rS (by rw[Qi];lia),Qw]
   have:=fR (t:=eB2 zQ2 (zI 1 tO (zY (eV 0) zP)) (zI 1 tO (zY (eV 1) zP))) (f:=dE) (p:=fun a=>decide (kE a=kE e)) (rest:=[.fz (dE e)]) es .no [] fun a _=>by
     unfold eB2
     rw[pI (x:=dE a) rfl,pI (x:=dE e) rfl,fY,fY]
     exact zMZ _ _
   exact(Eo (Option.map _) this).trans rfl
 · unfold kY zX0
   have s3:zTJ 2 [.fz (pgD 0 es),.fz (dE e),.ow ((es.filter fun a=>decide (kE a=kE e)).map dE)]=[.fz (pgD 0 es),.fz (dE e),.fz (.lst ((es.filter fun a=>decide (kE a=kE e)).map dE))]:=rfl
   rw[s3,tS]
   cases es.filter fun a=>decide (kE a=kE e) with
   | nil=>rfl
   | cons x r=>exact zZJ dE
theorem zZh:∀l:List Et,aW tO (l.map dE)=some (l.map kE)
 | []=>rfl
 | e::r=>by
   show((tO [dE e]).bind zSU).bind _=_
   rw[fY,zZh r]
   rfl
theorem zSz {g:Lf}{ρ:List B}{l:List Et}(h:g ρ=some (l.map dE))(hl:l.length<=1000):zZW tO g ρ=some ((qA l).map dE):=by
 unfold zZW
 rw[h,Qw,zZh,Qw,Qu (by rw[Qi];lia)]
 unfold qA
 rw[Rx]
 congr 1
 refine Ig fun i hi=>?_
 have h:=zPv hi
 show(l.map dE).getD i .non=dE (l.getD i zE)
 simp[h]
theorem bF {f g:Lf}{ρ:List B}{α:Type}{d:α->D}{xs ys:List α}(h1:f ρ=some (xs.map d))(h2:g ρ=some (ys.map d))(hl:xs.length+ys.length<=100000):lJ f g ρ=some ((xs++ys).map d):=by
 unfold lJ
 rw[h1,Qw,h2,Qw,rS (by rw[Qt,Qi,Qi];exact hl),Tk]
theorem zZQ {f:Ef}{ρ:List B}{xs:List D}(h:f ρ=some (.lst xs)):iL f ρ=some xs:=by unfold iL;rw[h];rfl
theorem zUD {n:Nat}(hn:4<=n)(e:Et)(h:Nat)(xs:List (It h))(H:Way n h xs):(nZ n h xs e).length<=2/\(0 < xs.length∨h=0->∀y∈nZ n h xs e,ne (h+1) y):=by
 have p:=zV1 n hn e h xs H.1 H.2.1 H.2.2
 have q:0 < xs.length∨h=0->∀y∈nZ n h xs e,ne (h+1) y:=by
   intro hx y hy
   by_cases h0:h=0
   · subst h0
     have hy:y∈w6 n (qA (xs++[e])):=hy
     have hL:(qA (xs++[e])).length=xs.length+1:=by rw[dU];exact Qt
     unfold w6 at hy
     rw[Qs jc] at hy
     have h1:=H.1
     split at hy
     · rw[Wr] at hy;subst hy;show 0 < List.length _;lia
     · rcases Qa.mp hy with rfl | hy
       · show 0 < List.length _;rw[Qj];lia
       · rw[Wr] at hy;subst hy;show 0 < List.length _;rw[Wu];lia
   · have hx:0 < xs.length:=by rcases hx with z | z;exact z;exact absurd z h0
     generalize nZ n h xs e=ys at p hy
     cases p with
     | one a b c=>rw[Wr] at hy;subst hy;show 0 < List.length _;lia
     | two a b =>
       rcases Qa.mp hy with rfl | hy
       · exact mG hn a
       · rw[Wr] at hy;subst hy;exact mG hn b
 refine⟨?_,q⟩
 generalize nZ n h xs e=ys at p
 cases p with
 | one a b c=>simp
 | two a b=>simp
theorem zUt {ρ:List B}{fx fk fi:Ef}{h:Nat}{xs:List (It (h+1))}{ys:List (List (It h))}{k:Nat}(h1:fx ρ=some (.lst (xs.map (iD (h+1)))))(h2:fk ρ=some (.int (k:Int)))(h3:fi ρ=some (.lst (ys.map (iD (h+1)))))(hk:k < xs.length)(hl:xs.length<=900)(hy:ys.length<=2) :
   eL (lJ (lJ (wV fx oNo (xF fk)) (iL fi)) (wV fx (xF (xG fk jp)) oNo)) ρ=some (.lst ((xs.take k++ys++xs.drop (k+1)).map (iD (h+1)))):=by
 have hk2:xG fk jp ρ=some (.int ((k+1:Nat):Int)):=(zJ h2 rfl rfl).trans rfl
 exact wC (bF (bF (bD h1 h2 jc) (zZQ h3) (by rw[Qj];lia)) (zZP h1 hk2) (by rw[Qt,Qj,Wu];lia))
theorem lE {n:Nat}(hn:4<=n)(h12:n<=800)(e:Et):∀(h:Nat) (xs:List (It h)) (k:Nat),Way n h xs->h < k->wM k [pgD h xs,dE e,.int (n:Int)]=some (.lst ((nZ n h xs e).map (iD (h+1))))
 | 0,xs,k+1,H,_=>by
   have hl:=H.1
   show(xB (wM k) [.fz (pgD 0 xs),.fz (dE e),.fz (.int (n:Int)),.no,.no]).bind vW=_
   unfold xB
   refine iV ?_ ?_
   · unfold tB1
     rw[wT (h:=0) (xs:=xs) rfl];rfl
   · have hc:lJ (iL (yS "Page" "things" (eV 0))) (wL (zY (eV 1) zP)) [.fz (pgD 0 xs),.fz (dE e),.fz (.int (n:Int)),.no,.no]=some (List.map dE (xs++[e])) :=
       bF (d:=dE) (ys:=[e]) (zZQ (yT (h:=0) (xs:=xs) rfl)) (uT (zQ rfl rfl) je) (by simp;lia)
     refine(oC rfl (wC (zSz hc (by simp;lia))) rfl).trans ?_
     exact rX n 0 (qA (xs++[e])) (by rw[dU];simp;lia) fun _ _=>trivial
 | h+1,xs,k+1,H,hk=>by
   have hl:=H.1
   obtain⟨hw,H'⟩:=H.down hn e
   obtain⟨p1,p2⟩:=zUD hn e h _ H'
   have ih:=lE hn h12 e h _ k H' jc
   show(xB (wM k) [.fz (pgD (h+1) xs),.fz (dE e),.fz (.int (n:Int)),.no,.no]).bind vW=_
   unfold xB
   refine fF ?_ ?_
   · unfold tB1
     rw[wT (h:=h+1) (xs:=xs) rfl];rfl
   unfold rR
   refine yK ((wB rfl rfl).trans (zVH (h+1) xs e jc)) ?_
   unfold rW
   refine yK ((oC ((wS (yT (h:=h+1) (xs:=xs) rfl) rfl).trans (zYr (iD (h+1)) (d:=([]:It (h+1))) hw)) rfl rfl).trans ih) ?_
   unfold lZ
   rw[tS]
   refine(oC rfl (zUt (h:=h) (xs:=xs) (k:=yJ h xs e) (yT (h:=h+1) (xs:=xs) rfl) rfl rfl hw jc p1) rfl).trans ?_
   refine rX n (h+1) _ (by rw[Qt,Qt,Qj,Wu];lia) fun x hx=>?_
   rcases Wq.mp hx with hx | hx
   · rcases Wq.mp hx with hx | hx
     · exact H.ne hn x (Wc hx)
     · exact p2 (by rcases H'.2.1 with z | z;exact .inr z;exact .inl z) x hx
   · exact H.ne hn x (Wx hx)
def bR (n:Nat){α:Type}:Nat->List (List α)->List Nat
 | _,[]=>[]
 | k,p::r=>if p.length < n / 2 then k::bR n (k+1) r else bR n (k+1) r
theorem zYH (n:Nat){α:Type}:∀(k:Nat) (ps:List (List α)),(bR n k ps).head?=(ps.findIdx? fun x=>decide (x.length < n / 2)).map (· + k)
 | _,[]=>rfl
 | k,p::r=>by
   unfold bR
   rw[Oq]
   by_cases h:p.length < n / 2
   · simp[h]
   · rw[Qs h,zYH n (k+1) r]
     simp only[h,Og]
     cases r.findIdx? fun x=>decide (x.length < n / 2) with
     | none=>rfl
     | some i=>show some (i+(k+1))=some (i+1+k);congr 1;lia
theorem zXF {n h:Nat}:∀(ps:List (List (It h))) (k:Nat) (x0 x1:B) (j7:List D),
   rU (gT (zF (gN 0) (zF (gN 1) vZ))) (eB2 gLt (wJ (yS "Page" "things" (eV 1))) (uW (eV 2) jq)) (eV 0) (((ps.map (iD (h+1))).zipIdx k).map fun q=>D.tup [.int (q.2:Nat),q.1]) [x0,x1,.fz (.int (n:Int))] j7=some (j7++(bR n k ps).map fun i:Nat=>D.int (i:Int))
 | [],k,x0,x1,j7=>by simp[rU,bR]
 | p::r,k,x0,x1,j7=>by
   rw[Qz,List.zipIdx_cons,Qz]
   unfold rU
   have e1:gT (zF (gN 0) (zF (gN 1) vZ)) (D.tup [.int (k:Nat),iD (h+1) p]) [x0,x1,.fz (.int (n:Int))]=some [.fz (.int (k:Nat)),.fz (iD (h+1) p),.fz (.int (n:Int))]:=rfl
   have e2:eB2 gLt (wJ (yS "Page" "things" (eV 1))) (uW (eV 2) jq) [.fz (.int (k:Nat)),.fz (iD (h+1) p),.fz (.int (n:Int))]=some (decide (p.length < n / 2)):=by
     unfold eB2 wJ
     rw[yT (h:=h) (xs:=p) rfl]
     show some (decide (((p.map (iD h)).length:Int) < (n:Int) / 2))=_
     rw[Qi]
     congr 1
     by_cases q:p.length < n / 2
     · rw[Qc q,Qc jc]
     · rw[We q,We jc]
   have e3:eV 0 [.fz (.int (k:Nat)),.fz (iD (h+1) p),.fz (.int (n:Int))]=some (.int (k:Nat)):=rfl
   show(gT (zF (gN 0) (zF (gN 1) vZ)) (D.tup [.int (k:Nat),iD (h+1) p]) [x0,x1,.fz (.int (n:Int))]).bind _=_
   rw[e1,Qw,e2,Qw]
   unfold bR
   by_cases q:p.length < n / 2
   · rw[Qc q,Qu rfl,Qu q,e3,Qw,zXF r (k+1)]
     simp
   · rw[We q,Qs jb,Qs q,zXF r (k+1)]
theorem zTV {h:Nat}{a0 a1 a2 a3:B}:∀(ps:List (List (It h))) (j7:List (It h)) (x5:B),j7.length+ps.flatten.length<=100000 ->
   ∃y5,lL (gN 5) kZ (ps.map (iD (h+1))) [a0,a1,a2,a3,.ow (j7.map (iD h)),x5]=some (.nx [a0,a1,a2,a3,.ow ((j7++ps.flatten).map (iD h)),y5])
 | [],j7,x5,_=>⟨x5,by simp[lL]⟩
 | p::r,j7,x5,hl=>by
   rw[Ys,Qt] at hl
   obtain⟨y5,e⟩:=zTV r (j7++p) (.fz (iD (h+1) p)) (by rw[Qt];lia) (a0:=a0) (a1:=a1) (a2:=a2) (a3:=a3)
   refine⟨y5,?_⟩
   rw[Qz,mH (ρ1:=[a0,a1,a2,a3,.ow (j7.map (iD h)),.fz (iD (h+1) p)]) (ρ2:=[a0,a1,a2,a3,.ow ((j7++p).map (iD h)),.fz (iD (h+1) p)]) rfl ?_,e,Ys,Qm]
   unfold kZ zXl
   rw[zZQ (yT (h:=h) (xs:=p) rfl),Qw]
   show(if (j7.map (iD h)).length+(p.map (iD h)).length<=lim then some (Out.nx [a0,a1,a2,a3,.ow (j7.map (iD h)++p.map (iD h)),.fz (iD (h+1) p)]) else none)=_
   rw[Qu (by rw[Qi,Qi];show _<=100000;lia),Tk]
theorem zTc {n h:Nat}(ps:List (List (It h)))(hl:ps.length<=900)(hn:n<=300)(hp:∀p∈ps,p.length<=n/\∀x∈p,ne h x):zZR [.lst (ps.map (iD (h+1))),.int (n:Int)]=some (.lst ((pQ n ps).map (iD (h+1)))):=by
 show(mQ [.fz (.lst (ps.map (iD (h+1)))),.fz (.int (n:Int)),.no,.no,.no,.no]).bind vW=_
 unfold mQ
 refine yB (ρ':=[.fz (.lst (ps.map (iD (h+1)))),.fz (.int (n:Int)),.ow ((bR n 0 ps).map fun i:Nat=>D.int (i:Int)),.no,.no,.no]) ?_ ?_
 · unfold fT xL zUL
   rw[zZQ (xs:=ps.map (iD (h+1))) rfl]
   show Option.map _ (((some (L2.aD (ps.map (iD (h+1))))).bind okL).bind _)=_
   rw[Qw,rS (by unfold L2.aD;rw[Qi,List.length_zipIdx,Qi];lia),Qw]
   have:=zXF (n:=n) ps 0 .no .no []
   exact(Eo (Option.map _) this).trans rfl
 have hh:=zYH n 0 ps
 unfold hZ
 cases hf:ps.findIdx? fun x=>decide (x.length < n / 2) with
 | none =>
   rw[hf] at hh
   have hfe:bR n 0 ps=[]:=List.head?_eq_none_iff.mp hh
   rw[hfe]
   have hI:pQ n ps=ps:=by unfold pQ;rw[hf]
   rw[hI]
   have s1:zX0 2 (sIf (y8 (zUU (eV 2))) (xM (eV 0)) wA) [.fz (.lst (ps.map (iD (h+1)))),.fz (.int (n:Int)),.ow (([]:List Nat).map fun i:Nat=>D.int (i:Int)),.no,.no,.no]=some (.rt (.lst (ps.map (iD (h+1))))):=rfl
   rw[zUj s1]
   rfl
 | some i =>
   rw[hf] at hh
   obtain⟨t,hfe⟩:∃t,bR n 0 ps=i::t:=by
     cases hq:bR n 0 ps with
     | nil=>rw[hq] at hh;cases hh
     | cons a t=>rw[hq] at hh;cases hh;exact⟨t,rfl⟩
   rw[hfe]
   have hi:i < ps.length:=(List.findIdx?_eq_some_iff_getElem.mp hf).1
   have hI:pQ n ps=ps.take (i - 1)++w6 n ((ps.drop (i - 1)).take 2).flatten++ps.drop (i - 1+2):=by unfold pQ;rw[hf]
   rw[hI]
   refine yB (ρ':=[.fz (.lst (ps.map (iD (h+1)))),.fz (.int (n:Int)),.fz (.lst ((i::t).map fun i:Nat=>D.int (i:Int))),.no,.no,.no]) rfl ?_
   unfold iW
   refine yK (d:=.int ((i - 1:Nat):Int)) ?_ ?_
   · have e0:eIx (eV 2) jo [.fz (.lst (ps.map (iD (h+1)))),.fz (.int (n:Int)),.fz (.lst ((i::t).map fun i:Nat=>D.int (i:Int))),.no,.no,.no]=some (.int (i:Int)):=(wS (x:=.lst ((i::t).map fun i:Nat=>D.int (i:Int))) rfl rfl).trans (zZJ fun i:Nat=>D.int (i:Int))
     unfold zSx
     rw[show zWr (eIx (eV 2) jo) jp [.fz (.lst (ps.map (iD (h+1)))),.fz (.int (n:Int)),.fz (.lst ((i::t).map fun i:Nat=>D.int (i:Int))),.no,.no,.no]=some (.int ((i:Int) - 1)) from(zJ e0 rfl rfl).trans rfl]
     show some (D.int (if (0:Int) > (i:Int) - 1 then 0 else(i:Int) - 1))=_
     congr 2
     split<;>lia
   unfold iA
   refine yB (ρ':=[.fz (.lst (ps.map (iD (h+1)))),.fz (.int (n:Int)),.fz (.lst ((i::t).map fun i:Nat=>D.int (i:Int))),.fz (.int ((i - 1:Nat):Int)),.ow [],.no]) rfl ?_
   unfold iB
   have hfl:((ps.drop (i - 1)).take 2).flatten.length<=2*n/\∀x∈((ps.drop (i - 1)).take 2).flatten,ne h x:=by
     have hm:∀p∈(ps.drop (i - 1)).take 2,p.length<=n/\∀x∈p,ne h x:=fun p hp'=>hp p (Wx (Wc hp'))
     have h2:((ps.drop (i - 1)).take 2).length<=2:=by rw[Qj];lia
     generalize(ps.drop (i - 1)).take 2=qs at hm h2
     refine⟨?_,fun x hx=>?_⟩
     · match qs,h2,hm with
       | [],_,_=>simp
       | [a],_,hm=>have:=(hm a je).1;simp;lia
       | [a,b],_,hm=>have:=(hm a je).1;have:=(hm b je).1;simp;lia
       | _::_::_::_,h2,_=>simp at h2
     · obtain⟨p,hp',hx⟩:=List.mem_flatten.mp hx
       exact(hm p hp').2 x hx
   obtain⟨y5,ex⟩:=zTV (h:=h) (a0:=.fz (.lst (ps.map (iD (h+1))))) (a1:=.fz (.int (n:Int))) (a2:=.fz (.lst ((i::t).map fun i:Nat=>D.int (i:Int)))) (a3:=.fz (.int ((i - 1:Nat):Int))) ((ps.drop (i - 1)).take 2) [] .no (by simp only[Pq];lia)
   refine yB (ρ':=[.fz (.lst (ps.map (iD (h+1)))),.fz (.int (n:Int)),.fz (.lst ((i::t).map fun i:Nat=>D.int (i:Int))),.fz (.int ((i - 1:Nat):Int)),.ow (((ps.drop (i - 1)).take 2).flatten.map (iD h)),y5]) ?_ ?_
   · unfold jQ
     have src:wV (eV 0) (xF (eV 3)) (xF (xG (eV 3) jq)) [.fz (.lst (ps.map (iD (h+1)))),.fz (.int (n:Int)),.fz (.lst ((i::t).map fun i:Nat=>D.int (i:Int))),.fz (.int ((i - 1:Nat):Int)),.ow [],.no]=some (((ps.drop (i - 1)).take 2).map (iD (h+1))):=by
       show some (cM (ps.map (iD (h+1))) (some ((i - 1:Nat):Int)) (some (((i - 1:Nat):Int)+2)))=_
       rw[show((i - 1:Nat):Int)+2=((i - 1+2:Nat):Int) by lia,zQ6]
     rw[src,Qw]
     exact ex
   unfold bC zX0
   have s3:zTJ 4 [.fz (.lst (ps.map (iD (h+1)))),.fz (.int (n:Int)),.fz (.lst ((i::t).map fun i:Nat=>D.int (i:Int))),.fz (.int ((i - 1:Nat):Int)),.ow (((ps.drop (i - 1)).take 2).flatten.map (iD h)),y5]=[.fz (.lst (ps.map (iD (h+1)))),.fz (.int (n:Int)),.fz (.lst ((i::t).map fun i:Nat=>D.int (i:Int))),.fz (.int ((i - 1:Nat):Int)),.fz (.lst (((ps.drop (i - 1)).take 2).flatten.map (iD h))),y5]:=rfl
   rw[s3,tS]
   have hlf:yS "Page" "leaf" (eIx (eV 0) jo) [.fz (.lst (ps.map (iD (h+1)))),.fz (.int (n:Int)),.fz (.lst ((i::t).map fun i:Nat=>D.int (i:Int))),.fz (.int ((i - 1:Nat):Int)),.fz (.lst (((ps.drop (i - 1)).take 2).flatten.map (iD h))),y5]=some (.bl (h==0)):=by
     match ps,hi with
     | p::r,_=>exact wT (h:=h) (xs:=p) ((wS rfl rfl).trans (zZJ (iD (h+1))))
   have hpg:=rX n h ((ps.drop (i - 1)).take 2).flatten jc hfl.2
   have hcl:(w6 n ((ps.drop (i - 1)).take 2).flatten).length<=2:=by unfold w6;split;simp;split<;>simp
   refine wC (bF (d:=iD (h+1)) (bF (d:=iD (h+1)) (bD (f:=iD (h+1)) rfl rfl jc) (zZQ ((oC hlf rfl rfl).trans hpg)) (by rw[Qj];lia)) (zZP (f:=iD (h+1)) (k:=i - 1+2) rfl ((zJ (j:=2) rfl rfl rfl).trans rfl)) (by rw[Qt,Qj,Wu];lia))
theorem RtOk.way {n h:Nat}{xs:List (It h)}(H:RtOk n h xs):Way n h xs:=⟨H.len,by rcases H.two with z | z;exact .inl z;exact .inr jc,H.full⟩
theorem zWt {n:Nat}(hn:4<=n)(h12:n<=300)(e:Et):∀(h:Nat) (xs:List (It h)) (k:Nat),RtOk n h xs->h < k->xO k [pgD h xs,dE e,.int (n:Int)]=some (.lst ((cS n h xs e).map (iD (h+1))))
 | 0,xs,k+1,H,_=>by
   have hl:=H.len
   show(xZ (xO k) [.fz (pgD 0 xs),.fz (dE e),.fz (.int (n:Int)),.no,.no]).bind vW=_
   unfold xZ
   refine iV ?_ ?_
   · unfold tB1
     rw[wT (h:=0) (xs:=xs) rfl];rfl
   · have hfl:=Rs (fun a:Et => !z8 a e) xs
     refine(oC (y:=.lst (List.map (iD 0) (List.filter (fun a:Et => !z8 a e) xs))) rfl (wC ?_) rfl).trans (rX n 0 (List.filter (fun a:Et => !z8 a e) xs) (by have:=Wp hfl hl;lia) fun _ _=>trivial)
     unfold xL iL
     rw[yT (h:=0) (xs:=xs) rfl,Qw]
     show((some (xs.map dE)).bind okL).bind _=_
     rw[Qw,rS (by rw[Qi];lia),Qw]
     exact fR (t:=eB2 jS (eV 0) (eV 1)) (f:=dE) (p:=fun a => !z8 a e) (rest:=[.fz (dE e)]) xs .no [] fun a _=>zPE a e
 | h+1,xs,k+1,H,hk=>by
   have hl:=H.len
   have h2:2<=xs.length:=by rcases H.two with z | z;cases z;exact z
   obtain⟨hw,H'⟩:=H.way.down hn e
   have hm:xs.getD (yJ h xs e) []∈xs:=by
     have:xs.getD (yJ h xs e) []=xs[yJ h xs e]:=by simp[hw]
     rw[this];exact Tn hw
   obtain⟨c1,c2,c3⟩:=xT (H.full _ hm)
   have HB:RtOk n h (xs.getD (yJ h xs e) []):=⟨c2,.inr jc,c3,H.srt.sublist (qC (f:=qF (h+1)) hm)⟩
   have ih:=zWt hn h12 e h _ k HB jc
   obtain⟨_,i2⟩:=gS hn e h _ HB.len HB.two HB.full HB.srt
   show(xZ (xO k) [.fz (pgD (h+1) xs),.fz (dE e),.fz (.int (n:Int)),.no,.no]).bind vW=_
   rcases i2 with⟨_,_,z⟩ | ⟨y,ey,y1,y2,y3,y4⟩
   · lia
   have hsp:=zRX (xs:=xs) (d:=([]:It (h+1))) hw
   obtain⟨g1,g2,g3,g4⟩:=zTY hn (L:=xs.take (yJ h xs e)) (R:=xs.drop (yJ h xs e+1)) (c:=y) (fun x hx=>H.full x (Wc hx)) (fun x hx=>H.full x (Wx hx)) jc y2 y4 (by rw[Qj,Wu];lia)
   have hmid:xs.take (yJ h xs e)++cS n h (xs.getD (yJ h xs e) []) e++xs.drop (yJ h xs e+1)=xs.take (yJ h xs e)++y::xs.drop (yJ h xs e+1):=by rw[ey];simp
   have hfill:=zTc (n:=n) (h:=h) (xs.take (yJ h xs e)++cS n h (xs.getD (yJ h xs e) []) e++xs.drop (yJ h xs e+1)) (by rw[hmid,Qt,Qo,Qj,Wu];lia) h12 (fun p hp=>by
     rw[hmid] at hp
     rcases Wq.mp hp with z | z
     · obtain⟨a,b,c⟩:=xT (H.full p (Wc z))
       exact⟨b,fun x hx=>mG hn (c x hx)⟩
     · rcases Qa.mp z with z | z
       · rw[z];exact⟨y2,fun x hx=>mG hn (y4 x hx)⟩
       · obtain⟨a,b,c⟩:=xT (H.full p (Wx z))
         exact⟨b,fun x hx=>mG hn (c x hx)⟩)
   unfold xZ
   refine fF ?_ ?_
   · unfold tB1
     rw[wT (h:=h+1) (xs:=xs) rfl];rfl
   unfold uC
   refine yK ((wB rfl rfl).trans (zVH (h+1) xs e jc)) ?_
   unfold uE
   refine yK ((oC ((wS (yT (h:=h+1) (xs:=xs) rfl) rfl).trans (zYr (iD (h+1)) (d:=([]:It (h+1))) hw)) rfl rfl).trans ih) ?_
   unfold pH
   rw[tS]
   refine(oC rfl ((wB (zUt (h:=h) (xs:=xs) (k:=yJ h xs e) (yT (h:=h+1) (xs:=xs) rfl) rfl rfl hw jc (by rw[ey];simp)) rfl).trans hfill) rfl).trans ?_
   refine rX n (h+1) _ ?_ fun x hx=>?_
   · rw[hmid]
     rw[Qj,Wu] at g3
     lia
   · rw[hmid] at hx
     exact mG hn (g1 x hx)
def rtD (r:Rt):D:=pgD r.1 r.2
theorem zWE {x0:B}:∀(h:Nat) (xs:List (It h)) (k:Nat),h < k ->
   tR (oG (y8 (tB1 (yS "Page" "leaf" (eV 1)))) (eB2 gEq (wJ (yS "Page" "things" (eV 1))) jp)) (zA 1 (eIx (yS "Page" "things" (eV 1)) jo)) k [x0,.fz (pgD h xs)]=some (.nx [x0,.fz (rtD (zUq h xs))])
 | 0,xs,k+1,_=>by
   have t:oG (y8 (tB1 (yS "Page" "leaf" (eV 1)))) (eB2 gEq (wJ (yS "Page" "things" (eV 1))) jp) [x0,.fz (pgD 0 xs)]=some false:=by
     unfold oG y8 tB1
     rw[wT (h:=0) (xs:=xs) rfl];rfl
   rw[tR,t,Qw,Qs jb]
   rfl
 | h+1,xs,k+1,hk=>by
   have t:oG (y8 (tB1 (yS "Page" "leaf" (eV 1)))) (eB2 gEq (wJ (yS "Page" "things" (eV 1))) jp) [x0,.fz (pgD (h+1) xs)]=some (decide (xs.length=1)):=by
     unfold oG y8 tB1 eB2 wJ
     rw[wT (h:=h+1) (xs:=xs) rfl,yT (h:=h+1) (xs:=xs) rfl]
     show some (decide (((xs.map (iD (h+1))).length:Int)=1))=_
     rw[Qi]
     congr 1
     by_cases q:xs.length=1
     · rw[Qc q,Qc jc]
     · rw[We q,We jc]
   rw[tR,t,Qw]
   match xs with
   | []=>rfl
   | [x] =>
     rw[Qu je]
     have b:zA 1 (eIx (yS "Page" "things" (eV 1)) jo) [x0,.fz (pgD (h+1) [x])]=some (.nx [x0,.fz (pgD h x)]):=by
       unfold zA
       rw[(wS (yT (h:=h+1) (xs:=[x]) rfl) rfl).trans (zZJ (iD (h+1)))]
       rfl
     rw[b,Qw]
     exact zWE h x k jc
   | x::y::r =>
     rw[Qs je]
     rfl
theorem zUb {h:Nat}(ys:List (List (It h)))(hh:h < 9)(hl:ys.length<=100000)(hne:∀y∈ys,0 < y.length):kK [.lst (ys.map (iD (h+1)))]=some (rtD (dR h ys)):=by
 show(pG [.fz (.lst (ys.map (iD (h+1)))),.no]).bind vW=_
 unfold pG
 unfold dR
 by_cases h0:ys.length=0
 · have:ys=[]:=Ua.mp h0
   subst this
   rw[Qu h0]
   exact iV rfl (kA (h:=0) (xs:=[]) rfl (wC (uT rfl jb)) jb fun _ _=>trivial)
 · rw[Qs h0]
   refine fF (by
     show some (!(!(ys.map (iD (h+1))).isEmpty))=some false
     cases ys with
     | nil=>exact absurd rfl h0
     | cons x r=>rfl) ?_
   unfold lT
   refine yK (d:=pgD (h+1) ys) (kA (h:=h+1) (xs:=ys) rfl rfl hl hne) ?_
   unfold lK
   exact yB (zWE (h+1) ys 10 jc) rfl
def shD:(h:Nat)->List (It h)->D
 | 0,xs=>.tup [.str "leaf",.lst (List.map dE xs)]
 | h+1,xs=>.tup [.str "branch",.lst (List.map (fun x=>.tup [dE (yE (h+1) x),.int (most (h+1) x),shD h x]) xs)]
theorem zW0 {α:Type}{elt:Ef}{f g h:α->D}:∀(l:List α) (x0 x1:B) (j7:List D),(∀a∈l,elt [.fz (f a),.fz (g a)]=some (h a))->rU (gT (zF (gN 0) (zF (gN 1) vZ))) tOK elt (lV (l.map f) (l.map g)) [x0,x1] j7=some (j7++l.map h)
 | [],_,_,j7,_=>by simp[rU,lV]
 | a::r,x0,x1,j7,hh=>by
   rw[Qz,Qz]
   show rU _ _ _ (D.tup [f a,g a]::lV (r.map f) (r.map g)) _ _=_
   unfold rU
   have e1:gT (zF (gN 0) (zF (gN 1) vZ)) (D.tup [f a,g a]) [x0,x1]=some [.fz (f a),.fz (g a)]:=rfl
   have e2:tOK [.fz (f a),.fz (g a)]=some true:=rfl
   rw[e1,Qw,e2,Qw,Qu rfl,hh a Qv,Qw,zW0 r _ _ _ fun q hq=>hh q (Qk _ hq)]
   simp
theorem lD {α:Type}(f g:α->D):∀l:List α,(lV (l.map f) (l.map g)).length=l.length
 | []=>rfl
 | a::r=>by show(lV (r.map f) (r.map g)).length+1=_;rw[lD f g r];rfl
theorem cX {n:Nat}(hn:4<=n)(h12:n<=300):∀(h:Nat) (xs:List (It h)) (k:Nat),Way n h xs->h < k->vS k [pgD h xs]=some (shD h xs)
 | 0,xs,k+1,H,_=>by
   show(vD (vS k) [.fz (pgD 0 xs)]).bind vW=_
   unfold vD
   refine iV ?_ ?_
   · unfold tB1
     rw[wT (h:=0) (xs:=xs) rfl];rfl
   · refine qZ (zQ rfl (zQ (wC (ds:=xs.map dE) ?_) rfl)) je
     unfold jX
     rw[yT (h:=0) (xs:=xs) rfl];rfl
 | h+1,xs,k+1,H,hk=>by
   have hl:=H.1
   show(vD (vS k) [.fz (pgD (h+1) xs)]).bind vW=_
   unfold vD
   refine fF ?_ ?_
   · unfold tB1
     rw[wT (h:=h+1) (xs:=xs) rfl];rfl
   unfold fE
   rw[tS]
   refine qZ (zQ rfl (zQ (wC ?_) rfl)) je
   unfold xL zUH
   rw[iE (h:=h+1) (xs:=xs) rfl,yT (h:=h+1) (xs:=xs) rfl]
   show((some (lV (xs.map fun x=>dE (yE (h+1) x)) (xs.map (iD (h+1))))).bind okL).bind _=_
   rw[Qw,rS (by rw[lD];lia),Qw]
   have:=zW0 (elt:=xH (zY (eV 0) (zY (yS "Page" "most" (eV 1)) (zY (zI 1 (vS k) (zY (eV 1) zP)) zP)))) (f:=fun x=>dE (yE (h+1) x)) (g:=iD (h+1)) (h:=fun x=>.tup [dE (yE (h+1) x),.int (most (h+1) x),shD h x]) xs .no .no [] fun x hx=>by
     obtain⟨c1,c2,c3⟩:=xT (H.2.2 x hx)
     refine qZ (zQ rfl (zQ ?_ (zQ ((pI rfl).trans (cX hn h12 h x k ⟨c2,.inr jc,c3⟩ jc)) rfl))) je
     rw[zWV (h:=h) (xs:=x) rfl,zWq jc]
   exact this
abbrev stN:List Str:=["size","root"]
def stD (n:Nat)(r:Rt):D:=.obj "Store" stN [.int (n:Int),rtD r]
theorem zMO (n:Nat)(r:Rt)(ρ:List B):jI 0 "Store" "root" (.mu (stD n r)::ρ)=some (rtD r)/\jI 0 "Store" "size" (.mu (stD n r)::ρ)=some (.int (n:Int)):=by
 refine⟨?_,?_⟩
 all_goals
   refine(Qu rfl:(if ("Store":Str)="Store" then _ else none)=_).trans ?_
   kernel_rfl
theorem zVG {fa:Ef}{ρ:List B}{n:Nat}{r:Rt}(h:fa ρ=some (stD n r)):yS "Store" "root" fa ρ=some (rtD r):=by
 unfold yS
 rw[h,Qw]
 refine(Qu rfl:(if ("Store":Str)="Store" then _ else none)=_).trans ?_
 kernel_rfl
theorem zVU (n:Nat)(a b:D):setF "root" b stN [.int (n:Int),a]=[.int (n:Int),b]:=jf
section
variable {n:Nat} (hn:4<=n) (h12:n<=300)
include hn h12
theorem zYU {h:Nat}{xs:List (It h)}(H:RtOk n h xs)(e:Et)(hk:∀a∈zS h xs,kE a≠kE e)(hl:(zS h xs).length < 500):∃h' xs',RtOk n h' xs'/\(zS h' xs').Perm (e::zS h xs)/\tI stN [.int (n:Int),rtD ⟨h,xs⟩] [dE e]=some [.int (n:Int),rtD ⟨h',xs'⟩]:=by
 have hd:=H.deep hn jc
 obtain⟨h',xs',e1,H',pm⟩:=H.put hn e hk
 obtain⟨m1,m2⟩:=zMO n ⟨h,xs⟩ [.fz (dE e)]
 refine⟨h',xs',H',pm,?_⟩
 show fnM 2 "Store" stN "root" uF sA [.int (n:Int),rtD ⟨h,xs⟩] [dE e]=_
 unfold fnM
 show(uF [.mu (stD n ⟨h,xs⟩),.fz (dE e)]).bind _=_
 have ht:uF [.mu (stD n ⟨h,xs⟩),.fz (dE e)]=some false:=by
   unfold uF eB2
   rw[wB m1 rfl,show xU [rtD ⟨h,xs⟩,dE e]=_ from zXS hn jc e h xs H.way jc,H.like_none hn hk]
   rfl
 rw[ht,Qw,Qu ⟨rfl,ja,jb⟩]
 obtain⟨p1,p2⟩:=zUD hn e h xs H.way
 have he:sA [.mu (stD n ⟨h,xs⟩),.fz (dE e)]=some (rtD ⟨h',xs'⟩):=by
   refine(pI ((oC m1 rfl m2).trans (lE hn jc e h xs 8 H.way jc))).trans ?_
   rw[zUb _ jc jc (p2 (by rcases H.two with z | z;exact .inr z;exact .inl jc)),e1]
 show(sA [.mu (stD n ⟨h,xs⟩),.fz (dE e)]).map _=_
 rw[he]
 exact Eo some (zVU n _ _)
theorem gZ {h:Nat}{xs:List (It h)}(H:RtOk n h xs)(e:Et)(he:e∈zS h xs)(hl:(zS h xs).length < 500):∃h' xs',RtOk n h' xs'/\zS h' xs'=(zS h xs).filter (fun a => !z8 a e)/\xQ stN [.int (n:Int),rtD ⟨h,xs⟩] [dE e]=some [.int (n:Int),rtD ⟨h',xs'⟩]:=by
 have hd:=H.deep hn jc
 obtain⟨h',xs',e1,H',pm⟩:=H.take hn e
 obtain⟨m1,m2⟩:=zMO n ⟨h,xs⟩ [.fz (dE e)]
 refine⟨h',xs',H',pm,?_⟩
 show fnM 2 "Store" stN "root" vF uB [.int (n:Int),rtD ⟨h,xs⟩] [dE e]=_
 unfold fnM
 show(vF [.mu (stD n ⟨h,xs⟩),.fz (dE e)]).bind _=_
 have ht:vF [.mu (stD n ⟨h,xs⟩),.fz (dE e)]=some false:=by
   unfold vF eB2
   rw[wB m1 rfl,show xU [rtD ⟨h,xs⟩,dE e]=_ from zXS hn jc e h xs H.way jc,H.like_some hn he rfl]
   show jS (dE e) (dE e)=_
   rw[zPE,xY.mpr rfl];rfl
 rw[ht,Qw,Qu ⟨rfl,ja,jb⟩]
 have hE:uB [.mu (stD n ⟨h,xs⟩),.fz (dE e)]=some (rtD ⟨h',xs'⟩):=by
   refine(pI ((oC m1 rfl m2).trans (zWt hn jc e h xs 8 H jc))).trans ?_
   obtain⟨_,i2⟩:=gS hn e h xs H.len H.two H.full H.srt
   rw[zUb _ jc (by rcases i2 with⟨_,z,_⟩ | ⟨y,z,_⟩<;>rw[z]<;>simp) (by
     rcases i2 with⟨_,z,_⟩ | ⟨y,z,_,_,y3,_⟩
     · rw[z];exact fun y hy=>nomatch hy
     · rw[z];intro y hy;rw[Wr] at hy;subst hy;exact y3),e1]
 show(uB [.mu (stD n ⟨h,xs⟩),.fz (dE e)]).map _=_
 rw[hE]
 exact Eo some (zVU n _ _)
theorem dP {h:Nat}{xs:List (It h)}(H:RtOk n h xs)(hl:(zS h xs).length < 500):sU [stD n ⟨h,xs⟩]=some (shD h xs):=by
 have hd:=H.deep hn jc
 show(rP [.fz (stD n ⟨h,xs⟩)]).bind vW=_
 unfold rP
 rw[tS]
 exact(pI (zVG (n:=n) (r:=⟨h,xs⟩) rfl)).trans (cX hn h12 h xs 8 H.way jc)
end
theorem zSP {xs:List Int}{i:Int}(h0:0<=i)(h1:i < xs.length):∃x∈xs,atD (.lst (xs.map .int)) (.int i)=some (.int x):=by
 obtain⟨x,hx,e⟩:=fM h0 h1
 refine⟨x,hx,?_⟩
 show atI (xs.map D.int) i=_
 rw[kJ,e];rfl
theorem bK {fa fb:Ef}{ρ:List B}{i j:Int}(h1:fa ρ=some (.int i))(h2:fb ρ=some (.int j))(h:zVY i j=true):dX fa fb ρ=some (.int (i^j.toNat)):=zJ h1 h2 h
theorem zRl (ws:List Str)(a b c k:Int)(hw:ws.length=14)(a0:0<=a)(a1:a < 3)(k0:0<=k)(k1:k < 300):∃e:Et,pL [.tup [.lst (ws.map .str),.int a,.int b],.int c,.int k]=some (dE e):=by
 have ck:jN 3 k=true:=nL jc jc
 have m1:=tM c (3*k+1) jc jc
 have m2:=tM c (3*k+2) jc jc
 have m3:=tM c (3*k+3) jc jc
 have n1:=zUJ c (3*k+1)
 have n2:=zUJ c (3*k+2)
 have l1:=zTU c (3*k+1)
 have l2:=zTU c (3*k+2)
 generalize dY c (3*k+1)=one at m1 n1 l1
 generalize dY c (3*k+2)=two at m2 n2 l2
 generalize dY c (3*k+3)=thr at m3
 obtain⟨s0,hs0,es0⟩:=zSP (xs:=[1,5,60,2000]) (i:=two % 4) jc (by show two % 4 < 4;lia)
 obtain⟨t0,ht0,et0⟩:=zSP (xs:=[30,200,4000]) (i:=a) a0 a1
 obtain⟨s1,hs1,es1⟩:=zSP (xs:=[1,5,60,two^5 % 10^40+1]) (i:=two % 4) jc (by show two % 4 < 4;lia)
 have s0p:0 < s0:=by simp at hs0;lia
 have t0p:0 < t0:=by simp at ht0;lia
 have s1p:0 < s1:=by
   have:0<=two^5 % 10^40:=Tl _ jb
   simp at hs1
   lia
 have c6:zVY one 6=true:=by
   unfold zVY
   rw[Qc jb,Qc jb,Qc jc];rfl
 have c5:zVY two 5=true:=by
   unfold zVY
   rw[Qc jb,Qc jb,Qc jc];rfl
 obtain⟨w,hw',ew⟩:=fM (xs:=ws) (i:=thr % 12) jc (by rw[hw];show thr % 12 < 14;lia)
 have mid:∃s f:Int,0 < s/\sIf (eB2 gEq (eIx (eV 0) jq) jp) (zG (zA 6 (yW (dX (eV 3) (eC (.int 6))) (dX (eC (.int 10)) (eC (.int 54)))))
     (zA 5 (eIx (eL (wL (zY jp (zY ju (zY (eC (.int 60)) (zY (xG (yW (dX (eV 4) ju) (dX (eC (.int 10)) (eC (.int 40)))) jp) zP)))))) (yW (eV 4) jt)))) wA
     [.fz (.tup [.lst (ws.map .str),.int a,.int b]),.fz (.int c),.fz (.int k),.fz (.int one),.fz (.int two),.fz (.int s0),.fz (.int (one % t0)),.no]
     = some (.nx [.fz (.tup [.lst (ws.map .str),.int a,.int b]),.fz (.int c),.fz (.int k),.fz (.int one),.fz (.int two),.fz (.int s),.fz (.int f),.no]):=by
   by_cases hb:b=1
   · refine⟨s1,one^6 % 10^54,s1p,(tG (b:=true) ?_).trans ?_⟩
     · rw[zXY (x:=b) rfl,Qc hb]
     · rw[Qu rfl]
       rw[zZu (d:=.int (one^6 % 10^54)) (zJ (bK rfl rfl c6) (bK (i:=10) (j:=54) rfl rfl jb) jb)]
       unfold zA
       have:=wS (ρ:=[.fz (.tup [.lst (ws.map .str),.int a,.int b]),.fz (.int c),.fz (.int k),.fz (.int one),.fz (.int two),.fz (.int s0),.fz (.int (one^6 % 10^54)),.no]) (fa:=eL (wL (zY jp (zY ju (zY (eC (.int 60)) (zY (xG (yW (dX (eV 4) ju) (dX (eC (.int 10)) (eC (.int 40)))) jp) zP)))))) (fb:=yW (eV 4) jt)
         (wC (uT (zQ rfl (zQ rfl (zQ rfl (zQ (zJ (zJ (bK rfl rfl c5) (bK (i:=10) (j:=40) rfl rfl jb) jb) rfl rfl) rfl)))) je)) (zJ rfl rfl rfl)
       exact(Eo (Option.map _) (this.trans es1)).trans rfl
   · refine⟨s0,one % t0,s0p,(tG (b:=false) ?_).trans rfl⟩
     rw[zXY (x:=b) rfl,We hb]
 obtain⟨s,f,sp,emid⟩:=mid
 have cm:jN (two / 4) (48611^8)=true:=nL jc jc
 refine⟨⟨f,f+two / 4*48611^8 % s,w⟩,?_⟩
 show(sN [.fz (.tup [.lst (ws.map .str),.int a,.int b]),.fz (.int c),.fz (.int k),.no,.no,.no,.no,.no]).bind vW=_
 unfold sN
 refine yK (d:=.int one) ((wB rfl (zJ (zJ rfl rfl ck) rfl rfl)).trans m1) ?_
 unfold oU
 refine yK (d:=.int two) ((wB rfl (zJ (zJ rfl rfl ck) rfl rfl)).trans m2) ?_
 unfold oM
 refine yK (d:=.int s0) ((wS (wC (uT (zQ rfl (zQ rfl (zQ rfl (zQ rfl rfl)))) je)) (zJ rfl rfl rfl)).trans es0) ?_
 unfold oH
 refine yK (d:=.int (one % t0)) (zJ rfl ((wS (wC (uT (zQ rfl (zQ rfl (zQ rfl rfl))) je)) rfl).trans et0) (Qc t0p)) ?_
 unfold oJ
 refine yB emid ?_
 unfold oN
 refine yK (d:=.int (f+two / 4*48611^8 % s)) (zJ rfl (zJ (zJ (zJ rfl rfl rfl) (bK (i:=48611) (j:=8) rfl rfl jb) cm) rfl (Qc sp)) rfl) ?_
 unfold jG
 rw[tS]
 refine qZ (zQ rfl (zQ rfl (zQ ?_ rfl))) je
 refine(wS (x:=.lst (ws.map .str)) (y:=.int (thr % 12)) rfl (zJ ((wB rfl (zJ (zJ rfl rfl ck) rfl rfl)).trans m3) rfl rfl)).trans ?_
 show atI (ws.map D.str) (thr % 12)=_
 rw[kJ,ew];rfl
def ktD (qs:List Et):D:=.dct (qs.map fun q=>isK (kE q)) (qs.map fun q=>.int q.l)
theorem zXQ {p q:Int×Str}(h:isK p=isK q):p=q:=by
 obtain⟨a,b⟩:=p
 obtain⟨c,d⟩:=q
 unfold isK at h
 injection h with h1 h2
 injection h2 with h2
 cases h1;cases h2;rfl
theorem iH:∀ {qs:List Et} {e:Et},e∈qs->(qs.map kE).Nodup->pU (qs.map fun q=>isK (kE q)) (qs.map fun q=>.int q.l) (isK (kE e))=some (.int e.l)
 | [],_,h,_=>by cases h
 | a::r,e,h,nd=>by
   rw[Qz,Ru] at nd
   unfold pU
   rw[Qz,Qz,En,Ex]
   by_cases q:isK (kE a)=isK (kE e)
   · have ea:a=e:=by
       rcases Qa.mp h with z | z
       · exact z.symm
       · exact absurd (by rw[zXQ q];exact Il z) nd.1
     subst ea
     simp
   · have hr:e∈r:=by
       rcases Qa.mp h with z | z
       · exact absurd (by rw[z]) q
       · exact z
     have ih:=iH hr nd.2
     unfold pU at ih
     simp only[q,Og]
     exact ih
theorem zXB:∀ {qs:List Et} {p:Int×Str},(∀q∈qs,kE q≠p)->pU (qs.map fun q=>isK (kE q)) (qs.map fun q=>.int q.l) (isK p)=none
 | [],_,_=>rfl
 | a::r,p,h=>by
   unfold pU
   rw[Qz,Qz,En,Ex]
   have q:¬isK (kE a)=isK p:=fun z=>h a Qv (zXQ z)
   have ih:=zXB (qs:=r) fun q hq=>h q (Qk _ hq)
   unfold pU at ih
   simp only[q,Og]
   exact ih
structure Kp (es qs:List Et):Prop where
 pm:es.Perm qs
 up:Srt es
theorem Kp.nd {es qs:List Et}(h:Kp es qs):(qs.map kE).Nodup:=(h.pm.map kE).nodup_iff.mp h.up.nd
theorem bN {es qs:List Et}(h:Kp es qs)(hl:qs.length<=1000):uG [ktD qs]=some (.lst (es.map dE)):=by
 have hk:mO (qs.map kE)=es.map kE:=fZ ((zWK _).trans (h.pm.map kE).symm) (jF _) h.up.up
 have src:zXP (eV 0) [.fz (ktD qs)]=some (es.map fun e=>dIS (kE e)):=by
   show(dF (qs.map fun q=>isK (kE q))).bind _=_
   have e:(qs.map fun q=>isK (kE q))=(qs.map kE).map isK:=by rw[Rx];rfl
   rw[e,zYP,Qw,Qu (by rw[Qi];lia),hk,Rx]
   rfl
 show(lA [.fz (ktD qs)]).bind vW=_
 unfold lA
 rw[tS]
 refine wC ?_
 unfold xL
 rw[src,Qw,rS (by rw[Qi,h.pm.length_eq];lia),Qw]
 have key:∀(l:List Et) (x0 x1:B) (j7:List D),(∀e∈l,e∈qs)->rU (gT (zF (gN 0) (zF (gN 1) vZ))) tOK (xH (zY (eV 0) (zY (fS (eV 2) (xH (zY (eV 0) (zY (eV 1) zP)))) (zY (eV 1) zP)))) (l.map fun e=>dIS (kE e)) [x0,x1,.fz (ktD qs)] j7=some (j7++l.map dE):=by
   intro l
   induction l with
   | nil=>intro x0 x1 j7 _;simp[rU]
   | cons e r ih =>
     intro x0 x1 j7 hh
     rw[Qz]
     unfold rU
     have e1:gT (zF (gN 0) (zF (gN 1) vZ)) (dIS (kE e)) [x0,x1,.fz (ktD qs)]=some [.fz (.int e.f),.fz (.str e.z),.fz (ktD qs)]:=rfl
     have e2:tOK [.fz (.int e.f),.fz (.str e.z),.fz (ktD qs)]=some true:=rfl
     have e3:xH (zY (eV 0) (zY (fS (eV 2) (xH (zY (eV 0) (zY (eV 1) zP)))) (zY (eV 1) zP))) [.fz (.int e.f),.fz (.str e.z),.fz (ktD qs)]=some (dE e):=by
       refine qZ (zQ rfl (zQ (d:=.int e.l) ?_ (zQ rfl rfl))) je
       exact iH (hh e Qv) h.nd
     rw[e1,Qw,e2,Qw,Qu rfl,e3,Qw,ih _ _ _ fun q hq=>hh q (Qk _ hq)]
     simp
 exact key es .no .no [] fun e he=>h.pm.subset he
def rO (e:Et):D:=.tup [.str "put",dE e]
def vX (e:Et):D:=.tup [.str "take",dE e]
theorem orT {t u:Tf}{ρ:List B}{a b:Bool}(h1:t ρ=some a)(h2:u ρ=some b):kQ t u ρ=some (a||b):=by unfold kQ;rw[h1];cases a<;>simp[h2]
theorem zPq {f:Ef}{ρ:List B}{x k:Int}(h:f ρ=some (.int x)):eB2 gLt f (eC (.int k)) ρ=some (decide (x < k)):=by unfold eB2;rw[h];rfl
theorem zQl {fa fb:Ef}{ρ:List B}{i j:Int}(h1:fa ρ=some (.int i))(h2:fb ρ=some (.int j)):zT8 fa fb ρ=some (.int (if j < i then j else i)):=by unfold zT8;rw[h1,h2];rfl
theorem zPw {f:Ef}{ρ:List B}{m:Int}(h:f ρ=some (.int m))(h0:0<=m)(h1:m<=1000000):iR f ρ=some (rQ 0 m.toNat):=by
 unfold iR
 rw[h,Qw]
 show(if decide (-1000000<=m)&&decide (m<=1000000) then some (rQ 0 m.toNat) else none)=_
 rw[Qc jc,Qc h1];rfl
theorem zOH {f elt:Ef}{ρ rest:List B}{js:List Nat}{m:Int}{α:Type}{g:α->D}{Q:α->Prop}(h:f ρ=some (.int m))(h0:0<=m)(h1:m<=100000)(hr:upB 1 js ρ = .no::rest)(he:∀i:Nat,(i:Int) < m->∃a,elt (.fz (.int (0+(i:Int)))::rest)=some (g a)/\Q a) :
   ∃l:List α,xL (iR f) 1 js (gN 0) tOK elt ρ=some (l.map g)/\(l.length:Int)=m/\∀a∈l,Q a:=by
 obtain⟨as,e,el,hq⟩:=zXU (α:=α) (elt:=elt) (f:=g) (Q:=Q) (rest:=rest) (rQ 0 m.toNat) .no [] fun d hd=>by
   obtain⟨i,hi,rfl⟩:=aA hd
   exact he i jc
 rw[kL] at el
 rw[Tj] at e
 refine⟨as,?_,jc,hq⟩
 unfold xL
 rw[zPw h h0 jc,Qw,rS (by rw[kL];lia),Qw,hr]
 exact e
theorem zRu {ws:List Str}{a b:Int}(c:Int)(hw:ws.length=14)(a0:0<=a)(a1:a < 3){es qs:List Et}(h:Kp es qs)(hl:qs.length<=1000) :
   ∃l:List Et,(vV [.tup [.lst (ws.map .str),.int a,.int b],.int c,ktD qs]=some (.lst (l.map rO))/\l.length<=5) ∨
     (vV [.tup [.lst (ws.map .str),.int a,.int b],.int c,ktD qs]=some (.lst (l.map vX))/\l.Nodup/\∀e∈l,e∈qs):=by
 have m0:=tM c 0 jb jb
 generalize dY c 0=m at m0
 have j5:=h.pm.length_eq
 have many:1<=1+m / 8 % 5/\1+m / 8 % 5<=5:=jc
 have hmany:xG jp (yW (uW (eV 3) jx) ju) [.fz (.tup [.lst (ws.map .str),.int a,.int b]),.fz (.int c),.fz (ktD qs),.fz (.int m),.no,.no,.no]=some (.int (1+m / 8 % 5)):=zJ rfl (zJ (zJ rfl rfl rfl) rfl rfl) rfl
 generalize 1+m / 8 % 5=y at many hmany
 generalize hpl:D.tup [.lst (ws.map .str),.int a,.int b]=pl at hmany
 have ht:kQ (eB2 gLt (yW (eV 3) jx) ju) (eB2 gEq (zUr (eV 2)) jo) [.fz pl,.fz (.int c),.fz (ktD qs),.fz (.int m),.fz (.int y),.no,.no]=some (decide (m % 8 < 5)||decide (qs.length=0)):=by
   refine orT (zPq (zJ rfl rfl rfl)) ?_
   show some (decide (((qs.map fun q=>isK (kE q)).length:Int)=0))=_
   rw[Qi]
   congr 1
   by_cases q:qs.length=0
   · rw[Qc q,Qc jc]
   · rw[We q,We jc]
 have xE:∀r,(uV [.fz pl,.fz (.int c),.fz (ktD qs),.fz (.int m),.fz (.int y),.no,.no]).bind vW=r->vV [pl,.int c,ktD qs]=r:=fun r hr=>by
   show(sP [.fz pl,.fz (.int c),.fz (ktD qs),.no,.no,.no,.no]).bind vW=_
   unfold sP
   refine yK (d:=.int m) ((wB rfl rfl).trans m0) ?_
   unfold oZ
   exact yK (d:=.int y) hmany hr
 cases hb:decide (m % 8 < 5)||decide (qs.length=0) with
 | true =>
   rw[hb] at ht
   obtain⟨l,el,ll,_⟩:=zOH (α:=Et) (f:=eV 4) (elt:=xH (zY (eC (.str "put")) (zY (zI 3 pL (zY (eV 1) (zY (eV 2) (zY (eV 0) zP)))) zP))) (ρ:=[.fz pl,.fz (.int c),.fz (ktD qs),.fz (.int m),.fz (.int y),.no,.no]) (rest:=[.fz pl,.fz (.int c)]) (js:=[0,1]) (m:=y) (g:=rO) (Q:=fun _=>True) rfl jc jc rfl fun i hi=>by
     obtain⟨e,he⟩:=zRl ws a b c (0+(i:Int)) hw a0 a1 jc jc
     rw[hpl] at he
     exact⟨e,qZ (zQ rfl (zQ ((oC rfl rfl rfl).trans he) rfl)) je,trivial⟩
   refine⟨l,.inl ⟨xE _ ?_,jc⟩⟩
   unfold uV
   exact iV ht (wC el)
 | false =>
   rw[hb] at ht
   have hq:0 < qs.length:=by
     rw[Bool.or_eq_false_iff,decide_eq_false_iff_not,decide_eq_false_iff_not] at hb
     lia
   obtain⟨x,hx,ex⟩:=zSP (xs:=[y,3*y,30]) (i:=m / 40 % 3) jc (by show m / 40 % 3 < 3;lia)
   have hxp:0<=x:=by simp at hx;lia
   have hidx:(m / 120 % ((es.map dE).length:Int)) < (es.length:Int):=by
     rw[Qi]
     exact Ow _ jc
   have hidx0:0<=(m / 120 % ((es.map dE).length:Int)):=Tl _ (by rw[Qi];lia)
   have hc3:jN 3 y=true:=nL jc jc
   have hat:yW (uW (eV 3) (eC (.int 120))) (wJ (eV 5)) [.fz pl,.fz (.int c),.fz (ktD qs),.fz (.int m),.fz (.int (if x < (es.map dE).length then x else(es.map dE).length)),.fz (.lst (es.map dE)),.no]=some (.int (m / 120 % ((es.map dE).length:Int))):=zJ (zJ rfl rfl rfl) rfl (Qc (by rw[Qi];lia))
   generalize m / 120 % ((es.map dE).length:Int)=p at hidx hidx0 hat
   have hminl:(if x < ((es.map dE).length:Int) then x else((es.map dE).length:Int))<=(es.length:Int)/\0<=(if x < ((es.map dE).length:Int) then x else((es.map dE).length:Int)):=by
     rw[Qi];split<;>lia
   have hmin:zT8 (wJ (eV 5)) (eIx (eL (wL (zY (eV 4) (zY (jO jr (eV 4)) (zY (eC (.int 30)) zP))))) (yW (uW (eV 3) (eC (.int 40))) jr)) [.fz pl,.fz (.int c),.fz (ktD qs),.fz (.int m),.fz (.int y),.fz (.lst (es.map dE)),.no]=some (.int (if x < ((es.map dE).length:Int) then x else((es.map dE).length:Int))) :=
     zQl rfl ((wS (wC (uT (zQ rfl (zQ (zJ rfl rfl hc3) (zQ rfl rfl))) je)) (zJ (zJ rfl rfl rfl) rfl rfl)).trans ex)
   generalize(if x < ((es.map dE).length:Int) then x else((es.map dE).length:Int))=r at hminl hmin hat
   let ix:Nat->Nat:=fun i=>((p+(0+(i:Int))) % (es.length:Int)).toNat
   have hix:∀i:Nat,ix i < es.length:=fun i=>by
     have h1:=Ow (p+(0+(i:Int))) (show(0:Int) < es.length by lia)
     have h2:=Tl (p+(0+(i:Int))) (show(es.length:Int)≠0 by lia)
     show((p+(0+(i:Int))) % (es.length:Int)).toNat < es.length
     lia
   let g:Nat->Et:=fun i=>es.getD (ix i) zE
   have hel:∀i:Nat,(i:Int) < r->xH (zY (eC (.str "take")) (zY (eIx (eV 1) (yW (xG (eV 2) (eV 0)) (wJ (eV 1)))) zP)) [.fz (.int (0+(i:Int))),.fz (.lst (es.map dE)),.fz (.int p)]=some (vX (g i)):=fun i _=>by
     refine qZ (zQ rfl (zQ ?_ rfl)) je
     have h2:=Tl (p+(0+(i:Int))) (show(es.length:Int)≠0 by lia)
     refine(wS (x:=.lst (es.map dE)) (y:=.int ((ix i:Nat):Int)) rfl ((zJ rfl rfl (Qc (by rw[Qi];lia))).trans ?_)).trans (zYr dE (d:=zE) (hix i))
     show some (D.int ((p+(0+(i:Int))) % ((es.map dE).length:Int)))=_
     rw[Qi]
     congr 2
     show _=(((p+(0+(i:Int))) % (es.length:Int)).toNat:Int)
     lia
   have hmap:rU (gN 0) tOK (xH (zY (eC (.str "take")) (zY (eIx (eV 1) (yW (xG (eV 2) (eV 0)) (wJ (eV 1)))) zP))) (rQ 0 r.toNat) [.no,.fz (.lst (es.map dE)),.fz (.int p)] []=some (((List.range r.toNat).map g).map vX):=by
     have:=zYh (elt:=xH (zY (eC (.str "take")) (zY (eIx (eV 1) (yW (xG (eV 2) (eV 0)) (wJ (eV 1)))) zP))) (f:=fun i:Nat=>D.int (0+(i:Int))) (h:=fun i=>vX (g i)) (rest:=[.fz (.lst (es.map dE)),.fz (.int p)]) (List.range r.toNat) .no [] fun i hi=>hel i (by have:=Po.mp hi;lia)
     rw[Rx]
     exact this
   refine⟨(List.range r.toNat).map g,.inr ⟨xE _ ?_,?_,?_⟩⟩
   · unfold uV
     refine fF ht ?_
     unfold oQ
     refine yK (d:=.lst (es.map dE)) ((pI rfl).trans (bN h hl)) ?_
     unfold oR
     refine yK hmin ?_
     unfold oI
     refine yK (d:=.int p) hat ?_
     unfold jL
     rw[tS]
     refine wC ?_
     unfold xL
     rw[zPw (m:=r) rfl jc jc,Qw,rS (by rw[kL];lia),Qw]
     exact hmap
   · have gi:∀i j,i < r.toNat->j < r.toNat->i < j->g i≠g j:=fun i j hi hj hij z=>by
       have nde:es.Nodup:=(Rr.mp h.up.nd).imp fun hne e=>hne (by rw[e])
       have hz:es[ix i]'(hix i)=es[ix j]'(hix j):=by
         have e1:g i=es[ix i]'(hix i):=by show es.getD (ix i) zE=_;simp[hix i]
         have e2:g j=es[ix j]'(hix j):=by show es.getD (ix j) zE=_;simp[hix j]
         rw[←e1,←e2];exact z
       have he:ix i=ix j:=by
         rcases Nat.lt_trichotomy (ix i) (ix j) with q | q | q
         · exact absurd hz (Rh.mp nde _ _ (hix i) (hix j) q)
         · exact q
         · exact absurd hz.symm (Rh.mp nde _ _ (hix j) (hix i) q)
       have hz:(p+(0+(i:Int))) % (es.length:Int)=(p+(0+(j:Int))) % (es.length:Int):=by
         have h1:=Tl (p+(0+(i:Int))) (show(es.length:Int)≠0 by lia)
         have h2:=Tl (p+(0+(j:Int))) (show(es.length:Int)≠0 by lia)
         have he:((p+(0+(i:Int))) % (es.length:Int)).toNat=((p+(0+(j:Int))) % (es.length:Int)).toNat:=he
         lia
       have h1:((p+(0+(j:Int))) - (p+(0+(i:Int)))) % (es.length:Int)=0:=Int.emod_eq_emod_iff_emod_sub_eq_zero.mp hz.symm
       rw[Int.emod_eq_of_lt jc jc] at h1
       lia
     refine Rr.mpr ?_
     rw[Rh]
     intro i j hi hj hij
     rw[List.getElem_range,List.getElem_range]
     rw[Ry] at hi hj
     exact gi i j hi hj hij
   · intro e he
     obtain⟨i,_,rfl⟩:=Yg.mp he
     refine h.pm.subset ?_
     show es.getD (ix i) zE∈es
     have e1:es.getD (ix i) zE=es[ix i]'(hix i):=by simp[hix i]
     rw[e1]
     exact Tn _
section
variable {n:Nat} (hn:4<=n) (h12:n<=300)
include hn h12
theorem zR3 {h:Nat}{xs:List (It h)}{qs:List Et}(H:RtOk n h xs)(hK:Kp (zS h xs) qs)(hl:qs.length < 500)(e:Et)(hk:∀q∈qs,kE q≠kE e):∃h' xs',RtOk n h' xs'/\Kp (zS h' xs') (qs++[e])/\vP (stD n ⟨h,xs⟩) [rO e]=some (stD n ⟨h',xs'⟩):=by
 obtain⟨h',xs',H',pm,eq⟩:=zYU hn h12 H e (fun a ha=>hk a (hK.pm.subset ha)) (by rw[hK.pm.length_eq];exact hl)
 refine⟨h',xs',H',⟨pm.trans ((hK.pm.cons e).trans (Eg (l₁:=[e]))),H'.srt⟩,?_⟩
 show iK (vO [.mu (stD n ⟨h,xs⟩),.fz (rO e)])=_
 have q:vO [.mu (stD n ⟨h,xs⟩),.fz (rO e)]=some (.nx [.mu (stD n ⟨h',xs'⟩),.fz (rO e)]):=by
   unfold vO sIf
   rw[show eB2 gEq (eIx (eV 1) jo) (eC (.str "put")) [.mu (stD n ⟨h,xs⟩),.fz (rO e)]=some true from jf,Qw,Qu rfl]
   unfold tU
   show(if ("Store":Str)="Store"/\([dE e]:List D).length=1/\("put":Str)∉stN/\xJ 0 1 [.mu (stD n ⟨h,xs⟩),.fz (rO e)]=true then(tI stN [.int (n:Int),rtD ⟨h,xs⟩] [dE e]).map _ else none)=_
   rw[Qu ⟨rfl,rfl,ja,rfl⟩,eq]
   rfl
 rw[q]
 rfl
theorem zTH {h:Nat}{xs:List (It h)}{qs:List Et}(H:RtOk n h xs)(hK:Kp (zS h xs) qs)(hl:qs.length < 500)(e:Et)(he:e∈qs):∃h' xs',RtOk n h' xs'/\Kp (zS h' xs') (qs.filter fun a => !z8 a e)/\vP (stD n ⟨h,xs⟩) [vX e]=some (stD n ⟨h',xs'⟩):=by
 obtain⟨h',xs',H',pm,eq⟩:=gZ hn h12 H e (hK.pm.symm.subset he) (by rw[hK.pm.length_eq];exact hl)
 refine⟨h',xs',H',⟨by rw[pm];exact hK.pm.filter _,H'.srt⟩,?_⟩
 show iK (vO [.mu (stD n ⟨h,xs⟩),.fz (vX e)])=_
 have q:vO [.mu (stD n ⟨h,xs⟩),.fz (vX e)]=some (.nx [.mu (stD n ⟨h',xs'⟩),.fz (vX e)]):=by
   unfold vO sIf
   rw[show eB2 gEq (eIx (eV 1) jo) (eC (.str "put")) [.mu (stD n ⟨h,xs⟩),.fz (vX e)]=some false from jf,Qw,Qs jb]
   unfold tU
   show(if ("Store":Str)="Store"/\([dE e]:List D).length=1/\("take":Str)∉stN/\xJ 0 1 [.mu (stD n ⟨h,xs⟩),.fz (vX e)]=true then(xQ stN [.int (n:Int),rtD ⟨h,xs⟩] [dE e]).map _ else none)=_
   rw[Qu ⟨rfl,rfl,ja,rfl⟩,eq]
   rfl
 rw[q]
 rfl
end
theorem jW {l:List Et}{e:Et}(he:e∈l)(nd:(l.map kE).Nodup):∀q∈l,(!z8 q e)=decide (isK (kE q)≠isK (kE e)):=by
 intro q hq
 by_cases h:q=e
 · subst h;rw[xY.mpr rfl];simp
 · have h1:z8 q e=false:=by cases z:z8 q e;rfl;exact absurd (xY.mp z) h
   have h2:isK (kE q)≠isK (kE e):=fun z=>by
     have z:=zXQ z
     clear h1
     induction l with
     | nil=>cases he
     | cons a r ih =>
       rw[Qz,Ru] at nd
       rcases Qa.mp he with rfl | he'<;>rcases Qa.mp hq with rfl | hq'
       · exact h rfl
       · exact nd.1 (by rw[←z];exact Il hq')
       · exact nd.1 (by rw[z];exact Il he')
       · exact ih he' nd.2 hq'
   rw[h1,Qc h2];rfl
theorem zYB {p:Et->Bool}{k:List Key}:∀ {qs:List Et},(∀q∈qs,p q=decide (isK (kE q)≠k))->((qs.map fun q=>isK (kE q)).filter fun x=>decide (x≠k))=(qs.filter p).map fun q=>isK (kE q)
 | [],_=>rfl
 | a::r,h=>by
   rw[Qz,Ew,Ew,←h a Qv,zYB fun q hq=>h q (Qk _ hq)]
   cases p a<;>rfl
theorem zYb {p:Et->Bool}{k:List Key}:∀ {qs:List Et},(∀q∈qs,p q=decide (isK (kE q)≠k))->dL (qs.map fun q=>isK (kE q)) (qs.map fun q=>.int q.l) k=(qs.filter p).map fun q=>.int q.l
 | [],_=>rfl
 | a::r,h=>by
   have ih:=zYb (qs:=r) fun q hq=>h q (Qk _ hq)
   unfold dL at ih ⊢
   rw[Qz,Qz,En,Ew,Ew]
   show(if decide (isK (kE a)≠k)=true then _ else _:List _).map _=_
   rw[←h a Qv]
   cases p a with
   | true=>rw[Qu rfl,Qu rfl,Qz,Qz,ih]
   | false=>rw[Qs jb,Qs jb,ih]
theorem zRe {qs:List Et}(e:Et)(hk:∀q∈qs,kE q≠kE e)(hl:qs.length<=1000):uK (ktD qs) [rO e]=some (ktD (qs++[e])):=by
 show iK (vL [.mu (ktD qs),.fz (rO e),.no,.no,.no])=_
 have q:vL [.mu (ktD qs),.fz (rO e),.no,.no,.no]=some (.nx [.mu (ktD (qs++[e])),.fz (rO e),.fz (.int e.f),.fz (.int e.l),.fz (.str e.z)]):=by
   unfold vL
   rw[uR (ρ':=[.mu (ktD qs),.fz (rO e),.fz (.int e.f),.fz (.int e.l),.fz (.str e.z)]) rfl]
   unfold sIf
   rw[show eB2 gEq (eIx (eV 1) jo) (eC (.str "put")) [.mu (ktD qs),.fz (rO e),.fz (.int e.f),.fz (.int e.l),.fz (.str e.z)]=some true from jf,Qw,Qu rfl]
   refine Eq.trans (b:=if (qs.map fun q=>isK (kE q)).length<=lim/\xJ 0 2 [.mu (ktD qs),.fz (rO e),.fz (.int e.f),.fz (.int e.l),.fz (.str e.z)]=true/\(pU (qs.map fun q=>isK (kE q)) (qs.map fun q=>.int q.l) (isK (kE e))).isSome=false then some (.nx [.mu (.dct ((qs.map fun q=>isK (kE q))++[isK (kE e)]) ((qs.map fun q=>.int q.l)++[.int e.l])),.fz (rO e),.fz (.int e.f),.fz (.int e.l),.fz (.str e.z)]) else none) rfl ?_
   rw[Qu ⟨by rw[Qi];show qs.length<=100000;lia,rfl,by rw[zXB hk];rfl⟩]
   unfold ktD
   rw[Tk,Tk]
   rfl
 rw[q]
 rfl
theorem zT4 {qs:List Et}(e:Et)(he:e∈qs)(nd:(qs.map kE).Nodup):uK (ktD qs) [vX e]=some (ktD (qs.filter fun a => !z8 a e)):=by
 show iK (vL [.mu (ktD qs),.fz (vX e),.no,.no,.no])=_
 have q:vL [.mu (ktD qs),.fz (vX e),.no,.no,.no]=some (.nx [.mu (ktD (qs.filter fun a => !z8 a e)),.fz (vX e),.fz (.int e.f),.fz (.int e.l),.fz (.str e.z)]):=by
   unfold vL
   rw[uR (ρ':=[.mu (ktD qs),.fz (vX e),.fz (.int e.f),.fz (.int e.l),.fz (.str e.z)]) rfl]
   unfold sIf
   rw[show eB2 gEq (eIx (eV 1) jo) (eC (.str "put")) [.mu (ktD qs),.fz (vX e),.fz (.int e.f),.fz (.int e.l),.fz (.str e.z)]=some false from jf,Qw,Qs jb]
   unfold lS
   have hkey:xH (zY (eV 2) (zY (eV 4) zP)) [.mu (ktD qs),.fz (vX e),.fz (.int e.f),.fz (.int e.l),.fz (.str e.z)]=some (.tup [.int e.f,.str e.z]):=rfl
   rw[hkey,Qw]
   have hk2:zVu (.tup [.int e.f,.str e.z])=some (isK (kE e)):=rfl
   rw[hk2,Qw]
   show(if xJ 0 2 [.mu (ktD qs),.fz (vX e),.fz (.int e.f),.fz (.int e.l),.fz (.str e.z)]=true/\(pU (qs.map fun q=>isK (kE q)) (qs.map fun q=>.int q.l) (isK (kE e))).isSome=true then _ else none)=_
   rw[Qu ⟨rfl,by rw[iH he nd];rfl⟩]
   rw[zYB (p:=fun a => !z8 a e) (jW he nd),zYb (p:=fun a => !z8 a e) (jW he nd)]
   rfl
 rw[q]
 rfl
theorem zNN {f g:Sf}{ρ ρ':List B}{r:Option (List D)}(h:f ρ=some (.nx ρ'))(k:(g ρ').bind zWi=r):(zG f g ρ).bind zWi=r:=by rw[uR h];exact k
theorem zQf {t:Tf}{e:Lf}{g:Sf}{ρ:List B}{r:List D}(h:t ρ=some true)(k:e ρ=some r):(zG (sIf t (dA e) wA) g ρ).bind zWi=some r:=by
 unfold zG
 rw[tG h,Qu rfl]
 unfold dA
 rw[k]
 rfl
theorem zPS {e:Lf}{ρ:List B}:(dA e ρ).bind zWi=e ρ:=by unfold dA;cases e ρ<;>rfl
theorem zSr {f:List D->Option (List D)}{fa:Ef}{ρ:List B}{x:D}(h1:fa ρ=some x):cW 1 f (zY fa zP) ρ=f [x]:=by
 unfold cW
 rw[zQ h1 (show zP ρ=some [] from rfl),Qw,Qu (show [x].length=1 from rfl)]
theorem zWU {h:Nat}{pg:B}{self:List D->Option (List D)}:∀(xs:List (It (h+1))) (j7:List Et) (x2:B),(∀x∈xs,self [pgD h x]=some ((zS h x).map dE))->j7.length+(zS (h+1) xs).length<=100000 ->
   ∃y2,lL (gN 2) (vQ self) (xs.map (iD (h+1))) [pg,.ow (j7.map dE),x2]=some (.nx [pg,.ow ((j7++zS (h+1) xs).map dE),y2])
 | [],j7,x2,_,_=>⟨x2,by simp[lL]⟩
 | x::r,j7,x2,hx,hl=>by
   rw[wD,Qt] at hl
   have hx1:=hx x Qv
   obtain⟨y2,e2⟩:=zWU (pg:=pg) (self:=self) r (j7++zS h x) (.fz (iD (h+1) x)) (fun z hz=>hx z (Qk _ hz)) (by
     rw[Qt]
     have:(zS h x).length=(qF (h+1) x).length:=rfl
     lia)
   refine⟨y2,?_⟩
   rw[Qz,mH (ρ1:=[pg,.ow (j7.map dE),.fz (iD (h+1) x)]) (ρ2:=[pg,.ow ((j7++zS h x).map dE),.fz (iD (h+1) x)]) rfl ?_,e2,wD,Qm]
   · rfl
   · unfold vQ zXl
     have hq:cW 1 self (zY (eV 2) zP) [pg,.ow (j7.map dE),.fz (iD (h+1) x)]=some ((zS h x).map dE):=(zSr rfl).trans hx1
     rw[hq,Qw]
     show(if (j7.map dE).length+((zS h x).map dE).length<=lim then some (Out.nx [pg,.ow (j7.map dE++(zS h x).map dE),.fz (iD (h+1) x)]) else none)=_
     rw[Qu (by
       rw[Qi,Qi]
       have:(zS h x).length=(qF (h+1) x).length:=rfl
       show _<=100000
       lia),Tk]
theorem qJ {n:Nat}(hn:4<=n):∀(h:Nat) (xs:List (It h)) (k:Nat),Way n h xs->(zS h xs).length<=50000->h < k->yN k [pgD h xs]=some ((zS h xs).map dE)
 | 0,xs,k+1,H,_,_=>by
   show(yG (yN k) [.fz (pgD 0 xs),.no,.no]).bind zWi=_
   unfold yG
   refine zQf ?_ ?_
   · unfold tB1
     rw[wT (h:=0) (xs:=xs) rfl];rfl
   · rw[uL]
     unfold jX
     rw[yT (h:=0) (xs:=xs) rfl];rfl
 | h+1,xs,k+1,H,hl,hk=>by
   show(yG (yN k) [.fz (pgD (h+1) xs),.no,.no]).bind zWi=_
   unfold yG
   refine zNN (ρ':=[.fz (pgD (h+1) xs),.no,.no]) ((tG (b:=false) ?_).trans rfl) ?_
   · unfold tB1
     rw[wT (h:=h+1) (xs:=xs) rfl];rfl
   unfold vB
   refine zNN (ρ':=[.fz (pgD (h+1) xs),.ow [],.no]) rfl ?_
   unfold vA
   obtain⟨y2,e⟩:=zWU (pg:=.fz (pgD (h+1) xs)) (self:=yN k) xs [] .no (fun x hx=>by
     obtain⟨c1,c2,c3⟩:=xT (H.2.2 x hx)
     have hxl:(zS h x).length<=(zS (h+1) xs).length:=(qC (f:=qF (h+1)) hx).length_le
     exact qJ hn h x k ⟨c2,.inr jc,c3⟩ jc jc) (by simp only[Pq];lia)
   refine zNN (ρ':=[.fz (pgD (h+1) xs),.ow ((zS (h+1) xs).map dE),y2]) ?_ rfl
   unfold jQ
   rw[zZQ (yT (h:=h+1) (xs:=xs) rfl),Qw]
   exact e
theorem gW {n:Nat}(hn:4<=n){h:Nat}{xs:List (It h)}(H:RtOk n h xs)(hl:(zS h xs).length < 500):tY [stD n ⟨h,xs⟩]=some ((zS h xs).map dE):=by
 have hd:=H.deep hn jc
 show(sY [.fz (stD n ⟨h,xs⟩)]).bind zWi=_
 unfold sY
 rw[zPS]
 exact(zSr (zVG (n:=n) (r:=⟨h,xs⟩) rfl)).trans (qJ hn h xs 8 H.way jc jc)
theorem zNl {es:List Et}{i:Nat}(h:i < es.length):atD (.lst (es.map dE)) (.int (0+(i:Int)))=some (dE es[i]):=by
 show atI (es.map dE) (0+(i:Int))=_
 rw[lN _ _ .non jc (by rw[Qi];lia)]
 have:(0+(i:Int)).toNat=i:=jc
 rw[this]
 simp[h]
theorem aB (es:List Et)(hl:es.length<=1000):sS [.lst (es.map dE),.lst (es.map dE)]=some (.bl true):=by
 show(uS [.fz (.lst (es.map dE)),.fz (.lst (es.map dE)),.no,.no]).bind vW=_
 unfold uS
 refine fF ?_ ?_
 · have e1:eB2 jS (wJ (eV 0)) (wJ (eV 1)) [.fz (.lst (es.map dE)),.fz (.lst (es.map dE)),.no,.no]=some false:=by
     show some (!(((es.map dE).length:Int)==((es.map dE).length:Int)))=_
     simp
   show kQ (y8 (tB1 (zXz dG (eV 0)))) (eB2 jS (wJ (eV 0)) (wJ (eV 1))) [.fz (.lst (es.map dE)),.fz (.lst (es.map dE)),.no,.no]=_
   exact e1
 · unfold rM
   obtain⟨ρ',e,x2,x3,rfl⟩:=zW6 (g:=gN 2) (body:=wN) (P:=fun ρ=>∃x2 x3,ρ=[.fz (.lst (es.map dE)),.fz (.lst (es.map dE)),x2,x3]) (rQ 0 es.length) (fun d hd ρ hρ=>by
       obtain⟨i,hi,rfl⟩:=aA hd
       obtain⟨x2,x3,rfl⟩:=hρ
       refine⟨_,[.fz (.lst (es.map dE)),.fz (.lst (es.map dE)),.fz (.int (0+(i:Int))),.fz (dE es[i])],rfl,?_,_,_,rfl⟩
       show wN [.fz (.lst (es.map dE)),.fz (.lst (es.map dE)),.fz (.int (0+(i:Int))),x3]=_
       unfold wN
       rw[zZu (d:=dE es[i]) ((wS (x:=.lst (es.map dE)) (y:=.int (0+(i:Int))) rfl rfl).trans (zNl hi))]
       show vC [.fz (.lst (es.map dE)),.fz (.lst (es.map dE)),.fz (.int (0+(i:Int))),.fz (dE es[i])]=_
       unfold vC
       rw[uR (ρ':=[.fz (.lst (es.map dE)),.fz (.lst (es.map dE)),.fz (.int (0+(i:Int))),.fz (dE es[i])]) ((tG (b:=false) rfl).trans rfl)]
       unfold nV
       refine(tG (b:=false) ?_).trans rfl
       have q:eB2 jS (eV 3) (eIx (eV 1) (eV 2)) [.fz (.lst (es.map dE)),.fz (.lst (es.map dE)),.fz (.int (0+(i:Int))),.fz (dE es[i])]=some false:=by
         unfold eB2
         rw[(wS (x:=.lst (es.map dE)) (y:=.int (0+(i:Int))) rfl rfl).trans (zNl hi)]
         show jS (dE es[i]) (dE es[i])=_
         rw[zPE,xY.mpr rfl];rfl
       exact q) [.fz (.lst (es.map dE)),.fz (.lst (es.map dE)),.no,.no] ⟨_,_,rfl⟩
   refine yB (ρ':=[.fz (.lst (es.map dE)),.fz (.lst (es.map dE)),x2,x3]) ?_ rfl
   unfold jQ
   have src:iR (wJ (eV 1)) [.fz (.lst (es.map dE)),.fz (.lst (es.map dE)),.no,.no]=some (rQ 0 es.length):=by
     show(if decide (-1000000<=((es.map dE).length:Int))&&decide (((es.map dE).length:Int)<=1000000) then some (rQ 0 ((es.map dE).length:Int).toNat) else none)=_
     rw[Qi,Qc jc,Qc jc]
     rfl
   rw[src,Qw]
   exact e
theorem eB {f:D->D->Option Bool}:∀ {xs:List D},(∀x∈xs,f x x=some true)->zXR f xs xs=some true
 | [],_=>rfl
 | x::r,h=>by
   unfold zXR
   rw[h x Qv,eB fun y hy=>h y (Qk _ hy)];rfl
theorem cH {n:Nat}{xs:List D}(h:∀x∈xs,eqD n x x=some true):eqD (n+1) (.tup xs) (.tup xs)=some true:=by
 unfold eqD
 rw[eB h];simp
theorem zUe {n:Nat}{xs:List D}(h:∀x∈xs,eqD n x x=some true):eqD (n+1) (.lst xs) (.lst xs)=some true:=by
 unfold eqD
 rw[Qu rfl,eB h]
theorem zXT (n:Nat)(i:Int):eqD (n+1) (.int i) (.int i)=some true:=by
 show some (i==i)=_
 rw[Yh]
theorem zXW (n:Nat)(i:Str):eqD (n+1) (.str i) (.str i)=some true:=by
 show some (i==i)=_
 rw[Yh]
theorem zPg (n:Nat)(e:Et):eqD (n+2) (dE e) (dE e)=some true:=cH fun x hx=>by
 simp only[Qa,Ey,Yf] at hx
 rcases hx with rfl | rfl | rfl
 · exact zXT _ _
 · exact zXT _ _
 · exact zXW _ _
theorem zSI:∀(h:Nat) (xs:List (It h)) (n:Nat),3*h+4<=n->eqD n (shD h xs) (shD h xs)=some true
 | 0,xs,n+4,_=>cH fun x hx=>by
   simp only[Qa,Ey,Yf] at hx
   rcases hx with rfl | rfl
   · exact zXW _ _
   · refine zUe fun x hx=>?_
     obtain⟨e,_,rfl⟩:=Yg.mp hx
     exact zPg _ e
 | h+1,xs,n+4,hn=>cH fun x hx=>by
   simp only[Qa,Ey,Yf] at hx
   rcases hx with rfl | rfl
   · exact zXW _ _
   · refine zUe fun x hx=>?_
     obtain⟨y,_,rfl⟩:=Yg.mp hx
     refine cH fun z hz=>?_
     simp only[Qa,Ey,Yf] at hz
     have hn3:∃m,n=m+1:=⟨n - 1,jc⟩
     obtain⟨m,rfl⟩:=hn3
     rcases hz with rfl | rfl | rfl
     · exact zPg _ _
     · exact zXT _ _
     · exact zSI h y _ jc
def slB:Option D->B | none=>.no | some d=>.fz d
theorem zXe {i k:Nat}{ρ:List B}{d:D}(h:ρ[i]?=some (.mu d))(hk:vT d=k)(ho:xJ i k ρ=true):zZj i k ρ=some (ρ.set i (.fz d)):=by
 unfold zZj
 rw[h]
 exact Qu ⟨hk,ho⟩
theorem nR {i k:Nat}{ρ:List B}{d:D}{t:Tf}(h:ρ[i]?=some (.mu d))(hk:vT d=k)(ho:xJ i k ρ=true):tL i k t ρ=t (ρ.set i (.fz d)):=by
 unfold tL
 rw[zXe h hk ho];rfl
theorem kN {α:Type}{f:α->D}:∀(es:List α),(∀e∈es,qP (f e)=true)->nJ (es.map f)=true
 | [],_=>rfl
 | e::r,hf=>by
   show(qP (f e)&&nJ (r.map f))=true
   rw[kN r fun q hq=>hf q (Qk _ hq),hf e Qv];rfl
theorem rY {i k:Nat}{ρ:List B}{d r:D}{f:Ef}(h:ρ[i]?=some (.mu d))(hk:vT d=k)(ho:xJ i k ρ=true)(hf:f (ρ.set i (.fz d))=some r)(hr:qP r=true):vM i k f ρ=some r:=by
 unfold vM
 rw[zXe h hk ho,Qw,hf,Qw,Qu hr]
theorem zVS:∀(h:Nat) (xs:List (It h)),qP (shD h xs)=true
 | 0,xs=>by
   show(true&&(nJ (List.map dE xs)&&true))=true
   rw[kN xs fun _ _=>rfl];rfl
 | h+1,xs=>by
   show(true&&(nJ (List.map (fun x=>.tup [dE (yE (h+1) x),.int (most (h+1) x),shD h x]) xs)&&true))=true
   rw[kN xs fun x _=>by
     show(qP (dE (yE (h+1) x))&&(true&&(qP (shD h x)&&true)))=true
     rw[zVS h x];rfl]
   rfl
abbrev R2 (s t:B)(a2:D)(x3 x4 x5 x6 x7:Option D):List B:=[s,t,.fz a2,slB x3,slB x4,slB x5,slB x6,slB x7]
section
variable {s t:B} {a2:D} {x3 x4 x5 x6 x7:Option D}
theorem on0 (h:(0:Nat)=0):xJ 0 1 (R2 s t a2 x3 x4 x5 x6 x7)=true:=rfl
theorem on1 (h:(0:Nat)=0):xJ 1 2 (R2 s t a2 x3 x4 x5 x6 x7)=true:=rfl
end
theorem zSc {f:Sf}{g:Kf}{ρ ρ':List B}(h:f ρ=some (.nx ρ')):pT (kOf f) g ρ=g ρ':=by
 unfold pT kOf
 rw[h];rfl
theorem zMT {i:Nat}{f:Ef}{g:Kf}{ρ:List B}{d:D}(h:f ρ=some d):pT (kOf (zA i f)) g ρ=g (ρ.set i (.fz d)):=zSc (by unfold zA;rw[h];rfl)
theorem kif {t:Tf}{e:Ef}{g:Kf}{ρ:List B}(h:t ρ=some false):pT (kIf t (zVa e) zV5) g ρ=g ρ:=by
 unfold pT kIf
 rw[h];rfl
theorem zRN {m:Str}{f:List Str->List D->List D->Option (List D)}{g:Lf}{t:B}{a2 d:D}{x3 x4 x5 x6 x7:Option D}{n:Nat}{r r':Rt}(hm:m∉stN)(ht:(0:Nat)=0)(hg:g (R2 (.mu (stD n r)) t a2 x3 x4 x5 x6 x7)=some [d])(hf:f stN [.int (n:Int),rtD r] [d]=some [.int (n:Int),rtD r']) :
   tU 0 "Store" m 1 f g (R2 (.mu (stD n r)) t a2 x3 x4 x5 x6 x7)=some (.nx (R2 (.mu (stD n r')) t a2 x3 x4 x5 x6 x7)):=by
 unfold tU
 rw[hg,Qw]
 show(if ("Store":Str)="Store"/\([d]:List D).length=1/\m∉stN/\xJ 0 1 (R2 (.mu (stD n r)) t a2 x3 x4 x5 x6 x7)=true then(f stN [.int (n:Int),rtD r] [d]).map _ else none)=_
 rw[Qu ⟨rfl,rfl,hm,on0 ht⟩,hf]
 rfl
theorem zOW {m:Str}{d:List D->Option (List D)}{fa:Ef}{ρ:List B}{n:Nat}{r:Rt}(hm:m∉stN)(h:fa ρ=some (stD n r)):zYN "Store" m 1 d fa zP ρ=d [stD n r]:=by
 unfold zYN
 rw[h]
 show(if ("Store":Str)="Store"/\([]:List D).length+1=1/\m∉stN then d [stD n r] else none)=_
 rw[Qu ⟨rfl,rfl,hm⟩]
theorem zOX {m:Str}{d:jy}{fa:Ef}{ρ:List B}{n:Nat}{r:Rt}(hm:m∉stN)(h:fa ρ=some (stD n r)):zZz "Store" m 1 d fa zP ρ=d [stD n r]:=by
 unfold zZz
 rw[h]
 show(if ("Store":Str)="Store"/\([]:List D).length+1=1/\m∉stN then d [stD n r] else none)=_
 rw[Qu ⟨rfl,rfl,hm⟩]
theorem fA {n:Nat}(hn:4<=n)(h12:n<=300){h:Nat}{xs:List (It h)}(H:RtOk n h xs)(hl:(zS h xs).length < 500){e:Et}(he:e∉zS h xs):sT [stD n ⟨h,xs⟩,vX e]=some (.exc "NoEntry" [] []):=by
 have hd:=H.deep hn jc
 have hne:zVh (zNZ (jB h xs e)) (dE e)=some true:=by
   by_cases hb:∃b∈zS h xs,kE b=kE e
   · obtain⟨b,hb,hk⟩:=hb
     rw[H.like_some hn hb hk]
     show jS (dE b) (dE e)=_
     rw[zPE]
     cases q:z8 b e
     · rfl
     · rw[xY.mp q] at hb;exact absurd hb he
   · rw[H.like_none hn fun a ha z=>hb ⟨a,ha,z⟩]
     rfl
 have hx:rC [stD n ⟨h,xs⟩,dE e]=some ("NoEntry":Str):=by
   show sQ [.fz (stD n ⟨h,xs⟩),.fz (dE e)]=_
   unfold sQ xIf eB2
   rw[wB (zVG (n:=n) (r:=⟨h,xs⟩) rfl) rfl,show xU [rtD ⟨h,xs⟩,dE e]=_ from zXS hn jc e h xs H.way jc]
   show(zVh (zNZ (jB h xs e)) (dE e)).bind _=_
   rw[hne]
   rfl
 have hy:mS [stD n ⟨h,xs⟩,vX e]=some ("NoEntry":Str):=by
   show pJ [.fz (stD n ⟨h,xs⟩),.fz (vX e)]=_
   unfold pJ xIf
   rw[show eB2 gEq (eIx (eV 1) jo) (eC (.str "put")) [.fz (stD n ⟨h,xs⟩),.fz (vX e)]=some false from jf,Qw,Qs jb]
   refine Eq.trans (b:=if ("Store":Str)="Store"/\([dE e]:List D).length+1=2/\("take":Str)∉stN then rC [stD n ⟨h,xs⟩,dE e] else none) rfl ?_
   rw[Qu ⟨rfl,rfl,ja⟩,hx]
 show(uQ [.fz (stD n ⟨h,xs⟩),.fz (vX e),.no,.no]).bind vW=_
 unfold uQ
 refine yK (d:=.non) rfl ?_
 unfold rT
 refine yB (ρ':=[.fz (stD n ⟨h,xs⟩),.fz (vX e),.fz (.exc "NoEntry" [] []),.no]) ?_ rfl
 show zTo _ _ _ _ [.fz (stD n ⟨h,xs⟩),.fz (vX e),.fz .non,.no]=_
 have hq:zUz 2 mS (zY (eV 0) (zY (eV 1) zP)) [.fz (stD n ⟨h,xs⟩),.fz (vX e),.fz .non,.no]=some ("NoEntry":Str):=by
   unfold zUz
   rw[zQ (d:=stD n ⟨h,xs⟩) rfl (zQ (d:=vX e) rfl (show zP _=some [] from rfl)),Qw,Qu (show [stD n ⟨h,xs⟩,vX e].length=2 from rfl),hy]
 unfold zTo
 rw[hq,Qw,Qu ja]
 rfl
theorem zWm:fP [.exc "NoEntry" [] [],.str "entry"]=some (.bl true):=jf
theorem zQx {n:Nat}(hn:4<=n)(h12:n<=300){h:Nat}{xs:List (It h)}{qs:List Et}(H:RtOk n h xs)(K:Kp (zS h xs) qs)(hl:qs.length < 490)(e:Et)(x6 x7:Option D) :
   ∃h' xs' qs',RtOk n h' xs'/\Kp (zS h' xs') qs'/\qs'.length<=qs.length/\(∀q∈qs',kE q≠kE e) /\
     ∀g:Kf,pT (kIf (tL 1 2 (zY1 true (xH (zY (eV 3) (zY (eV 5) zP))) (eV 1))) (pT (kOf (tU 0 "Store" "take" 1 xQ (zY (vM 1 2 (xH (zY (eV 3) (zY (fS (eV 1) (xH (zY (eV 3) (zY (eV 5) zP)))) (zY (eV 5) zP))))) zP))) (kOf (lS 1 (xH (zY (eV 3) (zY (eV 5) zP)))))) zV5) g
       (R2 (.mu (stD n ⟨h,xs⟩)) (.mu (ktD qs)) (dE e) (some (.int e.f)) (some (.int e.l)) (some (.str e.z)) x6 x7)=g (R2 (.mu (stD n ⟨h',xs'⟩)) (.mu (ktD qs')) (dE e) (some (.int e.f)) (some (.int e.l)) (some (.str e.z)) x6 x7):=by
 have j5:=K.pm.length_eq
 have ht:tL 1 2 (zY1 true (xH (zY (eV 3) (zY (eV 5) zP))) (eV 1)) (R2 (.mu (stD n ⟨h,xs⟩)) (.mu (ktD qs)) (dE e) (some (.int e.f)) (some (.int e.l)) (some (.str e.z)) x6 x7)=some ((pU (qs.map fun q=>isK (kE q)) (qs.map fun q=>.int q.l) (isK (kE e))).isSome==true):=by
   rw[nR (k:=2) (d:=ktD qs) rfl rfl (on1 rfl)]
   rfl
 by_cases hb:∃b∈qs,kE b=kE e
 · obtain⟨b,hb,hk⟩:=hb
   rw[←hk,iH hb K.nd] at ht
   obtain⟨h1,xs1,H1,l1,t1⟩:=gZ hn h12 H b (K.pm.symm.subset hb) jc
   have hfl:=Rs (fun a:Et => !z8 a b) qs
   refine⟨h1,xs1,qs.filter fun a => !z8 a b,H1,⟨by rw[l1];exact K.pm.filter _,H1.srt⟩,hfl,fun q hq z=>?_,fun g=>?_⟩
   · obtain⟨q1,q2⟩:=Yq.mp hq
     have:=K.up.inj (K.pm.symm.subset q1) (K.pm.symm.subset hb) (z.trans hk.symm)
     rw[this,xY.mpr rfl] at q2
     cases q2
   · have a1:vM 1 2 (xH (zY (eV 3) (zY (fS (eV 1) (xH (zY (eV 3) (zY (eV 5) zP)))) (zY (eV 5) zP)))) (R2 (.mu (stD n ⟨h,xs⟩)) (.mu (ktD qs)) (dE e) (some (.int e.f)) (some (.int e.l)) (some (.str e.z)) x6 x7)=some (dE b):=by
       refine rY (k:=2) (d:=ktD qs) rfl rfl (on1 rfl) (Eq.trans (b:=some (.tup [.int e.f,.int b.l,.str e.z])) (qZ (zQ rfl (zQ (d:=.int b.l) ?_ (zQ rfl rfl))) je) ?_) rfl
       · refine Eq.trans (b:=pU (qs.map fun q=>isK (kE q)) (qs.map fun q=>.int q.l) (isK (kE e))) rfl ?_
         rw[←hk];exact iH hb K.nd
       · have e1:b.f=e.f:=Eo Prod.fst hk
         have e2:b.z=e.z:=Eo Prod.snd hk
         unfold dE
         rw[e1,e2]
     unfold pT kIf
     rw[ht]
     show((pT _ _ _).bind _)=_
     have k1:=zSc (g:=kOf (lS 1 (xH (zY (eV 3) (zY (eV 5) zP))))) (zRN (m:="take") (f:=xQ) (g:=zY (vM 1 2 (xH (zY (eV 3) (zY (fS (eV 1) (xH (zY (eV 3) (zY (eV 5) zP)))) (zY (eV 5) zP))))) zP) (t:=.mu (ktD qs)) (a2:=dE e) (x3:=some (.int e.f)) (x4:=some (.int e.l)) (x5:=some (.str e.z)) (x6:=x6) (x7:=x7) (d:=dE b) (r':=⟨h1,xs1⟩) ja rfl (zQ a1 rfl) t1)
     rw[k1]
     unfold kOf
     have p1:lS 1 (xH (zY (eV 3) (zY (eV 5) zP))) (R2 (.mu (stD n ⟨h1,xs1⟩)) (.mu (ktD qs)) (dE e) (some (.int e.f)) (some (.int e.l)) (some (.str e.z)) x6 x7)=some (.nx (R2 (.mu (stD n ⟨h1,xs1⟩)) (.mu (ktD (qs.filter fun a => !z8 a b))) (dE e) (some (.int e.f)) (some (.int e.l)) (some (.str e.z)) x6 x7)):=by
       unfold lS
       have hkey:xH (zY (eV 3) (zY (eV 5) zP)) (R2 (.mu (stD n ⟨h1,xs1⟩)) (.mu (ktD qs)) (dE e) (some (.int e.f)) (some (.int e.l)) (some (.str e.z)) x6 x7)=some (.tup [.int e.f,.str e.z]):=rfl
       rw[hkey,Qw]
       have hk2:zVu (.tup [.int e.f,.str e.z])=some (isK (kE e)):=rfl
       rw[hk2,Qw,←hk]
       show(if xJ 1 2 (R2 (.mu (stD n ⟨h1,xs1⟩)) (.mu (ktD qs)) (dE e) (some (.int e.f)) (some (.int e.l)) (some (.str e.z)) x6 x7)=true/\(pU (qs.map fun q=>isK (kE q)) (qs.map fun q=>.int q.l) (isK (kE b))).isSome=true then _ else none)=_
       rw[Qu ⟨on1 rfl,by rw[iH hb K.nd];rfl⟩]
       rw[zYB (p:=fun a => !z8 a b) (jW hb K.nd),zYb (p:=fun a => !z8 a b) (jW hb K.nd)]
       rfl
     rw[p1]
     rfl
 · have hk':∀q∈qs,kE q≠kE e:=fun q hq z=>hb ⟨q,hq,z⟩
   rw[zXB hk'] at ht
   refine⟨h,xs,qs,H,K,Qf _,hk',fun g=>?_⟩
   unfold pT kIf
   rw[ht]
   rfl
theorem zST {n:Nat}(hn:4<=n)(h12:n<=300){h:Nat}{xs:List (It h)}{qs:List Et}(H:RtOk n h xs)(K:Kp (zS h xs) qs)(hl:qs.length < 490)(e:Et)(he:e∉zS h xs) :
   ∃h' xs' qs',RtOk n h' xs'/\Kp (zS h' xs') qs'/\qs'.length<=qs.length/\xV (stD n ⟨h,xs⟩) (ktD qs) [dE e]=some (.bl true,stD n ⟨h',xs'⟩,ktD qs'):=by
 have j5:=K.pm.length_eq
 obtain⟨h1,xs1,qs1,H1,K1,q1,hk1,g1⟩:=zQx hn h12 H K hl e (some (.lst ((zS h xs).map dE))) (some (shD h xs))
 have hlen1:=K1.pm.length_eq
 have he1:e∉zS h1 xs1:=fun z=>hk1 e (K1.pm.subset z) rfl
 obtain⟨h2,xs2,H2,pm2,t2⟩:=zYU hn h12 H1 e (fun a ha=>hk1 a (K1.pm.subset ha)) jc
 have hlen2:(zS h2 xs2).length < 500:=by rw[pm2.length_eq,Qo];lia
 obtain⟨h3,xs3,H3,l3,t3⟩:=gZ hn h12 H2 e (pm2.symm.subset Qv) hlen2
 have keep:∀l:List Et,e∉l->l.filter (fun a => !z8 a e)=l:=fun l hl=>Uq.mpr fun a ha=>by
   cases q:z8 a e
   · rfl
   · rw[xY.mp q] at ha;exact absurd ha hl
 have K3:Kp (zS h3 xs3) qs1:=by
   refine⟨?_,H3.srt⟩
   rw[l3]
   refine(pm2.filter _).trans ?_
   rw[Yi (by rw[xY.mpr rfl];decide),keep _ he1]
   exact K1.pm
 have he3:e∉zS h3 xs3:=fun z=>hk1 e (K3.pm.subset z) rfl
 have hl3:(zS h3 xs3).length < 500:=by rw[K3.pm.length_eq];lia
 refine⟨h3,xs3,qs1,H3,K3,q1,?_⟩
 show zQC (wR (R2 (.mu (stD n ⟨h,xs⟩)) (.mu (ktD qs)) (dE e) none none none none none))=_
 have main:wR (R2 (.mu (stD n ⟨h,xs⟩)) (.mu (ktD qs)) (dE e) none none none none none)=some (.rt (.bl true) (R2 (.mu (stD n ⟨h3,xs3⟩)) (.mu (ktD qs1)) (dE e) (some (.int e.f)) (some (.int e.l)) (some (.str e.z)) (some (.lst ((zS h xs).map dE))) (some (shD h xs)))):=by
   unfold wR
   rw[zSc (ρ':=R2 (.mu (stD n ⟨h,xs⟩)) (.mu (ktD qs)) (dE e) (some (.int e.f)) (some (.int e.l)) (some (.str e.z)) none none) rfl]
   unfold qL
   rw[zMT (d:=.lst ((zS h xs).map dE)) (rY (k:=2) (d:=ktD qs) rfl rfl (on1 rfl) ((pI (x:=ktD qs) rfl).trans (bN K jc)) (kN _ fun _ _=>rfl))]
   show tK (R2 (.mu (stD n ⟨h,xs⟩)) (.mu (ktD qs)) (dE e) (some (.int e.f)) (some (.int e.l)) (some (.str e.z)) (some (.lst ((zS h xs).map dE))) none)=_
   unfold tK
   rw[zMT (d:=shD h xs) (rY (k:=1) (d:=stD n ⟨h,xs⟩) rfl rfl (on0 rfl) ((zOX ja rfl).trans (dP hn h12 H jc)) (zVS h xs))]
   show uA (R2 (.mu (stD n ⟨h,xs⟩)) (.mu (ktD qs)) (dE e) (some (.int e.f)) (some (.int e.l)) (some (.str e.z)) (some (.lst ((zS h xs).map dE))) (some (shD h xs)))=_
   unfold uA
   rw[kif (by
     rw[nR (k:=1) (d:=stD n ⟨h,xs⟩) rfl rfl (on0 rfl)]
     refine(orT (a:=false) (b:=false) ?_ ?_).trans rfl
     · unfold y8 tB1
       rw[(wB ((wB (x:=stD n ⟨h,xs⟩) (y:=vX e) rfl rfl).trans (fA hn h12 H jc he)) rfl).trans zWm]
       rfl
     · unfold y8 tB1
       rw[(wB (wC ((zOW ja rfl).trans (gW hn H jc))) rfl).trans (aB _ jc)]
       rfl)]
   unfold pW
   rw[kif (by
     rw[nR (k:=1) (d:=stD n ⟨h,xs⟩) rfl rfl (on0 rfl)]
     unfold eB2
     rw[(zOX (n:=n) (r:=⟨h,xs⟩) ja rfl).trans (dP hn h12 H jc)]
     show zRE (shD h xs) (shD h xs)=_
     unfold zRE
     rw[zSI h xs 40 (by have:=H.deep hn jc;lia)]
     rfl)]
   unfold qR
   rw[g1]
   unfold qI
   rw[zSc (zRN (d:=dE e) (r':=⟨h2,xs2⟩) ja rfl rfl t2)]
   unfold pV
   rw[zSc (zRN (d:=dE e) (r':=⟨h3,xs3⟩) ja rfl rfl t3)]
   unfold qO
   rw[kif (by
     rw[nR (k:=1) (d:=stD n ⟨h3,xs3⟩) rfl rfl (on0 rfl)]
     unfold y8 tB1
     rw[(wB ((wB (x:=stD n ⟨h3,xs3⟩) (y:=vX e) rfl rfl).trans (fA hn h12 H3 hl3 he3)) rfl).trans zWm]
     rfl)]
   unfold kX zVa
   rw[rY (k:=2) (d:=ktD qs1) (r:=.bl true) rfl rfl (on1 rfl) (by
     show vM 0 1 _ (R2 (.mu (stD n ⟨h3,xs3⟩)) (.fz (ktD qs1)) (dE e) (some (.int e.f)) (some (.int e.l)) (some (.str e.z)) (some (.lst ((zS h xs).map dE))) (some (shD h xs)))=_
     exact rY (k:=1) (d:=stD n ⟨h3,xs3⟩) rfl rfl (on0 rfl) ((wB (wC ((zOW ja rfl).trans (gW hn H3 hl3))) ((pI (x:=ktD qs1) rfl).trans (bN K3 jc))).trans (aB _ jc)) rfl) rfl]
   rfl
 rw[main]
 rfl
theorem zPf {f:Ef}{ρ:List B}{x k:Int}(h:f ρ=some (.int x)):eB2 gGt f (eC (.int k)) ρ=some (decide (k < x)):=by unfold eB2;rw[h];rfl
theorem zMl {t u:Tf}{ρ:List B}{a b:Bool}(h1:t ρ=some a)(h2:u ρ=some b):oG t u ρ=some (a&&b):=by unfold oG;rw[h1];cases a<;>simp[h2]
theorem dB {ws:List Str}{a b:Int}(hw:ws.length=14){es qs:List Et}(K:Kp es qs)(hl:qs.length<=1000)(p:Int):∃e:Et,vU [.tup [.lst (ws.map .str),.int a,.int b],ktD qs,.int p]=some (dE e):=by
 have j5:=K.pm.length_eq
 have hml:(es.map dE).length=es.length:=Qi _
 obtain⟨w1,_,ew1⟩:=fM (xs:=ws) (i:=p % 14) jc (by rw[hw];show p % 14 < 14;lia)
 obtain⟨w2,_,ew2⟩:=fM (xs:=ws) (i:=p / 11 % 14) jc (by rw[hw];show p / 11 % 14 < 14;lia)
 have xE:∀r,(vK [.fz (.tup [.lst (ws.map .str),.int a,.int b]),.fz (ktD qs),.fz (.int p),.fz (.lst (es.map dE)),.fz (.int p),.fz (.int (p+p / 7 % 90)),.fz (.str w1)]).bind vW=r->vU [.tup [.lst (ws.map .str),.int a,.int b],ktD qs,.int p]=r:=fun r hr=>by
   show(vJ [.fz (.tup [.lst (ws.map .str),.int a,.int b]),.fz (ktD qs),.fz (.int p),.no,.no,.no,.no]).bind vW=_
   unfold vJ
   refine yK (d:=.lst (es.map dE)) ((pI rfl).trans (bN K hl)) ?_
   unfold tE
   refine yB (ρ':=[.fz (.tup [.lst (ws.map .str),.int a,.int b]),.fz (ktD qs),.fz (.int p),.fz (.lst (es.map dE)),.fz (.int p),.fz (.int (p+p / 7 % 90)),.fz (.str w1)]) ?_ hr
   unfold zUA
   rw[zQ (d:=.int p) rfl (zQ (d:=.int (p+p / 7 % 90)) (zJ rfl (zJ (zJ rfl rfl rfl) rfl rfl) rfl) (zQ (d:=.str w1) ((wS (x:=.lst (ws.map .str)) (y:=.int (p % 14)) rfl (zJ rfl rfl rfl)).trans (by
     show atI (ws.map D.str) (p % 14)=_
     rw[kJ,ew1];rfl)) (show zP _=some [] from rfl)))]
   rfl
 suffices key:∃e:Et,∃x4 x5:Int,∃x6:Str,e=⟨x4,x5,x6⟩/\sIf (oG (eB2 gGt (wJ (eV 3)) jo) (eB2 gLt (yW (eV 2) ju) jt)) (zG (gH (eIx (eV 3) (yW (uW (eV 2) ju) (wJ (eV 3)))) (gT (zF (gN 4) (zF (gN 5) (zF (gN 6) vZ)))))
   (zG (sIf (eB2 gEq (yW (eV 2) ju) jo) (zA 6 (eIx (eIx (eV 0) jo) (yW (uW (eV 2) (eC (.int 11))) (eC (.int 14))))) wA)
   (zG (sIf (eB2 gEq (yW (eV 2) ju) jp) (zG (zA 5 (xG (eV 5) jp))
   (zA 4 (xG (eV 4) jp))) wA)
   (sIf (eB2 gGt (yW (eV 2) ju) jp) (zA 5 (xG (eV 4) (eIx (eL (wL (zY (xG (zWr (eV 5) (eV 4)) jp) (zY jo (zY (yW (uW (eV 2) jw) (eC (.int 90))) zP))))) (yW (uW (eV 2) (eC (.int 1009))) jr)))) wA)))) wA [.fz (.tup [.lst (ws.map .str),.int a,.int b]),.fz (ktD qs),.fz (.int p),.fz (.lst (es.map dE)),.fz (.int p),.fz (.int (p+p / 7 % 90)),.fz (.str w1)]=some (.nx [.fz (.tup [.lst (ws.map .str),.int a,.int b]),.fz (ktD qs),.fz (.int p),.fz (.lst (es.map dE)),.fz (.int x4),.fz (.int x5),.fz (.str x6)]) by
   obtain⟨e,x4,x5,x6,rfl,hk⟩:=key
   refine⟨⟨x4,x5,x6⟩,xE _ ?_⟩
   unfold vK
   exact yB hk rfl
 have ht:oG (eB2 gGt (wJ (eV 3)) jo) (eB2 gLt (yW (eV 2) ju) jt) [.fz (.tup [.lst (ws.map .str),.int a,.int b]),.fz (ktD qs),.fz (.int p),.fz (.lst (es.map dE)),.fz (.int p),.fz (.int (p+p / 7 % 90)),.fz (.str w1)]=some (decide (0 < (es.length:Int))&&decide (p % 5 < 4)):=zMl (by rw[←hml];exact zPf rfl) (zPq (zJ rfl rfl rfl))
 cases hb:decide (0 < (es.length:Int))&&decide (p % 5 < 4) with
 | false =>
   rw[hb] at ht
   exact⟨⟨p,p+p / 7 % 90,w1⟩,p,p+p / 7 % 90,w1,rfl,(tG ht).trans rfl⟩
 | true =>
   rw[hb] at ht
   rw[Wg,Ed,Ed] at hb
   have i1:=Ow (p / 5) (show(0:Int) < ((es.map dE).length:Int) by rw[hml];lia)
   have i0:=Tl (p / 5) (show((es.map dE).length:Int)≠0 by rw[hml];lia)
   obtain⟨e,he,ee⟩:=fM (xs:=es) i0 (by rw[hml] at i1 ⊢;exact i1)
   have s1:gH (eIx (eV 3) (yW (uW (eV 2) ju) (wJ (eV 3)))) (gT (zF (gN 4) (zF (gN 5) (zF (gN 6) vZ)))) [.fz (.tup [.lst (ws.map .str),.int a,.int b]),.fz (ktD qs),.fz (.int p),.fz (.lst (es.map dE)),.fz (.int p),.fz (.int (p+p / 7 % 90)),.fz (.str w1)]=some (.nx [.fz (.tup [.lst (ws.map .str),.int a,.int b]),.fz (ktD qs),.fz (.int p),.fz (.lst (es.map dE)),.fz (.int e.f),.fz (.int e.l),.fz (.str e.z)]):=by
     unfold gH
     rw[(wS (x:=.lst (es.map dE)) (y:=.int (p / 5 % ((es.map dE).length:Int))) rfl (zJ (zJ rfl rfl rfl) rfl (Qc (by rw[hml];lia)))).trans (by
       show atI (es.map dE) _=some (dE e)
       rw[kJ,ee];rfl)]
     rfl
   have s2:∃z:Str,sIf (eB2 gEq (yW (eV 2) ju) jo) (zA 6 (eIx (eIx (eV 0) jo) (yW (uW (eV 2) (eC (.int 11))) (eC (.int 14))))) wA [.fz (.tup [.lst (ws.map .str),.int a,.int b]),.fz (ktD qs),.fz (.int p),.fz (.lst (es.map dE)),.fz (.int e.f),.fz (.int e.l),.fz (.str e.z)]=some (.nx [.fz (.tup [.lst (ws.map .str),.int a,.int b]),.fz (ktD qs),.fz (.int p),.fz (.lst (es.map dE)),.fz (.int e.f),.fz (.int e.l),.fz (.str z)]):=by
     have t:=zXY (f:=yW (eV 2) ju) (ρ:=[.fz (.tup [.lst (ws.map .str),.int a,.int b]),.fz (ktD qs),.fz (.int p),.fz (.lst (es.map dE)),.fz (.int e.f),.fz (.int e.l),.fz (.str e.z)]) (x:=p % 5) (k:=0) (zJ rfl rfl rfl)
     by_cases q:p % 5=0
     · rw[Qc q] at t
       refine⟨w2,(tG t).trans ?_⟩
       rw[Qu rfl]
       unfold zA
       rw[(wS (fa:=eIx (eV 0) jo) (x:=.lst (ws.map .str)) (y:=.int (p / 11 % 14)) rfl (zJ (zJ rfl rfl rfl) rfl rfl)).trans (by
         show atI (ws.map D.str) _=some (.str w2)
         rw[kJ,ew2];rfl)]
       rfl
     · rw[We q] at t
       exact⟨e.z,(tG t).trans rfl⟩
   obtain⟨z,s2⟩:=s2
   have s3:∃f l:Int,sIf (eB2 gEq (yW (eV 2) ju) jp) (zG (zA 5 (xG (eV 5) jp)) (zA 4 (xG (eV 4) jp))) wA [.fz (.tup [.lst (ws.map .str),.int a,.int b]),.fz (ktD qs),.fz (.int p),.fz (.lst (es.map dE)),.fz (.int e.f),.fz (.int e.l),.fz (.str z)]=some (.nx [.fz (.tup [.lst (ws.map .str),.int a,.int b]),.fz (ktD qs),.fz (.int p),.fz (.lst (es.map dE)),.fz (.int f),.fz (.int l),.fz (.str z)]):=by
     have t:=zXY (f:=yW (eV 2) ju) (ρ:=[.fz (.tup [.lst (ws.map .str),.int a,.int b]),.fz (ktD qs),.fz (.int p),.fz (.lst (es.map dE)),.fz (.int e.f),.fz (.int e.l),.fz (.str z)]) (x:=p % 5) (k:=1) (zJ rfl rfl rfl)
     by_cases q:p % 5=1
     · rw[Qc q] at t
       refine⟨e.f+1,e.l+1,(tG t).trans ?_⟩
       rw[Qu rfl,zZu (d:=.int (e.l+1)) (zJ rfl rfl rfl)]
       show zA 4 _ [.fz (.tup [.lst (ws.map .str),.int a,.int b]),.fz (ktD qs),.fz (.int p),.fz (.lst (es.map dE)),.fz (.int e.f),.fz (.int (e.l+1)),.fz (.str z)]=_
       unfold zA
       rw[show xG (eV 4) jp _=some (.int (e.f+1)) from zJ (ρ:=[.fz (.tup [.lst (ws.map .str),.int a,.int b]),.fz (ktD qs),.fz (.int p),.fz (.lst (es.map dE)),.fz (.int e.f),.fz (.int (e.l+1)),.fz (.str z)]) rfl rfl rfl]
       rfl
     · rw[We q] at t
       exact⟨e.f,e.l,(tG t).trans rfl⟩
   obtain⟨f,l,s3⟩:=s3
   have s4:∃l':Int,sIf (eB2 gGt (yW (eV 2) ju) jp) (zA 5 (xG (eV 4) (eIx (eL (wL (zY (xG (zWr (eV 5) (eV 4)) jp) (zY jo (zY (yW (uW (eV 2) jw) (eC (.int 90))) zP))))) (yW (uW (eV 2) (eC (.int 1009))) jr)))) wA [.fz (.tup [.lst (ws.map .str),.int a,.int b]),.fz (ktD qs),.fz (.int p),.fz (.lst (es.map dE)),.fz (.int f),.fz (.int l),.fz (.str z)]=some (.nx [.fz (.tup [.lst (ws.map .str),.int a,.int b]),.fz (ktD qs),.fz (.int p),.fz (.lst (es.map dE)),.fz (.int f),.fz (.int l'),.fz (.str z)]):=by
     have t:=zPf (f:=yW (eV 2) ju) (ρ:=[.fz (.tup [.lst (ws.map .str),.int a,.int b]),.fz (ktD qs),.fz (.int p),.fz (.lst (es.map dE)),.fz (.int f),.fz (.int l),.fz (.str z)]) (x:=p % 5) (k:=1) (zJ rfl rfl rfl)
     by_cases q:1 < p % 5
     · rw[Qc q] at t
       obtain⟨v,_,ev⟩:=zSP (xs:=[l - f+1,0,p / 7 % 90]) (i:=p / 1009 % 3) jc (by show p / 1009 % 3 < 3;lia)
       refine⟨f+v,(tG t).trans ?_⟩
       rw[Qu rfl]
       unfold zA
       rw[show xG (eV 4) (eIx (eL (wL (zY (xG (zWr (eV 5) (eV 4)) jp) (zY jo (zY (yW (uW (eV 2) jw) (eC (.int 90))) zP))))) (yW (uW (eV 2) (eC (.int 1009))) jr)) [.fz (.tup [.lst (ws.map .str),.int a,.int b]),.fz (ktD qs),.fz (.int p),.fz (.lst (es.map dE)),.fz (.int f),.fz (.int l),.fz (.str z)]=some (.int (f+v)) from zJ rfl ((wS (wC (uT (zQ (zJ (zJ rfl rfl rfl) rfl rfl) (zQ rfl (zQ (zJ (zJ rfl rfl rfl) rfl rfl) rfl))) je)) (zJ (zJ rfl rfl rfl) rfl rfl)).trans ev) rfl]
       rfl
     · rw[We q] at t
       exact⟨l,(tG t).trans rfl⟩
   obtain⟨l',s4⟩:=s4
   refine⟨⟨f,l',z⟩,f,l',z,rfl,(tG ht).trans ?_⟩
   rw[Qu rfl,uR s1,uR s2,uR s3]
   exact s4
end My
namespace My
open PySem L2
theorem zU1 (ns:List Int)(k:Nat):∃c:Int,qS [.lst (ns.map D.int),.int (k:Nat)]=some (.int c):=by
 have hl:(ns.map D.int).length=ns.length:=je
 have t1:eB2 gLt (eV 1) (wJ (eV 0)) [.fz (.lst (ns.map D.int)),.fz (.int (k:Nat))]=some (decide ((k:Int) < (ns.length:Nat))):=by rw[←hl];rfl
 by_cases h:(k:Int) < (ns.length:Nat)
 · refine⟨ns.getD k 0,?_⟩
   show(vI [.fz (.lst (ns.map D.int)),.fz (.int (k:Nat))]).bind vW=_
   unfold vI
   rw[zUj (d:=.int (ns.getD k 0)) (by
     unfold sIf
     rw[t1,Qc h,Qw,Qu rfl]
     unfold xM eIx
     show((atI (ns.map D.int) (k:Int))).map Out.rt=_
     rw[kJ,lN ns (k:Int) 0 jc h];rfl)]
   rfl
 · refine⟨0,?_⟩
   show(vI [.fz (.lst (ns.map D.int)),.fz (.int (k:Nat))]).bind vW=_
   unfold vI
   exact fF (by rw[t1,We h]) rfl
abbrev R (a0 a1:D)(s t:B)(a4:D)(a5 x6 x7:Option D):List B:=[.fz a0,.fz a1,s,t,.fz a4,slB a5,slB x6,slB x7]
section
variable {a0 a1 a4:D} {a5:Option D} {s t:B} {x6 x7:Option D}
theorem zPy (h:(0:Nat)=0):xJ 2 1 (R a0 a1 s t a4 a5 x6 x7)=true:=rfl
theorem zZx (h:(0:Nat)=0):xJ 3 2 (R a0 a1 s t a4 a5 x6 x7)=true:=rfl
variable {n:Nat} {r r':Rt} {qs qs':List Et} {d:D}
theorem zUp (h1:vP (stD n r) [d]=some (stD n r'))(h2:uK (ktD qs) [d]=some (ktD qs')):zG (rG 2 1 vP (zY (eV 7) zP)) (rG 3 1 uK (zY (eV 7) zP)) (R a0 a1 (.mu (stD n r)) (.mu (ktD qs)) a4 a5 x6 (some d))=some (.nx (R a0 a1 (.mu (stD n r')) (.mu (ktD qs')) a4 a5 x6 (some d))):=by
 have c1:rG 2 1 vP (zY (eV 7) zP) (R a0 a1 (.mu (stD n r)) (.mu (ktD qs)) a4 a5 x6 (some d))=some (.nx (R a0 a1 (.mu (stD n r')) (.mu (ktD qs)) a4 a5 x6 (some d))):=by
   unfold rG
   show(if ([d]:List D).length=1/\xJ 2 1 (R a0 a1 (.mu (stD n r)) (.mu (ktD qs)) a4 a5 x6 (some d))=true then(vP (stD n r) [d]).map _ else none)=_
   rw[Qu ⟨rfl,zPy rfl⟩,h1]
   rfl
 rw[uR c1]
 unfold rG
 show(if ([d]:List D).length=1/\xJ 3 2 (R a0 a1 (.mu (stD n r')) (.mu (ktD qs)) a4 a5 x6 (some d))=true then(uK (ktD qs) [d]).map _ else none)=_
 rw[Qu ⟨rfl,zZx rfl⟩,h2]
 rfl
theorem zU5 {e:Et}{b:Bool}{w:Str}(hd:d = .tup [.str w,dE e])(hb:decide (w=("take":Str))=b):tL 3 2 (kQ (eB2 gEq (eIx (eV 7) jo) (eC (.str "take"))) (zY1 false (xH (zY (eIx (eIx (eV 7) jp) jo) (zY (eIx (eIx (eV 7) jp) jq) zP))) (eV 3))) (R a0 a1 (.mu (stD n r)) (.mu (ktD qs)) a4 a5 x6 (some d))=some (b||((pU (qs.map fun q=>isK (kE q)) (qs.map fun q=>.int q.l) (isK (kE e))).isSome==false)):=by
 subst hd
 rw[nR (k:=2) (d:=ktD qs) rfl rfl (zZx rfl)]
 exact orT (by rw[←hb];rfl) rfl
end
open Classical in
theorem zPu (e:Et):∀es:List Et,cU (dE e) (es.map dE)=some (decide (e∈es))
 | []=>by simp[cU]
 | a::r=>by
   have h1:eqD 8 (dE a) (dE e)=some (z8 a e):=by
     show some ((a.f==e.f&&(a.l==e.l&&(a.z==e.z&&true)))&&true)=_
     unfold z8
     simp
   rw[Qz]
   unfold cU
   rw[h1,Qw,zPu e r]
   show some (z8 a e||decide (e∈r))=_
   congr 1
   by_cases q:a=e
   · subst q;rw[xY.mpr rfl];simp
   · have:z8 a e=false:=by cases y:z8 a e;rfl;exact absurd (xY.mp y) q
     rw[this]
     simp[Ne.symm q]
theorem zTQ:∀es:List Et,pN (es.map dE)=true
 | []=>rfl
 | e::r=>by
   show(uU (dE e)&&pN (r.map dE))=true
   rw[zTQ r];rfl
section
variable {a0 a1 a4:D} {a5:Option D} {n:Nat} (hn:4<=n) (h12:n<=300)
include hn h12
theorem zXH:∀(l:List Et) (h:Nat) (xs:List (It h)) (qs:List Et) (x6 x7:Option D),RtOk n h xs->Kp (zS h xs) qs->qs.length+l.length < 500 ->
   ∃h' xs' qs' y7,RtOk n h' xs'/\Kp (zS h' xs') qs'/\qs'.length<=qs.length+l.length/\lL (gN 7) oF (l.map rO) (R a0 a1 (.mu (stD n ⟨h,xs⟩)) (.mu (ktD qs)) a4 a5 x6 x7)=some (.nx (R a0 a1 (.mu (stD n ⟨h',xs'⟩)) (.mu (ktD qs')) a4 a5 x6 y7))
 | [],h,xs,qs,x6,x7,H,K,_=>⟨h,xs,qs,x7,H,K,Qf _,rfl⟩
 | e::l,h,xs,qs,x6,x7,H,K,hl=>by
   rw[Qo] at hl
   rw[Qz]
   have ht:=zU5 (a0:=a0) (a1:=a1) (a4:=a4) (a5:=a5) (n:=n) (r:=⟨h,xs⟩) (qs:=qs) (x6:=x6) (d:=rO e) (e:=e) (b:=false) rfl ja
   by_cases hk:∃q∈qs,kE q=kE e
   · obtain⟨q,hq1,hq2⟩:=hk
     rw[←hq2,iH hq1 K.nd] at ht
     obtain⟨h',xs',qs',y7,H',K',hl',e'⟩:=zXH l h xs qs x6 (some (rO e)) H K jc
     refine⟨h',xs',qs',y7,H',K',by rw[Qo];lia,?_⟩
     rw[mH (ρ1:=R a0 a1 (.mu (stD n ⟨h,xs⟩)) (.mu (ktD qs)) a4 a5 x6 (some (rO e))) (ρ2:=R a0 a1 (.mu (stD n ⟨h,xs⟩)) (.mu (ktD qs)) a4 a5 x6 (some (rO e))) rfl ?_]
     · exact e'
     · unfold oF
       exact(tG ht).trans rfl
   · have hk':∀q∈qs,kE q≠kE e:=fun q hq z=>hk ⟨q,hq,z⟩
     rw[zXB hk'] at ht
     obtain⟨h1,xs1,H1,K1,d1⟩:=zR3 hn h12 H K jc e hk'
     obtain⟨h',xs',qs',y7,H',K',hl',e'⟩:=zXH l h1 xs1 (qs++[e]) x6 (some (rO e)) H1 K1 (by rw[Qt];simp;lia)
     rw[Qt] at hl'
     refine⟨h',xs',qs',y7,H',K',by simp at hl';rw[Qo];lia,?_⟩
     rw[mH (ρ1:=R a0 a1 (.mu (stD n ⟨h,xs⟩)) (.mu (ktD qs)) a4 a5 x6 (some (rO e))) (ρ2:=R a0 a1 (.mu (stD n ⟨h1,xs1⟩)) (.mu (ktD (qs++[e]))) a4 a5 x6 (some (rO e))) rfl ?_]
     · exact e'
     · unfold oF
       refine(tG ht).trans ?_
       rw[Qu jb]
       exact zUp d1 (zRe e hk' jc)
theorem zWP:∀(l:List Et) (h:Nat) (xs:List (It h)) (qs:List Et) (x6 x7:Option D),RtOk n h xs->Kp (zS h xs) qs->qs.length < 500->l.Nodup->(∀e∈l,e∈qs) ->
   ∃h' xs' qs' y7,RtOk n h' xs'/\Kp (zS h' xs') qs'/\qs'.length<=qs.length/\lL (gN 7) oF (l.map vX) (R a0 a1 (.mu (stD n ⟨h,xs⟩)) (.mu (ktD qs)) a4 a5 x6 x7)=some (.nx (R a0 a1 (.mu (stD n ⟨h',xs'⟩)) (.mu (ktD qs')) a4 a5 x6 y7))
 | [],h,xs,qs,x6,x7,H,K,_,_,_=>⟨h,xs,qs,x7,H,K,Qf _,rfl⟩
 | e::l,h,xs,qs,x6,x7,H,K,hl,nd,hm=>by
   obtain⟨nd1,nd2⟩:=Ru.mp nd
   rw[Qz]
   have ht:=zU5 (a0:=a0) (a1:=a1) (a4:=a4) (a5:=a5) (n:=n) (r:=⟨h,xs⟩) (qs:=qs) (x6:=x6) (d:=vX e) (e:=e) (b:=true) rfl ja
   have he:=hm e Qv
   obtain⟨h1,xs1,H1,K1,d1⟩:=zTH hn h12 H K hl e he
   have hfl:=Rs (fun a:Et => !z8 a e) qs
   obtain⟨h',xs',qs',y7,H',K',hl',e'⟩:=zWP l h1 xs1 _ x6 (some (vX e)) H1 K1 jc nd2 fun a ha=>Yq.mpr ⟨hm a (Qk _ ha),by
     cases q:z8 a e
     · rfl
     · rw[xY.mp q] at ha;exact absurd ha nd1⟩
   refine⟨h',xs',qs',y7,H',K',jc,?_⟩
   rw[mH (ρ1:=R a0 a1 (.mu (stD n ⟨h,xs⟩)) (.mu (ktD qs)) a4 a5 x6 (some (vX e))) (ρ2:=R a0 a1 (.mu (stD n ⟨h1,xs1⟩)) (.mu (ktD (qs.filter fun a => !z8 a e))) a4 a5 x6 (some (vX e))) rfl ?_]
   · exact e'
   · unfold oF
     refine(tG ht).trans ?_
     rw[Bool.true_or,Qu rfl]
     exact zUp d1 (zT4 e he K.nd)
theorem zR8 {h:Nat}{xs:List (It h)}{qs:List Et}{x6 x7:Option D}{e:Et}(H:RtOk n h xs)(K:Kp (zS h xs) qs)(hl:qs.length < 490)(he:e∉zS h xs):∃h' xs' qs',RtOk n h' xs'/\Kp (zS h' xs') qs'/\qs'.length<=qs.length/\zV6 (gR 2 3 1 xV (zY (eV 4) zP)) (R a0 a1 (.mu (stD n ⟨h,xs⟩)) (.mu (ktD qs)) (dE e) a5 x6 x7)=some (false,R a0 a1 (.mu (stD n ⟨h',xs'⟩)) (.mu (ktD qs')) (dE e) a5 x6 x7):=by
 obtain⟨h',xs',qs',H',K',hq,eq⟩:=zST hn h12 H K hl e he
 refine⟨h',xs',qs',H',K',hq,?_⟩
 have u1:gR 2 3 1 xV (zY (eV 4) zP) (R a0 a1 (.mu (stD n ⟨h,xs⟩)) (.mu (ktD qs)) (dE e) a5 x6 x7)=some (true,R a0 a1 (.mu (stD n ⟨h',xs'⟩)) (.mu (ktD qs')) (dE e) a5 x6 x7):=by
   unfold gR
   rw[zQ (d:=dE e) rfl (show zP _=some [] from rfl),Qw]
   show(if ([dE e]:List D).length=1/\2≠3/\vT (stD n ⟨h,xs⟩)≠vT (ktD qs)/\xJ 2 (vT (stD n ⟨h,xs⟩)) (R a0 a1 (.mu (stD n ⟨h,xs⟩)) (.mu (ktD qs)) (dE e) a5 x6 x7)=true then(xV (stD n ⟨h,xs⟩) (ktD qs) [dE e]).bind _ else none)=_
   rw[Qu ⟨rfl,jb,(fun z=>absurd (show(1:Nat)=2 from z) jb),zPy rfl⟩,eq,Qw]
   show(if xJ 3 2 (R a0 a1 (.mu (stD n ⟨h',xs'⟩)) (.mu (ktD qs)) (dE e) a5 x6 x7)=true then _ else none)=_
   rw[Qu (zZx rfl)]
   rfl
 unfold zV6
 rw[u1]
 rfl
open Classical in
theorem zUh {ws:List Str}{a b:Int}(hw:ws.length=14){h:Nat}{xs:List (It h)}{qs:List Et}{c:Int}{x7:Option D}(H:RtOk n h xs)(K:Kp (zS h xs) qs)(hl:qs.length < 490):∃h' xs' qs' e',RtOk n h' xs'/\Kp (zS h' xs') qs'/\qs'.length<=qs.length/\gB (R a0 (.tup [.lst (ws.map .str),.int a,.int b]) (.mu (stD n ⟨h,xs⟩)) (.mu (ktD qs)) a4 a5 (some (.int c)) x7)=some (.nx (R a0 (.tup [.lst (ws.map .str),.int a,.int b]) (.mu (stD n ⟨h',xs'⟩)) (.mu (ktD qs')) (dE e') a5 (some (.int c)) x7)):=by
 obtain⟨e,ee⟩:=dB (a:=a) (b:=b) hw K jc (dY c 30)
 have hm:=tM c 30 jb jb
 unfold gB
 rw[zZu (d:=dE e) (rY (k:=2) (d:=ktD qs) rfl rfl (zZx rfl) ((oC rfl rfl ((wB rfl rfl).trans hm)).trans ee) rfl)]
 show ∃h' xs' qs' e',RtOk n h' xs'/\Kp (zS h' xs') qs'/\qs'.length<=qs.length/\zZM (R a0 (.tup [.lst (ws.map .str),.int a,.int b]) (.mu (stD n ⟨h,xs⟩)) (.mu (ktD qs)) (dE e) a5 (some (.int c)) x7)=_
 have t1:tL 3 2 (eB2 kB (eV 4) (zI 1 uG (zY (eV 3) zP))) (R a0 (.tup [.lst (ws.map .str),.int a,.int b]) (.mu (stD n ⟨h,xs⟩)) (.mu (ktD qs)) (dE e) a5 (some (.int c)) x7)=some (!decide (e∈zS h xs)):=by
   rw[nR (k:=2) (d:=ktD qs) rfl rfl (zZx rfl)]
   unfold eB2
   rw[(pI (x:=ktD qs) rfl).trans (bN K jc)]
   show kB (dE e) (.lst ((zS h xs).map dE))=_
   show Option.map _ (if pN ((zS h xs).map dE)=true then cU (dE e) ((zS h xs).map dE) else none)=_
   rw[show(if pN ((zS h xs).map dE)=true then cU (dE e) ((zS h xs).map dE) else none)=cU (dE e) ((zS h xs).map dE) from Qu (zTQ _),zPu]
   rfl
 unfold zZM zUY zOh zSM
 rw[t1]
 by_cases he:e∈zS h xs
 · refine⟨h,xs,qs,e,H,K,Qf _,?_⟩
   rw[Qc he]
   rfl
 · obtain⟨h',xs',qs',H',K',hq,u⟩:=zR8 (a0:=a0) (a1:=.tup [.lst (ws.map .str),.int a,.int b]) (a5:=a5) (x6:=some (.int c)) (x7:=x7) hn h12 H K hl he
   refine⟨h',xs',qs',e,H',K',hq,?_⟩
   rw[We he]
   show((if true=true then zV6 (gR 2 3 1 xV (zY (eV 4) zP)) (R a0 (.tup [.lst (ws.map .str),.int a,.int b]) (.mu (stD n ⟨h,xs⟩)) (.mu (ktD qs)) (dE e) a5 (some (.int c)) x7) else some (false,R a0 (.tup [.lst (ws.map .str),.int a,.int b]) (.mu (stD n ⟨h,xs⟩)) (.mu (ktD qs)) (dE e) a5 (some (.int c)) x7)).bind _)=_
   rw[Qu rfl,u]
   rfl
theorem turn {ws:List Str}{a b:Int}(hw:ws.length=14)(ha0:0<=a)(ha1:a < 3){h:Nat}{xs:List (It h)}{qs:List Et}(H:RtOk n h xs)(K:Kp (zS h xs) qs)(hl:qs.length+5 < 490)(k c:Int)(k0:0<=k)(k1:k < 1000)(x7:Option D) :
   ∃h' xs' qs' e' y6 y7,RtOk n h' xs'/\Kp (zS h' xs') qs'/\qs'.length<=qs.length+5/\oA (R a0 (.tup [.lst (ws.map .str),.int a,.int b]) (.mu (stD n ⟨h,xs⟩)) (.mu (ktD qs)) a4 (some (.int k)) (some (.int c)) x7)=some (.nx (R a0 (.tup [.lst (ws.map .str),.int a,.int b]) (.mu (stD n ⟨h',xs'⟩)) (.mu (ktD qs')) (dE e') (some (.int (k+1))) y6 y7)):=by
 have c1:jN k k=true:=nL jc jc
 have c2:jN (k*k) 1000003=true:=zO4 jc jc
 have hcc:xG (eV 6) (jO (jO (eV 5) (eV 5)) (eC (.int 1000003))) (R a0 (.tup [.lst (ws.map .str),.int a,.int b]) (.mu (stD n ⟨h,xs⟩)) (.mu (ktD qs)) a4 (some (.int k)) (some (.int c)) x7)=some (.int (c+k*k*1000003)):=zJ rfl (zJ (zJ rfl rfl c1) rfl c2) rfl
 generalize c+k*k*1000003=c' at hcc
 have first:∀r,kM (R a0 (.tup [.lst (ws.map .str),.int a,.int b]) (.mu (stD n ⟨h,xs⟩)) (.mu (ktD qs)) a4 (some (.int (k+1))) (some (.int c')) x7)=r->oA (R a0 (.tup [.lst (ws.map .str),.int a,.int b]) (.mu (stD n ⟨h,xs⟩)) (.mu (ktD qs)) a4 (some (.int k)) (some (.int c)) x7)=r:=fun r hr=>by
   unfold oA
   rw[zZu hcc]
   unfold aX
   show zG _ _ (R a0 (.tup [.lst (ws.map .str),.int a,.int b]) (.mu (stD n ⟨h,xs⟩)) (.mu (ktD qs)) a4 (some (.int k)) (some (.int c')) x7)=_
   rw[zZu (d:=.int (k+1)) (zJ rfl rfl rfl)]
   exact hr
 have src:∀(l:List Et) (f:Et->D),(∀e,qP (f e)=true)->vV [.tup [.lst (ws.map .str),.int a,.int b],.int c',ktD qs]=some (.lst (l.map f))->iL (vM 3 2 (zI 3 vV (zY (eV 1) (zY (eV 6) (zY (eV 3) zP))))) (R a0 (.tup [.lst (ws.map .str),.int a,.int b]) (.mu (stD n ⟨h,xs⟩)) (.mu (ktD qs)) a4 (some (.int (k+1))) (some (.int c')) x7)=some (l.map f):=fun l f hf hd =>
   zZQ (rY (k:=2) (d:=ktD qs) rfl rfl (zZx rfl) ((oC rfl rfl rfl).trans hd) (kN l fun e _=>hf e))
 obtain⟨l,hd⟩:=zRu c' hw ha0 ha1 K jc (b:=b)
 rcases hd with⟨hd,hl5⟩ | ⟨hd,nd,hm⟩
 · obtain⟨h',xs',qs',y7,H',K',hq,e⟩:=zXH (a0:=a0) (a1:=.tup [.lst (ws.map .str),.int a,.int b]) (a4:=a4) (a5:=some (.int (k+1))) hn h12 l h xs qs (some (.int c')) x7 H K jc
   obtain⟨h2,xs2,qs2,e2',H2,K2,hq2,e2⟩:=zUh (a0:=a0) (a4:=a4) (a5:=some (.int (k+1))) (a:=a) (b:=b) (c:=c') (x7:=y7) hn h12 hw H' K' jc
   refine⟨h2,xs2,qs2,e2',some (.int c'),y7,H2,K2,jc,first _ ?_⟩
   unfold kM
   rw[uR (by unfold jQ;rw[src l rO (fun _=>rfl) hd,Qw];exact e)]
   exact e2
 · obtain⟨h',xs',qs',y7,H',K',hq,e⟩:=zWP (a0:=a0) (a1:=.tup [.lst (ws.map .str),.int a,.int b]) (a4:=a4) (a5:=some (.int (k+1))) hn h12 l h xs qs (some (.int c')) x7 H K jc nd hm
   obtain⟨h2,xs2,qs2,e2',H2,K2,hq2,e2⟩:=zUh (a0:=a0) (a4:=a4) (a5:=some (.int (k+1))) (a:=a) (b:=b) (c:=c') (x7:=y7) hn h12 hw H' K' jc
   refine⟨h2,xs2,qs2,e2',some (.int c'),y7,H2,K2,jc,first _ ?_⟩
   unfold kM
   rw[uR (by unfold jQ;rw[src l vX (fun _=>rfl) hd,Qw];exact e)]
   exact e2
end
theorem zRK (ns:List Int)(h:ns.length<=63):zZt [.lst (ns.map .int)]=some (.bl true):=by
 obtain⟨v0,c0⟩:=zU1 ns 0
 obtain⟨v1,c1⟩:=zU1 ns 1
 obtain⟨ws,a,b,hp,hw,ha0,ha1,hb0,hb1⟩:=zQU v1
 obtain⟨n,hn⟩:∃n:Nat,(n:Int)=4+v0 % 9:=⟨(4+v0 % 9).toNat,jc⟩
 have n4:4<=n:=jc
 have n12:n<=300:=jc
 have hsz:xG jt (yW (zI 2 qS (zY (eV 0) (zY jo zP))) (eC (.int 9))) [.fz (.lst (ns.map .int)),.fz (.tup [.lst (ws.map .str),.int a,.int b]),.no,.no,.no,.no,.no,.no]=some (.int (4+v0 % 9)):=zJ rfl (zJ ((wB rfl rfl).trans c0) rfl rfl) rfl
 rw[←hn] at hsz
 obtain⟨cs,hcs,hcl⟩:∃cs:List Int,cM (ns.map .int) (some 2) (some 63)=cs.map D.int/\cs.length<=ns.length:=by
   unfold cM
   refine⟨(ns.drop (HT.sIx (ns.map D.int).length 0 (some 2))).take (HT.sIx (ns.map D.int).length (ns.map D.int).length (some 63) - HT.sIx (ns.map D.int).length 0 (some 2)),by rw[Yt,Yz],?_⟩
   rw[Qj,Wu]
   lia
 have K0:Kp (zS 0 ([]:List (It 0))) []:=⟨.refl _,List.Pairwise.nil⟩
 obtain⟨e0,ee0⟩:=dB (a:=a) (b:=b) hw K0 jb 7
 obtain⟨h1,xs1,qs1,H1,K1,q1,u1⟩:=zR8 (a0:=.lst (ns.map .int)) (a1:=.tup [.lst (ws.map .str),.int a,.int b]) (a5:=none) (x6:=none) (x7:=none) (e:=e0) n4 n12 (RtOk.nil (n:=n)) K0 jb (by intro z;cases z)
 obtain⟨ρ',e,hh,xs,qs,e4,y6,y7,H,K,hq,rfl⟩:=zYt (g:=gN 6) (body:=oA) (P:=fun i ρ=>∃(hh:Nat) (xs:List (It hh)) (qs:List Et) (e4:Et) (y6 y7:Option D),RtOk n hh xs/\Kp (zS hh xs) qs/\qs.length<=5*i/\ρ=R (.lst (ns.map .int)) (.tup [.lst (ws.map .str),.int a,.int b]) (.mu (stD n ⟨hh,xs⟩)) (.mu (ktD qs)) (dE e4) (some (.int (i:Int))) y6 y7) (cs.map D.int) 0 (fun i d hd ρ hρ=>by
     obtain⟨hh,xs,qs,e4,y6,y7,H,K,hq,rfl⟩:=hρ
     have hi:i < cs.length:=by have:=(Qn.mp hd).1;simpa using this
     rw[Wd] at hd
     obtain⟨c,_,rfl⟩:=Qr.mp hd
     obtain⟨h',xs',qs',e4',z6,z7,H',K',hq',e⟩:=turn (a0:=.lst (ns.map .int)) (a4:=dE e4) n4 n12 hw ha0 ha1 H K jc ((0+i:Nat):Int) c jc jc y7 (b:=b)
     exact⟨_,_,rfl,e,h',xs',qs',e4',z6,z7,H',K',jc,by rw[show((0+i:Nat):Int)+1=((0+i+1:Nat):Int) by lia]⟩) (R (.lst (ns.map .int)) (.tup [.lst (ws.map .str),.int a,.int b]) (.mu (stD n ⟨h1,xs1⟩)) (.mu (ktD qs1)) (dE e0) (some (.int 0)) none none) ⟨h1,xs1,qs1,e0,none,none,H1,K1,q1,rfl⟩
 rw[Qi] at hq
 show(cE [.fz (.lst (ns.map .int)),.no,.no,.no,.no,.no,.no,.no]).bind vW=_
 unfold cE
 refine yK (d:=.tup [.lst (ws.map .str),.int a,.int b]) ((pI ((wB rfl rfl).trans c1)).trans hp) ?_
 unfold zYo
 have hst:zZG [.int (n:Int)]=some [.int (n:Int),pgD 0 []]:=by
   show zWz [.no,.fz (.int (n:Int))]=_
   exact zQ rfl (zQ (kA (h:=0) (xs:=[]) rfl (wC (uT rfl jb)) jb fun _ _=>trivial) rfl)
 refine yB (ρ':=[.fz (.lst (ns.map .int)),.fz (.tup [.lst (ws.map .str),.int a,.int b]),.mu (stD n ⟨0,[]⟩),.no,.no,.no,.no,.no]) ?_ ?_
 · unfold zXA
   show(zY _ zP [.fz (.lst (ns.map .int)),.fz (.tup [.lst (ws.map .str),.int a,.int b]),.no,.no,.no,.no,.no,.no]).bind _=_
   rw[zQ hsz (show zP _=some [] from rfl),Qw,Qu (show([.int (n:Int)]:List D).length=1 from rfl),hst,Qw,Qu (show(["size","root"]:List Str).length=([.int (n:Int),pgD 0 []]:List D).length from rfl)]
   rfl
 unfold zY8
 refine yB (ρ':=[.fz (.lst (ns.map .int)),.fz (.tup [.lst (ws.map .str),.int a,.int b]),.mu (stD n ⟨0,[]⟩),.mu (ktD []),.no,.no,.no,.no]) rfl ?_
 unfold zXV
 have on4:xJ 3 2 [.fz (.lst (ns.map .int)),.fz (.tup [.lst (ws.map .str),.int a,.int b]),.mu (stD n ⟨0,[]⟩),.mu (ktD []),.no,.no,.no,.no]=true:=rfl
 refine yK (d:=dE e0) (rY (k:=2) (d:=ktD []) rfl rfl on4 ((oC rfl rfl rfl).trans ee0) rfl) ?_
 unfold zYf
 show(zG (zUY (zV6 (gR 2 3 1 xV (zY (eV 4) zP))) (xM (eC (.bl false))) wA) cG [.fz (.lst (ns.map .int)),.fz (.tup [.lst (ws.map .str),.int a,.int b]),.mu (stD n ⟨0,[]⟩),.mu (ktD []),.fz (dE e0),.no,.no,.no]).bind vW=_
 refine yB (ρ':=[.fz (.lst (ns.map .int)),.fz (.tup [.lst (ws.map .str),.int a,.int b]),.mu (stD n ⟨h1,xs1⟩),.mu (ktD qs1),.fz (dE e0),.no,.no,.no]) ?_ ?_
 · show zUY _ _ _ (R (.lst (ns.map .int)) (.tup [.lst (ws.map .str),.int a,.int b]) (.mu (stD n ⟨0,[]⟩)) (.mu (ktD [])) (dE e0) none none none)=_
   unfold zUY
   rw[u1]
   rfl
 unfold cG
 refine yK (d:=.int 0) rfl ?_
 unfold zY3
 refine yB (ρ':=R (.lst (ns.map .int)) (.tup [.lst (ws.map .str),.int a,.int b]) (.mu (stD n ⟨hh,xs⟩)) (.mu (ktD qs)) (dE e4) (some (.int ((0+(cs.map D.int).length:Nat):Int))) y6 y7) ?_ rfl
 unfold jQ
 have src:wV (eV 0) (xF jq) (xF (eC (.int 63))) (R (.lst (ns.map .int)) (.tup [.lst (ws.map .str),.int a,.int b]) (.mu (stD n ⟨h1,xs1⟩)) (.mu (ktD qs1)) (dE e0) (some (.int 0)) none none)=some (cs.map D.int):=by
   show some (cM (ns.map .int) (some 2) (some 63))=_
   rw[hcs]
 show(wV (eV 0) (xF jq) (xF (eC (.int 63))) (R (.lst (ns.map .int)) (.tup [.lst (ws.map .str),.int a,.int b]) (.mu (stD n ⟨h1,xs1⟩)) (.mu (ktD qs1)) (dE e0) (some (.int 0)) none none)).bind _=_
 rw[src,Qw]
 exact e
end My
open PySem PySem.W PyProof.Rows
set_option maxRecDepth 100000 in
set_option maxHeartbeats 0 in
theorem PySem.Challenge.cw_curveyard_k29_take_what_is_not_there_holds : PySem.Challenge.rw_curveyard_k29_take_what_is_not_there.Holds := by
 w_on
 refine PySem.W.holds_law My.zQz fun said=>?_
 refine PySem.W.holds_open (r:=PySem.Challenge.rw_curveyard_k29_take_what_is_not_there.row) (q:=My.jV) (loose:=My.loose) (XP:=PySem.W.XL My.jV [])
   (YP:=PySem.W.InK My.zYA) My.zPU (PySem.W.InK.of My.zWS) PySem.W.InK.keeps
   (fun s e=>PySem.W.xl_of s (Bool.and_eq_true_iff.mp e).1) PySem.W.XL.keeps jg jg jg
   (fun s e=>PySem.W.recFacts_of (Bool.and_eq_true_iff.mp e).2) jg (by assumption) ja
   ⟨rfl,rfl,rfl,rfl,rfl,ja⟩ ?hw ?hc
 case hw=>w_witness2
 k_fill
 refine L2.zQF (l:=PySem.Challenge.rw_curveyard_k29_take_what_is_not_there) (n:=63) (k:=20) (x:="_law_script") (CX:=fun _=>L2.CX0) (sp:=fun w=>L2.spF _ 1 My.zZt) rfl jb rfl ⟨rfl,jb,jb⟩ (fun w h Y=>Y) ?F (fun w H a ns hl hO hS=>My.zNU hS (My.zRK ns hl)) (fun _ _ _ _ _ z=>z)
 case F =>
   intro w mg fa h KX G hmg
   refine' My.zN9 KX G hmg ?g0 ?g1 ?g2 ?g3 ?g4 ?g5 ?g6 ?g7 ?g8 ?g9 ?g10 ?g11 ?g12 ?g13 ?g14 ?g16 ?g17 ?g19 ?g20 ?g21 ?g23 ?g25 ?g26 ?g27 ?g28 ?g29 ?ca0 ?ci0 ?cn0 ?cl0 ?cc0 ?ck0 ?cpg0 ?chd0 ?cpo0 ?csa0 ?cmk0 ?ckc0 ?cf0_leaf ?cf0_leasts ?cf0_most ?cf0_things ?ca1 ?ci1 ?cn1 ?cl1 ?cc1 ?ck1 ?cpg1 ?chd1 ?cpo1 ?csa1 ?cmk1 ?ckc1 ?cf1_root ?cf1_size ?a15 ?n15 ?l15 ?c15 ?k15 ?a18 ?n18 ?l18 ?c18 ?k18 ?a22 ?n22 ?l22 ?c22 ?k22 ?a24 ?n24 ?l24 ?c24 ?k24 ?xa0 ?xk0 ?xe0 ?xc0 ?xa1 ?xk1 ?xe1 ?xc1 ?xa2 ?xa3 ?xa4 ?xa5 ?xa6 ?xa7 ?xa8 ?ix_YardError ?ix_ValueError ?ix_Twice ?ix_NoEntry ?ix_BadBox ?ix_TooWide ?ix_OffFloor ?ix_Unmet ?ix_TextError ?ix_NoThing ?em_YardError_Twice ?em_YardError_NoEntry ?z_ValueError ?z_bool ?z_enumerate ?z_int ?z_isinstance ?z_len ?z_list ?z_max ?z_min ?z_range ?z_sorted ?z_str ?z_tuple ?z_zip
   all_goals (try exact⟨_,_,_,_,_,_,_,_,_,_,by k_is,by k_is,by k_is,by k_is⟩)
   all_goals (try k_is)
   all_goals kernel_rfl

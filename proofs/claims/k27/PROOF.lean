import PyProof.Rows.All
import OpenK.KLine
import KE.KItem
import Wide.Once
import Wide.FinOn
import Lean
import PyProof.EqAt
import PyProof.EqKinds
import PyProof.TupleCall
import KE.KDictList
import KE.KSortAsk
import PyProof.TupleKey
import KE.KIntText
import KE.IntTextLaws
import OpenK.KOwn
import KE.KIsAll
import PyProof.InstStoreFacts
import PyProof.MaxThree
import PyProof.WalkInts
import PyProof.MinMaxWalk
import KE.KSortTup
import KE.KRevIter
import PyProof.ListRange
import KE.RegMulBits
import PyProof.Rows.SumAny
import PyProof.Rows.RuleN_abs
import Wide.Seal
import PyProof.FactsAll.bool_1
import PyProof.DictRoadsH
import PyProof.Rows.CallKwBuiltin
import PyProof.ZipIter
import PyProof.RaisesMany
import PyProof.RulesAs
import KE.KTryMore
import PyProof.ReprRoads
import PyProof.ReprLen
import OpenK.KTop
import PySem.Challenge.RW_curveyard_k27_one_leaf
set_option Elab.async false
set_option Elab.async false
set_option linter.all false
set_option maxRecDepth 100000
set_option maxRecDepth 100000
noncomputable section
section
open PySem PySem.Spec PyProof.Rows
def Qq:=@Option.bind_eq_some_iff
def Qw:=@wpAny_bind
def Qe:=@Option.bind_some
def Qr:=@Heap.get?_push_of_some
def Qt:=@Option.map_eq_some_iff
def Qy:=@List.size_toArray
def Qu:=@Heap.lt_size
def Qi:=@wpAny_pure
def Qo:=@if_pos
def Qp:=@List.map_cons
def Qa:=@List.length_map
def Qs:=@List.length_cons
def Qd:=@Heap.get?_push_size
def Qf:=@List.getElem?_eq_some_iff
def Qg:=@if_neg
def Qh:=@List.mem_cons
def Qj:=@List.mem_cons_of_mem
def Qk:=@List.getElem?_set_ne
def Ql:=@List.length_append
def Qz:=@Nat.le_refl
def Qx:=@Nat.lt_of_lt_of_le
def Qc:=@decide_eq_true
def Qv:=@Option.some.inj
def Qb:=@Nat.ne_of_lt
def Qn:=@List.mem_cons_self
def Qm:=@List.getElem?_eq_getElem
def Wq:=@List.mem_append_right
def Ww:=@Bool.false_ne_true
def We:=@Nat.le_trans
def Wr:=@List.filter_cons
def Wt:=@Bool.and_eq_true
def Wy:=@Bool.false_eq_true
def Wu:=@List.getElem?_append_right
def Wi:=@List.getElem?_map
def Wo:=@sizeLine_eq
def Wp:=@Nat.le_of_lt
def Wa:=@List.getElem?_set_self
def Ws:=@List.getElem?_append_left
def Wd:=@List.find?_cons
def Wf:=@Nat.lt_irrefl
def Wg:=@Heap.get?_update_ne
def Wh:=@decide_eq_false
def Wj:=@List.getElem?_replicate
def Wk:=@List.lookup_cons
def Wl:=@Nat.zero_le
def Wz:=@PySem.mem_of_lookup
def Wx:=@List.append_nil
def Wc:=@Heap.get?_update_self
def Wv:=@List.zip_cons_cons
def Wb:=@wpAny_holding
def Wn:=@decide_eq_true_eq
def Wm:=@List.nodup_cons
def Ew:=@Heap.get?_update_other
def Ee:=@Array.getElem?_eq_some_iff
def Er:=@Paired.length
def Ey:=@wpAny_Call_Name_kw
def Eu:=@Around.under_plainId
def Ei:=@wpAny_mono
def Eo:=@Option.isSome_iff_exists
def Ep:=@wpAny_loadPart_at
def Ea:=@beq_eq_false_iff_ne
def Es:=@List.replicate_succ
def Ed:=@wpAny_call_entry
def Eg:=@beq_iff_eq
def Eh:=@congrArg
def Ej:=@wpAny_passesOwn
def Ek:=@Option.map_some
def El:=@PySem.W.kia_one
def Ez:=@codeAny_builtin
def Ex:=@wpAny_truthy_bool
def Ec:=@listUpdate_at
def Ev:=@List.getD_eq_getElem?_getD
def Eb:=@if_false
def En:=@Array.length_toList
def Em:=@List.map_map
def Rq:=@PySem.W.callWith_K
def Rw:=@tupleKind_room_in1
def Re:=@Bool.or_eq_true
def Rr:=@List.length_set
def Rt:=@wpAny_getItem_str_slice
def Ry:=@List.eraseIdx_cons_succ
def Ru:=@wpAny_newObj_type
def Ri:=@List.getElem?_set
def Ro:=@List.not_mem_nil
def Rp:=@plainId_quiet
def Ra:=@List.filterMap_cons
def Rs:=@Bool.eq_iff_iff
def Rf:=@get?_update_seq
def Rg:=@List.map_append
def Rh:=@PassesOwn.never
def Rj:=@List.mem_map_of_mem
def Rk:=@Array.perm_iff_toList_perm
def Rl:=@codeAny_mono
def Rz:=@Heap.size_push
def Rx:=@wpAny_tryCatch
def Rc:=@wpAny_standAt
def Rv:=@Nat.le_succ
def Rb:=@List.getElem?_cons_succ
def Rn:=@seqEpoch_at
def Rm:=@wpAny_newList
def Tq:=@wpAny_letGo
def Tw:=@List.filter_cons_of_neg
def Te:=@List.filter_cons_of_pos
def Tr:=@Array.getElem?_eq_none
def Tt:=@wpAny_execs_nil
def Tu:=@PySem.W.methodCall_KW
def Ti:=@List.length_replicate
def To:=@List.length_filter_le
def Tp:=@post_val_or_str
def Ta:=@Txt.slice_le
def Ts:=@List.length_zip
def Td:=@Array.getElem?_setIfInBounds_self_of_lt
def Tg:=@List.getElem?_eq_none
def Th:=@Nat.not_lt
def Tj:=@List.mem_append_left
def Tk:=@List.mem_of_getElem?
def Tl:=@codeAny_call_builtin
def Tz:=@Obj.data_mapDictKeys
def Tx:=@List.mem_range
def Tc:=@wpAny_seqItems
def Tv:=@PySem.W.plainGet_of
def Tb:=@mirror_perm
def Tn:=@Heap.SameBut.update
def Yq:=@List.filter_sublist
def Yw:=@Array.find?_toList
def Ye:=@List.mem_singleton
def Yr:=@wpAny_pyIter_list
def Yt:=@wpAny_call
def Yy:=@if_true
def Yu:=@Option.isSome_map
def Yi:=@bne_self_eq_false
def Yo:=@wpAny_dictEntries
def Yp:=@List.length_range
def Ya:=@Nat.le_of_eq
def Ys:=@listItems_at
def Yd:=@List.mem_map
def Yf:=@wpAny_execs_cons
def Yg:=@Nat.lt_succ_self
def Yh:=@List.length_take
def Yj:=@Heap.size_update
def Yk:=@beq_self_eq_true
def Yl:=@List.all_eq_true
def Yz:=@List.cons_append
def Yx:=@Array.toList_inj
def Yc:=@Array.toList_map
def Yv:=@List.mem_append
def Yb:=@PyProof.Rows.callWith_type1
def Yn:=@List.of_mem_zip
def Ym:=@SeqAt.EqAt.same
def Uq:=@wpAny_field
def Uw:=@size_of_entries
def Ue:=@wpAny_updateSeq
def Ur:=@Calls.Name_function_global
def Ut:=@wpAny_loadPart
def Uy:=@List.take_zero
def Uu:=@List.drop_eq_getElem_cons
def Ui:=@wpAny_newTuple
def Uo:=@Array.getElem?_eq_getElem
end
namespace L2
open PySem PySem.Spec PyProof.Rows
def zC (s:Stmt)(j:Nat):Stmt:=match s with
 | .ClassDef _ _ _ body _ _ _ _ _ _ _=>body.getD j (.Pass ⟨0,0,0,0⟩)
 | _=>.Pass ⟨0,0,0,0⟩
def zK (s:Stmt):Arguments:=match s with
 | .FunctionDef _ a _ _ _ _ _ _ _ _=>a
 | _=>{ posonlyargs:=[],args:=[],vararg:=none,kwonlyargs:=[],kw_defaults:=[],kwarg:=none,defaults:=[] }
def zQ (s:Stmt):List Stmt:=match s with
 | .FunctionDef _ _ b _ _ _ _ _ _ _=>b
 | _=>[]
def zX (s:Stmt):Scope:=match s with
 | .FunctionDef _ _ _ _ _ _ sc _ _ _=>sc
 | _=>{ kind:=.function,names:=[],isGenerator:=false,isCoroutine:=false }
end L2
namespace My
open PySem L2
def top (i:Nat):Stmt:=PySem.Challenge.pw_curveyard_k27_one_leaf.main.body.getD i (.Pass ⟨0,0,0,0⟩)
end My
namespace My
open PySem PySem.W L2 PyData
def bA:Params->Frag:=fun P =>
 (nat_lit 3,⟨.type "dict",none,.dict #[⟨keyHash P "__name__",.str "__name__" 165,.str "law_curveyard_k27_one_leaf" 427⟩,⟨keyHash P "__doc__",.str "__doc__" 166,.none⟩,⟨keyHash P "__package__",.str "__package__" 167,.none⟩,⟨keyHash P "__loader__",.str "__loader__" 168,.builtin "__main__.__loader__#opaque"⟩,⟨keyHash P "__spec__",.str "__spec__" 169,.none⟩,⟨keyHash P "__annotations__",.str "__annotations__" 170,.ref 6⟩,⟨keyHash P "__builtins__",.str "__builtins__" 171,.ref 4⟩,⟨keyHash P "__file__",.str "__file__" 173,.str "/claim/cut.py" 172⟩,⟨keyHash P "__cached__",.str "__cached__" 174,.none⟩,⟨keyHash P "_wall",.str "_wall" 193,.ref 21⟩,⟨keyHash P "YardError",.str "YardError" 213,.ref 31⟩,⟨keyHash P "Twice",.str "Twice" 229,.ref 44⟩,⟨keyHash P "NoEntry",.str "NoEntry" 245,.ref 56⟩,⟨keyHash P "Page",.str "Page" 277,.ref 73⟩,⟨keyHash P "rank",.str "rank" 287,.ref 84⟩,⟨keyHash P "way",.str "way" 293,.ref 89⟩,⟨keyHash P "entry_like",.str "entry_like" 299,.ref 94⟩,⟨keyHash P "put_beneath",.str "put_beneath" 310,.ref 101⟩,⟨keyHash P "taken_beneath",.str "taken_beneath" 316,.ref 106⟩,⟨keyHash P "pages_of",.str "pages_of" 326,.ref 113⟩,⟨keyHash P "filled",.str "filled" 332,.ref 118⟩,⟨keyHash P "root_of",.str "root_of" 340,.ref 125⟩,⟨keyHash P "entries_beneath",.str "entries_beneath" 349,.ref 132⟩,⟨keyHash P "shape_of",.str "shape_of" 355,.ref 137⟩,⟨keyHash P "Store",.str "Store" 426,.ref 189⟩,⟨keyHash P "_law_cell",.str "_law_cell" 436,.ref 200⟩,⟨keyHash P "_law_mixed",.str "_law_mixed" 445,.ref 207⟩,⟨keyHash P "_law_word",.str "_law_word" 460,.ref 214⟩,⟨keyHash P "_law_pool",.str "_law_pool" 466,.ref 219⟩,⟨keyHash P "_law_entry",.str "_law_entry" 480,.ref 226⟩,⟨keyHash P "_law_number",.str "_law_number" 487,.ref 233⟩,⟨keyHash P "_law_entries",.str "_law_entries" 497,.ref 240⟩,⟨keyHash P "_law_due",.str "_law_due" 503,.ref 245⟩,⟨keyHash P "_law_leaf",.str "_law_leaf" 513,.ref 252⟩,⟨keyHash P "_law_again",.str "_law_again" 523,.ref 259⟩,⟨keyHash P "law",.str "law" 542,.ref 266⟩] 36,#[]⟩) ::
 (nat_lit 20,⟨.type "code",none,.fields #[.str "_wall" 187,.str "_wall" 188,.str "/claim/cut.py" 189,.int 1 0,.int 1 0,.int 0 0,.int 0 0,.int 3 0,.ref 15,.bool true,.int 181 0,.ref 16,.none,.ref 17,.ref 18,.ref 19,.int 191 0,.int 1 0,.str "/claim/cut.py" 192],#[]⟩) ::
 (nat_lit 21,⟨.type "function",none,.func (fnOf "_wall" "_wall" (zK (top 0)) (zQ (top 0)) (zX (top 0)) (.none) (.none) (.none) (.str "__main__" 164) none (.ref 20) (.none)),#[]⟩) ::
 (nat_lit 30,⟨.type "dict",none,.dict #[⟨keyHash P "__module__",.str "__module__" 203,.str "curveyard.errors" 194⟩,⟨keyHash P "__firstlineno__",.str "__firstlineno__" 207,.int 5 206⟩,⟨keyHash P "__static_attributes__",.str "__static_attributes__" 208,.ref 29⟩,⟨keyHash P "__weakref__",.str "__weakref__" 210,.ref 32⟩,⟨keyHash P "__doc__",.str "__doc__" 211,.none⟩] 3,#[]⟩) ::
 (nat_lit 31,⟨.type "type",none,.cls { name:="YardError",bases:=[.type "ValueError"],mro:=[.ref 31,.type "ValueError",.type "Exception",.type "BaseException",.type "object"],ns:=30,qualname:="YardError",hasDict:=true,slotNames:=[],subclasses:=[.ref 44,.ref 56],abstract:=false,collection:=none,hasDel:=false },#[some (.ref 22),none,some (.str "YardError" 196),some (.str "YardError" 204),some (.builtin "ValueError.__new__"),some (.bool true)]⟩) ::
 (nat_lit 32,⟨.type "getset_descriptor",none,.fields #[.str "__weakref__" 209,.ref 31,.builtin "ExceptionGroup.__weakref__",.none],#[]⟩) ::
 (nat_lit 43,⟨.type "dict",none,.dict #[⟨keyHash P "__module__",.str "__module__" 221,.str "curveyard.errors" 194⟩,⟨keyHash P "__firstlineno__",.str "__firstlineno__" 225,.int 7 224⟩,⟨keyHash P "__static_attributes__",.str "__static_attributes__" 226,.ref 42⟩,⟨keyHash P "__doc__",.str "__doc__" 227,.none⟩] 2,#[]⟩) ::
 (nat_lit 44,⟨.type "type",none,.cls { name:="Twice",bases:=[.ref 31],mro:=[.ref 44,.ref 31,.type "ValueError",.type "Exception",.type "BaseException",.type "object"],ns:=43,qualname:="Twice",hasDict:=true,slotNames:=[],subclasses:=[],abstract:=false,collection:=none,hasDel:=false },#[some (.ref 35),none,some (.str "Twice" 214),some (.str "Twice" 222),some (.builtin "ValueError.__new__"),some (.bool true)]⟩) ::
 (nat_lit 55,⟨.type "dict",none,.dict #[⟨keyHash P "__module__",.str "__module__" 237,.str "curveyard.errors" 194⟩,⟨keyHash P "__firstlineno__",.str "__firstlineno__" 241,.int 9 240⟩,⟨keyHash P "__static_attributes__",.str "__static_attributes__" 242,.ref 54⟩,⟨keyHash P "__doc__",.str "__doc__" 243,.none⟩] 2,#[]⟩) ::
 (nat_lit 56,⟨.type "type",none,.cls { name:="NoEntry",bases:=[.ref 31],mro:=[.ref 56,.ref 31,.type "ValueError",.type "Exception",.type "BaseException",.type "object"],ns:=55,qualname:="NoEntry",hasDict:=true,slotNames:=[],subclasses:=[],abstract:=false,collection:=none,hasDel:=false },#[some (.ref 47),none,some (.str "NoEntry" 230),some (.str "NoEntry" 238),some (.builtin "ValueError.__new__"),some (.bool true)]⟩) ::
 (nat_lit 69,⟨.type "code",none,.fields #[.str "__init__" 260,.str "Page.__init__" 261,.str "/claim/cut.py" 262,.int 14 0,.int 3 0,.int 0 0,.int 0 0,.int 3 0,.ref 66,.bool true,.int 181 0,.ref 67,.none,.none,.none,.ref 68,.int 263 0,.int 14 0,.str "/claim/cut.py" 264],#[]⟩) ::
 (nat_lit 70,⟨.type "function",none,.func (fnOf "__init__" "Page.__init__" (zK (zC (top 6) 0)) (zQ (zC (top 6) 0)) (zX (zC (top 6) 0)) (.none) (.none) (.none) (.str "curveyard.pages" 246) none (.ref 69) (.none)),#[]⟩) ::
 (nat_lit 72,⟨.type "dict",none,.dict #[⟨keyHash P "__module__",.str "__module__" 255,.str "curveyard.pages" 246⟩,⟨keyHash P "__firstlineno__",.str "__firstlineno__" 259,.int 12 258⟩,⟨keyHash P "__init__",.str "__init__" 265,.ref 70⟩,⟨keyHash P "__static_attributes__",.str "__static_attributes__" 270,.ref 71⟩,⟨keyHash P "__dict__",.str "__dict__" 272,.ref 74⟩,⟨keyHash P "__weakref__",.str "__weakref__" 274,.ref 75⟩,⟨keyHash P "__doc__",.str "__doc__" 275,.none⟩] 4,#[]⟩) ::
 (nat_lit 73,⟨.type "type",none,.cls { name:="Page",bases:=[.type "object"],mro:=[.ref 73,.type "object"],ns:=72,qualname:="Page",hasDict:=true,slotNames:=[],subclasses:=[],abstract:=false,collection:=none,hasDel:=false },#[none,none,some (.str "Page" 248),some (.str "Page" 256),some (.builtin "object.__new__"),some (.bool true)]⟩) ::
 (nat_lit 74,⟨.type "getset_descriptor",none,.fields #[.str "__dict__" 271,.ref 73,.builtin "function.__dict__",.builtin "function.__dict__#set"],#[]⟩) ::
 (nat_lit 75,⟨.type "getset_descriptor",none,.fields #[.str "__weakref__" 273,.ref 73,.builtin "ExceptionGroup.__weakref__",.none],#[]⟩) ::
 (nat_lit 83,⟨.type "code",none,.fields #[.str "rank" 278,.str "rank" 279,.str "/claim/cut.py" 280,.int 20 0,.int 1 0,.int 0 0,.int 0 0,.int 3 0,.ref 78,.bool true,.int 181 0,.ref 79,.none,.ref 80,.ref 81,.ref 82,.int 285 0,.int 20 0,.str "/claim/cut.py" 286],#[]⟩) ::
 (nat_lit 84,⟨.type "function",none,.func (fnOf "rank" "rank" (zK (top 7)) (zQ (top 7)) (zX (top 7)) (.none) (.none) (.none) (.str "curveyard.pages" 246) none (.ref 83) (.none)),#[]⟩) ::
 (nat_lit 88,⟨.type "code",none,.fields #[.str "way" 288,.str "way" 289,.str "/claim/cut.py" 290,.int 23 0,.int 2 0,.int 0 0,.int 0 0,.int 3 0,.ref 85,.bool true,.int 181 0,.ref 86,.none,.none,.none,.ref 87,.int 291 0,.int 23 0,.str "/claim/cut.py" 292],#[]⟩) ::
 (nat_lit 89,⟨.type "function",none,.func (fnOf "way" "way" (zK (top 8)) (zQ (top 8)) (zX (top 8)) (.none) (.none) (.none) (.str "curveyard.pages" 246) none (.ref 88) (.none)),#[]⟩) ::
 (nat_lit 93,⟨.type "code",none,.fields #[.str "entry_like" 294,.str "entry_like" 295,.str "/claim/cut.py" 296,.int 26 0,.int 2 0,.int 0 0,.int 0 0,.int 3 0,.ref 90,.bool true,.int 181 0,.ref 91,.none,.none,.none,.ref 92,.int 297 0,.int 26 0,.str "/claim/cut.py" 298],#[]⟩) ::
 (nat_lit 94,⟨.type "function",none,.func (fnOf "entry_like" "entry_like" (zK (top 9)) (zQ (top 9)) (zX (top 9)) (.none) (.none) (.none) (.str "curveyard.pages" 246) none (.ref 93) (.none)),#[]⟩) ::
 (nat_lit 100,⟨.type "code",none,.fields #[.str "put_beneath" 300,.str "put_beneath" 301,.str "/claim/cut.py" 302,.int 31 0,.int 3 0,.int 0 0,.int 0 0,.int 3 0,.ref 95,.bool true,.int 181 0,.ref 96,.none,.ref 97,.ref 98,.ref 99,.int 308 0,.int 31 0,.str "/claim/cut.py" 309],#[]⟩) ::
 (nat_lit 101,⟨.type "function",none,.func (fnOf "put_beneath" "put_beneath" (zK (top 10)) (zQ (top 10)) (zX (top 10)) (.none) (.none) (.none) (.str "curveyard.pages" 246) none (.ref 100) (.none)),#[]⟩) ::
 (nat_lit 105,⟨.type "code",none,.fields #[.str "taken_beneath" 311,.str "taken_beneath" 312,.str "/claim/cut.py" 313,.int 37 0,.int 3 0,.int 0 0,.int 0 0,.int 3 0,.ref 102,.bool true,.int 181 0,.ref 103,.none,.none,.none,.ref 104,.int 314 0,.int 37 0,.str "/claim/cut.py" 315],#[]⟩) ::
 (nat_lit 106,⟨.type "function",none,.func (fnOf "taken_beneath" "taken_beneath" (zK (top 11)) (zQ (top 11)) (zX (top 11)) (.none) (.none) (.none) (.str "curveyard.pages" 246) none (.ref 105) (.none)),#[]⟩) ::
 (nat_lit 112,⟨.type "code",none,.fields #[.str "pages_of" 317,.str "pages_of" 318,.str "/claim/cut.py" 319,.int 43 0,.int 3 0,.int 0 0,.int 0 0,.int 3 0,.ref 107,.bool true,.int 181 0,.ref 108,.none,.ref 109,.ref 110,.ref 111,.int 324 0,.int 43 0,.str "/claim/cut.py" 325],#[]⟩) ::
 (nat_lit 113,⟨.type "function",none,.func (fnOf "pages_of" "pages_of" (zK (top 12)) (zQ (top 12)) (zX (top 12)) (.none) (.none) (.none) (.str "curveyard.pages" 246) none (.ref 112) (.none)),#[]⟩) ::
 (nat_lit 117,⟨.type "code",none,.fields #[.str "filled" 327,.str "filled" 328,.str "/claim/cut.py" 329,.int 50 0,.int 2 0,.int 0 0,.int 0 0,.int 3 0,.ref 114,.bool true,.int 181 0,.ref 115,.none,.none,.none,.ref 116,.int 330 0,.int 50 0,.str "/claim/cut.py" 331],#[]⟩) ::
 (nat_lit 118,⟨.type "function",none,.func (fnOf "filled" "filled" (zK (top 13)) (zQ (top 13)) (zX (top 13)) (.none) (.none) (.none) (.str "curveyard.pages" 246) none (.ref 117) (.none)),#[]⟩) ::
 (nat_lit 124,⟨.type "code",none,.fields #[.str "root_of" 333,.str "root_of" 334,.str "/claim/cut.py" 335,.int 59 0,.int 1 0,.int 0 0,.int 0 0,.int 3 0,.ref 119,.bool true,.int 181 0,.ref 120,.none,.ref 121,.ref 122,.ref 123,.int 338 0,.int 59 0,.str "/claim/cut.py" 339],#[]⟩) ::
 (nat_lit 125,⟨.type "function",none,.func (fnOf "root_of" "root_of" (zK (top 14)) (zQ (top 14)) (zX (top 14)) (.none) (.none) (.none) (.str "curveyard.pages" 246) none (.ref 124) (.none)),#[]⟩) ::
 (nat_lit 131,⟨.type "code",none,.fields #[.str "entries_beneath" 341,.str "entries_beneath" 342,.str "/claim/cut.py" 343,.int 66 0,.int 1 0,.int 0 0,.int 0 0,.int 3 0,.ref 126,.bool true,.int 181 0,.ref 127,.none,.ref 128,.ref 129,.ref 130,.int 347 0,.int 66 0,.str "/claim/cut.py" 348],#[]⟩) ::
 (nat_lit 132,⟨.type "function",none,.func (fnOf "entries_beneath" "entries_beneath" (zK (top 15)) (zQ (top 15)) (zX (top 15)) (.none) (.none) (.none) (.str "curveyard.pages" 246) none (.ref 131) (.none)),#[]⟩) ::
 (nat_lit 136,⟨.type "code",none,.fields #[.str "shape_of" 350,.str "shape_of" 351,.str "/claim/cut.py" 352,.int 73 0,.int 1 0,.int 0 0,.int 0 0,.int 3 0,.ref 133,.bool true,.int 181 0,.ref 134,.none,.none,.none,.ref 135,.int 353 0,.int 73 0,.str "/claim/cut.py" 354],#[]⟩) ::
 (nat_lit 137,⟨.type "function",none,.func (fnOf "shape_of" "shape_of" (zK (top 16)) (zQ (top 16)) (zX (top 16)) (.none) (.none) (.none) (.str "curveyard.pages" 246) none (.ref 136) (.none)),#[]⟩) ::
 (nat_lit 150,⟨.type "code",none,.fields #[.str "__init__" 370,.str "Store.__init__" 371,.str "/claim/cut.py" 372,.int 80 0,.int 2 0,.int 0 0,.int 0 0,.int 3 0,.ref 145,.bool true,.int 181 0,.ref 146,.none,.ref 147,.ref 148,.ref 149,.int 375 0,.int 80 0,.str "/claim/cut.py" 376],#[]⟩) ::
 (nat_lit 151,⟨.type "function",none,.func (fnOf "__init__" "Store.__init__" (zK (zC (top 18) 0)) (zQ (zC (top 18) 0)) (zX (zC (top 18) 0)) (.none) (.none) (.none) (.str "curveyard.store" 356) none (.ref 150) (.none)),#[]⟩) ::
 (nat_lit 157,⟨.type "code",none,.fields #[.str "put" 378,.str "Store.put" 379,.str "/claim/cut.py" 380,.int 84 0,.int 2 0,.int 0 0,.int 0 0,.int 3 0,.ref 152,.bool true,.int 181 0,.ref 153,.none,.ref 154,.ref 155,.ref 156,.int 383 0,.int 84 0,.str "/claim/cut.py" 384],#[]⟩) ::
 (nat_lit 158,⟨.type "function",none,.func (fnOf "put" "Store.put" (zK (zC (top 18) 1)) (zQ (zC (top 18) 1)) (zX (zC (top 18) 1)) (.none) (.none) (.none) (.str "curveyard.store" 356) none (.ref 157) (.none)),#[]⟩) ::
 (nat_lit 164,⟨.type "code",none,.fields #[.str "take" 386,.str "Store.take" 387,.str "/claim/cut.py" 388,.int 89 0,.int 2 0,.int 0 0,.int 0 0,.int 3 0,.ref 159,.bool true,.int 181 0,.ref 160,.none,.ref 161,.ref 162,.ref 163,.int 391 0,.int 89 0,.str "/claim/cut.py" 392],#[]⟩) ::
 (nat_lit 165,⟨.type "function",none,.func (fnOf "take" "Store.take" (zK (zC (top 18) 2)) (zQ (zC (top 18) 2)) (zX (zC (top 18) 2)) (.none) (.none) (.none) (.str "curveyard.store" 356) none (.ref 164) (.none)),#[]⟩) ::
 (nat_lit 171,⟨.type "code",none,.fields #[.str "listed" 394,.str "Store.listed" 395,.str "/claim/cut.py" 396,.int 94 0,.int 1 0,.int 0 0,.int 0 0,.int 3 0,.ref 166,.bool true,.int 181 0,.ref 167,.none,.ref 168,.ref 169,.ref 170,.int 398 0,.int 94 0,.str "/claim/cut.py" 399],#[]⟩) ::
 (nat_lit 172,⟨.type "function",none,.func (fnOf "listed" "Store.listed" (zK (zC (top 18) 3)) (zQ (zC (top 18) 3)) (zX (zC (top 18) 3)) (.none) (.none) (.none) (.str "curveyard.store" 356) none (.ref 171) (.none)),#[]⟩) ::
 (nat_lit 178,⟨.type "code",none,.fields #[.str "crossing" 401,.str "Store.crossing" 402,.str "/claim/cut.py" 403,.int 97 0,.int 3 0,.int 0 0,.int 0 0,.int 3 0,.ref 173,.bool true,.int 181 0,.ref 174,.none,.ref 175,.ref 176,.ref 177,.int 407 0,.int 97 0,.str "/claim/cut.py" 408],#[]⟩) ::
 (nat_lit 179,⟨.type "function",none,.func (fnOf "crossing" "Store.crossing" (zK (zC (top 18) 4)) (zQ (zC (top 18) 4)) (zX (zC (top 18) 4)) (.none) (.none) (.none) (.str "curveyard.store" 356) none (.ref 178) (.none)),#[]⟩) ::
 (nat_lit 185,⟨.type "code",none,.fields #[.str "shape" 410,.str "Store.shape" 411,.str "/claim/cut.py" 412,.int 100 0,.int 1 0,.int 0 0,.int 0 0,.int 3 0,.ref 180,.bool true,.int 181 0,.ref 181,.none,.ref 182,.ref 183,.ref 184,.int 414 0,.int 100 0,.str "/claim/cut.py" 415],#[]⟩) ::
 (nat_lit 186,⟨.type "function",none,.func (fnOf "shape" "Store.shape" (zK (zC (top 18) 5)) (zQ (zC (top 18) 5)) (zX (zC (top 18) 5)) (.none) (.none) (.none) (.str "curveyard.store" 356) none (.ref 185) (.none)),#[]⟩) ::
 (nat_lit 188,⟨.type "dict",none,.dict #[⟨keyHash P "__module__",.str "__module__" 365,.str "curveyard.store" 356⟩,⟨keyHash P "__firstlineno__",.str "__firstlineno__" 369,.int 78 368⟩,⟨keyHash P "__init__",.str "__init__" 377,.ref 151⟩,⟨keyHash P "put",.str "put" 385,.ref 158⟩,⟨keyHash P "take",.str "take" 393,.ref 165⟩,⟨keyHash P "listed",.str "listed" 400,.ref 172⟩,⟨keyHash P "crossing",.str "crossing" 409,.ref 179⟩,⟨keyHash P "shape",.str "shape" 416,.ref 186⟩,⟨keyHash P "__static_attributes__",.str "__static_attributes__" 419,.ref 187⟩,⟨keyHash P "__dict__",.str "__dict__" 421,.ref 190⟩,⟨keyHash P "__weakref__",.str "__weakref__" 423,.ref 191⟩,⟨keyHash P "__doc__",.str "__doc__" 424,.none⟩] 4,#[]⟩) ::
 (nat_lit 189,⟨.type "type",none,.cls { name:="Store",bases:=[.type "object"],mro:=[.ref 189,.type "object"],ns:=188,qualname:="Store",hasDict:=true,slotNames:=[],subclasses:=[],abstract:=false,collection:=none,hasDel:=false },#[none,none,some (.str "Store" 358),some (.str "Store" 366),some (.builtin "object.__new__"),some (.bool true)]⟩) ::
 (nat_lit 190,⟨.type "getset_descriptor",none,.fields #[.str "__dict__" 420,.ref 189,.builtin "function.__dict__",.builtin "function.__dict__#set"],#[]⟩) ::
 (nat_lit 191,⟨.type "getset_descriptor",none,.fields #[.str "__weakref__" 422,.ref 189,.builtin "ExceptionGroup.__weakref__",.none],#[]⟩) ::
 (nat_lit 199,⟨.type "code",none,.fields #[.str "_law_cell" 429,.str "_law_cell" 430,.str "/claim/cut.py" 431,.int 103 0,.int 2 0,.int 0 0,.int 0 0,.int 3 0,.ref 194,.bool true,.int 181 0,.ref 195,.none,.ref 196,.ref 197,.ref 198,.int 434 0,.int 103 0,.str "/claim/cut.py" 435],#[]⟩) ::
 (nat_lit 200,⟨.type "function",none,.func (fnOf "_law_cell" "_law_cell" (zK (top 20)) (zQ (top 20)) (zX (top 20)) (.none) (.none) (.none) (.str "law_curveyard_k27_one_leaf" 427) none (.ref 199) (.none)),#[]⟩) ::
 (nat_lit 206,⟨.type "code",none,.fields #[.str "_law_mixed" 437,.str "_law_mixed" 438,.str "/claim/cut.py" 439,.int 107 0,.int 2 0,.int 0 0,.int 0 0,.int 3 0,.ref 201,.bool true,.int 181 0,.ref 202,.none,.ref 203,.ref 204,.ref 205,.int 443 0,.int 107 0,.str "/claim/cut.py" 444],#[]⟩) ::
 (nat_lit 207,⟨.type "function",none,.func (fnOf "_law_mixed" "_law_mixed" (zK (top 21)) (zQ (top 21)) (zX (top 21)) (.none) (.none) (.none) (.str "law_curveyard_k27_one_leaf" 427) none (.ref 206) (.none)),#[]⟩) ::
 (nat_lit 213,⟨.type "code",none,.fields #[.str "_law_word" 446,.str "_law_word" 447,.str "/claim/cut.py" 448,.int 111 0,.int 2 0,.int 0 0,.int 0 0,.int 3 0,.ref 208,.bool true,.int 181 0,.ref 209,.none,.ref 210,.ref 211,.ref 212,.int 458 0,.int 111 0,.str "/claim/cut.py" 459],#[]⟩) ::
 (nat_lit 214,⟨.type "function",none,.func (fnOf "_law_word" "_law_word" (zK (top 22)) (zQ (top 22)) (zX (top 22)) (.none) (.none) (.none) (.str "law_curveyard_k27_one_leaf" 427) none (.ref 213) (.none)),#[]⟩) ::
 (nat_lit 218,⟨.type "code",none,.fields #[.str "_law_pool" 461,.str "_law_pool" 462,.str "/claim/cut.py" 463,.int 121 0,.int 1 0,.int 0 0,.int 0 0,.int 3 0,.ref 215,.bool true,.int 181 0,.ref 216,.none,.none,.none,.ref 217,.int 464 0,.int 121 0,.str "/claim/cut.py" 465],#[]⟩) ::
 (nat_lit 219,⟨.type "function",none,.func (fnOf "_law_pool" "_law_pool" (zK (top 23)) (zQ (top 23)) (zX (top 23)) (.none) (.none) (.none) (.str "law_curveyard_k27_one_leaf" 427) none (.ref 218) (.none)),#[]⟩) ::
 (nat_lit 225,⟨.type "code",none,.fields #[.str "_law_entry" 467,.str "_law_entry" 468,.str "/claim/cut.py" 469,.int 124 0,.int 3 0,.int 0 0,.int 0 0,.int 3 0,.ref 220,.bool true,.int 181 0,.ref 221,.none,.ref 222,.ref 223,.ref 224,.int 478 0,.int 124 0,.str "/claim/cut.py" 479],#[]⟩) ::
 (nat_lit 226,⟨.type "function",none,.func (fnOf "_law_entry" "_law_entry" (zK (top 24)) (zQ (top 24)) (zX (top 24)) (.none) (.none) (.none) (.str "law_curveyard_k27_one_leaf" 427) none (.ref 225) (.none)),#[]⟩) ::
 (nat_lit 232,⟨.type "code",none,.fields #[.str "_law_number" 481,.str "_law_number" 482,.str "/claim/cut.py" 483,.int 134 0,.int 1 0,.int 0 0,.int 0 0,.int 3 0,.ref 227,.bool true,.int 181 0,.ref 228,.none,.ref 229,.ref 230,.ref 231,.int 485 0,.int 134 0,.str "/claim/cut.py" 486],#[]⟩) ::
 (nat_lit 233,⟨.type "function",none,.func (fnOf "_law_number" "_law_number" (zK (top 25)) (zQ (top 25)) (zX (top 25)) (.none) (.none) (.none) (.str "law_curveyard_k27_one_leaf" 427) none (.ref 232) (.none)),#[]⟩) ::
 (nat_lit 239,⟨.type "code",none,.fields #[.str "_law_entries" 488,.str "_law_entries" 489,.str "/claim/cut.py" 490,.int 136 0,.int 2 0,.int 0 0,.int 0 0,.int 3 0,.ref 234,.bool true,.int 181 0,.ref 235,.none,.ref 236,.ref 237,.ref 238,.int 495 0,.int 136 0,.str "/claim/cut.py" 496],#[]⟩) ::
 (nat_lit 240,⟨.type "function",none,.func (fnOf "_law_entries" "_law_entries" (zK (top 26)) (zQ (top 26)) (zX (top 26)) (.none) (.none) (.none) (.str "law_curveyard_k27_one_leaf" 427) none (.ref 239) (.none)),#[]⟩) ::
 (nat_lit 244,⟨.type "code",none,.fields #[.str "_law_due" 498,.str "_law_due" 499,.str "/claim/cut.py" 500,.int 146 0,.int 1 0,.int 0 0,.int 0 0,.int 3 0,.ref 241,.bool true,.int 181 0,.ref 242,.none,.none,.none,.ref 243,.int 501 0,.int 146 0,.str "/claim/cut.py" 502],#[]⟩) ::
 (nat_lit 245,⟨.type "function",none,.func (fnOf "_law_due" "_law_due" (zK (top 27)) (zQ (top 27)) (zX (top 27)) (.none) (.none) (.none) (.str "law_curveyard_k27_one_leaf" 427) none (.ref 244) (.none)),#[]⟩) ::
 (nat_lit 251,⟨.type "code",none,.fields #[.str "_law_leaf" 504,.str "_law_leaf" 505,.str "/claim/cut.py" 506,.int 148 0,.int 2 0,.int 0 0,.int 0 0,.int 3 0,.ref 246,.bool true,.int 181 0,.ref 247,.none,.ref 248,.ref 249,.ref 250,.int 511 0,.int 148 0,.str "/claim/cut.py" 512],#[]⟩) ::
 (nat_lit 252,⟨.type "function",none,.func (fnOf "_law_leaf" "_law_leaf" (zK (top 28)) (zQ (top 28)) (zX (top 28)) (.none) (.none) (.none) (.str "law_curveyard_k27_one_leaf" 427) none (.ref 251) (.none)),#[]⟩) ::
 (nat_lit 258,⟨.type "code",none,.fields #[.str "_law_again" 514,.str "_law_again" 515,.str "/claim/cut.py" 516,.int 154 0,.int 2 0,.int 0 0,.int 0 0,.int 3 0,.ref 253,.bool true,.int 181 0,.ref 254,.none,.ref 255,.ref 256,.ref 257,.int 521 0,.int 154 0,.str "/claim/cut.py" 522],#[]⟩) ::
 (nat_lit 259,⟨.type "function",none,.func (fnOf "_law_again" "_law_again" (zK (top 29)) (zQ (top 29)) (zX (top 29)) (.none) (.none) (.none) (.str "law_curveyard_k27_one_leaf" 427) none (.ref 258) (.none)),#[]⟩) ::
 (nat_lit 265,⟨.type "code",none,.fields #[.str "law" 524,.str "law" 525,.str "/claim/cut.py" 526,.int 161 0,.int 1 0,.int 0 0,.int 0 0,.int 3 0,.ref 260,.bool true,.int 181 0,.ref 261,.none,.ref 262,.ref 263,.ref 264,.int 540 0,.int 161 0,.str "/claim/cut.py" 541],#[]⟩) ::
 (nat_lit 266,⟨.type "function",none,.func (fnOf "law" "law" (zK (top 30)) (zQ (top 30)) (zX (top 30)) (.none) (.none) (.none) (.str "law_curveyard_k27_one_leaf" 427) none (.ref 265) (.none)),#[]⟩)::[]
def qZ:Program:=view PySem.Challenge.pw_curveyard_k27_one_leaf [30]
def loose:List Str:="_wall"::"YardError"::"Twice"::"NoEntry"::"Page"::"rank"::"way"::"entry_like"::"put_beneath"::"taken_beneath"::"pages_of"::"filled"::"root_of"::"entries_beneath"::"shape_of"::"Store"::"_law_cell"::"_law_mixed"::"_law_word"::"_law_pool"::"_law_entry"::"_law_number"::"_law_entries"::"_law_due"::"_law_leaf"::"_law_again"::[]
def zVy:List Addr:=nat_lit 3::nat_lit 20::nat_lit 21::nat_lit 30::nat_lit 31::nat_lit 32::nat_lit 43::nat_lit 44::nat_lit 55::nat_lit 56::nat_lit 69::nat_lit 70::nat_lit 72::nat_lit 73::nat_lit 74::nat_lit 75::nat_lit 83::nat_lit 84::nat_lit 88::nat_lit 89::nat_lit 93::nat_lit 94::nat_lit 100::nat_lit 101::nat_lit 105::nat_lit 106::nat_lit 112::nat_lit 113::nat_lit 117::nat_lit 118::nat_lit 124::nat_lit 125::nat_lit 131::nat_lit 132::nat_lit 136::nat_lit 137::nat_lit 150::nat_lit 151::nat_lit 157::nat_lit 158::nat_lit 164::nat_lit 165::nat_lit 171::nat_lit 172::nat_lit 178::nat_lit 179::nat_lit 185::nat_lit 186::nat_lit 188::nat_lit 189::nat_lit 190::nat_lit 191::nat_lit 199::nat_lit 200::nat_lit 206::nat_lit 207::nat_lit 213::nat_lit 214::nat_lit 218::nat_lit 219::nat_lit 225::nat_lit 226::nat_lit 232::nat_lit 233::nat_lit 239::nat_lit 240::nat_lit 244::nat_lit 245::nat_lit 251::nat_lit 252::nat_lit 258::nat_lit 259::nat_lit 265::nat_lit 266::[]
theorem dY (P:Params):zVy=(bA P).map (fun x=>x.1):=by kernel_rfl
abbrev hook:Hook:=kHook bA zVy dY
abbrev zVz (s:Shared):Bool:=xlAt qZ [] s&&recOk (RowW.records PySem.Challenge.rw_curveyard_k27_one_leaf.row.toRowW) s
theorem zXe (w:World):(openEnds treeTable PySem.Challenge.rw_curveyard_k27_one_leaf.row.prog w 3966).map (fun s=>openSeen qZ loose (importedModules PySem.Challenge.rw_curveyard_k27_one_leaf.row.prog.main.body) zVz true s)=some (openGood qZ loose):=by kernel_rfl
theorem zXp (w:World):(openEnds treeTable PySem.Challenge.rw_curveyard_k27_one_leaf.row.prog w 3966).map hook.obs=some (hook.val w):=by kernel_rfl
theorem zWl {α β γ:Type}{x:Option α}{f:α->β}{g:α->γ}{a:β}{b:γ}(h1:x.map f=some a)(h2:x.map g=some b):x.map (fun s=>(f s,g s))=some (a,b):=by
 cases x with
 | none=>cases h1
 | some s=>cases h1;cases h2;rfl
theorem zWj:LeftO PySem.Challenge.rw_curveyard_k27_one_leaf.row.prog qZ loose zVz hook.obs hook.val 3966:=fun w=>zWl (zXe w) (zXp w)
theorem zXq:PySem.Challenge.rw_curveyard_k27_one_leaf.row.wellSaid=true:=by kernel_rfl
theorem zVK:PySem.W.OpenLaw.wellSaid PySem.Challenge.rw_curveyard_k27_one_leaf=true:=by
 unfold PySem.W.OpenLaw.wellSaid
 rw[zXq]
 kernel_rfl
end My
namespace L2
open PySem PySem.Spec PyProof.Rows
abbrev Key:=Sum Int Str
def jE:Key->Value->Bool
 | .inl k,v=>Value.isInt k v
 | .inr x,v=>Value.isStrOf x v
def zSO (w:World):Key->Int
 | .inl k=>hashInt k
 | .inr x=>hashStr w x
theorem yQ:∀ {k:Key} {v:Value},jE k v=true->(∃i t,k=Sum.inl i/\v=Value.int i t)∨(∃x t,k=Sum.inr x/\v=Value.str x t)
 | .inl i,v,h=>by
   obtain⟨t,e⟩:=Value.isInt_shape (k:=i) (v:=v) h
   exact .inl ⟨i,t,rfl,e⟩
 | .inr x,v,h=>by
   obtain⟨t,e⟩:=Value.isStrOf_shape (x:=x) (v:=v) h
   exact .inr ⟨x,t,rfl,e⟩
theorem zZ1 (i:Int)(t:Tok):jE (.inl i) (.int i t)=true:=by simp[jE,Value.isInt]
theorem zYN (x:Str)(t:Tok):jE (.inr x) (.str x t)=true:=by simp[jE,Value.isStrOf]
theorem zVm (a b:Int):decide ((Sum.inl a:Key)=Sum.inl b)=(a==b):=by
 by_cases e:a=b
 · subst e;simp
 · have h:¬(Sum.inl a:Key)=Sum.inl b:=fun q=>e (Sum.inl.inj q)
   rw[Wh h]
   exact(Ea.mpr e).symm
theorem zUu (a b:Str):decide ((Sum.inr a:Key)=Sum.inr b)=decide (a=b):=by
 by_cases e:a=b
 · subst e;simp
 · have h:¬(Sum.inr a:Key)=Sum.inr b:=fun q=>e (Sum.inr.inj q)
   rw[Wh h,Wh e]
theorem zUI (a:Int)(b:Str):decide ((Sum.inl a:Key)=Sum.inr b)=false:=Wh (fun q=>nomatch q)
theorem zU2 (a:Str)(b:Int):decide ((Sum.inr a:Key)=Sum.inl b)=false:=Wh (fun q=>nomatch q)
def z5 (prog:Program)(w:World):PySem.KeyKind prog w Key where
 is:=jE
 hash:=zSO w
 inj:=fun v a b ha hb=>by
   rcases yQ ha with⟨i,t,rfl,rfl⟩ | ⟨x,t,rfl,rfl⟩
   · rcases yQ hb with⟨j,u,rfl,e⟩ | ⟨y,u,rfl,e⟩
     · injection e with e1 _;rw[e1]
     · exact nomatch e
   · rcases yQ hb with⟨j,u,rfl,e⟩ | ⟨y,u,rfl,e⟩
     · exact nomatch e
     · injection e with e1 _;rw[e1]
 byValue:=fun k v h=>by
   rcases yQ h with⟨i,t,rfl,rfl⟩ | ⟨x,t,rfl,rfl⟩<;>rfl
 pyHash:=fun hv h=>by
   rcases yQ hv with⟨i,t,rfl,rfl⟩ | ⟨x,t,rfl,rfl⟩
   · exact wpAny_pyHash_int h
   · exact wpAny_pyHash_str h
 eqBool:=fun hu hv h=>by
   rcases yQ hu with⟨i,t,rfl,rfl⟩ | ⟨x,t,rfl,rfl⟩
   · rcases yQ hv with⟨j,u,rfl,rfl⟩ | ⟨y,u,rfl,rfl⟩
     · rw[zVm] at h;exact wpAny_eqBool_int h
     · rw[zUI] at h;exact SeqAt.EqAt.int_str i t y u _ _ _ _ h
   · rcases yQ hv with⟨j,u,rfl,rfl⟩ | ⟨y,u,rfl,rfl⟩
     · rw[zU2] at h;exact SeqAt.EqAt.str_int x t j u _ _ _ _ h
     · rw[zUu] at h;exact wpAny_eqBool_str h
 «strs» := fun k x t v h=>by
   rcases yQ h with⟨i,u,rfl,e⟩ | ⟨y,u,rfl,e⟩
   · exact nomatch e
   · injection e with e1 _
     subst e1
     cases v<;>rfl
theorem dG (prog:Program)(w:World)(i:Int)(t:Tok):(z5 prog w).is (.inl i) (.int i t)=true:=zZ1 i t
theorem dD (prog:Program)(w:World)(x:Str)(t:Tok):(z5 prog w).is (.inr x) (.str x t)=true:=zYN x t
inductive V where
 | non | bl (b:Bool) | int (i:Int) | str (x:Str) | byt (b:Array UInt8) | flt (b:UInt64) | ref (a:Addr) | ty (n:String)
 deriving DecidableEq
def RelV:V->Value->Prop
 | .non,u=>u=Value.none
 | .bl b,u=>u=Value.bool b
 | .int i,u=>∃t,u=Value.int i t
 | .str x,u=>∃t,u=Value.str x t
 | .byt b,u=>∃t,u=Value.bytes b t
 | .flt b,u=>∃t,u=Value.float b t
 | .ref a,u=>u=Value.ref a
 | .ty n,u=>u=Value.type n
abbrev Vals:List V->List Value->Prop:=Paired RelV
theorem Vals.length {xs:List V}{us:List Value}(r:Vals xs us):xs.length=us.length:=Er r
theorem Vals.get:∀ {xs:List V} {us:List Value} {i:Nat} {x:V},Vals xs us->xs[i]?=some x->∃u,us[i]?=some u/\RelV x u
 | _,_,_,_,.nil,e=>by simp at e
 | _,_,0,_,.cons r _,e=>by simp at e;subst e;exact⟨_,rfl,r⟩
 | _,_,i+1,x,.cons _ t,e=>by
   obtain⟨u,h1,h2⟩:=Vals.get (i:=i) (x:=x) t (by simpa using e)
   exact⟨u,by simpa using h1,h2⟩
theorem Vals.append:∀ {xs ys:List V} {us ws:List Value},Vals xs us->Vals ys ws->Vals (xs++ys) (us++ws)
 | _,_,_,_,.nil,s=>s
 | _,_,_,_,.cons r t,s=>.cons r (Vals.append t s)
theorem Vals.take:∀ {xs:List V} {us:List Value} (n:Nat),Vals xs us->Vals (xs.take n) (us.take n)
 | _,_,0,_=>.nil
 | _,_,_+1,.nil=>.nil
 | _,_,n+1,.cons r t=>.cons r (Vals.take n t)
theorem Vals.drop:∀ {xs:List V} {us:List Value} (n:Nat),Vals xs us->Vals (xs.drop n) (us.drop n)
 | _,_,0,r=>r
 | _,_,_+1,.nil=>.nil
 | _,_,n+1,.cons _ t=>Vals.drop n t
def RelO:Option V->Option Value->Prop
 | some v,some u=>RelV v u
 | none,none=>True
 | _,_=>False
def KV {κ:Type}:List (κ×V)->List (κ×Value)->Prop:=Paired fun(p:κ×V) (q:κ×Value)=>p.1=q.1/\RelV p.2 q.2
def kV:Key->V
 | .inl i=>.int i
 | .inr x=>.str x
inductive HO where
 /-- a list -/
 | lst (xs:List V)
 /-- a tuple (never changes) -/
 | tup (xs:List V)
 /-- a dict whose keys are ints and texts; one whose keys are tuples of ints and texts (the empty one is both) -/
 | dK (kvs:List (Key×V)) | dT (kvs:List (List Key×V))
 /-- a set of ints: its members, its size -/
 | set (S:Int->Bool) (n:Nat)
 /-- an instance of the class at C, its dict at dx, its attributes -/
 | ins (C dx:Addr) (fs:List (Str×V))
 /-- the dict of the instance at x -/
 | own (x:Addr)
 /-- the dict of an exception -/
 | xd (fs:List (Str×V))
 /-- a bound method, f of x -/
 | met (f x:Addr)
 /-- a range object lo, lo + 1, .. below hi -/
 | rng (lo hi:Int)
 /-- a thing that is known to the object (the script; a dict while a loop walks it): read, never written while it is so -/
 | frz (o:Obj) (u:HO)
 /-- a code object's table -/
 | tbl (ps:Array Value)
 /-- any other thing, by what is true of its one object (a def of one's own: SetO a S n := HO.ext fun h => ..) -/
 | ext (φ:Heap->Prop)
abbrev Hp:=Addr->Option HO
def upd (H:Hp)(a:Addr)(o:HO):Hp:=fun b=>if b=a then some o else H b
theorem zN {H:Hp}{a:Addr}{o:HO}:upd H a o a=some o:=by unfold upd;rw[Qo rfl]
theorem zO {H:Hp}{a b:Addr}{o:HO}(h:b≠a):upd H a o b=H b:=by unfold upd;rw[Qg h]
theorem zV9 {H:Hp}{a b:Addr}{o u:HO}(h:H a=some o)(h':H b=some u)(d:o≠u):a≠b:=by
 intro e;subst e;rw[h] at h';exact d (Qv h')
theorem zB {H:Hp}{a b:Addr}{o:HO}(h:H a=some o)(h':H b=none):a≠b:=by
 intro e;subst e;rw[h] at h';cases h'
section
variable (P:Program) (w:World)
def ObjOk (H:Hp)(h:Heap)(a:Addr):HO->Prop
 | .lst xs=>xs.length<=sizeLine/\∃(its:List Value) (n:Nat),Vals xs its/\h.get? a=some { cls:=.type "list",data:=.seq its.toArray n }
 | .tup xs=>xs.length<=sizeLine/\∃its:List Value,Vals xs its/\IsTup h a its.toArray
 | .dK kvs=>kvs.length<=sizeLine/\(a==sysModules)=false/\∃vs,KV kvs vs/\h.DictOf (z5 P w) a vs
 | .dT kvs=>kvs.length<=sizeLine/\(a==sysModules)=false/\∃xs:List (List Key×Addr×Value),
     Paired (fun(p:List Key×V) (q:List Key×Addr×Value)=>p.1=q.1/\H q.2.1=some (.tup (p.1.map kV))/\RelV p.2 q.2.2) kvs xs /\
     ∃o es ep,h.get? a=some o/\o.ExactDict/\o.data = .dict es ep/\es.toList=xs.map (entryOfKey (tupleKind (z5 P w)))/\(xs.map (·.1)).Nodup
 | .set S n=>h.SetOf (intKind P w) a S n
 | .ins C dx fs=>H dx=some (.own a)/\fs.length<=1000/\dx≠a/\h.get? a=some (PySem.W.instObj C dx) /\
     ∃mA,h.Ns1 dx mA/\(∀f,RelO (fs.lookup f) (mA f))/\PySem.Within mA (fs.map (·.1))
 | .own _=>∃o,h.get? a=some o
 | .xd fs=>∃mA,h.Ns1 a mA/\∀f,RelO (fs.lookup f) (mA f)
 | .rng lo hi=>∃t u v,h.get? a=some { cls:=.type "range",data:=.fields #[.int lo t,.int hi u,.int 1 v] }
 | .frz o u=>h.get? a=some o/\ObjOk H h a u
 | .tbl ps=>h.get? a=some { cls:=.none,data:=.fields ps }
 | .met f x=>h.get? a=some (PySem.W.methodObj (.ref f) (.ref x))
 | .ext φ=>φ h/\(∃o,h.get? a=some o)/\∀h1 h2:Heap,φ h1->(∀o,h1.get? a=some o->h2.get? a=some o)->φ h2
def HOk (H:Hp)(h:Heap):Prop:=∀a o,H a=some o->ObjOk P w H h a o
end
section
variable {P:Program} {w:World} {H H':Hp} {h h':Heap} {a:Addr} {o:HO}
theorem ObjOk.lt (x:ObjOk P w H h a o):a < h.objs.size:=by
 cases o with
 | lst xs=>obtain⟨_,_,_,_,e⟩:=x;exact Qu e
 | tup xs=>obtain⟨_,_,_,p⟩:=x;exact p.lt
 | dK kvs=>obtain⟨_,_,_,_,o,_,_,e,_⟩:=x;exact Qu e
 | dT kvs=>obtain⟨_,_,_,_,o,_,_,e,_⟩:=x;exact Qu e
 | set S n=>obtain⟨o,_,_,_,e,_⟩:=x;exact Qu e
 | ins C dx fs=>obtain⟨_,_,_,e,_⟩:=x;exact Qu e
 | own y=>obtain⟨_,e⟩:=x;exact Qu e
 | xd fs=>obtain⟨_,⟨_,_,_,e,_⟩,_⟩:=x;exact Qu e
 | rng lo hi=>obtain⟨_,_,_,e⟩:=x;exact Qu e
 | frz ob u=>obtain⟨e,_⟩:=x;exact Qu e
 | tbl ps=>exact Qu (show h.get? a=some _ from x)
 | met f y=>exact Qu (show h.get? a=some _ from x)
 | ext φ=>obtain⟨_,⟨_,e⟩,_⟩:=x;exact Qu e
theorem Paired.mapP {α β:Type}{F G:α->β->Prop}:∀ {l₁:List α} {l₂:List β},Paired F l₁ l₂->(∀a b,F a b->G a b)->Paired G l₁ l₂
 | _,_,.nil,_=>.nil
 | _,_,.cons r t,f=>.cons (f _ _ r) (Paired.mapP t f)
theorem ObjOk.stay (x:ObjOk P w H h a o)(k:∀b u,(b=a∨H b=some (.own a))->h.get? b=some u->h'.get? b=some u)
   (ho:∀b,H b=some (.own a)->H' b=some (.own a)) (ht:∀b xs,H b=some (.tup xs)->H' b=some (.tup xs)):ObjOk P w H' h' a o:=by
 induction o with
 | lst xs=>obtain⟨z,its,n,r,e⟩:=x;exact⟨z,its,n,r,k _ _ (.inl rfl) e⟩
 | tup xs=>obtain⟨z,its,r,ob,e,c⟩:=x;exact⟨z,its,r,ob,k _ _ (.inl rfl) e,c⟩
 | dK kvs=>obtain⟨z,y,vs,r,ob,es,ep,e,c⟩:=x;exact⟨z,y,vs,r,ob,es,ep,k _ _ (.inl rfl) e,c⟩
 | dT kvs =>
   obtain⟨z,y,xs,r,ob,es,ep,e,c⟩:=x
   exact⟨z,y,xs,Paired.mapP r fun p q z=>⟨z.1,ht _ _ z.2.1,z.2.2⟩,ob,es,ep,k _ _ (.inl rfl) e,c⟩
 | set S n=>obtain⟨ob,es,ep,t,e,c⟩:=x;exact⟨ob,es,ep,t,k _ _ (.inl rfl) e,c⟩
 | ins C dx fs =>
   obtain⟨d,z,ne,e,mA,⟨od,es,ep,e2,c⟩,r⟩:=x
   exact⟨ho _ d,z,ne,k _ _ (.inl rfl) e,mA,⟨od,es,ep,k _ _ (.inr d) e2,c⟩,r⟩
 | own y=>obtain⟨ob,e⟩:=x;exact⟨ob,k _ _ (.inl rfl) e⟩
 | xd fs=>obtain⟨mA,⟨od,es,ep,e,c⟩,r⟩:=x;exact⟨mA,⟨od,es,ep,k _ _ (.inl rfl) e,c⟩,r⟩
 | rng lo hi=>obtain⟨t,u,v,e⟩:=x;exact⟨t,u,v,k _ _ (.inl rfl) e⟩
 | frz ob u ih=>obtain⟨e,q⟩:=x;exact⟨k _ _ (.inl rfl) e,ih q⟩
 | tbl ps =>
   have e:h.get? a=some { cls:=.none,data:=.fields ps }:=x
   show h'.get? a=some { cls:=.none,data:=.fields ps }
   exact k a _ (.inl rfl) e
 | met f y =>
   have e:h.get? a=some (PySem.W.methodObj (.ref f) (.ref y)):=x
   show h'.get? a=some (PySem.W.methodObj (.ref f) (.ref y))
   exact k a _ (.inl rfl) e
 | ext φ=>obtain⟨p,⟨o,e⟩,st⟩:=x;exact⟨st _ _ p fun o q=>k _ _ (.inl rfl) q,⟨o,k _ _ (.inl rfl) e⟩,st⟩
theorem HOk.lt (x:HOk P w H h)(e:H a=some o):a < h.objs.size:=(x a o e).lt
theorem HOk.fresh (x:HOk P w H h)(e:h.objs.size<=a):H a=none:=by
 cases q:H a with
 | none=>rfl
 | some u=>exact absurd (Qx (x.lt q) e) (Wf _)
theorem HOk.kept (x:HOk P w H h)(k:∀b u,h.get? b=some u->h'.get? b=some u):HOk P w H h':=fun a o e =>
 (x a o e).stay (fun b u _ q=>k b u q) (fun _ q=>q) fun _ _ q=>q
theorem HOk.laid (x:HOk P w H h)(k:∀b u,h.get? b=some u->h'.get? b=some u)(hp:h.objs.size<=a)(new:ObjOk P w (upd H a o) h' a o):HOk P w (upd H a o) h':=fun b u e=>by
 have hn:=x.fresh hp
 by_cases hb:b=a
 · subst hb;rw[zN] at e;cases e;exact new
 · rw[zO hb] at e
   exact(x b u e).stay (fun c v _ q=>k c v q) (fun c q=>by rw[zO (zB q hn)];exact q) fun c xs q=>by rw[zO (zB q hn)];exact q
end
def Rd (H:Hp)(a:Addr)(u:HO):Prop:=H a=some u∨∃o,H a=some (.frz o u)
theorem Rd.ok {P:Program}{w:World}{H:Hp}{h:Heap}{a:Addr}{u:HO}(r:Rd H a u)(x:HOk P w H h):ObjOk P w H h a u:=by
 rcases r with r | ⟨o,r⟩
 · exact x a u r
 · obtain⟨_,q⟩:=x a _ r
   exact q
def Mut:Option HO->Prop
 | some (.lst _)=>True
 | some (.dK _)=>True
 | some (.dT _)=>True
 | some (.set _ _)=>True
 | some (.ins _ _ _)=>True
 | some (.ext _)=>True
 | _=>False
section
variable {P:Program} {w:World} {H:Hp} {h h':Heap} {x e:Addr} {o':HO}
theorem HOk.write (ok:HOk P w H h)(mu:Mut (H x))(he:e=x∨H e=some (.own x))(k:∀b u,b≠e->h.get? b=some u->h'.get? b=some u)(heo:∃u,h'.get? e=some u)
   (new:ObjOk P w (upd H x o') h' x o'):HOk P w (upd H x o') h':=fun b u q=>by
 have nown:∀c y,H c=some (.own y)->c≠x:=fun c y r z=>by subst z;rw[r] at mu;exact mu
 have ntup:∀c xs,H c=some (.tup xs)->c≠x:=fun c xs r z=>by subst z;rw[r] at mu;exact mu
 by_cases hb:b=x
 · subst hb;rw[zN] at q;cases q;exact new
 · rw[zO hb] at q
   by_cases hbe:b=e
   · have q':H b=some (.own x):=by
       rcases he with z | z
       · exact absurd (hbe.trans z) hb
       · rw[hbe];exact z
     rw[q] at q';cases q'
     obtain⟨v,hv⟩:=heo
     exact⟨v,by rw[hbe];exact hv⟩
   · refine(ok b u q).stay (fun c v hc r=>k c v ?_ r) (fun c r=>by rw[zO (nown c b r)];exact r) fun c xs r=>by rw[zO (ntup c xs r)];exact r
     rcases hc with rfl | hc
     · exact hbe
     · rintro rfl
       rcases he with z | z
       · exact nown c b hc z
       · rw[hc] at z;cases z;exact hb rfl
end
structure Un (fs ex:List Addr)(H H':Hp)(h h':Heap):Prop where
 keep:∀b o,h.get? b=some o->H b=none->b∉fs->b∉ex->h'.get? b=some o
 slot:∀b o,h.get? b=some o->H b=none->b∈fs->b∉ex->∃sl,h'.get? b=some { o with slots:=sl }
 free:∀b o,h.get? b=some o->H b=none->b∉ex->H' b=none
 there:∀b o,h.get? b=some o->b∉ex->∃o',h'.get? b=some o'
 tups:∀b xs,H b=some (.tup xs)->H' b=some (.tup xs)
 frzs:∀b o u,H b=some (.frz o u)->H' b=some (.frz o u)
 tbls:∀b ps,H b=some (.tbl ps)->∃more,H' b=some (.tbl (ps++more))
section
variable {fs ex:List Addr} {H H1 H2:Hp} {h h1 h2 h':Heap} {a x e:Addr} {o:HO}
theorem Un.any (u:Un fs ex H H1 h h1){b:Addr}{ob:Obj}(q:h.get? b=some ob)(n:H b=none)(hx:b∉ex):∃sl,h1.get? b=some { ob with slots:=sl }:=by
 by_cases hb:b∈fs
 · exact u.slot b ob q n hb hx
 · exact⟨ob.slots,u.keep b ob q n hb hx⟩
theorem Un.trans (a:Un fs ex H H1 h h1)(b:Un fs ex H1 H2 h1 h2):Un fs ex H H2 h h2 where
 keep:=fun c ob q n hc hx=>b.keep c ob (a.keep c ob q n hc hx) (a.free c ob q n hx) hc hx
 slot:=fun c ob q n hc hx=>by
   obtain⟨sl,e1⟩:=a.slot c ob q n hc hx
   obtain⟨sl',e2⟩:=b.slot c _ e1 (a.free c ob q n hx) hc hx
   exact⟨sl',e2⟩
 free:=fun c ob q n hx=>by
   obtain⟨o',e1⟩:=a.there c ob q hx
   exact b.free c o' e1 (a.free c ob q n hx) hx
 there:=fun c ob q hx=>by
   obtain⟨o',e1⟩:=a.there c ob q hx
   exact b.there c o' e1 hx
 tups:=fun c xs q=>b.tups c xs (a.tups c xs q)
 frzs:=fun c ob xs q=>b.frzs c ob xs (a.frzs c ob xs q)
 tbls:=fun c ps q=>by
   obtain⟨m1,e1⟩:=a.tbls c ps q
   obtain⟨m2,e2⟩:=b.tbls c _ e1
   exact⟨m1++m2,by rw[e2,Array.append_assoc]⟩
theorem Un.kept (k:∀b u,h.get? b=some u->h'.get? b=some u):Un fs ex H H h h' :=
 ⟨fun b ob q _ _ _=>k b ob q,fun b ob q _ _ _=>⟨ob.slots,k b ob q⟩,fun _ _ _ n _=>n,fun b ob q _=>⟨ob,k b ob q⟩,fun _ _ q=>q,fun _ _ _ q=>q,fun _ ps q=>⟨#[],by rw[q];simp⟩⟩
theorem Un.refl:Un fs ex H H h h:=Un.kept fun _ _ q=>q
theorem Un.laid (k:∀b u,h.get? b=some u->h'.get? b=some u)(hp:h.objs.size<=a)(hn:H a=none):Un fs ex H (upd H a o) h h' where
 keep:=fun b u q _ _ _=>k b u q
 slot:=fun b u q _ _ _=>⟨u.slots,k b u q⟩
 free:=fun b u q n _=>by rw[zO (Qb (Qx (Qu q) hp))];exact n
 there:=fun b u q _=>⟨u,k b u q⟩
 tups:=fun b xs q=>by rw[zO (zB q hn)];exact q
 frzs:=fun b u xs q=>by rw[zO (zB q hn)];exact q
 tbls:=fun b ps q=>⟨#[],by rw[zO (zB q hn),q];simp⟩
theorem Un.write (mu:Mut (H x))(he:e=x∨H e=some (.own x))(k:∀b u,b≠e->h.get? b=some u->h'.get? b=some u)(heo:∃u,h'.get? e=some u):Un fs ex H (upd H x o) h h':=by
 have hx:∀b,H b=none->b≠x:=fun b n z=>by subst z;rw[n] at mu;exact mu
 have hb:∀b,H b=none->b≠e:=fun b n z=>by
   subst z
   rcases he with r | r
   · exact hx b n r
   · rw[n] at r;cases r
 have hm:∀b u,H b=some u->¬Mut (some u)->b≠x:=fun b u q nm z=>by subst z;rw[q] at mu;exact nm mu
 refine⟨fun b u q n _ _=>k b u (hb b n) q,fun b u q n _ _=>⟨u.slots,k b u (hb b n) q⟩,fun b u q n _=>by rw[zO (hx b n)];exact n,fun b u q _=>?_,
   fun b xs q=>by rw[zO (hm b _ q fun z=>z)];exact q,fun b u xs q=>by rw[zO (hm b _ q fun z=>z)];exact q,fun b ps q=>⟨#[],by rw[zO (hm b _ q fun z=>z),q];simp⟩⟩
 by_cases hbe:b=e
 · subst hbe;exact heo
 · exact⟨u,k b u hbe q⟩
end
def trk (h:Heap)(H:Hp):List Addr:=(List.range h.objs.size).filter fun a=>(H a).isSome
def gA (h:Heap)(H:Hp):Heap:=PySem.W.hideAll h (trk h H)
theorem zZn (h:Heap)(H:Hp):(gA h H).objs.size=h.objs.size:=PySem.W.hideAll_size _ _
theorem zY3 {h:Heap}{H:Hp}{b:Addr}{o:Obj}(e:h.get? b=some o)(n:H b=none):(gA h H).get? b=some o :=
 PySem.W.hideAll_get _ e fun hm=>by
   have q:(H b).isSome=true:=(List.mem_filter.mp hm).2
   rw[n] at q;simp at q
theorem zVG {h:Heap}{H:Hp}{b:Addr}{o:Obj}(e:(gA h H).get? b=some o):h.get? b=some o/\H b=none:=by
 have e':h.get? b=some o:=PySem.W.of_hideAll (trk h H) e
 refine⟨e',?_⟩
 cases q:H b with
 | none=>rfl
 | some x =>
   have hm:b∈trk h H:=List.mem_filter.mpr ⟨Tx.mpr (Qu e'),by simp[q]⟩
   have z:(gA h H).get? b=none:=PySem.W.hideAll_none (trk h H) hm
   rw[z] at e;cases e
def zWn (g h:Heap)(L:Addr):List (Addr×Obj):=(List.range h.objs.size).filterMap fun a=>if a=L∨(g.get? a).isSome=true then none else(h.get? a).map fun o=>(a,o)
def rest (g h:Heap)(L d:Addr):List (Addr×Obj):=(zWn g h L).filter fun p=>decide (p.1≠d)
structure Mod (K:PySem.W.Frag)(mg:Str->Option Value)(base:Heap):Prop where
 kin:K.In base
 glob:base.Ns mainGlobals mg
 blt:∃mb,base.Ns builtinsNs mb/\∀x:Str,x≠"__name__"->mb x=bootBuiltins x
 nolimit:base.NoLimit
/-- the context: a def's body (or a comprehension's block) running. base: fixed through the whole law; s₀, H₀: the entry; outer: the frames whose slots others may change (a def's callers); stack: all frames that run;
  ex: iterators that were made ahead of the entry and are walked here (a comprehension's);fn: the names whose cells were made at the entry (a def: all;a comprehension's block: its own);calm: not within an except suite;pn: pins that every state bears;xe: what is wanted of an exception that leaves the code -/
structure Cx where
 prog:Program
 w:World
 K:PySem.W.Frag
 mg:Str->Option Value
 base:Heap
 A:Around
 N:List Str
 s₀:Shared
 H₀:Hp
 env:Env
 outer:List Env
 stack:List Env
 ex:List Addr
 fn:Str->Bool
 calm:Bool
 pn:List (Addr×Obj)
 xe:Value->Shared->Prop
def frs (l:List Env):List Addr:=l.filterMap (·.frame)
abbrev Cx.fs (X:Cx):List Addr:=frs X.outer
def Vis (sc:Scope)(x:Str):Prop:=sc.names.lookup x=some .local∨sc.names.lookup x=some .cell∨sc.names.lookup x=some .free
def Loc (sc:Scope)(x:Str):Prop:=sc.names.lookup x=some .local∨sc.names.lookup x=some .cell
def zSH (env:Env)(h:Heap)(m:Str->Option Value)(x:Str)(u:Value):Prop :=
 (env.kindOf x=some .local/\m x=some u)∨((env.kindOf x=some .cell∨env.kindOf x=some .free)/\∃c,env.cells.lookup x=some c/\h.IsCell c (some u))
structure Cx.Ok (X:Cx):Prop where
 mod:Mod X.K X.mg X.base
 kind:X.env.scope.kind = .function
 glob:X.env.globals=mainGlobals
 blt:X.env.builtins=builtinsNs
 above:X.s₀.heap.objs.size<=X.env.locals
 inj:∀x y c,X.env.cells.lookup x=some c->X.env.cells.lookup y=some c->x=y
 has:∀x,(X.env.kindOf x=some .cell∨X.env.kindOf x=some .free)->∃c,X.env.cells.lookup x=some c
 cab:∀x c,X.fn x=true->X.env.cells.lookup x=some c->X.s₀.heap.objs.size<=c
 hd:X.calm=true->X.A.handled=none
 frames:X.A.frames=some X.stack
 stk:X.stack=X.outer∨(X.stack=X.env::X.outer/\X.env.frame=some X.env.locals)
 exf:∀b∈X.ex,b≠X.env.locals/\∀x c,X.env.cells.lookup x=some c->c≠b
 bs:∀b o,X.base.get? b=some o->X.s₀.heap.get? b=some o/\X.H₀ b=none
 bsz:X.base.objs.size<=X.s₀.heap.objs.size
 noex:∀b o,X.base.get? b=some o->b∉X.ex
 exfs:∀b∈X.ex,b∉X.fs
 funs:X.s₀.heap.FunFrames X.base X.outer
 frf:∀b∈X.fs,X.H₀ b=none
structure Inv (X:Cx)(pins:List (Addr×Obj))(σ:List (Option V))(H:Hp)(s:Shared):Prop where
 ok:X.Ok
 os:s.os=X.s₀.os
 bare:AllBare s.gens
 base:Un X.fs X.ex X.H₀ H X.s₀.heap s.heap
 loc:∃m,s.heap.Ns X.env.locals m/\∀(i:Nat) (x:Str) (v:V),X.N[i]?=some x->σ[i]?=some (some v)->Vis X.env.scope x->∃u,RelV v u/\zSH X.env s.heap m x u
 cell:∀x c,X.env.cells.lookup x=some c->∃v,s.heap.IsCell c v
 free:H X.env.locals=none
 freeC:∀x c,X.env.cells.lookup x=some c->H c=none
 pin:∀p∈X.pn++pins,s.heap.get? p.1=some p.2/\H p.1=none/\p.1≠X.env.locals/\p.1∉X.fs/\∀v,p.2.data ≠ .cell v
 hok:HOk X.prog X.w H s.heap
 len:σ.length=X.N.length
section
variable {X:Cx} {pins:List (Addr×Obj)} {σ:List (Option V)} {H H':Hp} {s:Shared} {h':Heap}
theorem Cx.Ok.nofr (ok:X.Ok){b:Addr}{o:Obj}(e:X.base.get? b=some o):b∉X.fs:=fun hb=>by
 have:=(ok.funs.mem hb).1
 rw[e] at this;cases this
theorem Inv.bs (I:Inv X pins σ H s):∀b o,X.base.get? b=some o->s.heap.get? b=some o/\H b=none:=fun b o e =>
 ⟨I.base.keep b o (I.ok.bs b o e).1 (I.ok.bs b o e).2 (I.ok.nofr e) (I.ok.noex b o e),I.base.free b o (I.ok.bs b o e).1 (I.ok.bs b o e).2 (I.ok.noex b o e)⟩
theorem Inv.bk (I:Inv X pins σ H s):∀b o,X.base.get? b=some o->s.heap.get? b=some o:=fun b o e=>(I.bs b o e).1
theorem Inv.mod (I:Inv X pins σ H s):Mod X.K X.mg X.base:=I.ok.mod
theorem Inv.kIn (I:Inv X pins σ H s):X.K.In s.heap:=I.ok.mod.kin.keeps I.bk
theorem Inv.lt (I:Inv X pins σ H s):X.env.locals < s.heap.objs.size:=let ⟨_,hn,_⟩:=I.loc;hn.lt
theorem Inv.sz (I:Inv X pins σ H s):X.s₀.heap.objs.size<=s.heap.objs.size:=We I.ok.above (Wp I.lt)
theorem Inv.nofs (I:Inv X pins σ H s){a:Addr}(h:s.heap.objs.size<=a):a∉X.fs:=fun hb=>by
 obtain⟨_,o,ho,_⟩:=I.ok.funs.mem hb
 exact absurd (Qx (Qu ho) (We I.sz h)) (Wf _)
theorem Inv.cne (I:Inv X pins σ H s):∀x c,X.env.cells.lookup x=some c->c≠X.env.locals:=fun x c e z=>by
 obtain⟨v,o,ho,hd⟩:=I.cell x c e
 obtain⟨m,⟨o',es,ep,ho',hd',_⟩,_⟩:=I.loc
 rw[z,ho'] at ho;cases ho;rw[hd'] at hd;cases hd
theorem Inv.funs (I:Inv X pins σ H s):s.heap.FunFrames X.base X.outer:=by
 have all:∀(l:List Env),(∀b∈frs l,b∈X.fs)->X.s₀.heap.FunFrames X.base l->s.heap.FunFrames X.base l:=by
   intro l
   induction l with
   | nil=>intro _ _;trivial
   | cons env r ih =>
     intro hs hl
     obtain⟨hk,⟨L,o,hf,hn,ho,hd⟩,hr⟩:=hl
     have hL:L∈X.fs:=hs L (by unfold frs;rw[Ra,hf];exact Qn)
     obtain⟨sl,e⟩:=I.base.slot L o ho (I.ok.frf L hL) hL fun z=>I.ok.exfs L z hL
     exact⟨hk,⟨L,_,hf,hn,e,hd⟩,ih (fun b hb=>hs b (by unfold frs;rw[Ra,hf];exact Qj _ hb)) hr⟩
 exact all X.outer (fun _ hb=>hb) I.ok.funs
theorem Inv.stack (I:Inv X pins σ H s):s.heap.FunFrames X.base X.stack:=by
 rcases I.ok.stk with e | ⟨e,hf⟩
 · rw[e];exact I.funs
 · rw[e]
   obtain⟨m,hn,_⟩:=I.loc
   refine .cons (by rw[I.ok.kind];decide) hf hn ?_ I.funs
   exact Heap.get?_none_of_le (We I.ok.bsz I.ok.above)
theorem Inv.stkSub (I:Inv X pins σ H s):∀b∈frs X.stack,b∈X.env.locals::X.fs:=fun b hb=>by
 rcases I.ok.stk with e | ⟨e,hf⟩
 · rw[e] at hb;exact Qj _ hb
 · rw[e] at hb
   unfold frs at hb
   rw[Ra,hf] at hb
   exact hb
theorem Inv.stkFree (I:Inv X pins σ H s):∀b∈frs X.stack,H b=none:=fun b hb=>by
 rcases Qh.mp (I.stkSub b hb) with e | hb
 · rw[e];exact I.free
 · obtain⟨_,o,ho,_⟩:=I.ok.funs.mem hb
   exact I.base.free b o ho (I.ok.frf b hb) fun z=>I.ok.exfs b z hb
theorem Inv.step {g':Array GenState}{t':Nat}{d':Drawn}{ch:List Addr}(I:Inv X pins σ H s)
   (hch:∀b∈ch,(b∈X.ex∨X.s₀.heap.objs.size<=b)/\b≠X.env.locals/\(∀x c,X.env.cells.lookup x=some c->c≠b)/\∀p∈X.pn++pins,p.1≠b)
   (keep:∀b o,b≠X.env.locals->b∉X.fs->b∉ch->s.heap.get? b=some o->H b=none->h'.get? b=some o)
   (slot:∀b o,b≠X.env.locals->b∈X.fs->b∉ch->s.heap.get? b=some o->H b=none->∃sl,h'.get? b=some { o with slots:=sl }) (free:∀b o,b∉ch->s.heap.get? b=some o->H b=none->H' b=none)
   (there:∀b o,b∉ch->s.heap.get? b=some o->∃o',h'.get? b=some o')
   (tups:∀b xs,H b=some (.tup xs)->H' b=some (.tup xs)) (frzs:∀b o u,H b=some (.frz o u)->H' b=some (.frz o u)) (tbls:∀b ps,H b=some (.tbl ps)->∃more,H' b=some (.tbl (ps++more)))
   (ns:∀m,s.heap.Ns X.env.locals m->h'.Ns X.env.locals m) (hok:HOk X.prog X.w H' h') (hg:AllBare g') :
   Inv X pins σ H' { s with heap:=h',gens:=g',drawn:=d',toks:=t' }:=by
 have neL:∀b o,X.s₀.heap.get? b=some o->b≠X.env.locals:=fun b o e=>Qb (Qx (Qu e) I.ok.above)
 have neC:∀b o,X.s₀.heap.get? b=some o->b∉X.ex->b∉ch:=fun b o e hx hb=>by
   rcases(hch b hb).1 with z | z
   · exact hx z
   · exact absurd (Qx (Qu e) z) (Wf _)
 have cellK:∀x c,X.env.cells.lookup x=some c->∀v,s.heap.IsCell c v->h'.IsCell c v:=fun x c e v ⟨o,ho,hd⟩=>by
   have nch:c∉ch:=fun z=>(hch c z).2.2.1 x c e rfl
   by_cases hc:c∈X.fs
   · obtain⟨sl,q⟩:=slot c o (I.cne x c e) hc nch ho (I.freeC x c e)
     exact⟨_,q,hd⟩
   · exact⟨o,keep c o (I.cne x c e) hc nch ho (I.freeC x c e),hd⟩
 refine⟨I.ok,I.os,hg,⟨fun b o e n hb hx=>?_,fun b o e n hb hx=>?_,fun b o e n hx=>?_,fun b o e hx=>?_,fun b xs e=>tups b xs (I.base.tups b xs e),fun b o xs e=>frzs b o xs (I.base.frzs b o xs e),fun b ps e=>?_⟩,?_,fun x c e=>?_,?_,fun x c e=>?_,fun p hp=>?_,hok,I.len⟩
 · exact keep b o (neL b o e) hb (neC b o e hx) (I.base.keep b o e n hb hx) (I.base.free b o e n hx)
 · obtain⟨sl,e1⟩:=I.base.slot b o e n hb hx
   obtain⟨sl',e2⟩:=slot b _ (neL b o e) hb (neC b o e hx) e1 (I.base.free b o e n hx)
   exact⟨sl',e2⟩
 · obtain⟨o',e1⟩:=I.base.there b o e hx
   exact free b o' (neC b o e hx) e1 (I.base.free b o e n hx)
 · obtain⟨o',e1⟩:=I.base.there b o e hx
   exact there b o' (neC b o e hx) e1
 · obtain⟨m1,e1⟩:=I.base.tbls b ps e
   obtain⟨m2,e2⟩:=tbls b _ e1
   exact⟨m1++m2,by rw[e2,Array.append_assoc]⟩
 · obtain⟨m,hn,hl⟩:=I.loc
   refine⟨m,ns m hn,fun i x v e1 e2 e3=>?_⟩
   obtain⟨u,r,l⟩:=hl i x v e1 e2 e3
   refine⟨u,r,?_⟩
   rcases l with l | ⟨k,c,e,z⟩
   · exact .inl l
   · exact .inr ⟨k,c,e,cellK x c e _ z⟩
 · obtain⟨v,z⟩:=I.cell x c e
   exact⟨v,cellK x c e v z⟩
 · obtain⟨m,⟨o,_,_,ho,_⟩,_⟩:=I.loc
   exact free _ o (fun z=>(hch _ z).2.1 rfl) ho I.free
 · obtain⟨v,o,ho,hd⟩:=I.cell x c e
   exact free c o (fun z=>(hch c z).2.2.1 x c e rfl) ho (I.freeC x c e)
 · obtain⟨e,n,ne,nf,d⟩:=I.pin p hp
   have nch:p.1∉ch:=fun z=>(hch p.1 z).2.2.2 p hp rfl
   exact⟨keep p.1 p.2 ne nf nch e n,free p.1 p.2 nch e n,ne,nf,d⟩
theorem Inv.un {t':Nat}(I:Inv X pins σ H s)(u:Un X.fs [] H H' s.heap h')(hok:HOk X.prog X.w H' h'):Inv X pins σ H' { s with heap:=h',toks:=t' }:=by
 obtain⟨m,⟨o,es,ep,ho,r⟩,_⟩:=id I.loc
 obtain⟨sl,hL⟩:=u.any ho I.free (by simp)
 exact I.step (g':=s.gens) (d':=s.drawn) (ch:=[]) (fun _ z=>nomatch z) (fun b o _ hb _ e n=>u.keep b o e n hb (by simp)) (fun b o _ hb _ e n=>u.slot b o e n hb (by simp)) (fun b o _ e n=>u.free b o e n (by simp)) (fun b o _ e=>u.there b o e (by simp)) u.tups u.frzs u.tbls (fun m' hm=>by
   obtain⟨o',es',ep',ho',r'⟩:=hm
   rw[ho] at ho';cases ho'
   exact⟨_,es',ep',hL,r'⟩) hok I.bare
theorem Inv.call {g':Array GenState}{t':Nat}{d':Drawn}{ch:List Addr}(I:Inv X pins σ H s)(u:Un (frs X.stack) ch H H' s.heap h')(hok:HOk X.prog X.w H' h')(hg:AllBare g')
   (hch:∀b∈ch,(b∈X.ex∨X.s₀.heap.objs.size<=b)/\b≠X.env.locals/\(∀x c,X.env.cells.lookup x=some c->c≠b)/\∀p∈X.pn++pins,p.1≠b) :
   Inv X pins σ H' { s with heap:=h',gens:=g',drawn:=d',toks:=t' }:=by
 obtain⟨m,⟨o,es,ep,ho,r⟩,_⟩:=id I.loc
 obtain⟨sl,hL⟩:=u.any ho I.free fun z=>(hch _ z).2.1 rfl
 exact I.step (ch:=ch) hch (fun b o hL hb hc e n=>u.keep b o e n (fun z=>(Qh.mp (I.stkSub b z)).elim hL hb) hc) (fun b o _ _ hc e n=>u.any e n hc) (fun b o hc e n=>u.free b o e n hc) (fun b o hc e=>u.there b o e hc) u.tups u.frzs u.tbls (fun m' hm=>by
   obtain⟨o',es',ep',ho',r'⟩:=hm
   rw[ho] at ho';cases ho'
   exact⟨_,es',ep',hL,r'⟩) hok hg
theorem Inv.turned {t':Nat}{it:Addr}(I:Inv X pins σ H s)(k:∀b o,b≠it->s.heap.get? b=some o->h'.get? b=some o)(hn:H it=none)(hL:it≠X.env.locals)
   (h1:it∈X.ex∨X.s₀.heap.objs.size<=it) (h2:∀x c,X.env.cells.lookup x=some c->c≠it) (h3:∀p∈X.pn++pins,p.1≠it):Inv X pins σ H { s with heap:=h',toks:=t' }:=by
 have nit:∀b u,H b=some u->b≠it:=fun b u e z=>by rw[z,hn] at e;cases e
 refine I.step (g':=s.gens) (d':=s.drawn) (ch:=[it]) (fun b hb=>?_) (fun b o _ _ hc e _=>k b o (fun z=>hc (by simp[z])) e) (fun b o _ _ hc e _=>⟨o.slots,k b o (fun z=>hc (by simp[z])) e⟩) (fun _ _ _ _ n=>n)
   (fun b o hc e=>⟨o,k b o (fun z=>hc (by simp[z])) e⟩) (fun _ _ e=>e) (fun _ _ _ e=>e) (fun b ps e=>⟨#[],by rw[e];simp⟩) (fun m hm=>?_) (fun b u e=>?_) I.bare
 · have e:b=it:=by simpa using hb
   subst e
   exact⟨h1,hL,h2,h3⟩
 · obtain⟨o,es,ep,ho,r⟩:=hm
   exact⟨o,es,ep,k _ o (Ne.symm hL) ho,r⟩
 · refine(I.hok b u e).stay (fun c v hc q=>k c v ?_ q) (fun _ q=>q) fun _ _ q=>q
   rcases hc with z | z
   · rw[z];exact nit b u e
   · exact nit c _ z
theorem Inv.tok (I:Inv X pins σ H s)(t:Nat):Inv X pins σ H { s with toks:=t }:=I.un (h':=s.heap) (t':=t) Un.refl I.hok
theorem Inv.kept {t':Nat}(I:Inv X pins σ H s)(k:∀b u,s.heap.get? b=some u->h'.get? b=some u):Inv X pins σ H { s with heap:=h',toks:=t' }:=I.un (Un.kept k) (I.hok.kept k)
theorem Inv.laid {a:Addr}{o:HO}{t':Nat}(I:Inv X pins σ H s)(k:∀b u,s.heap.get? b=some u->h'.get? b=some u)(hp:s.heap.objs.size<=a)(new:ObjOk X.prog X.w (upd H a o) h' a o) :
   Inv X pins σ (upd H a o) { s with heap:=h',toks:=t' }:=I.un (Un.laid k hp (I.hok.fresh hp)) (I.hok.laid k hp new)
theorem Inv.write {x e:Addr}{o:HO}{t':Nat}(I:Inv X pins σ H s)(mu:Mut (H x))(he:e=x∨H e=some (.own x))(k:∀b u,b≠e->s.heap.get? b=some u->h'.get? b=some u)(heo:∃u,h'.get? e=some u)
   (new:ObjOk X.prog X.w (upd H x o) h' x o):Inv X pins σ (upd H x o) { s with heap:=h',toks:=t' }:=I.un (Un.write mu he k heo) (I.hok.write mu he k heo new)
theorem Inv.pins_of {pins':List (Addr×Obj)}(I:Inv X pins σ H s)(h:∀p∈pins',s.heap.get? p.1=some p.2/\H p.1=none/\p.1≠X.env.locals/\p.1∉X.fs/\∀v,p.2.data ≠ .cell v):Inv X pins' σ H s :=
 ⟨I.ok,I.os,I.bare,I.base,I.loc,I.cell,I.free,I.freeC,fun p hp=>(Yv.mp hp).elim (fun z=>I.pin p (Tj _ z)) (h p),I.hok,I.len⟩
theorem dU {N:List Str}(hN:N.Nodup){i j:Nat}{x:Str}(a:N[i]?=some x)(b:N[j]?=some x):i=j:=by
 obtain⟨h1,e1⟩:=Qf.mp a
 obtain⟨h2,e2⟩:=Qf.mp b
 exact(List.getElem_inj hN).mp (e1.trans e2.symm)
theorem nH {M:Model}{A:Around}{E:Value->Shared->Prop}{i:Nat}{x:Str}{v:V}{u:Value}{Q:Unit->Shared->Prop}(I:Inv X pins σ H s)(hN:X.N.Nodup)(hi:X.N[i]?=some x)(hx:Loc X.env.scope x)(r:RelV v u)
   (h:∀s',Inv X pins (σ.set i (some v)) H s'->(∃a,Heap.SameBut a s.heap s'.heap/\(a=X.env.locals∨X.env.cells.lookup x=some a))->Q () s') (hf:X.fn x=true∨X.env.scope.names.lookup x=some .local:=by first | exact .inl rfl | exact .inr rfl | assumption):wpAny M A (storeName X.env x u) Q E s:=by
 obtain⟨m,hn,hl⟩:=id I.loc
 have hcls:(X.env.scope.kind == .class||(X.env.scope.kind == .module&&X.env.locals != X.env.globals))=false:=by rw[I.ok.kind];rfl
 have hiσ:i < σ.length:=by rw[I.len];exact(Qf.mp hi).1
 have cne:=I.cne
 have tracked:∀ {a:Addr} {h':Heap},(∃o,s.heap.get? a=some o/\H a=none)->Heap.SameBut a s.heap h'->HOk X.prog X.w H h':=fun {a h'} ha hs b ob e=>by
   obtain⟨_,_,hfree⟩:=ha
   refine(I.hok b ob e).stay (fun c w' hc q=>(hs.2 c ?_).trans q) (fun _ q=>q) fun _ _ q=>q
   rintro rfl
   rcases hc with rfl | hc
   · rw[hfree] at e;cases e
   · rw[hfree] at hc;cases hc
 rcases hx with hk | hk
 · refine wpAny_storeName_local hk hn (fun h' hn' hs=>?_) hcls
   obtain⟨oL,_,_,hoL,_⟩:=id hn
   refine h _ ⟨I.ok,I.os,I.bare,⟨fun b o e n hb hx=>?_,fun b o e n hb hx=>?_,I.base.free,fun b o e hx=>?_,I.base.tups,I.base.frzs,I.base.tbls⟩,⟨_,hn',fun j y v' e1 e2 e3=>?_⟩,fun y c e=>?_,I.free,I.freeC,fun p hp=>?_,tracked ⟨oL,hoL,I.free⟩ hs,by simpa using I.len⟩ ⟨_,hs,.inl rfl⟩
   · exact(hs.2 b (Qb (Qx (Qu e) I.ok.above))).trans (I.base.keep b o e n hb hx)
   · obtain⟨sl,e1⟩:=I.base.slot b o e n hb hx
     exact⟨sl,(hs.2 b (Qb (Qx (Qu e) I.ok.above))).trans e1⟩
   · obtain⟨o',e1⟩:=I.base.there b o e hx
     exact⟨o',(hs.2 b (Qb (Qx (Qu e) I.ok.above))).trans e1⟩
   · by_cases hj:j=i
     · subst hj
       rw[hi] at e1;cases e1
       rw[Wa hiσ] at e2
       cases e2
       exact⟨u,r,.inl ⟨hk,by simp⟩⟩
     · rw[Qk (Ne.symm hj)] at e2
       obtain⟨u',r',q⟩:=hl j y v' e1 e2 e3
       refine⟨u',r',?_⟩
       rcases q with⟨k,e⟩ | ⟨k,c,e,z⟩
       · refine .inl ⟨k,?_⟩
         have:y≠x:=fun e=>hj (dU hN e1 (e ▸ hi))
         simp[this,e]
       · exact .inr ⟨k,c,e,z.sameBut hs (cne y c e)⟩
   · obtain⟨w',z⟩:=I.cell y c e
     exact⟨w',z.sameBut hs (cne y c e)⟩
   · obtain⟨e,n,ne,nf,d⟩:=I.pin p hp
     exact⟨(hs.2 p.1 ne).trans e,n,ne,nf,d⟩
 · have hfn:X.fn x=true:=by
     rcases hf with z | z
     · exact z
     · rw[z] at hk;cases hk
   obtain⟨c,hc⟩:=I.ok.has x (.inl hk)
   obtain⟨w',z⟩:=I.cell x c hc
   refine wpAny_storeName_cell I.ok.kind hk hc z (fun h' hc' hs=>?_)
   obtain⟨oc,hoc,hocd⟩:=id z
   refine h { s with heap:=h' } ⟨I.ok,I.os,I.bare,⟨fun b o e n hb hx=>?_,fun b o e n hb hx=>?_,I.base.free,fun b o e hx=>?_,I.base.tups,I.base.frzs,I.base.tbls⟩,⟨m,hn.sameBut hs (Ne.symm (cne x c hc)),fun j y v' e1 e2 e3=>?_⟩,fun y c' e=>?_,I.free,I.freeC,fun p hp=>?_,tracked ⟨oc,hoc,I.freeC x c hc⟩ hs,by simpa using I.len⟩ ⟨c,hs,.inr hc⟩
   · exact(hs.2 b (Qb (Qx (Qu e) (I.ok.cab x c hfn hc)))).trans (I.base.keep b o e n hb hx)
   · obtain⟨sl,e1⟩:=I.base.slot b o e n hb hx
     exact⟨sl,(hs.2 b (Qb (Qx (Qu e) (I.ok.cab x c hfn hc)))).trans e1⟩
   · obtain⟨o',e1⟩:=I.base.there b o e hx
     exact⟨o',(hs.2 b (Qb (Qx (Qu e) (I.ok.cab x c hfn hc)))).trans e1⟩
   · by_cases hj:j=i
     · subst hj
       rw[hi] at e1;cases e1
       rw[Wa hiσ] at e2
       cases e2
       exact⟨u,r,.inr ⟨.inl hk,c,hc,hc'⟩⟩
     · rw[Qk (Ne.symm hj)] at e2
       obtain⟨u',r',q⟩:=hl j y v' e1 e2 e3
       refine⟨u',r',?_⟩
       rcases q with q | ⟨k,c',e,z'⟩
       · exact .inl q
       · refine .inr ⟨k,c',e,z'.sameBut hs ?_⟩
         rintro rfl
         exact hj (dU hN e1 (I.ok.inj _ _ _ e hc ▸ hi))
   · by_cases hcc:c'=c
     · subst hcc;exact⟨_,hc'⟩
     · obtain⟨w2,z2⟩:=I.cell y c' e
       exact⟨w2,z2.sameBut hs hcc⟩
   · obtain⟨e,n,ne,nf,d⟩:=I.pin p hp
     refine⟨(hs.2 p.1 ?_).trans e,n,ne,nf,d⟩
     intro q
     rw[q,hoc] at e
     have q':oc=p.2:=Qv e
     exact d w' (by rw[←q'];exact hocd)
theorem oB {M:Model}{A:Around}{E:Value->Shared->Prop}{i:Nat}{x:Str}{v:V}{u:Value}{Q:Unit->Shared->Prop}(I:Inv X pins σ H s)(hN:X.N.Nodup)(hi:X.N[i]?=some x)(hx:Loc X.env.scope x)(r:RelV v u)
   (h:∀s',Inv X pins (σ.set i (some v)) H s'->Q () s') (hf:X.fn x=true∨X.env.scope.names.lookup x=some .local:=by first | exact .inl rfl | exact .inr rfl | assumption):wpAny M A (storeName X.env x u) Q E s :=
 nH I hN hi hx r (fun s' I' _=>h s' I') hf
theorem Inv.call' {s':Shared}{ch:List Addr}(I:Inv X pins σ H s)(ho:s'.os=s.os)(u:Un (frs X.stack) ch H H' s.heap s'.heap)(hok:HOk X.prog X.w H' s'.heap)(hg:AllBare s'.gens)
   (hch:∀b∈ch,(b∈X.ex∨X.s₀.heap.objs.size<=b)/\b≠X.env.locals/\(∀x c,X.env.cells.lookup x=some c->c≠b)/\∀p∈X.pn++pins,p.1≠b):Inv X pins σ H' s':=by
 obtain⟨h',g',d',t',o'⟩:=s'
 have e:o'=s.os:=ho
 subst e
 exact I.call (g':=g') (t':=t') (d':=d') u hok hg hch
end
abbrev XK:=Value->Option Addr->Hp->Prop
abbrev St:=List (Option V)
abbrev VK:=V->Hp->Prop
abbrev TE:=St->Hp->VK->Prop
abbrev TT:=St->Hp->(Bool->Hp->Prop)->Prop
abbrev TA:=St->Hp->(List V->Hp->Prop)->Prop
structure Ends where
 nx:St->Hp->Prop
 rt:VK
 bk:St->Hp->Prop:=fun _ _=>False
 ct:St->Hp->Prop:=fun _ _=>False
abbrev TS:=Ends->St->Hp->Prop
def EP (X:Cx)(pins:List (Addr×Obj))(σ:St)(Q:VK)(u:Value)(s':Shared):Prop:=∃v H',Inv X pins σ H' s'/\RelV v u/\Q v H'
def TP (X:Cx)(pins:List (Addr×Obj))(σ:St)(Q:Bool->Hp->Prop)(b:Bool)(s':Shared):Prop:=∃H',Inv X pins σ H' s'/\Q b H'
def AP (X:Cx)(pins:List (Addr×Obj))(σ:St)(Q:List V->Hp->Prop)(us:List Value)(s':Shared):Prop:=∃vs H',Inv X pins σ H' s'/\Vals vs us/\Q vs H'
def SP (X:Cx)(pins:List (Addr×Obj))(D:Ends)(f:Flow)(s':Shared):Prop :=
 match f with
 | .next=>∃σ' H',Inv X pins σ' H' s'/\D.nx σ' H'
 | .brk=>∃σ' H',Inv X pins σ' H' s'/\D.bk σ' H'
 | .cont=>∃σ' H',Inv X pins σ' H' s'/\D.ct σ' H'
 | .ret u=>∃v σ' H',Inv X pins σ' H' s'/\RelV v u/\D.rt v H'
def PE (X:Cx)(e:Expr)(t:TE):Prop :=
 ∀(pins:List (Addr×Obj)) (s:Shared) (σ:St) (H:Hp) (Q:VK),Inv X pins σ H s->t σ H Q->wpAny (model X.prog X.w) X.A (eval e X.env) (EP X pins σ Q) X.xe s
def PT (X:Cx)(e:Expr)(t:TT):Prop :=
 ∀(pins:List (Addr×Obj)) (s:Shared) (σ:St) (H:Hp) (Q:Bool->Hp->Prop),Inv X pins σ H s->t σ H Q->wpAny (model X.prog X.w) X.A (isTrue e X.env (eval e X.env)) (TP X pins σ Q) X.xe s
def PW (X:Cx)(e:Expr)(t:TT):Prop :=
 ∀(whole:Sem Value) (pins:List (Addr×Obj)) (s:Shared) (σ:St) (H:Hp) (Q:Bool->Hp->Prop),Inv X pins σ H s->t σ H Q->wpAny (model X.prog X.w) X.A (isTrue e X.env whole) (TP X pins σ Q) X.xe s
theorem PW.pt {X:Cx}{e:Expr}{t:TT}(h:PW X e t):PT X e t:=h _
def PA (X:Cx)(es:List Expr)(t:TA):Prop :=
 ∀(pos:Pos) (pins:List (Addr×Obj)) (s:Shared) (σ:St) (H:Hp) (Q:List V->Hp->Prop),Inv X pins σ H s->t σ H Q->wpAny (model X.prog X.w) X.A (spliced (backTo pos (starEach es X.env))) (AP X pins σ Q) X.xe s
def PS (X:Cx)(st:Stmt)(t:TS):Prop :=
 ∀(pins:List (Addr×Obj)) (s:Shared) (σ:St) (H:Hp) (D:Ends),Inv X pins σ H s->t D σ H->wpAny (model X.prog X.w) X.A (exec st X.env) (SP X pins D) X.xe s
def PSs (X:Cx)(st:List Stmt)(t:TS):Prop :=
 ∀(pins:List (Addr×Obj)) (s:Shared) (σ:St) (H:Hp) (D:Ends),Inv X pins σ H s->t D σ H->wpAny (model X.prog X.w) X.A (execs st X.env) (SP X pins D) X.xe s
theorem thn {α:Type}{t:Sem α}{Q Q':α->Shared->Prop}{M:Model}{A:Around}{E:Value->Shared->Prop}{s:Shared}(h:wpAny M A t Q E s)(hQ:∀a s,Q a s->Q' a s):wpAny M A t Q' E s:=Ei h hQ fun _ _ x=>x
section
variable {X:Cx}
def zUt (i:Nat):TE:=fun σ H Q=>∃v,σ[i]?=some (some v)/\Q v H
def tC (v:V):TE:=fun _ H Q=>Q v H
theorem pU {i:Nat}{x:Str}{pos:Pos}(hN:X.N[i]?=some x)(hv:Vis X.env.scope x)(hd:(x==("__debug__":Str))=false:=by decide)(hcd:(x==("__classdict__":Str))=false:=by decide):PE X (.Name x pos) (zUt i):=by
 intro pins s σ H Q I h
 obtain⟨v,e,h⟩:=h
 obtain⟨m,hn,hl⟩:=I.loc
 obtain⟨u,r,l⟩:=hl i x v hN e hv
 have fin:EP X pins σ Q u s:=⟨v,H,I,r,h⟩
 rcases l with⟨hk,hm⟩ | ⟨hk,c,hc,hcell⟩
 · exact wpAny_Name (wpAny_loadName_local I.ok.kind hk hn hm fin) hd
 · rcases hk with hk | hk
   · exact wpAny_Name (wpAny_loadName_cell I.ok.kind hk hc hcell fin) hd
   · exact wpAny_Name (wpAny_loadName_free I.ok.kind hk hc hcell fin hcd) hd
theorem zUN {i j pos}:PE X (.Constant (.int i) j pos) (tC (.int i)):=fun _ _ _ H _ I h=>wpAny_Constant_int ⟨.int i,H,I.tok _,⟨_,rfl⟩,h⟩
theorem zTF {b j pos}:PE X (.Constant (.bool b) j pos) (tC (.bl b)):=fun _ _ _ H _ I h=>Constant_bool ⟨.bl b,H,I,rfl,h⟩
theorem zYE {j pos}:PE X (.Constant .none j pos) (tC .non):=fun _ _ _ H _ I h=>Constant_none ⟨.non,H,I,rfl,h⟩
theorem zY2 {x j pos}:PE X (.Constant (.str x) j pos) (tC (.str x)):=fun _ _ _ H _ I h=>Calls.Constant_str ⟨.str x,H,I.tok _,⟨_,rfl⟩,h⟩
def Gl (X:Cx)(x:Str):Prop:=X.env.kindOf x=some .globalImplicit
theorem rB {E:Value->Shared->Prop}{pins:List (Addr×Obj)}{s:Shared}{σ:St}{H:Hp}{x:Str}{u:Value}{pos:Pos}{Q:Value->Shared->Prop}(I:Inv X pins σ H s)(hg:Gl X x)(hm:X.mg x=some u)(h:Q u s)
   (hd:(x==("__debug__":Str))=false:=by decide):wpAny (model X.prog X.w) X.A (eval (.Name x pos) X.env) Q E s :=
 Ur I.ok.kind hg (Calls.loadGlobal_global (by rw[I.ok.glob];exact I.mod.glob.keeps I.bk) hm h) hd
theorem nI {E:Value->Shared->Prop}{pins:List (Addr×Obj)}{s:Shared}{σ:St}{H:Hp}{x:Str}{u:Value}{pos:Pos}{Q:Value->Shared->Prop}(I:Inv X pins σ H s)(hg:Gl X x)(hm:X.mg x=none)(hv:bootBuiltins x=some u)(h:Q u s)
   (hn:x≠"__name__":=by decide) (hd:(x==("__debug__":Str))=false:=by decide):wpAny (model X.prog X.w) X.A (eval (.Name x pos) X.env) Q E s:=by
 obtain⟨mb,h1,h2⟩:=I.mod.blt
 exact Ur I.ok.kind hg (Calls.loadGlobal_builtin (by rw[I.ok.glob];exact I.mod.glob.keeps I.bk) hm (by rw[I.ok.blt];exact h1.keeps I.bk) ((h2 x hn).trans hv) h) hd
theorem zVF {x:Str}{v:V}{u:Value}{pos:Pos}(hg:Gl X x)(hm:X.mg x=some u)(r:RelV v u)(hd:(x==("__debug__":Str))=false:=by decide):PE X (.Name x pos) (tC v) :=
 fun _ _ _ H _ I h=>rB I hg hm ⟨v,H,I,r,h⟩ hd
theorem zVI {x:Str}{v:V}{u:Value}{pos:Pos}(hg:Gl X x)(hm:X.mg x=none)(hv:bootBuiltins x=some u)(r:RelV v u)(hn:x≠"__name__":=by decide)(hd:(x==("__debug__":Str))=false:=by decide):PE X (.Name x pos) (tC v) :=
 fun _ _ _ H _ I h=>nI I hg hm hv ⟨v,H,I,r,h⟩ hn hd
variable {a b:Expr} {ta tb:TE} {pos:Pos}
def tB (t:TE):TT:=fun σ H Q=>t σ H fun x H1=>∃c,x = .bl c/\Q c H1
theorem zU9 {e:Expr}{t:TE}(h:PE X e t)(he:∀whole,isTrue e X.env whole=(do let v ←whole;standAt e.pos;holding [v] (truthy v)):=by intro _;rfl):PT X e (tB t):=by
 intro pins s σ H Q I hw
 refine isTrue_plain (thn (h pins s σ H _ I hw) fun v s1 ⟨x,H1,I1,r1,q1⟩=>?_) (he _)
 obtain⟨d,rfl,q⟩:=q1
 cases r1
 exact Ex ⟨H1,I1,q⟩
variable {tA tB':TT} {rest:List Expr}
def zST (t u:TT):TT:=fun σ H Q=>t σ H fun c H1=>if c=true then u σ H1 Q else Q false H1
def tOr (t u:TT):TT:=fun σ H Q=>t σ H fun c H1=>if c=true then Q true H1 else u σ H1 Q
def zSX (t:TT):TT:=fun σ H Q=>t σ H fun c H1=>Q (!c) H1
theorem zWs (ha:PT X a tA):PW X (.BoolOp .And [a] pos) tA:=by
 intro wh pins s σ H Q I h
 refine isTrue_and (thn (ha pins s σ H Q I h) fun c s1 e=>?_)
 cases c with
 | true=>exact isTrue_and_nil e
 | false=>exact e
theorem zUs (ha:PT X a tA):PW X (.BoolOp .Or [a] pos) tA:=by
 intro wh pins s σ H Q I h
 refine isTrue_or (thn (ha pins s σ H Q I h) fun c s1 e=>?_)
 cases c with
 | false=>exact isTrue_or_nil e
 | true=>exact e
theorem zUH (ha:PT X a tA)(hb:PW X (.BoolOp .And (b::rest) pos) tB'):PW X (.BoolOp .And (a::b::rest) pos) (zST tA tB'):=by
 intro wh pins s σ H Q I h
 refine isTrue_and (thn (ha pins s σ H _ I h) fun c s1 ⟨H1,I1,q1⟩=>?_)
 cases c with
 | true=>exact hb wh pins s1 σ H1 Q I1 q1
 | false=>exact⟨H1,I1,q1⟩
theorem zT3 (ha:PT X a tA)(hb:PW X (.BoolOp .Or (b::rest) pos) tB'):PW X (.BoolOp .Or (a::b::rest) pos) (tOr tA tB'):=by
 intro wh pins s σ H Q I h
 refine isTrue_or (thn (ha pins s σ H _ I h) fun c s1 ⟨H1,I1,q1⟩=>?_)
 cases c with
 | true=>exact⟨H1,I1,q1⟩
 | false=>exact hb wh pins s1 σ H1 Q I1 q1
theorem zU8 (ha:PT X a tA):PT X (.UnaryOp .Not a pos) (zSX tA):=by
 intro pins s σ H Q I h
 exact isTrue_not (ha pins s σ H (fun c H1=>Q (!c) H1) I h)
def zTZ (ta tb:TE):TE:=fun σ H Q=>ta σ H fun x H1=>∃c,x = .bl c/\if c=true then tb σ H1 Q else Q (.bl false) H1
def zT0 (ta:TE):TE:=fun σ H Q=>ta σ H fun x H1=>∃c,x = .bl c/\Q (.bl (!c)) H1
theorem zUQ {op}{t:TE}(h:PE X a t):PE X (.BoolOp op [a] pos) t:=fun pins s σ H Q I hw=>BoolOp_one (h pins s σ H Q I hw)
theorem zUo (ha:PE X a ta)(hb:PE X (.BoolOp .And (b::rest) pos) tb):PE X (.BoolOp .And (a::b::rest) pos) (zTZ ta tb):=by
 intro pins s σ H Q I h
 refine BoolOp_and (thn (ha pins s σ H _ I h) fun v s1 ⟨x,H1,I1,r1,q1⟩=>?_)
 obtain⟨c,rfl,q1⟩:=q1
 cases r1
 refine Ex ?_
 cases c with
 | true=>exact hb pins s1 σ H1 Q I1 q1
 | false=>exact⟨.bl false,H1,I1,rfl,q1⟩
theorem zUq (ha:PE X a ta):PE X (.UnaryOp .Not a pos) (zT0 ta):=by
 intro pins s σ H Q I h
 refine UnaryOp_ (thn (ha pins s σ H _ I h) fun v s1 ⟨x,H1,I1,r1,q1⟩=>?_)
 obtain⟨c,rfl,q1⟩:=q1
 cases r1
 exact not_of (Ex ⟨.bl (!c),H1,I1,rfl,q1⟩)
def tIf (t:TT)(ta tb:TE):TE:=fun σ H Q=>t σ H fun c H1=>if c=true then ta σ H1 Q else tb σ H1 Q
theorem zY8 {c:Expr}(hc:PT X c tA)(ha:PE X a ta)(hb:PE X b tb):PE X (.IfExp c a b pos) (tIf tA ta tb):=by
 intro pins s σ H Q I h
 refine wpAny_IfExp (thn (hc pins s σ H _ I h) fun d s1 ⟨H1,I1,q1⟩=>?_)
 cases d with
 | true=>exact ha pins s1 σ H1 Q I1 q1
 | false=>exact hb pins s1 σ H1 Q I1 q1
end
def SqL (K:PySem.W.Frag)(H:Hp)(a:Addr)(xs:List V):Prop :=
 Rd H a (.lst xs) ∨
   ∃(o:Obj) (its:Array Value) (n:Nat),K.lookup a=some o/\o.cls = .type "list"/\o.dict=none/\o.data = .seq its n/\its.size<=sizeLine/\Vals xs its.toList
def SqT (K:PySem.W.Frag)(H:Hp)(a:Addr)(xs:List V):Prop :=
 Rd H a (.tup xs) ∨
   ∃(o:Obj) (its:Array Value) (n:Nat),K.lookup a=some o/\o.cls = .type "tuple"/\o.data = .seq its n/\its.size<=sizeLine/\Vals xs its.toList
def zSF:Value->Option V
 | .none=>some .non
 | .bool b=>some (.bl b)
 | .int i _=>some (.int i)
 | .str x _=>some (.str x)
 | .bytes b _=>some (.byt b)
 | .float b _=>some (.flt b)
 | .ref a=>some (.ref a)
 | .type n=>some (.ty n)
 | _=>none
theorem RelV.abs {x:V}{u:Value}(r:RelV x u):zSF u=some x:=by
 cases x with
 | non=>cases r;rfl
 | bl _=>cases r;rfl
 | int _=>obtain⟨t,rfl⟩:=r;rfl
 | str _=>obtain⟨t,rfl⟩:=r;rfl
 | byt _=>obtain⟨t,rfl⟩:=r;rfl
 | flt _=>obtain⟨t,rfl⟩:=r;rfl
 | ref _=>cases r;rfl
 | ty _=>cases r;rfl
theorem RelV.inj {x y:V}{u:Value}(r:RelV x u)(q:RelV y u):x=y:=Qv (r.abs.symm.trans q.abs)
theorem Vals.inj:∀ {xs ys:List V} {us:List Value},Vals xs us->Vals ys us->xs=ys
 | _,_,_,.nil,.nil=>rfl
 | _,_,_,.cons r t,.cons r' t'=>by rw[r.inj r',Vals.inj t t']
section
variable {X:Cx} {pins:List (Addr×Obj)} {σ:St} {H:Hp} {s:Shared} {a:Addr} {xs ys:List V}
theorem SqL.of {K:PySem.W.Frag}(h:H a=some (.lst xs)):SqL K H a xs:=.inl (.inl h)
theorem SqT.of {K:PySem.W.Frag}(h:H a=some (.tup xs)):SqT K H a xs:=.inl (.inl h)
theorem Inv.list (I:Inv X pins σ H s)(h:SqL X.K H a xs):∃its:List Value,Vals xs its/\PlainL s.heap a its.toArray/\xs.length<=sizeLine:=by
 rcases h with h | ⟨o,its,n,hk,hc,hd,hs,hz,r⟩
 · obtain⟨z,its,n,r,e⟩:=h.ok I.hok
   exact⟨its,r,⟨_,n,e,rfl,rfl,rfl⟩,z⟩
 · refine⟨its.toList,r,⟨o,n,I.kIn a o hk,hc,hd,by simpa using hs⟩,?_⟩
   have e:=r.length
   simp only[En] at e
   omega
theorem Inv.tuple (I:Inv X pins σ H s)(h:SqT X.K H a xs):∃its:List Value,Vals xs its/\IsTup s.heap a its.toArray/\xs.length<=sizeLine:=by
 rcases h with h | ⟨o,its,n,hk,hc,hs,hz,r⟩
 · obtain⟨z,its,r,p⟩:=h.ok I.hok
   exact⟨its,r,p,z⟩
 · refine⟨its.toList,r,⟨o,I.kIn a o hk,hc,n,by simpa using hs⟩,?_⟩
   have e:=r.length
   simp only[En] at e
   omega
theorem Inv.list_inj (I:Inv X pins σ H s)(h:SqL X.K H a xs)(h':SqL X.K H a ys):xs=ys:=by
 obtain⟨its,r,⟨o,n,e,_,_,d⟩,_⟩:=I.list h
 obtain⟨its',r',⟨o',n',e',_,_,d'⟩,_⟩:=I.list h'
 rw[e] at e';cases e'
 rw[d] at d'
 injection d' with d1 _
 have:its=its':=by simpa using Eh Array.toList d1
 subst this
 exact r.inj r'
theorem Inv.tuple_inj (I:Inv X pins σ H s)(h:SqT X.K H a xs)(h':SqT X.K H a ys):xs=ys:=by
 obtain⟨its,r,⟨o,e,_,n,d⟩,_⟩:=I.tuple h
 obtain⟨its',r',⟨o',e',_,n',d'⟩,_⟩:=I.tuple h'
 rw[e] at e';cases e'
 rw[d] at d'
 injection d' with d1 _
 have:its=its':=by simpa using Eh Array.toList d1
 subst this
 exact r.inj r'
end
abbrev Cx.wish (X:Cx)(E:Value->Shared->Prop):Cx:={ X with xe:=E }
abbrev Cx.nox (X:Cx):Cx:=X.wish fun _ _=>False
theorem Cx.Ok.wish {X:Cx}(ok:X.Ok)(E:Value->Shared->Prop):(X.wish E).Ok :=
 ⟨ok.mod,ok.kind,ok.glob,ok.blt,ok.above,ok.inj,ok.has,ok.cab,ok.hd,ok.frames,ok.stk,ok.exf,ok.bs,ok.bsz,ok.noex,ok.exfs,ok.funs,ok.frf⟩
theorem Cx.Ok.unwish {X:Cx}{E:Value->Shared->Prop}(ok:(X.wish E).Ok):X.Ok :=
 ⟨ok.mod,ok.kind,ok.glob,ok.blt,ok.above,ok.inj,ok.has,ok.cab,ok.hd,ok.frames,ok.stk,ok.exf,ok.bs,ok.bsz,ok.noex,ok.exfs,ok.funs,ok.frf⟩
section
variable {X:Cx} {pins:List (Addr×Obj)} {σ:St} {H:Hp} {s:Shared} {E:Value->Shared->Prop}
theorem Inv.wish (I:Inv X pins σ H s)(E:Value->Shared->Prop):Inv (X.wish E) pins σ H s:=⟨I.ok.wish E,I.os,I.bare,I.base,I.loc,I.cell,I.free,I.freeC,I.pin,I.hok,I.len⟩
theorem Inv.unwish (I:Inv (X.wish E) pins σ H s):Inv X pins σ H s:=⟨I.ok.unwish,I.os,I.bare,I.base,I.loc,I.cell,I.free,I.freeC,I.pin,I.hok,I.len⟩
theorem SP.unwish {D:Ends}{f:Flow}{s':Shared}(h:SP (X.wish E) pins D f s'):SP X pins D f s':=by
 cases f with
 | next=>obtain⟨σ',H',I,q⟩:=h;exact⟨σ',H',I.unwish,q⟩
 | brk=>obtain⟨σ',H',I,q⟩:=h;exact⟨σ',H',I.unwish,q⟩
 | cont=>obtain⟨σ',H',I,q⟩:=h;exact⟨σ',H',I.unwish,q⟩
 | ret u=>obtain⟨v,σ',H',I,r,q⟩:=h;exact⟨v,σ',H',I.unwish,r,q⟩
theorem PSs.nox {st:List Stmt}{t:TS}(h:PSs X.nox st t):PSs X st t:=fun pins s σ H D I hw =>
 Ei (h pins s σ H D (I.wish _) hw) (fun _ _ q=>q.unwish) fun _ _ z=>False.elim z
variable {st:Stmt} {rest:List Stmt} {t u:TS} {e:Expr} {te:TE} {pos:Pos}
def zVx:TS:=fun D σ H=>D.nx σ H
def zSG (t u:TS):TS:=fun D σ H=>t { D with nx:=u D } σ H
theorem fZ:PSs X [] zVx:=fun _ _ σ H _ I h=>Tt ⟨σ,H,I,h⟩
theorem rM (h1:PS X st t)(h2:PSs X rest u):PSs X (st::rest) (zSG t u):=by
 intro pins s σ H D I h
 refine Yf (thn (h1 pins s σ H { D with nx:=u D } I h) fun f s1 q=>?_)
 cases f with
 | next =>
   obtain⟨σ',H',I',q⟩:=q
   exact h2 pins s1 σ' H' D I' q
 | ret v=>exact q
 | brk=>exact q
 | cont=>exact q
theorem zZ6 (h1:PS X st t):PSs X [st] t:=by
 intro pins s σ H D I h
 refine Yf (thn (h1 pins s σ H D I h) fun f s1 q=>?_)
 cases f with
 | next=>exact Tt q
 | ret v=>exact q
 | brk=>exact q
 | cont=>exact q
theorem Inv.quiet {pins:List (Addr×Obj)}{σ:St}{H:Hp}{s:Shared}(I:Inv X pins σ H s):interactive X.env=false:=by simp[interactive,I.ok.kind]
def zTS (te:TE):TS:=fun D σ H=>te σ H fun _ H1=>D.nx σ H1
theorem zZM (he:PE X e te)(hs:swapsWith e none pos.line X.env=pure false:=by rfl):PS X (.Expr e pos) (zTS te):=by
 intro pins s σ H D I h
 exact wpAny_Expr_any (thn (he pins s σ H _ I h) fun v s1 ⟨x,H1,I1,r1,q1⟩=>⟨σ,H1,I1,q1⟩) I.quiet hs
def zSQ (te:TE):TS:=fun D σ H=>te σ H D.rt
theorem zUW (he:PE X e te):PS X (.Return (some e) pos) (zSQ te):=by
 intro pins s σ H D I h
 exact wpAny_Return_some (thn (he pins s σ H _ I h) fun v s1 ⟨x,H1,I1,r1,q1⟩=>⟨x,σ,H1,I1,r1,q1⟩)
def zTc (c:TT)(t u:TS):TS:=fun D σ H=>c σ H fun b H1=>if b=true then t D σ H1 else u D σ H1
theorem zYB {c:Expr}{a b:List Stmt}{tc:TT}(hc:PT X c tc)(ha:PSs X a t)(hb:PSs X b u):PS X (.If c a b pos) (zTc tc t u):=by
 intro pins s σ H D I h
 refine wpAny_If (thn (hc pins s σ H _ I h) fun d s1 ⟨H1,I1,q1⟩=>?_)
 cases d with
 | true=>exact ha pins s1 σ H1 D I1 q1
 | false=>exact hb pins s1 σ H1 D I1 q1
end
abbrev TG:=V->St->Hp->(St->Hp->Prop)->Prop
abbrev TGs:=List V->St->Hp->(St->Hp->Prop)->Prop
def PG (X:Cx)(target:Expr)(t:TG):Prop :=
 ∀(pins:List (Addr×Obj)) (s:Shared) (σ:St) (H:Hp) (v:V) (u:Value) (Q:St->Hp->Prop),Inv X pins σ H s->RelV v u->t v σ H Q ->
   wpAny (model X.prog X.w) X.A (assign target X.env u) (fun _ s'=>∃σ' H',Inv X pins σ' H' s'/\Q σ' H') X.xe s
def PGs (X:Cx)(ts:List Expr)(t:TGs):Prop :=
 ∀(pins:List (Addr×Obj)) (s:Shared) (σ:St) (H:Hp) (vs:List V) (us:List Value) (Q:St->Hp->Prop),Inv X pins σ H s->Vals vs us->t vs σ H Q ->
   wpAny (model X.prog X.w) X.A (assignInOrder ((assignEach ts X.env).map (·.2)) us) (fun _ s'=>∃σ' H',Inv X pins σ' H' s'/\Q σ' H') X.xe s
abbrev zUh:=V->V->V->Hp->(Hp->Prop)->Prop
def zT1 (X:Cx)(t:zUh):Prop :=
 ∀(pins:List (Addr×Obj)) (s:Shared) (σ:St) (H:Hp) (o i v:V) (ov iv u:Value) (Q:Hp->Prop),Inv X pins σ H s->RelV o ov->RelV i iv->RelV v u->t o i v H Q ->
   wpAny (model X.prog X.w) X.A (setItem ov iv u) (fun _ s'=>∃H',Inv X pins σ H' s'/\Q H') X.xe s
abbrev TIp:=V->V->Hp->VK->Prop
def PIp (X:Cx)(op:Operator)(t:TIp):Prop :=
 ∀(pins:List (Addr×Obj)) (s:Shared) (σ:St) (H:Hp) (x y:V) (v u:Value) (Q:VK),Inv X pins σ H s->RelV x v->RelV y u->t x y H Q ->
   wpAny (model X.prog X.w) X.A (inplaceOp op v u) (EP X pins σ Q) X.xe s
section
variable {X:Cx} {pos:Pos}
def dQ (i:Nat):TG:=fun v σ H Q=>Q (σ.set i (some v)) H
theorem zWe {i:Nat}{x:Str}(hN:X.N.Nodup)(hi:X.N[i]?=some x)(hx:Loc X.env.scope x)(hf:X.fn x=true∨X.env.scope.names.lookup x=some .local:=by first | exact .inl rfl | exact .inr rfl | assumption):PG X (.Name x pos) (dQ i):=by
 intro pins s σ H v u Q I r h
 exact wpAny_assign_Name (oB I hN hi hx r (fun s' I'=>⟨_,H,I',h⟩) hf)
def zTe:TGs:=fun vs σ H Q=>vs=[]/\Q σ H
def zTX (t:TG)(u:TGs):TGs:=fun vs σ H Q=>∃v r,vs=v::r/\t v σ H fun σ' H'=>u r σ' H' Q
theorem zVP:PGs X [] zTe:=by
 intro pins s σ H vs us Q I r h
 obtain⟨e,h⟩:=h
 subst e
 cases r
 exact assignInOrder_nil ⟨σ,H,I,h⟩
theorem zYn {e:Expr}{es:List Expr}{t:TG}{u:TGs}(h1:PG X e t)(h2:PGs X es u)
   (hs:(assignEach (e::es) X.env).map (·.2)=assign e X.env::(assignEach es X.env).map (·.2):=by rfl):PGs X (e::es) (zTX t u):=by
 intro pins s σ H vs us Q I r h
 obtain⟨v,vr,e1,h⟩:=h
 subst e1
 cases r with
 | cons r rr =>
   rw[hs]
   refine assignInOrder_cons (thn (h1 pins s σ H _ _ _ I r h) fun _ s1 ⟨σ1,H1,I1,q1⟩=>?_)
   exact h2 pins s1 σ1 H1 _ _ Q I1 rr q1
def zSE (K:PySem.W.Frag)(n:Nat)(t:TGs):TG:=fun v σ H Q=>∃a xs,v = .ref a/\SqT K H a xs/\xs.length=n/\t xs σ H Q
theorem zVh {es:List Expr}{k:Nat}{t:TGs}{n:Nat}(hc:X.calm=true)(h:PGs X es t)
   (hn:(assignEach es X.env).length=n:=by rfl) (hst:(assignEach es X.env).findIdx? (·.1)=none:=by rfl):PG X (.Tuple es k pos) (zSE X.K n t):=by
 intro pins s σ H v u Q I r hw
 obtain⟨a,xs,e1,hq,hl,hw⟩:=hw
 subst e1
 cases r
 obtain⟨its,rv,ht,hz⟩:=I.tuple hq
 refine assign_Tuple_tuple (I.ok.hd hc) ht (by simp[hn,←hl,rv.length]) hst fun h' hx=>?_
 have I1:Inv X pins σ H { s with heap:=h' }:=I.kept (t':=s.toks) fun b o e=>hx b o (Qb (Qu e)) e
 exact h pins _ σ H xs _ Q I1 (by simpa using rv) hw
def zSY (to ti:TE)(t:zUh):TG:=fun v σ H Q=>to σ H fun o H1=>ti σ H1 fun i H2=>t o i v H2 fun H3=>Q σ H3
theorem zUk {o i:Expr}{to ti:TE}{t:zUh}(ho:PE X o to)(hi:PE X i ti)(hs:zT1 X t)
   (ha:∀v,assign (.Subscript o i pos) X.env v=(do
     let ov ←holding [v] (eval o X.env)
     let iv ←holding [v,ov] (eval i X.env)
     standAt pos
     holding [v,ov,iv] (setItem ov iv v)
     release [v,ov,iv] []):=by intro _;rfl):PG X (.Subscript o i pos) (zSY to ti t):=by
 intro pins s σ H v u Q I r h
 rw[ha]
 refine Qw (Wb (thn (ho pins s σ H _ I h) fun ov s1 ⟨x,H1,I1,r1,q1⟩=>?_))
 refine Qw (Wb (thn (hi pins s1 σ H1 _ I1 q1) fun iv s2 ⟨y,H2,I2,r2,q2⟩=>?_))
 refine Qw (Rc (Qw (Wb (thn (hs pins s2 σ H2 x y v ov iv u _ I2 r1 r2 r q2) fun _ s3 ⟨H3,I3,q3⟩=>?_))))
 exact wpAny_release ⟨σ,H3,I3,q3⟩
def zZz (te:TE)(g:TG):TS:=fun D σ H=>te σ H fun x H1=>g x σ H1 D.nx
theorem zYA {tg e:Expr}{te:TE}{g:TG}(he:PE X e te)(hg:PG X tg g)(hs:swapsWithSole [tg] e pos.line X.env=pure false:=by rfl)(hw:swappedStores [tg] e X.env=pure none:=by rfl)
   (h1:(assignEach [tg] X.env).map (·.2)=[assign tg X.env]:=by rfl):PS X (.Assign [tg] e pos) (zZz te g):=by
 intro pins s σ H D I h
 refine wpAny_Assign_stores (thn (he pins s σ H _ I h) fun v s1 ⟨x,H1,I1,r1,q1⟩=>?_) hs hw
 rw[h1]
 exact thn (hg pins s1 σ H1 x v _ I1 r1 q1) fun _ s2 q=>q
theorem eS {i:Nat}{x:Str}{e:Expr}{te:TE}{pos':Pos}(hN:X.N.Nodup)(hi:X.N[i]?=some x)(hx:Loc X.env.scope x)(he:PE X e te)(hs:swapsWith e (some (.Name x pos')) pos.line X.env=pure false:=by rfl)(hf:X.fn x=true∨X.env.scope.names.lookup x=some .local:=by first | exact .inl rfl | exact .inr rfl | assumption) :
   PS X (.Assign [.Name x pos'] e pos) (zZz te (dQ i)):=by
 intro pins s σ H D I h
 refine wpAny_Assign_Name (thn (he pins s σ H _ I h) fun v s1 ⟨y,H1,I1,r1,q1⟩=>?_) hs
 exact oB I1 hN hi hx r1 (fun s2 I2=>⟨_,H1,I2,q1⟩) hf
def zSK (i:Nat)(te:TE)(ti:TIp):TS:=fun D σ H=>∃x,σ[i]?=some (some x)/\te σ H fun y H1=>ti x y H1 fun z H2=>D.nx (σ.set i (some z)) H2
theorem zU6 {i:Nat}{x:Str}{e:Expr}{te:TE}{op:Operator}{ti:TIp}{pos':Pos}(hN:X.N.Nodup)(hi:X.N[i]?=some x)(hx:Loc X.env.scope x)(he:PE X e te)(ho:PIp X op ti)(hf:X.fn x=true∨X.env.scope.names.lookup x=some .local:=by first | exact .inl rfl | exact .inr rfl | assumption) :
   PS X (.AugAssign (.Name x pos') op e pos) (zSK i te ti):=by
 intro pins s σ H D I h
 obtain⟨v,e1,h⟩:=h
 obtain⟨m,hn,hl⟩:=I.loc
 have vis:Vis X.env.scope x:=by rcases hx with k | k;exact .inl k;exact .inr (.inl k)
 obtain⟨u,r,l⟩:=hl i x v hi e1 vis
 refine wpAny_AugAssign_Name ?_
 have go:wpAny (model X.prog X.w) X.A (eval e X.env) (fun w s₂=>wpAny (model X.prog X.w) X.A (inplaceOp op u w) (fun r s₃ => wpAny (model X.prog X.w) X.A (storeName X.env x r) (fun _=>SP X pins D .next) X.xe s₃) X.xe s₂) X.xe s:=by
   refine thn (he pins s σ H _ I h) fun w s1 ⟨y,H1,I1,r1,q1⟩=>?_
   refine thn (ho pins s1 σ H1 v y u w _ I1 r r1 q1) fun z s2 ⟨zv,H2,I2,r2,q2⟩=>?_
   exact oB I2 hN hi hx r2 (fun s3 I3=>⟨_,H2,I3,q2⟩) hf
 rcases l with⟨hk,hm⟩ | ⟨hk,c,hc,hcell⟩
 · exact wpAny_loadName_local I.ok.kind hk hn hm go
 · rcases hk with hk | hk
   · exact wpAny_loadName_cell I.ok.kind hk hc hcell go
   · rcases hx with k | k
     · have:X.env.scope.names.lookup x=some .free:=hk
       rw[k] at this;cases this
     · have:X.env.scope.names.lookup x=some .free:=hk
       rw[k] at this;cases this
def ipI (f:Int->Int->Int):TIp:=fun x y H Q=>∃i j,x = .int i/\y = .int j/\Q (.int (f i j)) H
theorem zVi:PIp X .Add (ipI fun i j=>i+j):=by
 intro pins s σ H x y v u Q I r1 r2 h
 obtain⟨i,j,e1,e2,q⟩:=h
 subst e1;subst e2
 obtain⟨t,rfl⟩:=r1
 obtain⟨t',rfl⟩:=r2
 exact iadd_int ⟨.int _,H,I.tok _,⟨_,rfl⟩,q⟩
def zUw (c:TT)(tb:TS):TS:=fun D σ H=>∃W:Nat->St->Hp->Prop,(∃m,W m σ H)/\∀m σ H,W m σ H ->
 c σ H fun b H1=>if b=true then ∃N:St->Hp->Prop,(∀σ' H',N σ' H'->∃m',m' < m/\W m' σ' H')/\tb { D with nx:=N,ct:=N,bk:=D.nx } σ H1 else D.nx σ H1
theorem zXW {c:Expr}{body:List Stmt}{tc:TT}{tb:TS}(hp:PassesOwn (model X.prog X.w) X.A X.env X.xe)(hc:PT X c tc)(hb:PSs X body tb):PS X (.While c body [] pos) (zUw tc tb):=by
 intro pins s σ H D I h
 obtain⟨W,⟨m0,w0⟩,turn⟩:=h
 refine wpAny_While (codeAny_whileLoop (fun n s'=>∃σ' H',Inv X pins σ' H' s'/\W n σ' H') ?_ m0 ⟨σ,H,I,w0⟩)
 rintro n s1 ⟨σ1,H1,I1,w1⟩
 refine Ej hp (thn (hc pins s1 σ1 H1 _ I1 (turn n σ1 H1 w1)) fun b s2 ⟨H2,I2,q2⟩=>?_)
 cases b with
 | true =>
   obtain⟨N,hN,q2⟩:=q2
   rw[Qo rfl]
   refine Ej hp (thn (hb pins s2 σ1 H2 _ I2 q2) fun f s3 q3=>?_)
   cases f with
   | next =>
     obtain⟨σ3,H3,I3,n3⟩:=q3
     obtain⟨m',hm,w3⟩:=hN σ3 H3 n3
     exact⟨m',hm,σ3,H3,I3,w3⟩
   | cont =>
     obtain⟨σ3,H3,I3,n3⟩:=q3
     obtain⟨m',hm,w3⟩:=hN σ3 H3 n3
     exact⟨m',hm,σ3,H3,I3,w3⟩
   | brk=>exact q3
   | ret v=>exact q3
 | false =>
   rw[Qg Ww]
   exact Tt ⟨σ1,H2,I2,q2⟩
end
structure It where
 go:Nat->Hp->Prop
 yld:Nat->Hp->V->Hp->Prop
 stop:Nat->Hp->Prop
def lD (X:Cx)(pins:List (Addr×Obj))(H:Hp)(b:Addr):Prop :=
 H b=none/\b≠X.env.locals/\b∉X.fs/\(b∈X.ex∨X.s₀.heap.objs.size<=b)/\(∀x c,X.env.cells.lookup x=some c->c≠b)/\∀p∈X.pn++pins,p.1≠b
theorem Inv.fpOk {X:Cx}{pins:List (Addr×Obj)}{σ:St}{H H':Hp}{s:Shared}{b:Addr}(I:Inv X pins σ H s)(hb:s.heap.objs.size<=b)(hn:H' b=none):lD X pins H' b:=by
 refine⟨hn,Nat.ne_of_gt (Qx I.lt hb),I.nofs hb,.inr (We I.sz hb),fun x c e z=>?_,fun p hp z=>?_⟩
 · obtain⟨v,q⟩:=I.cell x c e
   exact absurd (Qx q.lt (by rw[z];exact hb)) (Wf _)
 · exact absurd (Qx (Qu (I.pin p hp).1) (by rw[z];exact hb)) (Wf _)
structure Turn (P:Program)(w:World)(K:PySem.W.Frag)(tg:Expr)(J:It)(fp:List Addr)(it:Addr)(tn:Nat->Heap->Prop):Prop where
 mem:it∈fp
 obj:∀i h,tn i h->∀b∈fp,∃o,h.get? b=some o/\∀v,o.data ≠ .cell v
 keep:∀i h h',tn i h->(∀b∈fp,∀o,h.get? b=some o->h'.get? b=some o)->tn i h'
 item:∀(X:Cx),X.prog=P->X.w=w->X.K=K->X.calm=true->∀(i:Nat) (pins:List (Addr×Obj)) (s:Shared) (σ:St) (H:Hp) (E:Value->Shared->Prop),Inv X pins σ H s->(∀b∈fp,lD X pins H b)->tn i s.heap->J.go i H ->
   wpAny (model P w) X.A (pyNext (.ref it)) (fun r s1=>∃u,r=some u /\
     wpAny (model P w) X.A (letOwnedTupleGo tg (.ref it) u) (fun _ s2=>∃x H',Inv X pins σ H' s2/\RelV x u/\J.yld i H x H'/\tn (i+1) s2.heap/\∀b∈fp,H' b=none) E s1) E s
 done:∀(X:Cx),X.prog=P->X.w=w->X.K=K->X.calm=true->∀(i:Nat) (pins:List (Addr×Obj)) (s:Shared) (σ:St) (H:Hp) (E:Value->Shared->Prop),Inv X pins σ H s->(∀b∈fp,lD X pins H b)->tn i s.heap->J.stop i H ->
   wpAny (model P w) X.A (pyNext (.ref it)) (fun r s1=>r=none/\Inv X pins σ H s1) E s
 self:∀(A:Around) (i:Nat) (s:Shared) (Q:Value->Shared->Prop) (E:Value->Shared->Prop),tn i s.heap->Q (.ref it) s->wpAny (model P w) A (pyIter (.ref it)) Q E s
abbrev TI:=St->Hp->(It->Hp->Prop)->Prop
def PIE (X:Cx)(pins:List (Addr×Obj))(σ:St)(tg:Expr)(R:It->Hp->Prop)(itv:Value)(s2:Shared):Prop :=
 ∃(it:Addr) (fp:List Addr) (tn:Nat->Heap->Prop) (J:It) (H':Hp),itv = .ref it/\Inv X pins σ H' s2/\Turn X.prog X.w X.K tg J fp it tn/\tn 0 s2.heap/\(∀b∈fp,lD X pins H' b)/\R J H'
def PI (X:Cx)(tg iter:Expr)(wi:TI):Prop :=
 ∀(pins:List (Addr×Obj)) (s:Shared) (σ:St) (H:Hp) (R:It->Hp->Prop),Inv X pins σ H s->wi σ H R ->
   wpAny (model X.prog X.w) X.A (eval iter X.env) (fun v s1=>wpAny (model X.prog X.w) X.A (pyIter v) (PIE X pins σ tg R) X.xe s1) X.xe s
theorem zVC {M:Model}{A:Around}{E:Value->Shared->Prop}{s:Shared}{tg:Expr}{it:Addr}{u:Value}{o:Obj}{n:String}{vs:Array Value}{Q:Unit->Shared->Prop}(ho:s.heap.get? it=some o)(hc:o.cls = .type n)(hd:o.data = .fields vs)
   (hn:["enumerate","zip","dict_itemiterator","dict_reverseitemiterator","odict_iterator","itertools.zip_longest","itertools.pairwise"].contains n=false) (hQ:Q () s):wpAny M A (letOwnedTupleGo tg (.ref it) u) Q E s:=by
 unfold letOwnedTupleGo
 cases tg<;>first
   | exact Qi hQ
   | (cases u<;>first
       | exact Qi hQ
       | (refine Qw (wpAny_load ho ?_)
          rw[hc,hd]
          show wpAny M A (if (["enumerate","zip","dict_itemiterator","dict_reverseitemiterator","odict_iterator","itertools.zip_longest","itertools.pairwise"].contains n&&vs[0]?==some (rawInt _))=true then _ else _) Q E s
          rw[Qg (by intro h;rw[hn,Bool.false_and] at h;cases h)]
          exact Qi hQ))
def Itl (K:PySem.W.Frag)(a:Addr):It :=
 ⟨fun i H=>∃xs x,SqL K H a xs/\xs[i]?=some x,fun i H x H'=>H'=H/\∀xs,SqL K H a xs->xs[i]?=some x,fun i H=>∃xs,SqL K H a xs/\xs.length<=i⟩
def Itr (lo:Int)(n:Nat):It:=⟨fun i _=>i < n,fun i H x H'=>H'=H/\x = .int (lo+i),fun i _=>n<=i⟩
theorem zYK {P:Program}{w:World}{K:PySem.W.Frag}{tg:Expr}(a it:Addr):Turn P w K tg (Itl K a) [it] it (fun i h=>h.IsListIter it a i) where
 mem:=by simp
 obj:=fun i h st b hb=>by
   have e:b=it:=by simpa using hb
   subst e
   obtain⟨o,e,c,d⟩:=st
   exact⟨o,e,fun v z=>by rw[d] at z;cases z⟩
 keep:=fun i h h' st k=>st.at fun o e=>k it (by simp) o e
 item:=by
   intro X hP hw hK hc i pins s σ H E I hf st hg
   subst hP hw hK
   obtain⟨xs,x,hq,hx⟩:=hg
   obtain⟨its,rv,p,hz⟩:=I.list hq
   obtain⟨u,hu,ru⟩:=rv.get hx
   obtain⟨f0,f1,f2,f3,f4,f5⟩:=hf it (by simp)
   refine wpAny_pyNext_list_item st p.isList (x:=u) (by simpa using hu) fun h' st' sb=>?_
   have I1:Inv X pins σ H { s with heap:=h' }:=I.turned (t':=s.toks) (fun b o hb e=>(sb.2 b hb).trans e) f0 f1 f3 f4 f5
   obtain⟨o,e,c,d⟩:=id st'
   exact⟨u,rfl,zVC (s:={ s with heap:=h' }) e c d (by decide) ⟨x,H,I1,ru,⟨rfl,fun ys hy=>by rw[I.list_inj hy hq];exact hx⟩,st',fun b hb=>(hf b hb).1⟩⟩
 done:=by
   intro X hP hw hK hc i pins s σ H E I hf st hg
   subst hP hw hK
   obtain⟨xs,hq,hx⟩:=hg
   obtain⟨its,rv,p,hz⟩:=I.list hq
   obtain⟨f0,f1,f2,f3,f4,f5⟩:=hf it (by simp)
   have hl:=rv.length
   exact wpAny_pyNext_list_end (I.ok.hd hc) st p.isList (by simp;omega) fun h' eb=>⟨rfl,I.turned (t':=s.toks) (fun b o hb e=>eb b o hb e) f0 f1 f3 f4 f5⟩
 self:=fun _ _ _ _ _ st h=>wpAny_pyIter_listiter st h
theorem bB {P:Program}{w:World}{K:PySem.W.Frag}{tg:Expr}(it:Addr)(lo:Int)(n:Nat):Turn P w K tg (Itr lo n) [it] it (fun i h=>IsRangeIter h it (lo+(i:Nat)*1) ((n:Int) - (i:Nat)) 1) where
 mem:=by simp
 obj:=fun i h st b hb=>by
   have e:b=it:=by simpa using hb
   subst e
   exact⟨_,st,fun v z=>by
     have z':Data.fields _=Data.cell v:=z
     cases z'⟩
 keep:=fun i h h' st k=>k it (by simp) _ st
 item:=by
   intro X hP hw hK hc i pins s σ H E I hf st hg
   subst hP hw hK
   obtain⟨f0,f1,f2,f3,f4,f5⟩:=hf it (by simp)
   have W:=Walks.range (prog:=X.prog) (w:=X.w) (I.ok.hd hc) it lo 1 n
   refine W.item i s _ _ hg st fun v h' tk hv st' kk=>?_
   obtain⟨t,rfl⟩:=hv
   have I1:Inv X pins σ H { s with heap:=h',toks:=tk }:=I.turned (fun b o hb e=>kk b o (by simpa using hb) e) f0 f1 f3 f4 f5
   refine⟨_,rfl,zVC (s:={ s with heap:=h',toks:=tk }) (n:="range_iterator") st' rfl rfl (by decide) ⟨.int (lo+i),H,I1,⟨t,?_⟩,⟨rfl,rfl⟩,st',fun b hb=>(hf b hb).1⟩⟩
   rw[Int.mul_one]
 done:=by
   intro X hP hw hK hc i pins s σ H E I hf st hg
   subst hP hw hK
   obtain⟨f0,f1,f2,f3,f4,f5⟩:=hf it (by simp)
   exact wpAny_pyNext_range_end (I.ok.hd hc) st (by have:n<=i:=hg;omega) fun h' eb=>⟨rfl,I.turned (t':=s.toks) (fun b o hb e=>eb b o hb e) f0 f1 f3 f4 f5⟩
 self:=fun _ _ _ _ _ st h=>wpAny_pyIter_rangeiter st h
section
variable {X:Cx} {tg:Expr}
def zUf (K:PySem.W.Frag)(tl:TE):TI:=fun σ H R=>tl σ H fun x H1=>∃a,x = .ref a/\(∃xs,SqL K H1 a xs)/\R (Itl K a) H1
theorem zZK {l:Expr}{tl:TE}(hl:PE X l tl):PI X tg l (zUf X.K tl):=by
 intro pins s σ H R I h
 refine thn (hl pins s σ H _ I h) fun v s1 ⟨x,H1,I1,r1,q1⟩=>?_
 obtain⟨a,e,⟨xs,hq⟩,q⟩:=q1
 subst e
 cases r1
 obtain⟨its,rv,p,hz⟩:=I1.list hq
 refine Yr p.isList ?_
 refine⟨s1.heap.objs.size,[s1.heap.objs.size],_,_,H1,rfl,I1.kept (t':=s1.toks) fun b o e=>Qr _ e,zYK a _,⟨_,Qd _ rfl,rfl,rfl⟩,fun b hb=>?_,q⟩
 have e:b=s1.heap.objs.size:=by simpa using hb
 subst e
 exact I1.fpOk (Qz _) (I1.hok.fresh (Qz _))
theorem zXX {pins:List (Addr×Obj)}{σ:St}{H:Hp}{s:Shared}{R:It->Hp->Prop}{E:Value->Shared->Prop}{lo hi:Int}{t u v:Tok}{tk:Nat}(I:Inv X pins σ H s)(h1 : -(2^62)<=lo)(h2:lo < 2^62)(h3 : -(2^62)<=hi)(h4:hi < 2^62)
   (q:R (Itr lo (hi - lo).toNat) H):wpAny (model X.prog X.w) X.A (pyIter (.ref s.heap.objs.size)) (PIE X pins σ tg R) E { s with heap:=s.heap.push { cls:=.type "range",data:=.fields #[.int lo t,.int hi u,.int 1 v] },toks:=tk }:=by
 refine wpAny_pyIter_range (IsRange.new ..) (small_one h1 h2 h3 h4) ?_
 have I1:Inv X pins σ H { s with heap:=s.heap.push { cls:=.type "range",data:=.fields #[.int lo t,.int hi u,.int 1 v] },toks:=tk }:=I.kept fun b o e=>Qr _ e
 refine⟨(s.heap.push { cls:=.type "range",data:=.fields #[.int lo t,.int hi u,.int 1 v] }).objs.size,[(s.heap.push { cls:=.type "range",data:=.fields #[.int lo t,.int hi u,.int 1 v] }).objs.size],_,_,H,rfl,
   I1.kept (t':=tk) fun b o e=>Qr _ e,bB _ lo (hi - lo).toNat,?_,fun b hb=>?_,q⟩
 · have e1:lo+((0:Nat):Int)*1=lo:=by simp
   have e2:(((hi - lo).toNat:Nat):Int) - ((0:Nat):Int)=Builtin.Range.rangeSize lo hi 1:=by rw[rangeSize_one];split<;>omega
   show IsRangeIter _ _ (lo+((0:Nat):Int)*1) ((((hi - lo).toNat:Nat):Int) - ((0:Nat):Int)) 1
   rw[e1,e2]
   exact Qd _ rfl
 · have e:b=(s.heap.push { cls:=.type "range",data:=.fields #[.int lo t,.int hi u,.int 1 v] }).objs.size:=by simpa using hb
   subst e
   exact I1.fpOk (Qz _) (I1.hok.fresh (Qz _))
def zUc (ta:TA):TI:=fun σ H R=>ta σ H fun vs H1=>∃j:Int,vs=[.int j] /\ -(2^62)<=j/\j < 2^62/\R (Itr 0 j.toNat) H1
theorem zYO {a:Expr}{ta:TA}{p pos:Pos}(hg:Gl X "range")(hm:X.mg "range"=none)(ha:PA X [a] ta)(hs:starEach [a] X.env=[(false,eval a X.env)]:=by rfl):PI X tg (.Call (.Name "range" p) [a] [] pos) (zUc ta):=by
 intro pins s σ H R I h
 refine Call_ (nI I hg hm boot_range (Yb (thn (ha pos pins s σ H _ I h) fun us s1 ⟨vs,H1,I1,r1,q1⟩=>?_) hs rfl))
 obtain⟨j,e,q1,q2,q⟩:=q1
 subst e
 cases r1 with
 | cons r rr =>
   cases rr
   obtain⟨t,rfl⟩:=r
   exact call_range_1 (zXX I1 (by omega) (by omega) q1 q2 (by simpa using q))
def zSD (wi:TI)(g:TG)(tb:TS):TS:=fun D σ H=>wi σ H fun J H1=>∃W:Nat->Nat->St->Hp->Prop,(∃m,W 0 m σ H1)/\∀i m σ H,W i m σ H ->
 (J.stop i H/\D.nx σ H)∨(J.go i H/\∃N:St->Hp->Prop,(∀σ' H',N σ' H'->∃m',m' < m/\W (i+1) m' σ' H')/\∀x H',J.yld i H x H'->g x σ H' fun σ2 H2=>tb { D with nx:=N,ct:=N,bk:=D.nx } σ2 H2)
def jX (fp:List Addr)(h:Heap):List (Addr×Obj):=fp.filterMap fun b=>(h.get? b).map fun o=>(b,o)
theorem sT {fp:List Addr}{h:Heap}{b:Addr}{o:Obj}(hb:b∈fp)(e:h.get? b=some o):(b,o)∈jX fp h:=List.mem_filterMap.mpr ⟨b,hb,by rw[e];rfl⟩
theorem zZh {fp:List Addr}{h:Heap}{p:Addr×Obj}(hp:p∈jX fp h):p.1∈fp/\h.get? p.1=some p.2:=by
 obtain⟨b,hb,e⟩:=List.mem_filterMap.mp hp
 cases q:h.get? b with
 | none=>rw[q] at e;cases e
 | some o =>
   rw[q] at e
   have e':(b,o)=p:=Qv e
   subst e'
   exact⟨hb,q⟩
theorem Inv.pinned {pins:List (Addr×Obj)}{σ:St}{H:Hp}{s:Shared}{fp:List Addr}(I:Inv X pins σ H s)(hf:∀b∈fp,lD X pins H b)(ho:∀b∈fp,∃o,s.heap.get? b=some o/\∀v,o.data ≠ .cell v):Inv X (pins++jX fp s.heap) σ H s :=
 I.pins_of fun p hp=>(Yv.mp hp).elim (fun z=>I.pin p (Wq _ z)) fun z=>by
   obtain⟨hb,e⟩:=zZh z
   obtain⟨f0,f1,f2,_⟩:=hf p.1 hb
   obtain⟨o,e',d⟩:=ho p.1 hb
   rw[e] at e';cases e'
   exact⟨e,f0,f1,f2,d⟩
theorem Inv.unpinned {pins pl:List (Addr×Obj)}{σ:St}{H:Hp}{s:Shared}(I:Inv X (pins++pl) σ H s):Inv X pins σ H s:=I.pins_of fun p hp=>I.pin p (Wq _ (Tj _ hp))
theorem zUi {iter:Expr}{body:List Stmt}{wi:TI}{g:TG}{tb:TS}{pos:Pos}(hp:PassesOwn (model X.prog X.w) X.A X.env X.xe)(hc:X.calm=true)(hi:PI X tg iter wi)(hg:PG X tg g)(hb:PSs X body tb)
   (hs:∀x,foldedSetIterable iter X.env x=pure x:=by intro _;rfl):PS X (.For tg iter body [] pos) (zSD wi g tb):=by
 intro pins s σ H D I h
 refine wpAny_For (thn (hi pins s σ H _ I h) fun v s1 h1=>thn h1 fun itv s2 h2=>?_) hs
 obtain⟨it,fp,tn,J,H2,e,I2,T,st2,f2,W,⟨m0,w0⟩,turn⟩:=h2
 subst e
 -- what stays true of the iterator's objects through the loop
 have stat:∀ {H':Hp},(∀b∈fp,H' b=none)->∀b∈fp,lD X pins H' b:=fun hn b hb=>⟨hn b hb,(f2 b hb).2⟩
 refine codeAny_forLoop_any (fun n s'=>∃i σ' H',Inv X pins σ' H' s'/\tn i s'.heap/\(∀b∈fp,H' b=none)/\W i n σ' H') ?_ m0 ⟨0,σ,H2,I2,st2,fun b hb=>(f2 b hb).1,w0⟩
 rintro n s3 ⟨i,σ3,H3,I3,st3,fr3,w3⟩
 rcases turn i n σ3 H3 w3 with⟨stop,qn⟩ | ⟨go,N,hN,step⟩
 · refine Ej hp (thn (T.done X rfl rfl rfl hc i pins s3 σ3 H3 X.xe I3 (stat fr3) st3 stop) fun r s4 ⟨hr,I4⟩=>?_)
   subst hr
   exact Tt ⟨σ3,H3,I4,qn⟩
 · refine Ej hp (thn (T.item X rfl rfl rfl hc i pins s3 σ3 H3 X.xe I3 (stat fr3) st3 go) fun r s4 ⟨u,hr,h4⟩=>?_)
   subst hr
   refine Ej hp (thn h4 fun _ s5 ⟨x,H5,I5,r5,y5,st5,fr5⟩=>?_)
   have I5':=I5.pinned (stat fr5) (T.obj _ _ st5)
   refine Ej hp (thn (hg _ s5 σ3 H5 x u _ I5' r5 (step x H5 y5)) fun _ s6 ⟨σ6,H6,I6,q6⟩=>?_)
   refine Ej hp (thn (hb _ s6 σ6 H6 _ I6 q6) fun f s7 q7=>?_)
   have again:∀ {σ7:St} {H7:Hp},Inv X (pins++jX fp s5.heap) σ7 H7 s7->N σ7 H7->∃m,m < n/\∃i σ' H',Inv X pins σ' H' s7/\tn i s7.heap/\(∀b∈fp,H' b=none)/\W i m σ' H':=fun {σ7 H7} I7 n7=>by
     obtain⟨m',hm,w7⟩:=hN σ7 H7 n7
     refine⟨m',hm,i+1,σ7,H7,I7.unpinned,T.keep _ _ _ st5 fun b hb o e=>(I7.pin (b,o) (Wq _ (Wq _ (sT hb e)))).1,fun b hb=>?_,w7⟩
     obtain⟨o,e,d⟩:=T.obj _ _ st5 b hb
     exact(I7.pin (b,o) (Wq _ (Wq _ (sT hb e)))).2.1
   cases f with
   | next=>obtain⟨σ7,H7,I7,n7⟩:=q7;exact again I7 n7
   | cont=>obtain⟨σ7,H7,I7,n7⟩:=q7;exact again I7 n7
   | brk=>obtain⟨σ7,H7,I7,q7⟩:=q7;exact⟨σ7,H7,I7.unpinned,q7⟩
   | ret v=>obtain⟨x7,σ7,H7,I7,r7,q7⟩:=q7;exact⟨x7,σ7,H7,I7.unpinned,r7,q7⟩
end
abbrev R2:=V->V->Hp->VK->Prop
def OpR (X:Cx)(f:Value->Value->Sem Value)(r:R2):Prop :=
 ∀(pins:List (Addr×Obj)) (s:Shared) (σ:St) (H:Hp) (x y:V) (v u:Value) (Q:VK),Inv X pins σ H s->RelV x v->RelV y u->r x y H Q ->
   wpAny (model X.prog X.w) X.A (f v u) (EP X pins σ Q) X.xe s
def CallR (X:Cx)(f:Value)(r:List V->Hp->VK->Prop):Prop :=
 ∀(pins:List (Addr×Obj)) (s:Shared) (σ:St) (H:Hp) (xs:List V) (us:List Value) (Q:VK),Inv X pins σ H s->Vals xs us->r xs H Q ->
   wpAny (model X.prog X.w) X.A (call f us) (EP X pins σ Q) X.xe s
def zSJ (X:Cx)(r:V->Hp->(Bool->Hp->Prop)->Prop):Prop :=
 ∀(pins:List (Addr×Obj)) (s:Shared) (σ:St) (H:Hp) (x:V) (v:Value) (Q:Bool->Hp->Prop),Inv X pins σ H s->RelV x v->r x H Q ->
   wpAny (model X.prog X.w) X.A (truthy v) (TP X pins σ Q) X.xe s
def tOp (r:R2)(ta tb:TE):TE:=fun σ H Q=>ta σ H fun x H1=>tb σ H1 fun y H2=>r x y H2 Q
def rI (C:Int->Int->Prop)(g:Int->Int->V):R2:=fun x y H Q=>∃i j,x = .int i/\y = .int j/\C i j/\Q (g i j) H
def rI0 (g:Int->Int->V):R2:=fun x y H Q=>∃i j,x = .int i/\y = .int j/\Q (g i j) H
section
variable {X:Cx} {a b:Expr} {ta tb:TE} {pos:Pos}
theorem zUb (ha:PE X a ta)(hb:PE X b tb){pins:List (Addr×Obj)}{s:Shared}{σ:St}{H:Hp}{R:V->V->Hp->Prop}(I:Inv X pins σ H s)
   (h:ta σ H fun x H1=>tb σ H1 fun y H2=>R x y H2) {Q:Value->Shared->Prop} {f:Value->Value->Sem Value}
   (hf:∀v u s2 x y H2,Inv X pins σ H2 s2->RelV x v->RelV y u->R x y H2->wpAny (model X.prog X.w) X.A (f v u) Q X.xe s2) :
   wpAny (model X.prog X.w) X.A (eval a X.env) (fun v s₁=>wpAny (model X.prog X.w) X.A (eval b X.env) (fun u s₂=>wpAny (model X.prog X.w) X.A (f v u) Q X.xe s₂) X.xe s₁) X.xe s:=by
 refine thn (ha pins s σ H _ I h) fun v s1 ⟨x,H1,I1,r1,q1⟩=>?_
 refine thn (hb pins s1 σ H1 _ I1 q1) fun u s2 ⟨y,H2,I2,r2,q2⟩=>?_
 exact hf v u s2 x y H2 I2 r1 r2 q2
theorem zZO {op:Operator}{r:R2}(ho:OpR X (binaryOp op) r)(ha:PE X a ta)(hb:PE X b tb):PE X (.BinOp a op b pos) (tOp r ta tb):=by
 intro pins s σ H Q I h
 exact wpAny_BinOp (zUb ha hb I h fun v u s2 x y H2 I2 rx ry q=>ho pins s2 σ H2 x y v u Q I2 rx ry q)
theorem opI {f:Value->Value->Sem Value}{C:Int->Int->Prop}{g:Int->Int->Int}
   (rule:∀(i j:Int) (t u:Tok) (s:Shared) (Q:Value->Shared->Prop) (E:Value->Shared->Prop),C i j->Q (.int (g i j) s.toks) { s with toks:=s.toks+1 }->wpAny (model X.prog X.w) X.A (f (.int i t) (.int j u)) Q E s) :
   OpR X f (rI C fun i j=>.int (g i j)):=by
 intro pins s σ H x y v u Q I rx ry h
 obtain⟨i,j,rfl,rfl,hc,q⟩:=h
 obtain⟨t,rfl⟩:=rx
 obtain⟨t',rfl⟩:=ry
 exact rule i j t t' s _ _ hc ⟨.int (g i j),H,I.tok _,⟨_,rfl⟩,q⟩
theorem zTa {f:Value->Value->Sem Value}{g:Int->Int->Int}
   (rule:∀(i j:Int) (t u:Tok) (s:Shared) (Q:Value->Shared->Prop) (E:Value->Shared->Prop),Q (.int (g i j) s.toks) { s with toks:=s.toks+1 }->wpAny (model X.prog X.w) X.A (f (.int i t) (.int j u)) Q E s) :
   OpR X f (rI0 fun i j=>.int (g i j)):=by
 intro pins s σ H x y v u Q I rx ry h
 obtain⟨i,j,rfl,rfl,q⟩:=h
 obtain⟨t,rfl⟩:=rx
 obtain⟨t',rfl⟩:=ry
 exact rule i j t t' s _ _ ⟨.int (g i j),H,I.tok _,⟨_,rfl⟩,q⟩
theorem zUU {f:Value->Value->Sem Value}{g:Int->Int->Bool}
   (rule:∀(i j:Int) (t u:Tok) (s:Shared) (Q:Value->Shared->Prop) (E:Value->Shared->Prop),Q (.bool (g i j)) s->wpAny (model X.prog X.w) X.A (f (.int i t) (.int j u)) Q E s) :
   OpR X f (rI0 fun i j=>.bl (g i j)):=by
 intro pins s σ H x y v u Q I rx ry h
 obtain⟨i,j,rfl,rfl,q⟩:=h
 obtain⟨t,rfl⟩:=rx
 obtain⟨t',rfl⟩:=ry
 exact rule i j t t' s _ _ ⟨.bl (g i j),H,I,rfl,q⟩
def zTb (i j:Int):Prop:=0 < j/\j < 1073741824
def zTI (i j:Int):Prop:=0<=j/\j<=1000000/\i.natAbs < 2^64
def CMul (i j:Int):Prop:=(-(2^64) < i/\i < 2^64)∨(-(2^64) < j/\j < 2^64)
theorem CMul.ok {i j:Int}(h:CMul i j):IntMulOk i j:=by
 rcases h with⟨h1,h2⟩ | ⟨h1,h2⟩
 · exact .of_left (intBits_le_64 h1 h2)
 · exact .of_right (intBits_le_64 h1 h2)
theorem zYm:OpR X (binaryOp .Add) (rI0 fun i j=>.int (i+j)):=zTa fun _ _ _ _ _ _ _ q=>add_int q
theorem zUF:OpR X (binaryOp .Mult) (rI CMul fun i j=>.int (i*j)):=opI fun _ _ _ _ _ _ _ hc q=>mul_int q hc.ok
theorem zW7:OpR X (binaryOp .FloorDiv) (rI zTb fun i j=>.int (i / j)):=opI fun i j _ _ _ _ _ hc q=>by
 have h1:(0:Int) < j:=hc.1
 have h2:j < 1073741824:=hc.2
 exact floordiv_int (by omega) (by rw[Int.fdiv_eq_ediv_of_nonneg i (by omega)];exact q) (.inl (PyProof.noPylong_small (by omega)))
theorem zUV:OpR X (binaryOp .Mod) (rI (fun _ j=>0 < j) fun i j=>.int (i % j)):=opI fun i j _ _ _ _ _ hc q=>by
 have h1:(0:Int) < j:=hc
 exact mod_int' (by omega) (by rw[Int.fmod_eq_emod_of_nonneg i (by omega)];exact q)
theorem zU7:OpR X (binaryOp .Pow) (rI zTI fun i j=>.int (i^j.toNat)):=opI fun _ _ _ _ _ _ _ hc q=>pow_int_small hc.1 hc.2.1 hc.2.2 q
def zVk:V->V->Bool
 | .non,.non=>true | .non,.int _=>true | .int _,.non=>true | .non,.bl _=>true | .bl _,.non=>true | .non,.str _=>true | .str _,.non=>true
 | .int _,.int _=>true | .bl _,.bl _=>true | .str _,.str _=>true | .byt _,.byt _=>true
 | .int _,.str _=>true | .str _,.int _=>true | .bl _,.str _=>true | .str _,.bl _=>true
 | _,_=>false
def rEq:R2:=fun x y H Q=>zVk x y=true/\Q (.bl (decide (x=y))) H
def rNe:R2:=fun x y H Q=>zVk x y=true/\Q (.bl (!decide (x=y))) H
theorem zZP {i j:Int}:decide (V.int i=V.int j)=(i==j):=by
 rw[Rs]
 simp
theorem zXH {i j:Bool}:decide (V.bl i=V.bl j)=(i==j):=by
 rw[Rs]
 simp
theorem zZZ {i j:Str}:decide (V.str i=V.str j)=(i==j):=by
 rw[Rs]
 simp
theorem zZ2 {i j:Array UInt8}:decide (V.byt i=V.byt j)=(i.toList==j.toList):=by
 rw[Rs]
 cases i
 cases j
 simp
variable {c:Expr}
theorem zA {pins:List (Addr×Obj)}{σ:St}{H:Hp}{s:Shared}{Q:VK}{k k':Bool}(I:Inv X pins σ H s)(q:Q (.bl k) H)(e:k=k'):EP X pins σ Q (.bool k') s:=by
 subst e
 exact⟨.bl k,H,I,rfl,q⟩
theorem zTn:OpR X (compareOp .Eq) rEq:=by
 intro pins s σ H x y v u Q I rx ry h
 obtain⟨hs,q⟩:=h
 cases x with
 | non =>
   cases rx
   cases y with
   | non=>cases ry;exact PySem.EqNone.eq_none_none (zA I q (by simp))
   | bl j=>cases ry;exact PySem.EqNone.eq_none_bool (zA I q (by simp))
   | int j=>obtain⟨t',rfl⟩:=ry;exact PySem.EqNone.eq_none_int (zA I q (by simp))
   | str j=>obtain⟨t',rfl⟩:=ry;exact PySem.EqNone.eq_none_str (zA I q (by simp))
   | _=>exact absurd (show false=true from hs) Ww
 | bl i =>
   cases rx
   cases y with
   | non=>cases ry;exact PySem.EqNone.eq_bool_none (zA I q (by simp))
   | bl j=>cases ry;exact eq_bool (zA I q zXH)
   | str j=>obtain⟨t',rfl⟩:=ry;exact PySem.EqMixed.eq_bool_str (zA I q (by simp))
   | _=>exact absurd (show false=true from hs) Ww
 | int i =>
   obtain⟨t,rfl⟩:=rx
   cases y with
   | non=>cases ry;exact PySem.EqNone.eq_int_none (zA I q (by simp))
   | int j=>obtain⟨t',rfl⟩:=ry;exact eq_int (zA I q zZP)
   | str j=>obtain⟨t',rfl⟩:=ry;exact PySem.EqMixed.eq_int_str (zA I q (by simp))
   | _=>exact absurd (show false=true from hs) Ww
 | str i =>
   obtain⟨t,rfl⟩:=rx
   cases y with
   | non=>cases ry;exact PySem.EqNone.eq_str_none (zA I q (by simp))
   | bl j=>cases ry;exact PySem.EqMixed.eq_str_bool (zA I q (by simp))
   | int j=>obtain⟨t',rfl⟩:=ry;exact PySem.EqMixed.eq_str_int (zA I q (by simp))
   | str j=>obtain⟨t',rfl⟩:=ry;exact eq_str (zA I q zZZ)
   | _=>exact absurd (show false=true from hs) Ww
 | byt i =>
   obtain⟨t,rfl⟩:=rx
   cases y with
   | byt j=>obtain⟨t',rfl⟩:=ry;exact PySem.W.eq_bytes (zA I q zZ2)
   | _=>exact absurd (show false=true from hs) Ww
 | _=>cases y<;>exact absurd (show false=true from hs) Ww
theorem zTi:OpR X (compareOp .NotEq) rNe:=by
 intro pins s σ H x y v u Q I rx ry h
 obtain⟨hs,q⟩:=h
 cases x with
 | non =>
   cases rx
   cases y with
   | non=>cases ry;exact PySem.EqNone.ne_none_none (zA I q (by simp))
   | bl j=>cases ry;exact PySem.EqNone.ne_none_bool (zA I q (by simp))
   | int j=>obtain⟨t',rfl⟩:=ry;exact PySem.EqNone.ne_none_int (zA I q (by simp))
   | str j=>obtain⟨t',rfl⟩:=ry;exact PySem.EqNone.ne_none_str (zA I q (by simp))
   | _=>exact absurd (show false=true from hs) Ww
 | bl i =>
   cases rx
   cases y with
   | non=>cases ry;exact PySem.EqNone.ne_bool_none (zA I q (by simp))
   | bl j=>cases ry;exact ne_bool (zA I q (Eh not zXH))
   | str j=>obtain⟨t',rfl⟩:=ry;exact PySem.EqMixed.ne_bool_str (zA I q (by simp))
   | _=>exact absurd (show false=true from hs) Ww
 | int i =>
   obtain⟨t,rfl⟩:=rx
   cases y with
   | non=>cases ry;exact PySem.EqNone.ne_int_none (zA I q (by simp))
   | int j=>obtain⟨t',rfl⟩:=ry;exact ne_int (zA I q (Eh not zZP))
   | str j=>obtain⟨t',rfl⟩:=ry;exact PySem.EqMixed.ne_int_str (zA I q (by simp))
   | _=>exact absurd (show false=true from hs) Ww
 | str i =>
   obtain⟨t,rfl⟩:=rx
   cases y with
   | non=>cases ry;exact PySem.EqNone.ne_str_none (zA I q (by simp))
   | bl j=>cases ry;exact PySem.EqMixed.ne_str_bool (zA I q (by simp))
   | int j=>obtain⟨t',rfl⟩:=ry;exact PySem.EqMixed.ne_str_int (zA I q (by simp))
   | str j=>obtain⟨t',rfl⟩:=ry;exact ne_str (zA I q (Eh not zZZ))
   | _=>exact absurd (show false=true from hs) Ww
 | byt i =>
   obtain⟨t,rfl⟩:=rx
   cases y with
   | byt j=>obtain⟨t',rfl⟩:=ry;exact PySem.W.ne_bytes (zA I q (Eh not zZ2))
   | _=>exact absurd (show false=true from hs) Ww
 | _=>cases y<;>exact absurd (show false=true from hs) Ww
theorem zTl:OpR X (compareOp .Lt) (rI0 fun i j=>.bl (decide (i < j))):=zUU fun _ _ _ _ _ _ _ q=>lt_int q
theorem zTx:OpR X (compareOp .LtE) (rI0 fun i j=>.bl (decide (i<=j))):=zUU fun _ _ _ _ _ _ _ q=>le_int q
theorem zTu:OpR X (compareOp .Gt) (rI0 fun i j=>.bl (decide (j < i))):=zUU fun _ _ _ _ _ _ _ q=>gt_int q
theorem zW5:OpR X (compareOp .IsNot) (fun x y H Q=>y = .non/\Q (.bl (!decide (x = .non))) H):=by
 intro pins s σ H x y v u Q I rx ry h
 obtain⟨rfl,q⟩:=h
 cases ry
 refine isnot_none_gen (zA I q ?_)
 cases x<;>first
   | (cases rx;rfl)
   | (obtain⟨t,rfl⟩:=rx;rfl)
theorem OpR.or {f:Value->Value->Sem Value}{r r':R2}(h:OpR X f r)(h':OpR X f r'):OpR X f (fun x y H Q=>r x y H Q∨r' x y H Q):=by
 intro pins s σ H x y v u Q I rx ry q
 rcases q with q | q
 · exact h pins s σ H x y v u Q I rx ry q
 · exact h' pins s σ H x y v u Q I rx ry q
theorem zYw (b:Expr){op:CmpOp}(h:op ≠ .In:=by decide)(h2:op ≠ .NotIn:=by decide):behindInMarks op b=false:=by
 have e1:(op==CmpOp.In)=false:=by cases op<;>first | rfl | exact absurd rfl h
 have e2:(op==CmpOp.NotIn)=false:=by cases op<;>first | rfl | exact absurd rfl h2
 cases b<;>simp[behindInMarks,e1,e2]
def zTo (t:TE):TT:=fun σ H Q=>t σ H fun x H'=>∃k,x = .bl k/\Q k H'
theorem zZ8 {op:CmpOp}{r:R2}(ho:OpR X (compareOp op) r)(ha:PE X a ta)(hb:PE X b tb)(hm:behindInMarks op b=false):PT X (.Compare a [op] [b] pos) (zTo (tOp r ta tb)):=by
 intro pins s σ H Q I h
 refine wpAny_isTrue_Compare1 (thn (ha pins s σ H _ I h) fun v s1 ⟨x,H1,I1,r1,q1⟩=>thn (hb pins s1 σ H1 _ I1 q1) fun u s2 ⟨y,H2,I2,r2,q2⟩ =>
   thn (ho pins s2 σ H2 x y v u _ I2 r1 r2 q2) fun c s3 ⟨z,H3,I3,r3,k,e,q3⟩=>?_) hm
 subst e
 cases r3
 exact Ex ⟨H3,I3,q3⟩
def zTW (K:PySem.W.Frag)(x:V)(H:Hp)(k:Bool):Prop :=
 match x with
 | .non=>k=false
 | .bl b=>k=b
 | .int i=>k=(i != 0)
 | .str y=>y.length<=sizeLine/\k=((y.length:Int) != 0)
 | .byt y=>y.size<=sizeLine/\k=((y.size:Int) != 0)
 | .ref p=>(∃xs,SqL K H p xs/\k = !xs.isEmpty)∨(∃xs,SqT K H p xs/\k = !xs.isEmpty)∨∃kvs,H p=some (.dK kvs)/\k = !kvs.isEmpty
 | _=>False
theorem aV {κ:Type}{kvs:List (κ×V)}{vs:List (κ×Value)}(r:KV kvs vs):(!vs.isEmpty) = !kvs.isEmpty:=by
 cases r<;>rfl
theorem lB {xs:List V}{its:List Value}(r:Vals xs its):(!its.toArray.isEmpty) = !xs.isEmpty:=by
 cases r<;>simp
theorem nZ:(sizeLine:Nat) < 2^63:=by rw[Wo];decide
theorem zUK:zSJ X (fun x H Q=>∃k,zTW X.K x H k/\Q k H):=by
 intro pins s σ H x v Q I rx h
 obtain⟨k,e,q⟩:=h
 have hl:=nZ
 have hs:sizeLine=16777216:=Wo
 cases x with
 | non =>
   cases rx
   have e':k=false:=e
   subst e'
   exact truthy_none ⟨H,I,q⟩
 | bl b =>
   cases rx
   have e':k=b:=e
   subst e'
   exact Ex ⟨H,I,q⟩
 | int i =>
   obtain⟨t,rfl⟩:=rx
   have e':k=(i != 0):=e
   subst e'
   exact PySem.P.truthy_int ⟨H,I,q⟩
 | str y =>
   obtain⟨t,rfl⟩:=rx
   obtain⟨hy,e'⟩:y.length<=sizeLine/\k=((y.length:Int) != 0):=e
   subst e'
   exact PySem.P.truthy_str (by omega) ⟨H,I.tok _,q⟩
 | byt y =>
   obtain⟨t,rfl⟩:=rx
   obtain⟨hy,e'⟩:y.size<=sizeLine/\k=((y.size:Int) != 0):=e
   subst e'
   exact PySem.W.truthy_bytes (by omega) ⟨H,I.tok _,q⟩
 | ref p =>
   cases rx
   have e':(∃xs,SqL X.K H p xs/\k = !xs.isEmpty)∨(∃xs,SqT X.K H p xs/\k = !xs.isEmpty)∨∃kvs,H p=some (.dK kvs)/\k = !kvs.isEmpty:=e
   rcases e' with⟨xs,hx,e'⟩ | ⟨xs,hx,e'⟩ | ⟨kvs,hx,e'⟩
   · subst e'
     obtain⟨its,r,pl,hz⟩:=I.list hx
     have hlen:=r.length
     exact wpAny_truthy_list pl.isList (by simp only[Qy];omega) ⟨H,I.tok _,by rw[lB r];exact q⟩
   · subst e'
     obtain⟨its,r,pl,hz⟩:=I.tuple hx
     have hlen:=r.length
     exact truthy_tuple pl (by simp only[Qy];omega) ⟨H,I.tok _,by rw[lB r];exact q⟩
   · subst e'
     obtain⟨hz,hS,vs,r,m⟩:kvs.length<=sizeLine/\(p==sysModules)=false/\∃vs,KV kvs vs/\s.heap.DictOf (z5 X.prog X.w) p vs:=I.hok p _ hx
     have hlen:kvs.length=vs.length:=Er r
     exact wpAny_truthy_dict hS m (by omega) ⟨H,I.tok _,by rw[aV r];exact q⟩
 | _=>exact(show False from e).elim
theorem zXk (ha:PE X a ta)(he:∀whole,isTrue a X.env whole=(do let v ←whole;standAt a.pos;holding [v] (truthy v))) :
   PT X a (fun σ H Q=>ta σ H fun x H'=>∃k,zTW X.K x H' k/\Q k H'):=by
 intro pins s σ H Q I h
 exact isTrue_plain (thn (ha pins s σ H _ I h) fun v s1 ⟨x,H1,I1,r1,q1⟩=>zUK pins s1 σ H1 x v Q I1 r1 q1) (he _)
theorem bD:OpR X (binaryOp .Add) (fun x y H Q=>∃i j,x = .str i/\y = .str j/\i.length+j.length<=sizeLine/\Q (.str (i++j)) H):=by
 intro pins s σ H x y v u Q I rx ry h
 obtain⟨i,j,rfl,rfl,hz,q⟩:=h
 obtain⟨t,rfl⟩:=rx
 obtain⟨t',rfl⟩:=ry
 exact add_str (fun t' tk=>⟨.str (i++j),H,I.tok _,⟨_,rfl⟩,q⟩) hz
theorem jC {x:V}{us:List Value}(r:Vals [x] us):∃u,us=[u]/\RelV x u:=by
 cases r with
 | cons r1 r2=>cases r2;exact⟨_,rfl,r1⟩
theorem zVB {x y:V}{us:List Value}(r:Vals [x,y] us):∃u w',us=[u,w']/\RelV x u/\RelV y w':=by
 cases r with
 | cons r1 r2 =>
   cases r2 with
   | cons r3 r4=>cases r4;exact⟨_,_,rfl,r1,r3⟩
end
structure ObjM (h:Heap)(x dx C:Addr)(mA:Str->Option Value):Prop where
 obj:h.get? x=some (PySem.W.instObj C dx)
 ns:h.Ns1 dx mA
 ne:dx≠x
theorem zYR {h:Heap}{dx:Addr}{mA:Str->Option Value}(n:h.Ns1 dx mA):∃od,h.get? dx=some od/\∀name,PySem.W.lookIn name od=some (mA name):=by
 obtain⟨o,es,ep,ho,hd,hk,_,hm⟩:=n
 refine⟨o,ho,fun name=>?_⟩
 have e:=hm name
 unfold nsFind findBy at e
 rw[←Yw] at e
 unfold PySem.W.lookIn
 rw[hd]
 dsimp only
 split
 · rename_i y q
   rw[q] at e
   exact Eh some e
 · rename_i q
   rw[q] at e
   have a:es.toList.any (·.refKey)=false:=by
     rw[List.any_eq_false]
     intro y hy
     obtain⟨z,t,hkey⟩:=hk y (Array.mem_toList_iff.mp hy)
     simp[DictEntry.refKey,hkey]
   have a':¬es.toList.any (·.refKey)=true:=by rw[a];exact Ww
   rw[Qg a']
   exact Eh some e
theorem ObjM.look {h:Heap}{x dx C:Addr}{mA:Str->Option Value}(I:ObjM h x dx C mA):∃od,PySem.W.InstAt h x (PySem.W.instObj C dx) C (some od)/\∀name,PySem.W.lookIn name od=some (mA name) :=
 let ⟨od,ho,hl⟩:=zYR I.ns
 ⟨od,⟨I.obj,rfl,rfl,ho⟩,hl⟩
section
variable {prog:Program} {w:World} {A:Around} {E:Value->Shared->Prop} {s:Shared} {K:PySem.W.Frag} {x dx C f:Addr} {mA:Str->Option Value} {name:Str} {v:Value}
theorem zWr {expr:Bool}{Q:Value->Shared->Prop}(X:K.In s.heap)(I:ObjM s.heap x dx C mA)(hg:PySem.W.plainGet K C name=true)(hh:PySem.W.hasDictIn K C=true)
   (ha:PySem.W.findIn K (.ref C) name=some none) (hv:mA name=some v) (hv':PySem.W.handedIn v=true) (h:Q v { s with toks:=s.toks+1 }) :
   wpAny (model prog w) A (getAttr (.ref x) name expr) Q E s:=by
 obtain⟨od,J,hl⟩:=I.look
 exact PySem.W.get_value X J (Tv hg).1 (PySem.W.findObj_own hh ha rfl (by rw[hl,hv])) hv' h
theorem zXz {pl:Sem Bool}{Q:Value×List Value->Shared->Prop}(X:K.In s.heap)(I:ObjM s.heap x dx C mA)(hg:PySem.W.plainGet K C name=true)
   (hf:PySem.W.findIn K (.ref C) name=some (some (.ref f))) (ht:PySem.W.isFn K (.ref f)=true) (hv:mA name=none) (h:Q (.ref f,[.ref x]) s) :
   wpAny (model prog w) A (getMethod (.ref x) name pl) Q E s:=by
 obtain⟨od,J,hl⟩:=I.look
 exact PySem.W.method_fn X J (Tv hg).1 (Tv hg).2 hf (Eg.mp ht) (by show(PySem.W.lookIn name od).map (·.isSome)=some false;rw[hl,hv];rfl) h
theorem zWV {ns:List Str}{Q:Unit->Shared->Prop}(X:K.In s.heap)(I:ObjM s.heap x dx C mA)
   (hs:PySem.W.findIn K (.ref C) "__setattr__"=some (some (.builtin "object.__setattr__"))) (hp:PySem.W.plainOver K C=true) (ht:PySem.W.takerIn K C name=some none) (hh:PySem.W.hasDictIn K C=true)
   (hw:PySem.Within mA ns) (hsz:ns.length<=sizeLine)
   (h:∀h',ObjM h' x dx C (fun y=>if y=name then some v else mA y)->Heap.SameBut dx s.heap h'->Q () { s with heap:=h',toks:=s.toks+2 }) :
   wpAny (model prog w) A (setAttr (.ref x) name v) Q E s:=by
 obtain⟨od,J,hl⟩:=I.look
 refine PySem.W.set_plain X J hs (PySem.W.osa_open (s:={ s with toks:=s.toks+1 }) (r:=none) X J hp ht fun b=>?_)
 obtain⟨cd,hc,hd'⟩:=PySem.W.any_some hh
 have hx:s.heap.get? x=some ⟨.ref C,some dx,.plain,#[]⟩:=I.obj
 refine Qw (Qi (Qw (Qw (Ut hx (Qw (PySem.W.Looks.here (s:={ s with toks:=s.toks+1 }) (PySem.W.looks_clsIn X hc) ?_))))))
 rw[hd']
 refine Qi (a:=some dx) (Qw (Qi (Qw ?_)))
 refine wpAny_nsSet1 (s:={ s with toks:=s.toks+1 }) I.ns fun h' hn2 hs2=>?_
 obtain⟨oD,esD,epD,hoD,hdD,hcD⟩:=hn2.count (PySem.Within.cons name v hw)
 refine Qw (wpAny_lookBehind hoD (by rw[hdD];exact pastItsLine_dict (We hcD (by rw[Qs];omega))) ?_)
 exact Qi (h _ ⟨(hs2.2 _ (Ne.symm I.ne)).trans I.obj,hn2,I.ne⟩ hs2)
theorem zXT {R:Result->Shared->Prop}{vs:List Value}{kw:List (Str×Value)}(X:K.In s.heap)(hm:PySem.W.makesIn K C=true)
   (hi:PySem.W.findIn K (.ref C) "__init__"=some (some (.ref f))) (hf:PySem.W.typeIn K (.ref f)=some (.type "function"))
   (h:codeAny (model prog w) (A.under (.builtin "type.__call__" ⟨.ref C::vs,kw⟩)) (.call (.ref f) ⟨.ref (s.heap.objs.size+1)::vs,kw⟩) (PySem.W.InitBack (s.heap.objs.size+1) R)
     { s with heap:=(s.heap.push PySem.W.emptyDict).push (PySem.W.instObj C s.heap.objs.size) }) :
   codeAny (model prog w) A (.call (.ref C) ⟨vs,kw⟩) R s:=by
 obtain⟨hh,g,d,t,os⟩:=s
 exact PySem.W.make_core (PySem.W.makes_of X hm) (PySem.W.looks_findIn X hi) (fun self=>PySem.W.bind_fn X self hf) (.inl rfl) h
end
def tM (f:Str)(v:V):List (Str×V)->List (Str×V)
 | []=>[(f,v)]
 | (g,x)::r=>if g=f then(g,v)::r else(g,x)::tM f v r
theorem mT (f g:Str)(v:V):∀fs:List (Str×V),(tM f v fs).lookup g=if g=f then some v else fs.lookup g
 | []=>by
   show List.lookup g [(f,v)]=_
   by_cases h:g=f
   · have hb:(g==f)=true:=Eg.mpr h
     simp only[List.lookup,hb,Qo h]
   · have hb:(g==f)=false:=Ea.mpr h
     simp only[List.lookup,hb,Qg h]
 | (k,x)::r=>by
   have ih:=mT f g v r
   rw[show tM f v ((k,x)::r)=(if k=f then(k,v)::r else(k,x)::tM f v r) from rfl]
   by_cases hk:k=f
   · rw[Qo hk]
     by_cases h:g=k
     · have hb:(g==k)=true:=Eg.mpr h
       simp only[List.lookup,hb,Qo (h.trans hk)]
     · have hb:(g==k)=false:=Ea.mpr h
       simp only[List.lookup,hb,Qg (fun e:g=f=>h (e.trans hk.symm))]
   · rw[Qg hk]
     by_cases h:g=k
     · have hb:(g==k)=true:=Eg.mpr h
       simp only[List.lookup,hb,Qg (fun e:g=f=>hk (h.symm.trans e))]
     · have hb:(g==k)=false:=Ea.mpr h
       simp only[List.lookup,hb]
       exact ih
theorem nW (f:Str)(v:V):∀fs:List (Str×V),f∈(tM f v fs).map (·.1)/\∀g,g∈fs.map (·.1)->g∈(tM f v fs).map (·.1)
 | []=>⟨by simp[tM],fun g h=>by simp at h⟩
 | (k,x)::r=>by
   obtain⟨i1,i2⟩:=nW f v r
   rw[show tM f v ((k,x)::r)=(if k=f then(k,v)::r else(k,x)::tM f v r) from rfl]
   by_cases hk:k=f
   · rw[Qo hk]
     subst hk
     exact⟨by simp,fun g h=>by simpa using h⟩
   · rw[Qg hk]
     refine⟨?_,fun g h=>?_⟩
     · rw[Qp]
       exact Qj _ i1
     · rw[Qp] at h ⊢
       rcases Qh.mp h with e | e
       · exact Qh.mpr (.inl e)
       · exact Qj _ (i2 g e)
theorem mY (f:Str)(v:V):∀fs:List (Str×V),(tM f v fs).length<=fs.length+1
 | []=>by simp[tM]
 | (k,x)::r=>by
   have ih:=mY f v r
   rw[show tM f v ((k,x)::r)=(if k=f then(k,v)::r else(k,x)::tM f v r) from rfl]
   by_cases hk:k=f
   · rw[Qo hk,Qs,Qs];omega
   · rw[Qg hk,Qs,Qs];omega
theorem RelO.some_of {v:V}{o:Option Value}(r:RelO (some v) o):∃u,o=some u/\RelV v u:=by
 cases o with
 | none=>exact(show False from r).elim
 | some u=>exact⟨u,rfl,r⟩
theorem RelO.none_of {o:Option Value}(r:RelO none o):o=none:=by
 cases o with
 | none=>rfl
 | some u=>exact(show False from r).elim
theorem zZo {v:V}{u:Value}(r:RelV v u):PySem.W.handedIn u=true:=by
 cases v with
 | non=>cases (show u=Value.none from r);rfl
 | bl b=>cases (show u=Value.bool b from r);rfl
 | int i=>obtain⟨t,e⟩:=(show ∃t,u=Value.int i t from r);cases e;rfl
 | str x=>obtain⟨t,e⟩:=(show ∃t,u=Value.str x t from r);cases e;rfl
 | byt b=>obtain⟨t,e⟩:=(show ∃t,u=Value.bytes b t from r);cases e;rfl
 | flt b=>obtain⟨t,e⟩:=(show ∃t,u=Value.float b t from r);cases e;rfl
 | ref a=>cases (show u=Value.ref a from r);rfl
 | ty n=>cases (show u=Value.type n from r);rfl
section
variable {P:Program} {w:World} {H:Hp} {h:Heap} {a C dx:Addr} {fs:List (Str×V)}
theorem gB (hok:HOk P w H h)(e:H a=some (.ins C dx fs)):∃mA,ObjM h a dx C mA/\(∀f,RelO (fs.lookup f) (mA f))/\PySem.Within mA (fs.map (·.1))/\fs.length<=1000/\H dx=some (.own a):=by
 obtain⟨d,z,ne,ob,mA,n,r,q⟩:=(show ObjOk P w H h a (.ins C dx fs) from hok a _ e)
 exact⟨mA,⟨ob,n,ne⟩,r,q,z,d⟩
end
structure Cls (K:PySem.W.Frag)(C:Addr):Prop where
 pg:PySem.W.plainGet K C Str.empty=true
 hd:PySem.W.hasDictIn K C=true
 po:PySem.W.plainOver K C=true
 sa:PySem.W.findIn K (.ref C) "__setattr__"=some (some (.builtin "object.__setattr__"))
theorem Cls.get {K:PySem.W.Frag}{C:Addr}(c:Cls K C)(f:Str):PySem.W.plainGet K C f=true:=c.pg
def NoAttr (K:PySem.W.Frag)(C:Addr)(f:Str):Prop:=PySem.W.findIn K (.ref C) f=some none
theorem NoAttr.taker {K:PySem.W.Frag}{C:Addr}{f:Str}(n:NoAttr K C f):PySem.W.takerIn K C f=some none:=by
 unfold PySem.W.takerIn
 rw[show PySem.W.findIn K (.ref C) f=some none from n]
 rfl
structure Con (K:PySem.W.Frag)(C:Addr)(f:Str)(v:V)(u:Value):Prop where
 at_:PySem.W.findIn K (.ref C) f=some (some u)
 rel:RelV v u
 get:PySem.W.specialIn K u "__get__"=some none
 cp:PySem.W.copiedNames.contains f=false
structure Meth (K:PySem.W.Frag)(C:Addr)(m:Str)(f:Addr):Prop where
 at_:PySem.W.findIn K (.ref C) m=some (some (.ref f))
 fn:PySem.W.isFn K (.ref f)=true
 kp:PySem.W.keepIn K (.ref f)=true
section
variable {X:Cx} {pins:List (Addr×Obj)} {σ:St} {H:Hp} {s:Shared} {a C dx:Addr} {fs:List (Str×V)} {f:Str} {v:V} {A:Around} {E:Value->Shared->Prop}
theorem aL {b:Bool}{Q:Value->Shared->Prop}(I:Inv X pins σ H s)(e:H a=some (.ins C dx fs))(c:Cls X.K C)(n:NoAttr X.K C f)(l:fs.lookup f=some v)
   (h:∀u s',Inv X pins σ H s'->RelV v u->Q u s'):wpAny (model X.prog X.w) A (getAttr (.ref a) f b) Q E s:=by
 obtain⟨mA,O,r,_,_,_⟩:=gB I.hok e
 obtain⟨u,hu,ru⟩:=RelO.some_of (v:=v) (o:=mA f) (by rw[←l];exact r f)
 exact zWr I.kIn O (c.get f) c.hd n hu (zZo ru) (h u _ (I.tok _) ru)
theorem pZ {m:Str}{g:Addr}{pl:Sem Bool}{Q:Value×List Value->Shared->Prop}(I:Inv X pins σ H s)(e:H a=some (.ins C dx fs))(c:Cls X.K C)(k:Meth X.K C m g)(l:fs.lookup m=none)
   (h:Q (.ref g,[.ref a]) s):wpAny (model X.prog X.w) A (getMethod (.ref a) m pl) Q E s:=by
 obtain⟨mA,O,r,_,_,_⟩:=gB I.hok e
 have hn:mA m=none:=RelO.none_of (by rw[←l];exact r m)
 exact zXz I.kIn O (c.get m) k.at_ k.fn hn h
theorem bR {y:V}{u:Value}{Q:Unit->Shared->Prop}(I:Inv X pins σ H s)(e:H a=some (.ins C dx fs))(c:Cls X.K C)(n:NoAttr X.K C f)(hl:fs.length < 1000)(ry:RelV y u)
   (h:∀s',Inv X pins σ (upd H a (.ins C dx (tM f y fs))) s'->Q () s'):wpAny (model X.prog X.w) A (setAttr (.ref a) f u) Q E s:=by
 obtain⟨mA,O,r,wi,_,ho⟩:=gB I.hok e
 have hz:(fs.map (·.1)).length<=sizeLine:=by rw[Qa,Wo];omega
 refine zWV I.kIn O c.sa c.po n.taker c.hd wi hz fun h' O' sb=>h _ ?_
 have hd:∃o,h'.get? dx=some o:=let ⟨o,_,_,e',_⟩:=O'.ns;⟨o,e'⟩
 refine I.write (x:=a) (e:=dx) (by rw[e];exact True.intro) (.inr ho) (fun b q hb z=>(sb.2 b hb).trans z) hd ?_
 refine⟨by rw[zO O.ne];exact ho,?_,O.ne,O'.obj,_,O'.ns,fun g=>?_,fun g hg=>?_⟩
 · have:=mY f y fs;omega
 · show RelO ((tM f y fs).lookup g) (if g=f then some u else mA g)
   rw[mT]
   by_cases q:g=f
   · rw[Qo q,Qo q];exact ry
   · rw[Qg q,Qg q];exact r g
 · by_cases q:g=f
   · rw[q];exact(nW f y fs).1
   · refine(nW f y fs).2 g (wi g fun z=>hg ?_)
     show(if g=f then some u else mA g)=none
     rw[Qg q];exact z
theorem Inv.made (I:Inv X pins σ H s):Inv X pins σ (upd (upd H s.heap.objs.size (.own (s.heap.objs.size+1))) (s.heap.objs.size+1) (.ins C s.heap.objs.size []))
   { s with heap:=(s.heap.push PySem.W.emptyDict).push (PySem.W.instObj C s.heap.objs.size) }:=by
 have e1:(s.heap.push PySem.W.emptyDict).get? s.heap.objs.size=some PySem.W.emptyDict:=Qd s.heap rfl
 have e2:((s.heap.push PySem.W.emptyDict).push (PySem.W.instObj C s.heap.objs.size)).get? (s.heap.objs.size+1)=some (PySem.W.instObj C s.heap.objs.size):=by
   have:=Qd (s.heap.push PySem.W.emptyDict) (o:=PySem.W.instObj C s.heap.objs.size) rfl
   rwa[Rz] at this
 have e3:(s.heap.push PySem.W.emptyDict).Ns s.heap.objs.size (fun _=>none):=⟨PySem.W.emptyDict,#[],_,e1,rfl,(fun e he=>absurd he (by simp)),fun _=>rfl⟩
 have I1:=I.laid (a:=s.heap.objs.size) (o:=.own (s.heap.objs.size+1)) (h':=s.heap.push PySem.W.emptyDict) (t':=s.toks) (fun b u q=>Qr _ q) (Qz _) ⟨_,e1⟩
 refine I1.laid (a:=s.heap.objs.size+1) (o:=.ins C s.heap.objs.size []) (t':=s.toks) (fun b u q=>Qr _ q) (Ya (Rz _ _)) ?_
 have ne:s.heap.objs.size≠s.heap.objs.size+1:=Qb (Yg _)
 refine⟨by rw[zO ne,zN],Wl _,ne,e2,fun _=>none,(Heap.Ns1.of_empty e3).at fun o q=>Qr _ q,fun _=>True.intro,fun y hy=>absurd rfl hy⟩
theorem zVT {prog:Program}{w:World}{env:Env}{e:Expr}{f:Str}{pos:Pos}{s:Shared}{Q:Value->Shared->Prop}(hb:attributeBase e f env (eval e env)=eval e env)
   (h:wpAny (model prog w) A (eval e env) (fun o s₁=>wpAny (model prog w) A (getAttr o f true) Q E s₁) E s):wpAny (model prog w) A (eval (.Attribute e f pos) env) Q E s :=
 Attribute_any_ h (by rw[arm_eval_Attribute,hb])
end
def zSL (K:PySem.W.Frag)(ta:TE)(f:Str):TE:=fun σ H Q=>ta σ H fun x H1=>∃a C dx fs v,x = .ref a/\H1 a=some (.ins C dx fs)/\Cls K C/\NoAttr K C f/\fs.lookup f=some v/\Q v H1
def zSM (K:PySem.W.Frag)(ta tv:TE)(f:Str):TS:=fun D σ H=>tv σ H fun y H1=>ta σ H1 fun x H2=>∃a C dx fs,x = .ref a/\H2 a=some (.ins C dx fs)/\Cls K C/\NoAttr K C f/\fs.length < 1000 /\
 D.nx σ (upd H2 a (.ins C dx (tM f y fs)))
section
variable {X:Cx} {o e value:Expr} {f:Str} {pos pos':Pos} {ta tv:TE}
theorem zYi (he:PE X e ta)(hb:attributeBase e f X.env (eval e X.env)=eval e X.env):PE X (.Attribute e f pos) (zSL X.K ta f):=by
 intro pins s σ H Q I h
 refine zVT hb (thn (he pins s σ H _ I h) fun u s1 ⟨x,H1,I1,rx,a,C,dx,fs,v,ex,ea,c,n,l,q⟩=>?_)
 subst ex
 obtain rfl:u=Value.ref a:=rx
 exact aL I1 ea c n l fun u' s2 I2 ru=>⟨v,H1,I2,ru,q⟩
theorem zY4 (ha:PE X o ta)(hv:PE X value tv)(hs:swapsWith value (some (.Attribute o f pos')) pos.line X.env=pure false):PS X (.Assign [.Attribute o f pos'] value pos) (zSM X.K ta tv f):=by
 intro pins s σ H D I h
 refine plainObj_wpAny_Assign_Attribute (thn (hv pins s σ H _ I h) fun u s1 ⟨y,H1,I1,ry,q⟩=>thn (ha pins s1 σ H1 _ I1 q) fun ov s2 ⟨x,H2,I2,rx,a,C,dx,fs,ex,ea,c,n,l,q2⟩=>?_) hs
 subst ex
 obtain rfl:ov=Value.ref a:=rx
 exact bR I2 ea c n l ry fun s3 I3=>⟨σ,_,I3,q2⟩
variable {H:Hp}
inductive TyOf (K:PySem.W.Frag)(H:Hp):V->Value->Prop where
 | non:TyOf K H .non (.type "NoneType")
 | bl (x:Bool):TyOf K H (.bl x) (.type "bool")
 | int (i:Int):TyOf K H (.int i) (.type "int")
 | str (x:Str):TyOf K H (.str x) (.type "str")
 | flt (x:UInt64):TyOf K H (.flt x) (.type "float")
 | lst {a:Addr} {xs:List V} (e:H a=some (.lst xs)):TyOf K H (.ref a) (.type "list")
 | frz {a:Addr} {o:Obj} {xs:List V} (e:H a=some (.frz o (.lst xs))):TyOf K H (.ref a) (.type "list")
 | tup {a:Addr} {xs:List V} (e:H a=some (.tup xs)):TyOf K H (.ref a) (.type "tuple")
 | dK {a:Addr} {kvs:List (Key×V)} (e:H a=some (.dK kvs)):TyOf K H (.ref a) (.type "dict")
 | dT {a:Addr} {kvs:List (List Key×V)} (e:H a=some (.dT kvs)):TyOf K H (.ref a) (.type "dict")
 | ins {a C dx:Addr} {fs:List (Str×V)} (e:H a=some (.ins C dx fs)) (cl:Cls K C) (ha:PySem.W.findIn K (.ref C) "__class__"=some (some (.builtin "object.__class__")))
     (hn:PySem.W.specialIn K (.builtin "object.__class__") "__get__"=some (some (.builtin "getset_descriptor.__get__"))) (htk:PySem.W.takesIn K (.builtin "object.__class__")=some true)
     (hm:PySem.W.mroIn K C (.type "object")=some true):TyOf K H (.ref a) (.ref C)
end
structure Room (k:Nat)(A:Around):Prop where
 hd:A.handled=none
 dp:A.depth+3*k+5 < recursionLimit
 un:A.units+16*k+200 < cLine
theorem Room.mono {j k:Nat}{A:Around}(r:Room k A)(h:j<=k):Room j A:=⟨r.hd,by have:=r.dp;omega,by have:=r.un;omega⟩
theorem Room.deeper {k:Nat}{A:Around}(r:Room (k+1) A)(env:Env):Room k (A.deeper env) :=
 ⟨r.hd,by have:=r.dp;show A.depth+1+3*k+5 < _;omega,by have:=r.un;show A.units+3+16*k+200 < _;omega⟩
theorem Room.in1 {k:Nat}{A:Around}(r:Room (k+1) A):Room k A.in1 :=
 ⟨r.hd,by have:=r.dp;show A.depth+3*k+5 < _;omega,by have:=r.un;show A.units+1+16*k+200 < _;omega⟩
theorem aX {A:Around}{C:Addr}{us:List Value}{kw:List (Str×Value)}:(A.under (.builtin "type.__call__" ⟨.ref C::us,kw⟩)).depth=A.depth+1:=by
 first | rfl | simp[Around.under,Code.weight,Code.isCreation,Code.isGuard,Code.isCaller,Code.frames,Code.isFrame,guardIds]
theorem bO {A:Around}{C:Addr}{us:List Value}{kw:List (Str×Value)}:(A.under (.builtin "type.__call__" ⟨.ref C::us,kw⟩)).units=A.units+1:=by
 first | rfl | simp[Around.under,Code.cUnits,Code.frames,Code.isFrame]
theorem Room.make {k:Nat}{A:Around}(r:Room (k+1) A)(C:Addr)(us:List Value)(kw:List (Str×Value)):Room k (A.under (.builtin "type.__call__" ⟨.ref C::us,kw⟩)) :=
 ⟨r.hd,by have:=r.dp;rw[aX];omega,by have:=r.un;rw[bO];omega⟩
theorem Room.depth {k:Nat}{A:Around}(r:Room k A):A.depth < recursionLimit:=by have:=r.dp;omega
theorem Room.units {k:Nat}{A:Around}(r:Room k A):A.units+64 < cLine:=by have:=r.un;omega
def zW9:TA:=fun _ H Q=>Q [] H
def zZU (ta:TE)(tr:TA):TA:=fun σ H Q=>ta σ H fun x H1=>tr σ H1 fun xs H2=>Q (x::xs) H2
section
variable {X:Cx} {e:Expr} {es:List Expr} {te:TE} {t:TA} {pos:Pos}
theorem uJ:PA X [] zW9:=fun _ _ _ _ H Q I h=>Calls.spliced_nil ⟨[],H,I,.nil,h⟩
theorem xF (ha:PE X e te)(hr:PA X es t)(hs:starEach (e::es) X.env=(false,eval e X.env)::starEach es X.env:=by rfl):PA X (e::es) (zZU te t):=by
 intro pos pins s σ H Q I h
 rw[hs]
 show wpAny _ _ (spliced ((false,eval e X.env)::backTo pos (starEach es X.env))) _ _ s
 refine Calls.spliced_cons (thn (ha pins s σ H _ I h) fun u s1 ⟨x,H1,I1,r1,q1⟩=>?_)
 exact thn (hr pos pins s1 σ H1 _ I1 q1) fun us s2 ⟨xs,H2,I2,r2,q2⟩=>⟨x::xs,H2,I2,.cons r1 r2,q2⟩
def zSI (t:TA):TE:=fun σ H Q=>t σ H fun xs H1=>xs.length<=sizeLine/\∀p,H1 p=none->Q (.ref p) (upd H1 p (.tup xs))
def zTd (t:TA):TE:=fun σ H Q=>t σ H fun xs H1=>xs.length<=sizeLine/\∀p,H1 p=none->Q (.ref p) (upd H1 p (.lst xs))
theorem zXO {x1}(h:PA X es t):PE X (.Tuple es x1 pos) (zSI t):=by
 intro pins s σ H Q I hq
 refine wpAny_Tuple_spliced (thn (h pos pins s σ H _ I hq) fun us s1 ⟨xs,H1,I1,r,z,q⟩=>⟨by rw[←r.length];exact z,?_⟩)
 have hf:H1 s1.heap.objs.size=none:=I1.hok.fresh (Qz _)
 refine⟨.ref s1.heap.objs.size,upd H1 s1.heap.objs.size (.tup xs),I1.laid (t':=s1.toks) (fun b u e=>Qr _ e) (Qz _) ?_,rfl,q _ hf⟩
 exact⟨z,us,r,⟨_,Qd _ rfl,rfl,_,rfl⟩⟩
theorem zUj (h:PA X es t):PE X (.List es pos) (zTd t):=by
 intro pins s σ H Q I hq
 refine wpAny_List_spliced (thn (h pos pins s σ H _ I hq) fun us s1 ⟨xs,H1,I1,r,z,q⟩=>⟨by rw[←r.length];exact z,?_⟩)
 have hf:H1 s1.heap.objs.size=none:=I1.hok.fresh (Qz _)
 refine⟨.ref s1.heap.objs.size,upd H1 s1.heap.objs.size (.lst xs),I1.laid (t':=s1.toks) (fun b u e=>Qr _ e) (Qz _) ?_,rfl,q _ hf⟩
 exact⟨z,us,0,r,Qd _ rfl⟩
end
abbrev Sp:=List V->Hp->VK->XK->Prop
abbrev CXT:=List Env->Hp->Shared->XK->Value->Shared->Prop
structure Env0 (P:Program)(w:World)(K:PySem.W.Frag)(mg:Str->Option Value)(base:Heap)(A:Around)(outer:List Env)(s:Shared)(H:Hp):Prop where
 frames:A.frames=some outer
 mod:Mod K mg base
 bs:∀b o,base.get? b=some o->s.heap.get? b=some o/\H b=none
 bsz:base.objs.size<=s.heap.objs.size
 funs:s.heap.FunFrames base outer
 frf:∀b∈frs outer,H b=none
 hok:HOk P w H s.heap
 bare:AllBare s.gens
def CE (outer:List Env)(P:Program)(w:World)(H:Hp)(s:Shared)(Q:VK)(u:Value)(s':Shared):Prop :=
 ∃v H',s'.os=s.os/\AllBare s'.gens/\Un (frs outer) [] H H' s.heap s'.heap/\HOk P w H' s'.heap/\RelV v u/\Q v H'
def CR (CX:CXT)(outer:List Env)(P:Program)(w:World)(H:Hp)(s:Shared)(Q:VK)(E:XK)(r:Result)(s':Shared):Prop :=
 match r with
 | .ok (.ret u)=>CE outer P w H s Q u s'
 | .ok _=>False
 | .error e=>CX outer H s E e s'
structure FnOk (P:Program)(w:World)(K:PySem.W.Frag)(mg:Str->Option Value)(base:Heap)(CX:CXT)(k:Nat)(f:Addr)(fd:FuncData)(ps:List Str)(sp:Sp):Prop where
 len:∀vs H Q E,sp vs H Q E->vs.length=ps.length
 run:∀(A:Around) (outer:List Env) (s:Shared) (H:Hp) (args:Args) (us:List Value) (vs:List V) (Q:VK) (E:XK),Room k A->Env0 P w K mg base A outer s H->BindsTo s fd args (ps.zip us)->Vals vs us->sp vs H Q E ->
   codeAny (model P w) A (.call (.ref f) args) (CR CX outer P w H s Q E) s
theorem Env0.make {P:Program}{w:World}{K:PySem.W.Frag}{mg:Str->Option Value}{base:Heap}{A:Around}{outer:List Env}{s:Shared}{H:Hp}(e:Env0 P w K mg base A outer s H)(C:Addr)(us:List Value)(kw:List (Str×Value)) :
   Env0 P w K mg base (A.under (.builtin "type.__call__" ⟨.ref C::us,kw⟩)) outer s H:=⟨by first | exact e.frames | (simpa [Around.under,Code.envs,Code.isFrame,pushEnvs] using e.frames),e.mod,e.bs,e.bsz,e.funs,e.frf,e.hok,e.bare⟩
theorem Env0.in1 {P:Program}{w:World}{K:PySem.W.Frag}{mg:Str->Option Value}{base:Heap}{A:Around}{outer:List Env}{s:Shared}{H:Hp}(e:Env0 P w K mg base A outer s H) :
   Env0 P w K mg base A.in1 outer s H:=⟨e.frames,e.mod,e.bs,e.bsz,e.funs,e.frf,e.hok,e.bare⟩
section
variable {X:Cx} {pins:List (Addr×Obj)} {σ:St} {H:Hp} {s s':Shared}
theorem Inv.env0 (I:Inv X pins σ H s):Env0 X.prog X.w X.K X.mg X.base X.A X.stack s H :=
 ⟨I.ok.frames,I.ok.mod,I.bs,We I.ok.bsz I.sz,I.stack,I.stkFree,I.hok,I.bare⟩
theorem Inv.after {Q:VK}{u:Value}(I:Inv X pins σ H s)(h:CE X.stack X.prog X.w H s Q u s'):EP X pins σ Q u s':=by
 obtain⟨v,H',os,bare,un,hok,r,q⟩:=h
 obtain⟨hh,g,d,t,os'⟩:=s'
 obtain rfl:os'=s.os:=os
 exact⟨v,H',I.call (h':=hh) (g':=g) (d':=d) (t':=t) (ch:=[]) un hok bare (fun b z=>absurd z (by simp)),r,q⟩
end
def zTj (sp:Sp)(dvs:List V)(E:XK)(t:TA):TE:=fun σ H Q=>t σ H fun vs H1=>sp (vs++dvs) H1 Q E
def zVt (C:Addr)(m:Str)(sp:Sp)(dvs:List V)(E:XK)(ta:TE)(t:TA):TE:=fun σ H Q=>ta σ H fun x H1=>∃a dx fs,x = .ref a/\H1 a=some (.ins C dx fs)/\fs.lookup m=none /\
 t σ H1 fun vs H2=>sp (x::(vs++dvs)) H2 Q E
def zTO (C:Addr)(sp:Sp)(dvs:List V)(E:XK)(t:TA):TE:=fun σ H Q=>t σ H fun vs H1=>∀x dx,H1 x=none->H1 dx=none->dx≠x ->
 sp (.ref x::(vs++dvs)) (upd (upd H1 dx (.own x)) x (.ins C dx [])) (fun v H2=>v = .non/\Q (.ref x) H2) E
def Binds (K:PySem.W.Frag)(fd:FuncData)(ps:List Str)(ds:List Value):Prop :=
 ∀(s:Shared) (us:List Value),K.In s.heap->(us++ds).length=ps.length->BindsTo s fd ⟨us,[]⟩ (ps.zip (us++ds))
theorem Binds.all {K:PySem.W.Frag}{fd:FuncData}{ps:List Str}(h:∀us:List Value,us.length=ps.length->bindArgs fd ⟨us,[]⟩=pure (ps.zip us)):Binds K fd ps []:=fun s us _ hl=>by
 rw[Wx] at hl ⊢
 exact .of_eq (h us hl)
def pX (CX:CXT)(X:Cx)(E:XK):Prop:=∀(pins:List (Addr×Obj)) (σ:St) (H:Hp) (s:Shared) (e:Value) (s':Shared),Inv X pins σ H s->CX X.stack H s E e s'->X.xe e s'
section
variable {X:Cx} {CX:CXT} {k:Nat} {f C:Addr} {fd:FuncData} {ps:List Str} {sp:Sp} {dvs:List V} {ds:List Value} {E:XK} {x m:Str} {p pos apos:Pos} {e o:Expr} {es:List Expr} {ta:TE} {t:TA}
theorem aQ {pins:List (Addr×Obj)}{σ:St}{H:Hp}{s:Shared}{Q:VK}{us:List Value}{vs:List V}(F:FnOk X.prog X.w X.K X.mg X.base CX k f fd ps sp)(hr:Room k X.A)(hb:Binds X.K fd ps ds)(hd:Vals dvs ds)(hx:pX CX X E)
   (I:Inv X pins σ H s) (r:Vals vs us) (h:sp (vs++dvs) H Q E):wpAny (model X.prog X.w) X.A (call (.ref f) us) (EP X pins σ Q) X.xe s:=by
 have r2:Vals (vs++dvs) (us++ds):=r.append hd
 have hl:(us++ds).length=ps.length:=by rw[←r2.length];exact F.len _ _ _ _ h
 refine Yt (Rl (F.run X.A X.stack s H ⟨us,[]⟩ (us++ds) (vs++dvs) Q E hr I.env0 (hb s us I.kIn hl) r2 h) fun r s' hq=>?_)
 cases r with
 | error e=>exact hx pins σ H s e s' I hq
 | ok fl =>
   cases fl with
   | ret u=>exact I.after hq
   | next=>exact False.elim hq
   | brk=>exact False.elim hq
   | cont=>exact False.elim hq
theorem zWO (F:FnOk X.prog X.w X.K X.mg X.base CX k f fd ps sp)(hr:Room k X.A)(hg:Gl X x)(hm:X.mg x=some (.ref f))(hk:PySem.W.keepIn X.K (.ref f)=true)(hb:Binds X.K fd ps ds)(hd:Vals dvs ds)(hx:pX CX X E)
   (ha:PA X (e::es) t) (hdb:(x==("__debug__":Str))=false:=by decide) (he:starEach (e::es) X.env=(false,eval e X.env)::starEach es X.env:=by rfl) (hpl:(backTo pos (starEach es X.env)).any (·.1)=false:=by rfl) :
   PE X (.Call (.Name x p) (e::es) [] pos) (zTj sp dvs E t):=by
 intro pins s σ H Q I h
 refine Ey (rB I hg hm ?_ hdb)
 refine Rq (h₀:=X.base) I.ok.mod.kin hk (thn (ha pos pins s σ H _ I h) fun us s1 ⟨vs,H1,I1,r,q⟩=>⟨I1.kIn,?_⟩) he hpl
 exact aQ F hr hb hd hx I1 r q
theorem zWH {pl:Sem Bool}(he:PE X o ta)(c:Cls X.K C)(hm:Meth X.K C m f)(F:FnOk X.prog X.w X.K X.mg X.base CX k f fd ps sp)(hr:Room k X.A)(hb:Binds X.K fd ps ds)(hd:Vals dvs ds)(hx:pX CX X E)(ha:PA X (e::es) t)
   (hst:starEach (e::es) X.env=(false,eval e X.env)::starEach es X.env:=by rfl) (hpl:(backTo pos (starEach es X.env)).any (·.1)=false:=by rfl)
   (ht:eval (.Call (.Attribute o m apos) (e::es) [] pos) X.env=(do
     let ov ←eval o X.env
     standAt apos.atName
     let (f,first) ←holding [ov] (getMethod ov m pl)
     callWith pos f first (backTo pos (starEach (e::es) X.env)) (backToKw pos (keywordEach [] X.env))):=by rfl) :
   PE X (.Call (.Attribute o m apos) (e::es) [] pos) (zVt C m sp dvs E ta t):=by
 intro pins s σ H Q I h
 refine Tu (pl:=pl) (thn (he pins s σ H _ I h) fun u s1 ⟨x,H1,I1,rx,a,dx,fs,ex,ea,l,q⟩=>?_) ht
 subst ex
 obtain rfl:u=Value.ref a:=rx
 refine pZ I1 ea c hm l ?_
 refine Rq (first:=[.ref a]) (h₀:=X.base) I.ok.mod.kin hm.kp (thn (ha pos pins s1 σ H1 _ I1 q) fun us s2 ⟨vs,H2,I2,r,q2⟩=>⟨I2.kIn,?_⟩) hst hpl
 exact aQ (us:=.ref a::us) (vs:=.ref a::vs) F hr hb hd hx I2 (.cons rfl r) q2
theorem zYb {pl:Sem Bool}(he:PE X o ta)(c:Cls X.K C)(hm:Meth X.K C m f)(F:FnOk X.prog X.w X.K X.mg X.base CX k f fd ps sp)(hr:Room k X.A)(hb:Binds X.K fd ps ds)(hd:Vals dvs ds)(hx:pX CX X E)
   (ht:eval (.Call (.Attribute o m apos) [] [] pos) X.env=(do
     let ov ←eval o X.env
     standAt apos.atName
     let (f,first) ←holding [ov] (getMethod ov m pl)
     callWith pos f first (backTo pos (starEach [] X.env)) (backToKw pos (keywordEach [] X.env))):=by rfl) :
   PE X (.Call (.Attribute o m apos) [] [] pos) (zVt C m sp dvs E ta zW9):=by
 intro pins s σ H Q I h
 refine Tu (pl:=pl) (thn (he pins s σ H _ I h) fun u s1 ⟨x,H1,I1,rx,a,dx,fs,ex,ea,l,q⟩=>?_) ht
 subst ex
 obtain rfl:u=Value.ref a:=rx
 refine pZ I1 ea c hm l ?_
 exact PySem.W.callWith_K0 (first:=[.ref a]) I1.kIn hm.kp (aQ (us:=[.ref a]) (vs:=[.ref a]) F hr hb hd hx I1 (.cons rfl .nil) q)
structure Mk (K:PySem.W.Frag)(C f:Addr):Prop where
 makes:PySem.W.makesIn K C=true
 init:PySem.W.findIn K (.ref C) "__init__"=some (some (.ref f))
 fn:PySem.W.isFn K (.ref f)=true
 kp:PySem.W.keepIn K (.ref C)=true
theorem zXQ {pins:List (Addr×Obj)}{σ:St}{H:Hp}{s:Shared}{Q:VK}{us:List Value}{vs:List V}(M:Mk X.K C f)(F:FnOk X.prog X.w X.K X.mg X.base CX k f fd ps sp)(hr:Room (k+1) X.A)(hb:Binds X.K fd ps ds)(hd:Vals dvs ds)
   (hx:pX CX X E) (I:Inv X pins σ H s) (r:Vals vs us)
   (h:∀x dx,H x=none->H dx=none->dx≠x->sp (.ref x::(vs++dvs)) (upd (upd H dx (.own x)) x (.ins C dx [])) (fun v H2=>v = .non/\Q (.ref x) H2) E) :
   wpAny (model X.prog X.w) X.A (call (.ref C) us) (EP X pins σ Q) X.xe s:=by
 have hq:=h (s.heap.objs.size+1) s.heap.objs.size (I.hok.fresh (Rv _)) (I.hok.fresh (Qz _)) (Qb (Yg _))
 have I2:=Inv.made (C:=C) I
 have r2:Vals (V.ref (s.heap.objs.size+1)::(vs++dvs)) (Value.ref (s.heap.objs.size+1)::(us++ds)):=.cons rfl (r.append hd)
 have hl:(Value.ref (s.heap.objs.size+1)::us++ds).length=ps.length:=by
   have e:=r2.length
   rw[F.len _ _ _ _ hq] at e
   exact e.symm
 refine Yt (zXT (f:=f) I.kIn M.makes M.init (Eg.mp M.fn) (Rl (F.run _ X.stack _ _ ⟨Value.ref (s.heap.objs.size+1)::us,[]⟩ (Value.ref (s.heap.objs.size+1)::(us++ds)) _ _ E (hr.make C us [])
   (I2.env0.make C us []) (hb _ (Value.ref (s.heap.objs.size+1)::us) I2.kIn hl) r2 hq) fun r s' hq'=>?_))
 cases r with
 | error e=>exact hx pins σ _ _ e s' I2 hq'
 | ok fl =>
   cases fl with
   | ret u =>
     obtain⟨v,H',I3,rv,ev,q3⟩:=I2.after hq'
     subst ev
     exact⟨rv,⟨V.ref (s.heap.objs.size+1),H',I3,rfl,q3⟩⟩
   | next=>exact False.elim hq'
   | brk=>exact False.elim hq'
   | cont=>exact False.elim hq'
theorem zZD (M:Mk X.K C f)(F:FnOk X.prog X.w X.K X.mg X.base CX k f fd ps sp)(hr:Room (k+1) X.A)(hg:Gl X x)(hm:X.mg x=some (.ref C))(hb:Binds X.K fd ps ds)(hd:Vals dvs ds)(hx:pX CX X E)
   (ha:PA X (e::es) t) (hdb:(x==("__debug__":Str))=false:=by decide) (he:starEach (e::es) X.env=(false,eval e X.env)::starEach es X.env:=by rfl) (hpl:(backTo pos (starEach es X.env)).any (·.1)=false:=by rfl) :
   PE X (.Call (.Name x p) (e::es) [] pos) (zTO C sp dvs E t):=by
 intro pins s σ H Q I h
 refine Ey (rB I hg hm ?_ hdb)
 refine Rq (h₀:=X.base) I.ok.mod.kin M.kp (thn (ha pos pins s σ H _ I h) fun us s1 ⟨vs,H1,I1,r,q⟩=>⟨I1.kIn,?_⟩) he hpl
 exact zXQ M F hr hb hd hx I1 r q
variable {ks:List Str}
structure KBinds (K:PySem.W.Frag)(fd:FuncData)(ps ks:List Str)(g:List Value->List Value->List Value)(gV:List V->List V->List V):Prop where
 to:∀(s:Shared) (us ws:List Value),K.In s.heap->(g us ws).length=ps.length->BindsTo s fd ⟨us,ks.zip ws⟩ (ps.zip (g us ws))
 rel:∀ {vs:List V} {us:List Value} {zs:List V} {ws:List Value},Vals vs us->Vals zs ws->Vals (gV vs zs) (g us ws)
variable {g:List Value->List Value->List Value} {gV:List V->List V->List V}
end
structure FnScope (N P:List Str)(sc:Scope):Prop where
 kind:sc.kind = .function
 co:sc.isCoroutine=false
 gen:sc.isGenerator=false
 nd:N.Nodup
 pre:N.take P.length=P
 par:∀x∈P,sc.names.lookup x=some .local∨sc.names.lookup x=some .cell
 nofree:∀y∈sc.names,y.2 ≠ .free
theorem jL {kindOf:Str->Option NameKind}{x:Str}:∀ {binds:List (Str×Value)} {m:Str->Option Value},(∀v,(x,v)∉binds)->bindL kindOf binds m x=m x
 | [],_,_=>rfl
 | (n,v)::r,m,h=>by
   unfold bindL
   rw[jL fun w hw=>h w (Qj _ hw)]
   split
   · have:x≠n:=by rintro rfl;exact h v Qn
     simp[this]
   · rfl
theorem jF {kindOf:Str->Option NameKind}{x:Str}:∀ {binds:List (Str×Value)} {m:Str->Option Value},(∀v,(x,v)∉binds)->bindC kindOf binds m x=m x
 | [],_,_=>rfl
 | (n,v)::r,m,h=>by
   unfold bindC
   rw[jF fun w hw=>h w (Qj _ hw)]
   split
   · rfl
   · have:x≠n:=by rintro rfl;exact h v Qn
     simp[this]
theorem jD {kindOf:Str->Option NameKind}{x:Str}{v:Value}:∀ {P:List Str} {vs:List Value} {i:Nat} {m:Str->Option Value},P.Nodup->P[i]?=some x->vs[i]?=some v->kindOf x=some .local ->
   bindL kindOf (P.zip vs) m x=some v
 | [],_,_,_,_,h,_,_=>by simp at h
 | _::_,[],_,_,_,_,h,_=>by simp at h
 | p::P,w::vs,0,m,nd,h1,h2,hk=>by
   simp at h1 h2;subst h1;subst h2
   show bindL kindOf ((p,w)::P.zip vs) m p=_
   unfold bindL
   rw[jL fun v hv=>(Wm.mp nd).1 (Yn hv).1,Qo hk]
   simp
 | p::P,w::vs,i+1,m,nd,h1,h2,hk=>by
   show bindL kindOf ((p,w)::P.zip vs) m x=_
   unfold bindL
   exact jD (i:=i) (Wm.mp nd).2 (by simpa using h1) (by simpa using h2) hk
theorem jI {kindOf:Str->Option NameKind}{x:Str}{v:Value}:∀ {P:List Str} {vs:List Value} {i:Nat} {m:Str->Option Value},P.Nodup->P[i]?=some x->vs[i]?=some v->kindOf x≠some .local ->
   bindC kindOf (P.zip vs) m x=some v
 | [],_,_,_,_,h,_,_=>by simp at h
 | _::_,[],_,_,_,_,h,_=>by simp at h
 | p::P,w::vs,0,m,nd,h1,h2,hk=>by
   simp at h1 h2;subst h1;subst h2
   show bindC kindOf ((p,w)::P.zip vs) m p=_
   unfold bindC
   rw[jF fun v hv=>(Wm.mp nd).1 (Yn hv).1,Qg hk]
   simp
 | p::P,w::vs,i+1,m,nd,h1,h2,hk=>by
   show bindC kindOf ((p,w)::P.zip vs) m x=_
   unfold bindC
   exact jI (i:=i) (Wm.mp nd).2 (by simpa using h1) (by simpa using h2) hk
def vT (N:List Str)(vs:List V):St:=vs.map some++List.replicate (N.length - vs.length) none
def sU (CX:CXT)(P:Program)(w:World)(K:PySem.W.Frag)(mg:Str->Option Value)(base:Heap)(N:List Str)(qual:Str)(scope:Scope)(f:Addr)(cd:Value)(A:Around)(outer:List Env)(s:Shared)(H:Hp)(E:XK):Cx where
 prog:=P
 w:=w
 K:=K
 mg:=mg
 base:=base
 A:=A.deeper (envOfC qual scope s.heap.objs.size f cd)
 N:=N
 s₀:=s
 H₀:=H
 env:=envOfC qual scope s.heap.objs.size f cd
 outer:=outer
 stack:=envOfC qual scope s.heap.objs.size f cd::outer
 ex:=[]
 calm:=true
 fn:=fun _=>true
 pn:=[]
 xe:=fun e s'=>wpAny (model P w) (A.deeper (envOfC qual scope s.heap.objs.size f cd)) (leaving (envOfC qual scope s.heap.objs.size f cd) e) (fun _ s''=>CX outer H s E e s'') (fun e' s''=>CX outer H s E e' s'') s'
theorem cN {sc:Scope}{n:Nat}{x:Str}(h:sc.names.lookup x=some .cell):∃c,(cellsFrom n sc.names []).lookup x=some c:=by
 have q:=PySem.W.cellsFrom_some sc.names n [] (.inl h)
 exact Eo.mp q
theorem zYY {CX:CXT}{P:Program}{w:World}{K:PySem.W.Frag}{mg:Str->Option Value}{base:Heap}{N ps:List Str}{qual:Str}{scope:Scope}{f:Addr}{cd:Value}{A:Around}{outer:List Env}{s s1:Shared}{H:Hp}{E:XK}{us:List Value}{vs:List V}
   (S:FnScope N ps scope) (hd:A.handled=none) (e0:Env0 P w K mg base A outer s H) (hl:vs.length=ps.length) (r:Vals vs us)
   (x:InCallC s s.heap.objs.size (bindL (envOfC qual scope s.heap.objs.size f cd).kindOf (ps.zip us) fun _=>none) (cellsFrom (s.heap.objs.size+1) scope.names []) (bindC (envOfC qual scope s.heap.objs.size f cd).kindOf (ps.zip us) fun _=>none) s1) :
   Inv (sU CX P w K mg base N qual scope f cd A outer s H E) [] (vT N vs) H s1:=by
 have hpl:ps.length<=N.length:=by have:=Eh List.length S.pre;rw[Yh] at this;omega
 obtain⟨h1,tk,rfl,hk⟩:=x.done
 have noA:∀b:Addr,b∉(sU CX P w K mg base N qual scope f cd A outer s H E).ex:=fun b z=>absurd (show b∈([]:List Addr) from z) (by simp)
 refine⟨⟨e0.mod,S.kind,rfl,rfl,Qz _,fun y z c h1 h2=>?_,fun y hy=>?_,fun y c _ h=>?_,fun _=>hd,Around.frames_deeper e0.frames,.inr ⟨rfl,rfl⟩,fun b z=>absurd z (noA b),e0.bs,e0.bsz,fun b _ _=>noA b,fun b z=>absurd z (noA b),e0.funs,e0.frf⟩,
   rfl,e0.bare,Un.kept hk,⟨_,x.toInCall.ns,fun i y v h1 h2 h3=>?_⟩,fun y c h=>⟨_,x.cell y c h⟩,e0.hok.fresh (Qz _),fun y c h=>?_,fun p hp=>absurd (show p∈([]:List (Addr×Obj)) from hp) (by simp),e0.hok.kept hk,?_⟩
 · exact name_of_addr x.apart (Wz h1) (Wz h2)
 · have hy:scope.names.lookup y=some .cell∨scope.names.lookup y=some .free:=hy
   rcases hy with hy | hy
   · exact cN hy
   · exact absurd rfl (S.nofree _ (Wz hy))
 · exact Wp (x.above y c (Wz h))
 · have hi:i < vs.length:=by
     unfold vT at h2
     by_cases hi:i < vs.length
     · exact hi
     · rw[Wu (by simpa using hi)] at h2
       rw[Wj] at h2
       split at h2<;>cases h2
   have ha:vs[i]?=some v:=by
     unfold vT at h2
     rw[Ws (by simpa using hi),Wi] at h2
     cases e:vs[i]? with
     | none=>rw[e] at h2;cases h2
     | some a=>rw[e] at h2;cases h2;rfl
   obtain⟨u,hu,rv⟩:=r.get ha
   have hp:ps[i]?=some y:=by
     rw[←S.pre,List.getElem?_take_of_lt (by omega)];exact h1
   have ndP:ps.Nodup:=by rw[←S.pre];exact S.nd.sublist (List.take_sublist _ _)
   refine⟨u,rv,?_⟩
   rcases S.par y (Tk hp) with k | k
   · exact .inl ⟨k,jD ndP hp hu k⟩
   · obtain⟨c,e⟩:=cN (n:=s.heap.objs.size+1) k
     refine .inr ⟨.inl k,c,e,?_⟩
     have q:=x.cell y c e
     rw[jI ndP hp hu (by show scope.names.lookup y≠_;rw[k];decide)] at q
     exact q
 · exact e0.hok.fresh (Wp (x.above y c (Wz h)))
 · unfold vT
   show _=N.length
   rw[Ql,Qa,Ti]
   omega
theorem zV8 {CX:CXT}{P:Program}{w:World}{K:PySem.W.Frag}{mg:Str->Option Value}{base:Heap}{k:Nat}{f:Addr}{name qual:Str}{params:Arguments}{body:List Stmt}{scope:Scope}{dV kV doc pm cdv ct oc:Value}{an od:Option Addr}
   {osl:Array (Option Value)} {N ps:List Str} {sp:Sp} (lk:K.lookup f=some ⟨oc,od,.func (PySem.W.fnOf name qual params body scope dV kV doc pm an cdv ct),osl⟩) (hcd:PySem.W.codeIn K cdv qual=true) (S:FnScope N ps scope)
   (len:∀vs H Q E,sp vs H Q E->vs.length=ps.length)
   (hbody:∀(A:Around) (outer:List Env) (s:Shared) (H:Hp) (vs:List V) (Q:VK) (E:XK),Room k (A.deeper (envOfC qual scope s.heap.objs.size f cdv))->sp vs H Q E ->
     ∃t,PSs (sU CX P w K mg base N qual scope f cdv A outer s H E) body t/\t { nx:=fun _ H'=>Q .non H',rt:=Q } (vT N vs) H) :
   FnOk P w K mg base CX (k+1) f (PySem.W.fnOf name qual params body scope dV kV doc pm an cdv ct) ps sp:=by
 refine⟨len,fun A outer s H args us vs Q E hr e0 hb r hsp=>?_⟩
 have hl:=len _ _ _ _ hsp
 have KX:K.In s.heap:=e0.mod.kin.keeps fun b o e=>(e0.bs b o e).1
 have lim:s.heap.NoLimit:=e0.mod.nolimit.keeps fun b o e=>(e0.bs b o e).1
 have hkind:∀y∈ps.zip us,scope.names.lookup y.1=some .local∨(scope.names.lookup y.1=some .cell/\((cellsFrom (s.heap.objs.size+1) scope.names []).lookup y.1).isSome=true):=fun⟨n,v⟩ hy=>by
   rcases S.par n (Yn hy).1 with q | q
   · exact .inl q
   · exact .inr ⟨q,PySem.W.cellsFrom_some _ _ _ (.inl q)⟩
 refine codeAny_call_function hr.depth (KX _ _ lk) rfl S.co S.gen rfl (PySem.W.codeRec_of KX hcd) (hb _ _ _ _ ?_)
 refine wpAny_newFunctionEnv_cells S.kind hkind fun env he s1 x=>?_
 subst he
 refine⟨lim.keeps x.toInCall.keep,codeAny_func ?_⟩
 obtain⟨t,ht,hq⟩:=hbody A outer s H vs Q E (hr.deeper _) hsp
 have I:Inv (sU CX P w K mg base N qual scope f cdv A outer s H E) [] (vT N vs) H s1:=zYY S hr.hd e0 hl r x
 refine Ei (ht [] s1 (vT N vs) H _ I hq) (fun fl s' hs=>?_) fun e s' hs=>hs
 have fin:∀ {σ':St} {H':Hp} {v:V} {u:Value},Inv (sU CX P w K mg base N qual scope f cdv A outer s H E) [] σ' H' s'->RelV v u->Q v H'->CE outer P w H s Q u s' :=
   fun {σ' H' v u} J rv q=>⟨v,H',J.os,J.bare,J.base,J.hok,rv,q⟩
 cases fl with
 | ret u =>
   obtain⟨v,σ',H',J,rv,q⟩:=hs
   exact fin J rv q
 | next =>
   obtain⟨σ',H',J,q⟩:=hs
   exact fin (v:=V.non) (u:=Value.none) J rfl q
 | brk =>
   obtain⟨_,_,_,q⟩:=hs
   exact False.elim q
 | cont =>
   obtain⟨_,_,_,q⟩:=hs
   exact False.elim q
section
variable {X:Cx} {x:Str} {p pos:Pos} {e:Expr} {es:List Expr} {t:TA} {id T:String} {r:List V->Hp->VK->Prop}
def tCB (r:List V->Hp->VK->Prop)(t:TA):TE:=fun σ H Q=>t σ H fun vs H1=>r vs H1 Q
theorem rT (hc:CallR X (.builtin id) r)(hg:Gl X x)(hm:X.mg x=none)(hv:bootBuiltins x=some (.builtin id))(ha:PA X (e::es) t)(hn:x≠"__name__":=by decide)(hdb:(x==("__debug__":Str))=false:=by decide)
   (he:starEach (e::es) X.env=(false,eval e X.env)::starEach es X.env:=by rfl) (hpl:(backTo pos (starEach es X.env)).any (·.1)=false:=by rfl):PE X (.Call (.Name x p) (e::es) [] pos) (tCB r t):=by
 intro pins s σ H Q I h
 refine Ey (nI I hg hm hv ?_ hn hdb)
 exact PyProof.Rows.callWith_builtin1 (thn (ha pos pins s σ H _ I h) fun us s1 ⟨vs,H1,I1,r1,q1⟩=>hc pins s1 σ H1 vs us Q I1 r1 q1) he hpl
theorem zYV (hc:CallR X (.type T) r)(hg:Gl X x)(hm:X.mg x=none)(hv:bootBuiltins x=some (.type T))(ha:PA X (e::es) t)(hn:x≠"__name__":=by decide)(hdb:(x==("__debug__":Str))=false:=by decide)
   (he:starEach (e::es) X.env=(false,eval e X.env)::starEach es X.env:=by rfl) (hpl:(backTo pos (starEach es X.env)).any (·.1)=false:=by rfl):PE X (.Call (.Name x p) (e::es) [] pos) (tCB r t):=by
 intro pins s σ H Q I h
 refine Ey (nI I hg hm hv ?_ hn hdb)
 exact Yb (thn (ha pos pins s σ H _ I h) fun us s1 ⟨vs,H1,I1,r1,q1⟩=>hc pins s1 σ H1 vs us Q I1 r1 q1) he hpl
end
end L2
namespace HT
open PySem PyProof.Rows
section
def sIx (n d:Nat):Option Int->Nat
 | none=>d
 | some v=>if v < 0 then(v+(n:Int)).toNat else min v.toNat n
end
end HT
namespace L2
open PySem PySem.Spec PyProof.Rows
abbrev TO:=St->Hp->(Option Int->Hp->Prop)->Prop
def PO (X:Cx)(e:Option Expr)(t:TO):Prop :=
 ∀(pins:List (Addr×Obj)) (s:Shared) (σ:St) (H:Hp) (Q:Option Int->Hp->Prop),Inv X pins σ H s->t σ H Q ->
   wpAny (model X.prog X.w) X.A (evalPart e X.env) (fun u s'=>∃o H',Inv X pins σ H' s'/\IsPart u o/\Q o H') X.xe s
def zWF:TO:=fun _ H Q=>Q none H
def zTL (t:TE):TO:=fun σ H Q=>t σ H fun x H1=>∃i,x = .int i/\Q (some i) H1
section
variable {X:Cx} {e:Expr} {te:TE} {lo hi:Option Expr} {tl th:TO} {pos p2:Pos}
theorem zWC:PO X none zWF:=by
 intro pins s σ H Q I h
 rw[evalPart_none]
 exact Qi ⟨none,H,I,.none,h⟩
theorem zWm (h:PE X e te):PO X (some e) (zTL te):=by
 intro pins s σ H Q I hw
 rw[evalPart_some]
 refine thn (h pins s σ H _ I hw) fun u s1 ⟨x,H1,I1,r1,q1⟩=>?_
 obtain⟨i,rfl,q⟩:=q1
 obtain⟨t,rfl⟩:=r1
 exact⟨some i,H1,I1,.int i t,q⟩
def SlR (X:Cx)(r:V->Option Int->Option Int->Hp->VK->Prop):Prop :=
 ∀(pins:List (Addr×Obj)) (s:Shared) (σ:St) (H:Hp) (x:V) (v vl vu:Value) (lo hi:Option Int) (sl:Addr) (Q:VK),Inv X pins σ H s->RelV x v->s.heap.IsSliceOf sl vl vu .none->IsPart vl lo->IsPart vu hi->r x lo hi H Q ->
   ∃T id,typeLookup (.type T) "__getitem__"=pure (some (.builtin id))/\s.TypeIs v T/\wpAny (model X.prog X.w) X.A (getItem v (.ref sl)) (EP X pins σ Q) X.xe s
def tSl (r:V->Option Int->Option Int->Hp->VK->Prop)(te:TE)(tl th:TO):TE:=fun σ H Q=>te σ H fun x H1=>tl σ H1 fun l H2=>th σ H2 fun u H3=>r x l u H3 Q
theorem dO {r:V->Option Int->Option Int->Hp->VK->Prop}(hr:SlR X r)(he:PE X e te)(hl:PO X lo tl)(hu:PO X hi th):PE X (.Subscript e (.Slice lo hi none p2) pos) (tSl r te tl th):=by
 intro pins s σ H Q I h
 refine Subscript_ (thn (he pins s σ H _ I h) fun v s1 ⟨x,H1,I1,r1,q1⟩=>?_)
 refine wpAny_Slice (thn (hl pins s1 σ H1 _ I1 q1) fun vl s2 ⟨l,H2,I2,pl,q2⟩=>thn (hu pins s2 σ H2 _ I2 q2) fun vu s3 ⟨u,H3,I3,pu,q3⟩=>?_)
 rw[evalPart_none]
 refine Qi ?_
 have I4:Inv X pins σ H3 { s3 with heap:=s3.heap.push { cls:=.type "slice",data:=.fields #[vl,vu,.none] } }:=I3.kept (t':=s3.toks) fun b ob q=>Qr _ q
 obtain⟨T,id,hT,ht,hg⟩:=hr pins { s3 with heap:=s3.heap.push { cls:=.type "slice",data:=.fields #[vl,vu,.none] } } σ H3 x v vl vu l u s3.heap.objs.size Q I4 r1 (Heap.IsSliceOf.new ..) pl pu q3
 show wpAny (model X.prog X.w) X.A (subscriptTail e (.Slice lo hi none p2) v (.ref s3.heap.objs.size)) (EP X pins σ Q) X.xe { s3 with heap:=s3.heap.push { cls:=.type "slice",data:=.fields #[vl,vu,.none] } }
 exact tail_any (ops:=[.ref s3.heap.objs.size,v]) ht hT hg (by with_unfolding_all rfl)
def zZt (xs:List V)(lo hi:Option Int):List V:=(xs.drop (HT.sIx xs.length 0 lo)).take (HT.sIx xs.length xs.length hi - HT.sIx xs.length 0 lo)
theorem cE (xs:List V)(lo hi:Option Int):(zZt xs lo hi).length<=xs.length:=by
 unfold zZt
 rw[Yh,List.length_drop]
 omega
end
def ixN (n:Nat)(i:Int):Option Nat:=if 0<=i then(if i < n then some i.toNat else none) else if -(n:Int)<=i then some (i+n).toNat else none
def atI {α:Type}(xs:List α)(i:Int):Option α:=(ixN xs.length i).bind fun j=>xs[j]?
theorem zVY {n:Nat}{i:Int}{j:Nat}(h:ixN n i=some j):seqIndex? i n=some j/\j < n /\ -(n:Int)<=i/\i < n:=by
 unfold ixN at h
 by_cases h0:0<=i
 · rw[Qo h0] at h
   by_cases h1:i < n
   · rw[Qo h1] at h
     have e:i.toNat=j:=Qv h
     exact⟨by rw[seqIndex_of h0 h1,e],by omega,by omega,h1⟩
   · rw[Qg h1] at h;cases h
 · rw[Qg h0] at h
   by_cases h1 : -(n:Int)<=i
   · rw[Qo h1] at h
     have e:(i+n).toNat=j:=Qv h
     exact⟨by rw[seqIndex_neg (by omega) h1,e],by omega,h1,by omega⟩
   · rw[Qg h1] at h;cases h
theorem iC {α:Type}{xs:List α}{i:Int}{v:α}(h:atI xs i=some v):∃j,seqIndex? i xs.length=some j/\xs[j]?=some v/\j < xs.length /\ -(xs.length:Int)<=i/\i < xs.length:=by
 unfold atI at h
 cases e:ixN xs.length i with
 | none=>rw[e] at h;cases h
 | some j =>
   rw[e] at h
   obtain⟨h1,h2,h3,h4⟩:=zVY e
   exact⟨j,h1,h,h2,h3,h4⟩
def fM (b:Expr):Prop:=∀o i,subscripted b false o i=operate [o,i] (getItem o i)
def IxR (X:Cx)(r:R2):Prop :=
 ∀(value slice:Expr) (pins:List (Addr×Obj)) (s:Shared) (σ:St) (H:Hp) (x y:V) (v u:Value) (Q:VK),Inv X pins σ H s->RelV x v->RelV y u->r x y H Q ->
   subscripted slice false v u=operate [v,u] (getItem v u)->wpAny (model X.prog X.w) X.A (subscriptTail value slice v u) (EP X pins σ Q) X.xe s
def MtR (X:Cx)(id:String)(r:V->List V->Hp->VK->Prop):Prop :=
 ∀(pins:List (Addr×Obj)) (s:Shared) (σ:St) (H:Hp) (x:V) (xs:List V) (v:Value) (us:List Value) (Q:VK),Inv X pins σ H s->RelV x v->Vals xs us->r x xs H Q ->
   wpAny (model X.prog X.w) X.A (call (.builtin id) (v::us)) (EP X pins σ Q) X.xe s
section
variable {X:Cx} {a b:Expr} {ta tb:TE} {pos:Pos}
theorem IxR.or {r r':R2}(h:IxR X r)(h':IxR X r'):IxR X (fun x y H Q=>r x y H Q∨r' x y H Q):=by
 intro value slice pins s σ H x y v u Q I rx ry q hs
 rcases q with q | q
 · exact h value slice pins s σ H x y v u Q I rx ry q hs
 · exact h' value slice pins s σ H x y v u Q I rx ry q hs
theorem zVA {r:R2}(hr:IxR X r)(ha:PE X a ta)(hb:PE X b tb)(hs:fM b):PE X (.Subscript a b pos) (tOp r ta tb):=by
 intro pins s σ H Q I h
 exact Subscript_ (zUb ha hb I h fun v u s2 x y H2 I2 rx ry q=>hr a b pins s2 σ H2 x y v u Q I2 rx ry q (hs _ _))
def zTP (K:PySem.W.Frag):R2:=fun x y H Q=>∃p xs i v,x = .ref p/\y = .int i/\SqL K H p xs/\atI xs i=some v/\Q v H
def zT9 (K:PySem.W.Frag):R2:=fun x y H Q=>∃p xs i v,x = .ref p/\y = .int i/\SqT K H p xs/\atI xs i=some v/\Q v H
def zTk:R2:=fun x y H Q=>∃z i c,x = .str z/\y = .int i/\z.length<=sizeLine/\atI z.cps.toList i=some c/\Q (.str ⟨#[c]⟩) H
theorem zVM:IxR X (zTP X.K):=by
 intro value slice pins s σ H x y v u Q I rx ry h hs
 obtain⟨p,xs,i,z,rfl,rfl,hq,he,q⟩:=h
 cases rx
 obtain⟨t,rfl⟩:=ry
 obtain⟨its,r,pl,hz⟩:=I.list hq
 obtain⟨j,h1,h2,h3,h4,h5⟩:=iC he
 obtain⟨w,ew,rw'⟩:=r.get h2
 have hl:=r.length
 have hn:=nZ
 have fin:EP X pins σ Q w s:=⟨z,H,I,rw',q⟩
 by_cases h0:0<=i
 · have hj:i.toNat=j:=by
     rw[seqIndex_of h0 h5] at h1
     exact Qv h1
   exact item_listR pl.isList h0 (by omega) (by rw[hj];simpa using ew) fin hs
 · have hj:(i+(its.toArray.size:Int)).toNat=j:=by
     rw[seqIndex_neg (by omega) h4] at h1
     rw[Qy,←hl]
     exact Qv h1
   exact subscriptTail_builtinR (x:=w) pl.isList.typeIs slot_list_getitem.lookup
     (wpAny_getItem_list_neg (Q:=fun r s'=>r=w/\EP X pins σ Q r s') pl.isList (by omega) (by rw[Qy]<;>omega) (by omega) (by rw[hj];simpa using ew) ⟨rfl,fin⟩) hs
theorem zUv:IxR X (zT9 X.K):=by
 intro value slice pins s σ H x y v u Q I rx ry h hs
 obtain⟨p,xs,i,z,rfl,rfl,hq,he,q⟩:=h
 cases rx
 obtain⟨t,rfl⟩:=ry
 obtain⟨its,r,pl,hz⟩:=I.tuple hq
 obtain⟨j,h1,h2,h3,h4,h5⟩:=iC he
 obtain⟨w,ew,rw'⟩:=r.get h2
 have hl:=r.length
 have hn:=nZ
 have fin:EP X pins σ Q w s:=⟨z,H,I,rw',q⟩
 exact subscriptTail_builtinR (x:=w) pl.typeIs slot_tuple_getitem.lookup
   (getItem_tuple (j:=j) (Q:=fun r s'=>r=w/\EP X pins σ Q r s') pl (by omega) (by omega) (by rw[Qy,←hl];exact h1) (by simpa using ew) ⟨rfl,fin⟩) hs
theorem zUJ:IxR X zTk:=by
 intro value slice pins s σ H x y v u Q I rx ry h hs
 obtain⟨z,i,c,rfl,rfl,hz,he,q⟩:=h
 obtain⟨t,rfl⟩:=rx
 obtain⟨t',rfl⟩:=ry
 obtain⟨j,h1,h2,h3,h4,h5⟩:=iC he
 have hl:z.cps.toList.length=z.length:=by simp[Str.length]
 rw[hl] at h1 h4 h5
 have hn:=nZ
 exact tail_any (typeIs_str s z t) slot_str_getitem.lookup (getItem_str (c:=c) (by
   have e1:decide (i < -(2^63:Int))=false:=Wh (by omega)
   have e2:decide (i≥2^63)=false:=Wh (by omega)
   rw[e1,e2,Bool.or_false]) (by rw[h1];simpa using h2) ⟨.str ⟨#[c]⟩,H,I.tok _,⟨_,rfl⟩,q⟩) hs
def rIx (K:PySem.W.Frag):R2:=fun x y H Q=>zTP K x y H Q∨zT9 K x y H Q∨zTk x y H Q
theorem zUC:IxR X (rIx X.K):=zVM.or (zUv.or zUJ)
theorem gF (lo hi:Option Int)(n:Nat):(sliceBounds lo hi none n).1=((HT.sIx n 0 lo:Nat):Int)/\(sliceBounds lo hi none n).2.1=((HT.sIx n n hi:Nat):Int)/\(sliceBounds lo hi none n).2.2=1:=by
 refine⟨?_,?_,rfl⟩
 · cases lo with
   | none=>simp[sliceBounds,HT.sIx]
   | some i =>
     simp only[sliceBounds,HT.sIx,Option.getD_none,show(1:Int) > 0 by decide,Yy]
     by_cases h:i < 0
     · simp only[h,Yy]<;>omega
     · simp only[h,Eb]<;>omega
 · cases hi with
   | none=>simp[sliceBounds,HT.sIx]
   | some i =>
     simp only[sliceBounds,HT.sIx,Option.getD_none,show(1:Int) > 0 by decide,Yy]
     by_cases h:i < 0
     · simp only[h,Yy]<;>omega
     · simp only[h,Eb]<;>omega
theorem jS (its:List Value)(lo hi:Option Int):slicePick its.toArray lo hi none=((its.drop (HT.sIx its.length 0 lo)).take (HT.sIx its.length its.length hi - HT.sIx its.length 0 lo)).toArray:=by
 obtain⟨h1,h2,h3⟩:=gF lo hi its.toArray.size
 unfold slicePick
 rw[h1,h2,h3]
 simp only[sliceRange_one,pick_run,Qy]<;>rfl
def zTf (K:PySem.W.Frag):V->Option Int->Option Int->Hp->VK->Prop:=fun x lo hi H Q=>∃a xs,x = .ref a/\SqL K H a xs/\∀p,H p=none->Q (.ref p) (upd H p (.lst (zZt xs lo hi)))
theorem zWE:SlR X (zTf X.K):=by
 intro pins s σ H x v vl vu lo hi sl Q I rx hs pl pu h
 obtain⟨a,xs,rfl,hx,q⟩:=h
 cases rx
 obtain⟨its,r,ht,hz⟩:=I.list hx
 have hlen:=r.length
 refine⟨"list",_,slot_list_getitem.lookup,ht.isList.typeIs,?_⟩
 refine wpAny_getItem_list_slice ht.isList hs pl pu .none (by simp) ?_ (by rw[Qy]<;>omega)
 rw[jS,←hlen]
 refine⟨.ref s.heap.objs.size,_,I.laid (t':=s.toks) (o:=.lst (zZt xs lo hi)) (fun b ob q=>Qr _ q) (Qz _) ?_,rfl,q _ (I.hok.fresh (Qz _))⟩
 exact⟨We (cE xs lo hi) hz,_,0,(r.drop (HT.sIx xs.length 0 lo)).take (HT.sIx xs.length xs.length hi - HT.sIx xs.length 0 lo),Qd _ rfl⟩
theorem fX:CallR X (.builtin "len") (fun xs H Q=>∃p ys,xs=[.ref p]/\(SqL X.K H p ys∨SqT X.K H p ys)/\Q (.int ys.length) H):=by
 intro pins s σ H xs us Q I r h
 obtain⟨p,ys,rfl,hq,q⟩:=h
 obtain⟨u,rfl,rx⟩:=jC r
 cases rx
 have hn:=nZ
 rcases hq with hq | hq
 · obtain⟨its,r',pl,hz⟩:=I.list hq
   have hlen:=r'.length
   exact Calls.call_len_list pl.isList (by simp only[Qy]<;>omega) ⟨.int ys.length,H,I.tok _,⟨s.toks+1,by rw[Qy,hlen]⟩,q⟩
 · obtain⟨its,r',pl,hz⟩:=I.tuple hq
   have hlen:=r'.length
   exact len_tuple pl (by simp only[Qy]<;>omega) ⟨.int ys.length,H,I.tok _,⟨s.toks+1,by rw[Qy,hlen]⟩,q⟩
theorem fR:CallR X (.builtin "len") (fun xs H Q=>∃z,xs=[.str z]/\z.length<=sizeLine/\Q (.int z.length) H):=by
 intro pins s σ H xs us Q I r h
 obtain⟨z,rfl,hz,q⟩:=h
 obtain⟨u,rfl,t,rfl⟩:=jC r
 have hn:=nZ
 exact len_str (by omega) ⟨.int z.length,H,I.tok _,⟨_,rfl⟩,q⟩
theorem CallR.or {f:Value}{r r':List V->Hp->VK->Prop}(h:CallR X f r)(h':CallR X f r'):CallR X f (fun xs H Q=>r xs H Q∨r' xs H Q):=by
 intro pins s σ H xs us Q I rs q
 rcases q with q | q
 · exact h pins s σ H xs us Q I rs q
 · exact h' pins s σ H xs us Q I rs q
theorem gP:CallR X (.type "list") (fun xs H Q=>∃p ys,xs=[.ref p]/\(SqL X.K H p ys∨SqT X.K H p ys)/\∀l,H l=none->Q (.ref l) (upd H l (.lst ys))):=by
 intro pins s σ H xs us Q I r h
 obtain⟨p,ys,rfl,hq,q⟩:=h
 obtain⟨u,rfl,rx⟩:=jC r
 cases rx
 have fin:∀(its:List Value),Vals ys its->ys.length<=sizeLine->∀(h':Heap) (c':Nat),(∀b o',s.heap.get? b=some o'->h'.get? b=some o') ->
     h'.get? s.heap.objs.size=some { cls:=.type "list",dict:=none,data:=.seq its.toArray c',slots:=#[] }->EP X pins σ Q (.ref s.heap.objs.size) { s with heap:=h' }:=fun its r' hz h' c' kp e =>
   ⟨.ref s.heap.objs.size,_,I.laid (t':=s.toks) kp (Qz _) (show ObjOk X.prog X.w _ h' _ (.lst ys) from⟨hz,its,c',r',e⟩),rfl,q _ (I.hok.fresh (Qz _))⟩
 rcases hq with hq | hq
 · obtain⟨its,r',pl,hz⟩:=I.list hq
   have hlen:=r'.length
   obtain⟨o,ho,hc,n,hd⟩:=pl.isList
   exact call_list_seq p (.inl rfl) ho hc hd (fun h' c' kp e=>fin its r' hz h' c' kp e) (by simp only[Qy]<;>omega)
 · obtain⟨its,r',pl,hz⟩:=I.tuple hq
   have hlen:=r'.length
   obtain⟨o,ho,hc,n,hd⟩:=pl
   exact call_list_seq p (.inr rfl) ho hc hd (fun h' c' kp e=>fin its r' hz h' c' kp e) (by simp only[Qy]<;>omega)
def tyV (K:PySem.W.Frag)(T:String)(x:V)(H:Hp):Prop:=match x with
 | .str _=>T="str"
 | .int _=>T="int"
 | .ref p=>(T="list"/\∃xs,SqL K H p xs)∨(T="tuple"/\∃o,K.lookup p=some o/\o.cls = .type "tuple"/\o.dict=none) ∨
     (T="dict"/\((∃kvs,H p=some (.dK kvs))∨∃kvs,H p=some (.dT kvs)))∨(T="set"/\∃S n,H p=some (.set S n))
 | _=>False
theorem zUx {pins:List (Addr×Obj)}{σ:St}{H:Hp}{s:Shared}{T:String}{x:V}{v:Value}(I:Inv X pins σ H s)(r:RelV x v)(ty:tyV X.K T x H) :
   s.TypeIs v T/\∀a,v = .ref a->∃ob,s.heap.get? a=some ob/\ob.dict=none:=by
 cases x with
 | str z =>
   obtain⟨t,rfl⟩:=r
   cases (show T="str" from ty)
   exact⟨typeIs_str s z t,fun _ e=>nomatch e⟩
 | int i =>
   obtain⟨t,rfl⟩:=r
   cases (show T="int" from ty)
   exact⟨typeIs_int s i t,fun _ e=>nomatch e⟩
 | ref p =>
   cases r
   rcases ty with⟨rfl,xs,hq⟩ | ⟨rfl,o,hk,hc,hd⟩ | ⟨rfl,hk⟩ | ⟨rfl,S,n,hk⟩
   · obtain⟨its,_,pl,_⟩:=I.list hq
     refine⟨pl.isList.typeIs,fun a e=>?_⟩
     cases e
     obtain⟨o,n,e,c,hd,_⟩:=pl
     exact⟨o,e,hd⟩
   · refine⟨⟨o,I.kIn p o hk,hc⟩,fun a e=>?_⟩
     cases e
     exact⟨o,I.kIn _ o hk,hd⟩
   · have z:∃o,s.heap.get? p=some o/\o.ExactDict:=by
       rcases hk with⟨kvs,hk⟩ | ⟨kvs,hk⟩
       · obtain⟨_,_,_,_,o,_,_,e,ex,_⟩:=I.hok p _ hk
         exact⟨o,e,ex⟩
       · obtain⟨_,_,_,_,o,_,_,e,ex,_⟩:=I.hok p _ hk
         exact⟨o,e,ex⟩
     obtain⟨o,e,ex⟩:=z
     refine⟨⟨o,e,ex.1⟩,fun a e2=>?_⟩
     cases e2
     exact⟨o,e,ex.2.1⟩
   · obtain⟨o,_,_,_,e,ex,_⟩:=I.hok p _ hk
     refine⟨⟨o,e,ex.1⟩,fun a e2=>?_⟩
     cases e2
     exact⟨o,e,ex.2.1⟩
 | _=>exact False.elim ty
def tBM (K:PySem.W.Frag)(T:String)(r:V->List V->Hp->VK->Prop)(to:TE)(t:TA):TE:=fun σ H Q=>to σ H fun x H1=>tyV K T x H1/\t σ H1 fun xs H2=>r x xs H2 Q
variable {o e:Expr} {es:List Expr} {to:TE} {t:TA} {name:Str} {apos cpos:Pos} {T id:String} {r:V->List V->Hp->VK->Prop}
theorem zTm (pa:PlainAttrs T)(slot:Slot T name id)(hty:typeOf (.builtin id)=pure (.type "method_descriptor"))(hm:MtR X id r)(ho:PE X o to)(ha:PA X (e::es) t)
   (hbase:attributeBase o name X.env (eval o X.env)=eval o X.env:=by rfl)
   (hfew:((backTo cpos (starEach (e::es) X.env)).all (fun x => !x.1)&&(backToKw cpos (keywordEach [] X.env)).all (fun x=>x.1.isSome)
     && decide ((e::es).length+([]:List Keyword).length+(if ([]:List Keyword).isEmpty then 0 else 1) < 30))=true:=by rfl)
   (hline:(apos.endLine==cpos.line)=true:=by rfl) (hs:starEach (e::es) X.env=(false,eval e X.env)::starEach es X.env:=by rfl) (hplain:(backTo cpos (starEach es X.env)).any (·.1)=false:=by rfl) :
   PE X (.Call (.Attribute o name apos) (e::es) [] cpos) (tBM X.K T r to t):=by
 intro pins s σ H Q I h
 refine wpAny_Call_method_late hbase hfew hline rfl (thn (ho pins s σ H _ I h) fun v s1 ⟨x,H1,I1,r1,ty,q1⟩=>?_)
 obtain⟨h1,h2⟩:=zUx I1 r1 ty
 refine⟨T,id,pa,slot,hty,h1,h2,?_⟩
 have hA:=ha cpos pins s1 σ H1 _ I1 q1
 rw[hs] at hA ⊢
 refine Calls.callWith_builtin (by show(false||(backTo cpos (starEach es X.env)).any (·.1))=false;rw[hplain]<;>rfl) (Calls.evalArgs_plain ?_)
 exact thn hA fun us s2 ⟨vs,H2,I2,r2,q2⟩=>hm pins s2 σ H2 x vs v us Q I2 r1 r2 q2
end
def MtM (X:Cx)(id:String)(r:V->List V->Hp->VK->Prop):Prop :=
 ∀(pins:List (Addr×Obj)) (s:Shared) (σ:St) (H:Hp) (x:V) (xs:List V) (v:Value) (us:List Value) (Q:VK),Inv X pins σ H s->RelV x v->Vals xs us->r x xs H Q ->
   wpAny (model X.prog X.w) X.A (call (.builtin id) (v::us)) (EP X pins σ Q) X.xe s
theorem Vals.one:∀ {x:V} {us:List Value},Vals [x] us->∃u,us=[u]/\RelV x u
 | _,_,.cons r .nil=>⟨_,rfl,r⟩
section
variable {X:Cx} {pins:List (Addr×Obj)} {σ:St} {H:Hp} {s:Shared} {l:Addr} {xs ys:List V}
theorem Inv.lset {its its':List Value}{n:Nat}{f:Array Value->Array Value}{t':Nat}(I:Inv X pins σ H s)(hH:H l=some (.lst xs))
   (e:s.heap.get? l=some { cls:=.type "list",data:=.seq its.toArray n }) (hf:f its.toArray=its'.toArray) (hv:Vals ys its') (hz:ys.length<=sizeLine) :
   Inv X pins σ (upd H l (.lst ys)) { s with heap:=s.heap.update l (Obj.mapSeq f),toks:=t' }:=by
 have q:=PySem.IsL.update e f
 rw[hf] at q
 refine I.write (x:=l) (e:=l) (by rw[hH];exact trivial) (.inl rfl) (fun b' u hb hu=>(Ew s.heap (Obj.mapSeq f) (Ne.symm hb)).trans hu) ⟨_,q⟩ ?_
 exact⟨hz,its',_,hv,q⟩
theorem Inv.lnew {its:List Value}{t':Nat}(I:Inv X pins σ H s)(hv:Vals ys its)(hz:ys.length<=sizeLine) :
   Inv X pins σ (upd H s.heap.objs.size (.lst ys)) { s with heap:=s.heap.push { cls:=.type "list",data:=.seq its.toArray },toks:=t' } :=
 I.laid (fun _ _ q=>Qr _ q) (Qz _) ⟨hz,its,0,hv,Qd _ rfl⟩
theorem Inv.fresh (I:Inv X pins σ H s):H s.heap.objs.size=none:=I.hok.fresh (Qz _)
theorem Inv.lstM (I:Inv X pins σ H s)(hH:H l=some (.lst xs)):xs.length<=sizeLine/\∃(its:List Value) (n:Nat),Vals xs its/\xs.length=its.length/\s.heap.get? l=some { cls:=.type "list",data:=.seq its.toArray n }:=by
 obtain⟨z,its,n,r,e⟩:=I.hok l _ hH
 exact⟨z,its,n,r,r.length,e⟩
def zVW:V->List V->Hp->VK->Prop:=fun x vs H Q=>∃l xs y,x = .ref l/\vs=[y]/\H l=some (.lst xs)/\xs.length < sizeLine/\Q .non (upd H l (.lst (xs++[y])))
theorem zZa:MtM X "list.append" zVW:=by
 intro pins s σ H x vs v us Q I rx rv h
 obtain⟨l,xs,y,rfl,rfl,hH,hz,q⟩:=h
 cases rx
 obtain⟨u,rfl,ru⟩:=rv.one
 obtain⟨z,its,n,r,hl,e⟩:=I.lstM hH
 refine call_meets F.slot_list_append ⟨_,e,rfl⟩ F.entry_list_append (F.args_list_append_2 _ _) (PySem.list_append l its.toArray n u (by rw[Qy];omega)) ⟨e,?_⟩
 refine⟨.non,_,I.lset (its':=its++[u]) hH e (by simp) (r.append (.cons ru .nil)) ?_,rfl,q⟩
 rw[Ql,List.length_singleton]
 omega
end
end L2
namespace Att
open PySem PySem.W PySem.Calls PyProof.Rows
theorem mM {P:Params}{h:Heap}:∀(ns:List Int) (vs:List Value),WellAll P h vs (ns.map WData.int)->IntsAre vs ns:=by
 intro ns
 induction ns with
 | nil =>
   intro vs w
   rw[List.map_nil] at w
   cases w
   exact .nil
 | cons n ns ih =>
   intro vs w
   rw[Qp] at w
   cases w with
   | cons a b =>
     cases a
     exact .cons _ _ (ih _ b)
theorem zZf {l:OpenLaw}{n:Nat}(hn:l.most=some n){P:Params}{h:Heap}{args:List WData}{vals:List Value}
   (hpre:l.row.toRowW.claim.pre args=true) (hwl:WellAll P h vals args) :
   ∃a vs ns,vals=[Value.ref a]/\args=[WData.list (ns.map WData.int)]/\h.get? a=some { cls:=.type "list",data:=.seq vs.toArray }/\IntsAre vs ns/\ns.length<=n:=by
 have hsh:WShape.hasAll [] args [.list .int]=true:=(pre_splitW hpre).1
 have hc:l.pre.holds [] { args:=args }=true:=(pre_splitW hpre).2
 obtain⟨d,r,rfl,h1,h2⟩:=hasAllW_cons hsh
 obtain rfl:=hasAllW_nil h2
 obtain⟨xs,rfl,h3⟩:=hasW_list h1
 obtain⟨ns,rfl⟩:=items_int h3
 have hlen:ns.length<=n:=by
   unfold OpenLaw.pre at hc
   have h4:(WTm.not (.lt (.lit (.int (n:Int))) (.len (.arg 0)))).holds [] { args:=[.list (ns.map .int)] }=true:=by
     have h4:=(holds_andW hc).1
     rw[hn] at h4
     exact h4
   have h5:=condW_of h4 (w_not (w_lt w_lit (w_len_list (w_arg rfl))))
   rw[Qa] at h5
   refine Nat.le_of_not_lt fun q=>?_
   have q':(n:Int) < ((ns.length:Nat):Int):=by omega
   first
     | (rw[Qc q'] at h5;exact absurd h5 (by decide))
     | (simp at h5;omega)
 cases hwl with
 | cons w1 w2 =>
   cases w2
   cases w1 with
   | list ho hall=>exact⟨_,_,ns,rfl,rfl,ho,mM ns _ hall,hlen⟩
theorem zZu (l:OpenLaw)(args:List WData):l.row.toRowW.claim.post args (.bool true) args=true :=
 postW_of (r:=l.row.toRowW) (X:=(true==true))
   (show WShape.has [] (.bool true) .bool=true by first | rfl | decide | simp[WShape.has,WShape.arms,WShape.armsAll])
   (show(WTm.eq .res (.lit (.bool true))).value [] { args:=args,res:=some (.bool true),after:=args }=some (.bool (true==true)) from w_eq_bool (w_res rfl) w_lit) rfl
theorem attach_call {l:OpenLaw}{n:Nat}{q:Program}{loose:List Str}{XP:(Str->Option Value)->Heap->Prop}{YP:World->Heap->Prop}{d:DefRec}
   (hn:l.most=some n) (hdf:d.params.defaults=[])
   (call:∀(w:World) (s₀ s₁:Shared) (mg mb:Str->Option Value) (fa:Addr) (o:Obj) (pm cd doc:Value) (a:Addr) (vs:List Value) (ns:List Int),
     Ground q loose [] XP w s₀ mg mb s₁.heap->YP w s₁.heap ->
     s₁.heap.get? fa=some o->o.data = .func (docDef d.name d.params d.body d.scope pm cd doc)->s₁.heap.CodeRec cd d.name->mg d.name=some (.ref fa) ->
     s₁.heap.get? a=some { cls:=.type "list",data:=.seq vs.toArray }->IntsAre vs ns->ns.length<=n->s₁.gens=#[] ->
     codeAny (model l.prog w) callerA (.call (.ref fa) ⟨[.ref a],[]⟩) (fun r s'=>r = .ok (.ret (.bool true))/\OldK s₁.heap s'.heap/\s'.os=s₁.os/\AllBare s'.gens) s₁) :
   WalkO q loose XP YP l.row.toRowW d [] (fun f vs=>PySem.call f vs):=by
 intro w s₀ s₁ mg mb G Y fa o pm cd doc dV kV ho hd hcd hD hmg hg args vals as hpre hlay hrd hwl hlo
 obtain rfl:dV = .none:=Dflts.none hD hdf
 obtain rfl:kV = .none:=Dflts.noKw hD
 obtain⟨a,vs,ns,rfl,rfl,hobj,hints,hlen⟩:=zZf hn hpre hwl
 refine enter_call (Rl (call w s₀ s₁ mg mb fa o pm cd doc a vs ns G Y ho (fd_plain hd) hcd hmg hobj hints hlen hg) fun r s' hq=>?_)
 obtain⟨rfl,h2,h3,h4⟩:=hq
 exact⟨.inl ⟨.bool true,.bool true,[],rfl,fun _=>rfl,.bool true,zZu l _,fun _=>⟨List.Pairwise.nil,fun _ hm=>(nomatch hm)⟩⟩,h2,h3,h4⟩
end Att
namespace L2
open PySem PySem.Spec PyProof.Rows
theorem iG:∀ {vs:List Value} {ns:List Int},IntsAre vs ns->Vals (ns.map V.int) vs
 | _,_,.nil=>.nil
 | _,_,.cons n t h=>.cons ⟨t,rfl⟩ (iG h)
def zVd (H:Hp):Prop:=∀b,H b=none∨∃o xs,H b=some (.frz o (.lst xs))
theorem zXK {P:Program}{w:World}{K:PySem.W.Frag}{mg mb:Str->Option Value}{CX:CXT}{k:Nat}{fa a:Addr}{fd:FuncData}{x:Str}{sp:Sp}{s₁:Shared}{vs:List Value}{ns:List Int}
   (KX:K.In s₁.heap) (hns:s₁.heap.Ns mainGlobals mg) (hb:s₁.heap.Ns builtinsNs mb) (hbb:∀x:Str,x≠"__name__"->mb x=bootBuiltins x) (hlim:s₁.heap.NoLimit) (hg:s₁.gens=#[])
   (ha:s₁.heap.get? a=some { cls:=.type "list",data:=.seq vs.toArray }) (hi:IntsAre vs ns) (hl:ns.length<=sizeLine) (hr:Room k callerA)
   (F:∀base:Heap,K.In base->base.Ns mainGlobals mg->FnOk P w K mg base CX k fa fd [x] sp) (hbind:∀(s:Shared) (u:Value),BindsTo s fd ⟨[u],[]⟩ [(x,u)])
   (hsp:∀H:Hp,zVd H->SqL K H a (ns.map V.int)->sp [.ref a] H (fun v _=>v = .bl true) fun _ _ _=>False)
   (hCX:∀H e s',CX [] H s₁ (fun _ _ _=>False) e s'->False) :
   codeAny (model P w) callerA (.call (.ref fa) ⟨[.ref a],[]⟩) (fun r s'=>r = .ok (.ret (.bool true))/\OldK s₁.heap s'.heap/\s'.os=s₁.os/\AllBare s'.gens) s₁:=by
 have rv:=iG hi
 have lenV:=hi.length
 -- from an abstract heap in which nothing but the script may be tracked
 have core:∀H:Hp,zVd H->SqL K H a (ns.map V.int)->HOk P w H s₁.heap->(∀b,H b≠none->b=a)->(H a≠none->K.lookup a=none) ->
     codeAny (model P w) callerA (.call (.ref fa) ⟨[.ref a],[]⟩) (fun r s'=>r = .ok (.ret (.bool true))/\OldK s₁.heap s'.heap/\s'.os=s₁.os/\AllBare s'.gens) s₁:=by
   intro H hO hS hok hA hK
   have base_of:∀ {b:Addr} {o:Obj},s₁.heap.get? b=some o->H b=none->(gA s₁.heap H).get? b=some o:=fun e n=>zY3 e n
   have noA:∀ {b:Addr} {o:Obj} {es:Array DictEntry} {ep:Nat},s₁.heap.get? b=some o->o.data = .dict es ep->H b=none:=fun {b o es ep} e d=>by
     cases q:H b with
     | none=>rfl
     | some u =>
       have e':b=a:=hA b (by rw[q];simp)
       subst e'
       rw[ha] at e;cases e
       have d':Data.seq vs.toArray _=Data.dict es ep:=d
       cases d'
   have nsK:∀ {b:Addr} {m:Str->Option Value},s₁.heap.Ns b m->(gA s₁.heap H).Ns b m:=fun {b m} ⟨o,es,ep,e,d,r⟩=>⟨o,es,ep,base_of e (noA e d),d,r⟩
   have hKb:K.In (gA s₁.heap H):=fun b o e=>base_of (KX b o e) (by
     cases q:H b with
     | none=>rfl
     | some u =>
       have e':b=a:=hA b (by rw[q];simp)
       subst e'
       rw[hK (by rw[q];simp)] at e;cases e)
   have hM:Mod K mg (gA s₁.heap H):=⟨hKb,nsK hns,⟨mb,nsK hb,hbb⟩,let ⟨mc,h1,h2⟩:=hlim;⟨mc,nsK h1,h2⟩⟩
   have e0:Env0 P w K mg (gA s₁.heap H) callerA [] s₁ H:=⟨rfl,hM,fun b o e=>zVG e,Ya (zZn _ _),trivial,fun b hb=>absurd (show b∈([]:List Addr) from hb) (by simp),hok,.of_eq hg⟩
   refine Rl ((F _ hKb (nsK hns)).run callerA [] s₁ H ⟨[.ref a],[]⟩ [.ref a] [.ref a] _ _ hr e0 (hbind s₁ (.ref a)) (.cons rfl .nil) (hsp H hO hS)) fun r s' h=>?_
   cases r with
   | error e=>exact(hCX H e s' h).elim
   | ok fl =>
     cases fl with
     | next=>exact False.elim h
     | brk=>exact False.elim h
     | cont=>exact False.elim h
     | ret u =>
       obtain⟨v,H',os,bare,un,hok',r',q⟩:=h
       have q':v = .bl true:=q
       subst q'
       obtain rfl:u=Value.bool true:=r'
       refine⟨rfl,OldK.of_keep fun b o e=>?_,os,bare⟩
       cases q:H b with
       | none=>exact un.keep b o e q (by intro z;exact absurd (show b∈([]:List Addr) from z) (by simp)) (by simp)
       | some u =>
         rcases hO b with z | ⟨ob,xs,z⟩
         · rw[q] at z;cases z
         · have z2:=un.frzs b ob _ z
           obtain⟨e1,_⟩:=hok b _ z
           obtain⟨e2,_⟩:=hok' b _ z2
           rw[e] at e1;cases e1
           exact e2
 cases hk:K.lookup a with
 | some o =>
   -- the script is one of the module's own objects
   have e:=KX a o hk
   rw[ha] at e
   cases e
   refine core (fun _=>none) (fun _=>.inl rfl) (.inr ⟨_,vs.toArray,_,hk,rfl,rfl,rfl,by rw[Qy,lenV];exact hl,by simpa using rv⟩) (fun b u z=>by have z':(none:Option HO)=some u:=z;cases z') (fun b z=>absurd rfl z) fun z=>absurd rfl z
 | none =>
   refine core (fun b=>if b=a then some (.frz { cls:=.type "list",data:=.seq vs.toArray } (.lst (ns.map V.int))) else none) (fun b=>?_) (.inl (.inr ⟨{ cls:=.type "list",data:=.seq vs.toArray },Qo rfl⟩)) (fun b u z=>?_) (fun b z=>?_) fun _=>hk
   · by_cases hb:b=a
     · exact .inr ⟨_,_,Qo hb⟩
     · exact .inl (Qg hb)
   · by_cases hb:b=a
     · have z':=(Qo hb).symm.trans z
       cases z'
       subst hb
       exact⟨ha,by rw[Qa];exact hl,vs,_,rv,ha⟩
     · have z':=(Qg hb).symm.trans z
       cases z'
   · by_cases hb:b=a
     · exact hb
     · exact absurd (Qg hb) z
theorem zVE {l:PySem.W.OpenLaw}{n k:Nat}{q:Program}{loose:List Str}{XP:(Str->Option Value)->Heap->Prop}{YP:World->Heap->Prop}{d:DefRec}{K:Params->PySem.W.Frag}{CX:World->CXT}{sp:World->Sp}{x:Str}
   (hn:l.most=some n) (hn2:n<=sizeLine) (hdf:d.params.defaults=[]) (hr:Room k callerA)
   (hY:∀(w:World) (h:Heap),YP w h->(K w.params).In h)
   (F:∀(w:World) (mg:Str->Option Value) (fa:Addr) (h:Heap),(K w.params).In h->h.Ns mainGlobals mg->mg d.name=some (.ref fa) ->
     ∃fd:FuncData,(∀(s:Shared) (u:Value),BindsTo s fd ⟨[u],[]⟩ [(x,u)]) /\
       ∀base:Heap,(K w.params).In base->base.Ns mainGlobals mg->FnOk l.prog w (K w.params) mg base (CX w) k fa fd [x] (sp w))
   (hsp:∀(w:World) (H:Hp) (a:Addr) (ns:List Int),ns.length<=n->zVd H->SqL (K w.params) H a (ns.map V.int)->sp w [.ref a] H (fun v _=>v = .bl true) fun _ _ _=>False)
   (hCX:∀(w:World) (H:Hp) (s:Shared) (e:Value) (s':Shared),CX w [] H s (fun _ _ _=>False) e s'->False) :
   PySem.W.WalkO q loose XP YP l.row.toRowW d [] (fun f vs=>PySem.call f vs):=by
 refine Att.attach_call hn hdf fun w s₀ s₁ mg mb fa o pm cd doc a vs ns G Y ho hd hcd hmg hobj hints hlen hg=>?_
 have KX:=hY w _ Y
 obtain⟨fd,hb,hF⟩:=F w mg fa _ KX G.T.g hmg
 exact zXK KX G.T.g G.T.b G.T.builtins G.T.nolimit hg hobj hints (We hlen hn2) hr hF hb (fun H hO hS=>hsp w H a ns hlen hO hS) fun H e s'=>hCX w H s₁ e s'
abbrev CX0:CXT:=fun _ _ _ _ _ _=>False
abbrev E0:XK:=fun _ _ _=>False
theorem cC {X:Cx}:pX CX0 X E0:=fun _ _ _ _ _ _ _ h=>h.elim
structure Fun (K:PySem.W.Frag)(x qual:Str)(st:Stmt)(f:Addr)(fd:FuncData):Prop where
 ex:∃(oc:Value) (od:Option Addr) (kV doc pm:Value) (an:Option Addr) (cdv ct:Value) (osl:Array (Option Value)),
   fd=PySem.W.fnOf x qual (zK st) (zQ st) (zX st) .none kV doc pm an cdv ct/\K.lookup f=some ⟨oc,od,.func fd,osl⟩/\PySem.W.codeIn K cdv qual=true
 kp:PySem.W.keepIn K (.ref f)=true
section
variable {P:Program} {w:World} {K:PySem.W.Frag} {mg:Str->Option Value} {base:Heap}
theorem Fun.ok {x qual:Str}{st:Stmt}{f:Addr}{fd:FuncData}{N ps:List Str}{k:Nat}{sp:Sp}(F:Fun K x qual st f fd)(S:FnScope N ps (zX st))(len:∀vs H Q E,sp vs H Q E->vs.length=ps.length)
   (hbody:∀(cdv:Value) (A:Around) (outer:List Env) (s:Shared) (H:Hp) (vs:List V) (Q:VK) (E:XK),Room k (A.deeper (envOfC qual (zX st) s.heap.objs.size f cdv))->sp vs H Q E ->
     ∃t,PSs (sU CX0 P w K mg base N qual (zX st) f cdv A outer s H E).nox (zQ st) t/\t { nx:=fun _ H'=>Q .non H',rt:=Q } (vT N vs) H):FnOk P w K mg base CX0 (k+1) f fd ps sp:=by
 obtain⟨oc,od,kV,doc,pm,an,cdv,ct,osl,rfl,lk,hcd⟩:=F.ex
 refine zV8 lk hcd S len fun A outer s H vs Q E hr hsp=>?_
 obtain⟨t,h,q⟩:=hbody cdv A outer s H vs Q E hr hsp
 exact⟨t,h.nox,q⟩
theorem Fun.binds {x qual:Str}{st:Stmt}{f:Addr}{fd:FuncData}{ps:List Str}(F:Fun K x qual st f fd)
   (h:∀(kV doc pm:Value) (an:Option Addr) (cdv ct:Value) (us:List Value),us.length=ps.length->bindArgs (PySem.W.fnOf x qual (zK st) (zQ st) (zX st) .none kV doc pm an cdv ct) ⟨us,[]⟩=pure (ps.zip us)):Binds K fd ps []:=by
 obtain⟨oc,od,kV,doc,pm,an,cdv,ct,osl,rfl,lk,hcd⟩:=F.ex
 exact .all (h kV doc pm an cdv ct)
theorem rE {x qual:Str}{st:Stmt}{f:Addr}{oc:Value}{od an:Option Addr}{osl:Array (Option Value)}{kV doc pm cdv ct:Value}(l:K.lookup f=some ⟨oc,od,.func (PySem.W.fnOf x qual (zK st) (zQ st) (zX st) .none kV doc pm an cdv ct),osl⟩)
   (c:PySem.W.codeIn K cdv qual=true) (k:PySem.W.keepIn K (.ref f)=true):Fun K x qual st f (PySem.W.fnOf x qual (zK st) (zQ st) (zX st) .none kV doc pm an cdv ct):=⟨⟨oc,od,kV,doc,pm,an,cdv,ct,osl,rfl,l,c⟩,k⟩
variable {X:Cx}
theorem pv (i:Nat){x:Str}{pos:Pos}(hN:X.N[i]?=some x:=by rfl)(hv:Vis X.env.scope x:=by first | exact Or.inl rfl | exact Or.inr (Or.inl rfl) | exact Or.inr (Or.inr rfl))(hd:(x==("__debug__":Str))=false:=by decide)
   (hcd:(x==("__classdict__":Str))=false:=by decide):PE X (.Name x pos) (zUt i):=pU hN hv hd hcd
end
def Same (H H':Hp):Prop:=∀b o,H b=some o->H' b=some o
theorem Same.refl (H:Hp):Same H H:=fun _ _ h=>h
theorem Same.trans {H H1 H2:Hp}(a:Same H H1)(b:Same H1 H2):Same H H2:=fun c o h=>b c o (a c o h)
theorem Same.free {H H':Hp}(e:Same H H'){l:Addr}(h:H' l=Option.none):H l=Option.none:=by
 cases q:H l with
 | none=>rfl
 | some o =>
   rw[e l o q] at h
   cases h
theorem Same.seq {K:PySem.W.Frag}{H H':Hp}{a:Addr}{xs:List V}(e:Same H H')(h:SqL K H a xs):SqL K H' a xs:=by
 rcases h with(h | ⟨o,h⟩) | h
 · exact .inl (.inl (e _ _ h))
 · exact .inl (.inr ⟨o,e _ _ h⟩)
 · exact .inr h
section
variable {κ:Type} [DecidableEq κ]
def uU (kvs:List (κ×V))(k:κ):Option V:=(kvs.find? fun kv=>decide (kv.1=k)).map (·.2)
def pJ (kvs:List (κ×V))(k:κ)(v:V):List (κ×V) :=
 if (kvs.any fun kv=>decide (kv.1=k))=true then kvs.map (fun kv=>if kv.1=k then(kv.1,v) else kv) else kvs++[(k,v)]
def rD (kvs:List (κ×V))(k:κ):List (κ×V):=kvs.filter fun kv=>decide (kv.1≠k)
theorem kF {p:κ×V}{r:List (κ×V)}{k:κ}(e:p.1=k):uU (p::r) k=some p.2:=by simp[uU,Wd,e]
theorem lJ {p:κ×V}{r:List (κ×V)}{k:κ}(e:¬p.1=k):uU (p::r) k=uU r k:=by simp[uU,Wd,e]
theorem kJ (k:κ):∀kvs:List (κ×V),(kvs.any fun kv=>decide (kv.1=k))=(uU kvs k).isSome
 | []=>rfl
 | p::r=>by
   rw[List.any_cons]
   by_cases e:p.1=k
   · simp only[kF e,Qc e,Bool.true_or,Option.isSome_some]
   · rw[lJ e,Wh e,Bool.false_or];exact kJ k r
theorem mR (kvs:List (κ×V))(k:κ)(v:V):(pJ kvs k v).length<=kvs.length+1:=by
 unfold pJ
 split
 · rw[Qa];omega
 · rw[Ql,Qs,List.length_nil];omega
theorem zY0 {kvs:List (κ×V)}{k:κ}(v:V)(h:uU kvs k=none):pJ kvs k v=kvs++[(k,v)]:=by
 unfold pJ
 rw[kJ,h]
 exact Qg (by decide)
theorem RelO.isSome_eq {o:Option V}{u:Option Value}(r:RelO o u):o.isSome=u.isSome:=by
 cases o with
 | none=>cases u with
   | none=>rfl
   | some _=>exact(show False from r).elim
 | some _=>cases u with
   | none=>exact(show False from r).elim
   | some _=>rfl
theorem RelO.getD {o:Option V}{u:Option Value}{d:V}{d':Value}(r:RelO o u)(rd:RelV d d'):RelV (o.getD d) (u.getD d'):=by
 cases o with
 | none=>cases u with
   | none=>exact rd
   | some _=>exact(show False from r).elim
 | some _=>cases u with
   | none=>exact(show False from r).elim
   | some _=>exact r
theorem KV.val {kvs:List (κ×V)}{vs:List (κ×Value)}(r:KV kvs vs)(k:κ):RelO (uU kvs k) (valueAt vs k):=by
 unfold KV at r
 induction r with
 | nil=>exact True.intro
 | @cons p q ps qs h t ih =>
   obtain⟨h1,h2⟩:=h
   by_cases e:p.1=k
   · have e':q.1=k:=h1.symm.trans e
     have b:valueAt (q::qs) k=some q.2:=by simp[valueAt,Wd,e']
     rw[kF e,b];exact h2
   · have e':¬q.1=k:=fun z=>e (h1.trans z)
     have b:valueAt (q::qs) k=valueAt qs k:=by simp[valueAt,Wd,e']
     rw[lJ e,b];exact ih
theorem KV.any {kvs:List (κ×V)}{vs:List (κ×Value)}(r:KV kvs vs)(k:κ):(kvs.any fun kv=>decide (kv.1=k))=vs.any fun kv=>decide (kv.1=k):=by
 unfold KV at r
 induction r with
 | nil=>rfl
 | cons h t ih=>rw[List.any_cons,List.any_cons,ih,h.1]
theorem KV.repl {kvs:List (κ×V)}{vs:List (κ×Value)}(r:KV kvs vs)(k:κ){y:V}{u:Value}(ry:RelV y u) :
   KV (kvs.map fun kv=>if kv.1=k then(kv.1,y) else kv) (vs.map fun kv=>if kv.1=k then(kv.1,u) else kv):=by
 unfold KV at r ⊢
 induction r with
 | nil=>exact .nil
 | @cons p q ps qs h t ih =>
   rw[Qp,Qp]
   refine .cons ?_ ih
   obtain⟨h1,h2⟩:=h
   by_cases e:p.1=k
   · rw[Qo e,Qo (h1.symm.trans e)];exact⟨h1,ry⟩
   · rw[Qg e,Qg (fun z=>e (h1.trans z))];exact⟨h1,h2⟩
theorem KV.put {kvs:List (κ×V)}{vs:List (κ×Value)}(r:KV kvs vs)(k:κ){y:V}{u:Value}(ry:RelV y u):KV (pJ kvs k y) (stored vs k u):=by
 unfold pJ stored
 rw[r.any k]
 by_cases e:(vs.any fun kv=>decide (kv.1=k))=true
 · rw[Qo e,Qo e];exact r.repl k ry
 · rw[Qg e,Qg e];exact Paired.snoc r ⟨rfl,ry⟩
theorem KV.drop {kvs:List (κ×V)}{vs:List (κ×Value)}(r:KV kvs vs)(k:κ):KV (rD kvs k) (without vs k):=by
 unfold KV at r ⊢
 unfold rD without
 induction r with
 | nil=>exact .nil
 | @cons p q ps qs h t ih =>
   obtain⟨h1,h2⟩:=h
   rw[Wr,Wr]
   by_cases e:p.1=k
   · have a:¬decide (p.1≠k)=true:=by simp[e]
     have b:¬decide (q.1≠k)=true:=by simp[h1.symm.trans e]
     rw[Qg a,Qg b];exact ih
   · have e':¬q.1=k:=fun z=>e (h1.trans z)
     have a:decide (p.1≠k)=true:=by simp[e]
     have b:decide (q.1≠k)=true:=by simp[e']
     rw[Qo a,Qo b];exact .cons ⟨h1,h2⟩ ih
theorem KV.keys {kvs:List (κ×V)}{vs:List (κ×Value)}(r:KV kvs vs):kvs.map (·.1)=vs.map (·.1):=by
 unfold KV at r
 induction r with
 | nil=>rfl
 | cons h t ih=>rw[Qp,Qp,ih,h.1]
theorem KV.length {kvs:List (κ×V)}{vs:List (κ×Value)}(r:KV kvs vs):kvs.length=vs.length:=Er r
theorem zXD (kvs:List (κ×V))(k:κ):(rD kvs k).length<=kvs.length:=To _ _
end
theorem zV1 {P:Program}{w:World}{k:Key}{u:Value}(r:RelV (kV k) u):(z5 P w).is k u=true:=by
 cases k with
 | inl i=>obtain⟨t,e⟩:=(show ∃t,u=Value.int i t from r);subst e;exact dG P w i t
 | inr x=>obtain⟨t,e⟩:=(show ∃t,u=Value.str x t from r);subst e;exact dD P w x t
theorem nX {P:Program}{w:World}:∀ {ks:List Key} {us:List Value},Vals (ks.map kV) us->ItemsAre (z5 P w) ks us
 | [],_,r=>by rw[List.map_nil] at r;cases r;exact .nil
 | k::ks,_,r=>by
   rw[Qp] at r
   cases r with
   | cons h t=>exact .cons (zV1 h) (nX t)
abbrev KTd (H:Hp):List (List Key×V)->List (List Key×Addr×Value)->Prop:=Paired fun p q=>p.1=q.1/\H q.2.1=some (.tup (p.1.map kV))/\RelV p.2 q.2.2
theorem KTd.val {H:Hp}{kvs:List (List Key×V)}{xs:List (List Key×Addr×Value)}(r:KTd H kvs xs)(k:List Key):RelO (uU kvs k) ((atKey xs k).map (·.2)):=by
 induction r with
 | nil=>exact True.intro
 | @cons p q ps qs h t ih =>
   obtain⟨h1,_,h2⟩:=h
   by_cases e:p.1=k
   · have e':q.1=k:=h1.symm.trans e
     have b:atKey (q::qs) k=some q.2:=by simp[atKey,Wd,e']
     rw[kF e,b];exact h2
   · have e':¬q.1=k:=fun z=>e (h1.trans z)
     have b:atKey (q::qs) k=atKey qs k:=by simp[atKey,Wd,e']
     rw[lJ e,b];exact ih
theorem KTd.repl {H:Hp}{kvs:List (List Key×V)}{xs:List (List Key×Addr×Value)}(r:KTd H kvs xs)(k:List Key){y:V}{u:Value}(ry:RelV y u) :
   KTd H (kvs.map fun kv=>if kv.1=k then(kv.1,y) else kv) (xs.map (putAt k u)):=by
 induction r with
 | nil=>exact .nil
 | @cons p q ps qs h t ih =>
   rw[Qp,Qp]
   refine .cons ?_ ih
   obtain⟨h1,h2,h3⟩:=h
   unfold putAt
   by_cases e:p.1=k
   · rw[Qo e,Qo (h1.symm.trans e)];exact⟨h1,h2,ry⟩
   · rw[Qg e,Qg (fun z=>e (h1.trans z))];exact⟨h1,h2,h3⟩
theorem KTd.put {H:Hp}{kvs:List (List Key×V)}{xs:List (List Key×Addr×Value)}(r:KTd H kvs xs)(k:List Key){b:Addr}{y:V}{u:Value}(hb:H b=some (.tup (k.map kV)))(ry:RelV y u) :
   KTd H (pJ kvs k y) (storedH xs k b u):=by
 have e:(kvs.any fun kv=>decide (kv.1=k))=(atKey xs k).isSome:=by
   rw[kJ,(r.val k).isSome_eq,Yu]
 unfold pJ storedH
 rw[e]
 by_cases q:(atKey xs k).isSome=true
 · rw[Qo q,Qo q];exact r.repl k ry
 · rw[Qg q,Qg q];exact Paired.snoc r ⟨rfl,hb,ry⟩
theorem KTd.keeps {H H':Hp}{kvs:List (List Key×V)}{xs:List (List Key×Addr×Value)}(r:KTd H kvs xs)(ht:∀b ys,H b=some (.tup ys)->H' b=some (.tup ys)):KTd H' kvs xs :=
 Paired.mapP r fun _ _ z=>⟨z.1,ht _ _ z.2.1,z.2.2⟩
section
variable {P:Program} {w:World} {H:Hp} {h:Heap} {a:Addr}
theorem zVr {u:HO}(ok:HOk P w H h)(e:Rd H a u):ObjOk P w H h a u:=e.ok ok
theorem zT6 {kvs:List (Key×V)}(ok:HOk P w H h)(e:Rd H a (.dK kvs)):kvs.length<=sizeLine/\(a==sysModules)=false/\∃vs,KV kvs vs/\h.DictOf (z5 P w) a vs :=
 show ObjOk P w H h a (.dK kvs) from zVr ok e
theorem zTG {kvs:List (Key×V)}(ok:HOk P w H h)(e:H a=some (.dK kvs)):kvs.length<=sizeLine/\(a==sysModules)=false/\∃vs,KV kvs vs/\h.DictOf (z5 P w) a vs:=zT6 ok (.inl e)
theorem zXf {ks:List Key}(ok:HOk P w H h)(e:H a=some (.tup (ks.map kV))):(tupleKind (z5 P w)).is h ks a:=by
 obtain⟨_,its,r,o,h1,h2,n,h3⟩:=(show ObjOk P w H h a (.tup (ks.map kV)) from ok a _ e)
 exact⟨o,its.toArray,n,h1,h2,h3,by simpa using nX r⟩
theorem zTY {kvs:List (List Key×V)}(ok:HOk P w H h)(e:Rd H a (.dT kvs)):kvs.length<=sizeLine/\(a==sysModules)=false /\
   ∃xs,KTd H kvs xs/\h.DictOfH (tupleKind (z5 P w)) a xs:=by
 obtain⟨z,y,xs,r,o,es,ep,h1,h2,h3,h4,h5⟩:=(show ObjOk P w H h a (.dT kvs) from zVr ok e)
 refine⟨z,y,xs,r,o,es,ep,h1,h2,h3,h4,fun x hx=>?_,h5⟩
 have all:∀ {l:List (List Key×V)} {m:List (List Key×Addr×Value)},KTd H l m->∀x∈m,(tupleKind (z5 P w)).is h x.1 x.2.1:=by
   intro l m q
   induction q with
   | nil=>intro x hx;exact nomatch hx
   | @cons p q ps qs hq t ih =>
     intro x hx
     rcases Qh.mp hx with e | hx
     · subst e
       exact zXf ok (by rw[←hq.1];exact hq.2.1)
     · exact ih x hx
 exact all r x hx
theorem iT {kvs:List (List Key×V)}(ok:HOk P w H h)(e:H a=some (.dT kvs)):kvs.length<=sizeLine/\(a==sysModules)=false /\
   ∃xs,KTd H kvs xs/\h.DictOfH (tupleKind (z5 P w)) a xs:=zTY ok (.inl e)
end
def DGet (H:Hp)(a:Addr)(y:V)(r:Option V):Prop :=
 (∃kvs k,Rd H a (.dK kvs)/\y=kV k/\r=uU kvs k)∨∃kvs k b,Rd H a (.dT kvs)/\y = .ref b/\H b=some (.tup (k.map kV))/\r=uU kvs k
def DPut (H:Hp)(a:Addr)(y v:V)(H':Hp):Prop :=
 (∃kvs k,H a=some (.dK kvs)/\y=kV k/\kvs.length < sizeLine/\H'=upd H a (.dK (pJ kvs k v))) ∨
 ∃kvs k b,H a=some (.dT kvs)/\y = .ref b/\H b=some (.tup (k.map kV))/\kvs.length < sizeLine/\H'=upd H a (.dT (pJ kvs k v))
theorem DGet.k {H:Hp}{a:Addr}{kvs:List (Key×V)}{k:Key}(e:H a=some (.dK kvs)):DGet H a (kV k) (uU kvs k):=.inl ⟨kvs,k,.inl e,rfl,rfl⟩
theorem DGet.t {H:Hp}{a b:Addr}{kvs:List (List Key×V)}{k:List Key}(e:H a=some (.dT kvs))(eb:H b=some (.tup (k.map kV))):DGet H a (.ref b) (uU kvs k):=.inr ⟨kvs,k,b,.inl e,rfl,eb,rfl⟩
theorem DPut.k {H:Hp}{a:Addr}{kvs:List (Key×V)}{k:Key}{v:V}(e:H a=some (.dK kvs))(hl:kvs.length < sizeLine):DPut H a (kV k) v (upd H a (.dK (pJ kvs k v))):=.inl ⟨kvs,k,e,rfl,hl,rfl⟩
theorem DPut.t {H:Hp}{a b:Addr}{kvs:List (List Key×V)}{k:List Key}{v:V}(e:H a=some (.dT kvs))(eb:H b=some (.tup (k.map kV)))(hl:kvs.length < sizeLine) :
   DPut H a (.ref b) v (upd H a (.dT (pJ kvs k v))):=.inr ⟨kvs,k,b,e,rfl,eb,hl,rfl⟩
section
variable {X:Cx} {pins:List (Addr×Obj)} {σ:St} {H:Hp} {s:Shared} {a:Addr} {y v:V} {u r:Value} {A:Around} {E:Value->Shared->Prop}
theorem Inv.big (I:Inv X pins σ H s):sysModules < s.heap.objs.size:=by
 have h:mainGlobals < s.heap.objs.size:=(I.mod.glob.keeps I.bk).lt
 exact Nat.lt_trans (by decide) h
theorem gU {h':Heap}{t':Nat}{ob:HO}(I:Inv X pins σ H s)(mu:Mut (H a))(hs:Heap.SameBut a s.heap h')(he:∃q,h'.get? a=some q)(new:ObjOk X.prog X.w (upd H a ob) h' a ob) :
   Inv X pins σ (upd H a ob) { s with heap:=h',toks:=t' } :=
 I.write (x:=a) (e:=a) mu (.inl rfl) (fun b q hb z=>(hs.2 b hb).trans z) he new
theorem zUT {P:Program}{w:World}{H':Hp}{h':Heap}{kvs:List (Key×V)}{vs:List (Key×Value)}(z:kvs.length<=sizeLine)(hd:(a==sysModules)=false)(rel:KV kvs vs)(dd:h'.DictOf (z5 P w) a vs) :
   ObjOk P w H' h' a (.dK kvs):=⟨z,hd,vs,rel,dd⟩
theorem zZl {H':Hp}{Q:Unit->Shared->Prop}(hu:A.units+1 < cLine)(I:Inv X pins σ H s)(g:DPut H a y v H')(ry:RelV y u)(rv:RelV v r)(h:∀s',Inv X pins σ H' s'->Q () s') :
   wpAny (model X.prog X.w) A (setItem (.ref a) u r) Q E s:=by
 rcases g with⟨kvs,k,e,ey,l,eH⟩ | ⟨kvs,k,b,e,ey,eb,l,eH⟩
 · subst ey eH
   obtain⟨z,hd,vs,rel,dd⟩:=zTG I.hok e
   have hz:vs.length<=sizeLine:=by rw[←rel.length];exact z
   have hl:(pJ kvs k v).length<=sizeLine:=by have:=mR kvs k v;omega
   refine wpAny_setItem_pairs (hsz:=hz) (zV1 ry) dd fun h' dd' hs=>h _ ?_
   have he:∃q,h'.get? a=some q:=let ⟨q,_,_,hq,_⟩:=dd';⟨q,hq⟩
   exact gU I (by rw[e];exact True.intro) hs he (zUT hl hd (rel.put k rv) dd')
 · subst ey eH
   cases (show u=Value.ref b from ry)
   obtain⟨z,hd,xs,rel,dd⟩:=iT I.hok e
   have hz:xs.length<=sizeLine:=by rw[←Er rel];exact z
   have hl:(pJ kvs k v).length<=sizeLine:=by have:=mR kvs k v;omega
   refine wpAny_setItem_heap (hsz:=hz) (Rw hu) (zXf I.hok eb) dd fun h' dd' hs=>h _ ?_
   obtain⟨q,es,ep,hq,h2,h3,h4,_,h5⟩:=dd'
   refine gU I (by rw[e];exact True.intro) hs ⟨q,hq⟩ ⟨hl,hd,_,(rel.put k eb rv).keeps fun c ys ec=>?_,q,es,ep,hq,h2,h3,h4,h5⟩
   rw[zO (zV9 ec e (fun z=>nomatch z))]
   exact ec
end
theorem zXE {P:Program}{w:World}{H:Hp}(h:Heap)(hb:sysModules < h.objs.size):ObjOk P w H (h.push { cls:=.type "dict",data:=.dict #[] }) h.objs.size (.dT []) :=
 ⟨Wl _,Ea.mpr (Ne.symm (Qb hb)),[],.nil,_,#[],0,Qd _ rfl,⟨rfl,rfl,rfl⟩,rfl,rfl,List.nodup_nil⟩
def zU0:TE:=fun _ H Q=>∀p,H p=none->Q (.ref p) (upd H p (.dT []))
section
variable {X:Cx} {pos:Pos}
theorem zXn:PE X (.Dict [] [] pos) zU0:=fun pins s σ H Q I h =>
 wpAny_Dict_empty ⟨.ref s.heap.objs.size,_,I.laid (a:=s.heap.objs.size) (o:=.dT []) (t':=s.toks) (fun _ _ q=>Qr _ q) (Qz _) (zXE s.heap I.big),rfl,h _ (I.hok.fresh (Qz _))⟩
end
structure M1 (X:Cx)(o:Expr)(m:Str)(apos:Pos)(e:Expr)(cpos:Pos):Prop where
 base:attributeBase o m X.env (eval o X.env)=eval o X.env
 few:((backTo cpos (starEach [e] X.env)).all (fun x => !x.1)&&(backToKw cpos (keywordEach [] X.env)).all (fun x=>x.1.isSome)
   && decide (([e]:List Expr).length+([]:List Keyword).length+(if ([]:List Keyword).isEmpty then 0 else 1) < 30))=true
 line:(apos.endLine==cpos.line)=true
 trees:backTo cpos (starEach [e] X.env)=[(false,eval e X.env)]
structure M2 (X:Cx)(o:Expr)(m:Str)(apos:Pos)(e f:Expr)(cpos:Pos):Prop where
 base:attributeBase o m X.env (eval o X.env)=eval o X.env
 few:((backTo cpos (starEach [e,f] X.env)).all (fun x => !x.1)&&(backToKw cpos (keywordEach [] X.env)).all (fun x=>x.1.isSome)
   && decide (([e,f]:List Expr).length+([]:List Keyword).length+(if ([]:List Keyword).isEmpty then 0 else 1) < 30))=true
 line:(apos.endLine==cpos.line)=true
 trees:backTo cpos (starEach [e,f] X.env)=[(false,eval e X.env),(false,eval f X.env)]
def DEs (h:Heap)(d:Addr)(es:Array DictEntry)(ep:Nat):Prop:=∃o,h.get? d=some o/\o.ExactDict/\o.data = .dict es ep
theorem DEs.keep {h h':Heap}{d:Addr}{es:Array DictEntry}{ep:Nat}(x:DEs h d es ep)(k:∀o,h.get? d=some o->h'.get? d=some o):DEs h' d es ep:=let ⟨o,h1,h2⟩:=x;⟨o,k o h1,h2⟩
section
variable {P:Program} {w:World} {A:Around} {E:Value->Shared->Prop} {s:Shared} {d I:Addr} {es:Array DictEntry} {ep i:Nat}
abbrev kiO (d:Addr)(i n ep:Nat):Obj:={ cls:=.type "dict_keyiterator",data:=.fields #[.ref d,rawInt i,rawInt n,rawInt ep] }
theorem zW3 {v:Value}{Q:Option Value->Shared->Prop}(hd:DEs s.heap d es ep)(hI:s.heap.get? I=some (kiO d i es.size ep))(hv:es[i]?.map (·.key)=some v)
   (h:∀h',Heap.SameBut I s.heap h'->h'.get? I=some (kiO d (i+1) es.size ep)->Q (some v) { s with heap:=h' }):wpAny (model P w) A (pyNext (.ref I)) Q E s:=by
 have hT:s.TypeIs (.ref I) "dict_keyiterator":=⟨_,hI,rfl⟩
 obtain⟨o,ho,hx,hdt⟩:=hd
 unfold pyNext
 refine Qw (wpAny_attempt ?_)
 have sl:Slot "dict_keyiterator" "__next__" "dict_keyiterator.__next__":=F.slot_dict_keyiterator_next
 refine wpAny_callSpecial?_slot (name:=Str.ofString "__next__") hT sl (Ed sl hT F.entry_dict_keyiterator_next ?_ (F.args_dict_keyiterator_next_1 _))
 obtain⟨cc,dd,dt,sz⟩:=o
 dsimp only at hdt
 subst hdt
 wp_walk
 rw[Qg (by simp)]
 wp_walk
 have ei:((i:Nat):Int).toNat=i:=Int.toNat_natCast i
 rw[ei]
 cases he:es[i]? with
 | none=>rw[he] at hv;cases hv
 | some e =>
   rw[he] at hv
   have hv:some e.key=some v:=hv
   cases hv
   dsimp only
   wp_walk
   have key:∀(n:Nat) (m:Int),n=1->m=(i:Int)+1->Q (some e.key) { s with heap:=s.heap.update I (Obj.mapFields fun x=>x.setIfInBounds n (rawInt m)) }:=fun n m e1 e2=>by
     subst e1;subst e2
     refine h _ ⟨Yj _ _ _,fun b hb=>Wg _ _ _ _ hb⟩ ?_
     have:=Wc (Obj.mapFields fun x=>x.setIfInBounds 1 (rawInt ((i:Int)+1))) hI rfl
     refine this.trans ?_
     rfl
   refine⟨_,rfl,Qi (key _ _ (by kernel_rfl) ?_)⟩
   rw[Qg (by decide +kernel)]
theorem zU3 {Q:Option Value->Shared->Prop}(hh:A.handled=none)(hd:DEs s.heap d es ep)(hI:s.heap.get? I=some (kiO d i es.size ep))(hv:es[i]?=none)
   (h:∀h',(∀c o,c≠I->s.heap.get? c=some o->h'.get? c=some o)->Q none { s with heap:=h' }):wpAny (model P w) A (pyNext (.ref I)) Q E s:=by
 have hT:s.TypeIs (.ref I) "dict_keyiterator":=⟨_,hI,rfl⟩
 obtain⟨o,ho,hx,hdt⟩:=hd
 unfold pyNext
 refine Qw (wpAny_attempt ?_)
 have sl:Slot "dict_keyiterator" "__next__" "dict_keyiterator.__next__":=F.slot_dict_keyiterator_next
 refine wpAny_callSpecial?_slot (name:=Str.ofString "__next__") hT sl (Ed sl hT F.entry_dict_keyiterator_next ?_ (F.args_dict_keyiterator_next_1 _))
 obtain⟨cc,dd,dt,sz⟩:=o
 dsimp only at hdt
 subst hdt
 wp_walk
 rw[Qg (by simp)]
 wp_walk
 have ei:((i:Nat):Int).toNat=i:=Int.toNat_natCast i
 rw[ei,hv]
 dsimp only
 wp_walk
 refine wpAny_raiseNew_none (by simp[hh]) (Qw (wpAny_isInstance (T:="StopIteration") (b:=true) ⟨_,Qd _ rfl,rfl⟩ isSubtype_stop (Qi (h _ fun c o hc e=>?_))))
 exact Qr _ (Qr _ (by rw[Wg _ _ _ _ hc];exact e))
theorem zVV {Q:Value->Shared->Prop}(hd:DEs s.heap d es ep)(hs:(d==sysModules)=false)(h:Q (.ref s.heap.objs.size) { s with heap:=s.heap.push (kiO d 0 es.size ep) }):wpAny (model P w) A (pyIter (.ref d)) Q E s:=by
 obtain⟨o,ho,hx,hdt⟩:=hd
 have hT:s.TypeIs (.ref d) "dict":=⟨_,ho,hx.1⟩
 refine wpAny_pyIter_slot hT F.slot_dict_iter (Ed F.slot_dict_iter hT F.entry_dict_iter ?_ (F.args_dict_iter_1 _))
 obtain⟨cc,dd,dt,sz⟩:=o
 dsimp only at hdt
 subst hdt
 have hc:cc = .type "dict":=hx.1
 subst hc
 wp_walk
 exact⟨_,rfl,_,_,⟨_,Qd _ rfl,rfl⟩,F.slot_dict_keyiterator_next.lookup,h⟩
end
end L2
namespace L2
open PySem PySem.W PyProof.Rows
def evT {α:Type}(lt:Nat->Nat->Bool):KasT α->α
 | .ret a=>a
 | .ask i j k=>evT lt (k (lt i j))
theorem tQ {α β:Type}(lt:Nat->Nat->Bool)(f:α->KasT β):∀t:KasT α,evT lt (t.bind f)=evT lt (f (evT lt t))
 | .ret _=>rfl
 | .ask i j k=>tQ lt f (k (lt i j))
structure SWO (lt:Nat->Nat->Bool):Prop where
 irr:∀a,lt a a=false
 tr:∀a b c,lt a b=true->lt b c=true->lt a c=true
 neg:∀a b c,lt a c=true->lt a b=true∨lt b c=true
def Lx (lt:Nat->Nat->Bool)(a b:Nat):Prop:=lt a b=true∨(lt a b=false/\lt b a=false/\a < b)
section
variable {lt:Nat->Nat->Bool} (W:SWO lt)
include W
theorem SWO.asym {a b:Nat}(h:lt a b=true):lt b a=false:=by
 cases e:lt b a
 · rfl
 · have:=W.tr _ _ _ h e;rw[W.irr] at this;cases this
theorem SWO.eqr {a b c:Nat}(h:lt a b=true)(h1:lt c b=false):lt a c=true:=by
 rcases W.neg a c b h with e | e
 · exact e
 · rw[h1] at e;cases e
theorem SWO.eql {a b c:Nat}(h:lt a b=true)(h1:lt a c=false):lt c b=true:=by
 rcases W.neg a c b h with e | e
 · rw[h1] at e;cases e
 · exact e
theorem SWO.ntr {a b c:Nat}(h1:lt a b=false)(h2:lt b c=false):lt a c=false:=by
 cases e:lt a c
 · rfl
 · rcases W.neg a b c e with z | z
   · rw[h1] at z;cases z
   · rw[h2] at z;cases z
theorem Lx.trans {a b c:Nat}(h1:Lx lt a b)(h2:Lx lt b c):Lx lt a c:=by
 rcases h1 with h1 | ⟨x1,x2,x3⟩<;>rcases h2 with h2 | ⟨y1,y2,y3⟩
 · exact .inl (W.tr _ _ _ h1 h2)
 · exact .inl (W.eqr h1 y2)
 · exact .inl (W.eql h2 x2)
 · exact .inr ⟨W.ntr x1 y1,W.ntr y2 x2,by omega⟩
theorem Lx.le {a b:Nat}(h:Lx lt a b):lt b a=false:=by
 rcases h with h | ⟨_,h,_⟩
 · exact W.asym h
 · exact h
theorem Lx.of {a b:Nat}(h:lt b a=false)(hab:a < b):Lx lt a b:=by
 cases e:lt a b
 · exact .inr ⟨e,h,hab⟩
 · exact .inl e
end
abbrev gg (p:Array Nat)(k:Nat):Nat:=p.getD k 0
theorem qH (p:Array Nat)(k:Nat):gg p k=(p[k]?).getD 0:=by unfold gg;simp[Array.getD_eq_getD_getElem?]
theorem vW {p:Array Nat}{i j:Nat}(hj:j<=p.size)(k:Nat):gg (kas_rev p i j) k=if i<=k/\k < j then gg p (i+j - 1 - k) else gg p k:=by
 rw[qH,qH,qH]
 unfold kas_rev
 rw[getElem?_mirror_all hj]
 split<;>rfl
theorem gC {p:Array Nat}{k l:Nat}(hk:k < p.size)(hl:l<=k)(i:Nat):gg (bubble p k (k - l)) i=if i=l then gg p k else if l < i/\i<=k then gg p (i - 1) else gg p i:=by
 rw[qH,qH,qH,qH,getElem?_bubble hk (k - l) (by omega),show k - (k - l)=l by omega]
 split
 · rfl
 · split<;>rfl
def Srt (lt:Nat->Nat->Bool)(p:Array Nat)(a:Nat):Prop:=∀i j,i < j->j < a->Lx lt (gg p i) (gg p j)
def Dcr (lt:Nat->Nat->Bool)(p:Array Nat)(a:Nat):Prop:=∀i j,i < j->j < a->Lx lt (gg p j) (gg p i)
structure Org (N:Nat)(p:Array Nat)(a:Nat):Prop where
 sz:p.size=N
 pm:p.toList.Perm (List.range N)
 hi:∀j,a<=j->j < N->gg p j=j
 lo:∀i,i < a->gg p i < a
theorem zUB {p:Array Nat}{N i j:Nat}(h:p.toList.Perm (List.range N)):(kas_rev p i j).toList.Perm (List.range N):=(Rk.mp (Tb _ _ _ _)).trans h
theorem Org.rev {N a i:Nat}{p:Array Nat}(h:Org N p a)(ha:a<=N):Org N (kas_rev p i a) a:=by
 have hs:a<=p.size:=by rw[h.sz];exact ha
 refine⟨by unfold kas_rev;rw[mirror_size];exact h.sz,zUB h.pm,fun j h1 h2=>?_,fun k hk=>?_⟩
 · rw[vW hs,Qg (by omega)];exact h.hi j h1 h2
 · rw[vW hs]
   split
   · exact h.lo _ (by omega)
   · exact h.lo _ hk
theorem Org.next {N a:Nat}{p:Array Nat}(h:Org N p a)(ha:a < N):Org N p (a+1) :=
 ⟨h.sz,h.pm,fun j h1 h2=>h.hi j (by omega) h2,fun i hi=>by
   by_cases e:i=a
   · subst e;rw[h.hi i (by omega) ha];omega
   · have:=h.lo i (by omega);omega⟩
section
variable {lt:Nat->Nat->Bool} (W:SWO lt) {N:Nat}
include W
theorem zYI {p:Array Nat}{n:Nat}(h1:1<=n)(hn:n < N)(hs:Srt lt p n)(ho:Org N p n)(hlt:lt (gg p n) (gg p (n - 1))=false):Srt lt p (n+1):=by
 have hl:Lx lt (gg p (n - 1)) (gg p n):=Lx.of W hlt (by rw[ho.hi n (by omega) hn];exact ho.lo _ (by omega))
 intro i j hij hj
 by_cases e:j=n
 · subst e
   by_cases e':i=j - 1
   · subst e';exact hl
   · exact Lx.trans W (hs i (j - 1) (by omega) (by omega)) hl
 · exact hs i j hij (by omega)
theorem bL (p:Array Nat):∀(f n:Nat),1<=n->n+f=N->Srt lt p n->Org N p n ->
   n<=evT lt (kas_asc p f n)/\evT lt (kas_asc p f n)<=N/\Srt lt p (evT lt (kas_asc p f n))/\Org N p (evT lt (kas_asc p f n))/\(evT lt (kas_asc p f n) < N->lt (gg p (evT lt (kas_asc p f n))) (gg p (evT lt (kas_asc p f n) - 1))=true)
 | 0,n,h1,hn,hs,ho=>⟨Qz _,by show n<=N;omega,hs,ho,fun z=>by have z:n < N:=z;omega⟩
 | f+1,n,h1,hn,hs,ho=>by
   have e:evT lt (kas_asc p (f+1) n)=if lt (gg p n) (gg p (n - 1))=true then n else evT lt (kas_asc p f (n+1)):=by
     show evT lt (if lt (gg p n) (gg p (n - 1))=true then .ret n else kas_asc p f (n+1))=_
     split<;>rfl
   rw[e]
   cases hc:lt (gg p n) (gg p (n - 1))
   · rw[Qg (by decide)]
     obtain⟨a1,a2,a3,a4,a5⟩:=bL p f (n+1) (by omega) (by omega) (zYI W h1 (by omega) hs ho hc) (ho.next (by omega))
     exact⟨by omega,a2,a3,a4,a5⟩
   · rw[Qo rfl]
     exact⟨Qz _,by omega,hs,ho,fun _=>hc⟩
omit W in
theorem zVR {p:Array Nat}{n:Nat}(hn:n<=p.size)(h:Dcr lt p n):Srt lt (kas_rev p 0 n) n:=fun i j hij hj=>by
 rw[vW hn,vW hn,Qo (by omega),Qo (by omega)]
 exact h _ _ (by omega) (by omega)
theorem cF (p:Array Nat)(n:Nat)(h1:1<=n)(hn:n<=N)(hd:Dcr lt p n)(ho:Org N p n) :
   n<=(evT lt (kas_tail3 n N p)).1/\(evT lt (kas_tail3 n N p)).1<=N/\Srt lt (evT lt (kas_tail3 n N p)).2 (evT lt (kas_tail3 n N p)).1/\Org N (evT lt (kas_tail3 n N p)).2 (evT lt (kas_tail3 n N p)).1:=by
 have hs:n<=p.size:=by rw[ho.sz];exact hn
 obtain⟨a1,a2,a3,a4,_⟩:=bL W (kas_rev p 0 n) (N - n) n h1 (by omega) (zVR hs hd) (ho.rev hn)
 unfold kas_tail3
 rw[tQ]
 exact⟨a1,a2,a3,a4⟩
structure Fal (lt:Nat->Nat->Bool)(N:Nat)(p:Array Nat)(n q:Nat):Prop where
 hq:q+1<=n
 dn:∀i j,i < j->j < n - (q+1)->Lx lt (gg p j) (gg p i)
 ac:∀i j,i < n - (q+1)->n - (q+1)<=j->j < n->lt (gg p j) (gg p i)=true
 eq:∀i j,n - (q+1)<=i->i < j->j < n->lt (gg p i) (gg p j)=false/\lt (gg p j) (gg p i)=false/\gg p i < gg p j
 og:Org N p n
theorem Fal.last {p:Array Nat}{n q:Nat}(h:Fal lt N p n q){i:Nat}(hi:n - (q+1)<=i)(hin:i < n):lt (gg p i) (gg p (n - 1))=false/\lt (gg p (n - 1)) (gg p i)=false:=by
 by_cases e:i=n - 1
 · subst e;exact⟨W.irr _,W.irr _⟩
 · have:=h.eq i (n - 1) hi (by omega) (by have:=h.hq;omega)
   exact⟨this.1,this.2.1⟩
theorem Fal.turn {p:Array Nat}{n q:Nat}(h:Fal lt N p n q)(hn:n<=N):Dcr lt (kas_rev p (n - (q+1)) n) n/\Org N (kas_rev p (n - (q+1)) n) n:=by
 have hs:n<=p.size:=by rw[h.og.sz];exact hn
 have hq:=h.hq
 refine⟨fun i j hij hj=>?_,h.og.rev hn⟩
 rw[vW hs,vW hs]
 by_cases hj':n - (q+1)<=j
 · rw[Qo ⟨hj',hj⟩]
   by_cases hi':n - (q+1)<=i
   · rw[Qo ⟨hi',by omega⟩]
     exact .inr (h.eq _ _ (by omega) (by omega) (by omega))
   · rw[Qg (by omega)]
     exact .inl (h.ac _ _ (by omega) (by omega) (by omega))
 · rw[Qg (by omega),Qg (by omega)]
   exact h.dn i j hij (by omega)
theorem oC {p:Array Nat}{n:Nat}(h1:1<=n)(hn:n < N)(hd:Dcr lt p n)(ho:Org N p n)(hl:∀i,i < n->lt (gg p n) (gg p i)=true):Fal lt N p (n+1) 0:=by
 refine⟨by omega,fun i j hij hj=>hd i j hij (by omega),fun i j hi hj hj'=>?_,fun i j hi hij hj=>by omega,ho.next hn⟩
 have:j=n:=by omega
 subst this
 exact hl i (by omega)
theorem Fal.less {p:Array Nat}{n q:Nat}(h:Fal lt N p n q)(hc:lt (gg p n) (gg p (n - 1))=true)(i:Nat)(hi:i < n):lt (gg p n) (gg p i)=true:=by
 have hq:=h.hq
 by_cases hr:n - (q+1)<=i
 · exact W.eqr hc (Fal.last W h hr hi).1
 · exact W.tr _ _ _ hc (h.ac i (n - 1) (by omega) (by omega) (by omega))
theorem Fal.dcr {p:Array Nat}{n:Nat}(h:Fal lt N p n 0):Dcr lt p n:=fun i j hij hj=>by
 by_cases e:j=n - 1
 · exact .inl (h.ac i j (by omega) (by omega) hj)
 · exact h.dn i j hij (by omega)
theorem lX:∀(f:Nat) (p:Array Nat) (n q:Nat),n+f=N->Fal lt N p n q ->
   n<=(evT lt (kas_desc f p n q)).2.1/\(evT lt (kas_desc f p n q)).2.1<=N/\Fal lt N (evT lt (kas_desc f p n q)).1 (evT lt (kas_desc f p n q)).2.1 (evT lt (kas_desc f p n q)).2.2
 | 0,p,n,q,hn,h=>⟨Qz _,by show n<=N;omega,h⟩
 | f+1,p,n,q,hn,h=>by
   have hq:=h.hq
   have e:evT lt (kas_desc (f+1) p n q)=if lt (gg p n) (gg p (n - 1))=true then(if q > 0 then evT lt (kas_desc f (kas_rev p (n - (q+1)) n) (n+1) 0) else evT lt (kas_desc f p (n+1) 0)) else if lt (gg p (n - 1)) (gg p n)=true then(p,n,q) else evT lt (kas_desc f p (n+1) (q+1)):=by
     show evT lt (if lt (gg p n) (gg p (n - 1))=true then(if q > 0 then kas_desc f (kas_rev p (n - (q+1)) n) (n+1) 0 else kas_desc f p (n+1) 0) else .ask (p.getD (n - 1) 0) (p.getD n 0) fun d=>if d=true then .ret (p,n,q) else kas_desc f p (n+1) (q+1))=_
     by_cases hc:lt (gg p n) (gg p (n - 1))=true
     · rw[Qo hc,Qo hc]
       split<;>rfl
     · rw[Qg hc,Qg hc]
       show evT lt (if lt (gg p (n - 1)) (gg p n)=true then .ret (p,n,q) else kas_desc f p (n+1) (q+1))=_
       split<;>rfl
   rw[e]
   cases hc:lt (gg p n) (gg p (n - 1))
   · rw[Qg (by decide)]
     cases hd:lt (gg p (n - 1)) (gg p n)
     · rw[Qg (by decide)]
       have hnn:gg p n=n:=h.og.hi n (by omega) (by omega)
       obtain⟨a1,a2,a3⟩:=lX f p (n+1) (q+1) (by omega) ⟨by omega,fun i j hij hj=>h.dn i j hij (by omega),fun i j hi hj hj'=>by
           by_cases e:j=n
           · subst e;exact W.eql (h.ac i (j - 1) (by omega) (by omega) (by omega)) hd
           · exact h.ac i j (by omega) (by omega) (by omega),fun i j hi hij hj=>by
           by_cases e:j=n
           · subst e
             obtain⟨l1,l2⟩:=Fal.last W h (i:=i) (by omega) (by omega)
             exact⟨W.ntr l1 hd,W.ntr hc l2,by rw[hnn];exact h.og.lo i (by omega)⟩
           · exact h.eq i j (by omega) hij (by omega),h.og.next (by omega)⟩
       exact⟨by omega,a2,a3⟩
     · rw[Qo rfl]
       exact⟨Qz _,by show n<=N;omega,h⟩
   · rw[Qo rfl]
     have hl:=fun i hi=>Fal.less W h hc i hi
     by_cases hq0:q > 0
     · rw[Qo hq0]
       obtain⟨t1,t2⟩:=Fal.turn W h (by omega)
       have hs:n<=p.size:=by rw[h.og.sz];omega
       obtain⟨a1,a2,a3⟩:=lX f (kas_rev p (n - (q+1)) n) (n+1) 0 (by omega) (oC W (by omega) (by omega) t1 t2 fun i hi=>by
         rw[vW hs,vW hs,Qg (by omega)]
         split
         · exact hl _ (by omega)
         · exact hl _ hi)
       exact⟨by omega,a2,a3⟩
     · rw[Qg hq0]
       have:q=0:=by omega
       subst this
       obtain⟨a1,a2,a3⟩:=lX f p (n+1) 0 (by omega) (oC W (by omega) (by omega) (Fal.dcr W h) h.og hl)
       exact⟨by omega,a2,a3⟩
def zUS (lt:Nat->Nat->Bool)(N:Nat)(r:Nat×Array Nat):Prop:=1<=r.1/\r.1<=N/\Srt lt r.2 r.1/\Org N r.2 r.1
theorem nC (p:Array Nat)(n:Nat)(hn:n+1<=N)(h:Fal lt N p (n+1) 0):zUS lt N (evT lt (kas_descPart n N p)):=by
 unfold kas_descPart
 rw[tQ]
 obtain⟨a1,a2,a3⟩:=lX W (N - (n+1)) p (n+1) 0 (by omega) h
 generalize evT lt (kas_desc (N - (n+1)) p (n+1) 0)=r at a1 a2 a3
 obtain⟨p',m,q⟩:=r
 dsimp only at a1 a2 a3 ⊢
 by_cases hq:q > 0
 · rw[Qo hq]
   obtain⟨t1,t2⟩:=Fal.turn W a3 a2
   obtain⟨b1,b2,b3,b4⟩:=cF W _ m (by omega) a2 t1 t2
   exact⟨by omega,b2,b3,b4⟩
 · rw[Qg hq]
   have:q=0:=by omega
   subst this
   obtain⟨b1,b2,b3,b4⟩:=cF W _ m (by omega) a2 (Fal.dcr W a3) a3.og
   exact⟨by omega,b2,b3,b4⟩
theorem zYu (p:Array Nat)(hN:1<=N)(ho:Org N p 1):zUS lt N (evT lt (kas_count N p)):=by
 unfold kas_count
 rw[tQ]
 obtain⟨a1,a2,a3,a4,a5⟩:=bL W p (N - 1) 1 (by omega) (by omega) (fun i j hij hj=>by omega) ho
 generalize evT lt (kas_asc p (N - 1) 1)=n at a1 a2 a3 a4 a5
 by_cases hn:n=N
 · rw[Qo (by simpa using hn)]
   exact⟨a1,a2,a3,a4⟩
 · rw[Qg (by simpa using hn)]
   have hlt:=a5 (by omega)
   have hs:n<=p.size:=by rw[ho.sz];omega
   by_cases h1:n > 1
   · rw[Qo h1]
     show zUS lt N (evT lt (if lt (gg p 0) (gg p (n - 1))=true then .ret (n,p) else kas_descPart n N (kas_rev p 0 n)))
     cases hc:lt (gg p 0) (gg p (n - 1))
     · rw[Qg (by decide)]
       have hall:∀i j,i < j->j < n->lt (gg p i) (gg p j)=false:=fun i j hij hj=>by
         have z0:lt (gg p i) (gg p 0)=false:=by
           by_cases e:i=0
           · subst e;exact W.irr _
           · exact Lx.le W (a3 0 i (by omega) (by omega))
         have z1:lt (gg p (n - 1)) (gg p j)=false:=by
           by_cases e:j=n - 1
           · subst e;exact W.irr _
           · exact Lx.le W (a3 j (n - 1) (by omega) (by omega))
         exact W.ntr z0 (W.ntr hc z1)
       refine nC W _ n (by omega) (oC W (by omega) (by omega) (fun i j hij hj=>?_) (a4.rev (by omega)) fun i hi=>?_)
       · rw[vW hs,vW hs,Qo (by omega),Qo (by omega)]
         exact a3 _ _ (by omega) (by omega)
       · rw[vW hs,vW hs,Qg (by omega),Qo (by omega)]
         by_cases e:0+n - 1 - i=n - 1
         · rw[e];exact hlt
         · exact W.eqr hlt (hall _ _ (by omega) (by omega))
     · rw[Qo rfl]
       exact⟨a1,a2,a3,a4⟩
   · rw[Qg h1]
     have:n=1:=by omega
     subst this
     refine nC W _ 1 (by omega) (oC W (by omega) (by omega) (fun i j hij hj=>by omega) a4 fun i hi=>?_)
     have:i=0:=by omega
     subst this
     exact hlt
theorem kZ (p:Array Nat)(k:Nat)(hs:Srt lt p k):∀(f l r:Nat),l<=r->r<=k->r - l<=f->(∀i,i < l->lt (gg p k) (gg p i)=false)->(∀i,r<=i->i < k->lt (gg p k) (gg p i)=true) ->
   evT lt (kas_place p k f l r)<=k/\(∀i,i < evT lt (kas_place p k f l r)->lt (gg p k) (gg p i)=false)/\(∀i,evT lt (kas_place p k f l r)<=i->i < k->lt (gg p k) (gg p i)=true)
 | 0,l,r,h1,h2,h3,h4,h5=>⟨by show l<=k;omega,h4,fun i hi=>h5 i (by have hi:l<=i:=hi;omega)⟩
 | f+1,l,r,h1,h2,h3,h4,h5=>by
   unfold kas_place
   by_cases hge:l≥r
   · rw[Qo hge]
     exact⟨by show l<=k;omega,h4,fun i hi=>h5 i (by have hi:l<=i:=hi;omega)⟩
   · rw[Qg hge]
     show evT lt (if lt (gg p k) (gg p ((l+r) / 2))=true then kas_place p k f l ((l+r) / 2) else kas_place p k f ((l+r) / 2+1) r)<=k/\_
     cases hc:lt (gg p k) (gg p ((l+r) / 2))
     · have ih:=kZ p k hs f ((l+r) / 2+1) r (by omega) h2 (by omega) (fun i hi=>by
         by_cases e:i=(l+r) / 2
         · rw[e];exact hc
         · exact W.ntr hc (Lx.le W (hs i ((l+r) / 2) (by omega) (by omega)))) h5
       have e:evT lt (KasT.ask (p.getD k 0) (p.getD ((l+r) / 2) 0) fun c=>if c=true then kas_place p k f l ((l+r) / 2) else kas_place p k f ((l+r) / 2+1) r)=evT lt (kas_place p k f ((l+r) / 2+1) r):=by
         show evT lt (if lt (gg p k) (gg p ((l+r) / 2))=true then _ else _)=_
         rw[hc,Qg (by decide)]
       rw[e,Qg (by decide)]
       exact ih
     · have ih:=kZ p k hs f l ((l+r) / 2) (by omega) (by omega) (by omega) h4 (fun i hi hik=>by
         by_cases e:i=(l+r) / 2
         · rw[e];exact hc
         · exact W.eqr hc (Lx.le W (hs ((l+r) / 2) i (by omega) hik)))
       have e:evT lt (KasT.ask (p.getD k 0) (p.getD ((l+r) / 2) 0) fun c=>if c=true then kas_place p k f l ((l+r) / 2) else kas_place p k f ((l+r) / 2+1) r)=evT lt (kas_place p k f l ((l+r) / 2)):=by
         show evT lt (if lt (gg p k) (gg p ((l+r) / 2))=true then _ else _)=_
         rw[hc,Qo rfl]
       rw[e,Qo rfl]
       exact ih
theorem zYj:∀(f:Nat) (p:Array Nat) (k:Nat),1<=k->k+f=N->Srt lt p k->Org N p k->Srt lt (evT lt (kas_bin f p k)) N/\Org N (evT lt (kas_bin f p k)) N
 | 0,p,k,h1,hk,hs,ho=>by
   have:k=N:=by omega
   subst this
   exact⟨hs,ho⟩
 | f+1,p,k,h1,hk,hs,ho=>by
   unfold kas_bin
   rw[tQ]
   obtain⟨a1,a2,a3⟩:=kZ W p k hs k 0 k (by omega) (Qz _) (by omega) (fun i hi=>by omega) (fun i h1 h2=>by omega)
   generalize evT lt (kas_place p k k 0 k)=l at a1 a2 a3
   have hks:k < p.size:=by rw[ho.sz];omega
   have hkk:gg p k=k:=ho.hi k (Qz _) (by omega)
   refine zYj f (bubble p k (k - l)) (k+1) (by omega) (by omega) (fun i j hij hj=>?_) ⟨by rw[bubble_size];exact ho.sz,(Rk.mp (bubble_perm _ _ _)).trans ho.pm,fun j h1 h2=>?_,fun i hi=>?_⟩
   · have hlo:∀i,i < l->Lx lt (gg p i) (gg p k):=fun i hi=>Lx.of W (a2 i hi) (by rw[hkk];exact ho.lo i (by omega))
     rw[gC hks a1,gC hks a1]
     by_cases ei:i=l
     · rw[Qo ei,Qg (by omega),Qo (by omega)]
       exact .inl (a3 _ (by omega) (by omega))
     · rw[Qg ei]
       by_cases ej:j=l
       · rw[Qo ej,Qg (by omega)]
         exact hlo i (by omega)
       · rw[Qg ej]
         by_cases hi':l < i/\i<=k
         · rw[Qo hi',Qo (by omega)]
           exact hs _ _ (by omega) (by omega)
         · rw[Qg hi']
           by_cases hj':l < j/\j<=k
           · rw[Qo hj']
             exact hs _ _ (by omega) (by omega)
           · rw[Qg hj']
             exact hs _ _ (by omega) (by omega)
   · rw[gC hks a1,Qg (by omega),Qg (by omega)]
     exact ho.hi j (by omega) h2
   · rw[gC hks a1]
     by_cases e0:i=l
     · rw[Qo e0,hkk];omega
     · rw[Qg e0]
       by_cases e1:l < i/\i<=k
       · rw[Qo e1]
         have:=ho.lo (i - 1) (by omega)
         omega
       · rw[Qg e1]
         have:=ho.lo i (by omega)
         omega
theorem zYS (hN:1<=N):Org N (List.toArray (List.range N)) 1:=by
 have e:∀j,j < N->gg (List.toArray (List.range N)) j=j:=fun j hj=>by rw[qH];simp[hj]
 refine⟨by simp,by simp,fun j h1 h2=>e j h2,fun i hi=>?_⟩
 have:i=0:=by omega
 subst this
 rw[e 0 (by omega)]
 omega
theorem zZW (hN:1<=N):Srt lt (evT lt (kas_sort N)) N/\Org N (evT lt (kas_sort N)) N:=by
 unfold kas_sort
 rw[tQ]
 obtain⟨a1,a2,a3,a4⟩:=zYu W (List.toArray (List.range N)) hN (zYS W hN)
 generalize evT lt (kas_count N (List.toArray (List.range N)))=r at a1 a2 a3 a4
 obtain⟨m,p⟩:=r
 dsimp only at a1 a2 a3 a4 ⊢
 by_cases hm:m < N
 · rw[Qo hm]
   have e:max m 1=m:=by omega
   rw[e]
   exact zYj W (N - m) p m a1 (by omega) a3 a4
 · rw[Qg hm]
   have:m=N:=by omega
   subst this
   exact⟨a3,a4⟩
end
end L2
namespace L2
open PySem PySem.Spec PyProof.Rows
section
variable {prog:Program} {w:World} {A:Around} {R:Result->Shared->Prop} {s:Shared}
abbrev F0:Value->Shared->Prop:=fun _ _=>False
theorem jK {α:Type}{t:Sem α}{Q Q':α->Shared->Prop}{M:Model}{A:Around}{E:Value->Shared->Prop}{s:Shared}(h:wpAny M A t Q F0 s)(hq:∀a s,Q a s->Q' a s):wpAny M A t Q' E s:=Ei h hq fun _ _ z=>z.elim
theorem lG {elt target iter:Expr}{ifs:List Expr}{scope:Scope}{pos:Pos}{it acc:Value}{env:Env}(I:Nat->Shared->Prop)
   (turn:∀n s,I n s->wpAny (model prog w) A (pyNext it) (fun r s₁=>match r with
     | none=>R (.ok .next) s₁
     | some v=>wpAny (model prog w) A (letOwnedTupleGo target it v) (fun _ s₁=>wpAny (model prog w) A (assign target env v) (fun _ s₂ =>
         wpAny (model prog w) A (forIn ifs true fun c r=>if r=true then do let ok ←isTrue c env (eval c env);pure (ForInStep.yield ok) else pure (ForInStep.yield r)) (fun ok s₃ =>
           if ok=true then wpAny (model prog w) A (eval elt env) (fun x s₄ =>
             wpAny (model prog w) A (call (.builtin "list.append") [acc,x]) (fun _ s₅ => ∃m,m < n/\I m s₅) F0 s₄) F0 s₃
           else ∃m,m < n/\I m s₃) F0 s₂) F0 s₁) F0 s₁) F0 s)
   (n:Nat) (h:I n s) :
   codeAny (model prog w) A (.compLoop (.ListComp elt [⟨target,iter,ifs,0⟩] scope pos) 0 it acc env) R s:=by
 refine codeAny_loop rfl I (fun n s hI=>?_) n h
 show wpAny _ A ((compTurn (.ListComp elt [⟨target,iter,ifs,0⟩] scope pos) 0 it acc env).onRaise (fun x=>do noteFrame x env;theTreesLotGoes x)) _ _ s
 refine wpAny_noted ?_
 rw[compTurn_list]
 refine Qw (Rc (Qw (jK (turn n s hI) (fun r s₁ h₁=>?_))))
 cases r with
 | none=>exact Qi h₁
 | some v =>
   refine Qw (jK h₁ fun _ s₁' h₁'=>?_)
   refine Qw (jK h₁' fun _ s₂ h₂=>Qw (jK h₂ fun ok s₃ h₃ => ?_))
   cases ok with
   | false=>exact Qi ⟨rfl,h₃⟩
   | true =>
     exact Qw (Qw (jK h₃ fun x s₄ h₄ => Qw (jK h₄ fun _ s₅ h₅ => Qi (Qi ⟨rfl,h₅⟩))))
end
theorem rN {env:Env}(x:Str):∀(names:List (Str×NameKind)),
   (names.map fun(n,k)=>if (k==NameKind.free&&env.scope.kind == .function&&env.kindOf n==some .cell) then(n,NameKind.cell) else(n,k)).lookup x
     = (names.lookup x).map fun k=>if (k==NameKind.free&&env.scope.kind == .function&&env.kindOf x==some .cell)=true then NameKind.cell else k
 | []=>rfl
 | (n,k)::r=>by
   have ih:=rN (env:=env) x r
   rw[Qp]
   cases hx:x==n with
   | true =>
     have e:x=n:=eq_of_beq hx
     subst e
     by_cases hc:(k==NameKind.free&&env.scope.kind == .function&&env.kindOf x==some .cell)=true
     · simp only[hc,Yy,Wk,Yk,Ek]
     · simp only[hc,Eb,Wk,Yk,Ek,Wy]
   | false =>
     by_cases hc:(k==NameKind.free&&env.scope.kind == .function&&env.kindOf n==some .cell)=true
     · simp only[hc,Yy,Wk,hx];exact ih
     · simp only[hc,Eb,Wk,hx,Wy];exact ih
def qP (env:Env):List (Str×NameKind)->List (Str×Addr)->List (Str×Addr)
 | [],acc=>acc
 | (n,k)::r,acc=>qP env r (if k = .free then(match env.cells.lookup n with | some c=>(n,c)::acc | none=>acc) else acc)
theorem bK {env:Env}{scope:Scope}(h:∀p∈scope.names,p.2 = .free->∃c,env.cells.lookup p.1=some c):closureFor scope env=pure (qP env scope.names []):=by
 have gen:∀(l:List (Str×NameKind)) (acc:List (Str×Addr)),(∀p∈l,p.2 = .free->∃c,env.cells.lookup p.1=some c) ->
     (forIn l acc fun x r=>if (x.2==NameKind.free)=true then(do let a ←cellOf env x.1;pure (ForInStep.yield ((x.1,a)::r))) else pure (ForInStep.yield r):Sem (List (Str×Addr)))=pure (qP env l acc):=by
   intro l
   induction l with
   | nil=>intro acc _;rfl
   | cons p r ih =>
     intro acc hp
     obtain⟨n,k⟩:=p
     rw[List.forIn_cons]
     have hr:∀p∈r,p.2 = .free->∃c,env.cells.lookup p.1=some c:=fun p hm=>hp p (Qj _ hm)
     by_cases hk:k = .free
     · subst hk
       obtain⟨c,hc⟩:=hp (n,.free) Qn rfl
       have e:cellOf env n=pure c:=by unfold cellOf;rw[hc]
       simp only[Yk,Yy,e]
       show(forIn r ((n,c)::acc) _:Sem _)=_
       rw[ih _ hr]
       show _=(pure (qP env r (if NameKind.free=NameKind.free then(match env.cells.lookup n with | some c=>(n,c)::acc | none=>acc) else acc)):Sem _)
       rw[Qo rfl,hc]
     · have hb:(k==NameKind.free)=false:=by simpa using hk
       simp only[hb,Wy,Eb]
       show(forIn r acc _:Sem _)=_
       rw[ih _ hr]
       show _=(pure (qP env r (if k=NameKind.free then(match env.cells.lookup n with | some c=>(n,c)::acc | none=>acc) else acc)):Sem _)
       rw[Qg hk]
 have q:=gen scope.names [] h
 simp only[closureFor]
 rw[q]
 rfl
theorem lT {env:Env}:∀(l:List (Str×NameKind)) (acc:List (Str×Addr)),(∀x c,acc.lookup x=some c->env.cells.lookup x=some c)->∀x c,(qP env l acc).lookup x=some c->env.cells.lookup x=some c
 | [],_,h=>h
 | (n,k)::r,acc,h=>by
   refine lT r _ ?_
   by_cases hk:k = .free
   · rw[Qo hk]
     cases e:env.cells.lookup n with
     | none=>exact h
     | some c =>
       intro x c' hx
       rw[Wk] at hx
       cases q:x==n with
       | true=>rw[q] at hx;cases hx;rw[eq_of_beq q];exact e
       | false=>rw[q] at hx;exact h x c' hx
   · rw[Qg hk];exact h
theorem cK {env:Env}:∀(l:List (Str×NameKind)) (acc:List (Str×Addr)) (x:Str),(acc.lookup x).isSome=true->((qP env l acc).lookup x).isSome=true
 | [],_,_,h=>h
 | (n,k)::r,acc,x,h=>by
   refine cK r _ x ?_
   by_cases hk:k = .free
   · rw[Qo hk]
     cases e:env.cells.lookup n with
     | none=>exact h
     | some c =>
       show(List.lookup x ((n,c)::acc)).isSome=true
       rw[Wk]
       cases q:x==n with
       | true=>rfl
       | false=>exact h
   · rw[Qg hk];exact h
theorem kP {env:Env}:∀(l:List (Str×NameKind)) (acc:List (Str×Addr)),(∀p∈l,p.2 = .free->∃c,env.cells.lookup p.1=some c)->∀x,(x,NameKind.free)∈l->((qP env l acc).lookup x).isSome=true
 | [],_,_,_,h=>nomatch h
 | (n,k)::r,acc,hp,x,h=>by
   rcases Qh.mp h with e | h
   · cases e
     obtain⟨c,hc⟩:=hp (n,.free) Qn rfl
     show((qP env r (if NameKind.free=NameKind.free then(match env.cells.lookup n with | some c=>(n,c)::acc | none=>acc) else acc)).lookup n).isSome=true
     rw[Qo rfl,hc]
     exact cK r _ n (by simp[Wk])
   · exact kP r _ (fun p hm=>hp p (Qj _ hm)) x h
def sN (sc scope:Scope)(N tgs frees:List Str)(js:List Nat):Bool :=
 scope.kind == .function&&scope.names.all (fun p=>p.2 != .cell&&(p.2 != .free||sc.names.lookup p.1==some .cell||sc.names.lookup p.1==some .free)&&(p.2 != .local||scope.names.lookup p.1==some .local))
   && tgs.all (fun x=>scope.names.lookup x==some .local)&&frees.all (fun x=>scope.names.lookup x==some .free)&&(js.map fun j=>N[j]?)==frees.map some
def upC (m:Nat)(js:List Nat)(σ:St):St:=List.replicate m none++js.map fun j=>(σ[j]?).join
def y0 (X:Cx)(Nc:List Str)(scope:Scope)(C:Addr)(s₀:Shared)(H₀:Hp)(fp:List Addr):Cx where
 prog:=X.prog
 w:=X.w
 K:=X.K
 mg:=X.mg
 base:=X.base
 A:=X.A
 N:=Nc
 s₀:=s₀
 H₀:=H₀
 env:=compEnvC scope (qP X.env scope.names []) C X.env
 outer:=X.stack
 stack:=X.stack
 ex:=fp
 fn:=fun _=>false
 calm:=X.calm
 pn:=[]
 xe:=F0
def bJ (X:Cx)(ifs:List Expr)(t:TT):Prop :=
 ∀(pins:List (Addr×Obj)) (s:Shared) (σ:St) (H:Hp) (Q:Bool->Hp->Prop),Inv X pins σ H s->t σ H Q ->
   wpAny (model X.prog X.w) X.A (forIn ifs true fun c r=>if r=true then do let ok ←isTrue c X.env (eval c X.env);pure (ForInStep.yield ok) else pure (ForInStep.yield r)) (TP X pins σ Q) X.xe s
def zSZ:TT:=fun _ H Q=>Q true H
theorem zYo {X:Cx}:bJ X [] zSZ:=fun _ _ _ H _ I h=>wpAny_tests_nil ⟨H,I,h⟩
theorem zXm {X:Cx}{c:Expr}{t:TT}(h:PT X c t):bJ X [c] t:=fun pins s σ H Q I hq=>wpAny_tests_one (h pins s σ H Q I hq)
def zT5 (J:It)(m:Nat)(js:List Nat)(g:TG)(tc:TT)(te:TE)(σ:St)(H1:Hp)(Q:VK):Prop:=∀D,H1 D=none ->
 ∃W:Nat->Nat->St->Hp->Prop,(∃k,W 0 k (upC m js σ) (upd H1 D (.lst [])))/\∀i k σ' H',W i k σ' H' ->
   (J.stop i H'/\Q (.ref D) H')∨(J.go i H'/\∀x H2,J.yld i H' x H2->g x σ' H2 fun σ2 H3=>tc σ2 H3 fun b H4=>if b=true then te σ2 H4 fun y H5=>∃ys k',H5 D=some (.lst ys)/\ys.length < sizeLine/\k' < k/\W (i+1) k' σ2 (upd H5 D (.lst (ys++[y])))
     else ∃k',k' < k/\W (i+1) k' σ2 H4)
section
variable {X:Cx} {pins:List (Addr×Obj)} {σ:St} {H2:Hp} {s2:Shared} {tg elt iter:Expr} {ifs:List Expr} {scope sc:Scope} {pos:Pos} {tgs frees:List Str} {js:List Nat} {g:TG} {te:TE} {tc:TT}
theorem wM {N:List Str}(h:sN sc scope N tgs frees js=true):scope.kind = .function/\(∀p∈scope.names,p.2 ≠ .cell)/\(∀p∈scope.names,p.2 = .free->sc.names.lookup p.1=some .cell∨sc.names.lookup p.1=some .free) /\
   (∀p∈scope.names,p.2 = .local->scope.names.lookup p.1=some .local)/\(∀x∈tgs,scope.names.lookup x=some .local)/\(∀x∈frees,scope.names.lookup x=some .free)/\(js.map fun j=>N[j]?)=frees.map some:=by
 unfold sN at h
 simp only[Wt,Yl,bne_iff_ne,ne_eq,Re,Eg] at h
 obtain⟨⟨⟨⟨h1,h2⟩,h3⟩,h4⟩,h5⟩:=h
 refine⟨h1,fun p hp=>(h2 p hp).1.1,fun p hp e=>?_,fun p hp e=>?_,h3,h4,h5⟩
 · rcases(h2 p hp).1.2 with(q | q) | q
   · exact absurd e q
   · exact .inl q
   · exact .inr q
 · rcases(h2 p hp).2 with q | q
   · exact absurd e q
   · exact q
theorem aJ {C:Addr}{s3:Shared}{H3:Hp}{h4:Heap}{tk:Nat}{fp:List Addr}{m0:Str->Option Value}(I:Inv X pins σ H3 s3)(f3:∀b∈fp,lD X pins H3 b)(ofp:∀b∈fp,b < s3.heap.objs.size)
   (hsc:X.env.scope=sc) (hok:sN sc scope X.N tgs frees js=true) (hC:C=s3.heap.objs.size) (hk:∀b o,s3.heap.get? b=some o->h4.get? b=some o) (hn:h4.Ns C m0) :
   Inv (y0 X (tgs++frees) scope C s3 H3 fp) [] (upC tgs.length js σ) H3 { s3 with heap:=h4,toks:=tk }:=by
 obtain⟨k1,k2,k3,k4,k5,k6,k7⟩:=wM hok
 have hcl:∀x c,(qP X.env scope.names []).lookup x=some c->X.env.cells.lookup x=some c:=lT scope.names [] (fun _ _ z=>nomatch z)
 have hfr:∀p∈scope.names,p.2 = .free->∃c,X.env.cells.lookup p.1=some c:=fun p hp e=>I.ok.has p.1 (by
   show X.env.scope.names.lookup p.1=_∨X.env.scope.names.lookup p.1=_
   rw[hsc];exact k3 p hp e)
 have rl:∀x,(relabel scope X.env).names.lookup x=(scope.names.lookup x).map fun k=>if (k==NameKind.free&&X.env.scope.kind == .function&&X.env.kindOf x==some .cell)=true then NameKind.cell else k:=fun x=>rN x scope.names
 have hasc:∀x,((relabel scope X.env).names.lookup x=some .cell∨(relabel scope X.env).names.lookup x=some .free)->∃c,(qP X.env scope.names []).lookup x=some c:=fun x hx=>by
   rw[rl x] at hx
   cases e:scope.names.lookup x with
   | none=>rw[e] at hx;simp at hx
   | some k =>
     have hm:=Wz e
     have hkf:k = .free:=by
       rw[e] at hx
       simp only[Ek,Option.some.injEq] at hx
       by_cases q:k = .free
       · exact q
       · have hb:(k==NameKind.free)=false:=by simpa using q
         rw[hb] at hx
         simp only[Bool.false_and,Wy,Eb] at hx
         rcases hx with z | z
         · exact absurd z (k2 _ hm)
         · exact z
     subst hkf
     exact Eo.mp (kP scope.names [] hfr x hm)
 have cfr:∀x c,X.env.cells.lookup x=some c->c≠C:=fun x c e z=>by
   obtain⟨v,q⟩:=I.cell x c e
   exact absurd (z ▸ q.lt) (by rw[hC];exact Wf _)
 have base0:∀b o,X.base.get? b=some o->b∉fp:=fun b o e hb=>by
   obtain⟨_,_,_,q,_⟩:=f3 b hb
   rcases q with q | q
   · exact I.ok.noex b o e q
   · exact absurd (Qx (Qu (I.ok.bs b o e).1) q) (Wf _)
 have stk:∀b∈fp,b∉frs X.stack:=fun b hb z=>by
   obtain⟨_,q1,q2,_⟩:=f3 b hb
   rcases Qh.mp (I.stkSub b z) with e | e
   · exact q1 e
   · exact q2 e
 refine⟨⟨I.ok.mod,k1,I.ok.glob,I.ok.blt,by rw[hC];exact Qz _,fun x y c e1 e2=>I.ok.inj x y c (hcl x c e1) (hcl y c e2),hasc,(fun x c z _=>nomatch z),I.ok.hd,I.ok.frames,.inl rfl,
     fun b hb=>⟨fun z=>absurd (ofp b hb) (by rw[show b=C from z,hC];exact Wf _),fun x c e=>(f3 b hb).2.2.2.2.1 x c (hcl x c e)⟩,
     fun b o e=>I.bs b o e,We I.ok.bsz I.sz,base0,stk,I.stack,I.stkFree⟩,
   rfl,I.bare,Un.kept hk,⟨m0,hn,fun i x v e1 e2 e3=>?_⟩,fun x c e=>?_,I.hok.fresh (by rw[show(y0 X (tgs++frees) scope C s3 H3 fp).env.locals=C from rfl,hC];exact Qz _),fun x c e=>I.freeC x c (hcl x c e),
   fun p hp=>absurd (show p∈([]:List (Addr×Obj)) from hp) (by simp),I.hok.kept hk,?_⟩
 · -- a name's value
   have hi:tgs.length<=i:=by
     refine Nat.le_of_not_lt fun hlt=>?_
     have e2:(upC tgs.length js σ)[i]?=some (some v):=e2
     unfold upC at e2
     rw[Ws (by simpa using hlt),Wj] at e2
     split at e2<;>cases e2
   have e2:(upC tgs.length js σ)[i]?=some (some v):=e2
   unfold upC at e2
   rw[Wu (by simpa using hi),Ti,Wi] at e2
   have e1:(tgs++frees)[i]?=some x:=e1
   rw[Wu hi] at e1
   obtain⟨j,ej,e2⟩:=Qt.mp e2
   have hj:X.N[j]?=some x:=by
     have q:=Eh (fun l=>l[i - tgs.length]?) k7
     simp only[Wi,ej,e1,Ek] at q
     exact Qv q
   have hσ:σ[j]?=some (some v):=by
     cases q:σ[j]? with
     | none=>rw[q] at e2;cases e2
     | some o=>rw[q] at e2;exact Eh some e2
   have hf:scope.names.lookup x=some .free:=k6 x (Tk e1)
   have hX:X.env.kindOf x=some .cell∨X.env.kindOf x=some .free:=by
     show X.env.scope.names.lookup x=_∨X.env.scope.names.lookup x=_
     rw[hsc];exact k3 _ (Wz hf) rfl
   obtain⟨m,_,hl⟩:=I.loc
   obtain⟨u,r,l⟩:=hl j x v hj hσ (by
     rcases hX with q | q
     · exact .inr (.inl q)
     · exact .inr (.inr q))
   refine⟨u,r,.inr ⟨?_,?_⟩⟩
   · show(relabel scope X.env).names.lookup x=_∨(relabel scope X.env).names.lookup x=_
     rw[rl x,hf]
     by_cases q:(NameKind.free==NameKind.free&&X.env.scope.kind == .function&&X.env.kindOf x==some .cell)=true
     · exact .inl (by rw[Ek,Qo q])
     · exact .inr (by rw[Ek,Qg q])
   · rcases l with⟨q,_⟩ | ⟨_,c,ec,hcell⟩
     · rcases hX with z | z<;>(rw[z] at q;cases q)
     · obtain⟨c',ec'⟩:=Eo.mp (kP scope.names [] hfr x (Wz hf))
       have e:c'=c:=Qv ((hcl x c' ec').symm.trans ec)
       subst e
       obtain⟨o,ho,hd⟩:=hcell
       exact⟨c',ec',o,hk _ _ ho,hd⟩
 · obtain⟨v,o,ho,hd⟩:=I.cell x c (hcl x c e)
   exact⟨v,o,hk _ _ ho,hd⟩
 · show(upC tgs.length js σ).length=(tgs++frees).length
   have q:=Eh List.length k7
   rw[Qa,Qa] at q
   unfold upC
   rw[Ql,Ti,Qa,Ql,q]
theorem kW {J:It}{fp:List Addr}{it:Addr}{tn:Nat->Heap->Prop}{RR:Value->Addr->Result->Shared->Prop}{E:Value->Shared->Prop}{Q:VK}
   (I2:Inv X pins σ H2 s2) (T:Turn X.prog X.w X.K tg J fp it tn) (st2:tn 0 s2.heap) (f2:∀b∈fp,lD X pins H2 b) (hc:X.calm=true)
   (hsc:X.env.scope=sc) (hok:sN sc scope X.N tgs frees js=true)
   (hg:∀C s₀ H₀ fp,PG (y0 X (tgs++frees) scope C s₀ H₀ fp) tg g) (hi:∀C s₀ H₀ fp,bJ (y0 X (tgs++frees) scope C s₀ H₀ fp) ifs tc) (he:∀C s₀ H₀ fp,PE (y0 X (tgs++frees) scope C s₀ H₀ fp) elt te)
   (hw:zT5 J tgs.length js g tc te σ H2 Q)
   (hRR:∀D C s' H' m,Inv X pins σ H' s'->Q (.ref D) H'->lD X pins H' C->s'.heap.Ns C m->RR (.ref D) C (.ok .next) s') :
   wpAny (model X.prog X.w) X.A (newList []) (fun acc s₃ => wpAny (model X.prog X.w) X.A (newFunctionEnv scope X.env.globals (qP X.env scope.names []) [] X.env.qual none .none (some X.env)) (fun cenv s₄ =>
     codeAny (model X.prog X.w) X.A (.compStart (.ListComp elt [⟨tg,iter,ifs,0⟩] scope pos) 0 (.ref it) acc { cenv with scope:=relabel scope X.env }) (RR acc cenv.locals) s₄) E s₃) E s2:=by
 obtain⟨k1,k2,k3,k4,k5,k6,k7⟩:=wM hok
 refine Ru (wpAny_newFunctionEnv k2 (by intro y hy;simp at hy) (fun h4 hn4 hs4=>?_) k1)
 dsimp only at hn4 hs4 ⊢
 generalize hh3:s2.heap.push { cls:=.type "list",dict:=none,data:=.seq ([]:List Value).toArray }=h3 at hn4 hs4 ⊢
 generalize hD:s2.heap.objs.size=D
 have hDn:H2 D=none:=by rw[←hD];exact I2.fresh
 have hsz3:h3.objs.size=D+1:=by rw[←hh3,Rz,hD]
 have keep23:∀b o,s2.heap.get? b=some o->h3.get? b=some o:=fun b o e=>by rw[←hh3];exact Qr _ e
 have keep34:∀b o,h3.get? b=some o->h4.get? b=some o:=fun b o e=>hs4.extBut b o (Qb (Qu e)) (Qr _ e)
 have I3:Inv X pins σ (upd H2 D (.lst [])) { s2 with heap:=h3 }:=by
   have q:=I2.lnew (its:=[]) (ys:=[]) (t':=s2.toks) .nil (Wl _)
   rw[hD] at q
   rw[←hh3]
   exact q
 have nfp:∀b∈fp,b≠D:=fun b hb z=>by
   obtain⟨o,e,_⟩:=T.obj 0 _ st2 b hb
   exact absurd (Qu e) (by rw[z,hD];exact Wf _)
 have f3:∀b∈fp,lD X pins (upd H2 D (.lst [])) b:=fun b hb=>by
   obtain⟨q0,q⟩:=f2 b hb
   exact⟨by rw[zO (nfp b hb)];exact q0,q⟩
 have ofp:∀b∈fp,b < h3.objs.size:=fun b hb=>by
   obtain⟨o,e,_⟩:=T.obj 0 _ st2 b hb
   exact Qu (keep23 b o e)
 obtain⟨W,⟨n0,w0⟩,turn⟩:=hw D hDn
 have loop:∀s4:Shared,s4={ s2 with heap:=h4,toks:=s2.toks+([]:List (Str×Value)).length } ->
     codeAny (model X.prog X.w) X.A (.compLoop (.ListComp elt [⟨tg,iter,ifs,0⟩] scope pos) 0 (.ref it) (.ref D) (compEnvC scope (qP X.env scope.names []) h3.objs.size X.env)) (RR (.ref D) h3.objs.size) s4:=by
   rintro s4 rfl
   generalize hX':y0 X (tgs++frees) scope h3.objs.size { s2 with heap:=h3 } (upd H2 D (.lst [])) fp=X'
   have I4:Inv X' [] (upC tgs.length js σ) (upd H2 D (.lst [])) { s2 with heap:=h4,toks:=s2.toks+([]:List (Str×Value)).length }:=by
     rw[←hX']
     exact aJ (s3:={ s2 with heap:=h3 }) I3 f3 ofp hsc hok rfl keep34 hn4
   have eP:X'.prog=X.prog:=by rw[←hX'];rfl
   have eW:X'.w=X.w:=by rw[←hX'];rfl
   have eK:X'.K=X.K:=by rw[←hX'];rfl
   have eA:X'.A=X.A:=by rw[←hX'];rfl
   have eC:X'.calm=true:=by rw[←hX'];exact hc
   have T':Turn X'.prog X'.w X'.K tg J fp it tn:=by rw[eP,eW,eK];exact T
   have eE:X'.env=compEnvC scope (qP X.env scope.names []) h3.objs.size X.env:=by rw[←hX'];rfl
   have eX:X'.xe=F0:=by rw[←hX'];rfl
   have stat:∀ {H':Hp},(∀b∈fp,H' b=none)->∀b∈fp,lD X' [] H' b:=fun {H'} hn b hb=>by
     obtain⟨_,q1,q2,q3,q4,q5⟩:=f3 b hb
     rw[←hX']
     refine⟨hn b hb,?_,?_,.inl hb,fun x c e=>?_,fun p hp=>absurd (show p∈([]:List (Addr×Obj)) from hp) (by simp)⟩
     · exact fun z=>absurd (ofp b hb) (by rw[show b=h3.objs.size from z];exact Wf _)
     · intro z
       rcases Qh.mp (I3.stkSub b z) with e | e
       · exact q1 e
       · exact q2 e
     · exact q4 x c (lT scope.names [] (fun _ _ z=>nomatch z) x c e)
   have hgX:PG X' tg g:=by rw[←hX'];exact hg _ _ _ _
   have hiX:bJ X' ifs tc:=by rw[←hX'];exact hi _ _ _ _
   have heX:PE X' elt te:=by rw[←hX'];exact he _ _ _ _
   refine lG (fun n s'=>∃i σ' H',Inv X' [] σ' H' s'/\tn i s'.heap/\(∀b∈fp,H' b=none)/\W i n σ' H') ?_ n0 ⟨0,_,_,I4,T.keep 0 _ _ st2 (fun b _ o e=>keep34 b o (keep23 b o e)),fun b hb=>(f3 b hb).1,w0⟩
   rintro n s5 ⟨i,σ5,H5,I5,st5,fr5,w5⟩
   rw[←eP,←eW,←eE,←eA]
   rcases turn i n σ5 H5 w5 with⟨stop,qn⟩ | ⟨go,step⟩
   · refine thn (T'.done X' rfl rfl rfl eC i [] s5 σ5 H5 F0 I5 (stat fr5) st5 stop) fun r s6 ⟨hr,I6⟩=>?_
     subst hr
     have un:Un (frs X.stack) fp H2 H5 s2.heap s6.heap:=by
       have u1:Un (frs X.stack) fp H2 (upd H2 D (.lst [])) s2.heap h3:=Un.laid keep23 (Ya hD) hDn
       have u2:=I6.base
       rw[←hX'] at u2
       exact u1.trans u2
     have hpx:HOk X.prog X.w H5 s6.heap:=by have q:=I6.hok;rw[eP,eW] at q;exact q
     have hos:s6.os=s2.os:=by have q:=I6.os;rw[←hX'] at q;exact q
     have IX:Inv X pins σ H5 s6:=I2.call' (ch:=fp) hos un hpx I6.bare fun b hb=>⟨(f2 b hb).2.2.2.1,(f2 b hb).2.1,(f2 b hb).2.2.2.2.1,(f2 b hb).2.2.2.2.2⟩
     obtain⟨m,hm,_⟩:=I6.loc
     have hloc:X'.env.locals=h3.objs.size:=by rw[eE];rfl
     rw[hloc] at hm
     have hle:s2.heap.objs.size<=h3.objs.size:=by rw[hD,hsz3];exact Rv _
     refine hRR D h3.objs.size s6 H5 m IX qn (I2.fpOk hle ?_) hm
     have q:=I6.free
     rw[hloc] at q
     exact q
   · refine thn (T'.item X' rfl rfl rfl eC i [] s5 σ5 H5 F0 I5 (stat fr5) st5 go) fun r s6 ⟨u,hr,h6⟩=>?_
     subst hr
     refine thn h6 fun _ s7 ⟨x,H7,I7,r7,y7,st7,fr7⟩=>?_
     have I7':=I7.pinned (stat fr7) (T.obj _ _ st7)
     have xe0:X'.xe=F0:=eX
     have conv:∀ {α:Type} {t:Sem α} {Q:α->Shared->Prop} {s:Shared},wpAny (model X'.prog X'.w) X'.A t Q X'.xe s->wpAny (model X'.prog X'.w) X'.A t Q F0 s:=fun h=>by rw[xe0] at h;exact h
     refine thn (conv (hgX _ s7 σ5 H7 x u _ I7' r7 (step x H7 y7))) fun _ s8 ⟨σ8,H8,I8,q8⟩=>?_
     refine thn (conv (hiX _ s8 σ8 H8 _ I8 q8)) fun ok s9 ⟨H9,I9,q9⟩=>?_
     have again:∀ {σz:St} {Hz:Hp} {sz:Shared} {k':Nat},Inv X' ([]++jX fp s7.heap) σz Hz sz->k' < n->W (i+1) k' σz Hz->∃m,m < n/\∃i σ' H',Inv X' [] σ' H' sz/\tn i sz.heap/\(∀b∈fp,H' b=none)/\W i m σ' H':=fun {σz Hz sz k'} Iz hk wz=>by
       refine⟨k',hk,i+1,σz,Hz,Iz.unpinned,T.keep _ _ _ st7 fun b hb o e=>(Iz.pin (b,o) (Wq _ (Wq _ (sT hb e)))).1,fun b hb=>?_,wz⟩
       obtain⟨o,e,d⟩:=T.obj _ _ st7 b hb
       exact(Iz.pin (b,o) (Wq _ (Wq _ (sT hb e)))).2.1
     cases ok with
     | false =>
       rw[Qg (by decide)] at q9
       rw[Qg (by decide)]
       obtain⟨k',hk,wz⟩:=q9
       exact again I9 hk wz
     | true =>
       rw[Qo rfl] at q9
       rw[Qo rfl]
       refine thn (conv (heX _ s9 σ8 H9 _ I9 q9)) fun v s10 ⟨y,H10,I10,r10,ys,k',hys,hl,hk,wz⟩=>?_
       refine thn (conv (zZa (X:=X') _ s10 σ8 H10 (.ref D) [y] (.ref D) [v] (fun z Hz=>W (i+1) k' σ8 Hz) I10 rfl (.cons r10 .nil) ⟨D,ys,y,rfl,rfl,hys,hl,wz⟩)) fun _ s11 ⟨_,H11,I11,_,q11⟩=>?_
       exact again I11 hk q11
 rw[show s2.heap.objs.size=D from hD] at *
 exact codeAny_compStart_list (loop _ rfl) (T.self _ 0 _ _ _ (T.keep 0 _ _ st2 fun b _ o e=>keep34 b o (keep23 b o e)) (loop _ rfl))
def zX2 (wi:TI)(m:Nat)(js:List Nat)(g:TG)(tc:TT)(te:TE):TE:=fun σ H Q=>wi σ H fun J H1=>zT5 J m js g tc te σ H1 Q
theorem lM (ok:X.Ok)(hsc:X.env.scope=sc)(hok:sN sc scope X.N tgs frees js=true):closureFor scope X.env=pure (qP X.env scope.names []) :=
 bK fun p hp e=>ok.has p.1 (by
   show X.env.scope.names.lookup p.1=_∨X.env.scope.names.lookup p.1=_
   rw[hsc];exact(wM hok).2.2.1 p hp e)
theorem zWJ (sc:Scope)(tgs frees:List Str)(js:List Nat){wi:TI}(hp:PI X tg iter wi)(hc:X.calm=true)(hsc:X.env.scope=sc)(hok:sN sc scope X.N tgs frees js=true)
   (hg:∀C s₀ H₀ fp,PG (y0 X (tgs++frees) scope C s₀ H₀ fp) tg g) (hi:∀C s₀ H₀ fp,bJ (y0 X (tgs++frees) scope C s₀ H₀ fp) ifs tc) (he:∀C s₀ H₀ fp,PE (y0 X (tgs++frees) scope C s₀ H₀ fp) elt te)
   (hs:∀x,foldedSetIterable iter X.env x=pure x:=by intro _;rfl) :
   PE X (.ListComp elt [⟨tg,iter,ifs,0⟩] scope pos) (zX2 wi tgs.length js g tc te):=by
 intro pins s σ H Q I h
 obtain⟨k1,k2,k3,k4,k5,k6,k7⟩:=wM hok
 rw[eval_ListComp]
 refine wpAny_comprehension_free (use:=none) rfl hs (lM I.ok hsc hok) k1 k4 (thn (hp pins s σ H _ I h) fun v s1 h1=>thn h1 fun itv s2 h2=>?_)
 obtain⟨it,fp,tn,J,H2,e,I2,T,st2,f2,hw⟩:=h2
 subst e
 refine kW (RR:=fun acc C=>compPost (model X.prog X.w) X.A X.xe none (EP X pins σ Q) acc C) I2 T st2 f2 hc hsc hok hg hi he hw ?_
 intro D C s' H' m I' q fC hn
 refine⟨m,hn,fun h' hs'=>⟨.ref D,H',?_,rfl,q⟩⟩
 obtain⟨c0,c1,c2,c3,c4,c5⟩:=fC
 exact I'.turned (t':=s'.toks) (fun b o hb e=>hs'.extBut b o hb e) c0 c1 c3 c4 c5
theorem aK (sc:Scope)(tgs frees:List Str)(js:List Nat){wi:TI}{i:Nat}{x:Str}{pos' spos:Pos}(hN:X.N.Nodup)(hx:X.N[i]?=some x)(hl:X.env.scope.names.lookup x=some .local)
   (hp:PI X tg iter wi) (hc:X.calm=true) (hsc:X.env.scope=sc) (hok:sN sc scope X.N tgs frees js=true)
   (hg:∀C s₀ H₀ fp,PG (y0 X (tgs++frees) scope C s₀ H₀ fp) tg g) (hi:∀C s₀ H₀ fp,bJ (y0 X (tgs++frees) scope C s₀ H₀ fp) ifs tc) (he:∀C s₀ H₀ fp,PE (y0 X (tgs++frees) scope C s₀ H₀ fp) elt te)
   (hsw:swapsWith (.ListComp elt [⟨tg,iter,ifs,0⟩] scope pos) (some (.Name x pos')) spos.line X.env=pure true:=by with_unfolding_all rfl) (hs:∀x,foldedSetIterable iter X.env x=pure x:=by intro _;rfl) :
   PS X (.Assign [.Name x pos'] (.ListComp elt [⟨tg,iter,ifs,0⟩] scope pos) spos) (zZz (zX2 wi tgs.length js g tc te) (dQ i)):=by
 intro pins s σ H D I h
 obtain⟨k1,k2,k3,k4,k5,k6,k7⟩:=wM hok
 rw[exec_Assign_Name_used _ _ _ _ hsw]
 refine Qw (Rc (Qw ?_))
 show wpAny _ X.A (do let _ ←comprehension (.ListComp elt [⟨tg,iter,ifs,0⟩] scope pos) scope X.env _ (newList []) false (eval iter X.env) (some (assign (.Name x pos') X.env))) _ _ s
 refine Qw (Ei (wpAny_comprehension_free (use:=some (assign (.Name x pos') X.env)) (Q:=fun _ s'=>SP X pins D .next s') rfl hs (lM I.ok hsc hok) k1 k4
   (thn (hp pins s σ H _ I h) fun v s1 h1=>thn h1 fun itv s2 h2=>?_)) (fun _ s' hq=>Qi (Qi hq)) fun _ _ e=>e)
 obtain⟨it,fp,tn,J,H2,e,I2,T,st2,f2,hw⟩:=h2
 subst e
 refine kW (RR:=fun acc C=>compPost (model X.prog X.w) X.A X.xe (some (assign (.Name x pos') X.env)) (fun _ s'=>SP X pins D .next s') acc C) I2 T st2 f2 hc hsc hok hg hi he hw ?_
 intro D' C s' H' m I' q fC hn
 obtain⟨c0,c1,c2,c3,c4,c5⟩:=fC
 show wpAny _ X.A (assign (.Name x pos') X.env (.ref D')) _ _ _
 refine wpAny_assign_Name (nH (v:=V.ref D') I' hN hx (.inl hl) rfl (fun s3 I3 hb=>?_) (.inr hl))
 obtain⟨a,sb,ha⟩:=hb
 have hCa:C≠a:=by
   rcases ha with z | z
   · rw[z];exact c1
   · exact(c4 x a z).symm
 refine⟨m,hn.sameBut sb hCa,fun h' hs'=>⟨_,H',I3.turned (t':=s3.toks) (fun b o hb e=>hs'.extBut b o hb e) c0 c1 c3 c4 c5,q⟩⟩
end
inductive KT where
 | int (i:Int) | tup (l:List KT)
instance:DecidableEq KT:=fun _ _=>Classical.propDecidable _
def zTz:KT->Int
 | .int i=>hashInt i
 | .tup _=>0
def hK:Nat->KT->Int
 | n+1,.tup ks=>reduceHash (Builtin.Tuple.tupleHashOf (ks.map (hK n)))
 | _,k=>zTz k
def zV0:List KT->List Addr->List Value->List DictEntry
 | k::ks,a::as,u::us=>⟨hK 8 k,.ref a,u⟩::zV0 ks as us
 | _,_,_=>[]
def zTy (a:Addr)(ks:List KT)(as:List Addr)(vs:List V):Heap->Prop:=fun h =>
 ∃us,Vals vs us/\∃o es ep,h.get? a=some o/\o.ExactDict/\o.data = .dict es ep/\es.toList=zV0 ks as us
inductive D where
 | non | bl (b:Bool) | int (i:Int) | str (x:Str) | tup (ds:List D) | lst (ds:List D) | obj (c:Str) (ns:List Str) (ds:List D)
 /-- an exception of an own class -/
 | exc (c:Str) (ns:List Str) (ds:List D)
 /-- a dict whose keys are tuples of ints and texts -/
 | dct (ks:List (List Key)) (ds:List D)
 deriving Inhabited
theorem Same.tup {K:PySem.W.Frag}{H H':Hp}{a:Addr}{xs:List V}(e:Same H H')(h:SqT K H a xs):SqT K H' a xs:=by
 rcases h with(h | ⟨o,h⟩) | h
 · exact .inl (.inl (e _ _ h))
 · exact .inl (.inr ⟨o,e _ _ h⟩)
 · exact .inr h
def ClsAt (K:PySem.W.Frag)(c:Str)(C:Addr):Prop:=PySem.W.nsIn K mainGlobals c=some (some (.ref C))
theorem ClsAt.one {K:PySem.W.Frag}{c:Str}{C C':Addr}(h:ClsAt K c C)(h':ClsAt K c C'):C'=C:=by
 have:=h.symm.trans h'
 cases this;rfl
def Xe (C a:Addr)(od:Option Addr):Heap->Prop:=fun h=>∃fs,h.get? a=some { cls:=.ref C,dict:=od,data:=.fields fs }
def Xd (dx:Addr)(fs:List (Str×V)):Heap->Prop:=fun h=>∃mA,h.Ns1 dx mA/\∀f,RelO (fs.lookup f) (mA f)
def XD (G:Hp):Option Addr->List (Str×V)->Prop
 | none,fs=>fs=[]
 | some dx,fs=>G dx=some (.ext (Xd dx fs))
theorem XD.mono {G G':Hp}(e:Same G G'):∀ {od:Option Addr} {fs:List (Str×V)},XD G od fs->XD G' od fs
 | none,_,h=>h
 | some _,_,h=>e _ _ h
mutual
def Rep (K:PySem.W.Frag)(G:Hp):D->V->Prop
 | .non,v=>v = .non
 | .bl b,v=>v = .bl b
 | .int i,v=>v = .int i
 | .str x,v=>v = .str x
 | .tup ds,v=>∃a vs,v = .ref a/\SqT K G a vs/\Reps K G ds vs
 | .lst ds,v=>∃a vs,v = .ref a/\SqL K G a vs/\Reps K G ds vs
 | .obj c ns ds,v=>∃C a dx vs,ClsAt K c C/\v = .ref a/\G a=some (.ins C dx (ns.zip vs))/\ns.length=ds.length/\Reps K G ds vs
 | .exc c ns ds,v=>∃C a od vs,ClsAt K c C/\v = .ref a/\G a=some (.ext (Xe C a od))/\XD G od (ns.zip vs)/\ns.length=ds.length/\Reps K G ds vs
 | .dct ks ds,v=>∃a vs,v = .ref a/\G a=some (.dT (ks.zip vs))/\ks.length=ds.length/\Reps K G ds vs
def Reps (K:PySem.W.Frag)(G:Hp):List D->List V->Prop
 | [],vs=>vs=[]
 | d::r,vs=>∃v vr,vs=v::vr/\Rep K G d v/\Reps K G r vr
end
section
variable {K:PySem.W.Frag} {G G':Hp}
mutual
theorem Rep.mono (e:Same G G'):∀(d:D) (v:V),Rep K G d v->Rep K G' d v
 | .non,_,h=>by unfold Rep at h ⊢;exact h
 | .bl _,_,h=>by unfold Rep at h ⊢;exact h
 | .int _,_,h=>by unfold Rep at h ⊢;exact h
 | .str _,_,h=>by unfold Rep at h ⊢;exact h
 | .tup ds,_,h=>by
   unfold Rep at h ⊢
   obtain⟨a,vs,h1,h2,h3⟩:=h
   exact⟨a,vs,h1,e.tup h2,Reps.mono e ds vs h3⟩
 | .lst ds,_,h=>by
   unfold Rep at h ⊢
   obtain⟨a,vs,h1,h2,h3⟩:=h
   exact⟨a,vs,h1,e.seq h2,Reps.mono e ds vs h3⟩
 | .obj C ns ds,_,h=>by
   unfold Rep at h ⊢
   obtain⟨C,a,dx,vs,h0,h1,h2,h4,h3⟩:=h
   exact⟨C,a,dx,vs,h0,h1,e _ _ h2,h4,Reps.mono e ds vs h3⟩
 | .exc C ns ds,_,h=>by
   unfold Rep at h ⊢
   obtain⟨C,a,od,vs,h0,h1,h2,h5,h4,h3⟩:=h
   exact⟨C,a,od,vs,h0,h1,e _ _ h2,h5.mono e,h4,Reps.mono e ds vs h3⟩
 | .dct ks ds,_,h=>by
   unfold Rep at h ⊢
   obtain⟨a,vs,h1,h2,h4,h3⟩:=h
   exact⟨a,vs,h1,e _ _ h2,h4,Reps.mono e ds vs h3⟩
theorem Reps.mono (e:Same G G'):∀(ds:List D) (vs:List V),Reps K G ds vs->Reps K G' ds vs
 | [],_,h=>by unfold Reps at h ⊢;exact h
 | d::r,_,h=>by
   unfold Reps at h ⊢
   obtain⟨v,vr,h1,h2,h3⟩:=h
   exact⟨v,vr,h1,Rep.mono e d v h2,Reps.mono e r vr h3⟩
end
theorem uR {v:V}:Rep K G .non v↔v = .non:=by unfold Rep;exact Iff.rfl
theorem wW {b:Bool}{v:V}:Rep K G (.bl b) v↔v = .bl b:=by unfold Rep;exact Iff.rfl
theorem zJ {i:Int}{v:V}:Rep K G (.int i) v↔v = .int i:=by unfold Rep;exact Iff.rfl
theorem yS {x:Str}{v:V}:Rep K G (.str x) v↔v = .str x:=by unfold Rep;exact Iff.rfl
theorem xZ {ds:List D}{v:V}:Rep K G (.tup ds) v↔∃a vs,v = .ref a/\SqT K G a vs/\Reps K G ds vs:=by
 constructor<;>(intro h;unfold Rep at *;exact h)
theorem yW {ds:List D}{v:V}:Rep K G (.lst ds) v↔∃a vs,v = .ref a/\SqL K G a vs/\Reps K G ds vs:=by
 constructor<;>(intro h;unfold Rep at *;exact h)
theorem qY {c:Str}{ns:List Str}{ds:List D}{v:V}:Rep K G (.obj c ns ds) v↔∃C a dx vs,ClsAt K c C/\v = .ref a/\G a=some (.ins C dx (ns.zip vs))/\ns.length=ds.length/\Reps K G ds vs:=by
 constructor<;>(intro h;unfold Rep at *;exact h)
theorem gR {c:Str}{ns:List Str}{ds:List D}{v:V}:Rep K G (.exc c ns ds) v↔∃C a od vs,ClsAt K c C/\v = .ref a/\G a=some (.ext (Xe C a od))/\XD G od (ns.zip vs)/\ns.length=ds.length/\Reps K G ds vs:=by
 constructor<;>(intro h;unfold Rep at *;exact h)
theorem hW {ks:List (List Key)}{ds:List D}{v:V}:Rep K G (.dct ks ds) v↔∃a vs,v = .ref a/\G a=some (.dT (ks.zip vs))/\ks.length=ds.length/\Reps K G ds vs:=by
 constructor<;>(intro h;unfold Rep at *;exact h)
theorem zM {vs:List V}:Reps K G [] vs↔vs=[]:=by unfold Reps;exact Iff.rfl
theorem zR {d:D}{r:List D}{vs:List V}:Reps K G (d::r) vs↔∃v vr,vs=v::vr/\Rep K G d v/\Reps K G r vr:=by
 rw[Reps]
theorem Reps.length:∀ {ds:List D} {vs:List V},Reps K G ds vs->ds.length=vs.length
 | [],_,h=>by rw[zM] at h;rw[h];rfl
 | d::r,_,h=>by
   rw[zR] at h
   obtain⟨v,vr,rfl,_,h3⟩:=h
   rw[Qs,Qs,Reps.length h3]
theorem Reps.get:∀ {ds:List D} {vs:List V} {i:Nat} {d:D},Reps K G ds vs->ds[i]?=some d->∃v,vs[i]?=some v/\Rep K G d v
 | [],_,_,_,_,e=>by simp at e
 | d::r,_,0,_,h,e=>by
   rw[zR] at h
   obtain⟨v,vr,rfl,h2,h3⟩:=h
   simp at e;subst e
   exact⟨v,rfl,h2⟩
 | d::r,_,i+1,_,h,e=>by
   rw[zR] at h
   obtain⟨v,vr,rfl,h2,h3⟩:=h
   obtain⟨u,e1,e2⟩:=Reps.get h3 (by simpa using e)
   exact⟨u,by simpa using e1,e2⟩
theorem Reps.snoc:∀ {ds:List D} {vs:List V} {d:D} {v:V},Reps K G ds vs->Rep K G d v->Reps K G (ds++[d]) (vs++[v])
 | [],_,d,v,h,r=>by
   rw[zM] at h;subst h
   exact zR.mpr ⟨v,[],rfl,r,zM.mpr rfl⟩
 | e::t,_,d,v,h,r=>by
   rw[zR] at h
   obtain⟨u,vr,rfl,h2,h3⟩:=h
   exact zR.mpr ⟨u,vr++[v],rfl,h2,h3.snoc r⟩
theorem Reps.append:∀ {ds es:List D} {vs us:List V},Reps K G ds vs->Reps K G es us->Reps K G (ds++es) (vs++us)
 | [],_,_,_,h,r=>by rw[zM] at h;subst h;exact r
 | e::t,_,_,us,h,r=>by
   rw[zR] at h
   obtain⟨u,vr,rfl,h2,h3⟩:=h
   exact zR.mpr ⟨u,vr++us,rfl,h2,h3.append r⟩
theorem Reps.take:∀ {ds:List D} {vs:List V} (n:Nat),Reps K G ds vs->Reps K G (ds.take n) (vs.take n)
 | _,_,0,_=>by rw[Uy,Uy];exact zM.mpr rfl
 | [],_,_+1,h=>by rw[zM] at h;subst h;exact zM.mpr rfl
 | e::t,_,n+1,h=>by
   rw[zR] at h
   obtain⟨u,vr,rfl,h2,h3⟩:=h
   exact zR.mpr ⟨u,vr.take n,rfl,h2,h3.take n⟩
theorem Reps.drop:∀ {ds:List D} {vs:List V} (n:Nat),Reps K G ds vs->Reps K G (ds.drop n) (vs.drop n)
 | _,_,0,h=>h
 | [],_,_+1,h=>by rw[zM] at h;subst h;exact zM.mpr rfl
 | e::t,_,n+1,h=>by
   rw[zR] at h
   obtain⟨u,vr,rfl,h2,h3⟩:=h
   exact h3.drop n
end
def fB:HO->Bool | .tup _=>false | _=>true
structure Step (G H G' H':Hp):Prop where
 hh:Same H H'
 gg:Same G G'
 sub:Same G' H'
 new:∀a o,H a=some o->fB o=true->G' a=G a
theorem Step.refl {G H:Hp}(h:Same G H):Step G H G H:=⟨Same.refl _,Same.refl _,h,fun _ _ _ _=>rfl⟩
theorem Step.trans {G H G1 H1 G2 H2:Hp}(a:Step G H G1 H1)(b:Step G1 H1 G2 H2):Step G H G2 H2 :=
 ⟨a.hh.trans b.hh,a.gg.trans b.gg,b.sub,fun c o hc hn=>(b.new c o (a.hh _ _ hc) hn).trans (a.new c o hc hn)⟩
theorem Same.new {H:Hp}{p:Addr}{o:HO}(hp:H p=none):Same H (upd H p o):=fun b u e=>by rw[zO (zB e hp)];exact e
theorem Step.laid {G H:Hp}{p:Addr}{o:HO}(s:Same G H)(hp:H p=none):Step G H (upd G p o) (upd H p o):=by
 refine⟨Same.new hp,Same.new (s.free hp),fun b u e=>?_,fun a o' ha hn=>?_⟩
 · by_cases hb:b=p
   · subst hb;rw[zN] at e ⊢;exact e
   · rw[zO hb] at e ⊢;exact s b u e
 · exact zO (fun z:a=p=>by rw[z,hp] at ha;cases ha)
theorem Step.own {G H:Hp}{p:Addr}{o:HO}(s:Same G H)(hp:H p=none):Step G H G (upd H p o) :=
 ⟨Same.new hp,Same.refl _,s.trans (Same.new hp),fun _ _ _ _=>rfl⟩
theorem Step.frz {G H G' H':Hp}{p:Addr}{o:HO}(s:Step G H G' H')(hp:H p=none)(h':H' p=some o)(g':G' p=none):Step G H (upd G' p o) H':=by
 refine⟨s.hh,s.gg.trans (Same.new g'),fun b u e=>?_,fun a o' ha hn=>?_⟩
 · by_cases hb:b=p
   · subst hb;rw[zN] at e;rw[h'];exact e
   · rw[zO hb] at e;exact s.sub b u e
 · rw[zO (fun z:a=p=>by rw[z,hp] at ha;cases ha)];exact s.new a o' ha hn
theorem Step.adopt {G H:Hp}{p:Addr}{xs:List V}(s:Same G H)(hp:H p=some (.tup xs)):Step G H (upd G p (.tup xs)) H:=by
 refine⟨Same.refl _,fun b u e=>?_,fun b u e=>?_,fun a o ha hn=>?_⟩
 · by_cases hb:b=p
   · subst hb
     have:=s _ _ e
     rw[hp] at this
     rw[zN];exact this
   · rw[zO hb];exact e
 · by_cases hb:b=p
   · subst hb;rw[zN] at e;rw[hp];exact e
   · rw[zO hb] at e;exact s b u e
 · refine zO fun z=>?_
   rw[z,hp] at ha
   cases ha
   cases hn
inductive B where
 | no | fz (d:D) | ow (ds:List D)
 /-- a dict of its own: keys and values -/
 | od (kvs:List (D×D))
 /-- a thing of its own that may change: an object, a dict -/
 | mu (d:D)
 deriving Inhabited
def zTp (f:D->Option KT):List D->Option (List KT)
 | []=>some []
 | d::r=>(f d).bind fun k=>(zTp f r).map fun ks=>k::ks
def ktD:Nat->D->Option KT
 | _,.int i=>some (.int i)
 | _,.bl b=>some (.int (if b then 1 else 0))
 | n+1,.tup ds=>(zTp (ktD n) ds).map .tup
 | _,_=>none
inductive ODs (K:PySem.W.Frag)(G:Hp):List (D×D)->List KT->List Addr->List V->Prop
 | nil:ODs K G [] [] [] []
 | cons {d e:D} {k:KT} {a:Addr} {v:V} {kvs:List (D×D)} {ks:List KT} {as:List Addr} {vs:List V}:ktD 8 d=some k->Rep K G d (.ref a)->Rep K G e v->ODs K G kvs ks as vs->ODs K G ((d,e)::kvs) (k::ks) (a::as) (v::vs)
theorem ODs.mono {K:PySem.W.Frag}{G G':Hp}(h:Same G G'):∀ {kvs ks as vs},ODs K G kvs ks as vs->ODs K G' kvs ks as vs
 | _,_,_,_,.nil=>.nil
 | _,_,_,_,.cons h1 h2 h3 h4=>.cons h1 (h2.mono h) (h3.mono h) (ODs.mono h h4)
def RepO (K:PySem.W.Frag)(G:Hp)(o:HO):D->Prop
 | .obj c ns ds=>∃C dx vs,ClsAt K c C/\o = .ins C dx (ns.zip vs)/\ns.length=ds.length/\Reps K G ds vs
 | .dct ks ds=>∃vs,o = .dT (ks.zip vs)/\ks.length=ds.length/\Reps K G ds vs
 | _=>False
theorem RepO.mono {K:PySem.W.Frag}{G G':Hp}{o:HO}(e:Same G G'):∀ {d:D},RepO K G o d->RepO K G' o d
 | .obj _ _ _,⟨C,dx,vs,h1,h2,h3,h4⟩=>⟨C,dx,vs,h1,h2,h3,h4.mono e⟩
 | .dct _ _,⟨vs,h1,h2,h3⟩=>⟨vs,h1,h2,h3.mono e⟩
theorem RepO.two {K:PySem.W.Frag}{G:Hp}{o:HO}:∀ {d:D},RepO K G o d->(∃C dx fs,o = .ins C dx fs)∨∃kvs,o = .dT kvs
 | .obj _ _ _,⟨C,dx,vs,_,h2,_⟩=>.inl ⟨C,dx,_,h2⟩
 | .dct _ _,⟨vs,h1,_⟩=>.inr ⟨_,h1⟩
theorem RepO.nl {K:PySem.W.Frag}{G:Hp}{us:List V}{d:D}(h:RepO K G (.lst us) d):False:=by
 rcases h.two with⟨_,_,_,z⟩ | ⟨_,z⟩<;>cases z
theorem RepO.nt {K:PySem.W.Frag}{G:Hp}{o:HO}{d:D}(h:RepO K G o d):fB o=true:=by
 rcases h.two with⟨_,_,_,z⟩ | ⟨_,z⟩<;>(subst z;rfl)
theorem RepO.nx {K:PySem.W.Frag}{G:Hp}{φ:Heap->Prop}{d:D}(h:RepO K G (.ext φ) d):False:=by
 rcases h.two with⟨_,_,_,z⟩ | ⟨_,z⟩<;>cases z
inductive RB (K:PySem.W.Frag)(H0 G H:Hp):Option V->B->Prop where
 | no {o:Option V}:RB K H0 G H o .no
 | fz {v:V} {d:D}:Rep K G d v->RB K H0 G H (some v) (.fz d)
 | ow {a:Addr} {vs:List V} {ds:List D}:H a=some (.lst vs)->G a=none->H0 a=none->Reps K G ds vs->RB K H0 G H (some (.ref a)) (.ow ds)
 | od {a:Addr} {kvs:List (D×D)} {ks:List KT} {as:List Addr} {vs:List V}:H a=some (.ext (zTy a ks as vs))->G a=none->H0 a=none->ODs K G kvs ks as vs->ks.Nodup->(a==sysModules)=false->RB K H0 G H (some (.ref a)) (.od kvs)
 | mu {a:Addr} {o:HO} {d:D}:H a=some o->G a=none->H0 a=none->RepO K G o d->RB K H0 G H (some (.ref a)) (.mu d)
structure Good (K:PySem.W.Frag)(G0 H0 G H:Hp)(σ:St)(ρ:List B):Prop where
 st:Step G0 H0 G H
 vals:Paired (RB K H0 G H) σ ρ
 apart:∀(i j:Nat) (a:Addr) (ds es:List D),ρ[i]?=some (.ow ds)->ρ[j]?=some (.ow es)->σ[i]?=some (some (.ref a))->σ[j]?=some (some (.ref a))->i=j
theorem Paired.get {α β:Type}{F:α->β->Prop}:∀ {l:List α} {r:List β} {i:Nat} {b:β},Paired F l r->r[i]?=some b->∃a,l[i]?=some a/\F a b
 | _,_,_,_,.nil,e=>by simp at e
 | _,_,0,_,.cons h _,e=>by simp at e;subst e;exact⟨_,rfl,h⟩
 | _,_,i+1,b,.cons _ t,e=>by
   obtain⟨a,h1,h2⟩:=Paired.get (i:=i) (b:=b) t (by simpa using e)
   exact⟨a,by simpa using h1,h2⟩
theorem Paired.set {α β:Type}{F:α->β->Prop}{a:α}{b:β}(h:F a b):∀ {l:List α} {r:List β} (i:Nat),Paired F l r->Paired F (l.set i a) (r.set i b)
 | _,_,_,.nil=>.nil
 | _,_,0,.cons _ t=>.cons h t
 | _,_,i+1,.cons q t=>.cons q (Paired.set h i t)
theorem RB.step {K:PySem.W.Frag}{H0 G H G' H':Hp}{o:Option V}{b:B}(r:RB K H0 G H o b)(s:Step G H G' H'):RB K H0 G' H' o b:=by
 cases r with
 | no=>exact .no
 | fz q=>exact .fz (q.mono s.gg)
 | ow h1 h2 h3 h4=>exact .ow (s.hh _ _ h1) ((s.new _ _ h1 rfl).trans h2) h3 (h4.mono s.gg)
 | od h1 h2 h3 h4 h5 h6=>exact .od (s.hh _ _ h1) ((s.new _ _ h1 rfl).trans h2) h3 (h4.mono s.gg) h5 h6
 | mu h1 h2 h3 h4=>exact .mu (s.hh _ _ h1) ((s.new _ _ h1 h4.nt).trans h2) h3 (h4.mono s.gg)
theorem Good.step {K:PySem.W.Frag}{G0 H0 G H G' H':Hp}{σ:St}{ρ:List B}(g:Good K G0 H0 G H σ ρ)(s:Step G H G' H'):Good K G0 H0 G' H' σ ρ :=
 ⟨g.st.trans s,Paired.mapP g.vals fun _ _ r=>r.step s,g.apart⟩
theorem Good.sub {K:PySem.W.Frag}{G0 H0 G H:Hp}{σ:St}{ρ:List B}(g:Good K G0 H0 G H σ ρ):Same G H:=g.st.sub
abbrev Ef:=List B->Option D
def tF (K:PySem.W.Frag)(f:Ef):TE:=fun σ H Q=>∃G0 H0 G ρ d,Good K G0 H0 G H σ ρ/\f ρ=some d/\∀v H' G',Step G H G' H'->Rep K G' d v->Q v H'
def PF (X:Cx)(e:Expr)(f:Ef):Prop:=PE X e (tF X.K f)
theorem PE.to {X:Cx}{e:Expr}{t:TE}{f:Ef}(h:PE X e t)(imp:∀σ H Q,tF X.K f σ H Q->t σ H Q):PF X e f:=fun pins s σ H Q I q=>h pins s σ H Q I (imp σ H Q q)
abbrev Lf:=List B->Option (List D)
def tFr (K:PySem.W.Frag)(f:Lf):TE:=fun σ H Q=>∃G0 H0 G ρ ds,Good K G0 H0 G H σ ρ/\f ρ=some ds/\∀a vs H' G',Step G H G' H'->H a=none->H' a=some (.lst vs)->G' a=none->Reps K G' ds vs->Q (.ref a) H'
def PFr (X:Cx)(e:Expr)(f:Lf):Prop:=PE X e (tFr X.K f)
theorem PE.toR {X:Cx}{e:Expr}{t:TE}{f:Lf}(h:PE X e t)(imp:∀σ H Q,tFr X.K f σ H Q->t σ H Q):PFr X e f:=fun pins s σ H Q I q=>h pins s σ H Q I (imp σ H Q q)
def eL (f:Lf):Ef:=fun ρ=>(f ρ).map .lst
theorem qE {X:Cx}{e:Expr}{f:Lf}(h:PFr X e f):PF X e (eL f):=by
 refine PE.to h ?_
 rintro σ H Q ⟨G0,H0,G,ρ,d,good,hf,k⟩
 unfold eL at hf
 obtain⟨ds,h1,rfl⟩:=Qt.mp hf
 refine⟨G0,H0,G,ρ,ds,good,h1,fun a vs H' G' s hn ha ga rs=>?_⟩
 exact k _ _ (upd G' a (.lst vs)) (s.frz hn ha ga) (yW.mpr ⟨a,vs,rfl,.of zN,rs.mono (Same.new ga)⟩)
abbrev Tf:=List B->Option Bool
def tFT (K:PySem.W.Frag)(f:Tf):TT:=fun σ H Q=>∃G0 H0 G ρ b,Good K G0 H0 G H σ ρ/\f ρ=some b/\∀H' G',Step G H G' H'->Q b H'
def PFT (X:Cx)(e:Expr)(f:Tf):Prop:=PT X e (tFT X.K f)
theorem PT.to {X:Cx}{e:Expr}{t:TT}{f:Tf}(h:PT X e t)(imp:∀σ H Q,tFT X.K f σ H Q->t σ H Q):PFT X e f:=fun pins s σ H Q I q=>h pins s σ H Q I (imp σ H Q q)
def PFW (X:Cx)(e:Expr)(f:Tf):Prop:=PW X e (tFT X.K f)
def tFA (K:PySem.W.Frag)(f:Lf):TA:=fun σ H Q=>∃G0 H0 G ρ ds,Good K G0 H0 G H σ ρ/\f ρ=some ds/\∀vs H' G',Step G H G' H'->Reps K G' ds vs->Q vs H'
def PFA (X:Cx)(es:List Expr)(f:Lf):Prop:=PA X es (tFA X.K f)
theorem PA.to {X:Cx}{es:List Expr}{t:TA}{f:Lf}(h:PA X es t)(imp:∀σ H Q,tFA X.K f σ H Q->t σ H Q):PFA X es f:=fun pos pins s σ H Q I q=>h pos pins s σ H Q I (imp σ H Q q)
section
variable {X:Cx} {a b c e:Expr} {es:List Expr} {fa fb:Ef} {ga:Lf} {ta tb:Tf} {pos:Pos}
def zXG (ρ:List B)(i:Nat):Option D:=match ρ[i]? with | some (.fz d)=>some d | _=>none
def eV (i:Nat):Ef:=fun ρ=>zXG ρ i
theorem iE {K:PySem.W.Frag}{G0 H0 G H:Hp}{σ:St}{ρ:List B}{i:Nat}{d:D}(g:Good K G0 H0 G H σ ρ)(h:zXG ρ i=some d):∃v,σ[i]?=some (some v)/\Rep K G d v:=by
 unfold zXG at h
 split at h
 · rename_i d' e
   cases h
   obtain⟨o,h1,r⟩:=Paired.get g.vals e
   cases r with
   | fz r=>exact⟨_,h1,r⟩
 · cases h
theorem zW (i:Nat){x:Str}(hN:X.N[i]?=some x:=by rfl)(hv:Vis X.env.scope x:=by first | exact Or.inl rfl | exact Or.inr (Or.inl rfl) | exact Or.inr (Or.inr rfl))(hd:(x==("__debug__":Str))=false:=by decide)(hcd:(x==("__classdict__":Str))=false:=by decide):PF X (.Name x pos) (eV i):=by
 refine PE.to (pU hN hv hd hcd) ?_
 rintro σ H Q ⟨G0,H0,G,ρ,d,good,hf,k⟩
 obtain⟨v,h1,r⟩:=iE good hf
 exact⟨v,h1,k v H G (.refl good.sub) r⟩
def eC (d:D):Ef:=fun _=>some d
theorem fE {v:V}{d:D}(h:PE X e (tC v))(r:∀G,Rep X.K G d v):PF X e (eC d):=by
 refine PE.to h ?_
 rintro σ H Q ⟨G0,H0,G,ρ,d',good,hf,k⟩
 cases hf
 exact k v H G (.refl good.sub) (r G)
theorem zU {i:Int}{j:Nat}:PF X (.Constant (.int i) j pos) (eC (.int i)):=fE zUN fun _=>zJ.mpr rfl
theorem uP {i:Bool}{j:Nat}:PF X (.Constant (.bool i) j pos) (eC (.bl i)):=fE zTF fun _=>wW.mpr rfl
theorem hV {j:Nat}:PF X (.Constant .none j pos) (eC .non):=fE zYE fun _=>uR.mpr rfl
theorem fQ {x:Str}{j:Nat}:PF X (.Constant (.str x) j pos) (eC (.str x)):=fE zY2 fun _=>yS.mpr rfl
def eI (C:Int->Int->Bool)(g:Int->Int->Int)(fa fb:Ef):Ef:=fun ρ=>(fa ρ).bind fun x=>(fb ρ).bind fun y=>match x,y with | .int i,.int j=>if C i j then some (.int (g i j)) else none | _,_=>none
theorem aR {C:Int->Int->Bool}{g:Int->Int->Int}{ρ:List B}{d:D}(h:eI C g fa fb ρ=some d):∃i j,fa ρ=some (.int i)/\fb ρ=some (.int j)/\C i j=true/\d = .int (g i j):=by
 unfold eI at h
 obtain⟨x,h1,h⟩:=Qq.mp h
 obtain⟨y,h2,h⟩:=Qq.mp h
 cases x with
 | int i =>
   cases y with
   | int j =>
     dsimp only at h
     split at h
     · rename_i hc;cases h;exact⟨i,j,h1,h2,hc,rfl⟩
     · cases h
   | _=>cases h
 | _=>cases h
theorem zWY {op:Operator}{C:Int->Int->Bool}{P:Int->Int->Prop}{g:Int->Int->Int}(ho:OpR X (binaryOp op) (rI P fun i j=>.int (g i j)))(hP:∀i j,C i j=true->P i j)(ha:PF X a fa)(hb:PF X b fb):PF X (.BinOp a op b pos) (eI C g fa fb):=by
 refine PE.to (zZO ho ha hb) ?_
 rintro σ H Q ⟨G0,H0,G,ρ,d,good,hf,k⟩
 obtain⟨i,j,h1,h2,hc,rfl⟩:=aR hf
 refine⟨G0,H0,G,ρ,_,good,h1,fun x H1 G1 s1 r1=>⟨G0,H0,G1,ρ,_,good.step s1,h2,fun y H2 G2 s2 r2=>?_⟩⟩
 exact⟨i,j,zJ.mp r1,zJ.mp r2,hP i j hc,k _ _ G2 (s1.trans s2) (zJ.mpr rfl)⟩
theorem zTQ {op:Operator}{g:Int->Int->Int}(ho:OpR X (binaryOp op) (rI0 fun i j=>.int (g i j)))(ha:PF X a fa)(hb:PF X b fb):PF X (.BinOp a op b pos) (eI (fun _ _=>true) g fa fb):=by
 refine PE.to (zZO ho ha hb) ?_
 rintro σ H Q ⟨G0,H0,G,ρ,d,good,hf,k⟩
 obtain⟨i,j,h1,h2,hc,rfl⟩:=aR hf
 refine⟨G0,H0,G,ρ,_,good,h1,fun x H1 G1 s1 r1=>⟨G0,H0,G1,ρ,_,good.step s1,h2,fun y H2 G2 s2 r2=>?_⟩⟩
 exact⟨i,j,zJ.mp r1,zJ.mp r2,k _ _ G2 (s1.trans s2) (zJ.mpr rfl)⟩
abbrev qR:=eI (fun _ _=>true) (fun i j=>i+j)
def pB (i j:Int):Bool:=(decide (-(2^64) < i)&&decide (i < 2^64))||(decide (-(2^64) < j)&&decide (j < 2^64))
abbrev mL:=eI pB (fun i j=>i*j)
def zTw (_ j:Int):Bool:=decide (0 < j)&&decide (j < 1073741824)
abbrev gH:=eI zTw (fun i j=>i / j)
abbrev wY:=eI (fun _ j=>decide (0 < j)) (fun i j=>i % j)
def cB (i j:Int):Bool:=decide (0<=j)&&decide (j<=1000000)&&decide (i.natAbs < 2^64)
abbrev nE:=eI cB (fun i j=>i^j.toNat)
theorem tT (ha:PF X a fa)(hb:PF X b fb):PF X (.BinOp a .Add b pos) (qR fa fb):=zTQ zYm ha hb
theorem vE (ha:PF X a fa)(hb:PF X b fb):PF X (.BinOp a .Mult b pos) (mL fa fb):=zWY zUF (fun i j h=>by
 unfold pB at h
 simp only[Re,Wt,Wn] at h
 exact h) ha hb
theorem kY (ha:PF X a fa)(hb:PF X b fb):PF X (.BinOp a .FloorDiv b pos) (gH fa fb):=zWY zW7 (fun i j h=>by
 unfold zTw at h
 simp only[Wt,Wn] at h
 exact h) ha hb
theorem yI (ha:PF X a fa)(hb:PF X b fb):PF X (.BinOp a .Mod b pos) (wY fa fb):=zWY zUV (fun i j h=>of_decide_eq_true h) ha hb
theorem zWA {i j:Int}(h:cB i j=true):zTI i j:=by
 unfold cB at h
 simp only[Wt,Wn] at h
 exact⟨h.1.1,h.1.2,h.2⟩
theorem lO (ha:PF X a fa)(hb:PF X b fb):PF X (.BinOp a .Pow b pos) (nE fa fb):=zWY zU7 (fun i j h=>zWA h) ha hb
def eB2 (g:D->D->Option Bool)(fa fb:Ef):Tf:=fun ρ=>(fa ρ).bind fun x=>(fb ρ).bind fun y=>g x y
def zWv (t:Tf):Ef:=fun ρ=>(t ρ).map .bl
def gLt:D->D->Option Bool | .int i,.int j=>some (decide (i < j)) | _,_=>none
def gLe:D->D->Option Bool | .int i,.int j=>some (decide (i<=j)) | _,_=>none
def gGt:D->D->Option Bool | .int i,.int j=>some (decide (j < i)) | _,_=>none
def gEq:D->D->Option Bool
 | .int i,.int j=>some (decide (i=j))
 | .bl i,.bl j=>some (decide (i=j))
 | .str i,.str j=>some (decide (i=j))
 | _,_=>none
def gNe (x y:D):Option Bool:=(gEq x y).map (!·)
def CmR (X:Cx)(op:CmpOp)(g:D->D->Option Bool):Prop:=∃r:R2,OpR X (compareOp op) r/\∀(d d':D) (k:Bool) (G H:Hp) (x y:V) (Q:VK),g d d'=some k->Same G H->Rep X.K G d x->Rep X.K G d' y->(∀H' G',Step G H G' H'->Q (.bl k) H')->r x y H Q
theorem aS {op:CmpOp}{p:Int->Int->Bool}{g:D->D->Option Bool}(ho:OpR X (compareOp op) (rI0 fun i j=>.bl (p i j)))(hg:∀d d' k,g d d'=some k->∃i j,d = .int i/\d' = .int j/\k=p i j):CmR X op g:=by
 refine⟨_,ho,fun d d' k G H x y Q h s rx ry q=>?_⟩
 obtain⟨i,j,rfl,rfl,rfl⟩:=hg d d' k h
 exact⟨i,j,zJ.mp rx,zJ.mp ry,q H G (.refl s)⟩
theorem zUd:CmR X .Lt gLt:=aS zTl fun d d' k h=>by unfold gLt at h;split at h<;>cases h;exact⟨_,_,rfl,rfl,rfl⟩
theorem zUe:CmR X .LtE gLe:=aS zTx fun d d' k h=>by unfold gLe at h;split at h<;>cases h;exact⟨_,_,rfl,rfl,rfl⟩
theorem zTA:CmR X .Gt gGt:=aS zTu fun d d' k h=>by unfold gGt at h;split at h<;>cases h;exact⟨_,_,rfl,rfl,rfl⟩
theorem zYy {d d':D}{k:Bool}{K:PySem.W.Frag}{G:Hp}{x y:V}(h:gEq d d'=some k)(rx:Rep K G d x)(ry:Rep K G d' y):zVk x y=true/\decide (x=y)=k:=by
 unfold gEq at h
 split at h
 · cases h;rw[zJ] at rx ry;subst rx;subst ry;exact⟨rfl,by simp⟩
 · cases h;rw[wW] at rx ry;subst rx;subst ry;exact⟨rfl,by simp⟩
 · cases h;rw[yS] at rx ry;subst rx;subst ry;exact⟨rfl,by simp⟩
 · cases h
theorem zZN:CmR X .Eq gEq:=⟨_,zTn,fun d d' k G H x y Q h s rx ry q=>by
 obtain⟨h1,h2⟩:=zYy h rx ry
 exact⟨h1,by rw[h2];exact q H G (.refl s)⟩⟩
theorem zVw:CmR X .NotEq gNe:=⟨_,zTi,fun d d' k G H x y Q h s rx ry q=>by
 unfold gNe at h
 obtain⟨k',h',rfl⟩:=Qt.mp h
 obtain⟨h1,h2⟩:=zYy h' rx ry
 exact⟨h1,by rw[h2];exact q H G (.refl s)⟩⟩
theorem zW4 {g:D->D->Option Bool}{ρ:List B}{k:Bool}(h:eB2 g fa fb ρ=some k):∃x y,fa ρ=some x/\fb ρ=some y/\g x y=some k:=by
 unfold eB2 at h
 obtain⟨x,h1,h⟩:=Qq.mp h
 obtain⟨y,h2,h⟩:=Qq.mp h
 exact⟨x,y,h1,h2,h⟩
theorem zYc {t:Tf}{ρ:List B}{d:D}(h:zWv t ρ=some d):∃k,t ρ=some k/\d = .bl k:=by
 unfold zWv at h
 obtain⟨k,h1,rfl⟩:=Qt.mp h
 exact⟨k,h1,rfl⟩
theorem yU {op:CmpOp}{g:D->D->Option Bool}(hc:CmR X op g)(ha:PF X a fa)(hb:PF X b fb)(hm:behindInMarks op b=false:=by first | exact zYw _ | (with_unfolding_all rfl)):PFT X (.Compare a [op] [b] pos) (eB2 g fa fb):=by
 obtain⟨r,ho,hr⟩:=hc
 refine PT.to (zZ8 ho ha hb hm) ?_
 rintro σ H Q ⟨G0,H0,G,ρ,c,good,hf,k⟩
 obtain⟨x,y,h1,h2,h3⟩:=zW4 hf
 refine⟨G0,H0,G,ρ,_,good,h1,fun u H1 G1 s1 r1=>⟨G0,H0,G1,ρ,_,good.step s1,h2,fun v H2 G2 s2 r2=>?_⟩⟩
 exact hr x y c G2 H2 u v _ h3 s2.sub (r1.mono s2.gg) r2 fun H' G' s3=>⟨c,rfl,k _ G' ((s1.trans s2).trans s3)⟩
def qG:D->Bool | .non=>true | _=>false
theorem zYQ {K:PySem.W.Frag}{G:Hp}{d:D}{v:V}(r:Rep K G d v):decide (v = .non)=qG d:=by
 cases d with
 | non=>rw[uR] at r;subst r;rfl
 | bl b=>rw[wW] at r;subst r;simp[qG]
 | int b=>rw[zJ] at r;subst r;simp[qG]
 | str b=>rw[yS] at r;subst r;simp[qG]
 | tup ds=>obtain⟨p,_,rfl,_⟩:=xZ.mp r;simp[qG]
 | lst ds=>obtain⟨p,_,rfl,_⟩:=yW.mp r;simp[qG]
 | obj C ns ds=>obtain⟨_,p,_,_,_,rfl,_⟩:=qY.mp r;simp[qG]
 | exc C ns ds=>obtain⟨_,p,_,_,_,rfl,_⟩:=gR.mp r;simp[qG]
 | dct ks ds=>obtain⟨p,_,rfl,_⟩:=hW.mp r;simp[qG]
def gS:D->D->Option Bool | d,.non=>some (!qG d) | _,_=>none
theorem dW:CmR X .IsNot gS:=⟨_,zW5,fun d d' k G H x y Q h s rx ry q=>by
 unfold gS at h
 split at h
 · cases h
   refine⟨uR.mp ry,?_⟩
   rw[zYQ rx];exact q H G (.refl s)
 · cases h⟩
def tB1 (f:Ef):Tf:=fun ρ=>(f ρ).bind fun x=>match x with | .bl k=>some k | _=>none
theorem gJ {f:Ef}{ρ:List B}{k:Bool}(h:tB1 f ρ=some k):f ρ=some (.bl k):=by
 unfold tB1 at h
 obtain⟨x,h1,h⟩:=Qq.mp h
 split at h
 · cases h;exact h1
 · cases h
theorem yP (ha:PF X a fa)(he:∀whole,isTrue a X.env whole=(do let v ←whole;standAt a.pos;holding [v] (truthy v)):=by intro _;rfl):PFT X a (tB1 fa):=by
 refine PT.to (zU9 ha he) ?_
 rintro σ H Q ⟨G0,H0,G,ρ,c,good,hf,k⟩
 exact⟨G0,H0,G,ρ,_,good,gJ hf,fun u H1 G1 s1 r1=>⟨c,wW.mp r1,k _ G1 s1⟩⟩
def yZ (t:Tf):Tf:=fun ρ=>(t ρ).map (!·)
def sB (t u:Tf):Tf:=fun ρ=>(t ρ).bind fun c=>if c=true then u ρ else some false
def qT (t u:Tf):Tf:=fun ρ=>(t ρ).bind fun c=>if c=true then some true else u ρ
theorem xQ (ha:PFT X a ta):PFT X (.UnaryOp .Not a pos) (yZ ta):=by
 refine PT.to (zU8 ha) ?_
 rintro σ H Q ⟨G0,H0,G,ρ,c,good,hf,k⟩
 unfold yZ at hf
 obtain⟨c',h1,rfl⟩:=Qt.mp hf
 exact⟨G0,H0,G,ρ,_,good,h1,fun H1 G1 s1=>k _ G1 s1⟩
theorem PW.to {t:TT}{f:Tf}(h:PW X e t)(imp:∀σ H Q,tFT X.K f σ H Q->t σ H Q):PFW X e f:=fun whole pins s σ H Q I q=>h whole pins s σ H Q I (imp σ H Q q)
theorem cJ (ha:PFT X a ta):PFW X (.BoolOp .And [a] pos) ta:=zWs ha
theorem oX (ha:PFT X a ta):PFW X (.BoolOp .Or [a] pos) ta:=zUs ha
theorem zZ9 {rest:List Expr}(ha:PFT X a ta)(hb:PFW X (.BoolOp .And (b::rest) pos) tb):PFW X (.BoolOp .And (a::b::rest) pos) (sB ta tb):=by
 refine PW.to (zUH ha hb) ?_
 rintro σ H Q ⟨G0,H0,G,ρ,c,good,hf,k⟩
 unfold sB at hf
 obtain⟨c',h1,hf⟩:=Qq.mp hf
 refine⟨G0,H0,G,ρ,_,good,h1,fun H1 G1 s1=>?_⟩
 split at hf
 · rename_i h;rw[Qo h];exact⟨G0,H0,G1,ρ,c,good.step s1,hf,fun H2 G2 s2=>k _ G2 (s1.trans s2)⟩
 · rename_i h;rw[Qg h];cases hf;exact k _ G1 s1
theorem rY {rest:List Expr}(ha:PFT X a ta)(hb:PFW X (.BoolOp .Or (b::rest) pos) tb):PFW X (.BoolOp .Or (a::b::rest) pos) (qT ta tb):=by
 refine PW.to (zT3 ha hb) ?_
 rintro σ H Q ⟨G0,H0,G,ρ,c,good,hf,k⟩
 unfold qT at hf
 obtain⟨c',h1,hf⟩:=Qq.mp hf
 refine⟨G0,H0,G,ρ,_,good,h1,fun H1 G1 s1=>?_⟩
 split at hf
 · rename_i h;rw[Qo h];cases hf;exact k _ G1 s1
 · rename_i h;rw[Qg h];exact⟨G0,H0,G1,ρ,c,good.step s1,hf,fun H2 G2 s2=>k _ G2 (s1.trans s2)⟩
theorem aO (h:PFW X e ta):PFT X e ta:=h.pt
theorem zXL {op:BoolOp}(h:PF X a fa):PF X (.BoolOp op [a] pos) fa:=zUQ h
def eG (fa fb:Ef):Ef:=fun ρ=>(tB1 fa ρ).bind fun c=>if c=true then fb ρ else some (.bl false)
theorem zWZ {rest:List Expr}(ha:PF X a fa)(hb:PF X (.BoolOp .And (b::rest) pos) fb):PF X (.BoolOp .And (a::b::rest) pos) (eG fa fb):=by
 refine PE.to (zUo ha hb) ?_
 rintro σ H Q ⟨G0,H0,G,ρ,d,good,hf,k⟩
 obtain⟨c,h1,hf⟩:=Qq.mp hf
 refine⟨G0,H0,G,ρ,_,good,gJ h1,fun u H1 G1 s1 r1=>⟨c,wW.mp r1,?_⟩⟩
 split at hf
 · rename_i h;rw[Qo h];exact⟨G0,H0,G1,ρ,d,good.step s1,hf,fun v H2 G2 s2 r2=>k _ _ G2 (s1.trans s2) r2⟩
 · rename_i h;rw[Qg h];cases hf;exact k _ _ G1 s1 (wW.mpr rfl)
theorem zUR (ha:PF X a fa):PF X (.UnaryOp .Not a pos) (zWv (yZ (tB1 fa))):=by
 refine PE.to (zUq ha) ?_
 rintro σ H Q ⟨G0,H0,G,ρ,d,good,hf,k⟩
 obtain⟨c,hf2,rfl⟩:=zYc hf
 unfold yZ at hf2
 obtain⟨c',h1,rfl⟩:=Qt.mp hf2
 exact⟨G0,H0,G,ρ,_,good,gJ h1,fun u H1 G1 s1 r1=>⟨c',wW.mp r1,k _ _ G1 s1 (wW.mpr rfl)⟩⟩
def eIf (t:Tf)(fa fb:Ef):Ef:=fun ρ=>(t ρ).bind fun c=>if c=true then fa ρ else fb ρ
theorem zXd (ht:PFT X c ta)(ha:PF X a fa)(hb:PF X b fb):PF X (.IfExp c a b pos) (eIf ta fa fb):=by
 refine PE.to (zY8 ht ha hb) ?_
 rintro σ H Q ⟨G0,H0,G,ρ,d,good,hf,k⟩
 unfold eIf at hf
 obtain⟨c',h1,hf⟩:=Qq.mp hf
 refine⟨G0,H0,G,ρ,_,good,h1,fun H1 G1 s1=>?_⟩
 split at hf
 · rename_i h;rw[Qo h];exact⟨G0,H0,G1,ρ,d,good.step s1,hf,fun v H2 G2 s2 r2=>k _ _ G2 (s1.trans s2) r2⟩
 · rename_i h;rw[Qg h];exact⟨G0,H0,G1,ρ,d,good.step s1,hf,fun v H2 G2 s2 r2=>k _ _ G2 (s1.trans s2) r2⟩
def zL:Lf:=fun _=>some []
def zY (f:Ef)(r:Lf):Lf:=fun ρ=>(f ρ).bind fun d=>(r ρ).map fun ds=>d::ds
theorem zT:PFA X [] zL:=by
 refine PA.to uJ ?_
 rintro σ H Q ⟨G0,H0,G,ρ,d,good,hf,k⟩
 cases hf
 exact k [] H G (.refl good.sub) (zM.mpr rfl)
theorem jH {f:Ef}{r:Lf}{ρ:List B}{ds:List D}(h:zY f r ρ=some ds):∃d dr,f ρ=some d/\r ρ=some dr/\ds=d::dr:=by
 unfold zY at h
 obtain⟨d,h1,h⟩:=Qq.mp h
 obtain⟨dr,h2,rfl⟩:=Qt.mp h
 exact⟨d,dr,h1,h2,rfl⟩
theorem zZ (ha:PF X e fa)(hr:PFA X es ga)(hs:starEach (e::es) X.env=(false,eval e X.env)::starEach es X.env:=by rfl):PFA X (e::es) (zY fa ga):=by
 refine PA.to (xF ha hr hs) ?_
 rintro σ H Q ⟨G0,H0,G,ρ,ds,good,hf,k⟩
 obtain⟨d,dr,h1,h2,rfl⟩:=jH hf
 refine⟨G0,H0,G,ρ,_,good,h1,fun u H1 G1 s1 r1=>⟨G0,H0,G1,ρ,_,good.step s1,h2,fun v H2 G2 s2 r2=>?_⟩⟩
 exact k _ _ G2 (s1.trans s2) (zR.mpr ⟨u,v,rfl,r1.mono s2.gg,r2⟩)
abbrev lim:Nat:=100000
theorem wS {n:Nat}(h:n<=lim):n < sizeLine:=Nat.lt_of_le_of_lt h (by decide)
def okL (ds:List D):Option (List D):=if ds.length<=lim then some ds else none
theorem oV {ds es:List D}(h:okL ds=some es):es=ds/\ds.length<=lim:=by
 unfold okL at h
 split at h
 · rename_i q;cases h;exact⟨rfl,q⟩
 · cases h
def vJ (g:Lf):Ef:=fun ρ=>((g ρ).bind okL).map .tup
theorem uD {k:Nat}(h:PFA X es ga):PF X (.Tuple es k pos) (vJ ga):=by
 refine PE.to (zXO h) ?_
 rintro σ H Q ⟨G0,H0,G,ρ,d,good,hf,k⟩
 unfold vJ at hf
 obtain⟨ds,h1,rfl⟩:=Qt.mp hf
 obtain⟨es,h1,h2⟩:=Qq.mp h1
 obtain⟨rfl,h3⟩:=oV h2
 refine⟨G0,H0,G,ρ,_,good,h1,fun vs H1 G1 s1 r1=>⟨by rw[←r1.length];exact Wp (wS h3),fun p hp=>?_⟩⟩
 have s2:=Step.laid (o:=.tup vs) s1.sub hp
 exact k _ _ _ (s1.trans s2) (xZ.mpr ⟨p,vs,rfl,.of zN,r1.mono s2.gg⟩)
def uS (g:Lf):Lf:=fun ρ=>(g ρ).bind okL
theorem uN (h:PFA X es ga):PFr X (.List es pos) (uS ga):=by
 refine PE.toR (zUj h) ?_
 rintro σ H Q ⟨G0,H0,G,ρ,d,good,hf,k⟩
 unfold uS at hf
 obtain⟨es,h1,h2⟩:=Qq.mp hf
 obtain⟨rfl,h3⟩:=oV h2
 refine⟨G0,H0,G,ρ,_,good,h1,fun vs H1 G1 s1 r1=>⟨by rw[←r1.length];exact Wp (wS h3),fun p hp=>?_⟩⟩
 exact k p vs _ G1 (s1.trans (Step.own s1.sub hp)) (s1.hh.free hp) zN (s1.sub.free hp) r1
def atD (x y:D):Option D:=match x,y with
 | .tup ds,.int i=>atI ds i
 | .lst ds,.int i=>atI ds i
 | .str z,.int i=>if z.length<=lim then(atI z.cps.toList i).map fun c=>.str ⟨#[c]⟩ else none
 | _,_=>none
def eIx (fa fb:Ef):Ef:=fun ρ=>(fa ρ).bind fun x=>(fb ρ).bind fun y=>atD x y
theorem cD {K:PySem.W.Frag}{G:Hp}{ds:List D}{vs:List V}{i:Int}{d:D}(r:Reps K G ds vs)(h:atI ds i=some d):∃v,atI vs i=some v/\Rep K G d v:=by
 unfold atI at h ⊢
 rw[r.length] at h
 obtain⟨j,h1,h2⟩:=Qq.mp h
 obtain⟨v,h3,h4⟩:=r.get h2
 exact⟨v,by rw[h1];exact h3,h4⟩
theorem yD (ha:PF X a fa)(hb:PF X b fb)(hs:fM b:=by exact fun _ _=>rfl):PF X (.Subscript a b pos) (eIx fa fb):=by
 refine PE.to (zVA zUC ha hb hs) ?_
 rintro σ H Q ⟨G0,H0,G,ρ,d,good,hf,k⟩
 unfold eIx at hf
 obtain⟨x,h1,hf⟩:=Qq.mp hf
 obtain⟨y,h2,hf⟩:=Qq.mp hf
 refine⟨G0,H0,G,ρ,_,good,h1,fun u H1 G1 s1 r1=>⟨G0,H0,G1,ρ,_,good.step s1,h2,fun v H2 G2 s2 r2=>?_⟩⟩
 have r1:=r1.mono s2.gg
 have s3:=s1.trans s2
 unfold atD at hf
 split at hf
 · obtain⟨p,vs,rfl,q,rs⟩:=xZ.mp r1
   obtain⟨w,e,rw'⟩:=cD rs hf
   exact .inr (.inl ⟨p,vs,_,w,rfl,zJ.mp r2,s2.sub.tup q,e,k _ _ G2 s3 rw'⟩)
 · obtain⟨p,vs,rfl,q,rs⟩:=yW.mp r1
   obtain⟨w,e,rw'⟩:=cD rs hf
   exact .inl ⟨p,vs,_,w,rfl,zJ.mp r2,s2.sub.seq q,e,k _ _ G2 s3 rw'⟩
 · split at hf
   · rename_i hz
     obtain⟨c,e,rfl⟩:=Qt.mp hf
     exact .inr (.inr ⟨_,_,c,yS.mp r1,zJ.mp r2,Wp (wS hz),e,k _ _ G2 s3 (yS.mpr rfl)⟩)
   · cases hf
 · cases hf
end
inductive Out where
 | nx (ρ:List B) | rt (d:D) | rl (ds:List D) | bk (ρ:List B) | ct (ρ:List B)
 deriving Inhabited
abbrev Sf:=List B->Option Out
def Wants (K:PySem.W.Frag)(G0 H0 G:Hp)(D:Ends):Out->Prop
 | .nx ρ'=>∀σ' H' G',Same G G'->Good K G0 H0 G' H' σ' ρ'->D.nx σ' H'
 | .bk ρ'=>∀σ' H' G',Same G G'->Good K G0 H0 G' H' σ' ρ'->D.bk σ' H'
 | .ct ρ'=>∀σ' H' G',Same G G'->Good K G0 H0 G' H' σ' ρ'->D.ct σ' H'
 | .rt d=>∀v H' G',Step G0 H0 G' H'->Rep K G' d v->D.rt v H'
 | .rl ds=>∀a vs H' G',Step G0 H0 G' H'->H0 a=none->H' a=some (.lst vs)->G' a=none->Reps K G' ds vs->D.rt (.ref a) H'
def tFS (K:PySem.W.Frag)(f:Sf):TS:=fun D σ H=>∃G0 H0 G ρ o,Good K G0 H0 G H σ ρ/\f ρ=some o/\Wants K G0 H0 G D o
def PFS (X:Cx)(st:Stmt)(f:Sf):Prop:=PS X st (tFS X.K f)
def PFSs (X:Cx)(sts:List Stmt)(f:Sf):Prop:=PSs X sts (tFS X.K f)
theorem PS.to {X:Cx}{st:Stmt}{t:TS}{f:Sf}(h:PS X st t)(imp:∀D σ H,tFS X.K f D σ H->t D σ H):PFS X st f:=fun pins s σ H D I q=>h pins s σ H D I (imp D σ H q)
theorem PSs.to {X:Cx}{st:List Stmt}{t:TS}{f:Sf}(h:PSs X st t)(imp:∀D σ H,tFS X.K f D σ H->t D σ H):PFSs X st f:=fun pins s σ H D I q=>h pins s σ H D I (imp D σ H q)
theorem Wants.mono {K:PySem.W.Frag}{G0 H0 G G':Hp}{D:Ends}{o:Out}(h:Wants K G0 H0 G D o)(s:Same G G'):Wants K G0 H0 G' D o:=by
 cases o with
 | nx ρ=>exact fun σ' H' G2 s2 g=>h σ' H' G2 (s.trans s2) g
 | bk ρ=>exact fun σ' H' G2 s2 g=>h σ' H' G2 (s.trans s2) g
 | ct ρ=>exact fun σ' H' G2 s2 g=>h σ' H' G2 (s.trans s2) g
 | rt d=>exact h
 | rl ds=>exact h
theorem yE {ρ:List B}{i j:Nat}{d:D}{ds:List D}(h:(ρ.set i (.fz d))[j]?=some (.ow ds)):j≠i/\ρ[j]?=some (.ow ds):=by
 by_cases e:j=i
 · subst e
   rw[Ri] at h
   split at h
   · split at h<;>cases h
   · rename_i z;exact absurd rfl z
 · rw[Qk (Ne.symm e)] at h
   exact⟨e,h⟩
theorem nP {ρ:List B}{i j:Nat}{d:D}{ds:List (D×D)}(h:(ρ.set i (.fz d))[j]?=some (.od ds)):j≠i/\ρ[j]?=some (.od ds):=by
 by_cases e:j=i
 · subst e
   rw[Ri] at h
   split at h
   · split at h<;>cases h
   · rename_i z;exact absurd rfl z
 · rw[Qk (Ne.symm e)] at h
   exact⟨e,h⟩
theorem nO {ρ:List B}{i j:Nat}{d d':D}(h:(ρ.set i (.fz d))[j]?=some (.mu d')):j≠i/\ρ[j]?=some (.mu d'):=by
 by_cases e:j=i
 · subst e
   rw[Ri] at h
   split at h
   · split at h<;>cases h
   · rename_i z;exact absurd rfl z
 · rw[Qk (Ne.symm e)] at h
   exact⟨e,h⟩
theorem Good.setF {K:PySem.W.Frag}{G0 H0 G H:Hp}{σ:St}{ρ:List B}{v:V}{d:D}(g:Good K G0 H0 G H σ ρ)(i:Nat)(r:Rep K G d v):Good K G0 H0 G H (σ.set i (some v)) (ρ.set i (.fz d)):=by
 refine⟨g.st,Paired.set (.fz r) i g.vals,fun j k a ds es h1 h2 h3 h4=>?_⟩
 obtain⟨n1,e1⟩:=yE h1
 obtain⟨n2,e2⟩:=yE h2
 rw[Qk (Ne.symm n1)] at h3
 rw[Qk (Ne.symm n2)] at h4
 exact g.apart j k a ds es e1 e2 h3 h4
theorem Good.addr {K:PySem.W.Frag}{G0 H0 G H:Hp}{σ:St}{ρ:List B}{i:Nat}{ds:List D}(g:Good K G0 H0 G H σ ρ)(h:ρ[i]?=some (.ow ds)):∃a vs,σ[i]?=some (some (.ref a))/\H a=some (.lst vs)/\G a=none/\H0 a=none/\Reps K G ds vs:=by
 obtain⟨o,e,r⟩:=Paired.get g.vals h
 cases r with
 | ow h1 h2 h3 h4=>exact⟨_,_,e,h1,h2,h3,h4⟩
theorem Good.setO {K:PySem.W.Frag}{G0 H0 G H:Hp}{σ:St}{ρ:List B}{a:Addr}{vs:List V}{ds:List D}(g:Good K G0 H0 G H σ ρ)(i:Nat)(ha:H a=some (.lst vs))(ga:G a=none)(h0:H0 a=none)(rs:Reps K G ds vs)
   (fr:∀(j:Nat) (es:List D),ρ[j]?=some (B.ow es)->σ[j]?≠some (some (V.ref a))):Good K G0 H0 G H (σ.set i (some (.ref a))) (ρ.set i (.ow ds)):=by
 have hl:σ.length=ρ.length:=Er g.vals
 refine⟨g.st,Paired.set (.ow ha ga h0 rs) i g.vals,fun j k b d1 d2 h1 h2 h3 h4=>?_⟩
 by_cases hj:j=i
 · by_cases hk:k=i
   · rw[hj,hk]
   · subst hj
     rw[Qk (Ne.symm hk)] at h2 h4
     have hlt:j < σ.length:=by
       have:=(Qf.mp h3).1
       rwa[Rr] at this
     rw[Wa hlt] at h3
     cases h3
     exact absurd h4 (fr k d2 h2)
 · rw[Qk (Ne.symm hj)] at h1 h3
   by_cases hk:k=i
   · subst hk
     have hlt:k < σ.length:=by
       have:=(Qf.mp h4).1
       rwa[Rr] at this
     rw[Wa hlt] at h4
     cases h4
     exact absurd h3 (fr j d1 h1)
   · rw[Qk (Ne.symm hk)] at h2 h4
     exact g.apart j k b d1 d2 h1 h2 h3 h4
section
variable {X:Cx} {b c e tg:Expr} {es:List Expr} {fa:Ef} {ta:Tf} {pos:Pos} {st:Stmt} {rest:List Stmt} {f g:Sf}
def zH (f g:Sf):Sf:=fun ρ=>(f ρ).bind fun o=>match o with | .nx ρ'=>g ρ' | o=>some o
def vC:Sf:=fun ρ=>some (.nx ρ)
theorem z3:PFSs X [] vC:=by
 refine PSs.to fZ ?_
 rintro D σ H ⟨G0,H0,G,ρ,o,good,hf,k⟩
 cases hf
 exact k σ H G (Same.refl _) good
theorem zP (h:PFS X st f):PFSs X [st] f:=zZ6 h
theorem wJ (h1:PFS X st f)(h2:PFSs X rest g):PFSs X (st::rest) (zH f g):=by
 refine PSs.to (rM h1 h2) ?_
 rintro D σ H ⟨G0,H0,G,ρ,o,good,hf,k⟩
 unfold zH at hf
 obtain⟨o1,h1,hf⟩:=Qq.mp hf
 refine⟨G0,H0,G,ρ,o1,good,h1,?_⟩
 cases o1 with
 | nx ρ'=>exact fun σ' H' G' s g'=>⟨G0,H0,G',ρ',o,g',hf,k.mono s⟩
 | rt d=>cases hf;exact k
 | rl d=>cases hf;exact k
 | bk d=>cases hf;exact k
 | ct d=>cases hf;exact k
def yG (f:Ef):Sf:=fun ρ=>(f ρ).map .rt
theorem zF (h:PF X e fa):PFS X (.Return (some e) pos) (yG fa):=by
 refine PS.to (zUW h) ?_
 rintro D σ H ⟨G0,H0,G,ρ,o,good,hf,k⟩
 unfold yG at hf
 obtain⟨d,h1,rfl⟩:=Qt.mp hf
 exact⟨G0,H0,G,ρ,d,good,h1,fun v H' G' s r=>k v H' G' (good.st.trans s) r⟩
def sIf (t:Tf)(f g:Sf):Sf:=fun ρ=>(t ρ).bind fun c=>if c=true then f ρ else g ρ
theorem yA {sa sb:List Stmt}(ht:PFT X c ta)(ha:PFSs X sa f)(hb:PFSs X sb g):PFS X (.If c sa sb pos) (sIf ta f g):=by
 refine PS.to (zYB ht ha hb) ?_
 rintro D σ H ⟨G0,H0,G,ρ,o,good,hf,k⟩
 unfold sIf at hf
 obtain⟨c',h1,hf⟩:=Qq.mp hf
 refine⟨G0,H0,G,ρ,_,good,h1,fun H1 G1 s1=>?_⟩
 split at hf
 · rename_i h;rw[Qo h];exact⟨G0,H0,G1,ρ,o,good.step s1,hf,k.mono s1.gg⟩
 · rename_i h;rw[Qg h];exact⟨G0,H0,G1,ρ,o,good.step s1,hf,k.mono s1.gg⟩
abbrev Gf:=D->List B->Option (List B)
def tFG (K:PySem.W.Frag)(g:Gf):TG:=fun v σ H Q=>∃G0 H0 G ρ d ρ',Good K G0 H0 G H σ ρ/\Rep K G d v/\g d ρ=some ρ'/\∀σ' H' G',Step G H G' H'->Good K G0 H0 G' H' σ' ρ'->Q σ' H'
def PFG (X:Cx)(tg:Expr)(g:Gf):Prop:=PG X tg (tFG X.K g)
abbrev Gfs:=List D->List B->Option (List B)
def zSR (K:PySem.W.Frag)(g:Gfs):TGs:=fun vs σ H Q=>∃G0 H0 G ρ ds ρ',Good K G0 H0 G H σ ρ/\Reps K G ds vs/\g ds ρ=some ρ'/\∀σ' H' G',Step G H G' H'->Good K G0 H0 G' H' σ' ρ'->Q σ' H'
def zWa (X:Cx)(tgs:List Expr)(g:Gfs):Prop:=PGs X tgs (zSR X.K g)
def gN (i:Nat):Gf:=fun d ρ=>some (ρ.set i (.fz d))
theorem rG (i:Nat){x:Str}(hN:X.N.Nodup)(hi:X.N[i]?=some x:=by rfl)(hx:Loc X.env.scope x:=by first | exact .inl rfl | exact .inr rfl)(hf:X.fn x=true∨X.env.scope.names.lookup x=some .local:=by first | exact .inl rfl | exact .inr rfl):PFG X (.Name x pos) (gN i):=by
 have h:=zWe (pos:=pos) hN hi hx hf
 intro pins s σ H v u Q I r q
 refine h pins s σ H v u Q I r ?_
 obtain⟨G0,H0,G,ρ,d,ρ',good,rd,hf,k⟩:=q
 cases hf
 exact k _ H G (.refl good.sub) (good.setF i rd)
def sD:Gfs:=fun ds ρ=>match ds with | []=>some ρ | _=>none
def yO (g:Gf)(r:Gfs):Gfs:=fun ds ρ=>match ds with | d::dr=>(g d ρ).bind fun ρ'=>r dr ρ' | _=>none
theorem kN:zWa X [] sD:=by
 intro pins s σ H vs us Q I r q
 refine zVP pins s σ H vs us Q I r ?_
 obtain⟨G0,H0,G,ρ,ds,ρ',good,rd,hf,k⟩:=q
 unfold sD at hf
 split at hf
 · cases hf
   rw[zM] at rd
   exact⟨rd,k _ H G (.refl good.sub) good⟩
 · cases hf
theorem x5 {g:Gf}{r:Gfs}(h1:PFG X e g)(h2:zWa X es r)(hs:(assignEach (e::es) X.env).map (·.2)=assign e X.env::(assignEach es X.env).map (·.2):=by rfl):zWa X (e::es) (yO g r):=by
 intro pins s σ H vs us Q I rv q
 refine zYn h1 h2 hs pins s σ H vs us Q I rv ?_
 obtain⟨G0,H0,G,ρ,ds,ρ',good,rd,hf,k⟩:=q
 unfold yO at hf
 split at hf
 · rename_i d dr
   obtain⟨ρ1,e1,e2⟩:=Qq.mp hf
   obtain⟨v,vr,rfl,r1,r2⟩:=zR.mp rd
   exact⟨v,vr,rfl,G0,H0,G,ρ,d,ρ1,good,r1,e1,fun σ' H' G' s' g'=>⟨G0,H0,G',ρ1,dr,ρ',g',r2.mono s'.gg,e2,fun σ2 H2 G2 s2 g2=>k σ2 H2 G2 (s'.trans s2) g2⟩⟩
 · cases hf
def gT (r:Gfs):Gf:=fun d ρ=>match d with | .tup ds=>r ds ρ | _=>none
theorem zVf {r:Gfs}{k:Nat}(n:Nat)(hc:X.calm=true)(h:zWa X es r)(hr:∀ds ρ ρ',r ds ρ=some ρ'->ds.length=n)(hn:(assignEach es X.env).length=n:=by rfl)(hst:(assignEach es X.env).findIdx? (·.1)=none:=by rfl):PFG X (.Tuple es k pos) (gT r):=by
 have h:=zVh (pos:=pos) (k:=k) hc h hn hst
 intro pins s σ H v u Q I rv q
 refine h pins s σ H v u Q I rv ?_
 obtain⟨G0,H0,G,ρ,d,ρ',good,rd,hf,k⟩:=q
 unfold gT at hf
 split at hf
 · obtain⟨p,vs,rfl,h1,h2⟩:=xZ.mp rd
   exact⟨p,vs,rfl,good.sub.tup h1,by rw[←h2.length];exact hr _ _ _ hf,G0,H0,G,ρ,_,ρ',good,h2,hf,k⟩
 · cases hf
theorem uM {g:Gf}{r:Gfs}{n:Nat}(h:∀ds ρ ρ',r ds ρ=some ρ'->ds.length=n):∀ds ρ ρ',yO g r ds ρ=some ρ'->ds.length=n+1:=by
 intro ds ρ ρ' q
 unfold yO at q
 split at q
 · obtain⟨ρ1,e1,e2⟩:=Qq.mp q
   rw[Qs,h _ _ _ e2]
 · cases q
theorem eZ:∀ds ρ ρ',sD ds ρ=some ρ'->ds.length=0:=by
 intro ds ρ ρ' q
 unfold sD at q
 split at q
 · rfl
 · cases q
def nQ (ρ:List B):Prop:=(∀(j:Nat) (es:List D),ρ[j]?≠some (B.ow es))/\(∀(j:Nat) (ks:List (D×D)),ρ[j]?≠some (B.od ks))/\∀(j:Nat) (d:D),ρ[j]?≠some (B.mu d)
def zZj (g:Gf):Prop:=∀d ρ ρ',g d ρ=some ρ'->nQ ρ->nQ ρ'
def zZJ (g:Gfs):Prop:=∀d ρ ρ',g d ρ=some ρ'->nQ ρ->nQ ρ'
theorem dC (i:Nat):zZj (gN i):=fun d ρ ρ' h n=>by
 cases h
 exact⟨fun j es e=>n.1 j es (yE e).2,fun j ks e=>n.2.1 j ks (nP e).2,fun j d' e=>n.2.2 j d' (nO e).2⟩
theorem zVN:zZJ sD:=fun d ρ ρ' h n=>by
 unfold sD at h
 split at h
 · cases h;exact n
 · cases h
theorem dH {g:Gf}{r:Gfs}(h1:zZj g)(h2:zZJ r):zZJ (yO g r):=fun d ρ ρ' h n=>by
 unfold yO at h
 split at h
 · obtain⟨ρ1,e1,e2⟩:=Qq.mp h
   exact h2 _ _ _ e2 (h1 _ _ _ e1 n)
 · cases h
theorem zSN {r:Gfs}(h:zZJ r):zZj (gT r):=fun d ρ ρ' q n=>by
 unfold gT at q
 split at q
 · exact h _ _ _ q n
 · cases q
def bG (f:Ef)(g:Gf):Sf:=fun ρ=>(f ρ).bind fun d=>(g d ρ).map .nx
theorem zY5 {K:PySem.W.Frag}{t:TE}{f:Ef}{g:Gf}(imp:∀σ H Q,tF K f σ H Q->t σ H Q){D:Ends}{σ:St}{H:Hp}(h:tFS K (bG f g) D σ H):zZz t (tFG K g) D σ H:=by
 obtain⟨G0,H0,G,ρ,o,good,hf,k⟩:=h
 unfold bG at hf
 obtain⟨d,h1,hf⟩:=Qq.mp hf
 obtain⟨ρ',h2,rfl⟩:=Qt.mp hf
 exact imp _ _ _ ⟨G0,H0,G,ρ,d,good,h1,fun v H' G' s r=>⟨G0,H0,G',ρ,d,ρ',good.step s,r,h2,fun σ2 H2 G2 s2 g2=>k σ2 H2 G2 (s.gg.trans s2.gg) g2⟩⟩
theorem aA {g:Gf}(he:PF X e fa)(hg:PFG X tg g)(hs:swapsWithSole [tg] e pos.line X.env=pure false:=by rfl)(hw:swappedStores [tg] e X.env=pure none:=by rfl)(h1:(assignEach [tg] X.env).map (·.2)=[assign tg X.env]:=by rfl) :
   PFS X (.Assign [tg] e pos) (bG fa g):=PS.to (zYA he hg hs hw h1) fun D σ H h=>zY5 (fun _ _ _ q=>q) h
def yX (i:Nat)(f:Ef):Sf:=fun ρ=>(f ρ).map fun d=>.nx (ρ.set i (.fz d))
theorem zYl {K:PySem.W.Frag}{t:TE}{f:Ef}{i:Nat}(imp:∀σ H Q,tF K f σ H Q->t σ H Q){D:Ends}{σ:St}{H:Hp}(h:tFS K (yX i f) D σ H):zZz t (dQ i) D σ H:=by
 obtain⟨G0,H0,G,ρ,o,good,hf,k⟩:=h
 unfold yX at hf
 obtain⟨d,h1,rfl⟩:=Qt.mp hf
 exact imp _ _ _ ⟨G0,H0,G,ρ,d,good,h1,fun v H' G' s r=>k _ H' G' s.gg ((good.step s).setF i r)⟩
theorem zG (i:Nat){x:Str}{pos':Pos}(hN:X.N.Nodup)(he:PF X e fa)(hi:X.N[i]?=some x:=by rfl)(hx:Loc X.env.scope x:=by first | exact .inl rfl | exact .inr rfl)(hs:swapsWith e (some (.Name x pos')) pos.line X.env=pure false:=by rfl)
   (hf:X.fn x=true∨X.env.scope.names.lookup x=some .local:=by first | exact .inl rfl | exact .inr rfl):PFS X (.Assign [.Name x pos'] e pos) (yX i fa) :=
 PS.to (eS hN hi hx he hs hf) fun D σ H h=>zYl (fun _ _ _ q=>q) h
def aD (i:Nat)(f:Lf):Sf:=fun ρ=>(f ρ).map fun ds=>.nx (ρ.set i (.ow ds))
theorem zXt {K:PySem.W.Frag}{t:TE}{f:Lf}{i:Nat}(imp:∀σ H Q,tFr K f σ H Q->t σ H Q){D:Ends}{σ:St}{H:Hp}(h:tFS K (aD i f) D σ H):zZz t (dQ i) D σ H:=by
 obtain⟨G0,H0,G,ρ,o,good,hf,k⟩:=h
 unfold aD at hf
 obtain⟨ds,h1,rfl⟩:=Qt.mp hf
 refine imp _ _ _ ⟨G0,H0,G,ρ,ds,good,h1,fun p vs H' G' s hn hp gp rs=>?_⟩
 refine k _ H' G' s.gg ((good.step s).setO i hp gp (good.st.hh.free hn) rs fun j es e z=>?_)
 obtain⟨q,us,e1,e2,_⟩:=good.addr e
 rw[e1] at z;cases z
 rw[hn] at e2;cases e2
def zYJ (i:Nat)(ρ:List B):List B:=match ρ[i]? with | some (.ow ds)=>ρ.set i (.fz (.lst ds)) | _=>ρ
def zYD (i:Nat)(f:Sf):Sf:=fun ρ=>f (zYJ i ρ)
theorem Good.frz {K:PySem.W.Frag}{G0 H0 G H:Hp}{σ:St}{ρ:List B}(g:Good K G0 H0 G H σ ρ)(i:Nat):∃G',Same G G'/\Good K G0 H0 G' H σ (zYJ i ρ):=by
 unfold zYJ
 split
 · rename_i ds e
   obtain⟨p,vs,h1,h2,h3,h4,h5⟩:=g.addr e
   have sG:Same G (upd G p (.lst vs)):=Same.new h3
   have st:Step G0 H0 (upd G p (.lst vs)) H:=by
     refine⟨g.st.hh,g.st.gg.trans sG,fun b o q=>?_,fun b o' hb hn=>?_⟩
     · by_cases z:b=p
       · subst z;rw[zN] at q;rw[h2];exact q
       · rw[zO z] at q;exact g.st.sub b o q
     · rw[zO (fun z:b=p=>by rw[z,h4] at hb;cases hb)];exact g.st.new b o' hb hn
   have vals:Paired (RB K H0 (upd G p (.lst vs)) H) σ (ρ.set i (.fz (.lst ds))):=by
     have key:∀(l:List (Option V)) (r:List B) (n:Nat),Paired (RB K H0 G H) l r->(∀j es,n+j≠i->r[j]?=some (.ow es)->l[j]?≠some (some (.ref p)))->(∀j,n+j=i->l[j]?=some (some (.ref p))) ->
         Paired (RB K H0 (upd G p (.lst vs)) H) l (if i < n then r else r.set (i - n) (.fz (.lst ds))):=by
       intro l r n q
       induction q generalizing n with
       | nil=>intro _ _;split<;>exact .nil
       | @cons o b l' r' q t ih =>
         intro hne hat
         have tl:=ih (n+1) (fun j es z e=>by have:=hne (j+1) es (by omega) (by simpa using e);simpa using this) (fun j z=>by have:=hat (j+1) (by omega);simpa using this)
         have keepq:(∀es,b = .ow es->o≠some (.ref p))->RB K H0 (upd G p (.lst vs)) H o b:=fun hb=>by
           cases q with
           | no=>exact .no
           | fz r=>exact .fz (r.mono sG)
           | @ow c vs' ds' c1 c2 c3 c4 =>
             have:c≠p:=fun z=>hb _ rfl (by rw[z])
             exact .ow c1 (by rw[zO this];exact c2) c3 (c4.mono sG)
           | @od c _ _ _ _ c1 c2 c3 c4 c5 c6 =>
             have:c≠p:=fun z=>by rw[z,h2] at c1;cases c1
             exact .od c1 (by rw[zO this];exact c2) c3 (c4.mono sG) c5 c6
           | @mu c _ _ c1 c2 c3 c4 =>
             have:c≠p:=fun z=>by rw[z,h2] at c1;cases c1;exact c4.nl
             exact .mu c1 (by rw[zO this];exact c2) c3 (c4.mono sG)
         by_cases h1:i < n
         · rw[Qo h1]
           rw[Qo (by omega)] at tl
           exact .cons (keepq fun es e z=>hne 0 es (by omega) (by simp[e]) (by simp[z])) tl
         · rw[Qg h1]
           by_cases h2:i=n
           · subst h2
             rw[Qo (by omega)] at tl
             have:=hat 0 (by omega)
             simp at this
             subst this
             rw[Nat.sub_self]
             exact .cons (.fz (yW.mpr ⟨p,vs,rfl,.of zN,h5.mono sG⟩)) tl
           · rw[Qg (by omega)] at tl
             have e:i - n=(i - (n+1))+1:=by omega
             rw[e]
             exact .cons (keepq fun es e z=>hne 0 es (by omega) (by simp[e]) (by simp[z])) tl
     have v:=key σ ρ 0 g.vals (fun j es' z e' w=>by have:=g.apart j i p es' ds e' e w h1;omega) (fun j z=>by rw[show j=i by omega];exact h1)
     rw[Qg (Nat.not_lt_zero _),Nat.sub_zero] at v
     exact v
   refine⟨_,sG,st,vals,fun j k b d1 d2 e1 e2 e3 e4=>?_⟩
   obtain⟨_,f1⟩:=yE e1
   obtain⟨_,f2⟩:=yE e2
   exact g.apart j k b d1 d2 f1 f2 e3 e4
 · exact⟨G,Same.refl _,g⟩
theorem zYt (i:Nat)(h:PFS X st f):PFS X st (zYD i f):=by
 refine PS.to h ?_
 rintro D σ H ⟨G0,H0,G,ρ,o,good,hf,k⟩
 obtain⟨G',s,g'⟩:=good.frz i
 exact⟨G0,H0,G',_,o,g',hf,k.mono s⟩
end
def aP (K:PySem.W.Frag)(J:It)(G:Hp)(ds:List D):Prop:=∀(i:Nat) (G2 H2:Hp),Same G G2->Same G2 H2 ->
 (∀d,ds[i]?=some d->J.go i H2/\∀x H3,J.yld i H2 x H3->∃G3,Step G2 H2 G3 H3/\Rep K G3 d x)/\(ds.length<=i->J.stop i H2)
def tFI (K:PySem.W.Frag)(f:Lf):TI:=fun σ H R=>∃G0 H0 G ρ ds,Good K G0 H0 G H σ ρ/\f ρ=some ds/\∀J H' G',Step G H G' H'->aP K J G' ds->R J H'
def PFI (X:Cx)(tg iter:Expr)(f:Lf):Prop:=PI X tg iter (tFI X.K f)
theorem PI.to {X:Cx}{tg e:Expr}{t:TI}{f:Lf}(h:PI X tg e t)(imp:∀σ H R,tFI X.K f σ H R->t σ H R):PFI X tg e f:=fun pins s σ H R I q=>h pins s σ H R I (imp σ H R q)
theorem oQ {K:PySem.W.Frag}{G:Hp}{a:Addr}{vs:List V}{ds:List D}(h:SqL K G a vs)(r:Reps K G ds vs):aP K (Itl K a) G ds:=by
 intro i G2 H2 s1 s2
 have q:SqL K H2 a vs:=(s1.trans s2).seq h
 refine⟨fun d hd=>?_,fun hi=>⟨vs,q,by rw[←r.length];exact hi⟩⟩
 obtain⟨v,e,rv⟩:=r.get hd
 refine⟨⟨vs,v,q,e⟩,fun x H3 y=>?_⟩
 obtain⟨rfl,y⟩:=y
 have:=y vs q
 rw[e] at this;cases this
 exact⟨G2,.refl s2,rv.mono s1⟩
def tW (lo:Int)(n:Nat):List D:=(List.range n).map fun i=>D.int (lo+(i:Nat))
theorem hU {K:PySem.W.Frag}{G:Hp}{lo:Int}{n:Nat}:aP K (Itr lo n) G (tW lo n):=by
 intro i G2 H2 s1 s2
 have hl:(tW lo n).length=n:=by simp[tW]
 refine⟨fun d hd=>?_,fun hi=>by rw[hl] at hi;exact hi⟩
 have hi:i < n:=by rw[←hl];exact(Qf.mp hd).1
 refine⟨hi,fun x H3 y=>?_⟩
 obtain⟨rfl,rfl⟩:=y
 have e:d = .int (lo+i):=by
   unfold tW at hd
   rw[Wi,List.getElem?_range hi] at hd
   exact(Qv hd).symm
 subst e
 exact⟨G2,.refl s2,zJ.mpr rfl⟩
section
variable {X:Cx} {a b c e tg elt iter:Expr} {es ifs:List Expr} {fa fb:Ef} {ga gi:Lf} {tc:Tf} {pos:Pos} {st:Stmt} {f g:Sf}
def iL (f:Ef):Lf:=fun ρ=>(f ρ).bind fun d=>match d with | .lst ds=>some ds | _=>none
theorem zXo (h:PF X e fa):PFI X tg e (iL fa):=by
 refine PI.to (zZK h) ?_
 rintro σ H R ⟨G0,H0,G,ρ,ds,good,hf,k⟩
 unfold iL at hf
 obtain⟨d,h1,hf⟩:=Qq.mp hf
 cases d with
 | lst es =>
   cases hf
   refine⟨G0,H0,G,ρ,_,good,h1,fun x H1 G1 s1 r1=>?_⟩
   obtain⟨p,vs,rfl,q,rs⟩:=yW.mp r1
   exact⟨p,rfl,⟨vs,s1.sub.seq q⟩,k _ H1 G1 s1 (oQ q rs)⟩
 | _=>cases hf
theorem zVs (h:PFr X e ga):PFI X tg e ga:=by
 refine PI.to (zZK h) ?_
 rintro σ H R ⟨G0,H0,G,ρ,ds,good,hf,k⟩
 refine⟨G0,H0,G,ρ,_,good,hf,fun p vs H1 G1 s1 hn hp gp rs=>?_⟩
 exact⟨p,rfl,⟨vs,.of hp⟩,k _ H1 (upd G1 p (.lst vs)) (s1.frz hn hp gp) (oQ (.of zN) (rs.mono (Same.new gp)))⟩
def iR (f:Ef):Lf:=fun ρ=>(f ρ).bind fun d=>match d with | .int n=>if decide (-1000000<=n)&&decide (n<=1000000) then some (tW 0 n.toNat) else none | _=>none
theorem zUL {p:Pos}(hg:Gl X "range")(hm:X.mg "range"=none)(h:PF X a fa)(hs:starEach [a] X.env=[(false,eval a X.env)]:=by rfl):PFI X tg (.Call (.Name "range" p) [a] [] pos) (iR fa):=by
 refine PI.to (zYO hg hm (xF h uJ (by rw[hs];rfl)) hs) ?_
 rintro σ H R ⟨G0,H0,G,ρ,ds,good,hf,k⟩
 unfold iR at hf
 obtain⟨d,h1,hf⟩:=Qq.mp hf
 cases d with
 | int n =>
   dsimp only at hf
   split at hf
   · rename_i hc
     cases hf
     simp only[Wt,Wn] at hc
     refine⟨G0,H0,G,ρ,_,good,h1,fun x H1 G1 s1 r1=>⟨n,by rw[zJ.mp r1],by omega,by omega,k _ H1 G1 s1 hU⟩⟩
   · cases hf
 | _=>cases hf
def kH (g:Gf)(body:Sf):List D->Sf
 | [],ρ=>some (.nx ρ)
 | d::r,ρ=>(g d ρ).bind fun ρ1=>(body ρ1).bind fun o=>match o with
   | .nx ρ2=>kH g body r ρ2
   | .ct ρ2=>kH g body r ρ2
   | .bk ρ2=>some (.nx ρ2)
   | o=>some o
def fV (src:Lf)(g:Gf)(body:Sf):Sf:=fun ρ=>(src ρ).bind fun ds=>kH g body ds ρ
theorem eY {gt:Gf}{body:List Stmt}{fb:Sf}(hp:PassesOwn (model X.prog X.w) X.A X.env X.xe)(hc:X.calm=true)(hi:PFI X tg iter gi)(hg:PFG X tg gt)(hb:PFSs X body fb)(hs:∀x,foldedSetIterable iter X.env x=pure x:=by intro _;rfl) :
   PFS X (.For tg iter body [] pos) (fV gi gt fb):=by
 refine PS.to (zUi hp hc hi hg hb hs) ?_
 rintro D σ H ⟨G0,H0,G,ρ,o,good,hf,k⟩
 unfold fV at hf
 obtain⟨ds,h1,hf⟩:=Qq.mp hf
 refine⟨G0,H0,G,ρ,ds,good,h1,fun J H1 G1 s1 y=>?_⟩
 refine⟨fun i m σ H=>m=ds.length - i/\i<=ds.length/\∃G2 ρ2,Same G1 G2/\Good X.K G0 H0 G2 H σ ρ2/\kH gt fb (ds.drop i) ρ2=some o,⟨ds.length,by simp,Wl _,G1,ρ,Same.refl _,good.step s1,by simpa using hf⟩,?_⟩
 rintro i m σ2 H2 ⟨rfl,hi',G2,ρ2,sg,good2,hf2⟩
 obtain⟨y1,y2⟩:=y i G2 H2 sg good2.sub
 by_cases hlt:i < ds.length
 · obtain⟨go,yl⟩:=y1 ds[i] (Qm hlt)
   rw[Uu hlt] at hf2
   unfold kH at hf2
   obtain⟨ρ3,e1,hf2⟩:=Qq.mp hf2
   obtain⟨o1,e2,hf2⟩:=Qq.mp hf2
   refine .inr ⟨go,fun σ' H'=>∃G' ρ',Same G1 G'/\Good X.K G0 H0 G' H' σ' ρ'/\kH gt fb (ds.drop (i+1)) ρ'=some o,fun σ' H' ⟨G',ρ',a1,a2,a3⟩=>⟨ds.length - (i+1),by omega,rfl,hlt,G',ρ',a1,a2,a3⟩,fun x H3 yx=>?_⟩
   obtain⟨G3,s3,r3⟩:=yl x H3 yx
   refine⟨G0,H0,G3,ρ2,_,ρ3,good2.step s3,r3,e1,fun σ4 H4 G4 s4 good4=>?_⟩
   have sg4:Same G1 G4:=(sg.trans s3.gg).trans s4.gg
   refine⟨G0,H0,G4,ρ3,o1,good4,e2,?_⟩
   cases o1 with
   | nx ρ5=>exact fun σ5 H5 G5 s5 good5=>⟨G5,ρ5,sg4.trans s5,good5,hf2⟩
   | ct ρ5=>exact fun σ5 H5 G5 s5 good5=>⟨G5,ρ5,sg4.trans s5,good5,hf2⟩
   | bk ρ5=>cases hf2;exact fun σ5 H5 G5 s5 good5=>k σ5 H5 G5 ((s1.gg.trans sg4).trans s5) good5
   | rt d=>cases hf2;exact k
   | rl d=>cases hf2;exact k
 · have e:i=ds.length:=by omega
   subst e
   rw[List.drop_length] at hf2
   cases hf2
   exact .inl ⟨y2 (Qz _),k σ2 H2 G2 (s1.gg.trans sg) good2⟩
def rZ (g:Gf)(t:Tf)(elt:Ef):List D->List B->List D->Option (List D)
 | [],_,acc=>some acc
 | d::r,ρ,acc=>(g d ρ).bind fun ρ1=>(t ρ1).bind fun c=>if c=true then(elt ρ1).bind fun y=>rZ g t elt r ρ1 (acc++[y]) else rZ g t elt r ρ1 acc
def upB (m:Nat)(js:List Nat)(ρ:List B):List B:=List.replicate m .no++js.map fun j=>match ρ[j]? with | some (.fz d)=>.fz d | _=>.no
def xU (src:Lf)(m:Nat)(js:List Nat)(g:Gf)(t:Tf)(elt:Ef):Lf:=fun ρ=>((src ρ).bind okL).bind fun ds=>rZ g t elt ds (upB m js ρ) []
theorem Good.up {K:PySem.W.Frag}{G0 H0 G H:Hp}{σ:St}{ρ:List B}(g:Good K G0 H0 G H σ ρ)(m:Nat)(js:List Nat):Good K G H G H (upC m js σ) (upB m js ρ):=by
 refine⟨.refl g.sub,?_,fun i j a ds es h1=>?_⟩
 · unfold upC upB
   have rep:∀m:Nat,Paired (RB K H G H) (List.replicate m (none:Option V)) (List.replicate m B.no):=fun m=>by
     induction m with
     | zero=>exact .nil
     | succ n ih=>rw[Es,Es];exact .cons .no ih
   have app:∀ {l1 l2:List (Option V)} {r1 r2:List B},Paired (RB K H G H) l1 r1->Paired (RB K H G H) l2 r2->Paired (RB K H G H) (l1++l2) (r1++r2):=fun h1 h2=>by
     induction h1 with
     | nil=>exact h2
     | cons q t ih=>exact .cons q ih
   refine app (rep m) ?_
   induction js with
   | nil=>exact .nil
   | cons j r ih =>
     rw[Qp,Qp]
     refine .cons ?_ ih
     cases e:ρ[j]? with
     | none=>exact .no
     | some b =>
       obtain⟨o,e1,r1⟩:=Paired.get g.vals e
       cases r1 with
       | no=>exact .no
       | fz q=>rw[e1];exact .fz q
       | ow q1 q2 q3 q4=>exact .no
       | od q1 q2 q3 q4 q5 q6=>exact .no
       | mu q1 q2 q3 q4=>exact .no
 · unfold upB at h1
   by_cases hi:i < m
   · rw[Ws (by simpa using hi),Wj] at h1
     split at h1<;>cases h1
   · rw[Wu (by simpa using hi),Wi] at h1
     obtain⟨k,_,h1⟩:=Qt.mp h1
     split at h1<;>cases h1
theorem zYk (m:Nat)(js:List Nat)(ρ:List B):nQ (upB m js ρ):=by
 refine⟨?_,?_,?_⟩
 all_goals
   intro i es h1
   unfold upB at h1
   by_cases hi:i < m
   · rw[Ws (by simpa using hi),Wj] at h1
     split at h1<;>cases h1
   · rw[Wu (by simpa using hi),Wi] at h1
     obtain⟨k,_,h1⟩:=Qt.mp h1
     split at h1<;>cases h1
theorem Good.wrX {K:PySem.W.Frag}{G0 H0 G H:Hp}{σ:St}{ρ:List B}{p:Addr}{o:HO}(g:Good K G0 H0 G H σ ρ)(n:nQ ρ)(gp:G p=none)(h0:H0 p=none):Good K G0 H0 G (upd H p o) σ ρ:=by
 refine⟨⟨fun b u e=>?_,g.st.gg,fun b u e=>?_,g.st.new⟩,?_,g.apart⟩
 · rw[zO (zB e h0)];exact g.st.hh b u e
 · rw[zO (zB e gp)];exact g.st.sub b u e
 · have key:∀(l:List (Option V)) (r:List B),Paired (RB K H0 G H) l r->nQ r->Paired (RB K H0 G (upd H p o)) l r:=by
     intro l r q
     induction q with
     | nil=>intro _;exact .nil
     | @cons x b l' r' q t ih =>
       intro n
       refine .cons ?_ (ih ⟨fun j es e=>n.1 (j+1) es (by simpa using e),fun j es e=>n.2.1 (j+1) es (by simpa using e),fun j es e=>n.2.2 (j+1) es (by simpa using e)⟩)
       cases q with
       | no=>exact .no
       | fz r=>exact .fz r
       | ow _ _ _ _=>exact absurd rfl (n.1 0 _)
       | od _ _ _ _ _ _=>exact absurd rfl (n.2.1 0 _)
       | mu _ _ _ _=>exact absurd rfl (n.2.2 0 _)
   exact key σ ρ g.vals n
theorem cO {K:PySem.W.Frag}{m:Nat}{js:List Nat}{gt:Gf}{t:Tf}{el:Ef}(hgo:zZj gt){σ:St}{H:Hp}{Q:VK}(h:tFr K (xU gi m js gt t el) σ H Q):zX2 (tFI K gi) m js (tFG K gt) (tFT K t) (tF K el) σ H Q:=by
 obtain⟨G0,H0,G,ρ,out,good,hf,k⟩:=h
 unfold xU at hf
 obtain⟨ds,h1,hf⟩:=Qq.mp hf
 obtain⟨ds',h1,h1'⟩:=Qq.mp h1
 obtain⟨rfl,hlen⟩:=oV h1'
 refine⟨G0,H0,G,ρ,_,good,h1,fun J H1 G1 s1 y D hD=>?_⟩
 have good1:=(good.step s1).up m js
 have hGD:G1 D=none:=s1.sub.free hD
 refine⟨fun i n σ2 H2=>n=ds.length - i/\i<=ds.length/\∃G2 ρ2 acc us,Same G1 G2/\G2 D=none/\H2 D=some (.lst us)/\Reps K G2 acc us/\acc.length<=i/\nQ ρ2/\Good K G1 H1 G2 H2 σ2 ρ2/\rZ gt t el (ds.drop i) ρ2 acc=some out,
   ⟨ds.length,by simp,Wl _,G1,upB m js ρ,[],[],Same.refl _,hGD,zN,zM.mpr rfl,Qz _,zYk _ _ _,good1.step (Step.own s1.sub hD),by simpa using hf⟩,?_⟩
 rintro i n σ2 H2 ⟨rfl,hi,G2,ρ2,acc,us,sg,gD,hD2,rs,hal,now,good2,hf2⟩
 obtain⟨y1,y2⟩:=y i G2 H2 sg good2.sub
 by_cases hlt:i < ds.length
 · obtain⟨go,yl⟩:=y1 ds[i] (Qm hlt)
   rw[Uu hlt] at hf2
   unfold rZ at hf2
   obtain⟨ρ3,e1,hf2⟩:=Qq.mp hf2
   obtain⟨c,e2,hf2⟩:=Qq.mp hf2
   have now3:=hgo _ _ _ e1 now
   refine .inr ⟨go,fun x H3 yx=>?_⟩
   obtain⟨G3,s3,r3⟩:=yl x H3 yx
   refine⟨G1,H1,G3,ρ2,_,ρ3,good2.step s3,r3,e1,fun σ4 H4 G4 s4 good4=>?_⟩
   refine⟨G1,H1,G4,ρ3,c,good4,e2,fun H5 G5 s5=>?_⟩
   have s35:=(s3.trans s4).trans s5
   have hne:H2 D≠none:=by rw[hD2];exact fun z=>nomatch z
   split at hf2
   · rename_i hc
     show if c=true then _ else _
     rw[Qo hc]
     obtain⟨yd,e3,hf2⟩:=Qq.mp hf2
     refine⟨G1,H1,G5,ρ3,yd,good4.step s5,e3,fun v H6 G6 s6 r6=>?_⟩
     have s36:=s35.trans s6
     have hD6:H6 D=some (.lst us):=s36.hh _ _ hD2
     have gD6:G6 D=none:=(s36.new D _ hD2 rfl).trans gD
     refine⟨us,ds.length - (i+1),hD6,?_,by omega,rfl,hlt,G6,ρ3,acc++[yd],us++[v],sg.trans s36.gg,gD6,zN,(rs.mono s36.gg).snoc r6,by rw[Ql,List.length_singleton];omega,now3,((good4.step s5).step s6).wrX now3 gD6 hD,hf2⟩
     rw[←rs.length]
     exact wS (We hal (We hi hlen))
   · rename_i hc
     show if c=true then _ else _
     rw[Qg hc]
     exact⟨ds.length - (i+1),by omega,rfl,hlt,G5,ρ3,acc,us,sg.trans s35.gg,(s35.new D _ hD2 rfl).trans gD,s35.hh _ _ hD2,rs.mono s35.gg,by omega,now3,good4.step s5,hf2⟩
 · have e:i=ds.length:=by omega
   subst e
   rw[List.drop_length] at hf2
   cases hf2
   exact .inl ⟨y2 (Qz _),k D us H2 G2 (s1.trans good2.st) (s1.hh.free hD) hD2 gD rs⟩
def tOK:Tf:=fun _=>some true
def zZB (X:Cx)(ifs:List Expr)(t:Tf):Prop:=bJ X ifs (tFT X.K t)
theorem tJ {X:Cx}:zZB X [] tOK:=fun pins s σ H Q I h=>zYo pins s σ H Q I (by
 obtain⟨G0,H0,G,ρ,b,good,hf,k⟩:=h
 cases hf
 exact k H G (.refl good.sub))
theorem iX {X:Cx}{c:Expr}{t:Tf}(h:PFT X c t):zZB X [c] t:=zXm h
theorem pD (sc:Scope)(N tgs frees:List Str)(js:List Nat){scope:Scope}{gt:Gf}{t:Tf}{el:Ef}(hgo:zZj gt)(hp:PFI X tg iter gi)(hc:X.calm=true)(hsc:X.env.scope=sc)(hNN:X.N=N)(hok:sN sc scope N tgs frees js=true)
   (hg:∀C s₀ H₀ fp,PFG (y0 X (tgs++frees) scope C s₀ H₀ fp) tg gt) (hi:∀C s₀ H₀ fp,zZB (y0 X (tgs++frees) scope C s₀ H₀ fp) ifs t) (he:∀C s₀ H₀ fp,PF (y0 X (tgs++frees) scope C s₀ H₀ fp) elt el)
   (hs:∀x,foldedSetIterable iter X.env x=pure x:=by intro _;rfl) :
   PFr X (.ListComp elt [⟨tg,iter,ifs,0⟩] scope pos) (xU gi tgs.length js gt t el) :=
 PE.toR (zWJ (g:=tFG X.K gt) (tc:=tFT X.K t) (te:=tF X.K el) sc tgs frees js hp hc hsc (by rw[hNN];exact hok) hg hi he hs) fun σ H Q h=>cO hgo h
theorem kK (sc:Scope)(N tgs frees:List Str)(js:List Nat){scope:Scope}{gt:Gf}{t:Tf}{el:Ef}(hgo:zZj gt)(i:Nat){x:Str}{pos' spos:Pos}(hN:X.N.Nodup)(hx:X.N[i]?=some x)(hl:X.env.scope.names.lookup x=some .local)(hp:PFI X tg iter gi)(hc:X.calm=true)(hsc:X.env.scope=sc)(hNN:X.N=N)(hok:sN sc scope N tgs frees js=true)
   (hg:∀C s₀ H₀ fp,PFG (y0 X (tgs++frees) scope C s₀ H₀ fp) tg gt) (hi:∀C s₀ H₀ fp,zZB (y0 X (tgs++frees) scope C s₀ H₀ fp) ifs t) (he:∀C s₀ H₀ fp,PF (y0 X (tgs++frees) scope C s₀ H₀ fp) elt el)
   (hsw:swapsWith (.ListComp elt [⟨tg,iter,ifs,0⟩] scope pos) (some (.Name x pos')) spos.line X.env=pure true:=by with_unfolding_all rfl) (hs:∀x,foldedSetIterable iter X.env x=pure x:=by intro _;rfl) :
   PFS X (.Assign [.Name x pos'] (.ListComp elt [⟨tg,iter,ifs,0⟩] scope pos) spos) (aD i (xU gi tgs.length js gt t el)) :=
 PS.to (aK (g:=tFG X.K gt) (tc:=tFT X.K t) (te:=tF X.K el) sc tgs frees js hN hx hl hp hc hsc (by rw[hNN];exact hok) hg hi he hsw hs) fun D σ H h=>zXt (fun _ _ _ q=>cO hgo q) h
end
section
variable {X:Cx} {a:Expr} {fa:Ef} {pos:Pos} {f:Sf}
def zTU:D->Option D
 | .tup ds=>some (.int ds.length)
 | .lst ds=>some (.int ds.length)
 | .str z=>if z.length<=lim then some (.int z.length) else none
 | _=>none
def uT (f:Ef):Ef:=fun ρ=>(f ρ).bind zTU
theorem tE {p:Pos}(hg:Gl X "len")(hm:X.mg "len"=none)(h:PF X a fa)(hs:starEach [a] X.env=[(false,eval a X.env)]:=by rfl):PF X (.Call (.Name "len" p) [a] [] pos) (uT fa):=by
 refine PE.to (rT (fX.or fR) hg hm PySem.boot_len (xF h uJ (by rw[hs];rfl)) (by decide) (by decide) (by rw[hs];rfl) (by rfl)) ?_
 rintro σ H Q ⟨G0,H0,G,ρ,d,good,hf,k⟩
 unfold uT at hf
 obtain⟨x,h1,hf⟩:=Qq.mp hf
 refine⟨G0,H0,G,ρ,_,good,h1,fun v H1 G1 s1 r1=>?_⟩
 unfold zTU at hf
 split at hf
 · cases hf
   obtain⟨p,vs,rfl,q,rs⟩:=xZ.mp r1
   exact .inl ⟨p,vs,rfl,.inr (s1.sub.tup q),k _ _ G1 s1 (zJ.mpr (by rw[rs.length]))⟩
 · cases hf
   obtain⟨p,vs,rfl,q,rs⟩:=yW.mp r1
   exact .inl ⟨p,vs,rfl,.inl (s1.sub.seq q),k _ _ G1 s1 (zJ.mpr (by rw[rs.length]))⟩
 · split at hf
   · rename_i hz
     cases hf
     exact .inr ⟨_,by rw[yS.mp r1],Wp (wS hz),k _ _ G1 s1 (zJ.mpr rfl)⟩
   · cases hf
 · cases hf
def zX7:D->Option (List D) | .lst ds=>some ds | .tup ds=>some ds | _=>none
def rA (f:Ef):Lf:=fun ρ=>(f ρ).bind zX7
theorem iK {p:Pos}(hg:Gl X "list")(hm:X.mg "list"=none)(h:PF X a fa)(hs:starEach [a] X.env=[(false,eval a X.env)]:=by rfl):PFr X (.Call (.Name "list" p) [a] [] pos) (rA fa):=by
 refine PE.toR (zYV gP hg hm (by rfl) (xF h uJ (by rw[hs];rfl)) (by decide) (by decide) (by rw[hs];rfl) (by rfl)) ?_
 rintro σ H Q ⟨G0,H0,G,ρ,d,good,hf,k⟩
 unfold rA at hf
 obtain⟨x,h1,hf⟩:=Qq.mp hf
 refine⟨G0,H0,G,ρ,_,good,h1,fun v H1 G1 s1 r1=>?_⟩
 unfold zX7 at hf
 split at hf
 · cases hf
   obtain⟨p,vs,rfl,q,rs⟩:=yW.mp r1
   exact⟨p,vs,rfl,.inl (s1.sub.seq q),fun l hl=>k l vs _ G1 (s1.trans (Step.own s1.sub hl)) (s1.hh.free hl) zN (s1.sub.free hl) rs⟩
 · cases hf
   obtain⟨p,vs,rfl,q,rs⟩:=xZ.mp r1
   exact⟨p,vs,rfl,.inr (s1.sub.tup q),fun l hl=>k l vs _ G1 (s1.trans (Step.own s1.sub hl)) (s1.hh.free hl) zN (s1.sub.free hl) rs⟩
 · cases hf
end
def spF (K:PySem.W.Frag)(n:Nat)(f:List D->Option D):Sp:=fun vs H Q _=>∃G ds d,Same G H/\Reps K G ds vs/\ds.length=n/\f ds=some d/\∀v H' G',Step G H G' H'->Rep K G' d v->Q v H'
def nN (N:Nat)(ds:List D):List B:=ds.map .fz++List.replicate (N - ds.length) .no
def xJ:Out->Option D
 | .nx _=>some .non
 | .rt d=>some d
 | .rl ds=>some (.lst ds)
 | _=>none
def fnF (N:Nat)(body:Sf)(ds:List D):Option D:=(body (nN N ds)).bind xJ
theorem pI {K:PySem.W.Frag}{G H:Hp}{N:List Str}{ds:List D}{vs:List V}(s:Same G H)(r:Reps K G ds vs):Good K G H G H (vT N vs) (nN N.length ds):=by
 refine⟨.refl s,?_,fun i j a es es' h1=>?_⟩
 · unfold vT nN
   rw[r.length]
   have rep:∀m:Nat,Paired (RB K H G H) (List.replicate m (none:Option V)) (List.replicate m B.no):=fun m=>by
     induction m with
     | zero=>exact .nil
     | succ n ih=>rw[Es,Es];exact .cons .no ih
   have key:∀(ds:List D) (vs:List V) (l:List (Option V)) (q:List B),Reps K G ds vs->Paired (RB K H G H) l q->Paired (RB K H G H) (vs.map some++l) (ds.map .fz++q):=by
     intro ds
     induction ds with
     | nil=>intro vs l q h p;rw[zM] at h;subst h;exact p
     | cons d r ih =>
       intro vs l q h p
       obtain⟨v,vr,rfl,h1,h2⟩:=zR.mp h
       exact .cons (.fz h1) (ih vr l q h2 p)
   exact key ds vs _ _ r (rep _)
 · unfold nN at h1
   by_cases hi:i < ds.length
   · rw[Ws (by simpa using hi),Wi] at h1
     obtain⟨k,_,h1⟩:=Qt.mp h1
     cases h1
   · rw[Wu (by simpa using hi),Wj] at h1
     split at h1<;>cases h1
section
variable {P:Program} {w:World} {K:PySem.W.Frag} {mg:Str->Option Value} {base:Heap} {x qual:Str} {st:Stmt} {f:Addr} {fd:FuncData} {N ps:List Str} {k:Nat}
theorem xH {body:Sf}(F:Fun K x qual st f fd)(S:FnScope N ps (zX st))
   (hb:∀(cdv:Value) (A:Around) (outer:List Env) (s:Shared) (H:Hp) (E:XK),Room k (A.deeper (envOfC qual (zX st) s.heap.objs.size f cdv))->PFSs (sU CX0 P w K mg base N qual (zX st) f cdv A outer s H E).nox (zQ st) body) :
   FnOk P w K mg base CX0 (k+1) f fd ps (spF K ps.length (fnF N.length body)):=by
 refine F.ok S (fun vs H Q E h=>?_) (fun cdv A outer s H vs Q E hr h=>⟨_,hb cdv A outer s H E hr,?_⟩)
 · obtain⟨G,ds,d,sub,rs,hl,_⟩:=h
   rw[←rs.length];exact hl
 · obtain⟨G,ds,d,sub,rs,hl,hf,k⟩:=h
   unfold fnF at hf
   obtain⟨o,h1,h2⟩:=Qq.mp hf
   refine⟨G,H,G,_,o,pI sub rs,h1,?_⟩
   cases o with
   | nx ρ=>cases h2;exact fun σ' H' G' s' g'=>k .non H' G' g'.st (uR.mpr rfl)
   | rt e=>cases h2;exact fun v H' G' s' r=>k v H' G' s' r
   | rl es=>cases h2;exact fun p us H' G' s' hn hp gp r=>k _ H' (upd G' p (.lst us)) (s'.frz hn hp gp) (yW.mpr ⟨p,us,rfl,.of zN,r.mono (Same.new gp)⟩)
   | bk ρ=>cases h2
   | ct ρ=>cases h2
theorem zXy {CX:CXT}{n:Nat}:FnOk P w K mg base CX k f fd ps (spF K n fun _=>none) :=
 ⟨fun vs H Q E h=>(by obtain⟨_,_,_,_,_,_,z,_⟩:=h;exact nomatch z),fun A outer s H args us vs Q E _ _ _ _ h=>(by obtain⟨_,_,_,_,_,_,z,_⟩:=h;exact nomatch z)⟩
end
section
variable {X:Cx} {a c e:Expr} {es:List Expr} {fa fb:Ef} {ga:Lf} {tc:Tf} {pos p:Pos} {f g:Sf}
def zI (n:Nat)(f:List D->Option D)(g:Lf):Ef:=fun ρ=>(g ρ).bind fun ds=>if ds.length=n then f ds else none
theorem zWc {k n:Nat}{fad:Addr}{fd:FuncData}{ps:List Str}{x:Str}{fD:List D->Option D}(F:FnOk X.prog X.w X.K X.mg X.base CX0 k fad fd ps (spF X.K n fD))(hr:Room k X.A)(hm:X.mg x=some (.ref fad))(hk:PySem.W.keepIn X.K (.ref fad)=true)(hb:Binds X.K fd ps [])(hg:Gl X x)
   (ha:PFA X (e::es) ga) (hdb:(x==("__debug__":Str))=false:=by decide) (he:starEach (e::es) X.env=(false,eval e X.env)::starEach es X.env:=by rfl) (hpl:(backTo pos (starEach es X.env)).any (·.1)=false:=by rfl) :
   PF X (.Call (.Name x p) (e::es) [] pos) (zI n fD ga):=by
 refine PE.to (zWO (E:=E0) F hr hg hm hk hb .nil cC ha hdb he hpl) ?_
 rintro σ H Q ⟨G0,H0,G,ρ,d,good,hf,k⟩
 unfold zI at hf
 obtain⟨ds,h1,hf⟩:=Qq.mp hf
 split at hf
 · rename_i hl
   refine⟨G0,H0,G,ρ,_,good,h1,fun vs H1 G1 s1 r1=>?_⟩
   show spF X.K n fD (vs++[]) H1 Q E0
   rw[Wx]
   exact⟨G1,ds,d,s1.sub,r1,hl,hf,fun v H' G' s r=>k v H' G' (s1.trans s) r⟩
 · cases hf
def vY (t:Tf)(body:Sf):Nat->Sf
 | 0,_=>none
 | n+1,ρ=>(t ρ).bind fun c=>if c=true then(body ρ).bind fun o=>match o with
     | .nx ρ2=>vY t body n ρ2
     | .ct ρ2=>vY t body n ρ2
     | .bk ρ2=>some (.nx ρ2)
     | o=>some o
   else some (.nx ρ)
theorem iQ (n:Nat){body:List Stmt}{fb:Sf}(hp:PassesOwn (model X.prog X.w) X.A X.env X.xe)(hc:PFT X c tc)(hb:PFSs X body fb):PFS X (.While c body [] pos) (vY tc fb n):=by
 refine PS.to (zXW hp hc hb) ?_
 rintro D σ H ⟨G0,H0,G,ρ,o,good,hf,k⟩
 refine⟨fun m σ H=>∃G2 ρ2,Same G G2/\Good X.K G0 H0 G2 H σ ρ2/\vY tc fb m ρ2=some o,⟨n,G,ρ,Same.refl _,good,hf⟩,?_⟩
 rintro m σ2 H2 ⟨G2,ρ2,sg,good2,hf2⟩
 cases m with
 | zero=>cases hf2
 | succ m =>
   unfold vY at hf2
   obtain⟨c',h1,hf2⟩:=Qq.mp hf2
   refine⟨G0,H0,G2,ρ2,c',good2,h1,fun H3 G3 s3=>?_⟩
   cases c' with
   | true =>
     rw[Qo rfl] at hf2
     obtain⟨o1,e2,hf2⟩:=Qq.mp hf2
     refine⟨fun σ' H'=>∃G2 ρ2,Same G G2/\Good X.K G0 H0 G2 H' σ' ρ2/\vY tc fb m ρ2=some o,fun σ' H' h=>⟨m,Yg _,h⟩,?_⟩
     refine⟨G0,H0,G3,ρ2,o1,good2.step s3,e2,?_⟩
     have sg3:Same G G3:=sg.trans s3.gg
     cases o1 with
     | nx ρ5=>exact fun σ5 H5 G5 s5 good5=>⟨G5,ρ5,sg3.trans s5,good5,hf2⟩
     | ct ρ5=>exact fun σ5 H5 G5 s5 good5=>⟨G5,ρ5,sg3.trans s5,good5,hf2⟩
     | bk ρ5=>cases hf2;exact fun σ5 H5 G5 s5 good5=>k σ5 H5 G5 (sg3.trans s5) good5
     | rt d=>cases hf2;exact k
     | rl d=>cases hf2;exact k
   | false =>
     rw[Qg (by decide)] at hf2
     cases hf2
     exact k σ2 H3 G3 (sg.trans s3.gg) (good2.step s3)
def tyD:D->Option String
 | .non=>some "NoneType"
 | .bl _=>some "bool"
 | .int _=>some "int"
 | .str _=>some "str"
 | .tup _=>some "tuple"
 | .lst _=>some "list"
 | _=>none
theorem zTD {pins:List (Addr×Obj)}{σ:St}{H G:Hp}{s:Shared}{A:Around}{E:Value->Shared->Prop}{Q:Value->Shared->Prop}{d:D}{v:V}{u cl:Value}{t:String}{k:Bool}(I:Inv X pins σ H s)(rv:RelV v u)(sub:Same G H)(r:Rep X.K G d v)(ht:tyD d=some t)
   (e:PySem.W.kitOne X.K (.type t) cl=some k) (h:∀tk,Q (.bool k) { s with toks:=tk }):wpAny (model X.prog X.w) A (call (.builtin "isinstance") [u,cl]) Q E s:=by
 cases d with
 | non=>cases ht;rw[uR] at r;subst r;cases rv;exact El PySem.W.kitx_none I.kIn True.intro e (fun z=>nomatch z) h
 | bl y=>cases ht;rw[wW] at r;subst r;cases rv;exact El PySem.W.kitx_bool I.kIn True.intro e (fun z=>nomatch z) h
 | int i=>cases ht;rw[zJ] at r;subst r;obtain⟨t,rfl⟩:=rv;exact El PySem.W.kitx_int I.kIn True.intro e (fun z=>nomatch z) h
 | str i=>cases ht;rw[yS] at r;subst r;obtain⟨t,rfl⟩:=rv;exact El PySem.W.kitx_str I.kIn True.intro e (fun z=>nomatch z) h
 | tup ds =>
   cases ht
   obtain⟨p,vs,rfl,q,_⟩:=xZ.mp r
   cases rv
   obtain⟨its,_,⟨o,h1,h2,_⟩,_⟩:=I.tuple (sub.tup q)
   exact El PySem.W.kitx_tuple I.kIn ⟨o,h1,h2⟩ e (fun z=>nomatch z) h
 | lst ds =>
   cases ht
   obtain⟨p,vs,rfl,q,_⟩:=yW.mp r
   cases rv
   obtain⟨its,_,⟨o,n,h1,h2,_⟩,_⟩:=I.list (sub.seq q)
   exact El PySem.W.kitx_list I.kIn ⟨o,h1,h2⟩ e (fun z=>nomatch z) h
 | obj C ns ds=>cases ht
 | exc C ns ds=>cases ht
 | dct ks ds=>cases ht
theorem zVU (K:PySem.W.Frag):∀t:String,t∈["NoneType","bool","int","str","tuple","list"]->PySem.W.kitOne K (.type t) (.type "int")=some (decide (t="bool"∨t="int")):=by
 intro t ht
 simp only[Qh,Ro,or_false] at ht
 rcases ht with rfl | rfl | rfl | rfl | rfl | rfl<;>kernel_rfl
theorem zY9 (K:PySem.W.Frag):∀t:String,t∈["NoneType","bool","int","str","tuple","list"]->PySem.W.kitOne K (.type t) (.type "bool")=some (decide (t="bool")):=by
 intro t ht
 simp only[Qh,Ro,or_false] at ht
 rcases ht with rfl | rfl | rfl | rfl | rfl | rfl<;>kernel_rfl
theorem zWR (K:PySem.W.Frag):∀t:String,t∈["NoneType","bool","int","str","tuple","list"]->PySem.W.kitOne K (.type t) (.type "str")=some (decide (t="str")):=by
 intro t ht
 simp only[Qh,Ro,or_false] at ht
 rcases ht with rfl | rfl | rfl | rfl | rfl | rfl<;>kernel_rfl
theorem zYT (K:PySem.W.Frag):∀t:String,t∈["NoneType","bool","int","str","tuple","list"]->PySem.W.kitOne K (.type t) (.type "tuple")=some (decide (t="tuple")):=by
 intro t ht
 simp only[Qh,Ro,or_false] at ht
 rcases ht with rfl | rfl | rfl | rfl | rfl | rfl<;>kernel_rfl
theorem zXh (K:PySem.W.Frag):∀t:String,t∈["NoneType","bool","int","str","tuple","list"]->PySem.W.kitOne K (.type t) (.type "list")=some (decide (t="list")):=by
 intro t ht
 simp only[Qh,Ro,or_false] at ht
 rcases ht with rfl | rfl | rfl | rfl | rfl | rfl<;>kernel_rfl
theorem oH {d:D}{t:String}(h:tyD d=some t):t∈["NoneType","bool","int","str","tuple","list"]:=by
 cases d<;>cases h<;>simp
def jU (p:D->Bool)(f:Ef):Ef:=fun ρ=>(f ρ).bind fun d=>match d with | .obj _ _ _=>none | .exc _ _ _=>none | .dct _ _=>none | d=>some (.bl (p d))
def isInt:D->Bool | .int _=>true | .bl _=>true | _=>false
def pL:D->Bool | .bl _=>true | _=>false
def isStr:D->Bool | .str _=>true | _=>false
def oW:D->Bool | .tup _=>true | _=>false
def mX:D->Bool | .lst _=>true | _=>false
theorem nJ {T:Str}{TT:String}{q:D->Bool}{p1:Pos}(hT:bootBuiltins T=some (.type TT))(hq:∀(K:PySem.W.Frag) d t,tyD d=some t->PySem.W.kitOne K (.type t) (.type TT)=some (q d))(hg:Gl X "isinstance")(hm:X.mg "isinstance"=none)(hgT:Gl X T)(hmT:X.mg T=none)(h:PF X a fa)
   (hn:T≠"__name__":=by decide) (hd:(T==("__debug__":Str))=false:=by decide) (hs:starEach [a,.Name T p1] X.env=[(false,eval a X.env),(false,eval (.Name T p1) X.env)]:=by rfl):PF X (.Call (.Name "isinstance" p) [a,.Name T p1] [] pos) (jU q fa):=by
 have hcall:CallR X (.builtin "isinstance") (fun xs H Q=>∃x G d,xs=[x,.ty TT]/\Same G H/\Rep X.K G d x/\(tyD d).isSome=true/\Q (.bl (q d)) H):=by
   intro pins s σ H xs us Q I r hh
   obtain⟨x,G,d,rfl,sub,rx,ht,qq⟩:=hh
   obtain⟨u,u',rfl,ru,ru'⟩:=zVB r
   cases ru'
   obtain⟨t,ht⟩:=Eo.mp ht
   exact zTD I ru sub rx ht (hq _ d t ht) fun tk=>⟨.bl (q d),H,I.tok tk,rfl,qq⟩
 refine PE.to (rT hcall hg hm (by rfl) (xF h (xF (zVI (v:=.ty TT) hgT hmT hT rfl hn hd) uJ) (by rw[hs];rfl)) (by decide) (by decide) (by rw[hs];rfl) (by rfl)) ?_
 rintro σ H Q ⟨G0,H0,G,ρ,d,good,hf,k⟩
 unfold jU at hf
 obtain⟨x,h1,hf⟩:=Qq.mp hf
 refine⟨G0,H0,G,ρ,_,good,h1,fun v H1 G1 s1 r1=>?_⟩
 have hx:(tyD x).isSome=true/\d = .bl (q x):=by
   cases x<;>first
     | (cases hf;exact⟨rfl,rfl⟩)
     | cases hf
 obtain⟨hx,rfl⟩:=hx
 exact⟨v,G1,x,rfl,s1.sub,r1,hx,k _ _ G1 s1 (wW.mpr rfl)⟩
theorem zUp (K:PySem.W.Frag)(d:D)(t:String)(h:tyD d=some t):PySem.W.kitOne K (.type t) (.type "int")=some (isInt d):=by
 rw[zVU K t (oH h)];cases d<;>cases h<;>simp[isInt,pL,isStr,oW,mX]
theorem zWz (K:PySem.W.Frag)(d:D)(t:String)(h:tyD d=some t):PySem.W.kitOne K (.type t) (.type "bool")=some (pL d):=by
 rw[zY9 K t (oH h)];cases d<;>cases h<;>simp[isInt,pL,isStr,oW,mX]
theorem zVa (K:PySem.W.Frag)(d:D)(t:String)(h:tyD d=some t):PySem.W.kitOne K (.type t) (.type "str")=some (isStr d):=by
 rw[zWR K t (oH h)];cases d<;>cases h<;>simp[isInt,pL,isStr,oW,mX]
theorem zXZ (K:PySem.W.Frag)(d:D)(t:String)(h:tyD d=some t):PySem.W.kitOne K (.type t) (.type "tuple")=some (oW d):=by
 rw[zYT K t (oH h)];cases d<;>cases h<;>simp[isInt,pL,isStr,oW,mX]
theorem zUy (K:PySem.W.Frag)(d:D)(t:String)(h:tyD d=some t):PySem.W.kitOne K (.type t) (.type "list")=some (mX d):=by
 rw[zXh K t (oH h)];cases d<;>cases h<;>simp[isInt,pL,isStr,oW,mX]
end
section
variable {X:Cx} {a e:Expr} {es:List Expr} {fa:Ef} {ga:Lf} {pos p:Pos}
def zTV (K:PySem.W.Frag)(f:Lf):TE:=fun σ H Q=>∃G0 H0 G ρ ds,Good K G0 H0 G H σ ρ/\f ρ=some ds/\∀a vs H' G',Step G H G' H'->SqL K G' a vs->Reps K G' ds vs->Q (.ref a) H'
def zYZ (X:Cx)(e:Expr)(f:Lf):Prop:=PE X e (zTV X.K f)
theorem zV6 (h:PFr X e ga):zYZ X e ga:=fun pins s σ H Q I q=>h pins s σ H Q I (by
 obtain⟨G0,H0,G,ρ,ds,good,hf,k⟩:=q
 exact⟨G0,H0,G,ρ,ds,good,hf,fun p vs H' G' s hn hp gp rs=>k p vs H' (upd G' p (.lst vs)) (s.frz hn hp gp) (.of zN) (rs.mono (Same.new gp))⟩)
theorem zVv (h:PF X e fa):zYZ X e (iL fa):=fun pins s σ H Q I q=>h pins s σ H Q I (by
 obtain⟨G0,H0,G,ρ,ds,good,hf,k⟩:=q
 unfold iL at hf
 obtain⟨d,h1,hf⟩:=Qq.mp hf
 cases d with
 | lst es =>
   cases hf
   refine⟨G0,H0,G,ρ,_,good,h1,fun x H1 G1 s1 r1=>?_⟩
   obtain⟨p,vs,rfl,q,rs⟩:=yW.mp r1
   exact k p vs H1 G1 s1 q rs
 | _=>cases hf)
def zWL (f g:Lf):Lf:=fun ρ=>(f ρ).bind fun xs=>(g ρ).bind fun ys=>okL (xs++ys)
abbrev Of:=List B->Option (Option Int)
def tFO (K:PySem.W.Frag)(f:Of):TO:=fun σ H Q=>∃G0 H0 G ρ o,Good K G0 H0 G H σ ρ/\f ρ=some o/\∀H' G',Step G H G' H'->Q o H'
def PFO (X:Cx)(e:Option Expr)(f:Of):Prop:=PO X e (tFO X.K f)
def oNo:Of:=fun _=>some none
def sC (f:Ef):Of:=fun ρ=>(f ρ).bind fun d=>match d with | .int i=>some (some i) | _=>none
theorem zVu:PFO X none oNo:=fun pins s σ H Q I h=>zWC pins s σ H Q I (by
 obtain⟨G0,H0,G,ρ,o,good,hf,k⟩:=h
 cases hf
 exact k H G (.refl good.sub))
theorem zZ7 (h:PF X e fa):PFO X (some e) (sC fa):=fun pins s σ H Q I q=>zWm h pins s σ H Q I (by
 obtain⟨G0,H0,G,ρ,o,good,hf,k⟩:=q
 unfold sC at hf
 obtain⟨d,h1,hf⟩:=Qq.mp hf
 cases d with
 | int i=>cases hf;exact⟨G0,H0,G,ρ,_,good,h1,fun v H' G' s r=>⟨i,zJ.mp r,k H' G' s⟩⟩
 | _=>cases hf)
def zXP (xs:List D)(lo hi:Option Int):List D:=(xs.drop (HT.sIx xs.length 0 lo)).take (HT.sIx xs.length xs.length hi - HT.sIx xs.length 0 lo)
def jY (f:Ef)(lo hi:Of):Lf:=fun ρ=>(f ρ).bind fun d=>(lo ρ).bind fun l=>(hi ρ).bind fun u=>match d with | .lst ds=>some (zXP ds l u) | _=>none
theorem zXw {lo hi:Option Expr}{fl fh:Of}{p2:Pos}(ha:PF X a fa)(hl:PFO X lo fl)(hh:PFO X hi fh):PFr X (.Subscript a (.Slice lo hi none p2) pos) (jY fa fl fh):=by
 refine PE.toR (dO zWE ha hl hh) ?_
 rintro σ H Q ⟨G0,H0,G,ρ,d,good,hf,k⟩
 unfold jY at hf
 obtain⟨x,h1,hf⟩:=Qq.mp hf
 obtain⟨l,h2,hf⟩:=Qq.mp hf
 obtain⟨u,h3,hf⟩:=Qq.mp hf
 cases x with
 | lst ds =>
   cases hf
   refine⟨G0,H0,G,ρ,_,good,h1,fun v H1 G1 s1 r1=>⟨G0,H0,G1,ρ,_,good.step s1,h2,fun H2 G2 s2=>⟨G0,H0,G2,ρ,_,(good.step s1).step s2,h3,fun H3 G3 s3=>?_⟩⟩⟩
   obtain⟨q,vs,rfl,hq,rs⟩:=yW.mp r1
   have s23:=s2.trans s3
   refine⟨q,vs,rfl,s23.hh |> fun z=>(s1.sub.trans z).seq hq,fun p hp=>?_⟩
   have s4:=Step.own (o:=.lst (zZt vs l u)) s23.sub hp
   refine k p _ _ G3 ((s1.trans s23).trans s4) ((s1.trans s23).hh.free hp) zN (s23.sub.free hp) ?_
   unfold zZt zXP
   rw[←rs.length]
   exact((rs.mono s23.gg).drop _).take _
 | _=>cases hf
end
section
structure ZApart (z TI TO i1 i2 l1 l2:Addr):Prop where
 a1:TI≠z
 a2:TO≠z
 a3:i1≠z
 a4:i2≠z
 a5:TI≠TO
 a6:TI≠i1
 a7:TI≠i2
 a8:TO≠i1
 a9:TO≠i2
 b1:i1≠i2
 b2:l1≠z
 b3:l1≠TO
 b4:l1≠i1
 b5:l1≠i2
 b6:l2≠z
 b7:l2≠TO
 b8:l2≠i1
 b9:l2≠i2
end
end L2
set_option maxHeartbeats 4000000
namespace L2
open PySem PySem.Spec PyProof.Rows
def bC (f:D->D->Option Bool):List D->List D->Option Bool
 | x::xs,y::ys=>(f x y).bind fun a=>(bC f xs ys).map fun b=>a&&b
 | _,_=>some true
def eqD:Nat->D->D->Option Bool
 | _+1,.int i,.int j=>some (i==j)
 | _+1,.bl i,.bl j=>some (i==j)
 | _+1,.str i,.str j=>some (i==j)
 | _+1,.non,.non=>some true
 | n+1,.tup xs,.tup ys=>(bC (eqD n) xs ys).map fun b=>b&&xs.length==ys.length
 | n+1,.lst xs,.lst ys=>if xs.length=ys.length then bC (eqD n) xs ys else some false
 | _,_,_=>none
def sL (f:D->D->Option Bool)(xs ys:List D)(j:Nat):Bool:=match xs[j]?,ys[j]? with | some a,some c=>(f a c).getD true | _,_=>true
theorem lC {f:D->D->Option Bool}:∀ {xs ys:List D} {b:Bool},bC f xs ys=some b->b=(List.range (min xs.length ys.length)).all (sL f xs ys)/\∀(j:Nat) (a c:D),xs[j]?=some a->ys[j]?=some c->f a c=some (sL f xs ys j)
 | [],_,_,h=>by cases h;exact⟨by simp,fun j a c e=>by simp at e⟩
 | _::_,[],_,h=>by cases h;exact⟨by simp,fun j a c _ e=>by simp at e⟩
 | x::xs,y::ys,b,h=>by
   unfold bC at h
   obtain⟨a,h1,h⟩:=Qq.mp h
   obtain⟨b',h2,rfl⟩:=Qt.mp h
   obtain⟨e1,e2⟩:=lC h2
   constructor
   · rw[Qs,Qs,Nat.succ_min_succ,List.range_succ_eq_map,List.all_cons,List.all_map,e1]
     congr 1
     simp[sL,h1]
   · intro j p q hp hq
     cases j with
     | zero =>
       simp at hp hq
       subst hp;subst hq
       simp[sL,h1]
     | succ j =>
       have:=e2 j p q (by simpa using hp) (by simpa using hq)
       simpa [sL] using this
section
variable {X:Cx} {pins:List (Addr×Obj)} {σ:St} {H G:Hp} {s:Shared}
theorem cS (I:Inv X pins σ H s)(sub:Same G H):∀(n:Nat) (d d':D) (x:V) (k:Bool),eqD n d d'=some k->Rep X.K G d x->Rep X.K G d' x->k=true:=by
 intro n
 induction n with
 | zero=>intro d d' x k h;cases d<;>cases d'<;>cases h
 | succ n ih =>
   have many:∀(ds es:List D) (vs:List V) (b:Bool),bC (eqD n) ds es=some b->Reps X.K G ds vs->Reps X.K G es vs->b=true:=by
     intro ds
     induction ds with
     | nil=>intro es vs b h _ _;cases h;rfl
     | cons d r ihr =>
       intro es vs b h r1 r2
       cases es with
       | nil=>cases h;rfl
       | cons e t =>
         unfold bC at h
         obtain⟨a,h1,h⟩:=Qq.mp h
         obtain⟨b',h2,rfl⟩:=Qt.mp h
         obtain⟨v,vr,rfl,q1,q2⟩:=zR.mp r1
         obtain⟨v',vr',e',q3,q4⟩:=zR.mp r2
         cases e'
         rw[ih d e v a h1 q1 q3,ihr t vr b' h2 q2 q4];rfl
   intro d d' x k h r1 r2
   cases d with
   | int i =>
     cases d' with
     | int j=>cases h;rw[zJ] at r1 r2;rw[r1] at r2;cases r2;simp
     | _=>cases h
   | bl i =>
     cases d' with
     | bl j=>cases h;rw[wW] at r1 r2;rw[r1] at r2;cases r2;simp
     | _=>cases h
   | str i =>
     cases d' with
     | str j=>cases h;rw[yS] at r1 r2;rw[r1] at r2;cases r2;simp
     | _=>cases h
   | non =>
     cases d' with
     | non=>cases h;rfl
     | _=>cases h
   | tup ds =>
     cases d' with
     | tup es =>
       unfold eqD at h
       obtain⟨b,h1,rfl⟩:=Qt.mp h
       obtain⟨p,vs,e1,q1,q2⟩:=xZ.mp r1
       obtain⟨p',vs',e2,q3,q4⟩:=xZ.mp r2
       rw[e1] at e2;cases e2
       have ev:=I.tuple_inj (sub.tup q1) (sub.tup q3)
       subst ev
       rw[many ds es vs b h1 q2 q4,q2.length,q4.length];simp
     | _=>cases h
   | lst ds =>
     cases d' with
     | lst es =>
       unfold eqD at h
       obtain⟨p,vs,e1,q1,q2⟩:=yW.mp r1
       obtain⟨p',vs',e2,q3,q4⟩:=yW.mp r2
       rw[e1] at e2;cases e2
       have ev:=I.list_inj (sub.seq q1) (sub.seq q3)
       subst ev
       rw[Qo (by rw[q2.length,q4.length])] at h
       exact many ds es vs k h q2 q4
     | _=>cases h
   | obj C ns ds=>cases d'<;>cases h
   | exc C ns ds=>cases d'<;>cases h
   | dct ks ds=>cases d'<;>cases h
theorem zTK (I:Inv X pins σ H s)(sub:Same G H):∀(n:Nat) (A:Around) (d d':D) (x y:V) (u v:Value) (k:Bool),A.units+n < cLine->eqD n d d'=some k->Rep X.K G d x->Rep X.K G d' y->RelV x u->RelV y v ->
   SeqAt.RcAt A s u v k/\SeqAt.RcNeAt A s u v (!k)/\SeqAt.EqAt A s u v k:=by
 intro n
 induction n with
 | zero=>intro A d d' x y u v k _ h;cases d<;>cases d'<;>cases h
 | succ n ih =>
   intro A d d' x y u v k hu h r1 r2 ru rv
   have hu1:A.units < cLine:=by omega
   have hin:A.in1.units+n < cLine:=by show A.units+1+n < cLine;omega
   cases d with
   | int i =>
     cases d' with
     | int j=>cases h;rw[zJ] at r1 r2;subst r1;subst r2;obtain⟨t,rfl⟩:=ru;obtain⟨t',rfl⟩:=rv;exact⟨SeqAt.RcAt.int_int _ _ _ _,SeqAt.RcNeAt.int_int _ _ _ _,SeqAt.EqAt.int_int _ _ _ _⟩
     | _=>cases h
   | bl i =>
     cases d' with
     | bl j=>cases h;rw[wW] at r1 r2;subst r1;subst r2;cases ru;cases rv;exact⟨SeqAt.RcAt.bool_bool _ _,SeqAt.RcNeAt.bool_bool _ _,SeqAt.EqAt.bool_bool _ _⟩
     | _=>cases h
   | str i =>
     cases d' with
     | str j=>cases h;rw[yS] at r1 r2;subst r1;subst r2;obtain⟨t,rfl⟩:=ru;obtain⟨t',rfl⟩:=rv;exact⟨SeqAt.RcAt.str_str _ _ _ _,SeqAt.RcNeAt.str_str _ _ _ _,SeqAt.EqAt.str_str _ _ _ _⟩
     | _=>cases h
   | non =>
     cases d' with
     | non=>cases h;rw[uR] at r1 r2;subst r1;subst r2;cases ru;cases rv;exact⟨SeqAt.RcAt.none_none,SeqAt.RcNeAt.none_none,Ym _⟩
     | _=>cases h
   | tup ds =>
     cases d' with
     | tup es =>
       have h0:=h
       unfold eqD at h
       obtain⟨b,h1,rfl⟩:=Qt.mp h
       obtain⟨p,vs,rfl,q1,q2⟩:=xZ.mp r1
       obtain⟨p',vs',rfl,q3,q4⟩:=xZ.mp r2
       cases ru;cases rv
       obtain⟨its,w1,t1,_⟩:=I.tuple (sub.tup q1)
       obtain⟨jts,w2,t2,_⟩:=I.tuple (sub.tup q3)
       obtain⟨e1,e2⟩:=lC h1
       have l1:ds.length=its.length:=q2.length.trans w1.length
       have l2:es.length=jts.length:=q4.length.trans w2.length
       have he:∀j (a1:j < its.toArray.size) (a2:j < jts.toArray.size),SeqAt.EqAt A.in1 s its.toArray[j] jts.toArray[j] (sL (eqD n) ds es j):=fun j a1 a2=>by
         have b1:j < ds.length:=by rw[l1];simpa using a1
         have b2:j < es.length:=by rw[l2];simpa using a2
         obtain⟨v1,f1,g1⟩:=q2.get (Qm b1)
         obtain⟨v2,f2,g2⟩:=q4.get (Qm b2)
         obtain⟨u1,f3,g3⟩:=w1.get f1
         obtain⟨u2,f4,g4⟩:=w2.get f2
         have x1:its.toArray[j]=u1:=by
           have:=(Qf.mp f3).2
           simpa using this
         have x2:jts.toArray[j]=u2:=by
           have:=(Qf.mp f4).2
           simpa using this
         rw[x1,x2]
         exact(ih A.in1 _ _ v1 v2 u1 u2 _ hin (e2 j _ _ (Qm b1) (Qm b2)) g1 g2 g3 g4).2.2
       have ek:((List.range (min its.toArray.size jts.toArray.size)).all (sL (eqD n) ds es)&&its.toArray.size==jts.toArray.size)=(b&&ds.length==es.length):=by
         rw[Qy,Qy,←l1,←l2,e1]
       have R1:=SeqAt.RcAt.tuples t1 t2 hu1 he
       have R2:=SeqAt.RcNeAt.tuples t1 t2 hu1 he
       rw[ek] at R1 R2
       refine⟨R1,R2,?_⟩
       by_cases hp:p=p'
       · subst hp
         have hk:=cS I sub (n+1) (.tup ds) (.tup es) (.ref p) _ h0 r1 r2
         rw[hk]
         exact Ym _
       · exact .of_refs hp R1
     | _=>cases h
   | lst ds =>
     cases d' with
     | lst es =>
       have h0:=h
       unfold eqD at h
       obtain⟨p,vs,rfl,q1,q2⟩:=yW.mp r1
       obtain⟨p',vs',rfl,q3,q4⟩:=yW.mp r2
       cases ru;cases rv
       obtain⟨its,w1,t1,_⟩:=I.list (sub.seq q1)
       obtain⟨jts,w2,t2,_⟩:=I.list (sub.seq q3)
       have l1:ds.length=its.length:=q2.length.trans w1.length
       have l2:es.length=jts.length:=q4.length.trans w2.length
       have fin:SeqAt.RcAt A s (.ref p) (.ref p') k/\SeqAt.RcNeAt A s (.ref p) (.ref p') (!k):=by
         split at h
         · rename_i hl
           obtain⟨e1,e2⟩:=lC h
           have he:∀j (a1:j < its.toArray.size) (a2:j < jts.toArray.size),SeqAt.EqAt A.in1 s its.toArray[j] jts.toArray[j] (sL (eqD n) ds es j):=fun j a1 a2=>by
             have b1:j < ds.length:=by rw[l1];simpa using a1
             have b2:j < es.length:=by rw[l2];simpa using a2
             obtain⟨v1,f1,g1⟩:=q2.get (Qm b1)
             obtain⟨v2,f2,g2⟩:=q4.get (Qm b2)
             obtain⟨u1,f3,g3⟩:=w1.get f1
             obtain⟨u2,f4,g4⟩:=w2.get f2
             have x1:its.toArray[j]=u1:=by
               have:=(Qf.mp f3).2
               simpa using this
             have x2:jts.toArray[j]=u2:=by
               have:=(Qf.mp f4).2
               simpa using this
             rw[x1,x2]
             exact(ih A.in1 _ _ v1 v2 u1 u2 _ hin (e2 j _ _ (Qm b1) (Qm b2)) g1 g2 g3 g4).2.2
           have hsz:its.toArray.size=jts.toArray.size:=by rw[Qy,Qy,←l1,←l2,hl]
           have ek:(List.range its.toArray.size).all (sL (eqD n) ds es)=k:=by
             rw[e1,Qy,←l1,←hl,Nat.min_self]
           have R1:=SeqAt.RcAt.lists t1.isList t2.isList hsz hu1 he
           have R2:=SeqAt.RcNeAt.lists t1.isList t2.isList hsz hu1 he
           rw[ek] at R1 R2
           exact⟨R1,R2⟩
         · rename_i hl
           cases h
           have hsz:(its.toArray.size != jts.toArray.size)=true:=by
             rw[Qy,Qy,←l1,←l2]
             simpa using hl
           exact⟨SeqAt.RcAt.lists_lengths t1.isList t2.isList hsz hu1,SeqAt.RcNeAt.lists_lengths t1.isList t2.isList hsz hu1⟩
       refine⟨fin.1,fin.2,?_⟩
       by_cases hp:p=p'
       · subst hp
         have hk:=cS I sub (n+1) (.lst ds) (.lst es) (.ref p) _ h0 r1 r2
         rw[hk]
         exact Ym _
       · exact .of_refs hp fin.1
     | _=>cases h
   | obj C ns ds=>cases d'<;>cases h
   | exc C ns ds=>cases d'<;>cases h
   | dct ks ds=>cases d'<;>cases h
variable {b:Expr} {k:Nat}
def zVL:D->D->Option Bool:=eqD 8
def pF (x y:D):Option Bool:=(eqD 8 x y).map (!·)
theorem zVj (hr:Room k X.A):CmR X .Eq zVL:=by
 refine⟨fun x y H Q=>∃G d d' b,Same G H/\Rep X.K G d x/\Rep X.K G d' y/\eqD 8 d d'=some b/\Q (.bl b) H,?_,fun d d' k G H x y Q h s rx ry q=>⟨G,d,d',k,s,rx,ry,h,q H G (.refl s)⟩⟩
 intro pins s σ H x y v u Q I rx ry ⟨G,d,d',b,sub,r1,r2,h,q⟩
 have hu:=hr.units
 exact(zTK I sub 8 X.A d d' x y v u b (by omega) h r1 r2 rx ry).1 X.prog X.w X.xe _ ⟨.bl b,H,I,rfl,q⟩
theorem kB (hr:Room k X.A):CmR X .NotEq pF:=by
 refine⟨fun x y H Q=>∃G d d' b,Same G H/\Rep X.K G d x/\Rep X.K G d' y/\eqD 8 d d'=some b/\Q (.bl (!b)) H,?_,fun d d' k G H x y Q h s rx ry q=>?_⟩
 · intro pins s σ H x y v u Q I rx ry ⟨G,d,d',b,sub,r1,r2,h,q⟩
   have hu:=hr.units
   exact(zTK I sub 8 X.A d d' x y v u b (by omega) h r1 r2 rx ry).2.1 X.prog X.w X.xe _ ⟨.bl (!b),H,I,rfl,q⟩
 · unfold pF at h
   obtain⟨b,h1,rfl⟩:=Qt.mp h
   exact⟨G,d,d',b,s,rx,ry,h1,q H G (.refl s)⟩
def iF:List D->Option (List Int)
 | []=>some []
 | .int i::r=>(iF r).map fun is=>i::is
 | _=>none
theorem jN {K:PySem.W.Frag}{G:Hp}:∀ {ds:List D} {is:List Int} {vs:List V},iF ds=some is->Reps K G ds vs->vs=is.map V.int
 | [],_,_,h,r=>by cases h;rw[zM] at r;rw[r];rfl
 | d::t,_,_,h,r=>by
   unfold iF at h
   split at h
   · rename_i h';cases h'
   · rename_i k t' h'
     cases h'
     obtain⟨v,vr,rfl,r1,r2⟩:=zR.mp r
     obtain⟨ks,h1,rfl⟩:=Qt.mp h
     rw[jN h1 r2,zJ.mp r1];rfl
   · cases h
end
section
variable {X:Cx} {a b:Expr} {fa fb:Ef} {pos:Pos} {st:Stmt}
def zVo:D->D->Option D
 | .int i,.int j=>some (.int (i+j))
 | .str i,.str j=>if i.length+j.length<=lim then some (.str (i++j)) else none
 | _,_=>none
def vU (fa fb:Ef):Ef:=fun ρ=>(fa ρ).bind fun x=>(fb ρ).bind fun y=>zVo x y
theorem sS (ha:PF X a fa)(hb:PF X b fb):PF X (.BinOp a .Add b pos) (vU fa fb):=by
 refine PE.to (zZO (zYm.or bD) ha hb) ?_
 rintro σ H Q ⟨G0,H0,G,ρ,d,good,hf,k⟩
 unfold vU at hf
 obtain⟨x,h1,hf⟩:=Qq.mp hf
 obtain⟨y,h2,hf⟩:=Qq.mp hf
 refine⟨G0,H0,G,ρ,_,good,h1,fun u H1 G1 s1 r1=>⟨G0,H0,G1,ρ,_,good.step s1,h2,fun v H2 G2 s2 r2=>?_⟩⟩
 have r1:=r1.mono s2.gg
 unfold zVo at hf
 split at hf
 · cases hf;exact .inl ⟨_,_,zJ.mp r1,zJ.mp r2,k _ _ G2 (s1.trans s2) (zJ.mpr rfl)⟩
 · split at hf
   · rename_i hz;cases hf;exact .inr ⟨_,_,yS.mp r1,yS.mp r2,Wp (wS hz),k _ _ G2 (s1.trans s2) (yS.mpr rfl)⟩
   · cases hf
 · cases hf
def zSW:V->Option Int->Option Int->Hp->VK->Prop:=fun x lo hi H Q=>∃z,x = .str z/\z.length<=sizeLine/\Q (.str (Txt.slice z lo hi)) H
theorem zUY:SlR X zSW:=by
 intro pins s σ H x v vl vu lo hi sl Q I rx hs pl pu h
 obtain⟨z,rfl,hz,q⟩:=h
 obtain⟨t,rfl⟩:=rx
 refine⟨"str",_,F.slot_str_getitem.lookup,typeIs_str s z t,?_⟩
 have fin:∀t' k,EP X pins σ Q (.str (Txt.slice z lo hi) t') { s with toks:=k }:=fun t' k=>⟨.str (Txt.slice z lo hi),H,I.tok k,⟨t',rfl⟩,q⟩
 cases pl with
 | none =>
   cases pu with
   | none=>exact Rt (l:=none) (u:=none) (st:=none) hs rfl (Tp ⟨We (Ta z _ _) hz,fin⟩)
   | int j tj=>exact Rt (l:=none) (u:=some (j,tj)) (st:=none) hs rfl (Tp ⟨We (Ta z _ _) hz,fin⟩)
 | int i ti =>
   cases pu with
   | none=>exact Rt (l:=some (i,ti)) (u:=none) (st:=none) hs rfl (Tp ⟨We (Ta z _ _) hz,fin⟩)
   | int j tj=>exact Rt (l:=some (i,ti)) (u:=some (j,tj)) (st:=none) hs rfl (Tp ⟨We (Ta z _ _) hz,fin⟩)
def nF (f:Ef)(lo hi:Of):Ef:=fun ρ=>(f ρ).bind fun d=>(lo ρ).bind fun l=>(hi ρ).bind fun u=>match d with | .str x=>if x.length<=lim then some (.str (Txt.slice x l u)) else none | _=>none
theorem iY {lo hi:Option Expr}{fl fh:Of}{p2:Pos}(ha:PF X a fa)(hl:PFO X lo fl)(hh:PFO X hi fh):PF X (.Subscript a (.Slice lo hi none p2) pos) (nF fa fl fh):=by
 refine PE.to (dO zUY ha hl hh) ?_
 rintro σ H Q ⟨G0,H0,G,ρ,d,good,hf,k⟩
 unfold nF at hf
 obtain⟨x,h1,hf⟩:=Qq.mp hf
 obtain⟨l,h2,hf⟩:=Qq.mp hf
 obtain⟨u,h3,hf⟩:=Qq.mp hf
 cases x with
 | str z =>
   dsimp only at hf
   split at hf
   · rename_i hz
     cases hf
     refine⟨G0,H0,G,ρ,_,good,h1,fun v H1 G1 s1 r1=>⟨G0,H0,G1,ρ,_,good.step s1,h2,fun H2 G2 s2=>⟨G0,H0,G2,ρ,_,(good.step s1).step s2,h3,fun H3 G3 s3=>?_⟩⟩⟩
     exact⟨z,yS.mp r1,Wp (wS hz),k _ _ G3 ((s1.trans s2).trans s3) (yS.mpr rfl)⟩
   · cases hf
 | _=>cases hf
end
section
variable {X:Cx} {a b e:Expr} {ga gb:Lf} {pos p:Pos}
theorem zW6:OpR X (binaryOp .Add) (fun x y H Q=>∃l b xs zs,x = .ref l/\y = .ref b/\SqL X.K H l xs/\SqL X.K H b zs/\xs.length+zs.length<=sizeLine/\∀p,H p=none->Q (.ref p) (upd H p (.lst (xs++zs)))):=by
 intro pins s σ H x y v u Q I rx ry h
 obtain⟨l,b,xs,zs,rfl,rfl,hH,hB,hz,q⟩:=h
 cases rx
 cases ry
 obtain⟨its,r,pl,_⟩:=I.list hH
 obtain⟨its2,r2,pl2,_⟩:=I.list hB
 obtain⟨⟨cls,dd,data,sl⟩,ho,hc,n,hd⟩:=pl.isList
 obtain⟨⟨cls2,dd2,data2,sl2⟩,ho2,hc2,n2,hd2⟩:=pl2.isList
 simp only at hc hd hc2 hd2
 subst hc hd hc2 hd2
 have hl:=r.length
 have hl2:=r2.length
 have e:its.toArray++its2.toArray=(its++its2).toArray:=by simp
 refine concat_meets ⟨_,ho,rfl⟩ ⟨_,ho2,rfl⟩ noFill_list_add seq_list_add PySem.F.slot_list_add PySem.F.entry_list_add (PySem.F.args_list_add_2 _ _) (list_addW l b its.toArray its2.toArray n n2 dd dd2 sl sl2 (by rw[Qy,Qy];omega)) ⟨ho,ho2,?_⟩
 rw[e]
 exact⟨.ref _,_,I.lnew (t':=s.toks) (r.append r2) (by rw[Ql];omega),rfl,q _ I.fresh⟩
theorem zWp (ha:zYZ X a ga)(hb:zYZ X b gb):PFr X (.BinOp a .Add b pos) (zWL ga gb):=by
 refine PE.toR (zZO zW6 ha hb) ?_
 rintro σ H Q ⟨G0,H0,G,ρ,d,good,hf,k⟩
 unfold zWL at hf
 obtain⟨xs,h1,hf⟩:=Qq.mp hf
 obtain⟨ys,h2,hf⟩:=Qq.mp hf
 obtain⟨rfl,h3⟩:=oV hf
 refine⟨G0,H0,G,ρ,_,good,h1,fun p vs H1 G1 s1 hq rs=>⟨G0,H0,G1,ρ,_,good.step s1,h2,fun q us H2 G2 s2 hq2 rs2=>?_⟩⟩
 refine⟨p,q,vs,us,rfl,rfl,(s1.sub.trans s2.hh).seq hq,s2.sub.seq hq2,?_,fun l hl=>?_⟩
 · rw[←rs.length,←rs2.length,←Ql];exact Wp (wS h3)
 · have s3:=Step.own (o:=.lst (vs++us)) s2.sub hl
   exact k l _ _ G2 ((s1.trans s2).trans s3) ((s1.trans s2).hh.free hl) zN (s2.sub.free hl) ((rs.mono s2.gg).append rs2)
end
structure FunD (K:PySem.W.Frag)(x qual:Str)(st:Stmt)(f:Addr)(fd:FuncData):Prop where
 ex:∃(oc:Value) (od:Option Addr) (dV kV doc pm:Value) (an:Option Addr) (cdv ct:Value) (osl:Array (Option Value)),
   fd=PySem.W.fnOf x qual (zK st) (zQ st) (zX st) dV kV doc pm an cdv ct/\K.lookup f=some ⟨oc,od,.func fd,osl⟩/\PySem.W.codeIn K cdv qual=true
 kp:PySem.W.keepIn K (.ref f)=true
theorem pY {K:PySem.W.Frag}{G:Hp}{f:Str}{d:D}:∀ {ns:List Str} {ds:List D} {vs:List V},ns.length=ds.length->Reps K G ds vs->(ns.zip ds).lookup f=some d->∃u,(ns.zip vs).lookup f=some u/\Rep K G d u
 | [],_,_,_,_,h=>by simp at h
 | n::ns,[],_,hl,_,_=>by simp at hl
 | n::ns,e::ds,_,hl,r,h=>by
   obtain⟨v,vr,rfl,r1,r2⟩:=zR.mp r
   rw[Wv,Wk] at h ⊢
   cases hq:f==n with
   | true=>rw[hq] at h;cases h;exact⟨v,rfl,r1⟩
   | false=>rw[hq] at h;exact pY (by simpa using hl) r2 h
section
variable {X:Cx} {a c e:Expr} {fa:Ef} {pos p:Pos} {st:Stmt}
def yJ (c f:Str)(fa:Ef):Ef:=fun ρ=>(fa ρ).bind fun d=>match d with | .obj c' ns ds=>if c'=c then(ns.zip ds).lookup f else none | _=>none
theorem yH {C:Addr}{c f:Str}(hC:ClsAt X.K c C)(hcl:Cls X.K C)(hn:NoAttr X.K C f)(ha:PF X a fa)(hb:attributeBase a f X.env (eval a X.env)=eval a X.env:=by rfl):PF X (.Attribute a f pos) (yJ c f fa):=by
 refine PE.to (zYi ha hb) ?_
 rintro σ H Q ⟨G0,H0,G,ρ,d,good,hf,k⟩
 unfold yJ at hf
 obtain⟨x,h1,hf2⟩:=Qq.mp hf
 cases x with
 | obj c' ns ds =>
   dsimp only at hf2
   by_cases hc:c'=c
   · rw[Qo hc] at hf2
     subst hc
     refine⟨G0,H0,G,ρ,_,good,h1,fun v H1 G1 s1 r1=>?_⟩
     obtain⟨C',q,dx,vs,e0,rfl,e1,e2,e3⟩:=qY.mp r1
     have ec:=hC.one e0
     subst ec
     obtain⟨u,e4,e5⟩:=pY e2 e3 hf2
     exact⟨q,_,dx,ns.zip vs,u,rfl,s1.sub _ _ e1,hcl,hn,e4,k _ _ G1 s1 e5⟩
   · rw[Qg hc] at hf2;cases hf2
 | _=>cases hf2
theorem cR {f:Str}{y:V}:∀ {ns:List Str} {vs:List V},ns.length=vs.length->f∉ns->tM f y (ns.zip vs)=(ns++[f]).zip (vs++[y])
 | [],[],_,_=>rfl
 | [],_::_,h,_=>by simp at h
 | _::_,[],h,_=>by simp at h
 | n::ns,v::vs,h,hf=>by
   show(if n=f then _ else(n,v)::tM f y (ns.zip vs))=_
   rw[Qg (fun z=>hf (by rw[z];exact Qn)),cR (by simpa using h) (fun z=>hf (Qj _ z))]
   rfl
def zXg (K:PySem.W.Frag)(C:Addr)(ns:List Str)(g:Lf):TS:=fun DD σ H=>∃(G0 H0 G:Hp) (ρ:List B) (p dx:Addr) (pre:List Str) (us:List V) (xs ds:List D),
 Good K G0 H0 G H σ ρ/\nQ ρ/\σ[0]?=some (some (.ref p))/\H p=some (.ins C dx (pre.zip us))/\G p=none/\H0 p=none/\pre.length=us.length/\(pre++ns).Nodup/\(pre++ns).length<=900/\Reps K G xs us/\g ρ=some ds /\
 ∀H' G' vs,Step G0 H0 G' H'->H' p=some (.ins C dx ((pre++ns).zip vs))->G' p=none->Reps K G' (xs++ds) vs->DD.nx σ H'
theorem zZE {C:Addr}:PSs X [] (zXg X.K C [] zL):=by
 intro pins s σ H D I h
 refine fZ pins s σ H D I ?_
 obtain⟨G0,H0,G,ρ,p,dx,pre,us,xs,ds,good,now,hs,hp,gp,h0,hl,nd,hz,rs,hg,k⟩:=h
 cases hg
 rw[Wx] at k
 exact k H G us good.st (by rw[Wx] at *;exact hp) gp (by rw[Wx];exact rs)
theorem tL {C:Addr}{f x:Str}{ns:List Str}{g:Lf}{rest:List Stmt}{pos' p1:Pos}(hcl:Cls X.K C)(hn:NoAttr X.K C f)(hself:X.N[0]?=some x)(hvis:Vis X.env.scope x)(he:PF X e fa)(hr:PSs X rest (zXg X.K C ns g))(hd:(x==("__debug__":Str))=false:=by decide)(hcd:(x==("__classdict__":Str))=false:=by decide)
   (hs:swapsWith e (some (.Attribute (.Name x p1) f pos')) pos.line X.env=pure false:=by rfl):PSs X (.Assign [.Attribute (.Name x p1) f pos'] e pos::rest) (zXg X.K C (f::ns) (zY fa g)):=by
 intro pins s σ H D I h
 refine rM (zY4 (pU hself hvis hd hcd) he hs) hr pins s σ H D I ?_
 obtain⟨G0,H0,G,ρ,p,dx,pre,us,xs,ds,good,now,hself,hp,gp,h0,hl,nd,hz,rs,hg,k⟩:=h
 obtain⟨d,dr,h1,h2,rfl⟩:=jH hg
 have hlp:pre.length < 1000:=by rw[Ql] at hz;omega
 have hnp:f∉pre:=fun z=>(List.nodup_append.mp nd).2.2 f z f Qn rfl
 have e1:pre++f::ns=(pre++[f])++ns:=by simp
 refine⟨G0,H0,G,ρ,d,good,h1,fun v H1 G1 s1 r1=>⟨.ref p,hself,p,C,dx,pre.zip us,rfl,s1.hh _ _ hp,hcl,hn,?_,?_⟩⟩
 · rw[Ts];omega
 · have hne:H p≠none:=by rw[hp];exact fun z=>nomatch z
   have gp1:G1 p=none:=(s1.new p _ hp rfl).trans gp
   refine⟨G0,H0,G1,ρ,p,dx,pre++[f],us++[v],xs++[d],dr,(good.step s1).wrX now gp1 h0,now,hself,?_,gp1,h0,by rw[Ql,Ql,hl];rfl,by rw[←e1];exact nd,by rw[←e1];exact hz,(rs.mono s1.gg).snoc r1,h2,fun H' G' vs st q1 q2 q3=>?_⟩
   · rw[zN,cR hl hnp]
   · refine k H' G' vs st (by rw[e1];exact q1) q2 ?_
     rw[show xs++d::dr=(xs++[d])++dr by simp]
     exact q3
end
def spI (K:PySem.W.Frag)(C:Addr)(ns:List Str)(n:Nat)(f:List D->Option (List D)):Sp:=fun vs H Q _=>∃(p dx:Addr) (rest:List V) (G H0:Hp) (ds xs:List D),vs = .ref p::rest/\H=upd (upd H0 dx (.own p)) p (.ins C dx [])/\H0 p=none/\H0 dx=none/\dx≠p/\Same G H0/\Reps K G ds rest/\ds.length=n/\f ds=some xs /\
 ∀H' G' us,Step G H0 G' H'->H' p=some (.ins C dx (ns.zip us))->G' p=none->Reps K G' xs us->Q .non H'
theorem qU {K:PySem.W.Frag}{G H0 H:Hp}(m:Nat):∀ {ds:List D} {vs:List V},Reps K G ds vs->Paired (RB K H0 G H) (vs.map some++List.replicate m none) (ds.map .fz++List.replicate m .no)
 | [],_,h=>by
   rw[zM] at h;subst h
   show Paired _ (List.replicate m none) (List.replicate m B.no)
   induction m with
   | zero=>exact .nil
   | succ n ih=>rw[Es,Es];exact .cons .no ih
 | d::r,_,h=>by
   obtain⟨v,vr,rfl,h1,h2⟩:=zR.mp h
   exact .cons (.fz h1) (qU m h2)
theorem mE (m:Nat)(ds:List D):nQ (.no::(ds.map B.fz++List.replicate m B.no)):=by
 refine⟨?_,?_,?_⟩
 all_goals
   intro j es h
   cases j with
   | zero=>cases h
   | succ j =>
     rw[Rb] at h
     by_cases hi:j < ds.length
     · rw[Ws (by simpa using hi),Wi] at h
       obtain⟨k,_,h⟩:=Qt.mp h
       cases h
     · rw[Wu (by simpa using hi),Wj] at h
       split at h<;>cases h
def rK (N:Nat)(ds:List D):List B:=.no::(ds.map .fz++List.replicate (N - (ds.length+1)) .no)
section
variable {P:Program} {w:World} {K:PySem.W.Frag} {mg:Str->Option Value} {base:Heap} {x qual:Str} {st:Stmt} {f C:Addr} {fd:FuncData} {N ps ns:List Str} {k:Nat} {sf:Str}
theorem zWD {g:Lf}(F:Fun K x qual st f fd)(S:FnScope N (sf::ps) (zX st))(hnd:ns.Nodup)(hlen:ns.length<=900)
   (hb:∀(cdv:Value) (A:Around) (outer:List Env) (s:Shared) (H:Hp) (E:XK),Room k (A.deeper (envOfC qual (zX st) s.heap.objs.size f cdv))->PSs (sU CX0 P w K mg base N qual (zX st) f cdv A outer s H E).nox (zQ st) (zXg K C ns g)) :
   FnOk P w K mg base CX0 (k+1) f fd (sf::ps) (spI K C ns ps.length fun ds=>g (rK N.length ds)):=by
 refine F.ok S (fun vs H Q E h=>?_) (fun cdv A outer s H vs Q E hr h=>⟨_,hb cdv A outer s H E hr,?_⟩)
 · obtain⟨p,dx,rest,G,H0,ds,xs,rfl,_,_,_,_,_,rs,hl,_⟩:=h
   rw[Qs,Qs,←rs.length,hl]
 · obtain⟨p,dx,rest,G,H0,ds,xs,rfl,rfl,h1,h2,h3,sub,rs,hl,hf,k⟩:=h
   have hne:p≠dx:=h3.symm
   have hp1:(upd H0 dx (.own p)) p=none:=by rw[zO hne];exact h1
   have st1:Step G H0 G (upd H0 dx (.own p)):=Step.own sub h2
   have st2:Step G H0 G (upd (upd H0 dx (.own p)) p (.ins C dx [])):=st1.trans (Step.own st1.sub hp1)
   have good:Good K G H0 G (upd (upd H0 dx (.own p)) p (.ins C dx [])) (vT N (.ref p::rest)) (rK N.length ds):=by
     refine⟨st2,?_,fun i j a es es' q1=>absurd q1 ((mE _ ds).1 i es)⟩
     unfold vT rK
     rw[Qp,Qs,Yz,←rs.length]
     exact .cons .no (qU _ rs)
   refine⟨G,H0,G,_,p,dx,[],[],[],xs,good,mE _ ds,rfl,zN,sub.free h1,h1,rfl,hnd,hlen,zM.mpr rfl,hf,fun H' G' us s' q1 q2 q3=>k H' G' us s' q1 q2 q3⟩
variable {X:Cx} {c e:Expr} {es:List Expr} {ga:Lf} {pos p:Pos}
def mV (c:Str)(ns:List Str)(n:Nat)(f:List D->Option (List D))(g:Lf):Ef:=fun ρ=>(g ρ).bind fun ds=>if ds.length=n then(f ds).bind fun xs=>if ns.length=xs.length then some (.obj c ns xs) else none else none
theorem lZ {k n:Nat}{C fI:Addr}{fd:FuncData}{ps ns:List Str}{c:Str}{f:List D->Option (List D)}(hC:ClsAt X.K c C)(M:Mk X.K C fI)(F:FnOk X.prog X.w X.K X.mg X.base CX0 k fI fd ps (spI X.K C ns n f))(hr:Room (k+1) X.A)(hm:X.mg c=some (.ref C))(hb:Binds X.K fd ps [])(hg:Gl X c)
   (ha:PFA X (e::es) ga) (hdb:(c==("__debug__":Str))=false:=by decide) (he:starEach (e::es) X.env=(false,eval e X.env)::starEach es X.env:=by rfl) (hpl:(backTo pos (starEach es X.env)).any (·.1)=false:=by rfl) :
   PF X (.Call (.Name c p) (e::es) [] pos) (mV c ns n f ga):=by
 refine PE.to (zZD (E:=E0) M F hr hg hm hb .nil cC ha hdb he hpl) ?_
 rintro σ H Q ⟨G0,H0,G,ρ,d,good,hf,k⟩
 unfold mV at hf
 obtain⟨ds,h1,hf⟩:=Qq.mp hf
 split at hf
 · rename_i hl
   obtain⟨xs,h2,hf⟩:=Qq.mp hf
   split at hf
   · rename_i hn
     cases hf
     refine⟨G0,H0,G,ρ,_,good,h1,fun vs H1 G1 s1 r1 x dx hx hdx hne=>?_⟩
     refine⟨x,dx,vs++[],G1,H1,ds,xs,rfl,rfl,hx,hdx,hne,s1.sub,by rw[Wx];exact r1,hl,h2,fun H' G' us s' q1 q2 q3=>⟨rfl,?_⟩⟩
     exact k _ _ _ (s1.trans (s'.frz hx q1 q2)) (qY.mpr ⟨C,x,dx,us,hC,rfl,zN,hn,q3.mono (Same.new q2)⟩)
   · cases hf
 · cases hf
end
end L2
namespace L2
open PySem PySem.Spec PyProof.Rows
theorem ObjOk.got {P:Program}{w:World}{H:Hp}{h:Heap}{a:Addr}{o:HO}(x:ObjOk P w H h a o):∃u,h.get? a=some u:=by
 cases o with
 | lst xs=>obtain⟨_,_,_,_,e⟩:=x;exact⟨_,e⟩
 | tup xs=>obtain⟨_,_,_,_,e,_⟩:=x;exact⟨_,e⟩
 | dK kvs=>obtain⟨_,_,_,_,o,_,_,e,_⟩:=x;exact⟨_,e⟩
 | dT kvs=>obtain⟨_,_,_,_,o,_,_,e,_⟩:=x;exact⟨_,e⟩
 | set S n=>obtain⟨o,_,_,_,e,_⟩:=x;exact⟨_,e⟩
 | ins C dx fs=>obtain⟨_,_,_,e,_⟩:=x;exact⟨_,e⟩
 | own y=>exact x
 | xd fs=>obtain⟨_,⟨_,_,_,e,_⟩,_⟩:=x;exact⟨_,e⟩
 | rng lo hi=>obtain⟨_,_,_,e⟩:=x;exact⟨_,e⟩
 | frz ob u=>obtain⟨e,_⟩:=x;exact⟨_,e⟩
 | tbl ps=>exact⟨_,x⟩
 | met f y=>exact⟨_,x⟩
 | ext φ=>obtain⟨_,q,_⟩:=x;exact q
abbrev zVp:List Value:=[.type "ValueError",.type "Exception",.type "BaseException",.type "object"]
def zZk (K:PySem.W.Frag)(C:Addr):Prop:=∃bm N nm q bs hdct sn sub ab col dd k0 k1 k2 k3 k5,K.lookup C=some (excClassObj nm q C N bs bm hdct sn sub ab col dd k0 k1 k2 k3 k5 "ValueError.__new__") /\
 PySem.W.nsOkIn K N=true/\PySem.W.nsIn K N "__init__"=some none/\PySem.W.tailIn K zVp bm=true
open PySem.W
section
variable {prog:Program} {w:World} {A:Around} {E:Value->Shared->Prop} {h:Heap} {g:Array GenState} {d:Drawn} {t:Nat} {os:OsState} {a C:Addr} {o:Obj} {K:Frag}
theorem zUM {R:Result->Shared->Prop}(X:K.In h)(hx:h.get? a=some o)(hc:o.cls = .ref C)(g3:subIn K (.ref C) (.type "object")=some true)(hq:R (.ok (.ret (.ref C))) ⟨h,g,d,t,os⟩) :
   codeAny (model prog w) A (.call (.builtin "getset_descriptor.__get__") ⟨[.builtin "object.__class__",.ref a,.ref C],[]⟩) R ⟨h,g,d,t,os⟩:=by
 have L3:=looks_subIn (M:=model prog w) X g3
 have hT5:(⟨h,g,d,t,os⟩:Shared).TypeIs (.builtin "object.__class__") "getset_descriptor":=F.typeOf_object_class
 have e8:(".".intercalate ("object.__class__".cutAt '.').dropLast)="object":=F.owner_object_class
 refine Tl F.slot_gs_get.plain F.entry_gs_get (F.slot_gs_get.check _ _ _ _ _ _ _ _ hT5 (F.args_gs_get _ _ _) ?_)
 repeat (any_goals (first | assumption | (with_reducible refine Ep hx ?_;rw[hc]) | wp_step))
 rw[e8]
 refine L3.at ?_
 repeat (any_goals (first | assumption | (with_reducible refine Ep hx ?_;rw[hc]) | wp_step))
 refine⟨Code.quiet_builtin _ (by decide +kernel),Ez F.entry_object_class ?_⟩
 repeat (any_goals (first | assumption | (with_reducible refine Ep hx ?_;rw[hc]) | wp_step))
theorem zXi {tk:Tok}{Q:Fin->Shared->Prop}(X:K.In h)(hx:h.get? a=some o)(hc:o.cls = .ref C)(g2:findIn K (.ref C) "__class__"=some (some (.builtin "object.__class__")))(g3:subIn K (.ref C) (.type "object")=some true)(hq:Q (.done (.ret (.ref C))) ⟨h,g,d,t,os⟩) :
   wpAny (model prog w) A (Builtin.«object.__getattribute__» ⟨[.ref a,.str "__class__" tk],[]⟩) Q E ⟨h,g,d,t,os⟩:=by
 have L2:=looks_findIn (M:=model prog w) X g2
 have hT5:(⟨h,g,d,t,os⟩:Shared).TypeIs (.builtin "object.__class__") "getset_descriptor":=F.typeOf_object_class
 have f5:=F.typeOf_object_class
 have f6:=F.slot_gs_get.lookup
 have f7:=F.slot_gs_set.lookup
 repeat (any_goals (first | assumption | (with_reducible refine Ep hx ?_;rw[hc]) | with_reducible refine L2.at ?_ | wp_step))
 refine zUM X hx hc g3 ?_
 repeat (any_goals (first | assumption | wp_step))
theorem zYg {M:Model}{id:String}{rest:List Value}{Q:Unit->Shared->Prop}{n:String}(X:K.In h)(hx:h.get? a=some o)(hc:o.cls = .ref C)(hk:builtinKind id=some .slot)(hsp:splitId id=some ("BaseException",n))(g4:subIn K (.ref C) (.type "BaseException")=some true)
   (ha:argsOk id ⟨.ref a::rest,[]⟩) (hq:Q () ⟨h,g,d,t,os⟩):wpAny M A (checkBuiltinCall id ⟨.ref a::rest,[]⟩) Q E ⟨h,g,d,t,os⟩:=by
 have L4:=looks_subIn (M:=M) X g4
 simp only[checkBuiltinCall,hk,hsp]
 refine Qw ?_
 unfold isInstance
 repeat (first | (with_reducible refine Ep hx ?_;rw[hc]) | with_reducible refine L4.at ?_ | wp_step)
 cases hsig:Manifest.signature? id with
 | none=>exact Qi hq
 | some sig =>
   simp only[argsOk,hsig] at ha
   show wpAny M A (Bind.checkArgs id sig ⟨.ref a::rest,[]⟩) Q E _
   rw[show Bind.checkArgs id sig ⟨.ref a::rest,[]⟩=pure () from ha]
   exact Qi hq
theorem zYx:builtinKind "BaseException.__getattribute__"=some .slot:=by decide +kernel
theorem zZy:splitId "BaseException.__getattribute__"=some ("BaseException","__getattribute__"):=by decide +kernel
theorem zWK {tk:Tok}{R:Result->Shared->Prop}(X:K.In h)(hx:h.get? a=some o)(hc:o.cls = .ref C)(g2:findIn K (.ref C) "__class__"=some (some (.builtin "object.__class__")))(g3:subIn K (.ref C) (.type "object")=some true)(g4:subIn K (.ref C) (.type "BaseException")=some true)
   (hq:R (.ok (.ret (.ref C))) ⟨h,g,d,t,os⟩):codeAny (model prog w) A (.call (.builtin "BaseException.__getattribute__") ⟨[.ref a,.str "__class__" tk],[]⟩) R ⟨h,g,d,t,os⟩:=by
 have ha:=F.args_bexc_ga (.ref a) (.str "__class__" tk)
 refine Tl F.excAttr_ValueError.ga.plain F.entry_bexc_ga ?_
 refine zYg (id:="BaseException.__getattribute__") (rest:=[.str "__class__" tk]) X hx hc zYx zZy g4 ha ?_
 exact zXi X hx hc g2 g3 hq
theorem zTr {tk:Tok}{Q:Value->Shared->Prop}(X:K.In h)(hx:h.get? a=some o)(hc:o.cls = .ref C)(g1:findIn K (.ref C) "__getattribute__"=some (some (.builtin "BaseException.__getattribute__")))(g5:findIn K (.ref C) "__getattr__"=some none)(g2:findIn K (.ref C) "__class__"=some (some (.builtin "object.__class__")))(g3:subIn K (.ref C) (.type "object")=some true)(g4:subIn K (.ref C) (.type "BaseException")=some true)
   (hq:Q (.ref C) ⟨h,g,d,t,os⟩):wpAny (model prog w) A (getAttrBy (.ref a) (.str "__class__" tk) false) Q E ⟨h,g,d,t,os⟩:=by
 have L1:=looks_findIn (M:=model prog w) X g1
 have L5:=looks_findIn (M:=model prog w) X g5
 have f3:=F.excAttr_ValueError.ga.bind (.ref a)
 repeat (any_goals (first | assumption | (with_reducible refine Ep hx ?_;rw[hc]) | with_reducible refine L1.at ?_ | with_reducible refine L5.at ?_ | wp_step))
 refine zWK X hx hc g2 g3 g4 ?_
 repeat (any_goals (first | assumption | wp_step))
theorem zWg {Q:Option Value->Shared->Prop}(X:K.In h)(hx:h.get? a=some o)(hc:o.cls = .ref C)(g1:findIn K (.ref C) "__getattribute__"=some (some (.builtin "BaseException.__getattribute__")))(g5:findIn K (.ref C) "__getattr__"=some none)(g2:findIn K (.ref C) "__class__"=some (some (.builtin "object.__class__")))(g3:subIn K (.ref C) (.type "object")=some true)(g4:subIn K (.ref C) (.type "BaseException")=some true)
   (hq:Q (some (.ref C)) ⟨h,g,d,t+1,os⟩):wpAny (model prog w) A (getAttr? (.ref a) "__class__") Q E ⟨h,g,d,t,os⟩:=by
 unfold getAttr? getAttrBy?
 repeat (any_goals (first | assumption | with_reducible apply zTr X hx hc g1 g5 g2 g3 g4 | wp_step))
theorem zYv (hcl:(clsIn K C).isSome=true)(g1:findIn K (.ref C) "__getattribute__"=some (some (.builtin "BaseException.__getattribute__")))(g5:findIn K (.ref C) "__getattr__"=some none)(g2:findIn K (.ref C) "__class__"=some (some (.builtin "object.__class__")))(g3:subIn K (.ref C) (.type "object")=some true)(g4:subIn K (.ref C) (.type "BaseException")=some true) :
   KitX K (.ref a) (.ref C) (fun h=>∃o,h.get? a=some o/\o.cls = .ref C) where
 ty:=fun M h X ⟨o,e1,e2⟩=>by
   intro A' Q' E' s' k q
   unfold typeOf
   obtain⟨h',g',d',t',os'⟩:=s'
   repeat (first | (with_reducible refine Ep (k _ _ e1) ?_;rw[e2]) | wp_step)
   exact q
 it:=fun M h X _=>by
   unfold clsIn at hcl
   split at hcl
   · rename_i c' d' cd' sl' ho
     intro A' Q' E' s' k q
     unfold isType loadHead
     exact Qw (Ut (k _ _ (X _ _ ho)) (Qi q))
   · cases hcl
 ne:=fun h tp dd its n sl X htp=>by
   refine Bool.eq_false_iff.mpr fun q=>?_
   have e:C=tp:=Value.ref.inj (Eg.mp q)
   subst e
   unfold clsIn at hcl
   split at hcl
   · rename_i c' d' cd' sl' ho
     have z:=(X _ _ ho).symm.trans htp
     cases z
   · cases hcl
 ca:=fun {prog w A E Q s} X p k=>by
   obtain⟨o,e1,e2⟩:=p
   obtain⟨h',g',d',t',os'⟩:=s
   exact zWg X e1 e2 g1 g5 g2 g3 g4 k
end
end L2
namespace L2
open PySem PySem.Spec PySem.W
end L2
namespace L2
open PySem PySem.Spec PySem.W
open Builtin Builtin.ObjectAttr
def eQ:List Value->Bool
 | []=>false
 | v::r=>(v::r)==[.type "ValueError",.type "Exception",.type "BaseException",.type "object"]||match v with | .ref _=>eQ r | _=>false
end L2
namespace L2
open PySem PySem.Spec PyProof.Rows
structure XKit (K:PySem.W.Frag)(C:Addr):Prop where
 cl:(PySem.W.clsIn K C).isSome=true
 ga:PySem.W.findIn K (.ref C) "__getattribute__"=some (some (.builtin "BaseException.__getattribute__"))
 gt:PySem.W.findIn K (.ref C) "__getattr__"=some none
 gc:PySem.W.findIn K (.ref C) "__class__"=some (some (.builtin "object.__class__"))
 so:PySem.W.subIn K (.ref C) (.type "object")=some true
 sb:PySem.W.subIn K (.ref C) (.type "BaseException")=some true
def zUa (K:PySem.W.Frag)(C:Addr):Prop:=∃nm q N bs bm sn sub ab col dd k0 k1 k2 k3 k5,K.lookup C=some (excClassObj nm q C N bs bm true sn sub ab col dd k0 k1 k2 k3 k5 "ValueError.__new__")/\eQ bm=true
def aN (K:PySem.W.Frag)(C:Addr):Bool:=PySem.W.isClsIn K C&&(PySem.W.findIn K (.ref C) "__getattribute__"==some (some (.builtin "BaseException.__getattribute__")))&&(PySem.W.findIn K (.ref C) "__getattr__"==some none) &&
 (PySem.W.findIn K (.ref C) "__class__"==some (some (.builtin "object.__class__")))&&(PySem.W.subIn K (.ref C) (.type "object")==some true)&&(PySem.W.subIn K (.ref C) (.type "BaseException")==some true)
theorem zWk {K:PySem.W.Frag}{C:Addr}(h:aN K C=true):XKit K C:=by
 unfold aN at h
 simp only[Wt,Eg] at h
 obtain⟨⟨⟨⟨⟨h1,h2⟩,h3⟩,h4⟩,h5⟩,h6⟩:=h
 exact⟨h1,h2,h3,h4,h5,h6⟩
theorem zWb {K:PySem.W.Frag}{C:Addr}(q:PySem.W.excIn K C zVp "ValueError.__new__"=true):zZk K C:=by
 unfold PySem.W.excIn at q
 split at q
 · rename_i dd cd sl ho
   split at q
   · rename_i C' bm k0 k1 k2 k3 n k5 hm hs
     simp only[Wt,Eg,Bool.not_eq_true'] at q
     obtain⟨⟨⟨⟨⟨rfl,rfl⟩,hdel⟩,ht⟩,hok⟩,hni⟩:=q
     obtain⟨nm,bs,mro,ns,qn,hd,sn,sub,ab,col,del⟩:=cd
     dsimp only at hm hdel hok hni
     subst hm hdel
     have hsl:sl=#[k0,k1,k2,k3,some (.builtin "ValueError.__new__"),k5]:=by
       obtain⟨l⟩:=sl
       simp only at hs
       rw[hs]
     subst hsl
     exact⟨bm,ns,nm,qn,bs,hd,sn,sub,ab,col,dd,k0,k1,k2,k3,k5,ho,hok,hni,ht⟩
   · cases q
 · cases q
def IsxOk (K:PySem.W.Frag)(v:Value):List (Str×Bool)->Prop
 | []=>True
 | (c,b)::r=>(∃C,ClsAt K c C/\XKit K C/\PySem.W.kitOne K (.ref C) v=some b)/\IsxOk K v r
theorem IsxOk.at {K:PySem.W.Frag}{v:Value}:∀ {tb:List (Str×Bool)} {c:Str} {b:Bool},IsxOk K v tb->tb.lookup c=some b->∃C,ClsAt K c C/\XKit K C/\PySem.W.kitOne K (.ref C) v=some b
 | [],_,_,_,h=>by cases h
 | (n,x)::r,c,b,⟨h1,h2⟩,h=>by
   rw[Wk] at h
   cases hq:c==n with
   | true =>
     rw[hq] at h;cases h
     have e:=Eg.mp hq
     subst e
     exact h1
   | false=>rw[hq] at h;exact h2.at h
def cU (K:PySem.W.Frag)(v:Value)(l:List (Addr×Bool)):Bool:=l.all fun x=>PySem.W.kitOne K (.ref x.1) v==some x.2
theorem zVH {K:PySem.W.Frag}{v:Value}:IsxOk K v []:=True.intro
theorem zX1 {K:PySem.W.Frag}{v:Value}{C:Addr}{c:Str}{b:Bool}{r:List (Addr×Bool)}{tb:List (Str×Bool)}(ca:ClsAt K c C)(k:XKit K C)(h:cU K v ((C,b)::r)=true)(rest:cU K v r=true->IsxOk K v tb):IsxOk K v ((c,b)::tb):=by
 unfold cU at h
 rw[List.all_cons,Wt] at h
 exact⟨⟨C,ca,k,Eg.mp h.1⟩,rest h.2⟩
section
variable {X:Cx} {a b c e:Expr} {fa:Ef} {ga:Lf} {pos p:Pos}
theorem zX6 {v:Value}{vv:V}(hv:∀u,RelV vv u->u=v){tb:List (Str×Bool)}(h:IsxOk X.K v tb):CallR X (.builtin "isinstance") (fun xs H Q=>∃x G c ns ds b,xs=[x,vv]/\Same G H/\Rep X.K G (.exc c ns ds) x/\tb.lookup c=some b/\Q (.bl b) H):=by
 intro pins s σ H xs us Q I r hh
 obtain⟨x,G,c,ns,ds,b,rfl,sub,rx,ht,q⟩:=hh
 obtain⟨u,u',rfl,ru,ru'⟩:=zVB r
 have e:=hv _ ru'
 subst e
 obtain⟨C,hC,hk,ho⟩:=h.at ht
 obtain⟨C',a,od,vs,h0,rfl,h1,_⟩:=gR.mp rx
 have ec:=hC.one h0
 subst ec
 cases ru
 obtain⟨⟨fs,h2⟩,_⟩:=(show ObjOk X.prog X.w H s.heap a (.ext _) from I.hok a _ (sub _ _ h1))
 exact El (zYv hk.cl hk.ga hk.gt hk.gc hk.so hk.sb) I.kIn ⟨_,h2,rfl⟩ ho (fun z=>nomatch z) fun tk=>⟨.bl b,H,I.tok tk,rfl,q⟩
def zW8 (tb:List (Str×Bool))(fa:Ef):Ef:=fun ρ=>(fa ρ).bind fun d=>match d with | .exc c _ _=>(tb.lookup c).map .bl | _=>none
theorem zUm {e:Expr}{v:Value}{vv:V}{tb:List (Str×Bool)}(h:PE X e (tCB (fun xs H Q=>∃x G c ns ds b,xs=[x,vv]/\Same G H/\Rep X.K G (.exc c ns ds) x/\tb.lookup c=some b/\Q (.bl b) H) (zZU (tF X.K fa) (zZU (tC vv) zW9)))):PF X e (zW8 tb fa):=by
 refine PE.to h ?_
 rintro σ H Q ⟨G0,H0,G,ρ,d,good,hf,k⟩
 unfold zW8 at hf
 obtain⟨x,h1,hf⟩:=Qq.mp hf
 cases x with
 | exc c ns ds =>
   obtain⟨b,h2,rfl⟩:=Qt.mp hf
   exact⟨G0,H0,G,ρ,_,good,h1,fun v H1 G1 s1 r1=>⟨v,G1,c,ns,ds,b,rfl,s1.sub,r1,h2,k _ _ G1 s1 (wW.mpr rfl)⟩⟩
 | _=>cases hf
theorem zUl {DN:Str}{DA:Addr}{tb:List (Str×Bool)}{p1:Pos}(hok:IsxOk X.K (.ref DA) tb)(hmD:X.mg DN=some (.ref DA))(hgD:Gl X DN)(hg:Gl X "isinstance")(hm:X.mg "isinstance"=none)(h:PF X a fa)
   (hd:(DN==("__debug__":Str))=false:=by decide) (hs:starEach [a,.Name DN p1] X.env=[(false,eval a X.env),(false,eval (.Name DN p1) X.env)]:=by rfl):PF X (.Call (.Name "isinstance" p) [a,.Name DN p1] [] pos) (zW8 tb fa) :=
 zUm (v:=.ref DA) (vv:=.ref DA) (rT (zX6 (vv:=.ref DA) (fun _ z=>z) hok) hg hm (by rfl) (xF h (xF (zVF (v:=.ref DA) hgD hmD rfl hd) uJ) (by rw[hs];rfl)) (by decide) (by decide) (by rw[hs];rfl) (by rfl))
structure XSt (K:PySem.W.Frag)(C:Addr):Prop where
 kit:XKit K C
 ob:zUa K C
 sa:PySem.W.findIn K (.ref C) "__setattr__"=some (some (.builtin "object.__setattr__"))
end
structure XMk (K:PySem.W.Frag)(C f:Addr):Prop where
 ob:zUa K C
 init:PySem.W.findIn K (.ref C) "__init__"=some (some (.ref f))
 fn:PySem.W.isFn K (.ref f)=true
 kp:PySem.W.keepIn K (.ref C)=true
section
structure Z3 (z TI TO i1 i2 i3 l1 l2 l3:Addr):Prop where
 TIz:TI≠z
 TOz:TO≠z
 i1z:i1≠z
 i2z:i2≠z
 i3z:i3≠z
 TITO:TI≠TO
 TIi1:TI≠i1
 TIi2:TI≠i2
 TIi3:TI≠i3
 TOi1:TO≠i1
 TOi2:TO≠i2
 TOi3:TO≠i3
 i12:i1≠i2
 i13:i1≠i3
 i23:i2≠i3
 a1:l1≠z
 a2:l1≠TO
 a3:l1≠i1
 a4:l1≠i2
 a5:l1≠i3
 b1:l2≠z
 b2:l2≠TO
 b3:l2≠i1
 b4:l2≠i2
 b5:l2≠i3
 c1:l3≠z
 c2:l3≠TO
 c3:l3≠i1
 c4:l3≠i2
 c5:l3≠i3
end
section
variable {p:Pos}
theorem iJ:∀ {ns:List Int} {its:List Value},Vals (ns.map V.int) its->∃ps:List (Int×Tok),its=ps.map (fun p=>Value.int p.1 p.2)/\ps.map (·.1)=ns
 | [],_,h=>by cases h;exact⟨[],rfl,rfl⟩
 | n::ns,_,h=>by
   cases h with
   | cons h1 h2 =>
     obtain⟨t,rfl⟩:=h1
     obtain⟨ps,rfl,rfl⟩:=iJ h2
     exact⟨(n,t)::ps,rfl,rfl⟩
end
end L2
namespace L2
open PySem PySem.W PyProof.Rows
def AskIn {α:Type}(N:Nat)(Post:α->Prop):KasT α->Prop
 | .ret a=>Post a
 | .ask i j k=>i < N/\j < N/\∀b,AskIn N Post (k b)
theorem AskIn.bind {α β:Type}{N:Nat}{P:α->Prop}{P':β->Prop}{f:α->KasT β}(hf:∀a,P a->AskIn N P' (f a)):∀ {t:KasT α},AskIn N P t->AskIn N P' (t.bind f)
 | .ret a,h=>hf a h
 | .ask i j k,h=>⟨h.1,h.2.1,fun b=>AskIn.bind hf (h.2.2 b)⟩
theorem fO {α:Type}{cmp:Nat->Nat->(Bool->Shared->Prop)->Shared->Prop}{lt:Nat->Nat->Bool}{N:Nat}{s:Shared}(hc:∀i j C,i < N->j < N->C (lt i j) s->cmp i j C s):∀(t:KasT α) (Q:α->Shared->Prop),AskIn N (fun _=>True) t->Q (evT lt t) s->t.kasWp cmp Q s
 | .ret _,_,_,h=>h
 | .ask i j k,Q,a,h=>hc i j _ a.1 a.2.1 (fO hc (k (lt i j)) Q (a.2.2 _) h)
def Sm (N:Nat)(p:Array Nat):Prop:=∀x∈p.toList,x < N
theorem Sm.gg {N:Nat}{p:Array Nat}(h:Sm N p)(hN:0 < N)(k:Nat):p.getD k 0 < N:=by
 show L2.gg p k < N
 rw[qH]
 by_cases hk:k < p.size
 · have:p[k]?=some p[k]:=by simp[hk]
   rw[this]
   exact h _ (by simp)
 · have:p[k]?=none:=by simp;omega
   rw[this];exact hN
theorem Sm.perm {N:Nat}{p q:Array Nat}(h:Sm N p)(e:q.Perm p):Sm N q:=fun x hx=>h x ((Rk.mp e).subset hx)
section
variable {N:Nat} (hN:0 < N)
include hN
theorem bI {p:Array Nat}(h:Sm N p):∀f n,AskIn N (fun _=>True) (kas_asc p f n)
 | 0,_=>trivial
 | f+1,n=>⟨h.gg hN _,h.gg hN _,fun b=>by
     dsimp only
     split
     · trivial
     · exact bI h f (n+1)⟩
theorem mF:∀f (p:Array Nat) n q,Sm N p->AskIn N (fun r=>Sm N r.1) (kas_desc f p n q)
 | 0,_,_,_,h=>h
 | f+1,p,n,q,h=>⟨h.gg hN _,h.gg hN _,fun b=>by
     dsimp only
     split
     · split
       · exact mF f _ _ _ (h.perm (Tb ..))
       · exact mF f _ _ _ h
     · refine⟨h.gg hN _,h.gg hN _,fun b=>?_⟩
       dsimp only
       split
       · exact h
       · exact mF f _ _ _ h⟩
theorem eN {p:Array Nat}(h:Sm N p)(n m:Nat):AskIn N (fun r=>Sm N r.2) (kas_tail3 n m p):=by
 unfold kas_tail3
 have h':Sm N (kas_rev p 0 n):=h.perm (Tb ..)
 refine AskIn.bind (P:=fun _=>True) (fun m _=>?_) (bI hN h' _ _)
 exact h'
theorem mZ {p:Array Nat}(h:Sm N p)(n m:Nat):AskIn N (fun r=>Sm N r.2) (kas_descPart n m p):=by
 unfold kas_descPart
 refine AskIn.bind (P:=fun r=>Sm N r.1) (fun r hr=>?_) (mF hN _ _ _ _ h)
 try dsimp only
 split
 · exact eN hN (hr.perm (Tb ..)) _ _
 · exact eN hN hr _ _
theorem zXM {p:Array Nat}(h:Sm N p)(m:Nat):AskIn N (fun r=>Sm N r.2) (kas_count m p):=by
 unfold kas_count
 refine AskIn.bind (P:=fun _=>True) (fun r _=>?_) (bI hN h _ _)
 try dsimp only
 split
 · exact h
 · split
   · refine⟨h.gg hN _,h.gg hN _,fun b=>?_⟩
     dsimp only
     split
     · exact h
     · exact mZ hN (h.perm (Tb ..)) _ _
   · exact mZ hN h _ _
theorem lF {p:Array Nat}(h:Sm N p)(k:Nat):∀f l r,AskIn N (fun _=>True) (kas_place p k f l r)
 | 0,_,_=>trivial
 | f+1,l,r=>by
   unfold kas_place
   split
   · trivial
   · refine⟨h.gg hN _,h.gg hN _,fun b=>?_⟩
     dsimp only
     split
     · exact lF h k f _ _
     · exact lF h k f _ _
theorem zXa:∀f (p:Array Nat) k,Sm N p->AskIn N (fun _=>True) (kas_bin f p k)
 | 0,_,_,_=>trivial
 | f+1,p,k,h=>by
   unfold kas_bin
   exact AskIn.bind (P:=fun _=>True) (fun _ _=>zXa f _ _ (h.perm (bubble_perm ..))) (lF hN h k _ _ _)
theorem zZA:AskIn N (fun _=>True) (kas_sort N):=by
 unfold kas_sort
 have h:Sm N (List.toArray (List.range N)):=fun x hx=>by simpa using hx
 refine AskIn.bind (P:=fun r=>Sm N r.2) (fun r hr=>?_) (zXM hN h N)
 try dsimp only
 split
 · exact zXa hN _ _ _ hr
 · trivial
end
section
variable {prog:Program} {w:World} {A:Around} {E:Value->Shared->Prop} {s:Shared}
theorem zYP {a:Addr}{vs:List Value}{n:Nat}{P:PySem.Fin->Shared->Prop}{lt:Nat->Nat->Bool}(ho:s.heap.get? a=some (seqObj "list" vs.toArray n))(h2:2<=vs.length)(h64:vs.length < 64)
   (hq:∀h':Heap,(∀b o,b≠a->s.heap.get? b=some o->h'.get? b=some o)->∃κ,(∀(E':Value->Shared->Prop) Q,Q κ { s with heap:=h' }->wpAny (model prog w) A (keyKind' vs.toArray) Q E' { s with heap:=h' }) /\
     ∀i j C,i < vs.length->j < vs.length->C (lt i j) { s with heap:=h' }->kas_ask prog w A κ vs i j C { s with heap:=h' })
   (h:P (.done (.ret .none)) { s with heap:=sortedHeap s.heap a vs (List.toArray ((evT lt (kas_sort vs.length)).toList.map fun i=>vs.getD i Value.none)) }) :
   wpAny (model prog w) A (Builtin.«list.sort» ⟨[.ref a],[]⟩) P E s:=by
 have hlt:a < s.heap.objs.size:=Qu ho
 obtain⟨e1,q1⟩:∃e1,(s.heap.update a (Obj.mapSeq fun _=>#[])).get? a=some (seqObj "list" #[] e1):=⟨_,Rf ho (fun _=>#[])⟩
 have q6:(((s.heap.update a (Obj.mapSeq fun _=>#[])).push (seqObj "tuple" vs.toArray 0)).push (seqObj "list" #[] 0)).get? a=some (seqObj "list" #[] e1):=Qr _ (Qr _ q1)
 obtain⟨κ,hk,hc⟩:=hq (((s.heap.update a (Obj.mapSeq fun _=>#[])).push (seqObj "tuple" vs.toArray 0)).push (seqObj "list" #[] 0)) (fun b o hb e=>Qr _ (Qr _ (by rw[Wg _ _ _ _ hb];exact e)))
 have hz:¬vs.toArray.size < 2:=by rw[Qy];omega
 rw[list_sort_plain]
 refine Qw (Ys (n:=n) ho rfl (Qw (Ec (n:=n) ho rfl ?_ (by rw[Qy,Wo];omega) (Wl _))))
 refine Qw (Rn q1 rfl (Qw (Ui ?_ (by show vs.length<=_;rw[Wo];omega))))
 refine Qw (Rm (Wb ?_) (Wl _))
 show wpAny (model prog w) A _ P E { s with heap:=((s.heap.update a (Obj.mapSeq fun _=>#[])).push (seqObj "tuple" vs.toArray 0)).push (seqObj "list" #[] 0) }
 dsimp only
 rw[Qg hz,Qg hz]
 refine Qw (hk _ _ ?_)
 have run:=fO (cmp:=kas_ask prog w A κ vs) (N:=vs.length) hc (kas_sort vs.length) (fun p s'=>p=evT lt (kas_sort vs.length)/\s'={ s with heap:=((s.heap.update a (Obj.mapSeq fun _=>#[])).push (seqObj "tuple" vs.toArray 0)).push (seqObj "list" #[] 0) }) (zZA (by omega)) ⟨rfl,rfl⟩
 refine Qw (Ei (kat_run (Q:=fun st' s'=>(arrOf st').map (·.2)=List.toArray ((evT lt (kas_sort vs.length)).toList.map fun i=>vs.getD i Value.none)/\(evT lt (kas_sort vs.length)).size=vs.length/\failedOf st'=none/\s'={ s with heap:=((s.heap.update a (Obj.mapSeq fun _=>#[])).push (seqObj "tuple" vs.toArray 0)).push (seqObj "list" #[] 0) })
   rfl h2 h64 (fun p' st' s' b1 b2 b3 b4=>⟨by rw[kat_snds rfl b2,b4.1],by rw[←b4.1];exact b1,b3,b4.2⟩) run) ?_ fun _ _ e=>e)
 rintro⟨⟨⟩,st'⟩ s' ⟨har,hps,hf,rfl⟩
 dsimp only
 rw[har]
 refine Qw (Rn q6 rfl (Qw (Ec q6 rfl ?_ (Wl _) (by rw[Qy,Qa,En,hps,Wo];omega))))
 rw[hf]
 simp only[Yi,Wy,Eb]
 exact Qi h
theorem w4 {α β:Type}{F:α->β->Prop}{da:α}{db:β}:∀ {l:List α} {m:List β} {i:Nat},Paired F l m->i < l.length->F (l.getD i da) (m.getD i db)
 | _,_,_,.nil,h=>by simp at h
 | _,_,0,.cons r _,_=>r
 | _,_,i+1,.cons _ t,h=>by simpa using w4 (i:=i) t (by simpa using h)
end
theorem wU {α:Type}(d:α):∀l:List α,(List.range l.length).map (fun i=>l.getD i d)=l:=fun l=>by
 apply List.ext_getElem
 · simp
 · intro i h1 h2
   simp at h1
   simp[h1]
end L2
namespace L2
open PySem PySem.Spec PyProof.Rows
end L2
namespace Att
open PySem PySem.W PySem.Spec PyProof.Rows
end Att
namespace Att
open PySem PySem.W PySem.Calls PyProof.Rows
end Att
namespace L2
open PySem PySem.Spec PyProof.Rows
inductive All2 {α β:Type}(R:α->β->Prop):List α->List β->Prop
 | nil:All2 R [] []
 | cons {a b l m}:R a b->All2 R l m->All2 R (a::l) (b::m)
theorem Paired.upd {α β:Type}{F F':α->β->Prop}{b':β}:∀ {l:List α} {r:List β} (i:Nat),Paired F l r->(∀(j:Nat) (a:α) (b:β),j≠i->l[j]?=some a->r[j]?=some b->F a b->F' a b)->(∀a,l[i]?=some a->F' a b')->Paired F' l (r.set i b')
 | _,_,_,.nil,_,_=>.nil
 | _,_,0,.cons q t,h1,h2=>by
   rw[List.set_cons_zero]
   refine .cons (h2 _ rfl) ?_
   have tl:∀ {l:List α} {r:List β} (n:Nat),Paired F l r->(∀(j:Nat) (a:α) (b:β),l[j]?=some a->r[j]?=some b->F a b->F' a b)->Paired F' l r:=by
     intro l r n p
     induction p with
     | nil=>intro _;exact .nil
     | cons q t ih=>intro h;exact .cons (h 0 _ _ rfl rfl q) (ih fun j a b e1 e2=>h (j+1) a b (by simpa using e1) (by simpa using e2))
   exact tl 0 t fun j a b e1 e2=>h1 (j+1) a b (by omega) (by simpa using e1) (by simpa using e2)
 | _,_,i+1,.cons q t,h1,h2=>by
   rw[List.set_cons_succ]
   exact .cons (h1 0 _ _ (by omega) rfl rfl q) (Paired.upd i t (fun j a b hj e1 e2=>h1 (j+1) a b (by omega) (by simpa using e1) (by simpa using e2)) fun a e=>h2 a (by simpa using e))
section
variable {a:Expr}
theorem jJ:∀ {vs:List V} {us:List Value} {v:V} {u:Value},Vals vs us->RelV v u->Vals (vs++[v]) (us++[u])
 | _,_,_,_,.nil,h=>.cons h .nil
 | _,_,_,_,.cons a t,h=>.cons a (jJ t h)
end
section
variable {prog:Program} {w:World} {A:Around} {E:Value->Shared->Prop} {s:Shared}
theorem sJ {id:String}{b:Builtin}{args:List Value}{kw:List (Str×Value)}{Q:Value->Shared->Prop}(hk:builtinKind id=none)(hp:plainId id=true)
   (hb:entryFor table id=some b) (ha:argsOk id ⟨args,kw⟩)
   (hc:wpAny (model prog w) A.in1 (b ⟨args,kw⟩) (fun fin s'=>match fin with
     | .done f=>(match (Except.ok f:Result) with | .ok (.ret v)=>Q v s' | .ok _=>False | .error e=>E e s')
     | .again c'=>c'.quiet=true/\codeAny (model prog w) A c' (fun r s'=>match r with | .ok (.ret v)=>Q v s' | .ok _=>False | .error e=>E e s') s') E s) :
   wpAny (model prog w) A (call (.builtin id) args kw) Q E s:=by
 refine Yt (Tl hp hb ?_)
 simp only[checkBuiltinCall,hk]
 cases hsig:Manifest.signature? id with
 | none=>exact Qi hc
 | some sig =>
   have h2:Bind.checkArgs id sig ⟨args,kw⟩=pure ():=by simpa only [argsOk,hsig] using ha
   show wpAny _ A.in1 (Bind.checkArgs id sig ⟨args,kw⟩) _ _ s
   rw[h2];exact Qi hc
end
end L2
namespace L2
open PySem PySem.W PyProof.Rows
def xT (lt:Nat->Nat->Bool)(N:Nat):List Nat:=if N < 2 then List.range N else(evT lt (kas_sort N)).toList
section
variable {X:Cx} {pins:List (Addr×Obj)} {σ:St} {H:Hp} {s:Shared}
theorem Inv.adopt {D kS:Addr}{o:HO}{h':Heap}(I:Inv X pins σ H s)(k:∀b u,b≠D->b≠kS->s.heap.get? b=some u->h'.get? b=some u)(hD:H D=none)(hK:H kS=none)(hne:D≠kS)
   (h1:∀b,b=D∨b=kS->X.s₀.heap.objs.size<=b/\b≠X.env.locals/\(∀x c,X.env.cells.lookup x=some c->c≠b)/\∀p∈X.pn++pins,p.1≠b) (new:ObjOk X.prog X.w (upd H D o) h' D o) :
   Inv X pins σ (upd H D o) { s with heap:=h' }:=by
 have nD:∀b u,H b=some u->b≠D:=fun b u e z=>by rw[z,hD] at e;cases e
 have nK:∀b u,H b=some u->b≠kS:=fun b u e z=>by rw[z,hK] at e;cases e
 have hin:∀ {b:Addr},b∉[D,kS]->b≠D/\b≠kS:=fun hb=>⟨fun z=>hb (by simp[z]),fun z=>hb (by simp[z])⟩
 refine I.step (g':=s.gens) (d':=s.drawn) (t':=s.toks) (ch:=[D,kS]) (fun b hb=>?_) (fun b u _ _ hc e _=>k b u (hin hc).1 (hin hc).2 e) (fun b u _ _ hc e _=>⟨u.slots,k b u (hin hc).1 (hin hc).2 e⟩) (fun b u hc _ n=>by rw[zO (hin hc).1];exact n)
   (fun b u hc e=>⟨u,k b u (hin hc).1 (hin hc).2 e⟩) (fun b xs e=>by rw[zO (nD b _ e)];exact e) (fun b u xs e=>by rw[zO (nD b _ e)];exact e) (fun b ps e=>⟨#[],by rw[zO (nD b _ e),e];simp⟩) (fun m hm=>?_) (fun b u e=>?_) I.bare
 · have hb':b=D∨b=kS:=by simpa using hb
   obtain⟨a1,a2,a3,a4⟩:=h1 b hb'
   exact⟨.inr a1,a2,a3,a4⟩
 · obtain⟨u,es,ep,hu,r⟩:=hm
   exact⟨u,es,ep,k _ u (Ne.symm (h1 D (.inl rfl)).2.1) (Ne.symm (h1 kS (.inr rfl)).2.1) hu,r⟩
 · by_cases hb:b=D
   · subst hb
     rw[zN] at e
     cases e
     exact new
   · rw[zO hb] at e
     refine(I.hok b u e).stay (fun c v hc q=>?_) (fun c q=>by rw[zO (nD c _ q)];exact q) fun c xs q=>by rw[zO (nD c _ q)];exact q
     have hc':c≠D/\c≠kS:=by
       rcases hc with z | z
       · rw[z];exact⟨hb,nK b u e⟩
       · exact⟨nD c _ z,nK c _ z⟩
     exact k c v hc'.1 hc'.2 q
def Own (X:Cx)(pins:List (Addr×Obj))(b:Addr):Prop:=X.s₀.heap.objs.size<=b/\b≠X.env.locals/\(∀x c,X.env.cells.lookup x=some c->c≠b)/\(∀p∈X.pn++pins,p.1≠b)/\b∉X.fs
theorem zZH {H:Hp}{s:Shared}(I:Inv X pins σ H s){b:Addr}(hb:s.heap.objs.size<=b):Own X pins b:=by
 refine⟨We I.sz hb,fun z=>?_,fun x c e z=>?_,fun p hp z=>?_,I.nofs hb⟩
 · have:=I.lt
   rw[←z] at this
   exact absurd this (Th.mpr hb)
 · obtain⟨v,o,ho,_⟩:=I.cell x c e
   have:=Qu ho
   rw[z] at this
   exact absurd this (Th.mpr hb)
 · have:=Qu (I.pin p hp).1
   rw[z] at this
   exact absurd this (Th.mpr hb)
abbrev wA (us:List Value)(c:Nat):Obj:=seqObj "list" us.toArray c
theorem lQ (us:List Value)(c:Nat):∀v,(wA us c).data ≠ .cell v:=fun _ h=>nomatch h
theorem zXs {D kS fa:Addr}{e1:Nat}{us:List Value}(J:Nat->List Value->Hp->Prop)(hD:Own X pins D)(hK:Own X pins kS)(hne:D≠kS)(hlen:us.length < 64)
   (hstep:∀i x ws H' s' pins',us[i]?=some x->J i ws H'->Inv X pins' σ H' s'->wpAny (model X.prog X.w) X.A.in1.in1 (call (.ref fa) [x]) (fun u s''=>∃H'',Inv X pins' σ H'' s''/\J (i+1) (ws++[u]) H'') (fun _ _=>False) s')
   {s:Shared} {H:Hp} (hJ:J 0 [] H) (I:Inv X ((D,wA [] e1)::(kS,wA [] 0)::pins) σ H s) {P:PySem.Fin->Shared->Prop} {E:Value->Shared->Prop}
   (hfin:∀ws c H' s',J us.length ws H'->ws.length=us.length->Inv X ((D,wA [] e1)::(kS,wA ws c)::pins) σ H' s'->wpAny (model X.prog X.w) X.A.in1.in1 (ksk_end D false us.toArray e1 (.ref kS) ws.toArray) P E s') :
   wpAny (model X.prog X.w) X.A.in1.in1 (ksk_rest D (.ref fa) false us.toArray e1 (.ref kS)) P E s:=by
 unfold ksk_rest
 refine Qw (wpAny_rule ?_)
 first
   | rw[List.forIn_toArray]
   | (rw[←Array.forIn_toList];simp only[List.toList_toArray])
   | rw[←Array.forIn_toList]
 refine Qw (ksk_fold (fun i s'=>∃ws c H',J i ws H'/\ws.length=i/\Inv X ((D,wA [] e1)::(kS,wA ws c)::pins) σ H' s') us 0 s ⟨[],0,H,hJ,rfl,I⟩ (fun j x s' hx hd=>?_) fun s' hd=>?_)
 · obtain⟨ws,c,H',j1,j2,I'⟩:=hd
   rw[Nat.zero_add] at j1 j2 ⊢
   have hj:j < us.length:=(Qf.mp hx).1
   refine Qw (wpAny_attempt (Ei (hstep j x ws H' s' _ hx j1 I') (fun u s'' hu=>?_) fun _ _ z=>z.elim))
   obtain⟨H'',I'',j3⟩:=hu
   have pk:=I''.pin (kS,wA ws c) (by simp)
   have pd:=I''.pin (D,wA [] e1) (by simp)
   have ea:(List.toArray ws).push u=List.toArray (ws++[u]):=by simp
   obtain⟨c2,hc2⟩:∃c2,(s''.heap.update kS (Obj.mapSeq (·.push u))).get? kS=some (wA (ws++[u]) c2):=⟨_,by show _=some (seqObj "list" (List.toArray (ws++[u])) _);rw[←ea];exact Rf pk.1 (·.push u)⟩
   try dsimp only
   refine Qw (Ec pk.1 rfl ?_ (by rw[Qy,Wo];omega) (We (Ya (Array.size_push ..)) (by rw[Qy,Wo];omega)))
   refine Qi ⟨rfl,ws++[u],c2,H'',j3,by rw[Ql,j2];rfl,?_⟩
   have Id:Inv X ((D,wA [] e1)::pins) σ H'' s'':=I''.pins_of fun p hp=>by
     rcases Qh.mp hp with rfl | hp
     · exact pd
     · exact I''.pin p (by simp[hp])
   have keep:∀b o,b≠kS->s''.heap.get? b=some o->(s''.heap.update kS (Obj.mapSeq (·.push u))).get? b=some o:=fun b o hb e=>by rw[Wg _ _ _ _ hb];exact e
   have It:=Id.turned (t':=s''.toks) (it:=kS) (h':=s''.heap.update kS (Obj.mapSeq (·.push u))) keep pk.2.1 hK.2.1 (.inr hK.1) hK.2.2.1 (fun p hp=>by
     rcases Yv.mp hp with z | z
     · exact hK.2.2.2.1 p (Tj _ z)
     · rcases Qh.mp z with rfl | z
       · exact hne
       · exact hK.2.2.2.1 p (Wq _ z))
   refine It.pins_of fun p hp=>?_
   rcases Qh.mp hp with rfl | hp
   · exact It.pin _ (by simp)
   · rcases Qh.mp hp with rfl | hp
     · exact⟨hc2,pk.2.1,hK.2.1,hK.2.2.2.2,lQ _ _⟩
     · exact It.pin p (by simp[hp])
 · obtain⟨ws,c,H',j1,j2,I'⟩:=hd
   rw[Nat.zero_add] at j1 j2
   have pk:=I'.pin (kS,wA ws c) (by simp)
   try dsimp only
   exact Qw (Ys pk.1 rfl (hfin ws c H' s' j1 j2 I'))
variable {D kS:Addr} {e1:Nat} {ws:List Value} {c:Nat} {P:PySem.Fin->Shared->Prop} {E:Value->Shared->Prop}
theorem dN {st:SortSt}{out:List Value}(hne:D≠kS)(hout:(arrOf st).map (·.2)=List.toArray out)(hf:failedOf st=none)(hz:out.length < 64)(hw:ws.length < 64)(I:Inv X ((D,wA [] e1)::(kS,wA ws c)::pins) σ H s)
   (h:∀h' c3,(∀b o,b≠D->b≠kS->s.heap.get? b=some o->h'.get? b=some o)->h'.get? D=some (wA out c3)->P (.done (.ret .none)) { s with heap:=h' }) :
   wpAny (model X.prog X.w) X.A.in1.in1 (ksk_tail D false e1 (.ref kS) st) P E s:=by
 have pk:=I.pin (kS,wA ws c) (by simp)
 have pd:=I.pin (D,wA [] e1) (by simp)
 have pd':(s.heap.update kS (Obj.mapSeq fun _=>(#[]:Array Value))).get? D=some (seqObj "list" #[] e1):=by rw[Wg _ _ _ _ hne];exact pd.1
 obtain⟨c3,hc3⟩:∃c3,((s.heap.update kS (Obj.mapSeq fun _=>(#[]:Array Value))).update D (Obj.mapSeq fun _=>List.toArray out)).get? D=some (wA out c3):=⟨_,Rf pd' fun _=>List.toArray out⟩
 unfold ksk_tail
 try dsimp only
 rw[hout]
 refine Qw (Ec pk.1 rfl (Qw (Tq (Qw (Rn pd' rfl ?_)))) (by rw[Qy,Wo];omega) (Wl _))
 refine Qw (Ec pd' rfl ?_ (Wl _) (by show(List.toArray out).size<=_;rw[Qy,Wo];omega))
 rw[hf]
 simp only[Yi,Wy,Eb]
 refine Qi (h _ c3 (fun b o h1 h2 e=>?_) hc3)
 rw[Wg _ _ _ _ h1,Wg _ _ _ _ h2]
 exact e
theorem zW0 {us:List Value}{lt:Nat->Nat->Bool}(hne:D≠kS)(hl:ws.length=us.length)(h64:us.length < 64)(I:Inv X ((D,wA [] e1)::(kS,wA ws c)::pins) σ H s)
   (hq:2<=us.length->∃κ,(∀(E':Value->Shared->Prop) Q,Q κ s->wpAny (model X.prog X.w) X.A.in1.in1 (keyKind' ws.toArray) Q E' s)/\∀i j C,i < us.length->j < us.length->C (lt i j) s->kas_ask X.prog X.w X.A.in1.in1 κ ws i j C s)
   (h:∀h' c3,(∀b o,b≠D->b≠kS->s.heap.get? b=some o->h'.get? b=some o)->h'.get? D=some (wA ((xT lt us.length).map fun i=>us.getD i Value.none) c3)->P (.done (.ret .none)) { s with heap:=h' }) :
   wpAny (model X.prog X.w) X.A.in1.in1 (ksk_end D false us.toArray e1 (.ref kS) ws.toArray) P E s:=by
 unfold ksk_end
 try dsimp only
 simp only[Wy,Eb]
 by_cases h2:us.toArray.size < 2
 · have h2':us.length < 2:=by simpa using h2
   rw[Qo h2,Qo h2]
   refine Qw (Qi ?_)
   rw[StateT.run_pure]
   refine Qw (Qi ?_)
   have e:(xT lt us.length).map (fun i=>us.getD i Value.none)=us:=by
     unfold xT
     rw[Qo h2',wU]
   rw[e] at h
   refine dN (out:=us) hne ?_ rfl h64 (by omega) I h
   apply Yx.mp
   show((ws.toArray.zip us.toArray).map (·.2)).toList=us
   rw[Yc,ksk_zip]
   have:∀(a b:List Value),a.length=b.length->(List.zip a b).map (fun x=>x.2)=b:=by
     intro a b hab
     exact List.map_snd_zip (by omega)
   exact this ws us hl
 · have h2':2<=us.length:=(by have:¬us.length < 2:=(by simpa using h2);omega)
   rw[Qg h2,Qg h2]
   obtain⟨κ,hk,hc⟩:=hq h2'
   refine Qw (hk _ _ ?_)
   have run:=fO (cmp:=kas_ask X.prog X.w X.A.in1.in1 κ ws) (N:=us.length) hc (kas_sort us.length) (fun p s'=>p=evT lt (kas_sort us.length)/\s'=s) (zZA (by omega)) ⟨rfl,rfl⟩
   refine Qw (Ei (kat_run (ks:=ws) (vs:=us) (Q:=fun st' s'=>(arrOf st').map (·.2)=List.toArray ((evT lt (kas_sort us.length)).toList.map fun i=>us.getD i Value.none)/\(evT lt (kas_sort us.length)).size=us.length/\failedOf st'=none/\s'=s)
     hl h2' h64 (fun p' st' s' b1 b2 b3 b4=>⟨by rw[kat_snds hl b2,b4.1],by rw[←b4.1];exact b1,b3,b4.2⟩) run) ?_ fun _ _ e=>e)
   rintro⟨⟨⟩,st'⟩ s' ⟨har,hps,hf,rfl⟩
   have e:xT lt us.length=(evT lt (kas_sort us.length)).toList:=by unfold xT;rw[Qg (by omega)]
   rw[e] at h
   exact dN hne har hf (by rw[Qa,En,hps];exact h64) (by omega) I h
theorem iA {q fa:Addr}{us:List Value}{lt:Nat->Nat->Bool}{Q:Value->Shared->Prop}(J:Nat->List Value->Hp->Prop)(hl:s.heap.IsList q us.toArray)(h64:us.length < 64)(I:Inv X pins σ H s)(hJ:J 0 [] H)
   (hstep:∀i x ws H' s' pins',us[i]?=some x->J i ws H'->Inv X pins' σ H' s'->wpAny (model X.prog X.w) X.A.in1.in1 (call (.ref fa) [x]) (fun u s''=>∃H'',Inv X pins' σ H'' s''/\J (i+1) (ws++[u]) H'') (fun _ _=>False) s')
   (hq:∀ws H' s' pins',J us.length ws H'->ws.length=us.length->Inv X pins' σ H' s'->2<=us.length->∃κ,(∀(E':Value->Shared->Prop) Q,Q κ s'->wpAny (model X.prog X.w) X.A.in1.in1 (keyKind' ws.toArray) Q E' s')/\∀i j C,i < us.length->j < us.length->C (lt i j) s'->kas_ask X.prog X.w X.A.in1.in1 κ ws i j C s')
   (hend:∀ws H' D s',J us.length ws H'->H' D=none->(∀o,(∀h':Heap,(∃c3,h'.get? D=some (wA ((xT lt us.length).map fun i=>us.getD i Value.none) c3))->ObjOk X.prog X.w (upd H' D o) h' D o)->Inv X pins σ (upd H' D o) s')->Q (.ref D) s') :
   wpAny (model X.prog X.w) X.A (call (.builtin "sorted") [.ref q] [(Str.ofString "key",.ref fa)]) Q E s:=by
 have hsz:((s.heap.push (seqObj "list" #[] 0)).update s.heap.objs.size (Obj.mapSeq (· ++ us.toArray))).objs.size=s.heap.objs.size+1:=by rw[Yj,size_push']
 have qD:(((s.heap.push (seqObj "list" #[] 0)).update s.heap.objs.size (Obj.mapSeq (· ++ us.toArray))).push (seqObj "list" us.toArray 0)).get? (s.heap.objs.size+1)=some (seqObj "list" us.toArray 0):=by
   rw[←hsz];exact Qd _ rfl
 have old:∀b o,s.heap.get? b=some o->(((s.heap.push (seqObj "list" #[] 0)).update s.heap.objs.size (Obj.mapSeq (· ++ us.toArray))).push (seqObj "list" us.toArray 0)).get? b=some o:=fun b o e=>by
   have hlt:b < s.heap.objs.size:=Qu e
   exact Qr _ (by rw[Wg _ _ _ _ (Qb hlt)];exact Qr _ e)
 generalize hh1:(((s.heap.push (seqObj "list" #[] 0)).update s.heap.objs.size (Obj.mapSeq (· ++ us.toArray))).push (seqObj "list" us.toArray 0))=h1 at qD old
 have hD0:s.heap.objs.size<=s.heap.objs.size+1:=Rv _
 generalize hDd:s.heap.objs.size+1=D at qD hD0
 refine sJ kind_sorted plain_sorted entry_sorted (ksk_s1 _ _) ?_
 unfold Builtin.«sorted»
 refine Qw (m:=checkCount "sorted" 1 1 _) (Qi (Qw (collect_list hl ?_ (by rw[Wo];omega))))
 refine Qw (Rm ?_ (by rw[Wo];omega))
 show wpAny _ _ _ _ _ { s with heap:=((s.heap.push (seqObj "list" #[] 0)).update s.heap.objs.size (Obj.mapSeq (· ++ us.toArray))).push (seqObj "list" us.toArray 0) }
 rw[hsz,hh1,hDd]
 -- the list is sorted
 obtain⟨e1,q1⟩:∃e1,(h1.update D (Obj.mapSeq fun _=>(#[]:Array Value))).get? D=some (seqObj "list" #[] e1):=⟨_,Rf qD (fun _=>#[])⟩
 have hDlt:D < h1.objs.size:=Qu qD
 have old2:∀b o,s.heap.get? b=some o->(h1.update D (Obj.mapSeq fun _=>(#[]:Array Value))).get? b=some o:=fun b o e=>by
   rw[Wg _ _ _ _ (Qb (Qx (Qu e) hD0))];exact old b o e
 have hkS:((h1.update D (Obj.mapSeq fun _=>(#[]:Array Value))).push (seqObj "tuple" us.toArray 0)).objs.size=h1.objs.size+1:=by rw[size_push',Yj]
 refine Qw (Wb (wpAny_call_entry_kw slot_list_sort ⟨_,qD,rfl⟩ entry_list_sort ?body (ksk_l1 _ _)))
 rw[ksk_t1]
 unfold ksk_tree
 refine Qw (Ys (n:=0) qD rfl (Qw (Ec (n:=0) qD rfl ?_ (by rw[Qy,Wo];omega) (Wl _))))
 refine Qw (Rn q1 rfl (Qw (Ui ?_ (by show us.length<=_;rw[Wo];omega))))
 refine Qw (Rm (Wb ?_) (Wl _))
 show wpAny (model X.prog X.w) X.A.in1.in1 (ksk_rest D (.ref fa) false us.toArray e1 (.ref ((h1.update D (Obj.mapSeq fun _=>(#[]:Array Value))).push (seqObj "tuple" us.toArray 0)).objs.size)) _ _ { s with heap:=((h1.update D (Obj.mapSeq fun _=>(#[]:Array Value))).push (seqObj "tuple" us.toArray 0)).push (seqObj "list" #[] 0) }
 have qk:(((h1.update D (Obj.mapSeq fun _=>(#[]:Array Value))).push (seqObj "tuple" us.toArray 0)).push (seqObj "list" #[] 0)).get? ((h1.update D (Obj.mapSeq fun _=>(#[]:Array Value))).push (seqObj "tuple" us.toArray 0)).objs.size=some (wA [] 0):=Qd _ rfl
 have hks1:s.heap.objs.size<=((h1.update D (Obj.mapSeq fun _=>(#[]:Array Value))).push (seqObj "tuple" us.toArray 0)).objs.size:=by rw[hkS];exact We hD0 (We (Wp hDlt) (Rv _))
 have hne:D≠((h1.update D (Obj.mapSeq fun _=>(#[]:Array Value))).push (seqObj "tuple" us.toArray 0)).objs.size:=by rw[hkS];exact Qb (Nat.lt_succ_of_lt hDlt)
 have I1:Inv X pins σ H { s with heap:=((h1.update D (Obj.mapSeq fun _=>(#[]:Array Value))).push (seqObj "tuple" us.toArray 0)).push (seqObj "list" #[] 0),toks:=s.toks }:=I.kept fun b o e=>Qr _ (Qr _ (old2 b o e))
 generalize((h1.update D (Obj.mapSeq fun _=>(#[]:Array Value))).push (seqObj "tuple" us.toArray 0)).objs.size=kS at qk hks1 hne
 have oD:=zZH I hD0
 have oK:=zZH I hks1
 have qd:(((h1.update D (Obj.mapSeq fun _=>(#[]:Array Value))).push (seqObj "tuple" us.toArray 0)).push (seqObj "list" #[] 0)).get? D=some (wA [] e1):=Qr _ (Qr _ q1)
 refine zXs (X:=X) (pins:=pins) (σ:=σ) J oD oK hne h64 hstep hJ (I1.pins_of fun p hp=>?_) fun ws c H' s' j1 j2 I'=>?_
 · rcases Qh.mp hp with rfl | hp
   · exact⟨qd,I.hok.fresh hD0,oD.2.1,oD.2.2.2.2,lQ _ _⟩
   · rcases Qh.mp hp with rfl | hp
     · exact⟨qk,I.hok.fresh hks1,oK.2.1,oK.2.2.2.2,lQ _ _⟩
     · exact I1.pin p (Wq _ hp)
 · refine zW0 (lt:=lt) hne j2 h64 I' (fun h2=>hq ws H' s' _ j1 j2 I' h2) fun h' c3 kk hd=>⟨_,rfl,?_⟩
   refine Qi ?_
   have pd:=I'.pin (D,wA [] e1) (by simp)
   have pk:=I'.pin (kS,wA ws c) (by simp)
   have Ip:Inv X pins σ H' s':=I'.pins_of fun p hp=>I'.pin p (by simp[hp])
   refine hend ws H' D _ j1 pd.2.1 fun o ho=>?_
   exact Ip.adopt kk pd.2.1 pk.2.1 hne (fun b hb=>by
     rcases hb with rfl | rfl
     · exact⟨oD.1,oD.2.1,oD.2.2.1,oD.2.2.2.1⟩
     · exact⟨oK.1,oK.2.1,oK.2.2.1,oK.2.2.2.1⟩) (ho h' ⟨c3,hd⟩)
end
end L2
namespace L2
open PySem PySem.W PySem.Spec PyProof.Rows
section
variable {P:Program} {w:World} {A:Around} {E:Value->Shared->Prop} {s:Shared} {d:Addr} {es:Array DictEntry} {ep:Nat}
theorem zUD (lo:(d==sysModules)=false):KdlSrc P w "dict" d d es.size (fun i v=>es[i]?.map (·.key)=some v) (fun h=>DEs h d es ep) where
 type:=fun s ⟨o,ho,hx,_⟩=>⟨o,ho,hx.1⟩
 there:=fun h ⟨o,ho,_⟩=>⟨Qu ho,Qu ho⟩
 keep:=fun h h' x k=>x.keep fun o e=>k d (.inl rfl) o e
 notList:=by decide
 notTuple:=by decide
 hint:=fun A E s Q ⟨o,ho,hx,_⟩ q=>kdl_hint_dict ⟨o,ho,hx.1⟩ q
 iter:=fun A s hh x=>⟨kiO d 0 es.size ep,fun i h=>h.get? s.heap.objs.size=some (kiO d i es.size ep)/\DEs h d es ep,fun E Q q=>zVV x lo q,
   { sub:=fun b q=>by simp at q;simp[q]
     frame:=fun i h h' y k=>⟨k _ (by simp) _ y.1,y.2.keep fun o e=>k d (by simp) o e⟩
     item:=fun i s' Q E hi y hQ=>by
       have hv:es[i]?.map (·.key)=some es[i].key:=by simp[hi]
       refine zW3 y.2 y.1 hv fun h' sb e=>hQ _ h' s'.toks hv ⟨e,y.2.keep fun o e'=>(sb.2 d ?_).trans e'⟩ fun b o hb e'=>(sb.2 b (by simpa using hb)).trans e'
       obtain⟨o,ho,_⟩:=x
       exact Qb (Qu ho)
     done:=fun s' Q E y hQ=>zU3 hh y.2 y.1 (by simp) fun h' k=>hQ h' s'.toks fun b o hb e=>k b o (by simpa using hb) e
     self:=fun i s' Q E y hQ=>by
       have hT:s'.TypeIs (.ref s.heap.objs.size) "dict_keyiterator":=⟨_,y.1,rfl⟩
       refine wpAny_pyIter_slot hT F.slot_dict_keyiterator_iter (Ed F.slot_dict_keyiterator_iter hT F.entry_dict_keyiterator_iter ?_ (F.args_dict_keyiterator_iter_1 _))
       exact Qi ⟨_,rfl,"dict_keyiterator",_,hT,F.slot_dict_keyiterator_next.lookup,hQ⟩ },
   ⟨Qd _ rfl,x.keep fun o e=>Qr _ e⟩⟩
theorem zVX {R:Result->Shared->Prop}(hh:A.handled=none)(hd:DEs s.heap d es ep)(lo:(d==sysModules)=false)(hz:es.size<=1000)
   (h:∀h' tk c,(∀c o,s.heap.get? c=some o->h'.get? c=some o)->h'.get? s.heap.objs.size=some { cls:=.type "list",dict:=none,data:=.seq (es.map (·.key)) c,slots:=#[] }->R (.ok (.ret (.ref s.heap.objs.size))) { s with heap:=h',toks:=tk }) :
   codeAny (model P w) A (.builtin "proto.collect" ⟨[.ref d],[]⟩) R s:=by
 have ld:d < s.heap.objs.size:=let ⟨o,ho,_⟩:=hd;Qu ho
 refine Ez F.entry_proto_collect ?_
 rw[Eu F.plain_proto_collect _]
 change wpAny _ A.in1 (newList [] >>= fun l=>again (.builtin "list.__iadd__" ⟨[l,.ref d],[]⟩)) _ _ s
 refine Qw (Ru (Qi ⟨Rp F.plain_list_iadd _,Ez F.entry_list_iadd ?_⟩))
 rw[Eu F.plain_list_iadd _]
 have hL1:(s.heap.push { cls:=.type "list",data:=.seq ([]:List Value).toArray }).get? s.heap.objs.size=some { cls:=.type "list",data:=.seq #[] 0 }:=Qd _ rfl
 change wpAny _ A.in1 (Builtin.List.listExtendWith (.ref s.heap.objs.size) (.ref d) (.ref s.heap.objs.size)) _ _ _
 refine kdl_extend (R:=R) (s:={ s with heap:=s.heap.push { cls:=.type "list",data:=.seq ([]:List Value).toArray } }) (zUD (P:=P) (w:=w) (es:=es) (ep:=ep) lo) hh (hd.keep fun o e=>Qr _ e) s.heap.objs.size (Nat.ne_of_gt ld) (Nat.ne_of_gt ld) (.ref s.heap.objs.size) 0 hL1 (fun h' tk acc c k hS it=>?_) (Wp (wS (by show es.size<=100000;omega)))
 have ea:acc=es.map (·.key):=by
   apply Array.ext_getElem?
   intro i
   rw[Array.getElem?_map]
   rcases Nat.lt_or_ge i acc.size with z | z
   · rw[Uo z]
     exact(it.2 i _ (Uo z)).symm
   · rw[Tr z,Tr (by rw[←it.1];exact z)];rfl
 rw[ea] at hS
 exact h h' tk c (fun c o e=>k c o (Qb (Qu e)) (Qr _ e)) hS
theorem aM {Q:List Value->Shared->Prop}(hh:A.handled=none)(hd:DEs s.heap d es ep)(lo:(d==sysModules)=false)(hz:es.size<=1000)
   (h:∀h' tk,(∀c o,s.heap.get? c=some o->h'.get? c=some o)->Q (es.toList.map (·.key)) { s with heap:=h',toks:=tk }):wpAny (model P w) A (collect (.ref d)) Q E s:=by
 unfold collect
 refine Qw (wpAny_runValue (zVX hh hd lo hz fun h' tk c k hS=>?_))
 change wpAny _ A (load s.heap.objs.size >>= _) _ _ _
 refine Qw (wpAny_load hS (Qi ?_))
 show Q (es.map (·.key)).toList _
 rw[Yc]
 exact h h' tk k
theorem zVZ {a:Addr}{vs:List Value}{n:Nat}{P':PySem.Fin->Shared->Prop}{lt:Nat->Nat->Bool}(ho:s.heap.get? a=some (seqObj "list" vs.toArray n))(h64:vs.length < 64)
   (hq:2<=vs.length->∀h':Heap,(∀b o,b≠a->s.heap.get? b=some o->h'.get? b=some o)->∃κ,(∀(E':Value->Shared->Prop) Q,Q κ { s with heap:=h' }->wpAny (model P w) A (keyKind' vs.toArray) Q E' { s with heap:=h' }) /\
     ∀i j C,i < vs.length->j < vs.length->C (lt i j) { s with heap:=h' }->kas_ask P w A κ vs i j C { s with heap:=h' })
   (h:P' (.done (.ret .none)) { s with heap:=sortedHeap s.heap a vs (List.toArray ((xT lt vs.length).map fun i=>vs.getD i Value.none)) }) :
   wpAny (model P w) A (Builtin.«list.sort» ⟨[.ref a],[]⟩) P' E s:=by
 by_cases h2:2<=vs.length
 · refine zYP ho h2 h64 (hq h2) ?_
   have e:xT lt vs.length=(evT lt (kas_sort vs.length)).toList:=by unfold xT;rw[Qg (by omega)]
   rw[←e];exact h
 · have e:(xT lt vs.length).map (fun i=>vs.getD i Value.none)=vs:=by unfold xT;rw[Qo (by omega),wU]
   rw[e] at h
   have hlt:a < s.heap.objs.size:=Qu ho
   obtain⟨e1,q1⟩:∃e1,(s.heap.update a (Obj.mapSeq fun _=>#[])).get? a=some (seqObj "list" #[] e1):=⟨_,Rf ho (fun _=>#[])⟩
   have q6:(((s.heap.update a (Obj.mapSeq fun _=>#[])).push (seqObj "tuple" vs.toArray 0)).push (seqObj "list" #[] 0)).get? a=some (seqObj "list" #[] e1):=Qr _ (Qr _ q1)
   have hz:vs.toArray.size < 2:=by rw[Qy];omega
   rw[list_sort_plain]
   refine Qw (Ys (n:=n) ho rfl (Qw (Ec (n:=n) ho rfl ?_ (by rw[Qy,Wo];omega) (Wl _))))
   refine Qw (Rn q1 rfl (Qw (Ui ?_ (by show vs.length<=_;rw[Wo];omega))))
   refine Qw (Rm (Wb ?_) (Wl _))
   show wpAny (model P w) A _ P' E { s with heap:=((s.heap.update a (Obj.mapSeq fun _=>#[])).push (seqObj "tuple" vs.toArray 0)).push (seqObj "list" #[] 0) }
   dsimp only
   rw[Qo hz,Qo hz]
   refine Qw (Qi ?_)
   rw[StateT.run_pure]
   refine Qw (Qi ?_)
   have har:(arrOf (SortSt.mk' general' (vs.toArray.zip vs.toArray) #[] 7 none)).map (·.2)=vs.toArray:=by
     apply Yx.mp
     show((vs.toArray.zip vs.toArray).map (·.2)).toList=vs
     rw[Yc,ksk_zip]
     exact List.map_snd_zip (by simp)
   dsimp only
   rw[har]
   refine Qw (Rn q6 rfl (Qw (Ec q6 rfl ?_ (Wl _) (by rw[Qy,Wo];omega))))
   simp only[Yi,Wy,Eb]
   exact Qi h
theorem zZ0 {Q:Value->Shared->Prop}{lt:Nat->Nat->Bool}(hh:A.handled=none)(hd:DEs s.heap d es ep)(lo:(d==sysModules)=false)(h64:es.size < 64)
   (hq:2<=es.size->∀(h':Heap) tk,(∀b o,s.heap.get? b=some o->h'.get? b=some o)->∃κ,(∀(E':Value->Shared->Prop) Q,Q κ { s with heap:=h',toks:=tk }->wpAny (model P w) A.in1.in1 (keyKind' (es.toList.map (·.key)).toArray) Q E' { s with heap:=h',toks:=tk }) /\
     ∀i j C,i < es.size->j < es.size->C (lt i j) { s with heap:=h',toks:=tk }->kas_ask P w A.in1.in1 κ (es.toList.map (·.key)) i j C { s with heap:=h',toks:=tk })
   (h:∀(h1 h':Heap) tk n,(∀c o,s.heap.get? c=some o->h1.get? c=some o)->(∀c o,h1.get? c=some o->h'.get? c=some o)->h'.get? h1.objs.size=some (seqObj "list" (List.toArray ((xT lt es.size).map fun i=>(es.toList.map (·.key)).getD i Value.none)) n)->Q (.ref h1.objs.size) { s with heap:=h',toks:=tk }) :
   wpAny (model P w) A (call (.builtin "sorted") [.ref d]) Q E s:=by
 refine Calls.call_function_entry kind_sorted plain_sorted entry_sorted (args_sorted1 _) ?_
 unfold Builtin.«sorted»
 refine Qw (m:=checkCount "sorted" 1 1 _) (Qi (Qw (aM (by simp[hh]) hd lo (by omega) fun h1 tk k=>?_)))
 have hl:(es.toList.map (·.key)).length=es.size:=by simp
 refine Qw (Rm ?_ (by rw[hl,Wo];omega))
 have hoL:(h1.push (seqObj "list" (es.toList.map (·.key)).toArray 0)).get? h1.objs.size=some (seqObj "list" (es.toList.map (·.key)).toArray 0):=Qd _ rfl
 refine Qw (Wb (Ed slot_list_sort ⟨_,hoL,rfl⟩ entry_list_sort (zVZ (lt:=lt) (s:={ s with heap:=h1.push (seqObj "list" (es.toList.map (·.key)).toArray 0),toks:=tk }) hoL (by omega) (fun h2 h' kp=>?_) ⟨_,rfl,?_⟩) (args_list_sort _)))
 · have:=hq (by rw[←hl];exact h2) h' tk fun b o e=>kp b o (Qb (Qu (k b o e))) (Qr _ (k b o e))
   rw[←hl] at this
   exact this
 · obtain⟨n,hn⟩:=sortedHeap_at (out:=List.toArray ((xT lt (es.toList.map (·.key)).length).map fun i=>(es.toList.map (·.key)).getD i Value.none)) hoL
   rw[hl] at hn
   refine Qi ⟨_,rfl,h h1 _ tk n k (fun c o z=>?_) (by rw[hl];exact hn)⟩
   have lt:c < h1.objs.size:=Qu z
   exact(sortedHeap_old (Qb lt) (by rw[Rz];exact Nat.lt_succ_of_lt lt)).trans (Qr _ z)
end
end L2
namespace L2
open PySem PySem.Spec PyProof.Rows
mutual
def zSV:D->Bool
 | .non=>true
 | .bl _=>true
 | .int _=>true
 | .str _=>true
 | .tup ds=>zV5 ds
 | _=>false
def zV5:List D->Bool
 | []=>true
 | d::r=>zSV d&&zV5 r
end
def nR (G:Hp)(p:Addr):Hp:=fun a=>if a=p then none else G a
theorem wX {G:Hp}{p a:Addr}(h:a≠p):nR G p a=G a:=Qg h
theorem vF {G:Hp}{p:Addr}:nR G p p=none:=Qo rfl
section
variable {X:Cx} {e:Expr} {fa:Ef}
def zXB (f:Ef):Tf:=fun ρ=>(f ρ).bind fun x=>match x with | .lst ds=>some (!ds.isEmpty) | _=>none
theorem gQ (ha:PF X e fa)(he:∀whole,isTrue e X.env whole=(do let v ←whole;standAt e.pos;holding [v] (truthy v)):=by intro _;rfl):PFT X e (zXB fa):=by
 refine PT.to (zXk ha he) ?_
 rintro σ H Q ⟨G0,H0,G,ρ,c,good,hf,k⟩
 unfold zXB at hf
 obtain⟨x,h1,hf⟩:=Qq.mp hf
 cases x with
 | lst ds =>
   cases hf
   refine⟨G0,H0,G,ρ,_,good,h1,fun v H1 G1 s1 r1=>?_⟩
   obtain⟨p,vs,rfl,q,rs⟩:=yW.mp r1
   have hl:=rs.length
   refine⟨_,.inl ⟨vs,s1.sub.seq q,?_⟩,k _ G1 s1⟩
   cases ds<;>cases vs<;>first | rfl | cases hl
 | _=>cases hf
end
def fN (h:Heap)(e:Addr)(v:Value):Prop:=v = .none∨∃T oT ts,v = .ref T/\T≠e/\h.get? T=some oT/\oT.data = .fields ts/\ts[3]?=some .none
structure Flew (fs:List Addr)(e:Addr)(c:Value)(od:Option Addr)(vs:Array Value)(sl:Array (Option Value))(h h':Heap):Prop where
 obj:h'.get? e=some { cls:=c,dict:=od,data:=.fields (vs.setIfInBounds 1 (.ref h.objs.size)),slots:=sl }
 ne:h.objs.size≠e
 head:∃oT ts,h'.get? h.objs.size=some oT/\oT.data = .fields ts/\ts[3]?=some .none
 keep:∀b o,h.get? b=some o->b≠e->b∉fs->some (Value.ref b)≠vs[1]?->h'.get? b=some o
 slot:∀b o,h.get? b=some o->b≠e->b∈fs->some (Value.ref b)≠vs[1]?->∃z,h'.get? b=some { o with slots:=z }
section
variable {M:Model} {A:Around} {E:Value->Shared->Prop} {s:Shared}
theorem rC {a:Addr}{c x:Value}{od:Option Addr}{vs:Array Value}{sl:Array (Option Value)}{k:Nat}{Q:Unit->Shared->Prop}(ho:s.heap.get? a=some { cls:=c,dict:=od,data:=.fields vs,slots:=sl })(hk:k < vs.size)
   (h:∀h',h'.get? a=some { cls:=c,dict:=od,data:=.fields (vs.setIfInBounds k x),slots:=sl }->Heap.SameBut a s.heap h'->Q () { s with heap:=h' }):wpAny M A (setField (.ref a) k x) Q E s :=
 wpAny_setField ho rfl hk (h _ (Wc _ ho rfl) (Tn ..))
theorem iM {base:Heap}{env:Env}{outer:List Env}{L e:Addr}{c:Value}{od:Option Addr}{vs:Array Value}{sl:Array (Option Value)}{hd:Value}{nx:Bool}{Q:Unit->Shared->Prop}
   (hfr:A.frames=some (env::outer)) (hl:s.heap.FunFrames base (env::outer)) (hf:env.frame=some L)
   (he:s.heap.get? e=some { cls:=c,dict:=od,data:=.fields vs,slots:=sl }) (hsz:1 < vs.size)
   (h:∀h',(h'.get? e=some { cls:=c,dict:=od,data:=.fields (vs.setIfInBounds 1 (.ref s.heap.objs.size)),slots:=sl }/\s.heap.objs.size≠e/\∃oT ts,h'.get? s.heap.objs.size=some oT/\oT.data = .fields ts/\ts[3]?=some .none) ->
     (∀b o,s.heap.get? b=some o->b≠e->b∉frs (env::outer)->h'.get? b=some o)->(∀b o,s.heap.get? b=some o->b≠e->b∈frs (env::outer)->∃z,h'.get? b=some { o with slots:=z })->Q () { s with heap:=h' }) :
   wpAny M A (do let a ←frameOf env;let pl ←entryPlaceOf L nx;let b ←EntryCells.newEntry hd a .none (rawInt L) .none pl;setField (.ref e) 1 b) (fun _ s'=>wpAny M A (setFlight (.ref e) none) Q E s') E s:=by
 have ne:e∉frs (env::outer):=fun z=>by
   obtain⟨_,o,q,n⟩:=hl.mem z
   rw[he] at q
   cases q
   exact n vs rfl
 refine Qw (wpAny_frameOf_fun hfr hl hf fun g1 k1=>Qw (wpAny_entryPlaceOf fun pl hp=>?_))
 unfold EntryCells.newEntry newFields
 refine Qw (Ru ?_ (hp.sizeOk5 _ _ _ _ _))
 have e1:g1.get? e=some { cls:=c,dict:=od,data:=.fields vs,slots:=sl }:=(k1.2.1 e ne).trans he
 have ln:g1.objs.size≠e:=fun z=>Wf _ (z ▸ Qu e1)
 have hsz3:3 < ([hd,.ref L,.none,rawInt L,.none]++(if pl.isEmpty then List.replicate 6 Value.none else pl)).toArray.size:=by
   rw[Qy,Ql];show 3 < 5+_;omega
 generalize hts:([hd,.ref L,.none,rawInt L,.none]++(if pl.isEmpty then List.replicate 6 Value.none else pl)).toArray=ts at hsz3
 have e2:(g1.push { cls:=.type "traceback",data:=.fields ts }).get? e=some { cls:=c,dict:=od,data:=.fields vs,slots:=sl }:=Qr _ e1
 have t2:(g1.push { cls:=.type "traceback",data:=.fields ts }).get? g1.objs.size=some { cls:=.type "traceback",dict:=none,data:=.fields ts,slots:=#[] }:=Qd _ rfl
 refine rC e2 hsz fun g3 e3 k3=>?_
 have t3:g3.get? g1.objs.size=some { cls:=.type "traceback",dict:=none,data:=.fields ts,slots:=#[] }:=k3.extBut _ _ ln t2
 unfold setFlight
 refine Qw (Uq e3 rfl (x:=.ref g1.objs.size) (by simp[hsz]) ?_)
 rw[Qo (by simp)]
 refine rC t3 hsz3 fun g4 t4 k4=>h g4 (by rw[←k1.1];exact⟨k4.extBut _ _ (fun z=>ln z.symm) e3,ln,_,_,t4,rfl,by simp[hsz3]⟩) (fun b o q n1 n2=>?_) fun b o q n1 n2=>?_
 · have q1:g1.get? b=some o:=(k1.2.1 b n2).trans q
   exact k4.extBut _ _ (Qb (Qu q1)) (k3.extBut _ _ n1 (Qr _ q1))
 · obtain⟨w,q1⟩:=k1.2.2 b o q
   exact⟨w,k4.extBut _ _ (Qb (Qu q1)) (k3.extBut _ _ n1 (Qr _ q1))⟩
theorem kR {base:Heap}{env:Env}{outer:List Env}{L e:Addr}{c v:Value}{od:Option Addr}{vs:Array Value}{sl:Array (Option Value)}{Q:Unit->Shared->Prop}
   (hfr:A.frames=some (env::outer)) (hl:s.heap.FunFrames base (env::outer)) (hf:env.frame=some L)
   (he:s.heap.get? e=some { cls:=c,dict:=od,data:=.fields vs,slots:=sl }) (hv:vs[1]?=some v) (hh:fN s.heap e v)
   (h:∀h',Flew (frs (env::outer)) e c od vs sl s.heap h'->Q () { s with heap:=h' }):wpAny M A (noteFrame (.ref e) env) (fun _ s'=>wpAny M A (setFlight (.ref e) none) Q E s') E s:=by
 have hsz:1 < vs.size:=(Ee.mp hv).1
 unfold noteFrame
 simp only[hf]
 refine Qw (Uq he rfl hv ?_)
 rcases hh with rfl | ⟨T,oT,ts,rfl,ne,hT,hdT,h3⟩
 · rw[Qg (by decide)]
   exact iM hfr hl hf he hsz fun h' a1 a2 a3=>h h' ⟨a1.1,a1.2.1,a1.2.2,fun b o q n1 n2 _=>a2 b o q n1 n2,fun b o q n1 n2 _=>a3 b o q n1 n2⟩
 · rw[Qo (by simp)]
   refine Qw (Uq hT hdT h3 ?_)
   rw[Qg (show ¬((Value.none==rawInt L)=true) by simp[rawInt])]
   obtain⟨cT,dT,daT,slT⟩:=oT
   dsimp only at hdT
   subst hdT
   refine Qw (rC hT (Ee.mp h3).1 fun g1 t1 k1=>?_)
   have up:∀b o,b≠T->s.heap.get? b=some o->g1.get? b=some o:=fun b o z q=>k1.extBut _ _ z q
   have nT:∀b o,s.heap.get? b=some o->(∀vs,o.data ≠ .fields vs)->b≠T:=fun b o q n z=>by
     rw[z,hT] at q
     cases q
     exact n ts rfl
   refine iM hfr (hl.of_keeps fun b o q n=>⟨o,up b o (nT b o q n) q,rfl⟩) hf (up _ _ (fun z=>ne z.symm) he) hsz fun h' a1 a2 a3=>?_
   have es:g1.objs.size=s.heap.objs.size:=k1.1
   dsimp only at a1
   rw[es] at a1
   exact h h' ⟨a1.1,a1.2.1,a1.2.2,fun b o q n1 n2 n3=>a2 b o (up b o (fun z=>n3 (by rw[hv,z])) q) n1 n2,fun b o q n1 n2 n3=>a3 b o (up b o (fun z=>n3 (by rw[hv,z])) q) n1 n2⟩
theorem cX {base:Heap}{env:Env}{outer:List Env}{L e:Addr}{c v:Value}{od:Option Addr}{vs:Array Value}{sl:Array (Option Value)}{Q:Unit->Shared->Prop}
   (hfr:A.frames=some (env::outer)) (hl:s.heap.FunFrames base (env::outer)) (hf:env.frame=some L)
   (he:s.heap.get? e=some { cls:=c,dict:=od,data:=.fields vs,slots:=sl }) (hv:vs[1]?=some v) (hh:fN s.heap e v)
   (h:∀h',Flew (frs (env::outer)) e c od vs sl s.heap h'->Q () { s with heap:=h' }):wpAny M A (leaving env (.ref e)) Q E s:=Qw (kR hfr hl hf he hv hh h)
theorem dP {a T:Addr}{o oT:Obj}{vs ts:Array Value}{Q:Unit->Shared->Prop}(ho:s.heap.get? a=some o)(hd:o.data = .fields vs)(hv:vs[1]?=some (.ref T))(hT:s.heap.get? T=some oT)(hdT:oT.data = .fields ts)(h3:ts[3]?=some .none)
   (h:∀h',(∀b u,s.heap.get? b=some u->h'.get? b=some u)->Q () { s with heap:=h' }):wpAny M A (setFlight (.ref a) none) Q E s:=by
 unfold setFlight
 refine Qw (Uq ho hd hv ?_)
 rw[Qo (by simp)]
 obtain⟨cT,dT,daT,slT⟩:=oT
 dsimp only at hdT
 subst hdT
 refine rC hT (Ee.mp h3).1 fun g q1 q2=>h g fun b u q=>?_
 by_cases hb:b=T
 · subst hb
   rw[hT] at q
   cases q
   rw[q1]
   have:ts.setIfInBounds 3 ((none:Option Addr).elim Value.none fun f=>rawInt f)=ts:=by
     apply Array.ext_getElem?
     intro k
     rw[Array.getElem?_setIfInBounds]
     split
     · rename_i z
       subst z
       split
       · exact h3.symm
       · rename_i z;rw[Tr (by omega)]
     · rfl
   rw[this]
 · exact q2.extBut _ _ hb q
end
structure Fly (h:Heap)(H:Hp)(h0:Heap)(C a:Addr):Prop where
 ob:∃vs v,h.get? a=some { cls:=.ref C,dict:=none,data:=.fields vs,slots:=#[] }/\vs[1]?=some v/\fN h a v/\∀T,v = .ref T->H T=none/\h0.get? T=none
 free:H a=none
 new:h0.get? a=none
def CXq (P:Program)(w:World):CXT:=fun outer H s E e s'=>∃C a H',e = .ref a/\s'.os=s.os/\AllBare s'.gens/\Un (frs outer) [] H H' s.heap s'.heap/\HOk P w H' s'.heap/\Fly s'.heap H' s.heap C a/\E (.ref C) none H'
section
variable {P:Program} {w:World} {K:PySem.W.Frag} {mg:Str->Option Value} {base:Heap} {N:List Str} {qual:Str} {scope:Scope} {f:Addr} {cd:Value} {A:Around} {outer:List Env} {s₀ s:Shared} {H₀ H:Hp} {E:XK} {pins:List (Addr×Obj)} {σ:St} {C a:Addr}
theorem zTq (I:Inv (sU (CXq P w) P w K mg base N qual scope f cd A outer s₀ H₀ E) pins σ H s)(fl:Fly s.heap H s₀.heap C a)(hE:E (.ref C) none H) :
   (sU (CXq P w) P w K mg base N qual scope f cd A outer s₀ H₀ E).xe (.ref a) s:=by
 obtain⟨vs,v,ho,hv,hh,hT⟩:=fl.ob
 have hfr:=I.ok.frames
 have hst:=I.stack
 have hfree:=I.stkFree
 show wpAny (model P w) (A.deeper (envOfC qual scope s₀.heap.objs.size f cd)) (leaving (envOfC qual scope s₀.heap.objs.size f cd) (.ref a)) _ _ s
 refine cX (base:=base) hfr hst rfl ho hv hh fun h' fw=>?_
 have old:∀b o,s₀.heap.get? b=some o->b≠a/\some (Value.ref b)≠vs[1]?/\b≠s₀.heap.objs.size:=fun b o q=>by
   refine⟨fun z=>?_,fun z=>?_,fun z=>Wf _ (z ▸ Qu q)⟩
   · rw[z,fl.new] at q;cases q
   · rw[hv] at z
     have:=(hT b (Qv z).symm).2
     rw[this] at q;cases q
 have inF:∀b,b∈frs (envOfC qual scope s₀.heap.objs.size f cd::outer)↔b=s₀.heap.objs.size∨b∈frs outer:=fun b=>by
   show b∈List.filterMap (·.frame) (_::outer)↔_
   rw[Ra]
   show b∈s₀.heap.objs.size::frs outer↔_
   exact Qh
 have U:=I.base
 refine⟨C,a,H,rfl,I.os,I.bare,⟨fun b o q n hb hx=>?_,fun b o q n hb hx=>?_,fun b o q n hx=>U.free b o q n hx,fun b o q hx=>?_,U.tups,U.frzs,U.tbls⟩,fun b o q=>?_,⟨⟨_,_,fw.obj,by rw[Td (Ee.mp hv).1],.inr ?_,fun T z=>?_⟩,fl.free,fl.new⟩,hE⟩
 · obtain⟨n1,n2,n3⟩:=old b o q
   exact fw.keep b o (U.keep b o q n hb hx) n1 (fun z=>((inF b).mp z).elim n3 hb) n2
 · obtain⟨n1,n2,n3⟩:=old b o q
   obtain⟨z,q1⟩:=U.slot b o q n hb hx
   obtain⟨z',q2⟩:=fw.slot b _ q1 n1 ((inF b).mpr (.inr hb)) n2
   exact⟨z',q2⟩
 · obtain⟨n1,n2,n3⟩:=old b o q
   obtain⟨o1,q1⟩:=U.there b o q hx
   by_cases hb:b∈frs (envOfC qual scope s₀.heap.objs.size f cd::outer)
   · obtain⟨z,q2⟩:=fw.slot b o1 q1 n1 hb n2
     exact⟨_,q2⟩
   · exact⟨o1,fw.keep b o1 q1 n1 hb n2⟩
 · refine(I.hok b o q).stay (fun b' u hb' q'=>?_) (fun _ z=>z) (fun _ _ z=>z)
   have tr:H b'≠none:=by
     rcases hb' with z | z
     · rw[z,q];exact fun y=>nomatch y
     · rw[z];exact fun y=>nomatch y
   refine fw.keep b' u q' (fun z=>tr (by rw[z];exact fl.free)) (fun z=>tr (hfree b' z)) fun z=>?_
   rw[hv] at z
   exact tr (hT b' (Qv z).symm).1
 · obtain⟨oT,ts,h1,h2,h3⟩:=fw.head
   exact⟨_,oT,ts,rfl,fw.ne,h1,h2,h3⟩
 · cases z
   refine⟨I.fresh,?_⟩
   cases y:s₀.heap.get? s.heap.objs.size with
   | none=>rfl
   | some o=>exact absurd (Qu y) (Th.mpr I.sz)
end
def gX (X:Cx)(E:XK):Prop:=∀(pins:List (Addr×Obj)) (σ:St) (H:Hp) (s:Shared) (C a:Addr),Inv X pins σ H s->Fly s.heap H X.s₀.heap C a->E (.ref C) none H->X.xe (.ref a) s
section
variable {X:Cx} {E:XK} {C:Addr} {c:Str} {p cpos pos:Pos} {e:Expr} {es:List Expr} {t:TA}
theorem zW2 (M:zZk X.K C){pins:List (Addr×Obj)}{σ:St}{H:Hp}{s:Shared}{us:List Value}{Q:Value->Shared->Prop}(I:Inv X pins σ H s)(hl:us.length<=1000)
   (h:∀h' a t,Inv X pins σ H { s with heap:=h' }->s.heap.get? a=none->h'.get? a=some { cls:=.ref C,data:=.fields #[.ref t,.none,.none,.none,.bool false,.none] }->Q (.ref a) { s with heap:=h' }) :
   wpAny (model X.prog X.w) X.A (call (.ref C) us) Q X.xe s:=by
 obtain⟨bm,N,nm,qn,bs,hdct,sn,sub,ab,col,dd,k0,k1,k2,k3,k5,hk,x1,x2,x3⟩:=M
 have hsl:1001<=sizeLine:=Wp (wS (by decide))
 obtain⟨hp,g,d,tk,os⟩:=s
 refine wpAny_call_exc_subU (Bn:="ValueError") F.excBase_ValueError (by decide) F.excBase_ValueError (PySem.W.tail_of_in I.kIn x3) (I.kIn _ _ hk) (.of_isNs (PySem.W.isNs_of_in I.kIn x1)) (PySem.W.nsMap_none_of_in I.kIn x1 x2) (fun h' a m=>?_) (by omega)
 obtain⟨t,et,_,_⟩:=m.there
 exact h h' a t (I.kept (t':=tk) m.keeps) m.new et
def zU5 (C:Addr)(E:XK)(t:TA):TS:=fun _ σ H=>t σ H fun vs H1=>vs.length<=1000/\E (.ref C) none H1
theorem zXb (M:zZk X.K C)(hx:X.ex=[])(hm:X.mg c=some (.ref C))(kp:PySem.W.keepIn X.K (.ref C)=true)(hg:Gl X c)(hc:X.calm=true)(th:gX X E)(ha:PA X (e::es) t)(hdb:(c==("__debug__":Str))=false:=by decide)
   (he:starEach (e::es) X.env=(false,eval e X.env)::starEach es X.env:=by rfl) (hpl:(backTo cpos (starEach es X.env)).any (·.1)=false:=by rfl):PS X (.Raise (some (.Call (.Name c p) (e::es) [] cpos)) none pos) (zU5 C E t):=by
 intro pins s σ H D I h
 obtain⟨bm,N,nm,qn,bs,hdct,sn,sub,ab,col,dd,k0,k1,k2,k3,k5,hk,x1,x2,x3⟩:=id M
 rw[arm_exec_Raise]
 refine Qw (Rc (wpAny_raiseStmt_made_sub (C:=C) (nm:=nm) (q:=qn) (N:=N) (bs:=bs) (bm:=bm) (hdct:=hdct) (sn:=sn) (sub:=sub) (ab:=ab) (col:=col) (dd:=dd) (k0:=k0) (k1:=k1) (k2:=k2) (k3:=k3) (k5:=k5) (newId:="ValueError.__new__") ((PySem.W.tail_of_in I.kIn x3).hasType (by decide)) (I.ok.hd hc) ?_))
 refine Qw (thn ?_ fun v s1 q=>Qw (Rc (Qi q)))
 refine Ey (rB I hg hm ?_ hdb)
 refine Rq (h₀:=X.base) I.ok.mod.kin kp (thn (ha cpos pins s σ H _ I h) fun us s1 ⟨vs,H1,I1,r,q1,q2⟩=>⟨I1.kIn,?_⟩) he hpl
 refine zW2 M I1 (by rw[List.nil_append,←r.length];exact q1) fun h' a t I2 new ob=>⟨a,t,rfl,I2.kIn _ _ hk,ob,th pins σ H1 _ C a I2 ⟨⟨_,_,ob,rfl,.inl rfl,fun T z=>nomatch z⟩,?_,?_⟩ q2⟩
 · cases z:H1 a with
   | none=>rfl
   | some o=>obtain⟨u,y⟩:=(I1.hok a o z).got;rw[new] at y;cases y
 · cases z:X.s₀.heap.get? a with
   | none=>rfl
   | some o =>
     obtain⟨u,y⟩:=I1.base.there a o z (by rw[hx];simp)
     rw[new] at y;cases y
end
theorem lN {α:Type}(p:α->Bool):∀(l:List α) (i:Nat),(∀x,l[i]?=some x->p x=false)->(l.eraseIdx i).find? p=l.find? p
 | [],_,_=>rfl
 | x::r,0,h=>by
   have q:=h x rfl
   rw[List.eraseIdx_cons_zero,Wd,q]
 | x::r,i+1,h=>by
   rw[Ry,Wd,Wd,lN p r i fun y e=>h y (by simpa using e)]
theorem zXY {k:Value}{x y:Str}(h:k.isStr x=true)(ne:y≠x):k.isStr y=false:=by
 cases k<;>simp_all [Value.isStr]
 rename_i z t
 intro q
 exact ne q.symm
section
variable {M:Model} {A:Around} {E:Value->Shared->Prop} {s:Shared}
theorem zU1 {a:Addr}{m:Str->Option Value}{n:Str}{Q:Bool->Shared->Prop}(hn:s.heap.Ns a m)
   (hQ:∀h' m',h'.Ns a m'->(∀x,x≠n->m' x=m x)->Heap.SameBut a s.heap h'->Q (m n).isSome { s with heap:=h' }):wpAny M A (nsDel a n) Q E s:=by
 obtain⟨⟨c,d,dt,sl⟩,es,ep,ho,hd,hk,hm⟩:=id hn
 dsimp only at hd
 subst hd
 have noref:es.any (·.refKey)=false:=Array.any_eq_false'.mpr fun e he=>by
   obtain⟨w,t,q⟩:=hk e he
   simp[DictEntry.refKey,q]
 have hh:nsHas n ⟨c,d,.dict es ep,sl⟩=pure (es.any (·.key.isStr n)):=by
   rw[nsHas_eq]
   unfold nsHasByArray
   show(if (es.any fun x=>x.key.isStr n)=true then _ else _)=_
   cases es.any fun x=>x.key.isStr n<;>simp[noref]
 have hs:(m n).isSome=es.any (·.key.isStr n):=by
   rw[←hm n]
   unfold nsFind findBy
   rw[Yu,Rs,Array.find?_isSome,Array.any_eq_true']
 unfold nsDel
 refine Qw (Ut ho ?_)
 rw[hh]
 refine Qw (Qi ?_)
 rw[←hs]
 cases hb:(m n).isSome with
 | false =>
   have:=hQ s.heap m hn (fun _ _=>rfl) (.refl ..)
   rw[hb] at this
   exact Qi this
 | true =>
   refine Qw (wpAny_updatePart ho (Qi ?_))
   rw[hb] at hs
   obtain⟨k,hk1,hk2⟩:=Array.any_eq_true'.mp hs.symm
   cases hi:es.findIdx? (·.key.isStr n) with
   | none =>
     have:=Array.findIdx?_eq_none_iff.mp hi k hk1
     rw[this] at hk2;cases hk2
   | some i =>
     have hd':Obj.dropName n ⟨c,d,.dict es ep,sl⟩=⟨c,d,.dict (es.eraseIdxIfInBounds i) (ep+1),sl⟩:=by
       rw[Obj.dropName_eq];unfold Obj.dropNameByArray;dsimp only;rw[hi]
     have hg:=Wc (Obj.dropName n) ho (by rw[hd'];rfl)
     rw[hd'] at hg
     have:=hQ _ (nsFind (es.eraseIdxIfInBounds i)) ⟨_,_,_,hg,rfl,hk.erase i,fun _=>rfl⟩ (fun x ne=>?_) (Tn ..)
     · rw[hb] at this;exact this
     · rw[←hm x]
       unfold nsFind findBy
       congr 1
       have hi2:=Array.findIdx?_eq_some_iff_getElem.mp hi
       obtain⟨hlt,hp,_⟩:=hi2
       rw[←Yw,←Yw,show(es.eraseIdxIfInBounds i).toList=es.toList.eraseIdx i by simp[Array.eraseIdxIfInBounds,hlt]]
       refine lN _ _ _ fun y e=>zXY (x:=n) ?_ ne
       rw[Qm (by simpa using hlt)] at e
       cases e
       simpa using hp
variable {X:Cx} {pins:List (Addr×Obj)} {σ:St} {H:Hp}
theorem Inv.gone {i:Nat}{n:Str}{h':Heap}{m m':Str->Option Value}{t':Nat}(I:Inv X pins σ H s)(hN:X.N.Nodup)(hi:X.N[i]?=some n)(hm:s.heap.Ns X.env.locals m)(hm':h'.Ns X.env.locals m')(e:∀x,x≠n->m' x=m x)(sb:Heap.SameBut X.env.locals s.heap h') :
   Inv X pins (σ.set i none) H { s with heap:=h',toks:=t' }:=by
 have keep:∀b o,b≠X.env.locals->s.heap.get? b=some o->h'.get? b=some o:=fun b o ne q=>sb.extBut _ _ ne q
 have neL:∀b o,X.s₀.heap.get? b=some o->b≠X.env.locals:=fun b o q=>Qb (Qx (Qu q) I.ok.above)
 obtain⟨m0,hn0,hl⟩:=I.loc
 have em:∀x,m0 x=m x:=fun x=>by
   obtain⟨o,es,ep,q1,q2,_,q3⟩:=hn0
   obtain⟨o',es',ep',r1,r2,_,r3⟩:=hm
   rw[q1] at r1;cases r1
   rw[q2] at r2;cases r2
   rw[←q3,←r3]
 refine⟨I.ok,I.os,I.bare,⟨fun b o q n hb hx=>keep b o (neL b o q) (I.base.keep b o q n hb hx),fun b o q n hb hx=>?_,I.base.free,fun b o q hx=>?_,I.base.tups,I.base.frzs,I.base.tbls⟩,⟨m',hm',fun j x v hj hσ hv=>?_⟩,fun x c q=>?_,I.free,I.freeC,fun p hp=>?_,fun b o q=>?_,?_⟩
 · obtain⟨z,y⟩:=I.base.slot b o q n hb hx
   exact⟨z,keep b _ (neL b o q) y⟩
 · obtain⟨z,y⟩:=I.base.there b o q hx
   exact⟨z,keep b _ (neL b o q) y⟩
 · have ji:j≠i:=fun z=>by
     subst z
     by_cases hl':j < σ.length
     · rw[Wa hl'] at hσ;cases hσ
     · rw[Tg (by rw[Rr];omega)] at hσ;cases hσ
   rw[Qk (Ne.symm ji)] at hσ
   obtain⟨u,r,lk⟩:=hl j x v hj hσ hv
   have xn:x≠n:=fun z=>ji (by
     subst z
     exact(List.getElem?_inj (Qf.mp hj).1 hN).mp (hj.trans hi.symm))
   refine⟨u,r,?_⟩
   rcases lk with⟨k1,k2⟩ | ⟨k1,c,k2,ob,k3,k4⟩
   · exact .inl ⟨k1,by rw[e x xn,←em];exact k2⟩
   · exact .inr ⟨k1,c,k2,ob,keep c ob (I.cne x c k2) k3,k4⟩
 · obtain⟨v,ob,k1,k2⟩:=I.cell x c q
   exact⟨v,ob,keep c ob (I.cne x c q) k1,k2⟩
 · obtain⟨p1,p2,p3,p4⟩:=I.pin p hp
   exact⟨keep _ _ p3 p1,p2,p3,p4⟩
 · refine(I.hok b o q).stay (fun b' u hb' q'=>keep b' u (fun z=>?_) q') (fun _ z=>z) (fun _ _ z=>z)
   have fr:=I.free
   rcases hb' with y | y
   · rw[←z,y,q] at fr;cases fr
   · rw[←z,y] at fr;cases fr
 · rw[Rr];exact I.len
theorem zZp {M:Model}{A:Around}{E:Value->Shared->Prop}{i:Nat}{n:Str}{pos:Pos}{Q:Unit->Shared->Prop}(I:Inv X pins σ H s)(hN:X.N.Nodup)(hi:X.N[i]?=some n)(hk:X.env.kindOf n=some .local)(hx:Loc X.env.scope n)
   (h:∀s',Inv X pins (σ.set i none) H s'->Q () s') (hf:X.fn n=true∨X.env.scope.names.lookup n=some .local):wpAny M A (do bindName X.env n .none;unbindBehindTheSuite X.env n pos) Q E s:=by
 refine Qw (wpAny_bindName (nH (v:=.non) I hN hi hx rfl (fun s1 I1 _=>?_) hf))
 have hp:(X.env.scope.kind == .class||(X.env.scope.kind == .module&&X.env.locals != X.env.globals))=false:=by rw[I.ok.kind];rfl
 obtain⟨m1,hn1,hl1⟩:=I1.loc
 unfold unbindBehindTheSuite
 refine wpAny_onRaise ?_
 unfold unbindName
 refine Qw (wpAny_point (Qw ?_))
 unfold deleteName
 simp only[hk,hp]
 rw[Qg (by decide)]
 have hii:i < σ.length:=by rw[I.len];exact(Qf.mp hi).1
 obtain⟨u,_,lk⟩:=hl1 i n .non hi (Wa hii) (.inl (show X.env.scope.names.lookup n=some .local from hk))
 have hs:(m1 n).isSome=true:=by
   rcases lk with⟨_,k2⟩ | ⟨k1,_⟩
   · rw[k2];rfl
   · rw[hk] at k1;rcases k1 with z | z<;>cases z
 refine Qw (zU1 hn1 fun h2 m2 q1 q2 q3=>?_)
 rw[hs]
 rw[Qg (by decide)]
 refine Qi (wpAny_point ?_)
 have J:=I1.gone (t':=s1.toks) hN hi hn1 q1 q2 q3
 rw[List.set_set] at J
 exact h _ J
theorem Inv.caught {H2 H':Hp}{s2 s':Shared}{g:Heap}{C a:Addr}{t':Nat}(I2:Inv X pins σ H2 s2)(os:s'.os=s2.os)(bare:AllBare s'.gens)(un:Un (frs X.stack) [] H2 H' s2.heap s'.heap)(hok:HOk X.prog X.w H' s'.heap)(fa:H' a=none)(na:s2.heap.get? a=none)
   (k1:∀b o,s'.heap.get? b=some o->(H' b≠none∨∃o',s2.heap.get? b=some o')->b∉frs X.stack->g.get? b=some o) (k2:∀b o,s'.heap.get? b=some o->(∃o',s2.heap.get? b=some o')->b∈frs X.stack->∃z,g.get? b=some { o with slots:=z })
   (oa:∃fs,g.get? a=some { cls:=.ref C,dict:=none,data:=.fields fs }):Inv X pins σ (upd H' a (.ext (Xe C a none))) { s' with heap:=g,toks:=t' }:=by
 have I':Inv X pins σ H' s':=I2.call' (ch:=[]) os un hok bare (fun b z=>nomatch z)
 have nea:∀b o,s2.heap.get? b=some o->b≠a:=fun b o q z=>by rw[z,na] at q;cases q
 refine I2.call' (s':={ s' with heap:=g,toks:=t' }) (ch:=[]) os ⟨fun b o q n hb hx=>k1 b o (un.keep b o q n hb hx) (.inr ⟨o,q⟩) hb,fun b o q n hb hx=>?_,fun b o q n hx=>?_,fun b o q hx=>?_,fun b xs q=>?_,fun b o u q=>?_,fun b ps q=>?_⟩ (fun b o q=>?_) bare (fun b z=>nomatch z)
 · obtain⟨z,y⟩:=un.slot b o q n hb hx
   obtain⟨z',y'⟩:=k2 b _ y ⟨o,q⟩ hb
   exact⟨z',y'⟩
 · rw[zO (nea b o q)];exact un.free b o q n hx
 · obtain⟨o1,y⟩:=un.there b o q hx
   by_cases hb:b∈frs X.stack
   · obtain⟨z,y'⟩:=k2 b o1 y ⟨o,q⟩ hb
     exact⟨_,y'⟩
   · exact⟨o1,k1 b o1 y (.inr ⟨o,q⟩) hb⟩
 · have y:=un.tups b xs q
   rw[zO (zB y fa)];exact y
 · have y:=un.frzs b o u q
   rw[zO (zB y fa)];exact y
 · obtain⟨more,y⟩:=un.tbls b ps q
   exact⟨more,by rw[zO (zB y fa)];exact y⟩
 · by_cases hb:b=a
   · subst hb
     rw[zN] at q
     cases q
     exact⟨oa,(let ⟨_,e⟩:=oa;⟨_,e⟩),fun h1 h2 ⟨fs,e⟩ k=>⟨fs,k _ e⟩⟩
   · rw[zO hb] at q
     have fr:=I'.stkFree
     refine(hok b o q).stay (fun b' u hb' q'=>?_) (fun b' z=>by rw[zO (zB z fa)];exact z) (fun b' xs z=>by rw[zO (zB z fa)];exact z)
     have tr:H' b'≠none:=by
       rcases hb' with z | z
       · rw[z,q];exact fun y=>nomatch y
       · rw[z];exact fun y=>nomatch y
     exact k1 b' u q' (.inl tr) fun z=>tr (fr b' z)
end
abbrev Cx.marked (X:Cx)(a:Addr)(R:Value->Shared->Prop):Cx:={ X with A:=X.A.mark (some (.ref a)),calm:=false,xe:=R }
theorem Cx.Ok.marked {X:Cx}(ok:X.Ok)(a:Addr)(R:Value->Shared->Prop):(X.marked a R).Ok :=
 ⟨ok.mod,ok.kind,ok.glob,ok.blt,ok.above,ok.inj,ok.has,ok.cab,(fun z=>by cases z),ok.frames,ok.stk,ok.exf,ok.bs,ok.bsz,ok.noex,ok.exfs,ok.funs,ok.frf⟩
theorem Inv.marked {X:Cx}{pins:List (Addr×Obj)}{σ:St}{H:Hp}{s:Shared}(I:Inv X pins σ H s)(a:Addr)(R:Value->Shared->Prop):Inv (X.marked a R) pins σ H s:=⟨I.ok.marked a R,I.os,I.bare,I.base,I.loc,I.cell,I.free,I.freeC,I.pin,I.hok,I.len⟩
theorem Inv.unmarked {X:Cx}{pins:List (Addr×Obj)}{σ:St}{H:Hp}{s:Shared}{a:Addr}{R:Value->Shared->Prop}(ok:X.Ok)(I:Inv (X.marked a R) pins σ H s):Inv X pins σ H s:=⟨ok,I.os,I.bare,I.base,I.loc,I.cell,I.free,I.freeC,I.pin,I.hok,I.len⟩
section
variable {X:Cx} {pins:List (Addr×Obj)} {σ:St}
theorem zXc {H2 H':Hp}{s2 s':Shared}{C a Y:Addr}{D:Ends}{i:Nat}{n y:Str}{yp hp:Pos}{b₀:Stmt}{suite:List Stmt}{t:TS}(I2:Inv X pins σ H2 s2)(os:s'.os=s2.os)(bare:AllBare s'.gens)(un:Un (frs X.stack) [] H2 H' s2.heap s'.heap)(hok:HOk X.prog X.w H' s'.heap)
   (fl:Fly s'.heap H' s2.heap C a) (hst:X.stack=X.env::X.outer) (hef:X.env.frame=some X.env.locals) (hg:Gl X y) (hm:X.mg y=some (.ref Y)) (hdb:(y==("__debug__":Str))=false) (hx:PySem.W.exmOne X.K (.ref C) (.ref Y)=some true)
   (hN:X.N.Nodup) (hi:X.N[i]?=some n) (hk:X.env.kindOf n=some .local) (hl:Loc X.env.scope n) (hf:X.fn n=true∨X.env.scope.names.lookup n=some .local)
   (hs:PSs (X.marked a fun _ _=>False) (b₀::suite) t) (ht:t { nx:=fun σ' H''=>D.nx (σ'.set i none) H'',rt:=fun _ _=>False } (σ.set i (some (.ref a))) (upd H' a (.ext (Xe C a none)))) :
   wpAny (model X.prog X.w) X.A (noteFrame (.ref a) X.env) (fun _ s3=>wpAny (model X.prog X.w) X.A (setFlight (.ref a) none) (fun _ s4=>wpAny (model X.prog X.w) X.A (handleBy (.ref a) X.env [.ExceptHandler (some (.Name y yp)) (some n) (b₀::suite) hp]) (SP X pins D) X.xe s4) X.xe s3) X.xe s':=by
 have I':Inv X pins σ H' s':=I2.call' (ch:=[]) os un hok bare (fun b z=>nomatch z)
 obtain⟨vs,v,ho,hv,hh,hT⟩:=fl.ob
 have hfr:X.A.frames=some (X.env::X.outer):=by rw[←hst];exact I2.ok.frames
 have hfun:s'.heap.FunFrames X.base (X.env::X.outer):=by rw[←hst];exact I'.stack
 refine kR (base:=X.base) hfr hfun hef ho hv hh fun h3 fw=>?_
 rw[←hst] at fw
 have old:∀b o',s2.heap.get? b=some o'->b≠a/\some (Value.ref b)≠vs[1]?:=fun b o' q=>by
   refine⟨fun z=>?_,fun z=>?_⟩
   · rw[z,fl.new] at q;cases q
   · rw[hv] at z
     have:=(hT b (Qv z).symm).2
     rw[this] at q;cases q
 have J:∀tk,Inv X pins σ (upd H' a (.ext (Xe C a none))) { s' with heap:=h3,toks:=tk }:=fun tk=>I2.caught os bare un hok fl.free fl.new (fun b o q hb hn=>by
     rcases hb with z | ⟨o',z⟩
     · refine fw.keep b o q (fun e=>z (by rw[e];exact fl.free)) hn fun e=>z ?_
       rw[hv] at e
       exact(hT b (Qv e).symm).1
     · exact fw.keep b o q (old b o' z).1 hn (old b o' z).2) (fun b o q ⟨o',z⟩ hb=>fw.slot b o q (old b o' z).1 hb (old b o' z).2) ⟨_,fw.obj⟩
 have J:=J s'.toks
 have hsz:1 < vs.size:=(Ee.mp hv).1
 obtain⟨oT,ts,hT1,hT2,hT3⟩:=fw.head
 have cls:PySem.W.Looks (model X.prog X.w) h3 (typeOf (.ref a)) (.ref C):=(PySem.W.Looks.ld fw.obj).andThen .now
 refine wpAny_handleBy_cons (codeAny_handlers_test ?_) (by intro q;cases q)
 refine rB (X:=X.marked a fun _ _=>False) (J.marked a _) hg hm ?_ hdb
 have kx:X.K.In h3:=J.kIn
 refine(PySem.W.exm_one kx cls hx) (X.A.mark (some (.ref a))) _ _ _ (fun _ _ q=>q) ?_
 show codeAny _ _ _ _ _
 refine codeAny_handlers_suite_as ?_
 refine dP fw.obj rfl (by rw[Td hsz]) hT1 hT2 hT3 fun h4 k4=>?_
 have J4:Inv X pins σ (upd H' a (.ext (Xe C a none))) { s' with heap:=h4 }:=J.kept (t':=s'.toks) k4
 refine oB J4 hN hi hl (v:=.ref a) rfl (fun s6 I6=>?_) hf
 refine Ei (hs pins s6 _ _ _ (I6.marked a _) ht) (fun f s7 h7=>?_) fun _ _ z=>z.elim
 cases f with
 | next =>
   obtain⟨σ',H'',I7,q7⟩:=h7
   exact zZp (I7.unmarked I2.ok) hN hi hk hl (fun s8 I8=>⟨_,H'',I8,q7⟩) hf
 | brk=>obtain⟨_,_,_,z⟩:=h7;exact False.elim z
 | cont=>obtain⟨_,_,_,z⟩:=h7;exact False.elim z
 | ret u=>obtain⟨_,_,_,_,_,z⟩:=h7;exact False.elim z
end
def spQ (K:PySem.W.Frag)(n:Nat)(d:List D->Option D)(x:List D->Option Str):Sp:=fun vs H Q E=>∃G ds,Same G H/\Reps K G ds vs/\ds.length=n /\
 ((∃r,d ds=some r/\∀v H' G',Step G H G' H'->Rep K G' r v->Q v H')∨∃c C,x ds=some c/\ClsAt K c C/\∀H' G',Step G H G' H'->E (.ref C) none H')
def tXS (K:PySem.W.Frag)(E:XK)(x:List B->Option Str):TS:=fun _ σ H=>∃G0 H0 G ρ c C,Good K G0 H0 G H σ ρ/\x ρ=some c/\ClsAt K c C/\∀H' G',Step G H G' H'->E (.ref C) none H'
def PXS (X:Cx)(E:XK)(st:Stmt)(x:List B->Option Str):Prop:=PS X st (tXS X.K E x)
def fS (X:Cx)(E:XK)(sts:List Stmt)(x:List B->Option Str):Prop:=PSs X sts (tXS X.K E x)
def zSS (K:PySem.W.Frag)(p:List B->Bool):TA:=fun σ H Q=>∃G0 H0 G ρ,Good K G0 H0 G H σ ρ/\p ρ=true/\∀vs H' G',Step G H G' H'->vs.length<=1000->Q vs H'
def zWQ (X:Cx)(es:List Expr)(p:List B->Bool):Prop:=PA X es (zSS X.K p)
section
variable {X:Cx} {E:XK} {a e:Expr} {es:List Expr} {tt:Tf} {x xa xb:List B->Option Str} {pos p cpos:Pos} {st:Stmt} {sts rest:List Stmt}
theorem zYq {C:Addr}{c:Str}{q:List B->Bool}(hC:ClsAt X.K c C)(M:zZk X.K C)(hx:X.ex=[])(hm:X.mg c=some (.ref C))(kp:PySem.W.keepIn X.K (.ref C)=true)(hg:Gl X c)(hc:X.calm=true)(th:gX X E)(ha:zWQ X (e::es) q)(hdb:(c==("__debug__":Str))=false:=by decide)
   (he:starEach (e::es) X.env=(false,eval e X.env)::starEach es X.env:=by rfl) (hpl:(backTo cpos (starEach es X.env)).any (·.1)=false:=by rfl):PXS X E (.Raise (some (.Call (.Name c p) (e::es) [] cpos)) none pos) (fun ρ=>if q ρ then some c else none):=by
 intro pins s σ H D I h
 obtain⟨G0,H0,G,ρ,c',C',good,hq,hC',k⟩:=h
 dsimp only at hq
 split at hq
 · rename_i hq'
   cases hq
   have ec:=hC.one hC'
   subst ec
   exact zXb M hx hm kp hg hc th ha hdb he hpl pins s σ H D I ⟨G0,H0,G,ρ,good,hq',fun vs H' G' st hl=>⟨hl,k H' G' st⟩⟩
 · cases hq
theorem zTs (ht:PFT X a tt)(h1:fS X E sts xa)(h2:fS X E rest xb):PXS X E (.If a sts rest pos) (fun ρ=>(tt ρ).bind fun c=>if c=true then xa ρ else xb ρ):=by
 intro pins s σ H D I h
 obtain⟨G0,H0,G,ρ,c,C,good,hq,hC,k⟩:=h
 obtain⟨v,hv,hq⟩:=Qq.mp hq
 refine zYB ht h1 h2 pins s σ H D I ⟨G0,H0,G,ρ,v,good,hv,fun H1 G1 st=>?_⟩
 cases v with
 | true =>
   rw[Qo rfl] at hq
   exact⟨G0,H0,G1,ρ,c,C,good.step st,hq,hC,fun H' G' st'=>k H' G' (st.trans st')⟩
 | false =>
   rw[Qg (by decide)] at hq
   exact⟨G0,H0,G1,ρ,c,C,good.step st,hq,hC,fun H' G' st'=>k H' G' (st.trans st')⟩
theorem zUX:fS X E [] (fun _=>none):=fun pins s σ H D I h=>by
 obtain⟨_,_,_,_,_,_,_,z,_⟩:=h;cases z
theorem zZ5 (h:PXS X E st x):fS X E (st::rest) x:=by
 intro pins s σ H D I q
 refine rM (u:=fun _ _ _=>False) h (fun pins s σ H D I z=>z.elim) pins s σ H D I ?_
 exact q
end
section
variable {P:Program} {w:World} {K:PySem.W.Frag} {mg:Str->Option Value} {base:Heap} {x qual:Str} {st:Stmt} {f:Addr} {fd:FuncData} {N ps:List Str} {k:Nat}
theorem zUZ {body:Sf}{xb:List B->Option Str}(F:Fun K x qual st f fd)(S:FnScope N ps (zX st))
   (hb:∀(cdv:Value) (A:Around) (outer:List Env) (s:Shared) (H:Hp) (E:XK),Room k (A.deeper (envOfC qual (zX st) s.heap.objs.size f cdv))->PFSs (sU (CXq P w) P w K mg base N qual (zX st) f cdv A outer s H E) (zQ st) body)
   (hx:∀(cdv:Value) (A:Around) (outer:List Env) (s:Shared) (H:Hp) (E:XK),Room k (A.deeper (envOfC qual (zX st) s.heap.objs.size f cdv))->fS (sU (CXq P w) P w K mg base N qual (zX st) f cdv A outer s H E) E (zQ st) xb) :
   FnOk P w K mg base (CXq P w) (k+1) f fd ps (spQ K ps.length (fnF N.length body) (fun ds=>xb (nN N.length ds))):=by
 obtain⟨oc,od,kV,doc,pm,an,cdv,ct,osl,rfl,lk,hcd⟩:=F.ex
 refine zV8 lk hcd S (fun vs H Q E h=>?_) fun A outer s H vs Q E hr h=>?_
 · obtain⟨G,ds,sub,rs,hl,_⟩:=h
   rw[←rs.length];exact hl
 · obtain⟨G,ds,sub,rs,hl,h | ⟨c,C,hc,hC,k⟩⟩:=h
   · obtain⟨d,hf,k⟩:=h
     refine⟨_,hb cdv A outer s H E hr,?_⟩
     unfold fnF at hf
     obtain⟨o,h1,h2⟩:=Qq.mp hf
     refine⟨G,H,G,_,o,pI sub rs,h1,?_⟩
     cases o with
     | nx ρ=>cases h2;exact fun σ' H' G' s' g'=>k .non H' G' g'.st (uR.mpr rfl)
     | rt e=>cases h2;exact fun v H' G' s' r=>k v H' G' s' r
     | rl es=>cases h2;exact fun p us H' G' s' hn hp gp r=>k _ H' (upd G' p (.lst us)) (s'.frz hn hp gp) (yW.mpr ⟨p,us,rfl,.of zN,r.mono (Same.new gp)⟩)
     | bk ρ=>cases h2
     | ct ρ=>cases h2
   · exact⟨_,hx cdv A outer s H E hr,⟨G,H,G,_,c,C,pI sub rs,hc,hC,k⟩⟩
end
theorem zX9 {M:Model}{A:Around}{st:Stmt}{env:Env}{Q:Flow->Shared->Prop}{R:Value->Shared->Prop}{s:Shared}(h:wpAny M A (exec st env) (fun _ _=>False) R s):wpAny M A (execs [st] env) Q R s:=Yf (Ei h (fun _ _ z=>z.elim) fun _ _ z=>z)
def PXB (X:Cx)(st:Stmt)(xb:List B->Option Str):Prop:=∀(pins:List (Addr×Obj)) (s:Shared) (σ:St) (H:Hp) (R:Value->Shared->Prop) (G0 H0 G:Hp) (ρ:List B) (c:Str) (C:Addr),Inv X pins σ H s->Good X.K G0 H0 G H σ ρ->xb ρ=some c->ClsAt X.K c C ->
 (∀s2 H2 G2 e s',Inv X pins σ H2 s2->Step G H G2 H2->CXq X.prog X.w X.stack H2 s2 (fun v _ H'=>v = .ref C/\∃G',Step G2 H2 G' H') e s'->R e s')->wpAny (model X.prog X.w) X.A (exec st X.env) (fun _ _=>False) R s
section
variable {X:Cx} {a e:Expr} {es:List Expr} {xb:List B->Option Str} {pos:Pos} {st st':Stmt}
theorem Good.setNo {K:PySem.W.Frag}{G0 H0 G H:Hp}{σ:St}{ρ:List B}(g:Good K G0 H0 G H σ ρ)(i:Nat):Good K G0 H0 G H (σ.set i none) (ρ.set i .no):=by
 refine⟨g.st,Paired.set .no i g.vals,fun j k a ds es h1 h2 h3 h4=>?_⟩
 have nj:j≠i:=fun z=>by
   subst z
   by_cases hl:j < ρ.length
   · rw[Wa hl] at h1;cases h1
   · rw[Tg (by rw[Rr];omega)] at h1;cases h1
 have nk:k≠i:=fun z=>by
   subst z
   by_cases hl:k < ρ.length
   · rw[Wa hl] at h2;cases h2
   · rw[Tg (by rw[Rr];omega)] at h2;cases h2
 rw[Qk (Ne.symm nj)] at h1 h3
 rw[Qk (Ne.symm nk)] at h2 h4
 exact g.apart j k a ds es h1 h2 h3 h4
def zXr (cs:List Str)(xb:List B->Option Str)(i:Nat)(f:Sf):Sf:=fun ρ=>(xb ρ).bind fun c=>if cs.contains c then(f (ρ.set i (.fz (.exc c [] [])))).bind fun o=>match o with | .nx ρ'=>some (.nx (ρ'.set i .no)) | _=>none else none
theorem zWN {cs:List Str}{Y:Addr}{i:Nat}{n y:Str}{yp hp:Pos}{b₀:Stmt}{suite:List Stmt}{f:Sf}(hb:PXB X st xb)(hcs:∀c C,cs.contains c=true->ClsAt X.K c C->PySem.W.exmOne X.K (.ref C) (.ref Y)=some true)
   (hst:X.stack=X.env::X.outer) (hef:X.env.frame=some X.env.locals) (hg:Gl X y) (hm:X.mg y=some (.ref Y)) (hC:∀c,cs.contains c=true->∃C,ClsAt X.K c C) (hN:X.N.Nodup) (hh:∀a,PFSs (X.marked a fun _ _=>False) (b₀::suite) f)
   (hi:X.N[i]?=some n:=by rfl) (hk:X.env.kindOf n=some .local:=by rfl) (hl:Loc X.env.scope n:=by first | exact .inl rfl | exact .inr rfl) (hf:X.fn n=true∨X.env.scope.names.lookup n=some .local:=by first | exact .inl rfl | exact .inr rfl) (hdb:(y==("__debug__":Str))=false:=by decide) :
   PFS X (.Try [st] [.ExceptHandler (some (.Name y yp)) (some n) (b₀::suite) hp] [] [] pos) (zXr cs xb i f):=by
 intro pins s σ H D I q
 obtain⟨G0,H0,G,ρ,o,good,hq,k⟩:=q
 unfold zXr at hq
 obtain⟨c,hc,hq⟩:=Qq.mp hq
 split at hq
 · rename_i hcc
   obtain⟨C,hCC⟩:=hC c hcc
   obtain⟨o1,ho1,hq⟩:=Qq.mp hq
   split at hq
   · rename_i ρ'
     cases hq
     refine wpAny_Try_except (zX9 (hb pins s σ H _ G0 H0 G ρ c C I good hc hCC fun s2 H2 G2 e s' I2 st2 hx=>?_))
     obtain⟨C',a,H',rfl,os,bare,un,hok,fl,eC,G',st'⟩:=hx
     cases eC
     have g1:Good X.K G0 H0 G' H' σ ρ:=(good.step st2).step st'
     have g2:=g1.step (Step.laid (o:=.ext (Xe C a none)) st'.sub fl.free)
     have rp:Rep X.K (upd G' a (.ext (Xe C a none))) (.exc c [] []) (.ref a):=gR.mpr ⟨C,a,none,[],hCC,rfl,zN,rfl,rfl,zM.mpr rfl⟩
     refine zXc I2 os bare un hok fl hst hef hg hm hdb (hcs c C hcc hCC) hN hi hk hl hf (hh a) ⟨G0,H0,_,_,.nx ρ',g2.setF i rp,ho1,fun σ' H'' G'' sg g3=>?_⟩
     exact k _ H'' G'' (((st2.gg.trans st'.gg).trans (Same.new (st'.sub.free fl.free))).trans sg) (g3.setNo i)
   · cases hq
 · cases hq
end
section
variable {X:Cx} {pos:Pos} {k:Nat}
theorem zY7 {y:Str}{j:Nat}(hs:starEach [Expr.Constant (.str y) j pos] X.env=[(false,eval (.Constant (.str y) j pos) X.env)]:=by rfl):zWQ X [.Constant (.str y) j pos] (fun _=>true):=by
 intro pos' pins s σ H Q I h'
 obtain⟨G0,H0,G,ρ,good,hp,k⟩:=h'
 exact xF zY2 uJ (by rw[hs];rfl) pos' pins s σ H Q I (k [.str y] H G (.refl good.sub) (Nat.le_of_ble_eq_true rfl))
end
def zTM:List B->Bool:=fun _=>true
def zYd (c:Str)(q:List B->Bool):List B->Option Str:=fun ρ=>if q ρ then some c else none
def xIf (tt:Tf)(xa xb:List B->Option Str):List B->Option Str:=fun ρ=>(tt ρ).bind fun c=>if c=true then xa ρ else xb ρ
def zTt:List B->Option Str:=fun _=>none
def fnX (n:Nat)(xb:List B->Option Str):List D->Option Str:=fun ds=>xb (nN n ds)
section
variable {X:Cx} {q:List B->Bool} {pos:Pos}
theorem zTT {y:Str}{j:Nat}(hs:starEach [Expr.Constant (.str y) j pos] X.env=[(false,eval (.Constant (.str y) j pos) X.env)]:=by rfl):zWQ X [.Constant (.str y) j pos] zTM:=zY7 hs
theorem vH {sts:List Stmt}:PFSs X sts (fun _=>none):=by
 intro pins s σ H D I q
 obtain⟨G0,H0,G,ρ,o,good,hf,k⟩:=q
 cases hf
variable {P:Program} {w:World} {K:PySem.W.Frag} {mg:Str->Option Value} {base:Heap} {N:List Str} {qual:Str} {scope:Scope} {f:Addr} {cd:Value} {A:Around} {outer:List Env} {s₀:Shared} {H₀:Hp} {E:XK}
theorem zWI:gX (sU (CXq P w) P w K mg base N qual scope f cd A outer s₀ H₀ E) E:=fun pins σ H s C a I fl hE=>zTq I fl hE
theorem PXB.nox {X:Cx}{st:Stmt}{xb:List B->Option Str}(h:PXB X.nox st xb):PXB X st xb:=fun pins s σ H R G0 H0 G ρ c C I good hq hC k=>h pins s σ H R G0 H0 G ρ c C (I.wish _) good hq hC fun s2 H2 G2 e s' I2 st hx=>k s2 H2 G2 e s' I2.unwish st hx
theorem zTg {X:Cx}:∀e s,¬X.nox.xe e s:=fun _ _ z=>z
variable {a e:Expr} {es:List Expr} {tt:Tf} {xa xb:List B->Option Str} {p cpos:Pos} {st:Stmt} {sts rest:List Stmt}
theorem zWS:fS X E [] zTt:=zUX
theorem zVg (ht:PFT X a tt)(h1:fS X E sts xa)(h2:fS X E rest xb):PXS X E (.If a sts rest pos) (xIf tt xa xb):=zTs ht h1 h2
theorem zZd {C:Addr}{c:Str}{q:List B->Bool}(hC:ClsAt X.K c C)(M:zZk X.K C)(hx:X.ex=[])(hm:X.mg c=some (.ref C))(kp:PySem.W.keepIn X.K (.ref C)=true)(hg:Gl X c)(hc:X.calm=true)(th:gX X E)(ha:zWQ X (e::es) q)(hdb:(c==("__debug__":Str))=false:=by decide)
   (he:starEach (e::es) X.env=(false,eval e X.env)::starEach es X.env:=by rfl) (hpl:(backTo cpos (starEach es X.env)).any (·.1)=false:=by rfl):PXS X E (.Raise (some (.Call (.Name c p) (e::es) [] cpos)) none pos) (zYd c q):=zYq hC M hx hm kp hg hc th ha hdb he hpl
def ExOk (K:PySem.W.Frag)(Y:Addr):List Str->Prop
 | []=>True
 | c::r=>(∃C,ClsAt K c C/\PySem.W.exmOne K (.ref C) (.ref Y)=some true)/\ExOk K Y r
theorem ExOk.at {K:PySem.W.Frag}{Y:Addr}:∀ {cs:List Str} {c:Str},ExOk K Y cs->cs.contains c=true->∃C,ClsAt K c C/\PySem.W.exmOne K (.ref C) (.ref Y)=some true
 | [],c,_,h=>by cases h
 | n::r,c,⟨h1,h2⟩,h=>by
   rw[List.contains_cons,Re] at h
   rcases h with h | h
   · have e:=Eg.mp h
     subst e
     exact h1
   · exact h2.at h
theorem zWP {cs:List Str}{Y:Addr}{i:Nat}{n y:Str}{yp hp:Pos}{b₀:Stmt}{suite:List Stmt}{f:Sf}(ok:ExOk X.K Y cs)(hb:PXB X.nox st xb)
   (hst:X.stack=X.env::X.outer) (hef:X.env.frame=some X.env.locals) (hg:Gl X y) (hm:X.mg y=some (.ref Y)) (hN:X.N.Nodup) (hh:∀a,PFSs (X.marked a fun _ _=>False) (b₀::suite) f)
   (hi:X.N[i]?=some n:=by rfl) (hk:X.env.kindOf n=some .local:=by rfl) (hl:Loc X.env.scope n:=by first | exact .inl rfl | exact .inr rfl) (hf:X.fn n=true∨X.env.scope.names.lookup n=some .local:=by first | exact .inl rfl | exact .inr rfl) (hdb:(y==("__debug__":Str))=false:=by decide) :
   PFS X (.Try [st] [.ExceptHandler (some (.Name y yp)) (some n) (b₀::suite) hp] [] [] pos) (zXr cs xb i f) :=
 zWN hb.nox (fun c C hc hC=>by obtain⟨C',h1,h2⟩:=ok.at hc;have e:=h1.one hC;subst e;exact h2) hst hef hg hm (fun c hc=>by obtain⟨C',h1,_⟩:=ok.at hc;exact⟨C',h1⟩) hN hh hi hk hl hf hdb
variable {x:Str} {fd:FuncData} {ps:List Str} {k:Nat}
theorem PFSs.nox {X:Cx}{sts:List Stmt}{g:Sf}(h:PFSs X.nox sts g):PFSs X sts g:=fun pins s σ H D I hw =>
 Ei (h pins s σ H D (I.wish _) hw) (fun _ _ q=>q.unwish) fun _ _ z=>False.elim z
theorem zUr {body:Sf}{xb:List B->Option Str}(F:Fun K x qual st f fd)(S:FnScope N ps (zX st))
   (hb:∀(cdv:Value) (A:Around) (outer:List Env) (s:Shared) (H:Hp) (E:XK),Room k (A.deeper (envOfC qual (zX st) s.heap.objs.size f cdv))->PFSs (sU (CXq P w) P w K mg base N qual (zX st) f cdv A outer s H E).nox (zQ st) body)
   (hx:∀(cdv:Value) (A:Around) (outer:List Env) (s:Shared) (H:Hp) (E:XK),Room k (A.deeper (envOfC qual (zX st) s.heap.objs.size f cdv))->fS (sU (CXq P w) P w K mg base N qual (zX st) f cdv A outer s H E) E (zQ st) xb) :
   FnOk P w K mg base (CXq P w) (k+1) f fd ps (spQ K ps.length (fnF N.length body) (fnX N.length xb)) :=
 zUZ F S (fun cdv A outer s H E hr=>(hb cdv A outer s H E hr).nox) hx
end
def uW:D->Nat | .obj _ _ _=>1 | .dct _ _=>2 | _=>0
def mOk (k:Nat):B->Bool | .mu d=>uW d != k | _=>true
def xL (i k:Nat)(ρ:List B):Bool:=(List.range ρ.length).all fun j=>j==i||mOk k (ρ.getD j .no)
theorem bV {i j k:Nat}{ρ:List B}{b:B}(h:xL i k ρ=true)(hj:j≠i)(e:ρ[j]?=some b):mOk k b=true:=by
 unfold xL at h
 have hl:=(Qf.mp e).1
 have:=Yl.mp h j (Tx.mpr hl)
 rw[Ev,e] at this
 simpa [hj] using this
section
variable {K:PySem.W.Frag} {G0 H0 G G' H H':Hp} {σ:St} {ρ:List B} {o o':HO} {d d':D} {a:Addr} {i:Nat}
theorem RepO.kind:∀ {d d':D},RepO K G o d->RepO K G' o d'->uW d=uW d'
 | .obj _ _ _,.obj _ _ _,_,_=>rfl
 | .dct _ _,.dct _ _,_,_=>rfl
 | .obj _ _ _,.dct _ _,⟨_,_,_,_,h,_⟩,⟨_,h',_⟩=>by rw[h] at h';cases h'
 | .dct _ _,.obj _ _ _,⟨_,h,_⟩,⟨_,_,_,_,h',_⟩=>by rw[h] at h';cases h'
theorem RepO.rep (g:G a=none):∀ {d:D},RepO K G o d->Rep K (upd G a o) d (.ref a)
 | .obj _ _ _,⟨C,dx,vs,h1,h2,h3,h4⟩=>qY.mpr ⟨C,a,dx,vs,h1,rfl,by rw[zN,h2],h3,h4.mono (Same.new g)⟩
 | .dct _ _,⟨vs,h1,h2,h3⟩=>hW.mpr ⟨a,vs,rfl,by rw[zN,h1],h2,h3.mono (Same.new g)⟩
theorem Good.mu (g:Good K G0 H0 G H σ ρ)(h:ρ[i]?=some (.mu d)):∃a o,σ[i]?=some (some (.ref a))/\H a=some o/\G a=none/\H0 a=none/\RepO K G o d:=by
 obtain⟨x,e,r⟩:=Paired.get g.vals h
 cases r with
 | mu h1 h2 h3 h4=>exact⟨_,_,e,h1,h2,h3,h4⟩
theorem nM {i j:Nat}{b:B}{ds:List D}(hb:∀ds,b ≠ .ow ds)(h:(ρ.set i b)[j]?=some (.ow ds)):j≠i/\ρ[j]?=some (.ow ds):=by
 by_cases e:j=i
 · subst e
   rw[Ri] at h
   split at h
   · split at h
     · exact absurd (Qv h) (hb ds)
     · cases h
   · rename_i z;exact absurd rfl z
 · rw[Qk (Ne.symm e)] at h
   exact⟨e,h⟩
theorem Good.setM (g:Good K G0 H0 G H σ ρ)(i:Nat)(ha:H a=some o)(ga:G a=none)(h0:H0 a=none)(r:RepO K G o d):Good K G0 H0 G H (σ.set i (some (.ref a))) (ρ.set i (.mu d)):=by
 refine⟨g.st,Paired.set (.mu ha ga h0 r) i g.vals,fun j k b d1 d2 h1 h2 h3 h4=>?_⟩
 obtain⟨n1,e1⟩:=nM (fun _ z=>by cases z) h1
 obtain⟨n2,e2⟩:=nM (fun _ z=>by cases z) h2
 rw[Qk (Ne.symm n1)] at h3
 rw[Qk (Ne.symm n2)] at h4
 exact g.apart j k b d1 d2 e1 e2 h3 h4
theorem Good.ioM (g:Good K G0 H0 G H σ ρ)(hi:ρ[i]?=some (.mu d))(ho:xL i (uW d) ρ=true)(hs:σ[i]?=some (some (.ref a)))(s:Step G (nR H a) G' H')(h':H' a=some o')(g':G' a=none)(r:RepO K G' o' d') :
   Good K G0 H0 G' H' σ (ρ.set i (.mu d')):=by
 obtain⟨a',o,e1,e2,e3,e4,e5⟩:=g.mu hi
 rw[hs] at e1;cases e1
 have up:∀b u,b≠a->H b=some u->H' b=some u:=fun b u hb q=>s.hh b u (by rw[wX hb];exact q)
 have nn:∀b u,b≠a->H b=some u->fB u=true->G' b=G b:=fun b u hb q z=>s.new b u (by rw[wX hb];exact q) z
 refine⟨⟨fun b u q=>?_,g.st.gg.trans s.gg,s.sub,fun b u q z=>?_⟩,?_,fun j k b d1 d2 h1 h2 h3 h4=>?_⟩
 · have hb:b≠a:=fun z=>by rw[z,e4] at q;cases q
   exact up b u hb (g.st.hh b u q)
 · have hb:b≠a:=fun z=>by rw[z,e4] at q;cases q
   exact(nn b u hb (g.st.hh b u q) z).trans (g.st.new b u q z)
 · refine Paired.upd i g.vals (fun j x b hj q1 q2 q=>?_) fun x e=>?_
   · cases q with
     | no=>exact .no
     | fz r=>exact .fz (r.mono s.gg)
     | @ow c us ds c1 c2 c3 c4 =>
       have hc:c≠a:=fun z=>by rw[z,e2] at c1;cases c1;exact e5.nl
       exact .ow (up c _ hc c1) ((nn c _ hc c1 rfl).trans c2) c3 (c4.mono s.gg)
     | @od c _ _ _ _ c1 c2 c3 c4 c5 c6 =>
       have hc:c≠a:=fun z=>by rw[z,e2] at c1;cases c1;exact e5.nx
       exact .od (up c _ hc c1) ((nn c _ hc c1 rfl).trans c2) c3 (c4.mono s.gg) c5 c6
     | @mu c oc dc c1 c2 c3 c4 =>
       have hc:c≠a:=fun z=>by
         rw[z,e2] at c1
         cases c1
         have this:(uW dc != uW d)=true:=bV ho hj q2
         rw[c4.kind e5] at this
         simp at this
       exact .mu (up c _ hc c1) ((nn c _ hc c1 c4.nt).trans c2) c3 (c4.mono s.gg)
   · rw[hs] at e;cases e
     exact .mu h' g' e4 r
 · obtain⟨n1,f1⟩:=nM (fun _ z=>by cases z) h1
   obtain⟨n2,f2⟩:=nM (fun _ z=>by cases z) h2
   exact g.apart j k b d1 d2 f1 f2 h3 h4
theorem Step.wrO {G H:Hp}{a:Addr}{o o':HO}(s:Same G H)(g:G a=none):Step G (nR H a) G (upd H a o'):=by
 refine⟨fun b u e=>?_,Same.refl _,fun b u e=>?_,fun _ _ _ _=>rfl⟩
 · by_cases hb:b=a
   · rw[hb,vF] at e;cases e
   · rw[wX hb] at e;rw[zO hb];exact e
 · rw[zO (zB e g)];exact s b u e
theorem Good.wrM (g:Good K G0 H0 G H σ ρ)(hi:ρ[i]?=some (.mu d))(ho:xL i (uW d) ρ=true)(hs:σ[i]?=some (some (.ref a)))(r:RepO K G o' d'):Good K G0 H0 G (upd H a o') σ (ρ.set i (.mu d')):=by
 obtain⟨a',o,e1,e2,e3,e4,e5⟩:=g.mu hi
 rw[hs] at e1;cases e1
 exact g.ioM hi ho hs (Step.wrO (o:=o) g.sub e3) zN e3 r
theorem Good.lendM (g:Good K G0 H0 G H σ ρ)(hi:ρ[i]?=some (.mu d))(ho:xL i (uW d) ρ=true):∃a o,G a=none/\H a=some o/\RepO K G o d/\Good K G0 H0 (upd G a o) H σ (ρ.set i (.fz d)):=by
 obtain⟨a,o,e1,e2,e3,e4,e5⟩:=g.mu hi
 refine⟨a,o,e3,e2,e5,?_⟩
 have sG:Same G (upd G a o):=Same.new e3
 refine⟨⟨g.st.hh,g.st.gg.trans sG,fun b u q=>?_,fun b u q z=>?_⟩,?_,fun j k b d1 d2 h1 h2 h3 h4=>?_⟩
 · by_cases z:b=a
   · subst z;rw[zN] at q;rw[e2];exact q
   · rw[zO z] at q;exact g.st.sub b u q
 · rw[zO (fun y:b=a=>by rw[y,e4] at q;cases q)];exact g.st.new b u q z
 · refine Paired.upd i g.vals (fun j x b hj q1 q2 q=>?_) fun x e=>?_
   · cases q with
     | no=>exact .no
     | fz r=>exact .fz (r.mono sG)
     | @ow c us ds c1 c2 c3 c4 =>
       have hc:c≠a:=fun z=>by rw[z,e2] at c1;cases c1;exact e5.nl
       exact .ow c1 (by rw[zO hc];exact c2) c3 (c4.mono sG)
     | @od c _ _ _ _ c1 c2 c3 c4 c5 c6 =>
       have hc:c≠a:=fun z=>by rw[z,e2] at c1;cases c1;exact e5.nx
       exact .od c1 (by rw[zO hc];exact c2) c3 (c4.mono sG) c5 c6
     | @mu c oc dc c1 c2 c3 c4 =>
       have hc:c≠a:=fun z=>by
         rw[z,e2] at c1
         cases c1
         have this:(uW dc != uW d)=true:=bV ho hj q2
         rw[c4.kind e5] at this
         simp at this
       exact .mu c1 (by rw[zO hc];exact c2) c3 (c4.mono sG)
   · rw[e1] at e;cases e
     exact .fz (e5.rep e3)
 · obtain⟨n1,f1⟩:=nM (fun _ z=>by cases z) h1
   obtain⟨n2,f2⟩:=nM (fun _ z=>by cases z) h2
   exact g.apart j k b d1 d2 f1 f2 h3 h4
end
mutual
def qI:D->Bool
 | .non=>true
 | .bl _=>true
 | .int _=>true
 | .str _=>true
 | .tup ds=>pK ds
 | .lst ds=>pK ds
 | _=>false
def pK:List D->Bool
 | []=>true
 | d::r=>qI d&&pK r
end
section
variable {K:PySem.W.Frag} {G:Hp} {p:Addr} {o:HO}
theorem SqT.outM {a:Addr}{vs:List V}(hp:G p=some o)(hn:(∃C dx fs,o = .ins C dx fs)∨∃kvs,o = .dT kvs)(h:SqT K G a vs):SqT K (nR G p) a vs:=by
 have ne:∀u,G a=some u->(∀C dx fs,u ≠ .ins C dx fs)->(∀kvs,u ≠ .dT kvs)->a≠p:=fun u e h1 h2 z=>by
   rw[z,hp] at e;cases e
   rcases hn with⟨_,_,_,y⟩ | ⟨_,y⟩
   · exact h1 _ _ _ y
   · exact h2 _ y
 rcases h with(h | ⟨u,h⟩) | h
 · exact .inl (.inl (by rw[wX (ne _ h (fun _ _ _ z=>nomatch z) fun _ z=>nomatch z)];exact h))
 · exact .inl (.inr ⟨u,by rw[wX (ne _ h (fun _ _ _ z=>nomatch z) fun _ z=>nomatch z)];exact h⟩)
 · exact .inr h
theorem SqL.outM {a:Addr}{vs:List V}(hp:G p=some o)(hn:(∃C dx fs,o = .ins C dx fs)∨∃kvs,o = .dT kvs)(h:SqL K G a vs):SqL K (nR G p) a vs:=by
 have ne:∀u,G a=some u->(∀C dx fs,u ≠ .ins C dx fs)->(∀kvs,u ≠ .dT kvs)->a≠p:=fun u e h1 h2 z=>by
   rw[z,hp] at e;cases e
   rcases hn with⟨_,_,_,y⟩ | ⟨_,y⟩
   · exact h1 _ _ _ y
   · exact h2 _ y
 rcases h with(h | ⟨u,h⟩) | h
 · exact .inl (.inl (by rw[wX (ne _ h (fun _ _ _ z=>nomatch z) fun _ z=>nomatch z)];exact h))
 · exact .inl (.inr ⟨u,by rw[wX (ne _ h (fun _ _ _ z=>nomatch z) fun _ z=>nomatch z)];exact h⟩)
 · exact .inr h
mutual
theorem Rep.outM (hp:G p=some o)(hn:(∃C dx fs,o = .ins C dx fs)∨∃kvs,o = .dT kvs):∀(d:D) (v:V),qI d=true->Rep K G d v->Rep K (nR G p) d v
 | .non,_,_,h=>by unfold Rep at h ⊢;exact h
 | .bl _,_,_,h=>by unfold Rep at h ⊢;exact h
 | .int _,_,_,h=>by unfold Rep at h ⊢;exact h
 | .str _,_,_,h=>by unfold Rep at h ⊢;exact h
 | .tup ds,_,f,h=>by
   unfold Rep at h ⊢
   obtain⟨a,vs,h1,h2,h3⟩:=h
   exact⟨a,vs,h1,SqT.outM hp hn h2,Reps.outM hp hn ds vs (by unfold qI at f;exact f) h3⟩
 | .lst ds,_,f,h=>by
   unfold Rep at h ⊢
   obtain⟨a,vs,h1,h2,h3⟩:=h
   exact⟨a,vs,h1,SqL.outM hp hn h2,Reps.outM hp hn ds vs (by unfold qI at f;exact f) h3⟩
 | .obj C ns ds,_,f,_=>by unfold qI at f;cases f
 | .exc C ns ds,_,f,_=>by unfold qI at f;cases f
 | .dct ks ds,_,f,_=>by unfold qI at f;cases f
theorem Reps.outM (hp:G p=some o)(hn:(∃C dx fs,o = .ins C dx fs)∨∃kvs,o = .dT kvs):∀(ds:List D) (vs:List V),pK ds=true->Reps K G ds vs->Reps K (nR G p) ds vs
 | [],_,_,h=>by unfold Reps at h ⊢;exact h
 | d::r,_,f,h=>by
   unfold Reps at h ⊢
   obtain⟨v,vr,h1,h2,h3⟩:=h
   unfold pK at f
   rw[Wt] at f
   exact⟨v,vr,h1,Rep.outM hp hn d v f.1 h2,Reps.outM hp hn r vr f.2 h3⟩
end
theorem Step.backM {G H G1 H':Hp}{p:Addr}{o:HO}(s:Step (upd G p o) H G1 H')(hG:G p=none)(hH:H p=some o)(nt:fB o=true):Step G H (nR G1 p) H'/\G1 p=some o:=by
 refine⟨⟨s.hh,fun b u e=>?_,fun b u e=>?_,fun a u ha hn=>?_⟩,s.gg p _ zN⟩
 · have hb:b≠p:=fun z=>by rw[z,hG] at e;cases e
   rw[wX hb]
   exact s.gg b u (by rw[zO hb];exact e)
 · by_cases hb:b=p
   · rw[hb,vF] at e;cases e
   · rw[wX hb] at e;exact s.sub b u e
 · by_cases hb:a=p
   · rw[hb,vF,hG]
   · rw[wX hb,s.new a u ha hn,zO hb]
end
section
variable {X:Cx} {e:Expr} {fa:Ef} {ta:Tf}
def jA (i k:Nat)(ρ:List B):Option (List B):=match ρ[i]? with | some (.mu d)=>if uW d=k/\xL i k ρ=true then some (ρ.set i (.fz d)) else none | _=>none
theorem iZ {i k:Nat}{ρ ρ':List B}(h:jA i k ρ=some ρ'):∃d,ρ[i]?=some (.mu d)/\uW d=k/\xL i k ρ=true/\ρ'=ρ.set i (.fz d):=by
 unfold jA at h
 split at h
 · rename_i d e
   split at h
   · rename_i q
     cases h
     exact⟨d,e,q.1,q.2,rfl⟩
   · cases h
 · cases h
def oA (i k:Nat)(f:Ef):Ef:=fun ρ=>(jA i k ρ).bind fun ρ'=>(f ρ').bind fun d=>if qI d then some d else none
theorem zXA (i k:Nat)(h:PF X e fa):PF X e (oA i k fa):=by
 refine PE.to h ?_
 rintro σ H Q ⟨G0,H0,G,ρ,d,good,hf,kk⟩
 unfold oA at hf
 obtain⟨ρ',h1,hf1⟩:=Qq.mp hf
 obtain⟨d',h2,hf2⟩:=Qq.mp hf1
 obtain⟨dm,q1,q2,q3,rfl⟩:=iZ h1
 split at hf2
 · rename_i fl
   cases hf2
   obtain⟨p,o,hG,hH,ro,good'⟩:=good.lendM q1 (by rw[q2];exact q3)
   refine⟨G0,H0,_,_,_,good',h2,fun v H' G1 s r=>?_⟩
   obtain⟨st,hp⟩:=s.backM hG hH ro.nt
   exact kk v H' _ st (Rep.outM hp ro.two _ _ fl r)
 · cases hf2
def y4 (i k:Nat)(t:Tf):Tf:=fun ρ=>(jA i k ρ).bind fun ρ'=>t ρ'
theorem uZ (i k:Nat)(h:PFT X e ta):PFT X e (y4 i k ta):=by
 refine PT.to h ?_
 rintro σ H Q ⟨G0,H0,G,ρ,b,good,hf,kk⟩
 unfold y4 at hf
 obtain⟨ρ',h1,hf⟩:=Qq.mp hf
 obtain⟨dm,q1,q2,q3,rfl⟩:=iZ h1
 obtain⟨p,o,hG,hH,ro,good'⟩:=good.lendM q1 (by rw[q2];exact q3)
 exact⟨G0,H0,_,_,b,good',hf,fun H' G1 s=>kk H' _ (s.backM hG hH ro.nt).1⟩
end
def setF {α:Type}(f:Str)(y:α):List Str->List α->List α
 | n::ns,x::xs=>if n=f then y::xs else x::setF f y ns xs
 | _,xs=>xs
theorem dA {α:Type}{f:Str}{y:α}:∀ {ns:List Str} {xs:List α},(setF f y ns xs).length=xs.length
 | [],xs=>by unfold setF;rfl
 | _::_,[]=>rfl
 | n::ns,x::xs=>by
   unfold setF
   split
   · rfl
   · rw[Qs,Qs,dA]
theorem cQ {f:Str}{y:V}:∀ {ns:List Str} {vs:List V},ns.length=vs.length->f∈ns->tM f y (ns.zip vs)=ns.zip (setF f y ns vs)
 | [],_,_,h=>by cases h
 | _::_,[],h,_=>by simp at h
 | n::ns,v::vs,h,hf=>by
   show(if n=f then _ else(n,v)::tM f y (ns.zip vs))=_
   unfold setF
   by_cases hn:n=f
   · rw[Qo hn,Qo hn,Wv,hn];rfl
   · rw[Qg hn,Qg hn,Wv,cQ (by simpa using h) ((Qh.mp hf).resolve_left fun z=>hn z.symm)]
theorem iW {K:PySem.W.Frag}{G:Hp}{f:Str}{d:D}{v:V}(r:Rep K G d v):∀ {ns:List Str} {ds:List D} {vs:List V},Reps K G ds vs->Reps K G (setF f d ns ds) (setF f v ns vs)
 | [],_,_,h=>by unfold setF;exact h
 | n::ns,[],_,h=>by rw[zM] at h;subst h;exact zM.mpr rfl
 | n::ns,e::ds,_,h=>by
   obtain⟨u,vr,rfl,h2,h3⟩:=zR.mp h
   unfold setF
   by_cases hn:n=f
   · rw[Qo hn,Qo hn];exact zR.mpr ⟨v,vr,rfl,r,h3⟩
   · rw[Qg hn,Qg hn];exact zR.mpr ⟨u,_,rfl,h2,iW r h3⟩
section
variable {X:Cx} {c e o:Expr} {es:List Expr} {ga:Lf} {pos p cpos:Pos}
def qL (i:Nat)(c f:Str):Ef:=fun ρ=>match ρ[i]? with | some (.mu (.obj c' ns ds))=>if c'=c then(ns.zip ds).lookup f else none | _=>none
theorem qW {C:Addr}{c f:Str}(i:Nat){x:Str}{p1:Pos}(hC:ClsAt X.K c C)(hcl:Cls X.K C)(hn:NoAttr X.K C f)(hN:X.N[i]?=some x:=by rfl)(hv:Vis X.env.scope x:=by first | exact Or.inl rfl | exact Or.inr (Or.inl rfl) | exact Or.inr (Or.inr rfl))(hd:(x==("__debug__":Str))=false:=by decide)(hcd:(x==("__classdict__":Str))=false:=by decide)
   (hb:attributeBase (.Name x p1) f X.env (eval (.Name x p1) X.env)=eval (.Name x p1) X.env:=by rfl):PF X (.Attribute (.Name x p1) f pos) (qL i c f):=by
 refine PE.to (zYi (pU hN hv hd hcd) hb) ?_
 rintro σ H Q ⟨G0,H0,G,ρ,d,good,hf,k⟩
 unfold qL at hf
 split at hf
 · rename_i c' ns ds e
   split at hf
   · rename_i hc
     subst hc
     obtain⟨q,o,e1,e2,e3,e4,C',dx,vs,r1,r2,r3,r4⟩:=good.mu e
     have ec:=hC.one r1
     subst ec
     obtain⟨u,l1,l2⟩:=pY r3 r4 hf
     exact⟨.ref q,e1,q,_,dx,_,u,rfl,by rw[e2,r2],hcl,hn,l1,k _ _ G (.refl good.sub) l2⟩
   · cases hf
 · cases hf
def fH (i:Nat)(c:Str)(ns:List Str)(n:Nat)(f:List D->Option (List D))(g:Lf):Sf:=fun ρ=>(g ρ).bind fun ds=>if ds.length=n then(f ds).bind fun xs=>if ns.length=xs.length then some (.nx (ρ.set i (.mu (.obj c ns xs)))) else none else none
theorem zYC (i:Nat){x:Str}{k n:Nat}{C fI:Addr}{fd:FuncData}{ps ns:List Str}{c:Str}{f:List D->Option (List D)}{pos':Pos}(hN:X.N.Nodup)(hC:ClsAt X.K c C)(M:Mk X.K C fI)(F:FnOk X.prog X.w X.K X.mg X.base CX0 k fI fd ps (spI X.K C ns n f))(hr:Room (k+1) X.A)(hm:X.mg c=some (.ref C))(hb:Binds X.K fd ps [])(hg:Gl X c)
   (ha:PFA X (e::es) ga) (hi:X.N[i]?=some x:=by rfl) (hx:Loc X.env.scope x:=by first | exact .inl rfl | exact .inr rfl) (hs:swapsWith (.Call (.Name c p) (e::es) [] cpos) (some (.Name x pos')) pos.line X.env=pure false:=by rfl)
   (hf:X.fn x=true∨X.env.scope.names.lookup x=some .local:=by first | exact .inl rfl | exact .inr rfl) (hdb:(c==("__debug__":Str))=false:=by decide) (he:starEach (e::es) X.env=(false,eval e X.env)::starEach es X.env:=by rfl) (hpl:(backTo cpos (starEach es X.env)).any (·.1)=false:=by rfl) :
   PFS X (.Assign [.Name x pos'] (.Call (.Name c p) (e::es) [] cpos) pos) (fH i c ns n f ga):=by
 refine PS.to (eS hN hi hx (zZD (E:=E0) M F hr hg hm hb .nil cC ha hdb he hpl) hs hf) ?_
 rintro D σ H ⟨G0,H0,G,ρ,o,good,hf,k⟩
 unfold fH at hf
 obtain⟨ds,h1,hf⟩:=Qq.mp hf
 split at hf
 · rename_i hl
   obtain⟨xs,h2,hf⟩:=Qq.mp hf
   split at hf
   · rename_i hn
     cases hf
     refine⟨G0,H0,G,ρ,_,good,h1,fun vs H1 G1 s1 r1 x dx hx hdx hne=>?_⟩
     refine⟨x,dx,vs++[],G1,H1,ds,xs,rfl,rfl,hx,hdx,hne,s1.sub,by rw[Wx];exact r1,hl,h2,fun H' G' us s' q1 q2 q3=>⟨rfl,?_⟩⟩
     have g2:=(good.step s1).step s'
     exact k _ H' G' (s1.trans s').gg (g2.setM i q1 q2 ((good.step s1).st.hh.free hx) ⟨C,dx,us,hC,rfl,hn,q3⟩)
   · cases hf
 · cases hf
end
def spM (K:PySem.W.Frag)(c:Str)(ns:List Str)(n:Nat)(f:List D->List D->Option (List D)):Sp:=fun vs H Q _=>∃(a:Addr) (o:HO) (rest:List V) (G:Hp) (xs ds ys:List D),vs = .ref a::rest/\H a=some o/\G a=none/\RepO K G o (.obj c ns xs)/\Same G H/\Reps K G ds rest/\ds.length=n/\f xs ds=some ys /\
 ∀H' G' o',Step G (nR H a) G' H'->H' a=some o'->G' a=none->RepO K G' o' (.obj c ns ys)->Q .non H'
def gK (N:Nat)(c:Str)(ns:List Str)(xs ds:List D):List B:=.mu (.obj c ns xs)::(ds.map .fz++List.replicate (N - (ds.length+1)) .no)
def fnM (N:Nat)(c:Str)(ns:List Str)(f:Str)(t:Tf)(e:Ef):List D->List D->Option (List D):=fun xs ds=>(t (gK N c ns xs ds)).bind fun b=>if b=false/\f∈ns/\ns.length<=900 then(e (gK N c ns xs ds)).map fun d=>setF f d ns xs else none
section
variable {P:Program} {w:World} {K:PySem.W.Frag} {mg:Str->Option Value} {base:Heap} {x qual:Str} {st:Stmt} {fad C:Addr} {fd:FuncData} {N ps ns:List Str} {k:Nat} {sf c f:Str} {t e:Expr} {rs:List Stmt} {tt:Tf} {fe:Ef} {p1 p2 p3 p4:Pos}
theorem Step.wrP {G H G' H':Hp}{p:Addr}{o:HO}(s:Step G H G' H')(hp:H p=none)(g':G' p=none):Step G H G' (upd H' p o) :=
 ⟨fun b u e=>by rw[zO (zB e hp)];exact s.hh b u e,s.gg,fun b u e=>by rw[zO (zB e g')];exact s.sub b u e,s.new⟩
theorem zZr {X:Cx}{sts:List Stmt}:PSs X sts (fun _ _ _=>False):=fun _ _ _ _ _ _ z=>z.elim
theorem eM (m:Nat)(d:D)(ds:List D):∀(j:Nat) (es:List D),(B.mu d::(ds.map B.fz++List.replicate m B.no))[j]?≠some (.ow es):=by
 intro j es h
 cases j with
 | zero=>cases h
 | succ j =>
   rw[Rb] at h
   by_cases hi:j < ds.length
   · rw[Ws (by simpa using hi),Wi] at h
     obtain⟨k,_,h⟩:=Qt.mp h
     cases h
   · rw[Wu (by simpa using hi),Wj] at h
     split at h<;>cases h
theorem zXF (F:Fun K x qual st fad fd)(S:FnScope N (sf::ps) (zX st))(hC:ClsAt K c C)(hcl:Cls K C)(hn:NoAttr K C f)(hbody:zQ st=[.If t rs [] p1,.Assign [.Attribute (.Name sf p2) f p3] e p4])
   (ht:∀(cdv:Value) (A:Around) (outer:List Env) (s:Shared) (H:Hp) (E:XK),Room k (A.deeper (envOfC qual (zX st) s.heap.objs.size fad cdv))->PFT (sU CX0 P w K mg base N qual (zX st) fad cdv A outer s H E).nox t tt)
   (he:∀(cdv:Value) (A:Around) (outer:List Env) (s:Shared) (H:Hp) (E:XK),Room k (A.deeper (envOfC qual (zX st) s.heap.objs.size fad cdv))->PF (sU CX0 P w K mg base N qual (zX st) fad cdv A outer s H E).nox e fe)
   (hN0:N[0]?=some sf) (hv:Vis (zX st) sf) (hd:(sf==("__debug__":Str))=false:=by decide) (hcd:(sf==("__classdict__":Str))=false:=by decide)
   (hs:∀(cdv:Value) (A:Around) (outer:List Env) (s:Shared) (H:Hp) (E:XK),swapsWith e (some (.Attribute (.Name sf p2) f p3)) p4.line (sU CX0 P w K mg base N qual (zX st) fad cdv A outer s H E).nox.env=pure false:=by exact fun _ _ _ _ _ _=>rfl) :
   FnOk P w K mg base CX0 (k+1) fad fd (sf::ps) (spM K c ns ps.length (fnM N.length c ns f tt fe)):=by
 refine F.ok S (fun vs H Q E h=>?_) (fun cdv A outer s H vs Q E hr h=>?_)
 · obtain⟨a,o,rest,G,xs,ds,ys,rfl,_,_,_,_,rr,hl,_⟩:=h
   rw[Qs,Qs,←rr.length,hl]
 · rw[hbody]
   refine⟨_,rM (zYB (ht cdv A outer s H E hr) zZr fZ) (zZ6 (zY4 (pU hN0 hv hd hcd) (he cdv A outer s H E hr) (hs cdv A outer s H E))),?_⟩
   obtain⟨a,o,rest,G,xs,ds,ys,rfl,h1,h2,h3,sub,rr,hl,hf,kk⟩:=h
   have good:Good K G (nR H a) G H (vT N (.ref a::rest)) (gK N.length c ns xs ds):=by
     refine⟨⟨fun b u q=>?_,Same.refl _,sub,fun _ _ _ _=>rfl⟩,?_,fun i j b es es' q1=>absurd q1 (eM _ _ ds i es)⟩
     · by_cases hb:b=a
       · rw[hb,vF] at q;cases q
       · rwa[wX hb] at q
     · unfold vT gK
       rw[Qp,Qs,Yz,←rr.length]
       exact .cons (.mu h1 h2 vF h3) (qU _ rr)
   unfold fnM at hf
   obtain⟨b,e1,hf⟩:=Qq.mp hf
   split at hf
   · rename_i hq
     obtain⟨rfl,hfn,hn9⟩:=hq
     obtain⟨d,e2,rfl⟩:=Qt.mp hf
     refine⟨G,nR H a,G,_,false,good,e1,fun H1 G1 s1=>?_⟩
     show zVx _ _ _
     refine⟨G,nR H a,G1,_,d,good.step s1,e2,fun v H2 G2 s2 r2=>?_⟩
     have s12:=s1.trans s2
     obtain⟨C',dx,vs,r3,r4,r5,r6⟩:=h3
     have ec:=hC.one r3
     subst ec
     have hlv:ns.length=vs.length:=by rw[r5];exact r6.length
     refine⟨.ref a,rfl,a,_,dx,ns.zip vs,rfl,by rw[s12.hh _ _ h1,r4],hcl,hn,by rw[Ts];omega,?_⟩
     have ga:G2 a=none:=(s12.new a _ h1 (by rw[r4];rfl)).trans h2
     exact kk _ G2 _ ((good.st.trans s12).wrP vF ga) zN ga ⟨_,dx,_,hC,by rw[cQ hlv hfn],by rw[dA];exact r5,iW r2 (r6.mono s12.gg)⟩
   · cases hf
end
theorem xG {f:Str}:∀ {ns:List Str} {vs:List V},f∉ns->(ns.zip vs).lookup f=none
 | [],_,_=>by simp
 | _::_,[],_=>by simp
 | n::ns,v::vs,h=>by
   rw[Wv,Wk,Ea.mpr fun z=>h (by simp[z])]
   exact xG fun z=>h (by simp[z])
section
variable {X:Cx} {c e o:Expr} {es:List Expr} {fa:Ef} {ga:Lf} {pos apos cpos:Pos}
def tH (i:Nat)(c m:Str)(n:Nat)(f:List Str->List D->List D->Option (List D))(g:Lf):Sf:=fun ρ=>(g ρ).bind fun ds=>match ρ[i]? with
 | some (.mu (.obj c' ns xs))=>if c'=c/\ds.length=n/\m∉ns/\xL i 1 ρ=true then(f ns xs ds).map fun ys=>.nx (ρ.set i (.mu (.obj c ns ys))) else none
 | _=>none
theorem bT (i:Nat){pl:Sem Bool}{x c m:Str}{k n:Nat}{C fad:Addr}{fd:FuncData}{ps:List Str}{f:List Str->List D->List D->Option (List D)}{p1:Pos}(hC:ClsAt X.K c C)(hcl:Cls X.K C)(hm:Meth X.K C m fad)(F:∀ns,FnOk X.prog X.w X.K X.mg X.base CX0 k fad fd ps (spM X.K c ns n (f ns)))(hr:Room k X.A)(hb:Binds X.K fd ps [])
   (ha:PFA X (e::es) ga) (hN:X.N[i]?=some x:=by rfl) (hv:Vis X.env.scope x:=by first | exact Or.inl rfl | exact Or.inr (Or.inl rfl) | exact Or.inr (Or.inr rfl)) (hd:(x==("__debug__":Str))=false:=by decide) (hcd:(x==("__classdict__":Str))=false:=by decide)
   (hst:starEach (e::es) X.env=(false,eval e X.env)::starEach es X.env:=by rfl) (hpl:(backTo cpos (starEach es X.env)).any (·.1)=false:=by rfl)
   (ht:eval (.Call (.Attribute (.Name x p1) m apos) (e::es) [] cpos) X.env=(do
     let ov ←eval (.Name x p1) X.env
     standAt apos.atName
     let (f,first) ←holding [ov] (getMethod ov m pl)
     callWith cpos f first (backTo cpos (starEach (e::es) X.env)) (backToKw cpos (keywordEach [] X.env))):=by rfl)
   (hs:swapsWith (.Call (.Attribute (.Name x p1) m apos) (e::es) [] cpos) none pos.line X.env=pure false:=by rfl) :
   PFS X (.Expr (.Call (.Attribute (.Name x p1) m apos) (e::es) [] cpos) pos) (tH i c m n f ga):=by
 rintro pins s σ H D I ⟨G0,H0,G,ρ,out,good,hf,kk⟩
 unfold tH at hf
 obtain⟨ds,h1,hf⟩:=Qq.mp hf
 split at hf
 · rename_i c' ns xs hi
   split at hf
   · rename_i hq
     obtain⟨rfl,hl,hmn,hon⟩:=hq
     obtain⟨ys,h2,rfl⟩:=Qt.mp hf
     obtain⟨q,ob,e1,e2,e3,e4,e5⟩:=good.mu hi
     have e5':=e5
     obtain⟨C',dx,vs,r1,r2,r3,r4⟩:=e5'
     have ec:=hC.one r1
     subst ec
     refine zZM (zWH (pl:=pl) (E:=E0) (pU hN hv hd hcd) hcl hm (F ns) hr hb .nil cC ha hst hpl ht) hs pins s σ H D I ?_
     refine⟨.ref q,e1,q,dx,_,rfl,by rw[e2,r2],xG hmn,G0,H0,G,ρ,ds,good,h1,fun us H1 G1 s1 rs=>?_⟩
     show spM X.K c' ns n (f ns) (.ref q::(us++[])) H1 _ E0
     rw[Wx]
     have g1:=good.step s1
     refine⟨q,ob,us,G1,xs,ds,ys,rfl,s1.hh _ _ e2,(s1.new q _ e2 e5.nt).trans e3,e5.mono s1.gg,s1.sub,rs,hl,h2,fun H' G' o' st q1 q2 q3=>?_⟩
     exact kk σ H' G' (s1.gg.trans st.gg) (g1.ioM hi hon e1 st q1 q2 q3)
   · cases hf
 · cases hf
def iU (c m:Str)(n:Nat)(d:List D->Option D)(fa:Ef)(g:Lf):Ef:=fun ρ=>(fa ρ).bind fun x=>(g ρ).bind fun ds=>match x with
 | .obj c' ns _=>if c'=c/\ds.length+1=n/\m∉ns then d (x::ds) else none
 | _=>none
theorem dX {pl:Sem Bool}{c m:Str}{k n:Nat}{C fad:Addr}{fd:FuncData}{ps:List Str}{d:List D->Option D}(hC:ClsAt X.K c C)(hcl:Cls X.K C)(hm:Meth X.K C m fad)(F:FnOk X.prog X.w X.K X.mg X.base CX0 k fad fd ps (spF X.K n d))(hr:Room k X.A)(hb:Binds X.K fd ps [])
   (ho:PF X o fa)
   (ht:eval (.Call (.Attribute o m apos) [] [] cpos) X.env=(do
     let ov ←eval o X.env
     standAt apos.atName
     let (f,first) ←holding [ov] (getMethod ov m pl)
     callWith cpos f first (backTo cpos (starEach [] X.env)) (backToKw cpos (keywordEach [] X.env))):=by rfl) :
   PF X (.Call (.Attribute o m apos) [] [] cpos) (iU c m n d fa zL):=by
 refine PE.to (zYb (pl:=pl) (E:=E0) ho hcl hm F hr hb .nil cC ht) ?_
 rintro σ H Q ⟨G0,H0,G,ρ,r,good,hf,kk⟩
 unfold iU at hf
 obtain⟨x,h1,hf1⟩:=Qq.mp hf
 obtain⟨ds,h2,hf2⟩:=Qq.mp hf1
 clear hf hf1
 cases h2
 cases x with
 | obj c' ns xs =>
   dsimp only at hf2
   split at hf2
   · rename_i hq
     obtain⟨rfl,hl,hmn⟩:=hq
     refine⟨G0,H0,G,ρ,_,good,h1,fun v H1 G1 s1 r1=>?_⟩
     obtain⟨C',q,dx,vs,r2,rfl,r3,r4,r5⟩:=qY.mp r1
     have ec:=hC.one r2
     subst ec
     refine⟨q,dx,_,rfl,s1.sub _ _ r3,xG hmn,?_⟩
     exact⟨G1,[.obj c' ns xs],r,s1.sub,zR.mpr ⟨_,_,rfl,r1,zM.mpr rfl⟩,hl,hf2,fun v H' G' st rr=>kk v H' G' (s1.trans st) rr⟩
   · cases hf2
 | _=>cases hf2
def zZL (c m:Str)(n:Nat)(xf:List D->Option Str)(fa:Ef)(g:Lf):List B->Option Str:=fun ρ=>(fa ρ).bind fun x=>(g ρ).bind fun ds=>match x with
 | .obj c' ns _=>if c'=c/\ds.length+1=n/\m∉ns then xf (x::ds) else none
 | _=>none
theorem zYU {pl:Sem Bool}{c m:Str}{k n:Nat}{C fad:Addr}{fd:FuncData}{ps:List Str}{d:List D->Option D}{xf:List D->Option Str}(hno:∀e s,¬X.xe e s)(hC:ClsAt X.K c C)(hcl:Cls X.K C)(hm:Meth X.K C m fad)(F:FnOk X.prog X.w X.K X.mg X.base (CXq X.prog X.w) k fad fd ps (spQ X.K n d xf))(hr:Room k X.A)(hb:Binds X.K fd ps [])
   (ho:PF X o fa) (ha:PFA X (e::es) ga)
   (hst:starEach (e::es) X.env=(false,eval e X.env)::starEach es X.env:=by rfl) (hpl:(backTo cpos (starEach es X.env)).any (·.1)=false:=by rfl)
   (ht:eval (.Call (.Attribute o m apos) (e::es) [] cpos) X.env=(do
     let ov ←eval o X.env
     standAt apos.atName
     let (f,first) ←holding [ov] (getMethod ov m pl)
     callWith cpos f first (backTo cpos (starEach (e::es) X.env)) (backToKw cpos (keywordEach [] X.env))):=by rfl)
   (hs:swapsWith (.Call (.Attribute o m apos) (e::es) [] cpos) none pos.line X.env=pure false:=by rfl) :
   PXB X (.Expr (.Call (.Attribute o m apos) (e::es) [] cpos) pos) (zZL c m n xf fa ga):=by
 intro pins s σ H R G0 H0 G ρ cc CC I good hq hCC kk
 unfold zZL at hq
 obtain⟨x,h1,hq1⟩:=Qq.mp hq
 obtain⟨ds,h2,hq2⟩:=Qq.mp hq1
 clear hq hq1
 have hq:=hq2
 clear hq2
 cases x with
 | obj c' ns xs =>
   dsimp only at hq
   split at hq
   · rename_i hz
     obtain⟨rfl,hl,hmn⟩:=hz
     refine wpAny_Expr_any ?_ I.quiet hs
     refine Tu (pl:=pl) (Ei (ho pins s σ H (fun v H1=>∃G1,Step G H G1 H1/\Rep X.K G1 (.obj c' ns xs) v) I ⟨G0,H0,G,ρ,_,good,h1,fun v H1 G1 s1 r1=>⟨G1,s1,r1⟩⟩) (fun u s1 ⟨v,H1,I1,rv,G1,st1,r1⟩=>?_) fun e s z=>(hno e s z).elim) ht
     obtain⟨C',q,dx,vs,r2,rfl,r3,r4,r5⟩:=qY.mp r1
     have ec:=hC.one r2
     subst ec
     obtain rfl:u=Value.ref q:=rv
     refine pZ I1 (st1.sub _ _ r3) hcl hm (xG hmn) ?_
     have good1:=good.step st1
     refine Rq (first:=[.ref q]) (h₀:=X.base) I.ok.mod.kin hm.kp (Ei (ha cpos pins s1 σ H1 (fun vs H2=>∃G2,Step G1 H1 G2 H2/\Reps X.K G2 ds vs) I1 ⟨G0,H0,G1,ρ,ds,good1,h2,fun vs H2 G2 s2 rr=>⟨G2,s2,rr⟩⟩) (fun us s2 ⟨ws,H2,I2,r,G2,st2,rr⟩=>⟨I2.kIn,?_⟩) fun e s z=>(hno e s z).elim) hst hpl
     have r':Vals (V.ref q::ws) (Value.ref q::us):=.cons rfl r
     have rs':Reps X.K G2 (.obj c' ns xs::ds) (V.ref q::ws):=zR.mpr ⟨_,_,rfl,r1.mono st2.gg,rr⟩
     have hlen:(Value.ref q::us).length=ps.length:=by
       rw[←r'.length]
       exact F.len _ H2 (fun _ _=>False) (fun v _ H'=>v = .ref CC/\∃G',Step G2 H2 G' H') ⟨G2,_,st2.sub,rs',hl,.inr ⟨cc,CC,hq,hCC,fun H' G' z=>⟨rfl,G',z⟩⟩⟩
     refine Yt (Rl (F.run X.A X.stack s2 H2 ⟨Value.ref q::us,[]⟩ (Value.ref q::us) (V.ref q::ws) (fun _ _=>False) (fun v _ H'=>v = .ref CC/\∃G',Step G2 H2 G' H') hr I2.env0 (by have:=hb s2 (Value.ref q::us) I2.kIn (by rw[Wx];exact hlen);rwa[Wx] at this) r' ⟨G2,_,st2.sub,rs',hl,.inr ⟨cc,CC,hq,hCC,fun H' G' z=>⟨rfl,G',z⟩⟩⟩) fun r s' hr'=>?_)
     cases r with
     | error e=>exact kk s2 H2 G2 e s' I2 (st1.trans st2) hr'
     | ok fl =>
       cases fl with
       | ret u=>obtain⟨_,_,_,_,_,_,_,z⟩:=hr';exact z.elim
       | next=>exact False.elim hr'
       | brk=>exact False.elim hr'
       | cont=>exact False.elim hr'
   · cases hq
 | _=>cases hq
end
def zTC:Value->Option D
 | .none=>some .non
 | .bool b=>some (.bl b)
 | .int i _=>some (.int i)
 | .str x _=>some (.str x)
 | _=>none
def zSU (P:Params)(l:List (Str×Tok×Value)):List DictEntry:=l.map fun p=>⟨PyData.keyHash P p.1,.str p.1 p.2.1,p.2.2⟩
def kvC (l:List (Str×Tok×Value)):List (Str×D):=l.map fun p=>(p.1,(zTC p.2.2).getD .non)
structure DictC (w:World)(K:PySem.W.Frag)(a:Addr)(kvs:List (Str×D)):Prop where
 sys:(a==sysModules)=false
 at':∃(l:List (Str×Tok×Value)) (n:Nat),K.lookup a=some ⟨.type "dict",none,.dict (zSU w.params l).toArray n,#[]⟩/\kvs=kvC l/\(l.all fun p=>(zTC p.2.2).isSome)=true
end L2
namespace L2
open PySem PySem.W PySem.Spec PyProof.Rows
def zT7:D->Option Key | .int i=>some (.inl i) | .str s=>some (.inr s) | _=>none
def eF:List D->Option (List Key)
 | []=>some []
 | d::r=>(zT7 d).bind fun k=>(eF r).map (k::·)
def zZx:D->Option (List Key) | .tup ds=>eF ds | _=>none
section
variable {K:PySem.W.Frag} {G:Hp}
theorem zX5 {d:D}{k:Key}{v:V}(h:zT7 d=some k)(r:Rep K G d v):v=kV k:=by
 cases d with
 | int i=>cases h;exact zJ.mp r
 | str z=>cases h;exact yS.mp r
 | _=>cases h
theorem nL:∀ {ds:List D} {k:List Key} {vs:List V},eF ds=some k->Reps K G ds vs->vs=k.map kV
 | [],k,vs,h,r=>by cases h;exact zM.mp r
 | d::ds,k,vs,h,r=>by
   unfold eF at h
   obtain⟨a,h1,h⟩:=Qq.mp h
   obtain⟨b,h2,rfl⟩:=Qt.mp h
   obtain⟨v,vr,rfl,r1,r2⟩:=zR.mp r
   rw[zX5 h1 r1,nL h2 r2];rfl
theorem lV {d:D}{k:List Key}{v:V}(h:zZx d=some k)(r:Rep K G d v):∃b,v = .ref b/\SqT K G b (k.map kV):=by
 cases d with
 | tup ds =>
   obtain⟨b,vs,rfl,h1,h2⟩:=xZ.mp r
   rw[nL h h2] at h1
   exact⟨b,rfl,h1⟩
 | _=>cases h
def tD (ks:List (List Key))(ds:List D)(k:List Key):Option D:=((ks.zip ds).find? fun p=>decide (p.1=k)).map (·.2)
theorem kI:∀ {ks:List (List Key)} {ds:List D} {vs:List V} (k:List Key),ks.length=ds.length->Reps K G ds vs->match tD ks ds k,uU (ks.zip vs) k with | some d,some v=>Rep K G d v | none,none=>True | _,_=>False
 | [],ds,vs,k,h,r=>by simp[tD,uU]
 | q::ks,[],vs,k,h,r=>by simp at h
 | q::ks,d::ds,vs,k,h,r=>by
   obtain⟨v,vr,rfl,r1,r2⟩:=zR.mp r
   have ih:=kI (ks:=ks) k (by simpa using h) r2
   unfold tD uU at ih ⊢
   simp only[Wv,Wd]
   by_cases e:q=k
   · simp only[e,decide_true,Ek];exact r1
   · simp only[e,decide_false];exact ih
theorem rH {ks:List (List Key)}{ds:List D}{vs:List V}(k:List Key)(h:ks.length=ds.length)(r:Reps K G ds vs):(uU (ks.zip vs) k).isSome=(tD ks ds k).isSome:=by
 have:=kI k h r
 split at this
 · rename_i e1 e2;rw[e1,e2];rfl
 · rename_i e1 e2;rw[e1,e2];rfl
 · exact this.elim
def mQ (ks:List (List Key))(ds:List D)(k:List Key):List D:=((ks.zip ds).filter fun p=>decide (p.1≠k)).map (·.2)
theorem iO:∀ {ks:List (List Key)} {ds:List D} {vs:List V} (k:List Key),ks.length=ds.length->Reps K G ds vs ->
   ∃us,rD (ks.zip vs) k=(ks.filter fun q=>decide (q≠k)).zip us/\(ks.filter fun q=>decide (q≠k)).length=(mQ ks ds k).length/\Reps K G (mQ ks ds k) us
 | [],ds,vs,k,h,r=>⟨[],by simp[rD],by simp[mQ],by simp[mQ];exact zM.mpr rfl⟩
 | q::ks,[],vs,k,h,r=>by simp at h
 | q::ks,d::ds,vs,k,h,r=>by
   obtain⟨v,vr,rfl,r1,r2⟩:=zR.mp r
   obtain⟨us,a1,a2,a3⟩:=iO (ks:=ks) k (by simpa using h) r2
   unfold rD mQ at *
   by_cases e:q=k
   · refine⟨us,?_,?_,?_⟩
     · simpa [Wr,e] using a1
     · simpa [Wr,e] using a2
     · simpa [Wr,e] using a3
   · refine⟨v::us,?_,?_,?_⟩
     · simpa [Wr,e] using a1
     · simpa [Wr,e] using a2
     · have:Reps K G (d::((ks.zip ds).filter fun p=>decide (p.1≠k)).map (·.2)) (v::us):=zR.mpr ⟨v,us,rfl,r1,a3⟩
       simpa [Wr,e] using this
variable {X:Cx} {pins:List (Addr×Obj)} {σ:St} {H:Hp} {s:Shared} {a b:Addr} {k:List Key} {kvs:List (List Key×V)} {A:Around}
theorem aF (I:Inv X pins σ H s)(h:SqT X.K H b (k.map kV)):(tupleKind (z5 X.prog X.w)).is s.heap k b:=by
 obtain⟨its,rv,⟨o,e,c,n,d⟩,_⟩:=I.tuple h
 exact⟨o,its.toArray,n,e,c,d,by simpa using nX rv⟩
theorem zZe (hu:X.A.units+1 < cLine):OpR X (compareOp .NotIn) (fun x y H Q=>∃a b kvs k,x = .ref b/\y = .ref a/\H a=some (.dT kvs)/\SqT X.K H b (k.map kV)/\Q (.bl (!(uU kvs k).isSome)) H):=by
 intro pins s σ H x y v u Q I rx ry ⟨a,b,kvs,k,e1,e2,ha,hb,q⟩
 subst e1 e2
 cases rx
 cases ry
 obtain⟨z,hd,xs,rel,dd⟩:=iT I.hok ha
 refine wpAny_notIn_heap (Rw hu) (aF I hb) hd dd ?_
 have e:=(rel.val k).isSome_eq
 rw[Yu] at e
 rw[←e]
 exact⟨.bl _,H,I.tok _,rfl,q⟩
theorem zTh (hu:X.A.units+1 < cLine):IxR X (fun x y H Q=>∃a b kvs k v,x = .ref a/\y = .ref b/\H a=some (.dT kvs)/\SqT X.K H b (k.map kV)/\uU kvs k=some v/\Q v H):=by
 intro value slice pins s σ H x y v u Q I rx ry ⟨a,b,kvs,k,v',e1,e2,ha,hb,hv,q⟩ hs
 subst e1 e2
 cases rx
 cases ry
 obtain⟨z,hd,xs,rel,dd⟩:=iT I.hok ha
 obtain⟨w',hw,rw'⟩:=RelO.some_of (v:=v') (o:=(atKey xs k).map (·.2)) (by rw[←hv];exact rel.val k)
 obtain⟨p,hp,hp2⟩:=Qt.mp hw
 subst hp2
 exact tail_any dd.typeIs slot_dict_getitem.lookup (wpAny_getItem_heap (Rw hu) (aF I hb) dd hp ⟨v',H,I.tok _,rw',q⟩) hs
theorem zZq:CallR X (.builtin "len") (fun xs H Q=>∃a kvs,xs=[.ref a]/\H a=some (.dT kvs)/\Q (.int kvs.length) H):=by
 intro pins s σ H xs us Q I r ⟨a,kvs,e,ha,q⟩
 subst e
 obtain⟨u,rfl,ru⟩:=jC r
 cases ru
 obtain⟨z,hd,xs,rel,dd⟩:=iT I.hok ha
 have hl:kvs.length=xs.length:=Er rel
 have hz:xs.length<=16777216:=by rw[←hl];rw[Wo] at z;omega
 refine call_len_slot (n:=(kvs.length:Int)) dd.typeIs F.slot_dict_len (fun Q' q'=>Ed F.slot_dict_len dd.typeIs F.entry_dict_len ?_ (F.args_dict_len_1 _)) (by omega) (by omega) ⟨.int _,H,(I.tok _).tok _,⟨_,rfl⟩,q⟩
 obtain⟨o,es,ep,ho,hc,hdat,hk,hp,hn⟩:=dd
 show wpAny _ _ (dictSize a >>= _) _ _ s
 unfold dictSize
 refine Qw (Qw (Yo ho hdat (Qi ?_)))
 show wpAny _ _ (Builtin.Dict.pendingCount a >>= _) _ _ s
 refine Qw (wpAny_pendingCount_other hd ?_)
 refine wpAny_ret_mkInt ?_
 have:es.size=kvs.length:=by rw[Uw hk,hl]
 rw[this]
 exact q'
theorem KTd.drop {xs:List (List Key×Addr×Value)}(r:KTd H kvs xs)(k:List Key):KTd H (rD kvs k) (xs.filter fun x=>decide (x.1≠k)):=by
 unfold rD
 induction r with
 | nil=>exact .nil
 | @cons p q ps qs h t ih =>
   obtain⟨h1,h2⟩:=h
   by_cases e:p.1=k
   · simpa [Wr,e,h1.symm.trans e] using ih
   · have e':¬q.1=k:=fun z=>e (h1.trans z)
     have:KTd H (p::ps.filter fun kv=>decide (kv.1≠k)) (q::qs.filter fun x=>decide (x.1≠k)):=.cons ⟨h1,h2⟩ ih
     simpa [Wr,e,e'] using this
theorem iS {α β:Type}(f:α->β):∀(l:List α) (i:Nat),(l.map f).eraseIdx i=(l.eraseIdx i).map f
 | [],_=>rfl
 | _::_,0=>rfl
 | a::l,i+1=>by rw[Qp,Ry,Ry,Qp,iS f l i]
theorem oO {α:Type}{k:List Key}:∀ {xs:List (List Key×α)} {j:Nat} {p:α},(xs.map (·.1)).Nodup->xs[j]?=some (k,p)->xs.eraseIdx j=xs.filter fun x=>decide (x.1≠k)
 | [],_,_,_,h=>by simp at h
 | x::r,0,p,nd,h=>by
   cases h
   simp only[Qp,Wm,Yd,not_exists,not_and] at nd
   rw[List.eraseIdx_cons_zero,Tw (by simp)]
   refine(List.filter_eq_self.mpr fun a ha=>?_).symm
   simpa using nd.1 a ha
 | x::r,j+1,p,nd,h=>by
   rw[Rb] at h
   simp only[Qp,Wm,Yd,not_exists,not_and] at nd
   have hx:x.1≠k:=fun e=>nd.1 _ (Tk h) (by rw[e])
   rw[Ry,Te (by simpa using hx),oO nd.2 h]
def zYf (K:PySem.W.Frag):V->List V->Hp->VK->Prop:=fun x vs H Q=>∃a b kvs k v,x = .ref a/\vs=[.ref b]/\H a=some (.dT kvs)/\SqT K H b (k.map kV)/\uU kvs k=some v/\Q v (upd H a (.dT (rD kvs k)))
theorem zWT (hu:X.A.units+1 < cLine):MtR X "dict.pop" (zYf X.K):=by
 intro pins s σ H x xs v us Q I rx r ⟨a,b,kvs,k,v',e1,e2,ha,hb,hv,q⟩
 subst e1 e2
 cases rx
 obtain⟨u,rfl,ru⟩:=jC r
 cases ru
 have hkey:=aF I hb
 obtain⟨z,hd,xs,rel,dd⟩:=iT I.hok ha
 have hT:=dd.typeIs
 obtain⟨o,es,ep,ho,hc,hdat,he,his,hn⟩:=dd
 have hl:kvs.length=xs.length:=Er rel
 have hes:es.size=xs.length:=Uw he
 obtain⟨w',hw,rw'⟩:=RelO.some_of (v:=v') (o:=(atKey xs k).map (·.2)) (by rw[←hv];exact rel.val k)
 obtain⟨p0,hp0,hp2⟩:=Qt.mp hw
 refine Ed F.slot_dict_pop hT F.entry_dict_pop ?_ (F.args_dict_pop_2 _ _)
 unfold Builtin.«dict.pop»
 refine Qw ?_
 unfold Builtin.Dict.keyAndDefault
 refine Qw (wpAny_notOrdered_dict hT ?_)
 show wpAny _ _ (pure (a,Value.ref b,none)) _ _ s
 refine Qi ?_
 dsimp only
 have hne:es.isEmpty=false:=by
   cases xs with
   | nil=>simp[atKey] at hp0
   | cons y r=>simp[Array.isEmpty,hes]
 have hkp:(keyPart (Value.ref b)).isSome=false:=rfl
 simp only[hkp,Wy,Eb]
 refine Qw (Yo ho hdat (Qw (Qi ?_)))
 rw[hne]
 simp only[Wy,Eb]
 refine Qw ?_
 unfold Builtin.Dict.takeOut
 refine Wb ?_
 refine Qw ((tupleKind (z5 X.prog X.w)).pyHash (Rw hu) hkey ?_)
 refine Qw (wpAny_dictFind_heap (knd:=tupleKind (z5 X.prog X.w)) (s:={ s with toks:=s.toks+(tupleKind (z5 X.prog X.w)).draws k }) (Rw hu) hkey ho hdat he his hn (fun hno=>?_) fun j p hj=>?_)
 · exfalso
   rw[atKey_none_of_get hno] at hp0
   cases hp0
 · have he':es[j]?=some (entryOfKey (tupleKind (z5 X.prog X.w)) (k,p)):=by rw[entry_at he j,hj];rfl
   have hpp:p=p0:=by
     have:=atKey_of_get hn hj
     rw[hp0] at this
     exact(Qv this).symm
   subst hpp
   dsimp only
   refine Qw (Yo (s:={ s with toks:=s.toks+(tupleKind (z5 X.prog X.w)).draws k }) ho hdat ?_)
   rw[he']
   refine Qw (wpAny_updateDictKeys (hz:=by rw[hes,←hl];exact z) (s:={ s with toks:=s.toks+(tupleKind (z5 X.prog X.w)).draws k }) ho hdat (Qi ?_))
   simp only[Option.isNone_some,Wy,Eb]
   refine Qw (Tq (Qi ⟨_,rfl,?_⟩))
   have er:p.2=w':=hp2
   have ok:ObjOk X.prog X.w (upd H a (.dT (rD kvs k))) (s.heap.update a (Obj.mapDictKeys fun x=>x.eraseIdxIfInBounds j)) a (.dT (rD kvs k)):=by
     refine⟨We (zXD kvs k) z,hd,xs.filter fun x=>decide (x.1≠k),?_,_,_,ep+1,Wc _ ho (Obj.isFreed_of_dict (Tz hdat _)),hc.mapDictKeys _,Tz hdat _,?_,hn.sublist ((Yq).map _)⟩
     · refine(rel.drop k).keeps fun c ys ec=>?_
       rw[zO (zV9 ec ha (fun z=>nomatch z))]
       exact ec
     · rw[←oO hn hj,Array.toList_eraseIdxIfInBounds,he,iS]
   exact⟨v',_,gU I (by rw[ha];exact True.intro) (Tn ..) ⟨_,Wc _ ho (Obj.isFreed_of_dict (Tz hdat _))⟩ ok,by rw[←hp2] at rw';exact rw',q⟩
end
end L2
namespace L2
open PySem PySem.W PySem.Spec PyProof.Rows
section
variable {X:Cx} {a b c e:Expr} {es:List Expr} {fa fb:Ef} {ga:Lf} {pos p p1 p2:Pos} {k:Nat}
def zXx (i:Nat):Sf:=fun ρ=>some (.nx (ρ.set i (.mu (.dct [] []))))
theorem zXU (i:Nat){x:Str}{pos':Pos}(hN:X.N.Nodup)(hi:X.N[i]?=some x:=by rfl)(hx:Loc X.env.scope x:=by first | exact .inl rfl | exact .inr rfl)(hs:swapsWith (.Dict [] [] p) (some (.Name x pos')) pos.line X.env=pure false:=by rfl)
   (hf:X.fn x=true∨X.env.scope.names.lookup x=some .local:=by first | exact .inl rfl | exact .inr rfl):PFS X (.Assign [.Name x pos'] (.Dict [] [] p) pos) (zXx i):=by
 refine PS.to (eS hN hi hx zXn hs hf) ?_
 rintro D σ H ⟨G0,H0,G,ρ,o,good,hf,k⟩
 cases hf
 intro q hq
 have s1:=Step.own (o:=.dT []) good.st.sub hq
 exact k _ _ G s1.gg ((good.step s1).setM i zN (good.st.sub.free hq) (good.st.hh.free hq) ⟨[],rfl,rfl,zM.mpr rfl⟩)
def kC (f:Ef):Ef:=fun ρ=>(f ρ).bind fun d=>match d with | .dct ks _=>some (.int (ks.length:Int)) | _=>none
theorem hZ {K:PySem.W.Frag}{G H:Hp}{ks:List (List Key)}{ds:List D}{v:V}(sub:Same G H)(r:Rep K G (.dct ks ds) v):∃q vs,v = .ref q/\H q=some (.dT (ks.zip vs))/\ks.length=ds.length/\Reps K G ds vs/\(ks.zip vs).length=ks.length:=by
 obtain⟨q,vs,rfl,h1,h2,h3⟩:=hW.mp r
 exact⟨q,vs,rfl,sub _ _ h1,h2,h3,by rw[Ts,←h3.length,←h2];simp⟩
theorem zZX (hg:Gl X "len")(hm:X.mg "len"=none)(h:PF X a fa)(hs:starEach [a] X.env=[(false,eval a X.env)]:=by rfl):PF X (.Call (.Name "len" p) [a] [] pos) (kC fa):=by
 refine PE.to (rT zZq hg hm PySem.boot_len (xF h uJ (by rw[hs];rfl)) (by decide) (by decide) (by rw[hs];rfl) (by rfl)) ?_
 rintro σ H Q ⟨G0,H0,G,ρ,d,good,hf,k⟩
 unfold kC at hf
 obtain⟨x,h1,hf⟩:=Qq.mp hf
 split at hf
 · cases hf
   refine⟨G0,H0,G,ρ,_,good,h1,fun v H1 G1 s1 r1=>?_⟩
   obtain⟨q,vs,rfl,e1,e2,e3,e4⟩:=hZ s1.sub r1
   exact⟨q,_,rfl,e1,k _ _ G1 s1 (zJ.mpr (by rw[e4]))⟩
 · cases hf
def zYr (y:Bool)(fk fd:Ef):Tf:=fun ρ=>(fk ρ).bind fun dk=>(fd ρ).bind fun d=>(zZx dk).bind fun k=>match d with | .dct ks ds=>some ((tD ks ds k).isSome==y) | _=>none
theorem zX3 {y:Bool}{fk fd:Ef}{ρ:List B}{r:Bool}(h:zYr y fk fd ρ=some r):∃dk k ks ds,fk ρ=some dk/\fd ρ=some (.dct ks ds)/\zZx dk=some k/\r=((tD ks ds k).isSome==y):=by
 unfold zYr at h
 obtain⟨dk,h1,h⟩:=Qq.mp h
 obtain⟨d,h2,h⟩:=Qq.mp h
 obtain⟨k,h3,h⟩:=Qq.mp h
 split at h
 · cases h;exact⟨dk,k,_,_,h1,h2,h3,rfl⟩
 · cases h
theorem zYX (hr:Room k X.A)(ha:PF X a fa)(hb:PF X b fb)(hm:behindInMarks .NotIn b=false:=by first | exact zYw _ | (with_unfolding_all rfl)):PFT X (.Compare a [.NotIn] [b] pos) (zYr false fa fb):=by
 have hu:=hr.un
 refine PT.to (zZ8 (zZe (by omega)) ha hb hm) ?_
 rintro σ H Q ⟨G0,H0,G,ρ,c,good,hf,kk⟩
 obtain⟨dk,k,ks,ds,h1,h2,h3,rfl⟩:=zX3 hf
 refine⟨G0,H0,G,ρ,_,good,h1,fun u H1 G1 s1 r1=>⟨G0,H0,G1,ρ,_,good.step s1,h2,fun v H2 G2 s2 r2=>?_⟩⟩
 obtain⟨q,vs,rfl,e1,e2,e3,e4⟩:=hZ s2.sub r2
 obtain⟨b',rfl,e5⟩:=lV h3 (r1.mono s2.gg)
 refine⟨q,b',_,k,rfl,rfl,e1,s2.sub.tup e5,_,rfl,?_⟩
 rw[rH k e2 e3]
 have:=kk _ G2 (s1.trans s2)
 simpa using this
def cP (fd fk:Ef):Ef:=fun ρ=>(fd ρ).bind fun d=>(fk ρ).bind fun dk=>(zZx dk).bind fun k=>match d with | .dct ks ds=>tD ks ds k | _=>none
theorem zWt (hr:Room k X.A)(ha:PF X a fa)(hb:PF X b fb)(hs:fM b:=by exact fun _ _=>rfl):PF X (.Subscript a b pos) (cP fa fb):=by
 have hu:=hr.un
 refine PE.to (zVA (zTh (by omega)) ha hb hs) ?_
 rintro σ H Q ⟨G0,H0,G,ρ,c,good,hf,kk⟩
 unfold cP at hf
 obtain⟨d,h1,hf⟩:=Qq.mp hf
 obtain⟨dk,h2,hf⟩:=Qq.mp hf
 obtain⟨k,h3,hf⟩:=Qq.mp hf
 cases d with
 | dct ks ds =>
   refine⟨G0,H0,G,ρ,_,good,h1,fun u H1 G1 s1 r1=>⟨G0,H0,G1,ρ,_,good.step s1,h2,fun v H2 G2 s2 r2=>?_⟩⟩
   obtain⟨q,vs,rfl,e1,e2,e3,e4⟩:=hZ s2.sub (r1.mono s2.gg)
   obtain⟨b',rfl,e5⟩:=lV h3 r2
   have hv:=kI k e2 e3
   have hf:tD ks ds k=some c:=hf
   rw[hf] at hv
   cases hw:uU (ks.zip vs) k with
   | none=>rw[hw] at hv;exact hv.elim
   | some w=>rw[hw] at hv;exact⟨q,b',_,k,w,rfl,rfl,e1,s2.sub.tup e5,hw,kk _ _ G2 (s1.trans s2) hv⟩
 | _=>cases hf
def zTv:V->V->V->Hp->(Hp->Prop)->Prop:=fun o i v H Q=>∃a b kvs k,o = .ref a/\i = .ref b/\H a=some (.dT kvs)/\H b=some (.tup (k.map kV))/\kvs.length < sizeLine/\Q (upd H a (.dT (pJ kvs k v)))
theorem zT4 (hu:X.A.units+1 < cLine):zT1 X zTv:=by
 intro pins s σ H o i v ov iv u Q I ro ri rv ⟨a,b,kvs,k,e1,e2,h1,h2,h3,q⟩
 subst e1 e2
 cases ro
 exact zZl hu I (DPut.t h1 h2 h3) ri rv fun s' I'=>⟨_,I',q⟩
def dS (i:Nat)(ga:Lf)(fv:Ef):Sf:=fun ρ=>(fv ρ).bind fun e=>((ga ρ).bind okL).bind fun dk=>(eF dk).bind fun k=>match ρ[i]? with
 | some (.mu (.dct ks ds))=>if ks.length<=lim/\xL i 2 ρ=true/\(tD ks ds k).isSome=false then some (.nx (ρ.set i (.mu (.dct (ks++[k]) (ds++[e]))))) else none
 | _=>none
theorem zWh (i:Nat){x:Str}{kk':Nat}(hr:Room k X.A)(he:PF X e fa)(hb:PFA X es ga)(hN:X.N[i]?=some x:=by rfl)(hv:Vis X.env.scope x:=by first | exact Or.inl rfl | exact Or.inr (Or.inl rfl) | exact Or.inr (Or.inr rfl))(hd:(x==("__debug__":Str))=false:=by decide)(hcd:(x==("__classdict__":Str))=false:=by decide)
   (ha:∀v,assign (.Subscript (.Name x p1) (.Tuple es kk' p) p2) X.env v=(do
     let ov ←holding [v] (eval (.Name x p1) X.env)
     let iv ←holding [v,ov] (eval (.Tuple es kk' p) X.env)
     standAt p2
     holding [v,ov,iv] (setItem ov iv v)
     release [v,ov,iv] []):=by intro _;rfl)
   (hs:swapsWithSole [.Subscript (.Name x p1) (.Tuple es kk' p) p2] e pos.line X.env=pure false:=by rfl) (hw:swappedStores [.Subscript (.Name x p1) (.Tuple es kk' p) p2] e X.env=pure none:=by rfl)
   (h1:(assignEach [.Subscript (.Name x p1) (.Tuple es kk' p) p2] X.env).map (·.2)=[assign (.Subscript (.Name x p1) (.Tuple es kk' p) p2) X.env]:=by rfl):PFS X (.Assign [.Subscript (.Name x p1) (.Tuple es kk' p) p2] e pos) (dS i ga fa):=by
 have hu:=hr.un
 refine PS.to (zYA he (zUk (pU hN hv hd hcd) (zXO hb) (zT4 (by omega)) ha) hs hw h1) ?_
 rintro D σ H ⟨G0,H0,G,ρ,o,good,hf,kk⟩
 unfold dS at hf
 obtain⟨de,g1,hf⟩:=Qq.mp hf
 obtain⟨dk,g2,hf⟩:=Qq.mp hf
 obtain⟨dk',g2,g4⟩:=Qq.mp g2
 obtain⟨rfl,g4⟩:=oV g4
 obtain⟨k,g3,hf⟩:=Qq.mp hf
 split at hf
 · rename_i ks ds hi
   split at hf
   · rename_i hc
     obtain⟨hl,ho,hn⟩:=hc
     cases hf
     refine⟨G0,H0,G,ρ,_,good,g1,fun v H1 G1 s1 r1=>?_⟩
     obtain⟨q,oq,e1,e2,e3,e4,e5⟩:=(good.step s1).mu hi
     refine⟨.ref q,e1,G0,H0,G1,ρ,_,good.step s1,g2,fun us H2 G2 s2 r2=>⟨?_,fun b' hb'=>?_⟩⟩
     · rw[←r2.length];exact Wp (wS g4)
     · have eu:=nL g3 r2
       subst eu
       have s3:=Step.own (o:=.tup (k.map kV)) s2.sub hb'
       have gd:=(good.step s1).step (s2.trans s3)
       obtain⟨q',oq',f1,f2,f3,f4,f5⟩:=gd.mu hi
       rw[e1] at f1;cases f1
       obtain⟨vs,rfl,l1,l2⟩:=f5
       have hnk:uU (ks.zip vs) k=none:=by
         have:=rH k l1 l2
         rw[hn] at this
         simpa using this
       refine⟨q,b',_,k,rfl,rfl,f2,zN,?_,?_⟩
       · rw[Ts,←l2.length,←l1,Nat.min_self];exact wS hl
       · rw[zY0 v hnk]
         have ez:ks.zip vs++[(k,v)]=(ks++[k]).zip (vs++[v]):=by rw[List.zip_append (by rw[l1,l2.length])];rfl
         rw[ez]
         refine kk _ _ G2 (s1.gg.trans s2.gg) (gd.wrM hi ho e1 ⟨vs++[v],rfl,by simp[l1],?_⟩)
         exact l2.append (zR.mpr ⟨v,[],rfl,r1.mono s2.gg,zM.mpr rfl⟩)
   · cases hf
 · cases hf
theorem zWy (hr:Room k X.A):MtR X "dict.pop" (zYf X.K):=zWT (by have:=hr.un;omega)
def cY (i:Nat)(fk:Ef):Sf:=fun ρ=>(fk ρ).bind fun dk=>(zZx dk).bind fun k=>match ρ[i]? with
 | some (.mu (.dct ks ds))=>if xL i 2 ρ=true/\(tD ks ds k).isSome=true then some (.nx (ρ.set i (.mu (.dct (ks.filter fun q=>decide (q≠k)) (mQ ks ds k))))) else none
 | _=>none
theorem zVS (i:Nat)(ht:PE X c (tBM X.K "dict" (zYf X.K) (zUt i) (zZU (tF X.K fa) zW9)))(hs:swapsWith c none pos.line X.env=pure false:=by rfl):PFS X (.Expr c pos) (cY i fa):=by
 refine PS.to (zZM ht hs) ?_
 rintro D σ H ⟨G0,H0,G,ρ,o,good,hf,kk⟩
 unfold cY at hf
 obtain⟨dk,g2,hf⟩:=Qq.mp hf
 obtain⟨k,g3,hf⟩:=Qq.mp hf
 split at hf
 · rename_i ks ds hi
   split at hf
   · rename_i hc
     obtain⟨ho,hn⟩:=hc
     cases hf
     obtain⟨q,oq,e1,e2,e3,e4,e5⟩:=good.mu hi
     obtain⟨vs0,rfl,_,_⟩:=e5
     refine⟨.ref q,e1,.inr (.inr (.inl ⟨rfl,.inr ⟨_,e2⟩⟩)),G0,H0,G,ρ,_,good,g2,fun u H1 G1 s1 r1=>?_⟩
     obtain⟨q',oq',f1,f2,f3,f4,f5⟩:=(good.step s1).mu hi
     rw[e1] at f1;cases f1
     obtain⟨vs,rfl,l1,l2⟩:=f5
     obtain⟨b',rfl,e5⟩:=lV g3 r1
     have hv:=rH k l1 l2
     rw[hn] at hv
     obtain⟨w,hw⟩:=Eo.mp hv
     obtain⟨us,a1,a2,a3⟩:=iO k l1 l2
     refine⟨q,b',_,k,w,rfl,rfl,f2,s1.sub.tup e5,hw,?_⟩
     rw[a1]
     exact kk _ _ G1 s1.gg ((good.step s1).wrM hi ho e1 ⟨us,rfl,a2,a3⟩)
   · cases hf
 · cases hf
end
end L2
namespace L2
open PySem PySem.W PySem.Spec PyProof.Rows
def uX (a b:Int×Str):Bool:=decide (a.1 < b.1)||(a.1==b.1&&decide (a.2.cps.toList < b.2.cps.toList))
theorem rF {a b:Int×Str}:uX a b=true↔a.1 < b.1∨(a.1=b.1/\a.2.cps.toList < b.2.cps.toList):=by
 unfold uX
 simp[Re,Wt]
theorem zUg (a:List Nat):¬a < a:=List.lt_irrefl a
theorem zT8 {a b c:List Nat}(h1:a < b)(h2:b < c):a < c:=List.lt_trans h1 h2
theorem zUA {a b c:List Nat}(h:a < c):a < b∨b < c:=by
 rcases Classical.em (a < b) with q | q
 · exact .inl q
 · exact .inr (List.lt_of_le_of_lt (List.not_lt.mp q) h)
theorem zTE {a b:List Nat}(h1:¬a < b)(h2:¬b < a):a=b:=List.le_antisymm (List.not_lt.mp h2) (List.not_lt.mp h1)
theorem dR (a:Int×Str):uX a a=false:=by
 cases h:uX a a
 · rfl
 · rw[rF] at h
   rcases h with h | h
   · omega
   · exact absurd h.2 (zUg _)
theorem zWW {a b c:Int×Str}(h1:uX a b=true)(h2:uX b c=true):uX a c=true:=by
 rw[rF] at *
 rcases h1 with h1 | h1<;>rcases h2 with h2 | h2
 · exact .inl (by omega)
 · exact .inl (by omega)
 · exact .inl (by omega)
 · exact .inr ⟨by omega,zT8 h1.2 h2.2⟩
theorem zYG {a b c:Int×Str}(h:uX a c=true):uX a b=true∨uX b c=true:=by
 simp only[rF] at *
 rcases Int.lt_trichotomy a.1 b.1 with q | q | q
 · exact .inl (.inl q)
 · rcases h with h | h
   · exact .inr (.inl (by omega))
   · rcases zUA (b:=b.2.cps.toList) h.2 with z | z
     · exact .inl (.inr ⟨q,z⟩)
     · exact .inr (.inr ⟨by omega,z⟩)
 · rcases h with h | h
   · exact .inr (.inl (by omega))
   · exact .inr (.inl (by omega))
theorem zVJ {a b:Int×Str}(h1:uX a b=false)(h2:uX b a=false):a=b:=by
 have q1:¬(a.1 < b.1∨(a.1=b.1/\a.2.cps.toList < b.2.cps.toList)):=fun z=>by rw[rF.mpr z] at h1;cases h1
 have q2:¬(b.1 < a.1∨(b.1=a.1/\b.2.cps.toList < a.2.cps.toList)):=fun z=>by rw[rF.mpr z] at h2;cases h2
 have e:a.1=b.1:=by omega
 have e2:a.2.cps.toList=b.2.cps.toList:=zTE (fun z=>q1 (.inr ⟨e,z⟩)) fun z=>q2 (.inr ⟨e.symm,z⟩)
 obtain⟨a1,⟨a2⟩⟩:=a
 obtain⟨b1,⟨b2⟩⟩:=b
 have e3:a2=b2:=Yx.mp e2
 cases e;cases e3;rfl
theorem zX8 (f:Nat->Int×Str):SWO fun i j=>uX (f i) (f j):=⟨fun a=>dR _,fun a b c=>zWW,fun a b c=>zYG⟩
abbrev isZ:Int×Str:=(0,⟨#[]⟩)
abbrev ltP (ps:List (Int×Str))(i j:Nat):Bool:=uX (ps.getD i isZ) (ps.getD j isZ)
def qS (ps:List (Int×Str)):List Nat:=xT (ltP ps) ps.length
theorem vG (ps:List (Int×Str)):(qS ps).Perm (List.range ps.length):=by
 unfold qS xT
 split
 · exact .refl _
 · exact(zZW (zX8 fun i=>ps.getD i isZ) (by omega)).2.pm
def sO (ps:List (Int×Str)):List (Int×Str):=(qS ps).map fun i=>ps.getD i isZ
theorem cG (ps:List (Int×Str)):(sO ps).Perm ps:=by
 unfold sO
 refine((vG ps).map _).trans ?_
 rw[wU]
theorem bY (ps:List (Int×Str)):(qS ps).Pairwise fun i j=>ltP ps j i=false:=by
 unfold qS xT
 split
 · rename_i h
   match ps,h with
   | [],_=>exact List.Pairwise.nil
   | [_],_=>exact List.pairwise_singleton _ _
   | _::_::_,h=>simp at h;omega
 · rename_i h
   have W:=zX8 fun i=>ps.getD i isZ
   obtain⟨a1,a2⟩:=zZW W (N:=ps.length) (by omega)
   rw[List.pairwise_iff_getElem]
   intro i j hi hj hij
   generalize evT (ltP ps) (kas_sort ps.length)=pp at *
   have hN:pp.toList.length=ps.length:=by rw[a2.pm.length_eq,Yp]
   have g1:∀k (hk:k < pp.toList.length),gg pp k=pp.toList[k]:=fun k hk=>by
     rw[qH]
     have:k < pp.size:=by simpa using hk
     simp[this]
   have:=Lx.le W (a1 i j hij (by omega))
   rw[g1 i hi,g1 j hj] at this
   exact this
theorem qK (ps:List (Int×Str)):(sO ps).Pairwise fun a b=>uX b a=false:=by
 unfold sO
 rw[List.pairwise_map]
 exact bY ps
def zYF (h:Heap)(p:Int×Str)(u:Value):Prop:=∃a o n t t',u = .ref a/\h.get? a=some o/\o.cls = .type "tuple"/\o.data = .seq #[.int p.1 t,.str p.2 t'] n
theorem zYz {h:Heap}:∀ {ps:List (Int×Str)} {us:List Value},Paired (zYF h) ps us->∃fs:List Value,KatTups h us fs/\fs.length=us.length/\∀v∈fs,∃i t,v=Value.int i t
 | _,_,.nil=>⟨[],KatTups.nil,rfl,fun _ h=>nomatch h⟩
 | _,_,.cons r t=>by
   obtain⟨a,o,n,t1,t2,rfl,e,c,d⟩:=r
   obtain⟨fs,q1,q2,q3⟩:=zYz t
   refine⟨_::fs,KatTups.cons e c d rfl q1,by simp[q2],fun v hv=>?_⟩
   rcases Qh.mp hv with rfl | hv
   · exact⟨_,_,rfl⟩
   · exact q3 v hv
section
variable {P:Program} {w:World} {A:Around} {s:Shared}
theorem aB {ps:List (Int×Str)}{us:List Value}(hp:Paired (zYF s.heap) ps us)(h2:2<=us.length):∃κ,(∀(E':Value->Shared->Prop) Q,Q κ s->wpAny (model P w) A (keyKind' us.toArray) Q E' s) /\
   ∀i j C,i < us.length->j < us.length->C (ltP ps i j) s->kas_ask P w A κ us i j C s:=by
 obtain⟨fs,q1,q2,q3⟩:=zYz hp
 have hl:ps.length=us.length:=Er hp
 refine⟨tuples' ((Value.type "int") != Value.type "tuple"),fun E' Q' hQ=>kat_kind q1 (by omega) (fun v hv=>?_) rfl hQ,fun i j C hi hj hC=>?_⟩
 · obtain⟨n,t,rfl⟩:=q3 v hv
   exact Looks.of_pure rfl
 · obtain⟨a,o,n,t1,t2,ea,e,c,d⟩:=w4 (i:=i) (da:=isZ) (db:=Value.none) hp (by omega)
   obtain⟨b,o',n',t3,t4,eb,e',c',d'⟩:=w4 (i:=j) (da:=isZ) (db:=Value.none) hp (by omega)
   have hC:C (uX (ps.getD i isZ) (ps.getD j isZ)) s:=hC
   generalize ps.getD i isZ=x at *
   generalize ps.getD j isZ=y at *
   unfold kas_ask
   rw[ea,eb]
   refine kat_lt e d e' d' ?_
   show KatLex _ _ _ _ _ _ [(Value.int x.1 t1,Value.int y.1 t3),(Value.str x.2 t2,Value.str y.2 t4)] 0 _
   refine kat_cons (wpAny_eqBool_int ?_)
   by_cases h1:x.1=y.1
   · have e1:(x.1==y.1)=true:=by simp[h1]
     rw[e1]
     refine kat_yes (kat_cons (wpAny_eqBool_str ?_))
     by_cases h3:x.2=y.2
     · have e2:decide (x.2=y.2)=true:=by simp[h3]
       rw[e2]
       refine kat_yes (kat_nil ?_)
       have e3:x=y:=Prod.ext h1 h3
       rw[e3,dR] at hC
       simpa using hC
     · have e2:decide (x.2=y.2)=false:=by simp[h3]
       rw[e2]
       refine kat_no ?_
       refine kat_one _ _ (lt_str ?_)
       have e3:uX x y=decide (x.2.cps.toList < y.2.cps.toList):=by unfold uX;simp[h1]
       rw[e3] at hC
       exact hC
   · have e1:(x.1==y.1)=false:=by simp[h1]
     rw[e1]
     refine kat_no ?_
     refine oneLt_int ?_
     have e3:uX x y=decide (x.1 < y.1):=by unfold uX;simp[h1]
     rw[e3] at hC
     exact hC
abbrev isK (p:Int×Str):List Key:=[.inl p.1,.inr p.2]
variable {X:Cx} {pins:List (Addr×Obj)} {σ:St} {H:Hp}
theorem zV7 {h':Heap}(I:Inv X pins σ H s)(k:∀b o,s.heap.get? b=some o->h'.get? b=some o){p:Int×Str}{b:Addr}(e:SqT X.K H b [.int p.1,.str p.2]):zYF h' p (.ref b):=by
 obtain⟨its,rv,⟨o,e,c,n,d⟩,_⟩:=I.tuple e
 obtain⟨u1,r1,e1,r2⟩:∃u1 r1,its=u1::r1/\RelV (.int p.1) u1/\Vals [.str p.2] r1:=by cases rv with | cons x y=>exact⟨_,_,rfl,x,y⟩
 obtain⟨u2,e2,r3⟩:∃u2,r1=[u2]/\RelV (.str p.2) u2:=by cases r2.2 with | cons x y=>cases y;exact⟨_,rfl,x⟩
 obtain⟨t,rfl⟩:=r2.1
 obtain⟨t',rfl⟩:=r3
 subst e1;subst e2
 exact⟨b,o,n,t,t',rfl,k _ _ e,c,d⟩
theorem aY (hc:X.calm=true):CallR X (.builtin "sorted") (fun xs H Q=>∃(q:Addr) (kvs:List (List Key×V)) (ps:List (Int×Str)),xs=[V.ref q]/\H q=some (.dT kvs)/\kvs.map (·.1)=ps.map isK/\ps.length < 64 /\
   ∀l (bs:List Addr),H l=none->Paired (fun p b=>H b=some (.tup [.int p.1,.str p.2])) ps bs->Q (.ref l) (upd H l (.lst ((qS ps).map fun i=>.ref (bs.getD i 0))))):=by
 intro pins s σ H xs us Q I r h
 obtain⟨q,kvs,ps,rfl,hq,hk,h64,k⟩:=h
 obtain⟨u,rfl,ru⟩:=jC r
 cases ru
 obtain⟨z,hd,xs,rel,dd⟩:=iT I.hok hq
 obtain⟨o,es,ep,ho,hx,hdat,he,his,hn⟩:=dd
 have hb:Paired (fun p b=>H b=some (.tup [.int p.1,.str p.2])) ps (xs.map (·.2.1)):=by
   clear ho hx hdat he his hn hq z k h64
   induction rel generalizing ps with
   | nil =>
     cases ps with
     | nil=>exact .nil
     | cons _ _=>cases hk
   | @cons p x ps' xs' h t ih =>
     cases ps with
     | nil=>cases hk
     | cons y r =>
       rw[Qp,Qp] at hk
       injection hk with hk1 hk2
       refine .cons ?_ (ih r hk2)
       have:=h.2.1
       rw[hk1] at this
       exact this
 have hl:(xs.map (·.2.1)).length=ps.length:=(Er hb).symm
 have hz:es.size=ps.length:=by rw[Uw he,←hl];simp
 have hkeys:es.toList.map (·.key)=(xs.map (·.2.1)).map Value.ref:=by rw[he,Em,Em];rfl
 have hat:∀h':Heap,(∀b o,s.heap.get? b=some o->h'.get? b=some o)->Paired (zYF h') ps ((xs.map (·.2.1)).map Value.ref):=by
   intro h' kp
   clear hl hz hkeys k hk h64
   generalize xs.map (·.2.1)=bs at hb
   induction hb with
   | nil=>exact .nil
   | cons h t ih=>exact .cons (zV7 I kp (.inl (.inl h))) ih
 refine zZ0 (lt:=ltP ps) (I.ok.hd hc) ⟨o,ho,hx,hdat⟩ hd (by omega) (fun h2 h' tk kp=>?_) fun h1 h' tk n k1 k2 hn'=>?_
 · have:=aB (P:=X.prog) (w:=X.w) (A:=X.A.in1.in1) (s:={ s with heap:=h',toks:=tk }) (hat h' kp) (by rw[Qa,hl,←hz];exact h2)
   rw[hkeys,hz]
   rw[Qa,hl] at this
   exact this
 · have I1:Inv X pins σ H { s with heap:=h1,toks:=tk }:=I.kept k1
   have fr:H h1.objs.size=none:=I1.hok.fresh (Qz _)
   rw[hkeys,hz] at hn'
   have hpm:=vG ps
   have vals:Vals ((qS ps).map fun i=>V.ref ((xs.map (·.2.1)).getD i 0)) ((xT (ltP ps) ps.length).map fun i=>((xs.map (·.2.1)).map Value.ref).getD i Value.none):=by
     show Vals ((qS ps).map _) ((qS ps).map _)
     generalize xs.map (·.2.1)=bs at hl
     have key:∀l:List Nat,(∀i∈l,i < bs.length)->Vals (l.map fun i=>V.ref (bs.getD i 0)) (l.map fun i=>(bs.map Value.ref).getD i Value.none):=by
       intro l
       induction l with
       | nil=>intro _;exact .nil
       | cons i r ih =>
         intro hh
         refine .cons ?_ (ih fun j hj=>hh j (by simp[hj]))
         have hi:i < bs.length:=hh i (by simp)
         show(bs.map Value.ref).getD i Value.none=Value.ref (bs.getD i 0)
         simp[hi]
     exact key _ fun i hi=>by rw[hl];simpa using hpm.subset hi
   have I2:=I1.laid (t':=tk) (h':=h') (a:=h1.objs.size) (o:=.lst ((qS ps).map fun i=>V.ref ((xs.map (·.2.1)).getD i 0))) k2 (Qz _)
     ⟨by rw[Qa,hpm.length_eq,Yp];exact Wp (wS (by show ps.length<=100000;omega)),_,n,vals,by simpa [seqObj] using hn'⟩
   exact⟨.ref _,_,I2,rfl,k _ _ fr hb⟩
end
def dIS (p:Int×Str):D:=.tup [.int p.1,.str p.2]
def zU4:List Key->Option (Int×Str) | [.inl i,.inr z]=>some (i,z) | _=>none
def nA:List (List Key)->Option (List (Int×Str))
 | []=>some []
 | k::r=>(zU4 k).bind fun p=>(nA r).map (p::·)
theorem zVD {k:List Key}{p:Int×Str}(h:zU4 k=some p):k=isK p:=by
 unfold zU4 at h
 split at h
 · cases h;rfl
 · cases h
theorem cV:∀ {ks:List (List Key)} {ps:List (Int×Str)},nA ks=some ps->ks=ps.map isK
 | [],_,h=>by cases h;rfl
 | k::r,ps,h=>by
   unfold nA at h
   obtain⟨p,h1,h⟩:=Qq.mp h
   obtain⟨qs,h2,rfl⟩:=Qt.mp h
   rw[zVD h1,cV h2];rfl
theorem jG:∀ps:List (Int×Str),nA (ps.map isK)=some ps
 | []=>rfl
 | p::r=>by
   have:=jG r
   simp only[Qp,nA,this]
   rfl
theorem eO {G H:Hp}(s:Same G H):∀ {ps:List (Int×Str)} {bs:List Addr},Paired (fun p b=>H b=some (.tup [.int p.1,.str p.2])) ps bs->∃G',Step G H G' H/\Paired (fun p b=>G' b=some (.tup [.int p.1,.str p.2])) ps bs
 | _,_,.nil=>⟨G,.refl s,.nil⟩
 | _,_,.cons h t=>by
   obtain⟨G1,s1,r1⟩:=eO s t
   have s2:=Step.adopt s1.sub h
   exact⟨_,s1.trans s2,.cons zN (Paired.mapP r1 fun p b e=>s2.gg _ _ e)⟩
def fG (fd:Ef):Lf:=fun ρ=>(fd ρ).bind fun d=>match d with | .dct ks _=>(nA ks).bind fun ps=>if ps.length < 64 then some ((sO ps).map dIS) else none | _=>none
section
variable {X:Cx} {a:Expr} {fa:Ef} {p pos:Pos}
theorem zWX {α β:Type}:∀ {ks:List α} {vs:List β},ks.length=vs.length->(ks.zip vs).map (·.1)=ks:=fun h=>List.map_fst_zip (by omega)
theorem zXu (hc:X.calm=true)(hg:Gl X "sorted")(hm:X.mg "sorted"=none)(h:PF X a fa)(hs:starEach [a] X.env=[(false,eval a X.env)]:=by rfl):PFr X (.Call (.Name "sorted" p) [a] [] pos) (fG fa):=by
 refine PE.toR (rT (aY hc) hg hm (by rfl) (xF h uJ (by rw[hs];rfl)) (by decide) (by decide) (by rw[hs];rfl) (by rfl)) ?_
 rintro σ H Q ⟨G0,H0,G,ρ,ds',good,hf,k⟩
 unfold fG at hf
 obtain⟨d,h1,hf⟩:=Qq.mp hf
 cases d with
 | dct ks ds =>
   obtain⟨ps,h2,hf⟩:=Qq.mp (show(nA ks).bind _=some ds' from hf)
   split at hf
   · rename_i h64
     cases hf
     refine⟨G0,H0,G,ρ,_,good,h1,fun v H1 G1 s1 r1=>?_⟩
     obtain⟨q,vs,rfl,e1,e2,e3,e4⟩:=hZ s1.sub r1
     have ek:=cV h2
     refine⟨q,_,ps,rfl,e1,by rw[zWX (by rw[e2,e3.length]),ek],h64,fun l bs hl hb=>?_⟩
     obtain⟨G2,s2,r2⟩:=eO s1.sub hb
     have st:=s1.trans s2
     refine k l _ _ G2 (st.trans (Step.own st.sub hl)) (s1.hh.free hl) zN (st.sub.free hl) ?_
     unfold sO
     rw[Em]
     have hp:=vG ps
     have hbl:ps.length=bs.length:=Er hb
     have key:∀l:List Nat,(∀i∈l,i < ps.length)->Reps X.K G2 (l.map (dIS ∘ fun i=>ps.getD i isZ)) (l.map fun i=>V.ref (bs.getD i 0)):=by
       intro l
       induction l with
       | nil=>intro _;exact zM.mpr rfl
       | cons i r ih =>
         intro hh
         refine zR.mpr ⟨_,_,rfl,?_,ih fun j hj=>hh j (by simp[hj])⟩
         have:=w4 (i:=i) (da:=isZ) (db:=0) r2 (hh i (by simp))
         exact xZ.mpr ⟨_,_,rfl,.inl (.inl this),zR.mpr ⟨_,_,rfl,zJ.mpr rfl,zR.mpr ⟨_,_,rfl,yS.mpr rfl,zM.mpr rfl⟩⟩⟩
     exact key _ fun i hi=>by simpa using hp.subset hi
   · cases hf
 | _=>cases hf
end
end L2
namespace L2
open PySem PySem.Spec PyProof.Rows
structure FlyV (h:Heap)(H:Hp)(h0:Heap)(C a:Addr)(od:Option Addr):Prop where
 ob:∃vs v,h.get? a=some { cls:=.ref C,dict:=od,data:=.fields vs,slots:=#[] }/\vs[1]?=some v/\fN h a v/\∀T,v = .ref T->H T=none/\h0.get? T=none
 tr:H a=some (.ext (Xe C a od))
 new:h0.get? a=none
theorem zZc {X:Cx}{st:Stmt}{rest:List Stmt}{B f g:Sf}(e:B=zH f g)(h1:PFS X st f)(h2:PFSs X rest g):PFSs X (st::rest) B:=by
 subst e
 exact wJ h1 h2
theorem zV {X:Cx}{st:Stmt}{rest:List Stmt}(B:Sf){f g:Sf}(e:B=zH f g)(h1:PFS X st f)(h2:PFSs X rest g):PFSs X (st::rest) B:=zZc e h1 h2
structure FnT (K:PySem.W.Frag)(mg:Str->Option Value)(x:Str)(st:Stmt)(ps:List Str) where
 f:Addr
 fd:FuncData
 F:Fun K x x st f fd
 b:Binds K fd ps []
 m:mg x=some (.ref f)
def tU (K:PySem.W.Frag)(x:Str)(st:Stmt):Prop:=∃(f:Addr) (od an:Option Addr) (sl:Array (Option Value)) (oc kV dc pm cd ct:Value),PySem.W.nsIn K mainGlobals x=some (some (.ref f))/\K.lookup f=some ⟨oc,od,.func (PySem.W.fnOf x x (zK st) (zQ st) (zX st) .none kV dc pm an cd ct),sl⟩/\PySem.W.codeIn K cd x=true/\PySem.W.keepIn K (.ref f)=true
abbrev fnQ (x:Str)(st:Stmt)(kV dc pm:Value)(an:Option Addr)(cd ct:Value):FuncData:=PySem.W.fnOf x x (zK st) (zQ st) (zX st) .none kV dc pm an cd ct
def Bd (x:Str)(st:Stmt)(ps:List Str):Prop:=∀(kV doc pm:Value) (an:Option Addr) (cdv ct:Value) (us:List Value),us.length=ps.length->bindArgs (fnQ x st kV doc pm an cdv ct) ⟨us,[]⟩=pure (ps.zip us)
section
variable {x a b c:Str} {st:Stmt}
theorem bd1 (h:∀kV dc pm an cd ct u,bindArgs (fnQ x st kV dc pm an cd ct) ⟨[u],[]⟩=pure [(a,u)]):Bd x st [a]:=fun _ _ _ _ _ _ us hl=>match us,hl with | [_],_=>h _ _ _ _ _ _ _
theorem bd2 (h:∀kV dc pm an cd ct u v,bindArgs (fnQ x st kV dc pm an cd ct) ⟨[u,v],[]⟩=pure [(a,u),(b,v)]):Bd x st [a,b]:=fun _ _ _ _ _ _ us hl=>match us,hl with | [_,_],_=>h _ _ _ _ _ _ _ _
theorem bd3 (h:∀kV dc pm an cd ct u v z,bindArgs (fnQ x st kV dc pm an cd ct) ⟨[u,v,z],[]⟩=pure [(a,u),(b,v),(c,z)]):Bd x st [a,b,c]:=fun _ _ _ _ _ _ us hl=>match us,hl with | [_,_,_],_=>h _ _ _ _ _ _ _ _ _
variable {K:PySem.W.Frag} {h:Heap} {mg:Str->Option Value} {ps:List Str}
def tK (X:K.In h)(G:h.Ns mainGlobals mg)(g:tU K x st)(hb:Bd x st ps):FnT K mg x st ps:=Classical.choice (by
 obtain⟨f,od,an,sl,oc,kV,dc,pm,cd,ct,a,l,c,k⟩:=g
 exact⟨⟨f,_,rE l c k,(rE l c k).binds hb,PySem.W.mg_of X G a⟩⟩)
theorem zVb {P:Program}{w:World}{k:Nat}{sp:Sp}{p:Str}{fa:Addr}(t:FnT K mg x st [p])(hb:Bd x st [p])(hfa:mg x=some (.ref fa))(ok:∀base:Heap,FnOk P w K mg base CX0 k t.f t.fd [p] sp) :
   ∃fd:FuncData,(∀(s:Shared) (v:Value),BindsTo s fd ⟨[v],[]⟩ [(p,v)])/\∀base:Heap,K.In base->base.Ns mainGlobals mg->FnOk P w K mg base CX0 k fa fd [p] sp:=by
 have e:=hfa.symm.trans t.m
 cases e
 refine⟨t.fd,fun s v=>?_,fun base _ _=>ok base⟩
 obtain⟨oc,od,kV,doc,pm,an,cdv,ct,osl,e,lk,hcd⟩:=t.F.ex
 rw[e]
 exact .of_eq (hb kV doc pm an cdv ct [v] rfl)
end
abbrev OkT (P:Program)(w:World)(base:Heap){K:PySem.W.Frag}{mg:Str->Option Value}{x:Str}{st:Stmt}{ps:List Str}(t:FnT K mg x st ps)(k n:Nat)(d:List D->Option D):Prop:=FnOk P w K mg base CX0 k t.f t.fd ps (spF K n d)
section
variable {X:Cx} {e:Expr} {es:List Expr} {ga:Lf} {pos p:Pos} {x:Str} {st:Stmt} {ps:List Str}
theorem xX {j k n:Nat}{t:FnT X.K X.mg x st ps}{fD:List D->Option D}(F:FnOk X.prog X.w X.K X.mg X.base CX0 j t.f t.fd ps (spF X.K n fD))(hr:Room k X.A)(ha:PFA X (e::es) ga)(hj:j<=k:=by omega)(hg:Gl X x:=by rfl)(hdb:(x==("__debug__":Str))=false:=by decide)(he:starEach (e::es) X.env=(false,eval e X.env)::starEach es X.env:=by rfl)(hpl:(backTo pos (starEach es X.env)).any (·.1)=false:=by rfl) :
   PF X (.Call (.Name x p) (e::es) [] pos) (zI n fD ga):=zWc F (hr.mono hj) t.m t.F.kp t.b hg ha hdb he hpl
end
theorem yF {N P:List Str}{sc:Scope}(h:(sc.kind == .function && !sc.isCoroutine && !sc.isGenerator&&decide (N.take P.length=P)&&decide N.Nodup&&decide (∀x∈P,sc.names.lookup x=some .local∨sc.names.lookup x=some .cell)&&decide (∀y∈sc.names,y.2 ≠ .free))=true):FnScope N P sc:=by
 simp only[Wt,Wn,Bool.not_eq_true'] at h
 obtain⟨⟨⟨⟨⟨⟨h1,h2⟩,h3⟩,h4⟩,h5⟩,h6⟩,h7⟩:=h
 refine⟨?_,h2,h3,h5,h4,h6,h7⟩
 generalize sc.kind=k at h1
 cases k<;>first | rfl | cases h1
end L2
namespace L2
open PySem PySem.W PySem.Spec PyProof.Rows
def zWu:D->Option (Int×Str) | .tup [.int i,.str z]=>some (i,z) | _=>none
theorem zWq {d:D}{p:Int×Str}(h:zWu d=some p):d=dIS p:=by
 unfold zWu at h
 split at h
 · cases h;rfl
 · cases h
def lP (f:List D->Option D):List D->Option (List (Int×Str))
 | []=>some []
 | d::r=>((f [d]).bind zWu).bind fun p=>(lP f r).map (p::·)
theorem iH {f:List D->Option D}:∀ {ds:List D} {ps:List (Int×Str)},lP f ds=some ps->ps.length=ds.length
 | [],_,h=>by cases h;rfl
 | d::r,ps,h=>by
   unfold lP at h
   obtain⟨p,h1,h⟩:=Qq.mp h
   obtain⟨qs,h2,rfl⟩:=Qt.mp h
   rw[Qs,Qs,iH h2]
theorem cA {f:List D->Option D}:∀ {ds:List D} {ps:List (Int×Str)} {i:Nat} {d:D},lP f ds=some ps->ds[i]?=some d->∃p,ps[i]?=some p/\f [d]=some (dIS p)
 | [],_,_,_,_,e=>by simp at e
 | d::r,ps,i,d',h,e=>by
   unfold lP at h
   obtain⟨p,h1,h⟩:=Qq.mp h
   obtain⟨qs,h2,rfl⟩:=Qt.mp h
   obtain⟨x,h3,h4⟩:=Qq.mp h1
   cases i with
   | zero=>cases e;exact⟨p,rfl,by rw[h3,zWq h4]⟩
   | succ i=>exact cA (i:=i) h2 (by simpa using e)
def kX (f:List D->Option D)(g:Lf):Lf:=fun ρ=>(g ρ).bind fun ds=>(lP f ds).bind fun ps=>if ps.length < 64 then some ((qS ps).map fun i=>ds.getD i .non) else none
theorem Vals.at {x:Value}:∀ {vs:List V} {us:List Value} {i:Nat},Vals vs us->us[i]?=some x->∃v,vs[i]?=some v/\RelV v x
 | _,_,_,.nil,e=>by simp at e
 | _,_,0,.cons r _,e=>by cases e;exact⟨_,rfl,r⟩
 | _,_,i+1,.cons _ t,e=>Vals.at (i:=i) t (by simpa using e)
theorem Reps.at {K:PySem.W.Frag}{G:Hp}{v:V}:∀ {ds:List D} {vs:List V} {i:Nat},Reps K G ds vs->vs[i]?=some v->∃d,ds[i]?=some d/\Rep K G d v
 | [],vs,i,h,e=>by rw[zM] at h;subst h;simp at e
 | d::ds,vs,i,h,e=>by
   obtain⟨v',vr,rfl,r1,r2⟩:=zR.mp h
   cases i with
   | zero=>cases e;exact⟨d,rfl,r1⟩
   | succ i=>exact Reps.at (i:=i) r2 (by simpa using e)
theorem zYh {X:Cx}{pins:List (Addr×Obj)}{σ:St}{G H:Hp}{s:Shared}(I:Inv X pins σ H s)(sub:Same G H):∀ {ps:List (Int×Str)} {vs:List V} {us:List Value},Reps X.K G (ps.map dIS) vs->Vals vs us->Paired (zYF s.heap) ps us
 | [],vs,us,h,r=>by rw[List.map_nil,zM] at h;subst h;cases r;exact .nil
 | p::ps,vs,us,h,r=>by
   rw[Qp] at h
   obtain⟨v',vr,rfl,r1,r2⟩:=zR.mp h
   cases r with
   | cons w1 w2 =>
     refine .cons ?_ (zYh I sub r2 w2)
     obtain⟨b,us',rfl,q1,q2⟩:=xZ.mp r1
     cases w1
     obtain⟨_,_,rfl,a1,a2⟩:=zR.mp q2
     obtain⟨_,_,rfl,a3,a4⟩:=zR.mp a2
     rw[zM] at a4;subst a4
     rw[zJ] at a1;rw[yS] at a3
     subst a1 a3
     exact zV7 I (fun _ _ e=>e) (sub.tup q1)
section
variable {X:Cx} {a:Expr} {ga:Lf} {p p1 pos kp:Pos} {x y:Str} {st:Stmt} {j k:Nat} {fD:List D->Option D}
theorem zYH {t:FnT X.K X.mg x st [y]}(F:FnOk X.prog X.w X.K X.mg X.base CX0 j t.f t.fd [y] (spF X.K 1 fD))(hr:Room k X.A)(hg:Gl X "sorted")(hm:X.mg "sorted"=none)(h:zYZ X a ga)(hj:j+2<=k:=by omega)(hgx:Gl X x:=by rfl)(hdb:(x==("__debug__":Str))=false:=by decide)
   (hs:starEach [a] X.env=[(false,eval a X.env)]:=by rfl):PFr X (.Call (.Name "sorted" p) [a] [⟨some "key",.Name x p1,kp⟩] pos) (kX fD ga):=by
 intro pins s σ H Q I h0
 obtain⟨G0,H0,G,ρ,ds',good,hf,K⟩:=h0
 unfold kX at hf
 obtain⟨ds,f1,hf⟩:=Qq.mp hf
 obtain⟨ps,f2,hf⟩:=Qq.mp hf
 split at hf
 case isFalse=>cases hf
 rename_i h64
 cases hf
 have hlen:=iH f2
 refine Ey (nI I hg hm (u:=.builtin "sorted") (by rfl) ?_ (by decide) (by decide))
 refine callWith_kw ?_ (by first | rfl | (rw[hs];rfl)) (by first | rfl | (rw[hs];rfl)) (by first | rfl | (rw[hs];rfl)) (by first | rfl | (rw[hs];rfl))
 refine spliced_more (thn (h pins s σ H (fun v H1=>∃r vs G1,v = .ref r/\Step G H G1 H1/\SqL X.K G1 r vs/\Reps X.K G1 ds vs) I ?_) fun u s1 ⟨v,H1,I1,rv,r,vs,G1,e,st1,hr1,rs1⟩=>?_) (by rw[hs];rfl)
 · exact⟨G0,H0,G,ρ,ds,good,f1,fun r vs H1 G1 s1 q1 q2=>⟨r,vs,G1,rfl,s1,q1,q2⟩⟩
 subst e
 cases rv
 refine spliced_none ?_
 refine kws_cons (rB I1 hgx t.m ?_ hdb)
 refine kws_nil ?_
 obtain⟨its,rvl,pl,hz⟩:=I1.list (st1.sub.seq hr1)
 have hvl:vs.length=its.length:=rvl.length
 have hdl:ds.length=vs.length:=rs1.length
 refine iA (lt:=ltP ps) (fun m ws H'=>∃G' kvs,Step G1 H1 G' H'/\Reps X.K G' ((ps.take m).map dIS) kvs/\Vals kvs ws) pl.isList (by omega) I1 ⟨G1,[],.refl st1.sub,by rw[Uy];exact zM.mpr rfl,.nil⟩ ?step ?asks ?fin
 case step =>
   intro m x' ws H' s' pins' hx hJ I'
   obtain⟨G',kvs,st,rk,iw⟩:=hJ
   obtain⟨v,ev,rvx⟩:=rvl.at hx
   obtain⟨d,ed,rd⟩:=rs1.at ev
   obtain⟨q,eq,fq⟩:=cA f2 ed
   have hb:=t.b s' [x'] I'.kIn rfl
   refine Yt (Rl (F.run X.A.in1.in1 X.stack s' H' ⟨[x'],[]⟩ [x'] [v] (fun v' H''=>∃G'',Step G' H' G'' H''/\Rep X.K G'' (dIS q) v') E0 ((hr.mono hj).in1.in1) I'.env0.in1.in1 (by simpa using hb) (.cons rvx .nil) ?_) fun r s'' hq=>?_)
   · exact⟨G',[d],dIS q,st.sub,zR.mpr ⟨v,[],rfl,rd.mono st.gg,zM.mpr rfl⟩,rfl,fq,fun v' H'' G'' s'' r=>⟨G'',s'',r⟩⟩
   · cases r with
     | error e=>exact False.elim hq
     | ok fl =>
       cases fl with
       | ret u =>
         obtain⟨v',H'',I'',rv',G'',st'',rp⟩:=I'.after hq
         refine⟨H'',I'',G'',kvs++[v'],st.trans st'',?_,jJ iw rv'⟩
         rw[List.take_succ,eq,Rg]
         exact(rk.mono st''.gg).append (zR.mpr ⟨v',[],rfl,rp,zM.mpr rfl⟩)
       | next=>exact False.elim hq
       | brk=>exact False.elim hq
       | cont=>exact False.elim hq
 case asks =>
   intro ws H' s' pins' hJ hw I' h2
   obtain⟨G',kvs,st,rk,iw⟩:=hJ
   rw[List.take_of_length_le (by omega)] at rk
   have:=aB (P:=X.prog) (w:=X.w) (A:=X.A.in1.in1) (zYh I' st.sub rk iw) (by omega)
   rw[hw] at this
   exact this
 case fin =>
   intro ws H' D s' hJ hD hI
   obtain⟨G',kvs,st,rk,iw⟩:=hJ
   have stp:Step G H G' H':=st1.trans st
   have hpm:=vG ps
   have en:its.length=ps.length:=by omega
   rw[en] at hI
   have vals:Vals ((qS ps).map fun i=>vs.getD i .non) ((qS ps).map fun i=>its.getD i Value.none):=by
     have key:∀l:List Nat,(∀i∈l,i < vs.length)->Vals (l.map fun i=>vs.getD i .non) (l.map fun i=>its.getD i Value.none):=by
       intro l
       induction l with
       | nil=>intro _;exact .nil
       | cons i r ih=>intro hh;exact .cons (w4 rvl (hh i (by simp))) (ih fun j hj=>hh j (by simp[hj]))
     exact key _ fun i hi=>(by have:i < ps.length:=(by simpa using hpm.subset hi);omega)
   refine⟨.ref D,_,hI (.lst ((qS ps).map fun i=>vs.getD i .non)) fun h' ⟨c3,e3⟩=>?_,rfl,?_⟩
   · refine⟨?_,_,c3,vals,e3⟩
     rw[Qa,hpm.length_eq,Yp]
     exact Wp (wS (by show ps.length<=100000;omega))
   · refine K D _ _ G' (stp.trans (Step.own stp.sub hD)) (stp.hh.free hD) zN (stp.sub.free hD) ?_
     have rs:=rs1.mono st.gg
     have key:∀l:List Nat,(∀i∈l,i < vs.length)->Reps X.K G' (l.map fun i=>ds.getD i .non) (l.map fun i=>vs.getD i .non):=by
       intro l
       induction l with
       | nil=>intro _;exact zM.mpr rfl
       | cons i r ih =>
         intro hh
         have hi:i < vs.length:=hh i (by simp)
         obtain⟨d,ed,rd⟩:=rs.at (i:=i) (v:=vs[i]) (by simp[hi])
         refine zR.mpr ⟨_,_,rfl,?_,ih fun j hj=>hh j (by simp[hj])⟩
         show Rep X.K G' (ds.getD i .non) (vs.getD i .non)
         rw[Ev,Ev,ed]
         simpa [hi] using rd
     exact key _ fun i hi=>(by have:i < ps.length:=(by simpa using hpm.subset hi);omega)
end
end L2
namespace L2
open PySem PySem.Spec PyProof.Rows
section
variable {prog:Program} {w:World} {A:Around} {E:Value->Shared->Prop} {s:Shared}
theorem iD (a d:Value):argsOk "max" ⟨[a],[("default",d)]⟩:=by unfold argsOk;kernel_rfl
theorem zWM {l:Addr}{d:Value}{Q:Value->Shared->Prop}(hh:A.handled=none)(hl:s.heap.IsList l #[])(h:∀h' tk,(∀b o,s.heap.get? b=some o->h'.get? b=some o)->Q d { s with heap:=h',toks:=tk }) :
   wpAny (model prog w) A (call (.builtin "max") [.ref l] [("default",d)]) Q E s:=by
 have hname:(toString "max"++toString ".loop":String)="max.loop":=by decide
 refine sJ F.kind_max F.plain_max F.entry_max (iD _ _) ?_
 show wpAny _ A.in1 (Builtin.Builtins.bindParams "max" ["key","default"] 0 ⟨[],[("default",d)]⟩ >>= _) _ _ s
 refine Qw (wpAny_of_eq (show Builtin.Builtins.bindParams "max" ["key","default"] 0 ⟨[],[("default",d)]⟩=pure [none,some d] from rfl) ?_)
 refine Qw (Qi ?_)
 refine Qw (Yr hl ?_)
 refine Qw (Ru ?_)
 rw[hname]
 have hne:l≠s.heap.objs.size:=by obtain⟨_,e,_⟩:=hl;exact Qb (Qu e)
 refine Qi ⟨Rp F.plain_max_loop _,Ez F.entry_max_loop ?_⟩
 rw[Eu F.plain_max_loop _]
 show wpAny _ A.in1 (seqItems? (.ref _) >>= _) _ _ _
 refine Qw (Tc (Qd _ rfl) rfl ?_)
 have W:=Walks.list (prog:=prog) (w:=w) (A:=A.in1) hh s.heap.objs.size l hne #[]
 refine Qw (Rx (W.done _ _ _ ⟨⟨_,Qr _ (Qd _ rfl),rfl,rfl⟩,(hl.push _).push _⟩ fun h' tk hk=>?_))
 refine Qw (wpAny_rule ?_)
 refine Qi (h h' tk fun b o e=>hk b o ?_ (Qr _ (Qr _ e)))
 intro hm
 rcases Qh.mp hm with z | z
 · exact absurd (z ▸ Qu e) (Wf _)
 · cases z
def wV (val:Nat->Int):Nat->Int
 | 0=>val 0
 | k+1=>if val (k+1) > wV val k then val (k+1) else wV val k
variable {R:Result->Shared->Prop} {I:Addr} {fp wr:List Addr} {n:Nat} {P:Nat->Value->Prop} {St:Nat->Heap->Prop}
theorem zWx {a b:Int}{t u:Tok}{s:Shared}{Q:Value->Shared->Prop}{E:Value->Shared->Prop}(h:Q (.bool (decide (a > b))) s):wpAny (model prog w) A (richCompare .Gt (.int a t) (.int b u)) Q E s :=
 CmpOf.ints_gt (prog:=prog) (w:=w) (A:=A) (P:=fun i v=>∃t,v = .int (if i=0 then a else b) t) (fun i=>if i=0 then a else b) (fun _ _ h=>h) 0 1 _ _ s Q E ⟨t,rfl⟩ ⟨u,rfl⟩ h
theorem zYW (W:Walks prog w A.in1 I fp wr n P St)(val:Nat->Int)(hv:∀i v,P i v->∃t,v = .int (val i) t)(d:Value)(S:Addr)(hSf:S∉fp) :
   ∀(k j:Nat) (s:Shared) (t:Tok) (c:Nat),n - (j+1)=k->j+1<=n->St (j+1) s.heap ->
   s.heap.get? S=some { cls:=.type "list",dict:=none,data:=.seq #[.int (wV val j) t,.int (wV val j) t] c,slots:=#[] } ->
   (∀t' h' tk,(∀b o,b∉wr->b≠S->s.heap.get? b=some o->h'.get? b=some o)->R (.ok (.ret (.int (wV val (n - 1)) t'))) { s with heap:=h',toks:=tk }) ->
   codeAny (model prog w) A (.builtin "max.loop" ⟨[.ref I,.none,.ref S],[("default",d)]⟩) R s:=by
 have hSw:S∉wr:=fun h=>hSf (W.sub _ h)
 have hname:(toString "max"++toString ".loop":String)="max.loop":=by decide
 intro k
 induction k with
 | zero =>
   intro j s t c hk hj hst hS hR
   have hin:j+1=n:=by omega
   refine Ez F.entry_max_loop ?_
   rw[Eu F.plain_max_loop _]
   show wpAny _ A.in1 (seqItems? (.ref S) >>= _) _ _ s
   refine Qw (Tc hS rfl ?_)
   show wpAny _ A.in1 (tryCatch (pyNext (.ref I)) _ >>= _) _ _ s
   refine Qw (Rx (W.done s _ _ (hin ▸ hst) fun h' tk hk'=>?_))
   have hS':=hk' S _ hSw hS
   show wpAny _ A.in1 (updateSeq S (fun _=>#[]) >>= _) _ _ _
   refine Qw (Ue hS' rfl (Qw (Tq (Qi ?_))))
   rw[←hin] at hR
   exact hR t _ tk fun b o hbw hbS e=>(Ew _ _ (Ne.symm hbS)).trans (hk' b o hbw e)
 | succ k ih =>
   intro j s t c hk hj hst hS hR
   have hlt:j+1 < n:=by omega
   refine Ez F.entry_max_loop ?_
   rw[Eu F.plain_max_loop _]
   show wpAny _ A.in1 (seqItems? (.ref S) >>= _) _ _ s
   refine Qw (Tc hS rfl ?_)
   show wpAny _ A.in1 (tryCatch (pyNext (.ref I)) _ >>= _) _ _ s
   refine Qw (Rx (W.item (j+1) s _ _ hlt hst fun v h' tk hP hst' hk'=>?_))
   obtain⟨tv,rfl⟩:=hv _ _ hP
   have hS':=hk' S _ hSw hS
   show wpAny _ A.in1 (tryCatch (holding _ (richCompare .Gt _ _ >>= _)) _ >>= _) _ _ _
   refine Qw (Rx (Wb (Qw (zWx ?_))))
   refine Qw (Wb (Ex ?_))
   refine Qw (Tq (Qi ?_))
   by_cases hb:val (j+1) > wV val j
   · rw[Qc hb]
     simp only[Yy]
     refine Qw (Ue hS' rfl (Qw (Tq ?_)))
     rw[hname]
     have em:wV val (j+1)=val (j+1):=by rw[wV,Qo hb]
     refine Qi ⟨Rp F.plain_max_loop _,ih (j+1) _ tv _ (by omega) hlt (W.frame _ _ _ hst' fun b hbf o e=>?_) (by rw[em];exact Wc _ hS' rfl) fun t' h'' tk'' hk''=>?_⟩
     · exact(Ew _ _ (fun h:S=b=>hSf (by rw[h];exact hbf))).trans e
     · exact hR t' h'' tk'' fun b o hbw hbS e=>hk'' b o hbw hbS ((Ew _ _ (Ne.symm hbS)).trans (hk' b o hbw e))
   · rw[Wh hb]
     simp only[Wy,Eb]
     refine Qw (Tq ?_)
     rw[hname]
     have em:wV val (j+1)=wV val j:=by rw[wV,Qg hb]
     exact Qi ⟨Rp F.plain_max_loop _,ih (j+1) _ t c (by omega) hlt hst' (by rw[em];exact hS') fun t' h'' tk'' hk''=>hR t' h'' tk'' fun b o hbw hbS e=>hk'' b o hbw hbS (hk' b o hbw e)⟩
theorem zY6 {l:Addr}{d:Value}{xs:Array (Int×Tok)}{Q:Value->Shared->Prop}(hh:A.handled=none)(hl:s.heap.IsList l (intItems xs))(hn:0 < xs.size)
   (h:∀t h' tk,(∀b o,s.heap.get? b=some o->h'.get? b=some o)->Q (.int (wV (numAt xs) (xs.size - 1)) t) { s with heap:=h',toks:=tk }) :
   wpAny (model prog w) A (call (.builtin "max") [.ref l] [("default",d)]) Q E s:=by
 have hname:(toString "max"++toString ".loop":String)="max.loop":=by decide
 refine sJ F.kind_max F.plain_max F.entry_max (iD _ _) ?_
 show wpAny _ A.in1 (Builtin.Builtins.bindParams "max" ["key","default"] 0 ⟨[],[("default",d)]⟩ >>= _) _ _ s
 refine Qw (wpAny_of_eq (show Builtin.Builtins.bindParams "max" ["key","default"] 0 ⟨[],[("default",d)]⟩=pure [none,some d] from rfl) ?_)
 refine Qw (Qi ?_)
 refine Qw (Yr hl ?_)
 refine Qw (Ru ?_)
 rw[hname]
 have hne:l≠s.heap.objs.size:=by obtain⟨_,e,_⟩:=hl;exact Qb (Qu e)
 have hsz:(intItems xs).size=xs.size:=by simp[intItems]
 have W:=Walks.list (prog:=prog) (w:=w) (A:=A.in1) hh s.heap.objs.size l hne (intItems xs)
 have hll:l < s.heap.objs.size:=by obtain⟨_,e,_⟩:=hl;exact Qu e
 refine Qi ⟨Rp F.plain_max_loop _,Ez F.entry_max_loop ?_⟩
 rw[Eu F.plain_max_loop _]
 show wpAny _ A.in1 (seqItems? (.ref _) >>= _) _ _ _
 refine Qw (Tc (Qd _ rfl) rfl ?_)
 have hps:(s.heap.push { cls:=.type "list_iterator",data:=.fields #[.ref l,.int 0 0] }).objs.size=s.heap.objs.size+1:=Rz _ _
 refine Qw (Rx (W.item 0 _ _ _ (by rw[hsz];exact hn) ⟨⟨_,Qr _ (Qd _ rfl),rfl,rfl⟩,(hl.push _).push _⟩ fun v h' tk hP hst' hk'=>?_))
 obtain⟨tv,rfl⟩:=intItems_at hP
 have hSw:(s.heap.push { cls:=.type "list_iterator",data:=.fields #[.ref l,.int 0 0] }).objs.size∉[s.heap.objs.size]:=fun hm=>by
   rw[Ye] at hm;omega
 have hS':=hk' _ _ hSw (Qd _ rfl)
 show wpAny _ A.in1 (updateSeq _ (fun _=>#[.int (numAt xs 0) tv,.int (numAt xs 0) tv]) >>= _) _ _ _
 refine Qw ?_
 refine Ue hS' rfl ?_
 rw[hname]
 have hSf:(s.heap.push { cls:=.type "list_iterator",data:=.fields #[.ref l,.int 0 0] }).objs.size∉[s.heap.objs.size,l]:=fun hm=>by
   rcases Qh.mp hm with z | z
   · rw[hps] at z;exact Nat.succ_ne_self _ z
   · rw[Ye,hps] at z
     rw[←z] at hll
     exact absurd hll (Th.mpr (Rv _))
 refine Qi ⟨Rp F.plain_max_loop _,zYW W (numAt xs) (fun i v h=>intItems_at h) d _ hSf _ 0 _ tv _ rfl (by rw[hsz];exact hn) (W.frame _ _ _ hst' fun b hbf o e=>?_) (Wc _ hS' rfl) fun t' h'' tk'' hk''=>?_⟩
 · exact(Ew _ _ (fun z=>hSf (by rw[z];exact hbf))).trans e
 · rw[hsz]
   refine h t' h'' tk'' fun b o e=>?_
   have hlt:=Qu e
   have n1:b∉[s.heap.objs.size]:=fun hm=>by rw[Ye] at hm;rw[hm] at hlt;exact Wf _ hlt
   have n2:b≠(s.heap.push { cls:=.type "list_iterator",data:=.fields #[.ref l,.int 0 0] }).objs.size:=fun z=>by rw[hps] at z;rw[z] at hlt;exact absurd hlt (Th.mpr (Rv _))
   exact hk'' b o n1 n2 ((Ew _ _ (Ne.symm n2)).trans (hk' b o n1 (Qr _ (Qr _ e))))
variable {X:Cx} {a:Expr} {ga:Lf} {pos p:Pos}
def tP (ns:List Int):Int:=wV (fun i=>ns.getD i 0) (ns.length - 1)
def lA (g:Lf):Ef:=fun ρ=>(g ρ).bind fun ds=>(iF ds).bind fun ns=>if ns.isEmpty=true then some .non else some (.int (tP ns))
theorem zWi {kp:Pos}{j}{p2:Pos}(hc:X.calm=true)(hg:Gl X "max")(hm:X.mg "max"=none)(h:zYZ X a ga)(hs:starEach [a] X.env=[(false,eval a X.env)]:=by rfl) :
   PF X (.Call (.Name "max" p) [a] [⟨some "default",.Constant .none j p2,kp⟩] pos) (lA ga):=by
 refine PE.to (t:=fun σ H Q=>zTV X.K ga σ H fun v H1=>∃q ns,v = .ref q/\SqL X.K H1 q (ns.map V.int)/\Q (if ns.isEmpty=true then .non else .int (tP ns)) H1) ?_ ?_
 · intro pins s σ H Q I h0
   refine Ey (nI I hg hm (u:=.builtin "max") (by rfl) ?_ (by decide) (by decide))
   refine callWith_kw ?_ (by rw[hs];rfl) (by rw[hs];rfl) (by rfl) (by rfl)
   refine spliced_more (thn (h pins s σ H _ I h0) fun u s1 ⟨v,H1,I1,rv,q,ns,e,sq,q1⟩=>?_) (by rw[hs];rfl)
   subst e
   cases rv
   refine spliced_none ?_
   refine kws_cons (thn (zYE (X:=X) (j:=j) (pos:=p2) pins s1 σ H1 _ I1 (show tC .non σ H1 (fun v H2=>v = .non/\H2=H1) from⟨rfl,rfl⟩)) fun u2 s2 ⟨v2,H2,I2,rv2,e2,e3⟩=>?_)
   subst e2 e3
   cases rv2
   refine kws_nil ?_
   obtain⟨its,rl,pl,_⟩:=I2.list sq
   cases ns with
   | nil =>
     cases rl
     exact zWM (I2.ok.hd hc) pl.isList fun h' tk hk=>⟨.non,H2,I2.kept hk,rfl,q1⟩
   | cons x r =>
     obtain⟨ps,rfl,hps⟩:=iJ rl
     have hit:s2.heap.IsList q (intItems ps.toArray):=by
       have:=pl.isList
       unfold intItems
       rw[List.map_toArray]
       exact this
     have hlen:ps.length=r.length+1:=by
       have:=Eh List.length hps
       simpa using this
     have hnum:(fun i=>numAt ps.toArray i)=fun i=>(x::r).getD i 0:=by
       funext i
       rw[←hps]
       unfold numAt
       rw[List.getElem?_toArray,Ev,Wi]
     refine zY6 (I2.ok.hd hc) hit (by simp[hlen]) fun t h' tk hk=>⟨.int _,H2,I2.kept hk,⟨t,rfl⟩,?_⟩
     have e:wV (numAt ps.toArray) (ps.toArray.size - 1)=tP (x::r):=by
       unfold tP
       rw[←hnum,Qy,hlen,Qs]
     rw[e]
     exact q1
 · rintro σ H Q ⟨G0,H0,G,ρ,d,good,hf,k⟩
   unfold lA at hf
   obtain⟨ds,h1,hf⟩:=Qq.mp hf
   obtain⟨ns,h2,hf⟩:=Qq.mp hf
   refine⟨G0,H0,G,ρ,ds,good,h1,fun q vs H1 G1 s1 e1 r1=>⟨q,ns,rfl,by rw[←jN h2 r1];exact s1.sub.seq e1,?_⟩⟩
   split at hf
   · rename_i he
     cases hf
     rw[Qo he]
     exact k _ _ G1 s1 (uR.mpr rfl)
   · rename_i he
     cases hf
     rw[Qg he]
     exact k _ _ G1 s1 (zJ.mpr rfl)
end
def zTB (K:PySem.W.Frag)(C:Addr)(ns:List Str)(g:Lf):TS:=fun DD σ H=>∃(G0 H0 G:Hp) (ρ:List B) (p dx:Addr) (pre:List Str) (us:List V) (xs ds:List D),
 Good K G0 H0 G H σ ρ/\nQ ρ/\σ[0]?=some (some (.ref p))/\H p=some (.ins C dx (pre.zip us))/\G p=none/\H0 p=none/\pre.length=us.length/\(pre++ns).Nodup/\(pre++ns).length<=900/\Reps K G xs us/\g ρ=some ds /\
 ∀σ' H' G' vs,Step G0 H0 G' H'->H' p=some (.ins C dx ((pre++ns).zip vs))->G' p=none->Reps K G' (xs++ds) vs->DD.nx σ' H'
section
variable {X:Cx} {e:Expr} {fa:Ef} {pos:Pos}
theorem zXI {ρ:List B}(h:nQ ρ)(i:Nat)(d:D):nQ (ρ.set i (.fz d)):=by
 have key:∀(j:Nat) (b:B),(∀d',b ≠ .fz d')->(ρ.set i (.fz d))[j]?=some b->ρ[j]?=some b:=fun j b hb e=>by
   by_cases hj:i=j
   · subst hj
     rw[Ri] at e
     split at e
     · split at e
       · exact absurd (Qv e).symm (hb d)
       · cases e
     · rename_i z;exact absurd rfl z
   · rwa[Qk hj] at e
 exact⟨fun j es z=>h.1 j es (key j _ (fun _ y=>nomatch y) z),fun j es z=>h.2.1 j es (key j _ (fun _ y=>nomatch y) z),fun j es z=>h.2.2 j es (key j _ (fun _ y=>nomatch y) z)⟩
theorem zWo (i:Nat){C:Addr}{y:Str}{ns:List Str}{g:Lf}{rest:List Stmt}{pos':Pos}(hN:X.N.Nodup)(he:PF X e fa)(hr:PSs X rest (zXg X.K C ns g))(hi0:0≠i:=by decide)(hi:X.N[i]?=some y:=by rfl)(hx:Loc X.env.scope y:=by first | exact .inl rfl | exact .inr rfl)
   (hs:swapsWith e (some (.Name y pos')) pos.line X.env=pure false:=by rfl) (hf:X.fn y=true∨X.env.scope.names.lookup y=some .local:=by first | exact .inl rfl | exact .inr rfl) :
   PSs X (.Assign [.Name y pos'] e pos::rest) (zTB X.K C ns fun ρ=>(fa ρ).bind fun d=>g (ρ.set i (.fz d))):=by
 intro pins s σ H D I h
 refine rM (eS hN hi hx he hs hf) hr pins s σ H D I ?_
 obtain⟨G0,H0,G,ρ,p,dx,pre,us,xs,ds,good,now,hself,hp,gp,h0,hl,nd,hz,rs,hg,k⟩:=h
 obtain⟨d,h1,h2⟩:=Qq.mp hg
 refine⟨G0,H0,G,ρ,d,good,h1,fun v H1 G1 s1 r1=>?_⟩
 have gp1:G1 p=none:=(s1.new p _ hp rfl).trans gp
 refine⟨G0,H0,G1,ρ.set i (.fz d),p,dx,pre,us,xs,ds,(good.step s1).setF i r1,zXI now i d,?_,s1.hh _ _ hp,gp1,h0,hl,nd,hz,rs.mono s1.gg,h2,fun H' G' vs st q1 q2 q3=>k _ H' G' vs st q1 q2 q3⟩
 rw[Qk (Ne.symm hi0)];exact hself
variable {P:Program} {w:World} {K:PySem.W.Frag} {mg:Str->Option Value} {base:Heap} {x qual:Str} {st:Stmt} {f C:Addr} {fd:FuncData} {N ps ns:List Str} {k:Nat} {sf:Str}
theorem zXS {g:Lf}(F:Fun K x qual st f fd)(S:FnScope N (sf::ps) (zX st))(hnd:ns.Nodup)(hlen:ns.length<=900)
   (hb:∀(cdv:Value) (A:Around) (outer:List Env) (s:Shared) (H:Hp) (E:XK),Room k (A.deeper (envOfC qual (zX st) s.heap.objs.size f cdv))->PSs (sU CX0 P w K mg base N qual (zX st) f cdv A outer s H E).nox (zQ st) (zTB K C ns g)) :
   FnOk P w K mg base CX0 (k+1) f fd (sf::ps) (spI K C ns ps.length fun ds=>g (rK N.length ds)):=by
 refine F.ok S (fun vs H Q E h=>?_) (fun cdv A outer s H vs Q E hr h=>⟨_,hb cdv A outer s H E hr,?_⟩)
 · obtain⟨p,dx,rest,G,H0,ds,xs,rfl,_,_,_,_,_,rs,hl,_⟩:=h
   rw[Qs,Qs,←rs.length,hl]
 · obtain⟨p,dx,rest,G,H0,ds,xs,rfl,rfl,h1,h2,h3,sub,rs,hl,hf,k⟩:=h
   have hne:p≠dx:=h3.symm
   have hp1:(upd H0 dx (.own p)) p=none:=by rw[zO hne];exact h1
   have st1:Step G H0 G (upd H0 dx (.own p)):=Step.own sub h2
   have st2:Step G H0 G (upd (upd H0 dx (.own p)) p (.ins C dx [])):=st1.trans (Step.own st1.sub hp1)
   have good:Good K G H0 G (upd (upd H0 dx (.own p)) p (.ins C dx [])) (vT N (.ref p::rest)) (rK N.length ds):=by
     refine⟨st2,?_,fun i j a es es' q1=>absurd q1 ((mE _ ds).1 i es)⟩
     unfold vT rK
     rw[Qp,Qs,Yz,←rs.length]
     exact .cons .no (qU _ rs)
   refine⟨G,H0,G,_,p,dx,[],[],[],xs,good,mE _ ds,rfl,zN,sub.free h1,h1,rfl,hnd,hlen,zM.mpr rfl,hf,fun σ' H' G' us s' q1 q2 q3=>k H' G' us s' q1 q2 q3⟩
end
section
variable {X:Cx} {e:Expr} {fa:Ef} {pos:Pos}
theorem zWd (i:Nat){x:Str}{pos':Pos}(hN:X.N.Nodup)(he:PF X e fa)(hi:X.N[i]?=some x:=by rfl)(hx:Loc X.env.scope x:=by first | exact .inl rfl | exact .inr rfl)
   (hf:X.fn x=true∨X.env.scope.names.lookup x=some .local:=by first | exact .inl rfl | exact .inr rfl):PFS X (.AugAssign (.Name x pos') .Add e pos) (yX i (qR (eV i) fa)):=by
 refine PS.to (zU6 hN hi hx he zVi hf) ?_
 rintro D σ H ⟨G0,H0,G,ρ,o,good,hf,k⟩
 unfold yX at hf
 obtain⟨d,h1,rfl⟩:=Qt.mp hf
 obtain⟨a,b,h3,h2,_,rfl⟩:=aR h1
 obtain⟨v,e1,r1⟩:=iE good h3
 refine⟨v,e1,G0,H0,G,ρ,_,good,h2,fun y H1 G1 s1 r2=>⟨a,b,zJ.mp r1,zJ.mp r2,?_⟩⟩
 exact k _ _ G1 s1.gg ((good.step s1).setF i (zJ.mpr rfl))
end
theorem wE {f g:Sf}{ρ ρ':List B}(h:f ρ=some (.nx ρ')):zH f g ρ=g ρ':=by unfold zH;rw[h];rfl
theorem xO {f g:Sf}{ρ ρ':List B}{r:Option D}(h:f ρ=some (.nx ρ'))(k:(g ρ').bind xJ=r):(zH f g ρ).bind xJ=r:=by rw[wE h];exact k
theorem zWf {f g:Sf}{ρ:List B}{d:D}(h:f ρ=some (.rt d)):zH f g ρ=some (.rt d):=by unfold zH;rw[h];rfl
theorem zZI {g:Gf}{body:Sf}{d:D}{r:List D}{ρ ρ1 ρ2:List B}(h1:g d ρ=some ρ1)(h2:body ρ1=some (.nx ρ2)):kH g body (d::r) ρ=kH g body r ρ2:=by
 rw[kH,h1,Qe,h2,Qe]
theorem zS {f:Ef}{g:Lf}{ρ:List B}{d:D}{ds:List D}(h1:f ρ=some d)(h2:g ρ=some ds):zY f g ρ=some (d::ds):=by unfold zY;rw[h1,h2];rfl
theorem uQ {g:Lf}{ρ:List B}{ds:List D}(h:g ρ=some ds):eL g ρ=some (.lst ds):=by unfold eL;rw[h];rfl
theorem lH {n:Nat}{f:List D->Option D}{g:Lf}{ρ:List B}{ds:List D}(h:g ρ=some ds)(hl:ds.length=n):zI n f g ρ=f ds:=by unfold zI;rw[h,Qe,Qo hl]
theorem oU {c:Str}{ns:List Str}{n:Nat}{f:List D->Option (List D)}{g:Lf}{ρ:List B}{ds xs:List D}(h:g ρ=some ds)(hl:ds.length=n)(hf:f ds=some xs)(hn:ns.length=xs.length):mV c ns n f g ρ=some (.obj c ns xs):=by
 unfold mV;rw[h,Qe,Qo hl,hf,Qe,Qo hn]
theorem dB {g:Gf}{body:Sf}{P:List B->Prop}:∀(ds:List D),(∀d∈ds,∀ρ,P ρ->∃ρ1 ρ2,g d ρ=some ρ1/\body ρ1=some (.nx ρ2)/\P ρ2)->∀ρ,P ρ->∃ρ',kH g body ds ρ=some (.nx ρ')/\P ρ'
 | [],_,ρ,h=>⟨ρ,rfl,h⟩
 | d::r,hs,ρ,h=>by
   obtain⟨ρ1,ρ2,e1,e2,h2⟩:=hs d Qn ρ h
   obtain⟨ρ',e,h'⟩:=dB r (fun d hd=>hs d (Qj _ hd)) ρ2 h2
   exact⟨ρ',by rw[zZI e1 e2];exact e,h'⟩
theorem eU {g:Gf}{body:Sf}{P:Nat->List B->Prop}:∀(ds:List D) (n:Nat),(∀(i:Nat) (d:D),ds[i]?=some d->∀ρ,P (n+i) ρ->∃ρ1 ρ2,g d ρ=some ρ1/\body ρ1=some (.nx ρ2)/\P (n+i+1) ρ2)->∀ρ,P n ρ->∃ρ',kH g body ds ρ=some (.nx ρ')/\P (n+ds.length) ρ'
 | [],_,_,ρ,h=>⟨ρ,rfl,h⟩
 | d::r,n,hs,ρ,h=>by
   obtain⟨ρ1,ρ2,e1,e2,h2⟩:=hs 0 d rfl ρ h
   obtain⟨ρ',e,h'⟩:=eU r (n+1) (fun i d hd ρ hρ=>by
     have q:=hs (i+1) d (by simpa using hd) ρ (by rw[show n+(i+1)=n+1+i by omega];exact hρ)
     rw[show n+(i+1)+1=n+1+i+1 by omega] at q
     exact q) ρ2 h2
   exact⟨ρ',by rw[zZI e1 e2];exact e,by rw[Qs,show n+(r.length+1)=n+1+r.length by omega];exact h'⟩
theorem dM {lo:Int}{n:Nat}{d:D}(h:d∈tW lo n):∃i:Nat,i < n/\d = .int (lo+i):=by
 unfold tW at h
 obtain⟨i,hi,rfl⟩:=Yd.mp h
 exact⟨i,Tx.mp hi,rfl⟩
theorem zXN {lo:Int}{n i:Nat}{d:D}(h:(tW lo n)[i]?=some d):i < n/\d = .int (lo+i):=by
 have hl:(tW lo n).length=n:=by simp[tW]
 have hi:i < n:=by rw[←hl];exact(Qf.mp h).1
 unfold tW at h
 rw[Wi,List.getElem?_range hi] at h
 exact⟨hi,(Qv h).symm⟩
theorem cZ (lo:Int)(n:Nat):(tW lo n).length=n:=by simp[tW]
theorem pR {t:List D}(h:t.length<=100000):okL t=some t:=by
 unfold okL
 rw[Qo h]
theorem oS {α:Type}(xs:List α)(i:Int)(d:α)(h0:0<=i)(h1:i < xs.length):atI xs i=some (xs.getD i.toNat d):=by
 unfold atI ixN
 rw[Qo h0,Qo h1]
 have:i.toNat < xs.length:=by omega
 simp[List.getD,this]
theorem lY {α β:Type}(f:α->β)(xs:List α)(i:Int):atI (xs.map f) i=(atI xs i).map f:=by
 unfold atI
 rw[Qa]
 cases ixN xs.length i with
 | none=>rfl
 | some j=>simp
theorem pM {i j:Int}(h1 : -18446744073709551616 < i)(h2:i < 18446744073709551616):pB i j=true:=by
 unfold pB;simp only[Re,Wt,Wn];exact .inl ⟨by omega,by omega⟩
theorem zVn {i j:Int}(h1 : -18446744073709551616 < j)(h2:j < 18446744073709551616):pB i j=true:=by
 unfold pB;simp only[Re,Wt,Wn];exact .inr ⟨by omega,by omega⟩
theorem rW (x y:Str):(x++y).length=x.length+y.length:=Str.length_append x y
theorem bF {x y:Str}(h:x.length+y.length<=100000):zVo (.str x) (.str y)=some (.str (x++y)):=by
 show(if x.length+y.length<=lim then _ else none)=_
 rw[Qo h]
theorem zWG {x:Str}{i:Int}(h0:0<=i)(h1:i < x.length)(h:x.length<=100000):atD (.str x) (.int i)=some (.str ⟨#[x.cps.toList.getD i.toNat 0]⟩):=by
 have hl:x.cps.toList.length=x.length:=En
 show(if x.length<=lim then _ else none)=_
 rw[Qo h,oS _ i 0 h0 (by rw[hl];exact h1)]
 rfl
end L2
namespace My
open PySem L2
abbrev rS:Stmt:=top 21
abbrev pQ:Stmt:=top 22
abbrev sQ:Stmt:=top 23
abbrev pS:Stmt:=top 20
abbrev qV:Stmt:=top 27
abbrev sF:Stmt:=top 25
abbrev uC:Stmt:=top 26
abbrev pT:Stmt:=top 16
abbrev yC:Stmt:=zC (top 18) 5
abbrev wO:Stmt:=top 15
abbrev yM:Stmt:=zC (top 18) 3
abbrev pO:Stmt:=top 28
abbrev sA:Stmt:=top 24
abbrev nS:Stmt:=top 14
abbrev zV4:Stmt:=top 8
abbrev aZ:Stmt:=top 7
abbrev vL:Stmt:=top 9
abbrev qA:Stmt:=top 12
abbrev tZ:Stmt:=top 10
abbrev wZ:Stmt:=zC (top 18) 1
abbrev rU:Stmt:=top 29
abbrev xC:Stmt:=top 11
abbrev xS:Stmt:=zC (top 18) 2
abbrev zXR:Stmt:=top 30
abbrev vR:Stmt:=zC (top 6) 0
abbrev tO:Stmt:=zC (top 18) 0
set_option genInjectivity false
set_option genSizeOf false
set_option genSizeOfSpec false
structure Txt (K:PySem.W.Frag)(mg:Str->Option Value) where
 q0:FnT K mg "_law_mixed" rS ["_law_cell_here","_law_k"]
 q1:FnT K mg "_law_word" pQ ["_law_seed","_law_j"]
 q2:FnT K mg "_law_pool" sQ ["_law_seed"]
 q3:FnT K mg "_law_cell" pS ["_law_script","_law_k"]
 q4:FnT K mg "_law_due" qV ["_law_kept"]
 q5:FnT K mg "_law_number" sF ["_law_found"]
 q6:FnT K mg "_law_entries" uC ["_law_found","_law_due_here"]
 q7:FnT K mg "shape_of" pT ["page"]
 q9:FnT K mg "entries_beneath" wO ["page"]
 q11:FnT K mg "_law_leaf" pO ["_law_store","_law_kept"]
 q12:FnT K mg "_law_entry" sA ["_law_pool_here","_law_cell_here","_law_k"]
 q13:FnT K mg "root_of" nS ["pages"]
 q14:FnT K mg "way" zV4 ["branch","entry"]
 q15:FnT K mg "rank" aZ ["entry"]
 q16:FnT K mg "entry_like" vL ["page","entry"]
 q17:FnT K mg "pages_of" qA ["leaf","things","size"]
 q18:FnT K mg "put_beneath" tZ ["page","entry","size"]
 q20:FnT K mg "_law_again" rU ["_law_store","_law_entry_here"]
 q21:FnT K mg "taken_beneath" xC ["page","entry","size"]
 q23:FnT K mg "law" zXR ["_law_script"]
 C_Page:Addr
 fi_Page:Addr
 fdi_Page:FuncData
 ca_Page:ClsAt K "Page" C_Page
 cl_Page:Cls K C_Page
 mc_Page:mg "Page"=some (.ref C_Page)
 Fi_Page:Fun K "__init__" "Page.__init__" vR fi_Page fdi_Page
 bi_Page:Binds K fdi_Page ["self","leaf","things"] []
 mk_Page:Mk K C_Page fi_Page
 n_Page_leaf:NoAttr K C_Page "leaf"
 n_Page_leasts:NoAttr K C_Page "leasts"
 n_Page_most:NoAttr K C_Page "most"
 n_Page_things:NoAttr K C_Page "things"
 C_Store:Addr
 fi_Store:Addr
 fdi_Store:FuncData
 ca_Store:ClsAt K "Store" C_Store
 cl_Store:Cls K C_Store
 mc_Store:mg "Store"=some (.ref C_Store)
 Fi_Store:Fun K "__init__" "Store.__init__" tO fi_Store fdi_Store
 bi_Store:Binds K fdi_Store ["self","size"] []
 mk_Store:Mk K C_Store fi_Store
 n_Store_root:NoAttr K C_Store "root"
 n_Store_size:NoAttr K C_Store "size"
 f_Store_shape:Addr
 fd_Store_shape:FuncData
 F_Store_shape:Fun K "shape" "Store.shape" yC f_Store_shape fd_Store_shape
 b_Store_shape:Binds K fd_Store_shape ["self"] []
 me_Store_shape:Meth K C_Store "shape" f_Store_shape
 f_Store_listed:Addr
 fd_Store_listed:FuncData
 F_Store_listed:Fun K "listed" "Store.listed" yM f_Store_listed fd_Store_listed
 b_Store_listed:Binds K fd_Store_listed ["self"] []
 me_Store_listed:Meth K C_Store "listed" f_Store_listed
 f_Store_put:Addr
 fd_Store_put:FuncData
 F_Store_put:Fun K "put" "Store.put" wZ f_Store_put fd_Store_put
 b_Store_put:Binds K fd_Store_put ["self","entry"] []
 me_Store_put:Meth K C_Store "put" f_Store_put
 f_Store_take:Addr
 fd_Store_take:FuncData
 F_Store_take:Fun K "take" "Store.take" xS f_Store_take fd_Store_take
 b_Store_take:Binds K fd_Store_take ["self","entry"] []
 me_Store_take:Meth K C_Store "take" f_Store_take
 C_Twice:Addr
 ca_Twice:ClsAt K "Twice" C_Twice
 mc_Twice:mg "Twice"=some (.ref C_Twice)
 xk_Twice:XKit K C_Twice
 kc_Twice:PySem.W.keepIn K (.ref C_Twice)=true
 xc_Twice:zZk K C_Twice
 C_YardError:Addr
 ca_YardError:ClsAt K "YardError" C_YardError
 mc_YardError:mg "YardError"=some (.ref C_YardError)
 ix_Twice:cU K (.ref C_Twice) [(C_Twice,true)]=true
 em_YardError_Twice:PySem.W.exmOne K (.ref C_Twice) (.ref C_YardError)=some true
 z_bool:mg "bool"=none
 z_int:mg "int"=none
 z_isinstance:mg "isinstance"=none
 z_len:mg "len"=none
 z_list:mg "list"=none
 z_max:mg "max"=none
 z_range:mg "range"=none
 z_sorted:mg "sorted"=none
 z_str:mg "str"=none
 z_tuple:mg "tuple"=none
set_option genInjectivity true
set_option genSizeOf true
set_option genSizeOfSpec true
section
seal PySem.Sem.wp
variable {P:Program} {w:World} {K:PySem.W.Frag} {mg:Str->Option Value} {base:Heap}
def oM:List (Str×Bool):=[("Twice",true)]
theorem zYL (T:Txt K mg):IsxOk K (.ref T.C_Twice) oM:=have h:=T.ix_Twice;(zX1 T.ca_Twice T.xk_Twice h fun h=>zVH)
theorem jP (T:Txt K mg):ExOk K T.C_YardError ["Twice"]:=⟨⟨T.C_Twice,T.ca_Twice,T.em_YardError_Twice⟩,True.intro⟩
theorem bX:FnScope ["self","leaf","things","lasts"] ["self","leaf","things"] (zX vR):=yF (by decide +kernel)
def oR:Lf:=(fun ρ=>((eIf (tB1 (eV 1)) (eL (xU (iL (eV 2)) 1 [] (gN 0) tOK (eIx (eV 0) (eC (.int 1))))) (eL (xU (iL (eV 2)) 1 [] (gN 0) tOK (yJ "Page" "most" (eV 0))))) ρ).bind fun d=>(zY (eV 1) (zY (eV 2) (zY (eIf (tB1 (eV 1)) (eV 2) (eL (xU (iL (eV 2)) 1 [] (gN 0) tOK (eIx (yJ "Page" "leasts" (eV 0)) (eC (.int 0)))))) (zY (lA (iL (eV 3))) zL)))) (ρ.set 3 (.fz d)))
def sV:List D->Option (List D):=fun ds=>oR (rK 4 ds)
theorem oZ (T:Txt K mg):FnOk P w K mg base CX0 1 T.fi_Page T.fdi_Page ["self","leaf","things"] (spI K T.C_Page ["leaf","things","leasts","most"] 2 sV) :=
 zXS (k:=0) T.Fi_Page bX (by decide +kernel) (by decide) fun cdv A outer s H E hr =>
   (zWo 3 bX.nd (zXd (yP (zW 1)) (qE (pD (zX vR) ["self","leaf","things","lasts"] ["entry"] [] [] (dC 0) (zXo (zW 2)) rfl rfl rfl (by decide +kernel) (fun _ _ _ _=>(rG 0 (show(List.Nodup (α:=PySem.Str) ["entry"]) from by decide +kernel))) (fun _ _ _ _=>tJ) (fun _ _ _ _=>(yD (zW 0) zU)))) (qE (pD (zX vR) ["self","leaf","things","lasts"] ["page"] [] [] (dC 0) (zXo (zW 2)) rfl rfl rfl (by decide +kernel) (fun _ _ _ _=>(rG 0 (show(List.Nodup (α:=PySem.Str) ["page"]) from by decide +kernel))) (fun _ _ _ _=>tJ) (fun _ _ _ _=>(yH T.ca_Page T.cl_Page T.n_Page_most (zW 0)))))) (tL T.cl_Page T.n_Page_leaf rfl (Or.inl rfl) (zW 1) (tL T.cl_Page T.n_Page_things rfl (Or.inl rfl) (zW 2) (tL T.cl_Page T.n_Page_leasts rfl (Or.inl rfl) (zXd (yP (zW 1)) (zW 2) (qE (pD (zX vR) ["self","leaf","things","lasts"] ["page"] [] [] (dC 0) (zXo (zW 2)) rfl rfl rfl (by decide +kernel) (fun _ _ _ _=>(rG 0 (show(List.Nodup (α:=PySem.Str) ["page"]) from by decide +kernel))) (fun _ _ _ _=>tJ) (fun _ _ _ _=>(yD (yH T.ca_Page T.cl_Page T.n_Page_leasts (zW 0)) zU))))) (tL T.cl_Page T.n_Page_most rfl (Or.inl rfl) (zWi rfl rfl T.z_max (zVv (zW 3))) zZE)))))
theorem zZw:FnScope ["self","size"] ["self","size"] (zX tO):=yF (by decide +kernel)
def cI:Lf:=(zY (eV 1) (zY (mV "Page" ["leaf","things","leasts","most"] 2 sV (zY (eC (.bl true)) (zY (eL (uS zL)) zL))) zL))
def lK:List D->Option (List D):=fun ds=>cI (rK 2 ds)
theorem zZv (T:Txt K mg):FnOk P w K mg base CX0 3 T.fi_Store T.fdi_Store ["self","size"] (spI K T.C_Store ["size","root"] 1 lK) :=
 zWD (k:=2) T.Fi_Store zZw (by decide +kernel) (by decide) fun cdv A outer s H E hr =>
   (tL T.cl_Store T.n_Store_size rfl (Or.inl rfl) (zW 1) (tL T.cl_Store T.n_Store_root rfl (Or.inl rfl) (lZ T.ca_Page T.mk_Page (oZ T) (hr.mono (by omega)) T.mc_Page T.bi_Page rfl (zZ uP (zZ (qE (uN zT)) zT))) zZE))
theorem sR:FnScope ["_law_cell_here","_law_k","_law_number_here"] ["_law_cell_here","_law_k"] (zX rS):=yF (by decide +kernel)
def qM:Sf:=(yG (gH (wY (mL (eV 2) (eV 2)) (eC (.int 2147483629))) (eC (.int 3))))
def tS:Sf:=(zH (yX 2 (wY (qR (qR (eV 2) (eC (.int 12345))) (mL (eC (.int 7919)) (eV 1))) (eC (.int 2147483647))))
   (qM))
def wG:Sf:=(zH (yX 2 (mL (wY (eV 0) (eC (.int 1000000007))) (qR (eC (.int 48271)) (mL (mL (eC (.int 2)) (eV 1)) (eV 1)))))
   (tS))
def dL:Sf :=
   (wG)
def z4:List D->Option D:=fnF 3 dL
theorem yV (T:Txt K mg):OkT P w base T.q0 1 2 z4 :=
 xH (k:=0) T.q0.F sR fun cdv A outer s H E hr =>
   (zV wG rfl (zG 2 sR.nd (vE (yI (zW 0) zU) (tT zU (vE (vE zU (zW 1)) (zW 1)))))
     (zV tS rfl (zG 2 sR.nd (yI (tT (tT (zW 2) zU) (vE zU (zW 1))) zU))
     (zP (zF (kY (yI (vE (zW 2) (zW 2)) zU) zU)))))
theorem yT:FnScope ["_law_seed","_law_j","_law_letters","_law_number_here","_law_size","_law_at","_law_word_here","_law_k","_law_sign"] ["_law_seed","_law_j"] (zX pQ):=yF (by decide +kernel)
def wF:Sf:=(yX 6 (vU (eV 6) (eIx (eV 2) (wY (zI 2 z4 (zY (eV 0) (zY (vU (eC (.int 20)) (eV 7)) zL))) (eC (.int 26))))))
def oN:Sf:=(yG (vU (vU (nF (eV 6) oNo (sC (eV 5))) (eV 8)) (nF (eV 6) (sC (vU (eV 5) (eC (.int 1)))) oNo)))
def tG:Sf:=(zH (yX 8 (eIx (eV 2) (wY (vU (gH (eV 3) (eC (.int 144))) (eV 1)) (eC (.int 26)))))
   (oN))
def sK:Sf:=(zH (fV (iR (eV 4)) (gN 7) (wF))
   (tG))
def sH:Sf:=(zH (yX 6 (eC (.str "")))
   (sK))
def sP:Sf:=(zH (yX 5 (wY (gH (eV 3) (eC (.int 12))) (eV 4)))
   (sH))
def sE:Sf:=(zH (yX 4 (vU (eC (.int 1)) (wY (eV 3) (eC (.int 12)))))
   (sP))
def sM:Sf:=(zH (yX 3 (zI 2 z4 (zY (eV 0) (zY (eC (.int 11)) zL))))
   (sE))
def vS:Sf:=(zH (yX 2 (eC (.str "abcdefghijklmnopqrstuvwxyz")))
   (sM))
def aU:Sf :=
   (vS)
def sY:List D->Option D:=fnF 9 aU
theorem eB (T:Txt K mg):OkT P w base T.q1 2 2 sY :=
 xH (k:=1) T.q1.F yT fun cdv A outer s H E hr =>
   (zV vS rfl (zG 2 yT.nd fQ)
     (zV sM rfl (zG 3 yT.nd (xX (yV T) hr (zZ (zW 0) (zZ zU zT))))
     (zV sE rfl (zG 4 yT.nd (sS zU (yI (zW 3) zU)))
     (zV sP rfl (zG 5 yT.nd (yI (kY (zW 3) zU) (zW 4)))
     (zV sH rfl (zG 6 yT.nd fQ)
     (zV sK rfl (eY Rh rfl (zUL rfl T.z_range (zW 4)) (rG 7 yT.nd) (zP (zG 6 yT.nd (sS (zW 6) (yD (zW 2) (yI (xX (yV T) hr (zZ (zW 0) (zZ (sS zU (zW 7)) zT))) zU))))))
     (zV tG rfl (zG 8 yT.nd (yD (zW 2) (yI (sS (kY (zW 3) zU) (zW 1)) zU)))
     (zP (zF (sS (sS (iY (zW 6) zVu (zZ7 (zW 5))) (zW 8)) (iY (zW 6) (zZ7 (sS (zW 5) zU)) zVu)))))))))))
theorem mW:FnScope ["_law_seed","_law_words"] ["_law_seed"] (zX sQ):=yF (by decide +kernel)
def pG:Sf:=(zYD 1 (yG (vJ (zY (eV 1) (zY (wY (zI 2 z4 (zY (eV 0) (zY (eC (.int 12)) zL))) (eC (.int 3))) (zY (wY (zI 2 z4 (zY (eV 0) (zY (eC (.int 13)) zL))) (eC (.int 3))) zL))))))
def vN:Sf:=(zH (aD 1 (xU (iR (eC (.int 14))) 1 [0] (gN 0) tOK (zI 2 sY (zY (eV 1) (zY (eV 0) zL)))))
   (pG))
def aI:Sf :=
   (vN)
def pV:List D->Option D:=fnF 2 aI
theorem bW (T:Txt K mg):OkT P w base T.q2 3 1 pV :=
 xH (k:=2) T.q2.F mW fun cdv A outer s H E hr =>
   (zV vN rfl (kK (zX sQ) ["_law_seed","_law_words"] ["_law_j"] ["_law_seed"] [0] (dC 0) 1 mW.nd rfl rfl (zUL rfl T.z_range zU) rfl rfl rfl (by decide +kernel) (fun _ _ _ _=>(rG 0 (show(List.Nodup (α:=PySem.Str) ["_law_j","_law_seed"]) from by decide +kernel))) (fun _ _ _ _=>tJ) (fun _ _ _ _=>(xX (eB T) hr (zZ (zW 1) (zZ (zW 0) zT)))))
     (zP (zYt 1 (zF (uD (zZ (zW 1) (zZ (yI (xX (yV T) hr (zZ (zW 0) (zZ zU zT))) zU) (zZ (yI (xX (yV T) hr (zZ (zW 0) (zZ zU zT))) zU) zT))))))))
theorem eD:FnScope ["_law_script","_law_k"] ["_law_script","_law_k"] (zX pS):=yF (by decide +kernel)
def gZ:Sf:=(yG (eC (.int 0)))
def xM:Sf:=(zH (sIf (eB2 gLt (eV 1) (uT (eV 0))) (yG (eIx (eV 0) (eV 1))) vC)
   (gZ))
def aH:Sf :=
   (xM)
def vB:List D->Option D:=fnF 2 aH
theorem mU (T:Txt K mg):OkT P w base T.q3 1 2 vB :=
 xH (k:=0) T.q3.F eD fun cdv A outer s H E hr =>
   (zV xM rfl (yA (yU zUd (zW 1) (tE rfl T.z_len (zW 0))) (zP (zF (yD (zW 0) (zW 1)))) z3)
     (zP (zF zU)))
theorem aW:FnScope ["_law_kept"] ["_law_kept"] (zX qV):=yF (by decide +kernel)
def rX:Sf:=(yG (eL (xU (fG (eV 0)) 2 [0] (gT (yO (gN 0) (yO (gN 1) sD))) tOK (vJ (zY (eV 0) (zY (cP (eV 2) (vJ (zY (eV 0) (zY (eV 1) zL)))) (zY (eV 1) zL)))))))
def zZi:Sf :=
   (rX)
def tI:List D->Option D:=fnF 1 zZi
theorem kU (T:Txt K mg):OkT P w base T.q4 1 1 tI :=
 xH (k:=0) T.q4.F aW fun cdv A outer s H E hr =>
   (zP (zF (qE (pD (zX qV) ["_law_kept"] ["_law_first","_law_name"] ["_law_kept"] [0] (zSN (dH (dC 0) (dH (dC 1) zVN))) (zVs (zXu rfl rfl T.z_sorted (zW 0))) rfl rfl rfl (by decide +kernel) (fun _ _ _ _=>(zVf 2 rfl (x5 (rG 0 (show(List.Nodup (α:=PySem.Str) ["_law_first","_law_name","_law_kept"]) from by decide +kernel)) (x5 (rG 1 (show(List.Nodup (α:=PySem.Str) ["_law_first","_law_name","_law_kept"]) from by decide +kernel)) kN)) (uM (uM eZ)))) (fun _ _ _ _=>tJ) (fun _ _ _ _=>(uD (zZ (zW 0) (zZ (zWt hr (zW 2) (uD (zZ (zW 0) (zZ (zW 1) zT)))) (zZ (zW 1) zT)))))))))
theorem jV:FnScope ["_law_found"] ["_law_found"] (zX sF):=yF (by decide +kernel)
def kO:Sf:=(yG (eG (jU isInt (eV 0)) (zWv (yZ (tB1 (jU pL (eV 0)))))))
def fU:Sf :=
   (kO)
def sX:List D->Option D:=fnF 1 fU
theorem qN (T:Txt K mg):OkT P w base T.q5 1 1 sX :=
 xH (k:=0) T.q5.F jV fun cdv A outer s H E hr =>
   (zP (zF (zWZ (nJ (T:="int") (TT:="int") rfl zUp rfl T.z_isinstance rfl T.z_int (zW 0)) (zXL (zUR (nJ (T:="bool") (TT:="bool") rfl zWz rfl T.z_isinstance rfl T.z_bool (zW 0)))))))
theorem uV:FnScope ["_law_found","_law_due_here","_law_k","_law_one"] ["_law_found","_law_due_here"] (zX uC):=yF (by decide +kernel)
def tN:Sf:=(sIf (qT (yZ (tB1 (zI 1 sX (zY (eIx (eV 3) (eC (.int 0))) zL)))) (qT (yZ (tB1 (zI 1 sX (zY (eIx (eV 3) (eC (.int 1))) zL)))) (eB2 pF (eV 3) (eIx (eV 1) (eV 2))))) (yG (eC (.bl false))) vC)
def xP:Sf:=(zH (sIf (qT (yZ (tB1 (jU oW (eV 3)))) (qT (eB2 pF (uT (eV 3)) (eC (.int 3))) (yZ (tB1 (jU isStr (eIx (eV 3) (eC (.int 2)))))))) (yG (eC (.bl false))) vC)
   (tN))
def yK:Sf:=(zH (yX 3 (eIx (eV 0) (eV 2)))
   (xP))
def mO:Sf:=(yG (eC (.bl true)))
def vX:Sf:=(zH (fV (iR (uT (eV 1))) (gN 2) (yK))
   (mO))
def xE:Sf:=(zH (sIf (qT (yZ (tB1 (jU mX (eV 0)))) (eB2 pF (uT (eV 0)) (uT (eV 1)))) (yG (eC (.bl false))) vC)
   (vX))
def jQ:Sf :=
   (xE)
def yB:List D->Option D:=fnF 4 jQ
theorem rP (T:Txt K mg):OkT P w base T.q6 2 2 yB :=
 xH (k:=1) T.q6.F uV fun cdv A outer s H E hr =>
   (zV xE rfl (yA (aO (rY (xQ (yP (nJ (T:="list") (TT:="list") rfl zUy rfl T.z_isinstance rfl T.z_list (zW 0)))) (oX (yU (kB hr) (tE rfl T.z_len (zW 0)) (tE rfl T.z_len (zW 1)))))) (zP (zF uP)) z3)
     (zV vX rfl (eY Rh rfl (zUL rfl T.z_range (tE rfl T.z_len (zW 1))) (rG 2 uV.nd) (zV yK rfl (zG 3 uV.nd (yD (zW 0) (zW 2)))
     (zV xP rfl (yA (aO (rY (xQ (yP (nJ (T:="tuple") (TT:="tuple") rfl zXZ rfl T.z_isinstance rfl T.z_tuple (zW 3)))) (rY (yU (kB hr) (tE rfl T.z_len (zW 3)) zU) (oX (xQ (yP (nJ (T:="str") (TT:="str") rfl zVa rfl T.z_isinstance rfl T.z_str (yD (zW 3) zU)))))))) (zP (zF uP)) z3)
     (zP (yA (aO (rY (xQ (yP (xX (qN T) hr (zZ (yD (zW 3) zU) zT)))) (rY (xQ (yP (xX (qN T) hr (zZ (yD (zW 3) zU) zT)))) (oX (yU (kB hr) (zW 3) (yD (zW 1) (zW 2))))))) (zP (zF uP)) z3)))))
     (zP (zF uP))))
theorem eR:FnScope ["page"] ["page"] (zX pT):=yF (by decide +kernel)
def gO:Sf:=(fun _=>none)
def vP:Sf:=(zH (sIf (tB1 (yJ "Page" "leaf" (eV 0))) (yG (vJ (zY (eC (.str "leaf")) (zY (eL (rA (yJ "Page" "things" (eV 0)))) zL)))) vC)
   (gO))
def bH:Sf :=
   (vP)
def pN:List D->Option D:=fnF 1 bH
theorem dZ (T:Txt K mg):OkT P w base T.q7 1 1 pN :=
 xH (k:=0) T.q7.F eR fun cdv A outer s H E hr =>
   (zV vP rfl (yA (yP (yH T.ca_Page T.cl_Page T.n_Page_leaf (zW 0))) (zP (zF (uD (zZ fQ (zZ (qE (iK rfl T.z_list (yH T.ca_Page T.cl_Page T.n_Page_things (zW 0)))) zT))))) z3)
     vH)
theorem lS:FnScope ["self"] ["self"] (zX yC):=yF (by decide +kernel)
def vV:Sf:=(yG (zI 1 pN (zY (yJ "Store" "root" (eV 0)) zL)))
def b_Store_shape:Sf :=
   (vV)
def uF:List D->Option D:=fnF 1 b_Store_shape
theorem kG (T:Txt K mg):FnOk P w K mg base CX0 2 T.f_Store_shape T.fd_Store_shape ["self"] (spF K 1 uF) :=
 xH (k:=1) T.F_Store_shape lS fun cdv A outer s H E hr =>
   (zP (zF (xX (dZ T) hr (zZ (yH T.ca_Store T.cl_Store T.n_Store_root (zW 0)) zT))))
theorem qC:FnScope ["page"] ["page"] (zX wO):=yF (by decide +kernel)
def qQ:Sf:=(fun _=>none)
def yN:Sf:=(zH (sIf (tB1 (yJ "Page" "leaf" (eV 0))) (yG (eL (rA (yJ "Page" "things" (eV 0))))) vC)
   (qQ))
def pC:Sf :=
   (yN)
def wL:List D->Option D:=fnF 1 pC
theorem pW (T:Txt K mg):OkT P w base T.q9 1 1 wL :=
 xH (k:=0) T.q9.F qC fun cdv A outer s H E hr =>
   (zV yN rfl (yA (yP (yH T.ca_Page T.cl_Page T.n_Page_leaf (zW 0))) (zP (zF (qE (iK rfl T.z_list (yH T.ca_Page T.cl_Page T.n_Page_things (zW 0)))))) z3)
     vH)
theorem mN:FnScope ["self"] ["self"] (zX yM):=yF (by decide +kernel)
def wH:Sf:=(yG (zI 1 wL (zY (yJ "Store" "root" (eV 0)) zL)))
def b_Store_listed:Sf :=
   (wH)
def wQ:List D->Option D:=fnF 1 b_Store_listed
theorem mH (T:Txt K mg):FnOk P w K mg base CX0 2 T.f_Store_listed T.fd_Store_listed ["self"] (spF K 1 wQ) :=
 xH (k:=1) T.F_Store_listed mN fun cdv A outer s H E hr =>
   (zP (zF (xX (pW T) hr (zZ (yH T.ca_Store T.cl_Store T.n_Store_root (zW 0)) zT))))
theorem rL:FnScope ["_law_store","_law_kept","_law_due_here","_law_told"] ["_law_store","_law_kept"] (zX pO):=yF (by decide +kernel)
def oY:Sf:=(yG (eG (zI 2 yB (zY (iU "Store" "listed" 1 wQ (eV 0) zL) (zY (eV 2) zL))) (zI 2 yB (zY (eIx (eV 3) (eC (.int 1))) (zY (eV 2) zL)))))
def sZ:Sf:=(zH (sIf (qT (yZ (tB1 (jU oW (eV 3)))) (qT (eB2 gNe (uT (eV 3)) (eC (.int 2))) (eB2 gNe (eIx (eV 3) (eC (.int 0))) (eC (.str "leaf"))))) (yG (eC (.bl false))) vC)
   (oY))
def sW:Sf:=(zH (yX 3 (iU "Store" "shape" 1 uF (eV 0) zL))
   (sZ))
def vQ:Sf:=(zH (yX 2 (zI 1 tI (zY (eV 1) zL)))
   (sW))
def bQ:Sf :=
   (vQ)
def wI:List D->Option D:=fnF 4 bQ
theorem mP (T:Txt K mg):OkT P w base T.q11 3 2 wI :=
 xH (k:=2) T.q11.F rL fun cdv A outer s H E hr =>
   (zV vQ rfl (zG 2 rL.nd (xX (kU T) hr (zZ (zW 1) zT)))
     (zV sW rfl (zG 3 rL.nd (dX T.ca_Store T.cl_Store T.me_Store_shape (kG T) (hr.mono (by omega)) T.b_Store_shape (zW 0)))
     (zV sZ rfl (yA (aO (rY (xQ (yP (nJ (T:="tuple") (TT:="tuple") rfl zXZ rfl T.z_isinstance rfl T.z_tuple (zW 3)))) (rY (yU zVw (tE rfl T.z_len (zW 3)) zU) (oX (yU zVw (yD (zW 3) zU) fQ))))) (zP (zF uP)) z3)
     (zP (zF (zWZ (xX (rP T) hr (zZ (dX T.ca_Store T.cl_Store T.me_Store_listed (mH T) (hr.mono (by omega)) T.b_Store_listed (zW 0)) (zZ (zW 2) zT))) (zXL (xX (rP T) hr (zZ (yD (zW 3) zU) (zZ (zW 2) zT))))))))))
theorem yR:FnScope ["_law_pool_here","_law_cell_here","_law_k","_law_one","_law_two","_law_size","_law_first","_law_last"] ["_law_pool_here","_law_cell_here","_law_k"] (zX sA):=yF (by decide +kernel)
def qJ:Sf:=(yG (vJ (zY (eV 6) (zY (eV 7) (zY (eIx (eIx (eV 0) (eC (.int 0))) (wY (zI 2 z4 (zY (eV 1) (zY (qR (mL (eC (.int 3)) (eV 2)) (eC (.int 3))) zL))) (eC (.int 12)))) zL)))))
def uH:Sf:=(zH (yX 7 (qR (eV 6) (wY (mL (gH (eV 4) (eC (.int 4))) (nE (eC (.int 48611)) (eC (.int 8)))) (eV 5))))
   (qJ))
def uG:Sf:=(zH (sIf (eB2 gEq (eIx (eV 0) (eC (.int 2))) (eC (.int 1))) (zH (yX 6 (wY (nE (eV 3) (eC (.int 6))) (nE (eC (.int 10)) (eC (.int 54)))))
   (yX 5 (eIx (eL (uS (zY (eC (.int 1)) (zY (eC (.int 5)) (zY (eC (.int 60)) (zY (qR (wY (nE (eV 4) (eC (.int 5))) (nE (eC (.int 10)) (eC (.int 40)))) (eC (.int 1))) zL)))))) (wY (eV 4) (eC (.int 4)))))) vC)
   (uH))
def uA:Sf:=(zH (yX 6 (wY (eV 3) (eIx (eL (uS (zY (eC (.int 30)) (zY (eC (.int 200)) (zY (eC (.int 4000)) zL))))) (eIx (eV 0) (eC (.int 1))))))
   (uG))
def uB:Sf:=(zH (yX 5 (eIx (eL (uS (zY (eC (.int 1)) (zY (eC (.int 5)) (zY (eC (.int 60)) (zY (eC (.int 2000)) zL)))))) (wY (eV 4) (eC (.int 4)))))
   (uA))
def uL:Sf:=(zH (yX 4 (zI 2 z4 (zY (eV 1) (zY (qR (mL (eC (.int 3)) (eV 2)) (eC (.int 2))) zL))))
   (uB))
def wD:Sf:=(zH (yX 3 (zI 2 z4 (zY (eV 1) (zY (qR (mL (eC (.int 3)) (eV 2)) (eC (.int 1))) zL))))
   (uL))
def bZ:Sf :=
   (wD)
def uO:List D->Option D:=fnF 8 bZ
theorem fJ (T:Txt K mg):OkT P w base T.q12 2 3 uO :=
 xH (k:=1) T.q12.F yR fun cdv A outer s H E hr =>
   (zV wD rfl (zG 3 yR.nd (xX (yV T) hr (zZ (zW 1) (zZ (tT (vE zU (zW 2)) zU) zT))))
     (zV uL rfl (zG 4 yR.nd (xX (yV T) hr (zZ (zW 1) (zZ (tT (vE zU (zW 2)) zU) zT))))
     (zV uB rfl (zG 5 yR.nd (yD (qE (uN (zZ zU (zZ zU (zZ zU (zZ zU zT)))))) (yI (zW 4) zU)))
     (zV uA rfl (zG 6 yR.nd (yI (zW 3) (yD (qE (uN (zZ zU (zZ zU (zZ zU zT))))) (yD (zW 0) zU))))
     (zV uG rfl (yA (yU zZN (yD (zW 0) zU) zU) (wJ (zG 6 yR.nd (yI (lO (zW 3) zU) (lO zU zU)))
     (zP (zG 5 yR.nd (yD (qE (uN (zZ zU (zZ zU (zZ zU (zZ (tT (yI (lO (zW 4) zU) (lO zU zU)) zU) zT)))))) (yI (zW 4) zU))))) z3)
     (zV uH rfl (zG 7 yR.nd (tT (zW 6) (yI (vE (kY (zW 4) zU) (lO zU zU)) (zW 5))))
     (zP (zF (uD (zZ (zW 6) (zZ (zW 7) (zZ (yD (yD (zW 0) zU) (yI (xX (yV T) hr (zZ (zW 1) (zZ (tT (vE zU (zW 2)) zU) zT))) zU)) zT))))))))))))
theorem qF:FnScope ["pages","root"] ["pages"] (zX nS):=yF (by decide +kernel)
def dF:Sf:=(yG (eV 1))
def rR:Sf:=(zH (vY (sB (yZ (tB1 (yJ "Page" "leaf" (eV 1)))) (eB2 gEq (uT (yJ "Page" "things" (eV 1))) (eC (.int 1)))) (yX 1 (eIx (yJ "Page" "things" (eV 1)) (eC (.int 0)))) 3)
   (dF))
def rV:Sf:=(zH (yX 1 (mV "Page" ["leaf","things","leasts","most"] 2 sV (zY (eC (.bl false)) (zY (eV 0) zL))))
   (rR))
def x4:Sf:=(zH (sIf (yZ (zXB (eV 0))) (yG (mV "Page" ["leaf","things","leasts","most"] 2 sV (zY (eC (.bl true)) (zY (eL (uS zL)) zL)))) vC)
   (rV))
def zZs:Sf :=
   (x4)
def vI:List D->Option D:=fnF 2 zZs
theorem lU (T:Txt K mg):OkT P w base T.q13 3 1 vI :=
 xH (k:=2) T.q13.F qF fun cdv A outer s H E hr =>
   (zV x4 rfl (yA (xQ (gQ (zW 0))) (zP (zF (lZ T.ca_Page T.mk_Page (oZ T) (hr.mono (by omega)) T.mc_Page T.bi_Page rfl (zZ uP (zZ (qE (uN zT)) zT))))) z3)
     (zV rV rfl (zG 1 qF.nd (lZ T.ca_Page T.mk_Page (oZ T) (hr.mono (by omega)) T.mc_Page T.bi_Page rfl (zZ uP (zZ (zW 0) zT))))
     (zV rR rfl (iQ 3 Rh (aO (zZ9 (xQ (yP (yH T.ca_Page T.cl_Page T.n_Page_leaf (zW 1)))) (cJ (yU zZN (tE rfl T.z_len (yH T.ca_Page T.cl_Page T.n_Page_things (zW 1))) zU)))) (zP (zG 1 qF.nd (yD (yH T.ca_Page T.cl_Page T.n_Page_things (zW 1)) zU))))
     (zP (zF (zW 1))))))
def zV3:List D->Option D:=fun _=>none
theorem zUO (T:Txt K mg):OkT P w base T.q14 1 2 zV3:=zXy
theorem lW:FnScope ["entry","first","last","name"] ["entry"] (zX aZ):=yF (by decide +kernel)
def zXJ:Sf:=(yG (vJ (zY (eV 1) (zY (eV 3) zL))))
def bS:Sf:=(zH (bG (eV 0) (gT (yO (gN 1) (yO (gN 2) (yO (gN 3) sD)))))
   (zXJ))
def zUz:Sf :=
   (bS)
def uE:List D->Option D:=fnF 4 zUz
theorem fF (T:Txt K mg):OkT P w base T.q15 1 1 uE :=
 xH (k:=0) T.q15.F lW fun cdv A outer s H E hr =>
   (zV bS rfl (aA (zW 0) (zVf 3 rfl (x5 (rG 1 lW.nd) (x5 (rG 2 lW.nd) (x5 (rG 3 lW.nd) kN))) (uM (uM (uM eZ)))))
     (zP (zF (uD (zZ (zW 1) (zZ (zW 3) zT))))))
theorem tR:FnScope ["page","entry","alike"] ["page","entry"] (zX vL):=yF (by decide +kernel)
def rQ:Sf:=(zYD 2 (yG (eIf (zXB (eV 2)) (eIx (eV 2) (eC (.int 0))) (eC .non))))
def uY:Sf:=(zH (aD 2 (xU (iL (yJ "Page" "things" (eV 0))) 1 [1] (gN 0) (eB2 zVL (zI 1 uE (zY (eV 0) zL)) (zI 1 uE (zY (eV 1) zL))) (eV 0)))
   (rQ))
def wK:Sf:=(zH (vY (yZ (tB1 (yJ "Page" "leaf" (eV 0)))) (yX 0 (eIx (yJ "Page" "things" (eV 0)) (zI 2 zV3 (zY (eV 0) (zY (eV 1) zL))))) 2)
   (uY))
def fW:Sf :=
   (wK)
def wP:List D->Option D:=fnF 3 fW
theorem uI (T:Txt K mg):OkT P w base T.q16 2 2 wP :=
 xH (k:=1) T.q16.F tR fun cdv A outer s H E hr =>
   (zV wK rfl (iQ 2 Rh (xQ (yP (yH T.ca_Page T.cl_Page T.n_Page_leaf (zW 0)))) (zP (zG 0 tR.nd (yD (yH T.ca_Page T.cl_Page T.n_Page_things (zW 0)) (xX (zUO T) hr (zZ (zW 0) (zZ (zW 1) zT)))))))
     (zV uY rfl (kK (zX vL) ["page","entry","alike"] ["other"] ["entry"] [1] (dC 0) 2 tR.nd rfl rfl (zXo (yH T.ca_Page T.cl_Page T.n_Page_things (zW 0))) rfl rfl rfl (by decide +kernel) (fun _ _ _ _=>(rG 0 (show(List.Nodup (α:=PySem.Str) ["other","entry"]) from by decide +kernel))) (fun _ _ _ _=>(iX (yU (zVj hr) (xX (fF T) hr (zZ (zW 0) zT)) (xX (fF T) hr (zZ (zW 1) zT))))) (fun _ _ _ _=>(zW 0)))
     (zP (zYt 2 (zF (zXd (gQ (zW 2)) (yD (zW 2) zU) hV))))))
theorem bU:FnScope ["leaf","things","size"] ["leaf","things","size"] (zX qA):=yF (by decide +kernel)
def gI:Sf:=(fun _=>none)
def sI:Sf:=(zH (sIf (eB2 gLe (uT (eV 1)) (eV 2)) (yG (eL (uS (zY (mV "Page" ["leaf","things","leasts","most"] 2 sV (zY (eV 0) (zY (eV 1) zL))) zL)))) vC)
   (gI))
def xR:Sf:=(zH (sIf (yZ (zXB (eV 1))) (yG (eL (uS zL))) vC)
   (sI))
def bP:Sf :=
   (xR)
def xV:List D->Option D:=fnF 3 bP
theorem nB (T:Txt K mg):OkT P w base T.q17 3 3 xV :=
 xH (k:=2) T.q17.F bU fun cdv A outer s H E hr =>
   (zV xR rfl (yA (xQ (gQ (zW 1))) (zP (zF (qE (uN zT)))) z3)
     (zV sI rfl (yA (yU zUe (tE rfl T.z_len (zW 1)) (zW 2)) (zP (zF (qE (uN (zZ (lZ T.ca_Page T.mk_Page (oZ T) (hr.mono (by omega)) T.mc_Page T.bi_Page rfl (zZ (zW 0) (zZ (zW 1) zT))) zT))))) z3)
     vH))
theorem kM:FnScope ["page","entry","size"] ["page","entry","size"] (zX tZ):=yF (by decide +kernel)
def mI:Sf:=(fun _=>none)
def xD:Sf:=(zH (sIf (tB1 (yJ "Page" "leaf" (eV 0))) (yG (zI 3 xV (zY (eC (.bl true)) (zY (eL (kX uE (zWL (iL (yJ "Page" "things" (eV 0))) (uS (zY (eV 1) zL))))) (zY (eV 2) zL))))) vC)
   (mI))
def jO:Sf :=
   (xD)
def tV:List D->Option D:=fnF 3 jO
theorem lI (T:Txt K mg):OkT P w base T.q18 7 3 tV :=
 xH (k:=6) T.q18.F kM fun cdv A outer s H E hr =>
   (zV xD rfl (yA (yP (yH T.ca_Page T.cl_Page T.n_Page_leaf (zW 0))) (zP (zF (xX (nB T) hr (zZ uP (zZ (qE (zYH (fF T) hr rfl T.z_sorted (zV6 (zWp (zVv (yH T.ca_Page T.cl_Page T.n_Page_things (zW 0))) (zV6 (uN (zZ (zW 1) zT))))))) (zZ (zW 2) zT)))))) z3)
     vH)
theorem oJ:FnScope ["self","entry"] ["self","entry"] (zX wZ):=yF (by decide +kernel)
def xA:Tf:=(eB2 gS (zI 2 wP (zY (qL 0 "Store" "root") (zY (eV 1) zL))) (eC .non))
def w6:Ef:=(zI 1 vI (zY (zI 3 tV (zY (qL 0 "Store" "root") (zY (eV 1) (zY (qL 0 "Store" "size") zL)))) zL))
def vO:List Str->List D->List D->Option (List D):=fun ns=>fnM 2 "Store" ns "root" xA w6
theorem jW (T:Txt K mg)(ns:List Str):FnOk P w K mg base CX0 8 T.f_Store_put T.fd_Store_put ["self","entry"] (spM K "Store" ns 1 (vO ns)) :=
 zXF (N:=["self","entry"]) (ps:=["entry"]) (k:=7) (tt:=xA) (fe:=w6) T.F_Store_put oJ T.ca_Store T.cl_Store T.n_Store_root rfl (fun cdv A outer s H E hr =>
   (yU dW (xX (uI T) hr (zZ (qW 0 T.ca_Store T.cl_Store T.n_Store_root) (zZ (zW 1) zT))) hV))
   (fun cdv A outer s H E hr=>(xX (lU T) hr (zZ (xX (lI T) hr (zZ (qW 0 T.ca_Store T.cl_Store T.n_Store_root) (zZ (zW 1) (zZ (qW 0 T.ca_Store T.cl_Store T.n_Store_size) zT)))) zT))) rfl (Or.inl rfl)
def iB:List D->Option D:=fnF 2 (fun _=>none)
def vK:List B->Option Str:=(xIf (eB2 gS (zI 2 wP (zY (yJ "Store" "root" (eV 0)) (zY (eV 1) zL))) (eC .non)) (zYd "Twice" zTM) zTt)
def wB:List D->Option Str:=fnX 2 vK
theorem jR (T:Txt K mg):FnOk P w K mg base (CXq P w) 8 T.f_Store_put T.fd_Store_put ["self","entry"] (spQ K 2 iB wB) :=
 zUr (N:=["self","entry"]) (ps:=["self","entry"]) (k:=7) (body:=fun _=>none) (xb:=vK) T.F_Store_put oJ (fun cdv A outer s H E hr=>vH)
   (fun cdv A outer s H E hr=>(zZ5 (zVg (yU dW (xX (uI T) hr (zZ (yH T.ca_Store T.cl_Store T.n_Store_root (zW 0)) (zZ (zW 1) zT))) hV) (zZ5 (zZd T.ca_Twice T.xc_Twice rfl T.mc_Twice T.kc_Twice rfl rfl zWI zTT)) zWS)))
theorem vM:FnScope ["_law_store","_law_entry_here","_law_caught","e"] ["_law_store","_law_entry_here"] (zX rU):=yF (by decide +kernel)
def qO:Sf:=(yG (zW8 oM (eV 2)))
def uK:Sf:=(zH (zXr ["Twice"] (zZL "Store" "put" 2 wB (eV 0) (zY (eV 1) zL)) 3 (yX 2 (eV 3)))
   (qO))
def wC:Sf:=(zH (yX 2 (eC .non))
   (uK))
def dI:Sf :=
   (wC)
def w9:List D->Option D:=fnF 4 dI
theorem gW (T:Txt K mg):OkT P w base T.q20 9 2 w9 :=
 xH (k:=8) T.q20.F vM fun cdv A outer s H E hr =>
   (zV wC rfl (zG 2 vM.nd hV)
     (zV uK rfl (zWP (i:=3) (jP T) (zYU zTg T.ca_Store T.cl_Store T.me_Store_put (jR T) (hr.mono (by omega)) T.b_Store_put (zW 0) (zZ (zW 1) zT)) rfl rfl rfl T.mc_YardError vM.nd (fun _=>(zP (zG 2 vM.nd (zW 3)))))
     (zP (zF (zUl (zYL T) T.mc_Twice rfl rfl T.z_isinstance (zW 2))))))
theorem nU:FnScope ["page","entry","size"] ["page","entry","size"] (zX xC):=yF (by decide +kernel)
def oE:Sf:=(fun _=>none)
def xY:Sf:=(zH (sIf (tB1 (yJ "Page" "leaf" (eV 0))) (yG (zI 3 xV (zY (eC (.bl true)) (zY (eL (xU (iL (yJ "Page" "things" (eV 0))) 1 [1] (gN 0) (eB2 pF (eV 0) (eV 1)) (eV 0))) (zY (eV 2) zL))))) vC)
   (oE))
def mK:Sf :=
   (xY)
def vZ:List D->Option D:=fnF 3 mK
theorem nG (T:Txt K mg):OkT P w base T.q21 4 3 vZ :=
 xH (k:=3) T.q21.F nU fun cdv A outer s H E hr =>
   (zV xY rfl (yA (yP (yH T.ca_Page T.cl_Page T.n_Page_leaf (zW 0))) (zP (zF (xX (nB T) hr (zZ uP (zZ (qE (pD (zX xC) ["page","entry","size"] ["other"] ["entry"] [1] (dC 0) (zXo (yH T.ca_Page T.cl_Page T.n_Page_things (zW 0))) rfl rfl rfl (by decide +kernel) (fun _ _ _ _=>(rG 0 (show(List.Nodup (α:=PySem.Str) ["other","entry"]) from by decide +kernel))) (fun _ _ _ _=>(iX (yU (kB hr) (zW 0) (zW 1)))) (fun _ _ _ _=>(zW 0)))) (zZ (zW 2) zT)))))) z3)
     vH)
theorem jT:FnScope ["self","entry"] ["self","entry"] (zX xS):=yF (by decide +kernel)
def xN:Tf:=(eB2 pF (zI 2 wP (zY (qL 0 "Store" "root") (zY (eV 1) zL))) (eV 1))
def wT:Ef:=(zI 1 vI (zY (zI 3 vZ (zY (qL 0 "Store" "root") (zY (eV 1) (zY (qL 0 "Store" "size") zL)))) zL))
def xI:List Str->List D->List D->Option (List D):=fun ns=>fnM 2 "Store" ns "root" xN wT
theorem kD (T:Txt K mg)(ns:List Str):FnOk P w K mg base CX0 5 T.f_Store_take T.fd_Store_take ["self","entry"] (spM K "Store" ns 1 (xI ns)) :=
 zXF (N:=["self","entry"]) (ps:=["entry"]) (k:=4) (tt:=xN) (fe:=wT) T.F_Store_take jT T.ca_Store T.cl_Store T.n_Store_root rfl (fun cdv A outer s H E hr =>
   (yU (kB hr) (xX (uI T) hr (zZ (qW 0 T.ca_Store T.cl_Store T.n_Store_root) (zZ (zW 1) zT))) (zW 1)))
   (fun cdv A outer s H E hr=>(xX (lU T) hr (zZ (xX (nG T) hr (zZ (qW 0 T.ca_Store T.cl_Store T.n_Store_root) (zZ (zW 1) (zZ (qW 0 T.ca_Store T.cl_Store T.n_Store_size) zT)))) zT))) rfl (Or.inl rfl)
theorem xB:FnScope ["_law_script","_law_size","_law_pool_here","_law_store","_law_kept","_law_k","_law_cell_here","_law_first","_law_last","_law_name","_law_m","_law_there","_law_gone"] ["_law_script"] (zX zXR):=yF (by decide +kernel)
def lL:Sf:=(sIf (y4 4 2 (y4 3 1 (yZ (tB1 (zI 2 wI (zY (eV 3) (zY (eV 4) zL))))))) (yG (eC (.bl false))) vC)
def oF:Sf:=(zH (sIf (y4 4 2 (sB (eB2 gGt (kC (eV 4)) (eC (.int 0))) (qT (eB2 gEq (kC (eV 4)) (eV 1)) (eB2 gEq (wY (eV 10) (eC (.int 4))) (eC (.int 0)))))) (zH (yX 11 (oA 4 2 (zI 1 tI (zY (eV 4) zL))))
   (zH (yX 12 (eIx (eV 11) (wY (gH (eV 10) (eC (.int 4))) (uT (eV 11)))))
   (zH (tH 3 "Store" "take" 1 xI (zY (eV 12) zL))
   (cY 4 (vJ (zY (eIx (eV 12) (eC (.int 0))) (zY (eIx (eV 12) (eC (.int 2))) zL))))))) (sIf (y4 4 2 (zYr false (vJ (zY (eV 7) (zY (eV 9) zL))) (eV 4))) (zH (tH 3 "Store" "put" 1 vO (zY (vJ (zY (eV 7) (zY (eV 8) (zY (eV 9) zL)))) zL))
   (zH (dS 4 (zY (eV 7) (zY (eV 9) zL)) (eV 8))
   (sIf (y4 3 1 (yZ (tB1 (zI 2 w9 (zY (eV 3) (zY (vJ (zY (eV 7) (zY (eV 8) (zY (eV 9) zL)))) zL)))))) (yG (eC (.bl false))) vC))) vC))
   (lL))
def kL:Sf:=(zH (yX 10 (zI 2 z4 (zY (eV 6) (zY (eC (.int 9)) zL))))
   (oF))
def oG:Sf:=(zH (bG (zI 3 uO (zY (eV 2) (zY (eV 6) (zY (eC (.int 0)) zL)))) (gT (yO (gN 7) (yO (gN 8) (yO (gN 9) sD)))))
   (kL))
def pH:Sf:=(zH (yX 5 (qR (eV 5) (eC (.int 1))))
   (oG))
def rO:Sf:=(zH (yX 6 (qR (eV 6) (mL (mL (eV 5) (eV 5)) (eC (.int 1000003)))))
   (pH))
def zVQ:Sf:=(yG (eC (.bl true)))
def gL:Sf:=(zH (fV (jY (eV 0) (sC (eC (.int 2))) (sC (eC (.int 63)))) (gN 6) (rO))
   (zVQ))
def gE:Sf:=(zH (yX 5 (eC (.int 0)))
   (gL))
def gM:Sf:=(zH (sIf (y4 4 2 (y4 3 1 (yZ (tB1 (zI 2 wI (zY (eV 3) (zY (eV 4) zL))))))) (yG (eC (.bl false))) vC)
   (gE))
def eT:Sf:=(zH (zXx 4)
   (gM))
def fY:Sf:=(zH (fH 3 "Store" ["size","root"] 1 lK (zY (eV 1) zL))
   (eT))
def gG:Sf:=(zH (yX 2 (zI 1 pV (zY (zI 2 vB (zY (eV 0) (zY (eC (.int 1)) zL))) zL)))
   (fY))
def mB:Sf:=(zH (yX 1 (qR (eC (.int 4)) (wY (zI 2 vB (zY (eV 0) (zY (eC (.int 0)) zL))) (eC (.int 9)))))
   (gG))
def zTH:Sf :=
   (mB)
def iV:List D->Option D:=fnF 13 zTH
theorem zUP (T:Txt K mg):OkT P w base T.q23 10 1 iV :=
 xH (k:=9) T.q23.F xB fun cdv A outer s H E hr =>
   (zV mB rfl (zG 1 xB.nd (tT zU (yI (xX (mU T) hr (zZ (zW 0) (zZ zU zT))) zU)))
     (zV gG rfl (zG 2 xB.nd (xX (bW T) hr (zZ (xX (mU T) hr (zZ (zW 0) (zZ zU zT))) zT)))
     (zV fY rfl (zYC 3 xB.nd T.ca_Store T.mk_Store (zZv T) (hr.mono (by omega)) T.mc_Store T.bi_Store rfl (zZ (zW 1) zT))
     (zV eT rfl (zXU 4 xB.nd)
     (zV gM rfl (yA (uZ 4 2 (uZ 3 1 (xQ (yP (xX (mP T) hr (zZ (zW 3) (zZ (zW 4) zT))))))) (zP (zF uP)) z3)
     (zV gE rfl (zG 5 xB.nd zU)
     (zV gL rfl (eY Rh rfl (zVs (zXw (zW 0) (zZ7 zU) (zZ7 zU))) (rG 6 xB.nd) (zV rO rfl (zG 6 xB.nd (tT (zW 6) (vE (vE (zW 5) (zW 5)) zU)))
     (zV pH rfl (zWd 5 xB.nd zU)
     (zV oG rfl (aA (xX (fJ T) hr (zZ (zW 2) (zZ (zW 6) (zZ zU zT)))) (zVf 3 rfl (x5 (rG 7 xB.nd) (x5 (rG 8 xB.nd) (x5 (rG 9 xB.nd) kN))) (uM (uM (uM eZ)))))
     (zV kL rfl (zG 10 xB.nd (xX (yV T) hr (zZ (zW 6) (zZ zU zT))))
     (zV oF rfl (yA (uZ 4 2 (aO (zZ9 (yU zTA (zZX rfl T.z_len (zW 4)) zU) (cJ (aO (rY (yU zZN (zZX rfl T.z_len (zW 4)) (zW 1)) (oX (yU zZN (yI (zW 10) zU) zU)))))))) (wJ (zG 11 xB.nd (zXA 4 2 (xX (kU T) hr (zZ (zW 4) zT))))
     (wJ (zG 12 xB.nd (yD (zW 11) (yI (kY (zW 10) zU) (tE rfl T.z_len (zW 11)))))
     (wJ (bT 3 T.ca_Store T.cl_Store T.me_Store_take (kD T) (hr.mono (by omega)) T.b_Store_take (zZ (zW 12) zT))
     (zP (zVS 4 (zTm PySem.F.plainAttrs_dict PySem.F.slot_dict_pop PySem.F.type_dict_pop (zWy hr) (pv 4) (xF (uD (zZ (yD (zW 12) zU) (zZ (yD (zW 12) zU) zT))) uJ))))))) (zP (yA (uZ 4 2 (zYX hr (uD (zZ (zW 7) (zZ (zW 9) zT))) (zW 4))) (wJ (bT 3 T.ca_Store T.cl_Store T.me_Store_put (jW T) (hr.mono (by omega)) T.b_Store_put (zZ (uD (zZ (zW 7) (zZ (zW 8) (zZ (zW 9) zT)))) zT))
     (wJ (zWh 4 hr (zW 8) (zZ (zW 7) (zZ (zW 9) zT)))
     (zP (yA (uZ 3 1 (xQ (yP (xX (gW T) hr (zZ (zW 3) (zZ (uD (zZ (zW 7) (zZ (zW 8) (zZ (zW 9) zT)))) zT)))))) (zP (zF uP)) z3)))) z3)))
     (zP (yA (uZ 4 2 (uZ 3 1 (xQ (yP (xX (mP T) hr (zZ (zW 3) (zZ (zW 4) zT))))))) (zP (zF uP)) z3))))))))
     (zP (zF uP)))))))))
end
open PySem.W
theorem zUn {l:OpenLaw}{w:World}{K:Frag}{h:Heap}{mg:Str->Option Value}{fa:Addr}
   {f8:Addr} {od8 an8:Option Addr} {sl8:Array (Option Value)} {oc8 kV8 dc8 pm8 cd8 ct8:Value}
   {f10:Addr} {od10 an10:Option Addr} {sl10:Array (Option Value)} {oc10 kV10 dc10 pm10 cd10 ct10:Value}
   {f19:Addr} {od19 an19:Option Addr} {sl19:Array (Option Value)} {oc19 kV19 dc19 pm19 cd19 ct19:Value}
   {f22:Addr} {od22 an22:Option Addr} {sl22:Array (Option Value)} {oc22 kV22 dc22 pm22 cd22 ct22:Value}
   {cC0 cF0:Addr} {codi0 cani0:Option Addr} {csl0:Array (Option Value)} {coc0 ckV0 cdc0 cpm0 ccd0 cct0:Value}
   {cC1 cF1:Addr} {codi1 cani1:Option Addr} {csl1:Array (Option Value)} {coc1 ckV1 cdc1 cpm1 ccd1 cct1:Value}
   {xC0:Addr}
   {xC1:Addr} (X:K.In h) (G:h.Ns mainGlobals mg) (hfa:mg "law"=some (.ref fa))
   (g0:tU K "_law_mixed" rS)
   (g1:tU K "_law_word" pQ)
   (g2:tU K "_law_pool" sQ)
   (g3:tU K "_law_cell" pS)
   (g4:tU K "_law_due" qV)
   (g5:tU K "_law_number" sF)
   (g6:tU K "_law_entries" uC)
   (g7:tU K "shape_of" pT)
   (g9:tU K "entries_beneath" wO)
   (g11:tU K "_law_leaf" pO)
   (g12:tU K "_law_entry" sA)
   (g13:tU K "root_of" nS)
   (g14:tU K "way" zV4)
   (g15:tU K "rank" aZ)
   (g16:tU K "entry_like" vL)
   (g17:tU K "pages_of" qA)
   (g18:tU K "put_beneath" tZ)
   (g20:tU K "_law_again" rU)
   (g21:tU K "taken_beneath" xC)
   (g23:tU K "law" zXR)
   (ca0:nsIn K mainGlobals "Page"=some (some (.ref cC0))) (ci0:findIn K (.ref cC0) "__init__"=some (some (.ref cF0))) (cn0:isFn K (.ref cF0)=true) (cl0:K.lookup cF0=some ⟨coc0,codi0,.func (fnOf "__init__" "Page.__init__" (zK vR) (zQ vR) (zX vR) .none ckV0 cdc0 cpm0 cani0 ccd0 cct0),csl0⟩) (cc0:codeIn K ccd0 "Page.__init__"=true) (ck0:keepIn K (.ref cF0)=true)
   (cpg0:plainGet K cC0 Str.empty=true) (chd0:hasDictIn K cC0=true) (cpo0:plainOver K cC0=true) (csa0:findIn K (.ref cC0) "__setattr__"=some (some (.builtin "object.__setattr__"))) (cmk0:makesIn K cC0=true) (ckc0:keepIn K (.ref cC0)=true)
   (cf0_leaf:findIn K (.ref cC0) "leaf"=some none)
   (cf0_leasts:findIn K (.ref cC0) "leasts"=some none)
   (cf0_most:findIn K (.ref cC0) "most"=some none)
   (cf0_things:findIn K (.ref cC0) "things"=some none)
   (ca1:nsIn K mainGlobals "Store"=some (some (.ref cC1))) (ci1:findIn K (.ref cC1) "__init__"=some (some (.ref cF1))) (cn1:isFn K (.ref cF1)=true) (cl1:K.lookup cF1=some ⟨coc1,codi1,.func (fnOf "__init__" "Store.__init__" (zK tO) (zQ tO) (zX tO) .none ckV1 cdc1 cpm1 cani1 ccd1 cct1),csl1⟩) (cc1:codeIn K ccd1 "Store.__init__"=true) (ck1:keepIn K (.ref cF1)=true)
   (cpg1:plainGet K cC1 Str.empty=true) (chd1:hasDictIn K cC1=true) (cpo1:plainOver K cC1=true) (csa1:findIn K (.ref cC1) "__setattr__"=some (some (.builtin "object.__setattr__"))) (cmk1:makesIn K cC1=true) (ckc1:keepIn K (.ref cC1)=true)
   (cf1_root:findIn K (.ref cC1) "root"=some none)
   (cf1_size:findIn K (.ref cC1) "size"=some none)
   (a8:findIn K (.ref cC1) "shape"=some (some (.ref f8))) (n8:isFn K (.ref f8)=true) (l8:K.lookup f8=some ⟨oc8,od8,.func (fnOf "shape" "Store.shape" (zK yC) (zQ yC) (zX yC) .none kV8 dc8 pm8 an8 cd8 ct8),sl8⟩) (c8:codeIn K cd8 "Store.shape"=true) (k8:keepIn K (.ref f8)=true)
   (a10:findIn K (.ref cC1) "listed"=some (some (.ref f10))) (n10:isFn K (.ref f10)=true) (l10:K.lookup f10=some ⟨oc10,od10,.func (fnOf "listed" "Store.listed" (zK yM) (zQ yM) (zX yM) .none kV10 dc10 pm10 an10 cd10 ct10),sl10⟩) (c10:codeIn K cd10 "Store.listed"=true) (k10:keepIn K (.ref f10)=true)
   (a19:findIn K (.ref cC1) "put"=some (some (.ref f19))) (n19:isFn K (.ref f19)=true) (l19:K.lookup f19=some ⟨oc19,od19,.func (fnOf "put" "Store.put" (zK wZ) (zQ wZ) (zX wZ) .none kV19 dc19 pm19 an19 cd19 ct19),sl19⟩) (c19:codeIn K cd19 "Store.put"=true) (k19:keepIn K (.ref f19)=true)
   (a22:findIn K (.ref cC1) "take"=some (some (.ref f22))) (n22:isFn K (.ref f22)=true) (l22:K.lookup f22=some ⟨oc22,od22,.func (fnOf "take" "Store.take" (zK xS) (zQ xS) (zX xS) .none kV22 dc22 pm22 an22 cd22 ct22),sl22⟩) (c22:codeIn K cd22 "Store.take"=true) (k22:keepIn K (.ref f22)=true)
   (xa0:nsIn K mainGlobals "Twice"=some (some (.ref xC0)))
   (xk0:aN K xC0=true)
   (xe0:keepIn K (.ref xC0)=true)
   (xc0:excIn K xC0 zVp "ValueError.__new__"=true)
   (xa1:nsIn K mainGlobals "YardError"=some (some (.ref xC1)))
   (ix_Twice:cU K (.ref xC0) [(xC0,true)]=true)
   (em_YardError_Twice:exmOne K (.ref xC0) (.ref xC1)=some true)
   (z_bool:nsIn K mainGlobals "bool"=some none)
   (z_int:nsIn K mainGlobals "int"=some none)
   (z_isinstance:nsIn K mainGlobals "isinstance"=some none)
   (z_len:nsIn K mainGlobals "len"=some none)
   (z_list:nsIn K mainGlobals "list"=some none)
   (z_max:nsIn K mainGlobals "max"=some none)
   (z_range:nsIn K mainGlobals "range"=some none)
   (z_sorted:nsIn K mainGlobals "sorted"=some none)
   (z_str:nsIn K mainGlobals "str"=some none)
   (z_tuple:nsIn K mainGlobals "tuple"=some none) :
   ∃fd:FuncData,(∀(s:Shared) (v:Value),BindsTo s fd ⟨[v],[]⟩ [("_law_script",v)])/\∀base:Heap,K.In base->base.Ns mainGlobals mg->FnOk l.prog w K mg base CX0 10 fa fd ["_law_script"] (spF K 1 iV):=by
 have cFF0:=rE (st:=vR) cl0 cc0 ck0
 have cb0:=cFF0.binds (ps:=["self","leaf","things"]) fun _ _ _ _ _ _ us hl=>match us,hl with | [_,_,_],_=>rfl
 have cFF1:=rE (st:=tO) cl1 cc1 ck1
 have cb1:=cFF1.binds (ps:=["self","size"]) fun _ _ _ _ _ _ us hl=>match us,hl with | [_,_],_=>rfl
 have F8:=rE (st:=yC) l8 c8 k8
 have b8:=F8.binds (ps:=["self"]) fun _ _ _ _ _ _ us hl=>match us,hl with | [_],_=>rfl
 have F10:=rE (st:=yM) l10 c10 k10
 have b10:=F10.binds (ps:=["self"]) fun _ _ _ _ _ _ us hl=>match us,hl with | [_],_=>rfl
 have F19:=rE (st:=wZ) l19 c19 k19
 have b19:=F19.binds (ps:=["self","entry"]) fun _ _ _ _ _ _ us hl=>match us,hl with | [_,_],_=>rfl
 have F22:=rE (st:=xS) l22 c22 k22
 have b22:=F22.binds (ps:=["self","entry"]) fun _ _ _ _ _ _ us hl=>match us,hl with | [_,_],_=>rfl
 exact zVb _ (bd1 fun _ _ _ _ _ _ _=>rfl) hfa fun base=>zUP ({ q0:=tK X G g0 (bd2 fun _ _ _ _ _ _ _ _=>rfl),q1:=tK X G g1 (bd2 fun _ _ _ _ _ _ _ _=>rfl),q2:=tK X G g2 (bd1 fun _ _ _ _ _ _ _=>rfl),q3:=tK X G g3 (bd2 fun _ _ _ _ _ _ _ _=>rfl),q4:=tK X G g4 (bd1 fun _ _ _ _ _ _ _=>rfl),q5:=tK X G g5 (bd1 fun _ _ _ _ _ _ _=>rfl),q6:=tK X G g6 (bd2 fun _ _ _ _ _ _ _ _=>rfl),q7:=tK X G g7 (bd1 fun _ _ _ _ _ _ _=>rfl),q9:=tK X G g9 (bd1 fun _ _ _ _ _ _ _=>rfl),q11:=tK X G g11 (bd2 fun _ _ _ _ _ _ _ _=>rfl),q12:=tK X G g12 (bd3 fun _ _ _ _ _ _ _ _ _=>rfl),q13:=tK X G g13 (bd1 fun _ _ _ _ _ _ _=>rfl),q14:=tK X G g14 (bd2 fun _ _ _ _ _ _ _ _=>rfl),q15:=tK X G g15 (bd1 fun _ _ _ _ _ _ _=>rfl),q16:=tK X G g16 (bd2 fun _ _ _ _ _ _ _ _=>rfl),q17:=tK X G g17 (bd3 fun _ _ _ _ _ _ _ _ _=>rfl),q18:=tK X G g18 (bd3 fun _ _ _ _ _ _ _ _ _=>rfl),q20:=tK X G g20 (bd2 fun _ _ _ _ _ _ _ _=>rfl),q21:=tK X G g21 (bd3 fun _ _ _ _ _ _ _ _ _=>rfl),q23:=tK X G g23 (bd1 fun _ _ _ _ _ _ _=>rfl),C_Page:=_,fi_Page:=_,fdi_Page:=_,ca_Page:=ca0,cl_Page:=⟨cpg0,chd0,cpo0,csa0⟩,mc_Page:=mg_of X G ca0,Fi_Page:=cFF0,bi_Page:=cb0,mk_Page:=⟨cmk0,ci0,cn0,ckc0⟩,n_Page_leaf:=cf0_leaf,n_Page_leasts:=cf0_leasts,n_Page_most:=cf0_most,n_Page_things:=cf0_things,C_Store:=_,fi_Store:=_,fdi_Store:=_,ca_Store:=ca1,cl_Store:=⟨cpg1,chd1,cpo1,csa1⟩,mc_Store:=mg_of X G ca1,Fi_Store:=cFF1,bi_Store:=cb1,mk_Store:=⟨cmk1,ci1,cn1,ckc1⟩,n_Store_root:=cf1_root,n_Store_size:=cf1_size,f_Store_shape:=_,fd_Store_shape:=_,F_Store_shape:=F8,b_Store_shape:=b8,me_Store_shape:=⟨a8,n8,k8⟩,f_Store_listed:=_,fd_Store_listed:=_,F_Store_listed:=F10,b_Store_listed:=b10,me_Store_listed:=⟨a10,n10,k10⟩,f_Store_put:=_,fd_Store_put:=_,F_Store_put:=F19,b_Store_put:=b19,me_Store_put:=⟨a19,n19,k19⟩,f_Store_take:=_,fd_Store_take:=_,F_Store_take:=F22,b_Store_take:=b22,me_Store_take:=⟨a22,n22,k22⟩,C_Twice:=_,ca_Twice:=xa0,mc_Twice:=mg_of X G xa0,xk_Twice:=zWk xk0,kc_Twice:=xe0,xc_Twice:=zWb xc0,C_YardError:=_,ca_YardError:=xa1,mc_YardError:=mg_of X G xa1,ix_Twice:=ix_Twice,em_YardError_Twice:=em_YardError_Twice,z_bool:=mg_none_of X G z_bool,z_int:=mg_none_of X G z_int,z_isinstance:=mg_none_of X G z_isinstance,z_len:=mg_none_of X G z_len,z_list:=mg_none_of X G z_list,z_max:=mg_none_of X G z_max,z_range:=mg_none_of X G z_range,z_sorted:=mg_none_of X G z_sorted,z_str:=mg_none_of X G z_str,z_tuple:=mg_none_of X G z_tuple }:Txt K mg)
theorem zVq {K:Frag}{H:Hp}{a:Addr}{ns:List Int}(hS:SqL K H a (ns.map V.int))(h:iV [.lst (ns.map .int)]=some (.bl true)):spF K 1 iV [.ref a] H (fun v _=>v = .bl true) fun _ _ _=>False:=by
 have rs:∀ns:List Int,Reps K H (ns.map .int) (ns.map V.int):=fun ns=>by
   induction ns with
   | nil=>exact zM.mpr rfl
   | cons n r ih=>exact zR.mpr ⟨_,_,rfl,zJ.mpr rfl,ih⟩
 exact⟨H,[.lst (ns.map .int)],.bl true,Same.refl _,zR.mpr ⟨_,_,rfl,yW.mpr ⟨a,_,rfl,hS,rs ns⟩,zM.mpr rfl⟩,rfl,h,fun v H' G' _ r=>wW.mp r⟩
end My
namespace My
open PySem L2
theorem kA {i:Nat}{f:Ef}{g:Sf}{ρ:List B}{d:D}(h:f ρ=some d):zH (yX i f) g ρ=g (ρ.set i (.fz d)):=wE (by unfold yX;rw[h];rfl)
theorem yL {i:Nat}{f:Ef}{g:Sf}{ρ:List B}{d:D}{r:Option D}(h:f ρ=some d)(k:(g (ρ.set i (.fz d))).bind xJ=r):(zH (yX i f) g ρ).bind xJ=r:=xO (by unfold yX;rw[h];rfl) k
theorem jM {t:Tf}{f g:Sf}{ρ:List B}{r:Option D}(h:t ρ=some false)(k:(g ρ).bind xJ=r):(zH (sIf t f vC) g ρ).bind xJ=r:=xO (by unfold sIf;rw[h];rfl) k
theorem jZ {t:Tf}{f:Sf}{ρ:List B}{b:Bool}(h:t ρ=some b):sIf t f vC ρ=if b then f ρ else some (.nx ρ):=by unfold sIf;rw[h];cases b<;>rfl
theorem pP {t:Tf}{e:Ef}{g:Sf}{ρ:List B}{r:Option D}(h:t ρ=some true)(k:e ρ=r):(zH (sIf t (yG e) vC) g ρ).bind xJ=r:=by
 unfold zH
 rw[jZ h,Qo rfl]
 unfold yG
 rw[k]
 cases r<;>rfl
theorem tY {e:Ef}{ρ:List B}:(yG e ρ).bind xJ=e ρ:=by unfold yG;cases e ρ<;>rfl
theorem oI {f:List D->Option D}{fa:Ef}{ρ:List B}{x:D}(h:fa ρ=some x):zI 1 f (zY fa zL) ρ=f [x]:=lH (zS h rfl) rfl
theorem wN {f:List D->Option D}{fa fb:Ef}{ρ:List B}{x y:D}(h1:fa ρ=some x)(h2:fb ρ=some y):zI 2 f (zY fa (zY fb zL)) ρ=f [x,y]:=lH (zS h1 (zS h2 rfl)) rfl
theorem cM {f:List D->Option D}{fa fb fc:Ef}{ρ:List B}{x y z:D}(h1:fa ρ=some x)(h2:fb ρ=some y)(h3:fc ρ=some z):zI 3 f (zY fa (zY fb (zY fc zL))) ρ=f [x,y,z]:=lH (zS h1 (zS h2 (zS h3 rfl))) rfl
theorem zD {C:Int->Int->Bool}{g:Int->Int->Int}{fa fb:Ef}{ρ:List B}{i j:Int}(h1:fa ρ=some (.int i))(h2:fb ρ=some (.int j))(h:C i j=true):eI C g fa fb ρ=some (.int (g i j)):=by
 unfold eI;rw[h1,h2];simp[h]
theorem aG {f:Ef}{ρ:List B}{x k:Int}(h:f ρ=some (.int x)):eB2 gEq f (eC (.int k)) ρ=some (decide (x=k)):=by unfold eB2;rw[h];rfl
theorem lR {fa fb:Ef}{ρ:List B}{i j:Int}(h1:fa ρ=some (.int i))(h2:fb ρ=some (.int j)):vU fa fb ρ=some (.int (i+j)):=by unfold vU;rw[h1,h2];rfl
theorem kQ {fa fb:Ef}{ρ:List B}{x y:Str}(h1:fa ρ=some (.str x))(h2:fb ρ=some (.str y))(h:x.length+y.length<=100000):vU fa fb ρ=some (.str (x++y)):=by unfold vU;rw[h1,h2];exact bF h
theorem mD {g:Lf}{ρ:List B}{ds:List D}(h:g ρ=some ds)(hl:ds.length<=100000):vJ g ρ=some (.tup ds):=by unfold vJ;rw[h,Qe,pR hl];rfl
theorem vA {g:Lf}{ρ:List B}{ds:List D}(h:g ρ=some ds)(hl:ds.length<=100000):uS g ρ=some ds:=by unfold uS;rw[h,Qe,pR hl]
theorem tX {fa fb:Ef}{ρ:List B}{x y:D}(h1:fa ρ=some x)(h2:fb ρ=some y):eIx fa fb ρ=atD x y:=by unfold eIx;rw[h1,h2];rfl
theorem fK {α:Type}{xs:List α}{i:Int}(h0:0<=i)(h1:i < xs.length):∃x∈xs,atI xs i=some x:=by
 have hi:i.toNat < xs.length:=by omega
 refine⟨xs[i.toNat],List.getElem_mem hi,?_⟩
 unfold atI ixN
 rw[Qo h0,Qo h1]
 simp[hi]
theorem zZS {α:Type}{elt:Ef}{f:α->D}{Q:α->Prop}{rest:List B}:∀(ds:List D) (x0:B) (acc:List D),(∀d∈ds,∃a,elt (.fz d::rest)=some (f a)/\Q a)->∃as:List α,rZ (gN 0) tOK elt ds (x0::rest) acc=some (acc++as.map f)/\as.length=ds.length/\∀a∈as,Q a
 | [],_,acc,_=>⟨[],by simp[rZ],rfl,fun _ h=>by cases h⟩
 | d::r,x0,acc,hh=>by
   obtain⟨a,ha,qa⟩:=hh d Qn
   obtain⟨as,e,el,hq⟩:=zZS (Q:=Q) r (.fz d) (acc++[f a]) fun q hq=>hh q (Qj _ hq)
   refine⟨a::as,?_,by rw[Qs,Qs,el],fun b hb=>by
     rcases Qh.mp hb with z | z
     · rw[z];exact qa
     · exact hq b z⟩
   unfold rZ
   have e1:gN 0 d (x0::rest)=some (.fz d::rest):=rfl
   have e2:tOK (.fz d::rest)=some true:=rfl
   rw[e1,Qe,e2,Qe,Qo rfl,ha,Qe,e]
   simp
def bN (c k:Int):Int:=(c % 1000000007*(48271+2*k*k)+12345+7919*k) % 2147483647
def mJ (c k:Int):Int:=bN c k*bN c k % 2147483629 / 3
theorem zZG (c k:Int):0<=mJ c k:=by unfold mJ;omega
theorem zZF (c k:Int):mJ c k < 2147483629:=by unfold mJ;omega
theorem w8 (c k:Int)(h0:0<=k)(h1:k < 1000):z4 [.int c,.int k]=some (.int (mJ c k)):=by
 have e1:pB (2:Int) k=true:=pM (by omega) (by omega)
 have e2:pB (2*k) k=true:=pM (by omega) (by omega)
 have e3:pB (c % 1000000007) (48271+2*k*k)=true:=pM (by omega) (by omega)
 have e4:pB (7919:Int) k=true:=pM (by omega) (by omega)
 have e5:pB (bN c k) (bN c k)=true:=pM (by unfold bN;omega) (by unfold bN;omega)
 show(wG [.fz (.int c),.fz (.int k),.no]).bind xJ=_
 unfold wG
 refine yL (d:=.int (c % 1000000007*(48271+2*k*k))) (zD (zD rfl rfl rfl) (zD rfl (zD (zD rfl rfl e1) rfl e2) rfl) e3) ?_
 unfold tS
 refine yL (d:=.int (bN c k)) (zD (zD (zD rfl rfl rfl) (zD rfl rfl e4) rfl) rfl rfl) ?_
 unfold qM
 rw[tY]
 exact zD (zD (zD rfl rfl e5) rfl rfl) rfl rfl
def yY:Str:=Str.ofString "abcdefghijklmnopqrstuvwxyz"
theorem pA:yY.length=26:=by decide +kernel
theorem zY1 {fb:Ef}{ρ:List B}{i:Int}(h2:ρ[2]?=some (.fz (.str yY)))(h:fb ρ=some (.int i)):∃s:Nat,eIx (eV 2) (wY fb (eC (.int 26))) ρ=some (.str ⟨#[s]⟩):=by
 have e:=zWG (x:=yY) (i:=i % 26) (by omega) (by rw[pA];omega) (by rw[pA];decide)
 refine⟨_,(tX (x:=.str yY) (y:=.int (i % 26)) ?_ (zD h rfl rfl)).trans e⟩
 show zXG ρ 2=_
 unfold zXG
 rw[h2]
theorem eJ {fa:Ef}{lo hi:Of}{ρ:List B}{x:Str}{l u:Option Int}(h:fa ρ=some (.str x))(h1:lo ρ=some l)(h2:hi ρ=some u)(hx:x.length<=100):∃y:Str,nF fa lo hi ρ=some (.str y)/\y.length<=100:=by
 refine⟨Txt.slice x l u,?_,We (Ta x l u) hx⟩
 unfold nF
 rw[h,Qe,h1,Qe,h2,Qe]
 exact Qo (show x.length<=100000 by omega)
theorem zWB (q j:Int):∃w:Str,sY [.int q,.int j]=some (.str w):=by
 have hm:=w8 q 11 (by decide) (by decide)
 generalize mJ q 11=m at hm
 have z0:0<=m % 12:=by omega
 have z1:m % 12 < 12:=by omega
 have ha:wY (gH (eV 3) (eC (.int 12))) (eV 4) [.fz (.int q),.fz (.int j),.fz (.str yY),.fz (.int m),.fz (.int (1+m % 12)),.no,.no,.no,.no]=some (.int (m / 12 % (1+m % 12))):=zD (zD rfl rfl rfl) rfl (Qc (by omega))
 generalize m / 12 % (1+m % 12)=pl at ha
 have src:∀x6 x7 x8:B,iR (eV 4) [.fz (.int q),.fz (.int j),.fz (.str yY),.fz (.int m),.fz (.int (1+m % 12)),.fz (.int pl),x6,x7,x8]=some (tW 0 (1+m % 12).toNat):=fun x6 x7 x8=>by
   have c1:decide (-1000000<=1+m % 12)=true:=Qc (by omega)
   have c2:decide (1+m % 12<=1000000)=true:=Qc (by omega)
   show(if decide (-1000000<=1+m % 12)&&decide (1+m % 12<=1000000) then some (tW 0 (1+m % 12).toNat) else none)=_
   rw[c1,c2];rfl
 obtain⟨ρ',e,y,x7,hy,rfl⟩:=eU (g:=gN 7) (body:=wF) (P:=fun i ρ=>∃y:Str,∃x7,y.length=i/\ρ=[.fz (.int q),.fz (.int j),.fz (.str yY),.fz (.int m),.fz (.int (1+m % 12)),.fz (.int pl),.fz (.str y),x7,.no]) (tW 0 (1+m % 12).toNat) 0 (fun i d hd ρ hρ=>by
     obtain⟨hi,rfl⟩:=zXN hd
     obtain⟨y,x7,hy,rfl⟩:=hρ
     have hk:=w8 q (20+(0+(i:Int))) (by omega) (by omega)
     obtain⟨s,es⟩:=zY1 (fb:=zI 2 z4 (zY (eV 0) (zY (vU (eC (.int 20)) (eV 7)) zL))) (ρ:=[.fz (.int q),.fz (.int j),.fz (.str yY),.fz (.int m),.fz (.int (1+m % 12)),.fz (.int pl),.fz (.str y),.fz (.int (0+(i:Int))),.no]) rfl ((wN rfl (lR rfl rfl)).trans hk)
     have hl:y.length+(⟨#[s]⟩:Str).length<=100000:=by show y.length+1<=100000;omega
     refine⟨_,[.fz (.int q),.fz (.int j),.fz (.str yY),.fz (.int m),.fz (.int (1+m % 12)),.fz (.int pl),.fz (.str (y++⟨#[s]⟩)),.fz (.int (0+(i:Int))),.no],rfl,?_,y++⟨#[s]⟩,_,by rw[rW,hy];rfl,rfl⟩
     unfold wF yX
     have:=kQ (fa:=eV 6) (x:=y) rfl es hl
     refine(Eh (Option.map _) this).trans rfl) [.fz (.int q),.fz (.int j),.fz (.str yY),.fz (.int m),.fz (.int (1+m % 12)),.fz (.int pl),.fz (.str (Str.ofString "")),.no,.no] ⟨_,_,by decide +kernel,rfl⟩
 rw[cZ] at hy
 obtain⟨s,es⟩:=zY1 (fb:=vU (gH (eV 3) (eC (.int 144))) (eV 1)) (ρ:=[.fz (.int q),.fz (.int j),.fz (.str yY),.fz (.int m),.fz (.int (1+m % 12)),.fz (.int pl),.fz (.str y),x7,.no]) rfl (lR (zD rfl rfl rfl) rfl)
 obtain⟨u,eu,lu⟩:=eJ (fa:=eV 6) (lo:=oNo) (hi:=sC (eV 5)) (ρ:=[.fz (.int q),.fz (.int j),.fz (.str yY),.fz (.int m),.fz (.int (1+m % 12)),.fz (.int pl),.fz (.str y),x7,.fz (.str ⟨#[s]⟩)]) (x:=y) rfl rfl rfl (by omega)
 obtain⟨v,ev,lv⟩:=eJ (fa:=eV 6) (lo:=sC (vU (eV 5) (eC (.int 1)))) (hi:=oNo) (ρ:=[.fz (.int q),.fz (.int j),.fz (.str yY),.fz (.int m),.fz (.int (1+m % 12)),.fz (.int pl),.fz (.str y),x7,.fz (.str ⟨#[s]⟩)]) (x:=y) rfl rfl rfl (by omega)
 have l1:(u++(⟨#[s]⟩:Str)).length<=101:=by rw[rW];show u.length+1<=101;omega
 refine⟨(u++⟨#[s]⟩)++v,?_⟩
 show(vS [.fz (.int q),.fz (.int j),.no,.no,.no,.no,.no,.no,.no]).bind xJ=_
 unfold vS
 refine yL (d:=.str yY) rfl ?_
 unfold sM
 refine yL (d:=.int m) ((wN rfl rfl).trans hm) ?_
 unfold sE
 refine yL (d:=.int (1+m % 12)) (lR rfl (zD rfl rfl rfl)) ?_
 unfold sP
 refine yL (d:=.int pl) ha ?_
 unfold sH
 refine yL (d:=.str (Str.ofString "")) rfl ?_
 unfold sK
 refine xO (ρ':=[.fz (.int q),.fz (.int j),.fz (.str yY),.fz (.int m),.fz (.int (1+m % 12)),.fz (.int pl),.fz (.str y),x7,.no]) ?_ ?_
 · show fV (iR (eV 4)) (gN 7) wF [.fz (.int q),.fz (.int j),.fz (.str yY),.fz (.int m),.fz (.int (1+m % 12)),.fz (.int pl),.fz (.str (Str.ofString "")),.no,.no]=_
   unfold fV
   rw[src,Qe]
   exact e
 unfold tG
 refine yL (d:=.str ⟨#[s]⟩) es ?_
 unfold oN
 rw[tY]
 exact kQ (kQ eu rfl (by show u.length+1<=100000;omega)) ev (by omega)
theorem zVO (q:Int):∃(ws:List Str) (a b:Int),pV [.int q]=some (.tup [.lst (ws.map .str),.int a,.int b])/\ws.length=14/\0<=a/\a < 3/\0<=b/\b < 3:=by
 obtain⟨ws,e,el,_⟩:=zZS (α:=Str) (elt:=zI 2 sY (zY (eV 1) (zY (eV 0) zL))) (f:=D.str) (Q:=fun _=>True) (rest:=[.fz (.int q)]) (tW 0 14) .no [] fun d hd=>by
   obtain⟨i,hi,rfl⟩:=dM hd
   obtain⟨w,ew⟩:=zWB q (0+(i:Int))
   exact⟨w,(wN rfl rfl).trans ew,trivial⟩
 rw[cZ] at el
 rw[List.nil_append] at e
 refine⟨ws,mJ q 12 % 3,mJ q 13 % 3,?_,el,by omega,by omega,by omega,by omega⟩
 show(vN [.fz (.int q),.no]).bind xJ=_
 unfold vN
 refine xO (ρ':=[.fz (.int q),.ow (ws.map .str)]) ?_ ?_
 · unfold aD xU
   have s1:(iR (eC (.int 14)) [.fz (.int q),.no]).bind okL=some (tW 0 14):=rfl
   rw[s1,Qe]
   have s2:upB 1 [0] [.fz (.int q),.no]=[.no,.fz (.int q)]:=rfl
   rw[s2,e]
   rfl
 · unfold pG zYD
   have s3:zYJ 1 [.fz (.int q),.ow (ws.map .str)]=[.fz (.int q),.fz (.lst (ws.map .str))]:=rfl
   rw[s3,tY]
   exact mD (zS rfl (zS (zD ((wN rfl rfl).trans (w8 q 12 (by decide) (by decide))) rfl rfl) (zS (zD ((wN rfl rfl).trans (w8 q 13 (by decide) (by decide))) rfl rfl) rfl))) (by simp)
structure Et where
 f:Int
 l:Int
 z:Str
def dE (e:Et):D:=.tup [.int e.f,.int e.l,.str e.z]
def kE (e:Et):Int×Str:=(e.f,e.z)
theorem zVl {xs:List Int}{i:Int}(h0:0<=i)(h1:i < xs.length):∃x∈xs,atD (.lst (xs.map .int)) (.int i)=some (.int x):=by
 obtain⟨x,hx,e⟩:=fK h0 h1
 refine⟨x,hx,?_⟩
 show atI (xs.map D.int) i=_
 rw[lY,e];rfl
theorem kT {fa fb:Ef}{ρ:List B}{i j:Int}(h1:fa ρ=some (.int i))(h2:fb ρ=some (.int j))(h:cB i j=true):nE fa fb ρ=some (.int (i^j.toNat)):=zD h1 h2 h
theorem zYs (ws:List Str)(a b c:Int)(hw:ws.length=14)(a0:0<=a)(a1:a < 3):∃e:Et,uO [.tup [.lst (ws.map .str),.int a,.int b],.int c,.int 0]=some (dE e):=by
 have m1:=w8 c (3*0+1) (by decide) (by decide)
 have m2:=w8 c (3*0+2) (by decide) (by decide)
 have m3:=w8 c (3*0+3) (by decide) (by decide)
 have n1:=zZG c (3*0+1)
 have n2:=zZG c (3*0+2)
 have l1:=zZF c (3*0+1)
 have l2:=zZF c (3*0+2)
 generalize mJ c (3*0+1)=one at m1 n1 l1
 generalize mJ c (3*0+2)=two at m2 n2 l2
 generalize mJ c (3*0+3)=thr at m3
 obtain⟨s0,hs0,es0⟩:=zVl (xs:=[1,5,60,2000]) (i:=two % 4) (by omega) (by show two % 4 < 4;omega)
 obtain⟨t0,ht0,et0⟩:=zVl (xs:=[30,200,4000]) (i:=a) a0 a1
 obtain⟨s1,hs1,es1⟩:=zVl (xs:=[1,5,60,two^5 % 10^40+1]) (i:=two % 4) (by omega) (by show two % 4 < 4;omega)
 have s0p:0 < s0:=by simp at hs0;omega
 have t0p:0 < t0:=by simp at ht0;omega
 have s1p:0 < s1:=by
   have:0<=two^5 % 10^40:=Int.emod_nonneg _ (by decide)
   simp at hs1
   omega
 have c6:cB one 6=true:=by
   unfold cB
   rw[Qc (by decide),Qc (by decide),Qc (by omega)];rfl
 have c5:cB two 5=true:=by
   unfold cB
   rw[Qc (by decide),Qc (by decide),Qc (by omega)];rfl
 obtain⟨w,hw',ew⟩:=fK (xs:=ws) (i:=thr % 12) (by omega) (by rw[hw];show thr % 12 < 14;omega)
 have mid:∃s f:Int,0 < s/\sIf (eB2 gEq (eIx (eV 0) (eC (.int 2))) (eC (.int 1))) (zH (yX 6 (wY (nE (eV 3) (eC (.int 6))) (nE (eC (.int 10)) (eC (.int 54)))))
     (yX 5 (eIx (eL (uS (zY (eC (.int 1)) (zY (eC (.int 5)) (zY (eC (.int 60)) (zY (qR (wY (nE (eV 4) (eC (.int 5))) (nE (eC (.int 10)) (eC (.int 40)))) (eC (.int 1))) zL)))))) (wY (eV 4) (eC (.int 4)))))) vC
     [.fz (.tup [.lst (ws.map .str),.int a,.int b]),.fz (.int c),.fz (.int 0),.fz (.int one),.fz (.int two),.fz (.int s0),.fz (.int (one % t0)),.no]
     = some (.nx [.fz (.tup [.lst (ws.map .str),.int a,.int b]),.fz (.int c),.fz (.int 0),.fz (.int one),.fz (.int two),.fz (.int s),.fz (.int f),.no]):=by
   by_cases hb:b=1
   · refine⟨s1,one^6 % 10^54,s1p,(jZ (b:=true) ?_).trans ?_⟩
     · rw[aG (x:=b) rfl,Qc hb]
     · rw[Qo rfl]
       rw[kA (d:=.int (one^6 % 10^54)) (zD (kT rfl rfl c6) (kT (i:=10) (j:=54) rfl rfl (by decide)) (by decide))]
       unfold yX
       have:=tX (ρ:=[.fz (.tup [.lst (ws.map .str),.int a,.int b]),.fz (.int c),.fz (.int 0),.fz (.int one),.fz (.int two),.fz (.int s0),.fz (.int (one^6 % 10^54)),.no]) (fa:=eL (uS (zY (eC (.int 1)) (zY (eC (.int 5)) (zY (eC (.int 60)) (zY (qR (wY (nE (eV 4) (eC (.int 5))) (nE (eC (.int 10)) (eC (.int 40)))) (eC (.int 1))) zL)))))) (fb:=wY (eV 4) (eC (.int 4)))
         (uQ (vA (zS rfl (zS rfl (zS rfl (zS (zD (zD (kT rfl rfl c5) (kT (i:=10) (j:=40) rfl rfl (by decide)) (by decide)) rfl rfl) rfl)))) (by simp))) (zD rfl rfl rfl)
       exact(Eh (Option.map _) (this.trans es1)).trans rfl
   · refine⟨s0,one % t0,s0p,(jZ (b:=false) ?_).trans rfl⟩
     rw[aG (x:=b) rfl,Wh hb]
 obtain⟨s,f,sp,emid⟩:=mid
 have cm:pB (two / 4) (48611^8)=true:=pM (by omega) (by omega)
 refine⟨⟨f,f+two / 4*48611^8 % s,w⟩,?_⟩
 show(wD [.fz (.tup [.lst (ws.map .str),.int a,.int b]),.fz (.int c),.fz (.int 0),.no,.no,.no,.no,.no]).bind xJ=_
 unfold wD
 refine yL (d:=.int one) ((wN rfl (zD (zD rfl rfl rfl) rfl rfl)).trans m1) ?_
 unfold uL
 refine yL (d:=.int two) ((wN rfl (zD (zD rfl rfl rfl) rfl rfl)).trans m2) ?_
 unfold uB
 refine yL (d:=.int s0) ((tX (uQ (vA (zS rfl (zS rfl (zS rfl (zS rfl rfl)))) (by simp))) (zD rfl rfl rfl)).trans es0) ?_
 unfold uA
 refine yL (d:=.int (one % t0)) (zD rfl ((tX (uQ (vA (zS rfl (zS rfl (zS rfl rfl))) (by simp))) rfl).trans et0) (Qc t0p)) ?_
 unfold uG
 refine xO emid ?_
 unfold uH
 refine yL (d:=.int (f+two / 4*48611^8 % s)) (zD rfl (zD (zD (zD rfl rfl rfl) (kT (i:=48611) (j:=8) rfl rfl (by decide)) cm) rfl (Qc sp)) rfl) ?_
 unfold qJ
 rw[tY]
 refine mD (zS rfl (zS rfl (zS ?_ rfl))) (by simp)
 refine(tX (x:=.lst (ws.map .str)) (y:=.int (thr % 12)) rfl (zD ((wN rfl (zD (zD rfl rfl rfl) rfl rfl)).trans m3) rfl rfl)).trans ?_
 show atI (ws.map D.str) (thr % 12)=_
 rw[lY,ew];rfl
abbrev pgN:List Str:=["leaf","things","leasts","most"]
def pE (es:List Et):D:=if (es.map Et.l).isEmpty=true then .non else .int (tP (es.map Et.l))
def pgD (es:List Et):D:=.obj "Page" pgN [.bl true,.lst (es.map dE),.lst (es.map dE),pE es]
theorem rJ {fa:Ef}{ρ:List B}{a b c d:D}(h:fa ρ=some (.obj "Page" pgN [a,b,c,d])):yJ "Page" "leaf" fa ρ=some a/\yJ "Page" "things" fa ρ=some b/\yJ "Page" "leasts" fa ρ=some c/\yJ "Page" "most" fa ρ=some d:=by
 refine⟨?_,?_,?_,?_⟩
 all_goals
   unfold yJ
   rw[h,Qe]
   refine(Qo rfl).trans ?_
   kernel_rfl
theorem mC {α:Type}{elt:Ef}{f h:α->D}{rest:List B}:∀(l:List α) (x0:B) (acc:List D),(∀a∈l,elt (.fz (f a)::rest)=some (h a))->rZ (gN 0) tOK elt (l.map f) (x0::rest) acc=some (acc++l.map h)
 | [],_,acc,_=>by simp[rZ]
 | a::r,x0,acc,hh=>by
   rw[Qp]
   unfold rZ
   have e1:gN 0 (f a) (x0::rest)=some (.fz (f a)::rest):=rfl
   have e2:tOK (.fz (f a)::rest)=some true:=rfl
   rw[e1,Qe,e2,Qe,Qo rfl,hh a Qn,Qe,mC r _ _ fun q hq=>hh q (Qj _ hq)]
   simp
theorem mG {α:Type}{t:Tf}{f:α->D}{p:α->Bool}{rest:List B}:∀(l:List α) (x0:B) (acc:List D),(∀a∈l,t (.fz (f a)::rest)=some (p a))->rZ (gN 0) t (eV 0) (l.map f) (x0::rest) acc=some (acc++(l.filter p).map f)
 | [],_,acc,_=>by simp[rZ]
 | a::r,x0,acc,hh=>by
   rw[Qp]
   unfold rZ
   have e1:gN 0 (f a) (x0::rest)=some (.fz (f a)::rest):=rfl
   have e3:eV 0 (.fz (f a)::rest)=some (f a):=rfl
   rw[e1,Qe,hh a Qn,Qe]
   cases hp:p a with
   | true=>rw[Qo rfl,e3,Qe,mG r _ _ fun q hq=>hh q (Qj _ hq),Te hp];simp
   | false=>rw[Qg (by decide),mG r _ _ fun q hq=>hh q (Qj _ hq),Tw (by simp[hp])]
theorem iN:∀l:List Int,iF (l.map .int)=some l
 | []=>rfl
 | i::r=>by show(iF (r.map .int)).map _=_;rw[iN r];rfl
theorem aC {g:Lf}{ρ:List B}{l:List Int}(h:g ρ=some (l.map .int)):lA g ρ=some (if l.isEmpty=true then .non else .int (tP l)):=by
 unfold lA
 rw[h,Qe,iN,Qe]
 split<;>rfl
theorem nY (es:List Et)(hl:es.length<=1000):sV [.bl true,.lst (es.map dE)]=some [.bl true,.lst (es.map dE),.lst (es.map dE),pE es]:=by
 show oR [.no,.fz (.bl true),.fz (.lst (es.map dE)),.no]=_
 have e1:eIf (tB1 (eV 1)) (eL (xU (iL (eV 2)) 1 [] (gN 0) tOK (eIx (eV 0) (eC (.int 1))))) (eL (xU (iL (eV 2)) 1 [] (gN 0) tOK (yJ "Page" "most" (eV 0)))) [.no,.fz (.bl true),.fz (.lst (es.map dE)),.no]=some (.lst ((es.map Et.l).map .int)):=by
   show eL (xU (iL (eV 2)) 1 [] (gN 0) tOK (eIx (eV 0) (eC (.int 1)))) [.no,.fz (.bl true),.fz (.lst (es.map dE)),.no]=_
   refine uQ ?_
   unfold xU
   have s1:(iL (eV 2) [.no,.fz (.bl true),.fz (.lst (es.map dE)),.no]).bind okL=some (es.map dE):=pR (by rw[Qa];omega)
   rw[s1,Qe]
   have:=mC (elt:=eIx (eV 0) (eC (.int 1))) (f:=dE) (h:=fun e=>.int e.l) (rest:=[]) es .no [] fun e _=>rfl
   rw[Em]
   exact this
 unfold oR
 rw[e1,Qe]
 show zY (eV 1) (zY (eV 2) (zY _ (zY (lA (iL (eV 3))) zL))) [.no,.fz (.bl true),.fz (.lst (es.map dE)),.fz (.lst ((es.map Et.l).map .int))]=_
 exact zS rfl (zS rfl (zS rfl (zS (aC rfl) rfl)))
theorem zZ4 (e:Et)(es:List Et):atD (.lst ((e::es).map dE)) (.int 0)=some (dE e):=by
 show atI ((e::es).map dE) 0=_
 rw[oS _ 0 .non (by decide) (by rw[Qa,Qs];omega)]
 rfl
theorem dJ (e:Et)(es:List Et):∃c d,sV [.bl false,.lst [pgD (e::es)]]=some [.bl false,.lst [pgD (e::es)],c,d]:=by
 have hp:=fun(ρ:List B)=>rJ (fa:=eV 0) (ρ:=.fz (pgD (e::es))::ρ) (a:=.bl true) (b:=.lst ((e::es).map dE)) (c:=.lst ((e::es).map dE)) (d:=pE (e::es)) rfl
 refine⟨.lst [dE e],.int (tP [tP ((e::es).map Et.l)]),?_⟩
 show oR [.no,.fz (.bl false),.fz (.lst [pgD (e::es)]),.no]=_
 have e1:eIf (tB1 (eV 1)) (eL (xU (iL (eV 2)) 1 [] (gN 0) tOK (eIx (eV 0) (eC (.int 1))))) (eL (xU (iL (eV 2)) 1 [] (gN 0) tOK (yJ "Page" "most" (eV 0)))) [.no,.fz (.bl false),.fz (.lst [pgD (e::es)]),.no]=some (.lst [.int (tP ((e::es).map Et.l))]):=by
   show eL (xU (iL (eV 2)) 1 [] (gN 0) tOK (yJ "Page" "most" (eV 0))) [.no,.fz (.bl false),.fz (.lst [pgD (e::es)]),.no]=_
   refine uQ ?_
   exact mC (α:=Unit) (elt:=yJ "Page" "most" (eV 0)) (f:=fun _=>pgD (e::es)) (h:=fun _=>.int (tP ((e::es).map Et.l))) (rest:=[]) [()] .no [] fun _ _=>(hp []).2.2.2
 unfold oR
 rw[e1,Qe]
 show zY (eV 1) (zY (eV 2) (zY _ (zY (lA (iL (eV 3))) zL))) [.no,.fz (.bl false),.fz (.lst [pgD (e::es)]),.fz (.lst [.int (tP ((e::es).map Et.l))])]=_
 refine zS rfl (zS rfl (zS ?_ (zS (aC (l:=[tP ((e::es).map Et.l)]) rfl) rfl)))
 show eL (xU (iL (eV 2)) 1 [] (gN 0) tOK (eIx (yJ "Page" "leasts" (eV 0)) (eC (.int 0)))) [.no,.fz (.bl false),.fz (.lst [pgD (e::es)]),.fz (.lst [.int (tP ((e::es).map Et.l))])]=_
 refine uQ ?_
 exact mC (α:=Unit) (elt:=eIx (yJ "Page" "leasts" (eV 0)) (eC (.int 0))) (f:=fun _=>pgD (e::es)) (h:=fun _=>dE e) (rest:=[]) [()] .no [] fun _ _=>(tX (hp []).2.2.1 rfl).trans (zZ4 e es)
theorem zXl:vI [.lst []]=some (pgD []):=by
 show(x4 [.fz (.lst []),.no]).bind xJ=_
 unfold x4
 refine pP rfl ?_
 exact oU (zS rfl (zS (uQ (vA rfl (by decide))) rfl)) rfl (nY [] (by decide)) rfl
theorem zXv (e:Et)(es:List Et):vI [.lst [pgD (e::es)]]=some (pgD (e::es)):=by
 obtain⟨c,d,hb⟩:=dJ e es
 show(x4 [.fz (.lst [pgD (e::es)]),.no]).bind xJ=_
 unfold x4
 refine jM rfl ?_
 unfold rV
 refine yL (d:=.obj "Page" pgN [.bl false,.lst [pgD (e::es)],c,d]) (oU (zS rfl (zS rfl rfl)) rfl hb rfl) ?_
 unfold rR
 show(zH _ _ [.fz (.lst [pgD (e::es)]),.fz (.obj "Page" pgN [.bl false,.lst [pgD (e::es)],c,d])]).bind xJ=_
 have f1:=rJ (fa:=eV 1) (ρ:=[.fz (.lst [pgD (e::es)]),.fz (.obj "Page" pgN [.bl false,.lst [pgD (e::es)],c,d])]) (a:=.bl false) (b:=.lst [pgD (e::es)]) (c:=c) (d:=d) rfl
 have f2:=rJ (fa:=eV 1) (ρ:=[.fz (.lst [pgD (e::es)]),.fz (pgD (e::es))]) (a:=.bl true) (b:=.lst ((e::es).map dE)) (c:=.lst ((e::es).map dE)) (d:=pE (e::es)) rfl
 refine xO (ρ':=[.fz (.lst [pgD (e::es)]),.fz (pgD (e::es))]) ?_ rfl
 have t1:sB (yZ (tB1 (yJ "Page" "leaf" (eV 1)))) (eB2 gEq (uT (yJ "Page" "things" (eV 1))) (eC (.int 1))) [.fz (.lst [pgD (e::es)]),.fz (.obj "Page" pgN [.bl false,.lst [pgD (e::es)],c,d])]=some true:=by
   unfold sB yZ tB1 eB2 uT
   rw[f1.1,f1.2.1];rfl
 have t2:sB (yZ (tB1 (yJ "Page" "leaf" (eV 1)))) (eB2 gEq (uT (yJ "Page" "things" (eV 1))) (eC (.int 1))) [.fz (.lst [pgD (e::es)]),.fz (pgD (e::es))]=some false:=by
   unfold sB yZ tB1
   rw[f2.1];rfl
 have b1:yX 1 (eIx (yJ "Page" "things" (eV 1)) (eC (.int 0))) [.fz (.lst [pgD (e::es)]),.fz (.obj "Page" pgN [.bl false,.lst [pgD (e::es)],c,d])]=some (.nx [.fz (.lst [pgD (e::es)]),.fz (pgD (e::es))]):=by
   unfold yX
   rw[(tX f1.2.1 rfl).trans (show atD (.lst [pgD (e::es)]) (.int 0)=some (pgD (e::es)) from rfl)]
   rfl
 rw[vY,t1,Qe,Qo rfl,b1,Qe]
 show vY _ _ 2 _=_
 rw[vY,t2,Qe,Qg (by decide)]
theorem zZm (n:Int):xV [.bl true,.lst [],.int n]=some (.lst []):=by
 show(xR [.fz (.bl true),.fz (.lst []),.fz (.int n)]).bind xJ=_
 unfold xR
 exact pP rfl rfl
theorem zZb (e:Et)(es:List Et)(n:Int)(h:((e::es).length:Int)<=n)(hl:(e::es).length<=1000):xV [.bl true,.lst ((e::es).map dE),.int n]=some (.lst [pgD (e::es)]):=by
 show(xR [.fz (.bl true),.fz (.lst ((e::es).map dE)),.fz (.int n)]).bind xJ=_
 unfold xR
 refine jM rfl ?_
 unfold sI
 refine pP ?_ ?_
 · show some (decide (((e::es).map dE).length<=n))=_
   rw[Qa,Qc h]
 · exact uQ (vA (zS (oU (zS rfl (zS rfl rfl)) rfl (nY (e::es) hl) rfl) rfl) (by simp))
theorem zZT (es:List Et)(n:Int)(h:(es.length:Int)<=n)(hl:es.length<=1000):∃r,xV [.bl true,.lst (es.map dE),.int n]=some r/\vI [r]=some (pgD es):=by
 cases es with
 | nil=>exact⟨_,zZm n,zXl⟩
 | cons e es=>exact⟨_,zZb e es n h hl,zXv e es⟩
theorem fL (e:Et):uE [dE e]=some (dIS (kE e)):=rfl
theorem zTR (p q:Int×Str):zVL (dIS p) (dIS q)=some (decide (p=q)):=by
 show some ((p.1==q.1&&(p.2==q.2&&true))&&true)=_
 congr 1
 obtain⟨a,b⟩:=p
 obtain⟨c,d⟩:=q
 by_cases h1:a=c<;>by_cases h2:b=d<;>simp[h1,h2]
def xK (a e:Et):Bool:=a.f==e.f&&(a.l==e.l&&a.z==e.z)
theorem qX {a e:Et}:xK a e=true↔a=e:=by
 obtain⟨f,l,z⟩:=a
 obtain⟨f',l',z'⟩:=e
 unfold xK
 simp
theorem zUG (a e:Et):pF (dE a) (dE e)=some (!xK a e):=by
 show some (!((a.f==e.f&&(a.l==e.l&&(a.z==e.z&&true)))&&true))=_
 unfold xK
 simp
def mS (es:List Et)(e:Et):List Et:=es.filter fun a=>decide (kE a=kE e)
def zTN:List Et->D | []=>.non | x::_=>dE x
theorem fP (es:List Et)(e:Et)(hl:es.length<=1000):wP [pgD es,dE e]=some (zTN (mS es e)):=by
 show(wK [.fz (pgD es),.fz (dE e),.no]).bind xJ=_
 have f1:=rJ (fa:=eV 0) (ρ:=[.fz (pgD es),.fz (dE e),.no]) (a:=.bl true) (b:=.lst (es.map dE)) (c:=.lst (es.map dE)) (d:=pE es) rfl
 unfold wK
 refine xO (ρ':=[.fz (pgD es),.fz (dE e),.no]) ?_ ?_
 · have t:yZ (tB1 (yJ "Page" "leaf" (eV 0))) [.fz (pgD es),.fz (dE e),.no]=some false:=by
     unfold yZ tB1
     rw[f1.1];rfl
   rw[vY,t,Qe,Qg (by decide)]
 · unfold uY
   refine xO (ρ':=[.fz (pgD es),.fz (dE e),.ow ((mS es e).map dE)]) ?_ ?_
   · unfold aD xU iL
     rw[f1.2.1,Qe]
     have s1:(some (es.map dE)).bind okL=some (es.map dE):=pR (by rw[Qa];omega)
     show Option.map _ (((some (es.map dE)).bind okL).bind _)=_
     rw[s1,Qe]
     have:=mG (t:=eB2 zVL (zI 1 uE (zY (eV 0) zL)) (zI 1 uE (zY (eV 1) zL))) (f:=dE) (p:=fun a=>decide (kE a=kE e)) (rest:=[.fz (dE e)]) es .no [] fun a _=>by
       unfold eB2
       rw[oI (x:=dE a) rfl,oI (x:=dE e) rfl,fL,fL]
       exact zTR _ _
     exact(Eh (Option.map _) this).trans rfl
   · unfold rQ zYD
     have s3:zYJ 2 [.fz (pgD es),.fz (dE e),.ow ((mS es e).map dE)]=[.fz (pgD es),.fz (dE e),.fz (.lst ((mS es e).map dE))]:=rfl
     rw[s3,tY]
     cases mS es e with
     | nil=>rfl
     | cons x r=>exact zZ4 x r
theorem zYM {es:List Et}{e:Et}(h:∀a∈es,kE a≠kE e):mS es e=[]:=List.filter_eq_nil_iff.mpr fun a ha=>by simpa using h a ha
theorem cL {es:List Et}{e:Et}(he:e∈es)(nd:(es.map kE).Nodup):∃r,mS es e=e::r:=by
 induction es with
 | nil=>cases he
 | cons a r ih =>
   rw[Qp,Wm] at nd
   unfold mS
   rcases Qh.mp he with rfl | he
   · exact⟨_,Te (by simp)⟩
   · rw[Tw]
     · exact ih he nd.2
     · have:kE a≠kE e:=fun z=>nd.1 (by rw[z];exact Rj he)
       simpa using this
abbrev zE:Et:=⟨0,0,⟨#[]⟩⟩
def xW (l:List Et):List Et:=(qS (l.map kE)).map fun i=>l.getD i zE
theorem zV2 {l:List Et}{i:Nat}(h:i∈qS (l.map kE)):i < l.length:=by
 have:=(vG (l.map kE)).subset h
 simpa using this
theorem qB (l:List Et):(xW l).Perm l:=by
 unfold xW
 refine((vG (l.map kE)).map _).trans ?_
 rw[Qa,wU]
theorem bE (l:List Et):(xW l).map kE=sO (l.map kE):=by
 unfold xW sO
 rw[Em]
 refine List.map_congr_left fun i hi=>?_
 have h:=zV2 hi
 show kE (l.getD i zE)=(l.map kE).getD i isZ
 simp[h]
theorem nV (l:List Et):(xW l).length=l.length:=(qB l).length_eq
theorem jB:∀l:List Et,lP uE (l.map dE)=some (l.map kE)
 | []=>rfl
 | e::r=>by
   show((uE [dE e]).bind zWu).bind _=_
   rw[fL,jB r]
   rfl
theorem zX0 {g:Lf}{ρ:List B}{l:List Et}(h:g ρ=some (l.map dE))(hl:l.length < 64):kX uE g ρ=some ((xW l).map dE):=by
 unfold kX
 rw[h,Qe,jB,Qe,Qo (by rw[Qa];exact hl)]
 unfold xW
 rw[Em]
 congr 1
 refine List.map_congr_left fun i hi=>?_
 have h:=zV2 hi
 show(l.map dE).getD i .non=dE (l.getD i zE)
 simp[h]
abbrev stN:List Str:=["size","root"]
def stD (n:Int)(es:List Et):D:=.obj "Store" stN [.int n,pgD es]
theorem zTJ (n:Int)(es:List Et)(ρ:List B):qL 0 "Store" "root" (.mu (stD n es)::ρ)=some (pgD es)/\qL 0 "Store" "size" (.mu (stD n es)::ρ)=some (.int n):=by
 refine⟨?_,?_⟩
 all_goals
   refine(Qo rfl:(if ("Store":Str)="Store" then _ else none)=_).trans ?_
   kernel_rfl
theorem lE (es:List Et)(e:Et)(n:Int)(hl:es.length < 60){r:D}(h:xV [.bl true,.lst ((xW (es++[e])).map dE),.int n]=some r):tV [pgD es,dE e,.int n]=some r:=by
 show(xD [.fz (pgD es),.fz (dE e),.fz (.int n)]).bind xJ=_
 have f1:=rJ (fa:=eV 0) (ρ:=[.fz (pgD es),.fz (dE e),.fz (.int n)]) (a:=.bl true) (b:=.lst (es.map dE)) (c:=.lst (es.map dE)) (d:=pE es) rfl
 unfold xD
 refine pP ?_ ?_
 · unfold tB1
   rw[f1.1];rfl
 · refine(cM rfl (uQ (zX0 (l:=es++[e]) ?_ (by rw[Ql];simp;omega))) rfl).trans h
   unfold zWL iL
   rw[f1.2.1,Qe]
   show(some (es.map dE)).bind _=_
   rw[Qe,vA (zS (d:=dE e) rfl rfl) (by simp),Qe,pR (by rw[Ql,Qa];simp;omega),Rg]
   rfl
theorem zVc (es:List Et)(e:Et)(n:Int)(hk:∀a∈es,kE a≠kE e)(hn:(es.length:Int)+1<=n)(hl:es.length < 60):vO stN [.int n,pgD es] [dE e]=some [.int n,pgD (xW (es++[e]))]:=by
 obtain⟨r,h1,h2⟩:=zZT (xW (es++[e])) n (by rw[nV,Ql];simp;omega) (by rw[nV,Ql];simp;omega)
 obtain⟨m1,m2⟩:=zTJ n es [.fz (dE e)]
 show fnM 2 "Store" stN "root" xA w6 [.int n,pgD es] [dE e]=_
 unfold fnM
 show(xA [.mu (stD n es),.fz (dE e)]).bind _=_
 have ht:xA [.mu (stD n es),.fz (dE e)]=some false:=by
   unfold xA eB2
   rw[wN m1 rfl,fP es e (by omega),zYM hk]
   rfl
 rw[ht,Qe,Qo ⟨rfl,by decide +kernel,by decide⟩]
 have he:w6 [.mu (stD n es),.fz (dE e)]=some (pgD (xW (es++[e]))):=(oI ((cM m1 rfl m2).trans (lE es e n hl h1))).trans h2
 show(w6 [.mu (stD n es),.fz (dE e)]).map _=_
 rw[he]
 show some (setF "root" _ stN [.int n,pgD es])=_
 rw[show setF "root" (pgD (xW (es++[e]))) stN [.int n,pgD es]=[.int n,pgD (xW (es++[e]))] from by kernel_rfl]
theorem zX4 (es:List Et)(e:Et)(n:Int)(hl:es.length < 60){r:D}(h:xV [.bl true,.lst ((es.filter fun a => !xK a e).map dE),.int n]=some r):vZ [pgD es,dE e,.int n]=some r:=by
 show(xY [.fz (pgD es),.fz (dE e),.fz (.int n)]).bind xJ=_
 have f1:=rJ (fa:=eV 0) (ρ:=[.fz (pgD es),.fz (dE e),.fz (.int n)]) (a:=.bl true) (b:=.lst (es.map dE)) (c:=.lst (es.map dE)) (d:=pE es) rfl
 unfold xY
 refine pP ?_ ?_
 · unfold tB1
   rw[f1.1];rfl
 · refine(cM (y:=.lst ((es.filter fun a => !xK a e).map dE)) rfl (uQ ?_) rfl).trans h
   unfold xU iL
   rw[f1.2.1,Qe]
   have s1:(some (es.map dE)).bind okL=some (es.map dE):=pR (by rw[Qa];omega)
   show((some (es.map dE)).bind okL).bind _=_
   rw[s1,Qe]
   exact mG (t:=eB2 pF (eV 0) (eV 1)) (f:=dE) (p:=fun a => !xK a e) (rest:=[.fz (dE e)]) es .no [] fun a _=>zUG a e
theorem zW1 (es:List Et)(e:Et)(n:Int)(he:e∈es)(nd:(es.map kE).Nodup)(hn:(es.length:Int)<=n)(hl:es.length < 60):xI stN [.int n,pgD es] [dE e]=some [.int n,pgD (es.filter fun a => !xK a e)]:=by
 have hf:(es.filter fun a => !xK a e).length<=es.length:=To _ _
 obtain⟨r,h1,h2⟩:=zZT (es.filter fun a => !xK a e) n (by omega) (by omega)
 obtain⟨m1,m2⟩:=zTJ n es [.fz (dE e)]
 obtain⟨t,hlk⟩:=cL he nd
 show fnM 2 "Store" stN "root" xN wT [.int n,pgD es] [dE e]=_
 unfold fnM
 show(xN [.mu (stD n es),.fz (dE e)]).bind _=_
 have ht:xN [.mu (stD n es),.fz (dE e)]=some false:=by
   unfold xN eB2
   rw[wN m1 rfl,fP es e (by omega),hlk]
   show pF (dE e) (dE e)=_
   rw[zUG,qX.mpr rfl];rfl
 rw[ht,Qe,Qo ⟨rfl,by decide +kernel,by decide⟩]
 have he:wT [.mu (stD n es),.fz (dE e)]=some (pgD (es.filter fun a => !xK a e)):=(oI ((cM m1 rfl m2).trans (zX4 es e n hl h1))).trans h2
 show(wT [.mu (stD n es),.fz (dE e)]).map _=_
 rw[he]
 show some (setF "root" _ stN [.int n,pgD es])=_
 rw[show setF "root" (pgD (es.filter fun a => !xK a e)) stN [.int n,pgD es]=[.int n,pgD (es.filter fun a => !xK a e)] from by kernel_rfl]
theorem aT {fa:Ef}{ρ:List B}{n:Int}{es:List Et}(h:fa ρ=some (stD n es)):yJ "Store" "root" fa ρ=some (pgD es):=by
 unfold yJ
 rw[h,Qe]
 refine(Qo rfl:(if ("Store":Str)="Store" then _ else none)=_).trans ?_
 kernel_rfl
theorem zXC (es:List Et)(e:Et)(n:Int)(he:e∈es)(nd:(es.map kE).Nodup)(hl:es.length < 60):w9 [stD n es,dE e]=some (.bl true):=by
 obtain⟨t,hlk⟩:=cL he nd
 have hx:wB [stD n es,dE e]=some ("Twice":Str):=by
   show vK [.fz (stD n es),.fz (dE e)]=_
   unfold vK xIf eB2
   rw[wN (aT (n:=n) (es:=es) rfl) rfl,fP es e (by omega),hlk]
   rfl
 show(wC [.fz (stD n es),.fz (dE e),.no,.no]).bind xJ=_
 unfold wC
 refine yL (d:=.non) rfl ?_
 unfold uK
 show(zH _ _ [.fz (stD n es),.fz (dE e),.fz .non,.no]).bind xJ=_
 have hm:zZL "Store" "put" 2 wB (eV 0) (zY (eV 1) zL) [.fz (stD n es),.fz (dE e),.fz .non,.no]=some ("Twice":Str):=by
   refine Eq.trans (b:=if ("Store":Str)="Store"/\([dE e]:List D).length+1=2/\("put":Str)∉stN then wB [stD n es,dE e] else none) rfl ?_
   rw[Qo ⟨rfl,rfl,by decide +kernel⟩,hx]
 refine xO (ρ':=[.fz (stD n es),.fz (dE e),.fz (.exc "Twice" [] []),.no]) ?_ ?_
 · unfold zXr
   rw[hm,Qe]
   rw[Qo (by decide +kernel)]
   rfl
 · unfold qO
   rw[tY]
   show(oM.lookup ("Twice":Str)).map _=_
   rw[show oM.lookup ("Twice":Str)=some true from by decide +kernel]
   rfl
theorem zYp (n:Int)(es:List Et):uF [stD n es]=some (.tup [.str "leaf",.lst (es.map dE)]):=by
 have f1:=rJ (fa:=eV 0) (ρ:=[.fz (pgD es)]) (a:=.bl true) (b:=.lst (es.map dE)) (c:=.lst (es.map dE)) (d:=pE es) rfl
 have h:pN [pgD es]=some (.tup [.str "leaf",.lst (es.map dE)]):=by
   show(vP [.fz (pgD es)]).bind xJ=_
   unfold vP
   refine pP ?_ ?_
   · unfold tB1
     rw[f1.1];rfl
   · refine mD (zS rfl (zS (uQ (ds:=es.map dE) ?_) rfl)) (by simp)
     unfold rA
     rw[f1.2.1];rfl
 show(vV [.fz (stD n es)]).bind xJ=_
 unfold vV
 rw[tY]
 exact(oI (aT (n:=n) rfl)).trans h
theorem zZg (n:Int)(es:List Et):wQ [stD n es]=some (.lst (es.map dE)):=by
 have f1:=rJ (fa:=eV 0) (ρ:=[.fz (pgD es)]) (a:=.bl true) (b:=.lst (es.map dE)) (c:=.lst (es.map dE)) (d:=pE es) rfl
 have h:wL [pgD es]=some (.lst (es.map dE)):=by
   show(yN [.fz (pgD es)]).bind xJ=_
   unfold yN
   refine pP ?_ ?_
   · unfold tB1
     rw[f1.1];rfl
   · refine uQ (ds:=es.map dE) ?_
     unfold rA
     rw[f1.2.1];rfl
 show(wH [.fz (stD n es)]).bind xJ=_
 unfold wH
 rw[tY]
 exact(oI (aT (n:=n) rfl)).trans h
theorem zT2 {es:List Et}{i:Nat}(h:i < es.length):atD (.lst (es.map dE)) (.int (0+(i:Int)))=some (dE es[i]):=by
 show atI (es.map dE) (0+(i:Int))=_
 rw[oS _ _ .non (by omega) (by rw[Qa];omega)]
 have:(0+(i:Int)).toNat=i:=by omega
 rw[this]
 simp[h]
theorem aE (es:List Et)(hl:es.length<=1000):yB [.lst (es.map dE),.lst (es.map dE)]=some (.bl true):=by
 show(xE [.fz (.lst (es.map dE)),.fz (.lst (es.map dE)),.no,.no]).bind xJ=_
 unfold xE
 refine jM ?_ ?_
 · have e1:eB2 pF (uT (eV 0)) (uT (eV 1)) [.fz (.lst (es.map dE)),.fz (.lst (es.map dE)),.no,.no]=some false:=by
     show some (!(((es.map dE).length:Int)==((es.map dE).length:Int)))=_
     simp
   show qT (yZ (tB1 (jU mX (eV 0)))) (eB2 pF (uT (eV 0)) (uT (eV 1))) [.fz (.lst (es.map dE)),.fz (.lst (es.map dE)),.no,.no]=_
   exact e1
 · unfold vX
   obtain⟨ρ',e,x2,x3,rfl⟩:=dB (g:=gN 2) (body:=yK) (P:=fun ρ=>∃x2 x3,ρ=[.fz (.lst (es.map dE)),.fz (.lst (es.map dE)),x2,x3]) (tW 0 es.length) (fun d hd ρ hρ=>by
       obtain⟨i,hi,rfl⟩:=dM hd
       obtain⟨x2,x3,rfl⟩:=hρ
       refine⟨_,[.fz (.lst (es.map dE)),.fz (.lst (es.map dE)),.fz (.int (0+(i:Int))),.fz (dE es[i])],rfl,?_,_,_,rfl⟩
       show yK [.fz (.lst (es.map dE)),.fz (.lst (es.map dE)),.fz (.int (0+(i:Int))),x3]=_
       unfold yK
       rw[kA (d:=dE es[i]) ((tX (x:=.lst (es.map dE)) (y:=.int (0+(i:Int))) rfl rfl).trans (zT2 hi))]
       show xP [.fz (.lst (es.map dE)),.fz (.lst (es.map dE)),.fz (.int (0+(i:Int))),.fz (dE es[i])]=_
       unfold xP
       rw[wE (ρ':=[.fz (.lst (es.map dE)),.fz (.lst (es.map dE)),.fz (.int (0+(i:Int))),.fz (dE es[i])]) ((jZ (b:=false) rfl).trans rfl)]
       unfold tN
       refine(jZ (b:=false) ?_).trans rfl
       have q:eB2 pF (eV 3) (eIx (eV 1) (eV 2)) [.fz (.lst (es.map dE)),.fz (.lst (es.map dE)),.fz (.int (0+(i:Int))),.fz (dE es[i])]=some false:=by
         unfold eB2
         rw[(tX (x:=.lst (es.map dE)) (y:=.int (0+(i:Int))) rfl rfl).trans (zT2 hi)]
         show pF (dE es[i]) (dE es[i])=_
         rw[zUG,qX.mpr rfl];rfl
       exact q) [.fz (.lst (es.map dE)),.fz (.lst (es.map dE)),.no,.no] ⟨_,_,rfl⟩
   refine xO (ρ':=[.fz (.lst (es.map dE)),.fz (.lst (es.map dE)),x2,x3]) ?_ rfl
   unfold fV
   have src:iR (uT (eV 1)) [.fz (.lst (es.map dE)),.fz (.lst (es.map dE)),.no,.no]=some (tW 0 es.length):=by
     show(if decide (-1000000<=((es.map dE).length:Int))&&decide (((es.map dE).length:Int)<=1000000) then some (tW 0 ((es.map dE).length:Int).toNat) else none)=_
     rw[Qa,Qc (by omega),Qc (by omega)]
     rfl
   rw[src,Qe]
   exact e
def ktD (qs:List Et):D:=.dct (qs.map fun q=>isK (kE q)) (qs.map fun q=>.int q.l)
theorem fA {p q:Int×Str}(h:isK p=isK q):p=q:=by
 obtain⟨a,b⟩:=p
 obtain⟨c,d⟩:=q
 unfold isK at h
 injection h with h1 h2
 injection h2 with h2
 cases h1;cases h2;rfl
theorem gY:∀ {qs:List Et} {e:Et},e∈qs->(qs.map kE).Nodup->tD (qs.map fun q=>isK (kE q)) (qs.map fun q=>.int q.l) (isK (kE e))=some (.int e.l)
 | [],_,h,_=>by cases h
 | a::r,e,h,nd=>by
   rw[Qp,Wm] at nd
   unfold tD
   rw[Qp,Qp,Wv,Wd]
   by_cases q:isK (kE a)=isK (kE e)
   · have ea:a=e:=by
       rcases Qh.mp h with z | z
       · exact z.symm
       · exact absurd (by rw[fA q];exact Rj z) nd.1
     subst ea
     simp
   · have hr:e∈r:=by
       rcases Qh.mp h with z | z
       · exact absurd (by rw[z]) q
       · exact z
     have ih:=gY hr nd.2
     unfold tD at ih
     simp only[q,decide_false]
     exact ih
theorem bM:∀ {qs:List Et} {p:Int×Str},(∀q∈qs,kE q≠p)->tD (qs.map fun q=>isK (kE q)) (qs.map fun q=>.int q.l) (isK p)=none
 | [],_,_=>rfl
 | a::r,p,h=>by
   unfold tD
   rw[Qp,Qp,Wv,Wd]
   have q:¬isK (kE a)=isK p:=fun z=>h a Qn (fA z)
   have ih:=bM (qs:=r) fun q hq=>h q (Qj _ hq)
   unfold tD at ih
   simp only[q,decide_false]
   exact ih
theorem oP:∀ {l m:List (Int×Str)},l.Perm m->l.Pairwise (fun a b=>uX b a=false)->m.Pairwise (fun a b=>uX b a=false)->l=m
 | [],m,h,_,_=>(List.Perm.nil_eq h)
 | a::r,m,h,h1,h2=>by
   cases m with
   | nil=>exact absurd h.length_eq (by simp)
   | cons b t =>
     obtain⟨p1,p2⟩:=List.pairwise_cons.mp h1
     obtain⟨q1,q2⟩:=List.pairwise_cons.mp h2
     have e:a=b:=by
       have ha:a∈b::t:=h.subset (by simp)
       have hb:b∈a::r:=h.symm.subset (by simp)
       rcases Qh.mp ha with e | e
       · exact e
       · rcases Qh.mp hb with e' | e'
         · exact e'.symm
         · exact zVJ (q1 a e) (p1 b e')
     subst e
     rw[oP (List.Perm.cons_inv h) p2 q2]
structure Kp (es qs:List Et):Prop where
 pm:es.Perm qs
 up:(es.map kE).Pairwise fun a b=>uX b a=false
 nd:(qs.map kE).Nodup
theorem Kp.nd' {es qs:List Et}(h:Kp es qs):(es.map kE).Nodup:=(h.pm.map kE).nodup_iff.mpr h.nd
theorem Kp.nil:Kp [] []:=⟨.refl _,.nil,.nil⟩
theorem zXj {es qs:List Et}(h:Kp es qs)(hl:qs.length < 60):tI [ktD qs]=some (.lst (es.map dE)):=by
 have hk:sO (qs.map kE)=es.map kE:=oP ((cG _).trans (h.pm.map kE).symm) (qK _) h.up
 have src:fG (eV 0) [.fz (ktD qs)]=some (es.map fun e=>dIS (kE e)):=by
   show(nA (qs.map fun q=>isK (kE q))).bind _=_
   have e:(qs.map fun q=>isK (kE q))=(qs.map kE).map isK:=by rw[Em];rfl
   rw[e,jG,Qe,Qo (by rw[Qa];omega),hk,Em]
   rfl
 show(rX [.fz (ktD qs)]).bind xJ=_
 unfold rX
 rw[tY]
 refine uQ ?_
 unfold xU
 rw[src,Qe,pR (by rw[Qa,h.pm.length_eq];omega),Qe]
 have key:∀(l:List Et) (x0 x1:B) (acc:List D),(∀e∈l,e∈qs)->rZ (gT (yO (gN 0) (yO (gN 1) sD))) tOK (vJ (zY (eV 0) (zY (cP (eV 2) (vJ (zY (eV 0) (zY (eV 1) zL)))) (zY (eV 1) zL)))) (l.map fun e=>dIS (kE e)) [x0,x1,.fz (ktD qs)] acc=some (acc++l.map dE):=by
   intro l
   induction l with
   | nil=>intro x0 x1 acc _;simp[rZ]
   | cons e r ih =>
     intro x0 x1 acc hh
     rw[Qp]
     unfold rZ
     have e1:gT (yO (gN 0) (yO (gN 1) sD)) (dIS (kE e)) [x0,x1,.fz (ktD qs)]=some [.fz (.int e.f),.fz (.str e.z),.fz (ktD qs)]:=rfl
     have e2:tOK [.fz (.int e.f),.fz (.str e.z),.fz (ktD qs)]=some true:=rfl
     have e3:vJ (zY (eV 0) (zY (cP (eV 2) (vJ (zY (eV 0) (zY (eV 1) zL)))) (zY (eV 1) zL))) [.fz (.int e.f),.fz (.str e.z),.fz (ktD qs)]=some (dE e):=by
       refine mD (zS rfl (zS (d:=.int e.l) ?_ (zS rfl rfl))) (by simp)
       exact gY (hh e Qn) h.nd
     rw[e1,Qe,e2,Qe,Qo rfl,e3,Qe,ih _ _ _ fun q hq=>hh q (Qj _ hq)]
     simp
 exact key es .no .no [] fun e he=>h.pm.subset he
theorem zZ3 {es qs:List Et}(n:Int)(h:Kp es qs)(hl:qs.length < 60):wI [stD n es,ktD qs]=some (.bl true):=by
 have hle:=h.pm.length_eq
 have hen:=aE es (by omega)
 have hm:∀(m:Str) (d:List D->Option D) (ρ:List B),m∉stN->iU "Store" m 1 d (eV 0) zL (.fz (stD n es)::ρ)=d [stD n es]:=fun m d ρ hm=>by
   refine Eq.trans (b:=if ("Store":Str)="Store"/\([]:List D).length+1=1/\m∉stN then d [stD n es] else none) rfl ?_
   rw[Qo ⟨rfl,rfl,hm⟩]
 show(vQ [.fz (stD n es),.fz (ktD qs),.no,.no]).bind xJ=_
 unfold vQ
 refine yL (d:=.lst (es.map dE)) ((oI rfl).trans (zXj h hl)) ?_
 unfold sW
 refine yL (d:=.tup [.str "leaf",.lst (es.map dE)]) ((hm "shape" _ _ (by decide +kernel)).trans (zYp n es)) ?_
 unfold sZ
 refine jM ?_ ?_
 · show qT (yZ (tB1 (jU oW (eV 3)))) (qT (eB2 gNe (uT (eV 3)) (eC (.int 2))) (eB2 gNe (eIx (eV 3) (eC (.int 0))) (eC (.str "leaf")))) [.fz (stD n es),.fz (ktD qs),.fz (.lst (es.map dE)),.fz (.tup [.str "leaf",.lst (es.map dE)])]=_
   kernel_rfl
 · unfold oY
   rw[tY]
   have h1:zI 2 yB (zY (iU "Store" "listed" 1 wQ (eV 0) zL) (zY (eV 2) zL)) [.fz (stD n es),.fz (ktD qs),.fz (.lst (es.map dE)),.fz (.tup [.str "leaf",.lst (es.map dE)])]=some (.bl true) :=
     (wN ((hm "listed" _ _ (by decide +kernel)).trans (zZg n es)) rfl).trans hen
   have h2:zI 2 yB (zY (eIx (eV 3) (eC (.int 1))) (zY (eV 2) zL)) [.fz (stD n es),.fz (ktD qs),.fz (.lst (es.map dE)),.fz (.tup [.str "leaf",.lst (es.map dE)])]=some (.bl true) :=
     (wN (x:=.lst (es.map dE)) rfl rfl).trans hen
   show eG _ _ [.fz (stD n es),.fz (ktD qs),.fz (.lst (es.map dE)),.fz (.tup [.str "leaf",.lst (es.map dE)])]=_
   unfold eG tB1
   rw[h1]
   exact h2
theorem zZV (ns:List Int)(k:Nat):∃c:Int,vB [.lst (ns.map D.int),.int (k:Nat)]=some (.int c):=by
 have hl:(ns.map D.int).length=ns.length:=by simp
 have t1:eB2 gLt (eV 1) (uT (eV 0)) [.fz (.lst (ns.map D.int)),.fz (.int (k:Nat))]=some (decide ((k:Int) < (ns.length:Nat))):=by rw[←hl];rfl
 by_cases h:(k:Int) < (ns.length:Nat)
 · refine⟨ns.getD k 0,?_⟩
   show(xM [.fz (.lst (ns.map D.int)),.fz (.int (k:Nat))]).bind xJ=_
   unfold xM
   rw[zWf (d:=.int (ns.getD k 0)) (by
     unfold sIf
     rw[t1,Qc h,Qe,Qo rfl]
     unfold yG eIx
     show((atI (ns.map D.int) (k:Int))).map Out.rt=_
     rw[lY,oS ns (k:Int) 0 (by omega) h];rfl)]
   rfl
 · refine⟨0,?_⟩
   show(xM [.fz (.lst (ns.map D.int)),.fz (.int (k:Nat))]).bind xJ=_
   unfold xM
   exact jM (by rw[t1,Wh h]) rfl
def slB:Option D->B | none=>.no | some d=>.fz d
theorem wR {k:Nat}:∀ {o:Option D},mOk k (slB o)=true
 | none=>rfl
 | some _=>rfl
abbrev R (a0 a1 a2:D)(s t:B)(a5:D)(x6 x7 x8 x9 x10 x11 x12:Option D):List B:=[.fz a0,.fz a1,.fz a2,s,t,.fz a5,slB x6,slB x7,slB x8,slB x9,slB x10,slB x11,slB x12]
theorem zZQ {ρ:List B}{i k:Nat}(h:∀j,j < ρ.length->j≠i->mOk k (ρ.getD j .no)=true):xL i k ρ=true:=by
 unfold xL
 refine Yl.mpr fun j hj=>?_
 by_cases e:j=i
 · simp[e]
 · rw[h j (Tx.mp hj) e];simp
section
variable {a0 a1 a2 a5:D} {s t:B} {x6 x7 x8 x9 x10 x11 x12:Option D}
theorem zYa (h:mOk 1 t=true):xL 3 1 (R a0 a1 a2 s t a5 x6 x7 x8 x9 x10 x11 x12)=true:=zZQ fun j hj hne=>match j,hj,hne with
 | 0,_,_=>rfl
 | 1,_,_=>rfl
 | 2,_,_=>rfl
 | 3,_,z=>absurd rfl z
 | 4,_,_=>h
 | 5,_,_=>rfl
 | 6,_,_=>wR
 | 7,_,_=>wR
 | 8,_,_=>wR
 | 9,_,_=>wR
 | 10,_,_=>wR
 | 11,_,_=>wR
 | 12,_,_=>wR
 | n+13,z,_=>absurd z (by simp)
theorem iP (h:mOk 2 s=true):xL 4 2 (R a0 a1 a2 s t a5 x6 x7 x8 x9 x10 x11 x12)=true:=zZQ fun j hj hne=>match j,hj,hne with
 | 0,_,_=>rfl
 | 1,_,_=>rfl
 | 2,_,_=>rfl
 | 3,_,_=>h
 | 4,_,z=>absurd rfl z
 | 5,_,_=>rfl
 | 6,_,_=>wR
 | 7,_,_=>wR
 | 8,_,_=>wR
 | 9,_,_=>wR
 | 10,_,_=>wR
 | 11,_,_=>wR
 | 12,_,_=>wR
 | n+13,z,_=>absurd z (by simp)
end
theorem cH {i k:Nat}{ρ:List B}{d:D}(h:ρ[i]?=some (.mu d))(hk:uW d=k)(ho:xL i k ρ=true):jA i k ρ=some (ρ.set i (.fz d)):=by
 unfold jA
 rw[h]
 exact Qo ⟨hk,ho⟩
theorem vD {i k:Nat}{ρ:List B}{d:D}{t:Tf}(h:ρ[i]?=some (.mu d))(hk:uW d=k)(ho:xL i k ρ=true):y4 i k t ρ=t (ρ.set i (.fz d)):=by
 unfold y4
 rw[cH h hk ho];rfl
theorem cW:∀es:List Et,pK (es.map dE)=true
 | []=>rfl
 | e::r=>by
   show(qI (dE e)&&pK (r.map dE))=true
   rw[cW r];rfl
theorem zYe {i k:Nat}{ρ:List B}{d r:D}{f:Ef}(h:ρ[i]?=some (.mu d))(hk:uW d=k)(ho:xL i k ρ=true)(hf:f (ρ.set i (.fz d))=some r)(hr:qI r=true):oA i k f ρ=some r:=by
 unfold oA
 rw[cH h hk ho,Qe,hf,Qe,Qo hr]
theorem iI {l:List Et}{e:Et}(he:e∈l)(nd:(l.map kE).Nodup):∀q∈l,(!xK q e)=decide (isK (kE q)≠isK (kE e)):=by
 intro q hq
 by_cases h:q=e
 · subst h;rw[qX.mpr rfl];simp
 · have h1:xK q e=false:=by cases z:xK q e;rfl;exact absurd (qX.mp z) h
   have h2:isK (kE q)≠isK (kE e):=fun z=>by
     have z:=fA z
     clear h1
     induction l with
     | nil=>cases he
     | cons a r ih =>
       rw[Qp,Wm] at nd
       rcases Qh.mp he with rfl | he'<;>rcases Qh.mp hq with rfl | hq'
       · exact h rfl
       · exact nd.1 (by rw[←z];exact Rj hq')
       · exact nd.1 (by rw[z];exact Rj he')
       · exact ih he' nd.2 hq'
   rw[h1,Qc h2];rfl
theorem zZY {p:Et->Bool}{k:List Key}:∀ {qs:List Et},(∀q∈qs,p q=decide (isK (kE q)≠k))->((qs.map fun q=>isK (kE q)).filter fun x=>decide (x≠k))=(qs.filter p).map fun q=>isK (kE q)
 | [],_=>rfl
 | a::r,h=>by
   rw[Qp,Wr,Wr,←h a Qn,zZY fun q hq=>h q (Qj _ hq)]
   cases p a<;>rfl
theorem zZC {p:Et->Bool}{k:List Key}:∀ {qs:List Et},(∀q∈qs,p q=decide (isK (kE q)≠k))->mQ (qs.map fun q=>isK (kE q)) (qs.map fun q=>.int q.l) k=(qs.filter p).map fun q=>.int q.l
 | [],_=>rfl
 | a::r,h=>by
   have ih:=zZC (qs:=r) fun q hq=>h q (Qj _ hq)
   unfold mQ at ih ⊢
   rw[Qp,Qp,Wv,Wr,Wr]
   show(if decide (isK (kE a)≠k)=true then _ else _:List _).map _=_
   rw[←h a Qn]
   cases p a with
   | true=>rw[Qo rfl,Qo rfl,Qp,Qp,ih]
   | false=>rw[Qg (by decide),Qg (by decide),ih]
theorem Kp.take {es qs:List Et}(h:Kp es qs)(p:Et->Bool):Kp (es.filter p) (qs.filter p) :=
 ⟨h.pm.filter p,h.up.sublist ((Yq).map kE),h.nd.sublist ((Yq).map kE)⟩
theorem Kp.put {es qs:List Et}(h:Kp es qs){e:Et}(hk:∀q∈qs,kE q≠kE e):Kp (xW (es++[e])) (qs++[e]):=by
 refine⟨(qB _).trans (h.pm.append_right [e]),by rw[bE];exact qK _,?_⟩
 rw[Rg]
 refine List.nodup_append.mpr ⟨h.nd,by simp,fun a ha b hb=>?_⟩
 obtain⟨q,hq,rfl⟩:=Yd.mp ha
 have hb:b=kE e:=by simpa using hb
 rw[hb]
 exact hk q hq
theorem zZR {m:Str}{f:List Str->List D->List D->Option (List D)}{g:Lf}{a0 a1 a2 a5 d:D}{t:B}{x6 x7 x8 x9 x10 x11 x12:Option D}{n:Int}{es es':List Et}(hm:m∉stN)(ht:mOk 1 t=true)(hg:g (R a0 a1 a2 (.mu (stD n es)) t a5 x6 x7 x8 x9 x10 x11 x12)=some [d])(hf:f stN [.int n,pgD es] [d]=some [.int n,pgD es']) :
   tH 3 "Store" m 1 f g (R a0 a1 a2 (.mu (stD n es)) t a5 x6 x7 x8 x9 x10 x11 x12)=some (.nx (R a0 a1 a2 (.mu (stD n es')) t a5 x6 x7 x8 x9 x10 x11 x12)):=by
 unfold tH
 rw[hg,Qe]
 show(if ("Store":Str)="Store"/\([d]:List D).length=1/\m∉stN/\xL 3 1 (R a0 a1 a2 (.mu (stD n es)) t a5 x6 x7 x8 x9 x10 x11 x12)=true then(f stN [.int n,pgD es] [d]).map _ else none)=_
 rw[Qo ⟨rfl,rfl,hm,zYa ht⟩,hf]
 rfl
section
variable {a0 a2 a5:D} {n:Int} {es qs:List Et} {x6 x7 x8 x9 x10 x11 x12:Option D}
theorem zWw (h:Kp es qs)(hl:qs.length < 60):y4 4 2 (y4 3 1 (yZ (tB1 (zI 2 wI (zY (eV 3) (zY (eV 4) zL)))))) (R a0 (.int n) a2 (.mu (stD n es)) (.mu (ktD qs)) a5 x6 x7 x8 x9 x10 x11 x12)=some false:=by
 rw[vD (k:=2) (d:=ktD qs) rfl rfl (iP rfl)]
 show y4 3 1 _ (R a0 (.int n) a2 (.mu (stD n es)) (.fz (ktD qs)) a5 x6 x7 x8 x9 x10 x11 x12)=_
 rw[vD (k:=1) (d:=stD n es) rfl rfl (zYa rfl)]
 show yZ (tB1 (zI 2 wI (zY (eV 3) (zY (eV 4) zL)))) (R a0 (.int n) a2 (.fz (stD n es)) (.fz (ktD qs)) a5 x6 x7 x8 x9 x10 x11 x12)=_
 unfold yZ tB1
 rw[(wN (x:=stD n es) (y:=ktD qs) rfl rfl).trans (zZ3 n h hl)]
 rfl
theorem fT (h:Kp es qs)(hl:qs.length < 60):lL (R a0 (.int n) a2 (.mu (stD n es)) (.mu (ktD qs)) a5 x6 x7 x8 x9 x10 x11 x12)=some (.nx (R a0 (.int n) a2 (.mu (stD n es)) (.mu (ktD qs)) a5 x6 x7 x8 x9 x10 x11 x12)):=by
 unfold lL
 exact(jZ (zWw h hl)).trans rfl
theorem zWU {m:Int}(h:Kp es qs)(hn:(qs.length:Int)<=n)(hl:qs.length < 60)(hp:0 < qs.length):∃es' qs' y11 y12,Kp es' qs'/\qs'.length<=qs.length /\
   zH (yX 11 (oA 4 2 (zI 1 tI (zY (eV 4) zL))))
     (zH (yX 12 (eIx (eV 11) (wY (gH (eV 10) (eC (.int 4))) (uT (eV 11)))))
     (zH (tH 3 "Store" "take" 1 xI (zY (eV 12) zL))
     (cY 4 (vJ (zY (eIx (eV 12) (eC (.int 0))) (zY (eIx (eV 12) (eC (.int 2))) zL))))))
     (R a0 (.int n) a2 (.mu (stD n es)) (.mu (ktD qs)) a5 x6 x7 x8 x9 (some (.int m)) x11 x12)=some (.nx (R a0 (.int n) a2 (.mu (stD n es')) (.mu (ktD qs')) a5 x6 x7 x8 x9 (some (.int m)) y11 y12)):=by
 have hle:=h.pm.length_eq
 have hidx:(m / 4 % ((es.map dE).length:Int)) < (es.length:Int):=by
   rw[Qa]
   exact Int.emod_lt_of_pos _ (by omega)
 have hidx0:0<=(m / 4 % ((es.map dE).length:Int)):=Int.emod_nonneg _ (by rw[Qa];omega)
 obtain⟨e,he,ee⟩:=fK (xs:=es) hidx0 hidx
 refine⟨es.filter fun a => !xK a e,qs.filter fun a => !xK a e,some (.lst (es.map dE)),some (dE e),h.take _,To _ _,?_⟩
 rw[kA (d:=.lst (es.map dE)) (zYe (k:=2) (d:=ktD qs) rfl rfl (iP rfl) ((oI (x:=ktD qs) rfl).trans (zXj h hl)) (cW es))]
 show zH (yX 12 _) _ (R a0 (.int n) a2 (.mu (stD n es)) (.mu (ktD qs)) a5 x6 x7 x8 x9 (some (.int m)) (some (.lst (es.map dE))) x12)=_
 rw[kA (d:=dE e) (by
   refine(tX (x:=.lst (es.map dE)) (y:=.int (m / 4 % ((es.map dE).length:Int))) rfl (zD (zD rfl rfl rfl) rfl (Qc (by rw[Qa];omega)))).trans ?_
   show atI (es.map dE) _=_
   rw[lY,ee];rfl)]
 show zH (tH 3 "Store" "take" 1 xI (zY (eV 12) zL)) _ (R a0 (.int n) a2 (.mu (stD n es)) (.mu (ktD qs)) a5 x6 x7 x8 x9 (some (.int m)) (some (.lst (es.map dE))) (some (dE e)))=_
 rw[wE (zZR (by decide +kernel) rfl rfl (zW1 es e n he h.nd' (by omega) (by omega)))]
 have heq:e∈qs:=h.pm.subset he
 unfold cY
 have hkey:vJ (zY (eIx (eV 12) (eC (.int 0))) (zY (eIx (eV 12) (eC (.int 2))) zL)) (R a0 (.int n) a2 (.mu (stD n (es.filter fun a => !xK a e))) (.mu (ktD qs)) a5 x6 x7 x8 x9 (some (.int m)) (some (.lst (es.map dE))) (some (dE e)))=some (.tup [.int e.f,.str e.z]):=rfl
 rw[hkey,Qe]
 have hk2:zZx (.tup [.int e.f,.str e.z])=some (isK (kE e)):=rfl
 rw[hk2,Qe]
 show(if xL 4 2 (R a0 (.int n) a2 (.mu (stD n (es.filter fun a => !xK a e))) (.mu (ktD qs)) a5 x6 x7 x8 x9 (some (.int m)) (some (.lst (es.map dE))) (some (dE e)))=true/\(tD (qs.map fun q=>isK (kE q)) (qs.map fun q=>.int q.l) (isK (kE e))).isSome=true then _ else none)=_
 rw[Qo ⟨iP rfl,by rw[gY heq h.nd];rfl⟩]
 rw[zZY (p:=fun a => !xK a e) (iI heq h.nd),zZC (p:=fun a => !xK a e) (iI heq h.nd)]
 rfl
theorem zVe {e:Et}(h:Kp es qs)(hn:(qs.length:Int)+1<=n)(hl:qs.length < 59)(hk:∀q∈qs,kE q≠kE e) :
   zH (tH 3 "Store" "put" 1 vO (zY (vJ (zY (eV 7) (zY (eV 8) (zY (eV 9) zL)))) zL))
     (zH (dS 4 (zY (eV 7) (zY (eV 9) zL)) (eV 8))
     (sIf (y4 3 1 (yZ (tB1 (zI 2 w9 (zY (eV 3) (zY (vJ (zY (eV 7) (zY (eV 8) (zY (eV 9) zL)))) zL)))))) (yG (eC (.bl false))) vC))
     (R a0 (.int n) a2 (.mu (stD n es)) (.mu (ktD qs)) a5 x6 (some (.int e.f)) (some (.int e.l)) (some (.str e.z)) x10 x11 x12)=some (.nx (R a0 (.int n) a2 (.mu (stD n (xW (es++[e])))) (.mu (ktD (qs++[e]))) a5 x6 (some (.int e.f)) (some (.int e.l)) (some (.str e.z)) x10 x11 x12)):=by
 have hle:=h.pm.length_eq
 have hK:=h.put hk
 rw[wE (zZR (d:=dE e) (by decide +kernel) rfl rfl (zVc es e n (fun a ha=>hk a (h.pm.subset ha)) (by omega) (by omega)))]
 have s1:dS 4 (zY (eV 7) (zY (eV 9) zL)) (eV 8) (R a0 (.int n) a2 (.mu (stD n (xW (es++[e])))) (.mu (ktD qs)) a5 x6 (some (.int e.f)) (some (.int e.l)) (some (.str e.z)) x10 x11 x12)=some (.nx (R a0 (.int n) a2 (.mu (stD n (xW (es++[e])))) (.mu (ktD (qs++[e]))) a5 x6 (some (.int e.f)) (some (.int e.l)) (some (.str e.z)) x10 x11 x12)):=by
   refine Eq.trans (b:=if (qs.map fun q=>isK (kE q)).length<=lim/\xL 4 2 (R a0 (.int n) a2 (.mu (stD n (xW (es++[e])))) (.mu (ktD qs)) a5 x6 (some (.int e.f)) (some (.int e.l)) (some (.str e.z)) x10 x11 x12)=true/\(tD (qs.map fun q=>isK (kE q)) (qs.map fun q=>.int q.l) (isK (kE e))).isSome=false then some (.nx (R a0 (.int n) a2 (.mu (stD n (xW (es++[e])))) (.mu (.dct ((qs.map fun q=>isK (kE q))++[isK (kE e)]) ((qs.map fun q=>.int q.l)++[.int e.l]))) a5 x6 (some (.int e.f)) (some (.int e.l)) (some (.str e.z)) x10 x11 x12)) else none) rfl ?_
   rw[Qo ⟨by rw[Qa];show qs.length<=100000;omega,iP rfl,by rw[bM hk];rfl⟩]
   unfold ktD
   rw[Rg,Rg]
   rfl
 rw[wE s1]
 refine(jZ (b:=false) ?_).trans rfl
 rw[vD (k:=1) (d:=stD n (xW (es++[e]))) rfl rfl (zYa rfl)]
 show yZ (tB1 (zI 2 w9 (zY (eV 3) (zY (vJ (zY (eV 7) (zY (eV 8) (zY (eV 9) zL)))) zL)))) (R a0 (.int n) a2 (.fz (stD n (xW (es++[e])))) (.mu (ktD (qs++[e]))) a5 x6 (some (.int e.f)) (some (.int e.l)) (some (.str e.z)) x10 x11 x12)=_
 unfold yZ tB1
 rw[(wN (x:=stD n (xW (es++[e]))) (y:=dE e) rfl rfl).trans (zXC _ e n ((qB _).symm.subset (by simp)) hK.nd' (by rw[nV,Ql];simp;omega))]
 rfl
end
theorem zUE {f:Ef}{ρ:List B}{x:Int}(h:f ρ=some (.int x)):eB2 gGt f (eC (.int 0)) ρ=some (decide (0 < x)):=by unfold eB2;rw[h];rfl
theorem zSP {t u:Tf}{ρ:List B}{a b:Bool}(h1:t ρ=some a)(h2:u ρ=some b):sB t u ρ=some (a&&b):=by unfold sB;rw[h1];cases a<;>simp[h2]
theorem orT {t u:Tf}{ρ:List B}{a b:Bool}(h1:t ρ=some a)(h2:u ρ=some b):qT t u ρ=some (a||b):=by unfold qT;rw[h1];cases a<;>simp[h2]
theorem turn {a0:D}{ws:List Str}{a b n:Int}(hw:ws.length=14)(ha0:0<=a)(ha1:a < 3)(n4:4<=n)(n12:n<=12){es qs:List Et}(h:Kp es qs)(hn:(qs.length:Int)<=n)(k c:Int)(k0:0<=k)(k1:k < 1000)(x7 x8 x9 x10 x11 x12:Option D) :
   ∃es' qs' y6 y7 y8 y9 y10 y11 y12,Kp es' qs'/\(qs'.length:Int)<=n/\rO (R a0 (.int n) (.tup [.lst (ws.map .str),.int a,.int b]) (.mu (stD n es)) (.mu (ktD qs)) (.int k) (some (.int c)) x7 x8 x9 x10 x11 x12)
     = some (.nx (R a0 (.int n) (.tup [.lst (ws.map .str),.int a,.int b]) (.mu (stD n es')) (.mu (ktD qs')) (.int (k+1)) y6 y7 y8 y9 y10 y11 y12)):=by
 have m1:pB k k=true:=pM (by omega) (by omega)
 have m2:pB (k*k) 1000003=true:=zVn (by omega) (by omega)
 unfold rO
 rw[kA (d:=.int (c+k*k*1000003)) (zD rfl (zD (zD rfl rfl m1) rfl m2) rfl)]
 generalize c+k*k*1000003=c'
 show ∃es' qs' y6 y7 y8 y9 y10 y11 y12,_/\_/\pH (R a0 (.int n) (.tup [.lst (ws.map .str),.int a,.int b]) (.mu (stD n es)) (.mu (ktD qs)) (.int k) (some (.int c')) x7 x8 x9 x10 x11 x12)=_
 unfold pH
 rw[kA (d:=.int (k+1)) (zD rfl rfl rfl)]
 show ∃es' qs' y6 y7 y8 y9 y10 y11 y12,_/\_/\oG (R a0 (.int n) (.tup [.lst (ws.map .str),.int a,.int b]) (.mu (stD n es)) (.mu (ktD qs)) (.int (k+1)) (some (.int c')) x7 x8 x9 x10 x11 x12)=_
 obtain⟨e,he⟩:=zYs ws a b c' hw ha0 ha1
 unfold oG
 have s1:bG (zI 3 uO (zY (eV 2) (zY (eV 6) (zY (eC (.int 0)) zL)))) (gT (yO (gN 7) (yO (gN 8) (yO (gN 9) sD)))) (R a0 (.int n) (.tup [.lst (ws.map .str),.int a,.int b]) (.mu (stD n es)) (.mu (ktD qs)) (.int (k+1)) (some (.int c')) x7 x8 x9 x10 x11 x12)=some (.nx (R a0 (.int n) (.tup [.lst (ws.map .str),.int a,.int b]) (.mu (stD n es)) (.mu (ktD qs)) (.int (k+1)) (some (.int c')) (some (.int e.f)) (some (.int e.l)) (some (.str e.z)) x10 x11 x12)):=by
   unfold bG
   rw[(cM (x:=.tup [.lst (ws.map .str),.int a,.int b]) (y:=.int c') (z:=.int 0) rfl rfl rfl).trans he]
   rfl
 rw[wE s1]
 unfold kL
 have hm:=w8 c' 9 (by decide) (by decide)
 generalize mJ c' 9=m at hm
 rw[kA (d:=.int m) ((wN (x:=.int c') rfl rfl).trans hm)]
 show ∃es' qs' y6 y7 y8 y9 y10 y11 y12,_/\_/\oF (R a0 (.int n) (.tup [.lst (ws.map .str),.int a,.int b]) (.mu (stD n es)) (.mu (ktD qs)) (.int (k+1)) (some (.int c')) (some (.int e.f)) (some (.int e.l)) (some (.str e.z)) (some (.int m)) x11 x12)=_
 generalize hpl:(.tup [.lst (ws.map .str),.int a,.int b]:D)=pl
 generalize hkk:(.int (k+1):D)=kk
 unfold oF
 have hlen:∀s:B,kC (eV 4) (R a0 (.int n) pl s (.fz (ktD qs)) kk (some (.int c')) (some (.int e.f)) (some (.int e.l)) (some (.str e.z)) (some (.int m)) x11 x12)=some (.int (qs.length:Int)):=fun s=>by
   show some (D.int (((qs.map fun q=>isK (kE q)).length:Nat):Int))=_
   rw[Qa]
 have hc:y4 4 2 (sB (eB2 gGt (kC (eV 4)) (eC (.int 0))) (qT (eB2 gEq (kC (eV 4)) (eV 1)) (eB2 gEq (wY (eV 10) (eC (.int 4))) (eC (.int 0))))) (R a0 (.int n) pl (.mu (stD n es)) (.mu (ktD qs)) kk (some (.int c')) (some (.int e.f)) (some (.int e.l)) (some (.str e.z)) (some (.int m)) x11 x12)=some (decide (0 < (qs.length:Int))&&(decide ((qs.length:Int)=n)||decide (m % 4=0))):=by
   rw[vD (k:=2) (d:=ktD qs) rfl rfl (iP rfl)]
   show sB _ _ (R a0 (.int n) pl (.mu (stD n es)) (.fz (ktD qs)) kk (some (.int c')) (some (.int e.f)) (some (.int e.l)) (some (.str e.z)) (some (.int m)) x11 x12)=_
   refine zSP (zUE (hlen _)) (orT ?_ (aG (zD rfl rfl rfl)))
   unfold eB2
   rw[hlen]
   rfl
 cases hb:(decide (0 < (qs.length:Int))&&(decide ((qs.length:Int)=n)||decide (m % 4=0))) with
 | true =>
   rw[hb] at hc
   have hp:0 < qs.length:=by
     rw[Wt,Wn] at hb
     omega
   obtain⟨es',qs',y11,y12,hK,hq,ht⟩:=zWU (a0:=a0) (a2:=pl) (a5:=kk) (x6:=some (.int c')) (x7:=some (.int e.f)) (x8:=some (.int e.l)) (x9:=some (.str e.z)) (x11:=x11) (x12:=x12) (m:=m) h hn (by omega) hp
   refine⟨es',qs',some (.int c'),some (.int e.f),some (.int e.l),some (.str e.z),some (.int m),y11,y12,hK,by omega,?_⟩
   rw[wE (by unfold sIf;rw[hc,Qe,Qo rfl];exact ht)]
   exact fT hK (by omega)
 | false =>
   rw[hb] at hc
   have hq:(qs.length:Int)+1<=n:=by
     rcases Nat.eq_zero_or_pos qs.length with z | z
     · omega
     · rw[Bool.and_eq_false_iff] at hb
       rcases hb with hb | hb
       · rw[decide_eq_false_iff_not] at hb;omega
       · rw[Bool.or_eq_false_iff,decide_eq_false_iff_not] at hb;omega
   have hin:y4 4 2 (zYr false (vJ (zY (eV 7) (zY (eV 9) zL))) (eV 4)) (R a0 (.int n) pl (.mu (stD n es)) (.mu (ktD qs)) kk (some (.int c')) (some (.int e.f)) (some (.int e.l)) (some (.str e.z)) (some (.int m)) x11 x12)=some ((tD (qs.map fun q=>isK (kE q)) (qs.map fun q=>.int q.l) (isK (kE e))).isSome==false):=by
     rw[vD (k:=2) (d:=ktD qs) rfl rfl (iP rfl)]
     rfl
   by_cases hk:∃q∈qs,kE q=kE e
   · obtain⟨q,hq1,hq2⟩:=hk
     rw[←hq2,gY hq1 h.nd] at hin
     refine⟨es,qs,some (.int c'),some (.int e.f),some (.int e.l),some (.str e.z),some (.int m),x11,x12,h,hn,?_⟩
     rw[wE (by
       unfold sIf
       rw[hc,Qe,Qg (by decide)]
       rw[hin,Qe,Qg (by simp)]
       rfl)]
     exact fT h (by omega)
   · have hk':∀q∈qs,kE q≠kE e:=fun q hq z=>hk ⟨q,hq,z⟩
     rw[bM hk'] at hin
     have hK:=h.put hk'
     refine⟨xW (es++[e]),qs++[e],some (.int c'),some (.int e.f),some (.int e.l),some (.str e.z),some (.int m),x11,x12,hK,by rw[Ql];simp;omega,?_⟩
     rw[wE (by
       unfold sIf
       rw[hc,Qe,Qg (by decide)]
       rw[hin,Qe,Qo (by decide)]
       exact zVe h hq (by omega) hk')]
     exact fT hK (by rw[Ql];simp;omega)
theorem zXV (ns:List Int)(h:ns.length<=63):iV [.lst (ns.map .int)]=some (.bl true):=by
 obtain⟨v0,c0⟩:=zZV ns 0
 obtain⟨v1,c1⟩:=zZV ns 1
 obtain⟨ws,a,b,hp,hw,ha0,ha1,hb0,hb1⟩:=zVO v1
 have n4:4<=4+v0 % 9:=by omega
 have n12:4+v0 % 9<=12:=by omega
 have hsz:qR (eC (.int 4)) (wY (zI 2 vB (zY (eV 0) (zY (eC (.int 0)) zL))) (eC (.int 9))) [.fz (.lst (ns.map .int)),.no,.no,.no,.no,.no,.no,.no,.no,.no,.no,.no,.no]=some (.int (4+v0 % 9)):=zD rfl (zD ((wN rfl rfl).trans c0) rfl rfl) rfl
 generalize 4+v0 % 9=n at n4 n12 hsz
 obtain⟨cs,hcs,hcl⟩:∃cs:List Int,zXP (ns.map .int) (some 2) (some 63)=cs.map D.int/\cs.length<=ns.length:=by
   unfold zXP
   refine⟨(ns.drop (HT.sIx (ns.map D.int).length 0 (some 2))).take (HT.sIx (ns.map D.int).length (ns.map D.int).length (some 63) - HT.sIx (ns.map D.int).length 0 (some 2)),by rw[List.map_take,List.map_drop],?_⟩
   rw[Yh,List.length_drop]
   omega
 obtain⟨ρ',e,es,qs,y6,y7,y8,y9,y10,y11,y12,hK,hq,rfl⟩:=eU (g:=gN 6) (body:=rO) (P:=fun i ρ=>∃es qs y6 y7 y8 y9 y10 y11 y12,Kp es qs/\(qs.length:Int)<=n/\ρ=R (.lst (ns.map .int)) (.int n) (.tup [.lst (ws.map .str),.int a,.int b]) (.mu (stD n es)) (.mu (ktD qs)) (.int (i:Int)) y6 y7 y8 y9 y10 y11 y12) (cs.map D.int) 0 (fun i d hd ρ hρ=>by
     obtain⟨es,qs,y6,y7,y8,y9,y10,y11,y12,hK,hq,rfl⟩:=hρ
     have hi:i < cs.length:=by have:=(Qf.mp hd).1;simpa using this
     rw[Wi] at hd
     obtain⟨c,_,rfl⟩:=Qt.mp hd
     obtain⟨es',qs',z6,z7,z8,z9,z10,z11,z12,hK',hq',e⟩:=turn (a0:=.lst (ns.map .int)) hw ha0 ha1 n4 n12 hK hq ((0+i:Nat):Int) c (by omega) (by omega) y7 y8 y9 y10 y11 y12 (b:=b)
     exact⟨_,_,rfl,e,es',qs',z6,z7,z8,z9,z10,z11,z12,hK',hq',by rw[show((0+i:Nat):Int)+1=((0+i+1:Nat):Int) by omega]⟩) (R (.lst (ns.map .int)) (.int n) (.tup [.lst (ws.map .str),.int a,.int b]) (.mu (stD n [])) (.mu (ktD [])) (.int 0) none none none none none none none) ⟨[],[],_,_,_,_,_,_,_,Kp.nil,by show(0:Int)<=n;omega,rfl⟩
 show(mB [.fz (.lst (ns.map .int)),.no,.no,.no,.no,.no,.no,.no,.no,.no,.no,.no,.no]).bind xJ=_
 unfold mB
 refine yL (d:=.int n) hsz ?_
 unfold gG
 refine yL (d:=.tup [.lst (ws.map .str),.int a,.int b]) ((oI ((wN rfl rfl).trans c1)).trans hp) ?_
 unfold fY
 have hst:lK [.int n]=some [.int n,pgD []]:=by
   show cI [.no,.fz (.int n)]=_
   exact zS rfl (zS (oU (zS rfl (zS (uQ (vA rfl (by decide))) rfl)) rfl (nY [] (by decide)) rfl) rfl)
 refine xO (ρ':=[.fz (.lst (ns.map .int)),.fz (.int n),.fz (.tup [.lst (ws.map .str),.int a,.int b]),.mu (stD n []),.no,.no,.no,.no,.no,.no,.no,.no,.no]) ?_ ?_
 · unfold fH
   show(zY (eV 1) zL [.fz (.lst (ns.map .int)),.fz (.int n),.fz (.tup [.lst (ws.map .str),.int a,.int b]),.no,.no,.no,.no,.no,.no,.no,.no,.no,.no]).bind _=_
   rw[show zY (eV 1) zL [.fz (.lst (ns.map .int)),.fz (.int n),.fz (.tup [.lst (ws.map .str),.int a,.int b]),.no,.no,.no,.no,.no,.no,.no,.no,.no,.no]=some [.int n] from rfl,Qe,Qo (show([.int n]:List D).length=1 from rfl),hst,Qe,Qo (show(["size","root"]:List Str).length=([.int n,pgD []]:List D).length from rfl)]
   rfl
 unfold eT
 refine xO (ρ':=[.fz (.lst (ns.map .int)),.fz (.int n),.fz (.tup [.lst (ws.map .str),.int a,.int b]),.mu (stD n []),.mu (ktD []),.no,.no,.no,.no,.no,.no,.no,.no]) rfl ?_
 unfold gM
 refine jM ?_ ?_
 · have o4:xL 4 2 [.fz (.lst (ns.map .int)),.fz (.int n),.fz (.tup [.lst (ws.map .str),.int a,.int b]),.mu (stD n []),.mu (ktD []),.no,.no,.no,.no,.no,.no,.no,.no]=true:=rfl
   have o3:xL 3 1 [.fz (.lst (ns.map .int)),.fz (.int n),.fz (.tup [.lst (ws.map .str),.int a,.int b]),.mu (stD n []),.fz (ktD []),.no,.no,.no,.no,.no,.no,.no,.no]=true:=rfl
   rw[vD (k:=2) (d:=ktD []) rfl rfl o4]
   show y4 3 1 _ [.fz (.lst (ns.map .int)),.fz (.int n),.fz (.tup [.lst (ws.map .str),.int a,.int b]),.mu (stD n []),.fz (ktD []),.no,.no,.no,.no,.no,.no,.no,.no]=_
   rw[vD (k:=1) (d:=stD n []) rfl rfl o3]
   unfold yZ tB1
   rw[(wN (x:=stD n []) (y:=ktD []) rfl rfl).trans (zZ3 n Kp.nil (by decide))]
   rfl
 unfold gE
 refine yL (d:=.int 0) rfl ?_
 unfold gL
 refine xO (ρ':=R (.lst (ns.map .int)) (.int n) (.tup [.lst (ws.map .str),.int a,.int b]) (.mu (stD n es)) (.mu (ktD qs)) (.int ((0+(cs.map D.int).length:Nat):Int)) y6 y7 y8 y9 y10 y11 y12) ?_ rfl
 · unfold fV
   have src:jY (eV 0) (sC (eC (.int 2))) (sC (eC (.int 63))) (R (.lst (ns.map .int)) (.int n) (.tup [.lst (ws.map .str),.int a,.int b]) (.mu (stD n [])) (.mu (ktD [])) (.int 0) none none none none none none none)=some (cs.map D.int):=by
     show some (zXP (ns.map .int) (some 2) (some 63))=_
     rw[hcs]
   show(jY (eV 0) (sC (eC (.int 2))) (sC (eC (.int 63))) (R (.lst (ns.map .int)) (.int n) (.tup [.lst (ws.map .str),.int a,.int b]) (.mu (stD n [])) (.mu (ktD [])) (.int 0) none none none none none none none)).bind _=_
   rw[src,Qe]
   exact e
end My
open PySem PySem.W PyProof.Rows
set_option maxRecDepth 100000 in
set_option maxHeartbeats 0 in
theorem PySem.Challenge.cw_curveyard_k27_one_leaf_holds : PySem.Challenge.rw_curveyard_k27_one_leaf.Holds := by
 w_on
 refine PySem.W.holds_law My.zVK fun said=>?_
 refine PySem.W.holds_open (r:=PySem.Challenge.rw_curveyard_k27_one_leaf.row) (q:=My.qZ) (loose:=My.loose) (XP:=PySem.W.XL My.qZ [])
   (YP:=PySem.W.InK My.bA) My.zWj (PySem.W.InK.of My.dY) PySem.W.InK.keeps
   (fun s e=>PySem.W.xl_of s (Bool.and_eq_true_iff.mp e).1) PySem.W.XL.keeps (by rfl) (by rfl) (by rfl)
   (fun s e=>PySem.W.recFacts_of (Bool.and_eq_true_iff.mp e).2) (by rfl) (by assumption) (by decide +kernel)
   ⟨rfl,rfl,rfl,rfl,rfl,by decide +kernel⟩ ?hw ?hc
 case hw=>w_witness2
 k_fill
 refine L2.zVE (l:=PySem.Challenge.rw_curveyard_k27_one_leaf) (n:=63) (k:=10) (x:="_law_script") (CX:=fun _=>L2.CX0) (sp:=fun w=>L2.spF _ 1 My.iV) rfl (by decide) rfl ⟨rfl,by decide,by decide⟩ (fun w h Y=>Y) ?F (fun w H a ns hl hO hS=>My.zVq hS (My.zXV ns hl)) (fun _ _ _ _ _ z=>z)
 case F =>
   intro w mg fa h KX G hmg
   refine' My.zUn KX G hmg ?g0 ?g1 ?g2 ?g3 ?g4 ?g5 ?g6 ?g7 ?g9 ?g11 ?g12 ?g13 ?g14 ?g15 ?g16 ?g17 ?g18 ?g20 ?g21 ?g23 ?ca0 ?ci0 ?cn0 ?cl0 ?cc0 ?ck0 ?cpg0 ?chd0 ?cpo0 ?csa0 ?cmk0 ?ckc0 ?cf0_leaf ?cf0_leasts ?cf0_most ?cf0_things ?ca1 ?ci1 ?cn1 ?cl1 ?cc1 ?ck1 ?cpg1 ?chd1 ?cpo1 ?csa1 ?cmk1 ?ckc1 ?cf1_root ?cf1_size ?a8 ?n8 ?l8 ?c8 ?k8 ?a10 ?n10 ?l10 ?c10 ?k10 ?a19 ?n19 ?l19 ?c19 ?k19 ?a22 ?n22 ?l22 ?c22 ?k22 ?xa0 ?xk0 ?xe0 ?xc0 ?xa1 ?ix_Twice ?em_YardError_Twice ?z_bool ?z_int ?z_isinstance ?z_len ?z_list ?z_max ?z_range ?z_sorted ?z_str ?z_tuple
   all_goals (try exact⟨_,_,_,_,_,_,_,_,_,_,by k_is,by k_is,by k_is,by k_is⟩)
   all_goals (try k_is)
   all_goals kernel_rfl

import PyProof.Rows.All
import OpenK.KLine
import KE.KItem
import OpenK.KTop
import Wide.Once
import Open.Boot
import Wide.FinOn
import Lean
import PyProof.EqAt
import PyProof.EqKinds
import PyProof.TupleCall
import KE.KDictList
import KE.KSortAsk
import KE.KIntText
import KE.IntTextLaws
import OpenK.KOwn
import KE.KIsAll
import PyProof.InstStoreFacts
import PyProof.MaxThree
import PyProof.WalkInts
import PyProof.MinMaxWalk
import KE.KSortTup
import KE.KRevIter
import PyProof.ListRange
import KE.RegMulBits
import PyProof.Rows.SumAny
import PyProof.Rows.RuleN_abs
import PyProof.Rows.CallKwBuiltin
import PyProof.ZipIter
import PyProof.RaisesMany
import PyProof.RulesAs
import KE.KTryMore
import PyProof.ReprRoads
import PyProof.ReprLen
import PyProof.FString5
import PyProof.StrCalls
import PyProof.AutoSeq1
import PyProof.Rows.StrNews
import PyProof.Rows.StrItems
import PyProof.StrLawsChain
import PyProof.StrLawsTight
import PyProof.Rows.SortStr
import PyProof.DictItems
import PyProof.DictWalks
import PySem.Challenge.RW_curveyard_k38_things_that_share
set_option Elab.async false
set_option linter.all false
set_option maxRecDepth 100000
set_option maxHeartbeats 4000000
noncomputable section
set_option compiler.extract_closed false
local macro_rules|`(def $i:declId $s:optDeclSig $v:declVal)=>`(noncomputable def $i $s:optDeclSig $v:declVal)
local macro_rules|`(def $i:declId $s:optDeclSig:=by $t:tacticSeq)=>`(theorem $i $(⟨Lean.mkNode ``Lean.Parser.Command.declSig #[s.raw[0],s.raw[1][0]]⟩):declSig:=by $t)
set_option hygiene false
local macro_rules|`(tactic|sleep 1)=>`(tactic|rintro U H Q ⟨G0,H0,G,O,d,j0,hf,k⟩)
local macro_rules|`(tactic|sleep 2)=>`(tactic|rintro D U H ⟨G0,H0,G,O,o,j0,hf,k⟩)
local macro_rules|`(tactic|sleep 3)=>`(tactic|(
 sleep 1
 obtain⟨x,h1,hf⟩:=k8 hf))
local macro_rules|`(tactic|sleep 4)=>`(tactic|refine⟨G0,H0,G,O,_,j0,h1,λv H1 G1 s1 r1=>?_⟩)
local macro_rules|`(tactic|sleep 5)=>`(tactic|intro Z s U H x y v u Q I rx ry h)
local macro_rules|`(tactic|sleep 6)=>`(tactic|intro X hP hw hK hc i Z s U H E I hf st hg)
local macro_rules|`(~~~$n:num)=>`(nat_lit $n)
local macro_rules|`(!1)=>`(.ref C)
local macro_rules|`(!2)=>`(T.zz _ ja)
local macro_rules|`(!3)=>`(Txt K mg)
local macro_rules|`(!4)=>`(Inv X Z U H s)
local macro_rules|`(!5)=>`(model X.prog X.w)
local macro_rules|`(!6)=>`(by trivial)
local macro_rules|`(!7)=>`(List (It h))
local macro_rules|`(!8)=>`(by simp_all)
local macro_rules|`(!9)=>`(model prog w)
local macro_rules|`(!10)=>`(PF X a fa)
local macro_rules|`(!11)=>`(hr.mono (Qt rfl))
local macro_rules|`(!12)=>`(s1.trans s2)
local macro_rules|`(!13)=>`(zY eV1 zS)
local macro_rules|`(!14)=>`(zJ rfl rfl rfl)
local macro_rules|`(!15)=>`(.Name x p1)
local macro_rules|`(!16)=>`(.int (L:Nat))
local macro_rules|`(!17)=>`((x==("__debug__":Str))=false)
local macro_rules|`(!18)=>`({ s with heap:=h' })
local macro_rules|`(!19)=>`(yv (!27) L n r kb)
local macro_rules|`(!20)=>`(eIx eV1 jq)
local macro_rules|`(!21)=>`(Good K G0 H0 G H U O)
local macro_rules|`(!22)=>`(yv cv L n r kb)
local macro_rules|`(!23)=>`(X.calm=true)
local macro_rules|`(!24)=>`(starEach (e::es) X.env=(false,eval e X.env)::starEach es X.env)
local macro_rules|`(!25)=>`(X.N[i]?=some x)
local macro_rules|`(!26)=>`(starEach es X.env)
local macro_rules|`(!27)=>`(yU nm dm j ps)
local macro_rules|`(!28)=>`((x==("__classdict__":Str))=false)
local macro_rules|`(!29)=>`(Vis X.env.scope x)
local macro_rules|`(!30)=>`([.mu (some s) (kbD kt),.fz (deD w z b),.fz (vT dm L),.fz (.bl !fl),y'])
local macro_rules|`(!31)=>`({ s with heap:=h',toks:=tk })
local macro_rules|`(!32)=>`(.Attribute o m apos)
local macro_rules|`(!33)=>`(vH X (tgs++j4) scope C s₀ H₀ fp)
local macro_rules|`(!34)=>`(starEach [a] X.env=[(false,eval a X.env)])
local macro_rules|`(!35)=>`(A.deeper (envOfC qual (zV st) s.heap.objs.size f j9))
local macro_rules|`(!36)=>`(backToKw cpos (keywordEach [] X.env))
local macro_rules|`(!37)=>`(X.fn x=true\/X.env.scope.names.lookup x=some .local)
local macro_rules|`(!38)=>`(.builtin "object.__class__")
local macro_rules|`(!39)=>`((h1.update D (Obj.mapSeq λ_=>(#[]:jo))).push (seqObj "tuple" us.toArray 0))
abbrev J.{u}{α:Sort u}{a:α}:a=a:=rfl
abbrev r9:=PySem.Stmt
abbrev r8:=PySem.Expr
abbrev qz:=PySem.World
abbrev qy:=PySem.Around
abbrev qx:=PySem.Heap
abbrev qw:=PySem.Shared
abbrev qv:=PySem.Value
abbrev qu:=PySem.Addr
abbrev qt:=List PySem.Expr
abbrev qp:=List<|PySem.Str×Bool
abbrev qh:=List PySem.Value
abbrev qg:=List PySem.Stmt
abbrev qf:=Array Nat
abbrev qe:=List<|Int×PySem.Str
abbrev qb:=List PySem.Env
abbrev kz:=List Nat
abbrev ky:=Option Bool
abbrev ku:=Option Int
abbrev kr:=Option PySem.Addr
abbrev kq:=Nat->Nat->Bool
abbrev ko:=List PySem.Addr
abbrev kn:=Option PySem.Value
abbrev ki:=List Int
abbrev kh:=List PySem.Str
abbrev kf:=Option PySem.Str
def o0{p:Prop}(h:p:=by first | exact .inl rfl | exact .inr rfl):p:=h
abbrev r0:=PySem.Challenge.rw_curveyard_k38_things_that_share.row.prog
open PySem PySem.Spec PySem.W PyProof.Rows
abbrev A0:="self"
abbrev A1:="Yard"
abbrev A2:="_law_cell_here"
abbrev A3:="Page"
abbrev A4:="__static_attributes__"
abbrev A5:="things"
abbrev A6:="name"
abbrev A7:="__init__"
abbrev A8:="entry"
abbrev A9:="box"
abbrev Aa:="__firstlineno__"
abbrev Ab:="dims"
abbrev Ac:="_law_dims"
abbrev Ad:="Store"
abbrev Ae:="size"
abbrev Af:="level"
abbrev Ag:="curveyard.errors"
abbrev Ah:="page"
abbrev Ai:="spans"
abbrev Aj:="corner"
abbrev Ak:="_law_deed_here"
abbrev Al:="__module__"
abbrev Am:="curve"
abbrev An:="Curve"
abbrev Ao:="first"
abbrev Ap:="put"
abbrev Ar:="_law_level_here"
abbrev As:="leaf"
abbrev At:="OffFloor"
abbrev Au:="NoThing"
abbrev Av:="_law_drawn"
abbrev Aw:="crossing_beneath"
abbrev Ax:="take"
abbrev Ay:="entries_beneath"
abbrev Az:="ask_name"
abbrev AA:="ask_floor"
abbrev AB:="_law_things"
abbrev AC:="taken_beneath"
abbrev AD:="parts"
abbrev AE:="ValueError"
abbrev AF:="move"
abbrev AG:="most"
abbrev AH:="leasts"
abbrev AI:="curveyard.curves"
abbrev AJ:="stretches_of"
abbrev AK:="turn"
abbrev AL:="back"
abbrev AM:="root"
abbrev AN:="_law_yard"
abbrev AO:="last"
abbrev AQ:="_law_k"
abbrev AR:="first_state"
abbrev AS:="put_beneath"
abbrev AT:="Twice"
abbrev AU:="__qualname__"
abbrev AV:="YardError"
abbrev AW:="Part"
abbrev AX:="not_beyond"
abbrev AY:="entry_like"
abbrev AZ:="other"
abbrev B0:="_law_script"
abbrev B1:="_law_one"
abbrev B2:="__doc__"
abbrev B3:="has_place"
abbrev B4:="joined"
abbrev B5:="__weakref__"
abbrev B6:="/claim/cut.py"
abbrev B7:="on_floor"
abbrev B8:="pages_of"
abbrev B9:="crossing"
abbrev Ba:="TextError"
abbrev Bb:="_law_names_here"
abbrev Bc:="_law_refused"
abbrev Bd:="where"
abbrev Bf:="_law_floor"
abbrev Bg:="part_at"
abbrev Bh:="ask_box"
abbrev Bi:="root_of"
abbrev Bj:="Curve.__init__"
abbrev Bl:="Store.__init__"
abbrev Bm:="Store.crossing"
abbrev Bn:="region"
abbrev Bo:="space_ahead"
abbrev Bp:="joined_from"
abbrev Bq:="_law_shares"
abbrev Br:="Part.__init__"
abbrev Bs:="Page.__init__"
abbrev Bt:="law_curveyard_k38_things_that_share"
abbrev Bu:="turned"
abbrev Bv:="walked"
abbrev Bw:="volume"
abbrev By:="common"
abbrev Bz:="filled"
abbrev BA:="_law_curve"
abbrev BB:="_law_names"
abbrev BC:="_law_level"
abbrev BD:="_law_right"
abbrev BE:="_law_great"
abbrev BF:="listed"
abbrev BG:="Store.listed"
abbrev BH:="state"
abbrev BI:="curveyard.pages"
abbrev BJ:="curveyard.store"
abbrev BK:="_law_cell"
abbrev BL:="_law_turn"
abbrev BM:="_law_part"
abbrev BN:="_law_deed"
abbrev BO:="_law_done"
abbrev BP:="high"
abbrev BQ:="_law_word"
abbrev BR:="Yard.ask_floor"
abbrev BS:="TooWide"
abbrev BT:="NoEntry"
abbrev BU:="still"
abbrev BV:="after"
abbrev BW:="inner"
abbrev BX:="boxes"
abbrev BY:="__dict__"
abbrev BZ:="_law_mix"
abbrev C5:="_law_box"
abbrev C6:="_law_off"
abbrev C7:="_law_due"
abbrev C8:="TextError.__init__"
abbrev C9:="Store.take"
abbrev Ca:="Yard.__init__"
abbrev Cb:="Yard.ask_name"
abbrev Cc:="__main__.__loader__#opaque"
abbrev Cd:="BadBox"
abbrev Ce:="Unmet"
abbrev Cf:="Yard.sharing"
abbrev Cg:="builtin_function_or_method"
abbrev Ch:="least"
abbrev Ci:="pages"
abbrev Cj:="abcdefghijklmnopqrstuvwxyz"
abbrev Ck:="Store.put"
abbrev Cl:="low"
abbrev Cm:="_law_side"
abbrev Cn:="full"
abbrev Co:="rank"
abbrev Cp:="quarter"
abbrev Cq:="sharing"
abbrev Cr:="__annotations__"
abbrev Cs:="_wall"
abbrev Ct:="store"
abbrev Cu:="pieces"
abbrev Cv:="closed"
abbrev Cw:="Unmet.__init__"
abbrev Cy:="Yard.where"
abbrev Cz:="Yard.spans"
abbrev CA:="half"
abbrev CB:="starts"
abbrev CD:="_law_other"
abbrev CF:="_law_e"
abbrev CG:="way"
abbrev CH:="Yard.move"
abbrev CI:="Yard.take"
abbrev CJ:="floor"
abbrev CK:="axis"
abbrev CL:="Yard.put"
abbrev CM:="Yard.lay"
abbrev CN:="Store.shape"
def ja{p:Prop}(h:p:=by decide +kernel):p:=h
def jb{p:Prop}(h:p:=by decide):p:=h
def jc{p:Prop}(h:p:=by lia):p:=h
def jd{p:Prop}(h:p:=by omega):p:=h
def je{p:Prop}(h:p:=by simp):p:=h
def jf{p:Prop}(h:p:=by kernel_rfl):p:=h
def jg{p:Prop}(h:p:=by rfl):p:=h
def jh{p:Prop}(h:p:=by k_is):p:=h
abbrev jk:=PySem.W.Frag
abbrev jl:=qv->qw->Prop
abbrev jm:=List<|qu×Obj
abbrev jn:=qh
abbrev jo:=Array qv
section
def Qq:=@Option.bind_eq_some_iff
def k8:=λ{a b c d e}=>(@Qq a b c d e).mp
def Qw:=@wpAny_bind
def Qe:=@Heap.get?_push_of_some
def Qr:=@Option.bind_some
def Qt:=@Nat.le_of_ble_eq_true
def Qy:=@List.length_map
def Qu:=@Option.map_eq_some_iff
def k9:=λ{a b c d e}=>(@Qu a b c d e).mp
def Qi:=@wpAny_pure
def Qo:=@List.length_append
def Qp:=@List.mem_cons_of_mem
def Qa:=@Heap.lt_size
def Qs:=@Heap.get?_push_size
def Qd:=@List.size_toArray
def Qf:=@List.mem_cons_self
def Qg:=@Nat.le_refl
def Qh:=@if_pos
def Qj:=@List.mem_cons
def v4:=λ{a b c d}=>(@Qj a b c d).mp
def Qk:=@List.length_cons
def Ql:=@List.getElem?_eq_getElem
def Qz:=@List.getElem?_eq_some_iff
def v5:=λ{a b c d}=>(@Qz a b c d).mp
def Qx:=@List.map_cons
def Qc:=@decide_eq_true
def Qv:=@if_neg
def Qb:=@List.mem_singleton
def Qn:=@decide_eq_false
def Qm:=@Bool.and_eq_true
def Wq:=@PySem.F.plainAttrs_list
def Ww:=@Nat.le_trans
def We:=@PassesOwn.never
def Wr:=@Nat.lt_of_lt_of_le
def Wy:=@Nat.ne_of_lt
def Wu:=@List.mem_append
def v6:=λ{a b c d}=>(@Wu a b c d).mp
def Wi:=@congrArg
def Wo:=@decide_eq_true_eq
def Wp:=@List.lookup_cons
def Wa:=@Nat.le_of_lt
def Ws:=@List.mem_append_right
def Wf:=@List.append_nil
def Wg:=@List.mem_map
def v7:=λ{a b c d e}=>(@Wg a b c d e).mp
def Wh:=@Option.isSome_iff_exists
def Wj:=@List.map_map
def Wk:=@sizeLine_eq
def Wl:=@Bool.false_ne_true
def Wz:=@List.map_append
def Wx:=@Nat.lt_irrefl
def Wv:=@List.getElem?_set_ne
def Wb:=@Bool.and_eq_true_iff
def Wn:=@List.length_take
def Wm:=@List.mem_flatMap
def Ew:=@PySem.F.slot_list_append
def Ee:=@PySem.F.type_list_append
def Er:=@Nat.zero_le
def Ey:=@wpAny_call_entry
def Eu:=@List.getElem?_map
def Ei:=@List.getD_eq_getElem?_getD
def Eo:=@List.mem_filter
def Ep:=@wpAny_field
def Ea:=@Heap.get?_update_ne
def Es:=@List.map_congr_left
def Ed:=@wpAny_mono
def Eg:=@List.length_filter_le
def Eh:=@of_decide_eq_true
def Ej:=@wpAny_callSpecial?_slot
def Ek:=@Bool.false_eq_true
def El:=@List.mem_of_getElem?
def Ez:=@List.mem_of_mem_take
def Ex:=@List.mem_of_mem_drop
def Ec:=@List.length_drop
def Ev:=@wpAny_truthy_bool
def Eb:=@PySem.mem_of_lookup
def En:=@List.pairwise_map
def Em:=@List.flatMap_cons
def Rq:=@Bool.eq_iff_iff
def Rw:=@List.length_replicate
def Re:=@wpAny_Call_Name_kw
def Rr:=@List.pairwise_cons
def Ry:=@List.not_mem_nil
def Ru:=@wpAny_holding
def Ri:=@Heap.size_push
def Ro:=@wpAny_seqItems
def Rp:=@wpAny_newObj_type
def Ra:=@List.append_assoc
def Rs:=@Option.some.inj
def Rf:=@PyProof.Rows.callWith_type1
def Rg:=@codeAny_builtin
def Rh:=@List.getElem?_set_self
def Rj:=@Heap.get?_update_other
def Rk:=@List.getElem?_append_right
def Rl:=@Array.getElem?_eq_some_iff
def Rz:=@List.filter_cons
def Rx:=@List.all_eq_true
def Rc:=@Heap.get?_update_self
def Rv:=@wpAny_setField_rec
def Rb:=@Int.emod_lt_of_pos
def Rn:=@List.pairwise_append
def Rm:=@List.nodup_cons
def Tq:=@PyProof.Rows.slot_tuple_getitem
def Tw:=@beq_eq_false_iff_ne
def Te:=@List.length_eq_zero_iff
def Tr:=@List.flatMap_append
def Tt:=@List.getElem_mem
def Tu:=@callWith_K
def Ti:=@wpAny_passesOwn
def To:=@Bool.or_eq_true
def Tp:=@kia_one
def Ta:=@List.length_zip
def Ts:=@Int.emod_nonneg
def Td:=@Paired.length
def Tg:=@wpAny_pyIter_list
def Th:=@call_meets
def Tj:=@plainId_quiet
def Tk:=@wpAny_loadPart_at
def Tl:=@listUpdate_at
def Tz:=@List.length_range
def Tx:=@List.mem_range
def Tc:=@List.getElem?_append_left
def Tv:=@wpAny_is_other
def Tb:=@List.replicate_succ
def Yq:=@Int.le_refl
def Yw:=@codeAny_mono
def Ye:=@PySem.F.slot_list_extend
def Yr:=@PySem.F.type_list_extend
def Yt:=@wpAny_execs_nil
def Yy:=@wpAny_pyIter_tuple
def Yu:=@List.getElem?_replicate
def Yi:=@Option.map_some
def Yo:=@wpAny_getItem_str_slice
def Yp:=@List.zip_cons_cons
def Ya:=@List.take_of_length_le
def Ys:=@List.filter_eq_nil_iff
def Yf:=@List.flatten_cons
def Yg:=@Option.isSome_map
def Yh:=@Int.toNat_natCast
def Yj:=@Str.length_append
def Yk:=@Nat.zero_add
def Yl:=@wpAny_eqBool_str
def Yz:=@List.mem_append_left
def Yx:=@if_false
def Yc:=@beq_iff_eq
def Yv:=@wpAny_rule
def Yb:=@Nat.le_succ
def Yn:=@List.of_mem_zip
def Ym:=@List.find?_cons
def Uq:=@Heap.SameBut.update
def Uw:=@wpAny_letGo
def Ue:=@wpAny_ite_split
def Ur:=@List.filter_eq_self
def Ut:=@List.filter_map
def Uy:=@Int.fdiv_eq_ediv_of_nonneg
def Uu:=@Array.perm_iff_toList_perm
def Ui:=@Nat.lt_of_le_of_lt
def Uo:=@Nat.min_self
def Ua:=@List.filter_append
def Us:=@wpAny_newTuple
def Ud:=@Nat.mul_le_mul
def Ug:=@wpAny_tryCatch
def Uh:=@PySem.F.args_tuple_add_2
def Uj:=@List.nodup_append
def Uk:=@Nat.lt_succ_of_lt
def Ul:=@PySem.F.entry_tuple_add
def Uz:=@or_false
def Ux:=@seqEpoch_at
def Uc:=@wpAny_newList
def Uv:=@List.eraseIdx_cons_succ
def Ub:=@wpAny_execs_cons
def Um:=@List.any_eq_true
def Iq:=@cellsFrom_some
def Iw:=@PySem.F.slot_tuple_add
def Ie:=@List.range_succ_eq_map
def Ir:=@Nat.ne_of_gt
def Iy:=@methodCall_KW
def Iu:=@post_val_or_str
def Ii:=@Int.le_trans
def Ia:=@get?_update_seq
def Ig:=@Array.getElem?_setIfInBounds_self_of_lt
def Ih:=@List.nil_append
def Ij:=@wpAny_updateSeq
def Ik:=@Int.le_of_lt
def Il:=@List.Perm.append_left
def Ix:=@wpAny_call
def Ic:=@typeIs_str
def Ib:=@Nat.not_lt
def Im:=@codeAny_call_builtin
def Oq:=@Nat.pow_le_pow_right
def Ow:=@List.mem_iff_getElem
def Oe:=@List.lt_irrefl
def Ot:=@List.filterMap_cons
def Oy:=@plainGet_of
def Ou:=@Array.length_toList
def Oi:=@mirror_perm
def Oo:=@Int.toNat_of_nonneg
def Op:=@ne_true_of_eq_false
def Oa:=@List.flatten_append
def Os:=@Array.find?_toList
def Od:=@List.any_cons
def Og:=@wpAny_attempt
def Oh:=@wpAny_standAt
def Oj:=@if_true
def Ol:=@wpAny_pyIter_slot
def Oz:=@bne_self_eq_false
def Ox:=@Nat.le_of_eq
def Oc:=@concat_meets
def Ov:=@List.map_nil
def Ob:=@Txt.slice_le
def On:=@listItems_at
def Om:=@Int.mul_comm
def Pq:=@Int.mul_le_mul_of_nonneg_right
def Pw:=@wpAny_eqBool_int
def Pe:=@Nat.lt_succ_self
def Pr:=@noFill_tuple_add
def Py:=@Heap.size_update
def Pu:=@wpAny_isInstance
def Pi:=@beq_self_eq_true
def Po:=@Array.toList_map
def Pp:=@decide_eq_decide
def Pa:=@List.forIn_cons
def Ps:=@List.length_set
def Pd:=@SeqAt.EqAt.same
def Pf:=@intItems_at
def Pg:=@List.length_nil
def Ph:=@Calls.Name_function_global
def Pj:=@wpAny_newFunctionEnv_cells
def Pk:=@List.perm_ext_iff_of_nodup
def Pl:=@wpAny_loadPart
def Pz:=@List.drop_eq_getElem_cons
def Px:=@wpAny_setField
def Pv:=@MeetsSeq.plain_index_loop
def Pb:=@MeetsSeq.entry_index_loop
def Pn:=@List.pairwise_iff_getElem
def Pm:=@Array.getElem?_eq_getElem
def Aq:=@List.exists_mem_of_ne_nil
end
namespace L2
def yT (s:r9)(j:Nat):r9:=match s with
 | .ClassDef _ _ _ body _ _ _ _ _ _ _=>body.getD j<|.Pass ⟨0,0,0,0⟩
 | _=>.Pass ⟨0,0,0,0⟩
def qB (s:r9):Arguments:=match s with
 | .FunctionDef _ a _ _ _ _ _ _ _ _=>a
 | _=>{ posonlyargs:=[],args:=[],vararg:=none,kwonlyargs:=[],kw_defaults:=[],kwarg:=none,defaults:=[] }
def xI (s:r9):qg:=match s with
 | .FunctionDef _ _ b _ _ _ _ _ _ _=>b
 | _=>[]
def zV (s:r9):Scope:=match s with
 | .FunctionDef _ _ _ _ _ _ sc _ _ _=>sc
 | _=>{ kind:=.function,names:=[],isGenerator:=false,isCoroutine:=false }
end L2
open L2
namespace My
def top (i:Nat):r9:=PySem.Challenge.pw_curveyard_k38_things_that_share.main.body.getD i<|.Pass ⟨0,0,0,0⟩
end My
namespace My
open PyData
abbrev cb (n:Str)(t1 t2 t3 l r1 m r2 o t4:Nat):Obj:=⟨.type "code",none,.fields #[.str n t1,.str n t2,.str B6 t3,.int l 0,.int 0 0,.int 0 0,.int 0 0,.int 0 0,.ref r1,.bool false,.int m 0,.ref r2,.none,.none,.none,.none,.int o 0,.int l 0,.str B6 t4],#[]⟩
abbrev tu (l:jo)(n:Nat):Obj:=⟨.type "tuple",none,.seq l n,#[]⟩
abbrev nf (l:jo):Obj:=⟨.none,none,.fields l,#[]⟩
abbrev tf (t:String)(l:jo):Obj:=⟨.type t,none,.fields l,#[]⟩
abbrev di (l:Array DictEntry)(n:Nat):Obj:=⟨.type "dict",none,.dict l n,#[]⟩
abbrev fm (l:Array kn):Obj:=⟨.type "frame",none,.plain,l⟩
abbrev co (n q:Str)(t1 t2 t3 l a x y z r1 m r2:Nat)(v1 v2 v3:qv)(r3 o t4:Nat):Obj:=⟨.type "code",none,.fields #[.str n t1,.str q t2,.str B6 t3,.int l 0,.int a 0,.int x 0,.int y 0,.int z 0,.ref r1,.bool true,.int m 0,.ref r2,v1,v2,v3,.ref r3,.int o 0,.int l 0,.str B6 t4],#[]⟩
abbrev fu (n q:Str)(s:r9)(m:Str)(t c:Nat):Obj:=⟨.type "function",none,.func<|fnOf n q (qB s) (xI s) (zV s) (.none) (.none) (.none) (.str m t) none (.ref c)<|.none,#[]⟩
abbrev ke (P:Params)(n:Str)(t:Nat)(v:qv):DictEntry:=⟨keyHash P n,.str n t,v⟩
abbrev cl (n:Str)(b r:jn)(s:Nat)(u:jn)(l:Array kn):Obj:=⟨.type "type",none,.cls { name:=n,bases:=b,mro:=r,ns:=s,qualname:=n,hasDict:=true,slotNames:=[],subclasses:=u,abstract:=false,collection:=none,hasDel:=false },l⟩
abbrev gd (t a:Nat):Obj:=⟨.type "getset_descriptor",none,.fields #[.str BY t,.ref a,.builtin "function.__dict__",.builtin "function.__dict__#set"],#[]⟩
abbrev gw (t a:Nat):Obj:=⟨.type "getset_descriptor",none,.fields #[.str B5 t,.ref a,.builtin "ExceptionGroup.__weakref__",.none],#[]⟩
abbrev cq5 (a:Nat)(n q:Str)(t l k o:Nat):Obj:=co n q t (t+1) (t+2) l k 0 0 3 (a - 5) 181 (a - 4) .none (.ref<|a - 3) (.ref<|a - 2) (a - 1) o<|o+1
abbrev qX (a:Nat)(n:Str)(t l k o:Nat):Obj:=cq5 a n n t l k o
abbrev cq3 (a:Nat)(n q:Str)(t l k o:Nat):Obj:=co n q t (t+1) (t+2) l k 0 0 3 (a - 3) 181 (a - 2) .none .none .none (a - 1) o<|o+1
abbrev gZ (a:Nat)(n:Str)(t l k o:Nat):Obj:=cq3 a n n t l k o
abbrev fq0 (n q:Str)(s:r9)(a:Nat):Obj:=fu n q s "__main__" 164 a
abbrev fs0 (n:Str)(k a:Nat):Obj:=fq0 n n (top k) a
abbrev fq1 (n q:Str)(s:r9)(a:Nat):Obj:=fu n q s Ag 194 a
abbrev fq2 (n q:Str)(s:r9)(a:Nat):Obj:=fu n q s "curveyard.turns" 364 a
abbrev fs2 (n:Str)(k a:Nat):Obj:=fq2 n n (top k) a
abbrev fq3 (n q:Str)(s:r9)(a:Nat):Obj:=fu n q s AI 384 a
abbrev fs3 (n:Str)(k a:Nat):Obj:=fq3 n n (top k) a
abbrev fq4 (n q:Str)(s:r9)(a:Nat):Obj:=fu n q s "curveyard.numbering" 483 a
abbrev fs4 (n:Str)(k a:Nat):Obj:=fq4 n n (top k) a
abbrev fq5 (n q:Str)(s:r9)(a:Nat):Obj:=fu n q s "curveyard.boxes" 501 a
abbrev fs5 (n:Str)(k a:Nat):Obj:=fq5 n n (top k) a
abbrev fq6 (n q:Str)(s:r9)(a:Nat):Obj:=fu n q s BI 547 a
abbrev fs6 (n:Str)(k a:Nat):Obj:=fq6 n n (top k) a
abbrev fq7 (n q:Str)(s:r9)(a:Nat):Obj:=fu n q s BJ 657 a
abbrev fq8 (n q:Str)(s:r9)(a:Nat):Obj:=fu n q s "curveyard.stretches" 728 a
abbrev fs8 (n:Str)(k a:Nat):Obj:=fq8 n n (top k) a
abbrev fq9 (n q:Str)(s:r9)(a:Nat):Obj:=fu n q s "curveyard.yard" 784 a
abbrev zDx (n q:Str)(s:r9)(a:Nat):Obj:=fu n q s Bt 935 a
abbrev eJ (n:Str)(k a:Nat):Obj:=zDx n n (top k) a
abbrev xd (P:Params)(a t l:Nat):Obj:=di #[ke P Al t<|.str Ag 194,ke P Aa (t+4)<|.int l<|t+3,ke P A4 (t+5)<|.ref<|a - 1,ke P B2 (t+6) .none] 2
abbrev xc (a:Nat)(n:Str)(b:Nat)(l:Array kn):Obj:=cl n [.ref b] [.ref a,.ref b,.type AE,.type "Exception",.type "BaseException",.type "object"] (a - 1) [] l
abbrev xe (a:Nat)(n:Str)(b r t u:Nat):Obj:=xc a n b #[some<|.ref r,none,some<|.str n t,some<|.str n u,some<|.builtin "ValueError.__new__",some<|.bool true]
abbrev oc (a:Nat)(n:Str)(t u:Nat):Obj:=cl n [.type "object"] [.ref a,.type "object"] (a - 1) [] #[none,none,some<|.str n t,some<|.str n u,some<|.builtin "object.__new__",some<|.bool true]
def zXc:Params->Frag:=λP =>
 (~~~3,di #[ke P "__name__" 165<|.str Bt 935,ke P B2 166 .none,ke P "__package__" 167 .none,ke P "__loader__" 168<|.builtin Cc,ke P "__spec__" 169 .none,ke P Cr 170<|.ref 6,ke P "__builtins__" 171<|.ref 4,ke P "__file__" 173<|.str B6 172,ke P "__cached__" 174 .none,ke P Cs 193<|.ref 21,ke P AV 213<|.ref 31,ke P At 229<|.ref 44,ke P BS 245<|.ref 56,ke P Cd 261<|.ref 68,ke P AT 277<|.ref 80,ke P Au 293<|.ref 92,ke P BT 309<|.ref 104,ke P Ba 334<|.ref 123,ke P Ce 363<|.ref 142,ke P Bu 371<|.ref 149,ke P BU 377<|.ref 154,ke P BV 383<|.ref 159,ke P AW 418<|.ref 176,ke P An 453<|.ref 197,ke P AR 460<|.ref 208,ke P Bg 473<|.ref 215,ke P Bv 482<|.ref 222,ke P Cn 494<|.ref 229,ke P B3 500<|.ref 234,ke P AX 508<|.ref 239,ke P B7 519<|.ref 246,ke P Bh 528<|.ref 253,ke P Bw 540<|.ref 260,ke P By 546<|.ref 265,ke P A3 578<|.ref 280,ke P Co 588<|.ref 291,ke P CG 594<|.ref 296,ke P AY 600<|.ref 301,ke P AS 611<|.ref 308,ke P AC 617<|.ref 313,ke P B8 627<|.ref 320,ke P Bz 633<|.ref 325,ke P Bi 641<|.ref 332,ke P Ay 650<|.ref 339,ke P Aw 656<|.ref 344,ke P Ad 727<|.ref 396,ke P AJ 740<|.ref 407,ke P Cu 757<|.ref 414,ke P Cp 763<|.ref 419,ke P Cv 769<|.ref 424,ke P Bo 777<|.ref 431,ke P Bp 783<|.ref 436,ke P A1 934<|.ref 544,ke P BK 944<|.ref 555,ke P BZ 954<|.ref 562,ke P BL 960<|.ref 567,ke P BM 966<|.ref 572,ke P BA 972<|.ref 577,ke P BB 978<|.ref 582,ke P BC 987<|.ref 589,ke P C5 1003<|.ref 596,ke P C6 1017<|.ref 603,ke P BN 1030<|.ref 610,ke P C7 1041<|.ref 617,ke P Bc 1049<|.ref 624,ke P BO 1059<|.ref 631,ke P Bq 1068<|.ref 638,ke P "_law_lies" 1077<|.ref 645,ke P "_law_far" 1087<|.ref 652,ke P BD 1100<|.ref 659,ke P BE 1106<|.ref 664,ke P "law" 1122<|.ref 671] 72) ::
 (~~~20,qX 20 Cs 187 1 1 191) ::
 (~~~21,fs0 Cs 0 20) ::
 (~~~30,di #[ke P Al 203<|.str Ag 194,ke P Aa 207<|.int 5 206,ke P A4 208<|.ref 29,ke P B5 210<|.ref 32,ke P B2 211 .none] 3) ::
 (~~~31,cl AV [.type AE] [.ref 31,.type AE,.type "Exception",.type "BaseException",.type "object"] 30 [.ref 44,.ref 56,.ref 68,.ref 80,.ref 92,.ref 104,.ref 123,.ref 142] #[some<|.ref 22,none,some<|.str AV 196,some<|.str AV 204,some<|.builtin "ValueError.__new__",some<|.bool true]) ::
 (~~~32,gw 209 31) ::
 (~~~43,xd P 43 221 7) ::
 (~~~44,xe 44 At 31 35 214 222) ::
 (~~~55,xd P 55 237 9) ::
 (~~~56,xe 56 BS 31 47 230 238) ::
 (~~~67,xd P 67 253 11) ::
 (~~~68,xe 68 Cd 31 59 246 254) ::
 (~~~79,xd P 79 269 13) ::
 (~~~80,xe 80 AT 31 71 262 270) ::
 (~~~91,xd P 91 285 15) ::
 (~~~92,xe 92 Au 31 83 278 286) ::
 (~~~103,xd P 103 301 17) ::
 (~~~104,xe 104 BT 31 95 294 302) ::
 (~~~119,cq5 119 A7 C8 322 21 2 327) ::
 (~~~120,fq1 A7 C8 (yT (top 9) 0) 119) ::
 (~~~122,di #[ke P Al 317<|.str Ag 194,ke P Aa 321<|.int 19 320,ke P A7 329<|.ref 120,ke P A4 331<|.ref 121,ke P B2 332 .none] 2) ::
 (~~~123,xe 123 Ba 31 107 310 318) ::
 (~~~138,cq5 138 A7 Cw 347 25 4 354) ::
 (~~~139,fq1 A7 Cw (yT (top 10) 0) 138) ::
 (~~~141,di #[ke P Al 342<|.str Ag 194,ke P Aa 346<|.int 23 345,ke P A7 356<|.ref 139,ke P A4 360<|.ref 140,ke P B2 361 .none] 2) ::
 (~~~142,xe 142 Ce 31 126 335 343) ::
 (~~~148,gZ 148 Bu 366 30 2 369) ::
 (~~~149,fs2 Bu 12 148) ::
 (~~~153,gZ 153 BU 372 32 1 375) ::
 (~~~154,fs2 BU 13 153) ::
 (~~~158,gZ 158 BV 378 34 2 381) ::
 (~~~159,fs2 BV 14 158) ::
 (~~~172,cq5 172 A7 Br 398 39 4 405) ::
 (~~~173,fq3 A7 Br (yT (top 16) 0) 172) ::
 (~~~175,di #[ke P Al 393<|.str AI 384,ke P Aa 397<|.int 37 396,ke P A7 407<|.ref 173,ke P A4 411<|.ref 174,ke P BY 413<|.ref 177,ke P B5 415<|.ref 178,ke P B2 416 .none] 4) ::
 (~~~176,oc 176 AW 386 394) ::
 (~~~177,gd 412 176) ::
 (~~~178,gw 414 176) ::
 (~~~193,cq5 193 A7 Bj 431 45 5 439) ::
 (~~~194,fq3 A7 Bj (yT (top 17) 0) 193) ::
 (~~~196,di #[ke P Al 426<|.str AI 384,ke P Aa 430<|.int 43 429,ke P A7 441<|.ref 194,ke P A4 446<|.ref 195,ke P BY 448<|.ref 198,ke P B5 450<|.ref 199,ke P B2 451 .none] 4) ::
 (~~~197,oc 197 An 419 427) ::
 (~~~198,gd 447 197) ::
 (~~~199,gw 449 197) ::
 (~~~207,qX 207 AR 454 50 1 458) ::
 (~~~208,fs3 AR 18 207) ::
 (~~~214,qX 214 Bg 461 52 3 471) ::
 (~~~215,fs3 Bg 19 214) ::
 (~~~221,qX 221 Bv 474 57 3 480) ::
 (~~~222,fs3 Bv 20 221) ::
 (~~~228,qX 228 Cn 485 60 2 492) ::
 (~~~229,fs4 Cn 22 228) ::
 (~~~233,gZ 233 B3 495 65 3 498) ::
 (~~~234,fs4 B3 23 233) ::
 (~~~238,gZ 238 AX 503 69 2 506) ::
 (~~~239,fs5 AX 25 238) ::
 (~~~245,qX 245 B7 509 71 3 517) ::
 (~~~246,fs5 B7 26 245) ::
 (~~~252,qX 252 Bh 520 74 3 526) ::
 (~~~253,fs5 Bh 27 252) ::
 (~~~259,qX 259 Bw 529 77 1 538) ::
 (~~~260,fs5 Bw 28 259) ::
 (~~~264,gZ 264 By 541 83 2 544) ::
 (~~~265,fs5 By 29 264) ::
 (~~~276,cq3 276 A7 Bs 561 90 3 564) ::
 (~~~277,fq6 A7 Bs (yT (top 31) 0) 276) ::
 (~~~279,di #[ke P Al 556<|.str BI 547,ke P Aa 560<|.int 88 559,ke P A7 566<|.ref 277,ke P A4 571<|.ref 278,ke P BY 573<|.ref 281,ke P B5 575<|.ref 282,ke P B2 576 .none] 4) ::
 (~~~280,oc 280 A3 549 557) ::
 (~~~281,gd 572 280) ::
 (~~~282,gw 574 280) ::
 (~~~290,qX 290 Co 579 96 1 586) ::
 (~~~291,fs6 Co 32 290) ::
 (~~~295,gZ 295 CG 589 99 2 592) ::
 (~~~296,fs6 CG 33 295) ::
 (~~~300,gZ 300 AY 595 102 2 598) ::
 (~~~301,fs6 AY 34 300) ::
 (~~~307,qX 307 AS 601 107 3 609) ::
 (~~~308,fs6 AS 35 307) ::
 (~~~312,gZ 312 AC 612 113 3 615) ::
 (~~~313,fs6 AC 36 312) ::
 (~~~319,qX 319 B8 618 119 3 625) ::
 (~~~320,fs6 B8 37 319) ::
 (~~~324,gZ 324 Bz 628 126 2 631) ::
 (~~~325,fs6 Bz 38 324) ::
 (~~~331,qX 331 Bi 634 135 1 639) ::
 (~~~332,fs6 Bi 39 331) ::
 (~~~338,qX 338 Ay 642 142 1 648) ::
 (~~~339,fs6 Ay 40 338) ::
 (~~~343,gZ 343 Aw 651 149 3 654) ::
 (~~~344,fs6 Aw 41 343) ::
 (~~~357,cq5 357 A7 Bl 671 160 2 676) ::
 (~~~358,fq7 A7 Bl (yT (top 43) 0) 357) ::
 (~~~364,cq5 364 Ap Ck 679 164 2 684) ::
 (~~~365,fq7 Ap Ck (yT (top 43) 1) 364) ::
 (~~~371,cq5 371 Ax C9 687 169 2 692) ::
 (~~~372,fq7 Ax C9 (yT (top 43) 2) 371) ::
 (~~~378,cq5 378 BF BG 695 174 1 699) ::
 (~~~379,fq7 BF BG (yT (top 43) 3) 378) ::
 (~~~385,cq5 385 B9 Bm 702 177 3 708) ::
 (~~~386,fq7 B9 Bm (yT (top 43) 4) 385) ::
 (~~~392,cq5 392 "shape" CN 711 180 1 715) ::
 (~~~393,fq7 "shape" CN (yT (top 43) 5) 392) ::
 (~~~395,di #[ke P Al 666<|.str BJ 657,ke P Aa 670<|.int 158 669,ke P A7 678<|.ref 358,ke P Ap 686<|.ref 365,ke P Ax 694<|.ref 372,ke P BF 701<|.ref 379,ke P B9 710<|.ref 386,ke P "shape" 717<|.ref 393,ke P A4 720<|.ref 394,ke P BY 722<|.ref 397,ke P B5 724<|.ref 398,ke P B2 725 .none] 4) ::
 (~~~396,oc 396 Ad 659 667) ::
 (~~~397,gd 721 396) ::
 (~~~398,gw 723 396) ::
 (~~~406,qX 406 AJ 730 183 3 738) ::
 (~~~407,fs8 AJ 45 406) ::
 (~~~413,qX 413 Cu 741 187 5 755) ::
 (~~~414,fs8 Cu 46 413) ::
 (~~~418,gZ 418 Cp 758 199 2 761) ::
 (~~~419,fs8 Cp 47 418) ::
 (~~~423,gZ 423 Cv 764 205 2 767) ::
 (~~~424,fs8 Cv 48 423) ::
 (~~~430,qX 430 Bo 770 208 2 775) ::
 (~~~431,fs8 Bo 49 430) ::
 (~~~435,gZ 435 Bp 778 210 2 781) ::
 (~~~436,fs8 Bp 50 435) ::
 (~~~449,cq5 449 A7 Ca 798 218 4 805) ::
 (~~~450,fq9 A7 Ca (yT (top 52) 0) 449) ::
 (~~~456,cq5 456 Ap CL 808 224 3 814) ::
 (~~~457,fq9 Ap CL (yT (top 52) 1) 456) ::
 (~~~463,cq5 463 AF CH 817 230 3 823) ::
 (~~~464,fq9 AF CH (yT (top 52) 2) 463) ::
 (~~~470,cq5 470 Ax CI 826 236 2 833) ::
 (~~~471,fq9 Ax CI (yT (top 52) 3) 470) ::
 (~~~477,cq5 477 Bd Cy 836 241 2 841) ::
 (~~~478,fq9 Bd Cy (yT (top 52) 4) 477) ::
 (~~~484,cq5 484 "names" "Yard.names" 844 245 1 848) ::
 (~~~485,fq9 "names" "Yard.names" (yT (top 52) 5) 484) ::
 (~~~491,cq5 491 "inside" "Yard.inside" 851 248 2 856) ::
 (~~~492,fq9 "inside" "Yard.inside" (yT (top 52) 6) 491) ::
 (~~~498,cq5 498 "meeting" "Yard.meeting" 859 251 2 864) ::
 (~~~499,fq9 "meeting" "Yard.meeting" (yT (top 52) 7) 498) ::
 (~~~505,cq5 505 "nearest" "Yard.nearest" 867 254 3 873) ::
 (~~~506,fq9 "nearest" "Yard.nearest" (yT (top 52) 8) 505) ::
 (~~~512,cq5 512 Cq Cf 876 257 1 885) ::
 (~~~513,fq9 Cq Cf (yT (top 52) 9) 512) ::
 (~~~519,cq5 519 AA BR 888 265 2 893) ::
 (~~~520,fq9 AA BR (yT (top 52) 10) 519) ::
 (~~~526,cq5 526 Az Cb 896 268 2 901) ::
 (~~~527,fq9 Az Cb (yT (top 52) 11) 526) ::
 (~~~533,cq5 533 "lay" CM 904 272 3 912) ::
 (~~~534,fq9 "lay" CM (yT (top 52) 12) 533) ::
 (~~~540,cq5 540 Ai Cz 915 277 2 920) ::
 (~~~541,fq9 Ai Cz (yT (top 52) 13) 540) ::
 (~~~543,di #[ke P Al 793<|.str "curveyard.yard" 784,ke P Aa 797<|.int 216 796,ke P A7 807<|.ref 450,ke P Ap 816<|.ref 457,ke P AF 825<|.ref 464,ke P Ax 835<|.ref 471,ke P Bd 843<|.ref 478,ke P "names" 850<|.ref 485,ke P "inside" 858<|.ref 492,ke P "meeting" 866<|.ref 499,ke P "nearest" 875<|.ref 506,ke P Cq 887<|.ref 513,ke P AA 895<|.ref 520,ke P Az 903<|.ref 527,ke P "lay" 914<|.ref 534,ke P Ai 922<|.ref 541,ke P A4 927<|.ref 542,ke P BY 929<|.ref 545,ke P B5 931<|.ref 546,ke P B2 932 .none] 4) ::
 (~~~544,oc 544 A1 786 794) ::
 (~~~545,gd 928 544) ::
 (~~~546,gw 930 544) ::
 (~~~554,qX 554 BK 937 280 2 942) ::
 (~~~555,eJ BK 54 554) ::
 (~~~561,qX 561 BZ 945 284 3 952) ::
 (~~~562,eJ BZ 55 561) ::
 (~~~566,gZ 566 BL 955 287 2 958) ::
 (~~~567,eJ BL 56 566) ::
 (~~~571,gZ 571 BM 961 292 2 964) ::
 (~~~572,eJ BM 57 571) ::
 (~~~576,gZ 576 BA 967 299 2 970) ::
 (~~~577,eJ BA 58 576) ::
 (~~~581,gZ 581 BB 973 314 1 976) ::
 (~~~582,eJ BB 59 581) ::
 (~~~588,qX 588 BC 979 330 2 985) ::
 (~~~589,eJ BC 60 588) ::
 (~~~595,qX 595 C5 988 335 4 1001) ::
 (~~~596,eJ C5 61 595) ::
 (~~~602,qX 602 C6 1004 345 3 1015) ::
 (~~~603,eJ C6 62 602) ::
 (~~~609,qX 609 BN 1018 357 4 1028) ::
 (~~~610,eJ BN 63 609) ::
 (~~~616,qX 616 C7 1031 364 3 1039) ::
 (~~~617,eJ C7 64 616) ::
 (~~~623,qX 623 Bc 1042 379 1 1047) ::
 (~~~624,eJ Bc 65 623) ::
 (~~~630,qX 630 BO 1050 386 2 1057) ::
 (~~~631,eJ BO 66 630) ::
 (~~~637,qX 637 Bq 1060 398 2 1066) ::
 (~~~638,eJ Bq 67 637) ::
 (~~~658,qX 658 BD 1088 413 2 1098) ::
 (~~~659,eJ BD 70 658) ::
 (~~~663,gZ 663 BE 1101 428 1 1104) ::
 (~~~664,eJ BE 71 663) ::
 (~~~670,qX 670 "law" 1107 445 1 1120) ::
 (~~~671,eJ "law" 72 670)::[]
def jA:Program:=view PySem.Challenge.pw_curveyard_k38_things_that_share [72]
def loose:kh:=Cs::AV::At::BS::Cd::AT::Au::BT::Ba::Ce::Bu::BU::BV::AW::An::AR::Bg::Bv::Cn::B3::AX::B7::Bh::Bw::By::A3::Co::CG::AY::AS::AC::B8::Bz::Bi::Ay::Aw::Ad::AJ::Cu::Cp::Cv::Bo::Bp::A1::BK::BZ::BL::BM::BA::BB::BC::C5::C6::BN::C7::Bc::BO::Bq::"_law_lies"::"_law_far"::BD::BE::[]
def zGV:ko:=(zXc { strHash:=λ_=>0,shareClass:=λ_=>0,mergeTok:=id,idOf:=λ_=>0,idOfShared:=λ_ _=>0,followText:=λ_=>false,idOfImm:=λ_=>0 }).map λx=>x.1
theorem zSf (P:Params):zGV=(zXc P).map (λx=>x.1):=jf
abbrev hook:Hook:=kHook zXc zGV zSf
abbrev zHh (s:qw):Bool:=xlAt jA [] s&&recOk (RowW.records PySem.Challenge.rw_curveyard_k38_things_that_share.row.toRowW) s
def b (P:Params)(i:Nat):Obj:=((zXc P).getD i (0,default)).2
def cf (n q:Str)(s:r9):Obj:=⟨.none,none,.func { name:=n,qualname:=q,params:=qB s,body:=.stmts<|xI s,scope:=zV s,globals:=0,closure:=[],defaults:=.none,kwdefaults:=.none },#[]⟩
abbrev tn (r:List Obj):List Obj:=tu #[] 0::nf #[]::r
abbrev bb (P:Params)(i:Nat)(r:List Obj):List Obj:=b P i::b P (i+1)::r
abbrev su (a:Nat)(r:List Obj):List Obj:=tf "super" #[.ref a,.ref a,.ref a]::tf Cg #[.builtin "object.__init_subclass__",.ref a]::r
abbrev pr (v:jo)(d:Obj)(f:jo)(c:Obj)(k e:Nat)(m:Str)(t:Nat)(r:List Obj):List Obj:=tu v 0::tf Cg #[.builtin "type.__prepare__",.type "type"]::d::tu #[] 0::nf f::c::fm #[some<|.ref k,some<|.ref 3,some<|.ref e,none,some<|.str m t,none,some<|.ref 0]::tu #[] 0::r
abbrev ex (P:Params)(v:qv)(n:Str)(t l c e i:Nat)(r:List Obj):List Obj:=pr #[v] (di #[ke P Al t<|.str Ag 194,ke P AU (t+2)<|.str n<|t+1,ke P Aa (t+4)<|.int l<|t+3,ke P A4 (t+5)<|.ref<|e+5] 4) #[] (cb n c (c+1) (c+2) l (e+1) 181 (e+2) (c+3)<|c+4) (e+3) e Ag 194 <| b P i::b P (i+1)::su (e+7) r
def zIC (P:Params):List Obj :=
 boot_o_0 P ::
 boot_o_1 P ::
 boot_o_2 P ::
 di #[ke P "__name__" 165<|.str "curveyard.stretches" 728,ke P B2 166 .none,ke P "__package__" 167 .none,ke P "__loader__" 168<|.builtin Cc,ke P "__spec__" 169 .none,ke P Cr 170<|.ref 6,ke P "__builtins__" 171<|.ref 4,ke P "__file__" 173<|.str B6 172,ke P "__cached__" 174 .none,ke P Cs 193<|.ref 21,ke P AV 213<|.ref 31,ke P At 229<|.ref 44,ke P BS 245<|.ref 56,ke P Cd 261<|.ref 68,ke P AT 277<|.ref 80,ke P Au 293<|.ref 92,ke P BT 309<|.ref 104,ke P Ba 334<|.ref 123,ke P Ce 363<|.ref 142,ke P Bu 371<|.ref 149,ke P BU 377<|.ref 154,ke P BV 383<|.ref 159,ke P AW 418<|.ref 176,ke P An 453<|.ref 197,ke P AR 460<|.ref 208,ke P Bg 473<|.ref 215,ke P Bv 482<|.ref 222,ke P Cn 494<|.ref 229,ke P B3 500<|.ref 234,ke P AX 508<|.ref 239,ke P B7 519<|.ref 246,ke P Bh 528<|.ref 253,ke P Bw 540<|.ref 260,ke P By 546<|.ref 265,ke P A3 578<|.ref 280,ke P Co 588<|.ref 291,ke P CG 594<|.ref 296,ke P AY 600<|.ref 301,ke P AS 611<|.ref 308,ke P AC 617<|.ref 313,ke P B8 627<|.ref 320,ke P Bz 633<|.ref 325,ke P Bi 641<|.ref 332,ke P Ay 650<|.ref 339,ke P Aw 656<|.ref 344,ke P Ad 727<|.ref 396,ke P AJ 740<|.ref 407] 47 ::
 boot_o_4 P ::
 boot_o_5 P ::
 boot_o_6 P ::
 boot_o_7 P ::
 boot_o_8 P ::
 boot_o_9 P ::
 boot_o_10 P ::
 tu #[] 0 ::
 nf #[.int 1 0,.int 0 0,.ref 20,.int 5 0,.int 0 0,.ref 27,.int 7 0,.int 0 0,.ref 40,.int 9 0,.int 0 0,.ref 52,.int 11 0,.int 0 0,.ref 64,.int 13 0,.int 0 0,.ref 76,.int 15 0,.int 0 0,.ref 88,.int 17 0,.int 0 0,.ref 100,.int 19 0,.int 0 0,.ref 112,.int 23 0,.int 0 0,.ref 131,.int 30 0,.int 0 0,.ref 148,.int 32 0,.int 0 0,.ref 153,.int 34 0,.int 0 0,.ref 158,.int 37 0,.int 0 0,.ref 165,.int 43 0,.int 0 0,.ref 186,.int 50 0,.int 0 0,.ref 207,.int 52 0,.int 0 0,.ref 214,.int 57 0,.int 0 0,.ref 221,.int 60 0,.int 0 0,.ref 228,.int 65 0,.int 0 0,.ref 233,.int 69 0,.int 0 0,.ref 238,.int 71 0,.int 0 0,.ref 245,.int 74 0,.int 0 0,.ref 252,.int 77 0,.int 0 0,.ref 259,.int 83 0,.int 0 0,.ref 264,.int 88 0,.int 0 0,.ref 271,.int 96 0,.int 0 0,.ref 290,.int 99 0,.int 0 0,.ref 295,.int 102 0,.int 0 0,.ref 300,.int 107 0,.int 0 0,.ref 307,.int 113 0,.int 0 0,.ref 312,.int 119 0,.int 0 0,.ref 319,.int 126 0,.int 0 0,.ref 324,.int 135 0,.int 0 0,.ref 331,.int 142 0,.int 0 0,.ref 338,.int 149 0,.int 0 0,.ref 343,.int 158 0,.int 0 0,.ref 350,.int 183 0,.int 0 0,.ref 406] ::
 cb "<module>" 182 183 184 1 11 181 12 185 186 ::
 fm #[some<|.ref 13,some<|.ref 3,some<|.ref 3,none,some<|.str "__main__" 164,none,some<|.ref 0] ::
 tn (
 tu #[.str "k" 190] 0 ::
 tu #[] 0 ::
 cf Cs Cs (top 0) ::
 bb P 1 (
 pr #[.type AE] (di #[ke P Al 203<|.str Ag 194,ke P AU 205<|.str AV 204,ke P Aa 207<|.int 5 206,ke P A4 208<|.ref 29] 4) #[] (cb AV 198 199 200 5 25 181 26 201 202) 27 24 Ag 194 (
 bb P 3 (
 b P 5 ::
 su 31 (
 ex P (.ref 31) At 221 7 216 37 6 (
 ex P (.ref 31) BS 237 9 232 49 8 (
 ex P (.ref 31) Cd 253 11 248 61 10 (
 ex P (.ref 31) AT 269 13 264 73 12 (
 ex P (.ref 31) Au 285 15 280 85 14 (
 ex P (.ref 31) BT 301 17 296 97 16 (
 pr #[.ref 31] (di #[ke P Al 317<|.str Ag 194,ke P AU 319<|.str Ba 318,ke P Aa 321<|.int 19 320,ke P A7 329<|.ref 120,ke P A4 331<|.ref 121] 5) #[.int 21 0,.int 4 0,.ref 119] (cb Ba 312 313 314 19 110 181 111 315 316) 112 109 Ag 194 (
 nf #[] ::
 tu #[.str A0 325,.str "row" 326] 0 ::
 tu #[] 0 ::
 cf A7 C8 (yT (top 9) 0) ::
 bb P 18 (
 tu #[.str "row" 330] 0 ::
 bb P 20 (
 su 123 (
 pr #[.ref 31] (di #[ke P Al 342<|.str Ag 194,ke P AU 344<|.str Ce 343,ke P Aa 346<|.int 23 345,ke P A7 356<|.ref 139,ke P A4 360<|.ref 140] 5) #[.int 25 0,.int 4 0,.ref 138] (cb Ce 337 338 339 23 129 181 130 340 341) 131 128 Ag 194 (
 nf #[] ::
 tu #[.str A0 350,.str Ao 351,.str "second" 352,.str Af 353] 0 ::
 tu #[] 0 ::
 cf A7 Cw (yT (top 10) 0) ::
 bb P 22 (
 tu #[.str Ao 357,.str Af 358,.str "second" 359] 0 ::
 bb P 24 (
 su 142 (
 tn (
 cf Bu Bu (top 12) ::
 bb P 26 (
 tn (
 cf BU BU (top 13) ::
 bb P 28 (
 tn (
 cf BV BV (top 14) ::
 bb P 30 (
 pr #[] (di #[ke P Al 393<|.str AI 384,ke P AU 395<|.str AW 394,ke P Aa 397<|.int 37 396,ke P A7 407<|.ref 173,ke P A4 411<|.ref 174] 5) #[.int 39 0,.int 4 0,.ref 172] (cb AW 388 389 390 37 163 181 164 391 392) 165 162 AI 384 (
 nf #[] ::
 tu #[.str A0 401,.str Aj 402,.str AK 403,.str AL 404] 0 ::
 tu #[] 0 ::
 cf A7 Br (yT (top 16) 0) ::
 bb P 32 (
 tu #[.str AL 408,.str Aj 409,.str AK 410] 0 ::
 bb P 34 (
 bb P 36 (
 su 176 (
 pr #[] (di #[ke P Al 426<|.str AI 384,ke P AU 428<|.str An 427,ke P Aa 430<|.int 43 429,ke P A7 441<|.ref 194,ke P A4 446<|.ref 195] 5) #[.int 45 0,.int 4 0,.ref 193] (cb An 421 422 423 43 184 181 185 424 425) 186 183 AI 384 (
 nf #[] ::
 tu #[.str A0 434,.str A6 435,.str Ab 436,.str B4 437,.str AD 438] 0 ::
 tu #[] 0 ::
 cf A7 Bj (yT (top 17) 0) ::
 bb P 38 (
 tu #[.str Ab 442,.str B4 443,.str A6 444,.str AD 445] 0 ::
 bb P 40 (
 bb P 42 (
 su 197 (
 tn (
 tu #[.str Ab 457] 0 ::
 tu #[] 0 ::
 cf AR AR (top 18) ::
 bb P 44 (
 tn (
 tu #[.str Am 464,.str BH 465,.str "digit" 466,.str AK 467,.str AL 468,.str "part" 469,.str BW 470] 0 ::
 tu #[] 0 ::
 cf Bg Bg (top 19) ::
 bb P 46 (
 tn (
 tu #[.str Am 477,.str AL 478,.str "number" 479] 0 ::
 tu #[] 0 ::
 cf Bv Bv (top 20) ::
 bb P 48 (
 tn (
 tu #[.str Ab 488,.str Af 489,.str "places" 490,.str "halving" 491] 0 ::
 tu #[] 0 ::
 cf Cn Cn (top 22) ::
 bb P 50 (
 tn (
 cf B3 B3 (top 23) ::
 bb P 52 (
 tn (
 cf AX AX (top 25) ::
 bb P 54 (
 tn (
 tu #[.str A9 512,.str Ab 513,.str Af 514,.str Cl 515,.str BP 516] 0 ::
 tu #[] 0 ::
 cf B7 B7 (top 26) ::
 bb P 56 (
 tn (
 tu #[.str A9 523,.str Ab 524,.str Af 525] 0 ::
 tu #[] 0 ::
 cf Bh Bh (top 27) ::
 bb P 58 (
 tn (
 tu #[.str A9 532,.str Cl 533,.str BP 534,.str "places" 535,.str Ch 536,.str AG 537] 0 ::
 tu #[] 0 ::
 cf Bw Bw (top 28) ::
 bb P 60 (
 tn (
 cf By By (top 29) ::
 bb P 62 (
 pr #[] (di #[ke P Al 556<|.str BI 547,ke P AU 558<|.str A3 557,ke P Aa 560<|.int 88 559,ke P A7 566<|.ref 277,ke P A4 571<|.ref 278] 5) #[.int 90 0,.int 4 0,.ref 276] (cb A3 551 552 553 88 269 181 270 554 555) 271 268 BI 547 (
 nf #[] ::
 cf A7 Bs (yT (top 31) 0) ::
 bb P 64 (
 tu #[.str As 567,.str AH 568,.str AG 569,.str A5 570] 0 ::
 bb P 66 (
 bb P 68 (
 su 280 (
 tn (
 tu #[.str A8 582,.str Ao 583,.str AO 584,.str A6 585] 0 ::
 tu #[] 0 ::
 cf Co Co (top 32) ::
 bb P 70 (
 tn (
 cf CG CG (top 33) ::
 bb P 72 (
 tn (
 cf AY AY (top 34) ::
 bb P 74 (
 tn (
 tu #[.str Ah 604,.str A8 605,.str Ae 606,.str "at" 607,.str BW 608] 0 ::
 tu #[] 0 ::
 cf AS AS (top 35) ::
 bb P 76 (
 tn (
 cf AC AC (top 36) ::
 bb P 78 (
 tn (
 tu #[.str As 621,.str A5 622,.str Ae 623,.str CA 624] 0 ::
 tu #[] 0 ::
 cf B8 B8 (top 37) ::
 bb P 80 (
 tn (
 cf Bz Bz (top 38) ::
 bb P 82 (
 tn (
 tu #[.str Ci 637,.str AM 638] 0 ::
 tu #[] 0 ::
 cf Bi Bi (top 39) ::
 bb P 84 (
 tn (
 tu #[.str Ah 645,.str "entries" 646,.str BW 647] 0 ::
 tu #[] 0 ::
 cf Ay Ay (top 40) ::
 bb P 86 (
 tn (
 cf Aw Aw (top 41) ::
 bb P 88 (
 pr #[] (di #[ke P Al 666<|.str BJ 657,ke P AU 668<|.str Ad 667,ke P Aa 670<|.int 158 669,ke P A7 678<|.ref 358,ke P Ap 686<|.ref 365,ke P Ax 694<|.ref 372,ke P BF 701<|.ref 379,ke P B9 710<|.ref 386,ke P "shape" 717<|.ref 393,ke P A4 720<|.ref 394] 10) #[.int 160 0,.int 4 0,.ref 357,.int 164 0,.int 4 0,.ref 364,.int 169 0,.int 4 0,.ref 371,.int 174 0,.int 4 0,.ref 378,.int 177 0,.int 4 0,.ref 385,.int 180 0,.int 4 0,.ref 392] (cb Ad 661 662 663 158 348 181 349 664 665) 350 347 BJ 657 (
 nf #[] ::
 tu #[.str A0 674,.str Ae 675] 0 ::
 tu #[] 0 ::
 cf A7 Bl (yT (top 43) 0) ::
 bb P 90 (
 tn (
 tu #[.str A0 682,.str A8 683] 0 ::
 tu #[] 0 ::
 cf Ap Ck (yT (top 43) 1) ::
 bb P 92 (
 tn (
 tu #[.str A0 690,.str A8 691] 0 ::
 tu #[] 0 ::
 cf Ax C9 (yT (top 43) 2) ::
 bb P 94 (
 tn (
 tu #[.str A0 698] 0 ::
 tu #[] 0 ::
 cf BF BG (yT (top 43) 3) ::
 bb P 96 (
 tn (
 tu #[.str A0 705,.str Ao 706,.str AO 707] 0 ::
 tu #[] 0 ::
 cf B9 Bm (yT (top 43) 4) ::
 bb P 98 (
 tn (
 tu #[.str A0 714] 0 ::
 tu #[] 0 ::
 cf "shape" CN (yT (top 43) 5) ::
 bb P 100 (
 tu #[.str AM 718,.str Ae 719] 0 ::
 bb P 102 (
 bb P 104 (
 su 396 (
 tn (
 tu #[.str Am 733,.str Af 734,.str A9 735,.str "edge" 736,.str CJ 737] 0 ::
 tu #[] 0 ::
 cf AJ AJ (top 45) ::
 bb P 106 []))))))))))))))))))))))))))))))))))))))))))))))))))))))))))))))))))))))))))))))))))))))))))))))))
def zVH:Env:={ scope:=r0.main.scope,locals:=mainNs,globals:=mainNs,cells:=[],code:=.ref 13,frame:=some 14 }
def zFS:qg:=(behindTheImports r0).take 46
def zHw:qg:=(behindTheImports r0).drop 46
def zFs (w:qz)(os:OsState):qw:=⟨⟨⟨zIC w.params⟩,{}⟩,#[],⟨0,0,0,0⟩,741,os⟩
def zLP:Pos:=⟨0,0,0,0⟩
def zHb:Pos:=⟨0,0,0,0⟩
def zJo:Pos:=⟨0,0,0,0⟩
def zKg:Pos:=⟨183,0,186,75⟩
abbrev zTu:Code:=.body (zFS++zHw) zVH
abbrev zEy (w:qz)(os:OsState):=topGo treeTable r0 w 11 (some<|.ref 6) 12 ⟨boot_heap w.params,Array.mk [],boot_drawn,boot_toks,os⟩<|topStub r0
abbrev zGo (w:qz)(os:OsState):=(zEy w os).bind λx=>segRun treeTable r0 w 11 (some<|.ref 6) 1 1 x.1<|blockOf (zFS++zHw) zVH zTu zHb [topFrame zLP]
theorem zDT (w:qz)(os:OsState):(zEy w os).map (λx=>x.2)=some ⟨denote treeTable zTu,zTu,zHb,[topFrame zLP]⟩:=jf
theorem zEp (w:qz)(os:OsState):(zGo w os).map (λy=>(y.1,y.2.2))=some (.next,zTu,zJo):=jf
theorem zEd (w:qz)(os:OsState):((zGo w os).bind λy=>segRun treeTable r0 w 11 (some<|.ref 6) 1 3865 y.2.1<|piecesOf zFS zVH zTu zJo [topFrame zLP])=some (.next,zFs w os,zTu,zKg):=jf
abbrev zF9 (w:qz)(os:OsState):Option qw:=(topRun treeTable r0 w 11 (some<|.ref 6) 1443 (zFs w os)<|restOf zHw zVH zTu zKg [topFrame zLP]).bind λs=>match staticsOk (importedModules r0.main.body) (boot_heap w.params) s.heap&&namesBound r0 s.heap&&gensDone s&&laidKept (boot_heap w.params) s.heap with
 | true=>some s
 | false=>none
theorem zNu (w:qz)(os:OsState):(zF9 w os).map (λs=>openSeen jA loose (importedModules r0.main.body) zHh true s)=some (openGood jA loose):=jf
theorem zN3 (w:qz)(os:OsState):(zF9 w os).map hook.obs=some (hook.val w):=jf
theorem zJ2 (w:qz):((boot_heap w.params).isNs mainGlobals&&(Array.mk []:Array GenState).size==0,(boot_heap w.params).objs.size,(boot_heap w.params).nsMap mainGlobals Cr)=(true,11,some<|.ref 6):=jf
theorem zMV:opening r0=plainProg r0.main.scope.names:=jf
theorem zNm (s:qw):fenceModules? r0 s=some s:=jf
def zIG (w:qz)(os:OsState)(r:qw)(k:topRun treeTable r0 w 11 (some<|.ref 6) 1443 (zFs w os) (restOf zHw zVH zTu zKg [topFrame zLP])=some r):topRun treeTable r0 w 11 (some<|.ref 6) (12+(1+(3865+1443))) ⟨boot_heap w.params,Array.mk [],boot_drawn,boot_toks,os⟩ (topStub r0)=some r:=by
 have ha:=zDT w os;have hb:=zEp w os;have hc:=zEd w os;obtain⟨⟨sa,ta⟩,ga,ea⟩:=k9 ha;have ea':ta=_:=ea;subst ea';unfold zGo at hb hc;rw[ga] at hb hc;obtain⟨⟨fb,sb,cb,pb⟩,gb,eb⟩:=k9 hb;have e1:fb=Flow.next:=Wi (λy:Flow×Code×Pos=>y.1) eb
 have e2:cb=zTu:=Wi (λy:Flow×Code×Pos=>y.2.1) eb;have e3:pb=zJo:=Wi (λy:Flow×Code×Pos=>y.2.2) eb;subst e1 e2 e3;have gb':=gb;rw[Qr] at gb';rw[gb] at hc;rw[Qr] at hc;exact go_top ga<|piece_block gb'<|piece_app hc k
def zQZ {β:Type}{f:qw->β}{v:qz->β}(h:∀w os,(zF9 w os).map f=some (v w))(w:qz):(openEnds treeTable r0 w 10588).map f=some (v w):=by obtain⟨⟨hp,gs,d,k,os⟩,e,e'⟩:=k9<|boot_open zMV (N:=10588) jb zNm w;have e1:hp=_:=Wi (λy:qx×Array GenState×Drawn×Nat=>y.1) e';have e2:gs=_:=Wi (λy:qx×Array GenState×Drawn×Nat=>y.2.1) e';have e3:d=_:=Wi (λy:qx×Array GenState×Drawn×Nat=>y.2.2.1) e';have e4:k=_:=Wi (λy:qx×Array GenState×Drawn×Nat=>y.2.2.2) e';subst e1 e2 e3 e4;have z:=zJ2 w;have z1:=Wi (λy:Bool×Nat×kn=>y.1) z;have z2:=Wi (λy:Bool×Nat×kn=>y.2.1) z;have z3:=Wi (λy:Bool×Nat×kn=>y.2.2) z;dsimp only at z1 z2 z3;have q:=h w os;obtain⟨s1,hs,hf⟩:=k9 q;obtain⟨r,hr,hm⟩:=k8 hs;have m:=topRun_mono (10588 - (12+(1+(3865+1443)))) _ _ _ _<|zIG w os r hr;rw[show 12+(1+(3865+1443))+(10588 - (12+(1+(3865+1443))))=10588 from jc] at m;unfold openEnds;rw[e,Qr];unfold topFrom;dsimp only;rw[z1,z2,z3,m];show(match staticsOk _ _ r.heap&&_&&_&&_ with | true=>some r | false=>none:Option qw).map f=_;rw[<-hf];exact Wi (Option.map f) hm
def zHs {α β γ:Type}{x:Option α}{f:α->β}{g:α->γ}{a:β}{b:γ}(h1:x.map f=some a)(h2:x.map g=some b):x.map (λs=>(f s,g s))=some (a,b):=by
 cases x with
 | none=>cases h1
 | some s=>cases h1;cases h2;rfl
def zHB:LeftO r0 jA loose zHh hook.obs hook.val 10588:=λw=>zHs (zQZ (v:=λ_=>openGood jA loose) zNu w)<|zQZ zN3 w
theorem zMt:PySem.Challenge.rw_curveyard_k38_things_that_share.row.wellSaid=true:=jf
def zJc:PySem.W.OpenLaw.wellSaid PySem.Challenge.rw_curveyard_k38_things_that_share=true:=by unfold PySem.W.OpenLaw.wellSaid;rw[zMt];kernel_rfl
end My
variable{α κ:Type}{a it C dx fad Y:qu}{u cd vl vu:qv}{P prog q:Program}{w:qz}{h base h':qx}{ob:Obj}{c e tg l iter value elt:r8}{x m qual name z nm sf:Str}{g':Array GenState}{t' i j n tk ep e1 L dm:Nat}{d':Drawn}{ch fp cs:ko}{N ns ps ss:kh}{M:Model}{A:qy}{E:jl}{Q:Unit->qw->Prop}{s' s s2 s₀:qw}{pos pos' p p1 p2 apos cpos:Pos}{Z:jm}{op:CmpOp}{K:jk}{es ifs elts:qt}{g:Int->Int->Int}{body sa sb suite sts:qg}{lo hi:ku}{pl:Sem Bool}{R:Result->qw->Prop}{f:qv->qv->Sem qv}{j6 us ws:jn}{mA mg:Str->kn}{kw:List<|Str×qv}{env:Env}{outer:qb}{fd:FuncData}{sc scope:Scope}{od:kr}{osl sl:Array kn}{items:jo}{T:String}{XP:(Str->kn)->qx->Prop}{YP:qz->qx->Prop}{d:DefRec}{st b₀:r9}{js:kz}{S:qu->Prop}{low:ki}
namespace L2
abbrev Key:=Sum Int Str
abbrev qj:=List Key
def zWs:Key->qv->Bool
 | .inl k,v=>Value.isInt k v
 | .inr x,v=>Value.isStrOf x v
def zDA (w:qz):Key->Int
 | .inl k=>hashInt k
 | .inr x=>hashStr w x
theorem wA:∀ {k:Key} {v:qv},zWs k v=true->(∃i t,k=Sum.inl i/\v=Value.int i t)\/(∃x t,k=Sum.inr x/\v=Value.str x t)
 | .inl i,v,h=>by obtain⟨t,e⟩:=Value.isInt_shape h;exact .inl ⟨i,t,J,e⟩
 | .inr x,v,h=>by obtain⟨t,e⟩:=Value.isStrOf_shape h;exact .inr ⟨x,t,J,e⟩
def zM6 (i:Int)(t:Tok):zWs (.inl i) (.int i t)=true:=by simp[zWs,Value.isInt]
def zNp (x:Str)(t:Tok):zWs (.inr x) (.str x t)=true:=by simp[zWs,Value.isStrOf]
def zG3 (a b:Int):decide ((Sum.inl a:Key)=Sum.inl b)=(a==b):=by grind
def zFr (a b:Str):decide ((Sum.inr a:Key)=Sum.inr b)=decide (a=b):=je
def zG6 (a:Int)(b:Str):decide ((Sum.inl a:Key)=Sum.inr b)=false:=rfl
def zGa (a:Str)(b:Int):decide ((Sum.inr a:Key)=Sum.inl b)=false:=rfl
def sL (prog:Program)(w:qz):PySem.KeyKind prog w Key where
 is:=zWs
 hash:=zDA w
 inj:=λv a b ha hb=>by
  rcases wA ha with⟨i,t,rfl,rfl⟩ | ⟨x,t,rfl,rfl⟩
  .rcases wA hb with⟨j,u,rfl,e⟩ | ⟨y,u,rfl,e⟩
   .injection e with e1 _;rw[e1]
   .exact nomatch e
  .rcases wA hb with⟨j,u,rfl,e⟩ | ⟨y,u,rfl,e⟩
   .exact nomatch e
   .injection e with e1 _;rw[e1]
 byValue:=λk v h=>by rcases wA h with⟨i,t,rfl,rfl⟩ | ⟨x,t,rfl,rfl⟩<;>rfl
 pyHash:=λhv h=>by
  rcases wA hv with⟨i,t,rfl,rfl⟩ | ⟨x,t,rfl,rfl⟩
  .exact wpAny_pyHash_int h
  .exact wpAny_pyHash_str h
 eqBool:=λhu hv h=>by
  rcases wA hu with⟨i,t,rfl,rfl⟩ | ⟨x,t,rfl,rfl⟩
  .rcases wA hv with⟨j,u,rfl,rfl⟩ | ⟨y,u,rfl,rfl⟩
   .rw[zG3] at h;exact Pw h
   .rw[zG6] at h;exact SeqAt.EqAt.int_str i t y u _ _ _ _ h
  .rcases wA hv with⟨j,u,rfl,rfl⟩ | ⟨y,u,rfl,rfl⟩
   .rw[zGa] at h;exact SeqAt.EqAt.str_int x t j u _ _ _ _ h
   .rw[zFr] at h;exact Yl h
 «strs» := λk x t v h=>by
  rcases wA h with⟨i,u,rfl,e⟩ | ⟨y,u,rfl,e⟩
  .exact nomatch e
  .injection e with e1 _
   subst e1;cases v<;>rfl
def zQk (prog:Program)(w:qz)(k:Key)(v:qv):(sL prog w).is k v=zWs k v:=rfl
def zRe (prog:Program)(w:qz)(i:Int)(t:Tok):(sL prog w).is (.inl i) (.int i t)=true:=zM6 i t
def zSr (prog:Program)(w:qz)(x:Str)(t:Tok):(sL prog w).is (.inr x) (.str x t)=true:=zNp x t
inductive V where
 | non | bl (b:Bool) | int (i:Int) | str (x:Str) | byt (b:Array UInt8) | flt (b:UInt64) | ref (a:qu) | ty (n:String)
 deriving DecidableEq
abbrev qr:=List<|Str×V
abbrev ql:=Option V
abbrev kl:=List V
def RelV:V->qv->Prop
 | .non,u=>u=Value.none
 | .bl b,u=>u=Value.bool b
 | .int i,u=>∃t,u=Value.int i t
 | .str x,u=>∃t,u=Value.str x t
 | .byt b,u=>∃t,u=Value.bytes b t
 | .flt b,u=>∃t,u=Value.float b t
 | .ref a,u=>u=Value.ref a
 | .ty n,u=>u=Value.type n
abbrev Vals:kl->qh->Prop:=Paired RelV
def Vals.length {xs:kl}{us:jn}(r:Vals xs us):xs.length=us.length:=Td r
theorem Vals.get:∀ {xs:kl} {us:jn} {i:Nat} {x:V},Vals xs us->xs[i]?=some x->∃u,us[i]?=some u/\RelV x u
 | _,_,_,_,.nil,e=>by simp at e
 | _,_,0,_,.cons r _,e=>by simp at e;subst e;exact⟨_,J,r⟩
 | _,_,i+1,x,.cons _ t,e=>by obtain⟨u,h1,h2⟩:=Vals.get t (!6);exact⟨u,by simpa using h1,h2⟩
theorem Vals.append:∀ {xs ys:kl} {us ws:jn},Vals xs us->Vals ys ws->Vals (xs++ys) (us++ws)
 | _,_,_,_,.nil,s=>s
 | _,_,_,_,.cons r t,s=>.cons r<|Vals.append t s
theorem Vals.take:∀ {xs:kl} {us:jn} (n:Nat),Vals xs us->Vals (xs.take n) (us.take n)
 | _,_,0,_=>.nil
 | _,_,_+1,.nil=>.nil
 | _,_,n+1,.cons r t=>.cons r<|Vals.take n t
theorem Vals.drop:∀ {xs:kl} {us:jn} (n:Nat),Vals xs us->Vals (xs.drop n) (us.drop n)
 | _,_,0,r=>r
 | _,_,_+1,.nil=>.nil
 | _,_,n+1,.cons _ t=>Vals.drop n t
def RelO:ql->kn->Prop
 | some v,some u=>RelV v u
 | none,none=>True
 | _,_=>False
def KV:List (κ×V)->List (κ×qv)->Prop:=Paired λ(p:κ×V) (q:κ×qv)=>p.1=q.1/\RelV p.2 q.2
def kV:Key->V
 | .inl i=>.int i
 | .inr x=>.str x
inductive HO where
  | lst (xs:kl)
  | tup (xs:kl)
  | dK (j8:List (Key×V)) | dT (j8:List (qj×V))
  | set (S:Int->Bool) (n:Nat)
  | ins (C dx:qu) (fs:qr)
  | own (x:qu)
  | xd (fs:qr)
  | met (f x:qu)
  | rng (lo hi:Int)
  | frz (o:Obj) (u:HO)
  | tbl (ps:jo)
  | ext (φ:qx->Prop)
abbrev Hp:=qu->Option HO
end L2
variable{H H' H2 G G' G0 H0 H₀:Hp}{o o':HO}{v y vv:V}{vs xs ys:kl}{j8:List<|qj×V}{ks:qj}
namespace L2
def upd (H:Hp)(a:qu)(o:HO):Hp:=λb=>if b=a then some o else H b
def zH:upd H a o a=some o:=by unfold upd;rw[Qh rfl]
def zD {b:qu}(h:b≠a):upd H a o b=H b:=by unfold upd;rw[Qv h]
def zNZ {u:HO}:upd (upd H a o) a u=upd H a u:=by funext b;unfold upd;split<;>rfl
def zE0 {b:qu}{u:HO}(h:H a=some o)(h':H b=some u)(d:o≠u):a≠b:=by grind
def yR {b:qu}(h:H a=some o)(h':H b=none):a≠b:=by grind
section
variable (P:Program) (w:qz)
def ObjOk (H:Hp)(h:qx)(a:qu):HO->Prop
 | .lst xs=>xs.length<=sizeLine/\∃(j6:jn) (n:Nat),Vals xs j6/\h.get? a=some { cls:=.type "list",data:=.seq j6.toArray n }
 | .tup xs=>xs.length<=sizeLine/\∃j6:qh,Vals xs j6/\IsTup h a j6.toArray
 | .dK j8=>j8.length<=sizeLine/\(a==sysModules)=false/\∃vs,KV j8 vs/\h.DictOf (sL P w) a vs
 | .dT j8=>j8.length<=sizeLine/\(a==sysModules)=false/\∃xs:List<|qj×qu×qv,
   Paired (λ(p:qj×V) (q:qj×qu×qv)=>p.1=q.1/\H q.2.1=some (.tup<|p.1.map kV)/\RelV p.2 q.2.2) j8 xs /\
   ∃o es ep,h.get? a=some o/\o.ExactDict/\o.data = .dict es ep/\es.toList=xs.map (entryOfKey<|tupleKind<|sL P w)/\(xs.map (·.1)).Nodup
 | .set S n=>h.SetOf (intKind P w) a S n
 | .ins C dx fs=>H dx=some (.own a)/\fs.length<=1000/\dx≠a/\h.get? a=some (instObj C dx) /\
   ∃mA,h.Ns1 dx mA/\(∀f,RelO (fs.lookup f)<|mA f)/\PySem.Within mA (fs.map (·.1))
 | .own _=>∃o,h.get? a=some o
 | .xd fs=>∃mA,h.Ns1 a mA/\∀f,RelO (fs.lookup f)<|mA f
 | .rng lo hi=>∃t u v,h.get? a=some { cls:=.type "range",data:=.fields #[.int lo t,.int hi u,.int 1 v] }
 | .frz o u=>h.get? a=some o/\ObjOk H h a u
 | .tbl ps=>h.get? a=some { cls:=.none,data:=.fields ps }
 | .met f x=>h.get? a=some (methodObj (.ref f)<|.ref x)
 | .ext φ=>φ h/\(∃o,h.get? a=some o)/\∀h1 h2:qx,φ h1->(∀o,h1.get? a=some o->h2.get? a=some o)->φ h2
def HOk (H:Hp)(h:qx):Prop:=∀a o,H a=some o->ObjOk P w H h a o
end
def ObjOk.lt (x:ObjOk P w H h a o):a < h.objs.size:=by
 cases o with
 | lst xs=>obtain⟨_,_,_,_,e⟩:=x;exact Qa e
 | tup xs=>obtain⟨_,_,_,p⟩:=x;exact p.lt
 | dK j8=>obtain⟨_,_,_,_,o,_,_,e,_⟩:=x;exact Qa e
 | dT j8=>obtain⟨_,_,_,_,o,_,_,e,_⟩:=x;exact Qa e
 | set S n=>obtain⟨o,_,_,_,e,_⟩:=x;exact Qa e
 | ins C dx fs=>obtain⟨_,_,_,e,_⟩:=x;exact Qa e
 | own y=>obtain⟨_,e⟩:=x;exact Qa e
 | xd fs=>obtain⟨_,⟨_,_,_,e,_⟩,_⟩:=x;exact Qa e
 | rng lo hi=>obtain⟨_,_,_,e⟩:=x;exact Qa e
 | frz ob u=>obtain⟨e,_⟩:=x;exact Qa e
 | tbl ps=>exact Qa<|x
 | met f y=>exact Qa<|x
 | ext φ=>obtain⟨_,⟨_,e⟩,_⟩:=x;exact Qa e
theorem Paired.mapP {α β:Type}{F G:α->β->Prop}:∀ {l₁:List α} {l₂:List β},Paired F l₁ l₂->(∀a b,F a b->G a b)->Paired G l₁ l₂
 | _,_,.nil,_=>.nil
 | _,_,.cons r t,f=>.cons (f _ _ r)<|Paired.mapP t f
def ObjOk.stay (x:ObjOk P w H h a o)(k:∀b u,(b=a\/H b=some (.own a))->h.get? b=some u->h'.get? b=some u)(ho:∀b,H b=some (.own a)->H' b=some (.own a)) (ht:∀b xs,H b=some (.tup xs)->H' b=some (.tup xs)):ObjOk P w H' h' a o:=by
 induction o with
 | lst xs=>obtain⟨z,j6,n,r,e⟩:=x;exact⟨z,j6,n,r,k _ _ (.inl J) e⟩
 | tup xs=>obtain⟨z,j6,r,ob,e,c⟩:=x;exact⟨z,j6,r,ob,k _ _ (.inl J) e,c⟩
 | dK j8=>obtain⟨z,y,vs,r,ob,es,ep,e,c⟩:=x;exact⟨z,y,vs,r,ob,es,ep,k _ _ (.inl J) e,c⟩
 | dT j8 =>obtain⟨z,y,xs,r,ob,es,ep,e,c⟩:=x;exact⟨z,y,xs,Paired.mapP r λp q z=>⟨z.1,ht _ _ z.2.1,z.2.2⟩,ob,es,ep,k _ _ (.inl J) e,c⟩
 | set S n=>obtain⟨ob,es,ep,t,e,c⟩:=x;exact⟨ob,es,ep,t,k _ _ (.inl J) e,c⟩
 | ins C dx fs =>obtain⟨d,z,ne,e,mA,⟨od,es,ep,e2,c⟩,r⟩:=x;exact⟨ho _ d,z,ne,k _ _ (.inl J) e,mA,⟨od,es,ep,k _ _ (.inr d) e2,c⟩,r⟩
 | own y=>obtain⟨ob,e⟩:=x;exact⟨ob,k _ _ (.inl J) e⟩
 | xd fs=>obtain⟨mA,⟨od,es,ep,e,c⟩,r⟩:=x;exact⟨mA,⟨od,es,ep,k _ _ (.inl J) e,c⟩,r⟩
 | rng lo hi=>obtain⟨t,u,v,e⟩:=x;exact⟨t,u,v,k _ _ (.inl J) e⟩
 | frz ob u ih=>obtain⟨e,q⟩:=x;exact⟨k _ _ (.inl J) e,ih q⟩
 | tbl ps =>have e:=x;exact k a _ (.inl J) e
 | met f y =>have e:=x;exact k a _ (.inl J) e
 | ext φ=>obtain⟨p,⟨o,e⟩,st⟩:=x;exact⟨st _ _ p λo q=>k _ _ (.inl J) q,⟨o,k _ _ (.inl J) e⟩,st⟩
def HOk.lt (x:HOk P w H h)(e:H a=some o):a < h.objs.size:=(x a o e).lt
def HOk.fresh (x:HOk P w H h)(e:h.objs.size<=a):H a=none:=by
 cases q:H a with
 | none=>rfl
 | some u=>exact absurd (Wr (x.lt q) e)<|Wx _
def HOk.kept (x:HOk P w H h)(k:∀b u,h.get? b=some u->h'.get? b=some u):HOk P w H h':=λa o e =>(x a o e).stay (λb u _ q=>k b u q) (λ_ q=>q) λ_ _ q=>q
theorem HOk.laid (x:HOk P w H h)(k:∀b u,h.get? b=some u->h'.get? b=some u)(hp:h.objs.size<=a)(new:ObjOk P w (upd H a o) h' a o):HOk P w (upd H a o) h':=λb u e=>by
 have hn:=x.fresh hp
 by_cases hb:b=a
 .subst hb;rw[zH] at e;cases e;exact new
 .rw[zD hb] at e;exact(x b u e).stay (λc v _ q=>k c v q) (λc q=>by rw[zD<|yR q hn];exact q) λc xs q=>by rw[zD<|yR q hn];exact q
def Rd (H:Hp)(a:qu)(u:HO):Prop:=H a=some u\/∃o,H a=some (.frz o u)
def Rd.of {u:HO}(h:H a=some u):Rd H a u:=.inl h
def Rd.ok {u:HO}(r:Rd H a u)(x:HOk P w H h):ObjOk P w H h a u:=by
 rcases r with r | ⟨o,r⟩
 .exact x a u r
 .obtain⟨_,q⟩:=x a _ r;exact q
def Mut:Option HO->Prop
 | some (.lst _)=>True
 | some (.dK _)=>True
 | some (.dT _)=>True
 | some (.set _ _)=>True
 | some (.ins _ _ _)=>True
 | some (.ext _)=>True
 | _=>False
section
variable{x e:qu}
theorem HOk.write (ok:HOk P w H h)(mu:Mut<|H x)(he:e=x\/H e=some (.own x))(k:∀b u,b≠e->h.get? b=some u->h'.get? b=some u)(heo:∃u,h'.get? e=some u)(new:ObjOk P w (upd H x o') h' x o'):HOk P w (upd H x o') h':=λb u q=>by
 have nown:∀c y,H c=some (.own y)->c≠x:=λc y r z=>by subst z;rw[r] at mu;exact mu
 have ntup:∀c xs,H c=some (.tup xs)->c≠x:=λc xs r z=>by subst z;rw[r] at mu;exact mu
 by_cases hb:b=x
 .subst hb;rw[zH] at q;cases q;exact new
 .rw[zD hb] at q
  by_cases hbe:b=e
  .have q':H b=some (.own x):=by
    grind
   rw[q] at q';cases q';obtain⟨v,hv⟩:=heo;exact⟨v,by rw[hbe];exact hv⟩
  .refine(ok b u q).stay (λc v hc r=>k c v ?_ r) (λc r=>by rw[zD<|nown c b r];exact r) λc xs r=>by rw[zD<|ntup c xs r];exact r
   grind
end
structure Un (fs ex:ko)(H H':Hp)(h h':qx):Prop where
 keep:∀b o,h.get? b=some o->H b=none->b∉fs->b∉ex->h'.get? b=some o
 slot:∀b o,h.get? b=some o->H b=none->b∈fs->b∉ex->∃sl,h'.get? b=some { o with slots:=sl }
 free:∀b o,h.get? b=some o->H b=none->b∉ex->H' b=none
 there:∀b o,h.get? b=some o->b∉ex->∃o',h'.get? b=some o'
 tups:∀b xs,H b=some (.tup xs)->H' b=some (.tup xs)
 frzs:∀b o u,H b=some (.frz o u)->H' b=some (.frz o u)
 tbls:∀b ps,H b=some (.tbl ps)->∃more,H' b=some (.tbl<|ps++more)
section
variable{fs ex:ko}{H1:Hp}{h1 h2:qx}{x e:qu}
def Un.any (u:Un fs ex H H1 h h1){b:qu}(q:h.get? b=some ob)(n:H b=none)(hx:b∉ex):∃sl,h1.get? b=some { ob with slots:=sl }:=by
 by_cases hb:b∈fs
 .exact u.slot b ob q n hb hx
 .exact⟨ob.slots,u.keep b ob q n hb hx⟩
theorem Un.trans (a:Un fs ex H H1 h h1)(b:Un fs ex H1 H2 h1 h2):Un fs ex H H2 h h2 where
 keep:=λc ob q n hc hx=>b.keep c ob (a.keep c ob q n hc hx) (a.free c ob q n hx) hc hx
 slot:=λc ob q n hc hx=>by obtain⟨sl,e1⟩:=a.slot c ob q n hc hx;obtain⟨sl',e2⟩:=b.slot c _ e1 (a.free c ob q n hx) hc hx;exact⟨sl',e2⟩
 free:=λc ob q n hx=>by obtain⟨o',e1⟩:=a.there c ob q hx;exact b.free c o' e1 (a.free c ob q n hx) hx
 there:=λc ob q hx=>by obtain⟨o',e1⟩:=a.there c ob q hx;exact b.there c o' e1 hx
 tups:=λc xs q=>b.tups c xs<|a.tups c xs q
 frzs:=λc ob xs q=>b.frzs c ob xs<|a.frzs c ob xs q
 tbls:=λc ps q=>by obtain⟨m1,e1⟩:=a.tbls c ps q;obtain⟨m2,e2⟩:=b.tbls c _ e1;exact⟨m1++m2,by rw[e2,Array.append_assoc]⟩
def Un.kept (k:∀b u,h.get? b=some u->h'.get? b=some u):Un fs ex H H h h' :=
 ⟨λb ob q _ _ _=>k b ob q,λb ob q _ _ _=>⟨ob.slots,k b ob q⟩,λ_ _ _ n _=>n,λb ob q _=>⟨ob,k b ob q⟩,λ_ _ q=>q,λ_ _ _ q=>q,λ_ ps q=>⟨#[],by rw[q];simp⟩⟩
def Un.refl:Un fs ex H H h h:=Un.kept λ_ _ q=>q
theorem Un.laid (k:∀b u,h.get? b=some u->h'.get? b=some u)(hp:h.objs.size<=a)(hn:H a=none):Un fs ex H (upd H a o) h h' where
 keep:=λb u q _ _ _=>k b u q
 slot:=λb u q _ _ _=>⟨u.slots,k b u q⟩
 free:=λb u q n _=>by rw[zD<|Wy<|Wr (Qa q) hp];exact n
 there:=λb u q _=>⟨u,k b u q⟩
 tups:=λb xs q=>by rw[zD<|yR q hn];exact q
 frzs:=λb u xs q=>by rw[zD<|yR q hn];exact q
 tbls:=λb ps q=>⟨#[],by rw[zD<|yR q hn,q];simp⟩
def Un.write (mu:Mut<|H x)(he:e=x\/H e=some (.own x))(k:∀b u,b≠e->h.get? b=some u->h'.get? b=some u)(heo:∃u,h'.get? e=some u):Un fs ex H (upd H x o) h h':=by
 have hx:∀b,H b=none->b≠x:=λb n z=>by subst z;rw[n] at mu;exact mu
 have hb:∀b,H b=none->b≠e:=λb n z=>by simp_all
 have hm:∀b u,H b=some u->¬Mut (some u)->b≠x:=λb u q nm z=>by subst z;rw[q] at mu;exact nm mu
 refine⟨λb u q n _ _=>k b u (hb b n) q,λb u q n _ _=>⟨u.slots,k b u (hb b n) q⟩,λb u q n _=>by rw[zD (hx b n)];exact n,λb u q _=>?_,
  λb xs q=>by rw[zD<|hm b _ q λz=>z];exact q,λb u xs q=>by rw[zD<|hm b _ q λz=>z];exact q,λb ps q=>⟨#[],by rw[zD<|hm b _ q λz=>z,q];simp⟩⟩
 by_cases hbe:b=e
 .subst hbe;exact heo
 .exact⟨u,k b u hbe q⟩
end
def trk (h:qx)(H:Hp):ko:=(List.range h.objs.size).filter λa=>(H a).isSome
def zTm (h:qx)(H:Hp):qx:=hideAll h<|trk h H
def zMS (h:qx)(H:Hp):(zTm h H).objs.size=h.objs.size:=hideAll_size _ _
def zJF {b:qu}{o:Obj}(e:h.get? b=some o)(n:H b=none):(zTm h H).get? b=some o :=hideAll_get _ e λhm=>by have q:=(Eo.mp hm).2;rw[n] at q;simp at q
def zIv {b:qu}{o:Obj}(e:(zTm h H).get? b=some o):h.get? b=some o/\H b=none:=by
 have e':=of_hideAll _ e;refine⟨e',?_⟩;cases q:H b with
 | none=>rfl
 | some x =>have hm:b∈trk h H:=Eo.mpr ⟨Tx.mpr<|Qa e',by simp[q]⟩;have z:(zTm h H).get? b=none:=hideAll_none _ hm;rw[z] at e;cases e
def zIF (g h:qx)(L:qu):jm:=(List.range h.objs.size).filterMap λa=>if a=L\/(g.get? a).isSome=true then none else(h.get? a).map λo=>(a,o)
def rest (g h:qx)(L d:qu):jm:=(zIF g h L).filter λp=>decide (p.1≠d)
structure Mod (K:jk)(mg:Str->kn)(base:qx):Prop where
 kin:K.In base
 glob:base.Ns mainGlobals mg
 blt:∃mb,base.Ns builtinsNs mb/\∀x:Str,x≠"__name__"->mb x=bootBuiltins x
 nolimit:base.NoLimit
structure Cx where
 prog:Program
 w:qz
 K:jk
 mg:Str->kn
 base:qx
 A:qy
 N:kh
 s₀:qw
 H₀:Hp
 env:Env
 outer:qb
 stack:qb
 ex:ko
 fn:Str->Bool
 calm:Bool
 pn:jm
 xe:qv->qw->Prop
def frs (l:qb):ko:=l.filterMap (·.frame)
abbrev Cx.fs (X:Cx):ko:=frs X.outer
def Vis (sc:Scope)(x:Str):Prop:=sc.names.lookup x=some .local\/sc.names.lookup x=some .cell\/sc.names.lookup x=some .free
def visQ {c:Scope}(h:(match c.names.lookup x with | some .local | some .cell | some .free=>true | _=>false)=true):Vis c x:=by unfold Vis;split at h <;> simp_all
def Loc (sc:Scope)(x:Str):Prop:=sc.names.lookup x=some .local\/sc.names.lookup x=some .cell
def zDr (env:Env)(h:qx)(m:Str->kn)(x:Str)(u:qv):Prop :=(env.kindOf x=some .local/\m x=some u)\/((env.kindOf x=some .cell\/env.kindOf x=some .free)/\∃c,env.cells.lookup x=some c/\h.IsCell c (some u))
structure Cx.Ok (X:Cx):Prop where
 mod:Mod X.K X.mg X.base
 kind:X.env.scope.kind = .function
 glob:X.env.globals=mainGlobals
 blt:X.env.builtins=builtinsNs
 above:X.s₀.heap.objs.size<=X.env.locals
 inj:∀x y c,X.env.cells.lookup x=some c->X.env.cells.lookup y=some c->x=y
 has:∀x,(X.env.kindOf x=some .cell\/X.env.kindOf x=some .free)->∃c,X.env.cells.lookup x=some c
 cab:∀x c,X.fn x=true->X.env.cells.lookup x=some c->X.s₀.heap.objs.size<=c
 hd:X.calm=true->X.A.handled=none
 frames:X.A.frames=some X.stack
 stk:X.stack=X.outer\/(X.stack=X.env::X.outer/\X.env.frame=some X.env.locals)
 exf:∀b∈X.ex,b≠X.env.locals/\∀x c,X.env.cells.lookup x=some c->c≠b
 bs:∀b o,X.base.get? b=some o->X.s₀.heap.get? b=some o/\X.H₀ b=none
 bsz:X.base.objs.size<=X.s₀.heap.objs.size
 noex:∀b o,X.base.get? b=some o->b∉X.ex
 exfs:∀b∈X.ex,b∉X.fs
 funs:X.s₀.heap.FunFrames X.base X.outer
 frf:∀b∈X.fs,X.H₀ b=none
structure Inv (X:Cx)(Z:jm)(U:List ql)(H:Hp)(s:qw):Prop where
 ok:X.Ok
 os:s.os=X.s₀.os
 bare:AllBare s.gens
 base:Un X.fs X.ex X.H₀ H X.s₀.heap s.heap
 loc:∃m,s.heap.Ns X.env.locals m/\∀(i:Nat) (x:Str) (v:V),X.N[i]?=some x->U[i]?=some (some v)->Vis X.env.scope x->∃u,RelV v u/\zDr X.env s.heap m x u
 cell:∀x c,X.env.cells.lookup x=some c->∃v,s.heap.IsCell c v
 free:H X.env.locals=none
 freeC:∀x c,X.env.cells.lookup x=some c->H c=none
 pin:∀p∈X.pn++Z,s.heap.get? p.1=some p.2/\H p.1=none/\p.1≠X.env.locals/\p.1∉X.fs/\∀v,p.2.data ≠ .cell v
 hok:HOk X.prog X.w H s.heap
 len:U.length=X.N.length
section
variable{X:Cx}{U:List ql}
theorem Cx.Ok.nofr (ok:X.Ok){b:qu}{o:Obj}(e:X.base.get? b=some o):b∉X.fs:=λhb=>by have:=(ok.funs.mem hb).1;rw[e] at this;cases this
def Inv.bs (I:!4):∀b o,X.base.get? b=some o->s.heap.get? b=some o/\H b=none:=λb o e =>⟨I.base.keep b o (I.ok.bs b o e).1 (I.ok.bs b o e).2 (I.ok.nofr e)<|I.ok.noex b o e,I.base.free b o (I.ok.bs b o e).1 (I.ok.bs b o e).2<|I.ok.noex b o e⟩
def Inv.bk (I:!4):∀b o,X.base.get? b=some o->s.heap.get? b=some o:=λb o e=>(I.bs b o e).1
def Inv.mod (I:!4):Mod X.K X.mg X.base:=I.ok.mod
def Inv.kIn (I:!4):X.K.In s.heap:=I.ok.mod.kin.keeps I.bk
def Inv.lt (I:!4):X.env.locals < s.heap.objs.size:=let ⟨_,hn,_⟩:=I.loc;hn.lt
def Inv.sz (I:!4):X.s₀.heap.objs.size<=s.heap.objs.size:=Ww I.ok.above<|Wa I.lt
def Inv.nofs (I:!4)(h:s.heap.objs.size<=a):a∉X.fs:=λhb=>by obtain⟨_,o,ho,_⟩:=I.ok.funs.mem hb;exact absurd (Wr (Qa ho)<|Ww I.sz h)<|Wx _
theorem Inv.cne (I:!4):∀x c,X.env.cells.lookup x=some c->c≠X.env.locals:=λx c e z=>by obtain⟨v,o,ho,hd⟩:=I.cell x c e;obtain⟨m,⟨o',es,ep,ho',hd',_⟩,_⟩:=I.loc;rw[z,ho'] at ho;cases ho;rw[hd'] at hd;cases hd
def Inv.funs (I:!4):s.heap.FunFrames X.base X.outer:=by
 have all:∀(l),(∀b∈frs l,b∈X.fs)->X.s₀.heap.FunFrames X.base l->s.heap.FunFrames X.base l:=by
  intro l;induction l with
  | nil=>intro _ _;trivial
  | cons env r ih =>intro hs hl;obtain⟨hk,⟨L,o,hf,hn,ho,hd⟩,hr⟩:=hl;have hL:=hs L (by unfold frs;rw[Ot,hf];exact Qf);obtain⟨sl,e⟩:=I.base.slot L o ho (I.ok.frf L hL) hL λz=>I.ok.exfs L z hL;exact⟨hk,⟨L,_,hf,hn,e,hd⟩,ih (λb hb=>hs b (by unfold frs;rw[Ot,hf];exact Qp _ hb)) hr⟩
 exact all _ (λ_ hb=>hb) I.ok.funs
def Inv.stack (I:!4):s.heap.FunFrames X.base X.stack:=by
 rcases I.ok.stk with e | ⟨e,hf⟩
 .rw[e];exact I.funs
 .rw[e];obtain⟨m,hn,_⟩:=I.loc;exact .cons (by rw[I.ok.kind];decide) hf hn (Heap.get?_none_of_le<|Ww I.ok.bsz I.ok.above) I.funs
theorem Inv.stkSub (I:!4):∀b∈frs X.stack,b∈X.env.locals::X.fs:=λb hb=>by
 rcases I.ok.stk with e | ⟨e,hf⟩
 .simp_all
 .rw[e] at hb;unfold frs at hb;rw[Ot,hf] at hb;exact hb
def Inv.stkFree (I:!4):∀b∈frs X.stack,H b=none:=λb hb=>by
 rcases v4 (I.stkSub b hb) with e | hb
 .rw[e];exact I.free
 .obtain⟨_,o,ho,_⟩:=I.ok.funs.mem hb;exact I.base.free b o ho (I.ok.frf b hb) λz=>I.ok.exfs b z hb
def Inv.step (I:!4)(hch:∀b∈ch,(b∈X.ex\/X.s₀.heap.objs.size<=b)/\b≠X.env.locals/\(∀x c,X.env.cells.lookup x=some c->c≠b)/\∀p∈X.pn++Z,p.1≠b)(keep:∀b o,b≠X.env.locals->b∉X.fs->b∉ch->s.heap.get? b=some o->H b=none->h'.get? b=some o)(slot:∀b o,b≠X.env.locals->b∈X.fs->b∉ch->s.heap.get? b=some o->H b=none->∃sl,h'.get? b=some { o with slots:=sl }) (free:∀b o,b∉ch->s.heap.get? b=some o->H b=none->H' b=none)(there:∀b o,b∉ch->s.heap.get? b=some o->∃o',h'.get? b=some o')(tups:∀b xs,H b=some (.tup xs)->H' b=some (.tup xs)) (frzs:∀b o u,H b=some (.frz o u)->H' b=some (.frz o u)) (tbls:∀b ps,H b=some (.tbl ps)->∃more,H' b=some (.tbl<|ps++more))(ns:∀m,s.heap.Ns X.env.locals m->h'.Ns X.env.locals m) (hok:HOk X.prog X.w H' h') (hg:AllBare g'):Inv X Z U H' { s with heap:=h',gens:=g',drawn:=d',toks:=t' }:=by
 have neL:∀b o,X.s₀.heap.get? b=some o->b≠_:=λb o e=>Wy<|Wr (Qa e) I.ok.above;have neC:∀b o,X.s₀.heap.get? b=some o->b∉X.ex->b∉ch:=λb o e hx hb=>by
  rcases(hch b hb).1 with z | z
  .exact hx z
  .exact absurd (Wr (Qa e) z) (Wx _)
 have cellK:∀x c,X.env.cells.lookup x=some c->∀v,s.heap.IsCell c v->h'.IsCell c v:=λx c e v ⟨o,ho,hd⟩=>by
  have nch:c∉ch:=λz=>(hch c z).2.2.1 x c e J
  by_cases hc:c∈X.fs
  .obtain⟨sl,q⟩:=slot c o (I.cne x c e) hc nch ho<|I.freeC x c e;exact⟨_,q,hd⟩
  .exact⟨o,keep c o (I.cne x c e) hc nch ho<|I.freeC x c e,hd⟩
 refine⟨I.ok,I.os,hg,⟨λb o e n hb hx=>(keep b o (neL b o e) hb (neC b o e hx) (I.base.keep b o e n hb hx)<|I.base.free b o e n hx),λb o e n hb hx=>?_,λb o e n hx=>?_,λb o e hx=>?_,λb xs e=>tups b xs<|I.base.tups b xs e,λb o xs e=>frzs b o xs<|I.base.frzs b o xs e,λb ps e=>?_⟩,?_,λx c e=>?_,?_,λx c e=>?_,λp hp=>?_,hok,I.len⟩
 .obtain⟨sl,e1⟩:=I.base.slot b o e n hb hx;obtain⟨sl',e2⟩:=slot b _ (neL b o e) hb (neC b o e hx) e1<|I.base.free b o e n hx;exact⟨sl',e2⟩
 .obtain⟨o',e1⟩:=I.base.there b o e hx;exact free b o' (neC b o e hx) e1<|I.base.free b o e n hx
 .obtain⟨o',e1⟩:=I.base.there b o e hx;exact there b o' (neC b o e hx) e1
 .obtain⟨m1,e1⟩:=I.base.tbls b ps e;obtain⟨m2,e2⟩:=tbls b _ e1;exact⟨m1++m2,by rw[e2,Array.append_assoc]⟩
 .obtain⟨m,hn,hl⟩:=I.loc;refine⟨m,ns m hn,λi x v e1 e2 e3=>?_⟩;obtain⟨u,r,l⟩:=hl i x v e1 e2 e3;refine⟨u,r,?_⟩;rcases l with l | ⟨k,c,e,z⟩
  .exact .inl l
  .exact .inr ⟨k,c,e,cellK x c e _ z⟩
 .obtain⟨v,z⟩:=I.cell x c e;exact⟨v,cellK x c e v z⟩
 .obtain⟨m,⟨o,_,_,ho,_⟩,_⟩:=I.loc;exact free _ o (λz=>(hch _ z).2.1 J) ho I.free
 .obtain⟨v,o,ho,hd⟩:=I.cell x c e;exact free c o (λz=>(hch c z).2.2.1 x c e J) ho<|I.freeC x c e
 .obtain⟨e,n,ne,nf,d⟩:=I.pin p hp;have nch:p.1∉ch:=λz=>(hch p.1 z).2.2.2 p hp J;exact⟨keep p.1 p.2 ne nf nch e n,free p.1 p.2 nch e n,ne,nf,d⟩
def Inv.un (I:!4)(u:Un X.fs [] H H' s.heap h')(hok:HOk X.prog X.w H' h'):Inv X Z U H' { s with heap:=h',toks:=t' }:=by
 obtain⟨m,⟨o,es,ep,ho,r⟩,_⟩:=id I.loc;obtain⟨sl,hL⟩:=u.any ho I.free je;exact I.step (ch:=[]) (λ_ z=>nomatch z) (λb o _ hb _ e n=>u.keep b o e n hb je) (λb o _ hb _ e n=>u.slot b o e n hb je) (λb o _ e n=>u.free b o e n je) (λb o _ e=>u.there b o e je) u.tups u.frzs u.tbls (λm' hm=>by obtain⟨o',es',ep',ho',r'⟩:=hm;rw[ho] at ho';cases ho';exact⟨_,es',ep',hL,r'⟩) hok I.bare
def Inv.call (I:!4)(u:Un (frs X.stack) ch H H' s.heap h')(hok:HOk X.prog X.w H' h')(hg:AllBare g')(hch:∀b∈ch,(b∈X.ex\/X.s₀.heap.objs.size<=b)/\b≠X.env.locals/\(∀x c,X.env.cells.lookup x=some c->c≠b)/\∀p∈X.pn++Z,p.1≠b):Inv X Z U H' { s with heap:=h',gens:=g',drawn:=d',toks:=t' }:=by
 obtain⟨m,⟨o,es,ep,ho,r⟩,_⟩:=id I.loc;obtain⟨sl,hL⟩:=u.any ho I.free λz=>(hch _ z).2.1 J;exact I.step hch (λb o hL hb hc e n=>u.keep b o e n (λz=>(v4<|I.stkSub b z).elim hL hb) hc) (λb o _ _ hc e n=>u.any e n hc) (λb o hc e n=>u.free b o e n hc) (λb o hc e=>u.there b o e hc) u.tups u.frzs u.tbls (λm' hm=>by obtain⟨o',es',ep',ho',r'⟩:=hm;rw[ho] at ho';cases ho';exact⟨_,es',ep',hL,r'⟩) hok hg
def Inv.turned (I:!4)(k:∀b o,b≠it->s.heap.get? b=some o->h'.get? b=some o)(hn:H it=none)(hL:it≠X.env.locals)(h1:it∈X.ex\/X.s₀.heap.objs.size<=it) (h2:∀x c,X.env.cells.lookup x=some c->c≠it) (h3:∀p∈X.pn++Z,p.1≠it):Inv X Z U H { s with heap:=h',toks:=t' }:=by
 have nit:∀b u,H b=some u->b≠it:=λb u e z=>by rw[z,hn] at e;cases e
 refine I.step (ch:=[it]) (λb hb=>?_) (λb o _ _ hc e _=>k b o (λz=>hc<|by simp[z]) e) (λb o _ _ hc e _=>⟨o.slots,k b o (λz=>hc<|by simp[z]) e⟩) (λ_ _ _ _ n=>n) (λb o hc e=>⟨o,k b o (λz=>hc<|by simp[z]) e⟩) (λ_ _ e=>e) (λ_ _ _ e=>e) (λb ps e=>⟨#[],by rw[e];simp⟩) (λm hm=>?_) (λb u e=>?_) I.bare
 .have e:=by simpa using hb
  subst e;exact⟨h1,hL,h2,h3⟩
 .obtain⟨o,es,ep,ho,r⟩:=hm;exact⟨o,es,ep,k _ o (Ne.symm hL) ho,r⟩
 .refine(I.hok b u e).stay (λc v hc q=>k c v ?_ q) (λ_ q=>q) λ_ _ q=>q;rcases hc with z | z
  .rw[z];exact nit b u e
  .exact nit c _ z
def Inv.tok (I:!4)(t:Nat):Inv X Z U H { s with toks:=t }:=I.un Un.refl I.hok
def Inv.kept {t':Nat}(I:!4)(k:∀b u,s.heap.get? b=some u->h'.get? b=some u):Inv X Z U H { s with heap:=h',toks:=t' }:=I.un (Un.kept k)<|I.hok.kept k
def Inv.laid {a:qu}{o:HO}{t':Nat}(I:!4)(k:∀b u,s.heap.get? b=some u->h'.get? b=some u)(hp:s.heap.objs.size<=a)(new:ObjOk X.prog X.w (upd H a o) h' a o):Inv X Z U (upd H a o) { s with heap:=h',toks:=t' }:=I.un (Un.laid k hp<|I.hok.fresh hp)<|I.hok.laid k hp new
def Inv.write {x e:qu}{o:HO}{t':Nat}(I:!4)(mu:Mut<|H x)(he:e=x\/H e=some (.own x))(k:∀b u,b≠e->s.heap.get? b=some u->h'.get? b=some u)(heo:∃u,h'.get? e=some u)(new:ObjOk X.prog X.w (upd H x o) h' x o):Inv X Z U (upd H x o) { s with heap:=h',toks:=t' }:=I.un (Un.write mu he k heo)<|I.hok.write mu he k heo new
def Inv.pins_of {pins':jm}(I:!4)(h:∀p∈pins',s.heap.get? p.1=some p.2/\H p.1=none/\p.1≠X.env.locals/\p.1∉X.fs/\∀v,p.2.data ≠ .cell v):Inv X pins' U H s :=
 ⟨I.ok,I.os,I.bare,I.base,I.loc,I.cell,I.free,I.freeC,λp hp=>(v6 hp).elim (λz=>I.pin p<|Yz _ z)<|h p,I.hok,I.len⟩
def zSu (hN:N.Nodup)(a:N[i]?=some x)(b:N[j]?=some x):i=j:=by obtain⟨h1,e1⟩:=v5 a;obtain⟨h2,e2⟩:=v5 b;exact(List.getElem_inj hN).mp (e1.trans e2.symm)
def zYG (I:!4)(hN:X.N.Nodup)(hi:!25)(hx:Loc X.env.scope x)(r:RelV v u)(h:∀s',Inv X Z (U.set i<|some v) H s'->(∃a,Heap.SameBut a s.heap s'.heap/\(a=X.env.locals\/X.env.cells.lookup x=some a))->Q () s') (hf:!37:=by first | exact .inl rfl | exact .inr rfl | assumption):wpAny M A (storeName X.env x u) Q E s:=by
 obtain⟨m,hn,hl⟩:=id I.loc;have hcls:(X.env.scope.kind == .class||(X.env.scope.kind == .module&&X.env.locals != X.env.globals))=false:=by rw[I.ok.kind];rfl
 have hiU:i < U.length:=by rw[I.len];exact(v5 hi).1
 have cne:=I.cne;have tracked:∀ {a:qu} {h':qx},(∃o,s.heap.get? a=some o/\H a=none)->Heap.SameBut a _ h'->HOk _ X.w H h':=λ{a h'} ha hs b ob e=>by
  obtain⟨_,_,hfree⟩:=ha;refine(I.hok b ob e).stay (λc w' hc q=>(hs.2 c ?_).trans q) (λ_ q=>q) λ_ _ q=>q;rintro rfl;rcases hc with rfl | hc
  .rw[hfree] at e;cases e
  .rw[hfree] at hc;cases hc
 rcases hx with hk | hk
 .refine wpAny_storeName_local hk hn (λh' hn' hs=>?_) hcls;obtain⟨oL,_,_,hoL,_⟩:=id hn;refine h _ ⟨I.ok,I.os,I.bare,⟨λb o e n hb hx=>((hs.2 b<|Wy<|Wr (Qa e) I.ok.above).trans<|I.base.keep b o e n hb hx),λb o e n hb hx=>?_,I.base.free,λb o e hx=>?_,I.base.tups,I.base.frzs,I.base.tbls⟩,⟨_,hn',λj y v' e1 e2 e3=>?_⟩,λy c e=>?_,I.free,I.freeC,λp hp=>?_,tracked ⟨oL,hoL,I.free⟩ hs,by simpa using I.len⟩ ⟨_,hs,.inl rfl⟩
  .obtain⟨sl,e1⟩:=I.base.slot b o e n hb hx;exact⟨sl,(hs.2 b<|Wy<|Wr (Qa e) I.ok.above).trans e1⟩
  .obtain⟨o',e1⟩:=I.base.there b o e hx;exact⟨o',(hs.2 b<|Wy<|Wr (Qa e) I.ok.above).trans e1⟩
  .by_cases hj:j=i
   .subst hj;rw[hi] at e1;cases e1;rw[Rh hiU] at e2;cases e2;exact⟨u,r,.inl ⟨hk,je⟩⟩
   .rw[Wv<|Ne.symm hj] at e2;obtain⟨u',r',q⟩:=hl j y v' e1 e2 e3;refine⟨u',r',?_⟩;rcases q with⟨k,e⟩ | ⟨k,c,e,z⟩
    .refine .inl ⟨k,?_⟩;have:y≠x:=λe=>hj<|zSu hN e1<|e ▸ hi;simp[this,e]
    .exact .inr ⟨k,c,e,z.sameBut hs<|cne y c e⟩
  .obtain⟨w',z⟩:=I.cell y c e;exact⟨w',z.sameBut hs<|cne y c e⟩
  .obtain⟨e,n,ne,nf,d⟩:=I.pin p hp;exact⟨(hs.2 p.1 ne).trans e,n,ne,nf,d⟩
 .have hfn:X.fn x=true:=by
   rcases hf with z | z
   .exact z
   .simp_all
  obtain⟨c,hc⟩:=I.ok.has x<|.inl hk;obtain⟨w',z⟩:=I.cell x c hc;refine wpAny_storeName_cell I.ok.kind hk hc z λh' hc' hs=>?_;obtain⟨oc,hoc,hocd⟩:=id z;refine h (!18) ⟨I.ok,I.os,I.bare,⟨λb o e n hb hx=>((hs.2 b<|Wy<|Wr (Qa e)<|I.ok.cab x c hfn hc).trans<|I.base.keep b o e n hb hx),λb o e n hb hx=>?_,I.base.free,λb o e hx=>?_,I.base.tups,I.base.frzs,I.base.tbls⟩,⟨m,hn.sameBut hs<|Ne.symm<|cne x c hc,λj y v' e1 e2 e3=>?_⟩,λy c' e=>?_,I.free,I.freeC,λp hp=>?_,tracked ⟨oc,hoc,I.freeC x c hc⟩ hs,by simpa using I.len⟩ ⟨c,hs,.inr hc⟩
  .obtain⟨sl,e1⟩:=I.base.slot b o e n hb hx;exact⟨sl,(hs.2 b<|Wy<|Wr (Qa e)<|I.ok.cab x c hfn hc).trans e1⟩
  .obtain⟨o',e1⟩:=I.base.there b o e hx;exact⟨o',(hs.2 b<|Wy<|Wr (Qa e)<|I.ok.cab x c hfn hc).trans e1⟩
  .by_cases hj:j=i
   .subst hj;rw[hi] at e1;cases e1;rw[Rh hiU] at e2;cases e2;exact⟨u,r,.inr ⟨.inl hk,c,hc,hc'⟩⟩
   .rw[Wv<|Ne.symm hj] at e2;obtain⟨u',r',q⟩:=hl j y v' e1 e2 e3;refine⟨u',r',?_⟩;rcases q with q | ⟨k,c',e,z'⟩
    .exact .inl q
    .refine .inr ⟨k,c',e,z'.sameBut hs ?_⟩;rintro rfl;exact hj<|zSu hN e1<|I.ok.inj _ _ _ e hc ▸ hi
  .by_cases hcc:c'=c
   .subst hcc;exact⟨_,hc'⟩
   .obtain⟨w2,z2⟩:=I.cell y c' e;exact⟨w2,z2.sameBut hs hcc⟩
  .obtain⟨e,n,ne,nf,d⟩:=I.pin p hp;refine⟨(hs.2 p.1 ?_).trans e,n,ne,nf,d⟩;intro q;rw[q,hoc] at e;have q':oc=p.2:=Rs e;exact d w' (by rw[<-q'];exact hocd)
def zVP (I:!4)(hN:X.N.Nodup)(hi:!25)(hx:Loc X.env.scope x)(r:RelV v u)(h:∀s',Inv X Z (U.set i<|some v) H s'->Q () s') (hf:!37:=by first | exact .inl rfl | exact .inr rfl | assumption):wpAny M A (storeName X.env x u) Q E s :=
 zYG I hN hi hx r (λs' I' _=>h s' I') hf
def Inv.call' (I:!4)(ho:s'.os=s.os)(u:Un (frs X.stack) ch H H' s.heap s'.heap)(hok:HOk X.prog X.w H' s'.heap)(hg:AllBare s'.gens)(hch:∀b∈ch,(b∈X.ex\/X.s₀.heap.objs.size<=b)/\b≠X.env.locals/\(∀x c,X.env.cells.lookup x=some c->c≠b)/\∀p∈X.pn++Z,p.1≠b):Inv X Z U H' s':=by obtain⟨h',g'⟩:=s';subst ho;exact I.call u hok hg hch
end
abbrev XK:=qv->kr->Hp->Prop
abbrev St:=List ql
abbrev VK:=V->Hp->Prop
abbrev TE:=St->Hp->VK->Prop
abbrev TT:=St->Hp->(Bool->Hp->Prop)->Prop
end L2
variable{o:kn}{X:Cx}{t te tb tl ta:TE}{U:L2.St}{tc:TT}{r:V->ku->ku->Hp->VK->Prop}
namespace L2
abbrev TA:=St->Hp->(kl->Hp->Prop)->Prop
structure Ends where
 nx:St->Hp->Prop
 rt:VK
 bk:St->Hp->Prop:=λ_ _=>False
 ct:St->Hp->Prop:=λ_ _=>False
abbrev TS:=Ends->St->Hp->Prop
def EP (X:Cx)(Z:jm)(U:St)(Q:VK)(u:qv)(s':qw):Prop:=∃v H',Inv X Z U H' s'/\RelV v u/\Q v H'
def TP (X:Cx)(Z:jm)(U:St)(Q:Bool->Hp->Prop)(b:Bool)(s':qw):Prop:=∃H',Inv X Z U H' s'/\Q b H'
def AP (X:Cx)(Z:jm)(U:St)(Q:kl->Hp->Prop)(us:jn)(s':qw):Prop:=∃vs H',Inv X Z U H' s'/\Vals vs us/\Q vs H'
def SP (X:Cx)(Z:jm)(D:Ends)(f:Flow)(s':qw):Prop :=
 match f with
 | .next=>∃U' H',Inv X Z U' H' s'/\D.nx U' H'
 | .brk=>∃U' H',Inv X Z U' H' s'/\D.bk U' H'
 | .cont=>∃U' H',Inv X Z U' H' s'/\D.ct U' H'
 | .ret u=>∃v U' H',Inv X Z U' H' s'/\RelV v u/\D.rt v H'
def PE (X:Cx)(e:r8)(t:TE):Prop :=
 ∀(Z:jm) (s:qw) (U:St) (H:Hp) (Q:VK),Inv X Z U H s->t U H Q->wpAny (!5) X.A (eval e X.env) (EP X Z U Q) X.xe s
def PT (X:Cx)(e:r8)(t:TT):Prop :=
 ∀(Z:jm) (s:qw) (U:St) (H:Hp) (Q:Bool->Hp->Prop),Inv X Z U H s->t U H Q->wpAny (!5) X.A (isTrue e X.env<|eval e X.env) (TP X Z U Q) X.xe s
def PW (X:Cx)(e:r8)(t:TT):Prop :=
 ∀(whole:Sem qv) (Z:jm) (s:qw) (U:St) (H:Hp) (Q:Bool->Hp->Prop),Inv X Z U H s->t U H Q->wpAny (!5) X.A (isTrue e X.env whole) (TP X Z U Q) X.xe s
def PW.pt {t:TT}(h:PW X e t):PT X e t:=h _
def PA (X:Cx)(es:qt)(t:TA):Prop :=
 ∀(pos:Pos) (Z:jm) (s:qw) (U:St) (H:Hp) (Q:kl->Hp->Prop),Inv X Z U H s->t U H Q->wpAny (!5) X.A (spliced<|backTo pos (!26)) (AP X Z U Q) X.xe s
def PS (X:Cx)(st:r9)(t:TS):Prop :=
 ∀(Z:jm) (s:qw) (U:St) (H:Hp) (D:Ends),Inv X Z U H s->t D U H->wpAny (!5) X.A (exec st X.env) (SP X Z D) X.xe s
def PSs (X:Cx)(st:qg)(t:TS):Prop :=
 ∀(Z:jm) (s:qw) (U:St) (H:Hp) (D:Ends),Inv X Z U H s->t D U H->wpAny (!5) X.A (execs st X.env) (SP X Z D) X.xe s
def thn {t:Sem α}{Q Q':α->qw->Prop}(h:wpAny M A t Q E s)(hQ:∀a s,Q a s->Q' a s):wpAny M A t Q' E s:=Ed h hQ λ_ _ x=>x
section
def zMM (i:Nat):TE:=λU H Q=>∃v,U[i]?=some (some v)/\Q v H
def tC (v:V):TE:=λ_ H Q=>Q v H
def wI (hN:!25)(hv:!29)(hd:!17:=by decide)(hcd:!28:=by decide):PE X (.Name x pos)<|zMM i:=by
 intro Z s U H Q I h;obtain⟨v,e,h⟩:=h;obtain⟨m,hn,hl⟩:=I.loc;obtain⟨u,r,l⟩:=hl i x v hN e hv;have fin:EP X Z U Q u s:=⟨v,H,I,r,h⟩
 rcases l with⟨hk,hm⟩ | ⟨hk,c,hc,hcell⟩
 .exact wpAny_Name (wpAny_loadName_local I.ok.kind hk hn hm fin) hd
 .rcases hk with hk | hk
  .exact wpAny_Name (wpAny_loadName_cell I.ok.kind hk hc hcell fin) hd
  .exact wpAny_Name (wpAny_loadName_free I.ok.kind hk hc hcell fin hcd) hd
def zFY {i j pos}:PE X (.Constant (.int i) j pos)<|tC<|.int i:=λ_ _ _ H _ I h=>wpAny_Constant_int ⟨.int i,H,I.tok _,⟨_,J⟩,h⟩
def zDY {b j pos}:PE X (.Constant (.bool b) j pos)<|tC<|.bl b:=λ_ _ _ H _ I h=>Constant_bool ⟨.bl b,H,I,J,h⟩
def zJY {j pos}:PE X (.Constant .none j pos)<|tC .non:=λ_ _ _ H _ I h=>Constant_none ⟨.non,H,I,J,h⟩
def zPz {x j pos}:PE X (.Constant (.str x) j pos)<|tC<|.str x:=λ_ _ _ H _ I h=>Calls.Constant_str ⟨.str x,H,I.tok _,⟨_,J⟩,h⟩
def Gl (X:Cx)(x:Str):Prop:=X.env.kindOf x=some .globalImplicit
def iV {Q:jl}(I:!4)(hg:Gl X x)(hm:X.mg x=some u)(h:Q u s)(hd:!17:=by decide):wpAny (!5) X.A (eval (.Name x pos) X.env) Q E s :=
 Ph I.ok.kind hg (Calls.loadGlobal_global (by rw[I.ok.glob];exact I.mod.glob.keeps I.bk) hm h) hd
def iQ {Q:jl}(I:!4)(hg:Gl X x)(hm:X.mg x=none)(hv:bootBuiltins x=some u)(h:Q u s)(hn:x≠"__name__":=by decide) (hd:!17:=by decide):wpAny (!5) X.A (eval (.Name x pos) X.env) Q E s:=by obtain⟨mb,h1,h2⟩:=I.mod.blt;exact Ph I.ok.kind hg (Calls.loadGlobal_builtin (by rw[I.ok.glob];exact I.mod.glob.keeps I.bk) hm (by rw[I.ok.blt];exact h1.keeps I.bk) ((h2 x hn).trans hv) h) hd
def cM (hg:Gl X x)(hm:X.mg x=some u)(r:RelV v u)(hd:!17:=by decide):PE X (.Name x pos) (tC v) :=
 λ_ _ _ H _ I h=>iV I hg hm ⟨v,H,I,r,h⟩ hd
def zOh (hg:Gl X x)(hm:X.mg x=none)(hv:bootBuiltins x=some u)(r:RelV v u)(hn:x≠"__name__":=by decide)(hd:!17:=by decide):PE X (.Name x pos) (tC v) :=
 λ_ _ _ H _ I h=>iQ I hg hm hv ⟨v,H,I,r,h⟩ hn hd
variable{a b:r8}
def PC (X:Cx)(op:CmpOp)(a b:r8)(t:TE):Prop :=
 ∀(Z:jm) (s:qw) (U:St) (H:Hp) (Q:VK),Inv X Z U H s->t U H Q ->
  wpAny (!5) X.A (eval a X.env) (λv s₁=>wpAny (!5) X.A (eval b X.env) (λu s₂=>wpAny (!5) X.A (compareOp op v u) (EP X Z U Q) X.xe s₂) X.xe s₁) X.xe s
def tB (t:TE):TT:=λU H Q=>t U H λx H1=>∃c,x = .bl c/\Q c H1
def zLi (h:PC X op a b t)(h1:behindInMarks op b=false:=by first | exact nobehind _ jb jb | rfl):PT X (.Compare a [op] [b] pos)<|tB t:=by refineλZ s U H Q I hw=>wpAny_isTrue_Compare1 (thn (h Z s U H _ I hw) λv s1 h1=>thn h1 λu s2 h2=>thn h2 λc s3 ⟨x,H1,I1,r1,q1⟩=>?_) h1;obtain⟨d,rfl,q⟩:=q1;cases r1;exact Ev ⟨H1,I1,q⟩
def zFg (h:PE X e t)(he:∀whole,isTrue e X.env whole=(do let v ←whole;standAt e.pos;holding [v] (truthy v)):=by intro _;rfl):PT X e<|tB t:=by refineλZ s U H Q I hw=>isTrue_plain (thn (h Z s U H _ I hw) λv s1 ⟨x,H1,I1,r1,q1⟩=>?_)<|he _;obtain⟨d,rfl,q⟩:=q1;cases r1;exact Ev ⟨H1,I1,q⟩
variable{tA tB':TT}{rest:qt}
def zD3 (t u:TT):TT:=λU H Q=>t U H λc H1=>if c=true then u U H1 Q else Q false H1
def tOr (t u:TT):TT:=λU H Q=>t U H λc H1=>if c=true then Q true H1 else u U H1 Q
def zDp (t:TT):TT:=λU H Q=>t U H λc H1=>Q (!c) H1
def zI3 (ha:PT X a tA):PW X (.BoolOp .And [a] pos) tA:=by
 refineλwh Z s U H Q I h=>isTrue_and<|thn (ha Z s U H Q I h) λc s1 e=>?_;cases c with
 | true=>exact isTrue_and_nil e
 | _=>exact e
def zG2 (ha:PT X a tA):PW X (.BoolOp .Or [a] pos) tA:=by
 refineλwh Z s U H Q I h=>isTrue_or<|thn (ha Z s U H Q I h) λc s1 e=>?_;cases c with
 | false=>exact isTrue_or_nil e
 | true=>exact e
def zFp (ha:PT X a tA)(hb:PW X (.BoolOp .And (b::rest) pos) tB'):PW X (.BoolOp .And (a::b::rest) pos)<|zD3 tA tB':=by
 refineλwh Z s U H Q I h=>isTrue_and<|thn (ha Z s U H _ I h) λc s1 ⟨H1,I1,q1⟩=>?_;cases c with
 | true=>exact hb wh Z s1 U H1 Q I1 q1
 | _=>exact⟨H1,I1,q1⟩
def zE3 (ha:PT X a tA)(hb:PW X (.BoolOp .Or (b::rest) pos) tB'):PW X (.BoolOp .Or (a::b::rest) pos)<|tOr tA tB':=by
 refineλwh Z s U H Q I h=>isTrue_or<|thn (ha Z s U H _ I h) λc s1 ⟨H1,I1,q1⟩=>?_;cases c with
 | true=>exact⟨H1,I1,q1⟩
 | _=>exact hb wh Z s1 U H1 Q I1 q1
def zGd (ha:PT X a tA):PT X (.UnaryOp .Not a pos)<|zDp tA:=by exactλZ s U H Q I h=>isTrue_not<|ha Z s U H _ I h
def zEW (ta tb:TE):TE:=λU H Q=>ta U H λx H1=>∃c,x = .bl c/\if c=true then tb U H1 Q else Q (.bl false) H1
def zD9 (ta tb:TE):TE:=λU H Q=>ta U H λx H1=>∃c,x = .bl c/\if c=true then Q (.bl true) H1 else tb U H1 Q
def zGE {op}(h:PE X a t):PE X (.BoolOp op [a] pos) t:=λZ s U H Q I hw=>BoolOp_one<|h Z s U H Q I hw
def zG9 (ha:PE X a ta)(hb:PE X (.BoolOp .And (b::rest) pos) tb):PE X (.BoolOp .And (a::b::rest) pos)<|zEW ta tb:=by
 refineλZ s U H Q I h=>BoolOp_and<|thn (ha Z s U H _ I h) λv s1 ⟨x,H1,I1,r1,q1⟩=>?_;obtain⟨c,rfl,q1⟩:=q1;cases r1;refine Ev ?_;cases c with
 | true=>exact hb Z s1 U H1 Q I1 q1
 | _=>exact⟨.bl false,H1,I1,J,q1⟩
def zDW (ha:PE X a ta)(hb:PE X (.BoolOp .Or (b::rest) pos) tb):PE X (.BoolOp .Or (a::b::rest) pos)<|zD9 ta tb:=by
 refineλZ s U H Q I h=>BoolOp_or<|thn (ha Z s U H _ I h) λv s1 ⟨x,H1,I1,r1,q1⟩=>?_;obtain⟨c,rfl,q1⟩:=q1;cases r1;refine Ev ?_;cases c with
 | false=>exact hb Z s1 U H1 Q I1 q1
 | true=>exact⟨.bl true,H1,I1,J,q1⟩
def tIf (t:TT)(ta tb:TE):TE:=λU H Q=>t U H λc H1=>if c=true then ta U H1 Q else tb U H1 Q
def zJX (hc:PT X c tA)(ha:PE X a ta)(hb:PE X b tb):PE X (.IfExp c a b pos)<|tIf tA ta tb:=by
 refineλZ s U H Q I h=>wpAny_IfExp<|thn (hc Z s U H _ I h) λd s1 ⟨H1,I1,q1⟩=>?_;cases d with
 | true=>exact ha Z s1 U H1 Q I1 q1
 | _=>exact hb Z s1 U H1 Q I1 q1
end
def SqL (K:jk)(H:Hp)(a:qu)(xs:kl):Prop :=
 Rd H a (.lst xs) \/
  ∃(o:Obj) (j6:jo) (n:Nat),K.lookup a=some o/\o.cls = .type "list"/\o.dict=none/\o.data = .seq j6 n/\j6.size<=sizeLine/\Vals xs j6.toList
def SqT (K:jk)(H:Hp)(a:qu)(xs:kl):Prop :=
 Rd H a (.tup xs) \/
  ∃(o:Obj) (j6:jo) (n:Nat),K.lookup a=some o/\o.cls = .type "tuple"/\o.data = .seq j6 n/\j6.size<=sizeLine/\Vals xs j6.toList
def zDD:qv->ql
 | .none=>some .non
 | .bool b=>some<|.bl b
 | .int i _=>some<|.int i
 | .str x _=>some<|.str x
 | .bytes b _=>some<|.byt b
 | .float b _=>some<|.flt b
 | .ref a=>some<|.ref a
 | .type n=>some<|.ty n
 | _=>none
def RelV.abs {x:V}(r:RelV x u):zDD u=some x:=by
 cases x with
 | non=>cases r;rfl
 | bl _=>cases r;rfl
 | int _=>obtain⟨t,rfl⟩:=r;rfl
 | str _=>obtain⟨t,rfl⟩:=r;rfl
 | byt _=>obtain⟨t,rfl⟩:=r;rfl
 | flt _=>obtain⟨t,rfl⟩:=r;rfl
 | ref _=>cases r;rfl
 | ty _=>cases r;rfl
def RelV.inj {x:V}(r:RelV x u)(q:RelV y u):x=y:=Rs<|r.abs.symm.trans q.abs
theorem Vals.inj:∀ {xs ys:kl} {us:jn},Vals xs us->Vals ys us->xs=ys
 | _,_,_,.nil,.nil=>rfl
 | _,_,_,.cons r t,.cons r' t'=>by rw[r.inj r',Vals.inj t t']
def SqL.of (h:H a=some (.lst xs)):SqL K H a xs:=.inl<|.inl h
def SqT.of (h:H a=some (.tup xs)):SqT K H a xs:=.inl<|.inl h
def Inv.list (I:!4)(h:SqL X.K H a xs):∃j6:qh,Vals xs j6/\PlainL s.heap a j6.toArray/\xs.length<=sizeLine:=by
 rcases h with h | ⟨o,j6,n,hk,hc,hd,hs,hz,r⟩
 .obtain⟨z,j6,n,r,e⟩:=h.ok I.hok;exact⟨j6,r,⟨_,n,e,J,J,J⟩,z⟩
 .refine⟨j6.toList,r,⟨o,n,I.kIn a o hk,hc,hd,by simpa using hs⟩,?_⟩;have e:=r.length;simp_all
def Inv.tuple (I:!4)(h:SqT X.K H a xs):∃j6:qh,Vals xs j6/\IsTup s.heap a j6.toArray/\xs.length<=sizeLine:=by
 rcases h with h | ⟨o,j6,n,hk,hc,hs,hz,r⟩
 .obtain⟨z,j6,r,p⟩:=h.ok I.hok;exact⟨j6,r,p,z⟩
 .refine⟨j6.toList,r,⟨o,I.kIn a o hk,hc,n,by simpa using hs⟩,?_⟩;have e:=r.length;simp_all
def Inv.list_inj (I:!4)(h:SqL X.K H a xs)(h':SqL X.K H a ys):xs=ys:=by
 obtain⟨j6,r,⟨o,n,e,_,_,d⟩,_⟩:=I.list h;obtain⟨its',r',⟨o',n',e',_,_,d'⟩,_⟩:=I.list h';rw[e] at e';cases e';rw[d] at d';injection d' with d1 _
 have:=by simpa using Wi Array.toList d1
 subst this;exact r.inj r'
def Inv.tuple_inj (I:!4)(h:SqT X.K H a xs)(h':SqT X.K H a ys):xs=ys:=by
 obtain⟨j6,r,⟨o,e,_,n,d⟩,_⟩:=I.tuple h;obtain⟨its',r',⟨o',e',_,n',d'⟩,_⟩:=I.tuple h';rw[e] at e';cases e';rw[d] at d';injection d' with d1 _
 have:=by simpa using Wi Array.toList d1
 subst this;exact r.inj r'
abbrev Cx.wish (X:Cx)(E:jl):Cx:={ X with xe:=E }
abbrev Cx.nox (X:Cx):Cx:=X.wish λ_ _=>False
def Cx.Ok.wish {X:Cx}(ok:X.Ok)(E:jl):(X.wish E).Ok :=
 ⟨ok.mod,ok.kind,ok.glob,ok.blt,ok.above,ok.inj,ok.has,ok.cab,ok.hd,ok.frames,ok.stk,ok.exf,ok.bs,ok.bsz,ok.noex,ok.exfs,ok.funs,ok.frf⟩
def Cx.Ok.unwish (ok:(X.wish E).Ok):X.Ok :=
 ⟨ok.mod,ok.kind,ok.glob,ok.blt,ok.above,ok.inj,ok.has,ok.cab,ok.hd,ok.frames,ok.stk,ok.exf,ok.bs,ok.bsz,ok.noex,ok.exfs,ok.funs,ok.frf⟩
section
def Inv.wish (I:!4)(E:jl):Inv (X.wish E) Z U H s:=⟨I.ok.wish E,I.os,I.bare,I.base,I.loc,I.cell,I.free,I.freeC,I.pin,I.hok,I.len⟩
def Inv.unwish (I:Inv (X.wish E) Z U H s):Inv X Z U H s:=⟨I.ok.unwish,I.os,I.bare,I.base,I.loc,I.cell,I.free,I.freeC,I.pin,I.hok,I.len⟩
def SP.unwish {D:Ends}{f:Flow}{s':qw}(h:SP (X.wish E) Z D f s'):SP X Z D f s':=by
 cases f with
 | next=>obtain⟨U',H',I,q⟩:=h;exact⟨U',H',I.unwish,q⟩
 | brk=>obtain⟨U',H',I,q⟩:=h;exact⟨U',H',I.unwish,q⟩
 | cont=>obtain⟨U',H',I,q⟩:=h;exact⟨U',H',I.unwish,q⟩
 | ret u=>obtain⟨v,U',H',I,r,q⟩:=h;exact⟨v,U',H',I.unwish,r,q⟩
def PSs.nox {st:qg}{t:TS}(h:PSs X.nox st t):PSs X st t:=λZ s U H D I hw =>Ed (h Z s U H D (I.wish _) hw) (λ_ _ q=>q.unwish) λ_ _ z=>False.elim z
variable{rest:qg}{t u:TS}
def zEo:TS:=λD U H=>D.nx U H
def zDs (t u:TS):TS:=λD U H=>t { D with nx:=u D } U H
def zZ4:PSs X [] zEo:=λ_ _ U H _ I h=>Yt ⟨U,H,I,h⟩
def tY (h1:PS X st t)(h2:PSs X rest u):PSs X (st::rest)<|zDs t u:=by
 refineλZ s U H D I h=>Ub<|thn (h1 Z s U H { D with nx:=u D } I h) λf s1 q=>?_;cases f with
 | next =>obtain⟨U',H',I',q⟩:=q;exact h2 Z s1 U' H' D I' q
 | ret v=>exact q
 | brk=>exact q
 | cont=>exact q
def zXR (h1:PS X st t):PSs X [st] t:=by
 refineλZ s U H D I h=>Ub<|thn (h1 Z s U H D I h) λf s1 q=>?_;cases f with
 | next=>exact Yt q
 | ret v=>exact q
 | brk=>exact q
 | cont=>exact q
def Inv.quiet (I:!4):interactive X.env=false:=by simp[interactive,I.ok.kind]
def zEq (te:TE):TS:=λD U H=>te U H λ_ H1=>D.nx U H1
def qH (he:PE X e te)(hs:swapsWith e none pos.line X.env=pure false:=by rfl):PS X (.Expr e pos)<|zEq te:=by exactλZ s U H D I h=>wpAny_Expr_any (thn (he Z s U H _ I h) λv s1 ⟨x,H1,I1,r1,q1⟩=>⟨U,H1,I1,q1⟩) I.quiet hs
def zDv (te:TE):TS:=λD U H=>te U H D.rt
def zSZ (he:PE X e te):PS X (.Return (some e) pos)<|zDv te:=by exactλZ s U H D I h=>wpAny_Return_some<|thn (he Z s U H _ I h) λv s1 ⟨x,H1,I1,r1,q1⟩=>⟨x,U,H1,I1,r1,q1⟩
def zDn (c:TT)(t u:TS):TS:=λD U H=>c U H λb H1=>if b=true then t D U H1 else u D U H1
def zUW {a b:qg}(hc:PT X c tc)(ha:PSs X a t)(hb:PSs X b u):PS X (.If c a b pos)<|zDn tc t u:=by
 refineλZ s U H D I h=>wpAny_If<|thn (hc Z s U H _ I h) λd s1 ⟨H1,I1,q1⟩=>?_;cases d with
 | true=>exact ha Z s1 U H1 D I1 q1
 | _=>exact hb Z s1 U H1 D I1 q1
end
abbrev TG:=V->St->Hp->(St->Hp->Prop)->Prop
abbrev TGs:=kl->St->Hp->(St->Hp->Prop)->Prop
def PG (X:Cx)(target:r8)(t:TG):Prop :=
 ∀(Z:jm) (s:qw) (U:St) (H:Hp) (v:V) (u:qv) (Q:St->Hp->Prop),Inv X Z U H s->RelV v u->t v U H Q ->
  wpAny (!5) X.A (assign target X.env u) (λ_ s'=>∃U' H',Inv X Z U' H' s'/\Q U' H') X.xe s
def PGs (X:Cx)(ts:qt)(t:TGs):Prop :=
 ∀(Z:jm) (s:qw) (U:St) (H:Hp) (vs:kl) (us:jn) (Q:St->Hp->Prop),Inv X Z U H s->Vals vs us->t vs U H Q ->
  wpAny (!5) X.A (assignInOrder ((assignEach ts X.env).map (·.2)) us) (λ_ s'=>∃U' H',Inv X Z U' H' s'/\Q U' H') X.xe s
def zRX (i:Nat):TG:=λv U H Q=>Q (U.set i<|some v) H
def zHD (hN:X.N.Nodup)(hi:!25)(hx:Loc X.env.scope x)(hf:!37:=by first | exact .inl rfl | exact .inr rfl | assumption):PG X (.Name x pos)<|zRX i:=by exactλZ s U H v u Q I r h=>wpAny_assign_Name<|zVP I hN hi hx r (λs' I'=>⟨_,H,I',h⟩) hf
def zDC:TGs:=λvs U H Q=>vs=[]/\Q U H
def zFe (t:TG)(u:TGs):TGs:=λvs U H Q=>∃v r,vs=v::r/\t v U H λU' H'=>u r U' H' Q
def zIN:PGs X [] zDC:=by intro Z s U H vs us Q I r h;obtain⟨e,h⟩:=h;exact assignInOrder_nil ⟨U,H,I,h⟩
def zKt {t:TG}{u:TGs}(h1:PG X e t)(h2:PGs X es u)(hs:(assignEach (e::es) X.env).map (·.2)=assign e X.env::(assignEach es X.env).map (·.2):=by rfl):PGs X (e::es)<|zFe t u:=by
 intro Z s U H vs us Q I r h;obtain⟨v,vr,e1,h⟩:=h;subst e1;cases r with
 | cons r rr =>rw[hs];exact assignInOrder_cons<|thn (h1 Z s U H _ _ _ I r h) λ_ s1 ⟨σ1,H1,I1,q1⟩=>h2 Z s1 σ1 H1 _ _ Q I1 rr q1
def zDK (K:jk)(n:Nat)(t:TGs):TG:=λv U H Q=>∃a xs,v = .ref a/\SqT K H a xs/\xs.length=n/\t xs U H Q
def zGp {k:Nat}{t:TGs}(hc:!23)(h:PGs X es t)(hn:(assignEach es X.env).length=n:=by rfl) (hst:(assignEach es X.env).findIdx? (·.1)=none:=by rfl):PG X (.Tuple es k pos)<|zDK X.K n t:=by intro Z s U H v u Q I r hw;obtain⟨a,xs,e1,hq,hl,hw⟩:=hw;subst e1;cases r;obtain⟨j6,rv,ht,hz⟩:=I.tuple hq;exact assign_Tuple_tuple (I.ok.hd hc) ht (by simp[hn,<-hl,rv.length]) hst λh' hx=>h Z _ U H xs _ Q (I.kept (t':=_) λb o e=>hx b o (Wy<|Qa e) e) (!6) hw
def zN5 (te:TE)(g:TG):TS:=λD U H=>te U H λx H1=>g x U H1 D.nx
def zFv {g:TG}(he:PE X e te)(hg:PG X tg g)(hs:swapsWithSole [tg] e pos.line X.env=pure false:=by rfl)(hw:swappedStores [tg] e X.env=pure none:=by rfl)(h1:(assignEach [tg] X.env).map (·.2)=[assign tg X.env]:=by rfl):PS X (.Assign [tg] e pos)<|zN5 te g:=by refineλZ s U H D I h=>wpAny_Assign_stores (thn (he Z s U H _ I h) λv s1 ⟨x,H1,I1,r1,q1⟩=>?_) hs hw;rw[h1];exact thn (hg Z s1 U H1 x v _ I1 r1 q1) λ_ s2 q=>q
def aG (hN:X.N.Nodup)(hi:!25)(hx:Loc X.env.scope x)(he:PE X e te)(hs:swapsWith e (some<|.Name x pos') pos.line X.env=pure false:=by rfl)(hf:!37:=by first | exact .inl rfl | exact .inr rfl | assumption):PS X (.Assign [.Name x pos'] e pos)<|zN5 te<|zRX i:=by exactλZ s U H D I h=>wpAny_Assign_Name (thn (he Z s U H _ I h) λv s1 ⟨y,H1,I1,r1,q1⟩=>(zVP I1 hN hi hx r1 (λs2 I2=>⟨_,H1,I2,q1⟩) hf)) hs
def zGg (c:TT)(tb:TS):TS:=λD U H=>∃W:Nat->St->Hp->Prop,(∃m,W m U H)/\∀m U H,W m U H ->
 c U H λb H1=>if b=true then ∃N:St->Hp->Prop,(∀U' H',N U' H'->∃m',m' < m/\W m' U' H')/\tb { D with nx:=N,ct:=N,bk:=D.nx } U H1 else D.nx U H1
def zMr {tb:TS}(hp:PassesOwn (!5) X.A X.env X.xe)(hc:PT X c tc)(hb:PSs X body tb):PS X (.While c body [] pos)<|zGg tc tb:=by
 intro Z s U H D I h;obtain⟨W,⟨m0,w0⟩,turn⟩:=h;refine wpAny_While<|codeAny_whileLoop (λn s'=>∃U' H',Inv X Z U' H' s'/\W n U' H') ?_ m0 ⟨U,H,I,w0⟩;rintro n s1 ⟨σ1,H1,I1,w1⟩;refine Ti hp<|thn (hc Z s1 σ1 H1 _ I1<|turn n σ1 H1 w1) λb s2 ⟨H2,I2,q2⟩=>?_;cases b with
 | true =>
  obtain⟨N,hN,q2⟩:=q2;refine Ti hp<|thn (hb Z s2 σ1 H2 _ I2 q2) λf s3 q3=>?_;cases f with
  | next =>obtain⟨σ3,H3,I3,n3⟩:=q3;obtain⟨m',hm,w3⟩:=hN σ3 H3 n3;exact⟨m',hm,σ3,H3,I3,w3⟩
  | cont =>obtain⟨σ3,H3,I3,n3⟩:=q3;obtain⟨m',hm,w3⟩:=hN σ3 H3 n3;exact⟨m',hm,σ3,H3,I3,w3⟩
  | brk=>exact q3
  | ret v=>exact q3
 | _ =>exact Yt ⟨σ1,H2,I2,q2⟩
structure It where
 go:Nat->Hp->Prop
 yld:Nat->Hp->V->Hp->Prop
 stop:Nat->Hp->Prop
def fB (X:Cx)(Z:jm)(H:Hp)(b:qu):Prop :=
 H b=none/\b≠X.env.locals/\b∉X.fs/\(b∈X.ex\/X.s₀.heap.objs.size<=b)/\(∀x c,X.env.cells.lookup x=some c->c≠b)/\∀p∈X.pn++Z,p.1≠b
def Inv.fpOk {b:qu}(I:!4)(hb:s.heap.objs.size<=b)(hn:H' b=none):fB X Z H' b:=by
 refine⟨hn,Ir<|Wr I.lt hb,I.nofs hb,.inr<|Ww I.sz hb,λx c e z=>?_,λp hp z=>absurd (Wr (Qa (I.pin p hp).1) (!8))<|Wx _⟩
 .obtain⟨v,q⟩:=I.cell x c e;exact absurd (Wr q.lt (!8))<|Wx _
structure Turn (P:Program)(w:qz)(K:jk)(tg:r8)(ya:It)(fp:ko)(it:qu)(tn:Nat->qx->Prop):Prop where
 mem:it∈fp
 obj:∀i h,tn i h->∀b∈fp,∃o,h.get? b=some o/\∀v,o.data ≠ .cell v
 keep:∀i h h',tn i h->(∀b∈fp,∀o,h.get? b=some o->h'.get? b=some o)->tn i h'
 item:∀(X:Cx),X.prog=P->X.w=w->X.K=K->X.calm=true->∀(i:Nat) (Z:jm) (s:qw) (U:St) (H:Hp) (E:jl),Inv X Z U H s->(∀b∈fp,fB X Z H b)->tn i s.heap->ya.go i H ->
  wpAny (model P w) X.A (pyNext (.ref it)) (λr s1=>∃u,r=some u /\
   wpAny (model P w) X.A (letOwnedTupleGo tg (.ref it) u) (λ_ s2=>∃x H',Inv X Z U H' s2/\RelV x u/\ya.yld i H x H'/\tn (i+1) s2.heap/\∀b∈fp,H' b=none) E s1) E s
 done:∀(X:Cx),X.prog=P->X.w=w->X.K=K->X.calm=true->∀(i:Nat) (Z:jm) (s:qw) (U:St) (H:Hp) (E:jl),Inv X Z U H s->(∀b∈fp,fB X Z H b)->tn i s.heap->ya.stop i H ->
  wpAny (model P w) X.A (pyNext<|.ref it) (λr s1=>r=none/\Inv X Z U H s1) E s
 self:∀(A:qy) (i:Nat) (s:qw) (Q:jl) (E:jl),tn i s.heap->Q (.ref it) s->wpAny (model P w) A (pyIter<|.ref it) Q E s
abbrev TI:=St->Hp->(It->Hp->Prop)->Prop
def PIE (X:Cx)(Z:jm)(U:St)(tg:r8)(R:It->Hp->Prop)(itv:qv)(s2:qw):Prop :=
 ∃(it:qu) (fp:ko) (tn:Nat->qx->Prop) (ya:It) (H':Hp),itv = .ref it/\Inv X Z U H' s2/\Turn X.prog X.w X.K tg ya fp it tn/\tn 0 s2.heap/\(∀b∈fp,fB X Z H' b)/\R ya H'
def PI (X:Cx)(tg iter:r8)(wi:TI):Prop :=
 ∀(Z:jm) (s:qw) (U:St) (H:Hp) (R:It->Hp->Prop),Inv X Z U H s->wi U H R ->
  wpAny (!5) X.A (eval iter X.env) (λv s1=>wpAny (!5) X.A (pyIter v) (PIE X Z U tg R) X.xe s1) X.xe s
def zRC {o:Obj}{n:String}{vs:jo}(ho:s.heap.get? it=some o)(hc:o.cls = .type n)(hd:o.data = .fields vs)(hn:["enumerate","zip","dict_itemiterator","dict_reverseitemiterator","odict_iterator","itertools.zip_longest","itertools.pairwise"].contains n=false) (hQ:Q () s):wpAny M A (letOwnedTupleGo tg (.ref it) u) Q E s:=by
 cases tg<;>first
   | exact Qi hQ
   | (cases u<;>first
       | exact Qi hQ
       | (refine Qw (wpAny_load ho ?_)
          rw[hc,hd];show wpAny M A (if _=true then _ else _) Q E s;rw[Qv (by intro h;rw[hn] at h;cases h)];exact Qi hQ))
def Itl (K:jk)(a:qu):It :=
 ⟨λi H=>∃xs x,SqL K H a xs/\xs[i]?=some x,λi H x H'=>H'=H/\∀xs,SqL K H a xs->xs[i]?=some x,λi H=>∃xs,SqL K H a xs/\xs.length<=i⟩
def Itt (K:jk)(a:qu):It :=
 ⟨λi H=>∃xs x,SqT K H a xs/\xs[i]?=some x,λi H x H'=>H'=H/\∀xs,SqT K H a xs->xs[i]?=some x,λi H=>∃xs,SqT K H a xs/\xs.length<=i⟩
def Itr (lo:Int)(n:Nat):It:=⟨λi _=>i < n,λi H x H'=>H'=H/\x = .int (lo+i),λi _=>n<=i⟩
theorem zMO (a it:qu):Turn P w K tg (Itl K a) [it] it (λi h=>h.IsListIter it a i) where
 mem:=je
 obj:=λi h st b hb=>by
  have e:=by simpa using hb
  subst e;obtain⟨o,e,c,d⟩:=st;exact⟨o,e,λv z=>by rw[d] at z;cases z⟩
 keep:=λi h h' st k=>st.at λo e=>k it je o e
 item:=by
  sleep 6
  subst hP hw hK;obtain⟨xs,x,hq,hx⟩:=hg;obtain⟨j6,rv,p,hz⟩:=I.list hq;obtain⟨u,hu,ru⟩:=rv.get hx;obtain⟨f0,f1,f2,f3,f4,f5⟩:=hf it je;refine wpAny_pyNext_list_item st p.isList (by simpa using hu) λh' st' sb=>?_;obtain⟨o,e,c,d⟩:=id st';exact⟨u,J,zRC e c d J ⟨x,H,(I.turned (t':=_) (λb o hb e=>(sb.2 b hb).trans e) f0 f1 f3 f4 f5),ru,⟨J,λys hy=>by rw[I.list_inj hy hq];exact hx⟩,st',λb hb=>(hf b hb).1⟩⟩
 done:=by
  sleep 6
  subst hP hw hK;obtain⟨xs,hq,hx⟩:=hg;obtain⟨j6,rv,p,hz⟩:=I.list hq;obtain⟨f0,f1,f2,f3,f4,f5⟩:=hf it je;have hl:=rv.length;exact wpAny_pyNext_list_end (I.ok.hd hc) st p.isList (!8) λh' eb=>⟨J,I.turned (λb o hb e=>eb b o hb e) f0 f1 f3 f4 f5⟩
 self:=λ_ _ _ _ _ st h=>wpAny_pyIter_listiter st h
theorem zPy (a it:qu):Turn P w K tg (Itt K a) [it] it (λi h=>h.IsTupleIter it a i) where
 mem:=je
 obj:=λi h st b hb=>by
  have e:=by simpa using hb
  subst e;obtain⟨o,e,c,d⟩:=st;exact⟨o,e,λv z=>by rw[d] at z;cases z⟩
 keep:=λi h h' st k=>st.at λo e=>k it je o e
 item:=by
  sleep 6
  subst hP hw hK;obtain⟨xs,x,hq,hx⟩:=hg;obtain⟨j6,rv,p,hz⟩:=I.tuple hq;obtain⟨u,hu,ru⟩:=rv.get hx;obtain⟨f0,f1,f2,f3,f4,f5⟩:=hf it je;refine wpAny_pyNext_tuple_item st (p) (x:=u) (by simpa using hu) λh' st' sb=>?_;obtain⟨o,e,c,d⟩:=id st';exact⟨u,J,zRC (s:=(!18)) e c d jb ⟨x,H,(I.turned (t':=_) (λb o hb e=>(sb.2 b hb).trans e) f0 f1 f3 f4 f5),ru,⟨J,λys hy=>by rw[I.tuple_inj hy hq];exact hx⟩,st',λb hb=>(hf b hb).1⟩⟩
 done:=by
  sleep 6
  subst hP hw hK;obtain⟨xs,hq,hx⟩:=hg;obtain⟨j6,rv,p,hz⟩:=I.tuple hq;obtain⟨f0,f1,f2,f3,f4,f5⟩:=hf it je;have hl:=rv.length;exact wpAny_pyNext_tuple_end (I.ok.hd hc) st (p) (by simp;lia) λh' eb=>⟨J,I.turned (t':=_) (λb o hb e=>eb b o hb e) f0 f1 f3 f4 f5⟩
 self:=λ_ _ _ _ _ st h=>wpAny_pyIter_tupleiter st h
theorem zQb (it:qu)(lo:Int)(n:Nat):Turn P w K tg (Itr lo n) [it] it (λi h=>IsRangeIter h it (lo+(i:Nat)*1) ((n:Int) - (i:Nat)) 1) where
 mem:=je
 obj:=λi h st b hb=>by simp_all
 keep:=λi h h' st k=>k it je _ st
 item:=by
  sleep 6
  subst hP hw hK;obtain⟨f0,f1,f2,f3,f4,f5⟩:=hf it je;refine(Walks.range (prog:=_) (w:=X.w) (I.ok.hd hc) it lo 1 n).item i s _ _ hg st λv h' tk hv st' kk=>?_;obtain⟨t,rfl⟩:=hv;have I1:Inv X Z U H (!31):=I.turned (λb o hb e=>kk b o (!8) e) f0 f1 f3 f4 f5;refine⟨_,J,zRC st' J J J ⟨.int _,H,I1,⟨t,?_⟩,⟨J,J⟩,st',λb hb=>(hf b hb).1⟩⟩;rw[Int.mul_one]
 done:=by
  sleep 6
  obtain⟨f0,f1,f2,f3,f4,f5⟩:=hf it je;exact wpAny_pyNext_range_end (I.ok.hd hc) st (by have:n<=i:=hg;lia) λh' eb=>⟨J,I.turned (λb o hb e=>eb b o hb e) f0 f1 f3 f4 f5⟩
 self:=λ_ _ _ _ _ st h=>wpAny_pyIter_rangeiter st h
def zEL (K:jk)(tl:TE):TI:=λU H R=>tl U H λx H1=>∃a,x = .ref a/\(∃xs,SqL K H1 a xs)/\R (Itl K a) H1
def zDt (K:jk)(tl:TE):TI:=λU H R=>tl U H λx H1=>∃a,x = .ref a/\(∃xs,SqT K H1 a xs)/\R (Itt K a) H1
def zNT (hl:PE X l tl):PI X tg l<|zEL X.K tl:=by
 refineλZ s U H R I h=>thn (hl Z s U H _ I h) λv s1 ⟨x,H1,I1,r1,q1⟩=>?_;obtain⟨a,e,⟨xs,hq⟩,q⟩:=q1;subst e;cases r1;obtain⟨j6,rv,p,hz⟩:=I1.list hq;refine Tg p.isList ⟨s1.heap.objs.size,[s1.heap.objs.size],_,_,H1,J,I1.kept λb o e=>Qe _ e,zMO a _,⟨_,Qs _ J,J,J⟩,λb hb=>?_,q⟩;have e:=by simpa using hb
 subst e;exact I1.fpOk (Qg _)<|I1.hok.fresh<|Qg _
def zFD (hl:PE X l tl):PI X tg l<|zDt X.K tl:=by
 refineλZ s U H R I h=>thn (hl Z s U H _ I h) λv s1 ⟨x,H1,I1,r1,q1⟩=>?_;obtain⟨a,e,⟨xs,hq⟩,q⟩:=q1;subst e;cases r1;obtain⟨j6,rv,p,hz⟩:=I1.tuple hq;refine Yy (p) ⟨s1.heap.objs.size,[s1.heap.objs.size],_,_,H1,J,I1.kept λb o e=>Qe _ e,zPy a _,⟨_,Qs _ J,J,J⟩,λb hb=>?_,q⟩;have e:=by simpa using hb
 subst e;exact I1.fpOk (Qg _)<|I1.hok.fresh<|Qg _
def zS1 {R:It->Hp->Prop}{lo hi:Int}{t u v:Tok}(I:!4)(h1 : -(2^62)<=lo)(h2:lo < 2^62)(h3 : -(2^62)<=hi)(h4:hi < 2^62)(q:R (Itr lo (hi - lo).toNat) H):wpAny (!5) X.A (pyIter<|.ref s.heap.objs.size) (PIE X Z U tg R) E { s with heap:=s.heap.push { cls:=.type "range",data:=.fields #[.int lo t,.int hi u,.int 1 v] },toks:=tk }:=by
 refine wpAny_pyIter_range (IsRange.new ..) (small_one h1 h2 h3 h4) ?_;have I1:Inv X Z U H { s with heap:=s.heap.push { cls:=.type "range",data:=.fields #[.int lo t,.int hi u,.int 1 v] },toks:=tk }:=I.kept λb o e=>Qe _ e;refine⟨(s.heap.push { cls:=.type "range",data:=.fields #[.int lo t,.int hi u,.int 1 v] }).objs.size,[(s.heap.push { cls:=.type "range",data:=.fields #[.int lo t,.int hi u,.int 1 v] }).objs.size],_,_,H,J, I1.kept λb o e=>Qe _ e,zQb _ lo (hi - lo).toNat,?_,λb hb=>?_,q⟩
 .have e1:lo+((0:Nat))*1=lo:=by simp
  have e2:(((hi - lo).toNat)) - ((0:Nat))=Builtin.Range.rangeSize lo hi 1:=by rw[rangeSize_one];split<;>lia
  rw[e1,e2];exact Qs _ J
 .have e:b=(s.heap.push { cls:=.type "range",data:=.fields #[.int lo t,.int hi u,.int 1 v] }).objs.size:=by simpa using hb
  subst e;exact I1.fpOk (Qg _)<|I1.hok.fresh<|Qg _
def zER (ta:TA):TI:=λU H R=>ta U H λvs H1=>∃j:Int,vs=[.int j] /\ -(2^62)<=j/\j < 2^62/\R (Itr 0 j.toNat) H1
def zEN (ta:TA):TI:=λU H R=>ta U H λvs H1=>∃i j:Int,vs=[.int i,.int j]/\(-(2^62)<=i/\i < 2^62 /\ -(2^62)<=j/\j < 2^62)/\R (Itr i (j - i).toNat) H1
def zM3 {a:r8}{ta:TA}(hg:Gl X "range")(hm:X.mg "range"=none)(ha:PA X [a] ta)(hs:!34:=by rfl):PI X tg (.Call (.Name "range" p) [a] [] pos)<|zER ta:=by
 refineλZ s U H R I h=>Call_<|iQ I hg hm boot_range<|Rf (thn (ha pos Z s U H _ I h) λus s1 ⟨vs,H1,I1,r1,q1⟩=>?_) hs rfl;obtain⟨j,e,q1,q2,q⟩:=q1;subst e;cases r1 with
 | cons r rr =>cases rr;obtain⟨t,rfl⟩:=r;exact call_range_1<|zS1 I1 jc jc q1 q2 (!8)
def zNI {a b:r8}{ta:TA}(hg:Gl X "range")(hm:X.mg "range"=none)(ha:PA X [a,b] ta)(hs:starEach [a,b] X.env=[(false,eval a X.env),(false,eval b X.env)]:=by rfl)(hs2:starEach [b] X.env=[(false,eval b X.env)]:=by rfl):PI X tg (.Call (.Name "range" p) [a,b] [] pos)<|zEN ta:=by
 refineλZ s U H R I h=>Call_<|iQ I hg hm boot_range<|Rf (thn (ha pos Z s U H _ I h) λus s1 ⟨vs,H1,I1,r1,q1⟩=>?_) (!8) (by rw[hs2];rfl);obtain⟨i,j,e,⟨q1,q2,q3,q4⟩,q⟩:=q1;subst e;cases r1 with
 | cons r rr =>
  cases rr with
  | cons r' rr =>cases rr;obtain⟨t,rfl⟩:=r;obtain⟨t',rfl⟩:=r';exact call_range_2<|zS1 I1 q1 q2 q3 q4 q
def zDI (wi:TI)(g:TG)(tb:TS):TS:=λD U H=>wi U H λya H1=>∃W:Nat->Nat->St->Hp->Prop,(∃m,W 0 m U H1)/\∀i m U H,W i m U H ->
 (ya.stop i H/\D.nx U H)\/(ya.go i H/\∃N:St->Hp->Prop,(∀U' H',N U' H'->∃m',m' < m/\W (i+1) m' U' H')/\∀x H',ya.yld i H x H'->g x U H' λσ2 H2=>tb { D with nx:=N,ct:=N,bk:=D.nx } σ2 H2)
def zW8 (fp:ko)(h:qx):jm:=fp.filterMap λb=>(h.get? b).map λo=>(b,o)
def iJ {b:qu}{o:Obj}(hb:b∈fp)(e:h.get? b=some o):(b,o)∈zW8 fp h:=List.mem_filterMap.mpr ⟨b,hb,by rw[e];rfl⟩
def zMC {p:qu×Obj}(hp:p∈zW8 fp h):p.1∈fp/\h.get? p.1=some p.2:=by
 obtain⟨b,hb,e⟩:=List.mem_filterMap.mp hp;cases q:h.get? b with
 | none=>rw[q] at e;cases e
 | some o =>rw[q] at e;have e':=Rs e;subst e';exact⟨hb,q⟩
theorem Inv.pinned (I:!4)(hf:∀b∈fp,fB X Z H b)(ho:∀b∈fp,∃o,s.heap.get? b=some o/\∀v,o.data ≠ .cell v):Inv X (Z++zW8 fp s.heap) U H s :=
 I.pins_of λp hp=>(v6 hp).elim (λz=>I.pin p<|Ws _ z) λz=>by obtain⟨hb,e⟩:=zMC z;obtain⟨f0,f1,f2,_⟩:=hf p.1 hb;obtain⟨o,e',d⟩:=ho p.1 hb;rw[e] at e';cases e';exact⟨e,f0,f1,f2,d⟩
def Inv.unpinned {pl:jm}(I:Inv X (Z++pl) U H s):Inv X Z U H s:=I.pins_of λp hp=>I.pin p<|Ws _<|Yz _ hp
def zFP {wi:TI}{g:TG}{tb:TS}(hp:PassesOwn (!5) X.A X.env X.xe)(hc:!23)(hi:PI X tg iter wi)(hg:PG X tg g)(hb:PSs X body tb)(hs:∀x,foldedSetIterable iter X.env x=pure x:=by intro _;rfl):PS X (.For tg iter body [] pos)<|zDI wi g tb:=by
 refineλZ s U H D I h=>wpAny_For (thn (hi Z s U H _ I h) λv s1 h1=>thn h1 λitv s2 h2=>?_) hs;obtain⟨it,fp,tn,ya,H2,e,I2,T,st2,f2,W,⟨m0,w0⟩,turn⟩:=h2;subst e;have stat:∀ {H':Hp},(∀b∈fp,H' b=none)->∀b∈fp,fB X Z H' b:=λhn b hb=>⟨hn b hb,(f2 b hb).2⟩
 refine codeAny_forLoop_any (λn s'=>∃i U' H',Inv X Z U' H' s'/\tn i s'.heap/\(∀b∈fp,H' b=none)/\W i n U' H') ?_ m0 ⟨0,U,H2,I2,st2,λb hb=>(f2 b hb).1,w0⟩;rintro n s3 ⟨i,σ3,H3,I3,st3,fr3,w3⟩;rcases turn i n σ3 H3 w3 with⟨stop,qn⟩ | ⟨go,N,hN,step⟩
 .refine Ti hp (thn (T.done X J J J hc i Z s3 σ3 H3 X.xe I3 (stat fr3) st3 stop) λr s4 ⟨hr,I4⟩=>?_);subst hr;exact Yt ⟨σ3,H3,I4,qn⟩
 .refine Ti hp (thn (T.item X J J J hc i Z s3 σ3 H3 X.xe I3 (stat fr3) st3 go) λr s4 ⟨u,hr,h4⟩=>?_);subst hr;refine Ti hp<|thn h4 λ_ s5 ⟨x,H5,I5,r5,y5,st5,fr5⟩=>Ti hp<|thn (hg _ s5 σ3 H5 x u _ (I5.pinned (stat fr5)<|T.obj _ _ st5) r5<|step x H5 y5) λ_ s6 ⟨σ6,H6,I6,q6⟩=>Ti hp<|thn (hb _ s6 σ6 H6 _ I6 q6) λf s7 q7=>?_;have again:∀ {σ7:St} {H7:Hp},Inv X (Z++zW8 fp _) σ7 H7 s7->N σ7 H7->∃m,m < n/\∃i U' H',Inv X Z U' H' s7/\tn i _/\(∀b∈fp,H' b=none)/\W i m U' H':=λ{σ7 H7} I7 n7=>by
   obtain⟨m',hm,w7⟩:=hN σ7 H7 n7;refine⟨m',hm,i+1,σ7,H7,I7.unpinned,T.keep _ _ _ st5 λb hb o e=>(I7.pin (b,o)<|Ws _<|Ws _<|iJ hb e).1,λb hb=>?_,w7⟩;obtain⟨o,e,d⟩:=T.obj _ _ st5 b hb;exact(I7.pin (b,o)<|Ws _<|Ws _<|iJ hb e).2.1
  cases f with
  | next=>obtain⟨σ7,H7,I7,n7⟩:=q7;exact again I7 n7
  | cont=>obtain⟨σ7,H7,I7,n7⟩:=q7;exact again I7 n7
  | brk=>obtain⟨σ7,H7,I7,q7⟩:=q7;exact⟨σ7,H7,I7.unpinned,q7⟩
  | ret v=>obtain⟨x7,σ7,H7,I7,r7,q7⟩:=q7;exact⟨x7,σ7,H7,I7.unpinned,r7,q7⟩
abbrev R2:=V->V->Hp->VK->Prop
def OpR (X:Cx)(f:qv->qv->Sem qv)(r:R2):Prop :=
 ∀(Z:jm) (s:qw) (U:St) (H:Hp) (x y:V) (v u:qv) (Q:VK),Inv X Z U H s->RelV x v->RelV y u->r x y H Q ->
  wpAny (!5) X.A (f v u) (EP X Z U Q) X.xe s
def UnR (X:Cx)(f:qv->Sem qv)(r:V->Hp->VK->Prop):Prop :=
 ∀(Z:jm) (s:qw) (U:St) (H:Hp) (x:V) (v:qv) (Q:VK),Inv X Z U H s->RelV x v->r x H Q ->
  wpAny (!5) X.A (f v) (EP X Z U Q) X.xe s
def CallR (X:Cx)(f:qv)(r:kl->Hp->VK->Prop):Prop :=
 ∀(Z:jm) (s:qw) (U:St) (H:Hp) (xs:kl) (us:jn) (Q:VK),Inv X Z U H s->Vals xs us->r xs H Q ->
  wpAny (!5) X.A (call f us) (EP X Z U Q) X.xe s
def zDy (X:Cx)(r:V->Hp->(Bool->Hp->Prop)->Prop):Prop :=
 ∀(Z:jm) (s:qw) (U:St) (H:Hp) (x:V) (v:qv) (Q:Bool->Hp->Prop),Inv X Z U H s->RelV x v->r x H Q ->
  wpAny (!5) X.A (truthy v) (TP X Z U Q) X.xe s
def tOp (r:R2)(ta tb:TE):TE:=λU H Q=>ta U H λx H1=>tb U H1 λy H2=>r x y H2 Q
def tUn (r:V->Hp->VK->Prop)(ta:TE):TE:=λU H Q=>ta U H λx H1=>r x H1 Q
def rI (C:Int->Int->Prop)(g:Int->Int->V):R2:=λx y H Q=>∃i j,x = .int i/\y = .int j/\C i j/\Q (g i j) H
def rI0 (g:Int->Int->V):R2:=λx y H Q=>∃i j,x = .int i/\y = .int j/\Q (g i j) H
def rU (g:Int->V):V->Hp->VK->Prop:=λx H Q=>∃i,x = .int i/\Q (g i) H
section
variable{a b:r8}
def zGj (ha:PE X a ta)(hb:PE X b tb){R:V->V->Hp->Prop}(I:!4)(h:ta U H λx H1=>tb U H1 λy H2=>R x y H2) {Q:jl}(hf:∀v u s2 x y H2,Inv X Z U H2 s2->RelV x v->RelV y u->R x y H2->wpAny (!5) X.A (f v u) Q X.xe s2):wpAny (!5) X.A (eval a X.env) (λv s₁=>wpAny (!5) X.A (eval b X.env) (λu s₂=>wpAny (!5) X.A (f v u) Q X.xe s₂) X.xe s₁) X.xe s:=by exact thn (ha Z s U H _ I h) λv s1 ⟨x,H1,I1,r1,q1⟩=>thn (hb Z s1 U H1 _ I1 q1) λu s2 ⟨y,H2,I2,r2,q2⟩=>hf v u s2 x y H2 I2 r1 r2 q2
def zYr {op:Operator}{r:R2}(ho:OpR X (binaryOp op) r)(ha:PE X a ta)(hb:PE X b tb):PE X (.BinOp a op b pos)<|tOp r ta tb:=by exactλZ s U H Q I h=>wpAny_BinOp<|zGj ha hb I h λv u s2 x y H2 I2 rx ry q=>ho Z s2 U H2 x y v u Q I2 rx ry q
def zED {op:UnaryOp}{r:V->Hp->VK->Prop}(ho:UnR X (unaryOp op) r)(ha:PE X a ta):PE X (.UnaryOp op a pos)<|tUn r ta:=by exactλZ s U H Q I h=>UnaryOp_<|thn (ha Z s U H _ I h) λv s1 ⟨x,H1,I1,r1,q1⟩=>ho Z s1 U H1 x v Q I1 r1 q1
def opI {C:Int->Int->Prop}(rule:∀(i j:Int) (t u:Tok) (s:qw) (Q:jl) (E:jl),C i j->Q (.int (g i j) s.toks) { s with toks:=s.toks+1 }->wpAny (!5) X.A (f (.int i t)<|.int j u) Q E s):OpR X f<|rI C λi j=>.int<|g i j:=by intro Z s U H x y v u Q I rx ry h;obtain⟨i,j,rfl,rfl,hc,q⟩:=h;obtain⟨t,rfl⟩:=rx;obtain⟨t',rfl⟩:=ry;exact rule i j t t' s _ _ hc ⟨.int _,H,I.tok _,⟨_,J⟩,q⟩
def zIx (rule:∀(i j:Int) (t u:Tok) (s:qw) (Q:jl) (E:jl),Q (.int (g i j) s.toks) { s with toks:=s.toks+1 }->wpAny (!5) X.A (f (.int i t)<|.int j u) Q E s):OpR X f<|rI0 λi j=>.int<|g i j:=by intro Z s U H x y v u Q I rx ry h;obtain⟨i,j,rfl,rfl,q⟩:=h;obtain⟨t,rfl⟩:=rx;obtain⟨t',rfl⟩:=ry;exact rule i j t t' s _ _ ⟨.int _,H,I.tok _,⟨_,J⟩,q⟩
def zIZ {g:Int->Int->Bool}(rule:∀(i j:Int) (t u:Tok) (s:qw) (Q:jl) (E:jl),Q (.bool<|g i j) s->wpAny (!5) X.A (f (.int i t)<|.int j u) Q E s):OpR X f<|rI0 λi j=>.bl<|g i j:=by intro Z s U H x y v u Q I rx ry h;obtain⟨i,j,rfl,rfl,q⟩:=h;obtain⟨t,rfl⟩:=rx;obtain⟨t',rfl⟩:=ry;exact rule i j t t' s _ _ ⟨.bl _,H,I,J,q⟩
def zDo (i j:Int):Prop:=0 < j/\j < 1073741824
def zDU (i j:Int):Prop:=0<=j/\j<=1000000/\i.natAbs < 2^64
def CMul (i j:Int):Prop:=(-(2^64) < i/\i < 2^64)\/(-(2^64) < j/\j < 2^64)
def CMul.ok {i j:Int}(h:CMul i j):IntMulOk i j:=by
 rcases h with⟨h1,h2⟩ | ⟨h1,h2⟩
 .exact .of_left (intBits_le_64 h1 h2)
 .exact .of_right (intBits_le_64 h1 h2)
def zQ5 (k:Nat):(0:Int)<=2^k:=by exact Int.natCast_nonneg _
def zKM:OpR X (binaryOp .Add)<|rI0 λi j=>.int<|i+j:=zIx λ_ _ _ _ _ _ _ q=>add_int q
def zGv:OpR X (binaryOp .Sub)<|rI0 λi j=>.int<|i - j:=zIx λ_ _ _ _ _ _ _ q=>sub_int q
def zG0:OpR X (binaryOp .Mult)<|rI CMul λi j=>.int<|i*j:=opI λ_ _ _ _ _ _ _ hc q=>mul_int q hc.ok
theorem zHu:OpR X (binaryOp .FloorDiv)<|rI zDo λi j=>.int<|i / j:=opI λi j _ _ _ _ _ hc q=>by have h1:=hc.1;have h2:=hc.2;exact floordiv_int jc (by rw[Uy i jc];exact q)<|.inl<|PyProof.noPylong_small jc
theorem zFZ:OpR X (binaryOp .Mod)<|rI (λ_ j=>0 < j) λi j=>.int<|i % j:=opI λi j _ _ _ _ _ hc q=>by exact mod_int' jc (by rw[Int.fmod_eq_emod_of_nonneg i jc];exact q)
def zFC:OpR X (binaryOp .LShift)<|rI zDU λi j=>.int<|i*2^j.toNat:=opI λ_ _ _ _ _ _ _ hc q=>lshift_int_small hc.1 hc.2.1 hc.2.2 q
def zGm:OpR X (binaryOp .RShift)<|rI (λ_ j=>0<=j) λi j=>.int<|i / 2^j.toNat:=opI λi j _ _ _ _ _ hc q =>rshift_int hc (by rw[Uy i<|zQ5 _];exact q)
def zG1:OpR X (binaryOp .BitAnd)<|rI0 λi j=>.int<|Builtin.bitAnd i j:=zIx λ_ _ _ _ _ _ _ q=>and_int q
def zG5:OpR X (binaryOp .BitXor)<|rI0 λi j=>.int<|Builtin.bitXor i j:=zIx λ_ _ _ _ _ _ _ q=>xor_int q
def unI {f:qv->Sem qv}{g:Int->Int}(rule:∀(i:Int) (t:Tok) (s:qw) (Q:jl) (E:jl),Q (.int (g i) s.toks) { s with toks:=s.toks+1 }->wpAny (!5) X.A (f<|.int i t) Q E s):UnR X f<|rU λi=>.int<|g i:=by intro Z s U H x v Q I rx h;obtain⟨i,rfl,q⟩:=h;obtain⟨t,rfl⟩:=rx;exact rule i t s _ _ ⟨.int _,H,I.tok _,⟨_,J⟩,q⟩
def zFN:UnR X (unaryOp .USub)<|rU λi=>.int (-i):=unI λ_ _ _ _ _ q=>neg_int q
def zFl:V->V->Bool
 | .non,.non=>true | .non,.int _=>true | .int _,.non=>true | .non,.bl _=>true | .bl _,.non=>true | .non,.str _=>true | .str _,.non=>true
 | .int _,.int _=>true | .bl _,.bl _=>true | .str _,.str _=>true | .byt _,.byt _=>true
 | .int _,.str _=>true | .str _,.int _=>true | .bl _,.str _=>true | .str _,.bl _=>true
 | _,_=>false
def rEq:R2:=λx y H Q=>zFl x y=true/\Q (.bl (decide (x=y))) H
def rNe:R2:=λx y H Q=>zFl x y=true/\Q (.bl (!decide (x=y))) H
def zPg {i j:Int}:decide (V.int i=V.int j)=(i==j):=by rw[Rq];simp
def zTM {i j:Bool}:decide (V.bl i=V.bl j)=(i==j):=by rw[Rq];simp
def zO8 {i j:Str}:decide (V.str i=V.str j)=(i==j):=by rw[Rq];simp
def zOX {i j:Array UInt8}:decide (V.byt i=V.byt j)=(i.toList==j.toList):=by rw[Rq];simp_all
variable{tc:TE}
def yB {Q:VK}{k k':Bool}(I:!4)(q:Q (.bl k) H)(e:k=k'):EP X Z U Q (.bool k') s:=by subst e;exact⟨.bl k,H,I,J,q⟩
def zEC:OpR X (compareOp .Eq) rEq:=by
 sleep 5
 obtain⟨hs,q⟩:=h;cases x with
 | non =>
  cases rx;cases y with
  | non=>cases ry;exact PySem.EqNone.eq_none_none<|yB I q rfl
  | bl j=>cases ry;exact PySem.EqNone.eq_none_bool<|yB I q rfl
  | int j=>obtain⟨t',rfl⟩:=ry;exact PySem.EqNone.eq_none_int<|yB I q rfl
  | str j=>obtain⟨t',rfl⟩:=ry;exact PySem.EqNone.eq_none_str<|yB I q rfl
  | _=>exact absurd (hs) Wl
 | bl i =>
  cases rx;cases y with
  | non=>cases ry;exact PySem.EqNone.eq_bool_none<|yB I q rfl
  | bl j=>cases ry;exact eq_bool<|yB I q zTM
  | str j=>obtain⟨t',rfl⟩:=ry;exact PySem.EqMixed.eq_bool_str<|yB I q rfl
  | _=>exact absurd (hs) Wl
 | int i =>
  obtain⟨t,rfl⟩:=rx;cases y with
  | non=>cases ry;exact PySem.EqNone.eq_int_none<|yB I q rfl
  | int j=>obtain⟨t',rfl⟩:=ry;exact eq_int<|yB I q zPg
  | str j=>obtain⟨t',rfl⟩:=ry;exact PySem.EqMixed.eq_int_str<|yB I q rfl
  | _=>exact absurd (hs) Wl
 | str i =>
  obtain⟨t,rfl⟩:=rx;cases y with
  | non=>cases ry;exact PySem.EqNone.eq_str_none<|yB I q rfl
  | bl j=>cases ry;exact PySem.EqMixed.eq_str_bool<|yB I q rfl
  | int j=>obtain⟨t',rfl⟩:=ry;exact PySem.EqMixed.eq_str_int<|yB I q rfl
  | str j=>obtain⟨t',rfl⟩:=ry;exact eq_str<|yB I q zO8
  | _=>exact absurd (hs) Wl
 | byt i =>
  obtain⟨t,rfl⟩:=rx;cases y with
  | byt j=>obtain⟨t',rfl⟩:=ry;exact eq_bytes<|yB I q zOX
  | _=>exact absurd (hs) Wl
 | _=>cases y<;>exact absurd (show false=true from hs) Wl
def zEH:OpR X (compareOp .NotEq) rNe:=by
 sleep 5
 obtain⟨hs,q⟩:=h;cases x with
 | non =>
  cases rx;cases y with
  | non=>cases ry;exact PySem.EqNone.ne_none_none<|yB I q rfl
  | bl j=>cases ry;exact PySem.EqNone.ne_none_bool<|yB I q rfl
  | int j=>obtain⟨t',rfl⟩:=ry;exact PySem.EqNone.ne_none_int<|yB I q rfl
  | str j=>obtain⟨t',rfl⟩:=ry;exact PySem.EqNone.ne_none_str<|yB I q rfl
  | _=>exact absurd (hs) Wl
 | bl i =>
  cases rx;cases y with
  | non=>cases ry;exact PySem.EqNone.ne_bool_none<|yB I q rfl
  | bl j=>cases ry;exact ne_bool<|yB I q<|Wi not zTM
  | str j=>obtain⟨t',rfl⟩:=ry;exact PySem.EqMixed.ne_bool_str<|yB I q rfl
  | _=>exact absurd (hs) Wl
 | int i =>
  obtain⟨t,rfl⟩:=rx;cases y with
  | non=>cases ry;exact PySem.EqNone.ne_int_none<|yB I q rfl
  | int j=>obtain⟨t',rfl⟩:=ry;exact ne_int<|yB I q<|Wi not zPg
  | str j=>obtain⟨t',rfl⟩:=ry;exact PySem.EqMixed.ne_int_str<|yB I q rfl
  | _=>exact absurd (hs) Wl
 | str i =>
  obtain⟨t,rfl⟩:=rx;cases y with
  | non=>cases ry;exact PySem.EqNone.ne_str_none<|yB I q rfl
  | bl j=>cases ry;exact PySem.EqMixed.ne_str_bool<|yB I q rfl
  | int j=>obtain⟨t',rfl⟩:=ry;exact PySem.EqMixed.ne_str_int<|yB I q rfl
  | str j=>obtain⟨t',rfl⟩:=ry;exact ne_str<|yB I q<|Wi not zO8
  | _=>exact absurd (hs) Wl
 | byt i =>
  obtain⟨t,rfl⟩:=rx;cases y with
  | byt j=>obtain⟨t',rfl⟩:=ry;exact ne_bytes<|yB I q<|Wi not zOX
  | _=>exact absurd (hs) Wl
 | _=>cases y<;>exact absurd (show false=true from hs) Wl
def zDR:OpR X (compareOp .Lt)<|rI0 λi j=>.bl (decide (i < j)):=zIZ λ_ _ _ _ _ _ _ q=>lt_int q
def zEF:OpR X (compareOp .LtE)<|rI0 λi j=>.bl (decide (i<=j)):=zIZ λ_ _ _ _ _ _ _ q=>le_int q
def zEf:OpR X (compareOp .Gt)<|rI0 λi j=>.bl (decide (j < i)):=zIZ λ_ _ _ _ _ _ _ q=>gt_int q
def zEK:OpR X (compareOp .GtE)<|rI0 λi j=>.bl (decide (j<=i)):=zIZ λ_ _ _ _ _ _ _ q=>ge_int q
def zMF:OpR X (compareOp .Lt) (λx y H Q=>∃i j,x = .str i/\y = .str j/\Q (.bl (decide (i.cps.toList < j.cps.toList))) H):=by
 sleep 5
 obtain⟨i,j,rfl,rfl,q⟩:=h;obtain⟨t,rfl⟩:=rx;obtain⟨t',rfl⟩:=ry;exact lt_str<|yB I q rfl
def zFw:OpR X (compareOp .Is) λx y H Q=>y = .non/\Q (.bl (decide (x = .non))) H:=by
 sleep 5
 obtain⟨rfl,q⟩:=h;cases ry;refine is_none_gen<|yB I q ?_;cases x<;>first
  | (cases rx;rfl)
  | (obtain⟨t,rfl⟩:=rx;rfl)
def zHZ:OpR X (compareOp .IsNot) λx y H Q=>y = .non/\Q (.bl (!decide (x = .non))) H:=by
 sleep 5
 obtain⟨rfl,q⟩:=h;cases ry;refine isnot_none_gen<|yB I q ?_;cases x<;>first
  | (cases rx;rfl)
  | (obtain⟨t,rfl⟩:=rx;rfl)
def OpR.or {r r':R2}(h:OpR X f r)(h':OpR X f r'):OpR X f λx y H Q=>r x y H Q\/r' x y H Q:=by
 intro Z s U H x y v u Q I rx ry q;rcases q with q | q
 .exact h Z s U H x y v u Q I rx ry q
 .exact h' Z s U H x y v u Q I rx ry q
def zWS (b:r8)(h:op ≠ .In:=by decide)(h2:op ≠ .NotIn:=by decide):behindInMarks op b=false:=by
 have e1:(op==CmpOp.In)=false:=by cases op<;>first | rfl | exact absurd rfl h
 have e2:(op==CmpOp.NotIn)=false:=by cases op<;>first | rfl | exact absurd rfl h2
 cases b<;>simp[behindInMarks,e1,e2]
def zIa {r:R2}(ho:OpR X (compareOp op) r)(ha:PE X a ta)(hb:PE X b tb)(hm:behindInMarks op b=false):PE X (.Compare a [op] [b] pos)<|tOp r ta tb:=by exactλZ s U H Q I h=>wpAny_Compare1 (zGj ha hb I h λv u s2 x y H2 I2 rx ry q=>ho Z s2 U H2 x y v u Q I2 rx ry q) hm
def zEt (t:TE):TT:=λU H Q=>t U H λx H'=>∃k,x = .bl k/\Q k H'
def zNY {r:R2}(ho:OpR X (compareOp op) r)(ha:PE X a ta)(hb:PE X b tb)(hm:behindInMarks op b=false):PT X (.Compare a [op] [b] pos)<|zEt<|tOp r ta tb:=by
 intro Z s U H Q I h;refine wpAny_isTrue_Compare1 (thn (ha Z s U H _ I h) λv s1 ⟨x,H1,I1,r1,q1⟩=>thn (hb Z s1 U H1 _ I1 q1) λu s2 ⟨y,H2,I2,r2,q2⟩ =>thn (ho Z s2 U H2 x y v u _ I2 r1 r2 q2) λc s3 ⟨z,H3,I3,r3,k,e,q3⟩=>?_) hm
 subst e;cases r3;exact Ev ⟨H3,I3,q3⟩
def zFT (r r':R2)(ta tb tc:TE):TE:=λU H Q=>ta U H λx H1=>tb U H1 λy H2=>r x y H2 λz H3=>∃k,z = .bl k /\
 (if k=true then tc U H3 λw' H4=>r' y w' H4 Q else Q (.bl false) H3)
def zLt {op':CmpOp}{r r':R2}(ho:OpR X (compareOp op) r)(ho':OpR X (compareOp op') r')(ha:PE X a ta)(hb:PE X b tb)(hc:PE X c tc)(hm:lastMarks [op,op'] [b,c]=false:=by with_unfolding_all rfl):PE X (.Compare a [op,op'] [b,c] pos)<|zFT r r' ta tb tc:=by
 intro Z s U H Q I h;refine Compare_chain (thn (ha Z s U H _ I h) λv s1 ⟨x,H1,I1,r1,q1⟩=>chain_link<|thn (hb Z s1 U H1 _ I1 q1) λu s2 ⟨y,H2,I2,r2,q2⟩ =>thn (ho Z s2 U H2 x y v u _ I2 r1 r2 q2) λd s3 ⟨z,H3,I3,r3,k,e,q3⟩=>?_) hm
 subst e;cases r3;refine Ev ?_;cases k with
 | false=>exact ite_ff ⟨.bl false,H3,I3,J,q3⟩
 | true=>exact ite_tt<|chain_last<|thn (hc Z s3 U H3 _ I3 q3) λw' s4 ⟨z',H4,I4,r4,q4⟩=>ho' Z s4 U H4 y z' u w' Q I4 r2 r4 q4
def zEn (K:jk)(x:V)(H:Hp)(k:Bool):Prop :=
 match x with
 | .non=>k=false
 | .bl b=>k=b
 | .int i=>k=(i != 0)
 | .str y=>y.length<=sizeLine/\k=((y.length:Int) != 0)
 | .byt y=>y.size<=sizeLine/\k=((y.size:Int) != 0)
 | .ref p=>(∃xs,SqL K H p xs/\k = !xs.isEmpty)\/(∃xs,SqT K H p xs/\k = !xs.isEmpty)\/∃j8,H p=some (.dK j8)/\k = !j8.isEmpty
 | _=>False
def zQz {j8:List<|κ×V}{vs:List<|κ×qv}(r:KV j8 vs):(!vs.isEmpty) = !j8.isEmpty:=by cases r<;>rfl
def zVR (r:Vals xs j6):(!j6.toArray.isEmpty) = !xs.isEmpty:=by cases r<;>simp
def zWF:(sizeLine:Nat) < 2^63:=by rw[Wk];decide
def zGe:zDy X (λx H Q=>∃k,zEn X.K x H k/\Q k H):=by
 intro Z s U H x v Q I rx h;obtain⟨k,e,q⟩:=h;have hs:=Wk;cases x with
 | non =>cases rx;have e':=e;subst e';exact truthy_none ⟨H,I,q⟩
 | bl b =>cases rx;have e':=e;subst e';exact Ev ⟨H,I,q⟩
 | int i =>obtain⟨t,rfl⟩:=rx;have e':=e;subst e';exact PySem.P.truthy_int ⟨H,I,q⟩
 | str y =>obtain⟨t,rfl⟩:=rx;obtain⟨hy,e'⟩:=e;subst e';exact PySem.P.truthy_str jc ⟨H,I.tok _,q⟩
 | byt y =>obtain⟨t,rfl⟩:=rx;obtain⟨hy,e'⟩:=e;subst e';exact truthy_bytes jc ⟨H,I.tok _,q⟩
 | ref p =>
  cases rx;have e':=e;rcases e' with⟨xs,hx,e'⟩ | ⟨xs,hx,e'⟩ | ⟨j8,hx,e'⟩
  .subst e';obtain⟨j6,r,pl,hz⟩:=I.list hx;have j5:=r.length;exact wpAny_truthy_list pl.isList (by simp only[Qd];lia) ⟨H,I.tok _,by rw[zVR r];exact q⟩
  .subst e';obtain⟨j6,r,pl,hz⟩:=I.tuple hx;have j5:=r.length;exact truthy_tuple pl (by simp only[Qd];lia) ⟨H,I.tok _,by rw[zVR r];exact q⟩
  .subst e';obtain⟨hz,hS,vs,r,m⟩:=I.hok p _ hx;have j5:=Td r;exact wpAny_truthy_dict hS m jc ⟨H,I.tok _,by rw[zQz r];exact q⟩
 | _=>exact(e).elim
def zLU (ha:PE X a ta)(he:∀whole,isTrue a X.env whole=(do let v ←whole;standAt a.pos;holding [v] (truthy v))) :
  PT X a (λU H Q=>ta U H λx H'=>∃k,zEn X.K x H' k/\Q k H'):=by
 exactλZ s U H Q I h=>isTrue_plain (thn (ha Z s U H _ I h) λv s1 ⟨x,H1,I1,r1,q1⟩=>zGe Z s1 U H1 x v Q I1 r1 q1)<|he _
def zPY:OpR X (binaryOp .Add) (λx y H Q=>∃i j,x = .str i/\y = .str j/\i.length+j.length<=sizeLine/\Q (.str<|i++j) H):=by
 sleep 5
 obtain⟨i,j,rfl,rfl,hz,q⟩:=h;obtain⟨t,rfl⟩:=rx;obtain⟨t',rfl⟩:=ry;exact add_str (λt' tk=>⟨.str _,H,I.tok _,⟨_,J⟩,q⟩) hz
def jM {x:V}(r:Vals [x] us):∃u,us=[u]/\RelV x u:=by
 cases r with
 | cons r1 r2=>cases r2;exact⟨_,J,r1⟩
def zUG {x:V}(r:Vals [x,y] us):∃u w',us=[u,w']/\RelV x u/\RelV y w':=by
 cases r with
 | cons r1 r2 =>
  cases r2 with
  | cons r3 r4=>cases r4;exact⟨_,_,J,r1,r3⟩
def zM1 (hc:!23):CallR X (.builtin "max") (λxs H Q=>∃i j,xs=[.int i,.int j]/\Q (.int<|if j > i then j else i) H):=by
 intro Z s U H xs us Q I r h;obtain⟨i,j,rfl,q⟩:=h;obtain⟨u,w',rfl,⟨t,rfl⟩,⟨t',rfl⟩⟩:=zUG r;refine max_two_ints (I.ok.hd hc) λh' tk k=>⟨_,H,I.kept k,?_,q⟩
 by_cases hj:j > i
 .rw[Qh hj,Qh hj];exact⟨_,J⟩
 .rw[Qv hj,Qv hj];exact⟨_,J⟩
def zNh (hc:!23):CallR X (.builtin "min") (λxs H Q=>∃i j,xs=[.int i,.int j]/\Q (.int<|if j < i then j else i) H):=by
 intro Z s U H xs us Q I r h;obtain⟨i,j,rfl,q⟩:=h;obtain⟨u,w',rfl,⟨t,rfl⟩,⟨t',rfl⟩⟩:=zUG r;refine min_two_ints (I.ok.hd hc) λh' tk k=>⟨_,H,I.kept k,?_,q⟩
 by_cases hj:j < i
 .rw[Qh hj,Qh hj];exact⟨_,J⟩
 .rw[Qv hj,Qv hj];exact⟨_,J⟩
def zML:CallR X (.type "int") (λxs H Q=>(∃i,xs=[.int i]/\Q (.int i) H)\/∃k,xs=[.bl k]/\Q (.int<|if k then 1 else 0) H):=by
 intro Z s U H xs us Q I r h;rcases h with⟨i,rfl,q⟩ | ⟨k,rfl,q⟩
 .obtain⟨u,rfl,t,rfl⟩:=jM r;exact call_int_int ⟨.int i,H,I,⟨_,J⟩,q⟩
 .obtain⟨u,rfl,r1⟩:=jM r;cases r1;exact call_int_bool ⟨.int _,H,I.tok _,⟨_,J⟩,q⟩
end
structure ObjM (h:qx)(x dx C:qu)(mA:Str->kn):Prop where
 obj:h.get? x=some (instObj C dx)
 ns:h.Ns1 dx mA
 ne:dx≠x
def zMU (n:h.Ns1 dx mA):∃od,h.get? dx=some od/\∀name,lookIn name od=some (mA name):=by
 obtain⟨o,es,ep,ho,hd,hk,_,hm⟩:=n;refine⟨o,ho,λname=>?_⟩;have e:=hm name;unfold nsFind findBy at e;rw[<-Os] at e;unfold lookIn;rw[hd];dsimp only;split
 .simp_all
 .rename_i q;have a:es.toList.any (·.refKey)=false:=by
   rw[List.any_eq_false];intro y hy;obtain⟨z,t,hkey⟩:=hk y<|Array.mem_toList_iff.mp hy;simp[DictEntry.refKey,hkey]
  simp_all
def ObjM.look {x:qu}(I:ObjM h x dx C mA):∃od,InstAt h x (instObj C dx) C (some od)/\∀name,lookIn name od=some (mA name) :=
 let ⟨od,ho,hl⟩:=zMU I.ns
 ⟨od,⟨I.obj,rfl,rfl,ho⟩,hl⟩
section
variable{x f:qu}{v:qv}
def zJd {expr:Bool}{Q:jl}(X:K.In s.heap)(I:ObjM s.heap x dx C mA)(hg:plainGet K C name=true)(hh:hasDictIn K C=true)(ha:PySem.W.findIn K (!1) name=some none) (hv:mA name=some v) (hv':handedIn v=true) (h:Q v { s with toks:=s.toks+1 }):wpAny (!9) A (getAttr (.ref x) name expr) Q E s:=by obtain⟨od,ya,hl⟩:=I.look;exact get_value X ya (Oy hg).1 (findObj_own hh ha J (!8)) hv' h
def zJD {Q:qv×qh->qw->Prop}(X:K.In s.heap)(I:ObjM s.heap x dx C mA)(hg:plainGet K C name=true)(hf:PySem.W.findIn K (!1) name=some (some<|.ref f)) (ht:isFn K (.ref f)=true) (hv:mA name=none) (h:Q (.ref f,[.ref x]) s):wpAny (!9) A (getMethod (.ref x) name pl) Q E s:=by obtain⟨od,ya,hl⟩:=I.look;exact method_fn X ya (Oy hg).1 (Oy hg).2 hf (Yc.mp ht) (by show(lookIn name od).map _=some false;rw[hl,hv];rfl) h
def zIo (X:K.In s.heap)(I:ObjM s.heap x dx C mA)(hs:PySem.W.findIn K (!1) "__setattr__"=some (some<|.builtin "object.__setattr__")) (hp:plainOver K C=true) (ht:takerIn K C name=some none) (hh:hasDictIn K C=true)(hw:PySem.Within mA ns) (hsz:ns.length<=sizeLine)(h:∀h',ObjM h' x dx C (λy=>if y=name then some v else mA y)->Heap.SameBut dx s.heap h'->Q () { s with heap:=h',toks:=s.toks+2 }):wpAny (!9) A (setAttr (.ref x) name v) Q E s:=by obtain⟨od,ya,hl⟩:=I.look;refine set_plain X ya hs<|osa_open X ya hp ht λb=>?_;obtain⟨cd,hc,hd'⟩:=any_some hh;refine Qw<|Qi<|Qw<|Qw<|Pl I.obj<|Qw<|PySem.W.Looks.here (looks_clsIn X hc) ?_;rw[hd'];refine Qi<|Qw<|Qi<|Qw<|wpAny_nsSet1 I.ns λh' hn2 hs2=>?_;obtain⟨oD,esD,epD,hoD,hdD,hcD⟩:=hn2.count<|PySem.Within.cons name v hw;exact Qw<|wpAny_lookBehind hoD (by rw[hdD];exact pastItsLine_dict<|Ww hcD (!8))<|Qi<|h _ ⟨(hs2.2 _<|Ne.symm I.ne).trans I.obj,hn2,I.ne⟩ hs2
def zLs {vs:jn}(X:K.In s.heap)(hm:makesIn K C=true)(hi:PySem.W.findIn K (!1) "__init__"=some (some<|.ref f)) (hf:typeIn K (.ref f)=some (.type "function"))(h:codeAny (!9) (A.under<|.builtin "type.__call__" ⟨.ref C::vs,kw⟩) (.call (.ref f) ⟨.ref (s.heap.objs.size+1)::vs,kw⟩) (InitBack (s.heap.objs.size+1) R) {s with heap:=(s.heap.push emptyDict).push (instObj C s.heap.objs.size) }):codeAny (!9) A (.call (!1) ⟨vs,kw⟩) R s:=make_core (makes_of X hm) (PySem.W.looks_findIn X hi) (λself=>bind_fn X self hf) (.inl J) h
end
def mO (f:Str)(v:V):qr->qr
 | []=>[(f,v)]
 | (g,x)::r=>if g=f then(g,v)::r else(g,x)::mO f v r
theorem zYw (f g:Str)(v:V):∀fs:qr,(mO f v fs).lookup g=if g=f then some v else fs.lookup g
 | []=>by
  show List.lookup g [_]=_
  by_cases h:g=f
  .simp_all
  .simp_all
 | (k,x)::r=>by
  rw[show mO f v _=(if k=f then _::r else _::mO f v r) from rfl]
  by_cases hk:k=f
  .rw[Qh hk]
   by_cases h:g=k
   .simp_all
   .have hb:=Tw.mpr h;simp only[List.lookup,hb,Qv λe:g=f=>h<|e.trans hk.symm]
  .rw[Qv hk]
   by_cases h:g=k
   .simp_all
   .have hb:=Tw.mpr h;simp only[List.lookup,hb];exact(zYw f g v r)
theorem zZl (f:Str)(v:V):∀fs:qr,f∈(mO f v fs).map (·.1)/\∀g,g∈fs.map (·.1)->g∈(mO f v fs).map (·.1)
 | []=>⟨by simp[mO],λg h=>by simp at h⟩
 | (k,x)::r=>by
  obtain⟨i1,i2⟩:=zZl f v r;rw[show mO f v _=(if k=f then _::r else _::mO f v r) from rfl]
  grind
theorem zYz (f:Str)(v:V):∀fs:qr,(mO f v fs).length<=fs.length+1
 | []=>by simp[mO]
 | (k,x)::r=>by
  have ih:=zYz f v r;rw[show mO f v _=(if k=f then _::r else _::mO f v r) from rfl]
  by_cases hk:k=f
  .simp_all
  .simp_all
def RelO.some_of (r:RelO (some v) o):∃u,o=some u/\RelV v u:=by
 cases o with
 | none=>exact(r).elim
 | some u=>exact⟨u,J,r⟩
def RelO.none_of (r:RelO none o):o=none:=by
 cases o with
 | none=>rfl
 | some u=>exact(r).elim
def zNg (r:RelV v u):handedIn u=true:=by
 cases v with
 | non=>cases (r);rfl
 | bl b=>cases (r);rfl
 | int i=>obtain⟨t,e⟩:=(r);cases e;rfl
 | str x=>obtain⟨t,e⟩:=(r);cases e;rfl
 | byt b=>obtain⟨t,e⟩:=(r);cases e;rfl
 | flt b=>obtain⟨t,e⟩:=(r);cases e;rfl
 | ref a=>cases (r);rfl
 | ty n=>cases (r);rfl
section
variable{fs:qr}
def zSY (hok:HOk P w H h)(e:H a=some (.ins C dx fs)):∃mA,ObjM h a dx C mA/\(∀f,RelO (fs.lookup f)<|mA f)/\PySem.Within mA (fs.map (·.1))/\fs.length<=1000/\H dx=some (.own a):=by
 obtain⟨d,z,ne,ob,mA,n,r,q⟩:=(hok a _ e)
 exact⟨mA,⟨ob,n,ne⟩,r,q,z,d⟩
end
structure Cls (K:jk)(C:qu):Prop where
 pg:plainGet K C Str.empty=true
 hd:hasDictIn K C=true
 po:plainOver K C=true
 sa:PySem.W.findIn K (!1) "__setattr__"=some (some<|.builtin "object.__setattr__")
def Cls.get (c:Cls K C)(f:Str):plainGet K C f=true:=c.pg
def NoAttr (K:jk)(C:qu)(f:Str):Prop:=PySem.W.findIn K (!1) f=some none
def NoAttr.taker {f:Str}(n:NoAttr K C f):takerIn K C f=some none:=by unfold takerIn;rw[show PySem.W.findIn K _ f=some none from n];rfl
structure Con (K:jk)(C:qu)(f:Str)(v:V)(u:qv):Prop where
 at_:PySem.W.findIn K (!1) f=some (some u)
 rel:RelV v u
 get:specialIn K u "__get__"=some none
 cp:copiedNames.contains f=false
structure Meth (K:jk)(C:qu)(m:Str)(f:qu):Prop where
 at_:PySem.W.findIn K (!1) m=some (some<|.ref f)
 fn:isFn K (.ref f)=true
 kp:keepIn K (.ref f)=true
section
variable{fs:qr}{f:Str}
def zPE {b:Bool}{Q:jl}(I:!4)(e:H a=some (.ins C dx fs))(c:Cls X.K C)(n:NoAttr X.K C f)(l:fs.lookup f=some v)(h:∀u s',Inv X Z U H s'->RelV v u->Q u s'):wpAny (!5) A (getAttr (.ref a) f b) Q E s:=by obtain⟨mA,O99,r,_⟩:=zSY I.hok e;obtain⟨u,hu,ru⟩:=RelO.some_of (by rw[<-l];exact r f);exact zJd I.kIn O99 (c.get f) c.hd n hu (zNg ru)<|h u _ (I.tok _) ru
def aX {g:qu}{Q:qv×qh->qw->Prop}(I:!4)(e:H a=some (.ins C dx fs))(c:Cls X.K C)(k:Meth X.K C m g)(l:fs.lookup m=none)(h:Q (.ref g,[.ref a]) s):wpAny (!5) A (getMethod (.ref a) m pl) Q E s:=by obtain⟨mA,O99,r,_⟩:=zSY I.hok e;exact zJD I.kIn O99 (c.get m) k.at_ k.fn (RelO.none_of (by rw[<-l];exact r m)) h
def zPG (I:!4)(e:H a=some (.ins C dx fs))(c:Cls X.K C)(n:NoAttr X.K C f)(hl:fs.length < 1000)(ry:RelV y u)(h:∀s',Inv X Z U (upd H a<|.ins C dx<|mO f y fs) s'->Q () s'):wpAny (!5) A (setAttr (.ref a) f u) Q E s:=by
 obtain⟨mA,O99,r,wi,_,ho⟩:=zSY I.hok e;have hz:(fs.map (·.1)).length<=sizeLine:=by rw[Qy,Wk];lia
 refine zIo I.kIn O99 c.sa c.po n.taker c.hd wi hz λh' O99' sb=>h _ ?_;have hd:∃o,h'.get? dx=some o:=let ⟨o,_,_,e',_⟩:=O99'.ns;⟨o,e'⟩;refine I.write (by rw[e];exact True.intro) (.inr ho) (λb q hb z=>(sb.2 b hb).trans z) hd ⟨by rw[zD O99.ne];exact ho,?_,O99.ne,O99'.obj,_,O99'.ns,λg=>?_,λg hg=>?_⟩
 .have:=zYz f y fs;lia
 .show RelO _ _;rw[zYw]
  by_cases q:g=f
  .rw[Qh q,Qh q];exact ry
  .simp_all
 .by_cases q:g=f
  .rw[q];exact(zZl f y fs).1
  .refine(zZl f y fs).2 g (wi g λz=>hg ?_);simp_all
def Inv.made (I:!4):Inv X Z U (upd (upd H s.heap.objs.size<|.own<|s.heap.objs.size+1) (s.heap.objs.size+1)<|.ins C s.heap.objs.size []) {s with heap:=(s.heap.push emptyDict).push (instObj C s.heap.objs.size) }:=by
 have e1:(s.heap.push emptyDict).get? _=some _:=Qs _ J;have e2:=by have:=Qs (s.heap.push emptyDict) (o:=instObj C s.heap.objs.size) J;rwa[Ri] at this
 have e3:(s.heap.push _).Ns _ _:=⟨emptyDict,#[],_,e1,J,(λe he=>absurd he je),λ_=>rfl⟩
 refine(I.laid (o:=.own<|_+1) (t':=s.toks) (λb u q=>Qe _ q) (Qg _) ⟨_,e1⟩).laid (λb u q=>Qe _ q) (Ox<|Ri _ _) ?_;have ne:s.heap.objs.size≠_+1:=Wy<|Pe _;refine⟨by rw[zD ne,zH],Er _,ne,e2,λ_=>none,(Heap.Ns1.of_empty e3).at λo q=>Qe _ q,λ_=>True.intro,λy hy=>absurd J hy⟩
def zH6 {f:Str}{Q:jl}(hb:attributeBase e f env (eval e env)=eval e env)(h:wpAny (!9) A (eval e env) (λo s₁=>wpAny (!9) A (getAttr o f true) Q E s₁) E s):wpAny (!9) A (eval (.Attribute e f pos) env) Q E s :=
 Attribute_any_ h (by rw[arm_eval_Attribute,hb])
end
def zDq (K:jk)(ta:TE)(f:Str):TE:=λU H Q=>ta U H λx H1=>∃a C dx fs v,x = .ref a/\H1 a=some (.ins C dx fs)/\Cls K C/\NoAttr K C f/\fs.lookup f=some v/\Q v H1
def zDF (K:jk)(ta tv:TE)(f:Str):TS:=λD U H=>tv U H λy H1=>ta U H1 λx H2=>∃a C dx fs,x = .ref a/\H2 a=some (.ins C dx fs)/\Cls K C/\NoAttr K C f/\fs.length < 1000 /\
 D.nx U (upd H2 a<|.ins C dx<|mO f y fs)
section
variable{o:r8}{f:Str}{tv:TE}
def zVE (he:PE X e ta)(hb:attributeBase e f X.env (eval e X.env)=eval e X.env):PE X (.Attribute e f pos)<|zDq X.K ta f:=by refineλZ s U H Q I h=>zH6 hb<|thn (he Z s U H _ I h) λu s1 ⟨x,H1,I1,rx,a,C,dx,fs,v,ex,ea,c,n,l,q⟩=>?_;subst ex;obtain rfl:=rx;exact zPE I1 ea c n l λu' s2 I2 ru=>⟨v,H1,I2,ru,q⟩
def zYS (ha:PE X o ta)(hv:PE X value tv)(hs:swapsWith value (some<|.Attribute o f pos') pos.line X.env=pure false):PS X (.Assign [.Attribute o f pos'] value pos)<|zDF X.K ta tv f:=by refineλZ s U H D I h=>plainObj_wpAny_Assign_Attribute (thn (hv Z s U H _ I h) λu s1 ⟨y,H1,I1,ry,q⟩=>thn (ha Z s1 U H1 _ I1 q) λov s2 ⟨x,H2,I2,rx,a,C,dx,fs,ex,ea,c,n,l,q2⟩=>?_) hs;subst ex;obtain rfl:=rx;exact zPG I2 ea c n l ry λs3 I3=>⟨U,_,I3,q2⟩
inductive TyOf (K:jk)(H:Hp):V->qv->Prop where
 | non:TyOf K H .non (.type "NoneType")
 | bl (x:Bool):TyOf K H (.bl x) (.type "bool")
 | int (i:Int):TyOf K H (.int i) (.type "int")
 | str (x:Str):TyOf K H (.str x) (.type "str")
 | flt (x:UInt64):TyOf K H (.flt x) (.type "float")
 | lst {a:qu} {xs:kl} (e:H a=some (.lst xs)):TyOf K H (.ref a) (.type "list")
 | frz {a:qu} {o:Obj} {xs:kl} (e:H a=some (.frz o (.lst xs))):TyOf K H (.ref a) (.type "list")
 | tup {a:qu} {xs:kl} (e:H a=some (.tup xs)):TyOf K H (.ref a) (.type "tuple")
 | dK {a:qu} {j8:List (Key×V)} (e:H a=some (.dK j8)):TyOf K H (.ref a) (.type "dict")
 | dT {a:qu} {j8:List (qj×V)} (e:H a=some (.dT j8)):TyOf K H (.ref a) (.type "dict")
 | ins {a C dx:qu} {fs:qr} (e:H a=some (.ins C dx fs)) (cl:Cls K C) (ha:PySem.W.findIn K (!1) "__class__"=some (some (!38)))
   (hn:specialIn K (!38) "__get__"=some (some<|.builtin "getset_descriptor.__get__")) (htk:takesIn K (!38)=some true)
   (hm:mroIn K C (.type "object")=some true):TyOf K H (.ref a) (!1)
end
structure Room (k:Nat)(A:qy):Prop where
 hd:A.handled=none
 dp:A.depth+3*k+5 < recursionLimit
 un:A.units+16*k+200 < cLine
theorem Room.mono {k:Nat}(r:Room k A)(h:j<=k):Room j A:=⟨r.hd,by have:=r.dp;lia,by have:=r.un;lia⟩
theorem Room.deeper {k:Nat}{A:qy}(r:Room (k+1) A)(env:Env):Room k (A.deeper env) :=
 ⟨r.hd,by have:=r.dp;show _+1+3*k+5 < _;lia,by have:=r.un;show _+3+16*k+200 < _;lia⟩
theorem Room.in1 {k:Nat}{A:qy}(r:Room (k+1) A):Room k A.in1 :=
 ⟨r.hd,by have:=r.dp;show A.depth+3*k+5 < _;lia,by have:=r.un;show _+1+16*k+200 < _;lia⟩
def zQ0:(A.under<|.builtin "type.__call__" ⟨.ref C::us,kw⟩).depth=A.depth+1:=rfl
def zQx:(A.under<|.builtin "type.__call__" ⟨.ref C::us,kw⟩).units=A.units+1:=rfl
theorem Room.make {k:Nat}(r:Room (k+1) A)(C:qu)(us:jn)(kw:List<|Str×qv):Room k (A.under<|.builtin "type.__call__" ⟨.ref C::us,kw⟩) :=
 ⟨r.hd,by have:=r.dp;rw[zQ0];lia,by have:=r.un;rw[zQx];lia⟩
def Room.depth {k:Nat}{A:qy}(r:Room k A):A.depth < recursionLimit:=by have:=r.dp;lia
def Room.units {k:Nat}{A:qy}(r:Room k A):A.units+64 < cLine:=by have:=r.un;lia
def Room.units0 {k:Nat}(r:Room k A):A.units < cLine:=by have:=r.un;lia
def zW2:TA:=λ_ H Q=>Q [] H
def fY (ta:TE)(tr:TA):TA:=λU H Q=>ta U H λx H1=>tr U H1 λxs H2=>Q (x::xs) H2
section
variable{t:TA}
def yF:PA X [] zW2:=λ_ _ _ _ H Q I h=>Calls.spliced_nil ⟨[],H,I,.nil,h⟩
def yS (ha:PE X e te)(hr:PA X es t)(hs:!24:=by rfl):PA X (e::es)<|fY te t:=by intro pos Z s U H Q I h;rw[hs];exact Calls.spliced_cons<|thn (ha Z s U H _ I h) λu s1 ⟨x,H1,I1,r1,q1⟩=>thn (hr pos Z s1 U H1 _ I1 q1) λus s2 ⟨xs,H2,I2,r2,q2⟩=>⟨x::xs,H2,I2,.cons r1 r2,q2⟩
def zDJ (t:TA):TE:=λU H Q=>t U H λxs H1=>xs.length<=sizeLine/\∀p,H1 p=none->Q (.ref p) (upd H1 p<|.tup xs)
def zDw (t:TA):TE:=λU H Q=>t U H λxs H1=>xs.length<=sizeLine/\∀p,H1 p=none->Q (.ref p) (upd H1 p<|.lst xs)
def zPi {x1}(h:PA X es t):PE X (.Tuple es x1 pos)<|zDJ t:=by refineλZ s U H Q I hq=>wpAny_Tuple_spliced<|thn (h pos Z s U H _ I hq) λus s1 ⟨xs,H1,I1,r,z,q⟩=>⟨by rw[<-r.length];exact z,⟨.ref s1.heap.objs.size,upd H1 _ _,I1.laid (λb u e=>Qe _ e) (Qg _) ?_,J,q _<|I1.hok.fresh<|Qg _⟩⟩;exact⟨z,us,r,⟨_,Qs _ J,J,_,J⟩⟩
def zF8 (h:PA X es t):PE X (.List es pos)<|zDw t:=by refineλZ s U H Q I hq=>wpAny_List_spliced<|thn (h pos Z s U H _ I hq) λus s1 ⟨xs,H1,I1,r,z,q⟩=>⟨by rw[<-r.length];exact z,⟨.ref s1.heap.objs.size,upd H1 _ _,I1.laid (λb u e=>Qe _ e) (Qg _) ?_,J,q _<|I1.hok.fresh<|Qg _⟩⟩;exact⟨z,us,0,r,Qs _ J⟩
end
abbrev Sp:=kl->Hp->VK->XK->Prop
abbrev CXT:=qb->Hp->qw->XK->qv->qw->Prop
end L2
variable{o:ql}{Q:VK}{t:TA}{l f:qu}{wi:TI}{CX:CXT}{sp:Sp}
namespace L2
structure Env0 (P:Program)(w:qz)(K:jk)(mg:Str->kn)(base:qx)(A:qy)(outer:qb)(s:qw)(H:Hp):Prop where
 frames:A.frames=some outer
 mod:Mod K mg base
 bs:∀b o,base.get? b=some o->s.heap.get? b=some o/\H b=none
 bsz:base.objs.size<=s.heap.objs.size
 funs:s.heap.FunFrames base outer
 frf:∀b∈frs outer,H b=none
 hok:HOk P w H s.heap
 bare:AllBare s.gens
def CE (outer:qb)(P:Program)(w:qz)(H:Hp)(s:qw)(Q:VK)(u:qv)(s':qw):Prop :=
 ∃v H',s'.os=s.os/\AllBare s'.gens/\Un (frs outer) [] H H' s.heap s'.heap/\HOk P w H' s'.heap/\RelV v u/\Q v H'
def CR (CX:CXT)(outer:qb)(P:Program)(w:qz)(H:Hp)(s:qw)(Q:VK)(E:XK)(r:Result)(s':qw):Prop :=
 match r with
 | .ok (.ret u)=>CE outer P w H s Q u s'
 | .ok _=>False
 | .error e=>CX outer H s E e s'
structure FnOk (P:Program)(w:qz)(K:jk)(mg:Str->kn)(base:qx)(CX:CXT)(k:Nat)(f:qu)(fd:FuncData)(ps:kh)(sp:Sp):Prop where
 len:∀vs H Q E,sp vs H Q E->vs.length=ps.length
 run:∀(A:qy) (outer:qb) (s:qw) (H:Hp) (args:Args) (us:jn) (vs:kl) (Q:VK) (E:XK),Room k A->Env0 P w K mg base A outer s H->BindsTo s fd args (ps.zip us)->Vals vs us->sp vs H Q E ->
  codeAny (model P w) A (.call (.ref f) args) (CR CX outer P w H s Q E) s
def Env0.make (e:Env0 P w K mg base A outer s H)(C:qu)(us:jn)(kw:List<|Str×qv):Env0 P w K mg base (A.under<|.builtin "type.__call__" ⟨.ref C::us,kw⟩) outer s H:=⟨by first | exact e.frames | (simpa [Around.under] using _),e.mod,e.bs,e.bsz,e.funs,e.frf,e.hok,e.bare⟩
def Env0.in1 {P:Program}{w:qz}{K:jk}{mg:Str->kn}{base:qx}{A:qy}{outer:qb}{s:qw}{H:Hp}(e:Env0 P w K mg base A outer s H):Env0 P w K mg base A.in1 outer s H:=⟨e.frames,e.mod,e.bs,e.bsz,e.funs,e.frf,e.hok,e.bare⟩
def Inv.env0 (I:!4):Env0 X.prog X.w X.K X.mg X.base X.A X.stack s H :=
 ⟨I.ok.frames,I.ok.mod,I.bs,Ww I.ok.bsz I.sz,I.stack,I.stkFree,I.hok,I.bare⟩
def Inv.after (I:!4)(h:CE X.stack X.prog X.w H s Q u s'):EP X Z U Q u s':=by obtain⟨v,H',os,bare,un,hok,r,q⟩:=h;obtain⟨hh,g⟩:=s';obtain rfl:=os;exact⟨v,H',I.call un hok bare λb z=>absurd z je,r,q⟩
def zEg (sp:Sp)(dvs:kl)(E:XK)(t:TA):TE:=λU H Q=>t U H λvs H1=>sp (vs++dvs) H1 Q E
def zGO (C:qu)(m:Str)(sp:Sp)(dvs:kl)(E:XK)(ta:TE)(t:TA):TE:=λU H Q=>ta U H λx H1=>∃a dx fs,x = .ref a/\H1 a=some (.ins C dx fs)/\fs.lookup m=none /\
 t U H1 λvs H2=>sp (x::(vs++dvs)) H2 Q E
def zEc (C:qu)(sp:Sp)(dvs:kl)(E:XK)(t:TA):TE:=λU H Q=>t U H λvs H1=>∀x dx,H1 x=none->H1 dx=none->dx≠x ->
 sp (.ref x::(vs++dvs)) (upd (upd H1 dx<|.own x) x<|.ins C dx []) (λv H2=>v = .non/\Q (.ref x) H2) E
def Binds (K:jk)(fd:FuncData)(ps:kh)(ds:jn):Prop :=
 ∀(s:qw) (us:jn),K.In s.heap->(us++ds).length=ps.length->BindsTo s fd ⟨us,[]⟩ (ps.zip<|us++ds)
def Binds.all (h:∀us:qh,us.length=ps.length->bindArgs fd ⟨us,[]⟩=pure (ps.zip us)):Binds K fd ps []:=λs us _ hl=>by rw[Wf] at hl ⊢;exact .of_eq<|h us hl
def oU (CX:CXT)(X:Cx)(E:XK):Prop:=∀(Z:jm) (U:St) (H:Hp) (s:qw) (e:qv) (s':qw),Inv X Z U H s->CX X.stack H s E e s'->X.xe e s'
section
variable{k:Nat}{dvs:kl}{ds:jn}{E:XK}{o:r8}
def zQg (F:FnOk X.prog X.w X.K X.mg X.base CX k f fd ps sp)(hr:Room k X.A)(hb:Binds X.K fd ps ds)(hd:Vals dvs ds)(hx:oU CX X E)(I:!4) (r:Vals vs us) (h:sp (vs++dvs) H Q E):wpAny (!5) X.A (call (.ref f) us) (EP X Z U Q) X.xe s:=by
 have r2:=r.append hd;have hl:(us++ds).length=ps.length:=by rw[<-r2.length];exact F.len _ _ _ _ h
 refine Ix<|Yw (F.run X.A _ s H ⟨us,[]⟩ _ _ Q E hr I.env0 (hb s us I.kIn hl) r2 h) λr s' hq=>?_;cases r with
 | error e=>exact hx Z U H s e s' I hq
 | ok fl =>
  cases fl with
  | ret u=>exact I.after hq
  | next=>exact False.elim hq
  | brk=>exact False.elim hq
  | cont=>exact False.elim hq
def cV (F:FnOk X.prog X.w X.K X.mg X.base CX k f fd ps sp)(hr:Room k X.A)(hg:Gl X x)(hm:X.mg x=some (.ref f))(hk:keepIn X.K (.ref f)=true)(hb:Binds X.K fd ps ds)(hd:Vals dvs ds)(hx:oU CX X E)(ha:PA X (e::es) t) (hdb:!17:=by decide) (he:!24:=by rfl) (hpl:(backTo pos (!26)).any (·.1)=false:=by rfl):PE X (.Call (.Name x p) (e::es) [] pos)<|zEg sp dvs E t:=by exactλZ s U H Q I h=>Re<|iV I hg hm (Tu I.ok.mod.kin hk (thn (ha pos Z s U H _ I h) λus s1 ⟨vs,H1,I1,r,q⟩=>⟨I1.kIn,(zQg F hr hb hd hx I1 r q)⟩) he hpl) hdb
def cX (he:PE X o ta)(c:Cls X.K C)(hm:Meth X.K C m f)(F:FnOk X.prog X.w X.K X.mg X.base CX k f fd ps sp)(hr:Room k X.A)(hb:Binds X.K fd ps ds)(hd:Vals dvs ds)(hx:oU CX X E)(ha:PA X (e::es) t)(hst:!24:=by rfl) (hpl:(backTo pos (!26)).any (·.1)=false:=by rfl)(ht:eval (.Call (!32) (e::es) [] pos) X.env=(do
   let ov <-eval o X.env
   standAt apos.atName
   let (f,first) <-holding [ov] (getMethod ov m pl)
   callWith pos f first (backTo pos<|starEach (e::es) X.env) (backToKw pos<|keywordEach [] X.env)):=by rfl) :
  PE X (.Call (!32) (e::es) [] pos) (zGO C m sp dvs E ta t):=by
 refineλZ s U H Q I h=>Iy (thn (he Z s U H _ I h) λu s1 ⟨x,H1,I1,rx,a,dx,fs,ex,ea,l,q⟩=>?_) ht;subst ex;obtain rfl:=rx;exact aX I1 ea c hm l<|Tu I.ok.mod.kin hm.kp (thn (ha pos Z s1 U H1 _ I1 q) λus s2 ⟨vs,H2,I2,r,q2⟩=>⟨I2.kIn,(zQg (vs:=.ref a::vs) F hr hb hd hx I2 (.cons J r) q2)⟩) hst hpl
def zJV (he:PE X o ta)(c:Cls X.K C)(hm:Meth X.K C m f)(F:FnOk X.prog X.w X.K X.mg X.base CX k f fd ps sp)(hr:Room k X.A)(hb:Binds X.K fd ps ds)(hd:Vals dvs ds)(hx:oU CX X E)(ht:eval (.Call (!32) [] [] pos) X.env=(do
   let ov <-eval o X.env
   standAt apos.atName
   let (f,first) <-holding [ov] (getMethod ov m pl)
   callWith pos f first (backTo pos<|starEach [] X.env) (backToKw pos<|keywordEach [] X.env)):=by rfl) :
  PE X (.Call (!32) [] [] pos) (zGO C m sp dvs E ta zW2):=by
 refineλZ s U H Q I h=>Iy (thn (he Z s U H _ I h) λu s1 ⟨x,H1,I1,rx,a,dx,fs,ex,ea,l,q⟩=>?_) ht;subst ex;obtain rfl:=rx;exact aX I1 ea c hm l<|callWith_K0 I1.kIn hm.kp<|zQg (vs:=[.ref a]) F hr hb hd hx I1 (.cons J .nil) q
structure Mk (K:jk)(C f:qu):Prop where
 makes:makesIn K C=true
 init:PySem.W.findIn K (!1) "__init__"=some (some<|.ref f)
 fn:isFn K (.ref f)=true
 kp:keepIn K (!1)=true
def zKp (M:Mk X.K C f)(F:FnOk X.prog X.w X.K X.mg X.base CX k f fd ps sp)(hr:Room (k+1) X.A)(hb:Binds X.K fd ps ds)(hd:Vals dvs ds)(hx:oU CX X E) (I:!4) (r:Vals vs us)(h:∀x dx,H x=none->H dx=none->dx≠x->sp (.ref x::(vs++dvs)) (upd (upd H dx<|.own x) x<|.ins C dx []) (λv H2=>v = .non/\Q (.ref x) H2) E):wpAny (!5) X.A (call (!1) us) (EP X Z U Q) X.xe s:=by
 have hq:=h _ _ (I.hok.fresh<|Yb _) (I.hok.fresh<|Qg _)<|Wy<|Pe _;have I2:=Inv.made (C:=C) I;have r2:Vals (V.ref (s.heap.objs.size+1)::_) _:=.cons rfl<|r.append hd;have hl:=by have e:=r2.length;rw[F.len _ _ _ _ hq] at e;exact e.symm
 refine Ix<|zLs I.kIn M.makes M.init (Yc.mp M.fn)<|Yw (F.run _ _ _ _ ⟨Value.ref _::us,[]⟩ _ _ _ E (hr.make C us []) (I2.env0.make C us []) (hb _ _ I2.kIn hl) r2 hq) λr s' hq'=>?_;cases r with
 | error e=>exact hx Z U _ _ e s' I2 hq'
 | ok fl =>
  cases fl with
  | ret u =>obtain⟨v,H',I3,rv,ev,q3⟩:=I2.after hq';subst ev;exact⟨rv,⟨V.ref _,H',I3,J,q3⟩⟩
  | next=>exact False.elim hq'
  | brk=>exact False.elim hq'
  | cont=>exact False.elim hq'
def zSB (M:Mk X.K C f)(F:FnOk X.prog X.w X.K X.mg X.base CX k f fd ps sp)(hr:Room (k+1) X.A)(hg:Gl X x)(hm:X.mg x=some (!1))(hb:Binds X.K fd ps ds)(hd:Vals dvs ds)(hx:oU CX X E)(ha:PA X (e::es) t) (hdb:!17:=by decide) (he:!24:=by rfl) (hpl:(backTo pos (!26)).any (·.1)=false:=by rfl):PE X (.Call (.Name x p) (e::es) [] pos)<|zEc C sp dvs E t:=by exactλZ s U H Q I h=>Re<|iV I hg hm (Tu I.ok.mod.kin M.kp (thn (ha pos Z s U H _ I h) λus s1 ⟨vs,H1,I1,r,q⟩=>⟨I1.kIn,(zKp M F hr hb hd hx I1 r q)⟩) he hpl) hdb
variable{ks:kh}
structure KBinds (K:jk)(fd:FuncData)(ps ks:kh)(g:qh->qh->qh)(gV:kl->kl->kl):Prop where
 to:∀(s:qw) (us ws:jn),K.In s.heap->(g us ws).length=ps.length->BindsTo s fd ⟨us,ks.zip ws⟩ (ps.zip<|g us ws)
 rel:∀ {vs:kl} {us:jn} {zs:kl} {ws:jn},Vals vs us->Vals zs ws->Vals (gV vs zs) (g us ws)
variable{g:qh->qh->qh}{gV:kl->kl->kl}
end
structure FnScope (N P:kh)(sc:Scope):Prop where
 kind:sc.kind = .function
 co:sc.isCoroutine=false
 gen:sc.isGenerator=false
 nd:N.Nodup
 pre:N.take P.length=P
 par:∀x∈P,sc.names.lookup x=some .local\/sc.names.lookup x=some .cell
 nofree:∀y∈sc.names,y.2 ≠ .free
theorem zVa {kindOf:Str->Option NameKind}{x:Str}:∀ {binds:List<|Str×qv} {m:Str->kn},(∀v,(x,v)∉binds)->bindL kindOf binds m x=m x
 | [],_,_=>rfl
 | _::r,m,h=>by
  unfold bindL;rw[zVa λw hw=>h w<|Qp _ hw];split
  .grind
  .rfl
theorem zUV {kindOf:Str->Option NameKind}{x:Str}:∀ {binds:List<|Str×qv} {m:Str->kn},(∀v,(x,v)∉binds)->bindC kindOf binds m x=m x
 | [],_,_=>rfl
 | _::r,m,h=>by
  unfold bindC;rw[zUV λw hw=>h w<|Qp _ hw];split
  .rfl
  .grind
theorem zUP {kindOf:Str->Option NameKind}{x:Str}{v:qv}:∀ {P:kh} {vs:jn} {i:Nat} {m:Str->kn},P.Nodup->P[i]?=some x->vs[i]?=some v->kindOf x=some .local -> bindL kindOf (P.zip vs) m x=some v
 | [],_,_,_,_,h,_,_=>by simp at h
 | _::_,[],_,_,_,_,h,_=>by simp at h
 | p::P,w::vs,0,m,nd,h1,h2,hk=>by simp at h1 h2;subst h1;subst h2;show bindL _ (_::P.zip vs) m p=_;unfold bindL;rw[zVa λv hv=>(Rm.mp nd).1 (Yn hv).1,Qh hk];simp
 | p::P,w::vs,i+1,m,nd,h1,h2,hk=>by show bindL _ (_::P.zip vs) m x=_;exact zUP (Rm.mp nd).2 (!6) (!6) hk
theorem zU7 {kindOf:Str->Option NameKind}{x:Str}{v:qv}:∀ {P:kh} {vs:jn} {i:Nat} {m:Str->kn},P.Nodup->P[i]?=some x->vs[i]?=some v->kindOf x≠some .local -> bindC kindOf (P.zip vs) m x=some v
 | [],_,_,_,_,h,_,_=>by simp at h
 | _::_,[],_,_,_,_,h,_=>by simp at h
 | p::P,w::vs,0,m,nd,h1,h2,hk=>by simp at h1 h2;subst h1;subst h2;show bindC _ (_::P.zip vs) m p=_;unfold bindC;rw[zUV λv hv=>(Rm.mp nd).1 (Yn hv).1,Qv hk];simp
 | p::P,w::vs,i+1,m,nd,h1,h2,hk=>by show bindC _ (_::P.zip vs) m x=_;exact zU7 (Rm.mp nd).2 (!6) (!6) hk
def oN (N:kh)(vs:kl):St:=vs.map some++List.replicate (N.length - vs.length) none
def qP (CX:CXT)(P:Program)(w:qz)(K:jk)(mg:Str->kn)(base:qx)(N:kh)(qual:Str)(scope:Scope)(f:qu)(cd:qv)(A:qy)(outer:qb)(s:qw)(H:Hp)(E:XK):Cx where
 prog:=P
 w:=w
 K:=K
 mg:=mg
 base:=base
 A:=A.deeper<|envOfC qual scope s.heap.objs.size f cd
 N:=N
 s₀:=s
 H₀:=H
 env:=envOfC qual scope s.heap.objs.size f cd
 outer:=outer
 stack:=envOfC qual scope s.heap.objs.size f cd::outer
 ex:=[]
 calm:=true
 fn:=λ_=>true
 pn:=[]
 xe:=λe s'=>wpAny (model P w) (A.deeper<|envOfC qual scope s.heap.objs.size f cd) (leaving (envOfC qual scope s.heap.objs.size f cd) e) (λ_ s''=>CX outer H s E e s'') (λe' s''=>CX outer H s E e' s'') s'
def zQP (h:sc.names.lookup x=some .cell):∃c,(cellsFrom n sc.names []).lookup x=some c:=by exact Wh.mp<|Iq _ n []<|.inl h
def zUf {s1:qw}{E:XK}(S:FnScope N ps scope) (hd:A.handled=none) (e0:Env0 P w K mg base A outer s H) (hl:vs.length=ps.length) (r:Vals vs us)(x:InCallC s s.heap.objs.size (bindL (envOfC qual scope s.heap.objs.size f cd).kindOf (ps.zip us) λ_=>none) (cellsFrom (s.heap.objs.size+1) scope.names []) (bindC (envOfC qual scope s.heap.objs.size f cd).kindOf (ps.zip us) λ_=>none) s1):Inv (qP CX P w K mg base N qual scope f cd A outer s H E) [] (oN N vs) H s1:=by
 have hpl:ps.length<=N.length:=by have:=Wi List.length S.pre;rw[Wn] at this;lia
 obtain⟨h1,tk,rfl,hk⟩:=x.done;have noA:∀b:qu,b∉(qP CX P w K mg base N qual scope f cd A outer s H E).ex:=λb z=>absurd (show b∈([]:ko) from z) je;refine⟨⟨e0.mod,S.kind,J,J,Qg _,λy z c h1 h2=>?_,λy hy=>?_,λy c _ h=>?_,λ_=>hd,Around.frames_deeper e0.frames,.inr ⟨J,J⟩,λb z=>absurd z<|noA b,e0.bs,e0.bsz,λb _ _=>noA b,λb z=>absurd z<|noA b,e0.funs,e0.frf⟩, J,e0.bare,Un.kept hk,⟨_,x.toInCall.ns,λi y v h1 h2 h3=>?_⟩,λy c h=>⟨_,x.cell y c h⟩,e0.hok.fresh<|Qg _,λy c h=>?_,λp hp=>absurd (show p∈([]:jm) from hp) je,e0.hok.kept hk,?_⟩
 .exact name_of_addr x.apart (Eb h1) (Eb h2)
 .have hy:scope.names.lookup y=some _\/scope.names.lookup y=some _:=hy;rcases hy with hy | hy
  .exact zQP hy
  .exact absurd J (S.nofree _<|Eb hy)
 .exact Wa (x.above y c<|Eb h)
 .have hi:i < vs.length:=by
   unfold oN at h2
   by_cases hi:i < vs.length
   .exact hi
   .rw[Rk (by simpa using hi),Yu] at h2;split at h2<;>cases h2
  have ha:vs[i]?=some v:=by
   unfold oN at h2;rw[Tc (by simpa using hi),Eu] at h2;cases e:vs[i]? with
   | none=>rw[e] at h2;cases h2
   | some a=>rw[e] at h2;cases h2;rfl
  obtain⟨u,hu,rv⟩:=r.get ha;have hp:ps[i]?=some y:=by rw[<-S.pre,List.getElem?_take_of_lt jc];exact h1
  have ndP:ps.Nodup:=by rw[<-S.pre];exact S.nd.sublist<|List.take_sublist _ _
  refine⟨u,rv,?_⟩;rcases S.par y (El hp) with k | k
  .exact .inl ⟨k,zUP ndP hp hu k⟩
  .obtain⟨c,e⟩:=zQP (n:=_+1) k;refine .inr ⟨.inl k,c,e,?_⟩;have q:=x.cell y c e;rw[zU7 ndP hp hu (by show scope.names.lookup y≠_;rw[k];decide)] at q;exact q
 .exact e0.hok.fresh (Wa<|x.above y c<|Eb h)
 .unfold oN;show _=N.length;rw[Qo,Qy,Rw];lia
def zGZ {k:Nat}{params:Arguments}{dV kV doc pm j9 ct oc:qv}{an:kr}(lk:K.lookup f=some ⟨oc,od,.func<|PySem.W.fnOf name qual params body scope dV kV doc pm an j9 ct,osl⟩) (hcd:codeIn K j9 qual=true) (S:FnScope N ps scope)(len:∀vs H Q E,sp vs H Q E->vs.length=ps.length)(hbody:∀(A:qy) (outer:qb) (s:qw) (H:Hp) (vs:kl) (Q:VK) (E:XK),Room k (A.deeper<|envOfC qual scope s.heap.objs.size f j9)->sp vs H Q E -> ∃t,PSs (qP CX P w K mg base N qual scope f j9 A outer s H E) body t/\t { nx:=λ_ H'=>Q .non H',rt:=Q } (oN N vs) H):FnOk P w K mg base CX (k+1) f (PySem.W.fnOf name qual params body scope dV kV doc pm an j9 ct) ps sp:=by
 refine⟨len,λA outer s H args us vs Q E hr e0 hb r hsp=>?_⟩;have KX:=e0.mod.kin.keeps λb o e=>(e0.bs b o e).1;have hkind:∀y∈ps.zip us,scope.names.lookup y.1=some _\/(scope.names.lookup y.1=some _/\((cellsFrom (s.heap.objs.size+1) _ []).lookup y.1).isSome=true):=λ⟨n,v⟩ hy=>by
   rcases S.par n (Yn hy).1 with q | q
   · exact .inl q
   · exact .inr ⟨q,Iq _ _ _<|.inl q⟩
 refine codeAny_call_function hr.depth (KX _ _ lk) J S.co S.gen J (codeRec_of KX hcd)<|hb _ _ _ _<|Pj S.kind hkind λenv he s1 x=>?_;subst he;refine⟨(e0.mod.nolimit.keeps λb o e=>(e0.bs b o e).1).keeps x.toInCall.keep,codeAny_func ?_⟩;obtain⟨t,ht,hq⟩:=hbody A _ s H vs Q E (hr.deeper _) hsp;have I:Inv (qP CX P w K mg base N qual _ f j9 A _ s H E) [] _ H s1:=zUf S hr.hd e0 (len _ _ _ _ hsp) r x;refine Ed (ht [] s1 _ H _ I hq) (λfl s' hs=>?_) λe s' hs=>hs;have fin:∀ {U':St} {H':Hp} {v:V} {u:qv},Inv (qP CX P w K mg base N qual scope f j9 A outer s H E) [] U' H' s'->RelV v u->Q v H'->CE _ P w H s Q u s' :=
   λ{U' H' v u} ya rv q=>⟨v,H',ya.os,ya.bare,ya.base,ya.hok,rv,q⟩
 cases fl with
 | ret u =>obtain⟨v,U',H',ya,rv,q⟩:=hs;exact fin ya rv q
 | next =>obtain⟨U',H',ya,q⟩:=hs;exact fin (v:=V.non) ya J q
 | brk =>obtain⟨_,_,_,q⟩:=hs;exact False.elim q
 | cont =>obtain⟨_,_,_,q⟩:=hs;exact False.elim q
section
variable{id:String}{r:kl->Hp->VK->Prop}
def tCB (r:kl->Hp->VK->Prop)(t:TA):TE:=λU H Q=>t U H λvs H1=>r vs H1 Q
def vB (hc:CallR X (.builtin id) r)(hg:Gl X x)(hm:X.mg x=none)(hv:bootBuiltins x=some (.builtin id))(ha:PA X (e::es) t)(hn:x≠"__name__":=by decide)(hdb:!17:=by decide)(he:!24:=by rfl) (hpl:(backTo pos (!26)).any (·.1)=false:=by rfl):PE X (.Call (.Name x p) (e::es) [] pos)<|tCB r t:=by exactλZ s U H Q I h=>Re<|iQ I hg hm hv (PyProof.Rows.callWith_builtin1 (thn (ha pos Z s U H _ I h) λus s1 ⟨vs,H1,I1,r1,q1⟩=>hc Z s1 U H1 vs us Q I1 r1 q1) he hpl) hn hdb
def zYU (hc:CallR X (.type T) r)(hg:Gl X x)(hm:X.mg x=none)(hv:bootBuiltins x=some (.type T))(ha:PA X (e::es) t)(hn:x≠"__name__":=by decide)(hdb:!17:=by decide)(he:!24:=by rfl) (hpl:(backTo pos (!26)).any (·.1)=false:=by rfl):PE X (.Call (.Name x p) (e::es) [] pos)<|tCB r t:=by exactλZ s U H Q I h=>Re<|iQ I hg hm hv (Rf (thn (ha pos Z s U H _ I h) λus s1 ⟨vs,H1,I1,r1,q1⟩=>hc Z s1 U H1 vs us Q I1 r1 q1) he hpl) hn hdb
end
end L2
variable{Q:jl}{p:qf}
namespace HT
def cat_tup {t b:qu}{vs:jn}(ht:IsTup s.heap t vs.toArray)(hb:IsTup s.heap b ws.toArray)(hv:vs≠[])(h1:ws=[]->Q (.ref t) s) (h2:ws≠[]->Q (.ref s.heap.objs.size) { s with heap:=s.heap.push { cls:=.type "tuple",data:=.seq (vs++ws).toArray } })(hsz:vs.length+ws.length<=sizeLine):wpAny (!9) A (binaryOp .Add (.ref t)<|.ref b) Q E s:=by
 obtain⟨⟨cls,dd,data,sl⟩,ho,hc,n,hd⟩:=id ht;obtain⟨⟨cls2,dd2,data2,sl2⟩,ho2,hc2,n2,hd2⟩:=id hb;subst hc hd hc2 hd2;have e:vs.toArray++ws.toArray=(vs++ws).toArray:=je
 by_cases hw:ws=[]
 .exact Oc ⟨_,ho,J⟩ ⟨_,ho2,J⟩ Pr seq_tuple_add Iw Ul (Uh _ _) (tuple_addW1 t b _ _ n n2 dd dd2 sl sl2 (!8) (!8)) ⟨ho,ho2,h1 hw⟩
 .refine Oc ⟨_,ho,J⟩ ⟨_,ho2,J⟩ Pr seq_tuple_add Iw Ul (Uh _ _) (tuple_addW2 t b _ _ n n2 dd dd2 sl sl2 (!8) (!8) (!6)) ⟨ho,ho2,?_⟩;rw[e];exact h2 hw
def sIx (n d:Nat):ku->Nat
 | none=>d
 | some v=>if v < 0 then(v+(n:Int)).toNat else min v.toNat n
def sIx_none (n d:Nat):sIx n d none=d:=rfl
def sIx_nat (n d k:Nat):sIx n d (some (k:Int))=min k n:=rfl
def zOu (v:Int)(n d:Nat):(if v < 0 then max (v+(n:Int)) 0 else min v (n:Int))=((sIx n d (some v):Nat):Int):=by
 show(if v < 0 then max _ 0 else min v _)=(((if v < 0 then(v+_).toNat else min _ n):Nat))
 grind
def zQj (lo hi:ku)(n:Nat):Builtin.Slice.sliceAdjust lo hi 1 (n:Int)=(((sIx n 0 lo:Nat):Int),((sIx n n hi:Nat):Int)):=by
 refine Prod.ext ?_ ?_
 .cases lo with
  | none=>rfl
  | some v=>exact zOu v n 0
 .cases hi with
  | none=>rfl
  | some v=>exact zOu v n n
def zPH (i j:Nat):Builtin.Slice.slicePlaces (i:Int) (j:Int) 1=j - i:=by
 unfold Builtin.Slice.slicePlaces
 grind
def zWM {v:qv}{o:ku}{Q:ku->qw->Prop}(p:IsPart v o)(h:Q o s):wpAny (!9) A (Builtin.Slice.slicePartIndex v) Q E s:=by
 cases p with
 | none=>exact slicePart_none h
 | int i t=>exact slicePart_int h
def jU {sl:qu}{Q:Int×Int×Nat->qw->Prop}(hs:s.heap.IsSliceOf sl vl vu .none)(pl:IsPart vl lo)(pu:IsPart vu hi)(h:Q (((sIx n 0 lo:Nat):Int),1,sIx n n hi - sIx n 0 lo) s):wpAny (!9) A (Builtin.Slice.sliceApplied (.ref sl)<|pure (n:Int)) Q E s:=by obtain⟨os,hos,hcs,hds⟩:=id hs;refine Qw<|Qw<|Ep hos hds (x:=vl) rfl<|Qw<|Ep hos hds (x:=vu) rfl<|Qw<|Ep hos hds rfl<|Qi<|Qw<|slicePart_none<|Qw<|zWM pl<|Qw<|zWM pu<|Qw<|Qi ?_;show wpAny _ _ (match Builtin.Slice.sliceAdjust lo hi 1 _ with | (lo,hi)=>pure (lo,_,Builtin.Slice.slicePlaces lo hi 1)) _ _ s;rw[zQj lo hi n];show wpAny _ _ (pure (_,_,Builtin.Slice.slicePlaces _ _ 1)) _ _ s;rw[zPH];exact Qi h
def zMn (xs:jo)(i k:Nat):((List.range k).filterMap λ(m:Nat)=>xs[((i:Int)+(m:Int)*1).toNat]?).toArray=((xs.toList.drop i).take k).toArray:=by
 have e:(λ(m:Nat)=>xs[((i:Int)+(m)*1).toNat]?)=λm=>xs[i+m]?:=by grind
 rw[e];have:=pick_run xs i k;rw[List.filterMap_map] at this;have e2:(_ ∘ λx=>i+x)=λm=>xs[i+m]?:=rfl;rw[e2] at this;rw[this]
def getItem_tuple_cut {t sl:qu}(ht:IsTup s.heap t items)(hs:s.heap.IsSliceOf sl vl vu .none)(pl:IsPart vl lo)(pu:IsPart vu hi)(hw:¬(sIx items.size 0 lo=0/\sIx items.size items.size hi=items.size))(h:Q (.ref s.heap.objs.size) { s with heap:=s.heap.push { cls:=.type "tuple",data:=.seq ((items.toList.drop<|sIx items.size 0 lo).take<|sIx items.size items.size hi - sIx items.size 0 lo).toArray } })(hsz:items.size<=sizeLine):wpAny (!9) A (getItem (.ref t)<|.ref sl) Q E s:=by
 have htake:=by show((items.toList.drop<|sIx items.size 0 lo).take<|sIx items.size items.size hi - sIx items.size 0 lo).toArray.size<=sizeLine;rw[Qd,Wn,Ec,Ou];lia
 obtain⟨os,hos,hcs,hds⟩:=id hs;have hTs:s.TypeIs (.ref sl) "slice":=⟨os,hos,hcs⟩
 unfold getItem
 try with_reducible refine Ru ?_
 refine Qw<|wpAny_sequenceKey ht.typeIs jb ?_;refine Qw<|Ej (name:=Str.ofString "__getitem__") ht.typeIs Tq<|Ey Tq ht.typeIs entry_tuple_getitem ?_<|args_tuple_getitem _ _;show wpAny _ _ (Builtin.Tuple.tupleItemsOf (.ref t) >>= _) _ _ s;refine Qw<|tupleItemsOf_ ht<|Qw<|wpAny_typeOf hTs<|Qw<|jU hs pl pu ?_;have hno:¬((((sIx items.size 0 lo:Nat):Int)==0&&(1:Int)==1&&(sIx items.size items.size hi - sIx items.size 0 lo)==items.size)=true):=by simp_all
 show wpAny _ _ (if (((sIx _ 0 lo:Nat):Int)==0&&(1:Int)==1&&(sIx _ _ hi - sIx _ 0 lo)==_)=true then _ else _) _ _ s;rw[Qv hno,zMn]
 first
  | exact Qw (m:=Builtin.Tuple.tupleExact _) (Rp (Qi ⟨_,J,Qi h⟩) htake)
  | exact _ (m:=_ _) (_ (_ (_ (_ ⟨_,J,_ h⟩))) _)
  | exact _ (_ (m:=_ _) (_ (_ _) _))
  | exact _ _
end HT
variable{Q:kn->qw->Prop}{lo hi:Option r8}
namespace L2
abbrev TO:=St->Hp->(ku->Hp->Prop)->Prop
def PO (X:Cx)(e:Option r8)(t:TO):Prop :=
 ∀(Z:jm) (s:qw) (U:St) (H:Hp) (Q:ku->Hp->Prop),Inv X Z U H s->t U H Q ->
  wpAny (!5) X.A (evalPart e X.env) (λu s'=>∃o H',Inv X Z U H' s'/\IsPart u o/\Q o H') X.xe s
def zJh:TO:=λ_ H Q=>Q none H
def zES (t:TE):TO:=λU H Q=>t U H λx H1=>∃i,x = .int i/\Q (some i) H1
section
variable{tl th:TO}
def zIX:PO X none zJh:=by exactλZ s U H Q I h=>Qi ⟨none,H,I,.none,h⟩
def zIh (h:PE X e te):PO X (some e)<|zES te:=by refineλZ s U H Q I hw=>thn (h Z s U H _ I hw) λu s1 ⟨x,H1,I1,r1,q1⟩=>?_;obtain⟨i,rfl,q⟩:=q1;obtain⟨t,rfl⟩:=r1;exact⟨some i,H1,I1,.int i t,q⟩
def SlR (X:Cx)(r:V->ku->ku->Hp->VK->Prop):Prop :=
 ∀(Z:jm) (s:qw) (U:St) (H:Hp) (x:V) (v vl vu:qv) (lo hi:ku) (sl:qu) (Q:VK),Inv X Z U H s->RelV x v->s.heap.IsSliceOf sl vl vu .none->IsPart vl lo->IsPart vu hi->r x lo hi H Q ->
  ∃T id,typeLookup (.type T) "__getitem__"=pure (some<|.builtin id)/\s.TypeIs v T/\wpAny (!5) X.A (getItem v<|.ref sl) (EP X Z U Q) X.xe s
def SlR.or {r':V->ku->ku->Hp->VK->Prop}(h:SlR X r)(h':SlR X r'):SlR X λx lo hi H Q=>r x lo hi H Q\/r' x lo hi H Q:=by
 intro Z s U H x v vl vu lo hi sl Q I rx hs pl pu q;rcases q with q | q
 .exact h Z s U H x v vl vu lo hi sl Q I rx hs pl pu q
 .exact h' Z s U H x v vl vu lo hi sl Q I rx hs pl pu q
def tSl (r:V->ku->ku->Hp->VK->Prop)(te:TE)(tl th:TO):TE:=λU H Q=>te U H λx H1=>tl U H1 λl H2=>th U H2 λu H3=>r x l u H3 Q
def zXh (hr:SlR X r)(he:PE X e te)(hl:PO X lo tl)(hu:PO X hi th):PE X (.Subscript e (.Slice lo hi none p2) pos)<|tSl r te tl th:=by refineλZ s U H Q I h=>Subscript_<|thn (he Z s U H _ I h) λv s1 ⟨x,H1,I1,r1,q1⟩=>wpAny_Slice<|thn (hl Z s1 U H1 _ I1 q1) λvl s2 ⟨l,H2,I2,pl,q2⟩=>thn (hu Z s2 U H2 _ I2 q2) λvu s3 ⟨u,H3,I3,pu,q3⟩=>Qi ?_;have I4:Inv X Z U H3 { s3 with heap:=s3.heap.push { cls:=.type "slice",data:=.fields #[vl,vu,.none] } }:=I3.kept λb ob q=>Qe _ q;obtain⟨T,id,hT,ht,hg⟩:=hr Z { s3 with heap:=s3.heap.push { cls:=.type "slice",data:=.fields #[vl,vu,.none] } } U H3 x v vl vu l u _ Q I4 r1 (Heap.IsSliceOf.new ..) pl pu q3;exact tail_any ht hT hg J
def zTp (xs:kl)(lo hi:ku):kl:=(xs.drop<|HT.sIx xs.length 0 lo).take<|HT.sIx xs.length xs.length hi - HT.sIx xs.length 0 lo
def zYy (xs:kl)(lo hi:ku):(zTp xs lo hi).length<=xs.length:=by unfold zTp;rw[Wn,Ec];lia
def zD0 (K:jk):V->ku->ku->Hp->VK->Prop:=λx lo hi H Q=>∃a xs,x = .ref a/\SqT K H a xs /\
 ¬(HT.sIx xs.length 0 lo=0/\HT.sIx xs.length xs.length hi=xs.length)/\∀p,H p=none->Q (.ref p) (upd H p<|.tup<|zTp xs lo hi)
def zF4:SlR X<|zD0 X.K:=by
 intro Z s U H x v vl vu lo hi sl Q I rx hs pl pu h;obtain⟨a,xs,rfl,hx,hw,q⟩:=h;cases rx;obtain⟨j6,r,ht,hz⟩:=I.tuple hx;have j5:j6.toArray.size=xs.length:=by rw[Qd];exact r.length.symm
 refine⟨"tuple",_,Tq.lookup,ht.typeIs,(HT.getItem_tuple_cut ht hs pl pu (by rw[j5];exact hw) ?_ (by rw[j5];exact hz))⟩;rw[j5];refine⟨.ref s.heap.objs.size,_,I.laid (λb ob q=>Qe _ q) (Qg _) ?_,J,q _<|I.hok.fresh<|Qg _⟩;exact⟨Ww (zYy xs lo hi) hz,_,(r.drop _).take _,IsTup.new _ _⟩
def zEQ (K:jk):R2:=λx y H Q=>∃a b xs ys,x = .ref a/\y = .ref b/\SqT K H a xs/\SqT K H b ys/\xs≠[]/\xs.length+ys.length<=sizeLine /\
 (ys=[]->Q (.ref a) H)/\(ys≠[]->∀p,H p=none->Q (.ref p) (upd H p<|.tup<|xs++ys))
def Vals.nil_iff (r:Vals xs us):us=[]↔xs=[]:=by
 cases r with
 | nil=>simp
 | cons _ _=>simp
def zHt:OpR X (binaryOp .Add)<|zEQ X.K:=by
 sleep 5
 obtain⟨a,b,xs,ys,rfl,rfl,ha,hb,hx,hz,q1,q2⟩:=h;cases rx;cases ry;obtain⟨j6,r1,p1,_⟩:=I.tuple ha;obtain⟨its2,r2,p2,_⟩:=I.tuple hb;refine HT.cat_tup p1 p2 (λz=>hx<|r1.nil_iff.mp z) (λz=>⟨.ref a,H,I,J,q1<|r2.nil_iff.mp z⟩) (λz=>⟨.ref s.heap.objs.size,_,I.laid (λb ob q=>Qe _ q) (Qg _) ?_,J,q2 (λw=>z<|r2.nil_iff.mpr w) _<|I.hok.fresh<|Qg _⟩) (by rw[<-r1.length,<-r2.length];exact hz);exact⟨by rw[Qo];exact hz,_,r1.append r2,IsTup.new _ _⟩
end
def ixN (n:Nat)(i:Int):Option Nat:=if 0<=i then(if i < n then some i.toNat else none) else if -(n:Int)<=i then some (i+n).toNat else none
def atI (xs:List α)(i:Int):Option α:=(ixN xs.length i).bind λj=>xs[j]?
def zOE {i:Int}(h:ixN n i=some j):seqIndex? i n=some j/\j < n /\ -(n:Int)<=i/\i < n:=by
 unfold ixN at h
 by_cases h0:0<=i
 .rw[Qh h0] at h
  by_cases h1:i < n
  .rw[Qh h1] at h;have e:=Rs h;exact⟨by rw[seqIndex_of h0 h1,e],jc,jc,h1⟩
  .simp_all
 .rw[Qv h0] at h
  by_cases h1 : -(n)<=i
  .rw[Qh h1] at h;have e:=Rs h;exact⟨by rw[seqIndex_neg jc h1,e],jc,h1,jc⟩
  .simp_all
def zT2 {xs:List α}{i:Int}{v:α}(h:atI xs i=some v):∃j,seqIndex? i xs.length=some j/\xs[j]?=some v/\j < xs.length /\ -(xs.length:Int)<=i/\i < xs.length:=by
 unfold atI at h;cases e:ixN _ i with
 | none=>rw[e] at h;cases h
 | some j =>rw[e] at h;obtain⟨h1,h2,h3,h4⟩:=zOE e;exact⟨j,h1,h,h2,h3,h4⟩
def zHH {xs:List α}{v:α}(h:xs[j]?=some v):atI xs (j:Int)=some v:=by
 have hj:=(v5 h).1;have e:ixN xs.length (j)=some j:=by unfold ixN;rw[Qh jc,Qh jc];simp
 unfold atI;rw[e];exact h
def zSJ (b:r8):Prop:=∀o i,subscripted b false o i=operate [o,i] (getItem o i)
def IxR (X:Cx)(r:R2):Prop :=
 ∀(value slice:r8) (Z:jm) (s:qw) (U:St) (H:Hp) (x y:V) (v u:qv) (Q:VK),Inv X Z U H s->RelV x v->RelV y u->r x y H Q ->
  subscripted slice false v u=operate [v,u] (getItem v u)->wpAny (!5) X.A (subscriptTail value slice v u) (EP X Z U Q) X.xe s
def MtR (X:Cx)(id:String)(r:V->kl->Hp->VK->Prop):Prop :=
 ∀(Z:jm) (s:qw) (U:St) (H:Hp) (x:V) (xs:kl) (v:qv) (us:jn) (Q:VK),Inv X Z U H s->RelV x v->Vals xs us->r x xs H Q ->
  wpAny (!5) X.A (call (.builtin id)<|v::us) (EP X Z U Q) X.xe s
section
variable{a b:r8}
def IxR.or {r r':R2}(h:IxR X r)(h':IxR X r'):IxR X λx y H Q=>r x y H Q\/r' x y H Q:=by
 intro _ _ Z s U H x y v u Q I rx ry q hs;rcases q with q | q
 .exact h _ _ Z s U H x y v u Q I rx ry q hs
 .exact h' _ _ Z s U H x y v u Q I rx ry q hs
def zGR {r:R2}(hr:IxR X r)(ha:PE X a ta)(hb:PE X b tb)(hs:zSJ b):PE X (.Subscript a b pos)<|tOp r ta tb:=by exactλZ s U H Q I h=>Subscript_<|zGj ha hb I h λv u s2 x y H2 I2 rx ry q=>hr a b Z s2 U H2 x y v u Q I2 rx ry q<|hs _ _
def zDL (K:jk):R2:=λx y H Q=>∃p xs i v,x = .ref p/\y = .int i/\SqL K H p xs/\atI xs i=some v/\Q v H
def zDX (K:jk):R2:=λx y H Q=>∃p xs i v,x = .ref p/\y = .int i/\SqT K H p xs/\atI xs i=some v/\Q v H
def zEP:R2:=λx y H Q=>∃z i c,x = .str z/\y = .int i/\z.length<=sizeLine/\atI z.cps.toList i=some c/\Q (.str ⟨#[c]⟩) H
def zOZ:IxR X<|zDL X.K:=by
 intro _ _ Z s U H x y v u Q I rx ry h hs;obtain⟨p,xs,i,z,rfl,rfl,hq,he,q⟩:=h;cases rx;obtain⟨t,rfl⟩:=ry;obtain⟨j6,r,pl,hz⟩:=I.list hq;obtain⟨j,h1,h2,h3,h4,h5⟩:=zT2 he;obtain⟨w,ew,rw'⟩:=r.get h2;have hl:=r.length;have hn:=zWF;have fin:EP X Z U Q w s:=⟨z,H,I,rw',q⟩
 by_cases h0:0<=i
 .have hj:=by
   rw[seqIndex_of h0 h5] at h1;exact Rs h1
  exact item_listR pl.isList h0 jc (by rw[hj];simpa using ew) fin hs
 .have hj:(i+(j6.toArray.size)).toNat=j:=by
   rw[seqIndex_neg jc h4] at h1;simp_all
  exact subscriptTail_builtinR pl.isList.typeIs slot_list_getitem.lookup (wpAny_getItem_list_neg pl.isList jc (!8) jc (by rw[hj];simpa using ew) ⟨rfl,fin⟩) hs
def zFE:IxR X<|zDX X.K:=by
 intro _ _ Z s U H x y v u Q I rx ry h hs;obtain⟨p,xs,i,z,rfl,rfl,hq,he,q⟩:=h;cases rx;obtain⟨t,rfl⟩:=ry;obtain⟨j6,r,pl,hz⟩:=I.tuple hq;obtain⟨j,h1,h2,h3,h4,h5⟩:=zT2 he;obtain⟨w,ew,rw'⟩:=r.get h2;have hn:=zWF;have fin:EP X Z U Q w s:=⟨z,H,I,rw',q⟩
 exact subscriptTail_builtinR pl.typeIs slot_tuple_getitem.lookup (getItem_tuple pl jc jc (by rw[Qd,<-r.length];exact h1) (by simpa using ew) ⟨rfl,fin⟩) hs
def zFH:IxR X zEP:=by
 intro _ _ Z s U H x y v u Q I rx ry h hs;obtain⟨z,i,c,rfl,rfl,hz,he,q⟩:=h;obtain⟨t,rfl⟩:=rx;obtain⟨t',rfl⟩:=ry;obtain⟨j,h1,h2,h3,h4,h5⟩:=zT2 he;have hl:z.cps.toList.length=z.length:=by simp[Str.length]
 rw[hl] at h1 h4 h5;have hn:=zWF;exact tail_any (Ic s z t) slot_str_getitem.lookup (getItem_str (by have e1:decide (i < -(2^63))=_:=Qn jc;have e2:decide (i≥2^63)=_:=Qn jc;rw[e1,e2,Bool.or_false]) (by rw[h1];simpa using h2) ⟨.str ⟨#[c]⟩,H,I.tok _,⟨_,rfl⟩,q⟩) hs
def rIx (K:jk):R2:=λx y H Q=>zDL K x y H Q\/zDX K x y H Q\/zEP x y H Q
def zFB:IxR X<|rIx X.K:=zOZ.or<|zFE.or zFH
def zSK (lo hi:ku)(n:Nat):(sliceBounds lo hi none n).1=((HT.sIx n 0 lo:Nat):Int)/\(sliceBounds lo hi none n).2.1=((HT.sIx n n hi:Nat):Int)/\(sliceBounds lo hi none n).2.2=1:=by
 refine⟨?_,?_,J⟩
 .cases lo with
  | none=>simp[sliceBounds,HT.sIx]
  | some i =>
   simp only[sliceBounds,HT.sIx,Option.getD_none,show(1:Int) > 0 by decide,Oj]
   by_cases h:i < 0
   .simp only[h,Oj]<;>lia
   .simp only[h,Yx]<;>lia
 .cases hi with
  | none=>simp[sliceBounds,HT.sIx]
  | some i =>
   simp only[sliceBounds,HT.sIx,Option.getD_none,show(1:Int) > 0 by decide,Oj]
   by_cases h:i < 0
   .simp only[h,Oj]<;>lia
   .simp only[h,Yx]<;>lia
def zVk (j6:jn)(lo hi:ku):slicePick j6.toArray lo hi none=((j6.drop<|HT.sIx j6.length 0 lo).take<|HT.sIx j6.length j6.length hi - HT.sIx j6.length 0 lo).toArray:=by obtain⟨h1,h2,h3⟩:=zSK lo hi j6.toArray.size;unfold slicePick;rw[h1,h2,h3];simp only[sliceRange_one,pick_run]<;>rfl
def zD1 (K:jk):V->ku->ku->Hp->VK->Prop:=λx lo hi H Q=>∃a xs,x = .ref a/\SqL K H a xs/\∀p,H p=none->Q (.ref p) (upd H p<|.lst<|zTp xs lo hi)
def zI5:SlR X<|zD1 X.K:=by intro Z s U H x v vl vu lo hi sl Q I rx hs pl pu h;obtain⟨a,xs,rfl,hx,q⟩:=h;cases rx;obtain⟨j6,r,ht,hz⟩:=I.list hx;have j5:=r.length;refine⟨"list",_,slot_list_getitem.lookup,ht.isList.typeIs,(wpAny_getItem_list_slice ht.isList hs pl pu .none je ?_ (!8))⟩;rw[zVk,<-j5];refine⟨.ref s.heap.objs.size,_,I.laid (λb ob q=>Qe _ q) (Qg _) ?_,J,q _<|I.hok.fresh<|Qg _⟩;exact⟨Ww (zYy xs lo hi) hz,_,0,(r.drop _).take _,Qs _ J⟩
def zZI:CallR X (.builtin "len") (λxs H Q=>∃p ys,xs=[.ref p]/\(SqL X.K H p ys\/SqT X.K H p ys)/\Q (.int ys.length) H):=by
 intro Z s U H xs us Q I r h;obtain⟨p,ys,rfl,hq,q⟩:=h;obtain⟨u,rfl,rx⟩:=jM r;cases rx;have hn:=zWF;rcases hq with hq | hq
 .obtain⟨j6,r',pl,hz⟩:=I.list hq;have j5:=r'.length;exact Calls.call_len_list pl.isList (by simp only[Qd]<;>lia) ⟨.int ys.length,H,I.tok _,⟨s.toks+1,by rw[Qd,j5]⟩,q⟩
 .obtain⟨j6,r',pl,hz⟩:=I.tuple hq;have j5:=r'.length;exact len_tuple pl (by simp only[Qd]<;>lia) ⟨.int ys.length,H,I.tok _,⟨s.toks+1,by rw[Qd,j5]⟩,q⟩
def zSW:CallR X (.builtin "len") (λxs H Q=>∃z,xs=[.str z]/\z.length<=sizeLine/\Q (.int z.length) H):=by intro Z s U H xs us Q I r h;obtain⟨z,rfl,hz,q⟩:=h;obtain⟨u,rfl,t,rfl⟩:=jM r;have hn:=zWF;exact len_str jc ⟨.int z.length,H,I.tok _,⟨_,J⟩,q⟩
def CallR.or {f:qv}{r r':kl->Hp->VK->Prop}(h:CallR X f r)(h':CallR X f r'):CallR X f λxs H Q=>r xs H Q\/r' xs H Q:=by
 intro Z s U H xs us Q I rs q;rcases q with q | q
 .exact h Z s U H xs us Q I rs q
 .exact h' Z s U H xs us Q I rs q
def zTI:CallR X (.type "list") (λxs H Q=>∃p ys,xs=[.ref p]/\(SqL X.K H p ys\/SqT X.K H p ys)/\∀l,H l=none->Q (.ref l) (upd H l<|.lst ys)):=by
 intro Z s U H xs us Q I r h;obtain⟨p,ys,rfl,hq,q⟩:=h;obtain⟨u,rfl,rx⟩:=jM r;cases rx;have fin:∀(j6),Vals ys j6->_<=_->∀(h') (c'),_ -> h'.get? s.heap.objs.size=some { cls:=.type "list",dict:=none,data:=.seq j6.toArray c',slots:=#[] }->EP X Z U Q _ (!18):=λj6 r' hz h' c' kp e =>⟨.ref s.heap.objs.size,_,I.laid kp (Qg _)<|show ObjOk _ X.w _ h' _ (.lst ys) from⟨hz,j6,c',r',e⟩,J,q _<|I.hok.fresh<|Qg _⟩
 rcases hq with hq | hq
 .obtain⟨j6,r',pl,hz⟩:=I.list hq;have j5:=r'.length;obtain⟨o,ho,hc,n,hd⟩:=pl.isList;exact call_list_seq p (.inl J) ho hc hd (λh' c' kp e=>fin j6 r' hz h' c' kp e) (by simp only[Qd]<;>lia)
 .obtain⟨j6,r',pl,hz⟩:=I.tuple hq;have j5:=r'.length;obtain⟨o,ho,hc,n,hd⟩:=pl;exact call_list_seq p (.inr J) ho hc hd (λh' c' kp e=>fin j6 r' hz h' c' kp e) (!8)
def zVy:CallR X (.type "tuple") (λxs H Q=>∃p ys,xs=[.ref p]/\((SqL X.K H p ys/\∀l,H l=none->Q (.ref l) (upd H l<|.tup ys))\/(SqT X.K H p ys/\Q (.ref p) H))):=by
 intro Z s U H xs us Q I r h;obtain⟨p,ys,rfl,h⟩:=h;obtain⟨u,rfl,rx⟩:=jM r;cases rx;rcases h with⟨hq,q⟩ | ⟨hq,q⟩
 .obtain⟨j6,r',pl,hz⟩:=I.list hq;have j5:=r'.length;refine call_tuple_list pl.isList (λh' kp=>?_) (!8);have I1:=I.kept (t':=s.toks) kp;have I2:Inv X Z U (upd H _<|.tup ys) { s with heap:=h'.push { cls:=.type "tuple",data:=.seq _ } } :=
   I1.laid (λb o e=>Qe _ e) (Qg _) (⟨hz,j6,r',IsTup.new _ _⟩)
  exact⟨.ref h'.objs.size,_,I2,J,q _<|I1.hok.fresh<|Qg _⟩
 .obtain⟨j6,r',pl,hz⟩:=I.tuple hq;exact call_tuple_same pl ⟨.ref p,H,I,J,q⟩
def tyV (K:jk)(T:String)(x:V)(H:Hp):Prop:=match x with
 | .str _=>T="str"
 | .int _=>T="int"
 | .ref p=>(T="list"/\∃xs,SqL K H p xs)\/(T="tuple"/\∃o,K.lookup p=some o/\o.cls = .type "tuple"/\o.dict=none) \/
   (T="dict"/\((∃j8,H p=some (.dK j8))\/∃j8,H p=some (.dT j8)))\/(T="set"/\∃S n,H p=some (.set S n))
 | _=>False
def zFt {x:V}{v:qv}(I:!4)(r:RelV x v)(ty:tyV X.K T x H):s.TypeIs v T/\∀a,v = .ref a->∃ob,s.heap.get? a=some ob/\ob.dict=none:=by
 cases x with
 | str z =>obtain⟨t,rfl⟩:=r;cases (ty);exact⟨Ic s z t,λ_ e=>nomatch e⟩
 | int i =>obtain⟨t,rfl⟩:=r;cases (ty);exact⟨typeIs_int s i t,λ_ e=>nomatch e⟩
 | ref p =>
  cases r;rcases ty with⟨rfl,xs,hq⟩ | ⟨rfl,o,hk,hc,hd⟩ | ⟨rfl,hk⟩ | ⟨rfl,S,n,hk⟩
  .obtain⟨j6,_,pl,_⟩:=I.list hq;refine⟨pl.isList.typeIs,λa e=>?_⟩;cases e;obtain⟨o,n,e,c,hd,_⟩:=pl;exact⟨o,e,hd⟩
  .refine⟨⟨o,I.kIn p o hk,hc⟩,λa e=>?_⟩;cases e;exact⟨o,I.kIn _ o hk,hd⟩
  .have z:∃o,s.heap.get? p=some o/\o.ExactDict:=by
    rcases hk with⟨j8,hk⟩ | ⟨j8,hk⟩
    .obtain⟨_,_,_,_,o,_,_,e,ex,_⟩:=I.hok p _ hk;exact⟨o,e,ex⟩
    .obtain⟨_,_,_,_,o,_,_,e,ex,_⟩:=I.hok p _ hk;exact⟨o,e,ex⟩
   obtain⟨o,e,ex⟩:=z;refine⟨⟨o,e,ex.1⟩,λa e2=>?_⟩;cases e2;exact⟨o,e,ex.2.1⟩
  .obtain⟨o,_,_,_,e,ex,_⟩:=I.hok p _ hk;refine⟨⟨o,e,ex.1⟩,λa e2=>?_⟩;cases e2;exact⟨o,e,ex.2.1⟩
 | _=>exact False.elim ty
def tBM (K:jk)(T:String)(r:V->kl->Hp->VK->Prop)(to:TE)(t:TA):TE:=λU H Q=>to U H λx H1=>tyV K T x H1/\t U H1 λxs H2=>r x xs H2 Q
variable{o:r8}{to:TE}{id:String}{r:V->kl->Hp->VK->Prop}
def pE (pa:PlainAttrs T)(slot:Slot T name id)(hty:typeOf (.builtin id)=pure (.type "method_descriptor"))(hm:MtR X id r)(ho:PE X o to)(ha:PA X (e::es) t)(hbase:attributeBase o name X.env (eval o X.env)=eval o X.env:=by rfl)(hfew:((backTo cpos<|starEach (e::es) X.env).all (λx => !x.1)&&(!36).all (λx=>x.1.isSome) && decide ((e::es).length+([]:List Keyword).length+(if ([]:List Keyword).isEmpty then 0 else 1) < 30))=true:=by rfl)(hline:(apos.endLine==cpos.line)=true:=by rfl) (hs:!24:=by rfl) (hplain:(backTo cpos (!26)).any (·.1)=false:=by rfl):PE X (.Call (.Attribute o name apos) (e::es) [] cpos)<|tBM X.K T r to t:=by refineλZ s U H Q I h=>wpAny_Call_method_late hbase hfew hline rfl<|thn (ho Z s U H _ I h) λv s1 ⟨x,H1,I1,r1,ty,q1⟩=>?_;obtain⟨h1,h2⟩:=zFt I1 r1 ty;refine⟨T,id,pa,slot,hty,h1,h2,?_⟩;have hA:=ha cpos Z s1 U H1 _ I1 q1;rw[hs] at hA ⊢;exact Calls.callWith_builtin (!6)<|Calls.evalArgs_plain<|thn hA λus s2 ⟨vs,H2,I2,r2,q2⟩=>hm Z s2 U H2 x vs v us Q I2 r1 r2 q2
end
def MtM (X:Cx)(id:String)(r:V->kl->Hp->VK->Prop):Prop :=
 ∀(Z:jm) (s:qw) (U:St) (H:Hp) (x:V) (xs:kl) (v:qv) (us:jn) (Q:VK),Inv X Z U H s->RelV x v->Vals xs us->r x xs H Q ->
  wpAny (!5) X.A (call (.builtin id)<|v::us) (EP X Z U Q) X.xe s
theorem Vals.one:∀ {x:V} {us:jn},Vals [x] us->∃u,us=[u]/\RelV x u
 | _,_,.cons r .nil=>⟨_,J,r⟩
theorem Vals.eraseIdx:∀ {xs:kl} {us:jn} (i:Nat),Vals xs us->Vals (xs.eraseIdx i) (us.eraseIdx i)
 | _,_,_,.nil=>.nil
 | _,_,0,.cons _ t=>t
 | _,_,i+1,.cons r t=>.cons r<|Vals.eraseIdx i t
theorem Vals.rep {xs:kl}{us:jn}(h:Vals xs us):∀k:Nat,Vals (List.replicate k xs).flatten (List.replicate k us).flatten
 | 0=>.nil
 | k+1=>by exact Vals.append h<|Vals.rep h k
theorem zUs {α:Type}:∀(l:List α) (i:Nat),(l.eraseIdx i).length<=l.length
 | [],_=>Qg _
 | _::_,0=>Yb _
 | _::r,i+1=>Nat.succ_le_succ<|zUs r i
theorem zUn (j6:jn):∀(k:Nat) (j7:jn), List.foldl (λx1 x2=>x1++x2) j7.toArray (List.replicate k j6.toArray)=(j7++(List.replicate k j6).flatten).toArray
 | 0,j7=>je
 | k+1,j7=>by
  have e:j7.toArray++j6.toArray=(j7++j6).toArray:=je;have e2:(j7++j6)++(List.replicate k j6).flatten=j7++(List.replicate (k+1) j6).flatten:=by rw[Tb,Yf,Ra]
  rw[<-e2,<-zUn j6 k _,<-e,Tb,List.foldl_cons]
def Inv.lset {its':jn}{f:Array qv->Array qv}(I:!4)(hH:H l=some (.lst xs))(e:s.heap.get? l=some { cls:=.type "list",data:=.seq j6.toArray n }) (hf:f j6.toArray=its'.toArray) (hv:Vals ys its') (hz:ys.length<=sizeLine):Inv X Z U (upd H l<|.lst ys) { s with heap:=s.heap.update l<|Obj.mapSeq f,toks:=t' }:=by have q:=PySem.IsL.update e f;rw[hf] at q;exact I.write (by rw[hH];exact trivial) (.inl J) (λb' u hb hu=>(Rj _ _<|Ne.symm hb).trans hu) ⟨_,q⟩ ⟨hz,its',_,hv,q⟩
def Inv.lnew (I:!4)(hv:Vals ys j6)(hz:ys.length<=sizeLine):Inv X Z U (upd H s.heap.objs.size<|.lst ys) { s with heap:=s.heap.push { cls:=.type "list",data:=.seq j6.toArray },toks:=t' } :=
 I.laid (λ_ _ q=>Qe _ q) (Qg _) ⟨hz,j6,0,hv,Qs _ rfl⟩
def Inv.fresh (I:!4):H s.heap.objs.size=none:=I.hok.fresh<|Qg _
def Inv.lstM (I:!4)(hH:H l=some (.lst xs)):xs.length<=sizeLine/\∃(j6:jn) (n:Nat),Vals xs j6/\xs.length=j6.length/\s.heap.get? l=some { cls:=.type "list",data:=.seq j6.toArray n }:=by obtain⟨z,j6,n,r,e⟩:=I.hok l _ hH;exact⟨z,j6,n,r,r.length,e⟩
theorem zRn (h:n<=sizeLine):Builtin.List.listTooLong n=false:=Qn jc
def zO4:V->kl->Hp->VK->Prop:=λx vs H Q=>∃l xs y,x = .ref l/\vs=[y]/\H l=some (.lst xs)/\xs.length < sizeLine/\Q .non (upd H l<|.lst<|xs++[y])
def tP:MtM X "list.append" zO4:=by
 intro Z s U H x vs v us Q I rx rv h;obtain⟨l,xs,y,rfl,rfl,hH,hz,q⟩:=h;cases rx;obtain⟨u,rfl,ru⟩:=rv.one;obtain⟨z,j6,n,r,hl,e⟩:=I.lstM hH;refine Th F.slot_list_append ⟨_,e,J⟩ F.entry_list_append (F.args_list_append_2 _ _) (PySem.list_append l _ n u (!8)) ⟨e,⟨.non,_,I.lset hH e je (r.append<|.cons ru .nil) ?_,J,q⟩⟩
 grind
def zO7:V->kl->Hp->VK->Prop:=λx vs H Q=>∃l b xs zs,x = .ref l/\vs=[.ref b]/\H l=some (.lst xs)/\H b=some (.lst zs)/\xs.length+zs.length<=sizeLine/\Q .non (upd H l<|.lst<|xs++zs)
def zZc:MtM X "list.extend" zO7:=by
 intro Z s U H x vs v us Q I rx rv h;obtain⟨l,b,xs,zs,rfl,rfl,hH,hB,hz,q⟩:=h;cases rx;obtain⟨u,rfl,ru⟩:=rv.one;cases ru;obtain⟨z,j6,n,r,hl,e⟩:=I.lstM hH;obtain⟨z2,its2,n2,r2,hl2,e2⟩:=I.lstM hB;have hsz:j6.toArray.size+its2.toArray.size<=sizeLine:=by rw[Qd,Qd];lia
 have hlong:¬(!j6.toArray.isEmpty&&Builtin.List.listTooLong (j6.toArray.size+its2.toArray.size))=true:=by rw[zRn hsz,Bool.and_false];exact Wl
 refine Th F.slot_list_extend ⟨_,e,J⟩ F.entry_list_extend (F.args_list_extend_2 _ _) (AutoSeq1.list_extend_list_list_0 l _ n b _ n2 hlong jc jc) ⟨e,e2,?_⟩;refine⟨.non,_,I.lset hH e je (r.append r2) ?_,J,q⟩;simp_all
def zKc:V->kl->Hp->VK->Prop:=λx vs H Q=>∃l xs i k y,x = .ref l/\vs=[.int i]/\H l=some (.lst xs) /\ -(2^63)<=i/\i < 2^63/\seqIndex? i xs.length=some k/\xs[k]?=some y/\Q y (upd H l<|.lst<|xs.eraseIdx k)
def zKy:MtM X "list.pop" zKc:=by
 intro Z s U H x vs v us Q I rx rv h;obtain⟨l,xs,i,k,y,rfl,rfl,hH,h1,h2,hk,hy,q⟩:=h;cases rx;obtain⟨u,rfl,ru⟩:=rv.one;obtain⟨t,rfl⟩:=ru;obtain⟨z,j6,n,r,hl,e⟩:=I.lstM hH;obtain⟨w,hw,rw'⟩:=r.get hy;refine Th F.slot_list_pop ⟨_,e,J⟩ F.entry_list_pop (F.args_list_pop_2 _ _) (MeetsSeq.list_pop_at l _ n i t k w (fitsIndex_both h1 h2) (!8) (!8) (!8)) ⟨e,?_⟩;refine⟨y,_,I.lset hH e ?_ (r.eraseIdx k) ?_,rw',q⟩
 .simp
 .have:=zUs xs k;lia
def zD2:R2:=λx y H Q=>∃l b xs zs,x = .ref l/\y = .ref b/\H l=some (.lst xs)/\H b=some (.lst zs)/\xs.length+zs.length<=sizeLine/\∀p,H p=none->Q (.ref p) (upd H p<|.lst<|xs++zs)
def zGH:OpR X (binaryOp .Add) zD2:=by
 sleep 5
 obtain⟨l,b,xs,zs,rfl,rfl,hH,hB,hz,q⟩:=h;cases rx;cases ry;obtain⟨z,j6,n,r,hl,e⟩:=I.lstM hH;obtain⟨z2,its2,n2,r2,hl2,e2⟩:=I.lstM hB;refine PySem.P.add_list e e2 ?_ (!8);have ea:j6.toArray++its2.toArray=(j6++its2).toArray:=je;rw[ea];exact⟨.ref _,_,I.lnew (r.append r2) (!8),J,q _ I.fresh⟩
end L2
variable{t:TE}{tb:qp}{r:List<|qu×Bool}{xs:List<|qj×qu×qv}
namespace Att
open PySem.Calls
def zYf {P:Params}:∀(ns:ki) (vs:jn),WellAll P h vs (ns.map WData.int)->IntsAre vs ns:=by
 intro ns;induction ns with
 | nil =>intro vs w;cases w;exact .nil
 | cons n ns ih =>
  intro vs w;cases w with
  | cons a b =>cases a;exact .cons _ _<|ih _ b
def zMX {l:OpenLaw}(hn:l.most=some n){P:Params}{args:List WData}{vals:jn}(hpre:l.row.toRowW.claim.pre args=true) (hwl:WellAll P h vals args):∃a vs ns,vals=[Value.ref a]/\args=[WData.list<|ns.map WData.int]/\h.get? a=some { cls:=.type "list",data:=.seq vs.toArray }/\IntsAre vs ns/\ns.length<=n:=by
 have hc:l.pre.holds [] { args:=args }=true:=(pre_splitW hpre).2;obtain⟨d,r,rfl,h1,h2⟩:=hasAllW_cons<|(pre_splitW hpre).1;obtain rfl:=hasAllW_nil h2;obtain⟨xs,rfl,h3⟩:=hasW_list h1;obtain⟨ns,rfl⟩:=items_int h3;have j5:ns.length<=n:=by
  have h4:(WTm.not<|.lt (.lit<|.int<|n)<|.len<|.arg 0).holds [] { args:=[.list<|ns.map .int] }=true:=by have h4:=(holds_andW hc).1;simp_all
  have h5:=condW_of h4<|w_not<|w_lt w_lit<|w_len_list<|w_arg rfl;simp_all
 cases hwl with
 | cons w1 w2 =>
  cases w2;cases w1 with
  | list ho hall=>exact⟨_,_,ns,J,J,ho,zYf ns _ hall,j5⟩
theorem zND (l:OpenLaw)(args:List WData):l.row.toRowW.claim.post args (.bool true) args=true :=
 postW_of
  (show WShape.has [] _ _=true by first | rfl | decide | simp[WShape.has])
  (w_eq_bool (w_res J) w_lit) rfl
def attach_call {l:OpenLaw}{loose:kh}(hn:l.most=some n) (hdf:d.params.defaults=[])(call:∀(w:qz) (s₀ s₁:qw) (mg mb:Str->kn) (fa:qu) (o:Obj) (pm cd doc:qv) (a:qu) (vs:jn) (ns:ki), Ground q loose [] XP w s₀ mg mb s₁.heap->YP w s₁.heap -> s₁.heap.get? fa=some o->o.data = .func (docDef d.name d.params d.body d.scope pm cd doc)->s₁.heap.CodeRec cd d.name->mg d.name=some (.ref fa) -> s₁.heap.get? a=some { cls:=.type "list",data:=.seq vs.toArray }->IntsAre vs ns->ns.length<=n->s₁.gens=#[] -> codeAny (model l.prog w) callerA (.call (.ref fa) ⟨[.ref a],[]⟩) (λr s'=>r = .ok (.ret<|.bool true)/\OldK s₁.heap s'.heap/\s'.os=s₁.os/\AllBare s'.gens) s₁):WalkO q loose XP YP l.row.toRowW d [] λf vs=>PySem.call f vs:=by intro w s₀ s₁ mg mb G Y fa o pm cd doc dV kV ho hd hcd hD hmg hg args vals as hpre hlay hrd hwl hlo;obtain rfl:=Dflts.none hD hdf;obtain rfl:=Dflts.noKw hD;obtain⟨a,vs,ns,rfl,rfl,hobj,hints,j5⟩:=zMX hn hpre hwl;refine enter_call<|Yw (call w s₀ s₁ mg mb fa o pm cd doc a vs ns G Y ho (fd_plain hd) hcd hmg hobj hints j5 hg) λr s' hq=>?_;obtain⟨rfl,h2,h3,h4⟩:=hq;exact⟨.inl ⟨.bool true,.bool true,[],J,λ_=>rfl,.bool true,zND l _,λ_=>⟨List.Pairwise.nil,λ_ hm=>(nomatch hm)⟩⟩,h2,h3,h4⟩
end Att
namespace L2
theorem zUd:∀ {vs:jn} {ns:ki},IntsAre vs ns->Vals (ns.map V.int) vs
 | _,_,.nil=>.nil
 | _,_,.cons n t h=>.cons ⟨t,J⟩<|zUd h
def zGk (H:Hp):Prop:=∀b,H b=none\/∃o xs,H b=some (.frz o<|.lst xs)
def zJC {mb:Str->kn}{k:Nat}{fa:qu}{s₁:qw}{vs:jn}{ns:ki}(KX:K.In s₁.heap) (hns:s₁.heap.Ns mainGlobals mg) (hb:s₁.heap.Ns builtinsNs mb) (hbb:∀x:Str,x≠"__name__"->mb x=bootBuiltins x) (hlim:s₁.heap.NoLimit) (hg:s₁.gens=#[])(ha:s₁.heap.get? a=some { cls:=.type "list",data:=.seq vs.toArray }) (hi:IntsAre vs ns) (hl:ns.length<=sizeLine) (hr:Room k callerA)(F:∀base:qx,K.In base->base.Ns mainGlobals mg->FnOk P w K mg base CX k fa fd [x] sp) (hbind:∀(s:qw) (u:qv),BindsTo s fd ⟨[u],[]⟩ [(x,u)])(hsp:∀H:Hp,zGk H->SqL K H a (ns.map V.int)->sp [.ref a] H (λv _=>v = .bl true) λ_ _ _=>False)(hCX:∀H e s',CX [] H s₁ (λ_ _ _=>False) e s'->False):codeAny (model P w) callerA (.call (.ref fa) ⟨[.ref a],[]⟩) (λr s'=>r = .ok (.ret<|.bool true)/\OldK s₁.heap s'.heap/\s'.os=s₁.os/\AllBare s'.gens) s₁:=by
 have rv:=zUd hi;have core:∀H:Hp,zGk H->SqL K H a (ns.map V.int)->HOk P w H s₁.heap->(∀b,H b≠none->b=a)->(H a≠none->K.lookup a=none) -> codeAny (model P w) callerA (.call (.ref fa) ⟨[.ref a],[]⟩) (λr s'=>r = .ok (.ret<|.bool true)/\OldK s₁.heap s'.heap/\s'.os=s₁.os/\AllBare s'.gens) s₁:=by
  intro H hO hS hok hA hK;have base_of:∀ {b:qu} {o:Obj},s₁.heap.get? b=some o->H b=none->(zTm _ H).get? b=some o:=λe n=>zJF e n;have noA:∀ {b:qu} {o:Obj} {es:Array DictEntry} {ep:Nat},s₁.heap.get? b=some o->o.data = .dict es ep->H b=none:=λ{b o es ep} e d=>by
   cases q:H b with
   | none=>rfl
   | some u =>have e':b=a:=hA b (by rw[q];simp);subst e';rw[ha] at e;cases e;have d':Data.seq _ _=Data.dict es ep:=d;cases d'
  have nsK:∀ {b:qu} {m:Str->kn},s₁.heap.Ns b m->(zTm _ H).Ns b m:=λ{b m} ⟨o,es,ep,e,d,r⟩=>⟨o,es,ep,base_of e<|noA e d,d,r⟩
  have hKb:K.In<|zTm _ H:=λb o e=>base_of (KX b o e) (by
   cases q:H b with
   | none=>rfl
   | some u =>have e':b=a:=hA b (by rw[q];simp);subst e';rw[hK (by rw[q];simp)] at e;cases e)
  have hM:Mod K mg<|zTm _ H:=⟨hKb,nsK hns,⟨mb,nsK hb,hbb⟩,let ⟨mc,h1,h2⟩:=hlim;⟨mc,nsK h1,h2⟩⟩
  have e0:Env0 P w K mg (zTm _ H) callerA [] s₁ H:=⟨J,hM,λb o e=>zIv e,Ox<|zMS _ _,trivial,λb hb=>absurd (show b∈([]:ko) from hb) je,hok,.of_eq hg⟩
  refine Yw ((F _ hKb<|nsK hns).run _ [] s₁ H ⟨[.ref a],[]⟩ [.ref a] [.ref a] _ _ hr e0 (hbind s₁<|.ref a) (.cons J .nil)<|hsp H hO hS) λr s' h=>?_;cases r with
  | error e=>exact(hCX H e s' h).elim
  | ok fl =>
   cases fl with
   | next=>exact False.elim h
   | brk=>exact False.elim h
   | cont=>exact False.elim h
   | ret u =>
    obtain⟨v,H',os,bare,un,hok',r',q⟩:=h;have q':v = .bl true:=q;subst q';obtain rfl:u=Value.bool true:=r';refine⟨J,OldK.of_keep λb o e=>?_,os,bare⟩;cases q:H b with
    | none=>exact un.keep b o e q (by intro z;exact absurd (show b∈([]:ko) from z) je) je
    | some u =>
     rcases hO b with z | ⟨ob,xs,z⟩
     .rw[q] at z;cases z
     .have z2:=un.frzs b ob _ z;obtain⟨e1,_⟩:=hok b _ z;obtain⟨e2,_⟩:=hok' b _ z2;rw[e] at e1;cases e1;exact e2
 cases hk:K.lookup a with
 | some o =>have e:=KX a o hk;rw[ha] at e;cases e;refine core (λ_=>none) (λ_=>.inl J) (.inr ⟨_,vs.toArray,_,hk,J,J,J,by rw[Qd,hi.length];exact hl,by simpa using rv⟩) (λb u z=>by have z':(none:Option HO)=some u:=z;cases z') (λb z=>absurd J z) λz=>absurd J z
 | none =>
  refine core (λb=>if b=a then some (.frz { cls:=.type "list",data:=.seq vs.toArray } (.lst<|ns.map _)) else none) (λb=>?_) (.inl<|.inr ⟨{ cls:=.type "list",data:=.seq _ },Qh rfl⟩) (λb u z=>?_) (λb z=>?_) λ_=>hk
  .by_cases hb:b=a
   .exact .inr ⟨_,_,Qh hb⟩
   .exact .inl (Qv hb)
  .by_cases hb:b=a
   .have z':=(Qh hb).symm.trans z;cases z';subst hb;exact⟨ha,by rw[Qy];exact hl,vs,_,rv,ha⟩
   .have z':=(Qv hb).symm.trans z;cases z'
  .by_cases hb:b=a
   .exact hb
   .simp_all
def zHK {l:PySem.W.OpenLaw}{k:Nat}{loose:kh}{K:Params->jk}{CX:qz->CXT}{sp:qz->Sp}(hn:l.most=some n) (hn2:n<=sizeLine) (hdf:d.params.defaults=[]) (hr:Room k callerA)(hY:∀(w:qz) (h:qx),YP w h->(K w.params).In h)(F:∀(w:qz) (mg:Str->kn) (fa:qu) (h:qx),(K w.params).In h->h.Ns mainGlobals mg->mg d.name=some (.ref fa) -> ∃fd:FuncData,(∀(s:qw) (u:qv),BindsTo s fd ⟨[u],[]⟩ [(x,u)]) /\ ∀base:qx,(K w.params).In base->base.Ns mainGlobals mg->FnOk l.prog w (K w.params) mg base (CX w) k fa fd [x] (sp w))(hsp:∀(w:qz) (H:Hp) (a:qu) (ns:ki),ns.length<=n->zGk H->SqL (K w.params) H a (ns.map V.int)->sp w [.ref a] H (λv _=>v = .bl true) λ_ _ _=>False)(hCX:∀(w:qz) (H:Hp) (s:qw) (e:qv) (s':qw),CX w [] H s (λ_ _ _=>False) e s'->False):PySem.W.WalkO q loose XP YP l.row.toRowW d [] λf vs=>PySem.call f vs:=by refine Att.attach_call hn hdf λw s₀ s₁ mg mb fa o pm cd doc a vs ns G Y ho hd hcd hmg hobj hints j5 hg=>?_;have KX:=hY w _ Y;obtain⟨fd,hb,hF⟩:=F w mg fa _ KX G.T.g hmg;exact zJC KX G.T.g G.T.b G.T.builtins G.T.nolimit hg hobj hints (Ww j5 hn2) hr hF hb (λH hO hS=>hsp w H a ns j5 hO hS) λH e s'=>hCX w H s₁ e s'
abbrev CX0:CXT:=λ_ _ _ _ _ _=>False
abbrev E0:XK:=λ_ _ _=>False
def jO:oU CX0 X E0:=λ_ _ _ _ _ _ _ h=>h.elim
structure Fun (K:jk)(x qual:Str)(st:r9)(f:qu)(fd:FuncData):Prop where
 ex:∃(oc:qv) (od:kr) (kV doc pm:qv) (an:kr) (j9 ct:qv) (osl:Array kn),
  fd=PySem.W.fnOf x qual (qB st) (xI st) (zV st) .none kV doc pm an j9 ct/\K.lookup f=some ⟨oc,od,.func fd,osl⟩/\codeIn K j9 qual=true
 kp:keepIn K (.ref f)=true
def Fun.ok {k:Nat}(F:Fun K x qual st f fd)(S:FnScope N ps<|zV st)(len:∀vs H Q E,sp vs H Q E->vs.length=ps.length)(hbody:∀(j9:qv) (A:qy) (outer:qb) (s:qw) (H:Hp) (vs:kl) (Q:VK) (E:XK),Room k (!35)->sp vs H Q E -> ∃t,PSs (qP CX0 P w K mg base N qual (zV st) f j9 A outer s H E).nox (xI st) t/\t { nx:=λ_ H'=>Q .non H',rt:=Q } (oN N vs) H):FnOk P w K mg base CX0 (k+1) f fd ps sp:=by obtain⟨oc,od,kV,doc,pm,an,j9,ct,osl,rfl,lk,hcd⟩:=F.ex;refine zGZ lk hcd S len λA _ s H vs Q E hr hsp=>?_;obtain⟨t,h,q⟩:=hbody j9 A _ s H vs Q E hr hsp;exact⟨t,h.nox,q⟩
def Fun.binds (F:Fun K x qual st f fd)(h:∀(kV doc pm:qv) (an:kr) (j9 ct:qv) (us:jn),us.length=ps.length->bindArgs (PySem.W.fnOf x qual (qB st) (xI st) (zV st) .none kV doc pm an j9 ct) ⟨us,[]⟩=pure (ps.zip us)):Binds K fd ps []:=by obtain⟨oc,od,kV,doc,pm,an,j9,ct,osl,rfl,lk⟩:=F.ex;exact .all<|h kV doc pm an j9 ct
def zTG {oc:qv}{an:kr}{kV doc pm j9 ct:qv}(l:K.lookup f=some ⟨oc,od,.func<|PySem.W.fnOf x qual (qB st) (xI st) (zV st) .none kV doc pm an j9 ct,osl⟩)(c:codeIn K j9 qual=true) (k:keepIn K (.ref f)=true):Fun K x qual st f<|PySem.W.fnOf x qual (qB st) (xI st) (zV st) .none kV doc pm an j9 ct:=⟨⟨oc,od,kV,doc,pm,an,j9,ct,osl,J,l,c⟩,k⟩
def pv (i:Nat)(hN:!25:=by rfl)(hv:!29:=by exact visQ rfl)(hd:!17:=by decide)(hcd:!28:=by decide):PE X (.Name x pos)<|zMM i:=wI hN hv hd hcd
def Same (H H':Hp):Prop:=∀b o,H b=some o->H' b=some o
def Same.refl (H:Hp):Same H H:=λ_ _ h=>h
def Same.trans {H1:Hp}(a:Same H H1)(b:Same H1 H2):Same H H2:=λc o h=>b c o<|a c o h
def Same.free (e:Same H H')(h:H' l=Option.none):H l=Option.none:=by
 cases q:H l with
 | none=>rfl
 | some o =>rw[e l o q] at h;cases h
def Same.seq {xs:kl}(e:Same H H')(h:SqL K H a xs):SqL K H' a xs:=by
 rcases h with(h | ⟨o,h⟩) | h
 .exact .inl (.inl<|e _ _ h)
 .exact .inl (.inr ⟨o,e _ _ h⟩)
 .exact .inr h
section
variable [DecidableEq κ]
def gC (j8:List<|κ×V)(k:κ):ql:=(j8.find? λkv=>decide (kv.1=k)).map (·.2)
def bZ (j8:List<|κ×V)(k:κ)(v:V):List (κ×V) :=if (j8.any λkv=>decide (kv.1=k))=true then j8.map (λkv=>if kv.1=k then(kv.1,v) else kv) else j8++[(k,v)]
def zYm (j8:List<|κ×V)(k:κ):List<|κ×V:=j8.filter λkv=>decide (kv.1≠k)
def zV7 {p:κ×V}{r:List<|κ×V}{k:κ}(e:p.1=k):gC (p::r) k=some p.2:=by simp[gC,e]
def zWq {p:κ×V}{r:List<|κ×V}{k:κ}(e:¬p.1=k):gC (p::r) k=gC r k:=by simp[gC,e]
theorem zZq (k:κ):∀j8:List<|κ×V,(j8.any λkv=>decide (kv.1=k))=(gC j8 k).isSome
 | []=>rfl
 | p::r=>by
  rw[Od]
  by_cases e:p.1=k
  .simp only[zV7 e,Qc e,Bool.true_or,Option.isSome_some]
  .rw[zWq e,Qn e];exact zZq k r
def zYo (j8:List<|κ×V)(k:κ)(v:V):(bZ j8 k v).length<=j8.length+1:=by
 unfold bZ;split
 .simp
 .simp
def zLQ {j8:List<|κ×V}{k:κ}(v:V)(h:gC j8 k=none):bZ j8 k v=j8++[(k,v)]:=by unfold bZ;rw[zZq,h];exact Qv je
def RelO.isSome_eq {u:kn}(r:RelO o u):o.isSome=u.isSome:=by
 cases o with
 | none=>cases u with
  | none=>rfl
  | some _=>exact(r).elim
 | some _=>cases u with
  | none=>exact(r).elim
  | some _=>rfl
def KV.val {j8:List<|κ×V}{vs:List<|κ×qv}(r:KV j8 vs)(k:κ):RelO (gC j8 k)<|valueAt vs k:=by
 induction r with
 | nil=>exact True.intro
 | @cons p q ps qs h t ih =>
  obtain⟨h1,h2⟩:=h
  by_cases e:p.1=k
  .have e':=h1.symm.trans e;have b:valueAt (q::qs) k=some q.2:=by simp[valueAt,e']
   rw[zV7 e,b];exact h2
  .have e':¬q.1=k:=λz=>e<|h1.trans z;have b:valueAt (q::qs) k=valueAt qs k:=by simp[valueAt,e']
   rw[zWq e,b];exact ih
def KV.any {j8:List<|κ×V}{vs:List<|κ×qv}(r:KV j8 vs)(k:κ):(j8.any λkv=>decide (kv.1=k))=vs.any λkv=>decide (kv.1=k):=by
 induction r with
 | nil=>rfl
 | cons h t ih=>rw[Od,Od,ih,h.1]
def KV.repl {j8:List<|κ×V}{vs:List<|κ×qv}(r:KV j8 vs)(k:κ)(ry:RelV y u):KV (j8.map λkv=>if kv.1=k then(kv.1,y) else kv)<|vs.map λkv=>if kv.1=k then(kv.1,u) else kv:=by
 induction r with
 | nil=>exact .nil
 | @cons p q ps qs h t ih =>
  refine .cons ?_ ih
  by_cases e:p.1=k
  .simp_all
  .simp_all
def KV.put {j8:List<|κ×V}{vs:List<|κ×qv}(r:KV j8 vs)(k:κ)(ry:RelV y u):KV (bZ j8 k y)<|stored vs k u:=by
 unfold bZ stored;rw[r.any k]
 by_cases e:(vs.any λkv=>decide (kv.1=k))=true
 .rw[Qh e,Qh e];exact r.repl k ry
 .rw[Qv e,Qv e];exact Paired.snoc r ⟨J,ry⟩
def KV.drop {j8:List<|κ×V}{vs:List<|κ×qv}(r:KV j8 vs)(k:κ):KV (zYm j8 k)<|without vs k:=by
 unfold zYm without;induction r with
 | nil=>exact .nil
 | @cons p q ps qs h t ih =>
  obtain⟨h1,h2⟩:=h;rw[Rz,Rz]
  by_cases e:p.1=k
  .simp_all
  .have e':¬q.1=k:=λz=>e<|h1.trans z;have a:decide (p.1≠k)=true:=by simp[e]
   have b:decide (q.1≠k)=true:=by simp[e']
   rw[Qh a,Qh b];exact .cons ⟨h1,h2⟩ ih
def KV.keys {j8:List<|κ×V}{vs:List<|κ×qv}(r:KV j8 vs):j8.map (·.1)=vs.map (·.1):=by
 induction r with
 | nil=>rfl
 | cons h t ih=>rw[Qx,Qx,ih,h.1]
theorem KV.length {j8:List<|κ×V}{vs:List<|κ×qv}(r:KV j8 vs):j8.length=vs.length:=Td r
theorem zLr (j8:List<|κ×V)(k:κ):(zYm j8 k).length<=j8.length:=Eg _ _
end
def zVc {k:Key}(r:RelV (kV k) u):(sL P w).is k u=true:=by
 cases k with
 | inl i=>obtain⟨t,e⟩:=(r);subst e;exact zRe P w i t
 | inr x=>obtain⟨t,e⟩:=(r);subst e;exact zSr P w x t
theorem zUi {P:Program}{w:qz}:∀ {ks:qj} {us:jn},Vals (ks.map kV) us->ItemsAre (sL P w) ks us
 | [],_,r=>by rw[Ov] at r;cases r;exact .nil
 | k::ks,_,r=>by
  rw[Qx] at r;cases r with
  | cons h t=>exact .cons (zVc h)<|zUi t
abbrev KTd (H:Hp):List (qj×V)->List (qj×qu×qv)->Prop:=Paired λp q=>p.1=q.1/\H q.2.1=some (.tup<|p.1.map kV)/\RelV p.2 q.2.2
def KTd.val (r:KTd H j8 xs)(k:qj):RelO (gC j8 k) ((atKey xs k).map (·.2)):=by
 induction r with
 | nil=>exact True.intro
 | @cons p q ps qs h t ih =>
  obtain⟨h1,_,h2⟩:=h
  by_cases e:p.1=k
  .have e':q.1=k:=h1.symm.trans e;have b:atKey (q::qs) k=some q.2:=by simp[atKey,Ym,e']
   rw[zV7 e,b];exact h2
  .have e':¬q.1=k:=λz=>e<|h1.trans z;have b:atKey (q::qs) k=atKey qs k:=by simp[atKey,Ym,e']
   rw[zWq e,b];exact ih
def KTd.repl (r:KTd H j8 xs)(k:qj)(ry:RelV y u):KTd H (j8.map λkv=>if kv.1=k then(kv.1,y) else kv)<|xs.map<|putAt k u:=by
 induction r with
 | nil=>exact .nil
 | @cons p q ps qs h t ih =>
  rw[Qx,Qx];refine .cons ?_ ih;obtain⟨h1,h2,h3⟩:=h;unfold putAt
  by_cases e:p.1=k
  .rw[Qh e,Qh<|h1.symm.trans e];exact⟨h1,h2,ry⟩
  .rw[Qv e,Qv λz=>e<|h1.trans z];exact⟨h1,h2,h3⟩
def KTd.put (r:KTd H j8 xs)(k:qj){b:qu}(hb:H b=some (.tup<|k.map kV))(ry:RelV y u):KTd H (bZ j8 k y)<|storedH xs k b u:=by
 have e:(j8.any λkv=>decide (kv.1=k))=(atKey xs k).isSome:=by rw[zZq,(r.val k).isSome_eq,Yg]
 unfold bZ storedH;rw[e]
 by_cases q:(atKey xs k).isSome=true
 .rw[Qh q,Qh q];exact r.repl k ry
 .rw[Qv q,Qv q];exact Paired.snoc r ⟨J,hb,ry⟩
def KTd.keeps (r:KTd H j8 xs)(ht:∀b ys,H b=some (.tup ys)->H' b=some (.tup ys)):KTd H' j8 xs :=
 Paired.mapP r λ_ _ z=>⟨z.1,ht _ _ z.2.1,z.2.2⟩
def zEl {u:HO}(ok:HOk P w H h)(e:Rd H a u):ObjOk P w H h a u:=e.ok ok
def zXt {j8:List<|Key×V}(ok:HOk P w H h)(e:Rd H a<|.dK j8):j8.length<=sizeLine/\(a==sysModules)=false/\∃vs,KV j8 vs/\h.DictOf (sL P w) a vs :=show ObjOk P w H h a _ from zEl ok e
def zJ9 {j8:List<|Key×V}(ok:HOk P w H h)(e:H a=some (.dK j8)):j8.length<=sizeLine/\(a==sysModules)=false/\∃vs,KV j8 vs/\h.DictOf (sL P w) a vs:=zXt ok<|.inl e
def zR7 (H:Hp)(a:qu)(y:V)(r:ql):Prop :=
 ∃j8 k,Rd H a (.dK j8)/\y=kV k/\r=gC j8 k
def DPut (H:Hp)(a:qu)(y v:V)(H':Hp):Prop:=∃j8 k,H a=some (.dK j8)/\y=kV k/\j8.length < sizeLine/\H'=upd H a (.dK<|bZ j8 k v)
theorem DPut.k {j8:List<|Key×V}{k:Key}(e:H a=some (.dK j8))(hl:j8.length < sizeLine):DPut H a (kV k) v<|upd H a<|.dK<|bZ j8 k v:=⟨j8,k,e,J,hl,J⟩
section
variable{r:qv}
def Inv.big (I:!4):sysModules < s.heap.objs.size:=by exact Nat.lt_trans jb<|(I.mod.glob.keeps I.bk).lt
def zMW {Q:jl}(hu:A.units+1 < cLine)(I:!4)(g:zR7 H a y<|some v)(ry:RelV y u)(h:∀w' s',Inv X Z U H s'->RelV v w'->Q w' s'):wpAny (!5) A (getItem (.ref a) u) Q E s:=by obtain⟨j8,k,e,ey,l⟩:=g;subst ey;obtain⟨z,hd,vs,rel,dd⟩:=zXt I.hok e;obtain⟨w',hw,rw'⟩:=RelO.some_of (by rw[l];exact rel.val k);exact wpAny_getItem_of (zVc ry) dd.mapOf hw<|h w' _ (I.tok _) rw'
def zDu {Q:jl}(hu:A.units+1 < cLine)(I:!4)(g:zR7 H a y o)(ry:RelV y u)(h:∀s',Inv X Z U H s'->Q (.bool o.isSome) s'):wpAny (!5) A (compareOp .In u<|.ref a) Q E s:=by obtain⟨j8,k,e,ey,l⟩:=g;subst ey;obtain⟨z,hd,vs,rel,dd⟩:=zXt I.hok e;refine wpAny_in_of (zVc ry) hd dd.mapOf ?_;rw[<-(rel.val k).isSome_eq,<-l];exact h _<|I.tok _
def zIe {Q:jl}(hu:A.units+1 < cLine)(I:!4)(g:zR7 H a y o)(ry:RelV y u)(h:∀s',Inv X Z U H s'->Q (.bool (!o.isSome)) s'):wpAny (!5) A (compareOp .NotIn u<|.ref a) Q E s:=by obtain⟨j8,k,e,ey,l⟩:=g;subst ey;obtain⟨z,hd,vs,rel,dd⟩:=zXt I.hok e;refine wpAny_notIn_of (zVc ry) hd dd.mapOf ?_;rw[<-(rel.val k).isSome_eq,<-l];exact h _<|I.tok _
def zT4 {ob:HO}(I:!4)(mu:Mut<|H a)(hs:Heap.SameBut a s.heap h')(he:∃q,h'.get? a=some q)(new:ObjOk X.prog X.w (upd H a ob) h' a ob):Inv X Z U (upd H a ob) { s with heap:=h',toks:=t' } :=
 I.write mu (.inl J) (λb q hb z=>(hs.2 b hb).trans z) he new
def zKW {j8:List<|Key×V}{vs:List<|Key×qv}(z:j8.length<=sizeLine)(hd:(a==sysModules)=false)(rel:KV j8 vs)(dd:h'.DictOf (sL P w) a vs):ObjOk P w H' h' a<|.dK j8:=⟨z,hd,vs,rel,dd⟩
def zNa {Q:Unit->qw->Prop}(hu:A.units+1 < cLine)(I:!4)(g:DPut H a y v H')(ry:RelV y u)(rv:RelV v r)(h:∀s',Inv X Z U H' s'->Q () s'):wpAny (!5) A (setItem (.ref a) u r) Q E s:=by
 obtain⟨j8,k,e,ey,l,eH⟩:=g;subst ey eH;obtain⟨z,hd,vs,rel,dd⟩:=zJ9 I.hok e;have hz:vs.length<=sizeLine:=by rw[<-rel.length];exact z
 have hl:(bZ j8 k v).length<=sizeLine:=by have:=zYo j8 k v;lia
 refine wpAny_setItem_pairs (hsz:=hz) (zVc ry) dd λh' dd' hs=>h _ ?_;have he:∃q,h'.get? a=some q:=let ⟨q,_,_,hq,_⟩:=dd';⟨q,hq⟩;exact zT4 I (by rw[e];exact True.intro) hs he<|zKW hl hd (rel.put k rv) dd'
variable{j8:List<|Key×V}{k:Key}
def zFc {more:jn}{Q:jl}(I:!4)(e:H a=some (.dK j8))(ry:RelV (kV k) u)(l:gC j8 k=some v)(hm:more=[]\/∃x,more=[x])(h:∀w' s',Inv X Z U (upd H a<|.dK<|zYm j8 k) s'->RelV v w'->Q w' s'):wpAny (!5) A (call (.builtin "dict.pop")<|.ref a::u::more) Q E s:=by
 obtain⟨z,hd,vs,rel,dd⟩:=zJ9 I.hok e;obtain⟨w',hw,rw'⟩:=RelO.some_of (by rw[<-l];exact rel.val k);have hp:(keyPart u).isSome=true:=by
  cases k with
  | inl i=>obtain⟨t,q⟩:=(ry);subst q;rfl
  | inr x=>obtain⟨t,q⟩:=(ry);subst q;rfl
 have ha:argsOk "dict.pop" ⟨.ref a::u::more,[]⟩:=by
  rcases hm with q | ⟨x,q⟩
  .subst q;exact PySem.F.args_dict_pop_2 _ _
  .subst q;exact PySem.F.args_dict_pop_3 _ _ _
 refine call_meetsIn PySem.F.slot_dict_pop dd.typeIs PySem.F.entry_dict_pop ha (meets_dict_pop_there _ a (zVc ry) more hm hp) ⟨vs,w',dd,by rw[<-rel.length];exact z,hw,λh' dd' hs=>h w' _ ?_ rw'⟩;have he:∃q,h'.get? a=some q:=let ⟨q,_,_,hq,_⟩:=dd';⟨q,hq⟩;exact zT4 I (by rw[e];exact True.intro) hs he<|zKW (Ww (zLr j8 k) z) hd (rel.drop k) dd'
end
def zGs (i:r8):Prop:=∀ov iv,subscripted i false ov iv=operate [ov,iv] (getItem ov iv)
def zIP {slice:r8}{id:String}{Q:jl}(hl:typeLookup (.type T) "__getitem__"=pure (some<|.builtin id)) (hs:zGs slice)(h:wpAny (!9) A (eval value env) (λo s₁=>wpAny (!9) A (eval slice env) (λi s₂=>s₂.TypeIs o T/\wpAny (!9) A (getItem o i) Q E s₂) E s₁) E s):wpAny (!9) A (eval (.Subscript value slice pos) env) Q E s:=by
 refine Subscript_<|Ed h (λo s₁ h₁=>Ed h₁ (λi s₂ h₂=>?_) λ_ _ x=>x) λ_ _ x=>x;obtain⟨hT,h₂⟩:=h₂;refine Qw<|Qw<|wpAny_specialOf hT hl ?_;have fin:wpAny (!9) A (subscripted slice false o i) (λr s₃ => wpAny (!9) A (letTemporaryGo value o r >>= λ_=>pure r) Q E s₃) E s₂:=by rw[hs o i];exact wpAny_operating<|Ed h₂ (λr s₃ h₃ => Qw (wpAny_letTemporaryGo<|Qi h₃)) λ_ _ x=>x
 first
  | exact Qi (Qw fin)
  | exact _ _ fin
def zSs (I:!4)(g:zR7 H a y o):s.TypeIs (.ref a) "dict":=by obtain⟨j8,k,e,_⟩:=g;obtain⟨_,_,vs,_,dd⟩:=zXt I.hok e;exact dd.typeIs
def zE6 (td ty:TE):TE:=λU H Q=>td U H λx H1=>ty U H1 λy H2=>∃a v,x = .ref a/\zR7 H2 a y (some v)/\Q v H2
def zDH (ty td:TE):TE:=λU H Q=>ty U H λy H1=>td U H1 λx H2=>∃a o,x = .ref a/\zR7 H2 a y o/\Q (.bl o.isSome) H2
def zHF (ty td:TE):TE:=λU H Q=>ty U H λy H1=>td U H1 λx H2=>∃a o,x = .ref a/\zR7 H2 a y o/\Q (.bl (!o.isSome)) H2
def zE7 (td ty tv:TE):TS:=λD U H=>tv U H λv H1=>td U H1 λx H2=>ty U H2 λy H3=>∃a H4,x = .ref a/\DPut H3 a y v H4/\D.nx U H4
section
variable{o i:r8}{td ty tv:TE}
def zIf (hu:X.A.units+1 < cLine)(ho:PE X o td)(hi:PE X i ty)(hs:zGs i):PE X (.Subscript o i pos)<|zE6 td ty:=by refineλZ s U H Q I h=>zIP PySem.F.slot_dict_getitem.lookup hs<|thn (ho Z s U H _ I h) λu s1 ⟨x,H1,I1,rx,q1⟩=>thn (hi Z s1 U H1 _ I1 q1) λiv s2 ⟨y,H2,I2,ry,a,v,ex,g,q2⟩=>?_;subst ex;obtain rfl:=rx;exact⟨zSs I2 g,zMW hu I2 g ry λw' s3 I3 rw'=>⟨v,H2,I3,rw',q2⟩⟩
def zGK (hu:X.A.units+1 < cLine)(hi:PE X i ty)(ho:PE X o td):PC X .In i o<|zDH ty td:=by refineλZ s U H Q I h=>thn (hi Z s U H _ I h) λiv s1 ⟨y,H1,I1,ry,q1⟩=>thn (ho Z s1 U H1 _ I1 q1) λu s2 ⟨x,H2,I2,rx,a,ov,ex,g,q2⟩=>?_;subst ex;obtain rfl:=rx;exact zDu hu I2 g ry λs3 I3=>⟨.bl ov.isSome,H2,I3,J,q2⟩
def zN4 (hu:X.A.units+1 < cLine)(hi:PE X i ty)(ho:PE X o td):PC X .NotIn i o<|zHF ty td:=by refineλZ s U H Q I h=>thn (hi Z s U H _ I h) λiv s1 ⟨y,H1,I1,ry,q1⟩=>thn (ho Z s1 U H1 _ I1 q1) λu s2 ⟨x,H2,I2,rx,a,ov,ex,g,q2⟩=>?_;subst ex;obtain rfl:=rx;exact zIe hu I2 g ry λs3 I3=>⟨.bl _,H2,I3,J,q2⟩
def zOW (hu:X.A.units+1 < cLine)(ho:PE X o td)(hi:PE X i ty)(hv:PE X value tv)(hs:swapsWith value (some<|.Subscript o i pos') pos.line X.env=pure false):PS X (.Assign [.Subscript o i pos'] value pos)<|zE7 td ty tv:=by refineλZ s U H D I h=>wpAny_Assign_Subscript (thn (hv Z s U H _ I h) λr s1 ⟨v,H1,I1,rv,q1⟩=>thn (ho Z s1 U H1 _ I1 q1) λu s2 ⟨x,H2,I2,rx,q2⟩=>thn (hi Z s2 U H2 _ I2 q2) λiv s3 ⟨y,H3,I3,ry,a,H4,ex,g,q3⟩=>?_) hs;subst ex;obtain rfl:=rx;exact zNa hu I3 g ry rv λs4 I4=>⟨U,H4,I4,q3⟩
def zJN (h:qx)(hb:sysModules < h.objs.size):ObjOk P w H (h.push { cls:=.type "dict",data:=.dict #[] }) h.objs.size (.dK []) :=
 ⟨Er _,Tw.mpr<|Ne.symm<|Wy hb,[],.nil,Heap.DictOf.new h⟩
def zFM:TE:=λ_ H Q=>∀p,H p=none->Q (.ref p) (upd H p<|.dK [])
def zRb:PE X (.Dict [] [] pos) zFM:=λZ s U H Q I h =>wpAny_Dict_empty ⟨.ref s.heap.objs.size,_,I.laid (λ_ _ q=>Qe _ q) (Qg _)<|zJN _ I.big,J,h _<|I.hok.fresh<|Qg _⟩
end
structure M1 (X:Cx)(o:r8)(m:Str)(apos:Pos)(e:r8)(cpos:Pos):Prop where
 base:attributeBase o m X.env (eval o X.env)=eval o X.env
 few:((backTo cpos (starEach [e] X.env)).all (λx => !x.1)&&(!36).all (λx=>x.1.isSome)
  && decide (([e]:qt).length+([]:List Keyword).length+(if ([]:List Keyword).isEmpty then 0 else 1) < 30))=true
 line:(apos.endLine==cpos.line)=true
 trees:backTo cpos (starEach [e] X.env)=[(false,eval e X.env)]
structure M2 (X:Cx)(o:r8)(m:Str)(apos:Pos)(e f:r8)(cpos:Pos):Prop where
 base:attributeBase o m X.env (eval o X.env)=eval o X.env
 few:((backTo cpos (starEach [e,f] X.env)).all (λx => !x.1)&&(!36).all (λx=>x.1.isSome)
  && decide (([e,f]:qt).length+([]:List Keyword).length+(if ([]:List Keyword).isEmpty then 0 else 1) < 30))=true
 line:(apos.endLine==cpos.line)=true
 trees:backTo cpos (starEach [e,f] X.env)=[(false,eval e X.env),(false,eval f X.env)]
def IsD (H:Hp)(a:qu):Prop:=∃j8,Rd H a<|.dK j8
def zFy (I:!4)(d:IsD H a):s.TypeIs (.ref a) "dict"/\(∀b,Value.ref a = .ref b->∃ob,s.heap.get? b=some ob/\ob.dict=none)/\(a==sysModules)=false:=by obtain⟨j8,e⟩:=d;obtain⟨_,hd,vs,_,dd⟩:=zXt I.hok e;refine⟨dd.typeIs,λb q=>?_,hd⟩;cases q;obtain⟨ob,_,_,h1,h2,_⟩:=dd;exact⟨ob,h1,h2.2.1⟩
def zGl (td ty:TE):TE:=λU H Q=>td U H λx H1=>∃a,x = .ref a/\IsD H1 a/\ty U H1 λy H2=>∃j8 k v,H2 a=some (.dK j8)/\y=kV k/\gC j8 k=some v/\Q v (upd H2 a<|.dK<|zYm j8 k)
section
variable{o:r8}{td ty:TE}
def zQH (ho:PE X o td)(he:PE X e ty)(m:M1 X o "pop" apos e cpos):PE X (.Call (.Attribute o "pop" apos) [e] [] cpos)<|zGl td ty:=by refineλZ s U H Q I h=>wpAny_Call_method m.base m.few m.line PySem.F.plainAttrs_dict PySem.F.slot_dict_pop PySem.F.type_dict_pop<|thn (ho Z s U H _ I h) λu s1 ⟨x,H1,I1,rx,a,ex,d,q1⟩=>?_;subst ex;obtain rfl:=rx;obtain⟨t1,t2,_⟩:=zFy I1 d;refine⟨t1,t2,?_⟩;rw[m.trees];refine Calls.callWith_builtin rfl<|Calls.evalArgs_plain<|Calls.spliced_cons<|thn (he Z s1 U H1 _ I1 q1) λiv s2 ⟨y,H2,I2,ry,j8,k,v,ea,ey,l,q2⟩=>Calls.spliced_nil ?_;subst ey;exact zFc I2 ea ry l (.inl J) λw' s3 I3 rw'=>⟨v,_,I3,rw',q2⟩
end
def DEs (h:qx)(d:qu)(es:Array DictEntry)(ep:Nat):Prop:=∃o,h.get? d=some o/\o.ExactDict/\o.data = .dict es ep
def DEs.keep {d:qu}{es:Array DictEntry}(x:DEs h d es ep)(k:∀o,h.get? d=some o->h'.get? d=some o):DEs h' d es ep:=let ⟨o,h1,h2⟩:=x;⟨o,k o h1,h2⟩
section
variable{d I:qu}{es:Array DictEntry}
abbrev kiO (d:qu)(i n ep:Nat):Obj:={ cls:=.type "dict_keyiterator",data:=.fields #[.ref d,rawInt i,rawInt n,rawInt ep] }
def zH3 {v:qv}(hd:DEs s.heap d es ep)(hI:s.heap.get? I=some (kiO d i es.size ep))(hv:es[i]?.map (·.key)=some v)(h:∀h',Heap.SameBut I s.heap h'->h'.get? I=some (kiO d (i+1) es.size ep)->Q (some v) (!18)):wpAny (model P w) A (pyNext<|.ref I) Q E s:=by
 have hT:s.TypeIs (.ref I) "dict_keyiterator":=⟨_,hI,J⟩
 obtain⟨o,ho,hx,hdt⟩:=hd;unfold pyNext;refine Qw<|Og ?_;have sl:Slot "dict_keyiterator" "__next__" "dict_keyiterator.__next__":=F.slot_dict_keyiterator_next;refine Ej (name:=Str.ofString "__next__") hT sl<|Ey sl hT F.entry_dict_keyiterator_next ?_<|F.args_dict_keyiterator_next_1 _;obtain⟨cc,dd,dt,sz⟩:=o;dsimp only at hdt;subst hdt
 wp_walk
 rw[Qv je]
 wp_walk
 have ei:((i:Nat):Int).toNat=i:=Yh i;rw[ei];cases he:es[i]? with
 | none=>rw[he] at hv;cases hv
 | some e =>
  rw[he] at hv;have hv:some e.key=some v:=hv;cases hv;dsimp only
  wp_walk
  have key:∀(n:Nat) (m:Int),n=1->m=(i:Int)+1->Q (some e.key) { s with heap:=s.heap.update I (Obj.mapFields λx=>x.setIfInBounds n<|rawInt m) }:=λn m e1 e2=>by subst e1;subst e2;refine h _ ⟨Py _ _ _,λb hb=>Ea _ _ _ _ hb⟩ ?_;have:=Rc (Obj.mapFields λx=>x.setIfInBounds 1<|rawInt<|(i:Int)+1) hI rfl;refine this.trans ?_;rfl
  refine⟨_,J,Qi<|key _ _ jf ?_⟩;rw[Qv ja]
def zGB (hh:A.handled=none)(hd:DEs s.heap d es ep)(hI:s.heap.get? I=some (kiO d i es.size ep))(hv:es[i]?=none)(h:∀h',(∀c o,c≠I->s.heap.get? c=some o->h'.get? c=some o)->Q none (!18)):wpAny (model P w) A (pyNext<|.ref I) Q E s:=by
 have hT:s.TypeIs (.ref I) "dict_keyiterator":=⟨_,hI,J⟩
 obtain⟨o,ho,hx,hdt⟩:=hd;unfold pyNext;refine Qw<|Og ?_;have sl:Slot "dict_keyiterator" "__next__" "dict_keyiterator.__next__":=F.slot_dict_keyiterator_next;refine Ej (name:=Str.ofString "__next__") hT sl<|Ey sl hT F.entry_dict_keyiterator_next ?_<|F.args_dict_keyiterator_next_1 _;obtain⟨cc,dd,dt,sz⟩:=o;dsimp only at hdt;subst hdt
 wp_walk
 rw[Qv je]
 wp_walk
 have ei:((i:Nat):Int).toNat=i:=Yh i;rw[ei,hv];dsimp only
 wp_walk
 refine wpAny_raiseNew_none (by simp[hh])<|Qw<|Pu (T:="StopIteration") (b:=true) ⟨_,Qs _ rfl,rfl⟩ isSubtype_stop<|Qi<|h _ λc o hc e=>?_;exact Qe _<|Qe _ (by rw[Ea _ _ _ _ hc];exact e)
def zID {Q:jl}(hd:DEs s.heap d es ep)(hs:(d==sysModules)=false)(h:Q (.ref s.heap.objs.size) { s with heap:=s.heap.push (kiO d 0 es.size ep) }):wpAny (model P w) A (pyIter<|.ref d) Q E s:=by
 obtain⟨o,ho,hx,hdt⟩:=hd;have hT:s.TypeIs (.ref d) "dict":=⟨_,ho,hx.1⟩
 refine Ol hT F.slot_dict_iter<|Ey F.slot_dict_iter hT F.entry_dict_iter ?_<|F.args_dict_iter_1 _;obtain⟨cc,dd,dt,sz⟩:=o;dsimp only at hdt;subst hdt;have hc:cc = .type "dict":=hx.1;subst hc
 wp_walk
 exact⟨_,J,_,_,⟨_,Qs _ J,J⟩,F.slot_dict_keyiterator_next.lookup,h⟩
end
end L2
variable{a q:Nat}{o:HO}{y T:Str}{xs:kl}
namespace L2
def evT {α:Type}(lt:kq):KasT α->α
 | .ret a=>a
 | .ask i j k=>evT lt<|k<|lt i j
theorem jL {α β:Type}(lt:kq)(f:α->KasT β):∀t:KasT α,evT lt (t.bind f)=evT lt (f<|evT lt t)
 | .ret _=>rfl
 | .ask i j k=>jL lt f<|k _
structure SWO (lt:kq):Prop where
 irr:∀a,lt a a=false
 tr:∀a b c,lt a b=true->lt b c=true->lt a c=true
 neg:∀a b c,lt a c=true->lt a b=true\/lt b c=true
def Lx (lt:kq)(a b:Nat):Prop:=lt a b=true\/(lt a b=false/\lt b a=false/\a < b)
section
variable{lt:kq} (W:SWO lt)
include W
def SWO.asym {b:Nat}(h:lt a b=true):lt b a=false:=by
 cases e:lt b a
 .rfl
 .have:=W.tr _ _ _ h e;rw[W.irr] at this;cases this
def SWO.eqr {b c:Nat}(h:lt a b=true)(h1:lt c b=false):lt a c=true:=by
 rcases W.neg a c b h with e | e
 .exact e
 .simp_all
def SWO.eql {b c:Nat}(h:lt a b=true)(h1:lt a c=false):lt c b=true:=by
 rcases W.neg a c b h with e | e
 .simp_all
 .exact e
def SWO.ntr {b c:Nat}(h1:lt a b=false)(h2:lt b c=false):lt a c=false:=by
 cases e:lt a c
 .rfl
 .rcases W.neg a b c e with z | z
  .simp_all
  .simp_all
def Lx.trans {b c:Nat}(h1:Lx lt a b)(h2:Lx lt b c):Lx lt a c:=by
 rcases h1 with h1 | ⟨x1,x2,x3⟩<;>rcases h2 with h2 | ⟨y1,y2,y3⟩
 .exact .inl (W.tr _ _ _ h1 h2)
 .exact .inl (W.eqr h1 y2)
 .exact .inl (W.eql h2 x2)
 .exact .inr ⟨W.ntr x1 y1,W.ntr y2 x2,jc⟩
def Lx.le {b:Nat}(h:Lx lt a b):lt b a=false:=by
 rcases h with h | ⟨_,h,_⟩
 .exact W.asym h
 .exact h
def Lx.of {b:Nat}(h:lt b a=false)(hab:a < b):Lx lt a b:=by
 cases e:lt a b
 .exact .inr ⟨e,h,hab⟩
 .exact .inl e
end
abbrev gg (p:qf)(k:Nat):Nat:=p.getD k 0
def zZT (p:qf)(k:Nat):gg p k=(p[k]?).getD 0:=je
def oZ (hj:j<=p.size)(k:Nat):gg (kas_rev p i j) k=if i<=k/\k < j then gg p (i+j - 1 - k) else gg p k:=by rw[zZT,zZT,zZT];unfold kas_rev;rw[getElem?_mirror_all hj];split<;>rfl
def zT6 {k l:Nat}(hk:k < p.size)(hl:l<=k)(i:Nat):gg (bubble p k<|k - l) i=if i=l then gg p k else if l < i/\i<=k then gg p (i - 1) else gg p i:=by
 rw[zZT,zZT,zZT,zZT,getElem?_bubble hk _ jc,show k - _=l by lia];split
 .rfl
 .split<;>rfl
def Srt (lt:kq)(p:qf)(a:Nat):Prop:=∀i j,i < j->j < a->Lx lt (gg p i) (gg p j)
def Dcr (lt:kq)(p:qf)(a:Nat):Prop:=∀i j,i < j->j < a->Lx lt (gg p j) (gg p i)
structure Org (N:Nat)(p:qf)(a:Nat):Prop where
 sz:p.size=N
 pm:p.toList.Perm<|List.range N
 hi:∀j,a<=j->j < N->gg p j=j
 lo:∀i,i < a->gg p i < a
def zF1 {N:Nat}(h:p.toList.Perm<|List.range N):(kas_rev p i j).toList.Perm<|List.range N:=(Uu.mp<|Oi _ _ _ _).trans h
def Org.rev {N:Nat}(h:Org N p a)(ha:a<=N):Org N (kas_rev p i a) a:=by
 have hs:a<=p.size:=by rw[h.sz];exact ha
 refine⟨by unfold kas_rev;rw[mirror_size];exact h.sz,zF1 h.pm,λj h1 h2=>?_,λk hk=>?_⟩
 .rw[oZ hs,Qv jc];exact h.hi j h1 h2
 .rw[oZ hs];split
  .exact h.lo _ jc
  .exact h.lo _ hk
theorem Org.next {N:Nat}(h:Org N p a)(ha:a < N):Org N p (a+1) :=
 ⟨h.sz,h.pm,λj h1 h2=>h.hi j jc h2,λi hi=>by
  by_cases e:i=a
  .subst e;rw[h.hi i jc ha];lia
  .have:=h.lo i jc;lia⟩
section
variable{lt:kq} (W:SWO lt){N:Nat}
include W
def zJ8 (h1:1<=n)(hn:n < N)(hs:Srt lt p n)(ho:Org N p n)(hlt:lt (gg p n) (gg p<|n - 1)=false):Srt lt p<|n+1:=by
 have hl:=Lx.of W hlt (by rw[ho.hi n jc hn];exact ho.lo _ jc);intro i j hij hj
 by_cases e:j=n
 .subst e
  by_cases e':i=j - 1
  .subst e';exact hl
  .exact Lx.trans W (hs i _ jc jc) hl
 .exact hs i j hij jc
theorem zQv (p:qf):∀(f n:Nat),1<=n->n+f=N->Srt lt p n->Org N p n -> n<=evT lt (kas_asc p f n)/\evT lt (kas_asc p f n)<=N/\Srt lt p (evT lt<|kas_asc p f n)/\Org N p (evT lt<|kas_asc p f n)/\(evT lt (kas_asc p f n) < N->lt (gg p<|evT lt<|kas_asc p f n) (gg p<|evT lt (kas_asc p f n) - 1)=true)
 | 0,n,h1,hn,hs,ho=>⟨Qg _,by show n<=N;lia,hs,ho,λz=>by have z:n < N:=z;lia⟩
 | f+1,n,h1,hn,hs,ho=>by
  have e:evT lt (kas_asc p (f+1) n)=if lt (gg p n) (gg p<|n - 1)=true then n else evT lt (kas_asc p f<|n+1):=by show evT lt (if lt _ (gg p _)=true then .ret n else kas_asc p f _)=_;split<;>rfl
  rw[e];cases hc:lt _<|gg p _
  .rw[Qv je];obtain⟨a1,a2,a3,a4,a5⟩:=zQv p f _ jc jc (zJ8 W h1 jc hs ho hc)<|ho.next jc;exact⟨jc,a2,a3,a4,a5⟩
  .rw[Qh rfl];exact⟨Qg _,jc,hs,ho,λ_=>hc⟩
omit W in
theorem zI0 (hn:n<=p.size)(h:Dcr lt p n):Srt lt (kas_rev p 0 n) n:=λi j hij hj=>by rw[oZ hn,oZ hn,Qh jc,Qh jc];exact h _ _ jc jc
def zRZ (p:qf)(n:Nat)(h1:1<=n)(hn:n<=N)(hd:Dcr lt p n)(ho:Org N p n):n<=(evT lt<|kas_tail3 n N p).1/\(evT lt<|kas_tail3 n N p).1<=N/\Srt lt (evT lt<|kas_tail3 n N p).2 (evT lt<|kas_tail3 n N p).1/\Org N (evT lt<|kas_tail3 n N p).2 (evT lt<|kas_tail3 n N p).1:=by
 have hs:n<=p.size:=by rw[ho.sz];exact hn
 obtain⟨a1,a2,a3,a4,_⟩:=zQv W _ (N - n) n h1 jc (zI0 hs hd)<|ho.rev hn;unfold kas_tail3;rw[jL];exact⟨a1,a2,a3,a4⟩
structure Fal (lt:kq)(N:Nat)(p:qf)(n q:Nat):Prop where
 hq:q+1<=n
 dn:∀i j,i < j->j < n - (q+1)->Lx lt (gg p j) (gg p i)
 ac:∀i j,i < n - (q+1)->n - (q+1)<=j->j < n->lt (gg p j) (gg p i)=true
 eq:∀i j,n - (q+1)<=i->i < j->j < n->lt (gg p i) (gg p j)=false/\lt (gg p j) (gg p i)=false/\gg p i < gg p j
 og:Org N p n
def Fal.last (h:Fal lt N p n q)(hi:n - (q+1)<=i)(hin:i < n):lt (gg p i) (gg p<|n - 1)=false/\lt (gg p<|n - 1) (gg p i)=false:=by
 by_cases e:i=n - 1
 .subst e;exact⟨W.irr _,W.irr _⟩
 .have:=h.eq i (n - 1) hi jc jc;exact⟨this.1,this.2.1⟩
def Fal.turn (h:Fal lt N p n q)(hn:n<=N):Dcr lt (kas_rev p (n - (q+1)) n) n/\Org N (kas_rev p (n - (q+1)) n) n:=by
 have hs:n<=p.size:=by rw[h.og.sz];exact hn
 refine⟨λi j hij hj=>?_,h.og.rev hn⟩;rw[oZ hs,oZ hs]
 by_cases hj':n - (q+1)<=j
 .rw[Qh ⟨hj',hj⟩]
  by_cases hi':n - (q+1)<=i
  .rw[Qh ⟨hi',jc⟩];exact .inr<|h.eq _ _ jc jc jc
  .rw[Qv jc];exact .inl<|h.ac _ _ jc jc jc
 .rw[Qv jc,Qv jc];exact h.dn i j hij jc
def zZE (h1:1<=n)(hn:n < N)(hd:Dcr lt p n)(ho:Org N p n)(hl:∀i,i < n->lt (gg p n) (gg p i)=true):Fal lt N p (n+1) 0:=by refine⟨jc,λi j hij hj=>hd i j hij jc,λi j hi hj hj'=>?_,λi j hi hij hj=>jc,ho.next hn⟩;have:j=n:=jc;simp_all
def Fal.less (h:Fal lt N p n q)(hc:lt (gg p n) (gg p<|n - 1)=true)(i:Nat)(hi:i < n):lt (gg p n) (gg p i)=true:=by
 by_cases hr:n - (q+1)<=i
 .exact W.eqr hc (Fal.last W h hr hi).1
 .exact W.tr _ _ _ hc (h.ac i _ jc jc jc)
theorem Fal.dcr (h:Fal lt N p n 0):Dcr lt p n:=λi j hij hj=>by
 by_cases e:j=n - 1
 .exact .inl (h.ac i j jc jc hj)
 .exact h.dn i j hij jc
theorem zXQ:∀(f:Nat) (p:qf) (n q:Nat),n+f=N->Fal lt N p n q -> n<=(evT lt<|kas_desc f p n q).2.1/\(evT lt<|kas_desc f p n q).2.1<=N/\Fal lt N (evT lt<|kas_desc f p n q).1 (evT lt<|kas_desc f p n q).2.1 (evT lt<|kas_desc f p n q).2.2
 | 0,p,n,q,hn,h=>⟨Qg _,by show n<=N;lia,h⟩
 | f+1,p,n,q,hn,h=>by
  have hq:=h.hq;have e:evT lt (kas_desc (f+1) p n q)=if lt (gg p n) (gg p<|n - 1)=true then(if q > 0 then evT lt (kas_desc f (kas_rev p (n - (q+1)) n) (n+1) 0) else evT lt (kas_desc f p (n+1) 0)) else if lt (gg p<|n - 1) (gg p n)=true then(p,n,q) else evT lt (kas_desc f p (n+1)<|q+1):=by
   show evT lt (if lt (gg p n) (gg p<|n - 1)=true then(if q > 0 then kas_desc f (kas_rev p (n - (q+1)) n) (n+1) 0 else kas_desc f p (n+1) 0) else .ask (p.getD (n - 1) 0) (p.getD n 0) λd=>if d=true then .ret (p,n,q) else kas_desc f p (n+1) (q+1))=_
   by_cases hc:lt (gg p n) (gg p<|n - 1)=true
   .rw[Qh hc];split<;>rfl
   .rw[Qv hc];show evT lt (if lt (gg p<|n - 1) (gg p n)=true then .ret (p,n,q) else kas_desc f p (n+1) (q+1))=_;split<;>rfl
  rw[e];cases hc:lt (gg p n)<|gg p<|n - 1
  .rw[Qv jb];cases hd:lt (gg p<|n - 1) _
   .rw[Qv jb];have hnn:=h.og.hi n jc jc;obtain⟨a1,a2,a3⟩:=zXQ f p _ (q+1) jc ⟨jc,λi j hij hj=>h.dn i j hij jc,λi j hi hj hj'=>by
      by_cases e:j=n
      .subst e;exact W.eql (h.ac i _ jc jc jc) hd
      .exact h.ac i j jc jc jc,λi j hi hij hj=>by
      by_cases e:j=n
      .subst e;obtain⟨l1,l2⟩:=Fal.last W h (i:=i) jc jc;exact⟨W.ntr l1 hd,W.ntr hc l2,by rw[hnn];exact h.og.lo i jc⟩
      .exact h.eq i j jc hij jc,h.og.next jc⟩
    exact⟨jc,a2,a3⟩
   .rw[Qh rfl];exact⟨Qg _,by show n<=N;lia,h⟩
  .rw[Qh rfl];have hl:=λi hi=>Fal.less W h hc i hi
   by_cases hq0:q > 0
   .rw[Qh hq0];obtain⟨t1,t2⟩:=Fal.turn W h jc;have hs:n<=p.size:=by rw[h.og.sz];lia
    obtain⟨a1,a2,a3⟩:=zXQ f (kas_rev p (n - _) n) _ 0 jc (zZE W jc jc t1 t2 λi hi=>by
     rw[oZ hs,oZ hs,Qv jc];split
     .exact hl _ jc
     .exact hl _ hi)
    exact⟨jc,a2,a3⟩
   .rw[Qv hq0];have:q=0:=jc;subst this;obtain⟨a1,a2,a3⟩:=zXQ f p _ 0 jc<|zZE W jc jc (Fal.dcr W h) h.og hl;exact⟨jc,a2,a3⟩
def zFG (lt:kq)(N:Nat)(r:Nat×qf):Prop:=1<=r.1/\r.1<=N/\Srt lt r.2 r.1/\Org N r.2 r.1
def zYt (p:qf)(n:Nat)(hn:n+1<=N)(h:Fal lt N p (n+1) 0):zFG lt N<|evT lt<|kas_descPart n N p:=by
 unfold kas_descPart;rw[jL];obtain⟨a1,a2,a3⟩:=zXQ W (N - (n+1)) p _ 0 jc h;generalize evT lt (kas_desc _ p _ 0)=r at a1 a2 a3;obtain⟨p',m,q⟩:=r;dsimp only at a1 a2 a3 ⊢
 by_cases hq:q > 0
 .rw[Qh hq];obtain⟨t1,t2⟩:=Fal.turn W a3 a2;obtain⟨b1,b2,b3,b4⟩:=zRZ W _ m jc a2 t1 t2;exact⟨jc,b2,b3,b4⟩
 .rw[Qv hq];have:q=0:=jc;subst this;obtain⟨b1,b2,b3,b4⟩:=zRZ W _ m jc a2 (Fal.dcr W a3) a3.og;exact⟨jc,b2,b3,b4⟩
def zJB (p:qf)(hN:1<=N)(ho:Org N p 1):zFG lt N<|evT lt<|kas_count N p:=by
 unfold kas_count;rw[jL];obtain⟨a1,a2,a3,a4,a5⟩:=zQv W p (N - 1) 1 jc jc (λi j hij hj=>jc) ho;generalize evT lt (kas_asc p (N - 1) 1)=n at a1 a2 a3 a4 a5
 by_cases hn:n=N
 .rw[Qh<|by simpa using hn];exact⟨a1,a2,a3,a4⟩
 .rw[Qv<|by simpa using hn];have hlt:=a5 jc;have hs:n<=p.size:=by rw[ho.sz];lia
  by_cases h1:n > 1
  .rw[Qh h1];show zFG lt N (evT lt<|if lt (gg p 0) (gg p<|n - 1)=true then .ret (n,p) else kas_descPart n N (kas_rev p 0 n));cases hc:lt (gg p 0)<|gg p<|n - 1
   .rw[Qv jb];have hall:∀i j,i < j->j < n->lt (gg p i) (gg p j)=_:=λi j hij hj=>by
     have z0:lt (gg p i) (gg p 0)=false:=by
      by_cases e:i=0
      .subst e;exact W.irr _
      .exact Lx.le W (a3 0 i jc jc)
     have z1:lt (gg p<|n - 1) (gg p j)=false:=by
      by_cases e:j=n - 1
      .subst e;exact W.irr _
      .exact Lx.le W (a3 j (n - 1) jc jc)
     exact W.ntr z0<|W.ntr hc z1
    refine zYt W _ n jc<|zZE W jc jc (λi j hij hj=>?_) (a4.rev jc) λi hi=>?_
    .rw[oZ hs,oZ hs,Qh jc,Qh jc];exact a3 _ _ jc jc
    .rw[oZ hs,oZ hs,Qv jc,Qh jc]
     by_cases e:0+n - 1 - i=n - 1
     .rw[e];exact hlt
     .exact W.eqr hlt (hall _ _ jc jc)
   .rw[Qh rfl];exact⟨a1,a2,a3,a4⟩
  .rw[Qv h1];have:n=1:=jc;subst this;refine zYt W _ 1 jc<|zZE W jc jc (λi j hij hj=>jc) a4 λi hi=>?_;have:i=0:=jc;subst this;exact hlt
theorem zWU (p:qf)(k:Nat)(hs:Srt lt p k):∀(f l r:Nat),l<=r->r<=k->r - l<=f->(∀i,i < l->lt (gg p k) (gg p i)=false)->(∀i,r<=i->i < k->lt (gg p k) (gg p i)=true) -> evT lt (kas_place p k f l r)<=k/\(∀i,i < evT lt (kas_place p k f l r)->lt (gg p k) (gg p i)=false)/\(∀i,evT lt (kas_place p k f l r)<=i->i < k->lt (gg p k) (gg p i)=true)
 | 0,l,r,h1,h2,h3,h4,h5=>⟨by show l<=k;lia,h4,λi hi=>h5 i (by have hi:l<=i:=hi;lia)⟩
 | f+1,l,r,h1,h2,h3,h4,h5=>by
  unfold kas_place
  by_cases hge:l≥r
  .rw[Qh hge];exact⟨by show l<=k;lia,h4,λi hi=>h5 i (by have hi:l<=i:=hi;lia)⟩
  .rw[Qv hge];show evT lt (if lt (gg p k) (gg p<|(l+r) / 2)=true then kas_place p k f l ((l+r) / 2) else kas_place p k f ((l+r) / 2+1) r)<=k/\_;cases hc:lt (gg p k)<|gg p<|(l+r) / 2
   .have ih:=zWU p k hs f ((l+r) / 2+1) r jc h2 jc (λi hi=>by
     by_cases e:i=(l+r) / 2
     .rw[e];exact hc
     .exact W.ntr hc (Lx.le W<|hs i ((l+r) / 2) jc jc)) h5
    have e:evT lt (KasT.ask (p.getD k 0) (p.getD ((l+r) / 2) 0) λc=>if c=true then kas_place p k f l ((l+r) / 2) else kas_place p k f ((l+r) / 2+1) r)=evT lt (kas_place p k f ((l+r) / 2+1) r):=by show evT lt (if lt (gg p k) (gg p<|(l+r) / 2)=true then _ else _)=_;rw[hc,Qv jb]
    rw[e];exact ih
   .have ih:=zWU p k hs f l ((l+r) / 2) jc jc jc h4 (λi hi hik=>by
     by_cases e:i=(l+r) / 2
     .rw[e];exact hc
     .exact W.eqr hc (Lx.le W<|hs ((l+r) / 2) i jc hik))
    have e:evT lt (KasT.ask (p.getD k 0) (p.getD ((l+r) / 2) 0) λc=>if c=true then kas_place p k f l ((l+r) / 2) else kas_place p k f ((l+r) / 2+1) r)=evT lt (kas_place p k f l<|(l+r) / 2):=by show evT lt (if lt (gg p k) (gg p<|_ / 2)=true then _ else _)=_;rw[hc,Qh rfl]
    rw[e];exact ih
theorem zLY:∀(f:Nat) (p:qf) (k:Nat),1<=k->k+f=N->Srt lt p k->Org N p k->Srt lt (evT lt<|kas_bin f p k) N/\Org N (evT lt<|kas_bin f p k) N
 | 0,p,k,h1,hk,hs,ho=>by have:k=N:=jc;subst this;exact⟨hs,ho⟩
 | f+1,p,k,h1,hk,hs,ho=>by
  unfold kas_bin;rw[jL];obtain⟨a1,a2,a3⟩:=zWU W p k hs k 0 k jc (Qg _) jc (λi hi=>jc) λi h1 h2=>jc;generalize evT lt (kas_place p k k 0 k)=l at a1 a2 a3;have hks:k < p.size:=by rw[ho.sz];lia
  have hkk:gg p k=k:=ho.hi k (Qg _) jc;refine zLY f (bubble p k<|k - l) (k+1) jc jc (λi j hij hj=>?_) ⟨by rw[bubble_size];exact ho.sz,(Uu.mp<|bubble_perm _ _ _).trans ho.pm,λj h1 h2=>?_,λi hi=>?_⟩
  .have hlo:∀i,i < l->Lx lt (gg p i) (gg p k):=λi hi=>Lx.of W (a2 i hi) (by rw[hkk];exact ho.lo i jc);rw[zT6 hks a1,zT6 hks a1]
   by_cases ei:i=l
   .rw[Qh ei,Qv jc,Qh jc];exact .inl<|a3 _ jc jc
   .rw[Qv ei]
    by_cases ej:j=l
    .grind
    .rw[Qv ej]
     by_cases hi':l < i/\i<=k
     .rw[Qh hi',Qh jc];exact hs _ _ jc jc
     .rw[Qv hi']
      by_cases hj':l < j/\j<=k
      .rw[Qh hj'];exact hs _ _ jc jc
      .rw[Qv hj'];exact hs _ _ jc jc
  .rw[zT6 hks a1,Qv jc,Qv jc];exact ho.hi j jc h2
  .rw[zT6 hks a1]
   by_cases e0:i=l
   .simp_all
   .rw[Qv e0]
    by_cases e1:l < i/\i<=k
    .rw[Qh e1];have:=ho.lo (i - 1) jc;lia
    .rw[Qv e1];have:=ho.lo i jc;lia
def zNx (hN:1<=N):Org N (List.toArray<|List.range N) 1:=by
 have e:∀j,j < N->gg (List.toArray<|List.range N) j=j:=λj hj=>by rw[zZT];simp[hj]
 refine⟨je,je,λj h1 h2=>e j h2,λi hi=>?_⟩
 grind
def zIO (hN:1<=N):Srt lt (evT lt<|kas_sort N) N/\Org N (evT lt<|kas_sort N) N:=by
 unfold kas_sort;rw[jL];obtain⟨a1,a2,a3,a4⟩:=zJB W _ hN<|zNx W hN;generalize evT lt (kas_count N _)=r at a1 a2 a3 a4;obtain⟨m,p⟩:=r
 by_cases hm:m < N
 .rw[Qh hm];have e:max m 1=m:=jc;rw[e];exact zLY W _ p m a1 jc a3 a4
 .rw[Qv hm];have:m=N:=jc;subst this;exact⟨a3,a4⟩
end
end L2
variable{a p:qu}
namespace L2
abbrev F0:qv->qw->Prop:=λ_ _=>False
def zUL {t:Sem α}{Q Q':α->qw->Prop}(h:wpAny M A t Q F0 s)(hq:∀a s,Q a s->Q' a s):wpAny M A t Q' E s:=Ed h hq λ_ _ z=>z.elim
def zV6 {target:r8}{it j7:qv}(I:Nat->qw->Prop)(turn:∀n s,I n s->wpAny (!9) A (pyNext it) (λr s₁=>match r with
   | none=>R (.ok .next) s₁
   | some v=>wpAny (!9) A (letOwnedTupleGo target it v) (λ_ s₁=>wpAny (!9) A (assign target env v) (λ_ s₂ =>
     wpAny (!9) A (forIn ifs true λc r=>if r=true then do let ok ←isTrue c env (eval c env);pure (ForInStep.yield ok) else pure (ForInStep.yield r)) (λok s₃ =>
      if ok=true then wpAny (!9) A (eval elt env) (λx s₄ =>wpAny (!9) A (call (.builtin "list.append") [j7,x]) (λ_ s₅ => ∃m,m < n/\I m s₅) F0 s₄) F0 s₃
      else ∃m,m < n/\I m s₃) F0 s₂) F0 s₁) F0 s₁) F0 s)
  (n:Nat) (h:I n s) :
  codeAny (!9) A (.compLoop (.ListComp elt [⟨target,iter,ifs,0⟩] scope pos) 0 it j7 env) R s:=by
 refine codeAny_loop J I (λn s hI=>(wpAny_noted ?_)) n h;rw[compTurn_list];refine Qw<|Oh<|Qw<|zUL (turn n s hI) λr s₁ h₁=>?_;cases r with
 | none=>exact Qi h₁
 | some v =>
  refine Qw<|zUL h₁ λ_ s₁' h₁'=>Qw<|zUL h₁' λ_ s₂ h₂=>Qw<|zUL h₂ λok s₃ h₃ => ?_;cases ok with
  | false=>exact Qi ⟨J,h₃⟩
  | true =>exact Qw<|Qw<|zUL h₃ λx s₄ h₄ => Qw (zUL h₄ λ_ s₅ h₅ => Qi (Qi ⟨J,h₅⟩))
theorem mK {env:Env}(x:Str):∀(names:List<|Str×NameKind), (names.map λ(n,k)=>if (k==NameKind.free&&env.scope.kind == .function&&env.kindOf n==some .cell) then(n,NameKind.cell) else(n,k)).lookup x = (names.lookup x).map λk=>if (k==NameKind.free&&env.scope.kind == .function&&env.kindOf x==some .cell)=true then NameKind.cell else k
 | []=>rfl
 | (n,k)::r=>by
  have ih:=mK (env:=env) x r;rw[Qx];cases hx:x==n with
  | true =>
   have e:=eq_of_beq hx;subst e
   by_cases hc:(k==NameKind.free&&env.scope.kind == .function&&env.kindOf x==some .cell)=true
   .simp only[hc,Oj,Wp,Pi,Yi]
   .simp only[hc,Yx,Wp,Pi,Yi,Ek]
  | _ =>
   by_cases hc:(k==NameKind.free&&env.scope.kind == .function&&env.kindOf n==some .cell)=true
   .simp only[hc,Oj,Wp,hx];exact ih
   .simp only[hc,Yx,Wp,hx,Ek];exact ih
def cG (env:Env):List (Str×NameKind)->List (Str×qu)->List (Str×qu)
 | [],j7=>j7
 | (n,k)::r,j7=>cG env r<|if k = .free then(match env.cells.lookup n with | some c=>(n,c)::j7 | none=>j7) else j7
def zQ3 (h:∀p∈scope.names,p.2 = .free->∃c,env.cells.lookup p.1=some c):closureFor scope env=pure (cG env scope.names []):=by
 have gen:∀(l:List _) (j7:List _),(∀p∈l,p.2 = .free->∃c,env.cells.lookup p.1=some c) -> (forIn l j7 λx r=>if (x.2==NameKind.free)=true then(do let a ←cellOf env x.1;pure (ForInStep.yield<|(x.1,a)::r)) else pure (ForInStep.yield r):Sem<|List _)=pure (cG env l j7):=by
  intro l;induction l with
  | nil=>intro j7 _;rfl
  | cons p r ih =>
   intro j7 hp;obtain⟨n,k⟩:=p;rw[Pa];have hr:=λp hm=>hp p<|Qp _ hm
   by_cases hk:k = .free
   .subst hk;obtain⟨c,hc⟩:=hp _ Qf J;have e:cellOf env n=pure c:=by unfold cellOf;rw[hc]
    simp only[e];show(forIn r (_::j7) _:Sem _)=_;rw[ih _ hr];show _=(pure (cG env r<|if _=_ then(match env.cells.lookup n with | some c=>_::j7 | none=>j7) else j7):Sem _);rw[Qh rfl,hc]
   .have hb:(k==NameKind.free)=false:=by simpa using hk
    simp only[hb];show(forIn r j7 _:Sem _)=_;rw[ih _ hr];show _=(pure (cG env r<|if k=_ then(match env.cells.lookup n with | some c=>_::j7 | none=>j7) else j7):Sem _);rw[Qv hk]
 simp only[closureFor];rw[(gen _ [] h)];rfl
theorem zWT {env:Env}:∀(l:List<|Str×NameKind) (j7:List<|Str×qu),(∀x c,j7.lookup x=some c->env.cells.lookup x=some c)->∀x c,(cG env l j7).lookup x=some c->env.cells.lookup x=some c
 | [],_,h=>h
 | (n,k)::r,j7,h=>by
  refine zWT r _ ?_
  by_cases hk:k = .free
  .rw[Qh hk];cases e:env.cells.lookup n with
   | none=>exact h
   | some c =>
    intro x c' hx;rw[Wp] at hx;cases q:x==n with
    | true=>rw[q] at hx;cases hx;rw[eq_of_beq q];exact e
    | _=>rw[q] at hx;exact h x c' hx
  .rw[Qv hk];exact h
theorem zRu {env:Env}:∀(l:List<|Str×NameKind) (j7:List<|Str×qu) (x:Str),(j7.lookup x).isSome=true->((cG env l j7).lookup x).isSome=true
 | [],_,_,h=>h
 | (n,k)::r,j7,x,h=>by
  refine zRu r _ x ?_
  by_cases hk:k = .free
  .rw[Qh hk];cases e:env.cells.lookup n with
   | none=>exact h
   | some c =>simp_all
  .rw[Qv hk];exact h
theorem zWL {env:Env}:∀(l:List<|Str×NameKind) (j7:List<|Str×qu),(∀p∈l,p.2 = .free->∃c,env.cells.lookup p.1=some c)->∀x,(x,NameKind.free)∈l->((cG env l j7).lookup x).isSome=true
 | [],_,_,_,h=>nomatch h
 | (n,k)::r,j7,hp,x,h=>by
  rcases v4 h with e | h
  .cases e;obtain⟨c,hc⟩:=hp _ Qf J;show((cG env r<|if _=_ then _ else j7).lookup n).isSome=true;rw[hc];exact zRu r _ n je
  .exact zWL r _ (λp hm=>hp p<|Qp _ hm) x h
def kN (sc scope:Scope)(N tgs j4:kh)(js:kz):Bool :=
 scope.kind == .function&&scope.names.all (λp=>p.2 != .cell&&(p.2 != .free||sc.names.lookup p.1==some .cell||sc.names.lookup p.1==some .free)&&(p.2 != .local||scope.names.lookup p.1==some .local))
  && tgs.all (λx=>scope.names.lookup x==some .local)&&j4.all (λx=>scope.names.lookup x==some .free)&&(js.map λj=>N[j]?)==j4.map some
def upC (m:Nat)(js:kz)(U:St):St:=List.replicate m none++js.map λj=>(U[j]?).join
def vH (X:Cx)(Nc:kh)(scope:Scope)(C:qu)(s₀:qw)(H₀:Hp)(fp:ko):Cx where
 prog:=X.prog
 w:=X.w
 K:=X.K
 mg:=X.mg
 base:=X.base
 A:=X.A
 N:=Nc
 s₀:=s₀
 H₀:=H₀
 env:=compEnvC scope (cG X.env scope.names []) C X.env
 outer:=X.stack
 stack:=X.stack
 ex:=fp
 fn:=λ_=>false
 calm:=X.calm
 pn:=[]
 xe:=F0
def zQa (X:Cx)(ifs:qt)(t:TT):Prop :=
 ∀(Z:jm) (s:qw) (U:St) (H:Hp) (Q:Bool->Hp->Prop),Inv X Z U H s->t U H Q ->
  wpAny (!5) X.A (forIn ifs true λc r=>if r=true then do let ok ←isTrue c X.env (eval c X.env);pure (ForInStep.yield ok) else pure (ForInStep.yield r)) (TP X Z U Q) X.xe s
def zDG:TT:=λ_ H Q=>Q true H
def zMk:zQa X [] zDG:=λ_ _ _ H _ I h=>wpAny_tests_nil ⟨H,I,h⟩
def zJE {t:TT}(h:PT X c t):zQa X [c] t:=λZ s U H Q I hq=>wpAny_tests_one<|h Z s U H Q I hq
def zEx (ya:It)(m:Nat)(js:kz)(g:TG)(tc:TT)(te:TE)(U:St)(H1:Hp)(Q:VK):Prop:=∀D,H1 D=none ->
 ∃W:Nat->Nat->St->Hp->Prop,(∃k,W 0 k (upC m js U)<|upd H1 D<|.lst [])/\∀i k U' H',W i k U' H' ->
  (ya.stop i H'/\Q (.ref D) H')\/(ya.go i H'/\∀x H2,ya.yld i H' x H2->g x U' H2 λσ2 H3=>tc σ2 H3 λb H4=>if b=true then te σ2 H4 λy H5=>∃ys k',H5 D=some (.lst ys)/\ys.length < sizeLine/\k' < k/\W (i+1) k' σ2 (upd H5 D (.lst (ys++[y])))
   else ∃k',k' < k/\W (i+1) k' σ2 H4)
section
variable{tgs j4:kh}{g:TG}
def tK (h:kN sc scope N tgs j4 js=true):scope.kind = .function/\(∀p∈scope.names,p.2 ≠ .cell)/\(∀p∈scope.names,p.2 = .free->sc.names.lookup p.1=some .cell\/sc.names.lookup p.1=some .free) /\ (∀p∈scope.names,p.2 = .local->scope.names.lookup p.1=some .local)/\(∀x∈tgs,scope.names.lookup x=some .local)/\(∀x∈j4,scope.names.lookup x=some .free)/\(js.map λj=>N[j]?)=j4.map some:=by
 unfold kN at h
 grind
def zPA {s3:qw}{H3:Hp}{h4:qx}{m0:Str->kn}(I:Inv X Z U H3 s3)(f3:∀b∈fp,fB X Z H3 b)(ofp:∀b∈fp,b < s3.heap.objs.size)(hsc:X.env.scope=sc) (hok:kN sc scope X.N tgs j4 js=true) (hC:C=s3.heap.objs.size) (hk:∀b o,s3.heap.get? b=some o->h4.get? b=some o) (hn:h4.Ns C m0):Inv (vH X (tgs++j4) scope C s3 H3 fp) [] (upC tgs.length js U) H3 { s3 with heap:=h4,toks:=tk }:=by
 obtain⟨k1,k2,k3,k4,k5,k6,k7⟩:=tK hok;have hcl:∀x c,(cG _ scope.names []).lookup x=some c->X.env.cells.lookup x=some c:=zWT _ [] (λ_ _ z=>nomatch z);have hfr:∀p∈scope.names,p.2=_->∃c,X.env.cells.lookup p.1=some c:=λp hp e=>I.ok.has p.1 (by show X.env.scope.names.lookup p.1=_\/X.env.scope.names.lookup p.1=_;rw[hsc];exact k3 p hp e)
 have rl:∀x,(relabel _ _).names.lookup x=(scope.names.lookup x).map λk=>if (k==_&&_==_&&X.env.kindOf x==some _)=true then _ else k:=λx=>mK x scope.names;have hasc:∀x,((relabel _ _).names.lookup x=some _\/(relabel _ _).names.lookup x=some _)->∃c,(cG _ _ []).lookup x=some c:=λx hx=>by
  rw[rl x] at hx;cases e:scope.names.lookup x with
  | none=>rw[e] at hx;simp at hx
  | some k =>
   have hm:=Eb e;have hkf:k = .free:=by
    rw[e] at hx;simp only[Yi,Option.some.injEq] at hx
    by_cases q:k = .free
    .exact q
    .have hb:(k==NameKind.free)=false:=by simpa using q
     rw[hb] at hx;simp only[Bool.false_and,Ek,Yx] at hx;rcases hx with z | z
     .exact absurd z (k2 _ hm)
     .exact z
   subst hkf;exact Wh.mp<|zWL _ [] hfr x hm
 have cfr:∀x c,X.env.cells.lookup x=some c->c≠C:=λx c e z=>by obtain⟨v,q⟩:=I.cell x c e;exact absurd (z ▸ q.lt) (by rw[hC];exact Wx _)
 have base0:∀b o,X.base.get? b=some o->b∉fp:=λb o e hb=>by
  obtain⟨_,_,_,q⟩:=f3 b hb;rcases q with q | q
  .exact I.ok.noex b o e q
  .exact absurd (Wr (Qa (I.ok.bs b o e).1) q) (Wx _)
 have stk:∀b∈fp,b∉frs _:=λb hb z=>by
  obtain⟨_,q1,q2,_⟩:=f3 b hb;rcases v4 (I.stkSub b z) with e | e
  .exact q1 e
  .exact q2 e
 refine⟨⟨I.ok.mod,k1,I.ok.glob,I.ok.blt,by rw[hC];exact Qg _,λx y c e1 e2=>I.ok.inj x y c (hcl x c e1) (hcl y c e2),hasc,(λx c z _=>nomatch z),I.ok.hd,I.ok.frames,.inl J,
   λb hb=>⟨λz=>absurd (ofp b hb) (by rw[show b=C from z,hC];exact Wx _),λx c e=>(f3 b hb).2.2.2.2.1 x c<|hcl x c e⟩,
   λb o e=>I.bs b o e,Ww I.ok.bsz I.sz,base0,stk,I.stack,I.stkFree⟩,
  rfl,I.bare,Un.kept hk,⟨m0,hn,λi x v e1 e2 e3=>?_⟩,λx c e=>?_,I.hok.fresh (by rw[show(vH X (tgs++_) _ C s3 H3 fp).env.locals=C from rfl,hC];exact Qg _),λx c e=>I.freeC x c<|hcl x c e,
  λp hp=>absurd (show p∈([]:jm) from hp) je,I.hok.kept hk,?_⟩
 ·-- a _ value
  have hi:tgs.length<=i:=by refine Nat.le_of_not_lt λhlt=>?_;unfold upC at e2;rw[Tc (by simpa using hlt),Yu] at e2;split at e2<;>cases e2
  unfold upC at e2;rw[Rk (by simpa using hi),Rw,Eu] at e2;have e1:(tgs++_)[i]?=some x:=e1;rw[Rk hi] at e1;obtain⟨j,ej,e2⟩:=k9 e2;have hj:X.N[j]?=some x:=by have q:=Wi (λl=>l[i - tgs.length]?) k7;simp only[Eu,ej,e1,Yi] at q;exact Rs q
  have hU:U[j]?=some (some v):=by
   cases q:U[j]? with
   | none=>rw[q] at e2;cases e2
   | some o=>rw[q] at e2;exact Wi some e2
  have hf:scope.names.lookup x=some _:=k6 x<|El e1;have hX:X.env.kindOf x=some .cell\/X.env.kindOf x=some .free:=by show X.env.scope.names.lookup x=_\/X.env.scope.names.lookup x=_;rw[hsc];exact k3 _ (Eb hf) J
  obtain⟨m,_,hl⟩:=I.loc;obtain⟨u,r,l⟩:=hl j x v hj hU (by
   rcases hX with q | q
   .exact .inr (.inl q)
   .exact .inr (.inr q))
  refine⟨u,r,.inr ⟨?_,?_⟩⟩
  .show(relabel _ _).names.lookup x=_\/(relabel _ _).names.lookup x=_;rw[rl x,hf]
   by_cases q:(NameKind.free==NameKind.free&&X.env.scope.kind == .function&&X.env.kindOf x==some .cell)=true
   .exact .inl (by rw[Yi,Qh q])
   .exact .inr (by rw[Yi,Qv q])
  .rcases l with⟨q,_⟩ | ⟨_,c,ec,hcell⟩
   .rcases hX with z | z<;>(rw[z] at q;cases q)
   .obtain⟨c',ec'⟩:=Wh.mp<|zWL _ [] hfr x<|Eb hf;have e:c'=c:=Rs<|(hcl x c' ec').symm.trans ec;subst e;obtain⟨o,ho,hd⟩:=hcell;exact⟨c',ec',o,hk _ _ ho,hd⟩
 .obtain⟨v,o,ho,hd⟩:=I.cell x c<|hcl x c e;exact⟨v,o,hk _ _ ho,hd⟩
 .show(upC _ js U).length=(tgs++_).length;have q:=Wi List.length k7;rw[Qy,Qy] at q;unfold upC;rw[Qo,Rw,Qy,Qo,q]
def zVG {ya:It}{tn:Nat->qx->Prop}{RR:qv->qu->Result->qw->Prop}{Q:VK}(I2:Inv X Z U H2 s2) (T:Turn X.prog X.w X.K tg ya fp it tn) (st2:tn 0 s2.heap) (f2:∀b∈fp,fB X Z H2 b) (hc:!23)(hsc:X.env.scope=sc) (hok:kN sc scope X.N tgs j4 js=true)(hg:∀C s₀ H₀ fp,PG (!33) tg g) (hi:∀C s₀ H₀ fp,zQa (!33) ifs tc) (he:∀C s₀ H₀ fp,PE (!33) elt te)(hw:zEx ya tgs.length js g tc te U H2 Q)(hRR:∀D C s' H' m,Inv X Z U H' s'->Q (.ref D) H'->fB X Z H' C->s'.heap.Ns C m->RR (.ref D) C (.ok .next) s'):wpAny (!5) X.A (newList []) (λj7 s₃ => wpAny (!5) X.A (newFunctionEnv scope X.env.globals (cG X.env scope.names []) [] X.env.qual none .none<|some X.env) (λcenv s₄ => codeAny (!5) X.A (.compStart (.ListComp elt [⟨tg,iter,ifs,0⟩] scope pos) 0 (.ref it) j7 { cenv with scope:=relabel scope X.env }) (RR j7 cenv.locals) s₄) E s₃) E s2:=by
 obtain⟨k1,k2,k3⟩:=tK hok;refine Rp<|wpAny_newFunctionEnv k2 (by intro y hy;simp at hy) (λh4 hn4 hs4=>?_) k1;generalize hh3:s2.heap.push { cls:=.type "list",dict:=none,data:=.seq ([]:jn).toArray }=h3 at hn4 hs4 ⊢;generalize hD:s2.heap.objs.size=D;have hDn:H2 D=none:=by rw[<-hD];exact I2.fresh
 have hsz3:h3.objs.size=D+1:=by rw[<-hh3,Ri,hD]
 have keep23:∀b o,s2.heap.get? b=some o->h3.get? b=some o:=λb o e=>by rw[<-hh3];exact Qe _ e
 have keep34:∀b o,h3.get? b=some o->h4.get? b=some o:=λb o e=>hs4.extBut b o (Wy<|Qa e)<|Qe _ e;have I3:Inv X Z U (upd H2 D<|.lst []) { s2 with heap:=h3 }:=by have q:=I2.lnew (j6:=[]) (ys:=[]) (t':=s2.toks) .nil<|Er _;simp_all
 have nfp:∀b∈fp,b≠D:=λb hb z=>by obtain⟨o,e,_⟩:=T.obj 0 _ st2 b hb;exact absurd (Qa e) (by rw[z,hD];exact Wx _)
 have f3:∀b∈fp,fB X Z (upd H2 D<|.lst []) b:=λb hb=>by obtain⟨q0,q⟩:=f2 b hb;exact⟨by rw[zD<|nfp b hb];exact q0,q⟩
 have ofp:∀b∈fp,b < _:=λb hb=>by obtain⟨o,e,_⟩:=T.obj 0 _ st2 b hb;exact Qa<|keep23 b o e
 obtain⟨W,⟨n0,w0⟩,turn⟩:=hw D hDn;have loop:∀s4:qw,s4={ s2 with heap:=h4,toks:=s2.toks+([]:List<|Str×qv).length } -> codeAny (!5) X.A (.compLoop (.ListComp elt [⟨tg,iter,ifs,0⟩] scope pos) 0 (.ref it) (.ref D)<|compEnvC scope (cG X.env scope.names []) h3.objs.size X.env) (RR (.ref D) h3.objs.size) s4:=by
  rintro s4 rfl;generalize hX':vH X (tgs++_) _ h3.objs.size { s2 with heap:=h3 } (upd H2 D<|.lst []) fp=X';have I4:Inv X' [] (upC tgs.length js U) (upd H2 D<|.lst []) { s2 with heap:=h4,toks:=s2.toks+([]:List<|Str×qv).length }:=by rw[<-hX'];exact zPA (s3:={ s2 with heap:=h3 }) I3 f3 ofp hsc hok rfl keep34 hn4
  have eP:X'.prog=X.prog:=by rw[<-hX'];rfl
  have eW:X'.w=X.w:=by rw[<-hX'];rfl
  have eK:X'.K=X.K:=by rw[<-hX'];rfl
  have eA:X'.A=X.A:=by rw[<-hX'];rfl
  have eC:X'.calm=true:=by rw[<-hX'];exact hc
  have T':Turn X'.prog X'.w X'.K tg ya fp it tn:=by rw[eP,eW,eK];exact T
  have eE:X'.env=compEnvC scope (cG X.env scope.names []) h3.objs.size X.env:=by rw[<-hX'];rfl
  have eX:X'.xe=F0:=by rw[<-hX'];rfl
  have stat:∀ {H':Hp},(∀b∈fp,H' b=none)->∀b∈fp,fB X' [] H' b:=λ{H'} hn b hb=>by
   obtain⟨_,q1,q2,q3,q4,q5⟩:=f3 b hb;rw[<-hX'];refine⟨hn b hb,(λz=>absurd (ofp b hb) (by rw[show b=_ from z];exact Wx _)),?_,.inl hb,λx c e=>(q4 x c<|zWT _ [] (λ_ _ z=>nomatch z) x c e),λp hp=>absurd (show p∈([]:jm) from hp) je⟩
   .intro z;rcases v4 (I3.stkSub b z) with e | e
    .exact q1 e
    .exact q2 e
  have hgX:PG X' tg g:=by rw[<-hX'];exact hg _ _ _ _
  have hiX:zQa X' ifs tc:=by rw[<-hX'];exact hi _ _ _ _
  have heX:PE X' elt te:=by rw[<-hX'];exact he _ _ _ _
  refine zV6 (λn s'=>∃i U' H',Inv X' [] U' H' s'/\tn i s'.heap/\(∀b∈fp,H' b=none)/\W i n U' H') ?_ n0 ⟨0,_,_,I4,T.keep 0 _ _ st2 λb _ o e=>keep34 b o<|keep23 b o e,λb hb=>(f3 b hb).1,w0⟩;rintro n s5 ⟨i,σ5,H5,I5,st5,fr5,w5⟩;rw[<-eP,<-eW,<-eE,<-eA];rcases turn i n σ5 H5 w5 with⟨stop,qn⟩ | ⟨go,step⟩
  .refine thn (T'.done X' J J J eC i [] s5 σ5 H5 F0 I5 (stat fr5) st5 stop) λr s6 ⟨hr,I6⟩=>?_;subst hr;have un:Un (frs X.stack) fp H2 H5 s2.heap s6.heap:=by
    have u1:Un (frs X.stack) fp H2 (upd H2 D<|.lst []) _ h3:=Un.laid keep23 (Ox hD) hDn;have u2:=I6.base;rw[<-hX'] at u2;exact u1.trans u2
   have hpx:HOk X.prog X.w H5 s6.heap:=by have q:=I6.hok;rw[eP,eW] at q;exact q
   have hos:s6.os=s2.os:=by have q:=I6.os;rw[<-hX'] at q;exact q
   have IX:Inv X Z U H5 s6:=I2.call' (ch:=fp) hos un hpx I6.bare λb hb=>⟨(f2 b hb).2.2.2.1,(f2 b hb).2.1,(f2 b hb).2.2.2.2.1,(f2 b hb).2.2.2.2.2⟩
   obtain⟨m,hm,_⟩:=I6.loc;have hloc:X'.env.locals=h3.objs.size:=by rw[eE];rfl
   rw[hloc] at hm;have hle:s2.heap.objs.size<=h3.objs.size:=by rw[hD,hsz3];exact Yb _
   refine hRR D _ s6 H5 m IX qn (I2.fpOk hle ?_) hm;have q:=I6.free;rw[hloc] at q;exact q
  .refine thn (T'.item X' J J J eC i [] s5 σ5 H5 F0 I5 (stat fr5) st5 go) λr s6 ⟨u,hr,h6⟩=>?_;subst hr;refine thn h6 λ_ s7 ⟨x,H7,I7,r7,y7,st7,fr7⟩=>?_;have xe0:_=F0:=eX;have conv:∀ {α:Type} {t:Sem α} {Q:α->_->Prop} {s:qw},wpAny (model X'.prog X'.w) X'.A t Q X'.xe s->wpAny (model _ X'.w) X'.A t Q F0 s:=λh=>by rw[xe0] at h;exact h
   refine thn (conv (hgX _ s7 σ5 H7 x u _ (I7.pinned (stat fr7)<|T.obj _ _ st7) r7<|step x H7 y7)) λ_ s8 ⟨σ8,H8,I8,q8⟩=>thn (conv (hiX _ s8 σ8 H8 _ I8 q8)) λok s9 ⟨H9,I9,q9⟩=>?_;have again:∀ {σz:St} {Hz:Hp} {sz:qw} {k':Nat},Inv X' ([]++zW8 fp _) σz Hz sz->k' < n->W (i+1) k' σz Hz->∃m,m < n/\∃i U' H',Inv X' [] U' H' sz/\tn i _/\(∀b∈fp,H' b=none)/\W i m U' H':=λ{σz Hz sz k'} Iz hk wz=>by refine⟨k',hk,i+1,σz,Hz,Iz.unpinned,T.keep _ _ _ st7 λb hb o e=>(Iz.pin (b,o)<|Ws _<|Ws _<|iJ hb e).1,λb hb=>?_,wz⟩;obtain⟨o,e,d⟩:=T.obj _ _ st7 b hb;exact(Iz.pin (b,o)<|Ws _<|Ws _<|iJ hb e).2.1
   cases ok with
   | false =>obtain⟨k',hk,wz⟩:=q9;exact again I9 hk wz
   | true =>exact thn (conv (heX _ s9 σ8 H9 _ I9 q9)) λv s10 ⟨y,H10,I10,r10,ys,k',hys,hl,hk,wz⟩=>thn (conv (tP (X:=X') _ s10 σ8 H10 (.ref D) [y] (.ref D) [v] (λz Hz=>W (i+1) k' σ8 Hz) I10 rfl (.cons r10 .nil) ⟨D,ys,y,rfl,rfl,hys,hl,wz⟩)) λ_ s11 ⟨_,H11,I11,_,q11⟩=>again I11 hk q11
 exact codeAny_compStart_list (loop _ J)<|T.self _ 0 _ _ _ (T.keep 0 _ _ st2 λb _ o e=>keep34 b o<|keep23 b o e)<|loop _ rfl
def zKS (wi:TI)(m:Nat)(js:kz)(g:TG)(tc:TT)(te:TE):TE:=λU H Q=>wi U H λya H1=>zEx ya m js g tc te U H1 Q
def zWK (ok:X.Ok)(hsc:X.env.scope=sc)(hok:kN sc scope X.N tgs j4 js=true):closureFor scope X.env=pure (cG X.env scope.names []) :=zQ3 λp hp e=>ok.has p.1 (by show X.env.scope.names.lookup p.1=_\/X.env.scope.names.lookup p.1=_;rw[hsc];exact(tK hok).2.2.1 p hp e)
def zJe (sc:Scope)(tgs j4:kh)(js:kz)(hp:PI X tg iter wi)(hc:!23)(hsc:X.env.scope=sc)(hok:kN sc scope X.N tgs j4 js=true)(hg:∀C s₀ H₀ fp,PG (!33) tg g) (hi:∀C s₀ H₀ fp,zQa (!33) ifs tc) (he:∀C s₀ H₀ fp,PE (!33) elt te)(hs:∀x,foldedSetIterable iter X.env x=pure x:=by intro _;rfl):PE X (.ListComp elt [⟨tg,iter,ifs,0⟩] scope pos)<|zKS wi tgs.length js g tc te:=by intro Z s U H Q I h;obtain⟨k1,k2,k3,k4,k5⟩:=tK hok;refine wpAny_comprehension_free J hs (zWK I.ok hsc hok) k1 k4<|thn (hp Z s U H _ I h) λv s1 h1=>thn h1 λitv s2 h2=>?_;obtain⟨it,fp,tn,ya,H2,e,I2,T,st2,f2,hw⟩:=h2;subst e;refine zVG I2 T st2 f2 hc hsc hok hg hi he hw λD C s' H' m I' q fC hn=>⟨m,hn,λh' hs'=>⟨.ref D,H',?_,J,q⟩⟩;obtain⟨c0,c1,c2,c3,c4,c5⟩:=fC;exact I'.turned (λb o hb e=>hs'.extBut b o hb e) c0 c1 c3 c4 c5
def zP2 (sc:Scope)(tgs j4:kh)(js:kz){spos:Pos}(hN:X.N.Nodup)(hx:!25)(hl:X.env.scope.names.lookup x=some .local)(hp:PI X tg iter wi) (hc:!23) (hsc:X.env.scope=sc) (hok:kN sc scope X.N tgs j4 js=true)(hg:∀C s₀ H₀ fp,PG (!33) tg g) (hi:∀C s₀ H₀ fp,zQa (!33) ifs tc) (he:∀C s₀ H₀ fp,PE (!33) elt te)(hsw:swapsWith (.ListComp elt [⟨tg,iter,ifs,0⟩] scope pos) (some<|.Name x pos') spos.line X.env=pure true:=by with_unfolding_all rfl) (hs:∀x,foldedSetIterable iter X.env x=pure x:=by intro _;rfl):PS X (.Assign [.Name x pos'] (.ListComp elt [⟨tg,iter,ifs,0⟩] scope pos) spos)<|zN5 (zKS wi tgs.length js g tc te)<|zRX i:=by
 intro Z s U H D I h;obtain⟨k1,k2,k3,k4,k5⟩:=tK hok;rw[exec_Assign_Name_used _ _ _ _ hsw];refine Qw<|Oh<|Qw ?_;refine Qw<|Ed (wpAny_comprehension_free (use:=some<|assign (.Name x pos') _) (Q:=λ_ s'=>SP X Z D _ s') rfl hs (zWK I.ok hsc hok) k1 k4<|thn (hp Z s U H _ I h) λv s1 h1=>thn h1 λitv s2 h2=>?_) (λ_ s' hq=>Qi<|Qi hq) λ_ _ e=>e;obtain⟨it,fp,tn,ya,H2,e,I2,T,st2,f2,hw⟩:=h2;subst e;refine zVG (RR:=λj7 C=>compPost (model _ X.w) X.A X.xe (some<|assign (.Name x pos') _) (λ_ s'=>SP X Z D _ s') j7 C) I2 T st2 f2 hc hsc hok hg hi he hw ?_;intro D' C s' H' m I' q fC hn;obtain⟨c0,c1,c2,c3,c4,c5⟩:=fC;refine wpAny_assign_Name<|zYG (v:=V.ref D') I' hN hx (.inl hl) rfl (λs3 I3 hb=>?_)<|.inr hl;obtain⟨a,sb,ha⟩:=hb;have hCa:C≠a:=by
  rcases ha with z | z
  .simp_all
  .exact(c4 x a z).symm
 refine⟨m,hn.sameBut sb hCa,λh' hs'=>⟨_,H',I3.turned (λb o hb e=>hs'.extBut b o hb e) c0 c1 c3 c4 c5,q⟩⟩
end
inductive D where
 | non | bl (b:Bool) | int (i:Int) | str (x:Str) | tup (ds:List D) | lst (ds:List D) | obj (c:Str) (ns:kh) (ds:List D)
  | exc (c:Str) (ns:kh) (ds:List D)
  | dct (ks:qj) (ds:List D)
 deriving Inhabited
abbrev qi:=Option D
abbrev qc:=Option<|D×D
abbrev kd:=List D
abbrev ka:=Option kd
end L2
variable{d' d cv:D}{g:D->D->ky}{tk:Tok}{C:Int->Int->Bool}{ds:kd}{fD:kd->ka}{xf:kd->kf}
namespace L2
def Same.tup (e:Same H H')(h:SqT K H a xs):SqT K H' a xs:=by
 rcases h with(h | ⟨o,h⟩) | h
 .exact .inl (.inl<|e _ _ h)
 .exact .inl (.inr ⟨o,e _ _ h⟩)
 .exact .inr h
def ClsAt (K:jk)(c:Str)(C:qu):Prop:=PySem.W.nsIn K mainGlobals c=some (some (!1))
def ClsAt.one {K:jk}{c:Str}{C C':qu}(h:ClsAt K c C)(h':ClsAt K c C'):C'=C:=by have:=h.symm.trans h';cases this;rfl
def Xe (C a:qu)(od:kr):qx->Prop:=λh=>∃fs,h.get? a=some { cls:=.ref C,dict:=od,data:=.fields fs }
def Xd (dx:qu)(fs:qr):qx->Prop:=λh=>∃mA,h.Ns1 dx mA/\∀f,RelO (fs.lookup f)<|mA f
def XD (G:Hp):kr->qr->Prop
 | none,fs=>fs=[]
 | some dx,fs=>G dx=some (.ext<|Xd dx fs)
theorem XD.mono (e:Same G G'):∀ {od:kr} {fs:qr},XD G od fs->XD G' od fs
 | none,_,h=>h
 | some _,_,h=>e _ _ h
mutual
def Rep (K:jk)(G:Hp):D->V->Prop
 | .non,v=>v = .non
 | .bl b,v=>v = .bl b
 | .int i,v=>v = .int i
 | .str x,v=>v = .str x
 | .tup ds,v=>∃a vs,v = .ref a/\SqT K G a vs/\Reps K G ds vs
 | .lst ds,v=>∃a vs,v = .ref a/\SqL K G a vs/\Reps K G ds vs
 | .obj c ns ds,v=>∃C a dx vs,ClsAt K c C/\v = .ref a/\G a=some (.ins C dx<|ns.zip vs)/\ns.length=ds.length/\Reps K G ds vs
 | .exc c ns ds,v=>∃C a od vs,ClsAt K c C/\v = .ref a/\G a=some (.ext<|Xe C a od)/\XD G od (ns.zip vs)/\ns.length=ds.length/\Reps K G ds vs
 | .dct ks ds,v=>∃a vs ob,v = .ref a/\G a=some (.frz ob<|.dK<|ks.zip vs)/\ks.length=ds.length/\Reps K G ds vs
def Reps (K:jk)(G:Hp):kd->kl->Prop
 | [],vs=>vs=[]
 | d::r,vs=>∃v vr,vs=v::vr/\Rep K G d v/\Reps K G r vr
end
mutual
theorem Rep.mono (e:Same G G'):∀(d:D) (v:V),Rep K G d v->Rep K G' d v
 | .non,_,h=>by unfold Rep at h ⊢;exact h
 | .bl _,_,h=>by unfold Rep at h ⊢;exact h
 | .int _,_,h=>by unfold Rep at h ⊢;exact h
 | .str _,_,h=>by unfold Rep at h ⊢;exact h
 | .tup ds,_,h=>by unfold Rep at h ⊢;obtain⟨a,vs,h1,h2,h3⟩:=h;exact⟨a,vs,h1,e.tup h2,Reps.mono e ds vs h3⟩
 | .lst ds,_,h=>by unfold Rep at h ⊢;obtain⟨a,vs,h1,h2,h3⟩:=h;exact⟨a,vs,h1,e.seq h2,Reps.mono e ds vs h3⟩
 | .obj C ns ds,_,h=>by unfold Rep at h ⊢;obtain⟨C,a,dx,vs,h0,h1,h2,h4,h3⟩:=h;exact⟨C,a,dx,vs,h0,h1,e _ _ h2,h4,Reps.mono e ds vs h3⟩
 | .exc C ns ds,_,h=>by unfold Rep at h ⊢;obtain⟨C,a,od,vs,h0,h1,h2,h5,h4,h3⟩:=h;exact⟨C,a,od,vs,h0,h1,e _ _ h2,h5.mono e,h4,Reps.mono e ds vs h3⟩
 | .dct ks ds,_,h=>by unfold Rep at h ⊢;obtain⟨a,vs,ob,h1,h2,h4,h3⟩:=h;exact⟨a,vs,ob,h1,e _ _ h2,h4,Reps.mono e ds vs h3⟩
theorem Reps.mono (e:Same G G'):∀(ds:kd) (vs:kl),Reps K G ds vs->Reps K G' ds vs
 | [],_,h=>by unfold Reps at h ⊢;exact h
 | d::r,_,h=>by unfold Reps at h ⊢;obtain⟨v,vr,h1,h2,h3⟩:=h;exact⟨v,vr,h1,Rep.mono e d v h2,Reps.mono e r vr h3⟩
end
def sQ:Rep K G .non v↔v = .non:=jg
def wT {b:Bool}:Rep K G (.bl b) v↔v = .bl b:=jg
def yW {i:Int}:Rep K G (.int i) v↔v = .int i:=jg
def xZ:Rep K G (.str x) v↔v = .str x:=jg
def xU:Rep K G (.tup ds) v↔∃a vs,v = .ref a/\SqT K G a vs/\Reps K G ds vs:=jg
def wZ:Rep K G (.lst ds) v↔∃a vs,v = .ref a/\SqL K G a vs/\Reps K G ds vs:=jg
def sO {c:Str}:Rep K G (.obj c ns ds) v↔∃C a dx vs,ClsAt K c C/\v = .ref a/\G a=some (.ins C dx<|ns.zip vs)/\ns.length=ds.length/\Reps K G ds vs:=jg
def zZK {c:Str}:Rep K G (.exc c ns ds) v↔∃C a od vs,ClsAt K c C/\v = .ref a/\G a=some (.ext<|Xe C a od)/\XD G od (ns.zip vs)/\ns.length=ds.length/\Reps K G ds vs:=jg
def zTA:Rep K G (.dct ks ds) v↔∃a vs ob,v = .ref a/\G a=some (.frz ob<|.dK<|ks.zip vs)/\ks.length=ds.length/\Reps K G ds vs:=jg
def yX:Reps K G [] vs↔vs=[]:=jg
def zP {r:kd}:Reps K G (d::r) vs↔∃v vr,vs=v::vr/\Rep K G d v/\Reps K G r vr:=jg
theorem Reps.length:∀ {ds:kd} {vs:kl},Reps K G ds vs->ds.length=vs.length
 | [],_,h=>by rw[yX] at h;rw[h];rfl
 | d::r,_,h=>by obtain⟨v,vr,rfl,_,h3⟩:=h;rw[Qk,Qk,Reps.length h3]
theorem Reps.get:∀ {ds:kd} {vs:kl} {i:Nat} {d:D},Reps K G ds vs->ds[i]?=some d->∃v,vs[i]?=some v/\Rep K G d v
 | [],_,_,_,_,e=>by simp at e
 | d::r,_,0,_,h,e=>by obtain⟨v,vr,rfl,h2⟩:=h;simp_all
 | d::r,_,i+1,_,h,e=>by obtain⟨v,vr,rfl,h2,h3⟩:=h;obtain⟨u,e1,e2⟩:=Reps.get h3 (!6);exact⟨u,by simpa using e1,e2⟩
theorem Reps.snoc:∀ {ds:kd} {vs:kl} {d:D} {v:V},Reps K G ds vs->Rep K G d v->Reps K G (ds++[d]) (vs++[v])
 | [],_,d,v,h,r=>by rw[yX] at h;subst h;exact zP.mpr ⟨v,[],J,r,yX.mpr J⟩
 | e::t,_,d,v,h,r=>by obtain⟨u,vr,rfl,h2,h3⟩:=h;exact zP.mpr ⟨u,vr++[v],J,h2,h3.snoc r⟩
theorem Reps.append:∀ {ds es:kd} {vs us:kl},Reps K G ds vs->Reps K G es us->Reps K G (ds++es) (vs++us)
 | [],_,_,_,h,r=>by rw[yX] at h;subst h;exact r
 | e::t,_,_,us,h,r=>by obtain⟨u,vr,rfl,h2,h3⟩:=h;exact zP.mpr ⟨u,vr++us,J,h2,h3.append r⟩
theorem Reps.take:∀ {ds:kd} {vs:kl} (n:Nat),Reps K G ds vs->Reps K G (ds.take n) (vs.take n)
 | _,_,0,_=>by rw[List.take_zero];exact yX.mpr J
 | [],_,_+1,h=>by rw[yX] at h;subst h;exact yX.mpr J
 | e::t,_,n+1,h=>by obtain⟨u,vr,rfl,h2,h3⟩:=h;exact zP.mpr ⟨u,vr.take n,J,h2,h3.take n⟩
theorem Reps.drop:∀ {ds:kd} {vs:kl} (n:Nat),Reps K G ds vs->Reps K G (ds.drop n) (vs.drop n)
 | _,_,0,h=>h
 | [],_,_+1,h=>by rw[yX] at h;subst h;exact yX.mpr J
 | e::t,_,n+1,h=>by obtain⟨u,vr,rfl,h2,h3⟩:=h;exact h3.drop n
theorem Reps.erase:∀ {ds:kd} {vs:kl} (i:Nat),Reps K G ds vs->Reps K G (ds.eraseIdx i) (vs.eraseIdx i)
 | [],_,_,h=>by rw[yX] at h;subst h;exact yX.mpr J
 | e::t,_,0,h=>by obtain⟨u,vr,rfl,h2,h3⟩:=h;exact h3
 | e::t,_,i+1,h=>by obtain⟨u,vr,rfl,h2,h3⟩:=h;exact zP.mpr ⟨u,vr.eraseIdx i,J,h2,h3.erase i⟩
def zVJ:HO->Bool | .tup _=>false | _=>true
structure Step (G H G' H':Hp):Prop where
 hh:Same H H'
 gg:Same G G'
 sub:Same G' H'
 new:∀a o,H a=some o->zVJ o=true->G' a=G a
def Step.refl {G H:Hp}(h:Same G H):Step G H G H:=⟨Same.refl _,Same.refl _,h,λ_ _ _ _=>rfl⟩
def Step.trans {G H G1 H1 G2 H2:Hp}(a:Step G H G1 H1)(b:Step G1 H1 G2 H2):Step G H G2 H2 :=
 ⟨a.hh.trans b.hh,a.gg.trans b.gg,b.sub,λc o hc hn=>(b.new c o (a.hh _ _ hc) hn).trans<|a.new c o hc hn⟩
def Same.new (hp:H p=none):Same H<|upd H p o:=λb u e=>by rw[zD<|yR e hp];exact e
def Step.laid (s:Same G H)(hp:H p=none):Step G H (upd G p o)<|upd H p o:=by
 refine⟨Same.new hp,Same.new<|s.free hp,λb u e=>?_,λa o' ha hn=>zD (λz:a=p=>by rw[z,hp] at ha;cases ha)⟩
 .by_cases hb:b=p
  .subst hb;rw[zH] at e ⊢;exact e
  .rw[zD hb] at e ⊢;exact s b u e
def Step.own (s:Same G H)(hp:H p=none):Step G H G (upd H p o) :=
 ⟨Same.new hp,Same.refl _,s.trans<|Same.new hp,λ_ _ _ _=>rfl⟩
def Step.frz (s:Step G H G' H')(hp:H p=none)(h':H' p=some o)(g':G' p=none):Step G H (upd G' p o) H':=by
 refine⟨s.hh,s.gg.trans<|Same.new g',λb u e=>?_,λa o' ha hn=>?_⟩
 .by_cases hb:b=p
  .subst hb;rw[zH] at e;rw[h'];exact e
  .rw[zD hb] at e;exact s.sub b u e
 .rw[zD (λz:a=p=>by rw[z,hp] at ha;cases ha)];exact s.new a o' ha hn
def Step.adopt (s:Same G H)(hp:H p=some (.tup xs)):Step G H (upd G p<|.tup xs) H:=by
 refine⟨Same.refl _,λb u e=>?_,λb u e=>?_,λa o ha hn=>?_⟩
 .by_cases hb:b=p
  .subst hb;have:=s _ _ e;rw[hp] at this;rw[zH];exact this
  .rw[zD hb];exact e
 .by_cases hb:b=p
  .subst hb;rw[zH] at e;rw[hp];exact e
  .rw[zD hb] at e;exact s b u e
 .refine zD λz=>?_;rw[z,hp] at ha;cases ha;cases hn
inductive B where
 | no | fz (d:D) | ow (ds:kd)
  | mu (q:kr) (d:D)
  | yd (q:Option (qu×qu×qu)) (d:D)
  | pt (ps:List (Str×Str))
 deriving Inhabited
abbrev kj:=List B
def RepO (K:jk)(G:Hp)(o:HO):D->Prop
 | .obj c ns ds=>∃C dx vs,ClsAt K c C/\o = .ins C dx (ns.zip vs)/\ns.length=ds.length/\Reps K G ds vs
 | .dct ks ds=>∃vs,o = .dK (ks.zip vs)/\ks.length=ds.length/\Reps K G ds vs
 | _=>False
theorem RepO.mono {K:jk}{G G':Hp}{o:HO}(e:Same G G'):∀ {d:D},RepO K G o d->RepO K G' o d
 | .obj _ _ _,⟨C,dx,vs,h1,h2,h3,h4⟩=>⟨C,dx,vs,h1,h2,h3,h4.mono e⟩
 | .dct _ _,⟨vs,h1,h2,h3⟩=>⟨vs,h1,h2,h3.mono e⟩
def zYW:HO->Bool | .ins _ _ _=>true | .dK _=>true | .dT _=>true | _=>false
def zF7 (h:zYW o=true):zVJ o=true:=by cases o<;>first | rfl | cases h
theorem RepO.two {K:jk}{G:Hp}{o:HO}:∀ {d:D},RepO K G o d->zYW o=true
 | .obj _ _ _,⟨C,dx,vs,_,h2,_⟩=>by rw[h2];rfl
 | .dct _ _,⟨vs,h1,_⟩=>by rw[h1];rfl
def RepO.nt (h:RepO K G o d):zVJ o=true:=zF7 h.two
def ydF (vc vl:V)(b c:qu):qr:=[("curve",vc),("level",vl),("store",.ref b),("boxes",.ref c)]
def ydN:kh:=["curve","level","store","boxes"]
def ydD (dc dl ds db:D):D:=.obj "Yard" ydN [dc,dl,ds,db]
structure Yd (K:jk)(H0 G H:Hp)(a b c:qu)(d:D):Prop where
 ex:∃C dx vc vl dc dl ds db o1 o2,d=ydD dc dl ds db/\ClsAt K "Yard" C/\H a=some (.ins C dx<|ydF vc vl b c)/\Rep K G dc vc/\Rep K G dl vl/\H b=some o1/\RepO K G o1 ds/\H c=some o2/\RepO K G o2 db
 no:∀x,x=a\/x=b\/x=c->G x=none/\H0 x=none
 ne:a≠b/\a≠c/\b≠c
def atQ (q:Option α)(a:α):Prop:=q=none\/q=some a
inductive RB (K:jk)(H0 G H:Hp):ql->B->Prop where
 | no {o:ql}:RB K H0 G H o .no
 | fz {v:V} {d:D}:Rep K G d v->RB K H0 G H (some v) (.fz d)
 | ow {a:qu} {vs:kl} {ds:kd}:H a=some (.lst vs)->G a=none->H0 a=none->Reps K G ds vs->RB K H0 G H (some (.ref a)) (.ow ds)
 | mu {a:qu} {o:HO} {q:kr} {d:D}:atQ q a->H a=some o->G a=none->H0 a=none->RepO K G o d->RB K H0 G H (some (.ref a)) (.mu q d)
 | yd {a b c:qu} {q:Option (qu×qu×qu)} {d:D}:atQ q (a,b,c)->Yd K H0 G H a b c d->RB K H0 G H (some (.ref a)) (.yd q d)
 | pt {a:qu} {j8:List (qj×V)} {ps:List (Str×Str)}:H a=some (.dT j8)->G a=none->H0 a=none->j8.map (·.1)=ps.map (λp=>[.inr p.1,.inr p.2])->RB K H0 G H (some<|.ref a) (.pt ps)
def vD (H:Hp)(v:ql):B->qu->Prop
 | .ow _,x=>v=some (.ref x)
 | .mu _ _,x=>v=some (.ref x)
 | .pt _,x=>v=some (.ref x)
 | .yd _ _,x=>∃a b c C dx vc vl,v=some (.ref a)/\H a=some (.ins C dx<|ydF vc vl b c)/\(x=a\/x=b\/x=c)
 | _,_=>False
def zLH (H:Hp)(U:St)(O:kj):Prop:=∀(i j:Nat) (x:qu) (v w:ql) (b c:B),U[i]?=some v->O[i]?=some b->U[j]?=some w->O[j]?=some c->vD H v b x->vD H w c x->i=j
structure Good (K:jk)(G0 H0 G H:Hp)(U:St)(O:kj):Prop where
 st:Step G0 H0 G H
 vals:Paired (RB K H0 G H) U O
 apart:zLH H U O
theorem Paired.get {α β:Type}{F:α->β->Prop}:∀ {l:List α} {r:List β} {i:Nat} {b:β},Paired F l r->r[i]?=some b->∃a,l[i]?=some a/\F a b
 | _,_,_,_,.nil,e=>by simp at e
 | _,_,0,_,.cons h _,e=>by simp at e;subst e;exact⟨_,J,h⟩
 | _,_,i+1,b,.cons _ t,e=>by obtain⟨a,h1,h2⟩:=Paired.get t (!6);exact⟨a,by simpa using h1,h2⟩
theorem Paired.mk' {α β:Type}{F:α->β->Prop}:∀ {l:List α} {r:List β},l.length=r.length->(∀(i:Nat) (a:α) (b:β),l[i]?=some a->r[i]?=some b->F a b)->Paired F l r
 | [],[],_,_=>.nil
 | a::l,b::r,h,f=>.cons (f 0 a b J J)<|Paired.mk' (by simpa using h) λi x y h1 h2=>f (i+1) x y (!6) (!6)
theorem Paired.set {α β:Type}{F:α->β->Prop}{a:α}{b:β}(h:F a b):∀ {l:List α} {r:List β} (i:Nat),Paired F l r->Paired F (l.set i a) (r.set i b)
 | _,_,_,.nil=>.nil
 | _,_,0,.cons _ t=>.cons h t
 | _,_,i+1,.cons q t=>.cons q<|Paired.set h i t
section
variable{O:kj}{v:ql}{b:B}{x:qu}
theorem Good.at (g:!21)(h1:U[i]?=some v)(h2:O[i]?=some b):RB K H0 G H v b:=by obtain⟨a,e,r⟩:=Paired.get g.vals h2;rw[h1] at e;cases e;exact r
def RB.foot (r:RB K H0 G H v b)(f:vD H v b x):(∃o,H x=some o/\zVJ o=true/\((∃us,o = .lst us/\∃ds,b = .ow ds)\/zYW o=true))/\G x=none/\H0 x=none:=by
 cases r with
 | no=>exact f.elim
 | fz _=>exact f.elim
 | ow h1 h2 h3 _=>cases f;exact⟨⟨_,h1,J,.inl ⟨_,J,_,J⟩⟩,h2,h3⟩
 | mu _ h1 h2 h3 h4=>cases f;exact⟨⟨_,h1,h4.nt,.inr h4.two⟩,h2,h3⟩
 | pt h1 h2 h3 _=>cases f;exact⟨⟨_,h1,J,.inr J⟩,h2,h3⟩
 | yd _ y =>
  obtain⟨a,b,c,C,dx,vc,vl,e1,e2,e3⟩:=f;cases e1;obtain⟨C',dx',vc',vl',_,_,_,_,o1,o2,_,_,q,_,_,q1,q2,q3,q4⟩:=y.ex;rw[e2] at q;cases q;refine⟨?_,y.no x e3⟩;rcases e3 with rfl | rfl | rfl
  .exact⟨_,e2,rfl,.inr rfl⟩
  .exact⟨o1,q1,q2.nt,.inr q2.two⟩
  .exact⟨o2,q3,q4.nt,.inr q4.two⟩
def RB.keep (r:RB K H0 G H v b)(gg:Same G G')(hh:∀x o,vD H v b x->H x=some o->H' x=some o)(gn:∀x,vD H v b x->G' x=none):RB K H0 G' H' v b:=by
 cases r with
 | no=>exact .no
 | fz q=>exact .fz<|q.mono gg
 | ow h1 h2 h3 h4=>exact .ow (hh _ _ J h1) (gn _ J) h3<|h4.mono gg
 | mu q h1 h2 h3 h4=>exact .mu q (hh _ _ J h1) (gn _ J) h3<|h4.mono gg
 | pt h1 h2 h3 h4=>exact .pt (hh _ _ J h1) (gn _ J) h3 h4
 | yd q y =>
  obtain⟨⟨C,dx,vc,vl,dc,dl,ds,db,o1,o2,e0,e1,e2,e3,e4,e5,e6,e7,e8⟩,no,ne⟩:=y;rename_i a b c q' d;have ft:∀x,x=a\/x=b\/x=c->vD H _ (.yd q' d) x:=λx hx=>⟨_,_,_,C,dx,vc,vl,J,e2,hx⟩
  exact .yd q ⟨⟨C,dx,vc,vl,dc,dl,ds,db,o1,o2,e0,e1,hh _ _ (ft _<|.inl rfl) e2,e3.mono gg,e4.mono gg,hh _ _ (ft _<|.inr<|.inl rfl) e5,e6.mono gg,hh _ _ (ft _<|.inr<|.inr rfl) e7,e8.mono gg⟩,λx hx=>⟨gn x<|ft x hx,(no x hx).2⟩,ne⟩
def RB.back (r:RB K H0 G H v b)(hh:∀x o,vD H v b x->H x=some o->H' x=some o)(f:vD H' v b x):vD H v b x:=by
 cases r with
 | no=>exact f
 | fz _=>exact f
 | ow _ _ _ _=>exact f
 | mu _ _ _ _ _=>exact f
 | pt _ _ _ _=>exact f
 | yd _ y =>obtain⟨a,b,c,C,dx,vc,vl,e1,e2,e3⟩:=f;cases e1;obtain⟨C',dx',vc',vl',_,_,_,_,_,_,_,_,q,_⟩:=y.ex;have:=hh _ _ ⟨_,_,_,_,_,_,_,J,q,.inl J⟩ q;rw[e2] at this;cases this;exact⟨_,_,_,_,_,_,_,J,q,e3⟩
def RB.step (r:RB K H0 G H v b)(s:Step G H G' H'):RB K H0 G' H' v b:=r.keep s.gg (λx o _ h=>s.hh x o h) λx f=>by obtain⟨⟨o,h1,h2,_⟩,h3,_⟩:=r.foot f;exact(s.new x o h1 h2).trans h3
def Good.step (g:!21)(s:Step G H G' H'):Good K G0 H0 G' H' U O :=
 ⟨g.st.trans s,Paired.mapP g.vals λ_ _ r=>r.step s,λi j x v w b c h1 h2 h3 h4 f1 f2=>g.apart i j x v w b c h1 h2 h3 h4 ((g.at h1 h2).back (λx o _ h=>s.hh x o h) f1)<|(g.at h3 h4).back (λx o _ h=>s.hh x o h) f2⟩
def Good.sub (g:!21):Same G H:=g.st.sub
def Good.len (g:!21):U.length=O.length:=Td g.vals
theorem Good.fresh (g:!21)(hn:H x=none)(j:Nat)(w:ql)(c:B)(h1:U[j]?=some w)(h2:O[j]?=some c):¬vD H w c x:=λf=>by obtain⟨⟨o,h,_⟩,_⟩:=(g.at h1 h2).foot f;rw[hn] at h;cases h
def Good.put (g:!21)(i:Nat)(r:RB K H0 G H v b)(fr:∀x,vD H v b x->∀j w c,j≠i->U[j]?=some w->O[j]?=some c->¬vD H w c x):Good K G0 H0 G H (U.set i v)<|O.set i b:=by
 have one:∀ {α:Type} {l:List α} {y z:α},(l.set i y)[i]?=some z->z=y:=λ{α l y z} h=>by rw[List.getElem?_set] at h;simp_all
 refine⟨g.st,Paired.set r i g.vals,λj k x v' w' b' c' h1 h2 h3 h4 f1 f2=>?_⟩
 by_cases hj:j=i<;>by_cases hk:k=i
 .rw[hj,hk]
 .subst hj;rw[one h1,one h2] at f1;rw[Wv<|Ne.symm hk] at h3 h4;exact absurd f2<|fr x f1 k _ _ hk h3 h4
 .subst hk;rw[one h3,one h4] at f2;rw[Wv<|Ne.symm hj] at h1 h2;exact absurd f1<|fr x f2 j _ _ hj h1 h2
 .rw[Wv<|Ne.symm hj] at h1 h2;rw[Wv<|Ne.symm hk] at h3 h4;exact g.apart j k x v' w' b' c' h1 h2 h3 h4 f1 f2
def Good.chg (g:!21){b1:B}(hs:U[i]?=some v)(hi:O[i]?=some b)(gg:Same G G')(sub:Same G' H')(hh:∀x o,¬vD H v b x->H x=some o->H' x=some o)(gn:∀x o,¬vD H v b x->H x=some o->zVJ o=true->G' x=G x)(r:RB K H0 G' H' v b1) (ft:∀x,vD H' v b1 x->vD H v b x):Good K G0 H0 G' H' U<|O.set i b1:=by
 have hl:=g.len;have old:∀x,H0 x≠none->¬vD H v b x:=λx h f=>h ((g.at hs hi).foot f).2.2;have oth:∀ {j:Nat} {w:ql} {c:B} {x:qu},j≠i->U[j]?=some w->O[j]?=some c->vD H w c x->¬vD H v b x:=λ{j w c x} hj h1 h2 f1 f2=>hj<|g.apart j i x w v c b h1 h2 hs hi f1 f2;have bk:∀ {j:Nat} {w:ql} {c:B} {x:qu},U[j]?=some w->(O.set i b1)[j]?=some c->vD H' w c x->∃c',O[j]?=some c'/\vD H w c' x:=λ{j w c x} h1 h2 f=>by
  by_cases hj:j=i
  .subst hj;rw[hs] at h1;cases h1;rw[Rh (by rw[<-hl];exact(v5 hs).1)] at h2;cases h2;exact⟨b,hi,ft x f⟩
  .rw[Wv<|Ne.symm hj] at h2;exact⟨c,h2,(g.at h1 h2).back (λy o f h=>hh y o (oth hj h1 h2 f) h) f⟩
 refine⟨⟨λx o h=>hh x o (old x jc)<|g.st.hh x o h,g.st.gg.trans gg,sub,λx o h n=>(gn x o (old x jc) (g.st.hh x o h) n).trans<|g.st.new x o h n⟩,Paired.mk' (by rw[Ps];exact hl) λj w c h1 h2=>?_,λj k x w w' c c' h1 h2 h3 h4 f1 f2=>?_⟩
 .by_cases hj:j=i
  .subst hj;rw[hs] at h1;cases h1;rw[Rh (by rw[<-hl];exact(v5 hs).1)] at h2;cases h2;exact r
  .rw[Wv<|Ne.symm hj] at h2;have q:=g.at h1 h2;refine q.keep gg (λy o f h=>hh y o (oth hj h1 h2 f) h) λy f=>?_;obtain⟨⟨o,e1,e2,_⟩,e3,_⟩:=q.foot f;exact(gn y o (oth hj h1 h2 f) e1 e2).trans e3
 .obtain⟨d,q1,q2⟩:=bk h1 h2 f1;obtain⟨d',q3,q4⟩:=bk h3 h4 f2;exact g.apart j k x w w' d d' h1 q1 h3 q3 q2 q4
def Good.same (g:!21)(gg:Same G G')(st:Step G0 H0 G' H')(hh:∀(x:qu) (o:HO) (i:Nat) (w:ql) (c:B),U[i]?=some w->O[i]?=some c->vD H w c x->H x=some o->H' x=some o)(gn:∀(x:qu) (i:Nat) (w:ql) (c:B),U[i]?=some w->O[i]?=some c->vD H w c x->G' x=none):Good K G0 H0 G' H' U O :=
 ⟨st,Paired.mk' g.len λi w c h1 h2=>(g.at h1 h2).keep gg (λx o f h=>hh x o i w c h1 h2 f h) λx f=>gn x i w c h1 h2 f,λi j x v w b c h1 h2 h3 h4 f1 f2=>g.apart i j x v w b c h1 h2 h3 h4 ((g.at h1 h2).back (λx o f h=>hh x o i v b h1 h2 f h) f1)<|(g.at h3 h4).back (λx o f h=>hh x o j w c h3 h4 f h) f2⟩
end
abbrev Ef:=kj->qi
def tF (K:jk)(f:Ef):TE:=λU H Q=>∃G0 H0 G O d,Good K G0 H0 G H U O/\f O=some d/\∀v H' G',Step G H G' H'->Rep K G' d v->Q v H'
def PF (X:Cx)(e:r8)(f:Ef):Prop:=PE X e<|tF X.K f
def PE.to {f:Ef}(h:PE X e t)(imp:∀U H Q,tF X.K f U H Q->t U H Q):PF X e f:=λZ s U H Q I q=>h Z s U H Q I<|imp U H Q q
abbrev Lf:=kj->ka
def tFr (K:jk)(f:Lf):TE:=λU H Q=>∃G0 H0 G O ds,Good K G0 H0 G H U O/\f O=some ds/\∀a vs H' G',Step G H G' H'->H a=none->H' a=some (.lst vs)->G' a=none->Reps K G' ds vs->Q (.ref a) H'
def PFr (X:Cx)(e:r8)(f:Lf):Prop:=PE X e<|tFr X.K f
def PE.toR {f:Lf}(h:PE X e t)(imp:∀U H Q,tFr X.K f U H Q->t U H Q):PFr X e f:=λZ s U H Q I q=>h Z s U H Q I<|imp U H Q q
def eL (f:Lf):Ef:=λO=>(f O).map .lst
def wC {f:Lf}(h:PFr X e f):PF X e<|eL f:=by
 refine PE.to h ?_
 sleep 1
 obtain⟨ds,h1,rfl⟩:=k9 hf;exact⟨G0,H0,G,O,ds,j0,h1,λa vs H' G' s hn ha ga rs=>k _ _ _ (s.frz hn ha ga)<|wZ.mpr ⟨a,vs,rfl,.of zH,rs.mono<|Same.new ga⟩⟩
abbrev Tf:=kj->ky
end L2
variable{t:Bool}{tc ta tt:Tf}{p:Pos}{q:kj->Bool}{fa el fk fb fc src f1:Ef}{O O':kj}{xb xa:kj->kf}{ga gi gb:Lf}
namespace L2
def tFT (K:jk)(f:Tf):TT:=λU H Q=>∃G0 H0 G O b,Good K G0 H0 G H U O/\f O=some b/\∀H' G',Step G H G' H'->Q b H'
def PFT (X:Cx)(e:r8)(f:Tf):Prop:=PT X e<|tFT X.K f
def PT.to {t:TT}{f:Tf}(h:PT X e t)(imp:∀U H Q,tFT X.K f U H Q->t U H Q):PFT X e f:=λZ s U H Q I q=>h Z s U H Q I<|imp U H Q q
def PFW (X:Cx)(e:r8)(f:Tf):Prop:=PW X e<|tFT X.K f
def tFA (K:jk)(f:Lf):TA:=λU H Q=>∃G0 H0 G O ds,Good K G0 H0 G H U O/\f O=some ds/\∀vs H' G',Step G H G' H'->Reps K G' ds vs->Q vs H'
def PFA (X:Cx)(es:qt)(f:Lf):Prop:=PA X es<|tFA X.K f
def PA.to {t:TA}{f:Lf}(h:PA X es t)(imp:∀U H Q,tFA X.K f U H Q->t U H Q):PFA X es f:=λpos Z s U H Q I q=>h pos Z s U H Q I<|imp U H Q q
section
variable{a b:r8}{tb:Tf}
def zMw (O:kj)(i:Nat):qi:=match O[i]? with | some (.fz d)=>some d | _=>none
def eV (i:Nat):Ef:=λO=>zMw O i
def zNz (g:!21)(h:zMw O i=some d):∃v,U[i]?=some (some v)/\Rep K G d v:=by
 unfold zMw at h;split at h
 .rename_i d' e;cases h;obtain⟨o,h1,r⟩:=Paired.get g.vals e;cases r with
  | fz r=>exact⟨_,h1,r⟩
 .cases h
def yQ (i:Nat)(hN:!25:=by rfl)(hv:!29:=by exact visQ rfl)(hd:!17:=by decide)(hcd:!28:=by decide):PF X (.Name x pos)<|eV i:=by
 refine PE.to (wI hN hv hd hcd) ?_
 sleep 1
 obtain⟨v,h1,r⟩:=zNz j0 hf;exact⟨v,h1,k v H G (.refl j0.sub) r⟩
def eC (d:D):Ef:=λ_=>some d
abbrev jp:Ef:=eC<|.int 0
abbrev jq:Ef:=eC<|.int 1
abbrev jr:Ef:=eC<|.int 2
abbrev jt:Ef:=eC<|.int 3
abbrev ju:Ef:=eC<|.int 4
abbrev jv:Ef:=eC<|.int 5
abbrev jw:Ef:=eC<|.int 6
abbrev jx:Ef:=eC<|.int 7
abbrev jy:Ef:=eC<|.int 8
abbrev jz:=kd->qi
abbrev J0:=@List.Nodup Str
def zTC (h:PE X e<|tC v)(r:∀G,Rep X.K G d v):PF X e<|eC d:=by refine PE.to h ?_;rintro U H Q ⟨G0,H0,G,O,d',j0,hf,k⟩;cases hf;exact k v H G (.refl j0.sub)<|r G
def zX {i:Int}:PF X (.Constant (.int i) j pos)<|eC<|.int i:=zTC zFY λ_=>yW.mpr J
def sX {i:Bool}:PF X (.Constant (.bool i) j pos)<|eC<|.bl i:=zTC zDY λ_=>wT.mpr J
def zTR:PF X (.Constant .none j pos)<|eC .non:=zTC zJY λ_=>sQ.mpr J
def xR:PF X (.Constant (.str x) j pos)<|eC<|.str x:=zTC zPz λ_=>xZ.mpr J
def eI (C:Int->Int->Bool)(g:Int->Int->Int)(fa fb:Ef):Ef:=λO=>(fa O).bind λx=>(fb O).bind λy=>match x,y with | .int i,.int j=>if C i j then some (.int<|g i j) else none | _,_=>none
def zK7 {g:Int->Int->Int}(h:eI C g fa fb O=some d):∃i j,fa O=some (.int i)/\fb O=some (.int j)/\C i j=true/\d = .int (g i j):=by
 obtain⟨x,h1,h⟩:=k8 h;obtain⟨y,h2,h⟩:=k8 h;cases x with
 | int i =>
  cases y with
  | int j =>
   dsimp only at h;split at h
   .rename_i hc;cases h;exact⟨i,j,h1,h2,hc,J⟩
   .cases h
  | _=>cases h
 | _=>cases h
def zPO {op:Operator}{P:Int->Int->Prop}{g:Int->Int->Int}(ho:OpR X (binaryOp op)<|rI P λi j=>.int<|g i j)(hP:∀i j,C i j=true->P i j)(ha:!10)(hb:PF X b fb):PF X (.BinOp a op b pos)<|eI C g fa fb:=by
 refine PE.to (zYr ho ha hb) ?_
 sleep 1
 obtain⟨i,j,h1,h2,hc,rfl⟩:=zK7 hf;exact⟨G0,H0,G,O,_,j0,h1,λx H1 G1 s1 r1=>⟨G0,H0,G1,O,_,j0.step s1,h2,λy H2 G2 s2 r2=>⟨i,j,yW.mp r1,yW.mp r2,hP i j hc,k _ _ G2 (!12)<|yW.mpr rfl⟩⟩⟩
def zOY {op:Operator}{g:Int->Int->Int}(ho:OpR X (binaryOp op)<|rI0 λi j=>.int<|g i j)(ha:!10)(hb:PF X b fb):PF X (.BinOp a op b pos)<|eI (λ_ _=>true) g fa fb:=by
 refine PE.to (zYr ho ha hb) ?_
 sleep 1
 obtain⟨i,j,h1,h2,hc,rfl⟩:=zK7 hf;exact⟨G0,H0,G,O,_,j0,h1,λx H1 G1 s1 r1=>⟨G0,H0,G1,O,_,j0.step s1,h2,λy H2 G2 s2 r2=>⟨i,j,yW.mp r1,yW.mp r2,k _ _ G2 (!12)<|yW.mpr rfl⟩⟩⟩
abbrev wD:=eI (λ_ _=>true) λi j=>i+j
abbrev vG:=eI (λ_ _=>true) λi j=>i - j
def zXW (i j:Int):Bool:=(decide (-(2^64) < i)&&decide (i < 2^64))||(decide (-(2^64) < j)&&decide (j < 2^64))
abbrev gB:=eI zXW λi j=>i*j
def zGF (_ j:Int):Bool:=decide (0 < j)&&decide (j < 1073741824)
abbrev wM:=eI zGF λi j=>i / j
abbrev xO:=eI (λ_ j=>decide (0 < j)) λi j=>i % j
def zL0 (i j:Int):Bool:=decide (0<=j)&&decide (j<=1000000)&&decide (i.natAbs < 2^64)
abbrev zWo:=eI zL0 λi j=>i*2^j.toNat
abbrev zFj:=eI (λ_ j=>decide (0<=j)) λi j=>i / 2^j.toNat
abbrev zFA:=eI (λ_ _=>true) λi j=>Builtin.bitAnd i j
abbrev zGJ:=eI (λ_ _=>true) λi j=>Builtin.bitXor i j
def xS (ha:!10)(hb:PF X b fb):PF X (.BinOp a .Add b pos)<|wD fa fb:=zOY zKM ha hb
def vW (ha:!10)(hb:PF X b fb):PF X (.BinOp a .Sub b pos)<|vG fa fb:=zOY zGv ha hb
def mI (ha:!10)(hb:PF X b fb):PF X (.BinOp a .Mult b pos)<|gB fa fb:=zPO zG0 (λi j h=>by unfold zXW at h;simp only[To,Qm,Wo] at h;exact h) ha hb
def xD (ha:!10)(hb:PF X b fb):PF X (.BinOp a .FloorDiv b pos)<|wM fa fb:=zPO zHu (λi j h=>by unfold zGF at h;simp only[Qm,Wo] at h;exact h) ha hb
def xX (ha:!10)(hb:PF X b fb):PF X (.BinOp a .Mod b pos)<|xO fa fb:=zPO zFZ (λi j h=>Eh h) ha hb
def zI6 {i j:Int}(h:zL0 i j=true):zDU i j:=by unfold zL0 at h;simp only[Qm,Wo] at h;exact⟨h.1.1,h.1.2,h.2⟩
def zY5 (ha:!10)(hb:PF X b fb):PF X (.BinOp a .LShift b pos)<|zWo fa fb:=zPO zFC (λi j h=>zI6 h) ha hb
def zMf (ha:!10)(hb:PF X b fb):PF X (.BinOp a .RShift b pos)<|zFj fa fb:=zPO zGm (λi j h=>Eh h) ha hb
def zOm (ha:!10)(hb:PF X b fb):PF X (.BinOp a .BitAnd b pos)<|zFA fa fb:=zOY zG1 ha hb
def zKx (ha:!10)(hb:PF X b fb):PF X (.BinOp a .BitXor b pos)<|zGJ fa fb:=zOY zG5 ha hb
def zEE (fa:Ef):Ef:=λO=>(fa O).bind λx=>match x with | .int i=>some (.int (-i)) | _=>none
def zGM (ha:!10):PF X (.UnaryOp .USub a pos)<|zEE fa:=by
 refine PE.to (zED zFN ha) ?_
 sleep 3
 split at hf
 .rename_i i;cases hf;exact⟨G0,H0,G,O,_,j0,h1,λx H1 G1 s1 r1=>⟨i,yW.mp r1,k _ _ G1 s1<|yW.mpr rfl⟩⟩
 .simp_all
def eB2 (g:D->D->ky)(fa fb:Ef):Tf:=λO=>(fa O).bind λx=>(fb O).bind λy=>g x y
def sE (t:Tf):Ef:=λO=>(t O).map .bl
def gLt:D->D->ky | .int i,.int j=>some (decide (i < j)) | _,_=>none
def gLe:D->D->ky | .int i,.int j=>some (decide (i<=j)) | _,_=>none
def gGt:D->D->ky | .int i,.int j=>some (decide (j < i)) | _,_=>none
def gGe:D->D->ky | .int i,.int j=>some (decide (j<=i)) | _,_=>none
def gEq:D->D->ky
 | .int i,.int j=>some (decide (i=j))
 | .bl i,.bl j=>some (decide (i=j))
 | .str i,.str j=>some (decide (i=j))
 | _,_=>none
def gNe (x y:D):ky:=(gEq x y).map (!·)
def CmR (X:Cx)(op:CmpOp)(g:D->D->ky):Prop:=∃r:R2,OpR X (compareOp op) r/\∀(d d':D) (k:Bool) (G H:Hp) (x y:V) (Q:VK),g d d'=some k->Same G H->Rep X.K G d x->Rep X.K G d' y->(∀H' G',Step G H G' H'->Q (.bl k) H')->r x y H Q
def zTW {p:Int->Int->Bool}(ho:OpR X (compareOp op)<|rI0 λi j=>.bl<|p i j)(hg:∀d d' k,g d d'=some k->∃i j,d = .int i/\d' = .int j/\k=p i j):CmR X op g:=by refine⟨_,ho,λd d' k G H x y Q h s rx ry q=>?_⟩;obtain⟨i,j,rfl,rfl,rfl⟩:=hg d d' k h;exact⟨i,j,yW.mp rx,yW.mp ry,q H G<|.refl s⟩
theorem zUw:CmR X .Lt gLt:=zTW zDR λd d' k h=>by unfold gLt at h;split at h<;>cases h;exact⟨_,_,J,J,J⟩
theorem zXu:CmR X .LtE gLe:=zTW zEF λd d' k h=>by unfold gLe at h;split at h<;>cases h;exact⟨_,_,J,J,J⟩
theorem zGX:CmR X .Gt gGt:=zTW zEf λd d' k h=>by unfold gGt at h;split at h<;>cases h;exact⟨_,_,J,J,J⟩
theorem zEB:CmR X .GtE gGe:=zTW zEK λd d' k h=>by unfold gGe at h;split at h<;>cases h;exact⟨_,_,J,J,J⟩
def zKD {k:Bool}{x y:V}(h:gEq d d'=some k)(rx:Rep K G d x)(ry:Rep K G d' y):zFl x y=true/\decide (x=y)=k:=by
 unfold gEq at h;split at h
 .cases h;rw[yW] at rx ry;subst rx;subst ry;exact⟨J,je⟩
 .cases h;rw[wT] at rx ry;subst rx;subst ry;exact⟨J,je⟩
 .cases h;rw[xZ] at rx ry;subst rx;subst ry;exact⟨J,je⟩
 .cases h
def sV:CmR X .Eq gEq:=⟨_,zEC,λd d' k G H x y Q h s rx ry q=>by obtain⟨h1,h2⟩:=zKD h rx ry;exact⟨h1,by rw[h2];exact q H G<|.refl s⟩⟩
def zSb:CmR X .NotEq gNe:=⟨_,zEH,λd d' k G H x y Q h s rx ry q=>by obtain⟨k',h',rfl⟩:=k9 h;obtain⟨h1,h2⟩:=zKD h' rx ry;exact⟨h1,by rw[h2];exact q H G<|.refl s⟩⟩
def zOI {k:Bool}(h:eB2 g fa fb O=some k):∃x y,fa O=some x/\fb O=some y/\g x y=some k:=by obtain⟨x,h1,h⟩:=k8 h;obtain⟨y,h2,h⟩:=k8 h;exact⟨x,y,h1,h2,h⟩
def zSg {t:Tf}(h:sE t O=some d):∃k,t O=some k/\d = .bl k:=by obtain⟨k,h1,rfl⟩:=k9 h;exact⟨k,h1,J⟩
def kM (hc:CmR X op g)(ha:!10)(hb:PF X b fb)(hm:behindInMarks op b=false:=by first | exact zWS _ | (with_unfolding_all rfl)):PF X (.Compare a [op] [b] pos)<|sE<|eB2 g fa fb:=by
 obtain⟨r,ho,hr⟩:=hc;refine PE.to (zIa ho ha hb hm) ?_
 sleep 1
 obtain⟨c,hf2,rfl⟩:=zSg hf;obtain⟨x,y,h1,h2,h3⟩:=zOI hf2;exact⟨G0,H0,G,O,_,j0,h1,λu H1 G1 s1 r1=>⟨G0,H0,G1,O,_,j0.step s1,h2,λv H2 G2 s2 r2=>hr x y c G2 H2 u v Q h3 s2.sub (r1.mono s2.gg) r2 λH' G' s3=>k _ _ G' ((!12).trans s3)<|wT.mpr rfl⟩⟩
def yL (hc:CmR X op g)(ha:!10)(hb:PF X b fb)(hm:behindInMarks op b=false:=by first | exact zWS _ | (with_unfolding_all rfl)):PFT X (.Compare a [op] [b] pos)<|eB2 g fa fb:=by obtain⟨r,ho,hr⟩:=hc;refine PT.to (zNY ho ha hb hm) ?_;rintro U H Q ⟨G0,H0,G,O,c,j0,hf,k⟩;obtain⟨x,y,h1,h2,h3⟩:=zOI hf;exact⟨G0,H0,G,O,_,j0,h1,λu H1 G1 s1 r1=>⟨G0,H0,G1,O,_,j0.step s1,h2,λv H2 G2 s2 r2=>hr x y c G2 H2 u v _ h3 s2.sub (r1.mono s2.gg) r2 λH' G' s3=>⟨c,J,k _ G'<|(!12).trans s3⟩⟩⟩
def gR:D->Bool | .non=>true | _=>false
def zU3 (r:Rep K G d v):decide (v = .non)=gR d:=by
 cases d with
 | non=>rw[sQ] at r;subst r;rfl
 | bl b=>rw[wT] at r;subst r;simp[gR]
 | int b=>rw[yW] at r;subst r;simp[gR]
 | str b=>rw[xZ] at r;subst r;simp[gR]
 | tup ds=>obtain⟨p,_,rfl,_⟩:=xU.mp r;simp[gR]
 | lst ds=>obtain⟨p,_,rfl,_⟩:=wZ.mp r;simp[gR]
 | obj C ns ds=>obtain⟨_,p,_,_,_,rfl,_⟩:=sO.mp r;simp[gR]
 | exc C ns ds=>obtain⟨_,p,_,_,_,rfl,_⟩:=zZK.mp r;simp[gR]
 | dct ks ds=>obtain⟨p,_,_,rfl,_⟩:=zTA.mp r;simp[gR]
def zPB:D->D->ky | d,.non=>some (!gR d) | _,_=>none
theorem zJZ:CmR X .IsNot zPB:=⟨_,zHZ,λd d' k G H x y Q h s rx ry q=>by
 unfold zPB at h;split at h
 .cases h;refine⟨sQ.mp ry,?_⟩;rw[zU3 rx];exact q H G<|.refl s
 .cases h⟩
def tB1 (f:Ef):Tf:=λO=>(f O).bind λx=>match x with | .bl k=>some k | _=>none
def zTi {f:Ef}{k:Bool}(h:tB1 f O=some k):f O=some (.bl k):=by
 obtain⟨x,h1,h⟩:=k8 h;split at h
 .simp_all
 .cases h
def wP (ha:!10)(he:∀whole,isTrue a X.env whole=(do let v ←whole;standAt a.pos;holding [v] (truthy v)):=by intro _;rfl):PFT X a<|tB1 fa:=by refine PT.to (zFg ha he) ?_;rintro U H Q ⟨G0,H0,G,O,c,j0,hf,k⟩;exact⟨G0,H0,G,O,_,j0,zTi hf,λu H1 G1 s1 r1=>⟨c,wT.mp r1,k _ G1 s1⟩⟩
def tT (t:Tf):Tf:=λO=>(t O).map (!·)
def sZ (t u:Tf):Tf:=λO=>(t O).bind λc=>if c=true then u O else some false
def zPV (t u:Tf):Tf:=λO=>(t O).bind λc=>if c=true then some true else u O
def uD (ha:PFT X a ta):PFT X (.UnaryOp .Not a pos)<|tT ta:=by refine PT.to (zGd ha) ?_;rintro U H Q ⟨G0,H0,G,O,c,j0,hf,k⟩;obtain⟨c',h1,rfl⟩:=k9 hf;exact⟨G0,H0,G,O,_,j0,h1,λH1 G1 s1=>k _ G1 s1⟩
def PW.to {t:TT}{f:Tf}(h:PW X e t)(imp:∀U H Q,tFT X.K f U H Q->t U H Q):PFW X e f:=λ_ Z s U H Q I q=>h _ Z s U H Q I<|imp U H Q q
def pM (ha:PFT X a ta):PFW X (.BoolOp .And [a] pos) ta:=zI3 ha
def zX7 (ha:PFT X a ta):PFW X (.BoolOp .Or [a] pos) ta:=zG2 ha
def lT {rest:qt}(ha:PFT X a ta)(hb:PFW X (.BoolOp .And (b::rest) pos) tb):PFW X (.BoolOp .And (a::b::rest) pos)<|sZ ta tb:=by
 refine PW.to (zFp ha hb) ?_;rintro U H Q ⟨G0,H0,G,O,c,j0,hf,k⟩;obtain⟨c',h1,hf⟩:=k8 hf;refine⟨G0,H0,G,O,_,j0,h1,λH1 G1 s1=>?_⟩;split at hf
 .rename_i h;rw[Qh h];exact⟨G0,H0,G1,O,c,j0.step s1,hf,λH2 G2 s2=>k _ G2 (!12)⟩
 .rename_i h;rw[Qv h];cases hf;exact k _ G1 s1
def zTX {rest:qt}(ha:PFT X a ta)(hb:PFW X (.BoolOp .Or (b::rest) pos) tb):PFW X (.BoolOp .Or (a::b::rest) pos)<|zPV ta tb:=by
 refine PW.to (zE3 ha hb) ?_;rintro U H Q ⟨G0,H0,G,O,c,j0,hf,k⟩;obtain⟨c',h1,hf⟩:=k8 hf;refine⟨G0,H0,G,O,_,j0,h1,λH1 G1 s1=>?_⟩;split at hf
 .rename_i h;rw[Qh h];cases hf;exact k _ G1 s1
 .rename_i h;rw[Qv h];exact⟨G0,H0,G1,O,c,j0.step s1,hf,λH2 G2 s2=>k _ G2 (!12)⟩
def zXT (h:PFW X e ta):PFT X e ta:=h.pt
def zQl {op:BoolOp}(h:!10):PF X (.BoolOp op [a] pos) fa:=zGE h
def zSn (fa fb:Ef):Ef:=λO=>(tB1 fa O).bind λc=>if c=true then fb O else some (.bl false)
def zMR (fa fb:Ef):Ef:=λO=>(tB1 fa O).bind λc=>if c=true then some (.bl true) else fb O
def zLf {rest:qt}(ha:!10)(hb:PF X (.BoolOp .And (b::rest) pos) fb):PF X (.BoolOp .And (a::b::rest) pos)<|zSn fa fb:=by
 refine PE.to (zG9 ha hb) ?_
 sleep 1
 obtain⟨c,h1,hf⟩:=k8 hf;refine⟨G0,H0,G,O,_,j0,zTi h1,λu H1 G1 s1 r1=>⟨c,wT.mp r1,?_⟩⟩;split at hf
 .rename_i h;rw[Qh h];exact⟨G0,H0,G1,O,d,j0.step s1,hf,λv H2 G2 s2 r2=>k _ _ G2 (!12) r2⟩
 .rename_i h;rw[Qv h];cases hf;exact k _ _ G1 s1<|wT.mpr rfl
def zHd {rest:qt}(ha:!10)(hb:PF X (.BoolOp .Or (b::rest) pos) fb):PF X (.BoolOp .Or (a::b::rest) pos)<|zMR fa fb:=by
 refine PE.to (zDW ha hb) ?_
 sleep 1
 obtain⟨c,h1,hf⟩:=k8 hf;refine⟨G0,H0,G,O,_,j0,zTi h1,λu H1 G1 s1 r1=>⟨c,wT.mp r1,?_⟩⟩;split at hf
 .rename_i h;rw[Qh h];cases hf;exact k _ _ G1 s1<|wT.mpr rfl
 .rename_i h;rw[Qv h];exact⟨G0,H0,G1,O,d,j0.step s1,hf,λv H2 G2 s2 r2=>k _ _ G2 (!12) r2⟩
def eIf (t:Tf)(fa fb:Ef):Ef:=λO=>(t O).bind λc=>if c=true then fa O else fb O
def zQR (ht:PFT X c ta)(ha:!10)(hb:PF X b fb):PF X (.IfExp c a b pos)<|eIf ta fa fb:=by
 refine PE.to (zJX ht ha hb) ?_
 sleep 1
 obtain⟨c',h1,hf⟩:=k8 hf;refine⟨G0,H0,G,O,_,j0,h1,λH1 G1 s1=>?_⟩;split at hf
 .rename_i h;rw[Qh h];exact⟨G0,H0,G1,O,d,j0.step s1,hf,λv H2 G2 s2 r2=>k _ _ G2 (!12) r2⟩
 .rename_i h;rw[Qv h];exact⟨G0,H0,G1,O,d,j0.step s1,hf,λv H2 G2 s2 r2=>k _ _ G2 (!12) r2⟩
def zS:Lf:=λ_=>some []
def zY (f:Ef)(r:Lf):Lf:=λO=>(f O).bind λd=>(r O).map λds=>d::ds
def zW:PFA X [] zS:=by
 refine PA.to yF ?_
 sleep 1
 cases hf;exact k [] H G (.refl j0.sub)<|yX.mpr rfl
def zUS {f:Ef}{r:Lf}(h:zY f r O=some ds):∃d dr,f O=some d/\r O=some dr/\ds=d::dr:=by obtain⟨d,h1,h⟩:=k8 h;obtain⟨dr,h2,rfl⟩:=k9 h;exact⟨d,dr,h1,h2,J⟩
def zZ (ha:PF X e fa)(hr:PFA X es ga)(hs:!24:=by rfl):PFA X (e::es)<|zY fa ga:=by refine PA.to (yS ha hr hs) ?_;rintro U H Q ⟨G0,H0,G,O,ds,j0,hf,k⟩;obtain⟨d,dr,h1,h2,rfl⟩:=zUS hf;exact⟨G0,H0,G,O,_,j0,h1,λu H1 G1 s1 r1=>⟨G0,H0,G1,O,_,j0.step s1,h2,λv H2 G2 s2 r2=>k _ _ G2 (!12)<|zP.mpr ⟨u,v,rfl,r1.mono s2.gg,r2⟩⟩⟩
abbrev lim:Nat:=100000
def wN (h:n<=lim):n < sizeLine:=Ui h jb
def okL (ds:kd):ka:=if ds.length<=lim then some ds else none
def zZv {es:kd}(h:okL ds=some es):es=ds/\ds.length<=lim:=by
 unfold okL at h;split at h
 .simp_all
 .cases h
def vZ (g:Lf):Ef:=λO=>((g O).bind okL).map .tup
def xY {k:Nat}(h:PFA X es ga):PF X (.Tuple es k pos)<|vZ ga:=by
 refine PE.to (zPi h) ?_
 sleep 1
 obtain⟨ds,h1,rfl⟩:=k9 hf;obtain⟨es,h1,h2⟩:=k8 h1;obtain⟨rfl,h3⟩:=zZv h2;refine⟨G0,H0,G,O,_,j0,h1,λvs H1 G1 s1 r1=>⟨by rw[<-r1.length];exact Wa<|wN h3,λp hp=>?_⟩⟩;have s2:=Step.laid (o:=.tup vs) s1.sub hp;exact k _ _ _ (!12)<|xU.mpr ⟨p,vs,rfl,.of zH,r1.mono s2.gg⟩
def xJ (g:Lf):Lf:=λO=>(g O).bind okL
def y0 (h:PFA X es ga):PFr X (.List es pos)<|xJ ga:=by
 refine PE.toR (zF8 h) ?_
 sleep 1
 obtain⟨es,h1,h2⟩:=k8 hf;obtain⟨rfl,h3⟩:=zZv h2;exact⟨G0,H0,G,O,_,j0,h1,λvs H1 G1 s1 r1=>⟨by rw[<-r1.length];exact Wa<|wN h3,λp hp=>k p vs _ G1 (s1.trans<|Step.own s1.sub hp) (s1.hh.free hp) zH (s1.sub.free hp) r1⟩⟩
def atD (x y:D):qi:=match x,y with
 | .tup ds,.int i=>atI ds i
 | .lst ds,.int i=>atI ds i
 | .str z,.int i=>if z.length<=lim then(atI z.cps.toList i).map λc=>.str ⟨#[c]⟩ else none
 | _,_=>none
def eIx (fa fb:Ef):Ef:=λO=>(fa O).bind λx=>(fb O).bind λy=>atD x y
def zWP {i:Int}(r:Reps K G ds vs)(h:atI ds i=some d):∃v,atI vs i=some v/\Rep K G d v:=by unfold atI at h ⊢;rw[r.length] at h;obtain⟨j,h1,h2⟩:=k8 h;obtain⟨v,h3,h4⟩:=r.get h2;exact⟨v,by rw[h1];exact h3,h4⟩
def yY (ha:!10)(hb:PF X b fb)(hs:zSJ b:=by exactλ_ _=>rfl):PF X (.Subscript a b pos)<|eIx fa fb:=by
 refine PE.to (zGR zFB ha hb hs) ?_
 sleep 3
 obtain⟨y,h2,hf⟩:=k8 hf;refine⟨G0,H0,G,O,_,j0,h1,λu H1 G1 s1 r1=>⟨G0,H0,G1,O,_,j0.step s1,h2,λv H2 G2 s2 r2=>?_⟩⟩;have r1:=r1.mono s2.gg;have s3:=s1.trans s2;unfold atD at hf;split at hf
 .obtain⟨p,vs,rfl,q,rs⟩:=xU.mp r1;obtain⟨w,e,rw'⟩:=zWP rs hf;exact .inr<|.inl ⟨p,vs,_,w,rfl,yW.mp r2,s2.sub.tup q,e,k _ _ G2 s3 rw'⟩
 .obtain⟨p,vs,rfl,q,rs⟩:=wZ.mp r1;obtain⟨w,e,rw'⟩:=zWP rs hf;exact .inl ⟨p,vs,_,w,J,yW.mp r2,s2.sub.seq q,e,k _ _ G2 s3 rw'⟩
 .split at hf
  .rename_i hz;obtain⟨c,e,rfl⟩:=k9 hf;exact .inr<|.inr ⟨_,_,c,xZ.mp r1,yW.mp r2,Wa<|wN hz,e,k _ _ G2 s3<|xZ.mpr rfl⟩
  .simp_all
 .simp_all
end
inductive Out where
 | nx (O:kj) | rt (d:D) | rl (ds:kd) | bk (O:kj) | ct (O:kj)
 deriving Inhabited
abbrev Sf:=kj->Option Out
def Wants (K:jk)(G0 H0 G:Hp)(D:Ends):Out->Prop
 | .nx O'=>∀U' H' G',Same G G'->Good K G0 H0 G' H' U' O'->D.nx U' H'
 | .bk O'=>∀U' H' G',Same G G'->Good K G0 H0 G' H' U' O'->D.bk U' H'
 | .ct O'=>∀U' H' G',Same G G'->Good K G0 H0 G' H' U' O'->D.ct U' H'
 | .rt d=>∀v H' G',Step G0 H0 G' H'->Rep K G' d v->D.rt v H'
 | .rl ds=>∀a vs H' G',Step G0 H0 G' H'->H0 a=none->H' a=some (.lst vs)->G' a=none->Reps K G' ds vs->D.rt (.ref a) H'
def tFS (K:jk)(f:Sf):TS:=λD U H=>∃G0 H0 G O o,Good K G0 H0 G H U O/\f O=some o/\Wants K G0 H0 G D o
def PFS (X:Cx)(st:r9)(f:Sf):Prop:=PS X st<|tFS X.K f
def PFSs (X:Cx)(sts:qg)(f:Sf):Prop:=PSs X sts<|tFS X.K f
def PS.to {t:TS}{f:Sf}(h:PS X st t)(imp:∀D U H,tFS X.K f D U H->t D U H):PFS X st f:=λZ s U H D I q=>h Z s U H D I<|imp D U H q
def PSs.to {st:qg}{t:TS}{f:Sf}(h:PSs X st t)(imp:∀D U H,tFS X.K f D U H->t D U H):PFSs X st f:=λZ s U H D I q=>h Z s U H D I<|imp D U H q
def Wants.mono {D:Ends}{o:Out}(h:Wants K G0 H0 G D o)(s:Same G G'):Wants K G0 H0 G' D o:=by
 cases o with
 | nx O=>exactλU' H' G2 s2 g=>h U' H' G2 (s.trans s2) g
 | bk O=>exactλU' H' G2 s2 g=>h U' H' G2 (s.trans s2) g
 | ct O=>exactλU' H' G2 s2 g=>h U' H' G2 (s.trans s2) g
 | rt d=>exact h
 | rl ds=>exact h
def zUr:B->Bool | .ow _=>true | .mu _ _=>true | .yd _ _=>true | .pt _=>true | _=>false
def zZM {v:ql}{b:B}{x:qu}(f:vD H v b x):zUr b=true:=by cases b<;>first | rfl | exact f.elim
def zJl {b b':B}(hb:zUr b'=false)(h:(O.set i b')[j]?=some b)(o:zUr b=true):j≠i/\O[j]?=some b:=by
 by_cases e:j=i
 .subst e;rw[List.getElem?_set] at h;simp_all
 .rw[Wv<|Ne.symm e] at h;exact⟨e,h⟩
section
variable{es:kd}{us:kl}
def Good.setF (g:!21)(i:Nat)(r:Rep K G d v):Good K G0 H0 G H (U.set i<|some v)<|O.set i<|.fz d:=g.put i (.fz r) λ_ f=>f.elim
def Good.addr (g:!21)(h:O[i]?=some (.ow ds)):∃a vs,U[i]?=some (some<|.ref a)/\H a=some (.lst vs)/\G a=none/\H0 a=none/\Reps K G ds vs:=by
 obtain⟨o,e,r⟩:=Paired.get g.vals h;cases r with
 | ow h1 h2 h3 h4=>exact⟨_,_,e,h1,h2,h3,h4⟩
def Good.setO (g:!21)(i:Nat)(ha:H a=some (.lst vs))(ga:G a=none)(h0:H0 a=none)(rs:Reps K G ds vs)(fr:∀(j:Nat) (es:kd),O[j]?=some (B.ow es)->U[j]?≠some (some<|V.ref a)):Good K G0 H0 G H (U.set i<|some<|.ref a)<|O.set i<|.ow ds:=by
 refine g.put i (.ow ha ga h0 rs) λx f j w c hj h1 h2 f'=>?_;cases f;obtain⟨⟨o,e1,_,e2⟩,_⟩:=(g.at h1 h2).foot f';rw[ha] at e1;cases e1;rcases e2 with⟨_,_,es,rfl⟩ | e2
 .exact fr j es h2 (by rw[h1];exact Wi some f')
 .cases e2
def Good.wr (g:!21)(hi:O[i]?=some (.ow ds))(hs:U[i]?=some (some<|.ref a))(rs:Reps K G es us):Good K G0 H0 G (upd H a<|.lst us) U<|O.set i<|.ow es:=by obtain⟨a',vs,h1,h2,h3,h4,_⟩:=g.addr hi;rw[hs] at h1;cases h1;exact g.chg hs hi (Same.refl _) (λb o e=>by rw[zD<|yR e h3];exact g.sub b o e) (λx o f h=>by rw[zD λz=>f (by rw[z];rfl)];exact h) (λ_ _ _ _ _=>rfl) (.ow zH h3 h4 rs) λx f=>f
def Same.lend {p:qu}(s:Same G H)(h:H p=some o):Same (upd G p o) H:=λb u q=>by
 by_cases z:b=p
 .subst z;rw[zH] at q;rw[h];exact q
 .rw[zD z] at q;exact s b u q
def Good.lendL (g:!21)(hi:O[i]?=some (.ow ds)):∃p vs,G p=none/\H p=some (.lst vs)/\Good K G0 H0 (upd G p<|.lst vs) H U (O.set i<|.fz<|.lst ds):=by obtain⟨p,vs,h1,h2,h3,h4,h5⟩:=g.addr hi;have sG:Same G<|upd G p<|.lst vs:=Same.new h3;exact⟨p,vs,h3,h2,g.chg h1 hi sG (g.sub.lend h2) (λ_ _ _ h=>h) (λx o f _ _=>zD λz=>f (by rw[z];rfl)) (.fz<|wZ.mpr ⟨p,vs,rfl,.of zH,h5.mono sG⟩) λx f=>f.elim⟩
end
section
variable{b:r8}{rest:qg}{f g:Sf}
def zF (f g:Sf):Sf:=λO=>(f O).bind λo=>match o with | .nx O'=>g O' | o=>some o
def vU:Sf:=λO=>some<|.nx O
def yO:PFSs X [] vU:=by
 refine PSs.to zZ4 ?_
 sleep 2
 cases hf;exact k U H G (Same.refl _) j0
def zU (h:PFS X st f):PFSs X [st] f:=zXR h
def zT (h1:PFS X st f)(h2:PFSs X rest g):PFSs X (st::rest)<|zF f g:=by
 refine PSs.to (tY h1 h2) ?_
 sleep 2
 obtain⟨o1,h1,hf⟩:=k8 hf;refine⟨G0,H0,G,O,o1,j0,h1,?_⟩;cases o1 with
 | nx O'=>exactλU' H' G' s g'=>⟨G0,H0,G',O',o,g',hf,k.mono s⟩
 | rt d=>cases hf;exact k
 | rl d=>cases hf;exact k
 | bk d=>cases hf;exact k
 | ct d=>cases hf;exact k
def xQ (f:Ef):Sf:=λO=>(f O).map .rt
def yV (h:PF X e fa):PFS X (.Return (some e) pos)<|xQ fa:=by
 refine PS.to (zSZ h) ?_
 sleep 2
 obtain⟨d,h1,rfl⟩:=k9 hf;exact⟨G0,H0,G,O,d,j0,h1,λv H' G' s r=>k v H' G' (j0.st.trans s) r⟩
def tG (f:Lf):Sf:=λO=>(f O).map .rl
def sP (h:PFr X e ga):PFS X (.Return (some e) pos)<|tG ga:=by
 refine PS.to (zSZ h) ?_
 sleep 2
 obtain⟨d,h1,rfl⟩:=k9 hf;exact⟨G0,H0,G,O,d,j0,h1,λp vs H' G' s hn hp gp rs=>k p vs H' G' (j0.st.trans s) (j0.st.hh.free hn) hp gp rs⟩
def zUI (i:Nat):Sf:=λO=>match O[i]? with | some (.ow ds)=>some (.rl ds) | _=>none
def zX5 (i:Nat)(hN:!25:=by rfl)(hv:!29:=by exact visQ rfl)(hd:!17:=by decide)(hcd:!28:=by decide):PFS X (.Return (some<|.Name x pos') pos)<|zUI i:=by
 refine PS.to (zSZ<|wI hN hv hd hcd) ?_;rintro D U H ⟨G0,H0,G,O,o,j0,hf,k⟩;unfold zUI at hf;split at hf
 .rename_i ds e;cases hf;obtain⟨p,vs,h1,h2,h3,h4,h5⟩:=j0.addr e;exact⟨.ref p,h1,k p vs H G j0.st h4 h2 h3 h5⟩
 .simp_all
def sIf (t:Tf)(f g:Sf):Sf:=λO=>(t O).bind λc=>if c=true then f O else g O
def xV (ht:PFT X c ta)(ha:PFSs X sa f)(hb:PFSs X sb g):PFS X (.If c sa sb pos)<|sIf ta f g:=by
 refine PS.to (zUW ht ha hb) ?_
 sleep 2
 obtain⟨c',h1,hf⟩:=k8 hf;refine⟨G0,H0,G,O,_,j0,h1,λH1 G1 s1=>?_⟩;split at hf
 .rename_i h;rw[Qh h];exact⟨G0,H0,G1,O,o,j0.step s1,hf,k.mono s1.gg⟩
 .rename_i h;rw[Qv h];exact⟨G0,H0,G1,O,o,j0.step s1,hf,k.mono s1.gg⟩
def dH (f:Ef):Sf:=λO=>(f O).map λ_=>.nx O
def dX (h:PF X e fa)(hs:swapsWith e none pos.line X.env=pure false:=by rfl):PFS X (.Expr e pos)<|dH fa:=by
 refine PS.to (qH h hs) ?_
 sleep 2
 obtain⟨d,h1,rfl⟩:=k9 hf;exact⟨G0,H0,G,O,d,j0,h1,λv H' G' s r=>k U H' G' s.gg<|j0.step s⟩
abbrev Gf:=D->kj->Option kj
def tFG (K:jk)(g:Gf):TG:=λv U H Q=>∃G0 H0 G O d O',Good K G0 H0 G H U O/\Rep K G d v/\g d O=some O'/\∀U' H' G',Step G H G' H'->Good K G0 H0 G' H' U' O'->Q U' H'
def PFG (X:Cx)(tg:r8)(g:Gf):Prop:=PG X tg<|tFG X.K g
abbrev Gfs:=kd->kj->Option kj
def zD4 (K:jk)(g:Gfs):TGs:=λvs U H Q=>∃G0 H0 G O ds O',Good K G0 H0 G H U O/\Reps K G ds vs/\g ds O=some O'/\∀U' H' G',Step G H G' H'->Good K G0 H0 G' H' U' O'->Q U' H'
def zHW (X:Cx)(tgs:qt)(g:Gfs):Prop:=PGs X tgs<|zD4 X.K g
def gN (i:Nat):Gf:=λd O=>some<|O.set i<|.fz d
def xM (i:Nat)(hN:X.N.Nodup)(hi:!25:=by rfl)(hx:Loc X.env.scope x:=by exact o0)(hf:!37:=by exact o0):PFG X (.Name x pos)<|gN i:=by refineλZ s U H v u Q I r q=>(zHD (pos:=pos) hN hi hx hf) Z s U H v u Q I r ?_;obtain⟨G0,H0,G,O,d,O',j0,rd,hf,k⟩:=q;cases hf;exact k _ H G (.refl j0.sub)<|j0.setF i rd
def xC:Gfs:=λds O=>match ds with | []=>some O | _=>none
def zB (g:Gf)(r:Gfs):Gfs:=λds O=>match ds with | d::dr=>(g d O).bind λO'=>r dr O' | _=>none
def xG:zHW X [] xC:=by
 refineλZ s U H vs us Q I r q=>zIN Z s U H vs us Q I r ?_;obtain⟨G0,H0,G,O,ds,O',j0,rd,hf,k⟩:=q;unfold xC at hf;split at hf
 .cases hf;exact⟨rd,k _ H G (.refl j0.sub) j0⟩
 .simp_all
def zA {g:Gf}{r:Gfs}(h1:PFG X e g)(h2:zHW X es r)(hs:(assignEach (e::es) X.env).map (·.2)=assign e X.env::(assignEach es X.env).map (·.2):=by rfl):zHW X (e::es)<|zB g r:=by
 refineλZ s U H vs us Q I rv q=>zKt h1 h2 hs Z s U H vs us Q I rv ?_;obtain⟨G0,H0,G,O,ds,O',j0,rd,hf,k⟩:=q;unfold zB at hf;split at hf
 .rename_i d dr;obtain⟨ρ1,e1,e2⟩:=k8 hf;obtain⟨v,vr,rfl,r1,r2⟩:=zP.mp rd;exact⟨v,vr,J,G0,H0,G,O,d,ρ1,j0,r1,e1,λU' H' G' s' g'=>⟨G0,H0,G',ρ1,dr,O',g',r2.mono s'.gg,e2,λσ2 H2 G2 s2 g2=>k σ2 H2 G2 (s'.trans s2) g2⟩⟩
 .simp_all
def gT (r:Gfs):Gf:=λd O=>match d with | .tup ds=>r ds O | _=>none
def iY {r:Gfs}{k:Nat}(n:Nat)(hc:!23)(h:zHW X es r)(hr:∀ds O O',r ds O=some O'->ds.length=n)(hn:(assignEach es X.env).length=n:=by rfl)(hst:(assignEach es X.env).findIdx? (·.1)=none:=by rfl):PFG X (.Tuple es k pos)<|gT r:=by
 refineλZ s U H v u Q I rv q=>(zGp (pos:=pos) (k:=k) hc h hn hst) Z s U H v u Q I rv ?_;obtain⟨G0,H0,G,O,d,O',j0,rd,hf,k⟩:=q;unfold gT at hf;split at hf
 .obtain⟨p,vs,rfl,h1,h2⟩:=xU.mp rd;exact⟨p,vs,J,j0.sub.tup h1,by rw[<-h2.length];exact hr _ _ _ hf,G0,H0,G,O,_,O',j0,h2,hf,k⟩
 .simp_all
def yN {g:Gf}{r:Gfs}(h:∀ds O O',r ds O=some O'->ds.length=n):∀ds O O',zB g r ds O=some O'->ds.length=n+1:=by
 intro ds O O' q;unfold zB at q;split at q
 .obtain⟨ρ1,e1,e2⟩:=k8 q;rw[Qk,h _ _ _ e2]
 .cases q
def wB:∀ds O O',xC ds O=some O'->ds.length=0:=by
 intro ds O O' q;unfold xC at q;split at q
 .rfl
 .cases q
def NoOw (O:kj):Prop:=∀(j:Nat) (b:B),O[j]?=some b->zUr b=false
def NoOw.own (n:NoOw O){b:B}(h:O[j]?=some b)(o:zUr b=true):False:=by rw[n j b h] at o;cases o
def NoOw.apart (n:NoOw O):zLH H U O:=λ_ _ _ _ _ _ _ _ h2 _ _ f1 _=>(n.own h2<|zZM f1).elim
theorem zSS (m:Nat)(ds:kd):NoOw<|ds.map B.fz++List.replicate m B.no:=λj b h=>by
 by_cases hi:j < ds.length
 .rw[Tc (!8),Eu] at h;obtain⟨k,_,h⟩:=k9 h;cases h;rfl
 .rw[Rk (!8),Yu] at h;split at h<;>cases h<;>rfl
theorem zRy (h:NoOw O)(i:Nat)(d:D):NoOw<|O.set i<|.fz d:=λj b e=>by
 cases z:zUr b with
 | false=>rfl
 | true=>exact(h.own (zJl J e z).2 z).elim
def zMQ (g:Gf):Prop:=∀d O O',g d O=some O'->NoOw O->NoOw O'
def zPc (g:Gfs):Prop:=∀d O O',g d O=some O'->NoOw O->NoOw O'
theorem cB (i:Nat):zMQ<|gN i:=λd O O' h n=>by cases h;exact zRy n i d
theorem cP:zPc xC:=λd O O' h n=>by
 unfold xC at h;split at h
 .simp_all
 .cases h
theorem uO {g:Gf}{r:Gfs}(h1:zMQ g)(h2:zPc r):zPc<|zB g r:=λd O O' h n=>by
 unfold zB at h;split at h
 .obtain⟨ρ1,e1,e2⟩:=k8 h;exact h2 _ _ _ e2<|h1 _ _ _ e1 n
 .cases h
theorem zN1 {r:Gfs}(h:zPc r):zMQ<|gT r:=λd O O' q n=>by
 unfold gT at q;split at q
 .exact h _ _ _ q n
 .cases q
def zYQ (f:Ef)(g:Gf):Sf:=λO=>(f O).bind λd=>(g d O).map .nx
def zJT {t:TE}{f:Ef}{g:Gf}(imp:∀U H Q,tF K f U H Q->t U H Q){D:Ends}(h:tFS K (zYQ f g) D U H):zN5 t (tFG K g) D U H:=by obtain⟨G0,H0,G,O,o,j0,hf,k⟩:=h;obtain⟨d,h1,hf⟩:=k8 hf;obtain⟨O',h2,rfl⟩:=k9 hf;exact imp _ _ _ ⟨G0,H0,G,O,d,j0,h1,λv H' G' s r=>⟨G0,H0,G',O,d,O',j0.step s,r,h2,λσ2 H2 G2 s2 g2=>k σ2 H2 G2 (s.gg.trans s2.gg) g2⟩⟩
def lZ {g:Gf}(he:PF X e fa)(hg:PFG X tg g)(hs:swapsWithSole [tg] e pos.line X.env=pure false:=by rfl)(hw:swappedStores [tg] e X.env=pure none:=by rfl)(h1:(assignEach [tg] X.env).map (·.2)=[assign tg X.env]:=by rfl):PFS X (.Assign [tg] e pos)<|zYQ fa g:=PS.to (zFv he hg hs hw h1) λD U H h=>zJT (λ_ _ _ q=>q) h
def yJ (i:Nat)(f:Ef):Sf:=λO=>(f O).map λd=>.nx<|O.set i<|.fz d
def zLG {t:TE}{f:Ef}(imp:∀U H Q,tF K f U H Q->t U H Q){D:Ends}(h:tFS K (yJ i f) D U H):zN5 t (zRX i) D U H:=by obtain⟨G0,H0,G,O,o,j0,hf,k⟩:=h;obtain⟨d,h1,rfl⟩:=k9 hf;exact imp _ _ _ ⟨G0,H0,G,O,d,j0,h1,λv H' G' s r=>k _ H' G' s.gg<|(j0.step s).setF i r⟩
def zK (i:Nat)(hN:X.N.Nodup)(he:PF X e fa)(hi:!25:=by rfl)(hx:Loc X.env.scope x:=by exact o0)(hs:swapsWith e (some<|.Name x pos') pos.line X.env=pure false:=by rfl)(hf:!37:=by exact o0):PFS X (.Assign [.Name x pos'] e pos) (yJ i fa) :=
 PS.to (aG hN hi hx he hs hf) λD U H h=>zLG (λ_ _ _ q=>q) h
def mF (i:Nat)(f:Lf):Sf:=λO=>(f O).map λds=>.nx<|O.set i<|.ow ds
def zR0 {t:TE}{f:Lf}(imp:∀U H Q,tFr K f U H Q->t U H Q){D:Ends}(h:tFS K (mF i f) D U H):zN5 t (zRX i) D U H:=by obtain⟨G0,H0,G,O,o,j0,hf,k⟩:=h;obtain⟨ds,h1,rfl⟩:=k9 hf;refine imp _ _ _ ⟨G0,H0,G,O,ds,j0,h1,λp vs H' G' s hn hp gp rs=>k _ H' G' s.gg<|(j0.step s).setO i hp gp (j0.st.hh.free hn) rs λj es e z=>?_⟩;obtain⟨q,us,e1,e2,_⟩:=j0.addr e;simp_all
def mS (i:Nat)(hN:X.N.Nodup)(he:PFr X e ga)(hi:!25:=by rfl)(hx:Loc X.env.scope x:=by exact o0)(hs:swapsWith e (some<|.Name x pos') pos.line X.env=pure false:=by rfl)(hf:!37:=by exact o0):PFS X (.Assign [.Name x pos'] e pos) (mF i ga) :=
 PS.to (aG hN hi hx he hs hf) λD U H h=>zR0 (λ_ _ _ q=>q) h
def zIV (i:Nat)(O:kj):kj:=match O[i]? with | some (.ow ds)=>O.set i (.fz<|.lst ds) | _=>O
def zY9 (i:Nat)(f:Sf):Sf:=λO=>f<|zIV i O
def Good.frz (g:!21)(i:Nat):∃G',Same G G'/\Good K G0 H0 G' H U (zIV i O):=by
 unfold zIV;split
 .rename_i ds e;obtain⟨p,vs,h1,_,g'⟩:=g.lendL e;exact⟨_,Same.new h1,g'⟩
 .exact⟨G,Same.refl _,g⟩
def iE (i:Nat)(h:PFS X st f):PFS X st<|zY9 i f:=by
 refine PS.to h ?_
 sleep 2
 obtain⟨G',s,g'⟩:=j0.frz i;exact⟨G0,H0,G',_,o,g',hf,k.mono s⟩
end
def bH (K:jk)(ya:It)(G:Hp)(ds:kd):Prop:=∀(i:Nat) (G2 H2:Hp),Same G G2->Same G2 H2 ->
 (∀d,ds[i]?=some d->ya.go i H2/\∀x H3,ya.yld i H2 x H3->∃G3,Step G2 H2 G3 H3/\Rep K G3 d x)/\(ds.length<=i->ya.stop i H2)
def tFI (K:jk)(f:Lf):TI:=λU H R=>∃G0 H0 G O ds,Good K G0 H0 G H U O/\f O=some ds/\∀ya H' G',Step G H G' H'->bH K ya G' ds->R ya H'
def PFI (X:Cx)(tg iter:r8)(f:Lf):Prop:=PI X tg iter<|tFI X.K f
def PI.to {t:TI}{f:Lf}(h:PI X tg e t)(imp:∀U H R,tFI X.K f U H R->t U H R):PFI X tg e f:=λZ s U H R I q=>h Z s U H R I<|imp U H R q
def zZP (h:SqL K G a vs)(r:Reps K G ds vs):bH K (Itl K a) G ds:=by intro i G2 H2 s1 s2;have q:=(!12).seq h;refine⟨λd hd=>?_,λhi=>⟨vs,q,by rw[<-r.length];exact hi⟩⟩;obtain⟨v,e,rv⟩:=r.get hd;refine⟨⟨vs,v,q,e⟩,λx H3 y=>?_⟩;obtain⟨rfl,y⟩:=y;have:=y vs q;rw[e] at this;cases this;exact⟨G2,.refl s2,rv.mono s1⟩
def zQt (h:SqT K G a vs)(r:Reps K G ds vs):bH K (Itt K a) G ds:=by intro i G2 H2 s1 s2;have q:=(!12).tup h;refine⟨λd hd=>?_,λhi=>⟨vs,q,by rw[<-r.length];exact hi⟩⟩;obtain⟨v,e,rv⟩:=r.get hd;refine⟨⟨vs,v,q,e⟩,λx H3 y=>?_⟩;obtain⟨rfl,y⟩:=y;have:=y vs q;rw[e] at this;cases this;exact⟨G2,.refl s2,rv.mono s1⟩
def tS (lo:Int)(n:Nat):kd:=(List.range n).map λi=>D.int<|lo+(i:Nat)
def zZx {lo:Int}:bH K (Itr lo n) G<|tS lo n:=by
 intro i G2 H2 s1 s2;have hl:(tS lo n).length=n:=by simp[tS]
 refine⟨λd hd=>?_,λhi=>by rw[hl] at hi;exact hi⟩;have hi:i < n:=by rw[<-hl];exact(v5 hd).1
 refine⟨hi,λx H3 y=>?_⟩;obtain⟨rfl,rfl⟩:=y;have e:d = .int (lo+i):=by unfold tS at hd;simp_all
 subst e;exact⟨G2,.refl s2,yW.mpr J⟩
section
variable{a b:r8}{f g:Sf}
def iL (f:Ef):Lf:=λO=>(f O).bind λd=>match d with | .lst ds=>some ds | _=>none
def iT (f:Ef):Lf:=λO=>(f O).bind λd=>match d with | .tup ds=>some ds | _=>none
def zZe (h:PF X e fa):PFI X tg e<|iL fa:=by
 refine PI.to (zNT h) ?_;rintro U H R ⟨G0,H0,G,O,ds,j0,hf,k⟩;obtain⟨d,h1,hf⟩:=k8 hf;cases d with
 | lst es =>cases hf;refine⟨G0,H0,G,O,_,j0,h1,λx H1 G1 s1 r1=>?_⟩;obtain⟨p,vs,rfl,q,rs⟩:=wZ.mp r1;exact⟨p,J,⟨vs,s1.sub.seq q⟩,k _ H1 G1 s1<|zZP q rs⟩
 | _=>cases hf
def zQK (h:PFr X e ga):PFI X tg e ga:=by refine PI.to (zNT h) ?_;rintro U H R ⟨G0,H0,G,O,ds,j0,hf,k⟩;exact⟨G0,H0,G,O,_,j0,hf,λp vs H1 G1 s1 hn hp gp rs=>⟨p,J,⟨vs,.of hp⟩,k _ H1 _ (s1.frz hn hp gp)<|zZP (.of zH)<|rs.mono<|Same.new gp⟩⟩
def zMz (h:PF X e fa):PFI X tg e<|iT fa:=by
 refine PI.to (zFD h) ?_;rintro U H R ⟨G0,H0,G,O,ds,j0,hf,k⟩;obtain⟨d,h1,hf⟩:=k8 hf;cases d with
 | tup es =>cases hf;refine⟨G0,H0,G,O,_,j0,h1,λx H1 G1 s1 r1=>?_⟩;obtain⟨p,vs,rfl,q,rs⟩:=xU.mp r1;exact⟨p,J,⟨vs,s1.sub.tup q⟩,k _ H1 G1 s1<|zQt q rs⟩
 | _=>cases hf
def iR (f:Ef):Lf:=λO=>(f O).bind λd=>match d with | .int n=>if decide (-1000000<=n)&&decide (n<=1000000) then some (tS 0 n.toNat) else none | _=>none
def aK (hg:Gl X "range")(hm:X.mg "range"=none)(h:!10)(hs:!34:=by rfl):PFI X tg (.Call (.Name "range" p) [a] [] pos)<|iR fa:=by
 refine PI.to (zM3 hg hm (yS h yF (!6)) hs) ?_;rintro U H R ⟨G0,H0,G,O,ds,j0,hf,k⟩;obtain⟨d,h1,hf⟩:=k8 hf;cases d with
 | int n =>
  dsimp only at hf;split at hf
  .rename_i hc;cases hf;simp only[Qm,Wo] at hc;refine⟨G0,H0,G,O,_,j0,h1,λx H1 G1 s1 r1=>⟨n,by rw[yW.mp r1],jc,jc,k _ H1 G1 s1 zZx⟩⟩
  .simp_all
 | _=>cases hf
def iR2 (f g:Ef):Lf:=λO=>(f O).bind λx=>(g O).bind λy=>match x,y with | .int m,.int n=>if decide (-1000000<=m)&&decide (m<=1000000)&&decide (-1000000<=n)&&decide (n<=1000000) then some (tS m (n - m).toNat) else none | _,_=>none
def zEJ (hg:Gl X "range")(hm:X.mg "range"=none)(h:!10)(h':PF X b fb)(hs:starEach [a,b] X.env=[(false,eval a X.env),(false,eval b X.env)]:=by rfl)(hs2:starEach [b] X.env=[(false,eval b X.env)]:=by rfl):PFI X tg (.Call (.Name "range" p) [a,b] [] pos)<|iR2 fa fb:=by
 refine PI.to (zNI hg hm (yS h (yS h' yF (!6)) (!8)) hs hs2) ?_;rintro U H R ⟨G0,H0,G,O,ds,j0,hf,k⟩;obtain⟨d,h1,hf⟩:=k8 hf;obtain⟨d',h2,hf⟩:=k8 hf;cases d with
 | int m =>
  cases d' with
  | int n =>
   dsimp only at hf;split at hf
   .rename_i hc;cases hf;simp only[Qm,Wo] at hc;refine⟨G0,H0,G,O,_,j0,h1,λx H1 G1 s1 r1=>⟨G0,H0,G1,O,_,j0.step s1,h2,λy H2 G2 s2 r2=>⟨m,n,by rw[yW.mp r1,yW.mp r2],⟨jc,jc,jc,jc⟩,k _ H2 G2 (!12) zZx⟩⟩⟩
   .cases hf
  | _=>cases hf
 | _=>cases hf
def uC (g:Gf)(body:Sf):kd->Sf
 | [],O=>some<|.nx O
 | d::r,O=>(g d O).bind λρ1=>(body ρ1).bind λo=>match o with
  | .nx ρ2=>uC g body r ρ2
  | .ct ρ2=>uC g body r ρ2
  | .bk ρ2=>some<|.nx ρ2
  | o=>some o
def vQ (src:Lf)(g:Gf)(body:Sf):Sf:=λO=>(src O).bind λds=>uC g body ds O
def wY {gt:Gf}{fb:Sf}(hp:PassesOwn (!5) X.A X.env X.xe)(hc:!23)(hi:PFI X tg iter gi)(hg:PFG X tg gt)(hb:PFSs X body fb)(hs:∀x,foldedSetIterable iter X.env x=pure x:=by intro _;rfl):PFS X (.For tg iter body [] pos)<|vQ gi gt fb:=by
 refine PS.to (zFP hp hc hi hg hb hs) ?_;rintro D U H ⟨G0,H0,G,O,o,j0,hf,k⟩;obtain⟨ds,h1,hf⟩:=k8 hf;refine⟨G0,H0,G,O,ds,j0,h1,λya H1 G1 s1 y=>⟨λi m U H=>m=ds.length - i/\i<=ds.length/\∃G2 ρ2,Same G1 G2/\Good X.K G0 H0 G2 H U ρ2/\uC gt fb (ds.drop i) ρ2=some o,⟨ds.length,je,Er _,G1,O,Same.refl _,j0.step s1,by simpa using hf⟩,?_⟩⟩;rintro i m σ2 H2 ⟨rfl,hi',G2,ρ2,sg,good2,hf2⟩;obtain⟨y1,y2⟩:=y i G2 H2 sg good2.sub
 by_cases hlt:i < ds.length
 .obtain⟨go,yl⟩:=y1 ds[i] (Ql hlt);rw[Pz hlt] at hf2;obtain⟨ρ3,e1,hf2⟩:=k8 hf2;obtain⟨o1,e2,hf2⟩:=k8 hf2;refine .inr ⟨go,λU' H'=>∃G' O',Same G1 G'/\Good X.K G0 H0 G' H' U' O'/\uC gt fb _ O'=some o,λU' H' ⟨G',O',a1,a2,a3⟩=>⟨ds.length - _,jc,J,hlt,G',O',a1,a2,a3⟩,λx H3 yx=>?_⟩;obtain⟨G3,s3,r3⟩:=yl x H3 yx;refine⟨G0,H0,G3,ρ2,_,ρ3,good2.step s3,r3,e1,λσ4 H4 G4 s4 good4=>?_⟩;have sg4:=(sg.trans s3.gg).trans s4.gg;refine⟨G0,H0,G4,ρ3,o1,good4,e2,?_⟩;cases o1 with
  | nx ρ5=>exactλσ5 H5 G5 s5 good5=>⟨G5,ρ5,sg4.trans s5,good5,hf2⟩
  | ct ρ5=>exactλσ5 H5 G5 s5 good5=>⟨G5,ρ5,sg4.trans s5,good5,hf2⟩
  | bk ρ5=>cases hf2;exactλσ5 H5 G5 s5 good5=>k σ5 H5 G5 ((s1.gg.trans sg4).trans s5) good5
  | rt d=>cases hf2;exact k
  | rl d=>cases hf2;exact k
 .have e:i=ds.length:=by lia
  subst e;rw[List.drop_length] at hf2;cases hf2;exact .inl ⟨y2<|Qg _,k σ2 H2 G2 (s1.gg.trans sg) good2⟩
def uB (g:Gf)(t:Tf)(elt:Ef):kd->kj->kd->ka
 | [],_,j7=>some j7
 | d::r,O,j7=>(g d O).bind λρ1=>(t ρ1).bind λc=>if c=true then(elt ρ1).bind λy=>uB g t elt r ρ1 (j7++[y]) else uB g t elt r ρ1 j7
def upB (m:Nat)(js:kz)(O:kj):kj:=List.replicate m .no++js.map λj=>match O[j]? with | some (.fz d)=>.fz d | _=>.no
def yH (src:Lf)(m:Nat)(js:kz)(g:Gf)(t:Tf)(elt:Ef):Lf:=λO=>((src O).bind okL).bind λds=>uB g t elt ds (upB m js O) []
theorem zRg (m:Nat)(js:kz)(O:kj):NoOw<|upB m js O:=λi b h1=>by
 unfold upB at h1
 by_cases hi:i < m
 .rw[Tc (!8),Yu] at h1;split at h1<;>cases h1<;>rfl
 .rw[Rk (!8),Eu] at h1;obtain⟨k,_,h1⟩:=k9 h1;split at h1<;>cases h1<;>rfl
def Good.up (g:!21)(m:Nat)(js:kz):Good K G H G H (upC m js U)<|upB m js O:=by
 refine⟨.refl g.sub,?_,(zRg m js O).apart⟩
 .unfold upC upB;have rep:∀m:Nat,Paired (RB K H G H) (List.replicate m<|none)<|List.replicate m B.no:=λm=>by
   induction m with
   | zero=>exact .nil
   | succ n ih=>rw[Tb];exact .cons .no ih
  have app:∀ {l1 l2:List _} {r1 r2:kj},Paired _ l1 r1->Paired (RB K H G H) l2 r2->Paired _ (l1++l2) (r1++r2):=λh1 h2=>by
   induction h1 with
   | nil=>exact h2
   | cons q t ih=>exact .cons q ih
  refine app (rep m) ?_;induction js with
  | nil=>exact .nil
  | cons j r ih =>
   rw[Qx,Qx];refine .cons ?_ ih;cases e:O[j]? with
   | none=>exact .no
   | some b =>obtain⟨o,e1,r1⟩:=Paired.get g.vals e;cases r1<;>first | exact .no | (rw[e1];exact .fz ‹_›)
def Good.wrX {p:qu}(g:!21)(n:NoOw O)(gp:G p=none)(h0:H0 p=none):Good K G0 H0 G (upd H p o) U O :=
 g.same (Same.refl _) ⟨λb u e=>by rw[zD<|yR e h0];exact g.st.hh b u e,g.st.gg,λb u e=>by rw[zD<|yR e gp];exact g.st.sub b u e,g.st.new⟩ (λ_ _ _ _ _ _ h2 f _=>(n.own h2<|zZM f).elim) λ_ _ _ _ _ h2 f=>(n.own h2<|zZM f).elim
def zQG {m:Nat}{gt:Gf}{t:Tf}(hgo:zMQ gt){Q:VK}(h:tFr K (yH gi m js gt t el) U H Q):zKS (tFI K gi) m js (tFG K gt) (tFT K t) (tF K el) U H Q:=by
 obtain⟨G0,H0,G,O,out,j0,hf,k⟩:=h;obtain⟨ds,h1,hf⟩:=k8 hf;obtain⟨ds',h1,h1'⟩:=k8 h1;obtain⟨rfl,j5⟩:=zZv h1';refine⟨G0,H0,G,O,_,j0,h1,λya H1 G1 s1 y D hD=>?_⟩;have hGD:G1 D=none:=s1.sub.free hD;refine⟨λi n σ2 H2=>n=ds.length - i/\i<=ds.length/\∃G2 ρ2 j7 us,Same G1 G2/\G2 D=none/\H2 D=some (.lst us)/\Reps K G2 j7 us/\j7.length<=i/\NoOw ρ2/\Good K G1 H1 G2 H2 σ2 ρ2/\uB gt t el (ds.drop i) ρ2 j7=some out, ⟨ds.length,je,Er _,G1,upB m js O,[],[],Same.refl _,hGD,zH,yX.mpr rfl,Qg _,zRg _ _ _,((j0.step s1).up m js).step<|Step.own s1.sub hD,by simpa using hf⟩,?_⟩;rintro i n σ2 H2 ⟨rfl,hi,G2,ρ2,j7,us,sg,gD,hD2,rs,hal,now,good2,hf2⟩;obtain⟨y1,y2⟩:=y i G2 H2 sg good2.sub
 by_cases hlt:i < ds.length
 .obtain⟨go,yl⟩:=y1 ds[i] (Ql hlt);rw[Pz hlt] at hf2;obtain⟨ρ3,e1,hf2⟩:=k8 hf2;obtain⟨c,e2,hf2⟩:=k8 hf2;have now3:=hgo _ _ _ e1 now;refine .inr ⟨go,λx H3 yx=>?_⟩;obtain⟨G3,s3,r3⟩:=yl x H3 yx;refine⟨G1,H1,G3,ρ2,_,ρ3,good2.step s3,r3,e1,λσ4 H4 G4 s4 good4=>⟨G1,H1,G4,ρ3,c,good4,e2,λH5 G5 s5=>?_⟩⟩;have s35:=(s3.trans s4).trans s5;split at hf2
  .rename_i hc;show if c=true then _ else _;rw[Qh hc];obtain⟨yd,e3,hf2⟩:=k8 hf2;refine⟨G1,H1,G5,ρ3,yd,good4.step s5,e3,λv H6 G6 s6 r6=>?_⟩;have s36:=s35.trans s6;have hD6:H6 D=some (.lst us):=s36.hh _ _ hD2;have gD6:G6 D=none:=(s36.new D _ hD2 J).trans gD;refine⟨us,_ - (i+1),hD6,?_,jc,J,hlt,G6,ρ3,j7++[yd],us++[v],sg.trans s36.gg,gD6,zH,(rs.mono s36.gg).snoc r6,by rw[Qo,List.length_singleton];lia,now3,((good4.step s5).step s6).wrX now3 gD6 hD,hf2⟩;rw[<-rs.length];exact wN<|Ww hal<|Ww hi j5
  .rename_i hc;show if c=true then _ else _;rw[Qv hc];exact⟨ds.length - (i+1),jc,J,hlt,G5,ρ3,j7,us,sg.trans s35.gg,(s35.new D _ hD2 J).trans gD,s35.hh _ _ hD2,rs.mono s35.gg,jc,now3,good4.step s5,hf2⟩
 .have e:i=ds.length:=by lia
  subst e;rw[List.drop_length] at hf2;cases hf2;exact .inl ⟨y2<|Qg _,k D us H2 G2 (s1.trans good2.st) (s1.hh.free hD) hD2 gD rs⟩
def tOK:Tf:=λ_=>some true
def zRh (X:Cx)(ifs:qt)(t:Tf):Prop:=zQa X ifs<|tFT X.K t
theorem xT:zRh X [] tOK:=λZ s U H Q I h=>zMk Z s U H Q I (by obtain⟨G0,H0,G,O,b,j0,hf,k⟩:=h;cases hf;exact k H G<|.refl j0.sub)
def nV {t:Tf}(h:PFT X c t):zRh X [c] t:=zJE h
def cR (sc:Scope)(N tgs j4:kh)(js:kz){gt:Gf}{t:Tf}(hgo:zMQ gt)(hp:PFI X tg iter gi)(hc:!23)(hsc:X.env.scope=sc)(hNN:X.N=N)(hok:kN sc scope N tgs j4 js=true)(hg:∀C s₀ H₀ fp,PFG (!33) tg gt) (hi:∀C s₀ H₀ fp,zRh (!33) ifs t) (he:∀C s₀ H₀ fp,PF (!33) elt el)(hs:∀x,foldedSetIterable iter X.env x=pure x:=by intro _;rfl):PFr X (.ListComp elt [⟨tg,iter,ifs,0⟩] scope pos) (yH gi tgs.length js gt t el) :=
 PE.toR (zJe (g:=tFG X.K gt) (tc:=tFT X.K t) (te:=tF X.K el) sc tgs _ js hp hc hsc (!8) hg hi he hs) λU H Q h=>zQG hgo h
def iW (sc:Scope)(N tgs j4:kh)(js:kz){gt:Gf}{t:Tf}(hgo:zMQ gt)(i:Nat){spos:Pos}(hN:X.N.Nodup)(hx:!25)(hl:X.env.scope.names.lookup x=some .local)(hp:PFI X tg iter gi)(hc:!23)(hsc:X.env.scope=sc)(hNN:X.N=N)(hok:kN sc scope N tgs j4 js=true)(hg:∀C s₀ H₀ fp,PFG (!33) tg gt) (hi:∀C s₀ H₀ fp,zRh (!33) ifs t) (he:∀C s₀ H₀ fp,PF (!33) elt el)(hsw:swapsWith (.ListComp elt [⟨tg,iter,ifs,0⟩] scope pos) (some<|.Name x pos') spos.line X.env=pure true:=by with_unfolding_all rfl) (hs:∀x,foldedSetIterable iter X.env x=pure x:=by intro _;rfl):PFS X (.Assign [.Name x pos'] (.ListComp elt [⟨tg,iter,ifs,0⟩] scope pos) spos) (mF i<|yH gi tgs.length js gt t el) :=
 PS.to (zP2 (g:=tFG X.K gt) (tc:=tFT X.K t) (te:=tF X.K el) sc tgs _ js hN hx hl hp hc hsc (!8) hg hi he hsw hs) λD U H h=>zR0 (λ_ _ _ q=>zQG hgo q) h
end
section
variable{a:r8}{f:Sf}
def zYT (i:Nat)(f:Ef):Sf:=λO=>(f O).bind λd=>match O[i]? with | some (.ow ds)=>if ds.length < lim then some (.nx<|O.set i<|.ow<|ds++[d]) else none | _=>none
def eY (i:Nat)(ht:PE X c<|tBM X.K "list" zO4 (zMM i)<|fY (tF X.K fa) zW2)(hs:swapsWith c none pos.line X.env=pure false:=by rfl):PFS X (.Expr c pos)<|zYT i fa:=by
 refine PS.to (qH ht hs) ?_
 sleep 2
 obtain⟨d,h1,hf⟩:=k8 hf;split at hf
 .rename_i ds hi;split at hf
  .rename_i hl;cases hf;obtain⟨p,vs,e1,e2,e3⟩:=j0.addr hi;refine⟨.ref p,e1,.inl ⟨J,vs,.of e2⟩,G0,H0,G,O,d,j0,h1,λv H1 G1 s1 r1=>?_⟩;have good1:=j0.step s1;obtain⟨p',vs',f1,f2,f3,f4,f5⟩:=good1.addr hi;rw[e1] at f1;cases f1;exact⟨p,vs',v,J,J,f2,by rw[<-f5.length];exact wN<|Wa hl,k U _ G1 s1.gg<|good1.wr hi e1<|f5.snoc r1⟩
  .simp_all
 .simp_all
def zFu (j i:Nat)(f:Ef):Sf:=λO=>(f O).bind λd=>match d,O[i]? with
 | .int n,some (.ow ds)=>if ds.length<=lim then(ixN ds.length n).bind λq=>(ds[q]?).map λx=>.nx ((O.set i<|.ow<|ds.eraseIdx q).set j<|.fz x) else none
 | _,_=>none
def zIs (j i:Nat){p4:Pos}(hNd:X.N.Nodup)(ht:PE X c<|tBM X.K "list" zKc (zMM i)<|fY (tF X.K fa) zW2)(hj:X.N[j]?=some y:=by rfl)(hjx:Loc X.env.scope y:=by exact o0)(hs:swapsWith c (some<|.Name y p4) pos.line X.env=pure false:=by rfl) (hfn:X.fn y=true\/X.env.scope.names.lookup y=some .local:=by exact o0):PFS X (.Assign [.Name y p4] c pos)<|zFu j i fa:=by
 refine PS.to (aG hNd hj hjx ht hs hfn) ?_;rintro D U H ⟨G0,H0,G,O,o,j0,hf,k⟩;obtain⟨d,h1,hf⟩:=k8 hf;split at hf
 .rename_i n ds hi;split at hf
  .rename_i hl;obtain⟨q,hq,hf⟩:=k8 hf;obtain⟨x',hx,rfl⟩:=k9 hf;obtain⟨p,vs,e1,e2,e3⟩:=j0.addr hi;refine⟨.ref p,e1,.inl ⟨J,vs,.of e2⟩,G0,H0,G,O,_,j0,h1,λv H1 G1 s1 r1=>?_⟩;have good1:=j0.step s1;obtain⟨p',vs',f1,f2,f3,f4,f5⟩:=good1.addr hi;rw[e1] at f1;cases f1;obtain⟨w,hw,rw'⟩:=f5.get hx;have j5:=f5.length;rw[j5] at hq;obtain⟨q1,q2,q3,q4⟩:=zOE hq;have hb:vs'.length < 2^40:=by rw[<-j5];exact Ui hl jb
   exact⟨p,vs',n,q,w,J,by rw[yW.mp r1],f2,jc,jc,q1,hw,(k _ _ G1 s1.gg<|(good1.wr hi e1<|f5.erase q).setF j rw')⟩
  .cases hf
 .simp_all
def zEk:D->qi
 | .tup ds=>some<|.int ds.length
 | .lst ds=>some<|.int ds.length
 | .str z=>if z.length<=lim then some (.int z.length) else none
 | _=>none
def uV (f:Ef):Ef:=λO=>(f O).bind zEk
def uK (hg:Gl X "len")(hm:X.mg "len"=none)(h:!10)(hs:!34:=by rfl):PF X (.Call (.Name "len" p) [a] [] pos)<|uV fa:=by
 refine PE.to (vB (zZI.or zSW) hg hm PySem.boot_len (yS h yF (by rw[hs];rfl)) jb jb (by rw[hs];rfl) jg) ?_
 sleep 3
 sleep 4
 unfold zEk at hf;split at hf
 .cases hf;obtain⟨p,vs,rfl,q,rs⟩:=xU.mp r1;exact .inl ⟨p,vs,J,.inr<|s1.sub.tup q,k _ _ G1 s1<|yW.mpr<|by rw[rs.length]⟩
 .cases hf;obtain⟨p,vs,rfl,q,rs⟩:=wZ.mp r1;exact .inl ⟨p,vs,J,.inl<|s1.sub.seq q,k _ _ G1 s1<|yW.mpr<|by rw[rs.length]⟩
 .split at hf
  .rename_i hz;cases hf;exact .inr ⟨_,by rw[xZ.mp r1],Wa<|wN hz,k _ _ G1 s1<|yW.mpr rfl⟩
  .simp_all
 .simp_all
def zSc (i:Nat):Ef:=λO=>match O[i]? with | some (.ow ds)=>some (.int ds.length) | _=>none
def zO2 (i:Nat)(hg:Gl X "len")(hm:X.mg "len"=none)(hN:!25:=by rfl)(hv:!29:=by exact visQ rfl)(hd:!17:=by decide)(hcd:!28:=by decide):PF X (.Call (.Name "len" p) [.Name x p1] [] pos)<|zSc i:=by
 refine PE.to (vB zZI hg hm PySem.boot_len<|yS (wI hN hv hd hcd) yF) ?_
 sleep 1
 unfold zSc at hf;split at hf
 .rename_i ds hi;cases hf;obtain⟨q,vs,e1,e2,e3,e4,e5⟩:=j0.addr hi;exact⟨.ref q,e1,q,vs,J,.inl<|.of e2,k _ _ G (.refl j0.sub)<|yW.mpr<|by rw[e5.length]⟩
 .simp_all
def zEi:D->qi | .lst ds=>some (.tup ds) | .tup ds=>some (.tup ds) | _=>none
def xA (f:Ef):Ef:=λO=>(f O).bind zEi
def wG (hg:Gl X "tuple")(hm:X.mg "tuple"=none)(h:!10)(hs:!34:=by rfl):PF X (.Call (.Name "tuple" p) [a] [] pos)<|xA fa:=by
 refine PE.to (zYU zVy hg hm jg (yS h yF (!6)) jb J (!6) jg) ?_
 sleep 3
 sleep 4
 unfold zEi at hf;split at hf
 .cases hf;obtain⟨p,vs,rfl,q,rs⟩:=wZ.mp r1;refine⟨p,vs,J,.inl ⟨s1.sub.seq q,λl hl=>?_⟩⟩;have s2:=Step.laid (o:=.tup vs) s1.sub hl;exact k _ _ _ (!12)<|xU.mpr ⟨l,vs,rfl,.of zH,rs.mono s2.gg⟩
 .cases hf;obtain⟨p,vs,rfl,q,rs⟩:=xU.mp r1;exact⟨p,vs,J,.inr ⟨s1.sub.tup q,k _ _ G1 s1 r1⟩⟩
 .simp_all
def zLA:D->ka | .lst ds=>some ds | .tup ds=>some ds | _=>none
def zXL (f:Ef):Lf:=λO=>(f O).bind zLA
def zU1 (hg:Gl X "list")(hm:X.mg "list"=none)(h:!10)(hs:!34:=by rfl):PFr X (.Call (.Name "list" p) [a] [] pos)<|zXL fa:=by
 refine PE.toR (zYU zTI hg hm jg (yS h yF (!6)) jb J (!6) jg) ?_
 sleep 3
 sleep 4
 unfold zLA at hf;split at hf
 .cases hf;obtain⟨p,vs,rfl,q,rs⟩:=wZ.mp r1;exact⟨p,vs,J,.inl<|s1.sub.seq q,λl hl=>k l vs _ G1 (s1.trans<|Step.own s1.sub hl) (s1.hh.free hl) zH (s1.sub.free hl) rs⟩
 .cases hf;obtain⟨p,vs,rfl,q,rs⟩:=xU.mp r1;exact⟨p,vs,J,.inr<|s1.sub.tup q,λl hl=>k l vs _ G1 (s1.trans<|Step.own s1.sub hl) (s1.hh.free hl) zH (s1.sub.free hl) rs⟩
 .simp_all
end
def spF (K:jk)(n:Nat)(f:jz):Sp:=λvs H Q _=>∃G ds d,Same G H/\Reps K G ds vs/\ds.length=n/\f ds=some d/\∀v H' G',Step G H G' H'->Rep K G' d v->Q v H'
def spL (K:jk)(n:Nat)(f:kd->ka):Sp:=λvs H Q _=>∃G ds es,Same G H/\Reps K G ds vs/\ds.length=n/\f ds=some es/\∀a us H' G',Step G H G' H'->H a=none->H' a=some (.lst us)->G' a=none->Reps K G' es us->Q (.ref a) H'
def zZi (N:Nat)(ds:kd):kj:=ds.map .fz++List.replicate (N - ds.length) .no
def vR:Out->qi
 | .nx _=>some .non
 | .rt d=>some d
 | .rl ds=>some<|.lst ds
 | _=>none
def mM:Out->ka
 | .rl ds=>some ds
 | _=>none
def fnF (N:Nat)(body:Sf)(ds:kd):qi:=(body<|zZi N ds).bind vR
def fnL (N:Nat)(body:Sf)(ds:kd):ka:=(body<|zZi N ds).bind mM
def mQ (s:Same G H)(r:Reps K G ds vs):Good K G H G H (oN N vs)<|zZi N.length ds:=by
 refine⟨.refl s,?_,(zSS _ ds).apart⟩
 .unfold oN zZi;rw[r.length];have rep:∀m:Nat,Paired (RB K H G H) (List.replicate m<|none)<|List.replicate m B.no:=λm=>by
   induction m with
   | zero=>exact .nil
   | succ n ih=>rw[Tb];exact .cons .no ih
  have key:∀(ds) (vs) (l) (q),Reps K G ds vs->Paired (RB K H G H) l q->Paired (RB K H G H) (vs.map some++l) (ds.map .fz++q):=by
   intro ds;induction ds with
   | nil=>intro vs l q h p;rw[yX] at h;subst h;exact p
   | cons d r ih =>intro vs l q h p;obtain⟨v,vr,rfl,h1,h2⟩:=zP.mp h;exact .cons (.fz h1)<|ih vr l q h2 p
  exact key ds vs _ _ r<|rep _
section
variable{k:Nat}
def wR {body:Sf}(F:Fun K x qual st f fd)(S:FnScope N ps<|zV st)(hb:∀(j9:qv) (A:qy) (outer:qb) (s:qw) (H:Hp) (E:XK),Room k (!35)->PFSs (qP CX0 P w K mg base N qual (zV st) f j9 A outer s H E).nox (xI st) body):FnOk P w K mg base CX0 (k+1) f fd ps<|spF K ps.length<|fnF N.length body:=by
 refine F.ok S (λvs H Q E h=>?_) λj9 A _ s H vs Q E hr h=>⟨_,hb j9 A _ s H E hr,?_⟩
 .obtain⟨G,ds,d,sub,rs,hl,_⟩:=h;rw[<-rs.length];exact hl
 .obtain⟨G,ds,d,sub,rs,hl,hf,k⟩:=h;obtain⟨o,h1,h2⟩:=k8 hf;refine⟨G,H,G,_,o,mQ sub rs,h1,?_⟩;cases o with
  | nx O=>cases h2;exactλU' H' G' s' g'=>k .non H' G' g'.st<|sQ.mpr rfl
  | rt e=>cases h2;exactλv H' G' s' r=>k v H' G' s' r
  | rl es=>cases h2;exactλp us H' G' s' hn hp gp r=>k _ H' _ (s'.frz hn hp gp)<|wZ.mpr ⟨p,us,rfl,.of zH,r.mono<|Same.new gp⟩
  | bk O=>cases h2
  | ct O=>cases h2
def kO {body:Sf}(F:Fun K x qual st f fd)(S:FnScope N ps<|zV st)(hb:∀(j9:qv) (A:qy) (outer:qb) (s:qw) (H:Hp) (E:XK),Room k (!35)->PFSs (qP CX0 P w K mg base N qual (zV st) f j9 A outer s H E).nox (xI st) body):FnOk P w K mg base CX0 (k+1) f fd ps<|spL K ps.length<|fnL N.length body:=by
 refine F.ok S (λvs H Q E h=>?_) λj9 A _ s H vs Q E hr h=>⟨_,hb j9 A _ s H E hr,?_⟩
 .obtain⟨G,ds,d,sub,rs,hl,_⟩:=h;rw[<-rs.length];exact hl
 .obtain⟨G,ds,d,sub,rs,hl,hf,k⟩:=h;obtain⟨o,h1,h2⟩:=k8 hf;refine⟨G,H,G,_,o,mQ sub rs,h1,?_⟩;cases o with
  | rl es=>cases h2;exactλp us H' G' s' hn hp gp r=>k p us H' G' s' hn hp gp r
  | _=>cases h2
def zRE:FnOk P w K mg base CX k f fd ps (spF K n λ_=>none) :=
 ⟨λvs H Q E h=>(by obtain⟨_,_,_,_,_,_,z,_⟩:=h;exact nomatch z),λA _ s H args us vs Q E _ _ _ _ h=>(by obtain⟨_,_,_,_,_,_,z,_⟩:=h;exact nomatch z)⟩
end
section
variable{a b:r8}{f g:Sf}
def yZ (n:Nat)(f:jz)(g:Lf):Ef:=λO=>(g O).bind λds=>if ds.length=n then f ds else none
def zH7 {k:Nat}{fD:jz}(F:FnOk X.prog X.w X.K X.mg X.base CX0 k fad fd ps<|spF X.K n fD)(hr:Room k X.A)(hm:X.mg x=some (.ref fad))(hk:keepIn X.K (.ref fad)=true)(hb:Binds X.K fd ps [])(hg:Gl X x)(ha:PFA X (e::es) ga) (hdb:!17:=by decide) (he:!24:=by rfl) (hpl:(backTo pos (!26)).any (·.1)=false:=by rfl):PF X (.Call (.Name x p) (e::es) [] pos)<|yZ n fD ga:=by
 refine PE.to (cV F hr hg hm hk hb .nil jO ha hdb he hpl) ?_;rintro U H Q ⟨G0,H0,G,O,d,j0,hf,k⟩;obtain⟨ds,h1,hf⟩:=k8 hf;split at hf
 .rename_i hl;refine⟨G0,H0,G,O,_,j0,h1,λvs H1 G1 s1 r1=>?_⟩;show spF X.K n fD _ H1 Q E0;rw[Wf];exact⟨G1,ds,d,s1.sub,r1,hl,hf,λv H' G' s r=>k v H' G' (s1.trans s) r⟩
 .simp_all
def sU (n:Nat)(f:kd->ka)(g:Lf):Lf:=λO=>(g O).bind λds=>if ds.length=n then f ds else none
def zI4 {k:Nat}(F:FnOk X.prog X.w X.K X.mg X.base CX0 k fad fd ps<|spL X.K n fD)(hr:Room k X.A)(hm:X.mg x=some (.ref fad))(hk:keepIn X.K (.ref fad)=true)(hb:Binds X.K fd ps [])(hg:Gl X x)(ha:PFA X (e::es) ga) (hdb:!17:=by decide) (he:!24:=by rfl) (hpl:(backTo pos (!26)).any (·.1)=false:=by rfl):PFr X (.Call (.Name x p) (e::es) [] pos)<|sU n fD ga:=by
 refine PE.toR (cV F hr hg hm hk hb .nil jO ha hdb he hpl) ?_;rintro U H Q ⟨G0,H0,G,O,d,j0,hf,k⟩;obtain⟨ds,h1,hf⟩:=k8 hf;split at hf
 .rename_i hl;refine⟨G0,H0,G,O,_,j0,h1,λvs H1 G1 s1 r1=>?_⟩;show spL X.K n fD _ H1 Q E0;rw[Wf];exact⟨G1,ds,d,s1.sub,r1,hl,hf,λp us H' G' s hn hp gp r=>k p us H' G' (s1.trans s) (s1.hh.free hn) hp gp r⟩
 .simp_all
def kZ (t:Tf)(body:Sf):Nat->Sf
 | 0,_=>none
 | n+1,O=>(t O).bind λc=>if c=true then(body O).bind λo=>match o with
   | .nx ρ2=>kZ t body n ρ2
   | .ct ρ2=>kZ t body n ρ2
   | .bk ρ2=>some<|.nx ρ2
   | o=>some o
  else some (.nx O)
def zUc (n:Nat){fb:Sf}(hp:PassesOwn (!5) X.A X.env X.xe)(hc:PFT X c tc)(hb:PFSs X body fb):PFS X (.While c body [] pos)<|kZ tc fb n:=by
 refine PS.to (zMr hp hc hb) ?_
 sleep 2
 refine⟨λm U H=>∃G2 ρ2,Same G G2/\Good X.K G0 H0 G2 H U ρ2/\kZ tc fb m ρ2=some o,⟨n,G,O,Same.refl _,j0,hf⟩,?_⟩;rintro m σ2 H2 ⟨G2,ρ2,sg,good2,hf2⟩;cases m with
 | zero=>cases hf2
 | succ m =>
  obtain⟨c',h1,hf2⟩:=k8 hf2;refine⟨G0,H0,G2,ρ2,c',good2,h1,λH3 G3 s3=>?_⟩;cases c' with
  | true =>
   obtain⟨o1,e2,hf2⟩:=k8 hf2;refine⟨λU' H'=>∃G2 ρ2,Same G G2/\Good X.K G0 H0 G2 H' U' ρ2/\kZ tc fb m ρ2=some o,λU' H' h=>⟨m,Pe _,h⟩,⟨G0,H0,G3,ρ2,o1,good2.step s3,e2,?_⟩⟩;have sg3:=sg.trans s3.gg;cases o1 with
   | nx ρ5=>exactλσ5 H5 G5 s5 good5=>⟨G5,ρ5,sg3.trans s5,good5,hf2⟩
   | ct ρ5=>exactλσ5 H5 G5 s5 good5=>⟨G5,ρ5,sg3.trans s5,good5,hf2⟩
   | bk ρ5=>cases hf2;exactλσ5 H5 G5 s5 good5=>k σ5 H5 G5 (sg3.trans s5) good5
   | rt d=>cases hf2;exact k
   | rl d=>cases hf2;exact k
  | _ =>cases hf2;exact k σ2 H3 G3 (sg.trans s3.gg)<|good2.step s3
def tyD:D->Option String
 | .non=>some "NoneType"
 | .bl _=>some "bool"
 | .int _=>some "int"
 | .str _=>some "str"
 | .tup _=>some "tuple"
 | .lst _=>some "list"
 | _=>none
def zDV {Q:jl}{cl:qv}{t:String}{k:Bool}(I:!4)(rv:RelV v u)(sub:Same G H)(r:Rep X.K G d v)(ht:tyD d=some t)(e:kitOne X.K (.type t) cl=some k) (h:∀tk,Q (.bool k) { s with toks:=tk }):wpAny (!5) A (call (.builtin "isinstance") [u,cl]) Q E s:=by
 cases d with
 | non=>cases ht;rw[sQ] at r;subst r;cases rv;exact Tp kitx_none I.kIn True.intro e (λz=>nomatch z) h
 | bl y=>cases ht;rw[wT] at r;subst r;cases rv;exact Tp kitx_bool I.kIn True.intro e (λz=>nomatch z) h
 | int i=>cases ht;rw[yW] at r;subst r;obtain⟨t,rfl⟩:=rv;exact Tp kitx_int I.kIn True.intro e (λz=>nomatch z) h
 | str i=>cases ht;rw[xZ] at r;subst r;obtain⟨t,rfl⟩:=rv;exact Tp kitx_str I.kIn True.intro e (λz=>nomatch z) h
 | tup ds =>cases ht;obtain⟨p,vs,rfl,q,_⟩:=xU.mp r;cases rv;obtain⟨j6,_,⟨o,h1,h2,_⟩,_⟩:=I.tuple<|sub.tup q;exact Tp kitx_tuple I.kIn ⟨o,h1,h2⟩ e (λz=>nomatch z) h
 | lst ds =>cases ht;obtain⟨p,vs,rfl,q,_⟩:=wZ.mp r;cases rv;obtain⟨j6,_,⟨o,n,h1,h2,_⟩,_⟩:=I.list<|sub.seq q;exact Tp kitx_list I.kIn ⟨o,h1,h2⟩ e (λz=>nomatch z) h
 | obj C ns ds=>cases ht
 | exc C ns ds=>cases ht
 | dct ks ds=>cases ht
def zHG (K:jk):∀t:String,t∈["NoneType","bool","int","str","tuple","list"]->kitOne K (.type t) (.type "str")=some (decide (t="str")):=by intro t ht;simp only[Qj,Ry,Uz] at ht;rcases ht with rfl | rfl | rfl | rfl | rfl | rfl<;>kernel_rfl
def zNk (K:jk):∀t:String,t∈["NoneType","bool","int","str","tuple","list"]->kitOne K (.type t) (.type "tuple")=some (decide (t="tuple")):=by intro t ht;simp only[Qj,Ry,Uz] at ht;rcases ht with rfl | rfl | rfl | rfl | rfl | rfl<;>kernel_rfl
def zLD (K:jk):∀t:String,t∈["NoneType","bool","int","str","tuple","list"]->kitOne K (.type t) (.type "list")=some (decide (t="list")):=by intro t ht;simp only[Qj,Ry,Uz] at ht;rcases ht with rfl | rfl | rfl | rfl | rfl | rfl<;>kernel_rfl
def zTw {t:String}(h:tyD d=some t):t∈["NoneType","bool","int","str","tuple","list"]:=by cases d<;>cases h<;>simp
def zLN (p:D->Bool)(f:Ef):Ef:=λO=>(f O).bind λd=>match d with | .obj _ _ _=>none | .exc _ _ _=>none | .dct _ _=>none | d=>some<|.bl<|p d
def isInt:D->Bool | .int _=>true | .bl _=>true | _=>false
def zGI:D->Bool | .bl _=>true | _=>false
def isStr:D->Bool | .str _=>true | _=>false
def zKu:D->Bool | .tup _=>true | _=>false
def zO1:D->Bool | .lst _=>true | _=>false
def zT9 {TT:String}{q:D->Bool}(hT:bootBuiltins T=some (.type TT))(hq:∀(K:jk) d t,tyD d=some t->kitOne K (.type t) (.type TT)=some (q d))(hg:Gl X "isinstance")(hm:X.mg "isinstance"=none)(hgT:Gl X T)(hmT:X.mg T=none)(h:!10)(hn:T≠"__name__":=by decide) (hd:(T==("__debug__":Str))=false:=by decide) (hs:starEach [a,.Name T p1] X.env=[(false,eval a X.env),(false,eval (.Name T p1) X.env)]:=by rfl):PF X (.Call (.Name "isinstance" p) [a,.Name T p1] [] pos)<|zLN q fa:=by
 have hcall:CallR X (.builtin "isinstance") (λxs H Q=>∃x G d,xs=[x,.ty TT]/\Same G H/\Rep X.K G d x/\(tyD d).isSome=true/\Q (.bl<|q d) H):=by intro Z s U H xs us Q I r hh;obtain⟨x,G,d,rfl,sub,rx,ht,qq⟩:=hh;obtain⟨u,u',rfl,ru,ru'⟩:=zUG r;cases ru';obtain⟨t,ht⟩:=Wh.mp ht;exact zDV I ru sub rx ht (hq _ d t ht) λtk=>⟨.bl _,H,I.tok tk,J,qq⟩
 refine PE.to (vB hcall hg hm jg (yS h (yS (zOh (v:=.ty TT) hgT hmT hT J hn hd) yF) (!6)) jb J (!6) jg) ?_;rintro U H Q ⟨G0,H0,G,O,d,j0,hf,k⟩;obtain⟨x,h1,hf⟩:=k8 hf;refine⟨G0,H0,G,O,_,j0,h1,λv H1 G1 s1 r1=>?_⟩;have hx:(tyD x).isSome=true/\d = .bl (q x):=by
  cases x<;>first
   | (cases hf;exact⟨J,J⟩)
   | cases hf
 obtain⟨hx,rfl⟩:=hx;exact⟨v,G1,x,J,s1.sub,r1,hx,k _ _ G1 s1<|wT.mpr rfl⟩
def zJP (K:jk)(d:D)(t:String)(h:tyD d=some t):kitOne K (.type t) (.type "str")=some (isStr d):=by rw[zHG K t<|zTw h];cases d<;>cases h<;>simp[isStr]
def zGb (K:jk)(d:D)(t:String)(h:tyD d=some t):kitOne K (.type t) (.type "tuple")=some (zKu d):=by rw[zNk K t<|zTw h];cases d<;>cases h<;>simp[isInt,zGI,isStr,zKu,zO1]
def zGf (K:jk)(d:D)(t:String)(h:tyD d=some t):kitOne K (.type t) (.type "list")=some (zO1 d):=by rw[zLD K t<|zTw h];cases d<;>cases h<;>simp[zO1]
def zSv:kd->Option (List Bool)
 | []=>some []
 | .bl k::r=>(zSv r).map λks=>k::ks
 | _=>none
def zNq (f:Ef):Ef:=λO=>(f O).bind λd=>match d with | .lst ds=>(zSv ds).map λks=>.bl (ks.all id) | _=>none
def zMJ (hc:!23):CallR X (.builtin "all") (λxs H Q=>∃(p:qu) (ks:List Bool),xs=[V.ref p]/\SqL X.K H p (ks.map V.bl)/\Q (.bl<|ks.all id) H):=by
 intro Z s U H xs us Q I r h;obtain⟨p,ks,rfl,hq,q⟩:=h;obtain⟨u,rfl,ru⟩:=jM r;cases ru;obtain⟨j6,rv,pl,hz⟩:=I.list hq;have hks:∀(i:Nat) (v:_),j6[i]?=some v->∃k,ks[i]?=some k/\v=Value.bool k:=λi v e=>by
  have hi:i < ks.length:=by have:=rv.length;rw[Qy] at this;rw[this];exact(v5 e).1
  obtain⟨u,e1,r1⟩:=rv.get (i:=i) (x:=.bl ks[i]) (by rw[Eu,Ql hi];rfl);rw[e] at e1;cases e1;exact⟨ks[i],Ql hi,r1⟩
 have j5:j6.length=ks.length:=by have:=rv.length;rw[Qy] at this;exact this.symm
 refine call_all_walk<|Tg pl.isList ?_;have hne:p≠s.heap.objs.size:=by obtain⟨o,_,e,_⟩:=pl;exact Wy<|Qa e
 refine⟨s.heap.objs.size,_,_,_,_,_,λi=>(ks[i]?).getD true,J,Walks.list (A:=X.A.in1) (I.ok.hd hc) _ p hne j6.toArray,⟨⟨_,Qs _ J,J,J⟩,pl.isList.push _⟩,?_,λh' tk hk=>?_⟩
 .intro i v s' Q' E' hv hQ';obtain⟨k,e1,rfl⟩:=hks i v (by simpa using hv);have hQ2:Q' ((ks[i]?).getD true) s':=hQ';rw[e1] at hQ2;exact Ev hQ2
 .have hI:Inv X Z U H (!31):=I.kept λb o e=>hk b o (by simp;exact Wy<|Qa e)<|Qe _ e;have e:((List.range j6.toArray.size).all λi=>(ks[i]?).getD true)=ks.all id:=by
   rw[Qd,j5,Rq];simp only[Rx,Tx,id];constructor
   .intro h x hx;obtain⟨i,hi,rfl⟩:=List.getElem_of_mem hx;simp_all
   .intro h i hi;rw[Ql hi];exact h _<|Tt hi
  rw[e];exact⟨.bl<|ks.all id,H,hI,J,q⟩
theorem zSh {K:jk}{G:Hp}:∀ {ds:kd} {vs:kl} {ks:List Bool},zSv ds=some ks->Reps K G ds vs->vs=ks.map V.bl
 | [],_,_,h,r=>by cases h;rw[yX] at r;rw[r];rfl
 | d::t,_,_,h,r=>by
  unfold zSv at h;split at h
  .simp_all
  .rename_i k t' h';cases h';obtain⟨v,vr,rfl,r1,r2⟩:=zP.mp r;obtain⟨ks,h1,rfl⟩:=k9 h;rw[zSh h1 r2,wT.mp r1];rfl
  .cases h
def zKf (hc:!23)(hg:Gl X "all")(hm:X.mg "all"=none)(h:!10)(hs:!34:=by rfl):PF X (.Call (.Name "all" p) [a] [] pos)<|zNq fa:=by
 refine PE.to (vB (zMJ hc) hg hm jg (yS h yF (!6)) jb J (!6) jg) ?_
 sleep 3
 cases x with
 | lst ds =>
  obtain⟨ks,h2,rfl⟩:=k9 hf
  sleep 4
  obtain⟨p,vs,rfl,q,rs⟩:=wZ.mp r1;have e:=zSh h2 rs;subst e;exact⟨p,ks,J,s1.sub.seq q,k _ _ G1 s1<|wT.mpr rfl⟩
 | _=>cases hf
end
def Inv.turnedNew {T:qu}(I:!4)(k:∀b u,b∉fp->s.heap.get? b=some u->h'.get? b=some u)(hf:∀b∈fp,fB X Z H b) (hT:s.heap.objs.size<=T) (new:ObjOk X.prog X.w (upd H T o) h' T o):Inv X Z U (upd H T o) { s with heap:=h',toks:=t' }:=by
 have fr:=I.hok.fresh hT;have neT:∀b u,s.heap.get? b=some u->b≠T:=λb u e=>Wy<|Wr (Qa e) hT;have nfp:∀b u,H b=some u->b∉fp:=λb u e z=>by have:=(hf b z).1;rw[e] at this;cases this
 refine I.step (λb hb=>⟨(hf b hb).2.2.2.1,(hf b hb).2.1,(hf b hb).2.2.2.2.1,(hf b hb).2.2.2.2.2⟩) (λb u _ _ hc e _=>k b u hc e) (λb u _ _ hc e _=>⟨u.slots,k b u hc e⟩) (λb u _ e n=>by rw[zD<|neT b u e];exact n) (λb u hc e=>⟨u,k b u hc e⟩) (λb xs e=>by rw[zD<|yR e fr];exact e) (λb u x e=>by rw[zD<|yR e fr];exact e) (λb ps e=>⟨#[],by rw[zD<|yR e fr,e];simp⟩) (λm hm=>?_) (λb u e=>?_) I.bare
 .obtain⟨ob,es,ep,ho,r⟩:=hm;exact⟨ob,es,ep,k _ ob (λz=>(hf _ z).2.1 J) ho,r⟩
 .by_cases hb:b=T
  .subst hb;rw[zH] at e;cases e;exact new
  .rw[zD hb] at e;refine(I.hok b u e).stay (λc v hc q=>k c v ?_ q) (λc q=>by rw[zD<|yR q fr];exact q) λc xs q=>by rw[zD<|yR q fr];exact q
   rcases hc with z | z
   .rw[z];exact nfp b u e
   .exact nfp c _ z
def Inv.turnedL (I:!4)(k:∀b u,b∉fp->s.heap.get? b=some u->h'.get? b=some u)(hf:∀b∈fp,fB X Z H b):Inv X Z U H { s with heap:=h',toks:=t' }:=by
 have nfp:∀b u,H b=some u->b∉fp:=λb u e z=>by have:=(hf b z).1;rw[e] at this;cases this
 refine I.step (λb hb=>⟨(hf b hb).2.2.2.1,(hf b hb).2.1,(hf b hb).2.2.2.2.1,(hf b hb).2.2.2.2.2⟩) (λb u _ _ hc e _=>k b u hc e) (λb u _ _ hc e _=>⟨u.slots,k b u hc e⟩) (λb u _ e n=>n) (λb u hc e=>⟨u,k b u hc e⟩) (λb xs e=>e) (λb u x e=>e) (λb ps e=>⟨#[],by rw[e];simp⟩) (λm hm=>?_) (λb u e=>?_) I.bare
 .obtain⟨ob,es,ep,ho,r⟩:=hm;exact⟨ob,es,ep,k _ ob (λz=>(hf _ z).2.1 J) ho,r⟩
 .refine(I.hok b u e).stay (λc v hc q=>k c v ?_ q) (λc q=>q) λc xs q=>q;rcases hc with z | z
  .rw[z];exact nfp b u e
  .exact nfp c _ z
def Ite (K:jk)(a:qu):It :=
 ⟨λi H=>∃xs x,SqL K H a xs/\xs[i]?=some x,λi H x H'=>∃p v,H p=none/\x = .ref p/\H'=upd H p (.tup [.int (i:Nat),v])/\∀xs,SqL K H a xs->xs[i]?=some v,λi H=>∃xs,SqL K H a xs/\xs.length<=i⟩
theorem zMZ {k:Nat}(a e it:qu)(hei:e≠it):Turn P w K (.Tuple elts k pos) (Ite K a) [e,it] e (λi h=>(∃old,IsEnum h e it (i:Nat) old)/\h.IsListIter it a i) where
 mem:=je
 obj:=λi h st b hb=>by
  obtain⟨⟨old,he⟩,o,h1⟩:=st;rcases v4 hb with z | z
  .simp_all
  .rcases v4 z with z | z
   .simp_all
   .cases z
 keep:=λi h h' st kk=>by obtain⟨⟨old,he⟩,hl⟩:=st;exact⟨⟨old,kk e je _ he⟩,hl.at λo q=>kk it je o q⟩
 item:=by
  sleep 6
  subst hP hw hK;obtain⟨xs,x,hq,hx⟩:=hg;obtain⟨j6,rv,p,hz⟩:=I.list hq;obtain⟨u,hu,ru⟩:=rv.get hx;obtain⟨⟨old,he⟩,hit⟩:=st;refine wpAny_pyNext_enum_item he hit p.isList (x:=u) (by simpa using hu) hei λh1 ho hit1 hT hsz hk=>?_;have I1:Inv X Z U (upd H _<|.tup [.int (i:Nat),x]) { s with heap:=h1,toks:=s.toks+1 }:=I.turnedNew (λb o hb e=>hk b o (λz=>hb<|by simp[z]) (λz=>hb<|by simp[z]) e) hf (Qg _) ⟨by show 2<=sizeLine;exact Wa<|wN jb,[.int (i:Nat) s.toks,u],.cons ⟨_,rfl⟩<|.cons ru .nil,⟨_,hT,rfl,_,rfl⟩⟩;refine⟨_,J,wpAny_letOwnedTupleGo_enum ho λh2 he2 hs2=>?_⟩;have neT:∀b∈[e,it],b≠_:=λb hb z=>by
   obtain⟨o,h1,h2⟩:=hit;rcases v4 hb with q | q
   .exact absurd (Qa he) (by rw[<-q,z];exact Wx _)
   .rcases v4 q with q | q
    .exact absurd (Qa h1) (by rw[<-q,z];exact Wx _)
    .cases q
  have hf1:∀b∈[e,it],fB X Z (upd H _<|.tup [.int (i:Nat),x]) b:=λb hb=>⟨by rw[zD<|neT b hb];exact(hf b hb).1,(hf b hb).2⟩
  refine⟨.ref s.heap.objs.size,_,(I1.turnedL (h':=h2) (t':=_+1) (fp:=[e,it]) (λb o hb q=>(hs2.2 b λz=>hb<|by simp[z]).trans q) hf1),J,⟨s.heap.objs.size,x,I.fresh,J,J,λys hy=>by rw[I.list_inj hy hq];exact hx⟩,⟨⟨_,by simpa using he2⟩,hit1.at λo q=>(hs2.2 it hei.symm).trans q⟩,λb hb=>(hf1 b hb).1⟩
 done:=by
  sleep 6
  subst hP hw hK;obtain⟨xs,hq,hx⟩:=hg;obtain⟨j6,rv,p,hz⟩:=I.list hq;obtain⟨⟨old,he⟩,hit⟩:=st;have hl:=rv.length;exact wpAny_pyNext_enum_end (I.ok.hd hc) he hit p.isList (by simp;lia) λh' eb=>⟨J,I.turnedL (t':=_) (fp:=[e,it]) (λb o hb q=>eb b o (λz=>hb<|by simp[z]) q) hf⟩
 self:=λ_ _ _ _ _ st h=>wpAny_pyIter_enum st.1.choose_spec h
def zRi (h:SqL K G a vs)(r:Reps K G ds vs):bH K (Ite K a) G<|ds.zipIdx.map λq=>D.tup [.int (q.2:Nat),q.1]:=by intro i G2 H2 s1 s2;have q:=(!12).seq h;refine⟨λd hd=>?_,λhi=>⟨vs,q,by rw[<-r.length];simpa using hi⟩⟩;rw[Eu,List.getElem?_zipIdx] at hd;obtain⟨⟨d0,j⟩,hd2,hd3⟩:=k9 hd;obtain⟨d1,hd1,e⟩:=k9 hd2;cases e;subst hd3;obtain⟨v,e,rv⟩:=r.get hd1;refine⟨⟨vs,v,q,e⟩,λx H3 y=>?_⟩;obtain⟨p,u,hp,rfl,rfl,y⟩:=y;have e2:=y vs q;rw[e] at e2;cases e2;have s3:=Step.laid (o:=.tup [.int<|i,v]) s2 hp;refine⟨_,s3,xU.mpr ⟨p,_,J,.of zH,zP.mpr ⟨_,_,J,yW.mpr je,zP.mpr ⟨_,_,J,(rv.mono s1).mono s3.gg,yX.mpr J⟩⟩⟩⟩
section
variable{a b:r8}
def zWx (ds:kd):kd:=ds.zipIdx.map λq=>D.tup [.int (q.2:Nat),q.1]
def zMg (g:Lf):Lf:=λO=>(g O).map zWx
def zLn (K:jk)(f:Lf):TE:=λU H Q=>∃G0 H0 G O ds,Good K G0 H0 G H U O/\f O=some ds/\∀a vs H' G',Step G H G' H'->SqL K G' a vs->Reps K G' ds vs->Q (.ref a) H'
def zP6 (X:Cx)(e:r8)(f:Lf):Prop:=PE X e<|zLn X.K f
def zWh (h:PFr X e ga):zP6 X e ga:=λZ s U H Q I q=>h Z s U H Q I (by obtain⟨G0,H0,G,O,ds,j0,hf,k⟩:=q;exact⟨G0,H0,G,O,ds,j0,hf,λp vs H' G' s hn hp gp rs=>k p vs H' _ (s.frz hn hp gp) (.of zH)<|rs.mono<|Same.new gp⟩)
theorem fU (h:PF X e fa):zP6 X e<|iL fa:=λZ s U H Q I q=>h Z s U H Q I (by
 obtain⟨G0,H0,G,O,ds,j0,hf,k⟩:=q;obtain⟨d,h1,hf⟩:=k8 hf;cases d with
 | lst es =>cases hf;refine⟨G0,H0,G,O,_,j0,h1,λx H1 G1 s1 r1=>?_⟩;obtain⟨p,vs,rfl,q,rs⟩:=wZ.mp r1;exact k p vs H1 G1 s1 q rs
 | _=>cases hf)
def zJb {k:Nat}(hg:Gl X "enumerate")(hm:X.mg "enumerate"=none)(h:zP6 X a ga)(hs:!34:=by rfl):PFI X (.Tuple elts k pos') (.Call (.Name "enumerate" p) [a] [] pos)<|zMg ga:=by
 intro Z s U H R I q;obtain⟨G0,H0,G,O,ds,j0,hf,kk⟩:=q;obtain⟨es,h1,rfl⟩:=k9 hf;refine Call_<|iQ I hg hm jg<|Rf (thn (yS h yF (!6) pos Z s U H (λvs H'=>∃a us G',vs=[.ref a]/\Step G H G' H'/\SqL X.K G' a us/\Reps X.K G' es us) I ⟨G0,H0,G,O,es,j0,h1,λa us H' G' s' hq rs=>⟨a,us,G',J,s',hq,rs⟩⟩) λus s1 ⟨vs,H1,I1,r1,l,ws,G1,e1,st1,hq,rs⟩=>?_) hs rfl;subst e1;obtain⟨u,rfl,ru⟩:=jM r1;cases ru;obtain⟨j6,rv,pl,hz⟩:=I1.list<|st1.sub.seq hq;refine call_enumerate_list pl.isList λh' he hit hsz hk=>wpAny_pyIter_enum he ⟨_,[s1.heap.objs.size+1,s1.heap.objs.size],_,_,H1,J,(I1.kept (t':=_) hk),zMZ l _ _<|Nat.succ_ne_self _,⟨⟨_,he⟩,hit⟩,λb hb=>?_,kk _ H1 G1 st1<|zRi hq rs⟩;have hb':s1.heap.objs.size<=b:=by
  rcases v4 hb with z | z
  .simp_all
  .simp_all
 exact I1.fpOk hb'<|I1.hok.fresh hb'
def gE (f g:Lf):Lf:=λO=>(f O).bind λxs=>(g O).bind λys=>okL<|xs++ys
def zPs (ha:PFr X a ga)(hb:PFr X b gb):PFr X (.BinOp a .Add b pos)<|gE ga gb:=by
 refine PE.toR (zYr zGH ha hb) ?_
 sleep 1
 obtain⟨xs,h1,hf⟩:=k8 hf;obtain⟨ys,h2,hf⟩:=k8 hf;obtain⟨rfl,h3⟩:=zZv hf;refine⟨G0,H0,G,O,_,j0,h1,λp vs H1 G1 s1 hn hp gp rs=>⟨G0,H0,G1,O,_,j0.step s1,h2,λq us H2 G2 s2 hn2 hq gq rs2=>⟨p,q,vs,us,J,J,s2.hh _ _ hp,hq,?_,λl hl=>?_⟩⟩⟩
 .rw[<-rs.length,<-rs2.length,<-Qo];exact Wa<|wN h3
 .have s3:=Step.own (o:=.lst<|vs++us) s2.sub hl;exact k l _ _ G2 ((!12).trans s3) ((!12).hh.free hl) zH (s2.sub.free hl)<|(rs.mono s2.gg).append rs2
abbrev Of:=kj->Option ku
def tFO (K:jk)(f:Of):TO:=λU H Q=>∃G0 H0 G O o,Good K G0 H0 G H U O/\f O=some o/\∀H' G',Step G H G' H'->Q o H'
def PFO (X:Cx)(e:Option r8)(f:Of):Prop:=PO X e<|tFO X.K f
def oNo:Of:=λ_=>some none
def vJ (f:Ef):Of:=λO=>(f O).bind λd=>match d with | .int i=>some (some i) | _=>none
theorem lP:PFO X none oNo:=λZ s U H Q I h=>zIX Z s U H Q I (by obtain⟨G0,H0,G,O,o,j0,hf,k⟩:=h;cases hf;exact k H G<|.refl j0.sub)
theorem qW (h:PF X e fa):PFO X (some e)<|vJ fa:=λZ s U H Q I q=>zIh h Z s U H Q I (by
 obtain⟨G0,H0,G,O,o,j0,hf,k⟩:=q;obtain⟨d,h1,hf⟩:=k8 hf;cases d with
 | int i=>cases hf;exact⟨G0,H0,G,O,_,j0,h1,λv H' G' s r=>⟨i,yW.mp r,k H' G' s⟩⟩
 | _=>cases hf)
def fT (xs:kd)(lo hi:ku):kd:=(xs.drop<|HT.sIx xs.length 0 lo).take<|HT.sIx xs.length xs.length hi - HT.sIx xs.length 0 lo
def uR (f:Ef)(lo hi:Of):Lf:=λO=>(f O).bind λd=>(lo O).bind λl=>(hi O).bind λu=>match d with | .lst ds=>some (fT ds l u) | _=>none
def sT {fl fh:Of}(ha:!10)(hl:PFO X lo fl)(hh:PFO X hi fh):PFr X (.Subscript a (.Slice lo hi none p2) pos)<|uR fa fl fh:=by
 refine PE.toR (zXh zI5 ha hl hh) ?_
 sleep 3
 obtain⟨l,h2,hf⟩:=k8 hf;obtain⟨u,h3,hf⟩:=k8 hf;cases x with
 | lst ds =>cases hf;refine⟨G0,H0,G,O,_,j0,h1,λv H1 G1 s1 r1=>⟨G0,H0,G1,O,_,j0.step s1,h2,λH2 G2 s2=>⟨G0,H0,G2,O,_,(j0.step s1).step s2,h3,λH3 G3 s3=>?_⟩⟩⟩;obtain⟨q,vs,rfl,hq,rs⟩:=wZ.mp r1;have s23:=s2.trans s3;refine⟨q,vs,J,s23.hh |> λz=>(s1.sub.trans z).seq hq,λp hp=>k p _ _ G3 ((s1.trans s23).trans<|Step.own (o:=.lst<|zTp vs l u) s23.sub hp) ((s1.trans s23).hh.free hp) zH (s23.sub.free hp) ?_⟩;unfold zTp fT;rw[<-rs.length];exact((rs.mono s23.gg).drop _).take _
 | _=>cases hf
end
def IsSq (t:Bool)(h:qx)(l:qu)(xs:jo):Prop:=∃o,h.get? l=some o/\o.cls = .type (cond t "tuple" "list")/\∃n,o.data = .seq xs n
def IsIr (t:Bool)(h:qx)(i l:qu)(k:Nat):Prop:=∃o,h.get? i=some o/\o.cls = .type (cond t "tuple_iterator" "list_iterator")/\o.data = .fields #[.ref l,.int k 0]
def IsSq.extBut {b:qu}{xs:jo}(x:IsSq t h a xs)(e:Heap.ExtBut b h h')(n:a≠b):IsSq t h' a xs:=let ⟨o,q,r⟩:=x;⟨o,e a o n q,r⟩
def IsIr.to {k:Nat}(x:IsIr t h a l k)(e:∀o,h.get? a=some o->h'.get? a=some o):IsIr t h' a l k:=let ⟨o,q,r⟩:=x;⟨o,e o q,r⟩
def IsIr.extBut {b:qu}{k:Nat}(x:IsIr t h a l k)(e:Heap.ExtBut b h h')(n:a≠b):IsIr t h' a l k:=x.to λo=>e a o n
def SqB (t:Bool)(K:jk)(H:Hp)(b:qu)(ys:kl):Prop:=match t with | true=>SqT K H b ys | false=>SqL K H b ys
def mkS (t:Bool)(ds:kd):D:=match t with | true=>.tup ds | false=>.lst ds
def zXC {b:qu}(e:Same H H')(h:SqB t K H b ys):SqB t K H' b ys:=by
 cases t
 .exact e.seq h
 .exact e.tup h
def zLO (h:Rep K G (mkS t ds) v):∃a us,v = .ref a/\SqB t K G a us/\Reps K G ds us:=by
 cases t
 .assumption
 .assumption
section
variable{b:qu}{zs:kl}
def zSG (I:!4)(h:SqB t X.K H b ys):∃j6:qh,Vals ys j6/\IsSq t s.heap b j6.toArray:=by
 cases t
 .obtain⟨j6,v,p,_⟩:=I.list h;exact⟨j6,v,p.isList⟩
 .obtain⟨j6,v,p,_⟩:=I.tuple h;exact⟨j6,v,p⟩
def zK4 (I:!4)(h:SqB t X.K H b ys)(h':SqB t X.K H b zs):ys=zs:=by
 cases t
 .exact I.list_inj h h'
 .exact I.tuple_inj h h'
theorem zKw {c:qu}(I:!4)(hf:fB X Z H c)(hd:SqB t X.K H b ys):b≠c:=λz=>by
 have e:=hf.1;cases t<;>(
  rcases hd with(hd | ⟨ob,hd⟩) | hd
  .simp_all
  .simp_all
  .obtain⟨ob,_,_,hk,_⟩:=hd;have e3:=I.ok.mod.kin b ob hk;obtain⟨_,q1,_,q3⟩:=hf;rcases q3 with q3 | q3
   .exact I.ok.noex b ob e3 (z ▸ q3)
   .exact absurd (Wr (Qa (I.ok.bs b ob e3).1)<|z ▸ q3) (Wx _))
def zPr {t:qu}{x:qv}{Q:jl}(hit:s.heap.IsTupleIter it t i)(ht:s.heap.IsTuple t items)(hx:items[i]?=some x)(hQ:∀h',h'.IsTupleIter it t (i+1)->Heap.SameBut it s.heap h'->Q x (!18)):wpAny (!9) A (Builtin.SmallTypes.nextOf<|.ref it) Q E s:=by obtain⟨o,h1,h2,h3⟩:=id hit;obtain⟨ot,t1,_,n,t2⟩:=ht;refine Qw<|Ej hit.typeIs F.slot_tuple_iterator_next<|Ey F.slot_tuple_iterator_next hit.typeIs F.entry_tuple_iterator_next ?_<|F.args_tuple_iterator_next_1 _;change wpAny _ _ (field _ 0 >>= _) _ _ s;refine Qw<|Ep h1 h3 rfl<|Qw<|Ep h1 h3 rfl<|Qw<|Ro t1 t2 ?_;simp only[Yh,hx];refine Qw<|Px h1 h3 je<|Qi ⟨x,rfl,Qi<|hQ _ ⟨_,Rc _ h1<|Obj.isFreed_of_fields<|Obj.data_mapFields h3 _,(Obj.cls_mapFields ..).trans h2,?_⟩<|Uq ..⟩;rw[Obj.data_mapFields h3];simp[rawInt]
def zNF {t:qu}{Q:jl}(hh:A.handled=none)(hit:s.heap.IsTupleIter it t i)(ht:s.heap.IsTuple t items)(hx:items[i]?=none)(hE:∀h' e,Heap.ExtBut it s.heap h'->(∃o,h'.get? e=some o/\o.cls = .type "StopIteration")->E (.ref e) (!18)):wpAny (!9) A (Builtin.SmallTypes.nextOf<|.ref it) Q E s:=by
 obtain⟨o,h1,h2,h3⟩:=id hit;obtain⟨ot,t1,_,n,t2⟩:=ht;refine Qw<|Ej hit.typeIs F.slot_tuple_iterator_next<|Ey F.slot_tuple_iterator_next hit.typeIs F.entry_tuple_iterator_next ?_<|F.args_tuple_iterator_next_1 _;change wpAny _ _ (field _ 0 >>= _) _ _ s;refine Qw<|Ep h1 h3 rfl<|Qw<|Ep h1 h3 rfl<|Qw<|Ro t1 t2 ?_;simp only[Yh,hx];refine Qw<|Yv<|Qw<|Px h1 h3 je<|Qw<|Qw (m:=firstArgMember _ _)<|wpAny_of_eq rfl<|Rp (Qw<|wpAny_handled ?_)<|by size_fits
 first | rw[show _=none from hh] | rw[hh]
 exact Qw<|Qi<|wpAny_throw<|hE _ _ (((Uq ..).extBut.push _).push _) ⟨_,Qs _ rfl,rfl⟩
structure ZApart (z TI TO i1 i2 l1 l2:qu):Prop where
 a1:TI≠z
 a2:TO≠z
 a3:i1≠z
 a4:i2≠z
 a5:TI≠TO
 a6:TI≠i1
 a7:TI≠i2
 a8:TO≠i1
 a9:TO≠i2
 b1:i1≠i2
 b2:l1≠z
 b3:l1≠TO
 b4:l1≠i1
 b5:l1≠i2
 b6:l2≠z
 b7:l2≠TO
 b8:l2≠i1
 b9:l2≠i2
abbrev Stp (h:qx)(e:qu):Prop:=∃o,h.get? e=some o/\o.cls = .type "StopIteration"
abbrev Kz (h h':qx)(z TO i1 i2:qu):Prop:=∀c o,c≠z->c≠TO->c≠i1->c≠i2->h.get? c=some o->h'.get? c=some o
def zOo {Q:jl}(hh:A.handled=none)(hit:IsIr t s.heap it l i)(hl:IsSq t s.heap l items)(hQ:∀x h',items[i]?=some x->IsIr t h' it l (i+1)->Heap.SameBut it s.heap h'->Q x (!18))(hE:∀h' e,items[i]?=none->Heap.ExtBut it s.heap h'->Stp h' e->E (.ref e) (!18)):wpAny (!9) A (Builtin.SmallTypes.nextOf<|.ref it) Q E s:=by
 cases hx:items[i]? with
 | some x =>
  cases t
  .exact wpAny_nextOf_list_item hit hl hx λh'=>hQ x h' hx
  .exact zPr hit hl hx λh'=>hQ x h' hx
 | none =>
  cases t
  .exact wpAny_nextOf_list_end hh hit hl hx λh' e=>hE h' e hx
  .exact zNF hh hit hl hx λh' e=>hE h' e hx
abbrev ZR (h:qx)(z TI TO:qu)(f:qv)(b:Bool):Prop:=h.get? z=some { cls:=.type "zip",dict:=none,data:=.fields #[f,.bool b,.bool false,.ref TI,.ref TO],slots:=#[] }
def ZAny (h:qx)(z TI TO:qu):Prop:=∃f b,(f=Value.none\/∃T:qu,f=rawInt T)/\ZR h z TI TO f b
def ZAny.to {z TI TO:qu}(x:ZAny h z TI TO)(e:∀o,h.get? z=some o->h'.get? z=some o):ZAny h' z TI TO:=let ⟨f,b,q,r⟩:=x;⟨f,b,q,e _ r⟩
def zJj {Q:Option Obj->qw->Prop}(h:Q (s.heap.get? a) s):wpAny M A (loadIfAlive a) Q E s :=λΓ p _=>by show Sem.wp M Γ (.loadIfAlive a _) _ _ p s;rw[Sem.wp_loadIfAlive];exact h
def zDZ {z TI TO:qu}{f:qv}{b:Bool}{Q:Bool->qw->Prop}(hf:f=Value.none\/∃T:qu,f=rawInt T)(hz:ZR s.heap z TI TO f b)(hT:Q true s)(hQ:∀h',ZAny h' z TI TO->Heap.SameBut z s.heap h'->Q false (!18)):wpAny (!9) A (Builtin.SmallTypes.ownedTupleIsFree<|.ref z) Q E s:=by
 rcases hf with rfl | ⟨T,rfl⟩
 .exact Qw (Ep hz J rfl<|Qi hT)
 refine Qw<|Ep hz rfl rfl<|Qw<|zJj ?_;rw[Yh];cases s.heap.get? T with
 | none=>exact Qi hT
 | some o =>
  refine Qw<|Ep hz rfl rfl ?_;cases b with
  | false =>exact Qw<|Rv hz je λh' q1 q2=>Qi<|hQ h' ⟨_,_,.inr ⟨T,rfl⟩,q1⟩ q2
  | true =>exact Qi<|hQ _ ⟨_,_,.inr ⟨T,rfl⟩,hz⟩ ⟨rfl,λ_ _=>rfl⟩
def zKC {z TI TO i1 i2 l1 l2:qu}{k:Nat}{xs ys:jo}{a b:qv}{Q:jl}(hh:A.handled=none)(D:ZApart z TI TO i1 i2 l1 l2){f:qv}{bb:Bool}(hf:f=Value.none\/∃T:qu,f=rawInt T)(hz:ZR s.heap z TI TO f bb)(hTI:IsPair s.heap TI (.ref i1)<|.ref i2)(hTO:IsPair s.heap TO a b)(h1:IsIr t s.heap i1 l1 k) (h2:IsIr t s.heap i2 l2 k) (hl1:IsSq t s.heap l1 xs) (hl2:IsSq t s.heap l2 ys)(hQ:∀x y h',xs[k]?=some x->ys[k]?=some y->ZAny h' z TI TO->(∃p q,IsPair h' TO p q)->IsIr t h' i1 l1 (k+1)->IsIr t h' i2 l2 (k+1)->IsPair h' s.heap.objs.size x y->Kz s.heap h' z TO i1 i2->Q (.ref s.heap.objs.size) (!18))(hE:∀h' e,(xs[k]?=none\/ys[k]?=none)->Kz s.heap h' z TO i1 i2->Stp h' e->E (.ref e) (!18)):wpAny (!9) A (Builtin.«zip.__next__» ⟨[.ref z],[]⟩) (λfin s'=>∃v,fin = .done (.ret v)/\Q v s') E s:=by
 change wpAny _ _ (field (.ref z) 2 >>= _) _ _ _;refine Qw<|Ep hz rfl (x:=.bool false) rfl<|Qw<|Ep hz rfl (x:=.ref TI) rfl<|Qw<|Ro hTI rfl<|Qw<|zDZ hf hz ?free λg1 z1 k1=>?busy
 case busy =>
  refine Qw<|Qw<|Qw<|Ru<|Qw<|zOo hh (h1.extBut k1.extBut D.a3) (hl1.extBut k1.extBut D.b2) (λx g2 hx u1 t2=>Qi<|Qi<|Qw<|Qw<|Ru<|Qw<|zOo hh ((h2.extBut k1.extBut D.a4).extBut t2.extBut D.b1.symm) ((hl2.extBut k1.extBut D.b6).extBut t2.extBut D.b8) (λy g3 hy u2 t3=>Qi<|Qi<|Qi ?_) λg3 e hy t3 he=>hE g3 e (.inr hy) (λc o c1 c2 c3 c4 q=>t3 _ _ c4<|t2.extBut _ _ c3<|k1.extBut _ _ c1 q) he) λg2 e hx t2 he=>hE g2 e (.inl hx) (λc o c1 c2 c3 c4 q=>t2 _ _ c3<|k1.extBut _ _ c1 q) he;have esz:g3.objs.size=s.heap.objs.size:=by rw[t3.1,t2.1,k1.1]
  refine Qw<|Us (Qi ⟨_,J,?_⟩) (by show 2<=sizeLine;exact Wa<|wN jb);have n3:IsPair (g3.push { cls:=.type "tuple",data:=.seq #[x,y] }) g3.objs.size x y:=Qs _ J;rw[esz] at n3 ⊢;exact hQ x y _ hx hy (z1.to λo e=>Qe _<|t3.extBut _ _ D.a4.symm<|t2.extBut _ _ D.a3.symm e) ⟨_,_,Qe _<|t3.extBut _ _ D.a9<|t2.extBut _ _ D.a8<|k1.extBut _ _ D.a2 hTO⟩ (u1.to λo e=>Qe _<|t3.extBut _ _ D.b1 e) (u2.to λo e=>Qe _ e) n3 λc o c1 c2 c3 c4 e=>Qe _<|t3.extBut _ _ c4<|t2.extBut _ _ c3<|k1.extBut _ _ c1 e
 refine Qw<|Yv<|Qw<|Ep hz rfl (x:=.ref TO) rfl<|Qw<|Rv hz je λg1 z1 t1=>?_;have bad:∀ {g:qx} {e:qu},ZR g z TI TO .ellipsis bb->Stp g e->e≠z:=λ{g e} q1 ⟨oe,q2,q3⟩ q=>by subst q;rw[q1] at q2;cases q2;simp at q3
 refine Qw ?_;simp only[List.zipIdx_cons,List.zipIdx_nil,Pa,List.forIn_nil];refine Qw<|Qw<|wpAny_onRaise<|Qw<|zOo hh (h1.extBut t1.extBut D.a3) (hl1.extBut t1.extBut D.b2) (λx g2 hx u1 t2=>Qi ?_) λg2 e hx t2 he=>?e1
 case e1 =>have z2:ZR g2 z TI TO .ellipsis bb:=t2 _ _ D.a3.symm z1;have ne:=bad z2 he;obtain⟨oe,q1,q2⟩:=he;exact Rv z2 je λg3 _ t3=>hE g3 e (.inl hx) (λc o c1 _ c3 _ q=>t3.extBut _ _ c1<|t2 _ _ c3<|t1.extBut _ _ c1 q) ⟨oe,t3.extBut _ _ ne q1,q2⟩
 have o2:IsPair g2 TO a b:=t2.extBut _ _ D.a8<|t1.extBut _ _ D.a2 hTO;refine Qw<|Ro o2 rfl<|Qw<|wpAny_updateSeq_pair o2 λg3 o3 t3=>Qw<|Uw<|Qi<|Qw<|Qw<|wpAny_onRaise ?_;have z3:ZR g3 z TI TO _ bb:=t3.extBut _ _ D.a2.symm<|t2.extBut _ _ D.a3.symm z1;refine Qw<|zOo hh (((h2.extBut t1.extBut D.a4).extBut t2.extBut D.b1.symm).extBut t3.extBut D.a9.symm) (((hl2.extBut t1.extBut D.b6).extBut t2.extBut D.b8).extBut t3.extBut D.b7) (λy g4 hy u2 t4=>Qi ?_) λg4 e hy t4 he=>?e2
 case e2 =>have z4:ZR g4 z TI TO _ bb:=t4 _ _ D.a4.symm z3;have ne:=bad z4 he;obtain⟨oe,q1,q2⟩:=he;exact Rv z4 je λg5 _ t5=>hE g5 e (.inr hy) (λc o c1 c2 c3 c4 q=>t5.extBut _ _ c1<|t4 _ _ c4<|t3.extBut _ _ c2<|t2.extBut _ _ c3<|t1.extBut _ _ c1 q) ⟨oe,t5.extBut _ _ ne q1,q2⟩
 have o4:IsPair g4 TO x b:=t4.extBut _ _ D.a9 o3;refine Qw<|Ro o4 rfl<|Qw<|wpAny_updateSeq_pair o4 λg5 o5 t5=>?_;have o5:IsPair g5 TO x y:=o5;refine Qw<|Uw<|Qi<|Qi<|Qw<|Ro o5 rfl<|Qw<|Us ?_;have esz:g5.objs.size=s.heap.objs.size:=by rw[t5.1,t4.1,t3.1,t2.1,t1.1]
 have z5:ZR g5 z TI TO _ bb:=t5.extBut _ _ D.a2.symm<|t4.extBut _ _ D.a4.symm z3;have lz:z < _:=Qa z5;refine Qw ?_;have z6:ZR (g5.push { cls:=.type "tuple",data:=.seq #[x,y] }) z TI TO _ bb:=Qe _ z5;refine Qw<|Rv z6 je λg7 z7 t7=>Rv z7 je λg8 z8 t8=>?_;have up:∀c o,c≠z->g5.get? c=some o->g8.get? c=some o:=λc o c1 e=>t8.extBut _ _ c1<|t7.extBut _ _ c1<|Qe _ e;have n8:IsPair g8 _ x y:=t8.extBut _ _ (Ir lz)<|t7.extBut _ _ (Ir lz)<|Qs _ rfl;rw[esz] at z8 n8;refine Qi ⟨_,J,?_⟩;rw[esz];exact hQ x y g8 hx hy ⟨_,_,.inr ⟨_,J⟩,z8⟩ ⟨_,_,up _ _ D.a2 o5⟩ ((((u1.extBut t3.extBut D.a8.symm).extBut t4.extBut D.b1).extBut t5.extBut D.a8.symm).to λo=>up _ o D.a3) ((u2.extBut t5.extBut D.a9.symm).to λo=>up _ o D.a4) n8 λc o c1 c2 c3 c4 e=>up c o c1<|t5.extBut _ _ c2<|t4.extBut _ _ c4<|t3.extBut _ _ c2<|t2.extBut _ _ c3<|t1.extBut _ _ c1 e
def zQp {z TI TO i1 i2 l1 l2:qu}{k:Nat}{xs ys:jo}{a b:qv}(hh:A.handled=none)(D:ZApart z TI TO i1 i2 l1 l2)(hz:ZAny s.heap z TI TO)(hTI:IsPair s.heap TI (.ref i1)<|.ref i2)(hTO:IsPair s.heap TO a b)(h1:IsIr t s.heap i1 l1 k) (h2:IsIr t s.heap i2 l2 k) (hl1:IsSq t s.heap l1 xs) (hl2:IsSq t s.heap l2 ys)(hQ:∀x y h',xs[k]?=some x->ys[k]?=some y->ZAny h' z TI TO->(∃p q,IsPair h' TO p q)->IsIr t h' i1 l1 (k+1)->IsIr t h' i2 l2 (k+1)->IsPair h' s.heap.objs.size x y->Kz s.heap h' z TO i1 i2->Q (some<|.ref s.heap.objs.size) (!18))(hN:∀h',(xs[k]?=none\/ys[k]?=none)->Kz s.heap h' z TO i1 i2->Q none (!18)):wpAny (!9) A (pyNext<|.ref z) Q E s:=by
 obtain⟨f,bb,hf,hz⟩:=hz;have hT:s.TypeIs (.ref z) "zip":=⟨_,hz,J⟩
 refine Qw<|Og<|Ej hT F.slot_zip_next<|Ey F.slot_zip_next hT F.entry_zip_next (zKC hh D hf hz hTI hTO h1 h2 hl1 hl2 (λx y h' e1 e2 a1 a2 a3 a4 a5 a6=>Qi<|hQ x y h' e1 e2 a1 a2 a3 a4 a5 a6) λh' e q hk he=>?_)<|F.args_zip_next_1 _;obtain⟨o,q1,q2⟩:=he;exact Qw<|Pu ⟨o,q1,q2⟩ isSubtype_stop<|Qi<|hN _ q hk
def zGh {z TI TO:qu}{Q:Unit->qw->Prop}(hz:ZAny s.heap z TI TO)(hQ:∀h',ZAny h' z TI TO->Heap.SameBut z s.heap h'->Q () (!18)):wpAny (!9) A (letOwnedTupleGo tg (.ref z) u) Q E s:=by
 have q0:=hQ _ hz ⟨J,λ_ _=>rfl⟩;obtain⟨f,bb,hf,hz⟩:=hz;cases tg<;>first
   | exact Qi q0
   | (cases u<;>first
       | exact Qi q0
       | (refine Qw (wpAny_load hz ?_)
          dsimp only;split
          · exact Qw<|Yv<|Rv hz je λh' q1 q2=>hQ h' ⟨_,_,.inl J,q1⟩ q2
          · exact Qi q0))
end
abbrev zI (t:Bool)(h:qx)(l:qu):qx:=h.push { cls:=.type<|cond t "tuple_iterator" "list_iterator",data:=.fields #[.ref l,.int 0 0] }
abbrev zP3 (t:Bool)(h:qx)(l1 l2:qu):qx:=(zI t (zI t h l1) l2).push { cls:=.type "tuple",data:=.seq #[.ref h.objs.size,.ref (zI t h l1).objs.size] }
abbrev zP4 (t:Bool)(h:qx)(l1 l2:qu):qx:=(zP3 t h l1 l2).push { cls:=.type "tuple",data:=.seq #[.none,.none] }
abbrev zP5 (t:Bool)(h:qx)(l1 l2:qu):qx:=(zP4 t h l1 l2).push { cls:=.type "zip",data:=.fields #[.none,.bool false,.bool false,.ref (zI t (zI t h l1) l2).objs.size,.ref (zP3 t h l1 l2).objs.size] }
theorem zIu (t:Bool)(l1 l2:qu)(xs ys:jo):Meets (Builtin.«zip.__new__» ⟨[.type "zip",.ref l1,.ref l2],[]⟩) (λ_ R s=>IsSq t s.heap l1 xs/\IsSq t s.heap l2 ys/\R (.ok<|.ret<|.ref (zP4 t s.heap l1 l2).objs.size) { s with heap:=zP5 t s.heap l1 l2 }) :=
 .of_wp λprog w A R s h=>by
  obtain⟨hp,g,d,tk,os⟩:=s;obtain⟨q1,q2,h⟩:=h;have hsub:=sub_zip;cases t with
  | true =>
   have L1:Heap.IsTuple (Shared.heap ⟨hp,g,d,tk,os⟩) l1 xs:=q1;have L2:Heap.IsTuple (Shared.heap ⟨hp.push { cls:=.type "tuple_iterator",data:=.fields #[.ref l1,.int 0 0] },g,d,tk,os⟩) l2 ys:=Heap.IsTuple.push q2 _
   wp_walk using Yy L1,Yy L2
   exact⟨_,J,h⟩
  | false =>
   have L1:Heap.IsList (Shared.heap ⟨hp,g,d,tk,os⟩) l1 xs:=q1;have L2:Heap.IsList (Shared.heap ⟨hp.push { cls:=.type "list_iterator",data:=.fields #[.ref l1,.int 0 0] },g,d,tk,os⟩) l2 ys:=Heap.IsList.push q2 _
   wp_walk using Tg L1,Tg L2
   exact⟨_,J,h⟩
abbrev fpz (n:qu):ko:=[n+4,n+2,n+3,n,n+1]
def zJg (t:Bool)(a b n:qu)(i:Nat)(h:qx):Prop:=ZAny h (n+4) (n+2) (n+3)/\IsPair h (n+2) (.ref n) (.ref<|n+1)/\(∃p q,IsPair h (n+3) p q)/\IsIr t h n a i/\IsIr t h (n+1) b i
def zJK {l1 l2:qu}{xs ys:jo}{Q:jl}(q1:IsSq t s.heap l1 xs)(q2:IsSq t s.heap l2 ys)(h:∀h',zJg t l1 l2 s.heap.objs.size 0 h'->(∀c o,s.heap.get? c=some o->h'.get? c=some o)->Q (.ref<|s.heap.objs.size+4) (!18)):wpAny (!9) A (call (.type "zip") [.ref l1,.ref l2]) Q E s:=by
 refine callType_new F.called_zip J (F.typeCall_zip_2 _ _) (F.newCall_zip_2 _ _) (λobj=>F.args_object_init_3 obj _ _) F.entry_zip_new (zIu t l1 l2 xs ys) ⟨q1,q2,?_⟩;have y1:(zI t s.heap l1).objs.size=_+1:=Ri ..;have y2:(zI t (zI t s.heap l1) l2).objs.size=s.heap.objs.size+2:=by rw[Ri,y1]
 have y3:(zP3 t s.heap l1 l2).objs.size=s.heap.objs.size+3:=by rw[Ri,y2]
 have y4:(zP4 t s.heap l1 l2).objs.size=s.heap.objs.size+4:=by rw[Ri,y3]
 have f5:(zP5 t s.heap l1 l2).get? (zP4 t _ l1 l2).objs.size=some _:=Qs _ J;have f4:(zP5 t s.heap l1 l2).get? (zP3 t _ l1 l2).objs.size=some _:=Qe _<|Qs _ rfl;have f3:(zP5 t s.heap l1 l2).get? (zI t _ l2).objs.size=some _:=Qe _<|Qe _<|Qs _ rfl;have f2:(zP5 t s.heap l1 l2).get? (zI t _ l1).objs.size=some _:=Qe _<|Qe _<|Qe _<|Qs _ rfl;have f1:(zP5 t s.heap l1 l2).get? _=some _:=Qe _<|Qe _<|Qe _<|Qe _<|Qs _ rfl;rw[y2,y3,y4] at f5;rw[y1,y2] at f3;rw[y3] at f4;rw[y1] at f2;rw[y4];exact⟨⟨_,f5,J⟩,h _ ⟨⟨_,_,.inl J,f5⟩,f3,⟨_,_,f4⟩,⟨_,f1,J,J⟩,⟨_,f2,J,J⟩⟩ λc o x=>Qe _<|Qe _<|Qe _<|Qe _<|Qe _ x⟩
def zUO (r:Vals xs j6)(h:j6[i]?=some u):∃x,xs[i]?=some x/\RelV x u:=by
 have hl:i < xs.length:=by rw[r.length];exact(v5 h).1
 obtain⟨u',h'⟩:=r.get<|Ql hl;simp_all
def zne (i j:Nat)(h:i≠j):n+i≠n+j:=by simp_all
def zRa {b n:qu}(hc:!23)(I:!4)(hf:∀c∈fpz n,fB X Z H c)(st:zJg t a b n i s.heap)(hq:SqB t X.K H a xs)(hq':SqB t X.K H b ys)(hQ:∀x y h',xs[i]?=some x->ys[i]?=some y->Inv X Z U (upd H s.heap.objs.size<|.tup [x,y]) (!18)->(∀c∈fpz n,fB X Z (upd H s.heap.objs.size<|.tup [x,y]) c)->zJg t a b n (i+1) h'->Q (some<|.ref s.heap.objs.size) (!18))(hN:∀h',(xs.length<=i\/ys.length<=i)->Inv X Z U H (!18)->Q none (!18)):wpAny (!5) X.A (pyNext<|.ref<|n+4) Q E s:=by
 obtain⟨j6,rv,p1⟩:=zSG I hq;obtain⟨jts,rv',p2⟩:=zSG I hq';obtain⟨h1,h2,⟨p,q,h3⟩,h4,h5⟩:=st;have apA:∀c∈fpz n,a≠c:=λc hc=>zKw I (hf c hc) hq;have apB:∀c∈fpz n,b≠c:=λc hc=>zKw I (hf c hc) hq';have D:ZApart (n+4) (n+2) (n+3) n (n+1) a b:=⟨zne 2 4 jb,zne 3 4 jb,zne 0 4 jb,zne 1 4 jb,zne 2 3 jb,zne 2 0 jb,zne 2 1 jb,zne 3 0 jb,zne 3 1 jb,zne 0 1 jb,apA _ je,apA _ je,apA _ je,apA _ je,apB _ je,apB _ je,apB _ je,apB _ je⟩
 have out:∀ {g:qx},Kz _ g (n+4) (n+3) n (n+1)->∀c o,c∉fpz n->s.heap.get? c=some o->g.get? c=some o:=λhk c o hc e=>hk c o (λz=>hc<|by simp[z]) (λz=>hc<|by simp[z]) (λz=>hc<|by simp[z]) (λz=>hc<|by simp[z]) e;refine zQp (I.ok.hd hc) D h1 h2 h3 h4 h5 p1 p2 (λu u' g hu hu' g1 g2 g3 g4 g5 hk=>?_) λg hx hk=>hN g (by simpa [rv.length,rv'.length] using hx)<|I.turnedL (t':=_) (fp:=fpz n) (out hk) hf;obtain⟨x,hx,ru⟩:=zUO rv (by simpa using hu);obtain⟨y,hy,ru'⟩:=zUO rv' (by simpa using hu');have neT:∀c∈fpz n,c≠s.heap.objs.size:=λc hc z=>by
  obtain⟨o1,e1,_⟩:=h4;obtain⟨o2,e2,_⟩:=h5;obtain⟨f,bb,_,e3⟩:=h1;have:c < s.heap.objs.size:=by
   simp only[Qj,Ry,Uz] at hc;rcases hc with q | q | q | q | q<;>rw[q]
   .exact Qa e3
   .exact Qa h2
   .exact Qa h3
   .exact Qa e1
   .exact Qa e2
  exact Wx _<|z ▸ this
 exact hQ x y g hx hy (I.turnedNew (t':=_) (out hk) hf (Qg _) ⟨by show 2<=sizeLine;exact Wa<|wN jb,[u,u'],.cons ru<|.cons ru' .nil,⟨_,g5,J,_,J⟩⟩) (λc hc=>⟨by rw[zD<|neT c hc];exact(hf c hc).1,(hf c hc).2⟩) ⟨g1,hk _ _ D.a1 D.a5 D.a6 D.a7 h2,g2,g3,g4⟩
def Itz (t:Bool)(K:jk)(a b:qu):It :=
 ⟨λi H=>∃xs ys x y,SqB t K H a xs/\SqB t K H b ys/\xs[i]?=some x/\ys[i]?=some y,λi H x H'=>∃p v u,H p=none/\x = .ref p/\H'=upd H p (.tup [v,u])/\(∀xs,SqB t K H a xs->xs[i]?=some v)/\∀ys,SqB t K H b ys->ys[i]?=some u,
  λi H=>∃xs ys,SqB t K H a xs/\SqB t K H b ys/\(xs.length<=i\/ys.length<=i)⟩
def zTQ {l:List α}{x:α}(h:l[i]?=some x)(k:l.length<=i):False:=by simp_all
theorem zRk (t:Bool)(a b n:qu):Turn P w K tg (Itz t K a b) (fpz n) (n+4) (zJg t a b n) where
 mem:=je
 obj:=λi h st c hc=>by
  obtain⟨⟨f,bb,_⟩,h2,⟨p,q,h3⟩,⟨o1,e1⟩,⟨o2,e2⟩⟩:=st;simp only[Qj,Ry,Uz] at hc;rcases hc with z | z | z | z | z<;>subst z
  .simp_all
  .simp_all
  .simp_all
  .simp_all
  .simp_all
 keep:=λi h h' ⟨h1,h2,⟨p,q,h3⟩,h4,h5⟩ kk=>⟨h1.to<|kk _ je,kk _ je _ h2,⟨p,q,kk _ je _ h3⟩,h4.to<|kk _ je,h5.to<|kk _ je⟩
 item:=by
  sleep 6
  subst hP hw hK;obtain⟨xs,ys,x,y,hq,hq',hx,hy⟩:=hg;refine zRa hc I hf st hq hq' (λx' y' g e1 e2 I1 hf1 st1=>⟨_,J,zGh st1.1 λg' z' t'=>?_⟩) λg l _=>(l.elim (zTQ hx)<|zTQ hy).elim;rw[hx] at e1;cases e1;rw[hy] at e2;cases e2;obtain⟨_,s2,⟨p,q,s3⟩,s4,s5⟩:=st1;exact⟨.ref s.heap.objs.size,_,I1.turnedL (h':=g') (t':=_) (fp:=fpz n) (λc o hc e=>(t'.2 c λz=>hc<|by simp[z]).trans e) hf1,J,⟨s.heap.objs.size,x,y,I.fresh,J,J,λzs hs=>by rw[zK4 I hs hq];exact hx,λzs hs=>by rw[zK4 I hs hq'];exact hy⟩, ⟨z',(t'.2 _<|zne 2 4 jb).trans s2,⟨p,q,(t'.2 _<|zne 3 4 jb).trans s3⟩,s4.extBut t'.extBut<|zne 0 4 jb,s5.extBut t'.extBut<|zne 1 4 jb⟩,λc hc=>(hf1 c hc).1⟩
 done:=by
  sleep 6
  subst hP hw hK;obtain⟨xs,ys,hq,hq',hx⟩:=hg;exact zRa hc I hf st hq hq' (λx y g e1 e2 _ _ _=>(hx.elim (zTQ e1)<|zTQ e2).elim) λg _ I1=>⟨J,I1⟩
 self:=λ_ _ _ _ _ st h=>by obtain⟨f,bb,_,hz⟩:=st.1;exact Ol ⟨_,hz,J⟩ F.slot_zip_iter<|Ey F.slot_zip_iter ⟨_,hz,rfl⟩ F.entry_zip_iter (by show wpAny _ _ (ret<|.ref<|n+4) _ _ _;exact Qi ⟨_,J,"zip",_,⟨_,hz,J⟩,F.slot_zip_next.lookup,h⟩)<|F.args_zip_iter_1 _
theorem zUk:∀ {ls:ko} {us:jn},Vals (ls.map .ref) us->us=ls.map .ref
 | [],_,h=>by cases h;rfl
 | _::_,_,h=>by
  cases h with
  | cons p q=>cases p;rw[zUk q];rfl
def eF (xs ys:kd):kd:=(xs.zip ys).map λp=>.tup [p.1,p.2]
def zKT {xs ys:kd}(h:(eF xs ys)[i]?=some d):∃x y,xs[i]?=some x/\ys[i]?=some y/\d = .tup [x,y]:=by unfold eF at h;rw[Eu] at h;obtain⟨⟨x,y⟩,q,rfl⟩:=k9 h;obtain⟨q1,q2⟩:=List.getElem?_zip_eq_some.mp q;exact⟨_,_,q1,q2,J⟩
def zMc (xs ys:kd):(eF xs ys).length=min xs.length ys.length:=by simp[eF]
def zPP {b:qu}{us:kl}{es:kd}(h:SqB t K G a vs)(r:Reps K G ds vs)(h':SqB t K G b us)(r':Reps K G es us):bH K (Itz t K a b) G<|eF ds es:=by
 intro i G2 H2 s1 s2;have q:=zXC (!12) h;have q':=zXC (!12) h';refine⟨λd hd=>?_,λhi=>⟨vs,us,q,q',?_⟩⟩
 .obtain⟨x,y,h1,h2,rfl⟩:=zKT hd;obtain⟨v,e1,rv⟩:=r.get h1;obtain⟨u,e2,ru⟩:=r'.get h2;refine⟨⟨vs,us,v,u,q,q',e1,e2⟩,λx' H3 yy=>?_⟩;obtain⟨p,v',u',hp,rfl,rfl,y1,y2⟩:=yy;have f1:=y1 vs q;rw[e1] at f1;cases f1;have f2:=y2 us q';rw[e2] at f2;cases f2;have s3:=Step.laid (o:=.tup [v,u]) s2 hp;exact⟨_,s3,xU.mpr ⟨p,_,J,.of zH,zP.mpr ⟨_,_,J,(rv.mono s1).mono s3.gg,zP.mpr ⟨_,_,J,(ru.mono s1).mono s3.gg,yX.mpr J⟩⟩⟩⟩
 .rw[zMc] at hi;rw[<-r.length,<-r'.length];lia
section
variable{a b:r8}
def zWR (f g:Ef):Lf:=λO=>(f O).bind λx=>(g O).bind λy=>match x,y with | .tup xs,.tup ys=>some (eF xs ys) | _,_=>none
def zNR (f g:Ef):Lf:=λO=>(f O).bind λx=>(g O).bind λy=>match x,y with | .lst xs,.lst ys=>some (eF xs ys) | _,_=>none
def zOD (t:Bool){f:Lf}(hF:∀O ds,f O=some ds->∃xs ys,fa O=some (mkS t xs)/\fb O=some (mkS t ys)/\ds=eF xs ys)(hg:Gl X "zip")(hm:X.mg "zip"=none)(ha:!10)(hb:PF X b fb)(hs:starEach [a,b] X.env=[(false,eval a X.env),(false,eval b X.env)])(hs2:starEach [b] X.env=[(false,eval b X.env)]):PFI X tg (.Call (.Name "zip" p) [a,b] [] pos) f:=by
 intro Z s U H R I q;obtain⟨G0,H0,G,O,ds,j0,hf,kk⟩:=q;obtain⟨xs,ys,h1,h2,rfl⟩:=hF O ds hf;have hA:=yS ha (yS hb yF (!6)) (!8) pos Z s U H (λvs H'=>∃a b us ws G',vs=[.ref a,.ref b]/\Step G H G' H'/\SqB t X.K G' a us/\Reps X.K G' xs us/\SqB t X.K G' b ws/\Reps X.K G' ys ws) I ⟨G0,H0,G,O,_,j0,h1,λv H1 G1 s1 r1=>⟨G0,H0,G1,O,_,j0.step s1,h2,λu H2 G2 s2 r2=>by obtain⟨a,us,rfl,q1,q2⟩:=zLO<|r1.mono s2.gg;obtain⟨b,ws,rfl,q3,q4⟩:=zLO r2;exact⟨a,b,us,ws,G2,J,s1.trans s2,q1,q2,q3,q4⟩⟩⟩
 refine Call_<|iQ I hg hm jg<|Rf (thn hA λus s1 ⟨vs,H1,I1,r1,l1,l2,ws,zs,G1,e1,st1,q1,q2,q3,q4⟩=>?_) (!8) (by rw[hs2];rfl);subst e1;obtain⟨u,u',rfl,ru,ru'⟩:=zUG r1;cases ru;cases ru';obtain⟨j6,rv,p1⟩:=zSG I1<|zXC st1.sub q1;obtain⟨jts,rv',p2⟩:=zSG I1<|zXC st1.sub q3;refine zJK p1 p2 λh' st hk=>(zRk (tg:=tg) (K:=X.K) t l1 l2 _).self _ 0 _ _ _ st ⟨_,fpz s1.heap.objs.size,_,_,H1,J,I1.kept hk,zRk t l1 l2 s1.heap.objs.size,st,λb hb=>?_,kk _ H1 G1 st1<|zPP q1 q2 q3 q4⟩;have hb':s1.heap.objs.size<=b:=by simp only[Qj,Ry,Uz] at hb;rcases hb with z | z | z | z | z<;>(rw[z];first | exact Qg _ | exact Nat.le_add_right _ _)
 exact I1.fpOk hb'<|I1.hok.fresh hb'
theorem zT8 (hg:Gl X "zip")(hm:X.mg "zip"=none)(ha:!10)(hb:PF X b fb)(hs:starEach [a,b] X.env=[(false,eval a X.env),(false,eval b X.env)]:=by rfl)(hs2:starEach [b] X.env=[(false,eval b X.env)]:=by rfl):PFI X tg (.Call (.Name "zip" p) [a,b] [] pos)<|zWR fa fb:=zOD true (λO ds h=>by
 obtain⟨x,h1,h⟩:=k8 h;obtain⟨y,h2,h⟩:=k8 h;split at h<;>cases h
 exact⟨_,_,h1,h2,J⟩) hg hm ha hb hs hs2
theorem zOF (hg:Gl X "zip")(hm:X.mg "zip"=none)(ha:!10)(hb:PF X b fb)(hs:starEach [a,b] X.env=[(false,eval a X.env),(false,eval b X.env)]:=by rfl)(hs2:starEach [b] X.env=[(false,eval b X.env)]:=by rfl):PFI X tg (.Call (.Name "zip" p) [a,b] [] pos)<|zNR fa fb:=zOD false (λO ds h=>by
 obtain⟨x,h1,h⟩:=k8 h;obtain⟨y,h2,h⟩:=k8 h;split at h<;>cases h
 exact⟨_,_,h1,h2,J⟩) hg hm ha hb hs hs2
end
end L2
variable{v:qv}{t:TS}{body:Sf}{vs:jn}{C:qu}{xs:kd}{ys:ki}
namespace L2
def zXp (f:D->D->ky):kd->kd->ky
 | x::xs,y::ys=>(f x y).bind λa=>(zXp f xs ys).map λb=>a&&b
 | _,_=>some true
def eqD:Nat->D->D->ky
 | _+1,.int i,.int j=>some<|i==j
 | _+1,.bl i,.bl j=>some<|i==j
 | _+1,.str i,.str j=>some<|i==j
 | _+1,.non,.non=>some true
 | n+1,.tup xs,.tup ys=>(zXp (eqD n) xs ys).map λb=>b&&xs.length==ys.length
 | n+1,.lst xs,.lst ys=>if xs.length=ys.length then zXp (eqD n) xs ys else some false
 | _,_,_=>none
def zRA (d d':D):eqD 0 d d'=none:=rfl
def iC (f:D->D->ky)(xs ys:kd)(j:Nat):Bool:=match xs[j]?,ys[j]? with | some a,some c=>(f a c).getD true | _,_=>true
theorem zW4 {f:D->D->ky}:∀ {xs ys:kd} {b:Bool},zXp f xs ys=some b->b=(List.range<|min xs.length ys.length).all (iC f xs ys)/\∀(j:Nat) (a c:D),xs[j]?=some a->ys[j]?=some c->f a c=some (iC f xs ys j)
 | [],_,_,h=>by cases h;exact⟨je,λj a c e=>by simp at e⟩
 | _::_,[],_,h=>by cases h;exact⟨je,λj a c _ e=>by simp at e⟩
 | x::xs,y::ys,b,h=>by
  obtain⟨a,h1,h⟩:=k8 h;obtain⟨b',h2,rfl⟩:=k9 h;obtain⟨e1,e2⟩:=zW4 h2;constructor
  .rw[Qk,Qk,Nat.succ_min_succ,Ie,List.all_cons,List.all_map];congr 1;simp[iC,h1]
  .intro j p q hp hq;cases j with
   | zero =>simp at hp hq;subst hp;subst hq;simp[iC,h1]
   | succ j =>have:=e2 j p q (!6) (!6);simpa [iC] using this
section
def zSo (I:!4)(sub:Same G H):∀(n:Nat) (d d':D) (x:V) (k:Bool),eqD n d d'=some k->Rep X.K G d x->Rep X.K G d' x->k=true:=by
 intro n;induction n with
 | zero=>intro d d' x k h;rw[zRA] at h;cases h
 | succ n ih =>
  have many:∀(ds es) (vs) (b),zXp (eqD n) ds es=some b->Reps X.K G ds vs->Reps X.K G es vs->b=true:=by
   intro ds;induction ds with
   | nil=>intro es vs b h _ _;cases h;rfl
   | cons d r ihr =>
    intro es vs b h r1 r2;cases es with
    | nil=>cases h;rfl
    | cons e t =>obtain⟨a,h1,h⟩:=k8 h;obtain⟨b',h2,rfl⟩:=k9 h;obtain⟨v,vr,rfl,q1,q2⟩:=zP.mp r1;obtain⟨v',vr',e',q3,q4⟩:=zP.mp r2;cases e';rw[ih d e v a h1 q1 q3,ihr t vr b' h2 q2 q4];rfl
  intro d d' x k h r1 r2;cases d with
  | int i =>
   cases d' with
   | int j=>cases h;rw[yW] at r1 r2;rw[r1] at r2;cases r2;simp
   | _=>cases h
  | bl i =>
   cases d' with
   | bl j=>cases h;rw[wT] at r1 r2;rw[r1] at r2;cases r2;simp
   | _=>cases h
  | str i =>
   cases d' with
   | str j=>cases h;rw[xZ] at r1 r2;rw[r1] at r2;cases r2;simp
   | _=>cases h
  | non =>
   cases d' with
   | non=>cases h;rfl
   | _=>cases h
  | tup ds =>
   cases d' with
   | tup es =>obtain⟨b,h1,rfl⟩:=k9 h;obtain⟨p,vs,e1,q1,q2⟩:=xU.mp r1;obtain⟨p',vs',e2,q3,q4⟩:=xU.mp r2;rw[e1] at e2;cases e2;have ev:=I.tuple_inj (sub.tup q1)<|sub.tup q3;subst ev;rw[many ds es vs b h1 q2 q4,q2.length,q4.length];simp
   | _=>cases h
  | lst ds =>
   cases d' with
   | lst es =>change (if (_:Nat)=_ then _ else _)=_ at h;obtain⟨p,vs,e1,q1,q2⟩:=wZ.mp r1;obtain⟨p',vs',e2,q3,q4⟩:=wZ.mp r2;rw[e1] at e2;cases e2;have ev:=I.list_inj (sub.seq q1)<|sub.seq q3;subst ev;rw[Qh<|by rw[q2.length,q4.length]] at h;exact many ds es vs k h q2 q4
   | _=>cases h
  | obj C ns ds=>cases d'<;>cases h
  | exc C ns ds=>cases d'<;>cases h
  | dct ks ds=>cases d'<;>cases h
def zIR (I:!4)(sub:Same G H):∀(n:Nat) (A:qy) (d d':D) (x y:V) (u v:qv) (k:Bool),A.units+n < cLine->eqD n d d'=some k->Rep X.K G d x->Rep X.K G d' y->RelV x u->RelV y v -> SeqAt.RcAt A s u v k/\SeqAt.RcNeAt A s u v (!k)/\SeqAt.EqAt A s u v k:=by
 intro n;induction n with
 | zero=>intro A d d' x y u v k _ h;rw[zRA] at h;cases h
 | succ n ih =>
  intro A d d' x y u v k hu h r1 r2 ru rv;have hu1:A.units < cLine:=jc;have hin:A.in1.units+n < cLine:=by show _+1+n < cLine;lia
  cases d with
  | int i =>
   cases d' with
   | int j=>cases h;rw[yW] at r1 r2;subst r1;subst r2;obtain⟨t,rfl⟩:=ru;obtain⟨t',rfl⟩:=rv;exact⟨SeqAt.RcAt.int_int _ _ _ _,SeqAt.RcNeAt.int_int _ _ _ _,SeqAt.EqAt.int_int _ _ _ _⟩
   | _=>cases h
  | bl i =>
   cases d' with
   | bl j=>cases h;rw[wT] at r1 r2;subst r1;subst r2;cases ru;cases rv;exact⟨SeqAt.RcAt.bool_bool _ _,SeqAt.RcNeAt.bool_bool _ _,SeqAt.EqAt.bool_bool _ _⟩
   | _=>cases h
  | str i =>
   cases d' with
   | str j=>cases h;rw[xZ] at r1 r2;subst r1;subst r2;obtain⟨t,rfl⟩:=ru;obtain⟨t',rfl⟩:=rv;exact⟨SeqAt.RcAt.str_str _ _ _ _,SeqAt.RcNeAt.str_str _ _ _ _,SeqAt.EqAt.str_str _ _ _ _⟩
   | _=>cases h
  | non =>
   cases d' with
   | non=>cases h;rw[sQ] at r1 r2;subst r1;subst r2;cases ru;cases rv;exact⟨SeqAt.RcAt.none_none,SeqAt.RcNeAt.none_none,Pd _⟩
   | _=>cases h
  | tup ds =>
   cases d' with
   | tup es =>
    obtain⟨b,h1,rfl⟩:=k9 h;obtain⟨p,vs,rfl,q1,q2⟩:=xU.mp r1;obtain⟨p',vs',rfl,q3,q4⟩:=xU.mp r2;cases ru;cases rv;obtain⟨j6,w1,t1,_⟩:=I.tuple<|sub.tup q1;obtain⟨jts,w2,t2,_⟩:=I.tuple<|sub.tup q3;obtain⟨e1,e2⟩:=zW4 h1;have l1:_=_:=q2.length.trans w1.length;have l2:_=_:=q4.length.trans w2.length;have he:∀j (a1:j < _) (a2:j < jts.toArray.size),SeqAt.EqAt _ s j6.toArray[j] jts.toArray[j] (iC (eqD n) ds es j):=λj a1 a2=>by
     have b1:j < ds.length:=by rw[l1];simpa using a1
     have b2:j < es.length:=by rw[l2];simpa using a2
     obtain⟨v1,f1,g1⟩:=q2.get<|Ql b1;obtain⟨v2,f2,g2⟩:=q4.get<|Ql b2;obtain⟨u1,f3,g3⟩:=w1.get f1;obtain⟨u2,f4,g4⟩:=w2.get f2;have x1:j6.toArray[j]=u1:=by have:=(v5 f3).2;simpa using this
     have x2:jts.toArray[j]=u2:=by have:=(v5 f4).2;simpa using this
     rw[x1,x2];exact(ih _ _ _ v1 v2 u1 u2 _ hin (e2 j _ _ (Ql b1)<|Ql b2) g1 g2 g3 g4).2.2
    have ek:((List.range<|min j6.toArray.size jts.toArray.size).all (iC (eqD n) ds es)&&j6.toArray.size==jts.toArray.size)=(b&&ds.length==es.length):=by rw[Qd,Qd,<-l1,<-l2,e1]
    have R1:=SeqAt.RcAt.tuples t1 t2 hu1 he;have R2:=SeqAt.RcNeAt.tuples t1 t2 hu1 he;rw[ek] at R1 R2;refine⟨R1,R2,?_⟩
    by_cases hp:p=p'
    .subst hp;rw[(zSo I sub (n+1) (.tup ds) (.tup es) (.ref p) _ h r1 r2)];exact Pd _
    .exact .of_refs hp R1
   | _=>cases h
  | lst ds =>
   cases d' with
   | lst es =>
    change (if (_:Nat)=_ then _ else _)=_ at h;obtain⟨p,vs,rfl,q1,q2⟩:=wZ.mp r1;obtain⟨p',vs',rfl,q3,q4⟩:=wZ.mp r2;cases ru;cases rv;obtain⟨j6,w1,t1,_⟩:=I.list<|sub.seq q1;obtain⟨jts,w2,t2,_⟩:=I.list<|sub.seq q3;have l1:_=_:=q2.length.trans w1.length;have l2:_=_:=q4.length.trans w2.length;have fin:SeqAt.RcAt A s (.ref p) (.ref p') k/\SeqAt.RcNeAt A s (.ref p) (.ref p') (!k):=by
     split at h
     .rename_i hl;obtain⟨e1,e2⟩:=zW4 h;have he:∀j (a1:j < _) (a2:j < jts.toArray.size),SeqAt.EqAt _ s j6.toArray[j] jts.toArray[j] (iC (eqD n) ds es j):=λj a1 a2=>by
       have b1:j < ds.length:=by rw[l1];simpa using a1
       have b2:j < es.length:=by rw[l2];simpa using a2
       obtain⟨v1,f1,g1⟩:=q2.get<|Ql b1;obtain⟨v2,f2,g2⟩:=q4.get<|Ql b2;obtain⟨u1,f3,g3⟩:=w1.get f1;obtain⟨u2,f4,g4⟩:=w2.get f2;have x1:j6.toArray[j]=u1:=by have:=(v5 f3).2;simpa using this
       have x2:jts.toArray[j]=u2:=by have:=(v5 f4).2;simpa using this
       rw[x1,x2];exact(ih _ _ _ v1 v2 u1 u2 _ hin (e2 j _ _ (Ql b1)<|Ql b2) g1 g2 g3 g4).2.2
      have hsz:j6.toArray.size=jts.toArray.size:=by rw[Qd,Qd,<-l1,<-l2,hl]
      have ek:(List.range j6.toArray.size).all (iC (eqD n) ds es)=k:=by rw[e1,Qd,<-l1,<-hl,Uo]
      have R1:=SeqAt.RcAt.lists t1.isList t2.isList hsz hu1 he;have R2:=SeqAt.RcNeAt.lists t1.isList t2.isList hsz hu1 he;rw[ek] at R1 R2;exact⟨R1,R2⟩
     .rename_i hl;cases h;have hsz:(j6.toArray.size != jts.toArray.size)=true:=by
       rw[Qd,Qd,<-l1,<-l2];simpa using hl
      exact⟨SeqAt.RcAt.lists_lengths t1.isList t2.isList hsz hu1,SeqAt.RcNeAt.lists_lengths t1.isList t2.isList hsz hu1⟩
    refine⟨fin.1,fin.2,?_⟩
    by_cases hp:p=p'
    .subst hp;rw[(zSo I sub (n+1) (.lst ds) (.lst es) (.ref p) _ h r1 r2)];exact Pd _
    .exact .of_refs hp fin.1
   | _=>cases h
  | obj C ns ds=>cases d'<;>cases h
  | exc C ns ds=>cases d'<;>cases h
  | dct ks ds=>cases d'<;>cases h
variable{b:r8}{k:Nat}
def zRq:D->D->ky:=eqD 8
def zXe (x y:D):ky:=(eqD 8 x y).map (!·)
def zQs (hr:Room k X.A):CmR X .Eq zRq:=by refine⟨λx y H Q=>∃G d d' b,Same G H/\Rep X.K G d x/\Rep X.K G d' y/\eqD 8 d d'=some b/\Q _ H,?_,λd d' k G H x y Q h s rx ry q=>⟨G,d,d',k,s,rx,ry,h,q H G<|.refl s⟩⟩;intro Z s U H x y v u Q I rx ry ⟨G,d,d',b,sub,r1,r2,h,q⟩;have hu:=hr.units;exact(zIR I sub 8 X.A d d' x y v u b jc h r1 r2 rx ry).1 _ X.w X.xe _ ⟨.bl b,H,I,J,q⟩
def zS7 (hr:Room k X.A):CmR X .NotEq zXe:=by
 refine⟨λx y H Q=>∃G d d' b,Same G H/\Rep X.K G d x/\Rep X.K G d' y/\eqD 8 d d'=some b/\Q (.bl (!b)) H,?_,λd d' k G H x y Q h s rx ry q=>?_⟩
 .intro Z s U H x y v u Q I rx ry ⟨G,d,d',b,sub,r1,r2,h,q⟩;have hu:=hr.units;exact(zIR I sub 8 X.A d d' x y v u b jc h r1 r2 rx ry).2.1 _ X.w X.xe _ ⟨.bl _,H,I,J,q⟩
 .unfold zXe at h;obtain⟨b,h1,rfl⟩:=k9 h;exact⟨G,d,d',b,s,rx,ry,h1,q H G<|.refl s⟩
def zUF:kd->Option ki
 | []=>some []
 | .int i::r=>(zUF r).map λis=>i::is
 | _=>none
theorem zUM {K:jk}{G:Hp}:∀ {ds:kd} {is:ki} {vs:kl},zUF ds=some is->Reps K G ds vs->vs=is.map V.int
 | [],_,_,h,r=>by cases h;rw[yX] at r;rw[r];rfl
 | d::t,_,_,h,r=>by
  unfold zUF at h;split at h
  .simp_all
  .rename_i k t' h';cases h';obtain⟨v,vr,rfl,r1,r2⟩:=zP.mp r;obtain⟨ks,h1,rfl⟩:=k9 h;rw[zUM h1 r2,yW.mp r1];rfl
  .cases h
end
def Its (x:Str):It:=⟨λi _=>i < x.cps.size,λi H y H'=>H'=H/\∃c,x.cps[i]?=some c/\y = .str ⟨#[c]⟩,λi _=>x.cps.size<=i⟩
theorem zMd (it:qu)(ty:String)(hty:ty="str_ascii_iterator"\/ty="str_iterator")(x:Str)(t:Tok):Turn P w K tg (Its x) [it] it (λi h=>h.IsStrIter it ty x t i) where
 mem:=je
 obj:=λi h st b hb=>by
  have e:=by simpa using hb
  subst e;obtain⟨o,e,c,d⟩:=st;exact⟨o,e,λv z=>by rw[d] at z;cases z⟩
 keep:=λi h h' st k=>by obtain⟨o,e,r⟩:=st;exact⟨o,k it je o e,r⟩
 item:=by
  sleep 6
  obtain⟨f0,f1,f2,f3,f4,f5⟩:=hf it je;have hg:i < _:=hg;have hx:x.cps[i]?=some x.cps[i]:=by simp[hg]
  rcases hty with rfl | rfl
  .refine wpAny_pyNext_ascii_item st hx λh' st' sb=>?_;have I1:=I.turned (t':=s.toks+1) (λb o hb e=>(sb.2 b hb).trans e) f0 f1 f3 f4 f5;obtain⟨o,e,c,d⟩:=id st';exact⟨_,J,zRC (s:={ s with heap:=h',toks:=_+1 }) e c d jb ⟨.str ⟨#[x.cps[i]]⟩,H,I1,⟨_,J⟩,⟨J,_,hx,J⟩,st',λb hb=>(hf b hb).1⟩⟩
  .refine wpAny_pyNext_wide_item st hx λh' st' sb=>?_;have I1:=I.turned (t':=s.toks+1) (λb o hb e=>(sb.2 b hb).trans e) f0 f1 f3 f4 f5;obtain⟨o,e,c,d⟩:=id st';exact⟨_,J,zRC (s:={ s with heap:=h',toks:=_+1 }) e c d jb ⟨.str ⟨#[x.cps[i]]⟩,H,I1,⟨_,J⟩,⟨J,_,hx,J⟩,st',λb hb=>(hf b hb).1⟩⟩
 done:=by
  sleep 6
  obtain⟨f0,f1,f2,f3,f4,f5⟩:=hf it je;have hg:_<=i:=hg;have hx:x.cps[i]?=none:=by simp[hg]
  rcases hty with rfl | rfl
  .exact wpAny_pyNext_ascii_end (I.ok.hd hc) st hx λh' eb=>⟨J,I.turned (t':=_) (λb o hb e=>eb b o hb e) f0 f1 f3 f4 f5⟩
  .exact wpAny_pyNext_wide_end (I.ok.hd hc) st hx λh' eb=>⟨J,I.turned (λb o hb e=>eb b o hb e) f0 f1 f3 f4 f5⟩
 self:=λ_ _ _ _ _ st h=>by
  rcases hty with rfl | rfl
  .exact wpAny_pyIter_striter_ascii st h
  .exact wpAny_pyIter_striter_wide st h
def zWk (x:Str):kd:=x.cps.toList.map λc=>.str ⟨#[c]⟩
def zPC:bH K (Its x) G<|zWk x:=by
 intro i G2 H2 s1 s2;have hl:(zWk x).length=x.cps.size:=by simp[zWk]
 refine⟨λd hd=>?_,λhi=>by rw[hl] at hi;exact hi⟩;have hi:i < x.cps.size:=by rw[<-hl];exact(v5 hd).1
 refine⟨hi,λy H3 q=>?_⟩;obtain⟨rfl,c,hc,rfl⟩:=q;unfold zWk at hd;rw[Eu,Array.getElem?_toList,hc] at hd;cases hd;exact⟨G2,.refl s2,xZ.mpr J⟩
section
variable{a b:r8}
def zDz (tl:TE):TI:=λU H R=>tl U H λx H1=>∃z,x = .str z/\R (Its z) H1
def zJf {l:r8}(hl:PE X l tl):PI X tg l<|zDz tl:=by
 refineλZ s U H R I h=>thn (hl Z s U H _ I h) λv s1 ⟨x,H1,I1,r1,q1⟩=>?_;obtain⟨z,e,q⟩:=q1;subst e;obtain⟨t,rfl⟩:=r1;have fin:∀(o) (ty),_->(s1.heap.push o).IsStrIter _ ty z t 0->PIE X Z U tg R _ { s1 with heap:=s1.heap.push o }:=λo ty hty st=>by
  refine⟨s1.heap.objs.size,[s1.heap.objs.size],_,_,H1,J,I1.kept λb o e=>Qe _ e,zMd _ ty hty z t,st,λb hb=>?_,q⟩;have e:=by simpa using hb
  subst e;exact I1.fpOk (Qg _)<|I1.hok.fresh<|Qg _
 cases ha:z.cps.all _
 .exact wpAny_pyIter_wide ha (fin _ _ (.inr J) ⟨_,Qs _ J,J,J⟩)
 .exact wpAny_pyIter_ascii ha (fin _ _ (.inl J) ⟨_,Qs _ J,J,J⟩)
def iS (f:Ef):Lf:=λO=>(f O).bind λd=>match d with | .str x=>some (zWk x) | _=>none
def zD5 (h:PF X e fa):PFI X tg e<|iS fa:=by
 refine PI.to (zJf h) ?_;rintro U H R ⟨G0,H0,G,O,ds,j0,hf,k⟩;obtain⟨d,h1,hf⟩:=k8 hf;cases d with
 | str x =>cases hf;exact⟨G0,H0,G,O,_,j0,h1,λv H1 G1 s1 r1=>⟨x,xZ.mp r1,k _ H1 G1 s1 zPC⟩⟩
 | _=>cases hf
def eB3 (g g':D->D->ky)(fa fb fc:Ef):Tf:=λO=>(fa O).bind λx=>(fb O).bind λy=>(g x y).bind λk=>if k=true then(fc O).bind λz=>g' y z else some false
def zKs {op':CmpOp}{g':D->D->ky}(hc1:CmR X op g)(hc2:CmR X op' g')(ha:!10)(hb:PF X b fb)(hc:PF X c fc)(hm:lastMarks [op,op'] [b,c]=false:=by with_unfolding_all rfl):PF X (.Compare a [op,op'] [b,c] pos)<|sE<|eB3 g g' fa fb fc:=by
 obtain⟨r,ho,hr⟩:=hc1;obtain⟨r',ho',hr'⟩:=hc2;refine PE.to (zLt ho ho' ha hb hc hm) ?_
 sleep 1
 obtain⟨b',hf2,rfl⟩:=zSg hf;obtain⟨x,h1,hf2⟩:=k8 hf2;obtain⟨y,h2,hf2⟩:=k8 hf2;obtain⟨kk,h3,hf2⟩:=k8 hf2;refine⟨G0,H0,G,O,_,j0,h1,λu H1 G1 s1 r1=>⟨G0,H0,G1,O,_,j0.step s1,h2,λv H2 G2 s2 r2=>hr x y kk G2 H2 u v _ h3 s2.sub (r1.mono s2.gg) r2 λH3 G3 s3=>⟨kk,J,?_⟩⟩⟩;split at hf2
 .rename_i hk;rw[Qh hk];obtain⟨z,h4,hf3⟩:=k8 hf2;exact⟨G0,H0,G3,O,_,((j0.step s1).step s2).step s3,h4,λw' H4 G4 s4 r4=>hr' y z b' G4 H4 v w' Q hf3 s4.sub ((r2.mono s3.gg).mono s4.gg) r4 λH5 G5 s5=>k _ _ G5 ((((!12).trans s3).trans s4).trans s5)<|wT.mpr rfl⟩
 .rename_i hk;rw[Qv hk];cases hf2;exact k _ _ G3 ((!12).trans s3)<|wT.mpr rfl
def zGu:D->D->qi
 | .int i,.int j=>some<|.int<|i+j
 | .str i,.str j=>if i.length+j.length<=lim then some (.str<|i++j) else none
 | _,_=>none
def sW (fa fb:Ef):Ef:=λO=>(fa O).bind λx=>(fb O).bind λy=>zGu x y
def mC (ha:!10)(hb:PF X b fb):PF X (.BinOp a .Add b pos)<|sW fa fb:=by
 refine PE.to (zYr (zKM.or zPY) ha hb) ?_
 sleep 3
 obtain⟨y,h2,hf⟩:=k8 hf;refine⟨G0,H0,G,O,_,j0,h1,λu H1 G1 s1 r1=>⟨G0,H0,G1,O,_,j0.step s1,h2,λv H2 G2 s2 r2=>?_⟩⟩;unfold zGu at hf;split at hf
 .cases hf;exact .inl ⟨_,_,yW.mp r1,yW.mp r2,k _ _ G2 (!12)<|yW.mpr rfl⟩
 .split at hf
  .rename_i hz;cases hf;exact .inr ⟨_,_,xZ.mp r1,xZ.mp r2,Wa<|wN hz,k _ _ G2 (!12)<|xZ.mpr rfl⟩
  .simp_all
 .simp_all
def zD6:V->ku->ku->Hp->VK->Prop:=λx lo hi H Q=>∃z,x = .str z/\z.length<=sizeLine/\Q (.str<|Txt.slice z lo hi) H
def zFV:SlR X zD6:=by
 intro Z s U H x v vl vu lo hi sl Q I rx hs pl pu h;obtain⟨z,rfl,hz,q⟩:=h;obtain⟨t,rfl⟩:=rx;refine⟨"str",_,F.slot_str_getitem.lookup,Ic s z t,?_⟩;have fin:∀t' k,EP X Z U Q _ { s with toks:=k }:=λt' k=>⟨.str _,H,I.tok k,⟨t',J⟩,q⟩
 cases pl with
 | none =>
  cases pu with
  | none=>exact Yo (l:=none) (u:=none) (st:=none) hs rfl<|Iu ⟨Ww (Ob z _ _) hz,fin⟩
  | int j tj=>exact Yo (l:=none) (u:=some (j,tj)) (st:=none) hs rfl<|Iu ⟨Ww (Ob z _ _) hz,fin⟩
 | int i ti =>
  cases pu with
  | none=>exact Yo (l:=some (i,ti)) (u:=none) (st:=none) hs rfl<|Iu ⟨Ww (Ob z _ _) hz,fin⟩
  | int j tj=>exact Yo (l:=some (i,ti)) (u:=some (j,tj)) (st:=none) hs rfl<|Iu ⟨Ww (Ob z _ _) hz,fin⟩
def zPQ (f:Ef)(lo hi:Of):Ef:=λO=>(f O).bind λd=>(lo O).bind λl=>(hi O).bind λu=>match d with | .str x=>if x.length<=lim then some (.str<|Txt.slice x l u) else none | _=>none
def zTY {fl fh:Of}(ha:!10)(hl:PFO X lo fl)(hh:PFO X hi fh):PF X (.Subscript a (.Slice lo hi none p2) pos)<|zPQ fa fl fh:=by
 refine PE.to (zXh zFV ha hl hh) ?_
 sleep 3
 obtain⟨l,h2,hf⟩:=k8 hf;obtain⟨u,h3,hf⟩:=k8 hf;cases x with
 | str z =>
  dsimp only at hf;split at hf
  .rename_i hz;cases hf;exact⟨G0,H0,G,O,_,j0,h1,λv H1 G1 s1 r1=>⟨G0,H0,G1,O,_,j0.step s1,h2,λH2 G2 s2=>⟨G0,H0,G2,O,_,(j0.step s1).step s2,h3,λH3 G3 s3=>⟨z,xZ.mp r1,Wa<|wN hz,k _ _ G3 ((!12).trans s3)<|xZ.mpr rfl⟩⟩⟩⟩
  .simp_all
 | _=>cases hf
end
section
variable{a b:r8}
def zMD:CallR X (.type "int") (λxs H Q=>∃x n,xs=[.str x]/\x.length<=640/\PySem.intText? x=some n/\Q (.int n) H):=by intro Z s U H xs us Q I r h;obtain⟨x,n,rfl,hl,hn,q⟩:=h;obtain⟨u,rfl,t,rfl⟩:=jM r;exact KIN.call_text hn hl ⟨.int n,H,I.tok _,⟨_,J⟩,q⟩
def zDQ:D->qi
 | .int i=>some<|.int i
 | .bl k=>some<|.int<|if k then 1 else 0
 | .str x=>if x.length<=640 then(PySem.intText? x).map .int else none
 | _=>none
def aR (f:Ef):Ef:=λO=>(f O).bind zDQ
def zV8 (hg:Gl X "int")(hm:X.mg "int"=none)(h:!10)(hs:!34:=by rfl):PF X (.Call (.Name "int" p) [a] [] pos)<|aR fa:=by
 refine PE.to (zYU (zML.or zMD) hg hm jg (yS h yF (!6)) jb J (!6) jg) ?_
 sleep 3
 sleep 4
 unfold zDQ at hf;split at hf
 .cases hf;exact .inl<|.inl ⟨_,by rw[yW.mp r1],k _ _ G1 s1<|yW.mpr rfl⟩
 .cases hf;exact .inl<|.inr ⟨_,by rw[wT.mp r1],k _ _ G1 s1<|yW.mpr rfl⟩
 .split at hf
  .rename_i hz;obtain⟨n,h2,rfl⟩:=k9 hf;exact .inr ⟨_,n,by rw[xZ.mp r1],hz,h2,k _ _ G1 s1<|yW.mpr rfl⟩
  .simp_all
 .simp_all
def zHr (fa fb:Ef):Ef:=λO=>(fa O).bind λx=>(fb O).bind λy=>match x,y with | .int i,.int j=>some (.int<|if j > i then j else i) | _,_=>none
def zKX (hc:!23)(hg:Gl X "max")(hm:X.mg "max"=none)(ha:!10)(hb:PF X b fb)(hs:starEach [a,b] X.env=[(false,eval a X.env),(false,eval b X.env)]:=by rfl)(hs2:starEach [b] X.env=[(false,eval b X.env)]:=by rfl):PF X (.Call (.Name "max" p) [a,b] [] pos)<|zHr fa fb:=by
 refine PE.to (vB (zM1 hc) hg hm jg (yS ha (yS hb yF (!6))<|by rw[hs,hs2]) jb rfl (by rw[hs,hs2]) (by rw[hs2];rfl)) ?_;rintro U H Q ⟨G0,H0,G,O,d,j0,hf,k⟩;obtain⟨x,h1,hf⟩:=k8 hf;obtain⟨y,h2,hf⟩:=k8 hf;refine⟨G0,H0,G,O,_,j0,h1,λu H1 G1 s1 r1=>⟨G0,H0,G1,O,_,j0.step s1,h2,λv H2 G2 s2 r2=>?_⟩⟩;split at hf
 .cases hf;exact⟨_,_,by rw[yW.mp r1,yW.mp r2],k _ _ G2 (!12)<|yW.mpr rfl⟩
 .simp_all
def zUJ (i j:Int):Bool:=zXW i j||(decide (i.natAbs < 2^1000)&&decide (j.natAbs < 2^1000))
abbrev zSq:=eI zUJ λi j=>i*j
def zIw:OpR X (binaryOp .Mult)<|rI IntMulOk λi j=>.int<|i*j:=opI λ_ _ _ _ _ _ _ hc q=>mul_int q hc
def zUX {i:Int}(h:i.natAbs < 2^1000):Builtin.Int.intBits i<=2^20:=by
 unfold Builtin.Int.intBits;split
 .simp
 .rename_i hz;have hne:i.natAbs≠0:=λz=>by
   simp_all
  have:=(Nat.log2_lt hne).mpr h;lia
def zSI (ha:!10)(hb:PF X b fb):PF X (.BinOp a .Mult b pos)<|zSq fa fb:=zPO zIw (λi j h=>by
 unfold zUJ at h;rw[To] at h;rcases h with h | h
 .unfold zXW at h;simp only[To,Qm,Wo] at h;exact CMul.ok h
 .simp only[Qm,Wo] at h;exact .of_bits (zUX h.1) (zUX h.2)) ha hb
def zEe {n:Int}(h0:0<=n)(h1:n<=1000)(h2:z.length<=1000):MulOk z n:=by
 refine⟨?_,λq _=>?_,λq _=>?_⟩
 .lia
 .have hn:0 < n:=by lia
  have hz:(z.length:Int)<=1000:=jc;have hm:=Int.mul_le_mul hz h1 h0 je;have:=Int.le_ediv_of_mul_le hn (Ii hm<|show _<=2^63 - 1 by decide);lia
 .have hm:_*n.toNat<=1000*1000:=Ud h2 jc;exact Qn (by rw[Wk];lia)
def zP9:OpR X (binaryOp .Mult) (λx y H Q=>∃z n,x = .str z/\y = .int n/\0<=n/\n<=1000/\z.length<=1000/\Q (.str<|Txt.mul z n) H):=by
 sleep 5
 obtain⟨z,n,rfl,rfl,h0,h1,h2,q⟩:=h;obtain⟨t,rfl⟩:=rx;obtain⟨t',rfl⟩:=ry;exact SB.mul (zEe h0 h1 h2) λt' k=>⟨.str _,H,I.tok _,⟨_,J⟩,q⟩
def bI (fa fb:Ef):Ef:=λO=>(fa O).bind λx=>(fb O).bind λy=>match x,y with | .str z,.int n=>if decide (0<=n)&&decide (n<=1000)&&decide (z.length<=1000) then some (.str<|Txt.mul z n) else none | _,_=>none
def zX4 (ha:!10)(hb:PF X b fb):PF X (.BinOp a .Mult b pos)<|bI fa fb:=by
 refine PE.to (zYr zP9 ha hb) ?_
 sleep 3
 obtain⟨y,h2,hf⟩:=k8 hf;refine⟨G0,H0,G,O,_,j0,h1,λu H1 G1 s1 r1=>⟨G0,H0,G1,O,_,j0.step s1,h2,λv H2 G2 s2 r2=>?_⟩⟩;split at hf
 .split at hf
  .rename_i hc;cases hf;simp only[Qm,Wo] at hc;exact⟨_,_,xZ.mp r1,yW.mp r2,hc.1.1,hc.1.2,hc.2,k _ _ G2 (!12)<|xZ.mpr rfl⟩
  .cases hf
 .cases hf
def zIJ:OpR X (binaryOp .Add) (λx y H Q=>∃l b xs zs,x = .ref l/\y = .ref b/\SqL X.K H l xs/\SqL X.K H b zs/\xs.length+zs.length<=sizeLine/\∀p,H p=none->Q (.ref p) (upd H p<|.lst<|xs++zs)):=by
 sleep 5
 obtain⟨l,b,xs,zs,rfl,rfl,hH,hB,hz,q⟩:=h;cases rx;cases ry;obtain⟨j6,r,pl,_⟩:=I.list hH;obtain⟨its2,r2,pl2,_⟩:=I.list hB;obtain⟨⟨cls,dd,data,sl⟩,ho,hc,n,hd⟩:=pl.isList;obtain⟨⟨cls2,dd2,data2,sl2⟩,ho2,hc2,n2,hd2⟩:=pl2.isList;subst hc hd hc2 hd2;have hl:=r.length;have hl2:=r2.length;have e:j6.toArray++its2.toArray=(j6++its2).toArray:=je;refine Oc ⟨_,ho,J⟩ ⟨_,ho2,J⟩ noFill_list_add seq_list_add PySem.F.slot_list_add PySem.F.entry_list_add (PySem.F.args_list_add_2 _ _) (list_addW l b _ _ n n2 dd dd2 sl sl2 (!8)) ⟨ho,ho2,?_⟩;rw[e];exact⟨.ref _,_,I.lnew (r.append r2) (!8),J,q _ I.fresh⟩
def cL (ha:zP6 X a ga)(hb:zP6 X b gb):PFr X (.BinOp a .Add b pos)<|gE ga gb:=by
 refine PE.toR (zYr zIJ ha hb) ?_
 sleep 1
 obtain⟨xs,h1,hf⟩:=k8 hf;obtain⟨ys,h2,hf⟩:=k8 hf;obtain⟨rfl,h3⟩:=zZv hf;refine⟨G0,H0,G,O,_,j0,h1,λp vs H1 G1 s1 hq rs=>⟨G0,H0,G1,O,_,j0.step s1,h2,λq us H2 G2 s2 hq2 rs2=>⟨p,q,vs,us,J,J,(s1.sub.trans s2.hh).seq hq,s2.sub.seq hq2,?_,λl hl=>?_⟩⟩⟩
 .rw[<-rs.length,<-rs2.length,<-Qo];exact Wa<|wN h3
 .have s3:=Step.own (o:=.lst<|vs++us) s2.sub hl;exact k l _ _ G2 ((!12).trans s3) ((!12).hh.free hl) zH (s2.sub.free hl)<|(rs.mono s2.gg).append rs2
end
structure FunD (K:jk)(x qual:Str)(st:r9)(f:qu)(fd:FuncData):Prop where
 ex:∃(oc:qv) (od:kr) (dV kV doc pm:qv) (an:kr) (j9 ct:qv) (osl:Array kn),
  fd=PySem.W.fnOf x qual (qB st) (xI st) (zV st) dV kV doc pm an j9 ct/\K.lookup f=some ⟨oc,od,.func fd,osl⟩/\codeIn K j9 qual=true
 kp:keepIn K (.ref f)=true
theorem aS {K:jk}{G:Hp}{f:Str}{d:D}:∀ {ns:kh} {ds:kd} {vs:kl},ns.length=ds.length->Reps K G ds vs->(ns.zip ds).lookup f=some d->∃u,(ns.zip vs).lookup f=some u/\Rep K G d u
 | [],_,_,_,_,h=>by simp at h
 | n::ns,[],_,hl,_,_=>by simp at hl
 | n::ns,e::ds,_,hl,r,h=>by
  obtain⟨v,vr,rfl,r1,r2⟩:=zP.mp r;rw[Yp,Wp] at h ⊢;cases hq:f==n with
  | true=>rw[hq] at h;cases h;exact⟨v,J,r1⟩
  | _=>rw[hq] at h;exact aS (by simpa using hl) r2 h
section
variable{a:r8}
def yK (c f:Str)(fa:Ef):Ef:=λO=>(fa O).bind λd=>match d with | .obj c' ns ds=>if c'=c then(ns.zip ds).lookup f else none | _=>none
def zGr {c f:Str}(hC:ClsAt X.K c C)(hcl:Cls X.K C)(hn:NoAttr X.K C f)(ha:!10)(hb:attributeBase a f X.env (eval a X.env)=eval a X.env:=by rfl):PF X (.Attribute a f pos)<|yK c f fa:=by
 refine PE.to (zVE ha hb) ?_
 sleep 1
 obtain⟨x,h1,hf2⟩:=k8 hf;cases x with
 | obj c' ns ds =>
  dsimp only at hf2
  by_cases hc:c'=c
  .rw[Qh hc] at hf2;subst hc
   sleep 4
   obtain⟨C',q,dx,vs,e0,rfl,e1,e2,e3⟩:=sO.mp r1;have ec:=hC.one e0;subst ec;obtain⟨u,e4,e5⟩:=aS e2 e3 hf2;exact⟨q,_,dx,ns.zip vs,u,J,s1.sub _ _ e1,hcl,hn,e4,k _ _ G1 s1 e5⟩
  .simp_all
 | _=>cases hf2
theorem zQA {f:Str}{y:V}:∀ {ns:kh} {vs:kl},ns.length=vs.length->f∉ns->mO f y (ns.zip vs)=(ns++[f]).zip (vs++[y])
 | [],[],_,_=>rfl
 | [],_::_,h,_=>by simp at h
 | _::_,[],h,_=>by simp at h
 | n::ns,v::vs,h,hf=>by show(if n=f then _ else _::mO f y (ns.zip vs))=_;rw[Qv λz=>hf (by rw[z];exact Qf),zQA (by simpa using h) λz=>hf<|Qp _ z];rfl
def zKr (K:jk)(C:qu)(ns:kh)(g:Lf):TS:=λDD U H=>∃(G0 H0 G:Hp) (O:kj) (p dx:qu) (pre:kh) (us:kl) (xs ds:kd),
 Good K G0 H0 G H U O/\NoOw O/\U[0]?=some (some<|.ref p)/\H p=some (.ins C dx<|pre.zip us)/\G p=none/\H0 p=none/\pre.length=us.length/\(pre++ns).Nodup/\(pre++ns).length<=900/\Reps K G xs us/\g O=some ds /\
 ∀H' G' vs,Step G0 H0 G' H'->H' p=some (.ins C dx<|(pre++ns).zip vs)->G' p=none->Reps K G' (xs++ds) vs->DD.nx U H'
def zXB:PSs X []<|zKr X.K C [] zS:=by refineλZ s U H D I h=>zZ4 Z s U H D I ?_;obtain⟨G0,H0,G,O,p,dx,pre,us,xs,ds,j0,now,hs,hp,gp,h0,hl,nd,hz,rs,hg,k⟩:=h;cases hg;exact k H G us j0.st (by rw[Wf] at *;exact hp) gp (!8)
def vA {f:Str}{g:Lf}{rest:qg}(hcl:Cls X.K C)(hn:NoAttr X.K C f)(hself:X.N[0]?=some x)(hvis:!29)(he:PF X e fa)(hr:PSs X rest<|zKr X.K C ns g)(hd:!17:=by decide)(hcd:!28:=by decide)(hs:swapsWith e (some<|.Attribute (!15) f pos') pos.line X.env=pure false:=by rfl):PSs X (.Assign [.Attribute (!15) f pos'] e pos::rest)<|zKr X.K C (f::ns)<|zY fa g:=by
 refineλZ s U H D I h=>tY (zYS (wI hself hvis hd hcd) he hs) hr Z s U H D I ?_;obtain⟨G0,H0,G,O,p,dx,pre,us,xs,ds,j0,now,hself,hp,gp,h0,hl,nd,hz,rs,hg,k⟩:=h;obtain⟨d,dr,h1,h2,rfl⟩:=zUS hg;have e1:pre++f::ns=(pre++[f])++ns:=je;refine⟨G0,H0,G,O,d,j0,h1,λv H1 G1 s1 r1=>⟨.ref p,hself,p,C,dx,pre.zip us,J,s1.hh _ _ hp,hcl,hn,?_,?_⟩⟩
 .grind
 .have hne:H p≠none:=by rw[hp];exactλz=>nomatch z
  have gp1:=(s1.new p _ hp J).trans gp;refine⟨G0,H0,G1,O,p,dx,pre++[f],us++[v],xs++[d],dr,(j0.step s1).wrX now gp1 h0,now,hself,?_,gp1,h0,by rw[Qo,Qo,hl];rfl,by rw[<-e1];exact nd,by rw[<-e1];exact hz,(rs.mono s1.gg).snoc r1,h2,λH' G' vs st q1 q2 q3=>?_⟩
  .rw[zH,zQA hl λz=>(Uj.mp nd).2.2 f z f Qf J]
  .refine k H' G' vs st (by rw[e1];exact q1) q2 ?_;rw[show xs++d::dr=(xs++[d])++dr by simp];exact q3
end
def spI (K:jk)(C:qu)(ns:kh)(n:Nat)(f:kd->ka):Sp:=λvs H Q _=>∃(p dx:qu) (rest:kl) (G H0:Hp) (ds xs:kd),vs = .ref p::rest/\H=upd (upd H0 dx<|.own p) p (.ins C dx [])/\H0 p=none/\H0 dx=none/\dx≠p/\Same G H0/\Reps K G ds rest/\ds.length=n/\f ds=some xs /\
 ∀H' G' us,Step G H0 G' H'->H' p=some (.ins C dx<|ns.zip us)->G' p=none->Reps K G' xs us->Q .non H'
theorem jX {K:jk}{G H0 H:Hp}(m:Nat):∀ {ds:kd} {vs:kl},Reps K G ds vs->Paired (RB K H0 G H) (vs.map some++List.replicate m none) (ds.map .fz++List.replicate m .no)
 | [],_,h=>by
  rw[yX] at h;subst h;induction m with
  | zero=>exact .nil
  | succ n ih=>rw[Tb];exact .cons .no ih
 | d::r,_,h=>by obtain⟨v,vr,rfl,h1,h2⟩:=zP.mp h;exact .cons (.fz h1)<|jX m h2
theorem zXO (m:Nat)(ds:kd):NoOw<|.no::(ds.map B.fz++List.replicate m B.no):=λj b h=>by
 cases j with
 | zero=>cases h;rfl
 | succ j=>rw[List.getElem?_cons_succ] at h;exact zSS m ds j b h
def kD (N:Nat)(ds:kd):kj:=.no::(ds.map .fz++List.replicate (N - (ds.length+1)) .no)
section
variable{k:Nat}
def zSV {g:Lf}(F:Fun K x qual st f fd)(S:FnScope N (sf::ps)<|zV st)(hnd:ns.Nodup)(j5:ns.length<=900)(hb:∀(j9:qv) (A:qy) (outer:qb) (s:qw) (H:Hp) (E:XK),Room k (!35)->PSs (qP CX0 P w K mg base N qual (zV st) f j9 A outer s H E).nox (xI st) (zKr K C ns g)):FnOk P w K mg base CX0 (k+1) f fd (sf::ps)<|spI K C ns ps.length λds=>g<|kD N.length ds:=by
 refine F.ok S (λvs H Q E h=>?_) λj9 A _ s H vs Q E hr h=>⟨_,hb j9 A _ s H E hr,?_⟩
 .obtain⟨p,dx,rest,G,H0,ds,xs,rfl,_,_,_,_,_,rs,hl,_⟩:=h;rw[Qk,Qk,<-rs.length,hl]
 .obtain⟨p,dx,rest,G,H0,ds,xs,rfl,rfl,h1,h2,h3,sub,rs,hl,hf,k⟩:=h;have hp1:(upd H0 dx<|.own p) p=none:=by rw[zD h3.symm];exact h1
  have st1:Step G H0 G<|upd H0 dx<|.own p:=Step.own sub h2;have st2:Step G H0 G<|upd (upd H0 dx _) p<|.ins C dx []:=st1.trans<|Step.own st1.sub hp1;have j0:Good K G H0 G (upd (upd H0 dx<|.own p) p<|.ins C dx []) (oN N<|.ref p::rest)<|kD N.length ds:=by refine⟨st2,?_,(zXO _ ds).apart⟩;unfold oN kD;rw[Qk,<-rs.length];exact .cons .no<|jX _ rs
  refine⟨G,H0,G,_,p,dx,[],[],[],xs,j0,zXO _ ds,J,zH,sub.free h1,h1,J,hnd,j5,yX.mpr J,hf,λH' G' us s' q1 q2 q3=>k H' G' us s' q1 q2 q3⟩
def nE (c:Str)(ns:kh)(n:Nat)(f:kd->ka)(g:Lf):Ef:=λO=>(g O).bind λds=>if ds.length=n then(f ds).bind λxs=>if ns.length=xs.length then some (.obj c ns xs) else none else none
def qE {k:Nat}{fI:qu}{c:Str}{f:kd->ka}(hC:ClsAt X.K c C)(M:Mk X.K C fI)(F:FnOk X.prog X.w X.K X.mg X.base CX0 k fI fd ps<|spI X.K C ns n f)(hr:Room (k+1) X.A)(hm:X.mg c=some (!1))(hb:Binds X.K fd ps [])(hg:Gl X c)(ha:PFA X (e::es) ga) (hdb:(c==("__debug__":Str))=false:=by decide) (he:!24:=by rfl) (hpl:(backTo pos (!26)).any (·.1)=false:=by rfl):PF X (.Call (.Name c p) (e::es) [] pos)<|nE c ns n f ga:=by
 refine PE.to (zSB M F hr hg hm hb .nil jO ha hdb he hpl) ?_;rintro U H Q ⟨G0,H0,G,O,d,j0,hf,k⟩;obtain⟨ds,h1,hf⟩:=k8 hf;split at hf
 .rename_i hl;obtain⟨xs,h2,hf⟩:=k8 hf;split at hf
  .rename_i hn;cases hf;exact⟨G0,H0,G,O,_,j0,h1,λvs H1 G1 s1 r1 x dx hx hdx hne=>⟨x,dx,vs++[],G1,H1,ds,xs,J,J,hx,hdx,hne,s1.sub,by rw[Wf];exact r1,hl,h2,λH' G' us s' q1 q2 q3=>⟨J,(k _ _ _ (s1.trans<|s'.frz hx q1 q2)<|sO.mpr ⟨C,x,dx,us,hC,rfl,zH,hn,q3.mono<|Same.new q2⟩)⟩⟩⟩
  .simp_all
 .simp_all
def zE8:D->D->ky
 | d,.non=>some<|gR d
 | .bl x,.bl y=>some<|x==y
 | .non,.bl _=>some false
 | .int _,.bl _=>some false
 | .str _,.bl _=>some false
 | .tup _,.bl _=>some false
 | .lst _,.bl _=>some false
 | .obj _ _ _,.bl _=>some false
 | .exc _ _ _,.bl _=>some false
 | _,_=>none
def zFo:OpR X (compareOp .Is) (λx y H Q=>∃k,y = .bl k/\Q (.bl (decide (x = .bl k))) H):=by
 sleep 5
 obtain⟨k,rfl,q⟩:=h;cases ry;cases x with
 | bl z=>cases rx;refine is_bool<|yB I q ?_;rw[zTM]
 | non=>cases rx;refine Tv jg jc<|yB I q rfl
 | int i=>obtain⟨t,rfl⟩:=rx;refine Tv jg je<|yB I q rfl
 | str i=>obtain⟨t,rfl⟩:=rx;refine Tv jg je<|yB I q rfl
 | byt i=>obtain⟨t,rfl⟩:=rx;refine Tv jg je<|yB I q rfl
 | flt i=>obtain⟨t,rfl⟩:=rx;refine Tv jg je<|yB I q rfl
 | ref i=>cases rx;refine Tv jg jc<|yB I q rfl
 | ty i=>cases rx;refine Tv jg jc<|yB I q rfl
theorem zG7:CmR X .Is zE8:=⟨_,zFw.or zFo,λd d' k G H x y Q h s rx ry q=>by
 have fin:∀(z) (v),d' = .bl z->x=v->k=decide (v = .bl z)->(λx y H Q=>y=V.non/\Q (.bl (decide (x = .non))) H) x y H Q\/(∃k,y = .bl k/\Q (.bl (decide (x = .bl k))) H):=λz v e1 e2 e3=>by subst e1;subst e2;exact .inr ⟨z,wT.mp ry,by rw[<-e3];exact q H G<|.refl s⟩
 cases d' with
 | non =>
  have hk:gR d=k:=by cases d<;>(cases h;rfl)
  refine .inl ⟨sQ.mp ry,?_⟩;rw[zU3 rx,hk];exact q H G<|.refl s
 | bl z =>
  cases d with
  | bl w=>cases h;exact fin z _ J (wT.mp rx)<|by rw[zTM]
  | non=>cases h;exact fin z _ J (sQ.mp rx) J
  | int i=>cases h;exact fin z _ J (yW.mp rx) J
  | str i=>cases h;exact fin z _ J (xZ.mp rx) J
  | tup ds=>cases h;obtain⟨p,_,e,_⟩:=xU.mp rx;exact fin z _ J e J
  | lst ds=>cases h;obtain⟨p,_,e,_⟩:=wZ.mp rx;exact fin z _ J e J
  | obj _ _ ds=>cases h;obtain⟨_,p,_,_,_,e,_⟩:=sO.mp rx;exact fin z _ J e J
  | exc _ _ ds=>cases h;obtain⟨_,p,_,_,_,e,_⟩:=zZK.mp rx;exact fin z _ J e J
  | dct _ ds=>cases h
 | _=>cases d<;>cases h⟩
theorem zQI {K:jk}{G:Hp}{ds:kd}{vs:kl}(h:Reps K G ds vs):∀k:Nat,Reps K G (List.replicate k ds).flatten (List.replicate k vs).flatten
 | 0=>yX.mpr J
 | k+1=>by exact h.append<|zQI h k
variable{j6:jo}{dd:kr}{y:qv}{q:Nat->Bool}{top:Int}
theorem zOK (hj:j < j6.size)(ht:(j:Int) < top)(hq:q j=true):∀(k i:Nat),j - i=k->i<=j->(∀m,i<=m->m < j->q m=false)->Meets (Builtin.«list.index.loop» ⟨[.ref l,y,rawInt i,rawInt top],[]⟩) (λA R s=>s.heap.get? l=some { cls:=.type "list",dict:=dd,data:=.seq j6 n,slots:=sl }/\(∀m (h:m < j6.size),SeqAt.EqAt A.in1 s j6[m] y (q m))/\R (.ok<|.ret<|.int j s.toks) { s with toks:=s.toks+1 })
 | 0,i,hk,hi,_=>by
  have e:i=j:=jc;subst e;intro P w A R s hyp;obtain⟨at_,eqs,fin⟩:=hyp
  wp_walk using _ at_
  rw[show(if _ < top then j6[(_:Int).toNat]? else none)=some j6[i] by simp[ht]];refine Qw<|eqs i hj P w _ _ ?_
  wp_walk
  exact fin
 | k+1,i,hk,hi,hno=>by
  intro P w A R s hyp;obtain⟨at_,eqs,fin⟩:=hyp;have lt:i < j6.size:=jc;have lt2:(i) < top:=jc
  wp_walk using _ at_
  rw[show(if _ < top then j6[(_:Int).toNat]? else none)=some j6[i] by simp[lt2]];refine Qw<|eqs i lt P w _ _ ?_;rw[hno i (Qg _) jc]
  wp_walk
  exact⟨Tj Pv _,Rg Pb<|by exact zOK hj ht hq k (i+1) jc jc (λm h1 h2=>hno m jc h2) P w A R _ ⟨at_,eqs,fin⟩⟩
def zLK (hj:j < j6.size)(hs:(j:Int) < 2^63 - 1)(hq:q j=true)(hno:∀m,m < j->q m=false):Meets (Builtin.«list.index» ⟨[.ref l,y],[]⟩) λA R s=>s.heap.get? l=some { cls:=.type "list",dict:=dd,data:=.seq j6 n,slots:=sl }/\(∀m (h:m < j6.size),SeqAt.EqAt A.in1 s j6[m] y (q m))/\R (.ok<|.ret<|.int j s.toks) { s with toks:=s.toks+1 }:=by
 intro P w A R s hyp;obtain⟨at_,eqs,fin⟩:=hyp
 wp_walk using _ at_
 exact⟨Tj Pv _,Rg Pb<|by exact zOK hj hs hq _ 0 rfl (Er _) (λm _ h2=>hno m h2) P w A R _ ⟨at_,eqs,fin⟩⟩
end
def ixD (d:D):kd->Option Nat
 | []=>none
 | x::r=>(eqD 8 x d).bind λb=>if b=true then(if (r.all λz=>(eqD 8 z d).isSome) then some 0 else none) else(ixD d r).map (· + 1)
theorem zQ6 {d:D}:∀ {ds:kd} {j:Nat},ixD d ds=some j->j < ds.length/\(∀(m:Nat) (x:D),ds[m]?=some x->∃b,eqD 8 x d=some b/\(m < j->b=false)/\(m=j->b=true))
 | [],_,h=>by cases h
 | x::r,j,h=>by
  obtain⟨b,h1,h⟩:=k8 h;split at h
  .rename_i hb;split at h
   .rename_i ha;cases h;refine⟨je,λm z hz=>?_⟩;cases m with
    | zero=>cases hz;exact⟨b,h1,λq=>absurd q<|Wx _,λ_=>hb⟩
    | succ m =>have:=Rx.mp ha z<|El hz;obtain⟨b',hb'⟩:=Wh.mp this;exact⟨b',hb',λq=>jc,λq=>jc⟩
   .cases h
  .rename_i hb;obtain⟨i,h2,rfl⟩:=k9 h;obtain⟨h3,h4⟩:=zQ6 h2;refine⟨by rw[Qk];lia,λm z hz=>?_⟩;cases m with
   | zero=>cases hz;exact⟨b,h1,λ_=>by simpa using hb,λq=>jc⟩
   | succ m =>simp_all
section
variable{b:r8}
def zLT (X:Cx):V->kl->Hp->VK->Prop:=λx vs H Q=>∃l y G ds ws d j,x = .ref l/\vs=[y]/\Same G H/\SqL X.K H l ws/\Reps X.K G ds ws/\Rep X.K G d y/\ixD d ds=some j/\ds.length<=100000/\Q (.int (j:Nat)) H
def zL8 (hun:X.A.units+64 < cLine):MtR X "list.index"<|zLT X:=by
 intro Z s U H x xs v us Q I rx rv h;obtain⟨l,y,G,ds,ws,d,j,rfl,rfl,sub,hq,rs,rd,hj,hl,q⟩:=h;cases rx;obtain⟨u,rfl,ru⟩:=rv.one;obtain⟨j6,r,pl,_⟩:=I.list hq;obtain⟨⟨cls,dd⟩,ho,hc,n,hd⟩:=pl.isList;subst hc hd;obtain⟨h1,h2⟩:=zQ6 hj;have l1:=rs.length;have l2:=r.length;have bs:∀m,∃b:Bool,(m < j->b=_)/\_/\∀_,SeqAt.EqAt X.A.in1 s j6.toArray[m] u b:=λm=>by
  by_cases hm:m < ds.length
  .obtain⟨b,q1,q2,q3⟩:=h2 m _<|Ql hm;refine⟨b,q2,q3,λh=>?_⟩;obtain⟨v1,f1,g1⟩:=rs.get<|Ql hm;obtain⟨u1,f3,g3⟩:=r.get f1;have x1:j6.toArray[m]=u1:=by
    have:=(v5 f3).2;simpa using this
   rw[x1];exact(zIR I sub 8 _ _ _ v1 y u1 u _ (by show _+1+8 < cLine;lia) q1 g1 rd g3 ru).2.2
  .exact⟨decide _,λz=>Qn jc,λz=>Qc z,λh=>absurd h (by rw[Qd,<-l2,<-l1];exact hm)⟩
 have hjs:j < j6.toArray.size:=by rw[Qd,<-l2,<-l1];exact h1
 exact Th F.slot_list_index ⟨_,ho,J⟩ F.entry_list_index (F.args_list_index_2 _ _) (zLK hjs jc ((bs j).choose_spec.2.1 J) λm hm=>(bs m).choose_spec.1 hm) ⟨ho,λm h=>(bs m).choose_spec.2.2 h,⟨.int _,H,I.tok _,⟨_,rfl⟩,q⟩⟩
def zKe (g:Lf)(f:Ef):Ef:=λO=>(g O).bind λds=>(f O).bind λd=>if ds.length<=100000 then(ixD d ds).map λj=>.int (j:Nat) else none
def zJu (ht:PE X c<|tBM X.K "list" (zLT X) (zLn X.K ga)<|fY (tF X.K fb) zW2):PF X c<|zKe ga fb:=by
 refine PE.to ht ?_
 sleep 1
 obtain⟨ds,h1,hf⟩:=k8 hf;obtain⟨y,h2,hf⟩:=k8 hf;split at hf
 .rename_i hl;obtain⟨j,h3,rfl⟩:=k9 hf;exact⟨G0,H0,G,O,_,j0,h1,λq vs H1 G1 s1 hq rs=>⟨.inl ⟨J,vs,s1.sub.seq hq⟩,G0,H0,G1,O,_,j0.step s1,h2,λv H2 G2 s2 r2=>⟨q,v,G2,ds,vs,y,j,J,J,s2.sub,(s1.sub.trans s2.hh).seq hq,rs.mono s2.gg,r2,h3,hl,k _ _ G2 (!12)<|yW.mpr rfl⟩⟩⟩
 .simp_all
end
end L2
variable{c:Str}
namespace L2
def ObjOk.got (x:ObjOk P w H h a o):∃u,h.get? a=some u:=by
 cases o with
 | lst xs=>obtain⟨_,_,_,_,e⟩:=x;exact⟨_,e⟩
 | tup xs=>obtain⟨_,_,_,_,e,_⟩:=x;exact⟨_,e⟩
 | dK j8=>obtain⟨_,_,_,_,o,_,_,e,_⟩:=x;exact⟨_,e⟩
 | dT j8=>obtain⟨_,_,_,_,o,_,_,e,_⟩:=x;exact⟨_,e⟩
 | set S n=>obtain⟨o,_,_,_,e,_⟩:=x;exact⟨_,e⟩
 | ins C dx fs=>obtain⟨_,_,_,e,_⟩:=x;exact⟨_,e⟩
 | own y=>exact x
 | xd fs=>obtain⟨_,⟨_,_,_,e,_⟩,_⟩:=x;exact⟨_,e⟩
 | rng lo hi=>obtain⟨_,_,_,e⟩:=x;exact⟨_,e⟩
 | frz ob u=>obtain⟨e,_⟩:=x;exact⟨_,e⟩
 | tbl ps=>exact⟨_,x⟩
 | met f y=>exact⟨_,x⟩
 | ext φ=>obtain⟨_,q,_⟩:=x;exact q
abbrev zFa:qh:=[.type "ValueError",.type "Exception",.type "BaseException",.type "object"]
def zNb (K:jk)(C:qu):Prop:=∃bm N nm q bs hdct sn sub ab col dd k0 k1 k2 k3 k5,K.lookup C=some (excClassObj nm q C N bs bm hdct sn sub ab col dd k0 k1 k2 k3 k5 "ValueError.__new__") /\
 nsOkIn K N=true/\PySem.W.nsIn K N "__init__"=some none/\tailIn K zFa bm=true
section
variable{g:Array GenState}{d:Drawn}{t:Nat}{os:OsState}{o:Obj}{K:Frag}
def zFm (X:K.In h)(hx:h.get? a=some o)(hc:o.cls = .ref C)(g3:subIn K (!1) (.type "object")=some true)(hq:R (.ok<|.ret (!1)) ⟨h,g,d,t,os⟩):codeAny (!9) A (.call (.builtin "getset_descriptor.__get__") ⟨[.builtin "object.__class__",.ref a,.ref C],[]⟩) R ⟨h,g,d,t,os⟩:=by
 refine Im F.slot_gs_get.plain F.entry_gs_get<|F.slot_gs_get.check _ _ _ _ _ _ _ _ F.typeOf_object_class (F.args_gs_get _ _ _) ?_
 repeat (any_goals (first | assumption | (with_reducible refine Tk hx ?_;rw[hc]) | wp_step))
 refine(looks_subIn (M:=!9) X g3).at ?_
 repeat (any_goals (first | assumption | (with_reducible refine _ hx ?_;rw[hc]) | wp_step))
 refine⟨Code.quiet_builtin _ ja,Rg F.entry_object_class ?_⟩
 repeat (any_goals (first | assumption | (with_reducible refine Tk hx ?_;rw[hc]) | wp_step))
def zKV {Q:Fin->qw->Prop}(X:K.In h)(hx:h.get? a=some o)(hc:o.cls = .ref C)(g2:findIn K (!1) "__class__"=some (some (!38)))(g3:subIn K (!1) (.type "object")=some true)(hq:Q (.done<|.ret (!1)) ⟨h,g,d,t,os⟩):wpAny (!9) A (Builtin.«object.__getattribute__» ⟨[.ref a,.str "__class__" tk],[]⟩) Q E ⟨h,g,d,t,os⟩:=by
 have hT5:=F.typeOf_object_class;have f6:=F.slot_gs_get.lookup;have f7:=F.slot_gs_set.lookup
 repeat (any_goals (first | assumption | (with_reducible refine Tk hx ?_;rw[hc]) | with_reducible refine(looks_findIn (M:=!9) X g2).at ?_ | wp_step))
 refine zFm X hx hc g3 ?_
 repeat (any_goals (first | assumption | wp_step))
def zL3 {id:String}{rest:jn}{Q:Unit->qw->Prop}{n:String}(X:K.In h)(hx:h.get? a=some o)(hc:o.cls = .ref C)(hk:builtinKind id=some .slot)(hsp:splitId id=some ("BaseException",n))(g4:subIn K (!1) (.type "BaseException")=some true)(ha:argsOk id ⟨.ref a::rest,[]⟩) (hq:Q () ⟨h,g,d,t,os⟩):wpAny M A (checkBuiltinCall id ⟨.ref a::rest,[]⟩) Q E ⟨h,g,d,t,os⟩:=by
 simp only[checkBuiltinCall,hk,hsp]
 repeat (first | (with_reducible refine Tk hx ?_;rw[hc]) | with_reducible refine(looks_subIn (M:=M) X g4).at ?_ | wp_step)
 cases hsig:Manifest.signature? id with
 | none=>exact Qi hq
 | some sig =>simp only[argsOk,hsig] at ha;show wpAny M A (Bind.checkArgs id sig ⟨.ref a::rest,[]⟩) Q E _;rw[show Bind.checkArgs id sig ⟨.ref a::rest,[]⟩=pure () from ha];exact Qi hq
def zMe:builtinKind "BaseException.__getattribute__"=some .slot:=jg
def zNs:splitId "BaseException.__getattribute__"=some ("BaseException","__getattribute__"):=jg
def zH9 (X:K.In h)(hx:h.get? a=some o)(hc:o.cls = .ref C)(g2:findIn K (!1) "__class__"=some (some (!38)))(g3:subIn K (!1) (.type "object")=some true)(g4:subIn K (!1) (.type "BaseException")=some true)(hq:R (.ok<|.ret (!1)) ⟨h,g,d,t,os⟩):codeAny (!9) A (.call (.builtin "BaseException.__getattribute__") ⟨[.ref a,.str "__class__" tk],[]⟩) R ⟨h,g,d,t,os⟩:=by exact Im F.excAttr_ValueError.ga.plain F.entry_bexc_ga<|zL3 (id:="BaseException.__getattribute__") X hx hc zMe zNs g4 (F.args_bexc_ga (.ref a)<|.str "__class__" tk)<|zKV X hx hc g2 g3 hq
def zEv {Q:jl}(X:K.In h)(hx:h.get? a=some o)(hc:o.cls = .ref C)(g1:findIn K (!1) "__getattribute__"=some (some<|.builtin "BaseException.__getattribute__"))(g5:findIn K (!1) "__getattr__"=some none)(g2:findIn K (!1) "__class__"=some (some (!38)))(g3:subIn K (!1) (.type "object")=some true)(g4:subIn K (!1) (.type "BaseException")=some true)(hq:Q (!1) ⟨h,g,d,t,os⟩):wpAny (!9) A (getAttrBy (.ref a) (.str "__class__" tk) false) Q E ⟨h,g,d,t,os⟩:=by
 have f3:=F.excAttr_ValueError.ga.bind<|.ref a
 repeat (any_goals (first | assumption | (with_reducible refine Tk hx ?_;rw[hc]) | with_reducible refine(looks_findIn (M:=!9) X g1).at ?_ | with_reducible refine(looks_findIn (M:=!9) X g5).at ?_ | wp_step))
 refine zH9 X hx hc g2 g3 g4 ?_
 repeat (any_goals (first | assumption | wp_step))
def zId (X:K.In h)(hx:h.get? a=some o)(hc:o.cls = .ref C)(g1:findIn K (!1) "__getattribute__"=some (some<|.builtin "BaseException.__getattribute__"))(g5:findIn K (!1) "__getattr__"=some none)(g2:findIn K (!1) "__class__"=some (some (!38)))(g3:subIn K (!1) (.type "object")=some true)(g4:subIn K (!1) (.type "BaseException")=some true)(hq:Q (some (!1)) ⟨h,g,d,t+1,os⟩):wpAny (!9) A (getAttr? (.ref a) "__class__") Q E ⟨h,g,d,t,os⟩:=by repeat (any_goals (first | assumption | with_reducible apply zEv X hx hc g1 g5 g2 g3 g4 | wp_step))
theorem zR9 (hcl:(clsIn K C).isSome=true)(g1:findIn K (!1) "__getattribute__"=some (some<|.builtin "BaseException.__getattribute__"))(g5:findIn K (!1) "__getattr__"=some none)(g2:findIn K (!1) "__class__"=some (some (!38)))(g3:subIn K (!1) (.type "object")=some true)(g4:subIn K (!1) (.type "BaseException")=some true):KitX K (.ref a) (!1) (λh=>∃o,h.get? a=some o/\o.cls = .ref C) where
 ty:=λM h X ⟨o,e1,e2⟩=>by
  intro A' Q' E' s' k q
  repeat (first | (with_reducible refine Tk (k _ _ e1) ?_;rw[e2]) | wp_step)
  exact q
 it:=λM h X _=>by
  unfold clsIn at hcl;split at hcl
  .rename_i c' d' cd' sl' ho;exactλA' Q' E' s' k q=>Qw<|Pl (k _ _<|X _ _ ho)<|Qi q
  .simp_all
 ne:=λh tp dd j6 n sl X htp=>by
  refine Bool.eq_false_iff.mpr λq=>?_;have e:=Value.ref.inj<|Yc.mp q;subst e;unfold clsIn at hcl;split at hcl
  .rename_i c' d' cd' sl' ho;cases ((X _ _ ho).symm.trans htp)
  .simp_all
 ca:=λ{prog w A E Q s} X p k=>by obtain⟨o,e1,e2⟩:=p;exact zId X e1 e2 g1 g5 g2 g3 g4 k
end
end L2
variable{a:r8}{Q:jl}
namespace L2
end L2
namespace L2
open Builtin Builtin.ObjectAttr
def zRz:qh->Bool
 | []=>false
 | v::r=>(v::r)==[.type "ValueError",.type "Exception",.type "BaseException",.type "object"]||match v with | .ref _=>zRz r | _=>false
end L2
namespace L2
structure XKit (K:jk)(C:qu):Prop where
 cl:(PySem.W.clsIn K C).isSome=true
 ga:PySem.W.findIn K (!1) "__getattribute__"=some (some<|.builtin "BaseException.__getattribute__")
 gt:PySem.W.findIn K (!1) "__getattr__"=some none
 gc:PySem.W.findIn K (!1) "__class__"=some (some (!38))
 so:PySem.W.subIn K (!1) (.type "object")=some true
 sb:PySem.W.subIn K (!1) (.type "BaseException")=some true
def zEM (K:jk)(C:qu):Prop:=∃nm q N bs bm sn sub ab col dd k0 k1 k2 k3 k5,K.lookup C=some (excClassObj nm q C N bs bm true sn sub ab col dd k0 k1 k2 k3 k5 "ValueError.__new__")/\zRz bm=true
def zP7 (K:jk)(C:qu):Bool:=isClsIn K C&&(PySem.W.findIn K (!1) "__getattribute__"==some (some<|.builtin "BaseException.__getattribute__"))&&(PySem.W.findIn K (!1) "__getattr__"==some none) &&
 (PySem.W.findIn K (!1) "__class__"==some (some (!38)))&&(PySem.W.subIn K (!1) (.type "object")==some true)&&(PySem.W.subIn K (!1) (.type "BaseException")==some true)
def zIQ (h:zP7 K C=true):XKit K C:=by unfold zP7 at h;simp only[Qm,Yc] at h;obtain⟨⟨⟨⟨⟨h1,h2⟩,h3⟩,h4⟩,h5⟩,h6⟩:=h;exact⟨h1,h2,h3,h4,h5,h6⟩
def zFd (K:jk)(C:qu):Bool:=(K.lookup C).any λo=>match o.data with
 | .cls c=>o.cls == .type "type"&&c.mro == .ref C::c.mro.tail&&o.slots.toList==[o.slots.getD 0 none,o.slots.getD 1 none,o.slots.getD 2 none,o.slots.getD 3 none,some<|.builtin "ValueError.__new__",o.slots.getD 5 none]&&c.hasDel==false&&tailIn K zFa c.mro.tail&&nsOkIn K c.ns&&PySem.W.nsIn K c.ns "__init__"==some none
 | _=>false
def zJa (q:zFd K C=true):zNb K C:=by
 obtain⟨⟨cl,dd,da,sl⟩,ho,q⟩:=(Option.any_eq_true _ _).mp q;cases da with
 | cls cd =>obtain⟨nm,bs,mro,ns,qn,hd,sn,sub,ab,col,del⟩:=cd;obtain⟨l⟩:=sl;simp only[Qm,Yc] at q;obtain⟨⟨⟨⟨⟨⟨rfl,e1⟩,e2⟩,rfl⟩,ht⟩,hok⟩,hni⟩:=q;generalize mro.tail=bm at e1 ht;subst e1;rw[e2] at ho;exact⟨bm,ns,nm,qn,bs,hd,sn,sub,ab,col,dd,_,_,_,_,_,ho,hok,hni,ht⟩
 | _=>cases q
def IsxOk (K:jk)(v:qv):qp->Prop
 | []=>True
 | (c,b)::r=>(∃C,ClsAt K c C/\XKit K C/\kitOne K (!1) v=some b)/\IsxOk K v r
theorem IsxOk.at {K:jk}{v:qv}:∀ {tb:qp} {c:Str} {b:Bool},IsxOk K v tb->tb.lookup c=some b->∃C,ClsAt K c C/\XKit K C/\kitOne K (!1) v=some b
 | [],_,_,_,h=>by cases h
 | (n,x)::r,c,b,⟨h1,h2⟩,h=>by
  rw[Wp] at h;cases hq:c==n with
  | true =>simp_all
  | _=>rw[hq] at h;exact h2.at h
def dY (K:jk)(v:qv)(l:List<|qu×Bool):Bool:=l.all λx=>kitOne K (.ref x.1) v==some x.2
def zXI:IsxOk K v []:=True.intro
def uN {b:Bool}(ca:ClsAt K c C)(k:XKit K C)(h:dY K v ((C,b)::r)=true)(rest:dY K v r=true->IsxOk K v tb):IsxOk K v<|(c,b)::tb:=by unfold dY at h;rw[List.all_cons,Qm] at h;exact⟨⟨C,ca,k,Yc.mp h.1⟩,rest h.2⟩
section
variable{b c:r8}
def zQY (hv:∀u,RelV vv u->u=v)(h:IsxOk X.K v tb):CallR X (.builtin "isinstance") (λxs H Q=>∃x G c ns ds b,xs=[x,vv]/\Same G H/\Rep X.K G (.exc c ns ds) x/\tb.lookup c=some b/\Q (.bl b) H):=by
 intro Z s U H xs us Q I r hh;obtain⟨x,G,c,ns,ds,b,rfl,sub,rx,ht,q⟩:=hh;obtain⟨u,u',rfl,ru,ru'⟩:=zUG r;have e:=hv _ ru';subst e;obtain⟨C,hC,hk,ho⟩:=h.at ht;obtain⟨C',a,od,vs,h0,rfl,h1,_⟩:=zZK.mp rx;have ec:=hC.one h0;subst ec;cases ru;obtain⟨⟨fs,h2⟩,_⟩:=(I.hok a _<|sub _ _ h1)
 exact Tp (zR9 hk.cl hk.ga hk.gt hk.gc hk.so hk.sb) I.kIn ⟨_,h2,J⟩ ho (λz=>nomatch z) λtk=>⟨.bl b,H,I.tok tk,J,q⟩
def zVp (tb:qp)(fa:Ef):Ef:=λO=>(fa O).bind λd=>match d with | .exc c _ _=>(tb.lookup c).map .bl | _=>none
def zLm {v:qv}(h:PE X e<|tCB (λxs H Q=>∃x G c ns ds b,xs=[x,vv]/\Same G H/\Rep X.K G (.exc c ns ds) x/\tb.lookup c=some b/\Q (.bl b) H)<|fY (tF X.K fa)<|fY (tC vv) zW2):PF X e<|zVp tb fa:=by
 refine PE.to h ?_
 sleep 3
 cases x with
 | exc c ns ds =>obtain⟨b,h2,rfl⟩:=k9 hf;exact⟨G0,H0,G,O,_,j0,h1,λv H1 G1 s1 r1=>⟨v,G1,c,ns,ds,b,J,s1.sub,r1,h2,k _ _ G1 s1<|wT.mpr rfl⟩⟩
 | _=>cases hf
def zPq {DN:Str}{DA:qu}(hok:IsxOk X.K (.ref DA) tb)(hmD:X.mg DN=some (.ref DA))(hgD:Gl X DN)(hg:Gl X "isinstance")(hm:X.mg "isinstance"=none)(h:!10)(hd:(DN==("__debug__":Str))=false:=by decide) (hs:starEach [a,.Name DN p1] X.env=[(false,eval a X.env),(false,eval (.Name DN p1) X.env)]:=by rfl):PF X (.Call (.Name "isinstance" p) [a,.Name DN p1] [] pos) (zVp tb fa) :=
 zLm (v:=.ref DA) (vB (zQY (vv:=.ref DA) (λ_ z=>z) hok) hg hm jg (yS h (yS (cM hgD hmD J hd) yF) (!6)) jb rfl (!6) jg)
def zHC {TT:String}(hT:bootBuiltins T=some (.type TT))(hok:IsxOk X.K (.type TT) tb)(hmT:X.mg T=none)(hgT:Gl X T)(hg:Gl X "isinstance")(hm:X.mg "isinstance"=none)(h:!10)(hn:T≠"__name__":=by decide) (hd:(T==("__debug__":Str))=false:=by decide) (hs:starEach [a,.Name T p1] X.env=[(false,eval a X.env),(false,eval (.Name T p1) X.env)]:=by rfl):PF X (.Call (.Name "isinstance" p) [a,.Name T p1] [] pos) (zVp tb fa) :=
 zLm (v:=.type TT) (vB (zQY (vv:=.ty TT) (λ_ z=>z) hok) hg hm jg (yS h (yS (zOh hgT hmT hT J hn hd) yF) (!6)) jb rfl (!6) jg)
structure XSt (K:jk)(C:qu):Prop where
 kit:XKit K C
 ob:zEM K C
 sa:PySem.W.findIn K (!1) "__setattr__"=some (some<|.builtin "object.__setattr__")
end
structure XMk (K:jk)(C f:qu):Prop where
 ob:zEM K C
 init:PySem.W.findIn K (!1) "__init__"=some (some<|.ref f)
 fn:isFn K (.ref f)=true
 kp:keepIn K (!1)=true
section
variable{b:r8}
def zXm (fa fb:Ef):Ef:=λO=>(fa O).bind λx=>(fb O).bind λy=>match x,y with | .int i,.int j=>some (.int<|if j < i then j else i) | _,_=>none
def zP8 (hc:!23)(hg:Gl X "min")(hm:X.mg "min"=none)(ha:!10)(hb:PF X b fb)(hs:starEach [a,b] X.env=[(false,eval a X.env),(false,eval b X.env)]:=by rfl)(hs2:starEach [b] X.env=[(false,eval b X.env)]:=by rfl):PF X (.Call (.Name "min" p) [a,b] [] pos)<|zXm fa fb:=by
 refine PE.to (vB (zNh hc) hg hm jg (yS ha (yS hb yF (!6))<|by rw[hs,hs2]) jb rfl (by rw[hs,hs2]) (by rw[hs2];rfl)) ?_;rintro U H Q ⟨G0,H0,G,O,d,j0,hf,k⟩;obtain⟨x,h1,hf⟩:=k8 hf;obtain⟨y,h2,hf⟩:=k8 hf;split at hf
 .rename_i i j _h;cases hf;exact⟨G0,H0,G,O,_,j0,h1,λv H1 G1 s1 r1=>⟨G0,H0,G1,O,_,j0.step s1,h2,λu H2 G2 s2 r2=>⟨i,j,by rw[yW.mp r1,yW.mp r2],k _ _ G2 (!12)<|yW.mpr rfl⟩⟩⟩
 .simp_all
theorem zU8:∀ {ns:ki} {j6:jn},Vals (ns.map V.int) j6->∃ps:List<|Int×Tok,j6=ps.map (λp=>Value.int p.1 p.2)/\ps.map (·.1)=ns
 | [],_,h=>by cases h;exact⟨[],J,J⟩
 | n::ns,_,h=>by
  cases h with
  | cons h1 h2 =>obtain⟨t,rfl⟩:=h1;obtain⟨ps,rfl,rfl⟩:=zU8 h2;exact⟨(n,t)::ps,J,J⟩
end
def zKv {t b:qu}(ht:IsTup s.heap t vs.toArray)(hb:IsTup s.heap b ws.toArray)(hv:vs=[])(h:Q (.ref b) s):wpAny (!9) A (binaryOp .Add (.ref t)<|.ref b) Q E s:=by obtain⟨⟨cls,dd,data,sl⟩,ho,hc,n,hd⟩:=id ht;obtain⟨⟨cls2,dd2,data2,sl2⟩,ho2,hc2,n2,hd2⟩:=id hb;subst hc hd hc2 hd2;exact Oc ⟨_,ho,J⟩ ⟨_,ho2,J⟩ Pr seq_tuple_add Iw Ul (Uh _ _) (tuple_addW0 t b _ _ n n2 dd dd2 sl sl2 (!8)) ⟨ho,ho2,h⟩
open HT in
def cC {t sl:qu}{lo hi:ku}(ht:IsTup s.heap t items)(hs:s.heap.IsSliceOf sl vl vu .none)(pl:IsPart vl lo)(pu:IsPart vu hi)(hw:sIx items.size 0 lo=0/\sIx items.size items.size hi=items.size)(h:Q (.ref t) s):wpAny (!9) A (getItem (.ref t)<|.ref sl) Q E s:=by
 obtain⟨os,hos,hcs,hds⟩:=id hs;have hTs:s.TypeIs (.ref sl) "slice":=⟨os,hos,hcs⟩
 unfold getItem
 try with_reducible refine Ru ?_
 refine Qw<|wpAny_sequenceKey ht.typeIs rfl ?_;refine Qw<|Ej ht.typeIs Tq<|Ey Tq ht.typeIs entry_tuple_getitem ?_<|args_tuple_getitem _ _;show wpAny _ _ (Builtin.Tuple.tupleItemsOf _ >>= _) _ _ s;refine Qw<|tupleItemsOf_ ht<|Qw<|wpAny_typeOf hTs<|Qw<|jU hs pl pu ?_;show wpAny _ _ (if (_==0&&_==1&&_==_)=true then _ else _) _ _ s;rw[Qh (!8)];exact Qw<|Qw<|wpAny_typeOf ht.typeIs<|Qi<|Qw<|Yv<|Qi ⟨_,rfl,Qi h⟩
section
variable{b:r8}
def zH2:OpR X (binaryOp .Add) (λx y H Q=>∃a b ys,x = .ref a/\y = .ref b/\SqT X.K H a []/\SqT X.K H b ys/\Q (.ref b) H):=by
 sleep 5
 obtain⟨a,b,ys,rfl,rfl,ha,hb,q⟩:=h;cases rx;cases ry;obtain⟨j6,r1,p1,_⟩:=I.tuple ha;obtain⟨its2,r2,p2,_⟩:=I.tuple hb;exact zKv p1 p2 (r1.nil_iff.mpr J) ⟨.ref b,H,I,J,q⟩
def zS2 (fa fb:Ef):Ef:=λO=>(fa O).bind λx=>(fb O).bind λy=>match x,y with | .tup xs,.tup ys=>if xs.length+ys.length<=1000 then some (.tup<|xs++ys) else none | _,_=>none
def zXJ (ha:!10)(hb:PF X b fb):PF X (.BinOp a .Add b pos)<|zS2 fa fb:=by
 refine PE.to (zYr (zHt.or zH2) ha hb) ?_
 sleep 3
 obtain⟨y,h2,hf⟩:=k8 hf;split at hf
 .rename_i xs ys _h;split at hf
  .rename_i hl;cases hf;refine⟨G0,H0,G,O,_,j0,h1,λv H1 G1 s1 r1=>⟨G0,H0,G1,O,_,j0.step s1,h2,λu H2 G2 s2 r2=>?_⟩⟩;obtain⟨q,vs,rfl,q1,q2⟩:=xU.mp<|r1.mono s2.gg;obtain⟨t,us,rfl,t1,t2⟩:=xU.mp r2;have s3:=s1.trans s2;cases xs with
   | nil =>subst q2;exact .inr ⟨q,t,us,J,J,s2.sub.tup q1,s2.sub.tup t1,k _ _ G2 s3<|xU.mpr ⟨t,us,rfl,t1,t2⟩⟩
   | cons d0 xr =>
    have hsl:1001<=_:=Wa<|wN jb;have e1:=q2.length;have e2:=t2.length;refine .inl ⟨q,t,vs,us,J,J,s2.sub.tup q1,s2.sub.tup t1,λz=>by rw[z] at e1;simp at e1,by rw[<-e1];lia,λz=>?_,λz p hp=>?_⟩
    .subst z;have z2:=Te.mp (by rw[e2];rfl);subst z2;rw[Wf] at k;exact k _ _ G2 s3<|xU.mpr ⟨q,vs,rfl,q1,q2⟩
    .have s4:=Step.laid (o:=.tup<|vs++us) s2.sub hp;exact k _ _ _ (s3.trans s4)<|xU.mpr ⟨p,_,rfl,.of zH,(q2.mono s4.gg).append<|t2.mono s4.gg⟩
  .simp_all
 .cases hf
def zIL:SlR X (λx lo hi H Q=>∃a xs,x = .ref a/\SqT X.K H a xs/\(HT.sIx xs.length 0 lo=0/\HT.sIx xs.length xs.length hi=xs.length)/\Q (.ref a) H):=by
 intro Z s U H x v vl vu lo hi sl Q I rx hs pl pu h;obtain⟨a,xs,rfl,hx,hw,q⟩:=h;cases rx;obtain⟨j6,r,ht,hz⟩:=I.tuple hx;have j5:j6.toArray.size=xs.length:=by rw[Qd];exact r.length.symm
 exact⟨"tuple",_,Tq.lookup,ht.typeIs,(cC ht hs pl pu (by rw[j5];exact hw) ⟨.ref a,H,I,rfl,q⟩)⟩
def zSk (f:Ef)(lo hi:Of):Ef:=λO=>(f O).bind λd=>(lo O).bind λl=>(hi O).bind λu=>match d with | .tup ds=>some (.tup<|fT ds l u) | _=>none
def zX3 {fl fh:Of}(ha:!10)(hl:PFO X lo fl)(hh:PFO X hi fh):PF X (.Subscript a (.Slice lo hi none p2) pos)<|zSk fa fl fh:=by
 refine PE.to (zXh (zF4.or zIL) ha hl hh) ?_
 sleep 3
 obtain⟨l,h2,hf⟩:=k8 hf;obtain⟨u,h3,hf⟩:=k8 hf;cases x with
 | tup ds =>
  cases hf;refine⟨G0,H0,G,O,_,j0,h1,λv H1 G1 s1 r1=>⟨G0,H0,G1,O,_,j0.step s1,h2,λH2 G2 s2=>⟨G0,H0,G2,O,_,(j0.step s1).step s2,h3,λH3 G3 s3=>?_⟩⟩⟩;obtain⟨q,vs,rfl,hq,rs⟩:=xU.mp r1;have s23:=s2.trans s3;have hqq:=(s1.sub.trans s23.hh).tup hq
  by_cases hw:HT.sIx vs.length 0 l=0/\HT.sIx vs.length vs.length u=vs.length
  .refine .inr ⟨q,vs,J,hqq,hw,?_⟩;have e:fT ds l u=ds:=by
    unfold fT;rw[rs.length,hw.1,hw.2,List.drop_zero,Nat.sub_zero,<-rs.length,List.take_length]
   rw[e] at k;exact k _ _ G3 (s1.trans s23)<|xU.mpr ⟨q,vs,rfl,s23.gg.tup hq,rs.mono s23.gg⟩
  .refine .inl ⟨q,vs,J,hqq,hw,λp hp=>?_⟩;have s4:=Step.laid (o:=.tup<|zTp vs l u) s23.sub hp;have e:Reps X.K G3 (fT ds l u)<|zTp vs l u:=by
    unfold zTp fT;rw[<-rs.length];exact((rs.mono s23.gg).drop _).take _
   exact k _ _ _ ((s1.trans s23).trans s4)<|xU.mpr ⟨p,_,rfl,.of zH,e.mono s4.gg⟩
 | _=>cases hf
def zIp (i:Nat)(fb:Ef):Ef:=λO=>match O[i]? with | some (.ow ds)=>(fb O).bind (λy=>match y with | .int k=>atI ds k | _=>none) | _=>none
def zGi (i:Nat)(hb:PF X b fb)(hN:!25:=by rfl)(hv:!29:=by exact visQ rfl)(hd:!17:=by decide)(hcd:!28:=by decide)(hs:zSJ b:=by exactλ_ _=>rfl):PF X (.Subscript (!15) b pos)<|zIp i fb:=by
 refine PE.to (zGR zOZ (wI hN hv hd hcd) hb hs) ?_;rintro U H Q ⟨G0,H0,G,O,d,j0,hf,k⟩;unfold zIp at hf;split at hf
 .rename_i ds hi;obtain⟨q,vs,e1,e2,e3,e4,e5⟩:=j0.addr hi;obtain⟨y,h2,hf⟩:=k8 hf;cases y with
  | int m =>refine⟨.ref q,e1,G0,H0,G,O,_,j0,h2,λv H2 G2 s2 r2=>?_⟩;obtain⟨w,e,rw'⟩:=zWP (e5.mono s2.gg) hf;exact⟨q,vs,m,w,J,yW.mp r2,.of<|s2.hh _ _ e2,e,k _ _ G2 s2 rw'⟩
  | _=>cases hf
 .simp_all
end
end L2
variable{lo:Int}
namespace L2
theorem zU2 {o:Obj}(hl:l < h.objs.size):∀c∈[h.objs.size,l],c < (h.push o).objs.size:=λc hc=>by
 rw[Ri];simp only[Qj,Ry,Uz] at hc;rcases hc with z | z
 .simp_all
 .rw[z];exact Uk hl
def zUj {o:Obj}(hk:∀b u,b∉[h.objs.size]->(h.push o).get? b=some u->h'.get? b=some u):∀b u,h.get? b=some u->h'.get? b=some u:=λb u e =>hk b u (λhm=>absurd (Qb.mp hm ▸ Qa e)<|Wx _)<|Qe _ e
def zL6 {a b:Int}{t u:Tok}(hh:A.handled=none)(hl:s.heap.IsTuple l<|intItems #[(a,t),(b,u)])(h:∀h' tk,(∀c o,s.heap.get? c=some o->h'.get? c=some o)->Q (if b > a then .int b u else .int a t) (!31)):wpAny (!9) A (call (.builtin "max") [.ref l]) Q E s:=by
 have hlt:l < s.heap.objs.size:=by obtain⟨_,e,_⟩:=hl;exact Qa e
 refine call_max_walk<|Yy hl ⟨_,[s.heap.objs.size,l],[s.heap.objs.size],_,_,_,_,rfl,Walks.tuple (A:=A.in1) hh _ l (Wy hlt)<|intItems #[_,_],⟨⟨_,Qs _ rfl,rfl,rfl⟩,hl.push _⟩,zU2 hlt,by simp[intItems],CmpOf.ints_gt (numAt #[_,_]) λ_ _=>Pf,λv h' tk hP hk=>?_⟩;have q:=h h' tk<|zUj hk
 by_cases hba:b > a
 .have e:argBest (λi j=>decide (numAt #[(a,t),(b,u)] i > numAt #[(a,t),(b,u)] j)) ((intItems #[(a,t),(b,u)]).size - 1)=1:=by simp[intItems,argBest,numAt,hba]
  rw[e] at hP;rw[Qh hba] at q;have:=by simpa [intItems] using hP.symm
  rw[this];exact q
 .have e:argBest (λi j=>decide (numAt #[(a,t),(b,u)] i > numAt #[(a,t),(b,u)] j)) ((intItems #[(a,t),(b,u)]).size - 1)=0:=by simp[intItems,argBest,numAt,hba]
  rw[e] at hP;rw[Qv hba] at q;have:=by simpa [intItems] using hP.symm
  rw[this];exact q
def zLc {a b:Int}{t u:Tok}(hh:A.handled=none)(hl:s.heap.IsTuple l<|intItems #[(a,t),(b,u)])(h:∀h' tk,(∀c o,s.heap.get? c=some o->h'.get? c=some o)->Q (if b < a then .int b u else .int a t) (!31)):wpAny (!9) A (call (.builtin "min") [.ref l]) Q E s:=by
 have hlt:l < s.heap.objs.size:=by obtain⟨_,e,_⟩:=hl;exact Qa e
 refine call_min_walk<|Yy hl ⟨_,[s.heap.objs.size,l],[s.heap.objs.size],_,_,_,_,rfl,Walks.tuple (A:=A.in1) hh _ l (Wy hlt)<|intItems #[_,_],⟨⟨_,Qs _ rfl,rfl,rfl⟩,hl.push _⟩,zU2 hlt,by simp[intItems],CmpOf.ints_lt (numAt #[_,_]) λ_ _=>Pf,λv h' tk hP hk=>?_⟩;have q:=h h' tk<|zUj hk
 by_cases hba:b < a
 .have e:argBest (λi j=>decide (numAt #[(a,t),(b,u)] i < numAt #[(a,t),(b,u)] j)) ((intItems #[(a,t),(b,u)]).size - 1)=1:=by simp[intItems,argBest,numAt,hba]
  rw[e] at hP;rw[Qh hba] at q;have:=by simpa [intItems] using hP.symm
  rw[this];exact q
 .have e:argBest (λi j=>decide (numAt #[(a,t),(b,u)] i < numAt #[(a,t),(b,u)] j)) ((intItems #[(a,t),(b,u)]).size - 1)=0:=by simp[intItems,argBest,numAt,hba]
  rw[e] at hP;rw[Qv hba] at q;have:=by simpa [intItems] using hP.symm
  rw[this];exact q
def zVZ {i j:Int}(r:Vals [V.int i,V.int j] j6):∃t u,j6.toArray=intItems #[(i,t),(j,u)]:=by
 cases r with
 | cons r1 r2 =>
  cases r2 with
  | cons r3 r4 =>cases r4;obtain⟨t,rfl⟩:=r1;obtain⟨u,rfl⟩:=r3;exact⟨t,u,by simp[intItems]⟩
def zN0 (hc:!23):CallR X (.builtin "max") (λxs H Q=>∃(q:qu) (i j:Int),xs=[V.ref q]/\SqT X.K H q [V.int i,V.int j]/\Q (.int<|if j > i then j else i) H):=by
 intro Z s U H xs us Q I r h;obtain⟨l,i,j,rfl,hq,q⟩:=h;obtain⟨u,rfl,ru⟩:=jM r;cases ru;obtain⟨j6,rv,pl,hz⟩:=I.tuple hq;obtain⟨t,u,e⟩:=zVZ rv;refine zL6 (I.ok.hd hc) (e ▸ pl) λh' tk hk=>⟨.int _,H,I.kept hk,?_,q⟩
 by_cases hj:j > i
 .rw[Qh hj,Qh hj];exact⟨_,J⟩
 .rw[Qv hj,Qv hj];exact⟨_,J⟩
def zMH (hc:!23):CallR X (.builtin "min") (λxs H Q=>∃(q:qu) (i j:Int),xs=[V.ref q]/\SqT X.K H q [V.int i,V.int j]/\Q (.int<|if j < i then j else i) H):=by
 intro Z s U H xs us Q I r h;obtain⟨l,i,j,rfl,hq,q⟩:=h;obtain⟨u,rfl,ru⟩:=jM r;cases ru;obtain⟨j6,rv,pl,hz⟩:=I.tuple hq;obtain⟨t,u,e⟩:=zVZ rv;refine zLc (I.ok.hd hc) (e ▸ pl) λh' tk hk=>⟨.int _,H,I.kept hk,?_,q⟩
 by_cases hj:j < i
 .rw[Qh hj,Qh hj];exact⟨_,J⟩
 .rw[Qv hj,Qv hj];exact⟨_,J⟩
def zOn (g:Int->Int->Int):D->qi | .tup [.int i,.int j]=>some (.int<|g i j) | _=>none
def aC (i j:Int):Int:=if j > i then j else i
def bF (i j:Int):Int:=if j < i then j else i
def zGU (f:Ef):Ef:=λO=>(f O).bind<|zOn aC
def zGN (f:Ef):Ef:=λO=>(f O).bind<|zOn bF
def zUu {g:Int->Int->Int}{x:D}(h:zOn g d=some x):∃i j,d = .tup [.int i,.int j]/\x = .int (g i j):=by
 unfold zOn at h;split at h
 .cases h;exact⟨_,_,J,J⟩
 .cases h
def zQW {i j:Int}{v:V}(r:Rep K G (.tup [.int i,.int j]) v):∃q,v = .ref q/\SqT K G q [V.int i,V.int j]:=by obtain⟨q,vs,rfl,h1,h2⟩:=xU.mp r;obtain⟨x,xr,rfl,q1,q2⟩:=zP.mp h2;obtain⟨y,yr,rfl,q3,q4⟩:=zP.mp q2;subst q1 q3 q4;exact⟨q,J,h1⟩
def zHx (hcm:!23)(hg:Gl X "max")(hm:X.mg "max"=none)(h:!10)(hs:!34:=by rfl):PF X (.Call (.Name "max" p) [a] [] pos)<|zGU fa:=by
 refine PE.to (vB (zN0 hcm) hg hm jg (yS h yF (!6)) jb J (!6) jg) ?_
 sleep 3
 obtain⟨i,j,rfl,rfl⟩:=zUu hf
 sleep 4
 obtain⟨q,rfl,hq⟩:=zQW r1;exact⟨q,i,j,J,s1.sub.tup hq,k _ _ G1 s1<|yW.mpr rfl⟩
def zIg (hcm:!23)(hg:Gl X "min")(hm:X.mg "min"=none)(h:!10)(hs:!34:=by rfl):PF X (.Call (.Name "min" p) [a] [] pos)<|zGN fa:=by
 refine PE.to (vB (zMH hcm) hg hm jg (yS h yF (!6)) jb J (!6) jg) ?_
 sleep 3
 obtain⟨i,j,rfl,rfl⟩:=zUu hf
 sleep 4
 obtain⟨q,rfl,hq⟩:=zQW r1;exact⟨q,i,j,J,s1.sub.tup hq,k _ _ G1 s1<|yW.mpr rfl⟩
end L2
variable{p:qf}
namespace L2
def AskIn {α:Type}(N:Nat)(Post:α->Prop):KasT α->Prop
 | .ret a=>Post a
 | .ask i j k=>i < N/\j < N/\∀b,AskIn N Post<|k b
theorem AskIn.bind {α β:Type}{N:Nat}{P:α->Prop}{P':β->Prop}{f:α->KasT β}(hf:∀a,P a->AskIn N P' (f a)):∀ {t:KasT α},AskIn N P t->AskIn N P' (t.bind f)
 | .ret a,h=>hf a h
 | .ask i j k,h=>⟨h.1,h.2.1,λb=>AskIn.bind hf<|h.2.2 b⟩
theorem zNV {α:Type}{cmp:Nat->Nat->(Bool->qw->Prop)->qw->Prop}{lt:kq}{N:Nat}{s:qw}(hc:∀i j C,i < N->j < N->C (lt i j) s->cmp i j C s):∀(t:KasT α) (Q:α->qw->Prop),AskIn N (λ_=>True) t->Q (evT lt t) s->t.kasWp cmp Q s
 | .ret _,_,_,h=>h
 | .ask i j k,Q,a,h=>hc i j _ a.1 a.2.1<|zNV hc _ Q (a.2.2 _) h
def Sm (N:Nat)(p:qf):Prop:=∀x∈p.toList,x < N
def Sm.gg {N:Nat}{p:qf}(h:Sm N p)(hN:0 < N)(k:Nat):p.getD k 0 < N:=by
 show L2.gg p k < N;rw[zZT]
 by_cases hk:k < p.size
 .have:p[k]?=some p[k]:=by simp[hk]
  rw[this];exact h _ je
 .simp_all
def Sm.perm {N:Nat}{q:qf}(h:Sm N p)(e:q.Perm p):Sm N q:=λx hx=>h x<|(Uu.mp e).subset hx
section
variable{N:Nat} (hN:0 < N)
include hN
theorem zPS {p:qf}(h:Sm N p):∀f n,AskIn N (λ_=>True)<|kas_asc p f n
 | 0,_=>trivial
 | f+1,n=>⟨h.gg hN _,h.gg hN _,λb=>by
   dsimp only;split
   .trivial
   .exact zPS h f _⟩
theorem zXF:∀f (p:qf) n q,Sm N p->AskIn N (λr=>Sm N r.1) (kas_desc f p n q)
 | 0,_,_,_,h=>h
 | f+1,p,n,q,h=>⟨h.gg hN _,h.gg hN _,λb=>by
   dsimp only;split
   .split
    .exact zXF f _ _ _ (h.perm<|Oi ..)
    .exact zXF f _ _ _ h
   .refine⟨h.gg hN _,h.gg hN _,λb=>?_⟩;dsimp only;split
    .exact h
    .exact zXF f _ _ _ h⟩
def zQO (h:Sm N p)(n m:Nat):AskIn N (λr=>Sm N r.2)<|kas_tail3 n m p:=by have h':Sm N<|kas_rev p 0 n:=h.perm<|Oi ..;refine AskIn.bind (λm _=>?_)<|zPS hN h' _ _;exact h'
def zYq (h:Sm N p)(n m:Nat):AskIn N (λr=>Sm N r.2)<|kas_descPart n m p:=by
 refine AskIn.bind (λr hr=>?_)<|zXF hN _ _ _ _ h;split
 .exact zQO hN (hr.perm<|Oi ..) _ _
 .exact zQO hN hr _ _
def zK1 (h:Sm N p)(m:Nat):AskIn N (λr=>Sm N r.2)<|kas_count m p:=by
 refine AskIn.bind (λr _=>?_)<|zPS hN h _ _;split
 .exact h
 .split
  .refine⟨h.gg hN _,h.gg hN _,λb=>?_⟩;dsimp only;split
   .exact h
   .exact zYq hN (h.perm<|Oi ..) _ _
  .exact zYq hN h _ _
theorem zW1 {p:qf}(h:Sm N p)(k:Nat):∀f l r,AskIn N (λ_=>True)<|kas_place p k f l r
 | 0,_,_=>trivial
 | f+1,l,r=>by
  unfold kas_place;split
  .trivial
  .refine⟨h.gg hN _,h.gg hN _,λb=>?_⟩;dsimp only;split
   .exact zW1 h k f _ _
   .exact zW1 h k f _ _
theorem zJU:∀f (p:qf) k,Sm N p->AskIn N (λ_=>True) (kas_bin f p k)
 | 0,_,_,_=>trivial
 | f+1,p,k,h=>by exact AskIn.bind (λ_ _=>zJU f _ _<|h.perm<|bubble_perm ..)<|zW1 hN h k _ _ _
def zHy:AskIn N (λ_=>True)<|kas_sort N:=by
 have h:Sm N<|List.toArray<|List.range N:=λx hx=>by simpa using hx
 refine AskIn.bind (λr hr=>?_)<|zK1 hN h N;split
 .exact zJU hN _ _ _ hr
 .trivial
end
theorem tX {α β:Type}{F:α->β->Prop}{da:α}{db:β}:∀ {l:List α} {m:List β} {i:Nat},Paired F l m->i < l.length->F (l.getD i da) (m.getD i db)
 | _,_,_,.nil,h=>by simp at h
 | _,_,0,.cons r _,_=>r
 | _,_,i+1,.cons _ t,h=>by simpa using tX t (!8)
theorem tU (d:α):∀l:List α,(List.range l.length).map (λi=>l.getD i d)=l:=λl=>by
 apply List.ext_getElem
 .simp
 .intro i h1 h2;simp_all
end L2
variable{p:Pos}
namespace L2
def zLw (lt:kq)(a b:Nat):Bool:=lt a b||(!lt b a&&decide (a<=b))
def vI (lt:kq)(N:Nat):kz:=(List.range N).mergeSort<|zLw lt
def zQD {lt:kq}{a b:Nat}:zLw lt a b=true↔(Lx lt a b\/(lt b a=false/\a=b)):=by unfold zLw Lx;cases h1:lt a b<;>cases h2:lt b a<;>simp<;>lia
def rX (lt:kq)(N:Nat):(vI lt N).Perm<|List.range N:=List.mergeSort_perm _ _
def zY6 {lt:kq}(W:SWO lt)(N:Nat):(vI lt N).Pairwise<|Lx lt:=by
 have h:=List.pairwise_mergeSort (le:=zLw lt) (λa b c h1 h2=>by
  rw[zQD] at h1 h2 ⊢;rcases h1 with h1 | ⟨h1,rfl⟩
  .rcases h2 with h2 | ⟨h2,rfl⟩
   .exact .inl (Lx.trans W h1 h2)
   .exact .inl h1
  .exact h2) (λa b=>by
  unfold zLw;cases h1:lt a b<;>cases h2:lt b a<;>simp<;>lia) (List.range N)
 refine(h.and<|(rX lt N).nodup_iff.mpr List.nodup_range).imp λ{a b} z=>?_;rcases zQD.mp z.1 with q | ⟨_,q⟩
 .exact q
 .exact absurd q z.2
def zIY {lt:kq}(W:SWO lt){a b:Nat}(h1:Lx lt a b)(h2:Lx lt b a):False:=by
 rcases h1 with h1 | ⟨_,_,h1⟩
 .rcases h2 with h2 | ⟨_,h2⟩
  .rw[W.asym h1] at h2;cases h2
  .simp_all
 .rcases h2 with h2 | ⟨_,_,h2⟩
  .simp_all
  .lia
def zFO {lt:kq}(W:SWO lt){l m:kz}(h:l.Perm m)(h1:l.Pairwise<|Lx lt)(h2:m.Pairwise<|Lx lt):l=m:=List.Perm.eq_of_pairwise (λ_ _ _ _ z w=>(zIY W z w).elim) h1 h2 h
def zM5 {lt:kq}(W:SWO lt){P:kz}(h1:P.Perm<|List.range n)(h2:P.Pairwise<|Lx lt):P=vI lt n:=zFO W (h1.trans (rX lt n).symm) h2<|zY6 W n
def zWI (lt:kq)(h:n < 2):vI lt n=List.range n:=by
 match n,h with
 | 0,_=>simp[vI]
 | 1,_=>simp[vI]
def zQ4 {lt:kq}(W:SWO lt)(h:1<=n):(evT lt<|kas_sort n).toList=vI lt n:=by
 obtain⟨h1,h2⟩:=zIO W h;refine zM5 W h2.pm<|Pn.mpr λi j hi hj hij=>?_;have hj':j < n:=by rw[<-h2.sz];simpa using hj
 have:=h1 i j hij hj';have hi':=by simpa using hi
 have hj'':=by simpa using hj
 simpa [hi',hj''] using this
def zS4 {keys:jn}{κ:SortKind}{lt:kq}{Q:Unit×SortSt->qw->Prop}(W:SWO lt)(hl:keys.length=vs.length)(h2:2<=vs.length)(h64:vs.length < 64)(hc:∀i j C,i < vs.length->j < vs.length->C (lt i j) s->kas_ask prog w A κ keys i j C s)(hQ:∀st',(arrOf st').map (·.2)=List.toArray ((vI lt vs.length).map λi=>vs.getD i Value.none)->failedOf st'=none->Q ((),st') s):wpAny (!9) A (sortRuns'.run<|SortSt.mk' κ (keys.toArray.zip vs.toArray) #[] 7 none) Q E s:=by refine Ed (kat_run (Q:=λst' s'=>(arrOf st').map _=List.toArray _/\failedOf st'=none/\s'=s) hl h2 h64 (λp' st' s' b1 b2 b3 b4=>⟨by rw[kat_snds hl b2,b4.1],b3,b4.2⟩)<|zNV hc _ (λp s'=>p=evT lt _/\s'=s) (zHy jc) ⟨rfl,rfl⟩) ?_ λ_ _ e=>e;rintro⟨⟨⟩,st'⟩ s' ⟨har,hf,rfl⟩;rw[zQ4 W jc] at har;exact hQ st' har hf
end L2
namespace L2
section
variable{b:r8}
def zNN (_ j:Int):Bool:=decide (0 < j)&&decide (j.natAbs.log2 < 9000)
abbrev zGP:=eI zNN λi j=>i / j
theorem zKb:OpR X (binaryOp .FloorDiv)<|rI (λ_ j=>0 < j/\j.natAbs.log2 < 9000) λi j=>.int<|i / j:=opI λi j _ _ _ _ _ hc q=>by exact floordiv_int jc (by rw[Uy i jc];exact q)<|.inl<|PyProof.noPylong_of_log2 hc.2
def zHJ (ha:!10)(hb:PF X b fb):PF X (.BinOp a .FloorDiv b pos)<|zGP fa fb:=zPO zKb (λi j h=>by unfold zNN at h;simp only[Qm,Wo] at h;exact h) ha hb
end
theorem zZk:fillsNumberSlot (.type "tuple") "mul"=pure false :=
 PySem.fillsNumberSlot_seq (id:="tuple.__mul__") (r:=some<|.builtin "tuple.__rmul__") F.slot_tuple_mul.lookup ja (by rw[typeLookup_type,builtinLookup_eq_fast];kernel_rfl) ja
def zXU:typeLookup (.type "tuple") "__rmul__"=pure (some<|.builtin "tuple.__rmul__"):=by rw[typeLookup_type,builtinLookup_eq_fast];kernel_rfl
def zTz:seqRepeat? (.type "tuple")=pure (some<|.builtin "tuple.__mul__"):=by unfold seqRepeat?;rw[PySem.seqSlot_of (name:="__mul__") F.slot_tuple_mul.lookup rfl,PySem.seqSlot_of zXU rfl];rfl
def zVS (a:Int)(t:Tok)(l:qu)(items:jo)(n:Nat)(dd:kr)(sl:Array kn):Meets (Builtin.«int.__rmul__» ⟨[.int a t,.ref l],[]⟩) (λ_ R s=>s.heap.get? l=some { cls:=.type "tuple",dict:=dd,data:=.seq items n,slots:=sl }/\R (.ok<|.ret Value.notImplemented) s) :=
 .of_wp λprog w A R s h=>by obtain⟨hp,g⟩:=s;obtain⟨hl,h⟩:=h;wp_walk;exact⟨_,J,h⟩
open AutoSeq1 (wpAny_loadPart') in
def zQm (l:qu)(items:jo)(n:Nat)(dd:kr)(sl:Array kn)(x:Int)(u:Tok)(c1:¬((decide (x < -2^63)||decide (x≥2^63))=true))(c2:¬((items.isEmpty||x==1)=true))(c3:¬((decide (x<=0)||items.isEmpty)=true))(c4:¬(items.size:Int)*x > (2^63 - 1) / 8) (c5:¬Builtin.Tuple.tupleTooMany ((items.size:Int)*x)=true) (hsz:(List.foldl (λx1 x2=>x1++x2) #[] (List.replicate x.toNat items)).size<=sizeLine):Meets (Builtin.«tuple.__mul__» ⟨[.ref l,.int x u],[]⟩) (λ_ R s=>s.heap.get? l=some { cls:=.type "tuple",dict:=dd,data:=.seq items n,slots:=sl }/\R (.ok<|.ret<|Value.ref s.heap.objs.size) { s with heap:=s.heap.push { cls:=Value.type "tuple",data:=Data.seq (List.foldl (λx1 x2=>x1++x2) #[] (List.replicate x.toNat items)) },toks:=s.toks }) :=
 .of_wp λprog w A R s h=>by
  obtain⟨hp,g⟩:=s;obtain⟨hl,h⟩:=h;have ht:IsTup _ l _:=⟨_,hl,J,n,J⟩
  exact Ue (λhab=>absurd hab c1) λ_=>Qw<|tupleItemsOf_ ht<|Ue (λhab=>absurd hab c2) λ_=>Ue (λhab=>absurd hab c3) λ_=>Ue (λhab=>absurd hab c4) λ_=>Ue (λhab=>absurd hab c5) λ_=>Qw<|Rp (Qi ⟨_,J,h⟩) hsz
section
variable{b:r8}
def zEI (K:jk):R2:=λx y H Q=>∃l k xs,x = .ref l/\y = .int k/\SqT K H l xs/\xs≠[]/\2<=k/\k<=1000/\xs.length<=90/\∀p,H p=none->Q (.ref p) (upd H p<|.tup (List.replicate k.toNat xs).flatten)
def zHz:OpR X (binaryOp .Mult)<|zEI X.K:=by
 sleep 5
 obtain⟨l,k,xs,rfl,rfl,hx,hne,h1,h2,hl,q⟩:=h;cases rx;obtain⟨t,rfl⟩:=ry;obtain⟨j6,r,ht,hz⟩:=I.tuple hx;have j5:=r.length;have hne':j6≠[]:=λz=>hne<|r.nil_iff.mp z;obtain⟨⟨cls,dd,data,sl⟩,ho,hc,n,hd⟩:=id ht;subst hc hd;have hnew:List.foldl (λx1 x2=>x1++x2) #[] (List.replicate k.toNat j6.toArray)=(List.replicate k.toNat j6).flatten.toArray:=by have:=zUn j6 k.toNat [];exact this
 have hsl:100000 < _:=wN jb;have hb:j6.length*k.toNat<=90*1000:=Ud jc jc;have hb2:(j6.toArray.size:Int)*k=((j6.length*k.toNat:Nat):Int):=by rw[Qd,Int.natCast_mul,Oo jc]
 have hfl:(List.replicate k.toNat j6).flatten.length=k.toNat*j6.length:=je;refine wpAny_binaryOp_repeat_ref (T:="tuple") (U:="int") jb ⟨_,ho,J⟩ (λs'=>typeIs_int s' k t) zZk F.fills_int_mul F.slot_int_rmul zTz F.slot_int_index.lookup<|Th F.slot_int_rmul (typeIs_int s k t) F.entry_int_rmul (F.args_int_rmul_2 _ _) (zVS k t l _ n dd sl) ⟨ho,rfl,⟨_,ho,rfl⟩,Th F.slot_tuple_mul ⟨_,ho,rfl⟩ F.entry_tuple_mul (F.args_tuple_mul_2 _ _) (zQm l _ n dd sl k t ?_ ?_ ?_ ?_ ?_ ?_) ⟨ho,?_⟩⟩
 .grind
 .simp[hne'];lia
 .grind
 .grind
 .unfold Builtin.Tuple.tupleTooMany
  grind
 .grind
 .rw[hnew];have hw:(List.replicate k.toNat xs).flatten.length<=sizeLine:=by
   have:(List.replicate k.toNat xs).flatten.length=k.toNat*xs.length:=je;rw[this,Nat.mul_comm,j5];lia
  exact⟨.ref s.heap.objs.size,_,I.laid (t':=_) (o:=.tup (List.replicate _ xs).flatten) (λb ob q=>Qe _ q) (Qg _) ⟨hw,_,r.rep k.toNat,IsTup.new _ _⟩,J,q _<|I.hok.fresh<|Qg _⟩
def zZy (fa fb:Ef):Ef:=λO=>(fa O).bind λx=>(fb O).bind λy=>match x,y with | .tup xs,.int k=>if xs≠[]/\2<=k/\k<=1000/\xs.length<=90 then some (.tup (List.replicate k.toNat xs).flatten) else none | _,_=>none
def zZG (ha:!10)(hb:PF X b fb):PF X (.BinOp a .Mult b pos)<|zZy fa fb:=by
 refine PE.to (zYr zHz ha hb) ?_
 sleep 1
 obtain⟨x,h1,hf1⟩:=k8 hf;obtain⟨y,h2,hf2⟩:=k8 hf1;cases x with
 | tup xs =>
  cases y with
  | int m =>
   dsimp only at hf2;split at hf2
   .rename_i hc;obtain⟨c0,c1,c2,c3⟩:=hc;cases hf2;refine⟨G0,H0,G,O,_,j0,h1,λv H1 G1 s1 r1=>⟨G0,H0,G1,O,_,j0.step s1,h2,λu H2 G2 s2 r2=>?_⟩⟩;obtain⟨q,vs,rfl,q1,q2⟩:=xU.mp<|r1.mono s2.gg;have e1:=q2.length;refine⟨q,m,vs,J,yW.mp r2,s2.sub.tup q1,λz=>c0<|Te.mp (by rw[e1,z];rfl),c1,c2,jc,λp hp=>?_⟩;have s4:=Step.laid (o:=.tup (List.replicate m.toNat vs).flatten) s2.sub hp;exact k _ _ _ ((!12).trans s4)<|xU.mpr ⟨p,_,rfl,.of zH,(zQI q2 _).mono s4.gg⟩
   .cases hf2
  | _=>cases hf2
 | _=>cases hf2
def zVF:PFS X st λ_=>none:=by intro Z s U H D I q;obtain⟨G0,H0,G,O,o,j0,hf,k⟩:=q;cases hf
end
end L2
variable{a:qu}
namespace Att
end Att
namespace Att
open PySem.Calls
end Att
namespace L2
def iN {id:String}{b:Builtin}{args:jn}(hk:builtinKind id=none)(hp:plainId id=true)(hb:entryFor table id=some b) (ha:argsOk id ⟨args,kw⟩)(hc:wpAny (!9) A.in1 (b ⟨args,kw⟩) (λfin s'=>match fin with
   | .done f=>(match (Except.ok f:Result) with | .ok (.ret v)=>Q v s' | .ok _=>False | .error e=>E e s')
   | .again c'=>c'.quiet=true/\codeAny (!9) A c' (λr s'=>match r with | .ok (.ret v)=>Q v s' | .ok _=>False | .error e=>E e s') s') E s) :
  wpAny (!9) A (call (.builtin id) args kw) Q E s:=by
 refine Ix<|Im hp hb ?_;simp only[checkBuiltinCall,hk];cases hsig:Manifest.signature? id with
 | none=>exact Qi hc
 | some sig =>
  have h2:=by simpa only [argsOk,hsig] using ha
  show wpAny _ _ (Bind.checkArgs id sig ⟨args,kw⟩) _ _ s;rw[h2];exact Qi hc
end L2
namespace L2
section
def Inv.adopt {D kS:qu}(I:!4)(k:∀b u,b≠D->b≠kS->s.heap.get? b=some u->h'.get? b=some u)(hD:H D=none)(hK:H kS=none)(hne:D≠kS)(h1:∀b,b=D\/b=kS->X.s₀.heap.objs.size<=b/\b≠X.env.locals/\(∀x c,X.env.cells.lookup x=some c->c≠b)/\∀p∈X.pn++Z,p.1≠b) (new:ObjOk X.prog X.w (upd H D o) h' D o):Inv X Z U (upd H D o) (!18):=by
 have nD:∀b u,H b=some u->b≠D:=λb u e z=>by rw[z,hD] at e;cases e
 have nK:∀b u,H b=some u->b≠kS:=λb u e z=>by rw[z,hK] at e;cases e
 have hin:∀ {b:qu},b∉[D,kS]->b≠D/\b≠kS:=λhb=>⟨λz=>hb (by simp[z]),λz=>hb<|by simp[z]⟩
 refine I.step (g':=s.gens) (d':=s.drawn) (t':=s.toks) (ch:=[D,kS]) (λb hb=>?_) (λb u _ _ hc e _=>k b u (hin hc).1 (hin hc).2 e) (λb u _ _ hc e _=>⟨u.slots,k b u (hin hc).1 (hin hc).2 e⟩) (λb u hc _ n=>by rw[zD (hin hc).1];exact n) (λb u hc e=>⟨u,k b u (hin hc).1 (hin hc).2 e⟩) (λb xs e=>by rw[zD<|nD b _ e];exact e) (λb u xs e=>by rw[zD<|nD b _ e];exact e) (λb ps e=>⟨#[],by rw[zD<|nD b _ e,e];simp⟩) (λm hm=>?_) (λb u e=>?_) I.bare
 .have hb':b=D\/b=kS:=by simpa using hb
  obtain⟨a1,a2,a3,a4⟩:=h1 b hb';exact⟨.inr a1,a2,a3,a4⟩
 .obtain⟨u,es,ep,hu,r⟩:=hm;exact⟨u,es,ep,k _ u (Ne.symm (h1 D<|.inl rfl).2.1) (Ne.symm (h1 kS<|.inr rfl).2.1) hu,r⟩
 .by_cases hb:b=D
  .subst hb;rw[zH] at e
   grind
  .rw[zD hb] at e;refine(I.hok b u e).stay (λc v hc q=>?_) (λc q=>by rw[zD<|nD c _ q];exact q) λc xs q=>by rw[zD<|nD c _ q];exact q
   have hc':c≠D/\c≠kS:=by
    rcases hc with z | z
    .rw[z];exact⟨hb,nK b u e⟩
    .exact⟨nD c _ z,nK c _ z⟩
   exact k c v hc'.1 hc'.2 q
def Own (X:Cx)(Z:jm)(b:qu):Prop:=X.s₀.heap.objs.size<=b/\b≠X.env.locals/\(∀x c,X.env.cells.lookup x=some c->c≠b)/\(∀p∈X.pn++Z,p.1≠b)/\b∉X.fs
def zOe (I:!4){b:qu}(hb:s.heap.objs.size<=b):Own X Z b:=by
 refine⟨Ww I.sz hb,λz=>?_,λx c e z=>?_,λp hp z=>?_,I.nofs hb⟩
 .have:=I.lt;rw[<-z] at this;exact absurd this<|Ib.mpr hb
 .obtain⟨v,o,ho,_⟩:=I.cell x c e;have:=Qa ho;rw[z] at this;exact absurd this<|Ib.mpr hb
 .have:=Qa (I.pin p hp).1;rw[z] at this;exact absurd this<|Ib.mpr hb
abbrev oV (us:jn)(c:Nat):Obj:=seqObj "list" us.toArray c
def zWv (us:jn)(c:Nat):∀v,(oV us c).data ≠ .cell v:=je
def zJS {D kS fa:qu}(ya:Nat->qh->Hp->Prop)(hD:Own X Z D)(hK:Own X Z kS)(hne:D≠kS)(j5:us.length < 64)(hstep:∀i x ws H' s' pins',us[i]?=some x->ya i ws H'->Inv X pins' U H' s'->wpAny (!5) X.A.in1.in1 (call (.ref fa) [x]) (λu s''=>∃H'',Inv X pins' U H'' s''/\ya (i+1) (ws++[u]) H'') (λ_ _=>False) s')(hJ:ya 0 [] H) (I:Inv X ((D,oV [] e1)::(kS,oV [] 0)::Z) U H s) {P:PySem.Fin->qw->Prop}(hfin:∀ws c H' s',ya us.length ws H'->ws.length=us.length->Inv X ((D,oV [] e1)::(kS,oV ws c)::Z) U H' s'->wpAny (!5) X.A.in1.in1 (ksk_end D false us.toArray e1 (.ref kS) ws.toArray) P E s'):wpAny (!5) X.A.in1.in1 (ksk_rest D (.ref fa) false us.toArray e1<|.ref kS) P E s:=by
 unfold ksk_rest;refine Qw<|Yv ?_
 first
  | rw[List.forIn_toArray]
  | (rw[<-Array.forIn_toList];simp only[List.toList_toArray])
  | rw[<-Array.forIn_toList]
 refine Qw<|ksk_fold (λi s'=>∃ws c H',ya i ws H'/\ws.length=i/\Inv X ((D,oV [] e1)::(kS,oV ws c)::Z) U H' s') us 0 s ⟨[],0,H,hJ,rfl,I⟩ (λj x s' hx hd=>?_) λs' hd=>?_
 .obtain⟨ws,c,H',j1,j2,I'⟩:=hd;rw[Yk] at j1 j2 ⊢;have hj:j < us.length:=(v5 hx).1;refine Qw<|Og<|Ed (hstep j x ws H' s' _ hx j1 I') (λu s'' hu=>?_) λ_ _ z=>z.elim;obtain⟨H'',I'',j3⟩:=hu;have pk:=I''.pin (kS,oV ws c) je;have pd:=I''.pin (D,oV [] e1) je;have ea:(List.toArray ws).push u=List.toArray (ws++[u]):=je;obtain⟨c2,hc2⟩:∃c2,(s''.heap.update kS (Obj.mapSeq (·.push u))).get? kS=some (oV (ws++[u]) c2):=⟨_,by show _=some (seqObj "list" (List.toArray<|ws++[u]) _);rw[<-ea];exact Ia pk.1 (·.push u)⟩
  try dsimp only
  refine Qw<|Tl pk.1 rfl ?_ (by rw[Qd,Wk];lia)<|Ww (Ox<|Array.size_push ..) (by rw[Qd,Wk];lia);refine Qi ⟨J,ws++[u],c2,H'',j3,by rw[Qo,j2];rfl,?_⟩;have Id:Inv X ((D,oV [] e1)::Z) U H'' s'':=I''.pins_of λp hp=>by
   rcases v4 hp with rfl | hp
   .exact pd
   .exact I''.pin p (by simp[hp])
  have keep:∀b o,b≠kS->s''.heap.get? b=some o->(s''.heap.update kS (Obj.mapSeq (·.push u))).get? b=some o:=λb o hb e=>by rw[Ea _ _ _ _ hb];exact e
  have It:=Id.turned (t':=s''.toks) (it:=kS) (h':=s''.heap.update kS (Obj.mapSeq (·.push u))) keep pk.2.1 hK.2.1 (.inr hK.1) hK.2.2.1 (λp hp=>by
   rcases v6 hp with z | z
   .exact hK.2.2.2.1 p (Yz _ z)
   .rcases v4 z with rfl | z
    .exact hne
    .exact hK.2.2.2.1 p (Ws _ z))
  refine It.pins_of λp hp=>?_;rcases v4 hp with rfl | hp
  .exact It.pin _ je
  .rcases v4 hp with rfl | hp
   .exact⟨hc2,pk.2.1,hK.2.1,hK.2.2.2.2,zWv _ _⟩
   .exact It.pin p (by simp[hp])
 .obtain⟨ws,c,H',j1,j2,I'⟩:=hd;rw[Yk] at j1 j2;have pk:=I'.pin (kS,oV ws c) je;exact Qw<|On pk.1 rfl<|hfin ws c H' s' j1 j2 I'
variable{D kS:qu}{c:Nat}{P:Fin->qw->Prop}
def zRp {st:SortSt}{out:jn}(hne:D≠kS)(hout:(arrOf st).map (·.2)=List.toArray out)(hf:failedOf st=none)(hz:out.length < 64)(hw:ws.length < 64)(I:Inv X ((D,oV [] e1)::(kS,oV ws c)::Z) U H s)(h:∀h' c3,(∀b o,b≠D->b≠kS->s.heap.get? b=some o->h'.get? b=some o)->h'.get? D=some (oV out c3)->P (.done<|.ret .none) (!18)):wpAny (!5) X.A.in1.in1 (ksk_tail D false e1 (.ref kS) st) P E s:=by
 have pk:=I.pin (kS,oV ws c) je;have pd:=I.pin (D,oV [] e1) je;have pd':(s.heap.update kS<|Obj.mapSeq λ_=>(#[])).get? D=some (seqObj "list" #[] e1):=by rw[Ea _ _ _ _ hne];exact pd.1
 obtain⟨c3,hc3⟩:∃c3,((s.heap.update kS<|Obj.mapSeq λ_=>_).update D<|Obj.mapSeq λ_=>List.toArray out).get? D=some _:=⟨_,Ia pd' λ_=>List.toArray out⟩
 unfold ksk_tail;rw[hout];refine Qw<|Tl pk.1 rfl (Qw<|Uw<|Qw<|Ux pd' rfl ?_) (by rw[Qd,Wk];lia)<|Er _;refine Qw<|Tl pd' rfl ?_ (Er _) (by show(List.toArray out).size<=_;rw[Qd,Wk];lia);rw[hf];simp only[Oz];refine Qi<|h _ c3 (λb o h1 h2 e=>?_) hc3;rw[Ea _ _ _ _ h1,Ea _ _ _ _ h2];exact e
def zHI {lt:kq}(W:SWO lt)(hne:D≠kS)(hl:ws.length=us.length)(h64:us.length < 64)(I:Inv X ((D,oV [] e1)::(kS,oV ws c)::Z) U H s)(hq:2<=us.length->∃κ,(∀(E':jl) Q,Q κ s->wpAny (!5) X.A.in1.in1 (keyKind' ws.toArray) Q E' s)/\∀i j C,i < us.length->j < us.length->C (lt i j) s->kas_ask X.prog X.w X.A.in1.in1 κ ws i j C s)(h:∀h' c3,(∀b o,b≠D->b≠kS->s.heap.get? b=some o->h'.get? b=some o)->h'.get? D=some (oV ((vI lt us.length).map λi=>us.getD i Value.none) c3)->P (.done<|.ret .none) (!18)):wpAny (!5) X.A.in1.in1 (ksk_end D false us.toArray e1 (.ref kS) ws.toArray) P E s:=by
 unfold ksk_end;simp only[Ek,Yx]
 by_cases h2:us.toArray.size < 2
 .have h2':=by simpa using h2
  rw[Qh h2,Qh h2];have e:(vI lt us.length).map (λi=>us.getD i Value.none)=us:=by rw[zWI lt h2',tU]
  rw[e] at h;refine zRp (out:=us) hne ?_ J h64 jc I h;apply Array.toList_inj.mp;rw[Po,ksk_zip];have:∀(a b:jn),a.length=b.length->(List.zip a b).map (λx=>x.2)=b:=by intro a b hab;exact List.map_snd_zip jc
  exact this ws us hl
 .have h2':2<=us.length:=(by have:¬us.length < 2:=(by simpa using h2);lia)
  rw[Qv h2,Qv h2];obtain⟨κ,hk,hc⟩:=hq h2';refine Qw<|hk _ _ ?_;refine Qw<|zS4 W hl h2' h64 hc λst' har hf=>?_;have j5:(vI lt us.length).length=us.length:=by rw[(rX lt _).length_eq,Tz]
  exact zRp hne har hf (by rw[Qy,j5];exact h64) jc I h
def zTK {q fa:qu}{lt:kq}(W:SWO lt)(ya:Nat->qh->Hp->Prop)(hl:s.heap.IsList q us.toArray)(h64:us.length < 64)(I:!4)(hJ:ya 0 [] H)(hstep:∀i x ws H' s' pins',us[i]?=some x->ya i ws H'->Inv X pins' U H' s'->wpAny (!5) X.A.in1.in1 (call (.ref fa) [x]) (λu s''=>∃H'',Inv X pins' U H'' s''/\ya (i+1) (ws++[u]) H'') (λ_ _=>False) s')(hq:∀ws H' s' pins',ya us.length ws H'->ws.length=us.length->Inv X pins' U H' s'->2<=us.length->∃κ,(∀(E':jl) Q,Q κ s'->wpAny (!5) X.A.in1.in1 (keyKind' ws.toArray) Q E' s')/\∀i j C,i < us.length->j < us.length->C (lt i j) s'->kas_ask X.prog X.w X.A.in1.in1 κ ws i j C s')(hend:∀ws H' D s',ya us.length ws H'->H' D=none->(∀o,(∀h':qx,(∃c3,h'.get? D=some (oV ((vI lt us.length).map λi=>us.getD i Value.none) c3))->ObjOk X.prog X.w (upd H' D o) h' D o)->Inv X Z U (upd H' D o) s')->Q (.ref D) s'):wpAny (!5) X.A (call (.builtin "sorted") [.ref q] [(Str.ofString "key",.ref fa)]) Q E s:=by
 have hsz:((s.heap.push<|seqObj "list" #[] 0).update s.heap.objs.size (Obj.mapSeq (· ++ us.toArray))).objs.size=s.heap.objs.size+1:=by rw[Py,size_push']
 have qD:(((s.heap.push<|seqObj "list" #[] 0).update s.heap.objs.size (Obj.mapSeq (· ++ us.toArray))).push<|seqObj "list" us.toArray 0).get? (s.heap.objs.size+1)=some (seqObj "list" us.toArray 0):=by rw[<-hsz];exact Qs _ J
 have old:∀b o,s.heap.get? b=some o->(((s.heap.push<|seqObj "list" #[] 0).update s.heap.objs.size (Obj.mapSeq (· ++ us.toArray))).push<|seqObj "list" us.toArray 0).get? b=some o:=λb o e=>by have hlt:b < s.heap.objs.size:=Qa e;exact Qe _ (by rw[Ea _ _ _ _<|Wy hlt];exact Qe _ e)
 generalize hh1:(((s.heap.push<|seqObj "list" #[] 0).update s.heap.objs.size (Obj.mapSeq (· ++ us.toArray))).push<|seqObj "list" us.toArray 0)=h1 at qD old;have hD0:s.heap.objs.size<=s.heap.objs.size+1:=Yb _;generalize hDd:s.heap.objs.size+1=D at qD hD0;refine iN kind_sorted plain_sorted entry_sorted (ksk_s1 _ _) ?_;refine Qw (m:=checkCount "sorted" 1 1 _)<|Qi<|Qw<|collect_list hl ?_ (by rw[Wk];lia);refine Qw<|Uc ?_ (by rw[Wk];lia);rw[hsz,hh1,hDd];obtain⟨e1,q1⟩:∃e1,(h1.update D<|Obj.mapSeq λ_=>(#[]:jo)).get? D=some (seqObj "list" #[] e1):=⟨_,Ia qD λ_=>#[]⟩
 have hDlt:D < h1.objs.size:=Qa qD;have old2:∀b o,s.heap.get? b=some o->(h1.update D<|Obj.mapSeq λ_=>(#[]:jo)).get? b=some o:=λb o e=>by rw[Ea _ _ _ _<|Wy<|Wr (Qa e) hD0];exact old b o e
 have hkS:(!39).objs.size=h1.objs.size+1:=by rw[size_push',Py]
 refine Qw<|Ru<|wpAny_call_entry_kw slot_list_sort ⟨_,qD,rfl⟩ entry_list_sort ?body<|ksk_l1 _ _;rw[ksk_t1];refine Qw<|On (n:=0) qD rfl<|Qw<|Tl (n:=0) qD rfl ?_ (by rw[Qd,Wk];lia)<|Er _;refine Qw<|Ux q1 rfl<|Qw<|Us ?_ (by show us.length<=_;rw[Wk];lia);refine Qw<|Uc (Ru ?_)<|Er _;have qk:((!39).push<|seqObj "list" #[] 0).get? (!39).objs.size=some (oV [] 0):=Qs _ J;have hks1:s.heap.objs.size<=(!39).objs.size:=by rw[hkS];exact Ww hD0<|Ww (Wa hDlt)<|Yb _
 have hne:D≠(!39).objs.size:=by rw[hkS];exact Wy<|Uk hDlt
 have I1:Inv X Z U H { s with heap:=(!39).push<|seqObj "list" #[] 0,toks:=s.toks }:=I.kept λb o e=>Qe _<|Qe _<|old2 b o e;generalize(!39).objs.size=kS at qk hks1 hne;have oD:=zOe I hD0;have oK:=zOe I hks1;have qd:((!39).push<|seqObj "list" #[] 0).get? D=some (oV [] e1):=Qe _<|Qe _ q1;refine zJS (X:=X) (Z:=Z) (U:=U) ya oD oK hne h64 hstep hJ (I1.pins_of λp hp=>?_) λws c H' s' j1 j2 I'=>?_
 .rcases v4 hp with rfl | hp
  .exact⟨qd,I.hok.fresh hD0,oD.2.1,oD.2.2.2.2,zWv _ _⟩
  .rcases v4 hp with rfl | hp
   .exact⟨qk,I.hok.fresh hks1,oK.2.1,oK.2.2.2.2,zWv _ _⟩
   .exact I1.pin p (Ws _ hp)
 .refine zHI (lt:=lt) W hne j2 h64 I' (λh2=>hq ws H' s' _ j1 j2 I' h2) λh' c3 kk hd=>⟨_,J,?_⟩
  refine Qi ?_;have pd:=I'.pin (D,oV [] e1) je;have pk:=I'.pin (kS,oV ws c) je;have Ip:Inv X Z U H' s':=I'.pins_of λp hp=>I'.pin p (by simp[hp]);refine hend ws H' D _ j1 pd.2.1 λo ho=>?_;exact Ip.adopt kk pd.2.1 pk.2.1 hne (λb hb=>by
   rcases hb with rfl | rfl
   .exact⟨oD.1,oD.2.1,oD.2.2.1,oD.2.2.2.1⟩
   .exact⟨oK.1,oK.2.1,oK.2.2.1,oK.2.2.2.1⟩) (ho h' ⟨c3,hd⟩)
end
end L2
namespace L2
section
variable{d:qu}{es:Array DictEntry}
theorem zGx (lo:(d==sysModules)=false):KdlSrc P w "dict" d d es.size (λi v=>es[i]?.map (·.key)=some v) (λh=>DEs h d es ep) where
 type:=λs ⟨o,ho,hx,_⟩=>⟨o,ho,hx.1⟩
 there:=λh ⟨o,ho,_⟩=>⟨Qa ho,Qa ho⟩
 keep:=λh h' x k=>x.keep λo e=>k d (.inl J) o e
 notList:=jb
 notTuple:=jb
 hint:=λA E s Q ⟨o,ho,hx,_⟩ q=>kdl_hint_dict ⟨o,ho,hx.1⟩ q
 iter:=λA s hh x=>⟨kiO d 0 _ ep,λi h=>h.get? _=some (kiO d i _ ep)/\DEs h d es ep,λE Q q=>zID x lo q,
  {sub:=λb q=>by simp at q;simp[q]
   frame:=λi h h' y k=>⟨k _ je _ y.1,y.2.keep λo e=>k d je o e⟩
   item:=λi s' Q E hi y hQ=>by
    have hv:es[i]?.map (·.key)=some es[i].key:=by simp[hi]
    refine zH3 y.2 y.1 hv λh' sb e=>hQ _ h' _ hv ⟨e,y.2.keep λo e'=>(sb.2 d ?_).trans e'⟩ λb o hb e'=>(sb.2 b (!8)).trans e';obtain⟨o,ho,_⟩:=x;exact Wy<|Qa ho
   done:=λs' Q E y hQ=>zGB hh y.2 y.1 je λh' k=>hQ h' _ λb o hb e=>k b o (!8) e
   self:=λi s' Q E y hQ=>by
    have hT:s'.TypeIs (.ref _) "dict_keyiterator":=⟨_,y.1,J⟩
    refine Ol hT F.slot_dict_keyiterator_iter<|Ey F.slot_dict_keyiterator_iter hT F.entry_dict_keyiterator_iter ?_<|F.args_dict_keyiterator_iter_1 _;exact Qi ⟨_,J,"dict_keyiterator",_,hT,F.slot_dict_keyiterator_next.lookup,hQ⟩ },
  ⟨Qs _ rfl,x.keep λo e=>Qe _ e⟩⟩
def zIb (hh:A.handled=none)(hd:DEs s.heap d es ep)(lo:(d==sysModules)=false)(hz:es.size < 64)(h:∀h' tk c,(∀c o,s.heap.get? c=some o->h'.get? c=some o)->h'.get? s.heap.objs.size=some { cls:=.type "list",dict:=none,data:=.seq (es.map (·.key)) c,slots:=#[] }->R (.ok<|.ret<|.ref s.heap.objs.size) (!31)):codeAny (model P w) A (.builtin "proto.collect" ⟨[.ref d],[]⟩) R s:=by
 have ld:=let ⟨o,ho,_⟩:=hd;Qa ho;refine Rg F.entry_proto_collect<|Qw<|Rp<|Qi ⟨Tj F.plain_list_iadd _,Rg F.entry_list_iadd ?_⟩;rw[Around.under_plainId F.plain_list_iadd _];have hL1:(s.heap.push { cls:=.type "list",data:=.seq ([]).toArray }).get? _=some { cls:=.type "list",data:=.seq #[] 0 }:=Qs _ J;refine kdl_extend (s:={ s with heap:=s.heap.push { cls:=.type "list",data:=.seq ([]).toArray } }) (zGx lo) hh (hd.keep λo e=>Qe _ e) _ (Ir ld) (Ir ld) _ 0 hL1 (λh' tk j7 c k hS it=>?_)<|Wa<|wN jc;have ea:j7=es.map (·.key):=by
  apply Array.ext_getElem?;intro i;rw[Array.getElem?_map];rcases Nat.lt_or_ge i _ with z | z
  .rw[Pm z];exact(it.2 i _<|Pm z).symm
  .rw[Array.getElem?_eq_none z,Array.getElem?_eq_none (by rw[<-it.1];exact z)];rfl
 rw[ea] at hS;exact h h' tk c (λc o e=>k c o (Wy<|Qa e)<|Qe _ e) hS
def zPo {Q:qh->qw->Prop}(hh:A.handled=none)(hd:DEs s.heap d es ep)(lo:(d==sysModules)=false)(hz:es.size < 64)(h:∀h' tk,(∀c o,s.heap.get? c=some o->h'.get? c=some o)->Q (es.toList.map (·.key)) (!31)):wpAny (model P w) A (collect<|.ref d) Q E s:=by refine Qw<|wpAny_runValue<|zIb hh hd lo hz λh' tk c k hS=>Qw<|wpAny_load hS<|Qi ?_;rw[Po];exact h h' tk k
def zJk {P':PySem.Fin->qw->Prop}{lt:kq}(W:SWO lt)(ho:s.heap.get? a=some (seqObj "list" vs.toArray n))(h64:vs.length < 64)(hq:2<=vs.length->∀h':qx,(∀b o,b≠a->s.heap.get? b=some o->h'.get? b=some o)->∃κ,(∀(E':jl) Q,Q κ (!18)->wpAny (model P w) A (keyKind' vs.toArray) Q E' (!18)) /\ ∀i j C,i < vs.length->j < vs.length->C (lt i j) (!18)->kas_ask P w A κ vs i j C (!18))(h:P' (.done<|.ret .none) { s with heap:=sortedHeap s.heap a vs (List.toArray<|(vI lt vs.length).map λi=>vs.getD i Value.none) }):wpAny (model P w) A (Builtin.«list.sort» ⟨[.ref a],[]⟩) P' E s:=by
 obtain⟨e1,q1⟩:∃e1,(s.heap.update a<|Obj.mapSeq λ_=>#[]).get? a=some (seqObj "list" #[] e1):=⟨_,Ia ho λ_=>#[]⟩
 have q6:(((s.heap.update a<|Obj.mapSeq λ_=>#[]).push<|seqObj "tuple" vs.toArray 0).push<|seqObj "list" #[] 0).get? a=some (seqObj "list" #[] e1):=Qe _<|Qe _ q1
 by_cases h2:2<=vs.length
 .obtain⟨κ,hk,hc⟩:=hq h2 (((s.heap.update a<|Obj.mapSeq λ_=>#[]).push<|seqObj "tuple" _ 0).push<|seqObj "list" #[] 0) λb o hb e=>Qe _<|Qe _ (by rw[Ea _ _ _ _ hb];exact e);have hz:¬vs.toArray.size < 2:=by rw[Qd];lia
  have j5:(vI lt vs.length).length=vs.length:=by rw[(rX lt _).length_eq,Tz]
  rw[list_sort_plain];refine Qw<|On (n:=n) ho rfl<|Qw<|Tl (n:=n) ho rfl (Qw<|Ux q1 rfl<|Qw<|Us (Qw<|Uc (Ru ?_)<|Er _) (by show vs.length<=_;rw[Wk];lia)) (by rw[Qd,Wk];lia)<|Er _;dsimp only;rw[Qv hz,Qv hz];refine Qw<|hk _ _<|Qw<|zS4 W rfl h2 h64 hc λst' har hf=>?_;rw[har];refine Qw<|Ux q6 rfl<|Qw<|Tl q6 rfl ?_ (Er _) (by rw[Qd,Qy,j5,Wk];lia);rw[hf];simp only[Oz,Ek,Yx];exact Qi h
 .have e:(vI lt vs.length).map (λi=>vs.getD i Value.none)=vs:=by rw[zWI lt jc,tU]
  rw[e] at h;have hz:vs.toArray.size < 2:=by rw[Qd];lia
  rw[list_sort_plain];refine Qw<|On (n:=n) ho rfl<|Qw<|Tl (n:=n) ho rfl (Qw<|Ux q1 rfl<|Qw<|Us (Qw<|Uc (Ru ?_)<|Er _) (by show vs.length<=_;rw[Wk];lia)) (by rw[Qd,Wk];lia)<|Er _;rw[Qh hz,Qh hz];refine Qw<|Qi<|Qw<|Qi ?_;have har:(arrOf<|SortSt.mk' general' (vs.toArray.zip vs.toArray) #[] 7 none).map (·.2)=vs.toArray:=by apply Array.toList_inj.mp;rw[Po,ksk_zip];exact List.map_snd_zip je
  dsimp only;rw[har];refine Qw<|Ux q6 rfl<|Qw<|Tl q6 rfl ?_ (Er _) (by rw[Qd,Wk];lia);simp only[Oz,Ek,Yx];exact Qi h
def zUh {lt:kq}(W:SWO lt)(hh:A.handled=none)(hd:DEs s.heap d es ep)(lo:(d==sysModules)=false)(h64:es.size < 64)(hq:2<=es.size->∀(h':qx) tk,(∀b o,s.heap.get? b=some o->h'.get? b=some o)->∃κ,(∀(E':jl) Q,Q κ (!31)->wpAny (model P w) A.in1.in1 (keyKind' (es.toList.map (·.key)).toArray) Q E' (!31)) /\ ∀i j C,i < es.size->j < es.size->C (lt i j) (!31)->kas_ask P w A.in1.in1 κ (es.toList.map (·.key)) i j C (!31))(h:∀(h1 h':qx) tk n,(∀c o,s.heap.get? c=some o->h1.get? c=some o)->(∀c o,h1.get? c=some o->h'.get? c=some o)->h'.get? h1.objs.size=some (seqObj "list" (List.toArray ((vI lt es.size).map λi=>(es.toList.map (·.key)).getD i Value.none)) n)->Q (.ref h1.objs.size) (!31)):wpAny (model P w) A (call (.builtin "sorted") [.ref d]) Q E s:=by
 refine Calls.call_function_entry kind_sorted plain_sorted entry_sorted (args_sorted1 _)<|Qw<|Qi<|Qw<|zPo (by simp[hh]) hd lo jc λh1 tk k=>?_;have hl:(es.toList.map (·.key)).length=es.size:=je;refine Qw<|Uc ?_ (by rw[Wk];lia);have hoL:(h1.push (seqObj "list" (es.toList.map (·.key)).toArray 0)).get? _=some (seqObj "list" (es.toList.map _).toArray 0):=Qs _ J;refine Qw<|Ru<|Ey slot_list_sort ⟨_,hoL,rfl⟩ entry_list_sort (zJk W (s:={ s with heap:=h1.push<|seqObj "list" (es.toList.map _).toArray 0,toks:=tk }) hoL jc (λh2 h' kp=>?_) ⟨_,rfl,?_⟩)<|args_list_sort _
 .have:=hq (by rw[<-hl];exact h2) h' tk λb o e=>kp b o (Wy<|Qa<|k b o e)<|Qe _<|k b o e;rw[<-hl] at this;exact this
 .obtain⟨n,hn⟩:=sortedHeap_at (out:=List.toArray<|(vI lt (es.toList.map _).length).map λi=>(es.toList.map _).getD i _) hoL;rw[hl] at hn;refine Qi ⟨_,J,h h1 _ tk n k (λc o z=>?_) (by rw[hl];exact hn)⟩;have lt:=Qa z;exact(sortedHeap_old (Wy lt) (by rw[Ri];exact Uk lt)).trans (Qe _ z)
end
end L2
variable{E:XK}{Q:Unit->qw->Prop}{vs:jo}
namespace L2
mutual
def zD7:D->Bool
 | .non=>true
 | .bl _=>true
 | .int _=>true
 | .str _=>true
 | .tup ds=>zGQ ds
 | _=>false
def zGQ:kd->Bool
 | []=>true
 | d::r=>zD7 d&&zGQ r
end
def zVs (G:Hp)(p:qu):Hp:=λa=>if a=p then none else G a
def uG {p:qu}(h:a≠p):zVs G p a=G a:=Qv h
def jQ {p:qu}:zVs G p p=none:=Qh J
def zPI (f:Ef):Tf:=λO=>(f O).bind λx=>match x with | .lst ds=>some (!ds.isEmpty) | _=>none
def zZU (ha:PF X e fa)(he:∀whole,isTrue e X.env whole=(do let v ←whole;standAt e.pos;holding [v] (truthy v)):=by intro _;rfl):PFT X e<|zPI fa:=by
 refine PT.to (zLU ha he) ?_;rintro U H Q ⟨G0,H0,G,O,c,j0,hf,k⟩;obtain⟨x,h1,hf⟩:=k8 hf;cases x with
 | lst ds =>
  cases hf
  sleep 4
  obtain⟨p,vs,rfl,q,rs⟩:=wZ.mp r1;refine⟨_,.inl ⟨vs,s1.sub.seq q,?_⟩,k _ G1 s1⟩;cases ds<;>cases vs<;>first | rfl | cases rs.length
 | _=>cases hf
def zTv (h:qx)(e:qu)(v:qv):Prop:=v = .none\/∃T oT ts,v = .ref T/\T≠e/\h.get? T=some oT/\oT.data = .fields ts/\ts[3]?=some .none
structure Flew (fs:ko)(e:qu)(c:qv)(od:kr)(vs:jo)(sl:Array kn)(h h':qx):Prop where
 obj:h'.get? e=some { cls:=c,dict:=od,data:=.fields<|vs.setIfInBounds 1<|.ref h.objs.size,slots:=sl }
 ne:h.objs.size≠e
 head:∃oT ts,h'.get? h.objs.size=some oT/\oT.data = .fields ts/\ts[3]?=some .none
 keep:∀b o,h.get? b=some o->b≠e->b∉fs->some (Value.ref b)≠vs[1]?->h'.get? b=some o
 slot:∀b o,h.get? b=some o->b≠e->b∈fs->some (Value.ref b)≠vs[1]?->∃z,h'.get? b=some { o with slots:=z }
section
variable{E:jl}
def cJ {c x:qv}{k:Nat}(ho:s.heap.get? a=some { cls:=c,dict:=od,data:=.fields vs,slots:=sl })(hk:k < vs.size)(h:∀h',h'.get? a=some { cls:=c,dict:=od,data:=.fields<|vs.setIfInBounds k x,slots:=sl }->Heap.SameBut a s.heap h'->Q () (!18)):wpAny M A (setField (.ref a) k x) Q E s :=
 Px ho rfl hk (h _ (Rc _ ho J)<|Uq ..)
def zUK {L e:qu}{c:qv}{hd:qv}{nx:Bool}(hfr:A.frames=some (env::outer)) (hl:s.heap.FunFrames base<|env::outer) (hf:env.frame=some L)(he:s.heap.get? e=some { cls:=c,dict:=od,data:=.fields vs,slots:=sl }) (hsz:1 < vs.size)(h:∀h',(h'.get? e=some { cls:=c,dict:=od,data:=.fields<|vs.setIfInBounds 1<|.ref s.heap.objs.size,slots:=sl }/\s.heap.objs.size≠e/\∃oT ts,h'.get? s.heap.objs.size=some oT/\oT.data = .fields ts/\ts[3]?=some .none) -> (∀b o,s.heap.get? b=some o->b≠e->b∉frs (env::outer)->h'.get? b=some o)->(∀b o,s.heap.get? b=some o->b≠e->b∈frs (env::outer)->∃z,h'.get? b=some { o with slots:=z })->Q () (!18)):wpAny M A (do let a ←frameOf env;let pl ←entryPlaceOf L nx;let b ←EntryCells.newEntry hd a .none (rawInt L) .none pl;setField (.ref e) 1 b) (λ_ s'=>wpAny M A (setFlight (.ref e) none) Q E s') E s:=by
 have ne:e∉frs (env::_):=λz=>by
  obtain⟨_,o,q,n⟩:=hl.mem z
  grind
 refine Qw<|wpAny_frameOf_fun hfr hl hf λg1 k1=>Qw<|wpAny_entryPlaceOf λpl hp=>Qw<|Rp ?_<|hp.sizeOk5 _ _ _ _ _;have e1:=(k1.2.1 e ne).trans he;have ln:_≠e:=λz=>Wx _<|z ▸ Qa e1;have hsz3:3 < ([hd,.ref L,.none,rawInt L,.none]++(if pl.isEmpty then List.replicate 6 Value.none else pl)).toArray.size:=by rw[Qd,Qo];show 3 < 5+_;lia
 generalize hts:([hd,.ref L,.none,rawInt L,.none]++(if pl.isEmpty then List.replicate 6 _ else pl)).toArray=ts at hsz3;have e2:(g1.push { cls:=.type "traceback",data:=.fields ts }).get? e=some { cls:=c,dict:=od,data:=.fields vs,slots:=sl }:=Qe _ e1;have t2:(g1.push { cls:=.type "traceback",data:=.fields ts }).get? _=some { cls:=.type "traceback",dict:=none,data:=.fields ts,slots:=#[] }:=Qs _ J;refine cJ e2 hsz λg3 e3 k3=>Qw<|Ep e3 rfl (x:=.ref _) (by simp[hsz])<|cJ (k3.extBut _ _ ln t2) hsz3 λg4 t4 k4=>h g4 (by rw[<-k1.1];exact⟨k4.extBut _ _ (λz=>ln z.symm) e3,ln,_,_,t4,J,by simp[hsz3]⟩) (λb o q n1 n2=>?_) λb o q n1 n2=>?_
 .have q1:=(k1.2.1 b n2).trans q;exact k4.extBut _ _ (Wy<|Qa q1)<|k3.extBut _ _ n1<|Qe _ q1
 .obtain⟨w,q1⟩:=k1.2.2 b o q;exact⟨w,k4.extBut _ _ (Wy<|Qa q1)<|k3.extBut _ _ n1<|Qe _ q1⟩
def zXi {L e:qu}{c:qv}(hfr:A.frames=some (env::outer)) (hl:s.heap.FunFrames base<|env::outer) (hf:env.frame=some L)(he:s.heap.get? e=some { cls:=c,dict:=od,data:=.fields vs,slots:=sl }) (hv:vs[1]?=some v) (hh:zTv s.heap e v)(h:∀h',Flew (frs<|env::outer) e c od vs sl s.heap h'->Q () (!18)):wpAny M A (noteFrame (.ref e) env) (λ_ s'=>wpAny M A (setFlight (.ref e) none) Q E s') E s:=by
 have hsz:=(Rl.mp hv).1;unfold noteFrame;simp only[hf];refine Qw<|Ep he rfl hv ?_;rcases hh with rfl | ⟨T,oT,ts,rfl,ne,hT,hdT,h3⟩
 .rw[Qv jb];exact zUK hfr hl hf he hsz λh' a1 a2 a3=>h h' ⟨a1.1,a1.2.1,a1.2.2,λb o q n1 n2 _=>a2 b o q n1 n2,λb o q n1 n2 _=>a3 b o q n1 n2⟩
 .rw[Qh jg];refine Qw<|Ep hT hdT h3 ?_;obtain⟨cT,dT⟩:=oT;subst hdT;refine Qw<|cJ hT (Rl.mp h3).1 λg1 t1 k1=>?_;have up:∀b o,b≠T->s.heap.get? b=some o->g1.get? b=some o:=λb o z q=>k1.extBut _ _ z q;have nT:∀b o,s.heap.get? b=some o->(∀vs,o.data ≠ .fields vs)->b≠T:=λb o q n z=>by
   rw[z,hT] at q;cases q;exact n ts J
  refine zUK hfr (hl.of_keeps λb o q n=>⟨o,up b o (nT b o q n) q,J⟩) hf (up _ _ (λz=>ne z.symm) he) hsz λh' a1 a2 a3=>?_;rw[k1.1] at a1;exact h h' ⟨a1.1,a1.2.1,a1.2.2,λb o q n1 n2 n3=>a2 b o (up b o (λz=>n3<|by rw[hv,z]) q) n1 n2,λb o q n1 n2 n3=>a3 b o (up b o (λz=>n3<|by rw[hv,z]) q) n1 n2⟩
def zSi {L e:qu}{c:qv}(hfr:A.frames=some (env::outer)) (hl:s.heap.FunFrames base<|env::outer) (hf:env.frame=some L)(he:s.heap.get? e=some { cls:=c,dict:=od,data:=.fields vs,slots:=sl }) (hv:vs[1]?=some v) (hh:zTv s.heap e v)(h:∀h',Flew (frs<|env::outer) e c od vs sl s.heap h'->Q () (!18)):wpAny M A (leaving env<|.ref e) Q E s:=Qw<|zXi hfr hl hf he hv hh h
def zRF {T:qu}{o oT:Obj}{ts:jo}(ho:s.heap.get? a=some o)(hd:o.data = .fields vs)(hv:vs[1]?=some (.ref T))(hT:s.heap.get? T=some oT)(hdT:oT.data = .fields ts)(h3:ts[3]?=some .none)(h:∀h',(∀b u,s.heap.get? b=some u->h'.get? b=some u)->Q () (!18)):wpAny M A (setFlight (.ref a) none) Q E s:=by
 refine Qw<|Ep ho hd hv ?_;obtain⟨cT,dT⟩:=oT;subst hdT;refine cJ hT (Rl.mp h3).1 λg q1 q2=>h g λb u q=>?_
 by_cases hb:b=T
 .subst hb;rw[hT] at q;cases q;rw[q1];have:ts.setIfInBounds 3 ((none:kr).elim Value.none λf=>rawInt f)=ts:=by
   apply Array.ext_getElem?;intro k;rw[Array.getElem?_setIfInBounds];split
   .rename_i z;subst z;split
    .exact h3.symm
    .simp_all
   .rfl
  rw[this]
 .exact q2.extBut _ _ hb q
end
structure Fly (h:qx)(H:Hp)(h0:qx)(C a:qu):Prop where
 ob:∃vs v,h.get? a=some { cls:=.ref C,dict:=none,data:=.fields vs,slots:=#[] }/\vs[1]?=some v/\zTv h a v/\∀T,v = .ref T->H T=none/\h0.get? T=none
 free:H a=none
 new:h0.get? a=none
def CXq (P:Program)(w:qz):CXT:=λouter H s E e s'=>∃C a H',e = .ref a/\s'.os=s.os/\AllBare s'.gens/\Un (frs outer) [] H H' s.heap s'.heap/\HOk P w H' s'.heap/\Fly s'.heap H' s.heap C a/\E (!1) none H'
def zHq (I:Inv (qP (CXq P w) P w K mg base N qual scope f cd A outer s₀ H₀ E) Z U H s)(fl:Fly s.heap H s₀.heap C a)(hE:E (!1) none H):(qP (CXq P w) P w K mg base N qual scope f cd A outer s₀ H₀ E).xe (.ref a) s:=by
 obtain⟨vs,v,ho,hv,hh,hT⟩:=fl.ob;refine zSi (base:=base) I.ok.frames I.stack J ho hv hh λh' fw=>?_;have old:∀b o,s₀.heap.get? b=some o->b≠a/\some (Value.ref b)≠vs[1]?/\b≠_:=λb o q=>by
  refine⟨λz=>?_,λz=>?_,λz=>Wx _<|z ▸ Qa q⟩
  .rw[z,fl.new] at q;cases q
  .simp_all
 have inF:∀b,b∈frs (envOfC qual scope s₀.heap.objs.size f cd::outer)↔b=_\/b∈frs _:=λb=>by exact Qj
 have U99:=I.base;refine⟨C,a,H,J,I.os,I.bare,⟨λb o q n hb hx=>?_,λb o q n hb hx=>?_,λb o q n hx=>U99.free b o q n hx,λb o q hx=>?_,U99.tups,U99.frzs,U99.tbls⟩,λb o q=>?_,⟨⟨_,_,fw.obj,by rw[Ig (Rl.mp hv).1],.inr ?_,λT z=>?_⟩,fl.free,fl.new⟩,hE⟩
 .obtain⟨n1,n2,n3⟩:=old b o q;exact fw.keep b o (U99.keep b o q n hb hx) n1 (λz=>((inF b).mp z).elim n3 hb) n2
 .obtain⟨n1,n2,n3⟩:=old b o q;obtain⟨z,q1⟩:=U99.slot b o q n hb hx;obtain⟨z',q2⟩:=fw.slot b _ q1 n1 ((inF b).mpr<|.inr hb) n2;exact⟨z',q2⟩
 .obtain⟨n1,n2,n3⟩:=old b o q;obtain⟨o1,q1⟩:=U99.there b o q hx
  by_cases hb:b∈frs (envOfC qual scope s₀.heap.objs.size f cd::outer)
  .obtain⟨z,q2⟩:=fw.slot b o1 q1 n1 hb n2;exact⟨_,q2⟩
  .exact⟨o1,fw.keep b o1 q1 n1 hb n2⟩
 .refine(I.hok b o q).stay (λb' u hb' q'=>?_) (λ_ z=>z) (λ_ _ z=>z);have tr:H b'≠none:=by
   rcases hb' with z | z
   .simp_all
   .simp_all
  refine fw.keep b' u q' (λz=>tr (by rw[z];exact fl.free)) (λz=>tr<|I.stkFree b' z) λz=>?_;rw[hv] at z;exact tr (hT b' (Rs z).symm).1
 .obtain⟨oT,ts,h1,h2,h3⟩:=fw.head;exact⟨_,oT,ts,J,fw.ne,h1,h2,h3⟩
 .cases z;refine⟨I.fresh,?_⟩;cases y:s₀.heap.get? _ with
  | none=>rfl
  | some o=>exact absurd (Qa y)<|Ib.mpr I.sz
def zEU {E':XK}(h:∀(C:qu) (H:Hp),E' (!1) none H->E (!1) none H):oU (CXq P w) (qP (CXq P w) P w K mg base N qual scope f cd A outer s₀ H₀ E) E':=by
 intro Z U H s e s' I hx;obtain⟨C,a,H',rfl,os,bare,un,hok,fl,he⟩:=hx;obtain⟨vs,v,ho,hv,hh,hT⟩:=fl.ob;have back:∀b,s.heap.get? b=none->s₀.heap.get? b=none:=λb z=>by
  cases y:s₀.heap.get? b with
  | none=>rfl
  | some o =>obtain⟨o',q⟩:=I.base.there b o y (λz=>nomatch (show b∈([]) from z));rw[z] at q;cases q
 exact zHq (I.call' os un hok bare λb z=>absurd z je) ⟨⟨vs,v,ho,hv,hh,λT z=>⟨(hT T z).1,back T (hT T z).2⟩⟩,fl.free,back a fl.new⟩<|h C H' he
def zSP (X:Cx)(E:XK):Prop:=∀(Z:jm) (U:St) (H:Hp) (s:qw) (C a:qu),Inv X Z U H s->Fly s.heap H X.s₀.heap C a->E (!1) none H->X.xe (.ref a) s
section
variable{t:TA}
def zHR (M:zNb X.K C){Q:jl}(I:!4)(hl:us.length<=1000)(h:∀h' a t,Inv X Z U H (!18)->s.heap.get? a=none->h'.get? a=some { cls:=.ref C,data:=.fields #[.ref t,.none,.none,.none,.bool false,.none] }->Q (.ref a) (!18)):wpAny (!5) X.A (call (!1) us) Q X.xe s:=by obtain⟨bm,N,nm,qn,bs,hdct,sn,sub,ab,col,dd,k0,k1,k2,k3,k5,hk,x1,x2,x3⟩:=M;have hsl:1001<=_:=Wa<|wN jb;refine wpAny_call_exc_subU F.excBase_ValueError J F.excBase_ValueError (tail_of_in I.kIn x3) (I.kIn _ _ hk) (.of_isNs<|isNs_of_in I.kIn x1) (nsMap_none_of_in I.kIn x1 x2) (λh' a m=>?_) jc;obtain⟨t,et,_⟩:=m.there;exact h h' a t (I.kept m.keeps) m.new et
def zFf (C:qu)(E:XK)(t:TA):TS:=λ_ U H=>t U H λvs H1=>vs.length<=1000/\E (!1) none H1
def zKl (M:zNb X.K C)(hx:X.ex=[])(hm:X.mg c=some (!1))(kp:keepIn X.K (!1)=true)(hg:Gl X c)(hc:!23)(th:zSP X E)(ha:PA X (e::es) t)(hdb:(c==("__debug__":Str))=false:=by decide)(he:!24:=by rfl) (hpl:(backTo cpos (!26)).any (·.1)=false:=by rfl):PS X (.Raise (some<|.Call (.Name c p) (e::es) [] cpos) none pos)<|zFf C E t:=by
 intro Z s U H D I h;obtain⟨bm,N,nm,qn,bs,hdct,sn,sub,ab,col,dd,k0,k1,k2,k3,k5,hk,x1,x2,x3⟩:=id M;refine Qw<|Oh<|wpAny_raiseStmt_made_sub (C:=C) (nm:=nm) (q:=qn) (N:=N) (bs:=bs) (hdct:=hdct) (sn:=sn) (sub:=sub) (ab:=ab) (col:=col) (dd:=dd) (k0:=k0) (k1:=k1) (k2:=k2) (k3:=k3) (k5:=k5) (newId:="ValueError.__new__") ((tail_of_in I.kIn x3).hasType J) (I.ok.hd hc)<|Qw<|thn (Re<|iV I hg hm (Tu I.ok.mod.kin kp (thn (ha cpos Z s U H _ I h) λus s1 ⟨vs,H1,I1,r,q1,q2⟩=>⟨I1.kIn,(zHR M I1 (by rw[Ih,<-r.length];exact q1) λh' a t I2 new ob=>⟨a,t,J,I2.kIn _ _ hk,ob,th Z U H1 _ C a I2 ⟨⟨_,_,ob,J,.inl J,λT z=>nomatch z⟩,?_,?_⟩ q2⟩)⟩) he hpl) hdb) λv s1 q=>Qw<|Oh<|Qi q
 .cases z:H1 a with
  | none=>rfl
  | some o=>obtain⟨u,y⟩:=(I1.hok a o z).got;rw[new] at y;cases y
 .cases z:X.s₀.heap.get? a with
  | none=>rfl
  | some o =>obtain⟨u,y⟩:=I1.base.there a o z (!8);rw[new] at y;cases y
end
theorem zXb {α:Type}(p:α->Bool):∀(l:List α) (i:Nat),(∀x,l[i]?=some x->p x=false)->(l.eraseIdx i).find? p=l.find? p
 | [],_,_=>rfl
 | x::r,0,h=>by simp_all
 | x::r,i+1,h=>by rw[Uv,Ym,Ym,zXb p r i λy e=>h y (!6)]
def zJr {k:qv}(h:k.isStr x=true)(ne:y≠x):k.isStr y=false:=by
 cases k<;>simp_all [Value.isStr]
 exactλq=>ne q.symm
section
variable{E:jl}
def zFx {m:Str->kn}{n:Str}{Q:Bool->qw->Prop}(hn:s.heap.Ns a m)(hQ:∀h' m',h'.Ns a m'->(∀x,x≠n->m' x=m x)->Heap.SameBut a s.heap h'->Q (m n).isSome (!18)):wpAny M A (nsDel a n) Q E s:=by
 obtain⟨⟨c,d,dt,sl⟩,es,ep,ho,hd,hk,hm⟩:=id hn;subst hd;have noref:es.any (·.refKey)=_:=Array.any_eq_false'.mpr λe he=>by obtain⟨w,t,q⟩:=hk e he;simp[DictEntry.refKey,q]
 have hh:nsHas n ⟨c,d,.dict es ep,sl⟩=pure (es.any (·.key.isStr n)):=by rw[nsHas_eq];show(if (es.any λx=>x.key.isStr n)=true then _ else _)=_;cases es.any λx=>x.key.isStr n<;>simp[noref]
 have hs:(m n).isSome=es.any (·.key.isStr n):=by rw[<-hm n];unfold nsFind findBy;rw[Yg,Rq,Array.find?_isSome,Array.any_eq_true']
 refine Qw<|Pl ho ?_;rw[hh];refine Qw<|Qi ?_;rw[<-hs];cases hb:(m n).isSome with
 | false =>have:=hQ _ m hn (λ_ _=>rfl)<|.refl ..;rw[hb] at this;exact Qi this
 | true =>
  refine Qw<|wpAny_updatePart ho<|Qi ?_;rw[hb] at hs;obtain⟨k,hk1⟩:=Array.any_eq_true'.mp hs.symm;cases hi:es.findIdx? (·.key.isStr n) with
  | none =>simp_all
  | some i =>
   have hd':Obj.dropName n ⟨c,d,.dict es ep,sl⟩=⟨c,d,.dict (es.eraseIdxIfInBounds i)<|ep+1,sl⟩:=by rw[Obj.dropName_eq];unfold Obj.dropNameByArray;dsimp only;rw[hi]
   have hg:=Rc (Obj.dropName n) ho (by rw[hd'];rfl);rw[hd'] at hg;have:=hQ _ (nsFind<|es.eraseIdxIfInBounds i) ⟨_,_,_,hg,J,hk.erase i,λ_=>rfl⟩ (λx ne=>?_)<|Uq ..
   .simp_all
   .rw[<-hm x];unfold nsFind findBy;congr 1;obtain⟨hlt,hp,_⟩:=(Array.findIdx?_eq_some_iff_getElem.mp hi)
    rw[<-Os,<-Os,show(es.eraseIdxIfInBounds i).toList=es.toList.eraseIdx i by simp[Array.eraseIdxIfInBounds,hlt]];refine zXb _ _ _ λy e=>zJr (x:=n) ?_ ne;rw[Ql<|by simpa using hlt] at e;cases e;simpa using hp
def Inv.gone {n:Str}{m m':Str->kn}(I:!4)(hN:X.N.Nodup)(hi:X.N[i]?=some n)(hm:s.heap.Ns X.env.locals m)(hm':h'.Ns X.env.locals m')(e:∀x,x≠n->m' x=m x)(sb:Heap.SameBut X.env.locals s.heap h'):Inv X Z (U.set i none) H { s with heap:=h',toks:=t' }:=by
 have keep:∀b o,b≠_->s.heap.get? b=some o->h'.get? b=some o:=λb o ne q=>sb.extBut _ _ ne q;have neL:∀b o,X.s₀.heap.get? b=some o->b≠_:=λb o q=>Wy<|Wr (Qa q) I.ok.above;obtain⟨m0,hn0,hl⟩:=I.loc;have em:∀x,m0 x=m x:=λx=>by obtain⟨o,es,ep,q1,q2,_,q3⟩:=hn0;obtain⟨o',es',ep',r1,r2,_,r3⟩:=hm;rw[q1] at r1;cases r1;rw[q2] at r2;cases r2;rw[<-q3,<-r3]
 refine⟨I.ok,I.os,I.bare,⟨λb o q n hb hx=>keep b o (neL b o q)<|I.base.keep b o q n hb hx,λb o q n hb hx=>?_,I.base.free,λb o q hx=>?_,I.base.tups,I.base.frzs,I.base.tbls⟩,⟨m',hm',λj x v hj hU hv=>?_⟩,λx c q=>?_,I.free,I.freeC,λp hp=>?_,λb o q=>?_,?_⟩
 .obtain⟨z,y⟩:=I.base.slot b o q n hb hx;exact⟨z,keep b _ (neL b o q) y⟩
 .obtain⟨z,y⟩:=I.base.there b o q hx;exact⟨z,keep b _ (neL b o q) y⟩
 .have ji:j≠i:=λz=>by
   subst z
   by_cases hl':j < U.length
   .rw[Rh hl'] at hU;cases hU
   .rw[List.getElem?_eq_none (by rw[Ps];lia)] at hU;cases hU
  rw[Wv<|Ne.symm ji] at hU;obtain⟨u,r,lk⟩:=hl j x v hj hU hv;have xn:x≠n:=λz=>ji (by subst z;exact(List.getElem?_inj (v5 hj).1 hN).mp (hj.trans hi.symm))
  refine⟨u,r,?_⟩;rcases lk with⟨k1,k2⟩ | ⟨k1,c,k2,ob,k3,k4⟩
  .exact .inl ⟨k1,by rw[e x xn,<-em];exact k2⟩
  .exact .inr ⟨k1,c,k2,ob,keep c ob (I.cne x c k2) k3,k4⟩
 .obtain⟨v,ob,k1,k2⟩:=I.cell x c q;exact⟨v,ob,keep c ob (I.cne x c q) k1,k2⟩
 .obtain⟨p1,p2,p3,p4⟩:=I.pin p hp;exact⟨keep _ _ p3 p1,p2,p3,p4⟩
 .refine(I.hok b o q).stay (λb' u hb' q'=>keep b' u (λz=>?_) q') (λ_ z=>z) (λ_ _ z=>z);have fr:=I.free;rcases hb' with y | y
  .grind
  .simp_all
 .rw[Ps];exact I.len
def zMK {E:jl}{n:Str}(I:!4)(hN:X.N.Nodup)(hi:X.N[i]?=some n)(hk:X.env.kindOf n=some .local)(hx:Loc X.env.scope n)(h:∀s',Inv X Z (U.set i none) H s'->Q () s') (hf:X.fn n=true\/X.env.scope.names.lookup n=some .local):wpAny M A (do bindName X.env n .none;unbindBehindTheSuite X.env n pos) Q E s:=by
 refine Qw<|wpAny_bindName<|zYG (v:=.non) I hN hi hx rfl (λs1 I1 _=>?_) hf;have hp:(X.env.scope.kind == .class||(X.env.scope.kind == .module&&X.env.locals != X.env.globals))=false:=by rw[I.ok.kind];rfl
 obtain⟨m1,hn1,hl1⟩:=I1.loc;refine wpAny_onRaise<|Qw<|wpAny_point<|Qw ?_;unfold deleteName;simp only[hk,hp];have hii:i < U.length:=by rw[I.len];exact(v5 hi).1
 obtain⟨u,_,lk⟩:=hl1 i n .non hi (Rh hii)<|.inl<|hk;have hs:(m1 n).isSome=true:=by
  rcases lk with⟨_,k2⟩ | ⟨k1,_⟩
  .simp_all
  .simp_all
 refine Qw<|zFx hn1 λh2 m2 q1 q2 q3=>?_;rw[hs];refine Qi<|wpAny_point ?_;have ya:=I1.gone (t':=s1.toks) hN hi hn1 q1 q2 q3;simp_all
def Inv.caught {g:qx}(I2:Inv X Z U H2 s2)(os:s'.os=s2.os)(bare:AllBare s'.gens)(un:Un (frs X.stack) [] H2 H' s2.heap s'.heap)(hok:HOk X.prog X.w H' s'.heap)(fa:H' a=none)(na:s2.heap.get? a=none)(k1:∀b o,s'.heap.get? b=some o->(H' b≠none\/∃o',s2.heap.get? b=some o')->b∉frs X.stack->g.get? b=some o) (k2:∀b o,s'.heap.get? b=some o->(∃o',s2.heap.get? b=some o')->b∈frs X.stack->∃z,g.get? b=some { o with slots:=z })(oa:∃fs,g.get? a=some { cls:=.ref C,dict:=none,data:=.fields fs }):Inv X Z U (upd H' a<|.ext<|Xe C a none) { s' with heap:=g,toks:=t' }:=by
 have I':Inv X Z U H' s':=I2.call' (ch:=[]) os un hok bare (λb z=>nomatch z);have nea:∀b o,s2.heap.get? b=some o->b≠a:=λb o q z=>by rw[z,na] at q;cases q
 refine I2.call' (s':={ s' with heap:=g,toks:=t' }) (ch:=[]) os ⟨λb o q n hb hx=>k1 b o (un.keep b o q n hb hx) (.inr ⟨o,q⟩) hb,λb o q n hb hx=>?_,λb o q n hx=>?_,λb o q hx=>?_,λb xs q=>?_,λb o u q=>?_,λb ps q=>?_⟩ (λb o q=>?_) bare λb z=>nomatch z
 .obtain⟨z,y⟩:=un.slot b o q n hb hx;obtain⟨z',y'⟩:=k2 b _ y ⟨o,q⟩ hb;exact⟨z',y'⟩
 .rw[zD<|nea b o q];exact un.free b o q n hx
 .obtain⟨o1,y⟩:=un.there b o q hx
  by_cases hb:b∈frs X.stack
  .obtain⟨z,y'⟩:=k2 b o1 y ⟨o,q⟩ hb;exact⟨_,y'⟩
  .exact⟨o1,k1 b o1 y (.inr ⟨o,q⟩) hb⟩
 .have y:=un.tups b xs q;rw[zD<|yR y fa];exact y
 .have y:=un.frzs b o u q;rw[zD<|yR y fa];exact y
 .obtain⟨more,y⟩:=un.tbls b ps q;exact⟨more,by rw[zD<|yR y fa];exact y⟩
 .by_cases hb:b=a
  .subst hb;rw[zH] at q;cases q;exact⟨oa,(let ⟨_,e⟩:=oa;⟨_,e⟩),λh1 h2 ⟨fs,e⟩ k=>⟨fs,k _ e⟩⟩
  .rw[zD hb] at q;refine(hok b o q).stay (λb' u hb' q'=>?_) (λb' z=>by rw[zD<|yR z fa];exact z) (λb' xs z=>by rw[zD<|yR z fa];exact z);have tr:H' b'≠none:=by
    grind
   exact k1 b' u q' (.inl tr) λz=>tr<|I'.stkFree b' z
end
abbrev Cx.marked (X:Cx)(a:qu)(R:jl):Cx:={ X with A:=X.A.mark<|some<|.ref a,calm:=false,xe:=R }
theorem Cx.Ok.marked {X:Cx}(ok:X.Ok)(a:qu)(R:jl):(X.marked a R).Ok :=
 ⟨ok.mod,ok.kind,ok.glob,ok.blt,ok.above,ok.inj,ok.has,ok.cab,(λz=>by cases z),ok.frames,ok.stk,ok.exf,ok.bs,ok.bsz,ok.noex,ok.exfs,ok.funs,ok.frf⟩
def Inv.marked {X:Cx}{Z:jm}{U:St}{H:Hp}{s:qw}(I:!4)(a:qu)(R:jl):Inv (X.marked a R) Z U H s:=⟨I.ok.marked a R,I.os,I.bare,I.base,I.loc,I.cell,I.free,I.freeC,I.pin,I.hok,I.len⟩
def Inv.unmarked {R:jl}(ok:X.Ok)(I:Inv (X.marked a R) Z U H s):Inv X Z U H s:=⟨ok,I.os,I.bare,I.base,I.loc,I.cell,I.free,I.freeC,I.pin,I.hok,I.len⟩
def zJG {D:Ends}{n:Str}{yp hp:Pos}(I2:Inv X Z U H2 s2)(os:s'.os=s2.os)(bare:AllBare s'.gens)(un:Un (frs X.stack) [] H2 H' s2.heap s'.heap)(hok:HOk X.prog X.w H' s'.heap)(fl:Fly s'.heap H' s2.heap C a) (hst:X.stack=X.env::X.outer) (hef:X.env.frame=some X.env.locals) (hg:Gl X y) (hm:X.mg y=some (.ref Y)) (hdb:(y==("__debug__":Str))=false) (hx:PySem.W.exmOne X.K (!1) (.ref Y)=some true)(hN:X.N.Nodup) (hi:X.N[i]?=some n) (hk:X.env.kindOf n=some .local) (hl:Loc X.env.scope n) (hf:X.fn n=true\/X.env.scope.names.lookup n=some .local)(hs:PSs (X.marked a λ_ _=>False) (b₀::suite) t) (ht:t { nx:=λU' H''=>D.nx (U'.set i none) H'',rt:=λ_ _=>False } (U.set i<|some<|.ref a) (upd H' a<|.ext<|Xe C a none)):wpAny (!5) X.A (noteFrame (.ref a) X.env) (λ_ s3=>wpAny (!5) X.A (setFlight (.ref a) none) (λ_ s4=>wpAny (!5) X.A (handleBy (.ref a) X.env [.ExceptHandler (some<|.Name y yp) (some n) (b₀::suite) hp]) (SP X Z D) X.xe s4) X.xe s3) X.xe s':=by
 have I':Inv X Z U H' s':=I2.call' (ch:=[]) os un hok bare (λb z=>nomatch z);obtain⟨vs,v,ho,hv,hh,hT⟩:=fl.ob;have hfr:X.A.frames=some (X.env::X.outer):=by rw[<-hst];exact I2.ok.frames
 have hfun:s'.heap.FunFrames X.base<|X.env::X.outer:=by rw[<-hst];exact I'.stack
 refine zXi (base:=_) hfr hfun hef ho hv hh λh3 fw=>?_;rw[<-hst] at fw;have old:∀b o',s2.heap.get? b=some o'->b≠a/\some (Value.ref b)≠vs[1]?:=λb o' q=>by
  refine⟨λz=>?_,λz=>?_⟩
  .rw[z,fl.new] at q;cases q
  .simp_all
 have ya:∀tk,Inv X Z U (upd H' a<|.ext<|Xe C a none) { s' with heap:=h3,toks:=tk }:=λtk=>I2.caught os bare un hok fl.free fl.new (λb o q hb hn=>by
   rcases hb with z | ⟨o',z⟩
   .refine fw.keep b o q (λe=>z (by rw[e];exact fl.free)) hn λe=>z ?_;simp_all
   .exact fw.keep b o q (old b o' z).1 hn (old b o' z).2) (λb o q ⟨o',z⟩ hb=>fw.slot b o q (old b o' z).1 hb (old b o' z).2) ⟨_,fw.obj⟩
 have ya:=ya s'.toks;have hsz:1 < _:=(Rl.mp hv).1;obtain⟨oT,ts,hT1,hT2,hT3⟩:=fw.head;have cls:PySem.W.Looks (!5) h3 (typeOf<|.ref a) (!1):=(PySem.W.Looks.ld fw.obj).andThen .now;refine wpAny_handleBy_cons (codeAny_handlers_test<|iV (X:=X.marked a λ_ _=>False) (ya.marked a _) hg hm ?_ hdb) (by intro q;cases q);have kx:X.K.In h3:=ya.kIn;refine(exm_one kx cls hx) (X.A.mark<|some<|.ref a) _ _ _ (λ_ _ q=>q) (codeAny_handlers_suite_as<|zRF fw.obj rfl (by rw[Ig hsz]) hT1 hT2 hT3 λh4 k4=>?_);have J4:Inv X Z U (upd H' a<|.ext<|Xe C a none) { s' with heap:=h4 }:=ya.kept (t':=_) k4;refine zVP J4 hN hi hl (v:=.ref a) J (λs6 I6=>(Ed (hs Z s6 _ _ _ (I6.marked a _) ht) (λf s7 h7=>?_) λ_ _ z=>z.elim)) hf;cases f with
 | next =>obtain⟨U',H'',I7,q7⟩:=h7;exact zMK (I7.unmarked I2.ok) hN hi hk hl (λs8 I8=>⟨_,H'',I8,q7⟩) hf
 | brk=>obtain⟨_,_,_,z⟩:=h7;exact False.elim z
 | cont=>obtain⟨_,_,_,z⟩:=h7;exact False.elim z
 | ret u=>obtain⟨_,_,_,_,_,z⟩:=h7;exact False.elim z
def spQ (K:jk)(n:Nat)(d:jz)(x:kd->kf):Sp:=λvs H Q E=>∃G ds,Same G H/\Reps K G ds vs/\ds.length=n /\
 ((∃r,d ds=some r/\∀v H' G',Step G H G' H'->Rep K G' r v->Q v H')\/∃c C,x ds=some c/\ClsAt K c C/\∀H' G',Step G H G' H'->E (!1) none H')
def tXS (K:jk)(E:XK)(x:kj->kf):TS:=λ_ U H=>∃G0 H0 G O c C,Good K G0 H0 G H U O/\x O=some c/\ClsAt K c C/\∀H' G',Step G H G' H'->E (!1) none H'
def PXS (X:Cx)(E:XK)(st:r9)(x:kj->kf):Prop:=PS X st<|tXS X.K E x
def zZW (X:Cx)(E:XK)(sts:qg)(x:kj->kf):Prop:=PSs X sts<|tXS X.K E x
def tXE (K:jk)(E:XK)(x:kj->kf):TE:=λU H _=>∃G0 H0 G O c C,Good K G0 H0 G H U O/\x O=some c/\ClsAt K c C/\∀H' G',Step G H G' H'->E (!1) none H'
def PXE (X:Cx)(E:XK)(e:r8)(x:kj->kf):Prop:=PE X e<|tXE X.K E x
def zD8 (K:jk)(p:kj->Bool):TA:=λU H Q=>∃G0 H0 G O,Good K G0 H0 G H U O/\p O=true/\∀vs H' G',Step G H G' H'->vs.length<=1000->Q vs H'
def zMs (X:Cx)(es:qt)(p:kj->Bool):Prop:=PA X es<|zD8 X.K p
section
variable{a:r8}{x:kj->kf}{rest:qg}
def zJJ (hC:ClsAt X.K c C)(M:zNb X.K C)(hx:X.ex=[])(hm:X.mg c=some (!1))(kp:keepIn X.K (!1)=true)(hg:Gl X c)(hc:!23)(th:zSP X E)(ha:zMs X (e::es) q)(hdb:(c==("__debug__":Str))=false:=by decide)(he:!24:=by rfl) (hpl:(backTo cpos (!26)).any (·.1)=false:=by rfl):PXS X E (.Raise (some<|.Call (.Name c p) (e::es) [] cpos) none pos) λO=>if q O then some c else none:=by
 intro Z s U H D I h;obtain⟨G0,H0,G,O,c',C',j0,hq,hC',k⟩:=h;dsimp only at hq;split at hq
 .rename_i hq';cases hq;have ec:=hC.one hC';subst ec;exact zKl M hx hm kp hg hc th ha hdb he hpl Z s U H D I ⟨G0,H0,G,O,j0,hq',λvs H' G' st hl=>⟨hl,k H' G' st⟩⟩
 .simp_all
def zHo (ht:PFT X a tt)(h1:zZW X E sts xa)(h2:zZW X E rest xb):PXS X E (.If a sts rest pos) λO=>(tt O).bind λc=>if c=true then xa O else xb O:=by
 intro Z s U H D I h;obtain⟨G0,H0,G,O,c,C,j0,hq,hC,k⟩:=h;obtain⟨v,hv,hq⟩:=k8 hq;refine zUW ht h1 h2 Z s U H D I ⟨G0,H0,G,O,v,j0,hv,λH1 G1 st=>?_⟩;cases v with
 | true =>exact⟨G0,H0,G1,O,c,C,j0.step st,hq,hC,λH' G' st'=>k H' G'<|st.trans st'⟩
 | _ =>exact⟨G0,H0,G1,O,c,C,j0.step st,hq,hC,λH' G' st'=>k H' G'<|st.trans st'⟩
theorem zKm:zZW X E [] λ_=>none:=λZ s U H D I h=>by obtain⟨_,_,_,_,_,_,_,z,_⟩:=h;cases z
def sJ (h:PXS X E st x):zZW X E (st::rest) x:=by exactλZ s U H D I q=>tY (u:=λ_ _ _=>False) h (λZ s U H D I z=>z.elim) Z s U H D I q
def zZS (h:PXE X E e x)(hs:swapsWith e none pos.line X.env=pure false:=by rfl):PXS X E (.Expr e pos) x:=λZ s U H D I q=>qH h hs Z s U H D I q
def zIq {k:Nat}{d:jz}(F:FnOk X.prog X.w X.K X.mg X.base (CXq X.prog X.w) k fad fd ps<|spQ X.K n d xf)(hp:oU (CXq X.prog X.w) X E)(hr:Room k X.A)(hm:X.mg y=some (.ref fad))(hk:keepIn X.K (.ref fad)=true)(hb:Binds X.K fd ps [])(hg:Gl X y)(ha:PFA X (e::es) ga) (hdb:(y==("__debug__":Str))=false:=by decide) (he:!24:=by rfl) (hpl:(backTo pos (!26)).any (·.1)=false:=by rfl):PXE X E (.Call (.Name y p) (e::es) [] pos) λO=>(ga O).bind λds=>if ds.length=n then xf ds else none:=by
 intro Z s U H Q I h;obtain⟨G0,H0,G,O,c,C,j0,hq,hC,k⟩:=h;obtain⟨ds,h1,hq⟩:=k8 hq;split at hq
 .rename_i hl;refine cV F hr hg hm hk hb .nil hp ha hdb he hpl Z s U H Q I ⟨G0,H0,G,O,_,j0,h1,λvs H1 G1 s1 r1=>?_⟩;show spQ X.K n d xf _ H1 Q E;rw[Wf];exact⟨G1,ds,s1.sub,r1,hl,.inr ⟨c,C,hq,hC,λH' G' st=>k H' G'<|s1.trans st⟩⟩
 .simp_all
def zJt {k:Nat}{d:jz}(F:FnOk X.prog X.w X.K X.mg X.base (CXq X.prog X.w) k fad fd ps<|spQ X.K n d xf)(hr:Room k X.A)(hm:X.mg y=some (.ref fad))(hk:keepIn X.K (.ref fad)=true)(hb:Binds X.K fd ps [])(hg:Gl X y)(ha:PFA X (e::es) ga) (hdb:(y==("__debug__":Str))=false:=by decide) (he:!24:=by rfl) (hpl:(backTo pos (!26)).any (·.1)=false:=by rfl):PF X (.Call (.Name y p) (e::es) [] pos)<|yZ n d ga:=by
 refine PE.to (cV (E:=E0) F hr hg hm hk hb .nil (λZ U H s e s' I h=>by obtain⟨_,_,_,_,_,_,_,_,_,z⟩:=h;exact z.elim) ha hdb he hpl) ?_;rintro U H Q ⟨G0,H0,G,O,r,j0,hf,k⟩;obtain⟨ds,h1,hf⟩:=k8 hf;split at hf
 .rename_i hl;refine⟨G0,H0,G,O,_,j0,h1,λvs H1 G1 s1 r1=>?_⟩;show spQ X.K n d xf _ H1 Q E0;rw[Wf];exact⟨G1,ds,s1.sub,r1,hl,.inl ⟨r,hf,λv H' G' st rr=>k v H' G' (s1.trans st) rr⟩⟩
 .simp_all
end
section
variable{k:Nat}
def zF2 (F:Fun K x qual st f fd)(S:FnScope N ps<|zV st)(hb:∀(j9:qv) (A:qy) (outer:qb) (s:qw) (H:Hp) (E:XK),Room k (!35)->PFSs (qP (CXq P w) P w K mg base N qual (zV st) f j9 A outer s H E) (xI st) body)(hx:∀(j9:qv) (A:qy) (outer:qb) (s:qw) (H:Hp) (E:XK),Room k (!35)->zZW (qP (CXq P w) P w K mg base N qual (zV st) f j9 A outer s H E) E (xI st) xb):FnOk P w K mg base (CXq P w) (k+1) f fd ps<|spQ K ps.length (fnF N.length body) λds=>xb<|zZi N.length ds:=by
 obtain⟨oc,od,kV,doc,pm,an,j9,ct,osl,rfl,lk,hcd⟩:=F.ex;refine zGZ lk hcd S (λvs H Q E h=>?_) λA _ s H vs Q E hr h=>?_
 .obtain⟨G,ds,sub,rs,hl,_⟩:=h;rw[<-rs.length];exact hl
 .obtain⟨G,ds,sub,rs,hl,h | ⟨c,C,hc,hC,k⟩⟩:=h
  .obtain⟨d,hf,k⟩:=h;refine⟨_,hb j9 A _ s H E hr,?_⟩;obtain⟨o,h1,h2⟩:=k8 hf;refine⟨G,H,G,_,o,mQ sub rs,h1,?_⟩;cases o with
   | nx O=>cases h2;exactλU' H' G' s' g'=>k .non H' G' g'.st<|sQ.mpr rfl
   | rt e=>cases h2;exactλv H' G' s' r=>k v H' G' s' r
   | rl es=>cases h2;exactλp us H' G' s' hn hp gp r=>k _ H' _ (s'.frz hn hp gp)<|wZ.mpr ⟨p,us,rfl,.of zH,r.mono<|Same.new gp⟩
   | bk O=>cases h2
   | ct O=>cases h2
  .exact⟨_,hx j9 A _ s H E hr,⟨G,H,G,_,c,C,mQ sub rs,hc,hC,k⟩⟩
end
def zVB {Q:Flow->qw->Prop}{R:jl}(h:wpAny M A (exec st env) (λ_ _=>False) R s):wpAny M A (execs [st] env) Q R s:=Ub<|Ed h (λ_ _ z=>z.elim) λ_ _ z=>z
def PXB (X:Cx)(st:r9)(xb:kj->kf):Prop:=∀(Z:jm) (s:qw) (U:St) (H:Hp) (R:jl) (G0 H0 G:Hp) (O:kj) (c:Str) (C:qu),Inv X Z U H s->Good X.K G0 H0 G H U O->xb O=some c->ClsAt X.K c C ->
 (∀s2 H2 G2 e s',Inv X Z U H2 s2->Step G H G2 H2->CXq X.prog X.w X.stack H2 s2 (λv _ H'=>v = .ref C/\∃G',Step G2 H2 G' H') e s'->R e s')->wpAny (!5) X.A (exec st X.env) (λ_ _=>False) R s
section
variable{a b:r8}{st':r9}
def zGn (hno:∀e s,¬X.xe e s)(ht:PFT X a tt)(h1:PXB X st xa)(h2:PXB X st' xb):PXB X (.If a [st] [st'] pos) λO=>(tt O).bind λc=>if c=true then xa O else xb O:=by
 intro Z s U H R G0 H0 G O c C I j0 hq hC k;obtain⟨v,hv,hq⟩:=k8 hq;refine wpAny_If<|Ed (ht Z s U H (λb H1=>b=v/\∃G1,Step G H G1 H1) I ⟨G0,H0,G,O,v,j0,hv,λH1 G1 st=>⟨J,G1,st⟩⟩) (λb s1 ⟨H1,I1,eb,G1,st1⟩=>?_) λe s z=>(hno e s z).elim;subst eb;cases b with
 | true =>exact zVB<|h1 Z s1 U H1 R G0 H0 G1 O c C I1 (j0.step st1) hq hC λs2 H2 G2 e s' I2 st2 hx=>k s2 H2 G2 e s' I2 (st1.trans st2) hx
 | _ =>exact zVB<|h2 Z s1 U H1 R G0 H0 G1 O c C I1 (j0.step st1) hq hC λs2 H2 G2 e s' I2 st2 hx=>k s2 H2 G2 e s' I2 (st1.trans st2) hx
def Good.setNo (g:!21)(i:Nat):Good K G0 H0 G H (U.set i none)<|O.set i .no:=g.put i .no λ_ f=>f.elim
def zNo (cs:kh)(xb:kj->kf)(i:Nat)(f:Sf):Sf:=λO=>(xb O).bind λc=>if cs.contains c then(f<|O.set i<|.fz<|.exc c [] []).bind λo=>match o with | .nx O'=>some (.nx<|O'.set i .no) | _=>none else none
def zIS {cs:kh}{n:Str}{yp hp:Pos}{f:Sf}(hb:PXB X st xb)(hcs:∀c C,cs.contains c=true->ClsAt X.K c C->PySem.W.exmOne X.K (!1) (.ref Y)=some true)(hst:X.stack=X.env::X.outer) (hef:X.env.frame=some X.env.locals) (hg:Gl X y) (hm:X.mg y=some (.ref Y)) (hC:∀c,cs.contains c=true->∃C,ClsAt X.K c C) (hN:X.N.Nodup) (hh:∀a,PFSs (X.marked a λ_ _=>False) (b₀::suite) f)(hi:X.N[i]?=some n:=by rfl) (hk:X.env.kindOf n=some .local:=by rfl) (hl:Loc X.env.scope n:=by exact o0) (hf:X.fn n=true\/X.env.scope.names.lookup n=some .local:=by exact o0) (hdb:(y==("__debug__":Str))=false:=by decide):PFS X (.Try [st] [.ExceptHandler (some<|.Name y yp) (some n) (b₀::suite) hp] [] [] pos)<|zNo cs xb i f:=by
 intro Z s U H D I q;obtain⟨G0,H0,G,O,o,j0,hq,k⟩:=q;obtain⟨c,hc,hq⟩:=k8 hq;split at hq
 .rename_i hcc;obtain⟨C,hCC⟩:=hC c hcc;obtain⟨o1,ho1,hq⟩:=k8 hq;split at hq
  .rename_i O';cases hq;refine wpAny_Try_except<|zVB<|hb Z s U H _ G0 H0 G O c C I j0 hc hCC λs2 H2 G2 e s' I2 st2 hx=>?_;obtain⟨C',a,H',rfl,os,bare,un,hok,fl,eC,G',st'⟩:=hx;cases eC;have rp:Rep X.K (upd G' a<|.ext _) (.exc c [] []) _:=zZK.mpr ⟨C,a,none,[],hCC,J,zH,J,J,yX.mpr J⟩;exact zJG I2 os bare un hok fl hst hef hg hm hdb (hcs c C hcc hCC) hN hi hk hl hf (hh a) ⟨G0,H0,_,_,.nx O',(((j0.step st2).step st').step<|Step.laid (o:=.ext<|Xe C a none) st'.sub fl.free).setF i rp,ho1,λU' H'' G'' sg g3=>k _ H'' G'' (((st2.gg.trans st'.gg).trans<|Same.new<|st'.sub.free fl.free).trans sg)<|g3.setNo i⟩
  .simp_all
 .simp_all
end
def zDB (K:jk)(p:kj->Bool):TE:=λU H Q=>∃G0 H0 G O,Good K G0 H0 G H U O/\p O=true/\∀y H' G',Step G H G' H'->Str.length y<=20000->Q (.str y) H'
def zLB (X:Cx)(e:r8)(p:kj->Bool):Prop:=PE X e<|zDB X.K p
section
variable{p:kj->Bool}{k:Nat}
def zN9:zLB X (.Constant (.str y) j pos) λ_=>decide (y.length<=1000):=by intro Z s U H Q I h;obtain⟨G0,H0,G,O,j0,hp,k⟩:=h;exact zPz Z s U H Q I<|k y H G (.refl j0.sub) jc
def PJ (X:Cx)(es:qt)(p:kj->Bool):Prop:=∀(Z:jm) (s:qw) (U:St) (H:Hp) (out:Str) (Q:VK),Inv X Z U H s->(∃G0 H0 G O,Good X.K G0 H0 G H U O/\p O=true/\out.length+20000*es.length<=400000/\∀y H' G',Step G H G' H'->Str.length y<=400000->Q (.str y) H') ->
 wpAny (!5) X.A (joinParts out<|evalEach es X.env) (EP X Z U Q) X.xe s
def zFi:PJ X [] λ_=>true:=by
 intro Z s U H out Q I h;obtain⟨G0,H0,G,O,j0,hp,hl,k⟩:=h;have hl:=by simpa using hl
 exact joinParts_nil ⟨.str out,H,I.tok _,⟨_,J⟩,k out H G (.refl j0.sub) hl⟩ (by rw[Wk];lia)
def zJi (h1:zLB X e p)(h2:PJ X es q):PJ X (e::es) λO=>p O&&q O:=by intro Z s U H out Q I h;obtain⟨G0,H0,G,O,j0,hp,hl,k⟩:=h;rw[Qm] at hp;rw[Qk] at hl;refine joinParts_cons<|thn (h1 Z s U H (λv H1=>∃y G1,v = .str y/\Str.length y<=_/\Step G H G1 H1) I ⟨G0,H0,G,O,j0,hp.1,λy H1 G1 st hy=>⟨y,G1,J,hy,st⟩⟩) λv s1 ⟨x,H1,I1,r1,y,G1,e1,hy,st1⟩=>?_;subst e1;obtain⟨t,rfl⟩:=r1;have ha:=Yj out y;exact⟨by rw[Wk];lia,h2 Z s1 U H1 _ Q I1 ⟨G0,H0,G1,O,j0.step st1,hp.2,by rw[ha];lia,λz H' G' st' hz=>k z H' G' (st1.trans st') hz⟩⟩
def zLe (hs:starEach [Expr.Constant (.str y) j pos] X.env=[(false,eval (.Constant (.str y) j pos) X.env)]:=by rfl):zMs X [.Constant (.str y) j pos] λ_=>true:=by intro pos' Z s U H Q I h';obtain⟨G0,H0,G,O,j0,hp,k⟩:=h';exact yS zPz yF J pos' Z s U H Q I<|k [.str y] H G (.refl j0.sub)<|Qt rfl
def zRY {v1 v2:r8}(h:PJ X (v1::v2::es) p)(hs:starEach [Expr.JoinedStr (v1::v2::es) pos] X.env=[(false,eval (.JoinedStr (v1::v2::es) pos) X.env)]:=by rfl)(hl:es.length<=10):zMs X [.JoinedStr (v1::v2::es) pos] p:=by
 have hE:PE X (.JoinedStr (v1::v2::es) pos) (λU H Q=>∃G0 H0 G O,Good X.K G0 H0 G H U O/\p O=true/\∀y H' G',Step G H G' H'->Q (.str y) H'):=by intro Z s U H Q I ⟨G0,H0,G,O,j0,hp,k⟩;refine JoinedStr_many<|h Z s U H _ Q I ⟨G0,H0,G,O,j0,hp,?_,λy H' G' st _=>k y H' G' st⟩;have:Str.empty.length=0:=rfl;rw[this,Qk,Qk];lia
 intro pos' Z s U H Q I h';obtain⟨G0,H0,G,O,j0,hp,k⟩:=h';exact yS hE yF J pos' Z s U H Q I ⟨G0,H0,G,O,j0,hp,λy H' G' st=>k [.str y] H' G' st<|Qt rfl⟩
end
def IsyOk (K:jk)(j6:jn):qp->Prop
 | []=>True
 | (c,b)::r=>(∃C,ClsAt K c C/\XKit K C/\kitAny K (!1) j6=some b)/\IsyOk K j6 r
theorem IsyOk.at {K:jk}{j6:jn}:∀ {tb:qp} {c:Str} {b:Bool},IsyOk K j6 tb->tb.lookup c=some b->∃C,ClsAt K c C/\XKit K C/\kitAny K (!1) j6=some b
 | [],_,_,_,h=>by cases h
 | (n,x)::r,c,b,⟨h1,h2⟩,h=>by
  rw[Wp] at h;cases hq:c==n with
  | true =>rw[hq] at h;cases h;have e:=Yc.mp hq;subst e;exact h1
  | false=>rw[hq] at h;exact h2.at h
def zQT (K:jk)(j6:jn)(l:List<|qu×Bool):Bool:=l.all λx=>kitAny K (.ref x.1) j6==some x.2
def zI7:IsyOk K j6 []:=True.intro
def zVA {b:Bool}(ca:ClsAt K c C)(k:XKit K C)(h:zQT K j6 ((C,b)::r)=true)(rest:zQT K j6 r=true->IsyOk K j6 tb):IsyOk K j6<|(c,b)::tb:=by unfold zQT at h;rw[List.all_cons,Qm] at h;exact⟨⟨C,ca,k,Yc.mp h.1⟩,rest h.2⟩
def zXw (cs:ko):kl:=cs.map .ref
def zSw (cs:ko):qh:=cs.map .ref
def tCs (vs:kl):TA:=λ_ H Q=>Q vs H
section
variable{a b c:r8}
def zNB:PA X []<|tCs<|zXw []:=yF
def mX (h:PE X e<|tC (!1))(hr:PA X es<|tCs<|zXw cs)(hs:!24:=by rfl):PA X (e::es)<|tCs<|zXw<|C::cs:=yS h hr hs
def zLa (h:IsyOk X.K (zSw cs) tb):CallR X (.builtin "isinstance") (λxs H Q=>∃x G c ns ds b q,xs=[x,.ref q]/\Rd H q (.tup<|zXw cs)/\Same G H/\Rep X.K G (.exc c ns ds) x/\tb.lookup c=some b/\Q (.bl b) H):=by
 intro Z s U H xs us Q I r hh;obtain⟨x,G,c,ns,ds,b,q,rfl,hq,sub,rx,ht,k⟩:=hh;obtain⟨u,u',rfl,ru,ru'⟩:=zUG r;cases ru';obtain⟨C,hC,hk,ho⟩:=h.at ht;obtain⟨C',a,od,vs,h0,rfl,h1,_⟩:=zZK.mp rx;have ec:=hC.one h0;subst ec;cases ru;obtain⟨⟨fs,h2⟩,_⟩:=(show ObjOk X.prog X.w H s.heap a (.ext _) from I.hok a _<|sub _ _ h1)
 obtain⟨j6,rv,⟨o,t1,t2,n,t3⟩,_⟩:=I.tuple<|.inl hq;have ei:=zUk rv;subst ei;obtain⟨oc,od',oda,osl⟩:=o;cases t2;cases t3;exact kia_tup (zR9 hk.cl hk.ga hk.gt hk.gc hk.so hk.sb) I.kIn ⟨_,h2,J⟩ t1 ho (λz=>nomatch z) λtk=>⟨.bl b,H,I.tok tk,J,k⟩
def zFU {k1:Nat}(hok:IsyOk X.K (zSw cs) tb)(hcs:PA X es<|tCs<|zXw cs)(hl:cs.length<=1000)(hg:Gl X "isinstance")(hm:X.mg "isinstance"=none)(h:!10)(hs:starEach [a,.Tuple es k1 p1] X.env=[(false,eval a X.env),(false,eval (.Tuple es k1 p1) X.env)]:=by rfl):PF X (.Call (.Name "isinstance" p) [a,.Tuple es k1 p1] [] pos)<|zVp tb fa:=by
 refine PE.to (vB (zLa (cs:=cs) hok) hg hm jg (yS h (yS (zPi (x1:=k1) hcs) yF) (by rw[hs];rfl)) jb jb (by rw[hs];rfl) jg) ?_;rintro U H Q ⟨G0,H0,G,O,d,j0,hf,k⟩;unfold zVp at hf;obtain⟨x,h1,hf⟩:=k8 hf;cases x with
 | exc c ns ds =>
  obtain⟨b,h2,rfl⟩:=k9 hf;refine⟨G0,H0,G,O,_,j0,h1,λv H1 G1 s1 r1=>⟨?_,λq hq=>?_⟩⟩
  .rw[Wk,zXw,Qy];lia
  .have s2:=Step.laid (o:=.tup<|zXw cs) s1.sub hq;exact⟨v,_,c,ns,ds,b,q,J,.of zH,s2.sub,r1.mono s2.gg,h2,k _ _ _ (!12)<|wT.mpr rfl⟩
 | _=>cases hf
end
def qC (y:Str):kj->Bool:=λ_=>decide (y.length<=1000)
def zX2 (p q:kj->Bool):kj->Bool:=λO=>p O&&q O
def zPX:kj->Bool:=λ_=>true
def zYL (c:Str)(q:kj->Bool):kj->kf:=λO=>if q O then some c else none
def xIf (tt:Tf)(xa xb:kj->kf):kj->kf:=λO=>(tt O).bind λc=>if c=true then xa O else xb O
def zLX (n:Nat)(xf:kd->kf)(ga:Lf):kj->kf:=λO=>(ga O).bind λds=>if ds.length=n then xf ds else none
def zF0:kj->kf:=λ_=>none
def fnX (n:Nat)(xb:kj->kf):kd->kf:=λds=>xb<|zZi n ds
section
variable{p:kj->Bool}
def zKB:zLB X (.Constant (.str y) j pos)<|qC y:=zN9
def zEr (hs:starEach [Expr.Constant (.str y) j pos] X.env=[(false,eval (.Constant (.str y) j pos) X.env)]:=by rfl):zMs X [.Constant (.str y) j pos] zPX:=zLe hs
def zEs:PJ X [] zPX:=zFi
def zLz (h1:zLB X e p)(h2:PJ X es q):PJ X (e::es)<|zX2 p q:=zJi h1 h2
def zY3:PFSs X sts λ_=>none:=by intro Z s U H D I q;obtain⟨G0,H0,G,O,o,j0,hf,k⟩:=q;cases hf
def zTV:zSP (qP (CXq P w) P w K mg base N qual scope f cd A outer s₀ H₀ E) E:=λZ U H s C a I fl hE=>zHq I fl hE
def cN:oU (CXq P w) (qP (CXq P w) P w K mg base N qual scope f cd A outer s₀ H₀ E) E:=zEU λ_ _ h=>h
def PXB.nox {X:Cx}{st:r9}{xb:kj->kf}(h:PXB X.nox st xb):PXB X st xb:=λZ s U H R G0 H0 G O c C I j0 hq hC k=>h Z s U H R G0 H0 G O c C (I.wish _) j0 hq hC λs2 H2 G2 e s' I2 st hx=>k s2 H2 G2 e s' I2.unwish st hx
def zKq:∀e s,¬X.nox.xe e s:=λ_ _ z=>z
end
section
variable{a:r8}{st':r9}{rest:qg}
def zOx:zZW X E [] zF0:=zKm
def zLS (ht:PFT X a tt)(h1:zZW X E sts xa)(h2:zZW X E rest xb):PXS X E (.If a sts rest pos)<|xIf tt xa xb:=zHo ht h1 h2
def zYZ (hC:ClsAt X.K c C)(M:zNb X.K C)(hx:X.ex=[])(hm:X.mg c=some (!1))(kp:keepIn X.K (!1)=true)(hg:Gl X c)(hc:!23)(th:zSP X E)(ha:zMs X (e::es) q)(hdb:(c==("__debug__":Str))=false:=by decide)(he:!24:=by rfl) (hpl:(backTo cpos (!26)).any (·.1)=false:=by rfl):PXS X E (.Raise (some<|.Call (.Name c p) (e::es) [] cpos) none pos)<|zYL c q:=zJJ hC M hx hm kp hg hc th ha hdb he hpl
def zMi {k:Nat}{d:jz}(F:FnOk X.prog X.w X.K X.mg X.base (CXq X.prog X.w) k fad fd ps<|spQ X.K n d xf)(hp:oU (CXq X.prog X.w) X E)(hr:Room k X.A)(hm:X.mg y=some (.ref fad))(hk:keepIn X.K (.ref fad)=true)(hb:Binds X.K fd ps [])(hg:Gl X y)(ha:PFA X (e::es) ga) (hdb:(y==("__debug__":Str))=false:=by decide) (he:!24:=by rfl) (hpl:(backTo pos (!26)).any (·.1)=false:=by rfl):PXE X E (.Call (.Name y p) (e::es) [] pos)<|zLX n xf ga:=zIq F hp hr hm hk hb hg ha hdb he hpl
def zO5 (hno:∀e s,¬X.xe e s)(ht:PFT X a tt)(h1:PXB X st xa)(h2:PXB X st' xb):PXB X (.If a [st] [st'] pos)<|xIf tt xa xb:=zGn hno ht h1 h2
def ExOk (K:jk)(Y:qu):kh->Prop
 | []=>True
 | c::r=>(∃C,ClsAt K c C/\PySem.W.exmOne K (!1) (.ref Y)=some true)/\ExOk K Y r
theorem ExOk.at {K:jk}{Y:qu}:∀ {cs:kh} {c:Str},ExOk K Y cs->cs.contains c=true->∃C,ClsAt K c C/\PySem.W.exmOne K (!1) (.ref Y)=some true
 | [],c,_,h=>by cases h
 | n::r,c,⟨h1,h2⟩,h=>by
  rw[List.contains_cons,To] at h;rcases h with h | h
  .simp_all
  .exact h2.at h
def zI8 {cs:kh}{n:Str}{yp hp:Pos}{f:Sf}(ok:ExOk X.K Y cs)(hb:PXB X.nox st xb)(hst:X.stack=X.env::X.outer) (hef:X.env.frame=some X.env.locals) (hg:Gl X y) (hm:X.mg y=some (.ref Y)) (hN:X.N.Nodup) (hh:∀a,PFSs (X.marked a λ_ _=>False) (b₀::suite) f)(hi:X.N[i]?=some n:=by rfl) (hk:X.env.kindOf n=some .local:=by rfl) (hl:Loc X.env.scope n:=by exact o0) (hf:X.fn n=true\/X.env.scope.names.lookup n=some .local:=by exact o0) (hdb:(y==("__debug__":Str))=false:=by decide):PFS X (.Try [st] [.ExceptHandler (some<|.Name y yp) (some n) (b₀::suite) hp] [] [] pos) (zNo cs xb i f) :=
 zIS hb.nox (λc C hc hC=>by obtain⟨C',h1,h2⟩:=ok.at hc;have e:=h1.one hC;subst e;exact h2) hst hef hg hm (λc hc=>by obtain⟨C',h1,_⟩:=ok.at hc;exact⟨C',h1⟩) hN hh hi hk hl hf hdb
variable{k:Nat}
def PFSs.nox {X:Cx}{sts:qg}{g:Sf}(h:PFSs X.nox sts g):PFSs X sts g:=λZ s U H D I hw =>Ed (h Z s U H D (I.wish _) hw) (λ_ _ q=>q.unwish) λ_ _ z=>False.elim z
def aT (F:Fun K x qual st f fd)(S:FnScope N ps<|zV st)(hb:∀(j9:qv) (A:qy) (outer:qb) (s:qw) (H:Hp) (E:XK),Room k (!35)->PFSs (qP (CXq P w) P w K mg base N qual (zV st) f j9 A outer s H E).nox (xI st) body)(hx:∀(j9:qv) (A:qy) (outer:qb) (s:qw) (H:Hp) (E:XK),Room k (!35)->zZW (qP (CXq P w) P w K mg base N qual (zV st) f j9 A outer s H E) E (xI st) xb):FnOk P w K mg base (CXq P w) (k+1) f fd ps (spQ K ps.length (fnF N.length body)<|fnX N.length xb) :=zF2 F S (λj9 A _ s H E hr=>(hb j9 A _ s H E hr).nox) hx
end
end L2
variable{c:HO->Obj->Prop}{v:V}{Q:jl}{vs:kl}{r:D×D}{q:Option<|qu×qu×qu}
namespace L2
open Classical in
def rP (G H:Hp)(S:qu->Prop):Hp:=λx=>if S x then H x else G x
open Classical in
def outS (G:Hp)(S:qu->Prop):Hp:=λx=>if S x then none else G x
section
variable{G1:Hp}{b c x:qu}
def oI (h:S x):rP G H S x=H x:=Qh h
def wX (h:¬S x):rP G H S x=G x:=Qv h
def rQ (h:S x):outS G S x=none:=Qh h
def wE (h:¬S x):outS G S x=G x:=Qv h
theorem zX6 (hG:∀x,S x->G x=none):Same G<|rP G H S:=λb u e=>by rw[wX λz=>by rw[hG b z] at e;cases e];exact e
def zKE (s:Same G H):Same (rP G H S) H:=λb u e=>by
 by_cases z:S b
 .rw[oI z] at e;exact e
 .rw[wX z] at e;exact s b u e
def zH0 (o:HO)(ob:Obj):HO:=match o with | .dK j8=>.frz ob (.dK j8) | o=>o
open Classical in
def dN (H:Hp)(h:qx)(S:qu->Prop):Hp:=λx=>if S x then(H x).map λo=>zH0 o ((h.get? x).getD default) else H x
def cK (hx:S x):dN H h S x=(H x).map λo=>zH0 o<|(h.get? x).getD default:=Qh hx
def fK (hx:¬S x):dN H h S x=H x:=Qv hx
def Step.backS (s:Step (rP G (dN H h S) S) (dN H h S) G1 H')(hG:∀x,S x->G x=none):Step G H (outS G1 S)<|rP H' H S:=by
 refine⟨λb u e=>?_,λb u e=>?_,λb u e=>?_,λx u ha hn=>?_⟩
 .by_cases hb:S b
  .rw[oI hb];exact e
  .rw[wX hb];exact s.hh b u (by rw[fK hb];exact e)
 .have hb:¬S b:=λz=>by rw[hG b z] at e;cases e
  rw[wE hb];exact s.gg b u (by rw[wX hb];exact e)
 .by_cases hb:S b
  .rw[rQ hb] at e;cases e
  .rw[wE hb] at e;rw[wX hb];exact s.sub b u e
 .by_cases hb:S x
  .rw[rQ hb,hG x hb]
  .rw[wE hb,s.new x u (by rw[fK hb];exact ha) hn,wX hb]
theorem RepO.rep (h:G1 a=some (zH0 o ob))(s:Same G G1):∀ {d:D},RepO K G o d->Rep K G1 d (.ref a)
 | .obj _ _ _,⟨C,dx,vs,h1,h2,h3,h4⟩=>sO.mpr ⟨C,a,dx,vs,h1,J,by rw[h,h2];rfl,h3,h4.mono s⟩
 | .dct _ _,⟨vs,h1,h2,h3⟩=>zTA.mpr ⟨a,vs,ob,J,by rw[h,h1];rfl,h2,h3.mono s⟩
theorem Good.mu {q:kr}(g:!21)(h:O[i]?=some (.mu q d)):∃a o,U[i]?=some (some<|.ref a)/\H a=some o/\G a=none/\H0 a=none/\RepO K G o d:=by
 obtain⟨x,e,r⟩:=Paired.get g.vals h;cases r with
 | mu _ h1 h2 h3 h4=>exact⟨_,_,e,h1,h2,h3,h4⟩
theorem Good.yd {q:Option<|qu×qu×qu}(g:!21)(h:O[i]?=some (.yd q d)):∃a b c,U[i]?=some (some<|.ref a)/\Yd K H0 G H a b c d:=by
 obtain⟨x,e,r⟩:=Paired.get g.vals h;cases r with
 | yd _ y=>exact⟨_,_,_,e,y⟩
def Yd.foot (y:Yd K H0 G H a b c d):vD H (some<|.ref a) (.yd q d) x↔x=a\/x=b\/x=c:=by obtain⟨C,dx,vc,vl,_,_,_,_,_,_,_,_,e,_⟩:=y.ex;refine⟨λ⟨a',b',c',_,_,_,_,e1,e2,e3⟩=>?_,λh=>⟨a,b,c,C,dx,vc,vl,J,e,h⟩⟩;cases e1;rw[e] at e2;cases e2;exact e3
theorem Good.setM (g:!21)(i:Nat)(ha:H a=some o)(ga:G a=none)(h0:H0 a=none)(r:RepO K G o d)(fr:∀(j:Nat) (w:ql) (c:B),U[j]?=some w->O[j]?=some c->¬vD H w c a):Good K G0 H0 G H (U.set i<|some<|.ref a) (O.set i<|.mu none d) :=
 g.put i (.mu (.inl J) ha ga h0 r) λx f j w c _ h1 h2=>by cases f;exact fr j w c h1 h2
def Good.ioM {q:kr}(g:!21)(hi:O[i]?=some (.mu q d))(hs:U[i]?=some (some<|.ref a))(s:Step G (zVs H a) G' H')(h':H' a=some o')(g':G' a=none)(r:RepO K G' o' d'):Good K G0 H0 G' H' U<|O.set i<|.mu q d':=by
 have q0:=g.at hs hi;cases q0 with
 | mu qa _ _ h0 _ =>have ne:∀ {x:qu},¬vD H _ (.mu q d) x->x≠a:=λf z=>f (by rw[z];rfl);exact g.chg hs hi s.gg s.sub (λx o f h=>s.hh x o (by rw[uG<|ne f];exact h)) (λx o f h n=>s.new x o (by rw[uG<|ne f];exact h) n) (.mu qa h' g' h0 r) λx f=>f
def Step.wrO (s:Same G H)(g:G a=none):Step G (zVs H a) G<|upd H a o':=by
 refine⟨λb u e=>?_,Same.refl _,λb u e=>?_,λ_ _ _ _=>rfl⟩
 .by_cases hb:b=a
  .rw[hb,jQ] at e;cases e
  .rw[uG hb] at e;rw[zD hb];exact e
 .rw[zD<|yR e g];exact s b u e
def Good.wrM {q:kr}(g:!21)(hi:O[i]?=some (.mu q d))(hs:U[i]?=some (some<|.ref a))(r:RepO K G o' d'):Good K G0 H0 G (upd H a o') U<|O.set i<|.mu q d':=by obtain⟨a',o,e1,e2,e3,e4⟩:=g.mu hi;rw[hs] at e1;cases e1;exact g.ioM hi hs (Step.wrO g.sub e3) zH e3 r
def in3 (a b c x:qu):Prop:=x=a\/x=b\/x=c
def Good.ioY {E:Hp}(g:!21)(hi:O[i]?=some (.yd q d))(hs:U[i]?=some (some<|.ref a))(y:Yd K H0 G H a b c d)(s:Step G (outS H<|in3 a b c) G' H')(y':Yd K E G' H' a b c d'):Good K G0 H0 G' H' U<|O.set i<|.yd q d':=by
 have q0:=g.at hs hi;cases q0 with
 | @yd _ b1 c1 _ _ qa y1 =>
  have eb:b1=b/\c1=c:=by obtain⟨C,dx,vc,vl,_,_,_,_,_,_,_,_,e,_⟩:=y.ex;obtain⟨C1,dx1,vc1,vl1,_,_,_,_,_,_,_,_,e1,_⟩:=y1.ex;rw[e] at e1;cases e1;exact⟨J,J⟩
  obtain⟨rfl,rfl⟩:=eb;have ne:∀ {x:qu},¬vD H _ (.yd q d) x->¬in3 a b1 c1 x:=λf z=>f<|y.foot.mpr z;exact g.chg hs hi s.gg s.sub (λx o f h=>s.hh x o (by rw[wE<|ne f];exact h)) (λx o f h n=>s.new x o (by rw[wE<|ne f];exact h) n) (.yd qa ⟨y'.ex,λx hx=>⟨(y'.no x hx).1,(y.no x hx).2⟩,y'.ne⟩) λx f=>y.foot.mpr<|y'.foot.mp f
theorem Good.lendS {b:B}(g:!21)(hs:U[i]?=some (some v))(hi:O[i]?=some b)(r:Rep K (rP G (dN H h<|vD H (some v) b)<|vD H (some v) b) d v):Good K G0 H0 (rP G (dN H h<|vD H (some v) b)<|vD H (some v) b) (dN H h<|vD H (some v) b) U (O.set i<|.fz d) :=
 have hG:=λx f=>((g.at hs hi).foot f).2.1
 g.chg hs hi (zX6 hG) (zKE λb u e=>by rw[fK λz=>by rw[hG b z] at e;cases e];exact g.sub b u e) (λx o f e=>by rw[fK f];exact e) (λx o f _ _=>wX f) (.fz r) λx f=>f.elim
end
mutual
def gG:D->Bool
 | .non=>true
 | .bl _=>true
 | .int _=>true
 | .str _=>true
 | .tup ds=>aO ds
 | .lst ds=>aO ds
 | _=>false
def aO:kd->Bool
 | []=>true
 | d::r=>gG d&&aO r
end
def zNt:HO->Bool | .frz _ (.dK _)=>true | o=>zYW o
def Rd.outS {u:HO}(hn:∀x,S x->∃o,G x=some o/\zNt o=true)(hu:zNt u=false)(hv:∀o,zNt (.frz o u)=false)(h:Rd G a u):Rd (outS G S) a u:=by
 rcases h with h | ⟨o,h⟩
 .refine .inl ?_;rw[wE λz=>by obtain⟨o,e1,e2⟩:=hn a z;rw[h] at e1;cases e1;rw[hu] at e2;cases e2];exact h
 .refine .inr ⟨o,?_⟩;rw[wE λz=>by obtain⟨o,e1,e2⟩:=hn a z;rw[h] at e1;cases e1;rw[hv] at e2;cases e2];exact h
mutual
theorem Rep.outM (hn:∀x,S x->∃o,G x=some o/\zNt o=true):∀(d:D) (v:V),gG d=true->Rep K G d v->Rep K (outS G S) d v
 | .non,_,_,h=>by unfold Rep at h ⊢;exact h
 | .bl _,_,_,h=>by unfold Rep at h ⊢;exact h
 | .int _,_,_,h=>by unfold Rep at h ⊢;exact h
 | .str _,_,_,h=>by unfold Rep at h ⊢;exact h
 | .tup ds,_,f,h=>by unfold Rep at h ⊢;obtain⟨a,vs,h1,h2,h3⟩:=h;exact⟨a,vs,h1,h2.imp (Rd.outS hn J λ_=>rfl) id,Reps.outM hn ds vs (by unfold gG at f;exact f) h3⟩
 | .lst ds,_,f,h=>by unfold Rep at h ⊢;obtain⟨a,vs,h1,h2,h3⟩:=h;exact⟨a,vs,h1,h2.imp (Rd.outS hn J λ_=>rfl) id,Reps.outM hn ds vs (by unfold gG at f;exact f) h3⟩
 | .obj C ns ds,_,f,_=>by unfold gG at f;cases f
 | .exc C ns ds,_,f,_=>by unfold gG at f;cases f
 | .dct ks ds,_,f,_=>by unfold gG at f;cases f
theorem Reps.outM (hn:∀x,S x->∃o,G x=some o/\zNt o=true):∀(ds:kd) (vs:kl),aO ds=true->Reps K G ds vs->Reps K (outS G S) ds vs
 | [],_,_,h=>by unfold Reps at h ⊢;exact h
 | d::r,_,f,h=>by unfold Reps at h ⊢;obtain⟨v,vr,h1,h2,h3⟩:=h;unfold aO at f;rw[Qm] at f;exact⟨v,vr,h1,Rep.outM hn d v f.1 h2,Reps.outM hn r vr f.2 h3⟩
end
def lendB (i:Nat)(O:kj):Option kj:=match O[i]? with | some (.mu _ d)=>some (O.set i<|.fz d) | some (.yd _ d)=>some (O.set i<|.fz d) | _=>none
def Good.lendB {K:jk}{G0 H0 G H:Hp}{U:St}{O O':kj}{i:Nat}(g:!21)(h:L2.lendB i O=some O'):∃S:qu->Prop,(∀x,S x->G x=none)/\(∀x,S x->∃o,H x=some o/\zYW o=true)/\∀hp,Good K G0 H0 (rP G (dN H hp S) S) (dN H hp S) U O':=by
 unfold L2.lendB at h;split at h
 .rename_i q d e;cases h;obtain⟨a,o,e1,e2,e3,e4,e5⟩:=g.mu e;have hf:∀x,vD H (some<|.ref a) (.mu q d) x->G x=none/\∃o,H x=some o/\zYW o=true:=λx f=>by cases f;exact⟨e3,o,e2,e5.two⟩
  have fa:vD H (some _) (.mu q d) a:=rfl;exact⟨_,λx f=>(hf x f).1,λx f=>(hf x f).2,λhp=>g.lendS e1 e<|e5.rep (by rw[oI fa,cK fa,e2];rfl)<|zX6 λx f=>(hf x f).1⟩
 .rename_i q d e;cases h;obtain⟨a,b,c,e1,y⟩:=g.yd e;have hf:∀x,vD H _ _ x->G x=none/\∃o,H x=some o/\zYW o=true:=λx f=>by
   obtain⟨⟨o,h1,_⟩,h3⟩:=(g.at e1 e).foot f;simp_all
  refine⟨_,λx f=>(hf x f).1,λx f=>(hf x f).2,λhp=>g.lendS e1 e ?_⟩;have up:=zX6 (H:=dN H hp<|vD H (some<|.ref a)<|.yd q d) λx f=>(hf x f).1;obtain⟨C,dx,vc,vl,dc,dl,ds,db,o1,o2,rfl,h1,h2,h3,h4,h5,h6,h7,h8⟩:=y.ex;have at_:∀ {x:qu} {o:HO},_->H x=some o->rP G (dN H hp<|vD H _<|.yd q _) (vD H _<|.yd q _) x=some (zH0 o _):=λhx e=>by rw[oI<|y.foot.mpr hx,cK<|y.foot.mpr hx,e];rfl
  exact sO.mpr ⟨C,a,dx,[vc,vl,.ref b,.ref c],h1,J,at_ (.inl J) h2,J,(zP.mpr ⟨_,_,J,h3.mono up,zP.mpr ⟨_,_,J,h4.mono up,zP.mpr ⟨_,_,J,h6.rep (at_ (.inr<|.inl rfl) h5) up,zP.mpr ⟨_,_,J,h8.rep (at_ (.inr<|.inr rfl) h7) up,yX.mpr J⟩⟩⟩⟩)⟩
 .cases h
section
variable{U':St}
abbrev Lab (H H':Hp)(x:qu)(c:HO->Obj->Prop):Prop:=H' x=H x\/∃j8 ob,(H x=some (.dK j8)/\H' x=some (.frz ob<|.dK j8)/\c (.dK j8) ob)\/(H x=some (.frz ob<|.dK j8)/\H' x=some (.dK j8)/\c (.frz ob<|.dK j8) ob)
def Lab.none {x:qu}(l:Lab H H' x c)(e:H x=none):H' x=none:=by grind
def Lab.same {x:qu}(l:Lab H H' x c)(e:H x=some o)(n1:∀j8,o ≠ .dK j8)(n2:∀ob j8,o ≠ .frz ob (.dK j8)):H' x=some o:=by grind
abbrev zFb (h:qx)(x:qu)(o:HO)(ob:Obj):Prop:=match o with | .dK _=>h.get? x=some ob | _=>True
theorem HOk.relab (ok:HOk P w H h)(l:∀x,Lab H H' x<|zFb h x):HOk P w H' h:=λa o e=>by
 have ow:∀ {b a},H b=some (.own a)->H' b=some _:=λz=>(l _).same z (λ_ q=>nomatch q) λ_ _ q=>nomatch q;have tu:∀ {b xs},H b=some (.tup xs)->H' b=some _:=λz=>(l _).same z (λ_ q=>nomatch q) λ_ _ q=>nomatch q;rcases l a with q | ⟨j8,ob,⟨q,q2,q3⟩ | ⟨q,q2,_⟩⟩
 .exact(ok a o (!8)).stay (λ_ _ _ z=>z) (λ_=>ow) λ_ _=>tu
 .rw[q2] at e;cases e;exact⟨q3,(ok a _ q).stay (λ_ _ _ z=>z) (λ_=>ow) λ_ _=>tu⟩
 .rw[q2] at e;cases e;exact(ok a _ q).2.stay (λ_ _ _ z=>z) (λ_=>ow) λ_ _=>tu
def Inv.relab (I:!4)(l:∀x,Lab H H' x λo ob=>zFb s.heap x o ob/\((∃j8,o = .dK j8)\/∀o u,X.H₀ x≠some (.frz o u))):Inv X Z U H' s:=by
 refine⟨I.ok,I.os,I.bare,⟨I.base.keep,I.base.slot,λb o e n x=>(l b).none<|I.base.free b o e n x,I.base.there,λb xs e=>(l b).same (I.base.tups b xs e) (λ_ q=>nomatch q) (λ_ _ q=>nomatch q),λb o u e=>?_,λb ps e=>?_⟩,I.loc,I.cell,(l _).none I.free,λx c e=>(l _).none<|I.freeC x c e,λp hp=>⟨(I.pin p hp).1,(l _).none (I.pin p hp).2.1,(I.pin p hp).2.2⟩,I.hok.relab λx=>?_,I.len⟩
 .have z:=I.base.frzs b o u e;rcases l b with q | ⟨j8,ob,⟨q,_⟩ | ⟨q,_,_,n⟩⟩
  .simp_all
  .simp_all
  .simp_all
 .obtain⟨more,z⟩:=I.base.tbls b ps e;exact⟨more,(l b).same z (λ_ q=>nomatch q) λ_ _ q=>nomatch q⟩
 .rcases l x with q | ⟨j8,ob,⟨q,q2,q3⟩ | ⟨q,q2,q3⟩⟩
  .exact .inl q
  .exact .inr ⟨j8,ob,.inl ⟨q,q2,q3.1⟩⟩
  .exact .inr ⟨j8,ob,.inr ⟨q,q2,q3.1⟩⟩
theorem Inv.lab (I:!4)(S:qu->Prop):Inv X Z U (dN H s.heap S) s:=I.relab λx=>by
 by_cases hx:S x
 .rw[Lab,cK hx];cases e:H x with
  | none=>exact .inl J
  | some o =>
   cases o with
   | dK j8 =>obtain⟨_,_,vs,_,ob,es,ep,ho,_⟩:=zJ9 I.hok e;exact .inr ⟨j8,ob,.inl ⟨J,by rw[ho];rfl,ho,.inl ⟨_,J⟩⟩⟩
   | _=>exact .inl J
 .exact .inl (fK hx)
def zRR (h2:∀x o,dN H h S x=some o->H2 x=some o)(hS:∀x,S x->∃o,H x=some o/\zYW o=true)(x:qu):Lab H2 (rP H2 H S) x λo _=>(∃ob j8,o = .frz ob (.dK j8))/\∃j8,H x=some (.dK j8):=by
 by_cases hx:S x
 .rw[Lab,oI hx];obtain⟨o,e,_⟩:=hS x hx;rw[e,(h2 x _ (by rw[cK hx,e];rfl))];cases o with
  | dK j8=>exact .inr ⟨j8,_,.inr ⟨J,J,⟨_,_,J⟩,_,J⟩⟩
  | _=>exact .inl J
 .exact .inl (wX hx)
def Lab.on {c':HO->Obj->Prop}{x:qu}(l:Lab H H' x c)(h:∀o ob,c o ob->c' o ob):Lab H H' x c':=by
 rcases l with q | ⟨j8,ob,⟨q,q2,q3⟩ | ⟨q,q2,q3⟩⟩
 .exact .inl q
 .exact .inr ⟨j8,ob,.inl ⟨q,q2,h _ _ q3⟩⟩
 .exact .inr ⟨j8,ob,.inr ⟨q,q2,h _ _ q3⟩⟩
theorem Inv.unlab (I:!4)(I2:Inv X Z U' H2 s2)(h2:∀x o,dN H s.heap S x=some o->H2 x=some o)(hS:∀x,S x->∃o,H x=some o/\zYW o=true):Inv X Z U' (rP H2 H S) s2:=I2.relab λx=>(zRR h2 hS x).on λo ob ⟨⟨_,_,e⟩,_,q⟩=>by subst e;exact⟨trivial,.inr λo u z=>by have:=I.base.frzs x o u z;rw[q] at this;cases this⟩
theorem HOk.unlab (ok:HOk P w H2 h')(h2:∀x o,dN H h S x=some o->H2 x=some o)(hS:∀x,S x->∃o,H x=some o/\zYW o=true):HOk P w (rP H2 H S) h':=ok.relab λx=>(zRR h2 hS x).on λo ob ⟨⟨_,_,e⟩,_⟩=>by subst e;trivial
def Un.unlab {fs ex:ko}(u:Un fs ex H2 H' h h')(hS:∀x,S x->∃o,H x=some o/\zYW o=true):Un fs ex (rP H2 H S) (rP H' H S) h h':=by
 have no:∀ {b},rP H2 H S b=none->¬S b:=λn z=>by rw[oI z] at n;obtain⟨o,e,_⟩:=hS _ z;rw[e] at n;cases n
 have ns:∀ {b:qu} {o:HO},rP H2 H S b=some o->zYW o=false->¬S b:=λn f z=>by rw[oI z] at n;obtain⟨o,e,w⟩:=hS _ z;rw[e] at n;cases n;rw[f] at w;cases w
 refine⟨λb o e n=>u.keep b o e (by have z:=no n;rw[wX z] at n;exact n),λb o e n=>u.slot b o e (by have z:=no n;rw[wX z] at n;exact n),λb o e n x=>?_,u.there,λb xs e=>?_,λb o v e=>?_,λb ps e=>?_⟩
 .have z:=no n;rw[wX z] at n ⊢;exact u.free b o e n x
 .have z:=ns e J;rw[wX z] at e ⊢;exact u.tups b xs e
 .have z:=ns e J;rw[wX z] at e ⊢;exact u.frzs b o v e
 .have z:=ns e J;rw[wX z] at e ⊢;exact u.tbls b ps e
end
def oY (i k:Nat)(f:Ef):Ef:=λO=>(lendB i O).bind λO'=>(f O').bind λd=>if gG d then some d else none
theorem zMl {G1:Hp}(s:Step (rP G (dN H h S) S) (dN H h S) G1 H')(hH:∀x,S x->∃o,H x=some o/\zYW o=true):∀x,S x->∃o,G1 x=some o/\zNt o=true:=λx hx=>by obtain⟨o,h1,h2⟩:=hH x hx;refine⟨_,s.gg x _ (by rw[oI hx,cK hx,h1];rfl),?_⟩;cases o<;>first | rfl | cases h2
def jT (i k:Nat)(h:PF X e fa):PF X e<|oY i k fa:=by
 rintro Z s U H Q I ⟨G0,H0,G,O,d,j0,hf,kk⟩;obtain⟨O',h1,hf1⟩:=k8 hf;obtain⟨d',h2,hf2⟩:=k8 hf1;obtain⟨S,hG,hH,good'⟩:=j0.lendB h1;split at hf2
 .rename_i fl;cases hf2;exact thn (h Z s U _ (λv H'=>∃G1,Step _ _ G1 H'/\Rep X.K G1 d v) (I.lab S) ⟨G0,H0,_,_,_,good' s.heap,h2,λv H' G1 st r=>⟨G1,st,r⟩⟩) λu s2 ⟨x,H2,I2,rx,G1,st,r⟩=>⟨x,_,I.unlab I2 st.hh hH,rx,kk x _ _ (st.backS hG)<|Rep.outM (zMl st hH) _ _ fl r⟩
 .simp_all
def jE (i k:Nat)(t:Tf):Tf:=λO=>(lendB i O).bind λO'=>t O'
def fA (i k:Nat)(h:PFT X e ta):PFT X e<|jE i k ta:=by rintro Z s U H Q I ⟨G0,H0,G,O,b,j0,hf,kk⟩;obtain⟨O',h1,hf⟩:=k8 hf;obtain⟨S,hG,hH,good'⟩:=j0.lendB h1;refine thn (h Z s U _ (λc H'=>c=b/\∃G1,Step _ _ G1 H') (I.lab S) ⟨G0,H0,_,_,b,good' s.heap,hf,λH' G1 st=>⟨J,G1,st⟩⟩) λc s2 ⟨H2,I2,hc,G1,st⟩=>?_;subst hc;exact⟨_,I.unlab I2 st.hh hH,kk _ _<|st.backS hG⟩
end L2
variable{a:Int×Str}{o c:r8}{S:ko}
namespace L2
def setF {α:Type}(f:Str)(y:α):kh->List α->List α
 | n::ns,x::xs=>if n=f then y::xs else x::setF f y ns xs
 | _,xs=>xs
theorem zRG {α:Type}{f:Str}{y:α}:∀ {ns:kh} {xs:List α},(setF f y ns xs).length=xs.length
 | [],xs=>by unfold setF;rfl
 | _::_,[]=>rfl
 | n::ns,x::xs=>by
  unfold setF;split
  .rfl
  .rw[Qk,Qk,zRG]
theorem zR8 {f:Str}{y:V}:∀ {ns:kh} {vs:kl},ns.length=vs.length->f∈ns->mO f y (ns.zip vs)=ns.zip (setF f y ns vs)
 | [],_,_,h=>by cases h
 | _::_,[],h,_=>by simp at h
 | n::ns,v::vs,h,hf=>by
  show(if n=f then _ else _::mO f y (ns.zip vs))=_;unfold setF
  by_cases hn:n=f
  .rw[Qh hn,Qh hn];rfl
  .rw[Qv hn,Qv hn,Yp,zR8 (by simpa using h)<|(v4 hf).resolve_left λz=>hn z.symm]
theorem zUz {K:jk}{G:Hp}{f:Str}{d:D}{v:V}(r:Rep K G d v):∀ {ns:kh} {ds:kd} {vs:kl},Reps K G ds vs->Reps K G (setF f d ns ds) (setF f v ns vs)
 | [],_,_,h=>by unfold setF;exact h
 | n::ns,[],_,h=>by rw[yX] at h;subst h;exact yX.mpr J
 | n::ns,e::ds,_,h=>by
  obtain⟨u,vr,rfl,h2,h3⟩:=zP.mp h;unfold setF
  by_cases hn:n=f
  .rw[Qh hn,Qh hn];exact zP.mpr ⟨v,vr,J,r,h3⟩
  .rw[Qv hn,Qv hn];exact zP.mpr ⟨u,_,J,h2,zUz r h3⟩
def bX (i:Nat)(c f:Str):Ef:=λO=>match O[i]? with | some (.mu _<|.obj c' ns ds)=>if c'=c then(ns.zip ds).lookup f else none | _=>none
def dA {c f:Str}(i:Nat)(hC:ClsAt X.K c C)(hcl:Cls X.K C)(hn:NoAttr X.K C f)(hN:!25:=by rfl)(hv:!29:=by exact visQ rfl)(hd:!17:=by decide)(hcd:!28:=by decide)(hb:attributeBase (!15) f X.env (eval (!15) X.env)=eval (!15) X.env:=by rfl):PF X (.Attribute (!15) f pos)<|bX i c f:=by
 refine PE.to (zVE (wI hN hv hd hcd) hb) ?_;rintro U H Q ⟨G0,H0,G,O,d,j0,hf,k⟩;unfold bX at hf;split at hf
 .rename_i c' ns ds e;split at hf
  .rename_i hc;subst hc;obtain⟨q,o,e1,e2,e3,e4,C',dx,vs,r1,r2,r3,r4⟩:=j0.mu e;have ec:=hC.one r1;subst ec;obtain⟨u,l1,l2⟩:=aS r3 r4 hf;exact⟨.ref q,e1,q,_,dx,_,u,J,by rw[e2,r2],hcl,hn,l1,k _ _ G (.refl j0.sub) l2⟩
  .simp_all
 .simp_all
def spM (K:jk)(c:Str)(ns:kh)(n:Nat)(f:kd->kd->ka):Sp:=λvs H Q _=>∃(a:qu) (o:HO) (rest:kl) (G:Hp) (xs ds ys:kd),vs = .ref a::rest/\H a=some o/\G a=none/\RepO K G o (.obj c ns xs)/\Same G H/\Reps K G ds rest/\ds.length=n/\f xs ds=some ys /\
 ∀H' G' o',Step G (zVs H a) G' H'->H' a=some o'->G' a=none->RepO K G' o' (.obj c ns ys)->Q .non H'
def zTl (N:Nat)(c:Str)(ns:kh)(xs ds:kd):kj:=.mu none (.obj c ns xs)::(ds.map .fz++List.replicate (N - (ds.length+1)) .no)
def fnM (N:Nat)(c:Str)(ns:kh)(f:Str)(t:Tf)(e:Ef):kd->kd->ka:=λxs ds=>(t<|zTl N c ns xs ds).bind λb=>if b=false/\f∈ns/\ns.length<=900 then(e<|zTl N c ns xs ds).map λd=>setF f d ns xs else none
section
variable{k:Nat}{c f:Str}{t:r8}{rs:qg}{fe:Ef}{p3 p4:Pos}
def Step.wrP {p:qu}{o:HO}(s:Step G H G' H')(hp:H p=none)(g':G' p=none):Step G H G' (upd H' p o) :=
 ⟨λb u e=>by rw[zD<|yR e hp];exact s.hh b u e,s.gg,λb u e=>by rw[zD<|yR e g'];exact s.sub b u e,s.new⟩
def zU4:PSs X sts λ_ _ _=>False:=λ_ _ _ _ _ _ z=>z.elim
theorem zUm {b:B}{m:Nat}:zLH H U<|b::(ds.map B.fz++List.replicate m B.no):=λi j x v w c c' _ h2 _ h4 f1 f2=>by
 have key:∀ {i:Nat} {c:B} {v:ql},(b::_)[i]?=some c->vD H v c x->i=0:=λ{i c v} h f=>by
  cases i with
  | zero=>rfl
  | succ i=>rw[List.getElem?_cons_succ] at h;exact((zSS m ds).own h<|zZM f).elim
 rw[key h2 f1,key h4 f2]
def zLd (F:Fun K x qual st fad fd)(S:FnScope N (sf::ps)<|zV st)(hC:ClsAt K c C)(hcl:Cls K C)(hn:NoAttr K C f)(hbody:xI st=[.If t rs [] p1,.Assign [.Attribute (.Name sf p2) f p3] e p4])(ht:∀(j9:qv) (A:qy) (outer:qb) (s:qw) (H:Hp) (E:XK),Room k (A.deeper<|envOfC qual (zV st) s.heap.objs.size fad j9)->PFT (qP CX0 P w K mg base N qual (zV st) fad j9 A outer s H E).nox t tt)(he:∀(j9:qv) (A:qy) (outer:qb) (s:qw) (H:Hp) (E:XK),Room k (A.deeper<|envOfC qual (zV st) s.heap.objs.size fad j9)->PF (qP CX0 P w K mg base N qual (zV st) fad j9 A outer s H E).nox e fe)(hN0:N[0]?=some sf) (hv:Vis (zV st) sf) (hd:(sf==("__debug__":Str))=false:=by decide) (hcd:(sf==("__classdict__":Str))=false:=by decide)(hs:∀(j9:qv) (A:qy) (outer:qb) (s:qw) (H:Hp) (E:XK),swapsWith e (some<|.Attribute (.Name sf p2) f p3) p4.line (qP CX0 P w K mg base N qual (zV st) fad j9 A outer s H E).nox.env=pure false:=by exactλ_ _ _ _ _ _=>rfl):FnOk P w K mg base CX0 (k+1) fad fd (sf::ps)<|spM K c ns ps.length<|fnM N.length c ns f tt fe:=by
 refine F.ok S (λvs H Q E h=>?_) λj9 A _ s H vs Q E hr h=>?_
 .obtain⟨a,o,rest,G,xs,ds,ys,rfl,_,_,_,_,rr,hl,_⟩:=h;rw[Qk,Qk,<-rr.length,hl]
 .rw[hbody];refine⟨_,tY (zUW (ht j9 A _ s H E hr) zU4 zZ4)<|zXR<|zYS (wI hN0 hv hd hcd) (he j9 A _ s H E hr)<|hs j9 A _ s H E,?_⟩;obtain⟨a,o,rest,G,xs,ds,ys,rfl,h1,h2,h3,sub,rr,hl,hf,kk⟩:=h;have j0:Good K G (zVs H a) G H (oN N<|.ref a::rest)<|zTl N.length c ns xs ds:=by
   refine⟨⟨λb u q=>?_,Same.refl _,sub,λ_ _ _ _=>rfl⟩,?_,zUm⟩
   .by_cases hb:b=a
    .rw[hb,jQ] at q;cases q
    .rwa[uG hb] at q
   .unfold oN zTl;rw[Qx,Qk,List.cons_append,<-rr.length];exact .cons (.mu (.inl J) h1 h2 jQ h3)<|jX _ rr
  obtain⟨b,e1,hf⟩:=k8 hf;split at hf
  .rename_i hq;obtain⟨rfl,hfn,hn9⟩:=hq;obtain⟨d,e2,rfl⟩:=k9 hf;refine⟨G,zVs H a,G,_,false,j0,e1,λH1 G1 s1=>⟨G,zVs H a,G1,_,d,j0.step s1,e2,λv H2 G2 s2 r2=>?_⟩⟩;have s12:=s1.trans s2;obtain⟨C',dx,vs,r3,r4,r5,r6⟩:=h3;have ec:=hC.one r3;subst ec;have hlv:ns.length=vs.length:=by rw[r5];exact r6.length
   refine⟨.ref a,J,a,_,dx,ns.zip vs,J,by rw[s12.hh _ _ h1,r4],hcl,hn,by rw[Ta];lia,?_⟩;have ga:G2 a=none:=(s12.new a _ h1 (by rw[r4];rfl)).trans h2;exact kk _ G2 _ ((j0.st.trans s12).wrP jQ ga) zH ga ⟨_,dx,_,hC,by rw[zR8 hlv hfn],by rw[zRG];exact r5,zUz r2<|r6.mono s12.gg⟩
  .simp_all
end
theorem xN {f:Str}:∀ {ns:kh} {vs:kl},f∉ns->(ns.zip vs).lookup f=none
 | [],_,_=>je
 | _::_,[],_=>je
 | n::ns,v::vs,h=>by rw[Yp,Wp,Tw.mpr λz=>h<|by simp[z]];exact xN λz=>h<|by simp[z]
def oO (c m:Str)(n:Nat)(d:jz)(fa:Ef)(g:Lf):Ef:=λO=>(fa O).bind λx=>(g O).bind λds=>match x with
 | .obj c' ns _=>if c'=c/\ds.length+1=n/\m∉ns then d (x::ds) else none
 | _=>none
def zEh (X:Cx)(e:r8)(xb:kj->kf):Prop:=∀(Z:jm) (s:qw) (U:St) (H:Hp) (R:jl) (G0 H0 G:Hp) (O:kj) (c:Str) (C:qu),Inv X Z U H s->Good X.K G0 H0 G H U O->xb O=some c->ClsAt X.K c C ->
 (∀s2 H2 G2 e s',Inv X Z U H2 s2->Step G H G2 H2->CXq X.prog X.w X.stack H2 s2 (λv _ H'=>v = .ref C/\∃G',Step G2 H2 G' H') e s'->R e s')->wpAny (!5) X.A (eval e X.env) (λ_ _=>False) R s
def zVL (h:zEh X e xb)(hs:swapsWith e none pos.line X.env=pure false:=by rfl):PXB X (.Expr e pos) xb:=λZ s U H R G0 H0 G O c C I j0 hq hC k =>wpAny_Expr_any (Ed (h Z s U H R G0 H0 G O c C I j0 hq hC k) (λ_ _ z=>z.elim) λ_ _ z=>z) I.quiet hs
def pX (c m:Str)(n:Nat)(xf:kd->kf)(fa:Ef)(g:Lf):kj->kf:=λO=>(fa O).bind λx=>(g O).bind λds=>match x with
 | .obj c' ns _=>if c'=c/\ds.length+1=n/\m∉ns then xf (x::ds) else none
 | _=>none
def zYF {c:Str}{k:Nat}{d:jz}(hno:∀e s,¬X.xe e s)(hC:ClsAt X.K c C)(hcl:Cls X.K C)(hm:Meth X.K C m fad)(F:FnOk X.prog X.w X.K X.mg X.base (CXq X.prog X.w) k fad fd ps (spQ X.K n d xf))(hr:Room k X.A)(hb:Binds X.K fd ps [])(ho:PF X o fa) (ha:PFA X (e::es) ga)(hst:!24:=by rfl) (hpl:(backTo cpos (!26)).any (·.1)=false:=by rfl)(ht:eval (.Call (!32) (e::es) [] cpos) X.env=(do
   let ov <-eval o X.env
   standAt apos.atName
   let (f,first) <-holding [ov] (getMethod ov m pl)
   callWith cpos f first (backTo cpos<|starEach (e::es) X.env) (!36)):=by rfl) :
  zEh X (.Call (!32) (e::es) [] cpos) (pX c m n xf fa ga):=by
 intro Z s U H R G0 H0 G O cc CC I j0 hq hCC kk;obtain⟨x,h1,hq1⟩:=k8 hq;obtain⟨ds,h2,hq2⟩:=k8 hq1;clear hq hq1;have hq:=hq2;clear hq2;cases x with
 | obj c' ns xs =>
  dsimp only at hq;split at hq
  .rename_i hz;obtain⟨rfl,hl,hmn⟩:=hz;refine Iy (pl:=pl) (Ed (ho Z s U H (λv H1=>∃G1,Step G H G1 H1/\Rep X.K G1 (.obj c' ns xs) v) I ⟨G0,H0,G,O,_,j0,h1,λv H1 G1 s1 r1=>⟨G1,s1,r1⟩⟩) (λu s1 ⟨v,H1,I1,rv,G1,st1,r1⟩=>?_) λe s z=>(hno e s z).elim) ht;obtain⟨C',q,dx,vs,r2,rfl,r3,r4⟩:=sO.mp r1;have ec:=hC.one r2;subst ec;obtain rfl:=rv;refine aX I1 (st1.sub _ _ r3) hcl hm (xN hmn)<|Tu (first:=[.ref q]) (h₀:=_) I.ok.mod.kin hm.kp (Ed (ha cpos Z s1 U H1 (λvs H2=>∃G2,Step G1 H1 G2 H2/\Reps X.K G2 ds vs) I1 ⟨G0,H0,G1,O,ds,(j0.step st1),h2,λvs H2 G2 s2 rr=>⟨G2,s2,rr⟩⟩) (λus s2 ⟨ws,H2,I2,r,G2,st2,rr⟩=>⟨I2.kIn,?_⟩) λe s z=>(hno e s z).elim) hst hpl;have r':Vals (V.ref q::ws)<|Value.ref q::us:=.cons J r;have rs':=zP.mpr ⟨_,_,J,r1.mono st2.gg,rr⟩;have j5:(Value.ref q::us).length=ps.length:=by
    rw[<-r'.length];exact F.len _ H2 (λ_ _=>False) (λv _ H'=>v = .ref CC/\∃G',Step G2 H2 G' H') ⟨G2,_,st2.sub,rs',hl,.inr ⟨cc,CC,hq,hCC,λH' G' z=>⟨J,G',z⟩⟩⟩
   refine Ix<|Yw (F.run X.A _ s2 H2 ⟨Value.ref q::us,[]⟩ _ _ (λ_ _=>False) (λv _ H'=>v = .ref CC/\∃G',Step G2 H2 G' H') hr I2.env0 (by have:=hb s2 _ I2.kIn (by rw[Wf];exact j5);rwa[Wf] at this) r' ⟨G2,_,st2.sub,rs',hl,.inr ⟨cc,CC,hq,hCC,λH' G' z=>⟨J,G',z⟩⟩⟩) λr s' hr'=>?_;cases r with
   | error e=>exact kk s2 H2 G2 e s' I2 (st1.trans st2) hr'
   | ok fl =>
    cases fl with
    | ret u=>obtain⟨_,_,_,_,_,_,_,z⟩:=hr';exact z.elim
    | next=>exact False.elim hr'
    | brk=>exact False.elim hr'
    | cont=>exact False.elim hr'
  .simp_all
 | _=>cases hq
end L2
namespace L2
def zRr:D->Option Key | .int i=>some (.inl i) | .str s=>some (.inr s) | _=>none
def bB (ks:qj)(ds:kd)(k:Key):qi:=((ks.zip ds).find? λp=>decide (p.1=k)).map (·.2)
def fJ (ks:qj)(ds:kd)(k:Key):kd:=((ks.zip ds).filter λp=>decide (p.1≠k)).map (·.2)
def bL (ks:qj)(k:Key):qj:=ks.filter λq=>decide (q≠k)
def zY2 (ks:qj)(ds:kd)(k:Key)(e:D):kd:=(ks.zip ds).map λp=>if p.1=k then e else p.2
def zS9 (ks:qj)(ds:kd)(k:Key)(e:D):D:=if (bB ks ds k).isSome then .dct ks (zY2 ks ds k e) else .dct (ks++[k]) (ds++[e])
section
def jN {k:Key}(h:zRr d=some k)(r:Rep K G d v):v=kV k:=by
 cases d with
 | int i=>cases h;exact yW.mp r
 | str z=>cases h;exact xZ.mp r
 | _=>cases h
theorem zW7:∀ {ks:qj} {ds:kd} {vs:kl} (k:Key),ks.length=ds.length->Reps K G ds vs->match bB ks ds k,gC (ks.zip vs) k with | some d,some v=>Rep K G d v | none,none=>True | _,_=>False
 | [],ds,vs,k,h,r=>by simp[bB,gC]
 | q::ks,[],vs,k,h,r=>by simp at h
 | q::ks,d::ds,vs,k,h,r=>by
  obtain⟨v,vr,rfl,r1,r2⟩:=zP.mp r;have ih:=zW7 k (by simpa using h) r2;unfold bB gC at ih ⊢
  by_cases e:q=k
  .simp_all
  .simp_all
def pS (k:Key)(h:ks.length=ds.length)(r:Reps K G ds vs):(gC (ks.zip vs) k).isSome=(bB ks ds k).isSome:=by
 have:=zW7 k h r;split at this
 .simp_all
 .simp_all
 .simp_all
theorem zYM:∀ {ks:qj} {ds:kd} {vs:kl} (k:Key),ks.length=ds.length->Reps K G ds vs -> ∃us,zYm (ks.zip vs) k=(bL ks k).zip us/\(bL ks k).length=(fJ ks ds k).length/\Reps K G (fJ ks ds k) us
 | [],ds,vs,k,h,r=>⟨[],by simp[zYm],by simp[fJ,bL],by simp[fJ];exact yX.mpr J⟩
 | q::ks,[],vs,k,h,r=>by simp at h
 | q::ks,d::ds,vs,k,h,r=>by
  obtain⟨v,vr,rfl,r1,r2⟩:=zP.mp r;obtain⟨us,a1,a2,a3⟩:=zYM k (by simpa using h) r2;unfold zYm fJ bL at *
  by_cases e:q=k
  .refine⟨us,?_,?_,?_⟩
   .simp_all
   .simp_all
   .simp_all
  .refine⟨v::us,?_,?_,?_⟩
   .simp_all
   .simp_all
   .have:=zP.mpr ⟨v,us,J,r1,a3⟩;simpa [e] using this
theorem zUp {d:D}{v:V}(rv:Rep K G d v)(k:Key):∀ {ks:qj} {ds:kd} {vs:kl},ks.length=ds.length->Reps K G ds vs -> ∃us,((ks.zip vs).map λkv=>if kv.1=k then(kv.1,v) else kv)=ks.zip us/\ks.length=(zY2 ks ds k d).length/\Reps K G (zY2 ks ds k d) us
 | [],ds,vs,h,r=>⟨[],je,by simp[zY2],by simp[zY2];exact yX.mpr J⟩
 | q::ks,[],vs,h,r=>by simp at h
 | q::ks,d'::ds,vs,h,r=>by
  obtain⟨w,vr,rfl,r1,r2⟩:=zP.mp r;obtain⟨us,a1,a2,a3⟩:=zUp rv k (by simpa using h) r2;unfold zY2 at *
  by_cases e:q=k
  .refine⟨v::us,by simp[e,a1],by simpa using a2,?_⟩;have:=zP.mpr ⟨v,us,J,rv,a3⟩;simpa [e] using this
  .refine⟨w::us,by simp[e,a1],by simpa using a2,?_⟩;have:=zP.mpr ⟨w,us,J,r1,a3⟩;simpa [e] using this
def zO6 (rv:Rep K G d v)(k:Key)(h:ks.length=ds.length)(r:Reps K G ds vs):RepO K G (.dK<|bZ (ks.zip vs) k v)<|zS9 ks ds k d:=by
 unfold zS9;split
 .rename_i e;obtain⟨us,a1,a2,a3⟩:=zUp rv k h r;exact⟨us,Wi _<|(Qh (by rw[zZq,pS k h r];exact e)).trans a1,a2,a3⟩
 .rename_i e;have hn:gC (ks.zip vs) k=none:=by
   have:=pS k h r;simp_all
  refine⟨vs++[v],?_,by simp[h],r.snoc rv⟩;rw[zLQ v hn,List.zip_append<|by rw[h,r.length]];rfl
def zPv (sub:Same G H)(r:Rep K G (.dct ks ds) v):∃q vs,v = .ref q/\Rd H q (.dK<|ks.zip vs)/\ks.length=ds.length/\Reps K G ds vs:=by obtain⟨q,vs,ob,rfl,h1,h2,h3⟩:=zTA.mp r;exact⟨q,vs,J,.inr ⟨ob,sub _ _ h1⟩,h2,h3⟩
variable{a b:r8}{k:Nat}
def zP1 (i:Nat):Sf:=λO=>some<|.nx<|O.set i<|.mu none<|.dct [] []
def zRO (i:Nat)(hN:X.N.Nodup)(hi:!25:=by rfl)(hx:Loc X.env.scope x:=by exact o0)(hs:swapsWith (.Dict [] [] p) (some<|.Name x pos') pos.line X.env=pure false:=by rfl)(hf:!37:=by exact o0):PFS X (.Assign [.Name x pos'] (.Dict [] [] p) pos)<|zP1 i:=by refine PS.to (aG hN hi hx zRb hs hf) ?_;rintro D U H ⟨G0,H0,G,O,o,j0,hf,k⟩;cases hf;intro q hq;have s1:=Step.own (o:=.dK []) j0.st.sub hq;exact k _ _ G s1.gg<|(j0.step s1).setM i zH (j0.st.sub.free hq) (j0.st.hh.free hq) ⟨[],rfl,rfl,yX.mpr rfl⟩ λj w c h1 h2 f=>j0.fresh hq j w c h1 h2<|(j0.at h1 h2).back (λx o _ h=>s1.hh x o h) f
def cA (y:Bool)(fk fd:Ef):Tf:=λO=>(fk O).bind λdk=>(fd O).bind λd=>(zRr dk).bind λk=>match d with | .dct ks ds=>some ((bB ks ds k).isSome==y) | _=>none
def zJA {y:Bool}{fd:Ef}{r:Bool}(h:cA y fk fd O=some r):∃dk k ks ds,fk O=some dk/\fd O=some (.dct ks ds)/\zRr dk=some k/\r=((bB ks ds k).isSome==y):=by
 obtain⟨dk,h1,h⟩:=k8 h;obtain⟨d,h2,h⟩:=k8 h;obtain⟨k,h3,h⟩:=k8 h;split at h
 .cases h;exact⟨dk,k,_,_,h1,h2,h3,J⟩
 .cases h
def zO9 {y:Bool}{Q:Bool->Hp->Prop}(h:tFT X.K (cA y fa fb) U H Q):tF X.K fa U H λv H1=>tF X.K fb U H1 λx H2=>∃q o,x = .ref q/\zR7 H2 q v o/\Q (o.isSome==y) H2:=by obtain⟨G0,H0,G,O,c,j0,hf,kk⟩:=h;obtain⟨dk,k,ks,ds,h1,h2,h3,rfl⟩:=zJA hf;refine⟨G0,H0,G,O,_,j0,h1,λu H1 G1 s1 r1=>⟨G0,H0,G1,O,_,j0.step s1,h2,λv H2 G2 s2 r2=>?_⟩⟩;obtain⟨q,vs,rfl,e1,e2,e3⟩:=zPv s2.sub r2;have e4:=jN h3 r1;subst e4;exact⟨q,_,J,⟨_,_,e1,J,J⟩,by rw[pS k e2 e3];exact kk _ G2 (!12)⟩
def zQu (hr:Room k X.A)(ha:!10)(hb:PF X b fb)(hm:behindInMarks .In b=false:=by first | exact zWS _ | (with_unfolding_all rfl)):PFT X (.Compare a [.In] [b] pos)<|cA true fa fb:=by have hu:=hr.un;refine PT.to (zLi (zGK jc ha hb) hm) λU H Q h=>?_;obtain⟨G0,H0,G,O,d,j0,hf,k⟩:=zO9 h;refine⟨G0,H0,G,O,d,j0,hf,λv H1 G1 s1 r1=>?_⟩;obtain⟨G0,H0,G,O,d,j0,hf,k⟩:=k v H1 G1 s1 r1;refine⟨G0,H0,G,O,d,j0,hf,λv H1 G1 s1 r1=>?_⟩;obtain⟨q,o,e1,e2,e3⟩:=k v H1 G1 s1 r1;exact⟨q,o,e1,e2,_,J,by simpa using e3⟩
def zYJ (hr:Room k X.A)(ha:!10)(hb:PF X b fb)(hm:behindInMarks .NotIn b=false:=by first | exact zWS _ | (with_unfolding_all rfl)):PFT X (.Compare a [.NotIn] [b] pos)<|cA false fa fb:=by have hu:=hr.un;refine PT.to (zLi (zN4 jc ha hb) hm) λU H Q h=>?_;obtain⟨G0,H0,G,O,d,j0,hf,k⟩:=zO9 h;refine⟨G0,H0,G,O,d,j0,hf,λv H1 G1 s1 r1=>?_⟩;obtain⟨G0,H0,G,O,d,j0,hf,k⟩:=k v H1 G1 s1 r1;refine⟨G0,H0,G,O,d,j0,hf,λv H1 G1 s1 r1=>?_⟩;obtain⟨q,o,e1,e2,e3⟩:=k v H1 G1 s1 r1;exact⟨q,o,e1,e2,_,J,by simpa using e3⟩
def dQ (fd fk:Ef):Ef:=λO=>(fd O).bind λd=>(fk O).bind λdk=>(zRr dk).bind λk=>match d with | .dct ks ds=>bB ks ds k | _=>none
def zX9 (hr:Room k X.A)(ha:!10)(hb:PF X b fb)(hs:zGs b:=by exactλ_ _=>rfl):PF X (.Subscript a b pos)<|dQ fa fb:=by
 have hu:=hr.un;refine PE.to (zIf jc ha hb hs) ?_;rintro U H Q ⟨G0,H0,G,O,c,j0,hf,kk⟩;obtain⟨d,h1,hf⟩:=k8 hf;obtain⟨dk,h2,hf⟩:=k8 hf;obtain⟨k,h3,hf⟩:=k8 hf;cases d with
 | dct ks ds =>
  refine⟨G0,H0,G,O,_,j0,h1,λu H1 G1 s1 r1=>⟨G0,H0,G1,O,_,j0.step s1,h2,λv H2 G2 s2 r2=>?_⟩⟩;obtain⟨q,vs,rfl,e1,e2,e3⟩:=zPv s2.sub<|r1.mono s2.gg;have e4:=jN h3 r2;subst e4;have hv:=zW7 k e2 e3;have hf:bB ks ds k=some c:=hf;rw[hf] at hv;cases hw:gC _ k with
  | none=>rw[hw] at hv;exact hv.elim
  | some w =>rw[hw] at hv;refine⟨q,w,J,?_,kk _ _ G2 (!12) hv⟩;rw[<-hw];exact⟨_,_,e1,J,J⟩
 | _=>cases hf
def zUe (i:Nat)(fk fv:Ef):Sf:=λO=>(fv O).bind λe=>(fk O).bind λdk=>(zRr dk).bind λk=>match O[i]? with
 | some (.mu q (.dct ks ds))=>if ks.length<=lim then some (.nx<|O.set i<|.mu q<|zS9 ks ds k e) else none
 | _=>none
def zOv (i:Nat)(hr:Room k X.A)(he:PF X e fa)(hb:PF X b fb)(hN:!25:=by rfl)(hv:!29:=by exact visQ rfl)(hd:!17:=by decide)(hcd:!28:=by decide)(hs:swapsWith e (some<|.Subscript (!15) b p2) pos.line X.env=pure false:=by rfl):PFS X (.Assign [.Subscript (!15) b p2] e pos)<|zUe i fb fa:=by
 have hu:=hr.un;refine PS.to (zOW jc (wI hN hv hd hcd) hb he hs) ?_;rintro D U H ⟨G0,H0,G,O,o,j0,hf,kk⟩;obtain⟨de,g1,hf⟩:=k8 hf;obtain⟨dk,g2,hf⟩:=k8 hf;obtain⟨k,g3,hf⟩:=k8 hf;split at hf
 .rename_i q ks ds hi;split at hf
  .rename_i hl;cases hf;refine⟨G0,H0,G,O,_,j0,g1,λv H1 G1 s1 r1=>?_⟩;obtain⟨q,oq,e1,e2⟩:=(j0.step s1).mu hi;refine⟨.ref q,e1,G0,H0,G1,O,_,j0.step s1,g2,λu H2 G2 s2 r2=>?_⟩;have gd:=(j0.step s1).step s2;obtain⟨q',oq',f1,f2,f3,f4,f5⟩:=gd.mu hi;rw[e1] at f1;cases f1;obtain⟨vs,rfl,l1,l2⟩:=f5;have e4:=jN g3 r2;subst e4;refine⟨q,_,J,DPut.k f2 ?_,kk _ _ G2 (s1.gg.trans s2.gg)<|gd.wrM hi e1<|zO6 (r1.mono s2.gg) k l1 l2⟩;rw[Ta,<-l2.length,<-l1,Uo];exact wN hl
  .simp_all
 .simp_all
def zSz (i:Nat)(fk:Ef):Sf:=λO=>(fk O).bind λdk=>(zRr dk).bind λk=>match O[i]? with
 | some (.mu q (.dct ks ds))=>if (bB ks ds k).isSome then some (.nx<|O.set i<|.mu q<|.dct (bL ks k)<|fJ ks ds k) else none
 | _=>none
def zIB (i:Nat)(hb:PF X b fb)(hN:!25:=by rfl)(hv:!29:=by exact visQ rfl)(hd:!17:=by decide)(hcd:!28:=by decide)(m:M1 X (!15) "pop" apos b cpos:=by exact⟨J,J,J,J⟩) (hs:swapsWith (.Call (.Attribute (!15) "pop" apos) [b] [] cpos) none pos.line X.env=pure false:=by rfl):PFS X (.Expr (.Call (.Attribute (!15) "pop" apos) [b] [] cpos) pos)<|zSz i fb:=by
 refine PS.to (qH (zQH (wI hN hv hd hcd) hb m) hs) ?_;rintro D U H ⟨G0,H0,G,O,o,j0,hf,kk⟩;obtain⟨dk,g2,hf⟩:=k8 hf;obtain⟨k,g3,hf⟩:=k8 hf;split at hf
 .rename_i q ks ds hi;split at hf
  .rename_i hn;cases hf;obtain⟨q,oq,e1,e2,e3,e4,e5⟩:=j0.mu hi;obtain⟨vs0,rfl,_⟩:=e5;refine⟨.ref q,e1,q,J,⟨_,.inl e2⟩,G0,H0,G,O,_,j0,g2,λu H1 G1 s1 r1=>?_⟩;obtain⟨q',oq',f1,f2,f3,f4,f5⟩:=(j0.step s1).mu hi;rw[e1] at f1;cases f1;obtain⟨vs,rfl,l1,l2⟩:=f5;have hv:=pS k l1 l2;rw[hn] at hv;obtain⟨w,hw⟩:=Wh.mp hv;obtain⟨us,a1,a2,a3⟩:=zYM k l1 l2;refine⟨_,k,w,f2,jN g3 r1,hw,?_⟩;rw[a1];exact kk _ _ G1 s1.gg<|(j0.step s1).wrM hi e1 ⟨us,rfl,a2,a3⟩
  .simp_all
 .simp_all
end
theorem zUx:∀ {vs:kl} {us:jn} {v:V} {u:qv},Vals vs us->RelV v u->Vals (vs++[v]) (us++[u])
 | _,_,_,_,.nil,h=>.cons h .nil
 | _,_,_,_,.cons a t,h=>.cons a<|zUx t h
def xH (a b:Int×Str):Bool:=decide (a.1 < b.1)||(a.1==b.1&&decide (a.2.cps.toList < b.2.cps.toList))
def jY {b:Int×Str}:xH a b=true↔a.1 < b.1\/(a.1=b.1/\a.2.cps.toList < b.2.cps.toList):=by unfold xH;simp[To]
def zHk (a:kz):¬a < a:=Oe a
def zE9 {a b:kz}(h1:¬a < b)(h2:¬b < a):a=b:=by grind
def vC (a:Int×Str):xH a a=false:=by
 cases h:xH a a
 .rfl
 .rw[jY] at h
  grind
def zSO {b c:Int×Str}(h1:xH a b=true)(h2:xH b c=true):xH a c=true:=by
 rw[jY] at *;rcases h1 with h1 | h1<;>rcases h2 with h2 | h2
 .lia
 .simp_all
 .simp_all
 .grind
def zSy {b c:Int×Str}(h:xH a c=true):xH a b=true\/xH b c=true:=by
 simp only[jY] at *
 grind
def zOr {b:Int×Str}(h1:xH a b=false)(h2:xH b a=false):a=b:=by
 have q1:¬_:=λz=>by rw[jY.mpr z] at h1;cases h1
 have q2:¬_:=λz=>by rw[jY.mpr z] at h2;cases h2
 have e:a.1=b.1:=jc;have e2:=zE9 (λz=>q1<|.inr ⟨e,z⟩) λz=>q2<|.inr ⟨e.symm,z⟩;obtain⟨a1,⟨a2⟩⟩:=a;simp_all
def zSD (f:Nat->Int×Str):SWO λi j=>xH (f i)<|f j:=⟨λa=>vC _,λa b c=>zSO,λa b c=>zSy⟩
abbrev isZ:Int×Str:=(0,⟨#[]⟩)
abbrev ltP (ps:qe)(i j:Nat):Bool:=xH (ps.getD i isZ)<|ps.getD j isZ
def zWJ (ps:qe):kz:=vI (ltP ps) ps.length
def jK (ps:qe):(zWJ ps).Perm<|List.range ps.length:=rX _ _
def iF (ps:qe):qe:=(zWJ ps).map λi=>ps.getD i isZ
def zY1 (ps:qe):(iF ps).Perm ps:=by refine((jK ps).map _).trans ?_;rw[tU]
def zSd (ps:qe):(zWJ ps).Pairwise λi j=>ltP ps j i=false :=(zY6 (zSD λi=>ps.getD i isZ) _).imp λ{a b} h=>Lx.le (zSD λi=>ps.getD i isZ) h
def bW (ps:qe):(iF ps).Pairwise λa b=>xH b a=false:=by unfold iF;rw[En];exact zSd ps
def zNr (h:qx)(p:Int×Str)(u:qv):Prop:=∃a o n t t',u = .ref a/\h.get? a=some o/\o.cls = .type "tuple"/\o.data = .seq #[.int p.1 t,.str p.2 t'] n
theorem zJL {h:qx}:∀ {ps:qe} {us:jn},Paired (zNr h) ps us->∃fs:qh,KatTups h us fs/\fs.length=us.length/\∀v∈fs,∃i t,v=Value.int i t
 | _,_,.nil=>⟨[],KatTups.nil,J,λ_ h=>nomatch h⟩
 | _,_,.cons r t=>by
  obtain⟨a,o,n,t1,t2,rfl,e,c,d⟩:=r;obtain⟨fs,q1,q2⟩:=zJL t;refine⟨_::fs,KatTups.cons e c d J q1,by simp[q2],λv hv=>?_⟩;rcases v4 hv with rfl | hv
  .exact⟨_,_,rfl⟩
  .simp_all
def zIW {ps:qe}(hp:Paired (zNr s.heap) ps us)(h2:2<=us.length):∃κ,(∀(E':jl) Q,Q κ s->wpAny (model P w) A (keyKind' us.toArray) Q E' s) /\ ∀i j C,i < us.length->j < us.length->C (ltP ps i j) s->kas_ask P w A κ us i j C s:=by
 obtain⟨fs,q1,q2,q3⟩:=zJL hp;have hl:_=_:=Td hp;refine⟨tuples'<|(Value.type "int") != Value.type "tuple",λE' Q' hQ=>kat_kind q1 jc (λv hv=>?_) rfl hQ,λi j C hi hj hC=>?_⟩
 .obtain⟨n,t,rfl⟩:=q3 v hv;exact Looks.of_pure J
 .obtain⟨a,o,n,t1,t2,ea,e,c,d⟩:=tX (i:=i) (da:=isZ) (db:=_) hp jc;obtain⟨b,o',n',t3,t4,eb,e',c',d'⟩:=tX (i:=j) (da:=isZ) (db:=Value.none) hp jc;have hC:C (xH (ps.getD i isZ)<|ps.getD j isZ) s:=hC;generalize ps.getD i isZ=x at *;generalize ps.getD j isZ=y at *;unfold kas_ask;rw[ea,eb];refine kat_lt e d e' d'<|kat_cons<|Pw ?_
  by_cases h1:x.1=y.1
  .have e1:(x.1==y.1)=true:=by simp[h1]
   rw[e1];refine kat_yes<|kat_cons<|Yl ?_
   by_cases h3:x.2=y.2
   .have e2:decide (x.2=y.2)=true:=by simp[h3]
    rw[e2];refine kat_yes<|kat_nil ?_;have e3:x=y:=Prod.ext h1 h3;rw[e3,vC] at hC;simpa using hC
   .have e2:decide (x.2=y.2)=false:=by simp[h3]
    rw[e2];refine kat_one _ _<|lt_str ?_;have e3:xH x y=decide (x.2.cps.toList < y.2.cps.toList):=by unfold xH;simp[h1]
    rw[e3] at hC;exact hC
  .have e1:(x.1==y.1)=false:=by simp[h1]
   rw[e1];refine oneLt_int ?_;have e3:xH x y=decide (x.1 < y.1):=by unfold xH;simp[h1]
   simp_all
def zEb (I:!4)(k:∀b o,s.heap.get? b=some o->h'.get? b=some o){p:Int×Str}{b:qu}(e:SqT X.K H b [.int p.1,.str p.2]):zNr h' p<|.ref b:=by
 obtain⟨j6,rv,⟨o,e,c,n,d⟩,_⟩:=I.tuple e;obtain⟨u1,r1,e1,r2⟩:∃u1 r1,j6=u1::r1/\RelV _ u1/\Vals [.str p.2] r1:=by cases rv with | cons x y=>exact⟨_,_,J,x,y⟩
 obtain⟨u2,e2,r3⟩:∃u2,r1=[u2]/\RelV _ u2:=by cases r2.2 with | cons x y=>cases y;exact⟨_,J,x⟩
 obtain⟨t,rfl⟩:=r2.1;obtain⟨t',rfl⟩:=r3;subst e1;subst e2;exact⟨b,o,n,t,t',J,k _ _ e,c,d⟩
def dIS (p:Int×Str):D:=.tup [.int p.1,.str p.2]
end L2
variable{a:r8}
namespace L2
structure FlyV (h:qx)(H:Hp)(h0:qx)(C a:qu)(od:kr):Prop where
 ob:∃vs v,h.get? a=some { cls:=.ref C,dict:=od,data:=.fields vs,slots:=#[] }/\vs[1]?=some v/\zTv h a v/\∀T,v = .ref T->H T=none/\h0.get? T=none
 tr:H a=some (.ext<|Xe C a od)
 new:h0.get? a=none
def zNJ {rest:qg}{B f g:Sf}(e:B=zF f g)(h1:PFS X st f)(h2:PFSs X rest g):PFSs X (st::rest) B:=by subst e;exact zT h1 h2
def zO {rest:qg}(B:Sf){f g:Sf}(e:B=zF f g)(h1:PFS X st f)(h2:PFSs X rest g):PFSs X (st::rest) B:=zNJ e h1 h2
structure FnT (K:jk)(mg:Str->kn)(x:Str)(st:r9)(ps:kh) where
 f:qu
 fd:FuncData
 F:Fun K x x st f fd
 b:Binds K fd ps []
 m:mg x=some (.ref f)
def vV (K:jk)(x:Str)(st:r9):Prop:=∃(f:qu) (od an:kr) (sl:Array kn) (oc kV dc pm cd ct:qv),PySem.W.nsIn K mainGlobals x=some (some<|.ref f)/\K.lookup f=some ⟨oc,od,.func<|PySem.W.fnOf x x (qB st) (xI st) (zV st) .none kV dc pm an cd ct,sl⟩/\codeIn K cd x=true/\keepIn K (.ref f)=true
abbrev fnR (x q:Str)(st:r9)(kV dc pm:qv)(an:kr)(cd ct:qv):FuncData:=PySem.W.fnOf x q (qB st) (xI st) (zV st) .none kV dc pm an cd ct
def Be (x q:Str)(st:r9)(ps:kh):Prop:=∀(kV doc pm:qv) (an:kr) (j9 ct:qv) (us:jn),us.length=ps.length->bindArgs (fnR x q st kV doc pm an j9 ct) ⟨us,[]⟩=pure (ps.zip us)
section
variable{q a b c d e:Str}
theorem nG {P:List α->Prop}(h:∀u r,r.length=n->P (u::r)):∀us,us.length=n+1->P us
 | u::r,e=>h u r<|Nat.succ.inj e
theorem zRd {P:List α->Prop}(h:P []):∀us,us.length=0->P us
 | [],_=>h
def be1 (h:∀kV dc pm an cd ct u,bindArgs (fnR x q st kV dc pm an cd ct) ⟨[u],[]⟩=pure [(a,u)]):Be x q st [a]:=λ_ _ _ _ _ _=>nG λu=>zRd<|h _ _ _ _ _ _ u
def be2 (h:∀kV dc pm an cd ct u v,bindArgs (fnR x q st kV dc pm an cd ct) ⟨[u,v],[]⟩=pure [(a,u),(b,v)]):Be x q st [a,b]:=λ_ _ _ _ _ _=>nG λu=>nG λv=>zRd<|h _ _ _ _ _ _ u v
def be3 (h:∀kV dc pm an cd ct u v z,bindArgs (fnR x q st kV dc pm an cd ct) ⟨[u,v,z],[]⟩=pure [(a,u),(b,v),(c,z)]):Be x q st [a,b,c]:=λ_ _ _ _ _ _=>nG λu=>nG λv=>nG λz=>zRd<|h _ _ _ _ _ _ u v z
def be4 (h:∀kV dc pm an cd ct u v z w,bindArgs (fnR x q st kV dc pm an cd ct) ⟨[u,v,z,w],[]⟩=pure [(a,u),(b,v),(c,z),(d,w)]):Be x q st [a,b,c,d]:=λ_ _ _ _ _ _=>nG λu=>nG λv=>nG λz=>nG λw=>zRd<|h _ _ _ _ _ _ u v z w
def be5 (h:∀kV dc pm an cd ct u v z w y,bindArgs (fnR x q st kV dc pm an cd ct) ⟨[u,v,z,w,y],[]⟩=pure [(a,u),(b,v),(c,z),(d,w),(e,y)]):Be x q st [a,b,c,d,e]:=λ_ _ _ _ _ _=>nG λu=>nG λv=>nG λz=>nG λw=>nG λy=>zRd<|h _ _ _ _ _ _ u v z w y
def vS (X:K.In h)(G:h.Ns mainGlobals mg)(g:vV K x st)(hb:Be x x st ps:=by first | exact be1 λ_ _ _ _ _ _ _=>rfl | exact be2 λ_ _ _ _ _ _ _ _=>rfl | exact be3 λ_ _ _ _ _ _ _ _ _=>rfl | exact be4 λ_ _ _ _ _ _ _ _ _ _=>rfl | exact be5 λ_ _ _ _ _ _ _ _ _ _ _=>rfl):FnT K mg x st ps:=Classical.choice (by obtain⟨f,od,an,sl,oc,kV,dc,pm,cd,ct,a,l,c,k⟩:=g;exact⟨⟨f,_,zTG l c k,(zTG l c k).binds hb,mg_of X G a⟩⟩)
def zFJ {k:Nat}{p:Str}{fa:qu}(t:FnT K mg x st [p])(hb:Be x x st [p])(hfa:mg x=some (.ref fa))(ok:∀base:qx,FnOk P w K mg base CX0 k t.f t.fd [p] sp):∃fd:FuncData,(∀(s:qw) (v:qv),BindsTo s fd ⟨[v],[]⟩ [(p,v)])/\∀base:qx,K.In base->base.Ns mainGlobals mg->FnOk P w K mg base CX0 k fa fd [p] sp:=by have e:=hfa.symm.trans t.m;cases e;refine⟨t.fd,λs v=>?_,λbase _ _=>ok base⟩;obtain⟨oc,od,kV,doc,pm,an,j9,ct,osl,e,lk⟩:=t.F.ex;rw[e];exact .of_eq<|hb kV doc pm an j9 ct [v] rfl
end
abbrev OkT (P:Program)(w:qz)(base:qx)(t:FnT K mg x st ps)(k n:Nat)(d:jz):Prop:=FnOk P w K mg base CX0 k t.f t.fd ps<|spF K n d
abbrev zMA (P:Program)(w:qz)(base:qx)(t:FnT K mg x st ps)(k n:Nat)(d:kd->ka):Prop:=FnOk P w K mg base CX0 k t.f t.fd ps<|spL K n d
def xP {k:Nat}{t:FnT X.K X.mg x st ps}{fD:jz}(F:FnOk X.prog X.w X.K X.mg X.base CX0 j t.f t.fd ps<|spF X.K n fD)(hr:Room k X.A)(ha:PFA X (e::es) ga)(hj:j<=k:=by first | exact Qt rfl | lia)(hg:Gl X x:=by rfl)(hdb:!17:=by decide)(he:!24:=by rfl)(hpl:(backTo pos (!26)).any (·.1)=false:=by rfl):PF X (.Call (.Name x p) (e::es) [] pos)<|yZ n fD ga:=zH7 F (hr.mono hj) t.m t.F.kp t.b hg ha hdb he hpl
def zTn {k:Nat}{t:FnT X.K X.mg x st ps}(F:FnOk X.prog X.w X.K X.mg X.base CX0 j t.f t.fd ps<|spL X.K n fD)(hr:Room k X.A)(ha:PFA X (e::es) ga)(hj:j<=k:=by first | exact Qt rfl | lia)(hg:Gl X x:=by rfl)(hdb:!17:=by decide)(he:!24:=by rfl)(hpl:(backTo pos (!26)).any (·.1)=false:=by rfl):PFr X (.Call (.Name x p) (e::es) [] pos)<|sU n fD ga:=zI4 F (hr.mono hj) t.m t.F.kp t.b hg ha hdb he hpl
def yI {P:kh}(h:(sc.kind == .function && !sc.isCoroutine && !sc.isGenerator&&decide (N.take P.length=P)&&decide N.Nodup&&decide (∀x∈P,sc.names.lookup x=some .local\/sc.names.lookup x=some .cell)&&decide (∀y∈sc.names,y.2 ≠ .free))=true):FnScope N P sc:=by simp only[Qm,Wo,Bool.not_eq_true'] at h;obtain⟨⟨⟨⟨⟨⟨h1,h2⟩,h3⟩,h4⟩,h5⟩,h6⟩,h7⟩:=h;refine⟨?_,h2,h3,h5,h4,h6,h7⟩;simp_all
end L2
namespace L2
def zM7:D->Option (Int×Str) | .tup [.int i,.str z]=>some (i,z) | _=>none
def zT1 {p:Int×Str}(h:zM7 d=some p):d=dIS p:=by
 unfold zM7 at h;split at h
 .cases h;rfl
 .cases h
def zQC (f:jz):kd->Option qe
 | []=>some []
 | d::r=>((f [d]).bind zM7).bind λp=>(zQC f r).map (p::·)
theorem zUq {f:jz}:∀ {ds:kd} {ps:qe},zQC f ds=some ps->ps.length=ds.length
 | [],_,h=>by cases h;rfl
 | d::r,ps,h=>by obtain⟨p,h1,h⟩:=k8 h;obtain⟨qs,h2,rfl⟩:=k9 h;rw[Qk,Qk,zUq h2]
theorem zRm {f:jz}:∀ {ds:kd} {ps:qe} {i:Nat} {d:D},zQC f ds=some ps->ds[i]?=some d->∃p,ps[i]?=some p/\f [d]=some (dIS p)
 | [],_,_,_,_,e=>by simp at e
 | d::r,ps,i,d',h,e=>by
  obtain⟨p,h1,h⟩:=k8 h;obtain⟨qs,h2,rfl⟩:=k9 h;obtain⟨x,h3,h4⟩:=k8 h1;cases i with
  | zero=>cases e;exact⟨p,J,by rw[h3,zT1 h4]⟩
  | succ i=>exact zRm (i:=i) h2 (!6)
def zS6 (f:jz)(g:Lf):Lf:=λO=>(g O).bind λds=>(zQC f ds).bind λps=>if ps.length < 64 then some ((zWJ ps).map λi=>ds.getD i .non) else none
theorem Vals.at {x:qv}:∀ {vs:kl} {us:jn} {i:Nat},Vals vs us->us[i]?=some x->∃v,vs[i]?=some v/\RelV v x
 | _,_,_,.nil,e=>by simp at e
 | _,_,0,.cons r _,e=>by cases e;exact⟨_,J,r⟩
 | _,_,i+1,.cons _ t,e=>Vals.at (i:=i) t (!6)
theorem Reps.at {K:jk}{G:Hp}{v:V}:∀ {ds:kd} {vs:kl} {i:Nat},Reps K G ds vs->vs[i]?=some v->∃d,ds[i]?=some d/\Rep K G d v
 | [],vs,i,h,e=>by rw[yX] at h;subst h;simp at e
 | d::ds,vs,i,h,e=>by
  obtain⟨v',vr,rfl,r1,r2⟩:=zP.mp h;cases i with
  | zero=>cases e;exact⟨d,J,r1⟩
  | succ i=>exact Reps.at (i:=i) r2 (!6)
theorem zSE {X:Cx}{Z:jm}{U:St}{G H:Hp}{s:qw}(I:!4)(sub:Same G H):∀ {ps:qe} {vs:kl} {us:jn},Reps X.K G (ps.map dIS) vs->Vals vs us->Paired (zNr s.heap) ps us
 | [],vs,us,h,r=>by rw[Ov] at h;subst h;cases r;exact .nil
 | p::ps,vs,us,h,r=>by
  obtain⟨v',vr,rfl,r1,r2⟩:=zP.mp h;cases r with
  | cons w1 w2 =>refine .cons ?_<|zSE I sub r2 w2;obtain⟨b,us',rfl,q1,q2⟩:=xU.mp r1;cases w1;obtain⟨_,_,rfl,a1,a2⟩:=zP.mp q2;obtain⟨_,_,rfl,a3,a4⟩:=zP.mp a2;rw[yX] at a4;subst a4;subst a1 a3;exact zEb I (λ_ _ e=>e)<|sub.tup q1
section
variable{kp:Pos}{k:Nat}{fD:jz}
def zKJ {t:FnT X.K X.mg x st [y]}(F:FnOk X.prog X.w X.K X.mg X.base CX0 j t.f t.fd [y]<|spF X.K 1 fD)(hr:Room k X.A)(hg:Gl X "sorted")(hm:X.mg "sorted"=none)(h:zP6 X a ga)(hj:j+2<=k:=by lia)(hgx:Gl X x:=by rfl)(hdb:!17:=by decide)(hs:!34:=by rfl):PFr X (.Call (.Name "sorted" p) [a] [⟨some "key",.Name x p1,kp⟩] pos)<|zS6 fD ga:=by
 intro Z s U H Q I h0;obtain⟨G0,H0,G,O,ds',j0,hf,K⟩:=h0;obtain⟨ds,f1,hf⟩:=k8 hf;obtain⟨ps,f2,hf⟩:=k8 hf;split at hf
 case isFalse=>cases hf
 cases hf;have j5:=zUq f2;refine Re<|iQ I hg hm (u:=.builtin "sorted") jg (callWith_kw (spliced_more (thn (h Z s U H (λv H1=>∃r vs G1,v = .ref r/\Step G H G1 H1/\SqL X.K G1 r vs/\Reps X.K G1 ds vs) I ?_) λu s1 ⟨v,H1,I1,rv,r,vs,G1,e,st1,hr1,rs1⟩=>?_) (by rw[hs];rfl)) (by first | rfl | (rw[hs];rfl)) (by first | rfl | (rw[hs];rfl)) (by first | rfl | (rw[hs];rfl))<|by first | rfl | (rw[hs];rfl)) jb jb
 .exact⟨G0,H0,G,O,ds,j0,f1,λr vs H1 G1 s1 q1 q2=>⟨r,vs,G1,J,s1,q1,q2⟩⟩
 subst e;cases rv;refine spliced_none<|kws_cons<|iV I1 hgx t.m (kws_nil ?_) hdb;obtain⟨j6,rvl,pl,hz⟩:=I1.list<|st1.sub.seq hr1;have hvl:_=_:=rvl.length;have hdl:_=_:=rs1.length;refine zTK (lt:=ltP ps) (zSD λi=>ps.getD i isZ) (λm ws H'=>∃G' j8,Step G1 H1 G' H'/\Reps X.K G' ((ps.take m).map dIS) j8/\Vals j8 ws) pl.isList jc I1 ⟨G1,[],.refl st1.sub,by rw[List.take_zero];exact yX.mpr J,.nil⟩ ?step ?asks ?fin
 case step =>
  intro m x' ws H' s' _ hx hJ I';obtain⟨G',j8,st,rk,iw⟩:=hJ;obtain⟨v,ev,rvx⟩:=rvl.at hx;obtain⟨d,ed,rd⟩:=rs1.at ev;obtain⟨q,eq,fq⟩:=zRm f2 ed;refine Ix<|Yw (F.run _ _ s' H' ⟨[x'],[]⟩ [x'] [v] (λv' H''=>∃G'',Step G' H' G'' H''/\Rep X.K G'' (dIS q) v') E0 ((hr.mono hj).in1.in1) I'.env0.in1.in1 (by simpa using (t.b s' [x'] I'.kIn J)) (.cons rvx .nil) ⟨G',[d],dIS q,st.sub,zP.mpr ⟨v,[],rfl,rd.mono st.gg,yX.mpr rfl⟩,rfl,fq,λv' H'' G'' s'' r=>⟨G'',s'',r⟩⟩) λr s'' hq=>?_
  .cases r with
   | error e=>exact False.elim hq
   | ok fl =>
    cases fl with
    | ret u =>obtain⟨v',H'',I'',rv',G'',st'',rp⟩:=I'.after hq;refine⟨H'',I'',G'',j8++[v'],st.trans st'',?_,zUx iw rv'⟩;rw[List.take_succ,eq,Wz];exact(rk.mono st''.gg).append (zP.mpr ⟨v',[],J,rp,yX.mpr J⟩)
    | next=>exact False.elim hq
    | brk=>exact False.elim hq
    | cont=>exact False.elim hq
 case asks =>intro ws H' s' _ hJ hw I' h2;obtain⟨G',j8,st,rk,iw⟩:=hJ;rw[Ya jc] at rk;have:=zIW (P:=X.prog) (w:=X.w) (A:=X.A.in1.in1) (zSE I' st.sub rk iw) jc;rw[hw] at this;exact this
 case fin =>
  intro ws H' D s' hJ hD hI;obtain⟨G',j8,st,rk⟩:=hJ;have stp:Step G H G' H':=st1.trans st;have hpm:=jK ps;have en:j6.length=ps.length:=jc;rw[en] at hI;have vals:Vals ((zWJ ps).map λi=>vs.getD i .non)<|(zWJ ps).map λi=>j6.getD i Value.none:=by
   have key:∀l:kz,(∀i∈l,i < vs.length)->Vals (l.map λi=>vs.getD i .non) (l.map λi=>j6.getD i Value.none):=by
    intro l;induction l with
    | nil=>intro _;exact .nil
    | cons i r ih=>intro hh;exact .cons (tX rvl<|hh i je)<|ih λj hj=>hh j<|by simp[hj]
   exact key _ λi hi=>(by have:i < _:=(by simpa using hpm.subset hi);lia)
  refine⟨.ref D,_,hI (.lst<|(zWJ ps).map λi=>vs.getD i .non) λh' ⟨c3,e3⟩=>?_,J,?_⟩
  .refine⟨?_,_,c3,vals,e3⟩;rw[Qy,hpm.length_eq,Tz];exact Wa<|wN (by show _<=100000;lia)
  .refine K D _ _ G' (stp.trans<|Step.own stp.sub hD) (stp.hh.free hD) zH (stp.sub.free hD) ?_;have key:∀l:kz,(∀i∈l,i < vs.length)->Reps X.K G' (l.map λi=>ds.getD i .non) (l.map λi=>vs.getD i .non):=by
    intro l;induction l with
    | nil=>intro _;exact yX.mpr J
    | cons i r ih =>intro hh;have hi:i < _:=hh i je;obtain⟨d,ed,rd⟩:=(rs1.mono st.gg).at (i:=i) (v:=vs[i]) (by simp[hi]);refine zP.mpr ⟨_,_,J,?_,ih λj hj=>hh j<|by simp[hj]⟩;show Rep X.K G' (ds.getD i .non) (vs.getD i .non);rw[Ei,Ei,ed];simpa [hi] using rd
   exact key _ λi hi=>(by have:i < _:=(by simpa using hpm.subset hi);lia)
end
end L2
variable{d:kd->ka}
namespace L2
section
variable{E:jl}
def zL5 {x y:Int×Str}{v:qv}(hu:A.units < cLine)(ha:zNr s.heap x u)(hb:zNr s.heap y v)(h:Q (.bool (!xH y x)) s):wpAny (!9) A (richCompare .LtE u v) Q E s:=by
 obtain⟨a,o,n,t1,t2,rfl,e1,c1,d1⟩:=ha;obtain⟨b,o',n',t3,t4,rfl,e2,c2,d2⟩:=hb;have ta:s.TypeIs (.ref a) "tuple":=⟨o,e1,c1⟩
 have tb:s.TypeIs (.ref b) "tuple":=⟨o',e2,c2⟩
 refine wpAny_richCompare_same_room ta tb PySem.F.slot_tuple_le (Ey PySem.F.slot_tuple_le ta PySem.F.entry_tuple_le ?_<|PySem.F.args_tuple_le_2 _ _) hu;show wpAny _ _ (isInstance (.ref b) (.type "tuple") >>= _) _ _ s;refine Qw<|Pu tb isSubtype_tuple_tuple ?_;simp only[Bool.not_true,Ek,Yx];refine Qw<|wpAny_tupleItemsOf e1 d1 ?_;refine Qw<|wpAny_tupleItemsOf e2 d2 ?_;dsimp only[List.zip,List.zipWith];simp only[Pa,List.forIn_nil];refine Qw<|Qw<|Qw<|Pw ?_
 by_cases h1:x.1=y.1
 .have q1:(x.1==y.1)=true:=by simp[h1]
  rw[q1];simp only[Bool.not_true,Ek,Yx];refine Qi<|Qw<|Qw<|Yl ?_
  by_cases h2:x.2=y.2
  .have q2:decide (x.2=y.2)=true:=by simp[h2]
   rw[q2];simp only[Bool.not_true,Ek,Yx];refine Qi<|Qi<|Qi ⟨_,rfl,(λe=>nomatch e),?_⟩;have e3:y=x:=Prod.ext h1.symm h2.symm;rw[e3,vC] at h;exact h
  .have q2:decide (x.2=y.2)=false:=by simp[h2]
   rw[q2];simp only[Bool.not_false,Oj];have e3:xH y x=decide (y.2.cps.toList < x.2.cps.toList):=by unfold xH;simp[h1]
   rw[e3] at h;refine Qw<|Yv<|Qw<|PySem.P.le_str ?_;exact Qi<|Qi<|Qi ⟨_,rfl,(λe=>nomatch e),h⟩
 .have q1:(x.1==y.1)=false:=by simp[h1]
  rw[q1];simp only[Bool.not_false,Oj];have e3:(!xH y x)=decide (x.1<=y.1):=by
   unfold xH;have:(y.1==x.1)=false:=by simp;lia
   rw[this,Bool.false_and,Bool.or_false]
   by_cases h3:y.1 < x.1
   .simp[h3]
   .simp[h3];lia
  rw[e3] at h;refine Qw<|Yv<|Qw<|le_int ?_;exact Qi<|Qi<|Qi ⟨_,rfl,(λe=>nomatch e),h⟩
def zOb (x y:D):ky:=(zM7 x).bind λa=>(zM7 y).map λb => !xH b a
def zH5 {k:Nat}(hr:Room k X.A):CmR X .LtE zOb:=by
 refine⟨λx y H Q=>∃p q G,Same G H/\Rep X.K G (dIS p) x/\Rep X.K G (dIS q) y/\Q (.bl (!xH q p)) H,?_,λd d' k G H x y Q h s rx ry kk=>?_⟩
 .intro Z s U H x y v u Q I rx ry ⟨p,q,G,sm,hx,hy,hQ⟩;have pa:=zSE (ps:=[p]) (vs:=[x]) (us:=[v]) I sm (zP.mpr ⟨_,_,J,hx,yX.mpr J⟩)<|.cons rx .nil;have pb:=zSE (ps:=[q]) (vs:=[y]) (us:=[u]) I sm (zP.mpr ⟨_,_,J,hy,yX.mpr J⟩)<|.cons ry .nil;cases pa with
  | cons pa _ =>
   cases pb with
   | cons pb _=>exact zL5 hr.units0 pa pb ⟨.bl _,H,I,J,hQ⟩
 .unfold zOb at h;obtain⟨p,h1,h⟩:=k8 h;obtain⟨q,h2,rfl⟩:=k9 h;rw[zT1 h1] at rx;rw[zT1 h2] at ry;exact⟨p,q,G,s,rx,ry,kk H G<|.refl s⟩
end
end L2
namespace L2
open PySem.Builtin PySem.Builtin.Str
section
def zVj (i:Nat)(g:Lf):Sf:=λO=>(g O).bind λes=>match O[i]? with | some (.ow ds)=>if ds.length+es.length<=lim then some (.nx<|O.set i<|.ow<|ds++es) else none | _=>none
def zPm (i:Nat)(ht:PE X c<|tBM X.K "list" zO7 (zMM i)<|fY (tFr X.K ga) zW2)(hs:swapsWith c none pos.line X.env=pure false:=by rfl):PFS X (.Expr c pos)<|zVj i ga:=by
 refine PS.to (qH ht hs) ?_
 sleep 2
 unfold zVj at hf;obtain⟨es,h1,hf⟩:=k8 hf;split at hf
 .rename_i ds hi;split at hf
  .rename_i hl;cases hf;obtain⟨p,vs,e1,e2,e3⟩:=j0.addr hi;refine⟨.ref p,e1,.inl ⟨J,vs,.of e2⟩,G0,H0,G,O,es,j0,h1,λq ws H1 G1 s1 hq0 hq1 gq rs=>?_⟩;have good1:=j0.step s1;obtain⟨p',vs',f1,f2,f3,f4,f5⟩:=good1.addr hi;rw[e1] at f1;cases f1;exact⟨p,q,vs',ws,J,J,f2,hq1,by rw[<-f5.length,<-rs.length];exact Wa<|wN hl,k U _ G1 s1.gg<|good1.wr hi e1<|f5.append rs⟩
  .cases hf
 .cases hf
def zPa:V->kl->Hp->VK->Prop:=λx vs H Q=>∃z y i r,x = .str z/\vs=[.str y]/\occurrences z y 0 z.length 1=i::r/\Q (.int (i:Nat)) H
def zNl:MtR X "str.index" zPa:=by intro Z s U H x xs v us Q I rx rv h;obtain⟨z,y,i,r,rfl,rfl,ho,q⟩:=h;obtain⟨t,rfl⟩:=rx;obtain⟨w,rfl,u,rfl⟩:=rv.one;exact SC.index ho ⟨.int _,H,I.tok _,⟨_,J⟩,q⟩
def zFh (x y:D):qi:=match x,y with | .str z,.str m=>(occurrences z m 0 z.length 1).head?.map λi=>.int (i:Nat) | _,_=>none
def zTH (fa fb:Ef):Ef:=λO=>(fa O).bind λx=>(fb O).bind λy=>zFh x y
def zN6 (ht:PE X c<|tBM X.K "str" zPa (tF X.K fa)<|fY (tF X.K fb) zW2):PF X c<|zTH fa fb:=by
 refine PE.to ht ?_
 sleep 1
 unfold zTH at hf;obtain⟨x,h1,hf⟩:=k8 hf;obtain⟨y,h2,hf⟩:=k8 hf;cases x with
 | str z =>
  cases y with
  | str m =>
   have hf:((occurrences z m 0 _ 1).head?.map λi=>D.int (i:Nat))=some d:=hf;obtain⟨i,ho,rfl⟩:=k9 hf;refine⟨G0,H0,G,O,_,j0,h1,λu H1 G1 s1 r1=>?_⟩;have r1:=xZ.mp r1;subst r1;refine⟨J,G0,H0,G1,O,_,j0.step s1,h2,λv H2 G2 s2 r2=>?_⟩;have r2:=xZ.mp r2;subst r2;cases ho':occurrences z m 0 _ 1 with
   | nil=>rw[ho'] at ho;cases ho
   | cons j r =>rw[ho'] at ho;cases ho;exact⟨z,m,i,r,J,J,ho',k _ _ G2 (!12)<|yW.mpr rfl⟩
  | _=>cases hf
 | _=>cases hf
variable{k:Nat}
theorem zYE:FnOk P w K mg base CX k f fd ps (spL K n λ_=>none) :=
 ⟨λvs H Q E h=>(by obtain⟨_,_,_,_,_,_,z,_⟩:=h;cases z),λA _ s H args us vs Q E _ _ _ _ h=>(by obtain⟨_,_,_,_,_,_,z,_⟩:=h;cases z)⟩
end
def zQf (l:qu)(items:jo)(n:Nat)(b:qu)(items2:jo)(n2:Nat)(sl:_)(hc0:¬(!items.isEmpty&&Builtin.List.listTooLong (items.size+items2.size))=true)(hc1:items.size<=sizeLine)(hs2:items.size+items2.size<=sizeLine+1):Meets (Builtin.«list.extend» ⟨[.ref l,.ref b],[]⟩) (λ_ R s=>s.heap.get? l=some { cls:=.type "list",dict:=none,data:=.seq items n,slots:=#[] }/\s.heap.get? b=some { cls:=.type "list",dict:=none,data:=.seq items2 n2,slots:=sl }/\R (.ok<|.ret Value.none) { s with heap:=s.heap.update l<|Obj.mapSeq λx=>x++items2,toks:=s.toks }) :=
 .of_wp λprog w A R s h=>by
  obtain⟨hp,g⟩:=s;obtain⟨hl,hb,h⟩:=h;have f1:=AutoSeq1.idx_int;have f2:=AutoSeq1.sub_tuple_tuple;have f3:=AutoSeq1.sub_list_list;have f4:=AutoSeq1.sub_tuple_list;have f5:=AutoSeq1.sub_list_tuple;
  wp_walk using (Ij hl J (hz:=hc1)),_ hl,_ hb;exact⟨_,J,h⟩
def zHp (K:jk):V->kl->Hp->VK->Prop:=λx vs H Q=>∃l b xs zs,x = .ref l/\vs=[.ref b]/\H l=some (.lst xs)/\SqL K H b zs/\xs.length+zs.length<=sizeLine/\Q .non (upd H l<|.lst<|xs++zs)
def zIA:MtM X "list.extend"<|zHp X.K:=by
 intro Z s U H x vs v us Q I rx rv h;obtain⟨l,b,xs,zs,rfl,rfl,hH,hB,hz,q⟩:=h;cases rx;obtain⟨u,rfl,ru⟩:=rv.one;cases ru;obtain⟨z,j6,n,r,hl,e⟩:=I.lstM hH;obtain⟨its2,r2,⟨⟨cls,dd,data,sl⟩,n2,e2,hc,hd,ha⟩,z2⟩:=I.list hB;subst hc hd ha;have hl2:=r2.length;have hsz:j6.toArray.size+its2.toArray.size<=sizeLine:=by rw[Qd,Qd];lia
 have hlong:¬(!j6.toArray.isEmpty&&Builtin.List.listTooLong (j6.toArray.size+its2.toArray.size))=true:=by rw[zRn hsz,Bool.and_false];exact Wl
 refine Th F.slot_list_extend ⟨_,e,J⟩ F.entry_list_extend (F.args_list_extend_2 _ _) (zQf l _ n b _ n2 sl hlong jc jc) ⟨e,e2,?_⟩;refine⟨.non,_,I.lset hH e je (r.append r2) ?_,J,q⟩;simp_all
def zHN (i:Nat)(ht:PE X c<|tBM X.K "list" (zHp X.K) (zMM i)<|fY (zLn X.K ga) zW2)(hs:swapsWith c none pos.line X.env=pure false:=by rfl):PFS X (.Expr c pos)<|zVj i ga:=by
 refine PS.to (qH ht hs) ?_
 sleep 2
 obtain⟨es,h1,hf⟩:=k8 hf;split at hf
 .rename_i ds hi;split at hf
  .rename_i hl;cases hf;obtain⟨p,vs,e1,e2,e3⟩:=j0.addr hi;refine⟨.ref p,e1,.inl ⟨J,vs,.of e2⟩,G0,H0,G,O,es,j0,h1,λq ws H1 G1 s1 sq rs=>?_⟩;have good1:=j0.step s1;obtain⟨p',vs',f1,f2,f3,f4,f5⟩:=good1.addr hi;rw[e1] at f1;cases f1;exact⟨p,q,vs',ws,J,J,f2,s1.sub.seq sq,by rw[<-f5.length,<-rs.length];exact Wa<|wN hl,k U _ G1 s1.gg<|good1.wr hi e1<|f5.append rs⟩
  .simp_all
 .simp_all
end L2
namespace L2
section
variable{E:jl}
def zVd (a d:qv):argsOk "max" ⟨[a],[("default",d)]⟩:=by unfold argsOk;kernel_rfl
def zIM {d:qv}(hh:A.handled=none)(hl:s.heap.IsList l #[])(h:∀h' tk,(∀b o,s.heap.get? b=some o->h'.get? b=some o)->Q d (!31)):wpAny (!9) A (call (.builtin "max") [.ref l] [("default",d)]) Q E s:=by
 refine iN F.kind_max F.plain_max F.entry_max (zVd _ _)<|Qw<|wpAny_of_eq (rfl)<|Qw<|Qi<|Qw<|Tg hl<|Qw<|Rp ?_;have hne:l≠s.heap.objs.size:=by obtain⟨_,e,_⟩:=hl;exact Wy<|Qa e
 refine Qi ⟨Tj F.plain_max_loop _,Rg F.entry_max_loop<|Qw<|Ro (Qs _ J) rfl<|Qw<|Ug<|(Walks.list (prog:=prog) (w:=w) (A:=A.in1) hh _ l hne #[]).done _ _ _ ⟨⟨_,Qe _<|Qs _ rfl,rfl,rfl⟩,(hl.push _).push _⟩ λh' tk hk=>Qw<|Yv<|Qi<|h h' tk λb o e=>hk b o ?_<|Qe _<|Qe _ e⟩;intro hm;rcases v4 hm with z | z
 .exact absurd (z ▸ Qa e) (Wx _)
 .cases z
def tD (val:Nat->Int):Nat->Int
 | 0=>val 0
 | k+1=>if val (k+1) > tD val k then val (k+1) else tD val k
variable{I:qu}{wr:ko}{P:Nat->qv->Prop}{St:Nat->qx->Prop}
def zHY {a b:Int}{t u:Tok}{E:jl}(h:Q (.bool (decide (a > b))) s):wpAny (!9) A (richCompare .Gt (.int a t)<|.int b u) Q E s :=
 CmpOf.ints_gt (P:=λi v=>∃t,v = .int (if i=0 then a else b) t) _ (λ_ _ h=>h) 0 1 _ _ s Q E ⟨t,rfl⟩ ⟨u,rfl⟩ h
def zN8 (W:Walks prog w A.in1 I fp wr n P St)(val:Nat->Int)(hv:∀i v,P i v->∃t,v = .int (val i) t)(d:qv)(S:qu)(hSf:S∉fp):∀(k j:Nat) (s:qw) (t:Tok) (c:Nat),n - (j+1)=k->j+1<=n->St (j+1) s.heap -> s.heap.get? S=some { cls:=.type "list",dict:=none,data:=.seq #[.int (tD val j) t,.int (tD val j) t] c,slots:=#[] } -> (∀t' h' tk,(∀b o,b∉wr->b≠S->s.heap.get? b=some o->h'.get? b=some o)->R (.ok<|.ret<|.int (tD val<|n - 1) t') (!31)) -> codeAny (!9) A (.builtin "max.loop" ⟨[.ref I,.none,.ref S],[("default",d)]⟩) R s:=by
 have hSw:S∉wr:=λh=>hSf<|W.sub _ h;intro k;induction k with
 | zero =>intro j s t c hk hj hst hS hR;have hin:j+1=n:=jc;refine Rg F.entry_max_loop<|Qw<|Ro hS rfl<|Qw<|Ug<|W.done s _ _ (hin ▸ hst) λh' tk hk'=>?_;have hS':=hk' S _ hSw hS;refine Qw<|Ij hS' rfl<|Qw<|Uw<|Qi ?_;rw[<-hin] at hR;exact hR t _ tk λb o hbw hbS e=>(Rj _ _<|Ne.symm hbS).trans<|hk' b o hbw e
 | succ k ih =>
  intro j s t c hk hj hst hS hR;have hlt:j+1 < n:=jc;refine Rg F.entry_max_loop<|Qw<|Ro hS rfl<|Qw<|Ug<|W.item (j+1) s _ _ hlt hst λv h' tk hP hst' hk'=>?_;obtain⟨tv,rfl⟩:=hv _ _ hP;have hS':=hk' S _ hSw hS;show wpAny _ _ (tryCatch (holding _<|richCompare .Gt _ _ >>= _) _ >>= _) _ _ _;refine Qw<|Ug<|Ru<|Qw<|zHY<|Qw<|Ru<|Ev<|Qw<|Uw<|Qi ?_
  by_cases hb:val (j+1) > tD val j
  .rw[Qc hb];refine Qw<|Ij hS' rfl<|Qw<|Uw ?_;have em:tD val (j+1)=val (j+1):=by rw[tD,Qh hb]
   exact Qi ⟨Tj F.plain_max_loop _,ih (j+1) _ tv _ jc hlt (W.frame _ _ _ hst' λb hbf o e=>((Rj _ _ λh:S=b=>hSf (by rw[h];exact hbf)).trans e)) (by rw[em];exact Rc _ hS' J) λt' h'' tk'' hk''=>hR t' h'' tk'' λb o hbw hbS e=>hk'' b o hbw hbS<|(Rj _ _<|Ne.symm hbS).trans<|hk' b o hbw e⟩
  .rw[Qn hb];refine Qw<|Uw ?_;have em:tD val (j+1)=tD val j:=by rw[tD,Qv hb]
   exact Qi ⟨Tj F.plain_max_loop _,ih (j+1) _ t c jc hlt hst' (by rw[em];exact hS') λt' h'' tk'' hk''=>hR t' h'' tk'' λb o hbw hbS e=>hk'' b o hbw hbS<|hk' b o hbw e⟩
def zLh {d:qv}{xs:Array<|Int×Tok}(hh:A.handled=none)(hl:s.heap.IsList l<|intItems xs)(hn:0 < xs.size)(h:∀t h' tk,(∀b o,s.heap.get? b=some o->h'.get? b=some o)->Q (.int (tD (numAt xs)<|xs.size - 1) t) (!31)):wpAny (!9) A (call (.builtin "max") [.ref l] [("default",d)]) Q E s:=by
 refine iN F.kind_max F.plain_max F.entry_max (zVd _ _)<|Qw<|wpAny_of_eq (show Builtin.Builtins.bindParams "max" ["key","default"] 0 ⟨[],[("default",d)]⟩=pure [none,some d] from rfl)<|Qw<|Qi<|Qw<|Tg hl<|Qw<|Rp ?_;have hne:l≠s.heap.objs.size:=by obtain⟨_,e,_⟩:=hl;exact Wy<|Qa e
 have hsz:(intItems xs).size=xs.size:=by simp[intItems]
 have W:=Walks.list (prog:=prog) (w:=w) (A:=A.in1) hh _ l hne<|intItems xs;have hll:l < s.heap.objs.size:=by obtain⟨_,e,_⟩:=hl;exact Qa e
 refine Qi ⟨Tj F.plain_max_loop _,Rg F.entry_max_loop<|Qw<|Ro (Qs _ J) rfl ?_⟩;have hps:(s.heap.push { cls:=.type "list_iterator",data:=.fields #[.ref l,.int 0 0] }).objs.size=_+1:=Ri _ _;refine Qw<|Ug<|W.item 0 _ _ _ (by rw[hsz];exact hn) ⟨⟨_,Qe _<|Qs _ rfl,rfl,rfl⟩,(hl.push _).push _⟩ λv h' tk hP hst' hk'=>?_;obtain⟨tv,rfl⟩:=Pf hP;have hSw:(s.heap.push { cls:=.type "list_iterator",data:=.fields #[.ref l,.int 0 0] }).objs.size∉[s.heap.objs.size]:=λhm=>by rw[Qb] at hm;lia
 have hS':=hk' _ _ hSw<|Qs _ rfl;show wpAny _ _ (updateSeq _ (λ_=>#[.int (numAt xs 0) tv,.int (numAt xs 0) tv]) >>= _) _ _ _;refine Qw<|Ij hS' rfl ?_;have hSf:(s.heap.push { cls:=.type "list_iterator",data:=.fields #[.ref l,.int 0 0] }).objs.size∉[s.heap.objs.size,l]:=λhm=>by
  rcases v4 hm with z | z
  .simp_all
  .rw[Qb,hps] at z;rw[<-z] at hll;exact absurd hll<|Ib.mpr<|Yb _
 refine Qi ⟨Tj F.plain_max_loop _,zN8 W (numAt xs) (λi v h=>Pf h) d _ hSf _ 0 _ tv _ J (by rw[hsz];exact hn) (W.frame _ _ _ hst' λb hbf o e=>((Rj _ _ λz=>hSf (by rw[z];exact hbf)).trans e)) (Rc _ hS' J) λt' h'' tk'' hk''=>?_⟩
 .rw[hsz];refine h t' h'' tk'' λb o e=>?_;have hlt:=Qa e;have n1:b∉[s.heap.objs.size]:=λhm=>by rw[Qb] at hm;rw[hm] at hlt;exact Wx _ hlt
  have n2:b≠(s.heap.push { cls:=.type "list_iterator",data:=.fields #[.ref l,.int 0 0] }).objs.size:=λz=>by rw[hps] at z;rw[z] at hlt;exact absurd hlt<|Ib.mpr<|Yb _
  exact hk'' b o n1 n2<|(Rj _ _<|Ne.symm n2).trans<|hk' b o n1<|Qe _<|Qe _ e
def aA (ns:ki):Int:=tD (λi=>ns.getD i 0)<|ns.length - 1
def zNP (g:Lf):Ef:=λO=>(g O).bind λds=>(zUF ds).bind λns=>if ns.isEmpty=true then some .non else some (.int<|aA ns)
def zHP {kp:Pos}{j}(hc:!23)(hg:Gl X "max")(hm:X.mg "max"=none)(h:zP6 X a ga)(hs:!34:=by rfl):PF X (.Call (.Name "max" p) [a] [⟨some "default",.Constant .none j p2,kp⟩] pos)<|zNP ga:=by
 refine PE.to (t:=λU H Q=>zLn X.K ga U H λv H1=>∃q ns,v = .ref q/\SqL X.K H1 q (ns.map V.int)/\Q (if ns.isEmpty=true then .non else .int (aA ns)) H1) ?_ ?_
 .refine λZ s U H Q I h0=>Re<|iQ I hg hm (u:=.builtin "max") jg (callWith_kw (spliced_more (thn (h Z s U H _ I h0) λu s1 ⟨v,H1,I1,rv,q,ns,e,sq,q1⟩=>?_) (by rw[hs];rfl)) (by rw[hs];rfl) (by rw[hs];rfl) jg jg) jb jb;subst e;cases rv;refine spliced_none<|kws_cons<|thn (zJY (X:=X) (j:=j) (pos:=p2) Z s1 U H1 _ I1<|show tC .non U H1 (λv H2=>v = .non/\H2=H1) from⟨rfl,rfl⟩) λu2 s2 ⟨v2,H2,I2,rv2,e2,e3⟩=>?_;subst e2 e3;cases rv2;refine kws_nil ?_;obtain⟨j6,rl,pl,_⟩:=I2.list sq;cases ns with
  | nil =>cases rl;exact zIM (I2.ok.hd hc) pl.isList λh' tk hk=>⟨.non,H2,I2.kept hk,J,q1⟩
  | cons x r =>
   obtain⟨ps,rfl,hps⟩:=zU8 rl;have hit:s2.heap.IsList q<|intItems ps.toArray:=by have:=pl.isList;unfold intItems;simp_all
   have j5:ps.length=r.length+1:=by have:=Wi List.length hps;simpa using this
   have hnum:(λi=>numAt ps.toArray i)=λi=>(x::r).getD i 0:=by funext i;rw[<-hps];unfold numAt;rw[List.getElem?_toArray,Ei,Eu]
   refine zLh (I2.ok.hd hc) hit (by simp[j5]) λt h' tk hk=>⟨.int _,H2,I2.kept hk,⟨t,J⟩,?_⟩
   have e:tD (numAt ps.toArray) (ps.toArray.size - 1)=aA (x::r):=by unfold aA;rw[<-hnum,Qd,j5,Qk]
   rw[e];exact q1
 .sleep 1
  obtain⟨ds,h1,hf⟩:=k8 hf;obtain⟨ns,h2,hf⟩:=k8 hf;refine⟨G0,H0,G,O,ds,j0,h1,λq vs H1 G1 s1 e1 r1=>⟨q,ns,J,by rw[<-zUM h2 r1];exact s1.sub.seq e1,?_⟩⟩;split at hf
  .rename_i he;cases hf;rw[Qh he];exact k _ _ G1 s1<|sQ.mpr rfl
  .rename_i he;cases hf;rw[Qv he];exact k _ _ G1 s1<|yW.mpr rfl
end
def zE4 (K:jk)(C:qu)(ns:kh)(g:Lf):TS:=λDD U H=>∃(G0 H0 G:Hp) (O:kj) (p dx:qu) (pre:kh) (us:kl) (xs ds:kd),
 Good K G0 H0 G H U O/\NoOw O/\U[0]?=some (some<|.ref p)/\H p=some (.ins C dx<|pre.zip us)/\G p=none/\H0 p=none/\pre.length=us.length/\(pre++ns).Nodup/\(pre++ns).length<=900/\Reps K G xs us/\g O=some ds /\
 ∀U' H' G' vs,Step G0 H0 G' H'->H' p=some (.ins C dx<|(pre++ns).zip vs)->G' p=none->Reps K G' (xs++ds) vs->DD.nx U' H'
section
def zIn (i:Nat){g:Lf}{rest:qg}(hN:X.N.Nodup)(he:PF X e fa)(hr:PSs X rest<|zKr X.K C ns g)(hi0:0≠i:=by decide)(hi:X.N[i]?=some y:=by rfl)(hx:Loc X.env.scope y:=by exact o0)(hs:swapsWith e (some<|.Name y pos') pos.line X.env=pure false:=by rfl) (hf:X.fn y=true\/X.env.scope.names.lookup y=some .local:=by exact o0):PSs X (.Assign [.Name y pos'] e pos::rest)<|zE4 X.K C ns λO=>(fa O).bind λd=>g<|O.set i<|.fz d:=by refineλZ s U H D I h=>tY (aG hN hi hx he hs hf) hr Z s U H D I ?_;obtain⟨G0,H0,G,O,p,dx,pre,us,xs,ds,j0,now,hself,hp,gp,h0,hl,nd,hz,rs,hg,k⟩:=h;obtain⟨d,h1,h2⟩:=k8 hg;refine⟨G0,H0,G,O,d,j0,h1,λv H1 G1 s1 r1=>?_⟩;have gp1:G1 p=none:=(s1.new p _ hp J).trans gp;refine⟨G0,H0,G1,O.set i<|.fz d,p,dx,pre,us,xs,ds,(j0.step s1).setF i r1,zRy now i d,?_,s1.hh _ _ hp,gp1,h0,hl,nd,hz,rs.mono s1.gg,h2,λH' G' vs st q1 q2 q3=>k _ H' G' vs st q1 q2 q3⟩;rw[Wv<|Ne.symm hi0];exact hself
variable{k:Nat}
def zJ1 {g:Lf}(F:Fun K x qual st f fd)(S:FnScope N (sf::ps)<|zV st)(hnd:ns.Nodup)(j5:ns.length<=900)(hb:∀(j9:qv) (A:qy) (outer:qb) (s:qw) (H:Hp) (E:XK),Room k (!35)->PSs (qP CX0 P w K mg base N qual (zV st) f j9 A outer s H E).nox (xI st) (zE4 K C ns g)):FnOk P w K mg base CX0 (k+1) f fd (sf::ps)<|spI K C ns ps.length λds=>g<|kD N.length ds:=by
 refine F.ok S (λvs H Q E h=>?_) λj9 A _ s H vs Q E hr h=>⟨_,hb j9 A _ s H E hr,?_⟩
 .obtain⟨p,dx,rest,G,H0,ds,xs,rfl,_,_,_,_,_,rs,hl,_⟩:=h;rw[Qk,Qk,<-rs.length,hl]
 .obtain⟨p,dx,rest,G,H0,ds,xs,rfl,rfl,h1,h2,h3,sub,rs,hl,hf,k⟩:=h;have hne:p≠dx:=h3.symm;have hp1:(upd H0 dx<|.own p) p=none:=by rw[zD hne];exact h1
  have st1:Step G H0 G<|upd H0 dx<|.own p:=Step.own sub h2;have st2:Step G H0 G<|upd (upd H0 dx<|.own p) p<|.ins C dx []:=st1.trans<|Step.own st1.sub hp1;have j0:Good K G H0 G (upd (upd H0 dx<|.own p) p<|.ins C dx []) (oN N<|.ref p::rest)<|kD N.length ds:=by refine⟨st2,?_,(zXO _ ds).apart⟩;unfold oN kD;rw[Qx,Qk,List.cons_append,<-rs.length];exact .cons .no<|jX _ rs
  refine⟨G,H0,G,_,p,dx,[],[],[],xs,j0,zXO _ ds,J,zH,sub.free h1,h1,J,hnd,j5,yX.mpr J,hf,λU' H' G' us s' q1 q2 q3=>k H' G' us s' q1 q2 q3⟩
end
def jW {c:Str}{k:Nat}{d:jz}(hC:ClsAt X.K c C)(hcl:Cls X.K C)(hm:Meth X.K C m fad)(F:FnOk X.prog X.w X.K X.mg X.base CX0 k fad fd ps (spF X.K n d))(hr:Room k X.A)(hb:Binds X.K fd ps [])(ho:PF X o fa) (ha:PFA X (e::es) ga)(hst:!24:=by rfl) (hpl:(backTo cpos (!26)).any (·.1)=false:=by rfl)(ht:eval (.Call (!32) (e::es) [] cpos) X.env=(do
   let ov <-eval o X.env
   standAt apos.atName
   let (f,first) <-holding [ov] (getMethod ov m pl)
   callWith cpos f first (backTo cpos<|starEach (e::es) X.env) (!36)):=by rfl) :
  PF X (.Call (!32) (e::es) [] cpos) (oO c m n d fa ga):=by
 refine PE.to (cX ho hcl hm F hr hb .nil jO ha hst hpl ht) ?_;rintro U H Q ⟨G0,H0,G,O,r,j0,hf,kk⟩;obtain⟨x,h1,hf1⟩:=k8 hf;obtain⟨ds,h2,hf2⟩:=k8 hf1;clear hf hf1;cases x with
 | obj c' ns xs =>
  dsimp only at hf2;split at hf2
  .rename_i hq;obtain⟨rfl,hl,hmn⟩:=hq
   sleep 4
   obtain⟨C',q,dx,vs,r2,rfl,r3,r4⟩:=sO.mp r1;have ec:=hC.one r2;subst ec;refine⟨q,dx,_,J,s1.sub _ _ r3,xN hmn,⟨G0,H0,G1,O,ds,j0.step s1,h2,λus H2 G2 s2 rs=>?_⟩⟩;show spF X.K n d (.ref q::_) H2 _ E0;rw[Wf];exact⟨G2,.obj c' ns xs::ds,r,s2.sub,zP.mpr ⟨_,_,J,r1.mono s2.gg,rs⟩,hl,hf2,λv H' G' st rr=>kk v H' G' ((!12).trans st) rr⟩
  .simp_all
 | _=>cases hf2
def pG (c m:Str)(n:Nat)(d:kd->ka)(fa:Ef)(g:Lf):Lf:=λO=>(fa O).bind λx=>(g O).bind λds=>match x with
 | .obj c' ns _=>if c'=c/\ds.length+1=n/\m∉ns then d (x::ds) else none
 | _=>none
def zWr {c:Str}{k:Nat}(hC:ClsAt X.K c C)(hcl:Cls X.K C)(hm:Meth X.K C m fad)(F:FnOk X.prog X.w X.K X.mg X.base CX0 k fad fd ps (spL X.K n d))(hr:Room k X.A)(hb:Binds X.K fd ps [])(ho:PF X o fa) (ha:PFA X (e::es) ga)(hst:!24:=by rfl) (hpl:(backTo cpos (!26)).any (·.1)=false:=by rfl)(ht:eval (.Call (!32) (e::es) [] cpos) X.env=(do
   let ov <-eval o X.env
   standAt apos.atName
   let (f,first) <-holding [ov] (getMethod ov m pl)
   callWith cpos f first (backTo cpos<|starEach (e::es) X.env) (!36)):=by rfl) :
  PFr X (.Call (!32) (e::es) [] cpos) (pG c m n d fa ga):=by
 refine PE.toR (cX ho hcl hm F hr hb .nil jO ha hst hpl ht) ?_;rintro U H Q ⟨G0,H0,G,O,r,j0,hf,kk⟩;obtain⟨x,h1,hf1⟩:=k8 hf;obtain⟨ds,h2,hf2⟩:=k8 hf1;clear hf hf1;cases x with
 | obj c' ns xs =>
  dsimp only at hf2;split at hf2
  .rename_i hq;obtain⟨rfl,hl,hmn⟩:=hq
   sleep 4
   obtain⟨C',q,dx,vs,r2,rfl,r3,r4⟩:=sO.mp r1;have ec:=hC.one r2;subst ec;refine⟨q,dx,_,J,s1.sub _ _ r3,xN hmn,⟨G0,H0,G1,O,ds,j0.step s1,h2,λus H2 G2 s2 rs=>?_⟩⟩;show spL X.K n d (.ref q::_) H2 _ E0;rw[Wf];have s12:=s1.trans s2;exact⟨G2,.obj c' ns xs::ds,r,s2.sub,zP.mpr ⟨_,_,J,r1.mono s2.gg,rs⟩,hl,hf2,λp us H' G' st hn hp gp rr=>kk p us H' G' (s12.trans st) (s12.hh.free hn) hp gp rr⟩
  .simp_all
 | _=>cases hf2
def zRj {c:Str}{k:Nat}(hC:ClsAt X.K c C)(hcl:Cls X.K C)(hm:Meth X.K C m fad)(F:FnOk X.prog X.w X.K X.mg X.base CX0 k fad fd ps (spL X.K n d))(hr:Room k X.A)(hb:Binds X.K fd ps [])(ho:PF X o fa)(ht:eval (.Call (!32) [] [] cpos) X.env=(do
   let ov <-eval o X.env
   standAt apos.atName
   let (f,first) <-holding [ov] (getMethod ov m pl)
   callWith cpos f first (backTo cpos<|starEach [] X.env) (!36)):=by rfl) :
  PFr X (.Call (!32) [] [] cpos) (pG c m n d fa zS):=by
 refine PE.toR (zJV ho hcl hm F hr hb .nil jO ht) ?_;rintro U H Q ⟨G0,H0,G,O,r,j0,hf,kk⟩;obtain⟨x,h1,hf1⟩:=k8 hf;obtain⟨ds,h2,hf2⟩:=k8 hf1;clear hf hf1;cases h2;cases x with
 | obj c' ns xs =>
  dsimp only at hf2;split at hf2
  .rename_i hq;obtain⟨rfl,hl,hmn⟩:=hq
   sleep 4
   obtain⟨C',q,dx,vs,r2,rfl,r3,r4⟩:=sO.mp r1;have ec:=hC.one r2;subst ec;exact⟨q,dx,_,J,s1.sub _ _ r3,xN hmn,⟨G1,[.obj c' ns xs],r,s1.sub,zP.mpr ⟨_,_,J,r1,yX.mpr J⟩,hl,hf2,λp us H' G' st hn hp gp rr=>kk p us H' G' (s1.trans st) (s1.hh.free hn) hp gp rr⟩⟩
  .simp_all
 | _=>cases hf2
def dG {c:Str}{k:Nat}{d:jz}(hC:ClsAt X.K c C)(hcl:Cls X.K C)(hm:Meth X.K C m fad)(F:FnOk X.prog X.w X.K X.mg X.base (CXq X.prog X.w) k fad fd ps (spQ X.K n d xf))(hp:oU (CXq X.prog X.w) X E)(hr:Room k X.A)(hb:Binds X.K fd ps [])(ho:PF X o fa) (ha:PFA X (e::es) ga)(hst:!24:=by rfl) (hpl:(backTo cpos (!26)).any (·.1)=false:=by rfl)(ht:eval (.Call (!32) (e::es) [] cpos) X.env=(do
   let ov <-eval o X.env
   standAt apos.atName
   let (f,first) <-holding [ov] (getMethod ov m pl)
   callWith cpos f first (backTo cpos<|starEach (e::es) X.env) (!36)):=by rfl) :
  PXE X E (.Call (!32) (e::es) [] cpos) (pX c m n xf fa ga):=by
 intro Z s U H Q I h;obtain⟨G0,H0,G,O,cc,CC,j0,hf,hCC,kk⟩:=h;obtain⟨x,h1,hf1⟩:=k8 hf;obtain⟨ds,h2,hf2⟩:=k8 hf1;clear hf hf1;cases x with
 | obj c' ns xs =>
  dsimp only at hf2;split at hf2
  .rename_i hq;obtain⟨rfl,hl,hmn⟩:=hq;refine cX ho hcl hm F hr hb .nil hp ha hst hpl ht Z s U H Q I ⟨G0,H0,G,O,_,j0,h1,λv H1 G1 s1 r1=>?_⟩;obtain⟨C',q,dx,vs,r2,rfl,r3,r4⟩:=sO.mp r1;have ec:=hC.one r2;subst ec;refine⟨q,dx,_,J,s1.sub _ _ r3,xN hmn,⟨G0,H0,G1,O,ds,j0.step s1,h2,λus H2 G2 s2 rs=>?_⟩⟩;show spQ X.K n d xf _ H2 _ E;rw[Wf];exact⟨G2,.obj c' ns xs::ds,s2.sub,zP.mpr ⟨_,_,J,r1.mono s2.gg,rs⟩,hl,.inr ⟨cc,CC,hf2,hCC,λH' G' st=>kk H' G'<|(!12).trans st⟩⟩
  .simp_all
 | _=>cases hf2
def zPd {b:r8}(hg:Gl X "zip")(hm:X.mg "zip"=none)(ha:!10)(hb:PF X b fb)(hs:starEach [a,b] X.env=[(false,eval a X.env),(false,eval b X.env)]:=by rfl)(hs2:starEach [b] X.env=[(false,eval b X.env)]:=by rfl):PFI X tg (.Call (.Name "zip" p) [a,b] [] pos)<|zWR fa fb:=zT8 hg hm ha hb hs hs2
end L2
variable{l:ki}{f:ko->D->kd->qc}{d:D}
namespace L2
open PySem.Builtin PySem.Builtin.Str
theorem zUa:∀l:List<|Str×Tok,Vals ((l.map (·.1)).map V.str)<|strValues l
 | []=>.nil
 | (x,t)::r=>.cons ⟨t,J⟩<|zUa r
def zLV:V->kl->Hp->VK->Prop:=λx vs H Q=>∃z y,x = .str z/\vs=[.str y]/\1<=y.length/\z.length<=100000/\∀p,H p=none->Q (.ref p) (upd H p<|.lst<|(Txt.split z y).map V.str)
def zK5:MtR X "str.split" zLV:=by
 intro Z s U H x xs v us Q I rx rv h;obtain⟨z,y,rfl,rfl,hy1,hz,q⟩:=h;obtain⟨t,rfl⟩:=rx;obtain⟨w,rfl,u,rfl⟩:=rv.one;have hy:(y.length==0)=false:=by rw[Tw];lia
 have j5:=split_le z y;have go:∀(l:List _) (k),l.map (·.1)=Txt.split z y->EP X Z U Q (.ref s.heap.objs.size) { s with toks:=k,heap:=s.heap.push { cls:=.type "list",data:=.seq (strValues l).toArray } }:=by exactλl k hl=>⟨.ref s.heap.objs.size,_,I.laid (o:=.lst _) (λb o e=>Qe _ e) (Qg _) ⟨by rw[Qy,Wk];lia,_,_,by rw[<-hl];exact zUa l,Qs _ J⟩,J,q _ I.fresh⟩
 have hn:(partsBetween z (occurrences z y 0 z.length<|z.length+1) y.length).length<=sizeLine:=by have e1:=StrLaws.occ_length_le z y 0 z.length<|z.length+1;rw[length_partsBetween,Wk];lia
 cases h1:(decide (z.length < _)||decide (strKind z < strKind y))
 .cases hf:(occurrences z y 0 _ _).isEmpty
  .refine Th F.slot_str_split (Ic _ _ _) F.entry_str_split (F.args_str_split_2 _ _) (meets_str_split_sep z y t u h1 hy hf (by rw[Wk];lia) hn) ?_;rw[strsFrom_eq];exact go _ _<|(numbered_texts _ _).trans ((Qv<|Op h1).trans<|Qv<|Op hf).symm
  .exact Th F.slot_str_split (Ic _ _ _) F.entry_str_split (F.args_str_split_2 _ _) (meets_str_split_not_found z y t u h1 hy hf) (go [(z,t)] _ ((Qv<|Op h1).trans<|Qh hf).symm)
 .exact Th F.slot_str_split (Ic _ _ _) F.entry_str_split (F.args_str_split_2 _ _) (meets_str_split_cannot_occur z y t u h1) (go [(z,t)] _ (Qh h1).symm)
theorem zTZ {K:jk}{G:Hp}:∀ys:kh,Reps K G (ys.map D.str)<|ys.map V.str
 | []=>by rw[Ov,Ov,yX]
 | y::r=>by rw[Qx];exact zP.mpr ⟨_,_,J,xZ.mpr J,zTZ r⟩
def zJW (x y:D):ka:=match x,y with | .str z,.str m=>if 1<=m.length/\z.length<=100000 then some ((Txt.split z m).map D.str) else none | _,_=>none
def zKN (fa fb:Ef):Lf:=λO=>(fa O).bind λx=>(fb O).bind λy=>zJW x y
def zJp (ht:PE X c<|tBM X.K "str" zLV (tF X.K fa)<|fY (tF X.K fb) zW2):PFr X c<|zKN fa fb:=by
 refine PE.toR ht ?_
 sleep 3
 obtain⟨y,h2,hf⟩:=k8 hf;unfold zJW at hf;split at hf
 .split at hf
  .rename_i hz;cases hf;refine⟨G0,H0,G,O,_,j0,h1,λu H1 G1 s1 r1=>?_⟩;subst r1;refine⟨J,G0,H0,G1,O,_,j0.step s1,h2,λv H2 G2 s2 r2=>?_⟩;subst r2;exact⟨_,_,J,J,hz.1,hz.2,λl hl=>k l _ _ G2 ((!12).trans<|Step.own s2.sub hl) ((!12).hh.free hl) zH (s2.sub.free hl)<|zTZ _⟩
  .simp_all
 .simp_all
end L2
namespace L2
abbrev prS (z:Str):Int×Str:=(0,z)
def zVz:qj->Option kh
 | []=>some []
 | .inr z::r=>(zVz r).map (z::·)
 | _=>none
theorem zNS:∀ {ks:qj} {ss:kh},zVz ks=some ss->ks=ss.map .inr
 | [],_,h=>by cases h;rfl
 | .inr z::r,ss,h=>by unfold zVz at h;obtain⟨qs,h2,rfl⟩:=k9 h;rw[zNS h2];rfl
 | .inl _::_,_,h=>by unfold zVz at h;cases h
theorem zR5:∀ss:kh,zVz (ss.map .inr)=some ss
 | []=>rfl
 | z::r=>by rw[Qx];unfold zVz;rw[zR5 r];rfl
def uH (ss:kh):kh:=(iF<|ss.map prS).map (·.2)
def bG (fd:Ef):Lf:=λO=>(fd O).bind λd=>match d with | .dct ks _=>(zVz ks).bind λss=>if ss.length < 64 then some ((uH ss).map .str) else none | _=>none
def zQr (h:StrsAre us ss)(hi:i < us.length):∃t,us.getD i Value.none = .str (ss.getD i ⟨#[]⟩) t:=by
 induction h generalizing i with
 | nil=>simp at hi
 | cons x t h ih =>
  cases i with
  | zero=>exact⟨t,J⟩
  | succ i=>obtain⟨t',e⟩:=ih (i:=i) (by simpa using hi);exact⟨t',by simpa using e⟩
def zRw (h:StrsAre us ss):us.length=ss.length:=by
 induction h with
 | nil=>rfl
 | cons x t h ih=>simp[ih]
def zLp (hp:StrsAre us ss)(h2:2<=us.length):∃κ,(∀(E':jl) Q,Q κ s->wpAny (model P w) A (keyKind' us.toArray) Q E' s) /\ ∀i j C,i < us.length->j < us.length->C (ltP (ss.map prS) i j) s->kas_ask P w A κ us i j C s:=by
 refine⟨oneType',λE' Q hQ=>?_,λi j C hi hj hC=>?_⟩
 .match us,h2,hp with
  | v1::v2::r,_,hp=>rw[keyKind_strs hp];exact Qi hQ
 .obtain⟨t,e⟩:=zQr hp hi;obtain⟨t',e'⟩:=zQr hp hj;unfold kas_ask;rw[e,e'];refine kas_lt_str ?_;have hl:=zRw hp;have e3:ltP (ss.map prS) i j=decide ((ss.getD i ⟨#[]⟩).cps.toList < (ss.getD j ⟨#[]⟩).cps.toList):=by
   have g:∀k,k < ss.length->(ss.map prS).getD k isZ=(0,ss.getD k ⟨#[]⟩):=λk hk=>by simp[hk]
   unfold ltP;rw[g i jc,g j jc];unfold xH;simp
  rw[e3] at hC;exact hC
def zQy (hc:!23):CallR X (.builtin "sorted") (λxs H Q=>∃(q:qu) (j8:List<|Key×V) (ss:kh),xs=[V.ref q]/\Rd H q (.dK j8)/\j8.map (·.1)=ss.map .inr/\ss.length < 64 /\ ∀l,H l=none->Q (.ref l) (upd H l<|.lst<|(uH ss).map .str)):=by
 intro Z s U H xs us Q I r h;obtain⟨q,j8,ss,rfl,hq,hk,h64,k⟩:=h;obtain⟨u,rfl,ru⟩:=jM r;cases ru;obtain⟨z,hd,vs,rel,o,es,ep,ho,hx,hdat,_,he,hn⟩:=zXt I.hok hq;have hkeys:StrsAre (es.toList.map (·.key)) ss:=by
  have hk2:vs.map (·.1)=ss.map .inr:=by rw[<-rel.keys];exact hk
  clear hk rel ho hx hdat hn hq z k h64
  revert he
  generalize es.toList=el;intro he;induction he generalizing ss with
  | nil =>
   cases ss with
   | nil=>exact .nil
   | cons _ _=>cases hk2
  | @cons e kv es' vs' h1 _ t ih =>
   cases ss with
   | nil=>cases hk2
   | cons y r =>
    rw[Qx,Qx] at hk2;injection hk2 with e1 e2
    rw[e1,zQk] at h1;rcases wA h1 with⟨_,_,w,_⟩ | ⟨x,t',w,w2⟩
    .cases w
    .cases w;rw[Qx,w2];exact .cons _ _<|ih r e2
 have hl:=zRw hkeys;have hz:es.size=ss.length:=by rw[<-hl];simp
 refine zUh (lt:=ltP<|ss.map prS) (zSD λi=>(ss.map prS).getD i isZ) (I.ok.hd hc) ⟨o,ho,hx,hdat⟩ hd jc (λh2 h' tk kp=>?_) λh1 h' tk n k1 k2 hn'=>?_
 .have:=zLp (P:=X.prog) (w:=X.w) (A:=X.A.in1.in1) (s:=(!31)) hkeys (by rw[hl,<-hz];exact h2);rw[hl,<-hz] at this;exact this
 .have I1:Inv X Z U H { s with heap:=h1,toks:=tk }:=I.kept k1;have fr:H h1.objs.size=none:=I1.hok.fresh<|Qg _;rw[hz] at hn';have hpm:=jK<|ss.map prS;rw[Qy] at hpm;have hle:(zWJ<|ss.map prS)=vI (ltP<|ss.map prS) ss.length:=by unfold zWJ;rw[Qy]
  have vals:Vals ((uH ss).map .str) ((vI (ltP<|ss.map prS) ss.length).map λi=>(es.toList.map (·.key)).getD i Value.none):=by
   rw[<-hle];unfold uH iF;rw[Wj,Wj];have key:∀l:kz,(∀i∈l,i < ss.length)->Vals (l.map<|V.str ∘ ((λx=>x.2) ∘ λi=>(ss.map prS).getD i isZ)) (l.map λi=>(es.toList.map (·.key)).getD i Value.none):=by
    intro l;induction l with
    | nil=>intro _;exact .nil
    | cons i r ih =>intro hh;refine .cons ?_ (ih λj hj=>hh j<|by simp[hj]);have hi:i < ss.length:=hh i je;obtain⟨t,e⟩:=zQr hkeys (i:=i) (by rw[hl];exact hi);refine⟨t,e.trans ?_⟩;simp[hi]
   exact key _ λi hi=>by simpa using hpm.subset hi
  have I2:=I1.laid (t':=tk) (h':=h') (a:=h1.objs.size) (o:=.lst<|(uH ss).map .str) k2 (Qg _) ⟨by unfold uH iF;rw[Qy,Qy,Qy,hpm.length_eq,Tz];exact Wa<|wN (by show ss.length<=100000;lia),_,n,vals,by simpa [seqObj] using hn'⟩;exact⟨.ref _,_,I2,J,k _ fr⟩
def zSt (hc:!23)(hg:Gl X "sorted")(hm:X.mg "sorted"=none)(h:!10)(hs:!34:=by rfl):PFr X (.Call (.Name "sorted" p) [a] [] pos)<|bG fa:=by
 refine PE.toR (vB (zQy hc) hg hm jg (yS h yF (by rw[hs];rfl)) jb jb (by rw[hs];rfl) jg) ?_;rintro U H Q ⟨G0,H0,G,O,ds',j0,hf,k⟩;unfold bG at hf;obtain⟨d,h1,hf⟩:=k8 hf;cases d with
 | dct ks ds =>
  obtain⟨ss,h2,hf⟩:=k8<|show(zVz ks).bind _=some ds' from hf;split at hf
  .rename_i h64;cases hf
   sleep 4
   obtain⟨q,vs,rfl,e1,e2,e3⟩:=zPv s1.sub r1;refine⟨q,_,ss,J,e1,by rw[List.map_fst_zip (by rw[e2,e3.length];exact Qg _),zNS h2],h64,λl hl=>?_⟩;refine k l _ _ G1 (s1.trans<|Step.own s1.sub hl) (s1.hh.free hl) zH (s1.sub.free hl) ?_;generalize uH ss=l';induction l' with
   | nil=>exact yX.mpr J
   | cons x r ih=>exact zP.mpr ⟨_,_,J,xZ.mpr J,ih⟩
  .cases hf
 | _=>cases hf
end L2
namespace L2
def zPf (x:kj->kf)(f:Ef)(y:kj->kf):kj->kf:=λO=>match x O with
 | some c=>some c
 | none=>(f O).bind λ_=>y O
def zRU {x y:kj->kf}{f:Ef}{rest:qg}(h1:PXE X E e x)(he:PF X e f)(h2:zZW X E rest y)(hs:swapsWith e none pos.line X.env=pure false:=by rfl):zZW X E (.Expr e pos::rest)<|zPf x f y:=by
 intro Z s U H D I q;obtain⟨G0,H0,G,O,c,C,j0,hq,hC,k⟩:=q;unfold zPf at hq;split at hq
 .rename_i c' hx;cases hq;exact sJ (zZS h1 hs) Z s U H D I ⟨G0,H0,G,O,c,C,j0,hx,hC,k⟩
 .obtain⟨d,hd,hq⟩:=k8 hq;exact tY (qH he hs) h2 Z s U H D I ⟨G0,H0,G,O,d,j0,hd,λv H' G' st _=>⟨G0,H0,G',O,c,C,j0.step st,hq,hC,λH2 G2 st2=>k H2 G2<|st.trans st2⟩⟩
section
variable{dc dl ds db:D}{a b c x:qu}
def unY:D->Option (D×D×D×D) | .obj _ _ [dc,dl,ds,db]=>some (dc,dl,ds,db) | _=>none
def Yd.un (y:Yd K H0 G H a b c d)(h:unY d=some (dc,dl,ds,db)):d=ydD dc dl ds db:=by obtain⟨_,_,_,_,_,_,_,_,_,_,rfl,_⟩:=y.ex;cases h;rfl
theorem Step.one (s:Step G (zVs H x) G' H')(h:in3 a b c x):Step G (outS H<|in3 a b c) G' H' :=
 ⟨λy u e=>by
  by_cases z:in3 a b c y
  .rw[rQ z] at e;cases e
  .rw[wE z] at e;exact s.hh y u (by rw[uG λw=>z (!8)];exact e),s.gg,s.sub,λy u e n=>by
  by_cases z:in3 a b c y
  .rw[rQ z] at e;cases e
  .rw[wE z] at e;exact s.new y u (by rw[uG λw=>z (!8)];exact e) n⟩
def Good.stY (g:!21)(hi:O[i]?=some (.yd q<|ydD dc dl ds db))(hs:U[i]?=some (some<|.ref a))(y:Yd K H0 G H a b c<|ydD dc dl ds db)(s:Step G (zVs H b) G' H')(h':H' b=some o')(g':G' b=none)(r:RepO K G' o' d'):Good K G0 H0 G' H' U<|O.set i<|.yd q<|ydD dc dl d' db:=by
 refine g.ioY hi hs y (s.one<|.inr<|.inl rfl) (E:=H0) ?_;obtain⟨⟨C,dx,vc,vl,_,_,_,_,o1,o2,e0,e1,e2,e3,e4,e5,e6,e7,e8⟩,no,n1,n2,n3⟩:=y;cases e0;refine⟨⟨C,dx,vc,vl,_,_,_,_,o',o2,J,e1,s.hh _ _ (by rw[uG n1];exact e2),e3.mono s.gg,e4.mono s.gg,h',r,s.hh _ _ (by rw[uG<|Ne.symm n3];exact e7),e8.mono s.gg⟩,λx hx=>⟨?_,(no x hx).2⟩,n1,n2,n3⟩;rcases hx with rfl | rfl | rfl
 .exact(s.new _ _ (by rw[uG n1];exact e2) rfl).trans (no _<|.inl rfl).1
 .exact g'
 .exact(s.new _ _ (by rw[uG<|Ne.symm n3];exact e7) e8.nt).trans (no _<|.inr<|.inr rfl).1
def Good.bxY (g:!21)(hi:O[i]?=some (.yd q<|ydD dc dl ds db))(hs:U[i]?=some (some<|.ref a))(y:Yd K H0 G H a b c<|ydD dc dl ds db)(r:RepO K G o' d'):Good K G0 H0 G (upd H c o') U<|O.set i<|.yd q<|ydD dc dl ds d':=by refine g.ioY hi hs y ((Step.wrO g.sub<|(y.no c<|.inr<|.inr rfl).1).one<|.inr<|.inr rfl) (E:=H0) ?_;obtain⟨⟨C,dx,vc,vl,_,_,_,_,o1,o2,e0,e1,e2,e3,e4,e5,e6,e7⟩,no,n1,n2,n3⟩:=y;cases e0;exact⟨⟨C,dx,vc,vl,_,_,_,_,o1,o',J,e1,by rw[zD n2];exact e2,e3,e4,by rw[zD n3];exact e5,e6,zH,r⟩,no,n1,n2,n3⟩
end
section
variable{b:r8}{p3:Pos}{k:Nat}
def zYC {a b c:qu}(y:Yd K H0 G H a b c d)(hC:ClsAt K "Yard" C):∃dx vc vl,H a=some (.ins C dx<|ydF vc vl b c):=by obtain⟨C',dx,vc,vl,_,_,_,_,_,_,_,e1,e2,_⟩:=y.ex;have e:=hC.one e1;subst e;exact⟨dx,vc,vl,e2⟩
def zKi (i:Nat)(fk fv:Ef):Sf:=λO=>(fv O).bind λe=>(fk O).bind λdk=>(zRr dk).bind λk=>match O[i]? with
 | some (.yd q d)=>match unY d with
  | some (dc,dl,ds,.dct ks es)=>if ks.length<=lim then some (.nx<|O.set i<|.yd q<|ydD dc dl ds<|zS9 ks es k e) else none
  | _=>none
 | _=>none
def zII (i:Nat)(hr:Room k X.A)(hC:ClsAt X.K "Yard" C)(hcl:Cls X.K C)(hn:NoAttr X.K C "boxes")(he:PF X e fa)(hb:PF X b fb)(hN:!25:=by rfl)(hv:!29:=by exact visQ rfl)(hd:!17:=by decide)(hcd:!28:=by decide)(ha:attributeBase (!15) "boxes" X.env (eval (!15) X.env)=eval (!15) X.env:=by rfl) (hs:swapsWith e (some<|.Subscript (.Attribute (!15) "boxes" p3) b p2) pos.line X.env=pure false:=by rfl):PFS X (.Assign [.Subscript (.Attribute (!15) "boxes" p3) b p2] e pos)<|zKi i fb fa:=by
 have hu:=hr.un;refine PS.to (zOW jc (zVE (wI hN hv hd hcd) ha) hb he hs) ?_;rintro D U H ⟨G0,H0,G,O,o,j0,hf,kk⟩;obtain⟨de,g1,hf⟩:=k8 hf;obtain⟨dk,g2,hf⟩:=k8 hf;obtain⟨k,g3,hf⟩:=k8 hf;split at hf
 .rename_i q d hi;split at hf
  .rename_i dc dl ds ks es hun;split at hf
   .rename_i hl;cases hf;refine⟨G0,H0,G,O,_,j0,g1,λv H1 G1 s1 r1=>?_⟩;obtain⟨a',b',c',e1,y⟩:=(j0.step s1).yd hi;have ed:=y.un hun;subst ed;obtain⟨dx,vc,vl,e2⟩:=zYC y hC;refine⟨.ref a',e1,a',C,dx,_,.ref c',J,e2,hcl,hn,J,G0,H0,G1,O,_,j0.step s1,g2,λu H2 G2 s2 r2=>?_⟩;have gd:=(j0.step s1).step s2;obtain⟨a2,b2,c2,f1,y2⟩:=gd.yd hi;rw[e1] at f1;cases f1;obtain⟨dx',vc',vl',f2⟩:=zYC y2 hC;rw[s2.hh _ _ e2] at f2;cases f2;obtain⟨_,_,_,_,_,_,_,_,o1,o2,z0,_,_,_,_,_,_,z7,z8⟩:=y2.ex;cases z0;obtain⟨vs,rfl,l1,l2⟩:=z8;have e4:=jN g3 r2;subst e4;refine⟨c',_,J,DPut.k z7 ?_,kk _ _ G2 (s1.gg.trans s2.gg)<|gd.bxY hi e1 y2<|zO6 (r1.mono s2.gg) k l1 l2⟩;rw[Ta,<-l2.length,<-l1,Uo];exact wN hl
   .simp_all
  .simp_all
 .simp_all
def zKY (i:Nat)(fk:Ef):Sf:=λO=>(fk O).bind λdk=>(zRr dk).bind λk=>match O[i]? with
 | some (.yd q d)=>match unY d with
  | some (dc,dl,ds,.dct ks es)=>if (bB ks es k).isSome then some (.nx<|O.set i<|.yd q<|ydD dc dl ds<|.dct (bL ks k)<|fJ ks es k) else none
  | _=>none
 | _=>none
def zIt (i:Nat)(hC:ClsAt X.K "Yard" C)(hcl:Cls X.K C)(hn:NoAttr X.K C "boxes")(hb:PF X b fb)(hN:!25:=by rfl)(hv:!29:=by exact visQ rfl)(hd:!17:=by decide)(hcd:!28:=by decide)(ha:attributeBase (!15) "boxes" X.env (eval (!15) X.env)=eval (!15) X.env:=by rfl) (m:M1 X (.Attribute (!15) "boxes" p3) "pop" apos b cpos:=by exact⟨J,J,J,J⟩) (hs:swapsWith (.Call (.Attribute (.Attribute (!15) "boxes" p3) "pop" apos) [b] [] cpos) none pos.line X.env=pure false:=by rfl):PFS X (.Expr (.Call (.Attribute (.Attribute (!15) "boxes" p3) "pop" apos) [b] [] cpos) pos)<|zKY i fb:=by
 refine PS.to (qH (zQH (zVE (wI hN hv hd hcd) ha) hb m) hs) ?_;rintro D U H ⟨G0,H0,G,O,o,j0,hf,kk⟩;obtain⟨dk,g2,hf⟩:=k8 hf;obtain⟨k,g3,hf⟩:=k8 hf;split at hf
 .rename_i q d hi;split at hf
  .rename_i dc dl ds ks es hun;split at hf
   .rename_i hnn;cases hf;obtain⟨a',b',c',e1,y⟩:=j0.yd hi;have ed:=y.un hun;subst ed;obtain⟨dx,vc,vl,e2⟩:=zYC y hC;obtain⟨_,_,_,_,_,_,_,_,_,_,z0,_,_,_,_,_,_,z7,z8⟩:=y.ex;cases z0;obtain⟨vs0,rfl,_⟩:=z8;refine⟨.ref a',e1,a',C,dx,_,.ref c',J,e2,hcl,hn,J,c',J,⟨_,.inl z7⟩,G0,H0,G,O,_,j0,g2,λu H1 G1 s1 r1=>?_⟩;have gd:=j0.step s1;obtain⟨a2,b2,c2,f1,y2⟩:=gd.yd hi;rw[e1] at f1;cases f1;obtain⟨dx',vc',vl',f2⟩:=zYC y2 hC;rw[s1.hh _ _ e2] at f2;cases f2;obtain⟨_,_,_,_,_,_,_,_,o1,o2,w0,_,_,_,_,_,_,w7,w8⟩:=y2.ex;cases w0;obtain⟨vs,rfl,l1,l2⟩:=w8;have hv:=pS k l1 l2;rw[hnn] at hv;obtain⟨w,hw⟩:=Wh.mp hv;obtain⟨us,a1,a2,a3⟩:=zYM k l1 l2;refine⟨_,k,w,w7,jN g3 r1,hw,?_⟩;rw[a1];exact kk _ _ G1 s1.gg<|gd.bxY hi e1 y2 ⟨us,rfl,a2,a3⟩
   .simp_all
  .simp_all
 .simp_all
def zPW (i:Nat)(c m:Str)(n:Nat)(f:kh->kd->kd->ka)(g:Lf):Sf:=λO=>(g O).bind λes=>match O[i]? with
 | some (.yd q d)=>match unY d with
  | some (dc,dl,.obj c' ns xs,db)=>if c'=c/\es.length=n/\m∉ns then(f ns xs es).map λys=>.nx (O.set i<|.yd q<|ydD dc dl (.obj c ns ys) db) else none
  | _=>none
 | _=>none
def zQL (i:Nat){c:Str}{k:Nat}{CY:qu}{f:kh->kd->kd->ka}(hCY:ClsAt X.K "Yard" CY)(hclY:Cls X.K CY)(hnY:NoAttr X.K CY "store")(hC:ClsAt X.K c C)(hcl:Cls X.K C)(hm:Meth X.K C m fad)(F:∀ns,FnOk X.prog X.w X.K X.mg X.base CX0 k fad fd ps (spM X.K c ns n (f ns)))(hr:Room k X.A)(hb:Binds X.K fd ps [])(ha:PFA X (e::es) ga) (hN:!25:=by rfl) (hv:!29:=by exact visQ rfl) (hd:!17:=by decide) (hcd:!28:=by decide) (hab:attributeBase (!15) "store" X.env (eval (!15) X.env)=eval (!15) X.env:=by rfl)(hst:!24:=by rfl) (hpl:(backTo cpos (!26)).any (·.1)=false:=by rfl)(ht:eval (.Call (.Attribute (.Attribute (!15) "store" p3) m apos) (e::es) [] cpos) X.env=(do
   let ov <-eval (.Attribute (!15) "store" p3) X.env
   standAt apos.atName
   let (f,first) <-holding [ov] (getMethod ov m pl)
   callWith cpos f first (backTo cpos<|starEach (e::es) X.env) (!36)):=by rfl)
  (hs:swapsWith (.Call (.Attribute (.Attribute (!15) "store" p3) m apos) (e::es) [] cpos) none pos.line X.env=pure false:=by rfl) :
  PFS X (.Expr (.Call (.Attribute (.Attribute (!15) "store" p3) m apos) (e::es) [] cpos) pos) (zPW i c m n f ga):=by
 rintro Z s U H D I ⟨G0,H0,G,O,out,j0,hf,kk⟩;obtain⟨ds',h1,hf⟩:=k8 hf;split at hf
 .rename_i q d hi;split at hf
  .rename_i dc dl c' ns xs db hun;split at hf
   .rename_i hq;obtain⟨rfl,hl,hmn⟩:=hq;obtain⟨ys,h2,rfl⟩:=k9 hf;obtain⟨a',b',c'',e1,y⟩:=j0.yd hi;have ed:=y.un hun;subst ed;obtain⟨dx,vc,vl,e2⟩:=zYC y hCY;obtain⟨_,_,_,_,_,_,_,_,_,_,z0,_,_,_,_,z5,z6,_⟩:=y.ex;cases z0;obtain⟨C',dx',vs,r1,r2,r3⟩:=z6;have ec:=hC.one r1;subst ec;refine qH (cX (pl:=pl) (E:=E0) (zVE (wI hN hv hd hcd) hab) hcl hm (F ns) hr hb .nil jO ha hst hpl ht) hs Z s U H D I ⟨.ref a',e1,a',CY,dx,_,.ref b',J,e2,hclY,hnY,J,b',dx',_,J,by rw[z5,r2],xN hmn,G0,H0,G,O,ds',j0,h1,λus H1 G1 s1 rs=>?_⟩;show spM X.K c' ns n (f ns) (.ref b'::(us++[])) H1 _ E0;rw[Wf];have gd:=j0.step s1;obtain⟨a2,b2,c2,f1,y2⟩:=gd.yd hi;rw[e1] at f1;cases f1;obtain⟨dx2,vc2,vl2,f2⟩:=zYC y2 hCY;rw[s1.hh _ _ e2] at f2;cases f2;obtain⟨_,_,_,_,_,_,_,_,o1,o2,w0,_,_,_,_,w5,w6,_⟩:=y2.ex;cases w0;exact⟨b',_,us,G1,xs,ds',ys,J,w5,(y2.no _<|.inr<|.inl rfl).1,w6,s1.sub,rs,hl,h2,λH' G' o' st q1 q2 q3=>kk U H' G' (s1.gg.trans st.gg)<|gd.stY hi e1 y2 st q1 q2 q3⟩
   .simp_all
  .simp_all
 .simp_all
end
def inL (S:ko)(x:qu):Prop:=x∈S
def OwT (K:jk)(G H:Hp)(a:qu):ko->D->Prop
 | [x],d=>x=a/\∃o,H a=some o/\G a=none/\RepO K G o d
 | [x,b,c],d=>x=a/\Yd K (λ_=>none) G H a b c d
 | _,_=>False
def bS:ko->D->B
 | [a],d=>.mu (some a) d
 | [a,b,c],d=>.yd (some (a,b,c)) d
 | _,_=>.no
def zKj:B->Option (Nat×D) | .mu _ d=>some (1,d) | .yd _ d=>some (3,d) | _=>none
def zFK:B->D->B | .mu q _,y=>.mu q y | .yd q _,y=>.yd q y | b,_=>b
section
variable{y:D}{a:qu}{b:B}
def Good.own (g:!21)(hi:O[i]?=some b)(hd:zKj b=some (n,d)):∃a S,U[i]?=some (some<|.ref a)/\OwT K G H a S d/\S.length=n/\∀G' H' y,Step G (outS H<|inL S) G' H'->OwT K G' H' a S y->Good K G0 H0 G' H' U (O.set i<|zFK b y):=by
 cases b with
 | mu q d' =>
  cases hd;obtain⟨a,o,e1,e2,e3,e4,e5⟩:=g.mu hi;refine⟨a,[a],e1,⟨J,o,e2,e3,e5⟩,J,λG' H' y s ⟨_,o',h1,h2,h3⟩=>g.ioM hi e1 ⟨λx u e=>?_,s.gg,s.sub,λx u e m=>?_⟩ h1 h2 h3⟩
  .by_cases hx:x=a
   .rw[hx,jQ] at e;cases e
   .rw[uG hx] at e;exact s.hh x u (by rw[wE (S:=inL [a]) λz=>hx<|Qb.mp z];exact e)
  .by_cases hx:x=a
   .simp_all
   .rw[uG hx] at e;exact s.new x u (by rw[wE (S:=inL [a]) λz=>hx<|Qb.mp z];exact e) m
 | yd q d' =>
  cases hd;obtain⟨a,b,c,e1,y⟩:=g.yd hi;refine⟨a,[a,b,c],e1,⟨J,y.ex,λx hx=>⟨(y.no x hx).1,J⟩,y.ne⟩,J,λG' H' y' s ⟨_,h⟩=>?_⟩;have e:inL [a,b,c]=in3 a b c:=by funext x;simp[inL,in3]
  rw[e] at s;exact g.ioY hi e1 y s h
 | _=>cases hd
def zKU {N:Nat}(o:OwT K G H a S d)(s:Same G H)(r:Reps K G ds vs):Good K G (outS H<|inL S) G H (some (.ref a)::(vs.map some++List.replicate (N - (vs.length+1)) none))<|bS S d::(ds.map .fz++List.replicate (N - (ds.length+1)) .no):=by
 refine⟨⟨λx u e=>?_,Same.refl _,s,λ_ _ _ _=>rfl⟩,?_,zUm⟩
 .by_cases z:inL S x
  .rw[rQ z] at e;cases e
  .rw[wE z] at e;exact e
 .rw[r.length];refine .cons ?_<|jX _ r;unfold OwT at o;split at o
  .obtain⟨rfl,o',h1,h2,h3⟩:=o;exact .mu (.inr J) h1 h2 (rQ<|Qb.mpr rfl) h3
  .obtain⟨rfl,h⟩:=o;exact .yd (.inr J) ⟨h.ex,λx hx=>⟨(h.no x hx).1,rQ<|by simpa [inL] using hx⟩,h.ne⟩
  .simp_all
def zH1 (g:!21)(h:O[i]?=some (bS S y))(hS:S.length=1\/S.length=3):∃a,S.head?=some a/\OwT K G H a S y:=by
 match S,hS,h with
 | [a],_,h =>
  obtain⟨x,e,r⟩:=Paired.get g.vals h;cases r with
  | mu q h1 h2 h3 h4 =>
   rcases q with q | q
   .cases q
   .cases q;exact⟨_,J,J,_,h1,h2,h4⟩
 | [a,b,c],_,h =>
  obtain⟨x,e,r⟩:=Paired.get g.vals h;cases r with
  | yd q y =>
   rcases q with q | q
   .cases q
   .cases q;exact⟨_,J,J,y.ex,λx hx=>⟨(y.no x hx).1,J⟩,y.ne⟩
def OwT.head (o:OwT K G H a S d):S.head?=some a/\(S.length=1\/S.length=3):=by
 unfold OwT at o;split at o
 .simp_all
 .simp_all
 .simp_all
end
inductive OutK where
 | nx (O:kj)
 | rt (d:D) (O:kj)
abbrev Kf:=kj->Option OutK
def WantsK (K:jk)(G0 H0 G:Hp)(D:Ends):OutK->Prop
 | .nx ρ1=>∀U' H' G',Same G G'->Good K G0 H0 G' H' U' ρ1->D.nx U' H'
 | .rt d ρ1=>∀v U' H' G',Same G G'->Good K G0 H0 G' H' U' ρ1->Rep K G' d v->D.rt v H'
theorem WantsK.mono {G1:Hp}{D:Ends}:∀ {o:OutK},WantsK K G0 H0 G D o->Same G G1->WantsK K G0 H0 G1 D o
 | .nx _,h,s=>λU' H' G' s' g'=>h U' H' G' (s.trans s') g'
 | .rt _ _,h,s=>λv U' H' G' s' g' r=>h v U' H' G' (s.trans s') g' r
def tFR (K:jk)(f:Kf):TS:=λD U H=>∃G0 H0 G O o,Good K G0 H0 G H U O/\f O=some o/\WantsK K G0 H0 G D o
def PFR (X:Cx)(st:r9)(f:Kf):Prop:=PS X st<|tFR X.K f
def zVN (X:Cx)(st:qg)(f:Kf):Prop:=PSs X st<|tFR X.K f
def PSR.to {f:Kf}(h:PS X st t)(imp:∀D U H,tFR X.K f D U H->t D U H):PFR X st f:=λZ s U H D I q=>h Z s U H D I<|imp D U H q
def PSsR.to {st:qg}{f:Kf}(h:PSs X st t)(imp:∀D U H,tFR X.K f D U H->t D U H):zVN X st f:=λZ s U H D I q=>h Z s U H D I<|imp D U H q
def cF (f g:Kf):Kf:=λO=>(f O).bind λo=>match o with | .nx O'=>g O' | o=>some o
def kIf (t:Tf)(f g:Kf):Kf:=λO=>(t O).bind λc=>if c=true then f O else g O
def zM0 (f:Ef):Kf:=λO=>(f O).map λd=>.rt d O
def zIr:Kf:=λO=>some<|.nx O
def kOf (f:Sf):Kf:=λO=>match f O with | some (.nx O')=>some (.nx O') | _=>none
section
variable{rest:qg}{f g:Kf}{h:Sf}
def zSx (hh:PFS X st h):PFR X st<|kOf h:=by
 refine PSR.to hh ?_
 sleep 2
 unfold kOf at hf;split at hf
 .rename_i O' e;cases hf;exact⟨G0,H0,G,O,.nx O',j0,e,k⟩
 .simp_all
def zSM (hh:PFSs X rest h):zVN X rest<|kOf h:=by
 refine PSsR.to hh ?_
 sleep 2
 unfold kOf at hf;split at hf
 .rename_i O' e;cases hf;exact⟨G0,H0,G,O,.nx O',j0,e,k⟩
 .simp_all
def zPM:zVN X [] zIr:=by
 refine PSsR.to zZ4 ?_
 sleep 2
 cases hf;exact k U H G (Same.refl _) j0
def zV4 (h:PFR X st f):zVN X [st] f:=zXR h
def zIj (h1:PFR X st f)(h2:zVN X rest g):zVN X (st::rest)<|cF f g:=by
 refine PSsR.to (tY h1 h2) ?_
 sleep 2
 obtain⟨o1,h1,hf⟩:=k8 hf;refine⟨G0,H0,G,O,o1,j0,h1,?_⟩;cases o1 with
 | nx O'=>exactλU' H' G' s g'=>⟨G0,H0,G',O',o,g',hf,k.mono s⟩
 | rt d O'=>cases hf;exact k
def pH (h:Kf)(hB:h=cF f g)(h1:PFR X st f)(h2:zVN X rest g):zVN X (st::rest) h:=hB ▸ zIj h1 h2
def zLq (ht:PFT X c ta)(ha:zVN X sa f)(hb:zVN X sb g):PFR X (.If c sa sb pos)<|kIf ta f g:=by
 refine PSR.to (zUW ht ha hb) ?_
 sleep 2
 obtain⟨c',h1,hf⟩:=k8 hf;refine⟨G0,H0,G,O,_,j0,h1,λH1 G1 s1=>?_⟩;split at hf
 .rename_i h;rw[Qh h];exact⟨G0,H0,G1,O,o,j0.step s1,hf,k.mono s1.gg⟩
 .rename_i h;rw[Qv h];exact⟨G0,H0,G1,O,o,j0.step s1,hf,k.mono s1.gg⟩
def zW6 (h:PF X e fa):PFR X (.Return (some e) pos)<|zM0 fa:=by
 refine PSR.to (zSZ h) ?_
 sleep 2
 obtain⟨d,h1,rfl⟩:=k9 hf;exact⟨G0,H0,G,O,d,j0,h1,λv H' G' s r=>k v U H' G' s.gg (j0.step s) r⟩
end
def spW (K:jk)(n:Nat)(f:ko->D->kd->qc):Sp:=λvs H Q _=>∃(a:qu) (S:ko) (rest:kl) (G:Hp) (x:D) (ds:kd) (r y:D),vs = .ref a::rest/\OwT K G H a S x/\Same G H/\Reps K G ds rest/\ds.length=n/\f S x ds=some (r,y) /\
 ∀v H' G',Step G (outS H<|inL S) G' H'->OwT K G' H' a S y->Rep K G' r v->Q v H'
open Classical in
def zVT (S:ko):Option OutK->qc
 | some (.rt d (b::_))=>(zKj b).bind λy=>if b=bS S y.2 then some (d,y.2) else none
 | some (.nx (b::_))=>(zKj b).bind λy=>if b=bS S y.2 then some (.non,y.2) else none
 | _=>none
def zJm {o:Option OutK}{r y:D}(h:zVT S o=some (r,y)):(∃O,o=some (.rt r O)/\O[0]?=some (bS S y))\/∃O,o=some (.nx O)/\O[0]?=some (bS S y)/\r = .non:=by
 unfold zVT at h;split at h
 .obtain⟨z,h1⟩:=k8 h;simp_all
 .obtain⟨z,h1⟩:=k8 h;simp_all
 .cases h
def fnW (N:Nat)(f:Kf):ko->D->kd->qc:=λS x ds=>zVT S<|f<|bS S x::(ds.map .fz++List.replicate (N - (ds.length+1)) .no)
open Classical in
def kF (f:ko->D->kd->qc)(n:Nat)(x:D)(ds:kd):qc:=if h:∃r,∀S:ko,S.length=n->f S x ds=some r then some h.choose else none
def zOA {x:D}(h:kF f n x ds=some r)(hS:S.length=n):f S x ds=some r:=by
 unfold kF at h;split at h
 .rename_i q;cases h;exact q.choose_spec S hS
 .cases h
def hU {x:D}(h:∀S:ko,S.length=n->f S x ds=some r):kF f n x ds=some r:=by
 have q:∃r,∀S:ko,S.length=n->f S x ds=some r:=⟨r,h⟩
 unfold kF;rw[dif_pos q];exact((q.choose_spec (List.replicate n 0) je).symm.trans<|h _ je)
section
variable{k:Nat}{f:Kf}
def zYN (F:Fun K x qual st fad fd)(S:FnScope N (sf::ps)<|zV st)(hb:∀(j9:qv) (A:qy) (outer:qb) (s:qw) (H:Hp) (E:XK),Room k (A.deeper<|envOfC qual (zV st) s.heap.objs.size fad j9)->zVN (qP CX0 P w K mg base N qual (zV st) fad j9 A outer s H E).nox (xI st) f):FnOk P w K mg base CX0 (k+1) fad fd (sf::ps)<|spW K ps.length<|fnW N.length f:=by
 refine F.ok S (λvs H Q E h=>?_) λj9 A _ s H vs Q E hr h=>?_
 .obtain⟨a,S,rest,G,xs,ds,r,y,rfl,_,_,rr,hl,_⟩:=h;rw[Qk,Qk,<-rr.length,hl]
 .refine⟨_,hb j9 A _ s H E hr,?_⟩;obtain⟨a,S,rest,G,x,ds,r,y,rfl,h1,sub,rr,hl,hf,kk⟩:=h;have j0:=zKU (N:=N.length) h1 sub rr;obtain⟨hS1,hS⟩:=h1.head;have fin:∀ {H' G':Hp} {U':St} {ρ1:kj},Good K G (outS H<|inL S) G' H' U' ρ1->ρ1[0]?=some _->OwT K G' H' a S y:=λg' e=>by
   obtain⟨a',e1,e2⟩:=zH1 g' e hS;rw[hS1] at e1;cases e1;exact e2
  rcases zJm hf with⟨ρ1,e1,e2⟩ | ⟨ρ1,e1,e2,rfl⟩
  .exact⟨G,_,G,_,_,j0,e1,λv U' H' G' s' g' rv=>kk v H' G' g'.st (fin g' e2) rv⟩
  .exact⟨G,_,G,_,_,j0,e1,λU' H' G' s' g'=>kk .non H' G' g'.st (fin g' e2)<|sQ.mpr rfl⟩
variable{b:r8}
def OwT.ins {K:jk}{G H:Hp}{a C:qu}{S:ko}{c:Str}{ns:kh}{xs:kd}(h:OwT K G H a S<|.obj c ns xs)(hC:ClsAt K c C):∃dx vs,H a=some (.ins C dx<|ns.zip vs):=by
 unfold OwT at h;split at h
 .obtain⟨_,o,h1,_,C',dx,vs,r1,r2,_⟩:=h;have e:=hC.one r1;subst e;exact⟨dx,vs,by rw[h1,r2]⟩
 .obtain⟨_,⟨C',dx,vc,vl,_,_,_,_,_,_,e0,e1,e2,_⟩,_⟩:=h;cases e0;have e:=hC.one e1;subst e;exact⟨dx,[vc,vl,.ref _,.ref _],e2⟩
 .simp_all
def qO (i:Nat)(c m:Str)(n:Nat)(f:ko->D->kd->qc)(g:Lf):Sf:=λO=>(g O).bind λds=>(O[i]?).bind λb=>(zKj b).bind λx=>match x.2 with
 | .obj c' ns _=>if c'=c/\ds.length=n/\m∉ns then(kF f x.1 x.2 ds).map λr=>.nx (O.set i<|zFK b r.2) else none
 | _=>none
def nN (i:Nat){c:Str}{k:Nat}{f:ko->D->kd->qc}(hC:ClsAt X.K c C)(hcl:Cls X.K C)(hm:Meth X.K C m fad)(F:FnOk X.prog X.w X.K X.mg X.base CX0 k fad fd ps (spW X.K n f))(hr:Room k X.A)(hb:Binds X.K fd ps [])(ha:PFA X (e::es) ga) (hN:!25:=by rfl) (hv:!29:=by exact visQ rfl) (hd:!17:=by decide) (hcd:!28:=by decide)(hst:!24:=by rfl) (hpl:(backTo cpos (!26)).any (·.1)=false:=by rfl)(ht:eval (.Call (.Attribute (!15) m apos) (e::es) [] cpos) X.env=(do
   let ov <-eval (!15) X.env
   standAt apos.atName
   let (f,first) <-holding [ov] (getMethod ov m pl)
   callWith cpos f first (backTo cpos<|starEach (e::es) X.env) (!36)):=by rfl)
  (hs:swapsWith (.Call (.Attribute (!15) m apos) (e::es) [] cpos) none pos.line X.env=pure false:=by rfl) :
  PFS X (.Expr (.Call (.Attribute (!15) m apos) (e::es) [] cpos) pos) (qO i c m n f ga):=by
 rintro Z s U H D I ⟨G0,H0,G,O,out,j0,hf,kk⟩;obtain⟨ds,h1,hf1⟩:=k8 hf;obtain⟨b,hi,hf2⟩:=k8 hf1;obtain⟨⟨nn,dd⟩,hd',hf3⟩:=k8 hf2;clear hf hf1 hf2;have hf:=hf3;clear hf3;dsimp only at hf;split at hf
 .rename_i c' ns xs;split at hf
  .rename_i hq;obtain⟨rfl,hl,hmn⟩:=hq;obtain⟨r,h2,rfl⟩:=k9 hf;obtain⟨q,S,e1,ow,_⟩:=j0.own hi hd';obtain⟨dx,vs,e2⟩:=ow.ins hC;refine qH (cX (pl:=pl) (E:=E0) (wI hN hv hd hcd) hcl hm F hr hb .nil jO ha hst hpl ht) hs Z s U H D I ⟨.ref q,e1,q,dx,_,J,e2,xN hmn,G0,H0,G,O,ds,j0,h1,λus H1 G1 s1 rs=>?_⟩;show spW X.K n f (.ref q::(us++[])) H1 _ E0;rw[Wf];obtain⟨q',S',f1,ow',hS,fin⟩:=(j0.step s1).own hi hd';rw[e1] at f1;cases f1;exact⟨q,S',us,G1,_,ds,r.1,r.2,J,ow',s1.sub,rs,hl,zOA h2 hS,λv H' G' st ow2 _=>kk U H' G' (s1.gg.trans st.gg)<|fin G' H' r.2 st ow2⟩
  .simp_all
 .simp_all
end
end L2
variable{t:Tf}{r:qi}
namespace L2
def sOr (f g:Sf):Sf:=λO=>match f O with | some o=>some o | none=>g O
def zEY {f g:Sf}(h1:PFS X st f)(h2:PFS X st g):PFS X st<|sOr f g:=by
 rintro Z s U H D I ⟨G0,H0,G,O,o,j0,hf,k⟩;unfold sOr at hf;split at hf
 .rename_i e;cases hf;exact h1 Z s U H D I ⟨G0,H0,G,O,o,j0,e,k⟩
 .exact h2 Z s U H D I ⟨G0,H0,G,O,o,j0,hf,k⟩
def zWG (i:Nat)(x:kj->kf):kj->kf:=λO=>(lendB i O).bind x
section
variable{b:r8}{x y:kj->kf}{k:Nat}{rest body:qg}
def zYI (i:Nat)(h:PXB X st x):PXB X st<|zWG i x:=by
 intro Z s U H R G0 H0 G O c C I j0 hq hC k;obtain⟨O',h1,hq⟩:=k8 hq;obtain⟨S,hG,hH,good'⟩:=j0.lendB h1;refine h Z s U _ R G0 H0 _ O' c C (I.lab S) (good' _) hq hC λs2 H2 G2 e s' I2 st2 hx=>k s2 _ _ e s' (I.unlab I2 st2.hh hH) (st2.backS hG) ?_;obtain⟨C',a',H',e1,e2,e3,e4,e5,e6,e7,G',e8⟩:=hx;have h3:=λx o q=>e8.hh x o<|st2.hh x o q;have nS:∀ {b},H' b=none->rP H' H S b=none:=λ{b} n=>by
  have z:¬S b:=λz=>by obtain⟨o,q,_⟩:=hH b z;have:=h3 b _ (by rw[cK z,q];rfl);rw[n] at this;cases this
  rw[wX z];exact n
 obtain⟨⟨vs,v,f1,f2,f3,f4⟩,f5,f6⟩:=e6;refine⟨C',a',_,e1,e2,e3,e4.unlab hH,e5.unlab h3 hH,⟨⟨vs,v,f1,f2,f3,λT q=>⟨nS (f4 T q).1,(f4 T q).2⟩⟩,nS f5,f6⟩,e7,outS G' S,⟨λb u q=>?_,λb u q=>?_,λb u q=>?_,λb u q n=>?_⟩⟩
 .by_cases z:S b
  .rw[oI z] at q ⊢;exact q
  .rw[wX z] at q ⊢;exact e8.hh b u q
 .by_cases z:S b
  .rw[rQ z] at q;cases q
  .rw[wE z] at q ⊢;exact e8.gg b u q
 .by_cases z:S b
  .rw[rQ z] at q;cases q
  .rw[wE z] at q;rw[wX z];exact e8.sub b u q
 .by_cases z:S b
  .rw[rQ z,rQ z]
  .rw[wE z,wE z];rw[wX z] at q;exact e8.new b u q n
def zGz (t:Tf)(xa y:kj->kf):kj->kf:=λO=>(t O).bind λc=>if c=true then xa O else y O
def zMY (ht:PFT X a tt)(h1:zZW X E sts xa)(h2:zZW X E rest y):zZW X E (.If a sts [] pos::rest)<|zGz tt xa y:=by
 intro Z s U H D I h;obtain⟨G0,H0,G,O,c,C,j0,hq,hC,k⟩:=h;obtain⟨v,hv,hq⟩:=k8 hq;cases v with
 | true =>refine sJ (zHo ht h1 zKm) Z s U H D I ⟨G0,H0,G,O,c,C,j0,?_,hC,k⟩;dsimp only;rw[hv];exact hq
 | _ =>exact tY (zUW ht zU4 zZ4) h2 Z s U H D I ⟨G0,H0,G,O,false,j0,hv,λH1 G1 s1=>⟨G0,H0,G1,O,c,C,j0.step s1,hq,hC,λH' G' s'=>k H' G'<|s1.trans s'⟩⟩
def zHa (c m:Str)(fa:Ef)(x:kj->kf):kj->kf:=λO=>(fa O).bind λd=>match d with | .obj c' ns _=>if c'=c/\m∉ns then x O else none | _=>none
def zPw {c:Str}{k:Nat}(hC:ClsAt X.K c C)(hcl:Cls X.K C)(hm:Meth X.K C m fad)(F:FnOk X.prog X.w X.K X.mg X.base CX0 k fad fd ps sp)(hr:Room k X.A)(hb:Binds X.K fd ps [])(ho:PF X o fa) (ha:PXE X E e x) (hst:starEach [e] X.env=(false,eval e X.env)::starEach [] X.env:=by rfl) (hpl:(backTo cpos (starEach [] X.env)).any (·.1)=false:=by rfl)(ht:eval (.Call (!32) [e] [] cpos) X.env=(do
   let ov <-eval o X.env
   standAt apos.atName
   let (f,first) <-holding [ov] (getMethod ov m pl)
   callWith cpos f first (backTo cpos<|starEach [e] X.env) (!36)):=by rfl) :
  PXE X E (.Call (!32) [e] [] cpos) (zHa c m fa x):=by
 intro Z s U H Q I h;obtain⟨G0,H0,G,O,cc,CC,j0,hq,hCC,kk⟩:=h;obtain⟨d,h1,hq1⟩:=k8 hq;clear hq;have hq:=hq1;clear hq1;split at hq
 .rename_i c' ns xs;split at hq
  .rename_i hz;obtain⟨rfl,hmn⟩:=hz;refine cX ho hcl hm F hr hb .nil jO (yS ha yF hst) hst hpl ht Z s U H Q I ⟨G0,H0,G,O,_,j0,h1,λv H1 G1 s1 r1=>?_⟩;obtain⟨C',q,dx,vs,r2,rfl,r3,r4⟩:=sO.mp r1;have ec:=hC.one r2;subst ec;exact⟨q,dx,_,J,s1.sub _ _ r3,xN hmn,G0,H0,G1,O,cc,CC,j0.step s1,hq,hCC,λH' G' st=>kk H' G'<|s1.trans st⟩
  .simp_all
 .simp_all
def zIz (he:PXE X E e x)(hs:∀x,foldedSetIterable e X.env x=pure x:=by intro _;rfl):PXS X E (.For tg e body [] pos) x:=by refineλZ s U H D I h=>wpAny_For (thn (he Z s U H (λ_ _=>False) I h) λv s1 ⟨_,_,_,_,z⟩=>z.elim) hs
def sNx (f:Sf):Sf:=λO=>(f O).bind λo=>match o with | .nx O'=>some (.nx O') | _=>none
def zI1 {h0:ExceptHandler}{hs:List ExceptHandler}{f:Sf}(hfb:PFS X.nox st f):PFS X (.Try [st] (h0::hs) [] [] pos)<|sNx f:=by
 intro Z s U H D I q;obtain⟨G0,H0,G,O,o,j0,hq,k⟩:=q;obtain⟨o1,ho1,hq⟩:=k8 hq;split at hq
 .rename_i O';cases hq;refine wpAny_Try_except<|Ub<|Ed (hfb Z s U H { nx:=D.nx,rt:=λ_ _=>False } (I.wish _) ⟨G0,H0,G,O,.nx O',j0,ho1,k⟩) (λf s1 h1=>?_) λ_ _ z=>z.elim;cases f with
  | next =>obtain⟨U',H',I1,q1⟩:=h1;exact Yt<|Yt ⟨U',H',I1.unwish,q1⟩
  | brk=>obtain⟨_,_,_,z⟩:=h1;exact False.elim z
  | cont=>obtain⟨_,_,_,z⟩:=h1;exact False.elim z
  | ret u=>obtain⟨_,_,_,_,_,z⟩:=h1;exact False.elim z
 .simp_all
end
abbrev Uf:=kj->Option (Bool×kj)
def tFU (K:jk)(f:Uf):TT:=λU H Q=>∃G0 H0 G O b ρ1,Good K G0 H0 G H U O/\f O=some (b,ρ1)/\∀H' G',Same G G'->Good K G0 H0 G' H' U ρ1->Q b H'
def PFU (X:Cx)(e:r8)(f:Uf):Prop:=PT X e<|tFU X.K f
def zEV (f:Uf)(fa fb:Sf):Sf:=λO=>(f O).bind λq=>if q.1=true then fa q.2 else fb q.2
section
variable{f:Uf}{ha hb:Sf}
def zGy (h:PFU X c f)(h1:PFSs X sa ha)(h2:PFSs X sb hb):PFS X (.If c sa sb pos)<|zEV f ha hb:=by
 refine PS.to (zUW h h1 h2) ?_
 sleep 2
 obtain⟨q,h1,hf⟩:=k8 hf;refine⟨G0,H0,G,O,q.1,q.2,j0,h1,λH1 G1 s1 g1=>?_⟩;split at hf
 .rename_i z;rw[Qh z];exact⟨G0,H0,G1,q.2,o,g1,hf,k.mono s1⟩
 .rename_i z;rw[Qv z];exact⟨G0,H0,G1,q.2,o,g1,hf,k.mono s1⟩
end
def zGG (K:jk)(C:qu)(n:Nat)(f:jz):Sp:=λvs H Q _=>∃(p dx:qu) (rest:kl) (G H0:Hp) (ds:kd) (x:D),vs = .ref p::rest/\H=upd (upd H0 dx<|.own p) p (.ins C dx [])/\H0 p=none/\H0 dx=none/\dx≠p/\Same G H0/\Reps K G ds rest/\ds.length=n/\f ds=some x /\
 ∀H' G' b c,Step G H0 G' H'->Yd K H0 G' H' p b c x->Q .non H'
def zEu (nsS:kh)(fS:kd->ka):kd->qi
 | [d1,d2,d3]=>(fS [d3]).bind λxs=>if nsS.length=xs.length then some (ydD d1 d2 (.obj "Store" nsS xs)<|.dct [] []) else none
 | _=>none
theorem mN {f:Str}{v:V}:∀ {fs:qr} {n:Nat},fs.length < n->(mO f v fs).length < n+1
 | [],n,h=>by show 1 < n+1;exact Nat.succ_lt_succ h
 | _::r,n,h=>by
  unfold mO;split
  .exact Uk h
  .cases n with
   | zero=>cases h
   | succ n=>exact Nat.succ_lt_succ<|mN<|Nat.lt_of_succ_lt_succ h
section
variable{CS fI:qu}{fdS:FuncData}{nsS psS:kh}{k:Nat}{n1 n2 n3:Str}{fS:kd->ka}{p3 p4 q1 q2 q3 q4 r1 r2 r3 r4 r5 r6 u1 u2 u3 u4:Pos}
def zJy (F:Fun K x qual st fad fd)(S:FnScope [sf,n1,n2,n3] [sf,n1,n2,n3] (zV st))(hbody:xI st=[.Assign [.Attribute (.Name sf p1) "curve" p2] (.Name n1 p3) p4,.Assign [.Attribute (.Name sf q1) "level" q2] (.Name n2 q3) q4,.Assign [.Attribute (.Name sf r1) "store" r2] (.Call (.Name "Store" r3) [.Name n3 r4] [] r5) r6,.Assign [.Attribute (.Name sf u1) "boxes" u2] (.Dict [] [] u3) u4])(hC:ClsAt K "Yard" C) (hcl:Cls K C) (h1:NoAttr K C "curve") (h2:NoAttr K C "level") (h3:NoAttr K C "store") (h4:NoAttr K C "boxes")(hCS:ClsAt K "Store" CS) (M:Mk K CS fI) (FS:FnOk P w K mg base CX0 j fI fdS psS (spI K CS nsS 1 fS)) (hmS:mg "Store"=some (.ref CS)) (hbS:Binds K fdS psS []) (hj:j+1<=k)(hgS:∀(j9:qv) (A:qy) (outer:qb) (s:qw) (H:Hp) (E:XK),Gl (qP CX0 P w K mg base [sf,n1,n2,n3] qual (zV st) fad j9 A outer s H E).nox "Store":=by exactλ_ _ _ _ _ _=>rfl)(v0:Vis (zV st) sf:=by exact visQ rfl) (v1:Vis (zV st) n1:=by exact visQ rfl) (v2:Vis (zV st) n2:=by exact visQ rfl) (v3:Vis (zV st) n3:=by exact visQ rfl)(hd:∀y∈[sf,n1,n2,n3],(y==("__debug__":Str))=false/\(y==("__classdict__":Str))=false:=by decide)(hs:∀(j9:qv) (A:qy) (outer:qb) (s:qw) (H:Hp) (E:XK),let env:=(qP CX0 P w K mg base [sf,n1,n2,n3] qual (zV st) fad j9 A outer s H E).nox.env
   swapsWith (.Name n1 p3) (some<|.Attribute (.Name sf p1) "curve" p2) p4.line env=pure false/\swapsWith (.Name n2 q3) (some<|.Attribute (.Name sf q1) "level" q2) q4.line env=pure false/\swapsWith (.Call (.Name "Store" r3) [.Name n3 r4] [] r5) (some<|.Attribute (.Name sf r1) "store" r2) r6.line env=pure false/\swapsWith (.Dict [] [] u3) (some<|.Attribute (.Name sf u1) "boxes" u2) u4.line env=pure false:=by exactλ_ _ _ _ _ _=>⟨J,J,J,J⟩) :
  FnOk P w K mg base CX0 (k+1) fad fd [sf,n1,n2,n3] (zGG K C 3<|zEu nsS fS):=by
 have hd0:=hd sf je;have hd1:=hd n1 je;have hd2:=hd n2 je;have hd3:=hd n3 je;refine F.ok S (λvs H Q E h=>?_) λj9 A _ s H vs Q E hr h=>?_
 .obtain⟨p,dx,rest,G,H0,ds,xs,rfl,_,_,_,_,_,rs,hl,_⟩:=h;rw[Qk,<-rs.length,hl];rfl
 .obtain⟨s1,s2,s3,s4⟩:=hs j9 A _ s H E;rw[hbody];refine⟨_,tY (zYS (wI (i:=0) J v0 hd0.1 hd0.2) (wI (i:=1) J v1 hd1.1 hd1.2) s1)<|tY (zYS (wI (i:=0) J v0 hd0.1 hd0.2) (wI (i:=2) J v2 hd2.1 hd2.2) s2)<|tY (zYS (wI (i:=0) J v0 hd0.1 hd0.2) (zSB (E:=E0) M FS (hr.mono hj) (hgS j9 A _ s H E) hmS hbS .nil jO (yS (wI (i:=3) J v3 hd3.1 hd3.2) yF jg) jb jg jg) s3)<|zXR<|zYS (wI (i:=0) J v0 hd0.1 hd0.2) zRb s4,?_⟩;obtain⟨p,dx,rest,G,H0,ds,y,rfl,rfl,z1,z2,z3,sub,rs,hl,hf,kk⟩:=h
  match ds,hl,hf,rs with
  | [d1,d2,d3],_,hf,rs =>
   obtain⟨w1,_,rfl,t1,rs⟩:=zP.mp rs;obtain⟨w2,_,rfl,t2,rs⟩:=zP.mp rs;obtain⟨w3,_,rfl,t3,rs⟩:=zP.mp rs;obtain⟨xs,f1,hf⟩:=k8 hf;split at hf
   .rename_i hn;cases hf;have pdx:p≠dx:=z3.symm;refine⟨w1,J,.ref p,J,p,C,dx,_,J,zH,hcl,h1,jb,⟨w2,J,.ref p,J,p,C,dx,_,J,zH,hcl,h2,mN (n:=999) jb,?_⟩⟩;rw[zNZ,zNZ];have gp:G p=none:=sub.free z1;have sb0:Same G<|upd H0 dx<|.own p:=sub.trans<|Same.new z2;have hp1:(upd H0 dx<|.own p) p=none:=by rw[zD pdx];exact z1
    have sb1:∀o,Same G<|upd (upd H0 dx<|.own p) p o:=λo=>sb0.trans<|Same.new hp1;refine⟨w3,J,λb dxb hb hdb hbn=>⟨b,dxb,[w3],G,_,[d3],xs,J,J,hb,hdb,hbn,sb1 _,zP.mpr ⟨w3,[],J,t3,yX.mpr J⟩,J,f1,λH' G' us st q1 q2 q3=>⟨J,?_⟩⟩⟩;have hpH:H' p=some (.ins C dx<|mO "level" w2<|mO "curve" w1 []):=st.hh _ _ zH;have bp:b≠p:=λz=>by rw[z,zH] at hb;cases hb
    have hb0:H0 b=none:=by
     rw[zD bp] at hb
     by_cases z:b=dx
     .simp_all
     .rwa[zD z] at hb
    have gp':G' p=none:=(st.new p _ zH J).trans gp;refine⟨.ref p,J,p,C,dx,_,J,hpH,hcl,h3,mN (n:=999)<|mN (n:=998) jb,?_⟩;intro c hc;have cp:c≠p:=λz=>by rw[z,zH] at hc;cases hc
    have hc':H' c=none:=by rwa[zD cp] at hc
    have cb:c≠b:=λz=>by rw[z,q1] at hc';cases hc'
    refine⟨.ref p,J,p,C,dx,_,J,by rw[zD cp.symm];exact zH,hcl,h4,mN (n:=999)<|mN (n:=998)<|mN (n:=997) jb,?_⟩;have gc:G' c=none:=st.sub.free hc';have up0:∀z o,H0 z=some o->H' z=some o:=λz o e=>st.hh z o (by rw[zD<|yR e z1,zD<|yR e z2];exact e);have c0:H0 c=none:=by
     cases e:H0 c with
     | none=>rfl
     | some o=>rw[up0 c o e] at hc';cases hc'
    refine kk _ G' b c ⟨λz o e=>?_,st.gg,λz o e=>?_,λz o e m=>(st.new z o (by rw[zD<|yR e z1,zD<|yR e z2];exact e) m)⟩ ⟨⟨C,dx,w1,w2,d1,d2,_,_,_,_,rfl,hC,zH,t1.mono st.gg,t2.mono st.gg,by rw[zD bp,zD<|Ne.symm cb,zD bp];exact q1,⟨CS,dxb,us,hCS,rfl,hn,q3⟩,by rw[zD cp];exact zH,[],rfl,rfl,yX.mpr rfl⟩,λz hz=>?_,Ne.symm bp,Ne.symm cp,Ne.symm cb⟩
    .rw[zD<|yR e z1,zD<|yR e c0,zD<|yR e z1];exact up0 z o e
    .rw[zD<|yR e gp',zD<|yR e gc,zD<|yR e gp'];exact st.sub z o e
    .grind
   .simp_all
variable{b:r8}
def zXz (i n:Nat)(f:jz)(g:Lf):Sf:=λO=>(g O).bind λds=>if ds.length=n then(f ds).map λx=>.nx (O.set i<|.yd none x) else none
def zQ7 (i:Nat){c:Str}{k:Nat}{fI:qu}{f:jz}(hN:X.N.Nodup)(M:Mk X.K C fI)(F:FnOk X.prog X.w X.K X.mg X.base CX0 k fI fd ps<|zGG X.K C n f)(hr:Room (k+1) X.A)(hm:X.mg c=some (!1))(hb:Binds X.K fd ps [])(hg:Gl X c)(ha:PFA X (e::es) ga) (hi:!25:=by rfl) (hx:Loc X.env.scope x:=by exact o0) (hs:swapsWith (.Call (.Name c p) (e::es) [] cpos) (some<|.Name x pos') pos.line X.env=pure false:=by rfl)(hf:!37:=by exact o0) (hdb:(c==("__debug__":Str))=false:=by decide) (he:!24:=by rfl) (hpl:(backTo cpos (!26)).any (·.1)=false:=by rfl):PFS X (.Assign [.Name x pos'] (.Call (.Name c p) (e::es) [] cpos) pos)<|zXz i n f ga:=by
 refine PS.to (aG hN hi hx (zSB M F hr hg hm hb .nil jO ha hdb he hpl) hs hf) ?_;rintro D U H ⟨G0,H0,G,O,o,j0,hf,k⟩;obtain⟨ds,h1,hf⟩:=k8 hf;split at hf
 .rename_i hl;obtain⟨xx,h2,rfl⟩:=k9 hf;refine⟨G0,H0,G,O,_,j0,h1,λvs H1 G1 s1 r1 x dx hx hdx hne=>⟨x,dx,vs++[],G1,H1,ds,xx,J,J,hx,hdx,hne,s1.sub,by rw[Wf];exact r1,hl,h2,λH' G' b c s' y=>⟨J,?_⟩⟩⟩;have gd:=j0.step s1;have h0:=λz hz=>(y.no z hz).2;exact k _ H' G' (s1.trans s').gg<|(gd.step s').put i (.yd (.inl J) ⟨y.ex,λz hz=>⟨(y.no z hz).1,gd.st.hh.free<|h0 z hz⟩,y.ne⟩) λz f j w c' _ q1 q2 f2=>gd.fresh (h0 z<|y.foot.mp f) j w c' q1 q2<|(gd.at q1 q2).back (λx o _ h=>s'.hh x o h) f2
 .simp_all
end
def FnOk.ans {k:Nat}{f:qu}{d:jz}{x:kd->kf}(F:FnOk P w K mg base (CXq P w) k f fd ps<|spQ K n d x):FnOk P w K mg base CX0 k f fd ps<|spF K n d:=by
 have im:∀vs H Q E,spF K n d vs H Q E->spQ K n d x vs H Q E0:=λvs H Q E ⟨G,ds,r,h1,h2,h3,h4,h5⟩=>⟨G,ds,h1,h2,h3,.inl ⟨r,h4,h5⟩⟩
 refine⟨λvs H Q E h=>F.len vs H Q E0<|im vs H Q E h,λA _ s H args us vs Q E hr he hb hv hs=>Yw (F.run A _ s H args us vs Q E0 hr he hb hv<|im vs H Q E hs) λr s' h=>?_⟩;cases r with
 | ok fl=>cases fl<;>exact h
 | _ e=>obtain⟨_,_,_,_,_,_,_,_,_,z⟩:=h;exact z.elim
def qS (fa:Ef):kj->Bool:=λO=>match fa O with | some (.str y)=>decide (y.length<=1000) | _=>false
def zGT (h:PF X e fa):zLB X (.FormattedValue e (-1) none pos)<|qS fa:=by
 intro Z s U H Q I h';obtain⟨G0,H0,G,O,j0,hp,k⟩:=h';unfold qS at hp;split at hp
 .rename_i y hy;have hl:_<=1000:=Eh hp;refine FormattedValue_plain<|thn (h Z s U H (λv H1=>∃G1,Step G H G1 H1/\v = .str y) I ⟨G0,H0,G,O,_,j0,hy,λv H1 G1 s1 r1=>⟨G1,s1,xZ.mp r1⟩⟩) λv s1 ⟨x,H1,I1,r1,G1,st1,e1⟩=>?_;subst e1;obtain⟨t,rfl⟩:=r1;exact wpAny_formatField_str ⟨.str _,H1,I1,⟨_,J⟩,k _ H1 G1 st1 jc⟩ ⟨.str _,H1,I1.tok _,⟨_,J⟩,k _ H1 G1 st1 jc⟩ (by rw[Wk];lia)
 .cases hp
def zIE:kd->Option (List Bool)
 | []=>some []
 | .bl b::r=>(zIE r).map (b::·)
 | _=>none
theorem zOP:∀ {ds:kd} {bs:List Bool},zIE ds=some bs->ds=bs.map .bl
 | [],_,h=>by cases h;rfl
 | .bl b::r,bs,h=>by unfold zIE at h;obtain⟨qs,h2,rfl⟩:=k9 h;rw[zOP h2];rfl
 | .non::_,_,h=>by cases h
 | .int _::_,_,h=>by cases h
 | .str _::_,_,h=>by cases h
 | .tup _::_,_,h=>by cases h
 | .lst _::_,_,h=>by cases h
 | .obj _ _ _::_,_,h=>by cases h
 | .exc _ _ _::_,_,h=>by cases h
 | .dct _ _::_,_,h=>by cases h
def zJx (X:Cx):V->kl->Hp->VK->Prop:=λx vs H Q=>∃(l:qu) (bs:List Bool),x = .ref l/\vs=[.bl true]/\SqL X.K H l (bs.map V.bl)/\Q (.int (bs.count true:Nat)) H
def zLv (hun:X.A.units+64 < cLine):MtR X "list.count"<|zJx X:=by
 intro Z s U H x xs v us Q I rx rv h;obtain⟨l,bs,rfl,rfl,hq,q⟩:=h;cases rx;obtain⟨u,rfl,ru⟩:=rv.one;obtain⟨j6,r,pl,_⟩:=I.list hq;obtain⟨⟨cls,dd,data,sl⟩,ho,hc,n,hd⟩:=pl.isList;simp only at hc hd;subst hc hd;have eu:u = .bool true:=ru;subst eu;have key:∀ {bs:List Bool} {j6:jn},Vals (bs.map V.bl) j6->j6.countP (λy=>match y with | .bool b=>b | _=>false)=bs.count true/\∀y∈j6,∃b,y = .bool b:=by
  intro bs;induction bs with
  | nil=>intro j6 r;cases r;exact⟨J,λ_ h=>nomatch h⟩
  | cons b t ih =>
   intro j6 r;cases r with
   | cons h1 h2 =>
    obtain⟨e1,e2⟩:=ih h2;have eb:_=Value.bool b:=h1;subst eb;refine⟨?_,λy hy=>?_⟩
    .cases b<;>simp[List.countP_cons,List.count_cons,e1]
    .rcases v4 hy with rfl | hy
     .exact⟨b,rfl⟩
     .exact e2 y hy
 obtain⟨k1,k2⟩:=key r;refine Th PySem.F.slot_list_count ⟨_,ho,J⟩ PySem.F.entry_list_count (PySem.F.args_list_count_2 _ _) (PySem.SeqAt.list_countAt l _ n dd sl (.bool true) λy=>match y with | .bool b=>b | _=>false) ⟨ho,λy hy=>?_,?_⟩
 .obtain⟨b,rfl⟩:=k2 y (by simpa using hy);have:=(zIR I (Same.refl H) 8 X.A.in1 (.bl b) (.bl true) (.bl b) (.bl true) (.bool b) (.bool true) b (by show _+1+8 < cLine;lia) (by cases b<;>rfl) (wT.mpr J) (wT.mpr J) rfl rfl).2.2;exact this
 .rw[show _=j6 from rfl,k1];exact⟨.int (bs.count true:Nat),H,I.tok _,⟨_,J⟩,q⟩
def zSN (g:Lf):Ef:=λO=>(g O).bind λds=>(zIE ds).map λbs=>.int (bs.count true:Nat)
def zNM (ht:PE X c<|tBM X.K "list" (zJx X) (zLn X.K ga)<|fY (tF X.K<|eC<|.bl true) zW2):PF X c<|zSN ga:=by
 refine PE.to ht ?_
 sleep 1
 unfold zSN at hf;obtain⟨ds,h1,hf⟩:=k8 hf;obtain⟨bs,h2,rfl⟩:=k9 hf;have ed:=zOP h2;subst ed;refine⟨G0,H0,G,O,_,j0,h1,λq vs H1 G1 s1 hq rs=>⟨.inl ⟨J,vs,s1.sub.seq hq⟩,G0,H0,G1,O,_,j0.step s1,J,λv H2 G2 s2 r2=>?_⟩⟩;have ev:∀ {bs:List Bool} {vs:kl},Reps X.K G1 (bs.map .bl) vs->vs=bs.map V.bl:=by
  intro bs;induction bs with
  | nil=>intro vs h;exact yX.mp h
  | cons b t ih=>intro vs h;obtain⟨v,vr,rfl,h1,h2⟩:=zP.mp h;rw[wT.mp h1,ih h2];rfl
 rw[ev rs] at hq;exact⟨q,bs,J,by rw[wT.mp r2],(s1.sub.trans s2.hh).seq hq,k _ _ G2 (!12)<|yW.mpr rfl⟩
structure RoomU (k:Nat)(A:qy):Prop where
 dp:A.depth+3*k+5 < recursionLimit
 un:A.units+16*k+200 < cLine
def RoomU.units {k:Nat}{A:qy}(r:RoomU k A):A.units+64 < cLine:=by have:=r.un;lia
def Room.uM {k:Nat}{v:kn}(r:Room k A):RoomU k<|A.mark v:=⟨by have:=r.dp;exact Ui (Qg _) this,by have:=r.un;exact Ui (Qg _) this⟩
theorem RoomU.mono {k:Nat}(r:RoomU k A)(h:j<=k):RoomU j A:=⟨by have:=r.dp;lia,by have:=r.un;lia⟩
theorem RoomU.deeper {k:Nat}{A:qy}(r:RoomU (k+1) A)(env:Env):RoomU k (A.deeper env) :=
 ⟨by have:=r.dp;show _+1+3*k+5 < _;lia,by have:=r.un;show _+3+16*k+200 < _;lia⟩
structure FnOkH (P:Program)(w:qz)(K:jk)(mg:Str->kn)(base:qx)(k:Nat)(f:qu)(fd:FuncData)(ps:kh)(sp:Sp):Prop where
 len:∀vs H Q E,sp vs H Q E->vs.length=ps.length
 run:∀(A:qy) (outer:qb) (s:qw) (H:Hp) (args:Args) (us:jn) (vs:kl) (Q:VK) (E:XK),RoomU k A->Env0 P w K mg base A outer s H->BindsTo s fd args (ps.zip us)->Vals vs us->sp vs H Q E ->
  codeAny (model P w) A (.call (.ref f) args) (CR CX0 outer P w H s Q E) s
abbrev cxH (P:Program)(w:qz)(K:jk)(mg:Str->kn)(base:qx)(N:kh)(qual:Str)(scope:Scope)(f:qu)(cd:qv)(A:qy)(outer:qb)(s:qw)(H:Hp):Cx:={ qP CX0 P w K mg base N qual scope f cd A outer s H E0 with calm:=false,xe:=λ_ _=>False }
section
variable{f:qu}{k:Nat}
def Fun.okH (F:Fun K x qual st f fd)(S:FnScope N ps<|zV st)(len:∀vs H Q E,sp vs H Q E->vs.length=ps.length)(hbody:∀(j9:qv) (A:qy) (outer:qb) (s:qw) (H:Hp) (vs:kl) (Q:VK) (E:XK),RoomU k (!35)->sp vs H Q E -> ∃t,PSs (cxH P w K mg base N qual (zV st) f j9 A outer s H) (xI st) t/\t { nx:=λ_ H'=>Q .non H',rt:=Q } (oN N vs) H):FnOkH P w K mg base (k+1) f fd ps sp:=by
 obtain⟨oc,od,kV,doc,pm,an,j9,ct,osl,rfl,lk,hcd⟩:=F.ex;refine⟨len,λA _ s H args us vs Q E hr e0 hb r hsp=>?_⟩;have KX:=e0.mod.kin.keeps λb o e=>(e0.bs b o e).1;have hkind:∀y∈ps.zip us,(zV st).names.lookup y.1=some _\/((zV st).names.lookup y.1=some _/\((cellsFrom (s.heap.objs.size+1) (zV st).names []).lookup y.1).isSome=true):=λ⟨n,v⟩ hy=>by
  rcases S.par n (Yn hy).1 with q | q
  .exact .inl q
  .exact .inr ⟨q,Iq _ _ _<|.inl q⟩
 refine codeAny_call_function (by have:=hr.dp;lia) (KX _ _ lk) rfl S.co S.gen rfl (codeRec_of KX hcd)<|hb _ _ _ _<|Pj S.kind hkind λenv he s1 x=>?_;subst he;refine⟨(e0.mod.nolimit.keeps λb o e=>(e0.bs b o e).1).keeps x.toInCall.keep,codeAny_func ?_⟩;obtain⟨t,ht,hq⟩:=hbody j9 A _ s H vs Q E (hr.deeper _) hsp;have I0:Inv (qP CX0 P w K mg base N qual (zV st) f j9 ({ A with handled:=none }:_) _ s H E0) [] (oN N vs) H s1:=zUf S J ⟨e0.frames,e0.mod,e0.bs,e0.bsz,e0.funs,e0.frf,e0.hok,e0.bare⟩ (len _ _ _ _ hsp) r x;have ok:=I0.ok;have I:Inv (cxH P w K mg base N qual _ f j9 A _ s H) [] _ H s1:=⟨⟨ok.mod,ok.kind,ok.glob,ok.blt,ok.above,ok.inj,ok.has,ok.cab,(λz=>by cases z),Around.frames_deeper e0.frames,ok.stk,ok.exf,ok.bs,ok.bsz,ok.noex,ok.exfs,ok.funs,ok.frf⟩,I0.os,I0.bare,I0.base,I0.loc,I0.cell,I0.free,I0.freeC,I0.pin,I0.hok,I0.len⟩
 refine Ed (ht [] s1 _ H _ I hq) (λfl s' hs=>?_) λe s' hs=>hs.elim;cases fl with
 | ret u =>obtain⟨v,U',H',ya,rv,q⟩:=hs;exact⟨v,H',ya.os,ya.bare,ya.base,ya.hok,rv,q⟩
 | next =>obtain⟨U',H',ya,q⟩:=hs;exact⟨V.non,H',ya.os,ya.bare,ya.base,ya.hok,J,q⟩
 | brk =>obtain⟨_,_,_,q⟩:=hs;exact False.elim q
 | cont =>obtain⟨_,_,_,q⟩:=hs;exact False.elim q
def zFI (F:Fun K x qual st f fd)(S:FnScope N ps<|zV st)(hb:∀(j9:qv) (A:qy) (outer:qb) (s:qw) (H:Hp),RoomU k (!35)->PFSs (cxH P w K mg base N qual (zV st) f j9 A outer s H) (xI st) body):FnOkH P w K mg base (k+1) f fd ps<|spF K ps.length<|fnF N.length body:=by
 refine F.okH S (λvs H Q E h=>?_) λj9 A _ s H vs Q E hr h=>⟨_,hb j9 A _ s H hr,?_⟩
 .obtain⟨G,ds,d,sub,rs,hl,_⟩:=h;rw[<-rs.length];exact hl
 .obtain⟨G,ds,d,sub,rs,hl,hf,k⟩:=h;obtain⟨o,h1,h2⟩:=k8 hf;refine⟨G,H,G,_,o,mQ sub rs,h1,?_⟩;cases o with
  | nx O=>cases h2;exactλU' H' G' s' g'=>k .non H' G' g'.st<|sQ.mpr rfl
  | rt e=>cases h2;exactλv H' G' s' r=>k v H' G' s' r
  | rl es=>cases h2;exactλp us H' G' s' hn hp gp r=>k _ H' _ (s'.frz hn hp gp)<|wZ.mpr ⟨p,us,rfl,.of zH,r.mono<|Same.new gp⟩
  | bk O=>cases h2
  | ct O=>cases h2
def zDO {k:Nat}{t:FnT X.K X.mg x st ps}{fD:jz}(F:FnOkH X.prog X.w X.K X.mg X.base j t.f t.fd ps<|spF X.K n fD)(hr:RoomU k X.A)(ha:PFA X (e::es) ga)(hj:j<=k:=by lia)(hg:Gl X x:=by rfl)(hdb:!17:=by decide)(he:!24:=by rfl)(hpl:(backTo pos (!26)).any (·.1)=false:=by rfl):PF X (.Call (.Name x p) (e::es) [] pos)<|yZ n fD ga:=by
 rintro Z s U H Q I ⟨G0,H0,G,O,d,j0,hf,kk⟩;obtain⟨ds,h1,hf⟩:=k8 hf;split at hf
 .rename_i hl;refine Re<|iV I hg t.m (Tu I.ok.mod.kin t.F.kp (thn (ha pos Z s U H (λvs H1=>∃G1,Step G H G1 H1/\Reps X.K G1 ds vs) I ⟨G0,H0,G,O,ds,j0,h1,λvs H1 G1 s1 r1=>⟨G1,s1,r1⟩⟩) λus s1 ⟨vs,H1,I1,r,G1,st1,r1⟩=>⟨I1.kIn,?_⟩) he hpl) hdb;have sp:spF X.K n fD vs H1 Q E0:=⟨G1,ds,d,st1.sub,r1,hl,hf,λv H' G' s' rr=>kk v H' G' (st1.trans s') rr⟩
  have j5:us.length=ps.length:=by rw[<-r.length];exact F.len vs H1 Q E0 sp
  refine Ix<|Yw (F.run X.A _ s1 H1 ⟨us,[]⟩ us vs Q E0 (hr.mono hj) I1.env0 (by have:=t.b s1 us I1.kIn (!8);rwa[Wf] at this) r sp) λr s' hq=>?_;cases r with
  | error e=>exact False.elim hq
  | ok fl =>
   cases fl with
   | ret u=>exact I1.after hq
   | next=>exact False.elim hq
   | brk=>exact False.elim hq
   | cont=>exact False.elim hq
 .simp_all
end
structure MeT (K:jk)(C:qu)(m q:Str)(st:r9)(ps:kh) where
 f:qu
 fd:FuncData
 F:Fun K m q st f fd
 b:Binds K fd ps []
 me:Meth K C m f
def aE (K:jk)(C:qu)(m q:Str)(st:r9):Prop:=∃(f:qu) (od an:kr) (sl:Array kn) (oc kV dc pm cd ct:qv),PySem.W.findIn K (!1) m=some (some<|.ref f)/\isFn K (.ref f)=true/\K.lookup f=some ⟨oc,od,.func<|PySem.W.fnOf m q (qB st) (xI st) (zV st) .none kV dc pm an cd ct,sl⟩/\codeIn K cd q=true/\keepIn K (.ref f)=true
def zLC (K:jk)(C:qu)(fs:kh):Bool:=fs.all λy=>match PySem.W.findIn K (!1) y with | some none=>true | _=>false
def zK9 (K:jk)(fs:kh):Bool:=fs.all λy=>match PySem.W.nsIn K mainGlobals y with | some none=>true | _=>false
structure ClT (K:jk)(mg:Str->kn)(x q:Str)(si:r9)(ps fs:kh)(C:qu) where
 t:MeT K C "__init__" q si ps
 ca:ClsAt K x C
 cl:Cls K C
 mc:mg x=some (!1)
 k:Mk K C t.f
 n:∀y∈fs,NoAttr K C y
def zM9 (K:jk)(x q:Str)(si:r9)(fs:kh)(C:qu):Prop:=PySem.W.nsIn K mainGlobals x=some (some (!1))/\aE K C "__init__" q si/\plainGet K C Str.empty=true/\hasDictIn K C=true/\plainOver K C=true/\PySem.W.findIn K (!1) "__setattr__"=some (some<|.builtin "object.__setattr__")/\makesIn K C=true/\keepIn K (!1)=true/\zLC K C fs=true
structure XnT (K:jk)(mg:Str->kn)(x:Str)(C:qu):Prop where
 ca:ClsAt K x C
 mc:mg x=some (!1)
structure XcT (K:jk)(mg:Str->kn)(x:Str)(C:qu):Prop extends XnT K mg x C where
 xk:XKit K C
 kc:keepIn K (!1)=true
 xc:zNb K C
def zIk (K:jk)(x:Str)(C:qu):Prop:=PySem.W.nsIn K mainGlobals x=some (some (!1))/\zP7 K C=true/\keepIn K (!1)=true/\zFd K C=true
section
variable{q:Str}{fs:kh}
def gF (g:aE K C m q st)(hb:Be m q st ps:=by first | exact be1 λ_ _ _ _ _ _ _=>rfl | exact be2 λ_ _ _ _ _ _ _ _=>rfl | exact be3 λ_ _ _ _ _ _ _ _ _=>rfl | exact be4 λ_ _ _ _ _ _ _ _ _ _=>rfl | exact be5 λ_ _ _ _ _ _ _ _ _ _ _=>rfl):MeT K C m q st ps:=Classical.choice (by obtain⟨f,od,an,sl,oc,kV,dc,pm,cd,ct,a,n,l,c,k⟩:=g;exact⟨⟨f,_,zTG l c k,(zTG l c k).binds hb,⟨a,n,k⟩⟩⟩)
theorem zHQ (hn:zLC K C fs=true):∀y∈fs,NoAttr K C y:=λy hy=>by
 have:=Rx.mp hn y hy;split at this
 .assumption
 .simp_all
theorem zIy (X:K.In h)(G:h.Ns mainGlobals mg)(hn:zK9 K fs=true):∀y∈fs,mg y=none:=λy hy=>by
 have:=Rx.mp hn y hy;refine mg_none_of X G ?_;split at this
 .assumption
 .simp_all
def zKo (X:K.In h)(G:h.Ns mainGlobals mg)(t:MeT K C "__init__" q st ps)(g:zM9 K x q st fs C):ClT K mg x q st ps fs C :=
 ⟨t,g.1,⟨g.2.2.1,g.2.2.2.1,g.2.2.2.2.1,g.2.2.2.2.2.1⟩,mg_of X G g.1,⟨g.2.2.2.2.2.2.1,t.me.1,t.me.2,g.2.2.2.2.2.2.2.1⟩,zHQ g.2.2.2.2.2.2.2.2⟩
def yD {f:Str}(c:ClT X.K X.mg x q st ps fs C)(ha:!10)(hf:f∈fs:=by decide +kernel)(hb:attributeBase a f X.env (eval a X.env)=eval a X.env:=by rfl):PF X (.Attribute a f pos)<|yK x f fa:=zGr c.ca c.cl (c.n _ hf) ha hb
def zQh (X:K.In h)(G:h.Ns mainGlobals mg)(g:ClsAt K x C):XnT K mg x C:=⟨g,mg_of X G g⟩
def zGD (X:K.In h)(G:h.Ns mainGlobals mg)(g:zIk K x C):XcT K mg x C:=⟨zQh X G g.1,zIQ g.2.1,g.2.2.1,zJa g.2.2.2⟩
end
end L2
variable{c:ki}{j:Int}{m:Nat}{fd:Ef}
namespace L2
def zKI (i:Nat)(f:Sf):Sf:=λO=>(lendB i O).bind f
def zOQ {f:Sf}(i:Nat)(h:PFS X st f):PFS X st<|zKI i f:=by rintro Z s U H D I ⟨G0,H0,G,O,o,j0,hf,k⟩;obtain⟨O',h1,hf⟩:=k8 hf;obtain⟨S,hG,hH,good'⟩:=j0.lendB h1;exact h Z s U _ D (I.lab S) ⟨G0,H0,_,O',o,good' s.heap,hf,k.mono<|zX6 hG⟩
def uW (i n:Nat)(f:ko->D->kd->qc)(ga:Lf):kj->Option (D×kj):=λO=>(ga O).bind λds=>(O[i]?).bind λb=>(zKj b).bind λx=>if ds.length=n then(kF f x.1 x.2 ds).map λr=>(r.1,O.set i<|zFK b r.2) else none
def zTq (g:D->D->ky)(u v:kj->Option (D×kj)):Uf:=λO=>(u O).bind λp=>(v p.2).bind λq=>(g p.1 q.1).map λc=>(c,q.2)
section
variable{es2:qt}{p3 cpos2:Pos}
def zHf (j0:!21)(h:uW i n f ga O=some (d,O')):∃q,U[i]?=some (some<|.ref q)/\∀(Q:VK) (E:XK),(∀v H2 G2,Same G G2->Good K G0 H0 G2 H2 U O'->Rep K G2 d v->Q v H2)->tFA K ga U H λus H1=>spW K n f ((.ref q::us)++[]) H1 Q E:=by
 obtain⟨ds,h1,hf1⟩:=k8 h;obtain⟨b',hi,hf2⟩:=k8 hf1;obtain⟨⟨nn,dd⟩,hd',hf3⟩:=k8 hf2;clear h hf1 hf2;split at hf3
 .rename_i hl;obtain⟨r1,h2,e⟩:=k9 hf3;obtain⟨e1',e2'⟩:=Prod.mk.inj e;subst e1' e2';obtain⟨q,S,e1,ow⟩:=j0.own hi hd';refine⟨q,e1,λQ E k=>⟨G0,H0,G,O,ds,j0,h1,λus H1 G1 s1 rs=>?_⟩⟩;show spW K n f _ H1 Q E;rw[Wf];obtain⟨q',S',f1,ow',hS,fin⟩:=(j0.step s1).own hi hd';rw[e1] at f1;cases f1;exact⟨q,S',us,G1,_,ds,r1.1,r1.2,J,ow',s1.sub,rs,hl,zOA h2 hS,λv H' G' st ow2 rv=>k v H' G' (s1.gg.trans st.gg) (fin G' H' r1.2 st ow2) rv⟩
 .simp_all
def zKZ (i j:Nat){x2 y2:Str}{st2:r9}{ps2:kh}{jj jj2 k:Nat}{t:FnT X.K X.mg y st ps}{t2:FnT X.K X.mg y2 st2 ps2}{f2:ko->D->kd->qc}(cm:CmR X op g)(F:FnOk X.prog X.w X.K X.mg X.base CX0 jj t.f t.fd ps<|spW X.K n f) (F2:FnOk X.prog X.w X.K X.mg X.base CX0 jj2 t2.f t2.fd ps2<|spW X.K m f2) (hr:Room k X.A) (ha:PFA X es ga) (hb:PFA X es2 gb) (hj:jj<=k:=by lia) (hj2:jj2<=k:=by lia) (hg:Gl X y:=by rfl) (hg2:Gl X y2:=by rfl)(hN:!25:=by rfl) (hN2:X.N[j]?=some x2:=by rfl) (hv:!29:=by exact visQ rfl) (hv2:Vis X.env.scope x2:=by exact visQ rfl) (hd:!17:=by decide) (hd2:(x2==("__debug__":Str))=false:=by decide) (hcd:!28:=by decide) (hcd2:(x2==("__classdict__":Str))=false:=by decide) (hdb:(y==("__debug__":Str))=false:=by decide) (hdb2:(y2==("__debug__":Str))=false:=by decide)(hst:starEach (.Name x p1::es) X.env=(false,eval (!15) X.env)::starEach es X.env:=by rfl) (hst2:starEach (.Name x2 p3::es2) X.env=(false,eval (.Name x2 p3) X.env)::starEach es2 X.env:=by rfl) (hpl:(backTo cpos (!26)).any (·.1)=false:=by rfl) (hpl2:(backTo cpos2<|starEach es2 X.env).any (·.1)=false:=by rfl) (hm:behindInMarks op (.Call (.Name y2 p2) (.Name x2 p3::es2) [] cpos2)=false:=by first | exact zWS _ | (with_unfolding_all rfl)):PFU X (.Compare (.Call (.Name y p) (.Name x p1::es) [] cpos) [op] [.Call (.Name y2 p2) (.Name x2 p3::es2) [] cpos2] pos)<|zTq g (uW i n f ga)<|uW j m f2 gb:=by obtain⟨r,ho,hr'⟩:=cm;refineλZ s U H Q I hw=>zNY ho (cV F (hr.mono hj) hg t.m t.F.kp t.b .nil jO (yS (wI hN hv hd hcd) ha hst) hdb hst hpl) (cV F2 (hr.mono hj2) hg2 t2.m t2.F.kp t2.b .nil jO (yS (wI hN2 hv2 hd2 hcd2) hb hst2) hdb2 hst2 hpl2) hm Z s U H Q I ?_;obtain⟨G0,H0,G,O,bb,ρ1,j0,hf,kk⟩:=hw;obtain⟨⟨d1,ρ2⟩,h1,hf⟩:=k8 hf;obtain⟨⟨d2,ρ3⟩,h2,hf⟩:=k8 hf;obtain⟨c,h3,e⟩:=k9 hf;obtain⟨e3,e4⟩:=Prod.mk.inj e;subst e3 e4;obtain⟨q,e1,z⟩:=zHf j0 h1;refine⟨.ref q,e1,z _ _ λv H2 G2 sg g2 rv=>?_⟩;obtain⟨q2,e2,z2⟩:=zHf g2 h2;exact⟨.ref q2,e2,z2 _ _ λv2 H3 G3 sg3 g3 rv2=>hr' _ _ c G3 H3 v v2 _ h3 g3.sub (rv.mono sg3) rv2 λH4 G4 s4=>⟨c,J,kk H4 G4 ((sg.trans sg3).trans s4.gg)<|g3.step s4⟩⟩
end
end L2
variable{g:Lf}{f:Ef}{ps:List<|Str×Str}
namespace L2
def ltS (a b:Str):Bool:=decide (a.cps.toList < b.cps.toList)
def zHX:D->D->ky | .str i,.str j=>some (ltS i j) | _,_=>none
theorem zL2:CmR X .Lt zHX:=⟨_,zMF,λd d' k G H x y Q h s rx ry q=>by
 unfold zHX at h;split at h
 .cases h;exact⟨_,_,xZ.mp rx,xZ.mp ry,q H G<|.refl s⟩
 .cases h⟩
abbrev cpP (p:Str×Str):List kz:=[p.1.cps.toList,p.2.cps.toList]
def zTS (a b:Str×Str):Bool:=decide (cpP a < cpP b)
theorem pW {a b:Str×Str}:zTS a b=true↔cpP a < cpP b:=decide_eq_true_iff
def zTN {x y:Str×Str}:zTS x y=decide (x.1.cps.toList < y.1.cps.toList\/x.1.cps.toList=y.1.cps.toList/\x.2.cps.toList < y.2.cps.toList):=by unfold zTS cpP;simp[List.cons_lt_cons_iff]
def zQc (f:Nat->Str×Str):SWO λi j=>zTS (f i)<|f j:=by
 refine⟨λa=>?_,λa b c=>?_,λa b c=>?_⟩
 .exact Qn (Oe _)
 .rw[pW,pW,pW];exactλh1 h2=>List.lt_trans h1 h2
 .rw[pW,pW,pW];generalize cpP (f a)=x;generalize cpP (f b)=y;generalize cpP (f c)=z;grind
abbrev ssZ:Str×Str:=(⟨#[]⟩,⟨#[]⟩)
abbrev ltQ (ps:List<|Str×Str)(i j:Nat):Bool:=zTS (ps.getD i ssZ)<|ps.getD j ssZ
def zN2 (ps:List<|Str×Str):kz:=vI (ltQ ps) ps.length
def zZa (ps:List<|Str×Str):(zN2 ps).Perm<|List.range ps.length:=rX _ _
def dJ (ps:List<|Str×Str):List<|Str×Str:=(zN2 ps).map λi=>ps.getD i ssZ
def zQV (ps:List<|Str×Str):(dJ ps).Perm ps:=by refine((zZa ps).map _).trans ?_;rw[tU]
def zVr (ps:List<|Str×Str):(dJ ps).Pairwise λa b=>zTS b a=false:=by unfold dJ;rw[En];exact(zY6 (zQc λi=>ps.getD i ssZ) _).imp λ{a b} h=>Lx.le (zQc λi=>ps.getD i ssZ) h
def zI9 (h:qx)(p:Str×Str)(u:qv):Prop:=∃a o n t t',u = .ref a/\h.get? a=some o/\o.cls = .type "tuple"/\o.data = .seq #[.str p.1 t,.str p.2 t'] n
theorem zJH {h:qx}:∀ {ps:List<|Str×Str} {us:jn},Paired (zI9 h) ps us->∃fs:qh,KatTups h us fs/\fs.length=us.length/\∀v∈fs,∃i t,v=Value.str i t
 | _,_,.nil=>⟨[],KatTups.nil,J,λ_ h=>nomatch h⟩
 | _,_,.cons r t=>by
  obtain⟨a,o,n,t1,t2,rfl,e,c,d⟩:=r;obtain⟨fs,q1,q2⟩:=zJH t;refine⟨_::fs,KatTups.cons e c d J q1,by simp[q2],λv hv=>?_⟩;rcases v4 hv with rfl | hv
  .exact⟨_,_,rfl⟩
  .simp_all
section
def zH8 (hp:Paired (zI9 s.heap) ps us)(h2:2<=us.length):∃κ,(∀(E':jl) Q,Q κ s->wpAny (model P w) A (keyKind' us.toArray) Q E' s) /\ ∀i j C,i < us.length->j < us.length->C (ltQ ps i j) s->kas_ask P w A κ us i j C s:=by
 obtain⟨fs,q1,q2,q3⟩:=zJH hp;have hl:_=_:=Td hp;refine⟨tuples'<|(Value.type "str") != Value.type "tuple",λE' Q' hQ=>kat_kind q1 jc (λv hv=>?_) rfl hQ,λi j C hi hj hC=>?_⟩
 .obtain⟨n,t,rfl⟩:=q3 v hv;exact Looks.of_pure J
 .obtain⟨a,o,n,t1,t2,ea,e,c,d⟩:=tX (i:=i) (da:=ssZ) (db:=_) hp jc;obtain⟨b,o',n',t3,t4,eb,e',c',d'⟩:=tX (i:=j) (da:=ssZ) (db:=Value.none) hp jc;have hC:C (zTS (ps.getD i ssZ)<|ps.getD j ssZ) s:=hC;generalize ps.getD i ssZ=x at *;generalize ps.getD j ssZ=y at *;unfold kas_ask;rw[ea,eb];refine kat_lt e d e' d'<|kat_cons<|Yl ?_;rw[zTN] at hC
  by_cases h1:x.1=y.1
  .rw[Qc h1];refine kat_yes<|kat_cons<|Yl ?_
   by_cases h3:x.2=y.2
   .rw[Qc h3];refine kat_yes<|kat_nil ?_;rw[Qn (by rw[h1,h3];rintro(z | ⟨_,z⟩)<;>exact zHk _ z)] at hC;simpa using hC
   .rw[Qn h3];refine kat_one _ _<|lt_str ?_;rw[Pp.mpr ⟨λz=>z.elim (λz=>absurd z (by rw[h1];exact zHk _)) (·.2),λz=>.inr ⟨by rw[h1],z⟩⟩] at hC;exact hC
  .rw[Qn h1];refine oneLt_str ?_;have:¬x.1.cps.toList=y.1.cps.toList:=λz=>h1 (by
    obtain⟨⟨u⟩,_⟩:=x;obtain⟨⟨v⟩,_⟩:=y;simp_all)
   rw[Pp.mpr ⟨λz=>z.elim id λz=>absurd z.1 this,.inl⟩] at hC;exact hC
abbrev ssK (p:Str×Str):qj:=[.inr p.1,.inr p.2]
def dSS (p:Str×Str):D:=.tup [.str p.1,.str p.2]
variable{k:Nat}{b:r8}
def zET (I:!4)(k:∀b o,s.heap.get? b=some o->h'.get? b=some o){p:Str×Str}{b:qu}(e:SqT X.K H b [.str p.1,.str p.2]):zI9 h' p<|.ref b:=by
 obtain⟨j6,rv,⟨o,e,c,n,d⟩,_⟩:=I.tuple e;obtain⟨u1,r1,e1,r2⟩:∃u1 r1,j6=u1::r1/\RelV _ u1/\Vals [.str p.2] r1:=by cases rv with | cons x y=>exact⟨_,_,J,x,y⟩
 obtain⟨u2,e2,r3⟩:∃u2,r1=[u2]/\RelV _ u2:=by cases r2.2 with | cons x y=>cases y;exact⟨_,J,x⟩
 obtain⟨t,rfl⟩:=r2.1;obtain⟨t',rfl⟩:=r3;subst e1;subst e2;exact⟨b,o,n,t,t',J,k _ _ e,c,d⟩
abbrev TAt (H:Hp):List (Str×Str)->ko->Prop:=Paired λp b=>H b=some (.tup [.str p.1,.str p.2])
def zQi (hc:!23):CallR X (.builtin "sorted") (λxs H Q=>∃(q:qu) (j8:List<|qj×V) (ps:List<|Str×Str),xs=[V.ref q]/\H q=some (.dT j8)/\j8.map (·.1)=ps.map ssK/\ps.length < 64 /\ ∀l (bs:ko),H l=none->TAt H ps bs->Q (.ref l) (upd H l<|.lst<|(zN2 ps).map λi=>.ref<|bs.getD i 0)):=by
 intro Z s U H xs us Q I r h;obtain⟨q,j8,ps,rfl,hq,hk,h64,k⟩:=h;obtain⟨u,rfl,ru⟩:=jM r;cases ru;obtain⟨z,hd,xs,rel,o,es,ep,ho,hx,hdat,he,hn⟩:=(show ObjOk X.prog X.w H s.heap q (.dT j8) from I.hok q _ hq)
 have hb:TAt H ps (xs.map (·.2.1)):=by
  clear ho hx hdat he hn hq z k h64;induction rel generalizing ps with
  | nil =>
   cases ps with
   | nil=>exact .nil
   | cons _ _=>cases hk
  | cons h t ih =>
   cases ps with
   | nil=>cases hk
   | cons y r =>
    rw[Qx,Qx] at hk;injection hk with hk1 hk2
    refine .cons ?_<|ih r hk2;have:=h.2.1;rw[hk1] at this;exact this
 have hl:=(Td hb).symm;have hkeys:es.toList.map (·.key)=(xs.map (·.2.1)).map Value.ref:=by rw[he,Wj,Wj];rfl
 have hz:es.size=ps.length:=by rw[<-hl,<-Ou,he];simp
 revert hl hb hkeys
 generalize xs.map (·.2.1)=bs;intro hb hl hkeys;have hat:∀h':qx,(∀b o,s.heap.get? b=some o->h'.get? b=some o)->Paired (zI9 h') ps (bs.map Value.ref):=by
  intro h' kp;clear hl hz hkeys k hk h64;induction hb with
  | nil=>exact .nil
  | cons h t ih=>exact .cons (zET I kp<|.inl<|.inl h) ih
 refine zUh (lt:=ltQ ps) (zQc λi=>ps.getD i ssZ) (I.ok.hd hc) ⟨o,ho,hx,hdat⟩ hd jc (λh2 h' tk kp=>?_) λh1 h' tk n k1 k2 hn'=>?_
 .have:=zH8 (P:=X.prog) (w:=X.w) (A:=X.A.in1.in1) (s:=(!31)) (hat h' kp) (by rw[Qy,hl,<-hz];exact h2);rw[hkeys,hz];rw[Qy,hl] at this;exact this
 .have I1:Inv X Z U H { s with heap:=h1,toks:=tk }:=I.kept k1;have fr:H h1.objs.size=none:=I1.hok.fresh<|Qg _;rw[hkeys,hz] at hn';have hpm:=zZa ps;have vals:Vals ((zN2 ps).map λi=>V.ref<|bs.getD i 0)<|(zN2 ps).map λi=>(bs.map Value.ref).getD i Value.none:=by
   have key:∀l:kz,(∀i∈l,i < bs.length)->Vals (l.map λi=>V.ref<|bs.getD i 0) (l.map λi=>(bs.map Value.ref).getD i Value.none):=by
    intro l;induction l with
    | nil=>intro _;exact .nil
    | cons i r ih =>intro hh;refine .cons ?_ (ih λj hj=>hh j<|by simp[hj]);have hi:=hh i je;show(bs.map Value.ref).getD i Value.none=Value.ref (bs.getD i 0);simp[hi]
   exact key _ λi hi=>by rw[hl];simpa using hpm.subset hi
  have I2:=I1.laid (t':=tk) (h':=h') (a:=h1.objs.size) (o:=.lst<|(zN2 ps).map λi=>V.ref<|bs.getD i 0) k2 (Qg _) ⟨by rw[Qy,hpm.length_eq,Tz];exact Wa<|wN (by show ps.length<=100000;lia),_,n,vals,hn'⟩;exact⟨.ref _,_,I2,J,k _ _ fr hb⟩
theorem zRv {G H:Hp}(s:Same G H):∀ {ps:List<|Str×Str} {bs:ko},TAt H ps bs->∃G',Step G H G' H/\TAt G' ps bs
 | _,_,.nil=>⟨G,.refl s,.nil⟩
 | _,_,.cons h t=>by obtain⟨G1,s1,r1⟩:=zRv s t;have s2:=Step.adopt s1.sub h;exact⟨_,s1.trans s2,.cons zH<|Paired.mapP r1 λp b e=>s2.gg _ _ e⟩
theorem Good.pt {K:jk}{G0 H0 G H:Hp}{U:St}{O:kj}{i:Nat}{ps:List<|Str×Str}(g:!21)(h:O[i]?=some (.pt ps)):∃a j8,U[i]?=some (some<|.ref a)/\H a=some (.dT j8)/\G a=none/\H0 a=none/\j8.map (·.1)=ps.map ssK:=by
 obtain⟨x,e,r⟩:=Paired.get g.vals h;cases r with
 | pt h1 h2 h3 h4=>exact⟨_,_,e,h1,h2,h3,h4⟩
def zPN (i:Nat):Lf:=λO=>match O[i]? with | some (.pt ps)=>if ps.length < 64 then some ((dJ ps).map dSS) else none | _=>none
def zJ3 (i:Nat)(hc:!23)(hg:Gl X "sorted")(hm:X.mg "sorted"=none)(hN:!25:=by rfl)(hv:!29:=by exact visQ rfl)(hd:!17:=by decide)(hcd:!28:=by decide)(hs:starEach [.Name x p1] X.env=[(false,eval (!15) X.env)]:=by rfl):PFr X (.Call (.Name "sorted" p) [.Name x p1] [] pos)<|zPN i:=by
 refine PE.toR (vB (zQi hc) hg hm jg (yS (wI hN hv hd hcd) yF (by rw[hs];rfl)) jb jb (by rw[hs];rfl) jg) ?_;rintro U H Q ⟨G0,H0,G,O,ds',j0,hf,k⟩;unfold zPN at hf;split at hf
 .rename_i ps hi;split at hf
  .rename_i h64;cases hf;obtain⟨q,j8,e1,e2,e3,e4,e5⟩:=j0.pt hi;refine⟨.ref q,e1,q,j8,ps,J,e2,e5,h64,λl bs hl hb=>?_⟩;obtain⟨G2,s2,r2⟩:=zRv j0.sub hb;refine k l _ _ G2 (s2.trans<|Step.own s2.sub hl) hl zH (s2.sub.free hl) ?_;unfold dJ;rw[Wj];have hp:=zZa ps;have key:∀l:kz,(∀i∈l,i < ps.length)->Reps X.K G2 (l.map<|dSS ∘ λi=>ps.getD i ssZ) (l.map λi=>V.ref<|bs.getD i 0):=by
    intro l;induction l with
    | nil=>intro _;exact yX.mpr J
    | cons i r ih =>intro hh;refine zP.mpr ⟨_,_,J,?_,ih λj hj=>hh j<|by simp[hj]⟩;have:=tX (i:=i) (da:=ssZ) (db:=0) r2<|hh i je;exact xU.mpr ⟨_,_,J,.inl<|.inl this,zP.mpr ⟨_,_,J,xZ.mpr J,zP.mpr ⟨_,_,J,xZ.mpr J,yX.mpr J⟩⟩⟩
   exact key _ λi hi=>by simpa using hp.subset hi
  .cases hf
 .cases hf
def zKQ (i:Nat):Sf:=λO=>some<|.nx<|O.set i<|.pt []
def zKF (i:Nat)(hN:X.N.Nodup)(hi:!25:=by rfl)(hx:Loc X.env.scope x:=by exact o0)(hs:swapsWith (.Dict [] [] p) (some<|.Name x pos') pos.line X.env=pure false:=by rfl)(hf:!37:=by exact o0):PFS X (.Assign [.Name x pos'] (.Dict [] [] p) pos)<|zKQ i:=by
 have hd:PE X (.Dict [] [] p) (λ_ H Q=>∀q,H q=none->Q (.ref q) (upd H q<|.dT [])):=λZ s U H Q I h =>wpAny_Dict_empty ⟨.ref s.heap.objs.size,_,I.laid (a:=s.heap.objs.size) (o:=.dT []) (t':=s.toks) (λ_ _ q=>Qe _ q) (Qg _) ⟨Er _,Tw.mpr<|Ne.symm<|Wy I.big,[],.nil,_,#[],0,Qs _ J,⟨J,J,J⟩,J,J,List.nodup_nil⟩,J,h _<|I.hok.fresh<|Qg _⟩
 refine PS.to (aG hN hi hx hd hs hf) ?_;rintro D U H ⟨G0,H0,G,O,o,j0,hf,k⟩;cases hf;intro q hq;have s1:=Step.own (o:=.dT []) j0.st.sub hq;exact k _ _ G s1.gg ((j0.step s1).put i (.pt zH (j0.st.sub.free hq) (j0.st.hh.free hq) J) λx f j w c _ h1 h2 f'=>by cases f;exact j0.fresh hq j w c h1 h2<|(j0.at h1 h2).back (λx o _ h=>s1.hh x o h) f')
def zRt (ps:List<|Str×Str)(p:Str×Str):List<|Str×Str:=if p∈ps then ps else ps++[p]
def zHT {p q:Str×Str}(h:ssK p=ssK q):p=q:=by
 injection h with h1 h2
 injection h1 with h1
 injection h2 with h2 _
 injection h2 with h2
 exact Prod.ext h1 h2
def zLL {p:Str×Str}(h:j8.map (·.1)=ps.map ssK):(bZ j8 (ssK p) v).map (·.1)=(zRt ps p).map ssK:=by
 have e:(j8.any λkv=>decide (kv.1=ssK p))=decide (p∈ps):=by
  rw[Rq,Um,decide_eq_true_iff];have m:∀q,q∈j8.map (·.1)↔q∈ps.map ssK:=λq=>by rw[h]
  have:=m<|ssK p;simp only[Wg] at this;refine⟨λ⟨x,h1,h2⟩=>?_,λhp=>?_⟩
  .obtain⟨q,h3,h4⟩:=this.mp ⟨x,h1,by simpa using h2⟩;rw[<-zHT h4];exact h3
  .obtain⟨x,h1,h2⟩:=this.mpr ⟨p,hp,J⟩;exact⟨x,h1,by simpa using h2⟩
 unfold bZ zRt;rw[e]
 by_cases hp:p∈ps
 .rw[Qh<|Qc hp,Qh hp,Wj,<-h];refine Es λx _=>?_;show(if x.1=_ then(x.1,v) else x).1=x.1;split<;>rfl
 .rw[Qv (by simp[hp]),Qv hp,Wz,Wz,h];rfl
def zKH {a:qu}(ok:HOk X.prog X.w H h)(e:H a=some (.tup<|ks.map kV)):(tupleKind<|sL X.prog X.w).is h ks a:=by
 obtain⟨_,j6,r,o,h1,h2,n,h3⟩:=(show ObjOk X.prog X.w H h a (.tup<|ks.map kV) from ok a _ e)
 exact⟨o,j6.toArray,n,h1,h2,h3,by simpa using zUi r⟩
def zHc (i:Nat)(ga:Lf)(fv:Ef):Sf:=λO=>(fv O).bind λ_=>(ga O).bind λdk=>match dk,O[i]? with
 | [.str y,.str z],some (.pt ps)=>if ps.length<=lim then some (.nx<|O.set i<|.pt<|zRt ps (y,z)) else none
 | _,_=>none
def zHU (i:Nat){kk':Nat}(hr:Room k X.A)(he:PF X e fa)(hb:PFA X es ga)(hN:!25:=by rfl)(hv:!29:=by exact visQ rfl)(hd:!17:=by decide)(hcd:!28:=by decide)(hs:swapsWith e (some<|.Subscript (!15) (.Tuple es kk' p) p2) pos.line X.env=pure false:=by rfl):PFS X (.Assign [.Subscript (!15) (.Tuple es kk' p) p2] e pos)<|zHc i ga fa:=by
 have hu:=hr.un;rintro Z s U H D I ⟨G0,H0,G,O,o,j0,hf,kk⟩;obtain⟨de,g1,hf⟩:=k8 hf;obtain⟨dk,g2,hf⟩:=k8 hf;split at hf
 .rename_i y z ps hi;split at hf
  .rename_i hl;cases hf;refine wpAny_Assign_Subscript (thn (he Z s U H (λv H1=>∃G1,Step G H G1 H1) I ⟨G0,H0,G,O,_,j0,g1,λv H1 G1 s1 r1=>⟨G1,s1⟩⟩) λr s1 ⟨v,H1,I1,rv,G1,st1⟩=>?_) hs;obtain⟨q,j8,e1,e2,e3,e4,e5⟩:=(j0.step st1).pt hi;refine thn (wI hN hv hd hcd Z s1 U H1 (λx H2=>x = .ref q/\H2=H1) I1 ⟨.ref q,e1,rfl,rfl⟩) λu s2 ⟨x,H2,I2,rx,ex,eH⟩=>?_;subst ex eH;refine thn (zPi hb Z s2 U H2 (λx H3=>∃b G2 H2',Step G1 H2 G2 H2'/\x = .ref b/\H2' b=none/\H3=upd H2' b (.tup [.str y,.str z])) I2 ⟨G0,H0,G1,O,_,j0.step st1,g2,λus H3 G2 st2 r2=>⟨by rw[<-r2.length];exact Wa<|wN (by show 2<=100000;lia),λb' hb'=>⟨b',G2,H3,st2,J,hb',?_⟩⟩⟩) λiv s3 ⟨x',H3,I3,rx',b',G2,H2',st2,ex',hb',eH⟩=>?_
   .obtain⟨_,_,rfl,a1,a2⟩:=zP.mp r2;obtain⟨_,_,rfl,a3,a4⟩:=zP.mp a2;rw[yX] at a4;subst a4;rw[xZ] at a1 a3;subst a1 a3;rfl
   .subst ex' eH;cases rx;cases rx';have st3:=Step.own (o:=.tup [.str y,.str z]) st2.sub hb';have gd:=(j0.step st1).step<|st2.trans st3;obtain⟨q',kvs',f1,f2,f3,f4,f5⟩:=gd.pt hi;rw[e1] at f1;cases f1;have eb:(upd H2' b'<|.tup [.str y,.str z]) b'=some (.tup<|(ssK (y,z)).map kV):=zH;obtain⟨hz,hd,xs,rel,o,es',ep,w1,w2,w3,w4,w5⟩:=(show ObjOk X.prog X.w _ s3.heap q (.dT kvs') from I3.hok q _ f2)
    have hn:kvs'.length < sizeLine:=by have:=Wi List.length f5;rw[Qy,Qy] at this;rw[this];exact wN hl
    have all:∀x∈xs,(tupleKind<|sL X.prog X.w).is s3.heap x.1 x.2.1:=by
     clear w4 w5 f5 f2 hz hn;induction rel with
     | nil=>exactλx hx=>nomatch hx
     | cons hq t ih =>
      intro x hx;rcases v4 hx with rfl | hx
      .exact zKH I3.hok (by rw[<-hq.1];exact hq.2.1)
      .exact ih x hx
    have rel:KTd _ kvs' xs:=rel;have hxl:xs.length<=sizeLine:=by rw[<-Td rel];exact hz
    refine wpAny_setItem_heap (hsz:=hxl) (tupleKind_room_in1 jc) (zKH I3.hok eb) ⟨o,es',ep,w1,w2,w3,w4,all,w5⟩ λh' dd' hs=>?_;obtain⟨qo,es,ep,hq,h2,h3,h4,_,h5⟩:=dd';have hpl:=zYo kvs' (ssK (y,z)) v;have I4:=λ{t':Nat}=>zT4 (t':=t') (ob:=.dT<|bZ kvs' (ssK (y,z)) v) I3 (by rw[f2];exact True.intro) hs ⟨qo,hq⟩ ⟨jc,hd,_,(rel.put _ eb rv).keeps λc ys ec=>by rw[zD<|zE0 ec f2 λz=>nomatch z];exact ec,qo,es,ep,hq,h2,h3,h4,h5⟩;refine⟨U,_,I4,kk _ _ G2 (st1.gg.trans st2.gg) ?_⟩;have s5:=Step.wrO (o':=.dT<|bZ kvs' (ssK (y,z)) v) gd.sub f3;have ne:∀ {x:qu},¬vD (upd H2' b'<|.tup [.str y,.str z]) (some<|.ref q) (.pt ps) x->x≠q:=λf z=>f (by rw[z];rfl);exact gd.chg e1 hi s5.gg s5.sub (λx o f h=>s5.hh x o (by rw[uG<|ne f];exact h)) (λx o f h n=>s5.new x o (by rw[uG<|ne f];exact h) n) (.pt zH f3 f4<|zLL f5) λx f=>f
  .cases hf
 .cases hf
end
end L2
variable{a:Int}{e:Ef}{s:Bool}{ks:kh}
namespace L2
abbrev eV0:Ef:=eV 0
abbrev eV1:Ef:=eV 1
abbrev eV2:Ef:=eV 2
abbrev eV3:Ef:=eV 3
abbrev eV4:Ef:=eV 4
abbrev eV5:Ef:=eV 5
abbrev eV6:Ef:=eV 6
abbrev eV7:Ef:=eV 7
def zR (hN:X.N[0]?=some x:=by rfl)(hv:!29:=by exact visQ rfl)(hd:!17:=by decide)(hcd:!28:=by decide):PF X (.Name x pos) eV0:=yQ 0 hN hv hd hcd
def zQ (hN:X.N[1]?=some x:=by rfl)(hv:!29:=by exact visQ rfl)(hd:!17:=by decide)(hcd:!28:=by decide):PF X (.Name x pos) eV1:=yQ 1 hN hv hd hcd
def zC (hN:X.N[2]?=some x:=by rfl)(hv:!29:=by exact visQ rfl)(hd:!17:=by decide)(hcd:!28:=by decide):PF X (.Name x pos) eV2:=yQ 2 hN hv hd hcd
def yE (hN:X.N[3]?=some x:=by rfl)(hv:!29:=by exact visQ rfl)(hd:!17:=by decide)(hcd:!28:=by decide):PF X (.Name x pos) eV3:=yQ 3 hN hv hd hcd
def wV {P:kh}(S:FnScope N P sc)(x:Str)(j4:kh)(hp:PFI X (!15) iter gi)(hi:∀C s₀ H₀ fp,zRh (vH X ([x]++j4) scope C s₀ H₀ fp) ifs t)(he:∀C s₀ H₀ fp,PF (vH X ([x]++j4) scope C s₀ H₀ fp) elt el)(hok:(kN sc scope N [x] j4 js&&decide ([x]++j4).Nodup)=true:=by decide +kernel) (hc:!23:=by rfl) (hsc:X.env.scope=sc:=by rfl) (hNN:X.N=N:=by rfl) (hs:∀x,foldedSetIterable iter X.env x=pure x:=by intro _;rfl):PFr X (.ListComp elt [⟨.Name x p1,iter,ifs,0⟩] scope pos)<|yH gi 1 js (gN 0) t el:=by obtain⟨h1,h2⟩:=Wb.mp hok;have l:=(tK h1).2.2.2.2.1 x<|Qb.mpr rfl;exact cR sc N [x] j4 js (cB 0) hp hc hsc hNN h1 (λC s₀ H₀ fp=>have l':(vH X ([x]++j4) scope C s₀ H₀ fp).env.scope.names.lookup x=some .local:=(mK x scope.names).trans (by rw[l];rfl);xM 0 (Eh h2) rfl (.inl l') (.inr l')) hi he hs
def wQ {f g:Sf}(h:f O=some (.nx O')):zF f g O=g O':=by unfold zF;rw[h];rfl
def yM {f g:Sf}(h:f O=some (.nx O'))(k:(g O').bind vR=r):(zF f g O).bind vR=r:=by rw[wQ h];exact k
def zZu {f g:Sf}(h:f O=some (.rt d)):zF f g O=some (.rt d):=by unfold zF;rw[h];rfl
def wL {g:Gf}{r:kd}{ρ1 ρ2:kj}(h1:g d O=some ρ1)(h2:body ρ1=some (.nx ρ2)):uC g body (d::r) O=uC g body r ρ2:=by rw[uC,h1,Qr,h2,Qr]
def zM (h1:f O=some d)(h2:g O=some ds):zY f g O=some (d::ds):=by unfold zY;rw[h1,h2];rfl
def vN (h:g O=some ds):eL g O=some (.lst ds):=by unfold eL;rw[h];rfl
def zZY {f:jz}(h:g O=some ds)(hl:ds.length=n):yZ n f g O=f ds:=by unfold yZ;rw[h,Qr,Qh hl]
def zRL {c:Str}{f:kd->ka}(h:g O=some ds)(hl:ds.length=n)(hf:f ds=some xs)(hn:ns.length=xs.length):nE c ns n f g O=some (.obj c ns xs):=by unfold nE;rw[h,Qr,Qh hl,hf,Qr,Qh hn]
theorem zWl {g:Gf}{body:Sf}{P:kj->Prop}:∀(ds:kd),(∀d∈ds,∀O,P O->∃ρ1 ρ2,g d O=some ρ1/\body ρ1=some (.nx ρ2)/\P ρ2)->∀O,P O->∃O',uC g body ds O=some (.nx O')/\P O'
 | [],_,O,h=>⟨O,J,h⟩
 | d::r,hs,O,h=>by obtain⟨ρ1,ρ2,e1,e2,h2⟩:=hs d Qf O h;obtain⟨O',e,h'⟩:=zWl r (λd hd=>hs d<|Qp _ hd) ρ2 h2;exact⟨O',by rw[wL e1 e2];exact e,h'⟩
theorem cI {g:Gf}{body:Sf}{P:Nat->kj->Prop}:∀(ds:kd) (n:Nat),(∀(i:Nat) (d:D),ds[i]?=some d->∀O,P (n+i) O->∃ρ1 ρ2,g d O=some ρ1/\body ρ1=some (.nx ρ2)/\P (n+i+1) ρ2)->∀O,P n O->∃O',uC g body ds O=some (.nx O')/\P (n+ds.length) O'
 | [],_,_,O,h=>⟨O,J,h⟩
 | d::r,n,hs,O,h=>by
  obtain⟨ρ1,ρ2,e1,e2,h2⟩:=hs 0 d J O h;obtain⟨O',e,h'⟩:=cI r (n+1) (λi d hd O hO=>by have q:=hs (i+1) d (!6) O jc;rw[show n+_+1=n+1+i+1 by lia] at q;exact q) ρ2 h2
  exact⟨O',by rw[wL e1 e2];exact e,by rw[Qk,show n+_=n+1+r.length by lia];exact h'⟩
def zVV (h:d∈tS lo n):∃i:Nat,i < n/\d = .int (lo+i):=by obtain⟨i,hi,rfl⟩:=v7 h;exact⟨i,Tx.mp hi,J⟩
def fZ (h:(tS lo n)[i]?=some d):i < n/\d = .int (lo+i):=by
 have hl:(tS lo n).length=n:=by simp[tS]
 have hi:i < n:=by rw[<-hl];exact(v5 h).1
 unfold tS at h;simp_all
def pI (lo:Int)(n:Nat):(tS lo n).length=n:=by simp[tS]
theorem zXq {elt:Ef}{h:D->D}{rest:kj}:∀(ds:kd) (x0:B) (j7:kd),(∀d∈ds,elt (.fz d::rest)=some (h d))->uB (gN 0) tOK elt ds (x0::rest) j7=some (j7++ds.map h)
 | [],_,j7,_=>by simp[uB]
 | d::r,x0,j7,hh=>by unfold uB;have e1:gN 0 d (x0::rest)=some (.fz d::rest):=rfl;have e2:tOK (.fz d::rest)=some true:=rfl;rw[e1,Qr,e2,Qr,hh d Qf,Qr,zXq r _ _ λq hq=>hh q<|Qp _ hq];simp
theorem zXy {α:Type}(p:α->Bool):∀l:List α,zSv (l.map λc=>.bl<|p c)=some (l.map p)
 | []=>rfl
 | x::r=>by rw[Qx,zSv,zXy p r];rfl
def uL {t:kd}(h:t.length<=100000):okL t=some t:=by unfold okL;rw[Qh h]
def mV (xs:List α)(i:Int)(d:α)(h0:0<=i)(h1:i < xs.length):atI xs i=some (xs.getD i.toNat d):=by unfold atI ixN;simp_all
def zX8 {β:Type}(f:α->β)(xs:List α)(i:Int):atI (xs.map f) i=(atI xs i).map f:=by
 unfold atI;rw[Qy];cases ixN _ i with
 | none=>rfl
 | some j=>simp
def eZ {i:Int}(h1 : -18446744073709551616 < i)(h2:i < 18446744073709551616):zXW i j=true:=by unfold zXW;simp only[To,Qm,Wo];exact .inl ⟨jc,jc⟩
def zTf {i:Int}(h1 : -18446744073709551616 < j)(h2:j < 18446744073709551616):zXW i j=true:=by unfold zXW;simp only[To,Qm,Wo];exact .inr ⟨jc,jc⟩
def zPR (h:x.length+y.length<=100000):zGu (.str x) (.str y)=some (.str<|x++y):=by show(if _+_<=lim then _ else none)=_;rw[Qh h]
def zHE {i:Int}(h0:0<=i)(h1:i < x.length)(h:x.length<=100000):atD (.str x) (.int i)=some (.str ⟨#[x.cps.toList.getD i.toNat 0]⟩):=by have hl:x.cps.toList.length=_:=Ou;show(if _<=lim then _ else none)=_;rw[Qh h,mV _ i 0 h0 (!6)];rfl
end L2
variable{x y:Int}{lo:ki}{elt:Ef}
namespace My
abbrev zYR:r9:=top 55
abbrev fO:r9:=top 60
abbrev dS:r9:=top 59
abbrev aP:r9:=top 57
abbrev bD:r9:=top 56
abbrev dZ:r9:=top 58
abbrev zPT:r9:=top 22
abbrev gA:r9:=top 23
abbrev aM:r9:=top 26
abbrev zYP:r9:=top 27
abbrev qV:r9:=yT (top 52) 10
abbrev qA:r9:=top 50
abbrev kX:r9:=top 49
abbrev zZ9:r9:=top 48
abbrev oG:r9:=top 25
abbrev zWO:r9:=top 29
abbrev zVK:r9:=top 28
abbrev zV5:r9:=top 20
abbrev zXG:r9:=top 14
abbrev zZF:r9:=top 12
abbrev zY7:r9:=top 19
abbrev cZ:r9:=top 47
abbrev zVC:r9:=top 46
abbrev zSQ:r9:=top 13
abbrev kL:r9:=top 18
abbrev nF:r9:=top 45
abbrev gS:r9:=yT (top 52) 13
abbrev zYB:r9:=top 39
abbrev zQq:r9:=top 32
abbrev zOc:r9:=top 33
abbrev nZ:r9:=top 34
abbrev aD:r9:=top 37
abbrev kP:r9:=top 35
abbrev eR:r9:=yT (top 43) 1
abbrev aZ:r9:=yT (top 52) 12
abbrev aJ:r9:=yT (top 52) 1
abbrev dO:r9:=top 71
abbrev gW:r9:=top 67
abbrev rM:r9:=top 40
abbrev nL:r9:=yT (top 43) 3
abbrev sB:r9:=top 41
abbrev qJ:r9:=yT (top 43) 4
abbrev nO:r9:=yT (top 52) 9
abbrev dL:r9:=top 70
abbrev aQ:r9:=top 54
abbrev zY4:r9:=top 61
abbrev zYD:r9:=top 62
abbrev aI:r9:=top 63
abbrev kR:r9:=top 65
abbrev oR:r9:=yT (top 52) 11
abbrev iX:r9:=yT (top 52) 4
abbrev zZV:r9:=top 38
abbrev pB:r9:=top 36
abbrev iH:r9:=yT (top 43) 2
abbrev eB:r9:=yT (top 52) 3
abbrev dD:r9:=yT (top 52) 2
abbrev bA:r9:=top 66
abbrev zYX:r9:=top 64
abbrev zJw:r9:=top 72
abbrev zTs:r9:=yT (top 16) 0
abbrev zWX:r9:=yT (top 17) 0
abbrev zTt:r9:=yT (top 31) 0
abbrev zWz:r9:=yT (top 43) 0
abbrev zT7:r9:=yT (top 52) 0
set_option genInjectivity false
set_option genSizeOf false
set_option genSizeOfSpec false
structure Txt (K:jk)(mg:Str->kn) where
 q0:FnT K mg BZ zYR [A2,B1,"_law_prime"]
 q1:FnT K mg BC fO [A2,Ac]
 q2:FnT K mg BB dS [A2]
 q3:FnT K mg BM aP [BQ,Ac]
 q4:FnT K mg BL bD [Av,Ac]
 q5:FnT K mg BA dZ [A2,Ac]
 q6:FnT K mg Cn zPT [Ab,Af]
 q7:FnT K mg B3 gA [Ab,Af,"place"]
 q8:FnT K mg B7 aM [A9,Ab,Af]
 q9:FnT K mg Bh zYP [A9,Ab,Af]
 q11:FnT K mg Bp qA [Ai,CB]
 q12:FnT K mg Bo kX [Ai,"at"]
 q13:FnT K mg Cv zZ9 [Ai,"gap"]
 q14:FnT K mg AX oG [Cl,BP]
 q15:FnT K mg By zWO ["one",AZ]
 q16:FnT K mg Bw zVK [A9]
 q17:FnT K mg Bv zV5 [Am,AL,"number"]
 q18:FnT K mg BV zXG ["one",AZ]
 q19:FnT K mg Bu zZF [AK,Aj]
 q20:FnT K mg Bg zY7 [Am,BH,"digit"]
 q21:FnT K mg Cp cZ [Bn,Aj]
 q22:FnT K mg Cu zVC [Am,A9,BH,Bn,Ao]
 q23:FnT K mg BU zSQ [Ab]
 q24:FnT K mg AR kL [Ab]
 q25:FnT K mg AJ nF [Am,Af,A9]
 q27:FnT K mg Bi zYB [Ci]
 q28:FnT K mg Co zQq [A8]
 q29:FnT K mg CG zOc ["branch",A8]
 q30:FnT K mg AY nZ [Ah,A8]
 q31:FnT K mg B8 aD [As,A5,Ae]
 q32:FnT K mg AS kP [Ah,A8,Ae]
 q36:FnT K mg BE dO [A2]
 q37:FnT K mg Bq gW [B1,CD]
 q38:FnT K mg Ay rM [Ah]
 q40:FnT K mg Aw sB [Ah,Ao,AO]
 q43:FnT K mg BD dL [AN,AB]
 q44:FnT K mg BK aQ [B0,AQ]
 q45:FnT K mg C5 zY4 [A2,Ac,Ar,B1]
 q46:FnT K mg C6 zYD [A2,Ac,Ar]
 q47:FnT K mg BN aI [A2,Ac,Ar,Bb]
 q48:FnT K mg Bc kR [CF]
 q51:FnT K mg Bz zZV [Ci,Ae]
 q52:FnT K mg AC pB [Ah,A8,Ae]
 q56:FnT K mg BO bA [AN,Ak]
 q57:FnT K mg C7 zYX [AB,Ak,Bf]
 q58:FnT K mg "law" zJw [B0]
 C0:qu
 c0:ClT K mg AW Br zTs [A0,Aj,AK,AL] [AL,Aj,AK] C0
 C1:qu
 c1:ClT K mg An Bj zWX [A0,A6,Ab,B4,AD] [Ab,B4,A6,AD] C1
 C2:qu
 c2:ClT K mg A3 Bs zTt [A0,As,A5] [As,AH,AG,A5] C2
 C3:qu
 c3:ClT K mg Ad Bl zWz [A0,Ae] [AM,Ae] C3
 C4:qu
 c4:ClT K mg A1 Ca zT7 [A0,Am,Af,Ae] [BX,Am,Af,Ct] C4
 m10:MeT K C4 AA BR qV [A0,A9]
 m26:MeT K C4 Ai Cz gS [A0,A9]
 m33:MeT K C3 Ap Ck eR [A0,A8]
 m34:MeT K C4 "lay" CM aZ [A0,A6,A9]
 m35:MeT K C4 Ap CL aJ [A0,A6,A9]
 m39:MeT K C3 BF BG nL [A0]
 m41:MeT K C3 B9 Bm qJ [A0,Ao,AO]
 m42:MeT K C4 Cq Cf nO [A0]
 m49:MeT K C4 Az Cb oR [A0,A6]
 m50:MeT K C4 Bd Cy iX [A0,A6]
 m53:MeT K C3 Ax C9 iH [A0,A8]
 m54:MeT K C4 Ax CI eB [A0,A6]
 m55:MeT K C4 AF CH dD [A0,A6,A9]
 X0:qu
 x0:XcT K mg At X0
 X1:qu
 x1:XcT K mg AT X1
 X2:qu
 x2:XcT K mg Au X2
 X3:qu
 x3:XnT K mg Cd X3
 X4:qu
 x4:XnT K mg BT X4
 X5:qu
 x5:XnT K mg Ba X5
 X6:qu
 x6:XnT K mg BS X6
 X7:qu
 x7:XnT K mg Ce X7
 X8:qu
 x8:XnT K mg AV X8
 ix_ValueError:dY K (.type AE) [(X0,true),(X1,true),(X2,true)]=true
 ix_OffFloor:dY K (.ref X0) [(X0,true),(X1,false),(X2,false)]=true
 ix_NoThing:dY K (.ref X2) [(X0,false),(X1,false),(X2,true)]=true
 ix_Twice:dY K (.ref X1) [(X0,false),(X1,true),(X2,false)]=true
 iy_0:zQT K (zSw [X3,X4,X5,X6,X7]) [(X0,false),(X1,false),(X2,false)]=true
 em_YardError_OffFloor:PySem.W.exmOne K (.ref X0) (.ref X8)=some true
 em_YardError_Twice:PySem.W.exmOne K (.ref X1) (.ref X8)=some true
 em_YardError_NoThing:PySem.W.exmOne K (.ref X2) (.ref X8)=some true
 zz:∀y∈([AE,"all","enumerate","int","isinstance","len","list","max","min","range","sorted","str","tuple","zip"]:kh),mg y=none
set_option genInjectivity true
set_option genSizeOf true
set_option genSizeOfSpec true
section
seal PySem.Sem.wp
def pY:kh:=[At,AT,Au]
def bQ:qp:=[(At,true),(AT,true),(Au,true)]
def zWf (T:!3):IsxOk K (.type AE) bQ:=have h:=T.ix_ValueError;(uN T.x0.ca T.x0.xk h λh=>(uN T.x1.ca T.x1.xk h λh=>(uN T.x2.ca T.x2.xk h λh=>zXI)))
def zYv:qp:=[(At,true),(AT,false),(Au,false)]
def zSR (T:!3):IsxOk K (.ref T.X0) zYv:=have h:=T.ix_OffFloor;(uN T.x0.ca T.x0.xk h λh=>(uN T.x1.ca T.x1.xk h λh=>(uN T.x2.ca T.x2.xk h λh=>zXI)))
def zWj:qp:=[(At,false),(AT,false),(Au,true)]
def zQM (T:!3):IsxOk K (.ref T.X2) zWj:=have h:=T.ix_NoThing;(uN T.x0.ca T.x0.xk h λh=>(uN T.x1.ca T.x1.xk h λh=>(uN T.x2.ca T.x2.xk h λh=>zXI)))
def zSj:qp:=[(At,false),(AT,true),(Au,false)]
def zMT (T:!3):IsxOk K (.ref T.X1) zSj:=have h:=T.ix_Twice;(uN T.x0.ca T.x0.xk h λh=>(uN T.x1.ca T.x1.xk h λh=>(uN T.x2.ca T.x2.xk h λh=>zXI)))
def zEa:qp:=[(At,false),(AT,false),(Au,false)]
def zEm (T:!3):IsyOk K (zSw [T.X3,T.X4,T.X5,T.X6,T.X7]) zEa:=have h:=T.iy_0;(zVA T.x0.ca T.x0.xk h λh=>(zVA T.x1.ca T.x1.xk h λh=>(zVA T.x2.ca T.x2.xk h λh=>zI7)))
def zVw (T:!3):ExOk K T.X8 pY:=⟨⟨T.X0,T.x0.ca,T.em_YardError_OffFloor⟩,⟨⟨T.X1,T.x1.ca,T.em_YardError_Twice⟩,⟨⟨T.X2,T.x2.ca,T.em_YardError_NoThing⟩,True.intro⟩⟩⟩
def zLW:FnScope [A0,Aj,AK,AL] [A0,Aj,AK,AL]<|zV zTs:=yI ja
def zIl:Lf:=(zY eV1<|zY eV2<|zY eV3 zS)
def zXE:kd->ka:=λds=>zIl<|kD 4 ds
def zRD (T:!3):FnOk P w K mg base CX0 1 T.c0.t.f T.c0.t.fd [A0,Aj,AK,AL] (spI K T.C0 [Aj,AK,AL] 3 zXE) :=zSV (k:=0) T.c0.t.F zLW ja jb λ_ _ _ _ _ _ hr=>(vA T.c0.cl (T.c0.n _ ja) J (Or.inl J) zQ<|vA T.c0.cl (T.c0.n _ ja) rfl (Or.inl J) zC<|vA T.c0.cl (T.c0.n _ ja) rfl (Or.inl J) yE zXB)
def zNG:FnScope [A0,A6,Ab,B4,AD] [A0,A6,Ab,B4,AD]<|zV zWX:=yI ja
def zJ0:Lf:=(zY eV1<|zY eV2<|zY eV3<|zY (eL<|zXL eV4) zS)
def zX1:kd->ka:=λds=>zJ0<|kD 5 ds
def zUY (T:!3):FnOk P w K mg base CX0 1 T.c1.t.f T.c1.t.fd [A0,A6,Ab,B4,AD] (spI K T.C1 [A6,Ab,B4,AD] 4 zX1) :=zSV (k:=0) T.c1.t.F zNG ja jb λ_ _ _ _ _ _ hr=>(vA T.c1.cl (T.c1.n _ ja) J (Or.inl J) zQ<|vA T.c1.cl (T.c1.n _ ja) rfl (Or.inl J) zC<|vA T.c1.cl (T.c1.n _ ja) rfl (Or.inl J) yE<|vA T.c1.cl (T.c1.n _ ja) rfl (Or.inl J) (wC<|zU1 rfl (!2)<|yQ 4) zXB)
def fW:FnScope [A0,As,A5,"lasts"] [A0,As,A5]<|zV zTt:=yI ja
def zTc:Lf:=(λO=>((eIf (tB1 eV1) (eL<|yH (iL eV2) 1 [] (gN 0) tOK<|eIx eV0 jq)<|eL<|yH (iL eV2) 1 [] (gN 0) tOK<|yK A3 AG eV0) O).bind λd=>(zY eV1<|zY eV2<|zY (eIf (tB1 eV1) eV2<|eL<|yH (iL eV2) 1 [] (gN 0) tOK<|eIx (yK A3 AH eV0) jp)<|zY (zNP<|iL eV3) zS)<|O.set 3<|.fz d)
def nX:kd->ka:=λds=>zTc<|kD 4 ds
def jV (T:!3):FnOk P w K mg base CX0 1 T.c2.t.f T.c2.t.fd [A0,As,A5] (spI K T.C2 [As,A5,AH,AG] 2 nX) :=zJ1 (k:=0) T.c2.t.F fW ja jb λ_ _ _ _ _ _ hr=>(zIn 3 fW.nd (zQR (wP zQ) (wC<|wV fW A8 [] (zZe zC) (λ_ _ _ _=>xT) λ_ _ _ _=>(yY zR zX))<|wC<|wV fW Ah [] (zZe zC) (λ_ _ _ _=>xT) λ_ _ _ _=>(yD T.c2 zR))<|vA T.c2.cl (T.c2.n _ ja) rfl (Or.inl J) zQ<|vA T.c2.cl (T.c2.n _ ja) rfl (Or.inl J) zC<|vA T.c2.cl (T.c2.n _ ja) rfl (Or.inl J) (zQR (wP zQ) zC<|wC<|wV fW Ah [] (zZe zC) (λ_ _ _ _=>xT) λ_ _ _ _=>(yY (yD T.c2 zR) zX))<|vA T.c2.cl (T.c2.n _ ja) rfl (Or.inl J) (zHP J J (!2)<|fU yE) zXB)
def zNH:FnScope [A0,Ae] [A0,Ae]<|zV zWz:=yI ja
def zMo:Lf:=(zY eV1<|zY (nE A3 [As,A5,AH,AG] 2 nX<|zY (eC<|.bl true)<|zY (eL<|xJ zS) zS) zS)
def zRs:kd->ka:=λds=>zMo<|kD 2 ds
def zNy (T:!3):FnOk P w K mg base CX0 3 T.c3.t.f T.c3.t.fd [A0,Ae] (spI K T.C3 [Ae,AM] 1 zRs) :=zSV (k:=2) T.c3.t.F zNH ja jb λ_ _ _ _ _ _ hr=>(vA T.c3.cl (T.c3.n _ ja) J (Or.inl J) zQ<|vA T.c3.cl (T.c3.n _ ja) rfl (Or.inl J) (qE T.c2.ca T.c2.k (jV T) (!11) T.c2.mc T.c2.t.b rfl<|zZ sX<|zZ (wC<|y0 zW) zW) zXB)
def zJn:FnScope [A0,Am,Af,Ae] [A0,Am,Af,Ae]<|zV zT7:=yI ja
def zWe:jz:=zEu [Ae,AM] zRs
theorem zUb (T:!3):FnOk P w K mg base CX0 5 T.c4.t.f T.c4.t.fd [A0,Am,Af,Ae] (zGG K T.C4 3 zWe) :=zJy (k:=4) T.c4.t.F zJn J T.c4.ca T.c4.cl (T.c4.n _ ja) (T.c4.n _ ja) (T.c4.n _ ja) (T.c4.n _ ja) T.c3.ca T.c3.k (zNy T) T.c3.mc T.c3.t.b jc
def zW3:FnScope [A2,B1,"_law_prime",Av] [A2,B1,"_law_prime"]<|zV zYR:=yI ja
def zYj:Sf:=(xQ<|wM (xO (gB eV3 eV3)<|eC<|.int 998244353) jt)
def xK:jz:=fnF 4<|zF (yJ 3<|xO (gB (wD (wD (wD (xO eV0 eV2)<|eC<|.int 12345)<|gB (gB (eC<|.int 31) eV1) eV1) eV1)<|eC<|.int 48271) eV2)<|zYj
def vY (T:!3):OkT P w base T.q0 1 3 xK :=wR (k:=0) T.q0.F zW3 λ_ _ _ _ _ _ hr=>(zT (zK 3 zW3.nd<|xX (mI (xS (xS (xS (xX zR zC) zX)<|mI (mI zX zQ) zQ) zQ) zX) zC)<|zU<|yV<|xD (xX (mI yE yE) zX) zX)
def zZQ:FnScope [A2,Ac,Av] [A2,Ac]<|zV fO:=yI ja
def kU:Sf:=(xQ<|eIx (eL<|xJ<|zY jp<|zY jq<|zY jq<|zY jq zS)<|xO eV2 ju)
def fG:jz:=fnF 3<|zF (yJ 2<|yZ 3 xK<|zY eV0<|zY (eC<|.int 31)<|zY (eC<|.int 1000033) zS)<|zF (sIf (eB2 gEq eV1 jr) (xQ<|eIx (eL<|xJ<|zY jp<|zY jq<|zY jr<|zY jr<|zY jr zS)<|xO eV2 jv) vU)<|kU
def zTL (T:!3):OkT P w base T.q1 2 2 fG :=wR (k:=1) T.q1.F zZQ λ_ _ _ _ _ _ hr=>(zT (zK 2 zZQ.nd<|xP (vY T) hr<|zZ zR<|zZ zX<|zZ zX zW)<|zT (xV (yL sV zQ zX) (zU<|yV<|yY (wC<|y0<|zZ zX<|zZ zX<|zZ zX<|zZ zX<|zZ zX zW)<|xX zC zX) yO)<|zU<|yV<|yY (wC<|y0<|zZ zX<|zZ zX<|zZ zX<|zZ zX zW)<|xX zC zX)
def wO:FnScope [A2,"_law_letters",Av,"_law_size","_law_at","_law_fill",Bb,AQ,"_law_sign"] [A2]<|zV dS:=yI ja
def nH:Sf:=(sIf (eB2 gEq (xO (wM eV2<|eC<|.int 4000) jt) jq) (zYT 6<|sW (eV 8)<|bI eV5<|xO (sW (wM eV2<|eC<|.int 12)<|gB jv eV7)<|eC<|.int 12)<|zYT 6<|sW (sW (bI eV5 eV4)<|eV 8)<|bI eV5<|vG (vG eV3 jq) eV4)
def mZ:Sf:=(zF (yJ 8<|eIx eV1<|xO (sW (wM eV2<|eC<|.int 12000)<|gB jt eV7)<|eC<|.int 26)<|nH)
def pZ:Sf:=(zF (sIf (eB2 gEq (xO (wM eV2<|eC<|.int 4000) jt) jp) (xQ<|eL<|yH (iR jx) 1 [5,2] (gN 0) tOK<|bI eV1<|sW (sW eV0 jq)<|xO eV2 jw) vU)<|zF (mF 6<|xJ zS)<|zF (vQ (iR jx) (gN 7)<|mZ)<|zUI 6)
def kK:Sf:=(zF (yJ 1<|eC<|.str Cj)<|zF (yJ 2<|yZ 3 xK<|zY eV0<|zY (eC<|.int 30)<|zY (eC<|.int 1000003) zS)<|zF (yJ 3<|sW jq<|xO eV2<|eC<|.int 12)<|zF (yJ 4<|xO (wM eV2<|eC<|.int 12) eV3)<|zF (yJ 5<|eIx eV1<|xO (wM eV2<|eC<|.int 150)<|eC<|.int 26)<|pZ)
def dR:jz:=fnF 9 kK
def zTj (T:!3):OkT P w base T.q2 2 1 dR :=wR (k:=1) T.q2.F wO λ_ _ _ _ _ _ hr=>(zO kK J (zK 1 wO.nd xR)<|zT (zK 2 wO.nd<|xP (vY T) hr<|zZ zR<|zZ zX<|zZ zX zW)<|zT (zK 3 wO.nd<|mC zX<|xX zC zX)<|zT (zK 4 wO.nd<|xX (xD zC zX) yE)<|zT (zK 5 wO.nd<|yY zQ<|xX (xD zC zX) zX)<|zO pZ rfl (xV (yL sV (xX (xD zC zX) zX) zX) (zU<|yV<|wC<|wV wO AQ ["_law_fill",Av] (aK J (!2) zX) (λ_ _ _ _=>xT) λ_ _ _ _=>(zX4 zQ<|mC (mC zR zX)<|xX zC zX)) yO)<|zT (mS 6 wO.nd<|y0 zW)<|zT (wY We J (aK J (!2) zX) (xM 7 wO.nd)<|zO mZ rfl (zK 8 wO.nd<|yY zQ<|xX (mC (xD zC zX)<|mI zX<|yQ 7) zX)<|zU<|xV (yL sV (xX (xD zC zX) zX) zX) (zU<|eY 6<|pE Wq Ew Ee tP (pv 6)<|yS (mC (yQ 8)<|zX4 (yQ 5)<|xX (mC (xD zC zX)<|mI zX<|yQ 7) zX) yF)<|zU<|eY 6<|pE Wq Ew Ee tP (pv 6)<|yS (mC (mC (zX4 (yQ 5)<|yQ 4)<|yQ 8)<|zX4 (yQ 5)<|vW (vW yE zX)<|yQ 4) yF)<|zU<|zX5 6)
def rY:FnScope [BQ,Ac,"_law_corner","_law_signs","_law_turn_here",AQ] [BQ,Ac]<|zV aP:=yI ja
def zW0:jz:=fnF 6<|zF (yJ 2<|xA<|eL<|yH (iS<|zPQ eV0 oNo<|vJ eV1) 1 [] (gN 0) tOK<|aR eV0)<|zF (yJ 3<|zPQ eV0 (vJ eV1) oNo)<|zF (mF 4<|xJ zS)<|zF (vQ (iR eV1) (gN 5)<|zYT 4<|vZ<|zY (zTH (eC<|.str "xyz")<|eIx eV3<|wD (gB jr eV5) jq)<|zY (aR<|sE<|eB2 gEq (eIx eV3<|gB jr eV5)<|eC<|.str "-") zS)<|zY9 4<|xQ<|nE AW [Aj,AK,AL] 3 zXE<|zY eV2<|zY (xA eV4)<|zY (eC<|.bl false) zS
def zQQ (T:!3):OkT P w base T.q3 3 2 zW0 :=wR (k:=2) T.q3.F rY λ_ _ _ _ _ _ hr=>(zT (zK 2 rY.nd<|wG rfl (!2)<|wC<|wV rY "_law_sign" [] (zD5<|zTY zR lP<|qW zQ) (λ_ _ _ _=>xT) λ_ _ _ _=>(zV8 J (!2) zR))<|zT (zK 3 rY.nd<|zTY zR (qW zQ) lP)<|zT (mS 4 rY.nd<|y0 zW)<|zT (wY We J (aK J (!2) zQ) (xM 5 rY.nd)<|zU<|eY 4<|pE Wq Ew Ee tP (pv 4)<|yS (xY<|zZ (zN6<|pE PySem.F.plainAttrs_str PySem.F.slot_str_index PySem.F.type_str_index zNl xR<|yS (yY yE<|xS (mI zX<|yQ 5) zX) yF)<|zZ (zV8 J (!2)<|kM sV (yY yE<|mI zX<|yQ 5) xR) zW) yF)<|zU<|iE 4<|yV<|qE T.c0.ca T.c0.k (zRD T) (!11) T.c0.mc T.c0.t.b rfl<|zZ zC<|zZ (wG J (!2)<|yQ 4)<|zZ sX zW)
def mB:FnScope [Av,Ac,"_law_axes"] [Av,Ac]<|zV bD:=yI ja
def oH:Sf:=(zF (sIf (eB2 gEq eV1 jt) (yJ 2<|eIx (eL<|xJ<|zY (vZ<|zY jp<|zY jq<|zY jr zS)<|zY (vZ<|zY jp<|zY jr<|zY jq zS)<|zY (vZ<|zY jq<|zY jp<|zY jr zS)<|zY (vZ<|zY jq<|zY jr<|zY jp zS)<|zY (vZ<|zY jr<|zY jp<|zY jq zS)<|zY (vZ<|zY jr<|zY jq<|zY jp zS) zS)<|xO eV0 jw) vU)<|xQ<|xA<|eL<|yH (iR eV1) 1 [2,0] (gN 0) tOK<|vZ<|zY (eIx eV1 eV0)<|zY (zFA (zFj (wM eV2 jw) eV0) jq) zS)
def iK:jz:=fnF 3<|zF (yJ 2<|eIx (eL<|xJ<|zY (vZ<|zY jp<|zY jq zS)<|zY (vZ<|zY jq<|zY jp zS) zS)<|xO eV0 jr)<|oH
def zRP (T:!3):OkT P w base T.q4 1 2 iK :=wR (k:=0) T.q4.F mB λ_ _ _ _ _ _ hr=>(zT (zK 2 mB.nd<|yY (wC<|y0<|zZ (xY<|zZ zX<|zZ zX zW)<|zZ (xY<|zZ zX<|zZ zX zW) zW)<|xX zR zX)<|zO oH rfl (xV (yL sV zQ zX) (zU<|zK 2 mB.nd<|yY (wC<|y0<|zZ (xY<|zZ zX<|zZ zX<|zZ zX zW)<|zZ (xY<|zZ zX<|zZ zX<|zZ zX zW)<|zZ (xY<|zZ zX<|zZ zX<|zZ zX zW)<|zZ (xY<|zZ zX<|zZ zX<|zZ zX zW)<|zZ (xY<|zZ zX<|zZ zX<|zZ zX zW)<|zZ (xY<|zZ zX<|zZ zX<|zZ zX zW) zW)<|xX zR zX) yO)<|zU<|yV<|wG rfl (!2)<|wC<|wV mB AQ ["_law_axes",Av] (aK J (!2) zQ) (λ_ _ _ _=>xT) λ_ _ _ _=>(xY<|zZ (yY zQ zR)<|zZ (zOm (zMf (xD zC zX) zR) zX) zW))
def xF:FnScope [A2,Ac,"_law_text","_law_left","_law_m","_law_parts",AQ,Av,"_law_corner"] [A2,Ac]<|zV dZ:=yI ja
def fF:Sf:=(zYT 3<|xA<|eL<|yH (iR eV1) 1 [4] (gN 0) tOK<|zFA (zFj eV1 eV0) jq)
def mR:Sf:=(zF (zFu 8 3<|xO eV7<|zSc 3)<|zYT 5<|nE AW [Aj,AK,AL] 3 zXE<|zY (eV 8)<|zY (yZ 2 iK<|zY (wM eV7 jy) (!13))<|zY (sE<|eB2 gEq (xO (wM eV7<|eC<|.int 512) jr) jq) zS)
def tV:Sf:=(zF (yJ 7<|yZ 3 xK<|zY eV0<|zY eV6<|zY (eC<|.int 1000033) zS)<|mR)
def kG:Sf:=(zF (mF 3<|xJ zS)<|zF (vQ (iR<|zWo jq eV1) (gN 4)<|fF)<|zF (mF 5<|xJ zS)<|zF (vQ (iR<|zWo jq eV1) (gN 6)<|tV)<|zY9 5<|xQ<|nE An [A6,Ab,B4,AD] 4 zX1<|zY (eC<|.str "loose")<|zY eV1<|zY (eC<|.bl false)<|zY eV5 zS)
def qG:Sf:=(zF (sIf (eB2 gEq (xO (yZ 3 xK<|zY eV0<|zY (eC<|.int 40)<|zY (eC<|.int 1000003) zS) jt) jp) (zF (yJ 2<|eC<|.str "00+y+x 01+x+y 11+x+y 10-y-x")<|zF (sIf (eB2 gEq eV1 jt) (yJ 2<|eC<|.str "000+y+x+z 010+y+z+x 011+x+y+z 001-y-z+x 101+y-z-x 111+x+y+z 110-y+z-x 100-y-x+z") vU)<|xQ<|nE An [A6,Ab,B4,AD] 4 zX1<|zY (eC<|.str "base")<|zY eV1<|zY (eC<|.bl true)<|zY (eL<|yH (zKN eV2<|eC<|.str " ") 1 [1] (gN 0) tOK<|yZ 2 zW0<|zY eV0 (!13)) zS) vU)<|kG)
def lS:jz:=fnF 9 qG
def zZm (T:!3):OkT P w base T.q5 4 2 lS :=wR (k:=3) T.q5.F xF λ_ _ _ _ _ _ hr=>(zO qG J (xV (yL sV (xX (xP (vY T) hr<|zZ zR<|zZ zX<|zZ zX zW) zX) zX) (zT (zK 2 xF.nd xR)<|zT (xV (yL sV zQ zX) (zU<|zK 2 xF.nd xR) yO)<|zU<|yV<|qE T.c1.ca T.c1.k (zUY T) (!11) T.c1.mc T.c1.t.b rfl<|zZ xR<|zZ zQ<|zZ sX<|zZ (wC<|wV xF BQ [Ac] (zQK<|zJp<|pE PySem.F.plainAttrs_str PySem.F.slot_str_split PySem.F.type_str_split zK5 zC<|yS xR yF) (λ_ _ _ _=>xT) λ_ _ _ _=>(xP (zQQ T) hr<|zZ zR<|zZ zQ zW)) zW) yO)<|zO kG rfl (mS 3 xF.nd<|y0 zW)<|zT (wY We J (aK J (!2)<|zY5 zX zQ) (xM 4 xF.nd)<|zU<|eY 3<|pE Wq Ew Ee tP (pv 3)<|yS (wG J (!2)<|wC<|wV xF AQ ["_law_m"] (aK J (!2) zQ) (λ_ _ _ _=>xT) λ_ _ _ _=>(zOm (zMf zQ zR) zX)) yF)<|zT (mS 5 xF.nd<|y0 zW)<|zT (wY We J (aK J (!2)<|zY5 zX zQ) (xM 6 xF.nd)<|zO tV rfl (zK 7 xF.nd<|xP (vY T) hr<|zZ zR<|zZ (yQ 6)<|zZ zX zW)<|zO mR rfl (zIs 8 3 xF.nd<|pE Wq PySem.F.slot_list_pop PySem.F.type_list_pop zKy (pv 3)<|yS (xX (yQ 7)<|zO2 3 rfl (!2)) yF)<|zU<|eY 5<|pE Wq Ew Ee tP (pv 5)<|yS (qE T.c0.ca T.c0.k (zRD T) (!11) T.c0.mc T.c0.t.b rfl<|zZ (yQ 8)<|zZ (xP (zRP T) hr<|zZ (xD (yQ 7) zX)<|zZ zQ zW)<|zZ (kM sV (xX (xD (yQ 7) zX) zX) zX) zW) yF)<|zU<|iE 5<|yV<|qE T.c1.ca T.c1.k (zUY T) (!11) T.c1.mc T.c1.t.b rfl<|zZ xR<|zZ zQ<|zZ sX<|zZ (yQ 5) zW)
def zXD:FnScope [Ab,Af,"places","halving"] [Ab,Af]<|zV zPT:=yI ja
def zY8:Sf:=(yJ 2<|gB eV2 jr)
def zV3:Sf:=(zF (yJ 2 jq)<|zF (vQ (iR<|gB eV0 eV1) (gN 3)<|zY8)<|xQ eV2)
def zS5:jz:=fnF 4 zV3
def zOz (T:!3):OkT P w base T.q6 1 2 zS5 :=wR (k:=0) T.q6.F zXD λ_ _ _ _ _ _ hr=>(zO zV3 J (zK 2 zXD.nd zX)<|zT (wY We J (aK J (!2)<|mI zR zQ) (xM 3 zXD.nd)<|zU<|zK 2 zXD.nd<|mI zC zX)<|zU<|yV zC)
def iP:FnScope [Ab,Af,"place","side"] [Ab,Af,"place"]<|zV gA:=yI ja
def bR:Sf:=(xQ<|zSn (sE<|eB2 gEq (uV eV2) eV0)<|zNq<|eL<|yH (iT eV2) 1 [3] (gN 0) tOK<|sE<|eB3 gLe gLt jp eV0 eV1)
def kJ:Sf:=(zF (yJ 3<|yZ 2 zS5<|zY jq (!13))<|bR)
def lD:jz:=fnF 4 kJ
def zZ7 (T:!3):OkT P w base T.q7 2 3 lD :=wR (k:=1) T.q7.F iP λ_ _ _ _ _ _ hr=>(zO kJ J (zK 3 iP.nd<|xP (zOz T) hr<|zZ zX<|zZ zQ zW)<|zU<|yV<|zLf (kM sV (uK J (!2) zC) zR)<|zQl<|zKf rfl rfl (!2)<|wC<|wV iP "along" ["side"] (zMz zC) (λ_ _ _ _=>xT) λ_ _ _ _=>(zKs zXu zUw zX zR zQ))
def eG:FnScope [A9,Ab,Af,Cl,BP] [A9,Ab,Af]<|zV aM:=yI ja
def zZr:Sf:=(xQ<|zSn (yZ 3 lD<|zY eV1<|zY eV2<|zY eV3 zS)<|yZ 3 lD<|zY eV1<|zY eV2<|zY eV4 zS)
def jG:Sf:=(zF (zYQ eV0<|gT<|zB (gN 3)<|zB (gN 4) xC)<|zZr)
def jD:jz:=fnF 5 jG
def zYi (T:!3):OkT P w base T.q8 3 3 jD :=wR (k:=2) T.q8.F eG λ_ _ _ _ _ _ hr=>(zO jG J (lZ zR<|iY 2 rfl (zA (xM 3 eG.nd)<|zA (xM 4 eG.nd) xG)<|yN<|yN wB)<|zU<|yV<|zLf (xP (zZ7 T) hr<|zZ zQ<|zZ zC<|zZ yE zW)<|zQl<|xP (zZ7 T) hr<|zZ zQ<|zZ zC<|zZ (yQ 4) zW)
def zPu:FnScope [A9,Ab,Af] [A9,Ab,Af]<|zV zYP:=yI ja
def dI:Sf:=(sIf (tT<|tB1<|yZ 3 jD<|zY eV0<|zY eV1<|zY eV2 zS) (λ_=>none) vU)
def zUR:Sf :=(dI)
def zYH:jz:=fnF 3 zUR
def jC:kj->kf:=(xIf (tT<|tB1<|yZ 3 jD<|zY eV0<|zY eV1<|zY eV2 zS) (zYL At zPX) zF0)
def zZd:kd->kf:=fnX 3 jC
def zXj (T:!3):FnOk P w K mg base (CXq P w) 4 T.q9.f T.q9.fd [A9,Ab,Af] (spQ K 3 zYH zZd) :=aT (N:=[A9,Ab,Af]) (ps:=[A9,Ab,Af]) (k:=3) (body:=zUR) (xb:=jC) T.q9.F zPu (λj9 A outer s H E hr=>(zU<|xV (uD<|wP<|xP (zYi T) hr<|zZ zR<|zZ zQ<|zZ zC zW) (zU zVF) yO)) λj9 A outer s H E hr=>(sJ<|zLS (uD<|wP<|xP (zYi T) hr<|zZ zR<|zZ zQ<|zZ zC zW) (sJ<|zYZ T.x0.ca T.x0.xc rfl T.x0.mc T.x0.kc rfl rfl zTV zEr) zOx)
def zZL:FnScope [A0,A9] [A0,A9]<|zV qV:=yI ja
def sD:Sf:=(dH<|yZ 3 zYH<|zY eV1<|zY (yK An Ab<|yK A1 Am eV0)<|zY (yK A1 Af eV0) zS)
def kB:Sf :=(sD)
def uY:jz:=fnF 2 kB
def uF:kj->kf:=(zLX 3 zZd<|zY eV1<|zY (yK An Ab<|yK A1 Am eV0)<|zY (yK A1 Af eV0) zS)
def uZ:kd->kf:=fnX 2 uF
def uE (T:!3):FnOk P w K mg base (CXq P w) 5 T.m10.f T.m10.fd [A0,A9] (spQ K 2 uY uZ) :=aT (N:=[A0,A9]) (ps:=[A0,A9]) (k:=4) (body:=kB) (xb:=uF) T.m10.F zZL (λj9 A outer s H E hr=>(zU<|dX<|zJt (zXj T) (!11) T.q9.m T.q9.F.kp T.q9.b rfl<|zZ zQ<|zZ (yD T.c1<|yD T.c4 zR)<|zZ (yD T.c4 zR) zW)) λj9 A outer s H E hr=>(sJ<|zZS<|zMi (zXj T) cN (!11) T.q9.m T.q9.F.kp T.q9.b rfl<|zZ zQ<|zZ (yD T.c1<|yD T.c4 zR)<|zZ (yD T.c4 zR) zW)
def dB:FnScope [Ai,CB,"ends"] [Ai,CB]<|zV qA:=yI ja
def gL:Sf:=(tG<|yH (zNR (eL<|gE (xJ<|zY jp zS)<|iL eV1) eV2) 2 [0] (gT<|zB (gN 0)<|zB (gN 1) xC) tOK<|vZ<|zY (eIx (eIx eV2 eV0) jp)<|zY (eIx (eIx eV2<|vG eV1 jq) jq) zS)
def oX:Sf:=(zF (yJ 2<|eL<|gE (iL eV1)<|xJ<|zY (uV eV0) zS)<|gL)
def sR:Sf:=(zF (sIf (tT<|zPI eV0) (tG<|xJ zS) vU)<|oX)
def kY:kd->ka:=fnL 3 sR
def zWw (T:!3):zMA P w base T.q11 1 2 kY :=kO (k:=0) T.q11.F dB λ_ _ _ _ _ _ hr=>(zO sR J (xV (uD<|zZU zR) (zU<|sP<|y0 zW) yO)<|zO oX rfl (zK 2 dB.nd<|wC<|cL (fU zQ)<|zWh<|y0<|zZ (uK J (!2) zR) zW)<|zU<|sP<|cR (zV qA) [Ai,CB,"ends"] ["start","end"] [Ai] [0] (zN1<|uO (cB 0)<|uO (cB 1) cP) (zOF J (!2) (wC<|cL (zWh<|y0<|zZ zX zW)<|fU zQ) zC) rfl rfl rfl ja (λ_ _ _ _=>(iY 2 J (zA (xM 0<|show(J0 ["start","end",Ai]) from ja)<|zA (xM 1<|show(J0 ["start","end",Ai]) from ja) xG)<|yN<|yN wB)) (λ_ _ _ _=>xT) λ_ _ _ _=>(xY<|zZ (yY (yY zC zR) zX)<|zZ (yY (yY zC<|vW zQ zX) zX) zW))
def zWH:FnScope [Ai,"at"] [Ai,"at"]<|zV kX:=yI ja
def oW:Sf:=(xQ<|vG (vG (eIx (eIx eV0 eV1) jp)<|eIx (eIx eV0<|vG eV1 jq) jq) jq)
def qF:jz:=fnF 2 oW
def zWy (T:!3):OkT P w base T.q12 1 2 qF :=wR (k:=0) T.q12.F zWH λ_ _ _ _ _ _ hr=>(zU<|yV<|vW (vW (yY (yY zR zQ) zX)<|yY (yY zR<|vW zQ zX) zX) zX)
def zUD:FnScope [Ai,"gap",CB] [Ai,"gap"]<|zV zZ9:=yI ja
def zXs:Sf:=(zY9 2<|tG<|sU 2 kY<|zY eV0<|zY eV2 zS)
def hZ:Sf:=(zF (mF 2<|yH (iR2 jq<|uV eV0) 1 [1,0] (gN 0) (eB2 gGt (yZ 2 qF<|zY eV2<|zY eV0 zS) eV1) eV0)<|zXs)
def zV9:kd->ka:=fnL 3 hZ
def zM2 (T:!3):zMA P w base T.q13 2 2 zV9 :=kO (k:=1) T.q13.F zUD λ_ _ _ _ _ _ hr=>(zO hZ J (iW (zV zZ9) [Ai,"gap",CB] ["at"] ["gap",Ai] [1,0] (cB 0) 2 zUD.nd rfl rfl (zEJ J (!2) zX<|uK rfl (!2) zR) rfl rfl rfl ja (λ_ _ _ _=>(xM 0<|show(J0 ["at","gap",Ai]) from ja)) (λ_ _ _ _=>(nV<|yL zGX (xP (zWy T) hr<|zZ zC<|zZ zR zW) zQ)) λ_ _ _ _=>zR)<|zU<|iE 2<|sP<|zTn (zWw T) hr<|zZ zR<|zZ zC zW)
def zVg:FnScope [Cl,BP] [Cl,BP]<|zV oG:=yI ja
def nB:Sf:=(xQ<|zNq<|eL<|yH (zWR eV0 eV1) 2 [] (gT<|zB (gN 0)<|zB (gN 1) xC) tOK<|sE<|eB2 gLe eV0 eV1)
def jH:jz:=fnF 2 nB
def zVo (T:!3):OkT P w base T.q14 1 2 jH :=wR (k:=0) T.q14.F zVg λ_ _ _ _ _ _ hr=>(zU<|yV<|zKf rfl rfl (!2)<|wC<|cR (zV oG) [Cl,BP] [Ch,AG] [] [] (zN1<|uO (cB 0)<|uO (cB 1) cP) (zT8 J (!2) zR zQ) rfl rfl rfl ja (λ_ _ _ _=>(iY 2 J (zA (xM 0<|show(J0 [Ch,AG]) from ja)<|zA (xM 1<|show(J0 [Ch,AG]) from ja) xG)<|yN<|yN wB)) (λ_ _ _ _=>xT) λ_ _ _ _=>(kM zXu zR zQ))
def jI:FnScope ["one",AZ,Cl,BP] ["one",AZ]<|zV zWO:=yI ja
def zWE:Sf:=(xQ<|eIf (tB1<|yZ 2 jH<|zY eV2<|zY eV3 zS) (vZ<|zY eV2<|zY eV3 zS)<|eC .non)
def zV1:jz:=fnF 4<|zF (yJ 2<|xA<|eL<|yH (zWR (eIx eV0 jp)<|eIx eV1 jp) 1 [] (gN 0) tOK<|zGU eV0)<|zF (yJ 3<|xA<|eL<|yH (zWR (eIx eV0 jq) (!20)) 1 [] (gN 0) tOK<|zGN eV0)<|zWE
def zNL (T:!3):OkT P w base T.q15 2 2 zV1 :=wR (k:=1) T.q15.F jI λ_ _ _ _ _ _ hr=>(zT (zK 2 jI.nd<|wG rfl (!2)<|wC<|wV jI "pair" [] (zPd J (!2) (yY zR zX)<|yY zQ zX) (λ_ _ _ _=>xT) λ_ _ _ _=>(zHx J J (!2) zR))<|zT (zK 3 jI.nd<|wG rfl (!2)<|wC<|wV jI "pair" [] (zPd J (!2) (yY zR zX)<|yY zQ zX) (λ_ _ _ _=>xT) λ_ _ _ _=>(zIg J J (!2) zR))<|zU<|yV<|zQR (wP<|xP (zVo T) hr<|zZ zC<|zZ yE zW) (xY<|zZ zC<|zZ yE zW) zTR)
def qR:FnScope [A9,Cl,BP,"places",Ch,AG] [A9]<|zV zVK:=yI ja
def eS:Sf:=(yJ 3<|zSq eV3<|wD (vG eV5 eV4) jq)
def aV:Sf:=(zF (zYQ eV0<|gT<|zB (gN 1)<|zB (gN 2) xC)<|zF (yJ 3 jq)<|zF (vQ (zWR eV1 eV2) (gT<|zB (gN 4)<|zB (gN 5) xC)<|eS)<|xQ eV3)
def fL:jz:=fnF 6 aV
def zVb (T:!3):OkT P w base T.q16 1 1 fL :=wR (k:=0) T.q16.F qR λ_ _ _ _ _ _ hr=>(zO aV J (lZ zR<|iY 2 rfl (zA (xM 1 qR.nd)<|zA (xM 2 qR.nd) xG)<|yN<|yN wB)<|zT (zK 3 qR.nd zX)<|zT (wY We J (zT8 J (!2) zQ zC) (iY 2 J (zA (xM 4 qR.nd)<|zA (xM 5 qR.nd) xG)<|yN<|yN wB)<|zU<|zK 3 qR.nd<|zSI yE<|xS (vW (yQ 5)<|yQ 4) zX)<|zU<|yV yE)
def zMB:FnScope [Am,AL,"number"] [Am,AL,"number"]<|zV zV5:=yI ja
def aU:Sf:=(xQ<|eIf (tB1 eV1) (vG (vG (uV<|yK An AD eV0) jq) eV2) eV2)
def zWY:jz:=fnF 3 aU
def zNe (T:!3):OkT P w base T.q17 1 3 zWY :=wR (k:=0) T.q17.F zMB λ_ _ _ _ _ _ hr=>(zU<|yV<|zQR (wP zQ) (vW (vW (uK J (!2)<|yD T.c1 zR) zX) zC) zC)
def zKk:FnScope ["one",AZ] ["one",AZ]<|zV zXG:=yI ja
def zZg:Sf:=(xQ<|xA<|eL<|yH (iT eV0) 2 [1] (gT<|zB (gN 0)<|zB (gN 1) xC) tOK<|vZ<|zY (eIx (eIx eV2 eV0) jp)<|zY (zGJ (eIx (eIx eV2 eV0) jq) eV1) zS)
def zT3:jz:=fnF 2 zZg
def zMq (T:!3):OkT P w base T.q18 1 2 zT3 :=wR (k:=0) T.q18.F zKk λ_ _ _ _ _ _ hr=>(zU<|yV<|wG rfl (!2)<|wC<|cR (zV zXG) ["one",AZ] [CK,"flip"] [AZ] [1] (zN1<|uO (cB 0)<|uO (cB 1) cP) (zMz zR) rfl rfl rfl ja (λ_ _ _ _=>(iY 2 J (zA (xM 0<|show(J0 [CK,"flip",AZ]) from ja)<|zA (xM 1<|show(J0 [CK,"flip",AZ]) from ja) xG)<|yN<|yN wB)) (λ_ _ _ _=>xT) λ_ _ _ _=>(xY<|zZ (yY (yY zC zR) zX)<|zZ (zKx (yY (yY zC zR) zX) zQ) zW))
def zNw:FnScope [AK,Aj] [AK,Aj]<|zV zZF:=yI ja
def aF:Sf:=(xQ<|xA<|eL<|yH (iT eV0) 2 [1] (gT<|zB (gN 0)<|zB (gN 1) xC) tOK<|zGJ (eIx eV2 eV0) eV1)
def zXk:jz:=fnF 2 aF
def zNK (T:!3):OkT P w base T.q19 1 2 zXk :=wR (k:=0) T.q19.F zNw λ_ _ _ _ _ _ hr=>(zU<|yV<|wG rfl (!2)<|wC<|cR (zV zZF) [AK,Aj] [CK,"flip"] [Aj] [1] (zN1<|uO (cB 0)<|uO (cB 1) cP) (zMz zR) rfl rfl rfl ja (λ_ _ _ _=>(iY 2 J (zA (xM 0<|show(J0 [CK,"flip",Aj]) from ja)<|zA (xM 1<|show(J0 [CK,"flip",Aj]) from ja) xG)<|yN<|yN wB)) (λ_ _ _ _=>xT) λ_ _ _ _=>(zKx (yY zC zR) zQ))
def nQ:FnScope [Am,BH,"digit",AK,AL,"part",BW] [Am,BH,"digit"]<|zV zY7:=yI ja
def zYg:Sf:=(xQ<|vZ<|zY (yZ 2 zXk<|zY eV3<|zY (yK AW Aj eV5) zS)<|zY eV6 zS)
def eT:Sf:=(zF (zYQ eV1<|gT<|zB (gN 3)<|zB (gN 4) xC)<|zF (yJ 5<|eIx (yK An AD eV0)<|yZ 3 zWY<|zY eV0<|zY eV4<|zY eV2 zS)<|zF (yJ 6<|vZ<|zY (yZ 2 zT3<|zY eV3<|zY (yK AW AK eV5) zS)<|zY (sE<|eB2 gNe eV4<|yK AW AL eV5) zS)<|zYg)
def cY:jz:=fnF 7 eT
def zPU (T:!3):OkT P w base T.q20 2 3 cY :=wR (k:=1) T.q20.F nQ λ_ _ _ _ _ _ hr=>(zO eT J (lZ zQ<|iY 2 rfl (zA (xM 3 nQ.nd)<|zA (xM 4 nQ.nd) xG)<|yN<|yN wB)<|zT (zK 5 nQ.nd<|yY (yD T.c1 zR)<|xP (zNe T) hr<|zZ zR<|zZ (yQ 4)<|zZ zC zW)<|zT (zK 6 nQ.nd<|xY<|zZ (xP (zMq T) hr<|zZ yE<|zZ (yD T.c0<|yQ 5) zW)<|zZ (kM zSb (yQ 4)<|yD T.c0<|yQ 5) zW)<|zU<|yV<|xY<|zZ (xP (zNK T) hr<|zZ yE<|zZ (yD T.c0<|yQ 5) zW)<|zZ (yQ 6) zW)
def sF:FnScope [Bn,Aj,Cl,BP,CA,"near","far"] [Bn,Aj]<|zV cZ:=yI ja
def eO:Sf:=(zF (zYQ eV0<|gT<|zB (gN 2)<|zB (gN 3) xC)<|zF (yJ 4<|wM (wD (vG (eIx eV3 jp)<|eIx eV2 jp) jq) jr)<|zF (yJ 5<|xA<|eL<|yH (zWR eV2 eV1) 2 [4] (gT<|zB (gN 0)<|zB (gN 1) xC) tOK<|wD eV0<|zSq eV2 eV1)<|zF (yJ 6<|xA<|eL<|yH (iT eV5) 1 [4] (gN 0) tOK<|vG (wD eV0 eV1) jq)<|xQ<|vZ<|zY eV5<|zY eV6 zS)
def zYK:jz:=fnF 7 eO
def zQ1 (T:!3):OkT P w base T.q21 1 2 zYK :=wR (k:=0) T.q21.F sF λ_ _ _ _ _ _ hr=>(zO eO J (lZ zR<|iY 2 rfl (zA (xM 2 sF.nd)<|zA (xM 3 sF.nd) xG)<|yN<|yN wB)<|zT (zK 4 sF.nd<|xD (xS (vW (yY yE zX)<|yY zC zX) zX) zX)<|zT (zK 5 sF.nd<|wG rfl (!2)<|wC<|cR (zV cZ) [Bn,Aj,Cl,BP,CA,"near","far"] ["along","bit"] [CA] [4] (zN1<|uO (cB 0)<|uO (cB 1) cP) (zT8 J (!2) zC zQ) rfl rfl rfl ja (λ_ _ _ _=>(iY 2 J (zA (xM 0<|show(J0 ["along","bit",CA]) from ja)<|zA (xM 1<|show(J0 ["along","bit",CA]) from ja) xG)<|yN<|yN wB)) (λ_ _ _ _=>xT) λ_ _ _ _=>(xS zR<|zSI zC zQ))<|zT (zK 6 sF.nd<|wG rfl (!2)<|wC<|wV sF "along" [CA] (zMz<|yQ 5) (λ_ _ _ _=>xT) λ_ _ _ _=>(vW (xS zR zQ) zX))<|zU<|yV<|xY<|zZ (yQ 5)<|zZ (yQ 6) zW)
def qK:FnScope [Am,A9,BH,Bn,Ao,"shared","step","told","digit",Aj,BW] [Am,A9,BH,Bn,Ao]<|zV zVC:=yI ja
def zYn (self:kd->ka):Sf:=(zVj 7<|sU 5 self<|zY eV0<|zY eV5<|zY (eV 10)<|zY (yZ 2 zYK<|zY eV3<|zY (eV 9) zS)<|zY (wD eV4<|zSq (eV 8) eV6) zS)
def eQ (self:kd->ka):Sf:=(zF (zYQ (yZ 3 cY<|zY eV0<|zY eV2<|zY (eV 8) zS)<|gT<|zB (gN 9)<|zB (gN 10) xC)<|zYn self)
def zP0 (self:kd->ka):Sf:=(zUI 7)
def zWi (self:kd->ka):Sf:=(zF (vQ (iR<|uV<|yK An AD eV0) (gN 8)<|eQ self)<|zP0 self)
def zXg (self:kd->ka):Sf:=(zF (mF 7<|xJ zS)<|zWi self)
def zVO (self:kd->ka):Sf:=(zF (yJ 6<|zGP (yZ 1 fL<|zY eV3 zS)<|uV<|yK An AD eV0)<|zXg self)
def zVD (self:kd->ka):Sf:=(zF (sIf (eB2 zRq eV5 eV3) (tG<|xJ<|zY (vZ<|zY eV4<|zY (vG (wD eV4<|yZ 1 fL<|zY eV3 zS) jq) zS) zS) vU)<|zVO self)
def zWc (self:kd->ka):Sf:=(zF (sIf (eB2 zE8 eV5<|eC .non) (tG<|xJ zS) vU)<|zVD self)
def zWn (self:kd->ka):Sf:=(zF (yJ 5<|yZ 2 zV1<|zY eV1<|zY eV3 zS)<|zWc self)
def zS3 (self:kd->ka):Sf :=(zWn self)
def nU:Nat->kd->ka
 | 0=>λ_=>none
 | n+1=>fnL 11<|zS3<|nU n
abbrev zRM:kd->ka:=nU 9
def zPj (T:!3)(n:Nat)(self:kd->ka)(IH:FnOk P w K mg base CX0 (3+n) T.q22.f T.q22.fd [Am,A9,BH,Bn,Ao]<|spL K 5 self):FnOk P w K mg base CX0 (3+n+1) T.q22.f T.q22.fd [Am,A9,BH,Bn,Ao] (spL K 5<|fnL 11<|zS3 self) :=kO (k:=3+n) T.q22.F qK λ_ _ _ _ _ _ hr=>(zO (zWn self) J (zK 5 qK.nd<|xP (zNL T) hr<|zZ zQ<|zZ yE zW)<|zO (zWc self) rfl (xV (yL zG7 (yQ 5) zTR) (zU<|sP<|y0 zW) yO)<|zO (zVD self) rfl (xV (yL (zQs hr) (yQ 5) yE) (zU<|sP<|y0<|zZ (xY<|zZ (yQ 4)<|zZ (vW (xS (yQ 4)<|xP (zVb T) hr<|zZ yE zW) zX) zW) zW) yO)<|zO (zVO self) rfl (zK 6 qK.nd<|zHJ (xP (zVb T) hr<|zZ yE zW)<|uK rfl (!2)<|yD T.c1 zR)<|zO (zXg self) rfl (mS 7 qK.nd<|y0 zW)<|zO (zWi self) rfl (wY We J (aK J (!2)<|uK rfl (!2)<|yD T.c1 zR) (xM 8 qK.nd)<|zO (eQ self) rfl (lZ (xP (zPU T) hr<|zZ zR<|zZ zC<|zZ (yQ 8) zW)<|iY 2 rfl (zA (xM 9 qK.nd)<|zA (xM 10 qK.nd) xG)<|yN<|yN wB)<|zU<|zPm 7<|pE Wq Ye Yr zZc (pv 7)<|yS (zTn IH hr<|zZ zR<|zZ (yQ 5)<|zZ (yQ 10)<|zZ (xP (zQ1 T) hr<|zZ yE<|zZ (yQ 9) zW)<|zZ (xS (yQ 4)<|zSI (yQ 8)<|yQ 6) zW) yF)<|zU<|zX5 7)
theorem zVW (T:!3):∀n:Nat,FnOk P w K mg base CX0 (3+n) T.q22.f T.q22.fd [Am,A9,BH,Bn,Ao]<|spL K 5<|nU n
 | 0=>zYE
 | n+1=>zPj T n _<|zVW T n
def zM8 (T:!3):zMA P w base T.q22 12 5 zRM:=zVW T 9
def zQB:FnScope [Ab] [Ab]<|zV zSQ:=yI ja
def zNQ:jz:=fnF 1<|xQ<|xA<|eL<|yH (iR eV0) 1 [] (gN 0) tOK<|vZ<|zY eV0<|zY jp zS
def zKA (T:!3):OkT P w base T.q23 1 1 zNQ :=wR (k:=0) T.q23.F zQB λ_ _ _ _ _ _ hr=>(zU<|yV<|wG rfl (!2)<|wC<|wV zQB CK [] (aK J (!2) zR) (λ_ _ _ _=>xT) λ_ _ _ _=>(xY<|zZ zR<|zZ zX zW))
def zVI:FnScope [Ab] [Ab]<|zV kL:=yI ja
def kT:jz:=fnF 1<|xQ<|vZ<|zY (yZ 1 zNQ<|zY eV0 zS)<|zY (eC<|.bl false) zS
def zWd (T:!3):OkT P w base T.q24 2 1 kT :=wR (k:=1) T.q24.F zVI λ_ _ _ _ _ _ hr=>(zU<|yV<|xY<|zZ (xP (zKA T) hr<|zZ zR zW)<|zZ sX zW)
def oS:FnScope [Am,Af,A9,"edge",CJ] [Am,Af,A9]<|zV nF:=yI ja
def jS:Sf:=(tG<|sU 2 zV9<|zY (eL<|sU 5 zRM<|zY eV0<|zY eV2<|zY (yZ 1 kT<|zY (yK An Ab eV0) zS)<|zY eV4<|zY jp zS)<|zY jp zS)
def qL:Sf:=(zF (yJ 4<|vZ<|zY (zZy (vZ<|zY jp zS)<|yK An Ab eV0)<|zY (zZy (vZ<|zY eV3 zS)<|yK An Ab eV0) zS)<|jS)
def tM:Sf:=(zF (yJ 3<|vG (yZ 2 zS5<|zY jq (!13)) jq)<|qL)
def xE:kd->ka:=fnL 5 tM
def zXS (T:!3):zMA P w base T.q25 13 3 xE :=kO (k:=12) T.q25.F oS λ_ _ _ _ _ _ hr=>(zO tM J (zK 3 oS.nd<|vW (xP (zOz T) hr<|zZ zX<|zZ zQ zW) zX)<|zO qL rfl (zK 4 oS.nd<|xY<|zZ (zZG (xY<|zZ zX zW)<|yD T.c1 zR)<|zZ (zZG (xY<|zZ yE zW)<|yD T.c1 zR) zW)<|zU<|sP<|zTn (zM2 T) hr<|zZ (wC<|zTn (zM8 T) hr<|zZ zR<|zZ zC<|zZ (xP (zWd T) hr<|zZ (yD T.c1 zR) zW)<|zZ (yQ 4)<|zZ zX zW)<|zZ zX zW)
def zVi:FnScope [A0,A9] [A0,A9]<|zV gS:=yI ja
def mL:Sf:=(tG<|sU 3 xE<|zY (yK A1 Am eV0)<|zY (yK A1 Af eV0) (!13))
def tN:kd->ka:=fnL 2 mL
def kH (T:!3):FnOk P w K mg base CX0 14 T.m26.f T.m26.fd [A0,A9] (spL K 2 tN) :=kO (k:=13) T.m26.F zVi λ_ _ _ _ _ _ hr=>(zU<|sP<|zTn (zXS T) hr<|zZ (yD T.c4 zR)<|zZ (yD T.c4 zR)<|zZ zQ zW)
def bE:FnScope [Ci,AM] [Ci]<|zV zYB:=yI ja
def dF:Sf:=(zF (sIf (tT<|zPI eV0) (xQ<|nE A3 [As,A5,AH,AG] 2 nX<|zY (eC<|.bl true)<|zY (eL<|xJ zS) zS) vU)<|zF (yJ 1<|nE A3 [As,A5,AH,AG] 2 nX<|zY (eC<|.bl false)<|zY eV0 zS)<|zF (kZ (sZ (tT<|tB1<|yK A3 As eV1)<|eB2 gEq (uV<|yK A3 A5 eV1) jq) (yJ 1<|eIx (yK A3 A5 eV1) jp) 18)<|xQ eV1)
def cQ:jz:=fnF 2 dF
def zXn (T:!3):OkT P w base T.q27 3 1 cQ :=wR (k:=2) T.q27.F bE λ_ _ _ _ _ _ hr=>(zO dF J (xV (uD<|zZU zR) (zU<|yV<|qE T.c2.ca T.c2.k (jV T) (!11) T.c2.mc T.c2.t.b rfl<|zZ sX<|zZ (wC<|y0 zW) zW) yO)<|zT (zK 1 bE.nd<|qE T.c2.ca T.c2.k (jV T) (!11) T.c2.mc T.c2.t.b rfl<|zZ sX<|zZ zR zW)<|zT (zUc 18 We (zXT<|lT (uD<|wP<|yD T.c2 zQ)<|pM<|yL sV (uK J (!2)<|yD T.c2 zQ) zX)<|zU<|zK 1 bE.nd<|yY (yD T.c2 zQ) zX)<|zU<|yV zQ)
def zXH:FnScope [A8,Ao,AO,A6] [A8]<|zV zQq:=yI ja
def rK:jz:=fnF 4<|zF (zYQ eV0<|gT<|zB (gN 1)<|zB (gN 2)<|zB (gN 3) xC)<|xQ<|vZ<|zY eV1<|zY eV3 zS
def zZn (T:!3):OkT P w base T.q28 1 1 rK :=wR (k:=0) T.q28.F zXH λ_ _ _ _ _ _ hr=>(zT (lZ zR<|iY 3 rfl (zA (xM 1 zXH.nd)<|zA (xM 2 zXH.nd)<|zA (xM 3 zXH.nd) xG)<|yN<|yN<|yN wB)<|zU<|yV<|xY<|zZ zQ<|zZ yE zW)
def zLy:FnScope ["branch",A8,"ahead"] ["branch",A8]<|zV zOc:=yI ja
def zOs:Sf:=(xQ<|zHr (vG (zSc 2) jq) jp)
def zWQ:jz:=fnF 3<|zF (mF 2<|yH (iL<|yK A3 AH eV0) 1 [1] (gN 0) (eB2 zOb (yZ 1 rK<|zY eV0 zS)<|yZ 1 rK (!13)) eV0)<|zOs
def zQd (T:!3):OkT P w base T.q29 2 2 zWQ :=wR (k:=1) T.q29.F zLy λ_ _ _ _ _ _ hr=>(zT (iW (zV zOc) ["branch",A8,"ahead"] [Ch] [A8] [1] (cB 0) 2 zLy.nd J J (zZe<|yD T.c2 zR) J J J ja (λ_ _ _ _=>(xM 0<|show(J0 [Ch,A8]) from ja)) (λ_ _ _ _=>(nV<|yL (zH5 hr) (xP (zZn T) hr<|zZ zR zW)<|xP (zZn T) hr<|zZ zQ zW)) λ_ _ _ _=>zR)<|zU<|yV<|zKX rfl rfl (!2) (vW (zO2 2 J (!2)) zX) zX)
def kI:FnScope [Ah,A8,"alike"] [Ah,A8]<|zV nZ:=yI ja
def eD:Sf:=(zY9 2<|xQ<|eIf (zPI eV2) (eIx eV2 jp)<|eC .non)
def tH:jz:=fnF 3<|zF (kZ (tT<|tB1<|yK A3 As eV0) (yJ 0<|eIx (yK A3 A5 eV0)<|yZ 2 zWQ<|zY eV0 (!13)) 18)<|zF (mF 2<|yH (iL<|yK A3 A5 eV0) 1 [1] (gN 0) (eB2 zRq (yZ 1 rK<|zY eV0 zS)<|yZ 1 rK (!13)) eV0)<|eD
def bK (T:!3):OkT P w base T.q30 3 2 tH :=wR (k:=2) T.q30.F kI λ_ _ _ _ _ _ hr=>(zT (zUc 18 We (uD<|wP<|yD T.c2 zR)<|zU<|zK 0 kI.nd<|yY (yD T.c2 zR)<|xP (zQd T) hr<|zZ zR<|zZ zQ zW)<|zT (iW (zV nZ) [Ah,A8,"alike"] [AZ] [A8] [1] (cB 0) 2 kI.nd J J (zZe<|yD T.c2 zR) J J J ja (λ_ _ _ _=>(xM 0<|show(J0 [AZ,A8]) from ja)) (λ_ _ _ _=>(nV<|yL (zQs hr) (xP (zZn T) hr<|zZ zR zW)<|xP (zZn T) hr<|zZ zQ zW)) λ_ _ _ _=>zR)<|zU<|iE 2<|yV<|zQR (zZU zC) (yY zC zX) zTR)
def zYh:FnScope [As,A5,Ae,CA] [As,A5,Ae]<|zV aD:=yI ja
def zZp:Sf:=(xQ<|eL<|xJ<|zY (nE A3 [As,A5,AH,AG] 2 nX<|zY eV0<|zY (eL<|uR eV1 oNo<|vJ eV3) zS)<|zY (nE A3 [As,A5,AH,AG] 2 nX<|zY eV0<|zY (eL<|uR eV1 (vJ eV3) oNo) zS) zS)
def gX:Sf:=(zF (sIf (tT<|zPI eV1) (xQ<|eL<|xJ zS) vU)<|zF (sIf (eB2 gLe (uV eV1) eV2) (xQ<|eL<|xJ<|zY (nE A3 [As,A5,AH,AG] 2 nX<|zY eV0 (!13)) zS) vU)<|zF (yJ 3<|wM (uV eV1) jr)<|zZp)
def sC:jz:=fnF 4 gX
def pF (T:!3):OkT P w base T.q31 3 3 sC :=wR (k:=2) T.q31.F zYh λ_ _ _ _ _ _ hr=>(zO gX J (xV (uD<|zZU zQ) (zU<|yV<|wC<|y0 zW) yO)<|zT (xV (yL zXu (uK J (!2) zQ) zC) (zU<|yV<|wC<|y0<|zZ (qE T.c2.ca T.c2.k (jV T) (!11) T.c2.mc T.c2.t.b rfl<|zZ zR<|zZ zQ zW) zW) yO)<|zT (zK 3 zYh.nd<|xD (uK J (!2) zQ) zX)<|zU<|yV<|wC<|y0<|zZ (qE T.c2.ca T.c2.k (jV T) (!11) T.c2.mc T.c2.t.b rfl<|zZ zR<|zZ (wC<|sT zQ lP<|qW yE) zW)<|zZ (qE T.c2.ca T.c2.k (jV T) (!11) T.c2.mc T.c2.t.b rfl<|zZ zR<|zZ (wC<|sT zQ (qW yE) lP) zW) zW)
def nA:FnScope [Ah,A8,Ae,"at",BW] [Ah,A8,Ae]<|zV kP:=yI ja
def gO (self:jz):Sf:=(xQ<|yZ 3 sC<|zY (eC<|.bl false)<|zY (eL<|gE (gE (uR (yK A3 A5 eV0) oNo<|vJ eV3)<|iL eV4)<|uR (yK A3 A5 eV0) (vJ<|wD eV3 jq) oNo)<|zY eV2 zS)
def gP (self:jz):Sf:=(zF (yJ 4<|yZ 3 self<|zY (eIx (yK A3 A5 eV0) eV3)<|zY eV1<|zY eV2 zS)<|gO self)
def gM (self:jz):Sf:=(zF (yJ 3<|yZ 2 zWQ<|zY eV0 (!13))<|gP self)
def pA (self:jz):Sf:=(zF (sIf (tB1<|yK A3 As eV0) (xQ<|yZ 3 sC<|zY (eC<|.bl true)<|zY (eL<|zS6 rK<|gE (iL<|yK A3 A5 eV0)<|xJ (!13))<|zY eV2 zS) vU)<|gM self)
def bP (self:jz):Sf :=(pA self)
def rR:Nat->kd->qi
 | 0=>λ_=>none
 | n+1=>fnF 5<|bP<|rR n
abbrev bT:jz:=rR 16
def zYa (T:!3)(n:Nat)(self:jz)(IH:FnOk P w K mg base CX0 (7+n) T.q32.f T.q32.fd [Ah,A8,Ae]<|spF K 3 self):FnOk P w K mg base CX0 (7+n+1) T.q32.f T.q32.fd [Ah,A8,Ae] (spF K 3<|fnF 5<|bP self) :=wR (k:=7+n) T.q32.F nA λ_ _ _ _ _ _ hr=>(zO (pA self) J (xV (wP<|yD T.c2 zR) (zU<|yV<|xP (pF T) hr<|zZ sX<|zZ (wC<|zKJ (zZn T) hr rfl (!2)<|zWh<|cL (fU<|yD T.c2 zR)<|zWh<|y0<|zZ zQ zW)<|zZ zC zW) yO)<|zO (gM self) rfl (zK 3 nA.nd<|xP (zQd T) hr<|zZ zR<|zZ zQ zW)<|zO (gP self) rfl (zK 4 nA.nd<|xP IH hr<|zZ (yY (yD T.c2 zR) yE)<|zZ zQ<|zZ zC zW)<|zU<|yV<|xP (pF T) hr<|zZ sX<|zZ (wC<|zPs (cL (zWh<|sT (yD T.c2 zR) lP<|qW yE)<|fU<|yQ 4)<|sT (yD T.c2 zR) (qW<|xS yE zX) lP)<|zZ zC zW)
theorem gQ (T:!3):∀n:Nat,FnOk P w K mg base CX0 (7+n) T.q32.f T.q32.fd [Ah,A8,Ae]<|spF K 3<|rR n
 | 0=>zRE
 | n+1=>zYa T n _<|gQ T n
def zWp (T:!3):OkT P w base T.q32 23 3 bT:=gQ T 16
def zTe:FnScope [A0,A8] [A0,A8]<|zV eR:=yI ja
def pO:Tf:=(eB2 zPB (yZ 2 tH<|zY (bX 0 Ad AM) (!13))<|eC .non)
def lU:Ef:=(yZ 1 cQ<|zY (yZ 3 bT<|zY (bX 0 Ad AM)<|zY eV1<|zY (bX 0 Ad Ae) zS) zS)
def oE:kh->kd->kd->ka:=λns=>fnM 2 Ad ns AM pO lU
def zVl (T:!3)(ns:kh):FnOk P w K mg base CX0 24 T.m33.f T.m33.fd [A0,A8] (spM K Ad ns 1<|oE ns) :=zLd (N:=[A0,A8]) (ps:=[A8]) (k:=23) (tt:=pO) (fe:=lU) T.m33.F zTe T.c3.ca T.c3.cl (T.c3.n _ ja) J (λj9 A outer s H E hr=>(yL zJZ (xP (bK T) hr<|zZ (dA 0 T.c3.ca T.c3.cl<|T.c3.n _ ja)<|zZ zQ zW) zTR)) (λj9 A outer s H E hr=>(xP (zXn T) hr<|zZ (xP (zWp T) hr<|zZ (dA 0 T.c3.ca T.c3.cl<|T.c3.n _ ja)<|zZ zQ<|zZ (dA 0 T.c3.ca T.c3.cl<|T.c3.n _ ja) zW) zW)) rfl<|Or.inl rfl
def dW:FnScope [A0,A6,A9,Ao,AO] [A0,A6,A9]<|zV aZ:=yI ja
def kC:Sf:=(zPW 0 Ad Ap 1 oE<|zY (vZ<|zY eV3<|zY eV4 (!13)) zS)
def zZt:Sf:=(zKi 0 eV1 eV2)
def iZ:Sf:=(zF (vQ (iL<|oY 0 3<|eL<|pG A1 Ai 2 tN eV0<|zY eV2 zS) (gT<|zB (gN 3)<|zB (gN 4) xC)<|kC)<|zZt)
def zWZ:Kf:=(kOf<|iZ)
def lW:ko->D->kd->qc:=fnW 5 zWZ
def zZX (T:!3):FnOk P w K mg base CX0 25 T.m34.f T.m34.fd [A0,A6,A9] (spW K 2 lW) :=zYN (N:=[A0,A6,A9,Ao,AO]) (sf:=A0) (ps:=[A6,A9]) (k:=24) (f:=zWZ) T.m34.F dW λ_ _ _ _ _ _ hr=>(zSM<|zO iZ rfl (wY We J (zZe<|jT 0 3<|wC<|zWr T.c4.ca T.c4.cl T.m26.me (kH T) (!11) T.m26.b zR<|zZ zC zW) (iY 2 J (zA (xM 3 dW.nd)<|zA (xM 4 dW.nd) xG)<|yN<|yN wB)<|zU<|zQL 0 T.c4.ca T.c4.cl (T.c4.n _ ja) T.c3.ca T.c3.cl T.m33.me (zVl T) (!11) T.m33.b<|zZ (xY<|zZ yE<|zZ (yQ 4)<|zZ zQ zW) zW)<|zU<|zII 0 hr T.c4.ca T.c4.cl (T.c4.n _ ja) zC zQ)
def zY0:FnScope [A0,A6,A9] [A0,A6,A9]<|zV aJ:=yI ja
def gY:Sf:=(zF (dH<|oY 0 3<|oO A1 AA 2 uY eV0<|zY eV2 zS)<|qO 0 A1 "lay" 2 lW<|zY eV1<|zY eV2 zS)
def zVU:Kf:=(kOf<|zF (sIf (jE 0 3<|cA true eV1<|yK A1 BX eV0) (λ_=>none) vU)<|gY)
def uT:ko->D->kd->qc:=fnW 3 zVU
def zZB (T:!3):FnOk P w K mg base CX0 26 T.m35.f T.m35.fd [A0,A6,A9] (spW K 2 uT) :=zYN (N:=[A0,A6,A9]) (sf:=A0) (ps:=[A6,A9]) (k:=25) (f:=zVU) T.m35.F zY0 λ_ _ _ _ _ _ hr=>(zSM<|zT (xV (fA 0 3<|zQu hr zQ<|yD T.c4 zR) (zU zVF) yO)<|zO gY rfl (dX<|jT 0 3<|jW T.c4.ca T.c4.cl T.m10.me ((uE T).ans) (!11) T.m10.b zR<|zZ zC zW)<|zU<|nN 0 T.c4.ca T.c4.cl T.m34.me (zZX T) (!11) T.m34.b<|zZ zQ<|zZ zC zW)
def zQS:jz:=fnF 3 λ_=>none
def lY:kj->kf:=(zGz (cA true eV1<|yK A1 BX eV0) (zYL AT<|zX2 (qC "a thing ")<|zX2 (qS eV1)<|zX2 (qC " is there") zPX)<|pX A1 AA 2 uZ eV0<|zY eV2 zS)
def iG:kd->kf:=fnX 3 lY
def zSH (T:!3):FnOk P w K mg base (CXq P w) 26 T.m35.f T.m35.fd [A0,A6,A9] (spQ K 3 zQS iG) :=aT (N:=[A0,A6,A9]) (ps:=[A0,A6,A9]) (k:=25) (body:=λ_=>none) (xb:=lY) T.m35.F zY0 (λj9 A outer s H E hr=>zY3) λj9 A outer s H E hr=>(zMY (zQu hr zQ<|yD T.c4 zR) (sJ<|zYZ T.x1.ca T.x1.xc rfl T.x1.mc T.x1.kc rfl rfl zTV<|zRY (zLz zKB<|zLz (zGT zQ)<|zLz zKB zEs) rfl jb)<|sJ<|zZS<|dG T.c4.ca T.c4.cl T.m10.me (uE T) cN (!11) T.m10.b zR<|zZ zC zW)
def yC:FnScope [A2,Av,Ac,Ar,AN,AB,Cm,AQ,"_law_low","_law_long","_law_high","_law_name"] [A2]<|zV dO:=yI ja
def mG:Sf:=(zF (yJ 8<|xA<|eL<|yH (iR eV2) 1 [6,0,7] (gN 0) tOK<|xO (yZ 3 xK<|zY eV2<|zY (wD (wD (eC<|.int 90)<|gB jv eV3) eV0)<|zY (eC<|.int 1000033) zS) eV1)<|zF (sIf (sZ (eB2 gEq eV7 jq)<|eB2 gGt (xO (wM eV1<|eC<|.int 162) jt) jp) (yJ 8<|oY 5 2<|xA<|eL<|yH (iT<|eIx (dQ eV5<|eC<|.str "z") jp) 1 [6,1] (gN 0) tOK<|zXm (vG eV1 jq)<|wD eV0<|xO (wM eV2<|eC<|.int 486) jr) vU)<|zF (yJ 9<|eIx (eL<|xJ<|zY (xO (yZ 3 xK<|zY eV0<|zY (wD (eC<|.int 120) eV7)<|zY (eC<|.int 1000037) zS) jt)<|zY (vG (wM eV6 jr) jq) zS)<|aR<|sE<|eB2 gEq eV7 jr)<|zF (yJ 10<|xA<|eL<|yH (iT<|eV 8) 1 [6,9] (gN 0) tOK<|zXm (vG eV1 jq)<|wD eV0 eV2)<|zF (yJ 11<|eIx (eC<|.str "zyxw") eV7)<|zF (qO 4 A1 Ap 2 uT<|zY (eV 11)<|zY (vZ<|zY (eV 8)<|zY (eV 10) zS) zS)<|zUe 5 (eV 11)<|vZ<|zY (eV 8)<|zY (eV 10) zS)
def fE:jz:=fnF 12<|zF (yJ 1<|yZ 3 xK<|zY eV0<|zY (eC<|.int 80)<|zY (eC<|.int 1000003) zS)<|zF (yJ 2<|wD jr<|xO eV1 jr)<|zF (yJ 3<|eIx (eL<|xJ<|zY (wD ju<|xO (wM eV1 jr) jt)<|zY (wD jt<|xO (wM eV1 jr) jr) zS)<|vG eV2 jr)<|zF (zXz 4 3 zWe<|zY (yZ 2 lS<|zY (wM eV0 jv)<|zY eV2 zS)<|zY eV3<|zY (wD ju<|xO (wM eV1 jw)<|eC<|.int 9) zS)<|zF (zP1 5)<|zF (yJ 6<|zWo jq eV3)<|zF (vQ (iR<|wD jr<|xO (wM eV1<|eC<|.int 54) jt) (gN 7)<|mG)<|zKI 5<|zKI 4<|xQ<|vZ<|zY eV4<|zY eV5<|zY eV2<|zY eV3 zS
def zSU (T:!3):OkT P w base T.q36 27 1 fE :=wR (k:=26) T.q36.F yC λ_ _ _ _ _ _ hr=>(zT (zK 1 yC.nd<|xP (vY T) hr<|zZ zR<|zZ zX<|zZ zX zW)<|zT (zK 2 yC.nd<|xS zX<|xX zQ zX)<|zT (zK 3 yC.nd<|yY (wC<|y0<|zZ (xS zX<|xX (xD zQ zX) zX)<|zZ (xS zX<|xX (xD zQ zX) zX) zW)<|vW zC zX)<|zT (zQ7 4 yC.nd T.c4.k (zUb T) (!11) T.c4.mc T.c4.t.b rfl<|zZ (xP (zZm T) hr<|zZ (xD zR zX)<|zZ zC zW)<|zZ yE<|zZ (xS zX<|xX (xD zQ zX) zX) zW)<|zT (zRO 5 yC.nd)<|zT (zK 6 yC.nd<|zY5 zX yE)<|zT (wY We J (aK J (!2)<|xS zX<|xX (xD zQ zX) zX) (xM 7 yC.nd)<|zO mG rfl (zK 8 yC.nd<|wG rfl (!2)<|wC<|wV yC "_law_axis" [Cm,A2,AQ] (aK J (!2) zC) (λ_ _ _ _=>xT) λ_ _ _ _=>(xX (xP (vY T) hr<|zZ zC<|zZ (xS (xS zX<|mI zX yE) zR)<|zZ zX zW) zQ))<|zT (xV (zXT<|lT (yL sV (yQ 7) zX)<|pM<|yL zGX (xX (xD zQ zX) zX) zX) (zU<|zK 8 yC.nd<|jT 5 2<|wG rfl (!2)<|wC<|wV yC "_law_at" [Cm,Av] (zMz<|yY (zX9 hr (yQ 5) xR) zX) (λ_ _ _ _=>xT) λ_ _ _ _=>(zP8 J J (!2) (vW zQ zX)<|xS zR<|xX (xD zC zX) zX)) yO)<|zT (zK 9 yC.nd<|yY (wC<|y0<|zZ (xX (xP (vY T) hr<|zZ zR<|zZ (xS zX<|yQ 7)<|zZ zX zW) zX)<|zZ (vW (xD (yQ 6) zX) zX) zW)<|zV8 rfl (!2)<|kM sV (yQ 7) zX)<|zT (zK 10 yC.nd<|wG rfl (!2)<|wC<|wV yC "_law_at" [Cm,"_law_long"] (zMz<|yQ 8) (λ_ _ _ _=>xT) λ_ _ _ _=>(zP8 J J (!2) (vW zQ zX)<|xS zR zC))<|zT (zK 11 yC.nd<|yY xR<|yQ 7)<|zT (nN 4 T.c4.ca T.c4.cl T.m35.me (zZB T) (!11) T.m35.b<|zZ (yQ 11)<|zZ (xY<|zZ (yQ 8)<|zZ (yQ 10) zW) zW)<|zU<|zOv 5 hr (xY<|zZ (yQ 8)<|zZ (yQ 10) zW)<|yQ 11)<|zU<|zOQ 5<|zOQ 4<|yV<|xY<|zZ (yQ 4)<|zZ (yQ 5)<|zZ zC<|zZ yE zW)
def bV:FnScope [B1,CD,AQ] [B1,CD]<|zV gW:=yI ja
def sI:Sf:=(sIf (zPV (eB2 gLt (eIx (eIx eV0 jq) eV2)<|eIx (eIx eV1 jp) eV2)<|eB2 gLt (eIx (!20) eV2)<|eIx (eIx eV0 jp) eV2) (xQ<|eC<|.bl false) vU)
def eU:Sf:=(xQ<|eC<|.bl true)
def rS:jz:=fnF 3<|zF (vQ (iR<|uV<|eIx eV0 jp) (gN 2)<|sI)<|eU
def zVh (T:!3):OkT P w base T.q37 1 2 rS :=wR (k:=0) T.q37.F bV λ_ _ _ _ _ _ hr=>(zT (wY We J (aK J (!2)<|uK rfl (!2)<|yY zR zX) (xM 2 bV.nd)<|zU<|xV (zXT<|zTX (yL zUw (yY (yY zR zX) zC)<|yY (yY zQ zX) zC)<|zX7<|yL zUw (yY (yY zQ zX) zC)<|yY (yY zR zX) zC) (zU<|yV sX) yO)<|zU<|yV sX)
def sH:FnScope [Ah,"entries",BW] [Ah]<|zV rM:=yI ja
def tR (self:kd->ka):Sf:=(zVj 1<|sU 1 self<|zY eV2 zS)
def cE (self:kd->ka):Sf:=(zUI 1)
def oQ (self:kd->ka):Sf:=(zF (vQ (iL<|yK A3 A5 eV0) (gN 2)<|tR self)<|cE self)
def oP (self:kd->ka):Sf:=(zF (mF 1<|xJ zS)<|oQ self)
def vF (self:kd->ka):Sf:=(zF (sIf (tB1<|yK A3 As eV0) (tG<|zXL<|yK A3 A5 eV0) vU)<|oP self)
def lC (self:kd->ka):Sf :=(vF self)
def xL:Nat->kd->ka
 | 0=>λ_=>none
 | n+1=>fnL 3<|lC<|xL n
abbrev lJ:kd->ka:=xL 16
def cH (T:!3)(n:Nat)(self:kd->ka)(IH:FnOk P w K mg base CX0 (1+n) T.q38.f T.q38.fd [Ah]<|spL K 1 self):FnOk P w K mg base CX0 (1+n+1) T.q38.f T.q38.fd [Ah] (spL K 1<|fnL 3<|lC self) :=kO (k:=1+n) T.q38.F sH λ_ _ _ _ _ _ hr=>(zO (vF self) J (xV (wP<|yD T.c2 zR) (zU<|sP<|zU1 rfl (!2)<|yD T.c2 zR) yO)<|zO (oP self) rfl (mS 1 sH.nd<|y0 zW)<|zO (oQ self) rfl (wY We J (zZe<|yD T.c2 zR) (xM 2 sH.nd)<|zU<|zPm 1<|pE Wq Ye Yr zZc (pv 1)<|yS (zTn IH hr<|zZ zC zW) yF)<|zU<|zX5 1)
theorem oM (T:!3):∀n:Nat,FnOk P w K mg base CX0 (1+n) T.q38.f T.q38.fd [Ah]<|spL K 1<|xL n
 | 0=>zYE
 | n+1=>cH T n _<|oM T n
def aY (T:!3):zMA P w base T.q38 17 1 lJ:=oM T 16
def zXX:FnScope [A0] [A0]<|zV nL:=yI ja
def qT:Sf:=(tG<|sU 1 lJ<|zY (yK Ad AM eV0) zS)
def rV:kd->ka:=fnL 1 qT
def zXZ (T:!3):FnOk P w K mg base CX0 18 T.m39.f T.m39.fd [A0] (spL K 1 rV) :=kO (k:=17) T.m39.F zXX λ_ _ _ _ _ _ hr=>(zU<|sP<|zTn (aY T) hr<|zZ (yD T.c3 zR) zW)
def wH:FnScope [Ah,Ao,AO,"entries",Ch,BW] [Ah,Ao,AO]<|zV sB:=yI ja
def uI (self:kd->ka):Sf:=(sIf (sZ (eB2 gLe (eIx eV4 jp) eV2)<|eB2 gLe eV1<|yK A3 AG eV5) (zVj 3<|sU 3 self<|zY eV5<|zY eV1<|zY eV2 zS) vU)
def fM (self:kd->ka):Sf:=(zUI 3)
def pR (self:kd->ka):Sf:=(zF (vQ (zNR (yK A3 AH eV0)<|yK A3 A5 eV0) (gT<|zB (gN 4)<|zB (gN 5) xC)<|uI self)<|fM self)
def pT (self:kd->ka):Sf:=(zF (mF 3<|xJ zS)<|pR self)
def tZ (self:kd->ka):Sf:=(zF (sIf (tB1<|yK A3 As eV0) (tG<|yH (iL<|yK A3 A5 eV0) 1 [2,1] (gN 0) (sZ (eB2 gLe (eIx eV0 jp) eV1)<|eB2 gLe eV2<|eIx eV0 jq) eV0) vU)<|pT self)
def mH (self:kd->ka):Sf :=(tZ self)
def wF:Nat->kd->ka
 | 0=>λ_=>none
 | n+1=>fnL 6<|mH<|wF n
abbrev nC:kd->ka:=wF 16
def fQ (T:!3)(n:Nat)(self:kd->ka)(IH:FnOk P w K mg base CX0 (1+n) T.q40.f T.q40.fd [Ah,Ao,AO]<|spL K 3 self):FnOk P w K mg base CX0 (1+n+1) T.q40.f T.q40.fd [Ah,Ao,AO] (spL K 3<|fnL 6<|mH self) :=kO (k:=1+n) T.q40.F wH λ_ _ _ _ _ _ hr=>(zO (tZ self) J (xV (wP<|yD T.c2 zR) (zU<|sP<|wV wH A8 [AO,Ao] (zZe<|yD T.c2 zR) (λ_ _ _ _=>(nV<|zXT<|lT (yL zXu (yY zR zX) zQ)<|pM<|yL zXu zC<|yY zR zX)) λ_ _ _ _=>zR) yO)<|zO (pT self) rfl (mS 3 wH.nd<|y0 zW)<|zO (pR self) rfl (wY We J (zOF J (!2) (yD T.c2 zR)<|yD T.c2 zR) (iY 2 J (zA (xM 4 wH.nd)<|zA (xM 5 wH.nd) xG)<|yN<|yN wB)<|zU<|xV (zXT<|lT (yL zXu (yY (yQ 4) zX) zC)<|pM<|yL zXu zQ<|yD T.c2<|yQ 5) (zU<|zPm 3<|pE Wq Ye Yr zZc (pv 3)<|yS (zTn IH hr<|zZ (yQ 5)<|zZ zQ<|zZ zC zW) yF) yO)<|zU<|zX5 3)
theorem pK (T:!3):∀n:Nat,FnOk P w K mg base CX0 (1+n) T.q40.f T.q40.fd [Ah,Ao,AO]<|spL K 3<|wF n
 | 0=>zYE
 | n+1=>fQ T n _<|pK T n
def cD (T:!3):zMA P w base T.q40 17 3 nC:=pK T 16
def zZJ:FnScope [A0,Ao,AO] [A0,Ao,AO]<|zV qJ:=yI ja
def sA:Sf:=(tG<|sU 3 nC<|zY (yK Ad AM eV0)<|zY eV1<|zY eV2 zS)
def qM:kd->ka:=fnL 3 sA
def zZA (T:!3):FnOk P w K mg base CX0 18 T.m41.f T.m41.fd [A0,Ao,AO] (spL K 3 qM) :=kO (k:=17) T.m41.F zZJ λ_ _ _ _ _ _ hr=>(zU<|sP<|zTn (cD T) hr<|zZ (yD T.c3 zR)<|zZ zQ<|zZ zC zW)
def vP:FnScope [A0,"pairs",Ao,AO,"one",A8] [A0]<|zV nO:=yI ja
def rL:Sf:=(sIf (eB2 zHX eV4<|eIx eV5 jr) (zHc 1 (zY eV4<|zY (eIx eV5 jr) zS)<|eC<|.bl true) vU)
def rJ:Sf:=(vQ (iL<|eL<|pG Ad B9 3 qM (yK A1 Ct eV0)<|zY eV2<|zY eV3 zS) (gN 5)<|rL)
def jZ:Sf:=(tG<|zPN 1)
def qN:Sf:=(zF (zKQ 1)<|zF (vQ (iL<|eL<|pG Ad BF 1 rV (yK A1 Ct eV0) zS) (gT<|zB (gN 2)<|zB (gN 3)<|zB (gN 4) xC)<|rJ)<|jZ)
def mT:kd->ka:=fnL 6 qN
def zYc (T:!3):FnOk P w K mg base CX0 19 T.m42.f T.m42.fd [A0] (spL K 1 mT) :=kO (k:=18) T.m42.F vP λ_ _ _ _ _ _ hr=>(zO qN J (zKF 1 vP.nd)<|zT (wY We J (zZe<|wC<|zRj T.c3.ca T.c3.cl T.m39.me (zXZ T) (!11) T.m39.b<|yD T.c4 zR) (iY 3 J (zA (xM 2 vP.nd)<|zA (xM 3 vP.nd)<|zA (xM 4 vP.nd) xG)<|yN<|yN<|yN wB)<|zU<|wY We rfl (zZe<|wC<|zWr T.c3.ca T.c3.cl T.m41.me (zZA T) (!11) T.m41.b (yD T.c4 zR)<|zZ zC<|zZ yE zW) (xM 5 vP.nd)<|zU<|xV (yL zL2 (yQ 4)<|yY (yQ 5) zX) (zU<|zHU 1 hr sX<|zZ (yQ 4)<|zZ (yY (yQ 5) zX) zW) yO)<|zU<|sP<|zJ3 1 rfl rfl (!2))
def tJ:FnScope [AN,AB,"_law_found","_law_pair","_law_due_here",B1,CD] [AN,AB]<|zV dL:=yI ja
def mY:Sf:=(zF (sIf (zPV (tT<|tB1<|zLN zKu eV3)<|eB2 zXe (uV eV3) jr) (xQ<|eC<|.bl false) vU)<|sIf (zPV (tT<|tB1<|zLN isStr<|eIx eV3 jp)<|tT<|tB1<|zLN isStr<|eIx eV3 jq) (xQ<|eC<|.bl false) vU)
def rG:Sf:=(sIf (sZ (eB2 zHX eV5 eV6)<|tB1<|yZ 2 rS<|zY (dQ eV1 eV5)<|zY (dQ eV1 eV6) zS) (zYT 4<|vZ<|zY eV5<|zY eV6 zS) vU)
def mJ:Sf:=(vQ (bG eV1) (gN 6)<|rG)
def kQ:Sf:=(zF (yJ 2<|eL<|pG A1 Cq 1 mT eV0 zS)<|zF (sIf (tT<|tB1<|zLN zO1 eV2) (xQ<|eC<|.bl false) vU)<|zF (vQ (iL eV2) (gN 3)<|mY)<|zF (mF 4<|xJ zS)<|zF (vQ (bG eV1) (gN 5)<|mJ)<|zY9 4<|xQ<|sE<|eB2 zRq eV2 eV4)
def pN:jz:=fnF 7 kQ
def zZO (T:!3):OkT P w base T.q43 20 2 pN :=wR (k:=19) T.q43.F tJ λ_ _ _ _ _ _ hr=>(zO kQ J (zK 2 tJ.nd<|wC<|zRj T.c4.ca T.c4.cl T.m42.me (zYc T) (!11) T.m42.b zR)<|zT (xV (uD<|wP<|zT9 (T:="list") (TT:="list") rfl zGf rfl (!2) rfl (!2) zC) (zU<|yV sX) yO)<|zT (wY We J (zZe zC) (xM 3 tJ.nd)<|zO mY rfl (xV (zXT<|zTX (uD<|wP<|zT9 (T:="tuple") (TT:="tuple") rfl zGb rfl (!2) rfl (!2) yE)<|zX7<|yL (zS7 hr) (uK J (!2) yE) zX) (zU<|yV sX) yO)<|zU<|xV (zXT<|zTX (uD<|wP<|zT9 (T:="str") (TT:="str") rfl zJP rfl (!2) rfl (!2)<|yY yE zX)<|zX7<|uD<|wP<|zT9 (T:="str") (TT:="str") rfl zJP rfl (!2) rfl (!2)<|yY yE zX) (zU<|yV sX) yO)<|zT (mS 4 tJ.nd<|y0 zW)<|zT (wY We J (zQK<|zSt rfl rfl (!2) zQ) (xM 5 tJ.nd)<|zU<|wY We rfl (zQK<|zSt rfl rfl (!2) zQ) (xM 6 tJ.nd)<|zU<|xV (zXT<|lT (yL zL2 (yQ 5)<|yQ 6)<|pM<|wP<|xP (zVh T) hr<|zZ (zX9 hr zQ<|yQ 5)<|zZ (zX9 hr zQ<|yQ 6) zW) (zU<|eY 4<|pE Wq Ew Ee tP (pv 4)<|yS (xY<|zZ (yQ 5)<|zZ (yQ 6) zW) yF) yO)<|zU<|iE 4<|yV<|kM (zQs hr) zC<|yQ 4)
def zRN:FnScope [B0,AQ] [B0,AQ]<|zV aQ:=yI ja
def rD:Sf:=(zF (sIf (eB2 gLt eV1<|uV eV0) (xQ<|eIx eV0 eV1) vU)<|xQ jp)
def uA:jz:=fnF 2 rD
def rW (T:!3):OkT P w base T.q44 1 2 uA :=wR (k:=0) T.q44.F zRN λ_ _ _ _ _ _ hr=>(zO rD J (xV (yL zUw zQ<|uK rfl (!2) zR) (zU<|yV<|yY zR zQ) yO)<|zU<|yV zX)
def rZ:FnScope [A2,Ac,Ar,B1,"_law_low","_law_high",Cm,AQ,Av,"_law_size"] [A2,Ac,Ar,B1]<|zV zY4:=yI ja
def jB:Sf:=(zF (zYT 4<|xO (wM (eV 8) jx)<|wD (vG eV6<|eV 9) jq)<|zYT 5<|vG (wD (zIp 4 eV7)<|eV 9) jq)
def jF:Sf:=(zF (yJ 9<|wD jq<|xO (eV 8)<|wD jq<|wM eV6 jr)<|jB)
def oC:Sf:=(zF (yJ 8<|yZ 3 xK<|zY eV0<|zY (wD eV3 eV7)<|zY (eC<|.int 1000037) zS)<|jF)
def cW:jz:=fnF 10<|zF (mF 4<|xJ zS)<|zF (mF 5<|xJ zS)<|zF (yJ 6<|zWo jq eV2)<|zF (vQ (iR eV1) (gN 7)<|oC)<|zY9 4<|zY9 5<|xQ<|vZ<|zY (xA eV4)<|zY (xA eV5) zS
def zXl (T:!3):OkT P w base T.q45 2 4 cW :=wR (k:=1) T.q45.F rZ λ_ _ _ _ _ _ hr=>(zT (mS 4 rZ.nd<|y0 zW)<|zT (mS 5 rZ.nd<|y0 zW)<|zT (zK 6 rZ.nd<|zY5 zX zC)<|zT (wY We J (aK J (!2) zQ) (xM 7 rZ.nd)<|zO oC rfl (zK 8 rZ.nd<|xP (vY T) hr<|zZ zR<|zZ (xS yE<|yQ 7)<|zZ zX zW)<|zO jF rfl (zK 9 rZ.nd<|xS zX<|xX (yQ 8)<|xS zX<|xD (yQ 6) zX)<|zO jB rfl (eY 4<|pE Wq Ew Ee tP (pv 4)<|yS (xX (xD (yQ 8) zX)<|xS (vW (yQ 6)<|yQ 9) zX) yF)<|zU<|eY 5<|pE Wq Ew Ee tP (pv 5)<|yS (vW (xS (zGi 4<|yQ 7)<|yQ 9) zX) yF)<|zU<|iE 4<|iE 5<|yV<|xY<|zZ (wG J (!2)<|yQ 4)<|zZ (wG J (!2)<|yQ 5) zW)
def uQ:FnScope [A2,Ac,Ar,Av,"_law_low","_law_high","_law_axis","_law_by"] [A2,Ac,Ar]<|zV zYD:=yI ja
def fV:Sf:=(zF (yJ 4<|zS2 (zS2 (zSk eV4 oNo<|vJ eV6)<|vZ<|zY (wD (eIx eV4 eV6) eV7) zS)<|zSk eV4 (vJ<|wD eV6 jq) oNo)<|zF (yJ 5<|zS2 (zS2 (zSk eV5 oNo<|vJ eV6)<|vZ<|zY (wD (eIx eV5 eV6) eV7) zS)<|zSk eV5 (vJ<|wD eV6 jq) oNo)<|xQ<|vZ<|zY eV4<|zY eV5 zS)
def pQ:Sf:=(zF (sIf (eB2 gEq (xO (wM eV3<|eC<|.int 24) jv) jp) (xQ<|vZ<|zY (zZy (vZ<|zY jp zS)<|vG jv eV1)<|zY (zZy (vZ<|zY jp zS)<|vG jv eV1) zS) vU)<|fV)
def fN:Sf:=(zF (sIf (eB2 gEq (xO (wM eV3 jt) jr) jq) (yJ 7<|zEE eV7) vU)<|pQ)
def dU:Sf:=(zF (yJ 7<|wD (zWo jq eV2)<|xO (wM eV3 jw) ju)<|fN)
def nR:jz:=fnF 8<|zF (yJ 3<|yZ 3 xK<|zY eV0<|zY (eC<|.int 32)<|zY (eC<|.int 1000039) zS)<|zF (zYQ (yZ 4 cW<|zY eV0<|zY eV1<|zY eV2<|zY (eC<|.int 60) zS)<|gT<|zB (gN 4)<|zB (gN 5) xC)<|zF (yJ 6<|xO eV3 eV1)<|dU
def zPt (T:!3):OkT P w base T.q46 3 3 nR :=wR (k:=2) T.q46.F uQ λ_ _ _ _ _ _ hr=>(zT (zK 3 uQ.nd<|xP (vY T) hr<|zZ zR<|zZ zX<|zZ zX zW)<|zT (lZ (xP (zXl T) hr<|zZ zR<|zZ zQ<|zZ zC<|zZ zX zW)<|iY 2 rfl (zA (xM 4 uQ.nd)<|zA (xM 5 uQ.nd) xG)<|yN<|yN wB)<|zT (zK 6 uQ.nd<|xX yE zQ)<|zO dU rfl (zK 7 uQ.nd<|xS (zY5 zX zC)<|xX (xD yE zX) zX)<|zO fN rfl (xV (yL sV (xX (xD yE zX) zX) zX) (zU<|zK 7 uQ.nd<|zGM<|yQ 7) yO)<|zO pQ rfl (xV (yL sV (xX (xD yE zX) zX) zX) (zU<|yV<|xY<|zZ (zZG (xY<|zZ zX zW)<|vW zX zQ)<|zZ (zZG (xY<|zZ zX zW)<|vW zX zQ) zW) yO)<|zO fV rfl (zK 4 uQ.nd<|zXJ (zXJ (zX3 (yQ 4) lP<|qW<|yQ 6)<|xY<|zZ (xS (yY (yQ 4)<|yQ 6)<|yQ 7) zW)<|zX3 (yQ 4) (qW<|xS (yQ 6) zX) lP)<|zT (zK 5 uQ.nd<|zXJ (zXJ (zX3 (yQ 5) lP<|qW<|yQ 6)<|xY<|zZ (xS (yY (yQ 5)<|yQ 6)<|yQ 7) zW)<|zX3 (yQ 5) (qW<|xS (yQ 6) zX) lP)<|zU<|yV<|xY<|zZ (yQ 4)<|zZ (yQ 5) zW)
def pJ:FnScope [A2,Ac,Ar,Bb,Av,"_law_name","_law_box_here"] [A2,Ac,Ar,Bb]<|zV aI:=yI ja
def zZZ:Sf:=(xQ<|vZ<|zY (eIx (eL<|xJ<|zY (eC<|.str Ap)<|zY (eC<|.str Ap)<|zY (eC<|.str Ap)<|zY (eC<|.str Ap)<|zY (eC<|.str AF)<|zY (eC<|.str AF)<|zY (eC<|.str AF)<|zY (eC<|.str Ax) zS)<|xO eV4 jy)<|zY eV5<|zY eV6 zS)
def iM:jz:=fnF 7<|zF (yJ 4<|yZ 3 xK<|zY eV0<|zY (eC<|.int 33)<|zY (eC<|.int 1000081) zS)<|zF (yJ 5<|eIx eV3<|xO (wM eV4 jy) jx)<|zF (yJ 6<|yZ 4 cW<|zY eV0<|zY eV1<|zY eV2<|zY (eC<|.int 64) zS)<|zF (sIf (eB2 gEq (xO (wM eV4<|eC<|.int 56) jy) jp) (yJ 6<|yZ 3 nR<|zY eV0<|zY eV1<|zY eV2 zS) vU)<|zZZ
def zSp (T:!3):OkT P w base T.q47 4 4 iM :=wR (k:=3) T.q47.F pJ λ_ _ _ _ _ _ hr=>(zT (zK 4 pJ.nd<|xP (vY T) hr<|zZ zR<|zZ zX<|zZ zX zW)<|zT (zK 5 pJ.nd<|yY yE<|xX (xD (yQ 4) zX) zX)<|zT (zK 6 pJ.nd<|xP (zXl T) hr<|zZ zR<|zZ zQ<|zZ zC<|zZ zX zW)<|zT (xV (yL sV (xX (xD (yQ 4) zX) zX) zX) (zU<|zK 6 pJ.nd<|xP (zPt T) hr<|zZ zR<|zZ zQ<|zZ zC zW) yO)<|zU<|yV<|xY<|zZ (yY (wC<|y0<|zZ xR<|zZ xR<|zZ xR<|zZ xR<|zZ xR<|zZ xR<|zZ xR<|zZ xR zW)<|xX (yQ 4) zX)<|zZ (yQ 5)<|zZ (yQ 6) zW)
def fR:FnScope [CF,"_law_told"] [CF]<|zV kR:=yI ja
def sY:jz:=fnF 2<|zF (sIf (zPV (tB1<|zVp zEa eV0)<|tT<|tB1<|zVp bQ eV0) (xQ<|eC<|.str AZ) vU)<|zF (yJ 1<|eL<|xJ<|zY (zVp zSj eV0)<|zY (zVp zWj eV0)<|zY (zVp zYv eV0) zS)<|zF (sIf (eB2 gNe (zSN<|iL eV1) jq) (xQ<|eC<|.str AZ) vU)<|xQ<|eIx (eL<|xJ<|zY (eC<|.str "twice")<|zY (eC<|.str "thing")<|zY (eC<|.str CJ) zS)<|zKe (iL eV1)<|eC<|.bl true
def zYd (T:!3):FnOkH P w K mg base 1 T.q48.f T.q48.fd [CF] (spF K 1 sY) :=zFI (k:=0) T.q48.F fR λj9 A outer s H hr=>(zT (xV (zXT<|zTX (wP<|zFU (cs:=[T.X3,T.X4,T.X5,T.X6,T.X7]) (zEm T) (mX (cM (v:=.ref T.X3) J T.x3.mc J)<|mX (cM (v:=.ref T.X4) J T.x4.mc J)<|mX (cM (v:=.ref T.X5) J T.x5.mc J)<|mX (cM (v:=.ref T.X6) J T.x6.mc J)<|mX (cM (v:=.ref T.X7) J T.x7.mc J) zNB) (Qt J) rfl (!2) zR)<|zX7<|uD<|wP<|zHC (T:=AE) (TT:=AE) rfl (zWf T) (!2) rfl rfl (!2) zR) (zU<|yV xR) yO)<|zT (zK 1 fR.nd<|wC<|y0<|zZ (zPq (zMT T) T.x1.mc J J (!2) zR)<|zZ (zPq (zQM T) T.x2.mc J J (!2) zR)<|zZ (zPq (zSR T) T.x0.mc J J (!2) zR) zW)<|zT (xV (yL zSb (zNM<|pE Wq PySem.F.slot_list_count PySem.F.type_list_count (zLv hr.units) (fU zQ)<|yS sX yF) zX) (zU<|yV xR) yO)<|zU<|yV<|yY (wC<|y0<|zZ xR<|zZ xR<|zZ xR zW)<|zJu<|pE Wq PySem.F.slot_list_index PySem.F.type_list_index (zL8 hr.units) (fU zQ)<|yS sX yF)
def zYA:FnScope [A0,A6] [A0,A6]<|zV oR:=yI ja
def rF:Sf:=(sIf (cA false eV1<|yK A1 BX eV0) (λ_=>none) vU)
def gI:Sf :=(rF)
def uP:jz:=fnF 2 gI
def tO:kj->kf:=(xIf (cA false eV1<|yK A1 BX eV0) (zYL Au<|zX2 (qC "no thing ")<|zX2 (qS eV1) zPX) zF0)
def sK:kd->kf:=fnX 2 tO
def uX (T:!3):FnOk P w K mg base (CXq P w) 3 T.m49.f T.m49.fd [A0,A6] (spQ K 2 uP sK) :=aT (N:=[A0,A6]) (ps:=[A0,A6]) (k:=2) (body:=gI) (xb:=tO) T.m49.F zYA (λj9 A outer s H E hr=>(zU<|xV (zYJ hr zQ<|yD T.c4 zR) (zU zVF) yO)) λj9 A outer s H E hr=>(sJ<|zLS (zYJ hr zQ<|yD T.c4 zR) (sJ<|zYZ T.x2.ca T.x2.xc rfl T.x2.mc T.x2.kc rfl rfl zTV<|zRY (zLz zKB<|zLz (zGT zQ) zEs) rfl jb) zOx)
def zVm:FnScope [A0,A6] [A0,A6]<|zV iX:=yI ja
def eM:Sf:=(xQ<|dQ (yK A1 BX eV0) eV1)
def qZ:Sf:=(zF (dH<|oO A1 Az 2 uP eV0 (!13))<|eM)
def zZ6:Sf :=(qZ)
def rA:jz:=fnF 2 zZ6
def lA:kj->kf:=(pX A1 Az 2 sK eV0 (!13))
def oJ:kd->kf:=fnX 2 lA
def bJ (T:!3):FnOk P w K mg base (CXq P w) 4 T.m50.f T.m50.fd [A0,A6] (spQ K 2 rA oJ) :=aT (N:=[A0,A6]) (ps:=[A0,A6]) (k:=3) (body:=zZ6) (xb:=lA) T.m50.F zVm (λj9 A outer s H E hr=>(zO qZ J (dX<|jW T.c4.ca T.c4.cl T.m49.me ((uX T).ans) (!11) T.m49.b zR<|zZ zQ zW)<|zU<|yV<|zX9 hr (yD T.c4 zR) zQ)) λj9 A outer s H E hr=>(sJ<|zZS<|dG T.c4.ca T.c4.cl T.m49.me (uX T) cN (!11) T.m49.b zR<|zZ zQ zW)
def jP:FnScope [Ci,Ae,"few","start",A5,Ah] [Ci,Ae]<|zV zZV:=yI ja
def zYx:Sf:=(zVj 4<|iL<|yK A3 A5 eV5)
def zWa:Sf:=(zY9 4<|xQ<|eL<|gE (gE (uR eV0 oNo<|vJ eV3)<|iL<|yZ 3 sC<|zY (yK A3 As<|eIx eV0 jp)<|zY eV4 (!13))<|uR eV0 (vJ<|wD eV3 jr) oNo)
def zXa:jz:=fnF 6<|zF (mF 2<|yH (zMg<|iL eV0) 2 [1] (gT<|zB (gN 0)<|zB (gN 1) xC) (eB2 gLt (uV<|yK A3 A5 eV1)<|wM eV2 jr) eV0)<|zF (zY9 2<|sIf (tT<|zPI eV2) (xQ eV0) vU)<|zF (yJ 3<|zHr (vG (eIx eV2 jp) jq) jp)<|zF (mF 4<|xJ zS)<|zF (vQ (uR eV0 (vJ eV3)<|vJ<|wD eV3 jr) (gN 5)<|zYx)<|zWa
def zMy (T:!3):OkT P w base T.q51 4 2 zXa :=wR (k:=3) T.q51.F jP λ_ _ _ _ _ _ hr=>(zT (iW (zV zZV) [Ci,Ae,"few","start",A5,Ah] ["at",Ah] [Ae] [1] (zN1<|uO (cB 0)<|uO (cB 1) cP) 2 jP.nd rfl rfl (zJb J (!2)<|fU zR) rfl rfl rfl ja (λ_ _ _ _=>(iY 2 J (zA (xM 0<|show(J0 ["at",Ah,Ae]) from ja)<|zA (xM 1<|show(J0 ["at",Ah,Ae]) from ja) xG)<|yN<|yN wB)) (λ_ _ _ _=>(nV<|yL zUw (uK J (!2)<|yD T.c2 zQ)<|xD zC zX)) λ_ _ _ _=>zR)<|zT (iE 2<|xV (uD<|zZU zC) (zU<|yV zR) yO)<|zT (zK 3 jP.nd<|zKX rfl rfl (!2) (vW (yY zC zX) zX) zX)<|zT (mS 4 jP.nd<|y0 zW)<|zT (wY We J (zQK<|sT zR (qW yE)<|qW<|xS yE zX) (xM 5 jP.nd)<|zU<|zHN 4<|pE Wq Ye Yr zIA (pv 4)<|yS (fU<|yD T.c2<|yQ 5) yF)<|zU<|iE 4<|yV<|wC<|zPs (cL (zWh<|sT zR lP<|qW yE)<|fU<|xP (pF T) hr<|zZ (yD T.c2<|yY zR zX)<|zZ (yQ 4)<|zZ zQ zW)<|sT zR (qW<|xS yE zX) lP)
def tI:FnScope [Ah,A8,Ae,"at",BW] [Ah,A8,Ae]<|zV pB:=yI ja
def lL (self:jz):Sf:=(xQ<|yZ 3 sC<|zY (eC<|.bl false)<|zY (yZ 2 zXa<|zY (eL<|gE (gE (uR (yK A3 A5 eV0) oNo<|vJ eV3)<|iL eV4)<|uR (yK A3 A5 eV0) (vJ<|wD eV3 jq) oNo)<|zY eV2 zS)<|zY eV2 zS)
def lR (self:jz):Sf:=(zF (yJ 4<|yZ 3 self<|zY (eIx (yK A3 A5 eV0) eV3)<|zY eV1<|zY eV2 zS)<|lL self)
def lE (self:jz):Sf:=(zF (yJ 3<|yZ 2 zWQ<|zY eV0 (!13))<|lR self)
def rN (self:jz):Sf:=(zF (sIf (tB1<|yK A3 As eV0) (xQ<|yZ 3 sC<|zY (eC<|.bl true)<|zY (eL<|yH (iL<|yK A3 A5 eV0) 1 [1] (gN 0) (eB2 zXe eV0 eV1) eV0)<|zY eV2 zS) vU)<|lE self)
def gK (self:jz):Sf :=(rN self)
def vE:Nat->kd->qi
 | 0=>λ_=>none
 | n+1=>fnF 5<|gK<|vE n
abbrev gJ:jz:=vE 16
def zZD (T:!3)(n:Nat)(self:jz)(IH:FnOk P w K mg base CX0 (5+n) T.q52.f T.q52.fd [Ah,A8,Ae]<|spF K 3 self):FnOk P w K mg base CX0 (5+n+1) T.q52.f T.q52.fd [Ah,A8,Ae] (spF K 3<|fnF 5<|gK self) :=wR (k:=5+n) T.q52.F tI λ_ _ _ _ _ _ hr=>(zO (rN self) J (xV (wP<|yD T.c2 zR) (zU<|yV<|xP (pF T) hr<|zZ sX<|zZ (wC<|wV tI AZ [A8] (zZe<|yD T.c2 zR) (λ_ _ _ _=>(nV<|yL (zS7 hr) zR zQ)) λ_ _ _ _=>zR)<|zZ zC zW) yO)<|zO (lE self) rfl (zK 3 tI.nd<|xP (zQd T) hr<|zZ zR<|zZ zQ zW)<|zO (lR self) rfl (zK 4 tI.nd<|xP IH hr<|zZ (yY (yD T.c2 zR) yE)<|zZ zQ<|zZ zC zW)<|zU<|yV<|xP (pF T) hr<|zZ sX<|zZ (xP (zMy T) hr<|zZ (wC<|zPs (cL (zWh<|sT (yD T.c2 zR) lP<|qW yE)<|fU<|yQ 4)<|sT (yD T.c2 zR) (qW<|xS yE zX) lP)<|zZ zC zW)<|zZ zC zW)
theorem lO (T:!3):∀n:Nat,FnOk P w K mg base CX0 (5+n) T.q52.f T.q52.fd [Ah,A8,Ae]<|spF K 3<|vE n
 | 0=>zRE
 | n+1=>zZD T n _<|lO T n
def zZj (T:!3):OkT P w base T.q52 21 3 gJ:=lO T 16
def zVt:FnScope [A0,A8] [A0,A8]<|zV iH:=yI ja
def rB:Tf:=(eB2 zXe (yZ 2 tH<|zY (bX 0 Ad AM) (!13)) eV1)
def oA:Ef:=(yZ 1 cQ<|zY (yZ 3 gJ<|zY (bX 0 Ad AM)<|zY eV1<|zY (bX 0 Ad Ae) zS) zS)
def qI:kh->kd->kd->ka:=λns=>fnM 2 Ad ns AM rB oA
def zWb (T:!3)(ns:kh):FnOk P w K mg base CX0 22 T.m53.f T.m53.fd [A0,A8] (spM K Ad ns 1<|qI ns) :=zLd (N:=[A0,A8]) (ps:=[A8]) (k:=21) (tt:=rB) (fe:=oA) T.m53.F zVt T.c3.ca T.c3.cl (T.c3.n _ ja) J (λj9 A outer s H E hr=>(yL (zS7 hr) (xP (bK T) hr<|zZ (dA 0 T.c3.ca T.c3.cl<|T.c3.n _ ja)<|zZ zQ zW) zQ)) (λj9 A outer s H E hr=>(xP (zXn T) hr<|zZ (xP (zZj T) hr<|zZ (dA 0 T.c3.ca T.c3.cl<|T.c3.n _ ja)<|zZ zQ<|zZ (dA 0 T.c3.ca T.c3.cl<|T.c3.n _ ja) zW) zW)) rfl<|Or.inl rfl
def nY:FnScope [A0,A6,Ao,AO] [A0,A6]<|zV eB:=yI ja
def nJ:Sf:=(zPW 0 Ad Ax 1 qI<|zY (vZ<|zY eV2<|zY eV3 (!13)) zS)
def bO:Sf:=(zKY 0 eV1)
def lB:Sf:=(zF (vQ (iL<|oY 0 3<|eL<|pG A1 Ai 2 tN eV0<|zY (oO A1 Bd 2 rA eV0 (!13)) zS) (gT<|zB (gN 2)<|zB (gN 3) xC)<|nJ)<|bO)
def zYs:Kf:=(kOf<|lB)
def tL:ko->D->kd->qc:=fnW 4 zYs
def bN (T:!3):FnOk P w K mg base CX0 23 T.m54.f T.m54.fd [A0,A6] (spW K 1 tL) :=zYN (N:=[A0,A6,Ao,AO]) (sf:=A0) (ps:=[A6]) (k:=22) (f:=zYs) T.m54.F nY λ_ _ _ _ _ _ hr=>(zSM<|zO lB rfl (wY We J (zZe<|jT 0 3<|wC<|zWr T.c4.ca T.c4.cl T.m26.me (kH T) (!11) T.m26.b zR<|zZ (jW T.c4.ca T.c4.cl T.m50.me ((bJ T).ans) (!11) T.m50.b zR<|zZ zQ zW) zW) (iY 2 J (zA (xM 2 nY.nd)<|zA (xM 3 nY.nd) xG)<|yN<|yN wB)<|zU<|zQL 0 T.c4.ca T.c4.cl (T.c4.n _ ja) T.c3.ca T.c3.cl T.m53.me (zWb T) (!11) T.m53.b<|zZ (xY<|zZ zC<|zZ yE<|zZ zQ zW) zW)<|zU<|zIt 0 T.c4.ca T.c4.cl (T.c4.n _ ja) zQ)
def zSA:jz:=fnF 4 λ_=>none
def zZH:kj->kf:=(zHa A1 Ai eV0<|pX A1 Bd 2 oJ eV0 (!13))
def lG:kd->kf:=fnX 4 zZH
def zVu (T:!3):FnOk P w K mg base (CXq P w) 23 T.m54.f T.m54.fd [A0,A6] (spQ K 2 zSA lG) :=aT (N:=[A0,A6,Ao,AO]) (ps:=[A0,A6]) (k:=22) (body:=λ_=>none) (xb:=zZH) T.m54.F nY (λj9 A outer s H E hr=>zY3) λj9 A outer s H E hr=>(sJ<|zIz<|zPw T.c4.ca T.c4.cl T.m26.me (kH T) (!11) T.m26.b zR<|dG T.c4.ca T.c4.cl T.m50.me (bJ T) cN (!11) T.m50.b zR<|zZ zQ zW)
def zZ1:FnScope [A0,A6,A9] [A0,A6,A9]<|zV dD:=yI ja
def kW:Sf:=(zF (dH<|oY 0 3<|oO A1 AA 2 uY eV0<|zY eV2 zS)<|zF (qO 0 A1 Ax 1 tL (!13))<|qO 0 A1 "lay" 2 lW<|zY eV1<|zY eV2 zS)
def zYk:Kf:=(kOf<|zF (dH<|oY 0 3<|oO A1 Az 2 uP eV0 (!13))<|kW)
def rT:ko->D->kd->qc:=fnW 3 zYk
def zVq (T:!3):FnOk P w K mg base CX0 26 T.m55.f T.m55.fd [A0,A6,A9] (spW K 2 rT) :=zYN (N:=[A0,A6,A9]) (sf:=A0) (ps:=[A6,A9]) (k:=25) (f:=zYk) T.m55.F zZ1 λ_ _ _ _ _ _ hr=>(zSM<|zT (dX<|jT 0 3<|jW T.c4.ca T.c4.cl T.m49.me ((uX T).ans) (!11) T.m49.b zR<|zZ zQ zW)<|zO kW rfl (dX<|jT 0 3<|jW T.c4.ca T.c4.cl T.m10.me ((uE T).ans) (!11) T.m10.b zR<|zZ zC zW)<|zT (nN 0 T.c4.ca T.c4.cl T.m54.me (bN T) (!11) T.m54.b<|zZ zQ zW)<|zU<|nN 0 T.c4.ca T.c4.cl T.m34.me (zZX T) (!11) T.m34.b<|zZ zQ<|zZ zC zW)
def zT0:jz:=fnF 3 λ_=>none
def oF:kj->kf:=(zPf (pX A1 Az 2 sK eV0 (!13)) (oO A1 Az 2 uP eV0 (!13))<|pX A1 AA 2 uZ eV0<|zY eV2 zS)
def lN:kd->kf:=fnX 3 oF
def zVf (T:!3):FnOk P w K mg base (CXq P w) 26 T.m55.f T.m55.fd [A0,A6,A9] (spQ K 3 zT0 lN) :=aT (N:=[A0,A6,A9]) (ps:=[A0,A6,A9]) (k:=25) (body:=λ_=>none) (xb:=oF) T.m55.F zZ1 (λj9 A outer s H E hr=>zY3) λj9 A outer s H E hr=>(zRU (dG T.c4.ca T.c4.cl T.m49.me (uX T) cN (!11) T.m49.b zR<|zZ zQ zW) (jW T.c4.ca T.c4.cl T.m49.me ((uX T).ans) (!11) T.m49.b zR<|zZ zQ zW)<|sJ<|zZS<|dG T.c4.ca T.c4.cl T.m10.me (uE T) cN (!11) T.m10.b zR<|zZ zC zW)
def lQ:FnScope [AN,Ak,BQ,CF] [AN,Ak]<|zV bA:=yI ja
def zT5:Kf:=(zM0 eV2)
def oB:Kf:=(cF (kOf<|sOr (zNo pY (xIf (eB2 gEq (eIx eV1 jp)<|eC<|.str Ap) (zWG 0<|pX A1 Ap 3 iG eV0<|zY (!20)<|zY (eIx eV1 jr) zS)<|xIf (eB2 gEq (eIx eV1 jp)<|eC<|.str AF) (zWG 0<|pX A1 AF 3 lN eV0<|zY (!20)<|zY (eIx eV1 jr) zS)<|zWG 0<|pX A1 Ax 2 lG eV0<|zY (!20) zS) 3<|yJ 2<|yZ 1 sY<|zY eV3 zS)<|sNx<|sIf (eB2 gEq (eIx eV1 jp)<|eC<|.str Ap) (qO 0 A1 Ap 2 uT<|zY (!20)<|zY (eIx eV1 jr) zS)<|sIf (eB2 gEq (eIx eV1 jp)<|eC<|.str AF) (qO 0 A1 AF 2 rT<|zY (!20)<|zY (eIx eV1 jr) zS)<|qO 0 A1 Ax 1 tL<|zY (!20) zS) zT5)
def zZz:Kf:=(cF (kOf<|yJ 2<|eC<|.str "ok") oB)
def zW5:Kf:=zZz
def uU:ko->D->kd->qc:=fnW 4 zW5
def zTJ (T:!3):FnOk P w K mg base CX0 27 T.q56.f T.q56.fd [AN,Ak] (spW K 1 uU) :=zYN (N:=[AN,Ak,BQ,CF]) (sf:=AN) (ps:=[Ak]) (k:=26) (f:=zW5) T.q56.F lQ λ_ _ _ _ _ _ hr=>(pH zZz J (zSx<|zK 2 lQ.nd xR)<|pH oB rfl (zSx<|zEY (zI8 (i:=3) (zVw T) (zO5 zKq (yL sV (yY zQ zX) xR) (zYI 0<|zVL<|zYF zKq T.c4.ca T.c4.cl T.m35.me (zSH T) (!11) T.m35.b zR<|zZ (yY zQ zX)<|zZ (yY zQ zX) zW)<|zO5 zKq (yL sV (yY zQ zX) xR) (zYI 0<|zVL<|zYF zKq T.c4.ca T.c4.cl T.m55.me (zVf T) (!11) T.m55.b zR<|zZ (yY zQ zX)<|zZ (yY zQ zX) zW)<|zYI 0<|zVL<|zYF zKq T.c4.ca T.c4.cl T.m54.me (zVu T) (!11) T.m54.b zR<|zZ (yY zQ zX) zW) J J J T.x8.mc lQ.nd λ_=>(zU<|zK 2 lQ.nd<|zDO (zYd T) hr.uM<|zZ yE zW))<|zI1<|xV (yL sV (yY zQ zX) xR) (zU<|nN 0 T.c4.ca T.c4.cl T.m35.me (zZB T) (!11) T.m35.b<|zZ (yY zQ zX)<|zZ (yY zQ zX) zW)<|zU<|xV (yL sV (yY zQ zX) xR) (zU<|nN 0 T.c4.ca T.c4.cl T.m55.me (zVq T) (!11) T.m55.b<|zZ (yY zQ zX)<|zZ (yY zQ zX) zW)<|zU<|nN 0 T.c4.ca T.c4.cl T.m54.me (bN T) (!11) T.m54.b<|zZ (yY zQ zX) zW)<|zV4<|zW6 zC)
def iB:FnScope [AB,Ak,Bf,"_law_off_here",AQ] [AB,Ak,Bf]<|zV zYX:=yI ja
def rC:Sf:=(yJ 3<|zMR eV3<|zMR (sE<|eB2 gLt (eIx (eIx (eIx eV1 jr) jp) eV4) jp)<|sE<|eB2 gGe (eIx (eIx (eIx eV1 jr) jq) eV4)<|eIx eV2 eV4)
def zRI:Kf:=(zM0<|eC<|.str "ok")
def pU:Kf:=(cF (kOf<|sIf (eB2 gEq (eIx eV1 jp)<|eC<|.str Ax) (zSz 0 (!20))<|zUe 0 (!20)<|eIx eV1 jr) zRI)
def lX:Kf:=(cF (kIf (sZ (eB2 gNe (eIx eV1 jp)<|eC<|.str Ax)<|tB1 eV3) (zM0<|eC<|.str CJ) zIr) pU)
def pD:Kf:=(cF (kIf (jE 0 2<|sZ (eB2 gNe (eIx eV1 jp)<|eC<|.str Ap)<|cA false (!20) eV0) (zM0<|eC<|.str "thing") zIr) lX)
def pP:Kf:=(cF (kIf (jE 0 2<|sZ (eB2 gEq (eIx eV1 jp)<|eC<|.str Ap)<|cA true (!20) eV0) (zM0<|eC<|.str "twice") zIr) pD)
def lF:Kf:=(cF (kOf<|vQ (iR<|zXm (uV eV2)<|uV<|eIx (eIx eV1 jr) jp) (gN 4)<|rC) pP)
def lV:Kf:=(cF (kOf<|yJ 3<|sE<|eB2 gNe (uV<|eIx (eIx eV1 jr) jp)<|uV eV2) lF)
def zUy:Kf:=lV
def nP:ko->D->kd->qc:=fnW 5 zUy
def zRK (T:!3):FnOk P w K mg base CX0 1 T.q57.f T.q57.fd [AB,Ak,Bf] (spW K 2 nP) :=zYN (N:=[AB,Ak,Bf,"_law_off_here",AQ]) (sf:=AB) (ps:=[Ak,Bf]) (k:=0) (f:=zUy) T.q57.F iB λ_ _ _ _ _ _ hr=>(pH lV J (zSx<|zK 3 iB.nd<|kM zSb (uK J (!2)<|yY (yY zQ zX) zX)<|uK rfl (!2) zC)<|pH lF rfl (zSx<|wY We rfl (aK J (!2)<|zP8 rfl rfl (!2) (uK J (!2) zC)<|uK rfl (!2)<|yY (yY zQ zX) zX) (xM 4 iB.nd)<|zU<|zK 3 iB.nd<|zHd yE<|zHd (kM zUw (yY (yY (yY zQ zX) zX)<|yQ 4) zX)<|zQl<|kM zEB (yY (yY (yY zQ zX) zX)<|yQ 4)<|yY zC<|yQ 4)<|pH pP rfl (zLq (fA 0 2<|zXT<|lT (yL sV (yY zQ zX) xR)<|pM<|zQu hr (yY zQ zX) zR) (zV4<|zW6 xR) zPM)<|pH pD rfl (zLq (fA 0 2<|zXT<|lT (yL zSb (yY zQ zX) xR)<|pM<|zYJ hr (yY zQ zX) zR) (zV4<|zW6 xR) zPM)<|pH lX rfl (zLq (zXT<|lT (yL zSb (yY zQ zX) xR)<|pM<|wP yE) (zV4<|zW6 xR) zPM)<|pH pU rfl (zSx<|xV (yL sV (yY zQ zX) xR) (zU<|zIB 0<|yY zQ zX)<|zU<|zOv 0 hr (yY zQ zX)<|yY zQ zX)<|zV4<|zW6 xR)
def qY:FnScope [B0,Ac,Ar,Bb,"_law_size",AN,Bf,AB,A2,Ak] [B0]<|zV zJw:=yI ja
def zWD:Sf:=(zF (yJ 9<|yZ 4 iM<|zY (eV 8)<|zY eV1<|zY eV2<|zY eV3 zS)<|zF (zEV (zTq zXe (uW 5 1 uU<|zY (eV 9) zS)<|uW 7 2 nP<|zY (eV 9)<|zY eV6 zS) (xQ<|eC<|.bl false) vU)<|sIf (jE 7 2<|jE 5 3<|tT<|tB1<|yZ 2 pN<|zY eV5<|zY eV7 zS) (xQ<|eC<|.bl false) vU)
def zOM:Sf:=(xQ<|yZ 2 pN<|zY eV5<|zY eV7 zS)
def zUZ:jz:=fnF 10<|zF (yJ 1<|wD jr<|xO (yZ 2 uA<|zY eV0<|zY jp zS) jr)<|zF (yJ 2<|yZ 2 fG<|zY (yZ 2 uA<|zY eV0<|zY jp zS) (!13))<|zF (yJ 3<|yZ 1 dR<|zY (yZ 2 uA<|zY eV0<|zY jq zS) zS)<|zF (yJ 4<|wD ju<|xO (yZ 3 xK<|zY (yZ 2 uA<|zY eV0<|zY jq zS)<|zY jv<|zY (eC<|.int 1000033) zS)<|eC<|.int 9)<|zF (zXz 5 3 zWe<|zY (yZ 2 lS<|zY (wM (yZ 2 uA<|zY eV0<|zY jp zS) jr) (!13))<|zY eV2<|zY eV4 zS)<|zF (yJ 6<|zZy (vZ<|zY (zWo jq eV2) zS) eV1)<|zF (zP1 7)<|zF (vQ (uR eV0 (vJ jr)<|vJ<|eC<|.int 16) (gN 8)<|zWD)<|zF (zYQ (yZ 1 fE<|zY (wD (yZ 2 uA<|zY eV0<|zY jr zS)<|uV eV0) zS)<|gT<|zB (gN 5)<|zB (gN 7)<|zB (gN 1)<|zB (gN 2) xC)<|zOM
def zF3 (T:!3):OkT P w base T.q58 28 1 zUZ :=wR (k:=27) T.q58.F qY λ_ _ _ _ _ _ hr=>(zT (zK 1 qY.nd<|xS zX<|xX (xP (rW T) hr<|zZ zR<|zZ zX zW) zX)<|zT (zK 2 qY.nd<|xP (zTL T) hr<|zZ (xP (rW T) hr<|zZ zR<|zZ zX zW)<|zZ zQ zW)<|zT (zK 3 qY.nd<|xP (zTj T) hr<|zZ (xP (rW T) hr<|zZ zR<|zZ zX zW) zW)<|zT (zK 4 qY.nd<|xS zX<|xX (xP (vY T) hr<|zZ (xP (rW T) hr<|zZ zR<|zZ zX zW)<|zZ zX<|zZ zX zW) zX)<|zT (zQ7 5 qY.nd T.c4.k (zUb T) (!11) T.c4.mc T.c4.t.b rfl<|zZ (xP (zZm T) hr<|zZ (xD (xP (rW T) hr<|zZ zR<|zZ zX zW) zX)<|zZ zQ zW)<|zZ zC<|zZ (yQ 4) zW)<|zT (zK 6 qY.nd<|zZG (xY<|zZ (zY5 zX zC) zW) zQ)<|zT (zRO 7 qY.nd)<|zT (wY We J (zQK<|sT zR (qW zX)<|qW zX) (xM 8 qY.nd)<|zO zWD rfl (zK 9 qY.nd<|xP (zSp T) hr<|zZ (yQ 8)<|zZ zQ<|zZ zC<|zZ yE zW)<|zT (zGy (zKZ 5 7 (zS7 hr) (zTJ T) (zRK T) hr (zZ (yQ 9) zW)<|zZ (yQ 9)<|zZ (yQ 6) zW) (zU<|yV sX) yO)<|zU<|xV (fA 7 2<|fA 5 3<|uD<|wP<|xP (zZO T) hr<|zZ (yQ 5)<|zZ (yQ 7) zW) (zU<|yV sX) yO)<|zT (lZ (xP (zSU T) hr<|zZ (xS (xP (rW T) hr<|zZ zR<|zZ zX zW)<|uK rfl (!2) zR) zW)<|iY 4 rfl (zA (xM 5 qY.nd)<|zA (xM 7 qY.nd)<|zA (xM 1 qY.nd)<|zA (xM 2 qY.nd) xG)<|yN<|yN<|yN<|yN wB)<|zU<|yV<|xP (zZO T) hr<|zZ (yQ 5)<|zZ (yQ 7) zW)
end
def zGL {l:OpenLaw}{K:Frag}{fa:qu}{C0 C1 C2 C3 C4 X0 X1 X2 X3 X4 X5 X6 X7 X8:qu} (X:K.In h) (G:h.Ns mainGlobals mg) (hfa:mg "law"=some (.ref fa))(g0:vV K BZ zYR)(g1:vV K BC fO)(g2:vV K BB dS)(g3:vV K BM aP)(g4:vV K BL bD)(g5:vV K BA dZ)(g6:vV K Cn zPT)(g7:vV K B3 gA)(g8:vV K B7 aM)(g9:vV K Bh zYP)(g11:vV K Bp qA)(g12:vV K Bo kX)(g13:vV K Cv zZ9)(g14:vV K AX oG)(g15:vV K By zWO)(g16:vV K Bw zVK)(g17:vV K Bv zV5)(g18:vV K BV zXG)(g19:vV K Bu zZF)(g20:vV K Bg zY7)(g21:vV K Cp cZ)(g22:vV K Cu zVC)(g23:vV K BU zSQ)(g24:vV K AR kL)(g25:vV K AJ nF)(g27:vV K Bi zYB)(g28:vV K Co zQq)(g29:vV K CG zOc)(g30:vV K AY nZ)(g31:vV K B8 aD)(g32:vV K AS kP)(g36:vV K BE dO)(g37:vV K Bq gW)(g38:vV K Ay rM)(g40:vV K Aw sB)(g43:vV K BD dL)(g44:vV K BK aQ)(g45:vV K C5 zY4)(g46:vV K C6 zYD)(g47:vV K BN aI)(g48:vV K Bc kR)(g51:vV K Bz zZV)(g52:vV K AC pB)(g56:vV K BO bA)(g57:vV K C7 zYX)(g58:vV K "law" zJw)(c0:zM9 K AW Br zTs [AL,Aj,AK] C0)(c1:zM9 K An Bj zWX [Ab,B4,A6,AD] C1)(c2:zM9 K A3 Bs zTt [As,AH,AG,A5] C2)(c3:zM9 K Ad Bl zWz [AM,Ae] C3)(c4:zM9 K A1 Ca zT7 [BX,Am,Af,Ct] C4)(m10:aE K C4 AA BR qV)(m26:aE K C4 Ai Cz gS)(m33:aE K C3 Ap Ck eR)(m34:aE K C4 "lay" CM aZ)(m35:aE K C4 Ap CL aJ)(m39:aE K C3 BF BG nL)(m41:aE K C3 B9 Bm qJ)(m42:aE K C4 Cq Cf nO)(m49:aE K C4 Az Cb oR)(m50:aE K C4 Bd Cy iX)(m53:aE K C3 Ax C9 iH)(m54:aE K C4 Ax CI eB)(m55:aE K C4 AF CH dD)(x0:zIk K At X0)(x1:zIk K AT X1)(x2:zIk K Au X2)(x3:nsIn K mainGlobals Cd=some (some<|.ref X3))(x4:nsIn K mainGlobals BT=some (some<|.ref X4))(x5:nsIn K mainGlobals Ba=some (some<|.ref X5))(x6:nsIn K mainGlobals BS=some (some<|.ref X6))(x7:nsIn K mainGlobals Ce=some (some<|.ref X7))(x8:nsIn K mainGlobals AV=some (some<|.ref X8))(ix_ValueError:dY K (.type AE) [(X0,true),(X1,true),(X2,true)]=true)(ix_OffFloor:dY K (.ref X0) [(X0,true),(X1,false),(X2,false)]=true)(ix_NoThing:dY K (.ref X2) [(X0,false),(X1,false),(X2,true)]=true)(ix_Twice:dY K (.ref X1) [(X0,false),(X1,true),(X2,false)]=true)(iy_0:zQT K (zSw [X3,X4,X5,X6,X7]) [(X0,false),(X1,false),(X2,false)]=true)(em_YardError_OffFloor:exmOne K (.ref X0) (.ref X8)=some true)(em_YardError_Twice:exmOne K (.ref X1) (.ref X8)=some true)(em_YardError_NoThing:exmOne K (.ref X2) (.ref X8)=some true)(zz:zK9 K [AE,"all","enumerate","int","isinstance","len","list","max","min","range","sorted","str","tuple","zip"]=true):∃fd:FuncData,(∀(s:qw) (v:qv),BindsTo s fd ⟨[v],[]⟩ [(B0,v)])/\∀base:qx,K.In base->base.Ns mainGlobals mg->FnOk l.prog w K mg base CX0 28 fa fd [B0] (spF K 1 zUZ):=by
 exact zFJ _ (be1 λ_ _ _ _ _ _ _=>rfl) hfa λbase=>zF3 ({ q0:=vS X G g0,q1:=vS X G g1,q2:=vS X G g2,q3:=vS X G g3,q4:=vS X G g4,q5:=vS X G g5,q6:=vS X G g6,q7:=vS X G g7,q8:=vS X G g8,q9:=vS X G g9,q11:=vS X G g11,q12:=vS X G g12,q13:=vS X G g13,q14:=vS X G g14,q15:=vS X G g15,q16:=vS X G g16,q17:=vS X G g17,q18:=vS X G g18,q19:=vS X G g19,q20:=vS X G g20,q21:=vS X G g21,q22:=vS X G g22,q23:=vS X G g23,q24:=vS X G g24,q25:=vS X G g25,q27:=vS X G g27,q28:=vS X G g28,q29:=vS X G g29,q30:=vS X G g30,q31:=vS X G g31,q32:=vS X G g32,q36:=vS X G g36,q37:=vS X G g37,q38:=vS X G g38,q40:=vS X G g40,q43:=vS X G g43,q44:=vS X G g44,q45:=vS X G g45,q46:=vS X G g46,q47:=vS X G g47,q48:=vS X G g48,q51:=vS X G g51,q52:=vS X G g52,q56:=vS X G g56,q57:=vS X G g57,q58:=vS X G g58,C0:=_,c0:=zKo X G (gF c0.2.1) c0,C1:=_,c1:=zKo X G (gF c1.2.1) c1,C2:=_,c2:=zKo X G (gF c2.2.1) c2,C3:=_,c3:=zKo X G (gF c3.2.1) c3,C4:=_,c4:=zKo X G (gF c4.2.1) c4,m10:=gF m10,m26:=gF m26,m33:=gF m33,m34:=gF m34,m35:=gF m35,m39:=gF m39,m41:=gF m41,m42:=gF m42,m49:=gF m49,m50:=gF m50,m53:=gF m53,m54:=gF m54,m55:=gF m55,X0:=_,x0:=zGD X G x0,X1:=_,x1:=zGD X G x1,X2:=_,x2:=zGD X G x2,X3:=_,x3:=zQh X G x3,X4:=_,x4:=zQh X G x4,X5:=_,x5:=zQh X G x5,X6:=_,x6:=zQh X G x6,X7:=_,x7:=zQh X G x7,X8:=_,x8:=zQh X G x8,ix_ValueError:=ix_ValueError,ix_OffFloor:=ix_OffFloor,ix_NoThing:=ix_NoThing,ix_Twice:=ix_Twice,iy_0:=iy_0,em_YardError_OffFloor:=em_YardError_OffFloor,em_YardError_Twice:=em_YardError_Twice,em_YardError_NoThing:=em_YardError_NoThing,zz:=zIy X G zz }:Txt K mg)
def zFF {K:Frag}{a:qu}{ns:ki}(hS:SqL K H a<|ns.map V.int)(h:zUZ [.lst<|ns.map .int]=some (.bl true)):spF K 1 zUZ [.ref a] H (λv _=>v = .bl true) λ_ _ _=>False:=by
 have rs:∀ns:ki,Reps K H (ns.map .int)<|ns.map V.int:=λns=>by
  induction ns with
  | nil=>exact yX.mpr J
  | cons n r ih=>exact zP.mpr ⟨_,_,J,yW.mpr J,ih⟩
 exact⟨H,[.lst<|ns.map .int],.bl true,Same.refl _,zP.mpr ⟨_,_,J,wZ.mpr ⟨a,_,J,hS,rs ns⟩,yX.mpr J⟩,J,h,λv H' G' _ r=>wT.mp r⟩
end My
variable{h:Nat}{K:kh}
namespace My
structure Et where
 f:Int
 l:Int
 z:Str
abbrev qm:=List Et
def kE (e:Et):Int×Str:=(e.f,e.z)
abbrev zE:Et:=⟨0,0,⟨#[]⟩⟩
def vL (a e:Et):Bool:=a.f==e.f&&(a.l==e.l&&a.z==e.z)
def qU {a e:Et}:vL a e=true↔a=e:=by obtain⟨f,l⟩:=a;obtain⟨f',l'⟩:=e;unfold vL;simp
def kA (l:qm):qm:=(zWJ<|l.map kE).map λi=>l.getD i zE
def zHi {l:qm}(h:i∈zWJ (l.map kE)):i < l.length:=by have:=(jK _).subset h;simpa using this
def aB (l:qm):(kA l).Perm l:=by refine((jK _).map _).trans ?_;rw[Qy,tU]
def zPD (l:qm):(kA l).map kE=iF (l.map kE):=by unfold kA iF;rw[Wj];refine Es λi hi=>?_;simp[(zHi hi)]
def zYV (l:qm):(kA l).length=l.length:=(aB l).length_eq
def Srt (es:qm):Prop:=es.Pairwise λa b=>xH (kE a) (kE b)=true
def zO0 {a b:Int×Str}(h:xH a b=true):xH b a=false:=by
 cases q:xH b a
 .rfl
 .have:=zSO h q;rw[vC] at this;cases this
def zGW {a b c:Int×Str}(h:xH a b=true)(h2:xH c b=false):xH a c=true:=by
 rcases zSy h with q | q
 .exact q
 .simp_all
def Srt.of {es:qm}(h:(es.map kE).Pairwise λa b=>xH b a=false)(nd:(es.map kE).Nodup):Srt es:=by
 rw[En] at h;refine(h.and<|En.mp nd).imp λ{a b} z=>?_;cases q:xH _ _
 .exact absurd (zOr q z.1) z.2
 .rfl
def Srt.nd {es:qm}(h:Srt es):(es.map kE).Nodup:=by refine En.mpr<|h.imp λ{a b} z e=>?_;rw[e,vC] at z;cases z
def zMI {l:qm}(nd:(l.map kE).Nodup):Srt<|kA l:=by refine Srt.of ?_<|(((aB l).map kE)).nodup_iff.mpr nd;rw[zPD];exact bW _
def Srt.inj {es:qm}(h:Srt es){a b:Et}(ha:a∈es)(hb:b∈es)(e:kE a=kE b):a=b:=by
 induction es with
 | nil=>cases ha
 | cons x r ih =>
  obtain⟨p,q⟩:=Rr.mp h;rcases v4 ha with ea | ha'<;>rcases v4 hb with eb | hb'
  .simp_all
  .have:=p b hb';rw[<-ea,e,vC] at this;cases this
  .have:=p a ha';rw[<-eb,e,vC] at this;cases this
  .exact ih q ha' hb'
@[reducible] def It:Nat->Type
 | 0=>Et
 | h+1=>List<|It h
def zE5 (f:α->Et):List α->Et
 | []=>zE
 | x::_=>f x
def wW:(h:Nat)->It h->Et
 | 0,e=>e
 | h+1,xs=>zE5 (wW h) xs
def most:(h:Nat)->It h->Int
 | 0,e=>e.l
 | h+1,xs=>aA<|List.map (most h) xs
def pL:(h:Nat)->It h->qm
 | 0,e=>[e]
 | h+1,xs=>List.flatMap (pL h) xs
abbrev zG (h:Nat)(xs:!7):qm:=xs.flatMap<|pL h
def tW (n:Nat)(xs:List α):List<|List α:=if xs.length=0 then [] else if xs.length<=n then [xs] else [xs.take<|xs.length / 2,xs.drop<|xs.length / 2]
def zMx (ls:qm)(e:Et):Nat:=(ls.filter λa => !xH (kE e) (kE a)).length - 1
def vK (h:Nat)(xs:List<|It<|h+1)(e:Et):Nat:=zMx (xs.map<|wW<|h+1) e
def zYu:(h:Nat)->List (It h)->Et->Option Et
 | 0,xs,e=>(List.filter (λa:Et=>decide (kE a=kE e)) xs).head?
 | h+1,xs,e=>zYu h (List.getD xs (vK h xs e) []) e
def iO (n:Nat):(h:Nat)->List (It h)->Et->List (!7)
 | 0,xs,e=>tW n<|kA<|xs++[e]
 | h+1,xs,e=>tW n<|List.take (vK h xs e) xs++iO n h (List.getD xs (vK h xs e) []) e++List.drop (vK h xs e+1) xs
def lK (n:Nat)(ps:List<|List α):List (List α) :=
 match ps.findIdx? (λx=>decide (x.length < n / 2)) with
 | none=>ps
 | some i=>ps.take (i - 1)++tW n ((ps.drop<|i - 1).take 2).flatten++ps.drop (i - 1+2)
def zXV (n:Nat):(h:Nat)->List (It h)->Et->List (!7)
 | 0,xs,e=>tW n<|List.filter (λa:Et => !vL a e) xs
 | h+1,xs,e=>tW n<|lK n<|List.take (vK h xs e) xs++zXV n h (List.getD xs (vK h xs e) []) e++List.drop (vK h xs e+1) xs
def tQ (n:Nat):(h:Nat)->It h->Prop
 | 0,_=>True
 | h+1,xs=>n / 2<=List.length xs/\List.length xs<=n/\∀x∈(xs:!7),tQ n h x
def iU {xs:!7}(h1:n / 2<=xs.length)(h2:xs.length<=n)(h3:∀x∈xs,tQ n h x):tQ n (h+1) xs:=⟨h1,h2,h3⟩
def wK {xs:!7}(H:tQ n (h+1) xs):n / 2<=xs.length/\xs.length<=n/\∀x∈xs,tQ n h x:=H
def zUC (n:Nat)(xs:List α):(tW n xs).flatten=xs:=by
 unfold tW;split
 .simp_all
 .split
  .simp
  .simp
def zZN {xs:List α}(h0:0 < xs.length)(h1:xs.length<=n):tW n xs=[xs]:=by unfold tW;rw[Qv jc,Qh h1]
def zRl {xs:List α}(h1:n < xs.length):tW n xs=[xs.take<|xs.length / 2,xs.drop<|xs.length / 2]:=by unfold tW;rw[Qv jc,Qv jc]
inductive PutOk (n h:Nat)(m:Nat):List (!7)->Prop
 | one {y:!7}:m<=y.length->y.length<=n->(∀x∈y,tQ n h x)->PutOk n h m [y]
 | two {y z:!7}:tQ n (h+1) y->tQ n (h+1) z->PutOk n h m [y,z]
def zUT {xs:!7}(hn:4<=n)(h0:0 < xs.length)(hm:m<=xs.length)(h1:xs.length<=n+1)(hf:∀x∈xs,tQ n h x):PutOk n h m<|tW n xs:=by
 by_cases h2:xs.length<=n
 .rw[zZN h0 h2];exact .one hm h2 hf
 .rw[zRl jc];refine .two (iU ?_ ?_ λx hx=>hf x<|Ez hx)<|iU ?_ ?_ λx hx=>hf x<|Ex hx
  .grind
  .grind
  .grind
  .grind
def PutOk.all {ys:List (!7)}(H:PutOk n h m ys)(hm:n / 2<=m):(∀y∈ys,tQ n (h+1) y)/\(ys.length=1\/ys.length=2):=by
 cases H with
 | one a b c=>exact⟨λy hy=>by rw[Qb] at hy;subst hy;exact iU (Ww hm a) b c,.inl J⟩
 | two a b =>simp_all
def zF6 {ls:qm}{e:Et}(h:0 < ls.length):zMx ls e < ls.length:=by have:=Eg (λa => !xH (kE e) (kE a)) ls;unfold zMx;lia
def zTh {xs:List<|It<|h+1}{e:Et}(h0:0 < xs.length):vK h xs e < xs.length:=by have:=zF6 (ls:=xs.map<|wW _) (e:=e) (!8);simpa [vK] using this
theorem zPn (n:Nat)(hn:4<=n)(e:Et):∀(h:Nat) (xs:!7),xs.length<=n->(h=0\/0 < xs.length)->(∀x∈xs,tQ n h x)->PutOk n h xs.length (iO n h xs e)
 | 0,xs,hl,_,hf=>by
  have hL:(kA<|xs++[e]).length=xs.length+1:=by rw[zYV];exact Qo
  exact zUT hn jc jc jc λ_ _=>trivial
 | h+1,xs,hl,h0,hf=>by
  have h0:0 < xs.length:=by rcases h0 with z | z;cases z;exact z
  have hw:=zTh (e:=e) h0;have hc:tQ n _<|xs.getD _ []:=hf _ (by
   have:xs.getD (vK h xs e) []=xs[vK h xs e]:=by simp[hw]
   rw[this];exact Tt hw)
  obtain⟨c1,c2,c3⟩:=wK hc;obtain⟨hall,j5⟩:=(zPn n hn e h (xs.getD _ []) c2 (.inr jc) c3).all c1;have hL:(xs.take (vK h xs e)++iO n h (xs.getD (vK h xs e) []) e++xs.drop (vK h xs e+1)).length=xs.length - 1+(iO n h (xs.getD (vK h xs e) []) e).length:=by rw[Qo,Qo,Wn,Ec];lia
  refine zUT hn jc jc jc λx hx=>?_;rcases v6 hx with hx | hx
  .rcases v6 hx with hx | hx
   .exact hf x (Ez hx)
   .exact hall x hx
  .exact hf x (Ex hx)
def zQ8 {L R:List<|List α}{c:List α}(hL:∀x∈L,n / 2<=x.length)(hR:∀x∈R,n / 2<=x.length):(L++c::R).findIdx? (λx=>decide (x.length < n / 2))=if c.length < n / 2 then some L.length else none:=by grind
def zOJ (hn:4<=n){L R:List (!7)}{c:!7}(hL:∀x∈L,tQ n (h+1) x)(hR:∀x∈R,tQ n (h+1) x)(hc:n / 2<=c.length+1)(hc2:c.length<=n)(hcf:∀x∈c,tQ n h x)(h2:1<=L.length+R.length):(∀x∈lK n (L++c::R),tQ n (h+1) x)/\L.length+R.length<=(lK n<|L++c::R).length/\(lK n<|L++c::R).length<=L.length+R.length+1/\(lK n<|L++c::R).flatten=(L++c::R).flatten:=by
 unfold lK;rw[(zQ8 (n:=n) (L:=L) (R:=R) (c:=c) (λx hx=>(wK<|hL x hx).1) λx hx=>(wK<|hR x hx).1)]
 by_cases q:c.length < n / 2
 .rw[Qh q];show(∀x∈(L++c::R).take (_ - 1)++tW n (((L++c::R).drop<|_ - 1).take 2).flatten++(L++c::R).drop (_ - 1+2),tQ n (h+1) x)/\_;have two:∀(A B:List (!7)) (u v:!7),(∀x∈A,tQ n (h+1) x)->(∀x∈B,tQ n (h+1) x)->(∀x∈u++v,tQ n h x)->n / 2*2<=(u++v).length+1->(u++v).length<=n / 2+n->A.length+2+B.length=L.length+1+R.length->A++u::v::B=L++c::R -> (∀x∈A++tW n (u++v)++B,tQ n (h+1) x)/\L.length+R.length<=(A++tW n (u++v)++B).length/\(A++tW n (u++v)++B).length<=L.length+R.length+1/\(A++tW n (u++v)++B).flatten=(L++c::R).flatten:=by
   intro A B u v hA hB huv l1 l2 ll heq;have j5:(∀x∈tW n (u++v),tQ n (h+1) x)/\1<=(tW n<|u++v).length/\(tW n<|u++v).length<=2:=by
    by_cases hs:(u++v).length<=n
    .rw[zZN jc hs];refine⟨λx hx=>?_,je,je⟩;rw[Qb] at hx;subst hx;exact iU jc hs huv
    .rw[zRl jc];refine⟨λx hx=>?_,je,je⟩;rcases v4 hx with rfl | hx
     .exact iU (by rw[Wn];lia) (by rw[Wn];lia) λx hx=>huv x<|Ez hx
     .rw[Qb] at hx;subst hx;exact iU (by rw[Ec];lia) (by rw[Ec];lia) λx hx=>huv x<|Ex hx
   refine⟨λx hx=>?_,?_,?_,?_⟩
   .rcases v6 hx with hx | hx
    .rcases v6 hx with hx | hx
     .simp_all
     .simp_all
    .simp_all
   .grind
   .grind
   .rw[<-heq,Oa,Oa,zUC,Oa,Yf,Yf];simp
  rcases List.eq_nil_or_concat L with rfl | ⟨A,u,rfl⟩
  .cases R with
   | nil=>simp at h2
   | cons v B =>obtain⟨v1,v2,v3⟩:=wK<|hR v Qf;have:=two [] B c v (λx hx=>nomatch hx) (λx hx=>hR x<|Qp _ hx) (λx hx=>by rcases v6 hx with z | z;exact hcf x z;exact v3 x z) (by rw[Qo];lia) (by rw[Qo];lia) (by simp;lia) je;simpa using this
  .obtain⟨u1,u2,u3⟩:=wK<|hL u je;have:=two A R u c (λx hx=>hL x<|by simp[hx]) hR (λx hx=>by rcases v6 hx with z | z;exact u3 x z;exact hcf x z) (by rw[Qo];lia) (by rw[Qo];lia) je je;simpa using this
 .rw[Qv q];refine⟨λx hx=>?_,je,by simp;lia,J⟩;rcases v6 hx with hx | hx
  .simp_all
  .rcases v4 hx with rfl | hx
   .exact iU jc hc2 hcf
   .simp_all
theorem rH {α β:Type}{f:α->List β}:∀ {xs:List α} {x:α},x∈xs->(f x).Sublist (xs.flatMap f)
 | y::r,x,h=>by
  rcases v4 h with rfl | h
  .simp
  .exact(rH h).trans (List.sublist_append_right _ _)
theorem zU9 {α β:Type}(f:α->List β):∀ys:List<|List α,(ys.flatMap λxs=>xs.flatMap f)=ys.flatten.flatMap f
 | []=>rfl
 | y::r=>by rw[Em,zU9 f r,Yf,Tr]
def aH (h:Nat)(ys:List (!7)):zG (h+1) ys=zG h ys.flatten:=zU9 _ ys
def zZ0 (n h:Nat)(zs:!7):zG (h+1) (tW n zs)=zG h zs:=by rw[aH,zUC]
def nW (h:Nat)(xs ys:!7):zG h (xs++ys)=zG h xs++zG h ys:=Tr
def vX (h:Nat)(x:It h)(ys:!7):zG h (x::ys)=pL h x++zG h ys:=rfl
def uS (xs:List<|It 0):zG 0 xs=xs:=by show xs.flatMap (λe=>[e])=xs;simp_all
def zQn {es:qm}(h:Srt es)(e:Et):es.length<=(es.filter λa => !vL a e).length+1:=by
 induction es with
 | nil=>simp
 | cons x r ih =>
  obtain⟨p,q⟩:=Rr.mp h;have ih:=ih q
  by_cases z:x=e
  .subst z;have:r.filter (λa => !vL a x)=r:=Ur.mpr λa ha=>by
    cases y:vL a x
    .rfl
    .have:=p a ha;rw[qU.mp y,vC] at this;cases this
   rw[Rz,this];split<;>simp
  .have:vL x e=false:=by cases y:vL x e;rfl;exact absurd (qU.mp y) z
   simp_all
theorem zYO {n:Nat}(hn:2<=n):∀(h:Nat) (x:It h),tQ n h x->∃t,pL h x=wW h x::t
 | 0,x,_=>⟨[],J⟩
 | h+1,xs,H=>by
  obtain⟨a,b,c⟩:=wK H
  match xs,a,c with
  | [],a,_=>exact absurd a (by simp;lia)
  | x::r,a,c =>obtain⟨t,e⟩:=zYO hn h x<|c x Qf;refine⟨t++r.flatMap (pL h),?_⟩;show List.flatMap _ _=_;rw[Em,e];rfl
def zYY (hn:2<=n){xs:List<|It<|h+1}(hf:∀x∈xs,tQ n (h+1) x)(hs:Srt<|zG (h+1) xs)(e:Et)(h0:0 < xs.length):∃L c R,xs=L++c::R/\L.length=vK h xs e/\(∀a∈zG (h+1) L,xH (kE a) (kE e)=true)/\(∀a∈zG (h+1) R,xH (kE e) (kE a)=true):=by
 have hd:=λx hx=>zYO hn (h+1) x<|hf x hx;have low:∀x∈xs,∀a∈pL (h+1) x,xH (kE a) (kE<|wW (h+1) x)=false:=by
  intro x hx a ha;obtain⟨t,et⟩:=hd x hx;have sx:Srt<|pL (h+1) x:=hs.sublist<|rH hx;rw[et] at ha sx;rcases v4 ha with rfl | ha
  .exact vC _
  .exact zO0 ((Rr.mp sx).1 a ha)
 let p:It (h+1)->Bool:=λx => !xH (kE e) (kE<|wW (h+1) x);have cross:∀(A B:List<|It<|h+1),A++B=xs->∀a∈zG (h+1) A,∀b∈zG (h+1) B,xH (kE a) (kE b)=true:=by
  intro A B he a ha b hb;have:Srt<|zG (h+1)<|A++B:=by rw[he];exact hs
  rw[show zG (h+1) (A++B)=zG (h+1) A++zG (h+1) B from Tr] at this;exact(Rn.mp this).2.2 a ha b hb
 have lmem:∀x∈xs,wW (h+1) x∈pL (h+1) x:=λx hx=>by obtain⟨t,et⟩:=hd x hx;rw[et];exact Qf
 have hfil:∀ys:List<|It<|h+1,(∃A,A++ys=xs)->ys.filter p=ys.takeWhile p/\∀x∈ys.dropWhile p,p x=false:=by
  intro ys;induction ys with
  | nil=>intro _;exact⟨J,λx hx=>by simp at hx⟩
  | cons y r ih =>
   rintro⟨A,hA⟩
   by_cases py:p y=true
   .obtain⟨i1,i2⟩:=ih ⟨A++[y],by rw[<-hA];simp⟩;rw[List.filter_cons_of_pos py,List.takeWhile_cons_of_pos py,i1,List.dropWhile_cons_of_pos py];exact⟨J,i2⟩
   .have py':p y=false:=by simpa using py
    have hy:y∈xs:=by rw[<-hA];simp
    have key:∀x∈r,p x=_:=λx hx=>by
     have hx':x∈xs:=by rw[<-hA];simp[hx]
     have q1:xH (kE e) (kE<|wW (h+1) y)=true:=by simpa [p] using py'
     have q2:xH (kE<|wW (h+1) y) (kE<|wW (h+1) x)=true:=cross (A++[y]) r (by rw[<-hA];simp) _ (Wm.mpr ⟨y,je,lmem y hy⟩) _<|Wm.mpr ⟨x,hx,lmem x hx'⟩;show(!_)=false;rw[zSO q1 q2];rfl
    rw[List.filter_cons_of_neg py,List.takeWhile_cons_of_neg py,List.dropWhile_cons_of_neg py];refine⟨Ys.mpr λx hx=>by rw[key x hx];decide,λx hx=>?_⟩;rcases v4 hx with rfl | hx
    .exact py'
    .exact key x hx
 obtain⟨f1,f2⟩:=hfil xs ⟨[],J⟩;have hw:vK h xs e=(xs.takeWhile p).length - 1:=by unfold vK zMx;rw[Ut,Qy];show(xs.filter p).length - 1=_;rw[f1]
 have hsp:xs=xs.takeWhile p++xs.dropWhile p:=(List.takeWhile_append_dropWhile).symm;have hR:∀x∈xs,p x=false->∀a∈pL (h+1) x,xH (kE e) (kE a)=true:=λx hx px a ha=>by
  have q1:xH (kE e) (kE<|wW (h+1) x)=true:=by simpa [p] using px
  exact zGW q1<|low x hx a ha
 rcases List.eq_nil_or_concat (xs.takeWhile p) with z | ⟨L,c,z⟩
 .match xs,h0,hw,z,f2,hR,hsp with
  | x::r,_,hw,z,f2,hR,hsp =>rw[z] at hw hsp;rw[Ih] at hsp;rw[<-hsp] at f2;refine⟨[],x,r,J,by rw[hw];rfl,λa ha=>by simp at ha,λa ha=>?_⟩;obtain⟨y,hy,ha⟩:=Wm.mp ha;exact hR y (Qp _ hy) (f2 y<|Qp _ hy) a ha
 .have e1:xs=L++c::xs.dropWhile p:=by
   conv=>lhs;rw[hsp,z]
   simp
  have hc:c∈xs:=by rw[e1];simp
  have pc:p c=true:=by
   have:c∈xs.takeWhile p:=by rw[z];simp
   exact Rx.mp List.all_takeWhile c this
  refine⟨L,c,xs.dropWhile p,e1,by rw[hw,z];simp,λa ha=>?_,λa ha=>?_⟩
  .have q1:xH (kE a) (kE<|wW (h+1) c)=true:=cross L (c::xs.dropWhile p) e1.symm a ha _<|Wm.mpr ⟨c,je,lmem c hc⟩;have q2:xH (kE e) (kE<|wW (h+1) c)=false:=by simpa [p] using pc
   exact zGW q1 q2
  .obtain⟨y,hy,ha⟩:=Wm.mp ha;exact hR y (by rw[e1];simp[hy]) (f2 y hy) a ha
def zVX {L R:List α}{c d:α}(h:L.length=i):(L++c::R).take i=L/\(L++c::R).getD i d=c/\(L++c::R).drop (i+1)=R:=by subst h;simp
section
variable (hn:4<=n) (e:Et)
include hn
theorem zOd:∀(h:Nat) (xs:!7),(h=0\/0 < xs.length)->(∀x∈xs,tQ n h x)->Srt (zG h xs)->(∀a∈zG h xs,kE a≠kE e)->(zG (h+1)<|iO n h xs e).Perm (e::zG h xs)/\Srt (zG (h+1)<|iO n h xs e)
 | 0,xs,_,_,hs,hk=>by
  rw[show zG 1 (iO n 0 xs e)=zG 1 (tW n<|kA<|xs++[e]) from rfl,zZ0,uS];rw[uS] at hs hk ⊢;refine⟨(aB _).trans List.perm_append_comm,zMI ?_⟩;rw[Wz];refine Uj.mpr ⟨hs.nd,je,λa ha b hb=>?_⟩;obtain⟨q,hq,rfl⟩:=v7 ha;have hb:b=kE e:=by simpa using hb
  rw[hb];exact hk q hq
 | h+1,xs,h0,hf,hs,hk=>by
  have h0:0 < xs.length:=by rcases h0 with z | z;cases z;exact z
  obtain⟨L,c,R,ex,hL,lt1,lt2⟩:=zYY jc hf hs e h0;obtain⟨t1,t2,t3⟩:=zVX (L:=L) (R:=R) (c:=c) (d:=([]:It<|h+1)) hL;rw[<-ex] at t1 t2 t3;have hc:c∈xs:=by rw[ex];simp
  obtain⟨c1,c2,c3⟩:=wK<|hf c hc;have sc:Srt<|zG h c:=hs.sublist<|rH (f:=pL<|h+1) hc;obtain⟨i1,i2⟩:=zOd h c (.inr jc) c3 sc λa ha=>hk a<|Wm.mpr ⟨c,hc,ha⟩;have eq:zG (h+1+1) (iO n (h+1) xs e)=zG (h+1) L++zG (h+1) (iO n h c e)++zG (h+1) R:=by show zG (h+1+1) (tW n<|List.take (vK h xs e) xs++iO n h (List.getD xs (vK h xs e) []) e++List.drop (vK h xs e+1) xs)=_;rw[zZ0,t1,t2,t3,nW,nW]
  rw[eq];have eqx:zG (h+1) xs=zG (h+1) L++(zG h c++zG (h+1) R):=by
   conv=>lhs;rw[ex]
   rw[nW,vX];rfl
  rw[eqx] at hs ⊢;obtain⟨s1,s2,s3⟩:=Rn.mp hs;obtain⟨s4,s5,s6⟩:=Rn.mp s2;have mem:∀a∈zG (h+1) (iO n h c e),a=e\/a∈zG h c:=λa ha=>by simpa using i1.subset ha
  refine⟨?_,?_⟩
  .refine((i1.append_left<|zG (h+1) L).append_right<|zG (h+1) R).trans ?_;rw[Ra];exact List.perm_middle
  .rw[Ra];refine Rn.mpr ⟨s1,Rn.mpr ⟨i2,s5,λa ha b hb=>?_⟩,λa ha b hb=>?_⟩
   .rcases mem a ha with rfl | ha
    .exact lt2 b hb
    .exact s6 a ha b hb
   .rcases v6 hb with hb | hb
    .grind
    .exact s3 a ha b (Ws _ hb)
theorem zZC:∀(h:Nat) (xs:!7),xs.length<=n->(h=0\/2<=xs.length)->(∀x∈xs,tQ n h x)->Srt (zG h xs) -> zG (h+1) (zXV n h xs e)=(zG h xs).filter (λa => !vL a e) /\ ((h=0/\zXV n h xs e=[]/\xs.length<=1)\/∃y,zXV n h xs e=[y]/\xs.length<=y.length+1/\y.length<=n/\0 < y.length/\∀x∈y,tQ n h x)
 | 0,xs,hl,_,hf,hs=>by
  rw[uS] at hs ⊢;have hfo:=zQn hs e;have hfl:=Eg (λa => !vL a e) xs;rw[show zG 1 (zXV n 0 xs e)=zG 1 (tW n<|List.filter (λa:Et => !vL a e) xs) from rfl,zZ0,uS];refine⟨J,?_⟩;rcases Nat.eq_zero_or_pos (xs.filter λa => !vL a e).length with z | z
  .refine .inl ⟨J,?_,jc⟩;show tW n (xs.filter λa => !vL a e)=[];unfold tW;rw[Qh z]
  .exact .inr ⟨List.filter (λa:Et => !vL a e) xs,zZN z<|Ww hfl hl,hfo,Ww hfl hl,z,λ_ _=>trivial⟩
 | h+1,xs,hl,h0,hf,hs=>by
  have h0:2<=xs.length:=by rcases h0 with z | z;cases z;exact z
  obtain⟨L,c,R,ex,hL,lt1,lt2⟩:=zYY jc hf hs e jc;obtain⟨t1,t2,t3⟩:=zVX (L:=L) (R:=R) (c:=c) (d:=([]:It<|h+1)) hL;rw[<-ex] at t1 t2 t3;have hc:c∈xs:=by rw[ex];simp
  obtain⟨c1,c2,c3⟩:=wK<|hf c hc;have sc:Srt<|zG h c:=hs.sublist<|rH (f:=pL<|h+1) hc;obtain⟨i1,i2⟩:=zZC h c c2 (.inr jc) c3 sc;have hxl:xs.length=L.length+R.length+1:=by rw[ex];simp;lia
  rcases i2 with⟨_,_,z⟩ | ⟨y,ey,y1,y2,y3,y4⟩
  .grind
  .obtain⟨g1,g2,g3,g4⟩:=zOJ hn (L:=L) (R:=R) (c:=y) (λx hx=>hf x (by rw[ex];simp[hx])) (λx hx=>hf x (by rw[ex];simp[hx])) jc y2 y4 jc;have eq:zXV n (h+1) xs e=tW n (lK n<|L++y::R):=by
    show tW n (lK n<|List.take (vK h xs e) xs++zXV n h (List.getD xs (vK h xs e) []) e++List.drop (vK h xs e+1) xs)=_;rw[t1,t2,t3,ey];simp
   rw[eq,zZ0];refine⟨?_,.inr ⟨lK n<|L++y::R,zZN jc jc,jc,jc,jc,g1⟩⟩;have eqx:zG (h+1) xs=zG (h+1) L++(zG h c++zG (h+1) R):=by
    conv=>lhs;rw[ex]
    rw[nW,vX];rfl
   rw[ey] at i1;have iy:pL (h+1) y=(zG h c).filter λa => !vL a e:=by rw[<-i1];show _=List.flatMap _ [y];simp
   have keep:∀M:qm,(∀a∈M,kE a≠kE e)->M.filter (λa => !vL a e)=M:=λM hM=>Ur.mpr λa ha=>by
    cases q:vL a e
    .rfl
    .exact absurd (by rw[qU.mp q]) (hM a ha)
   rw[eqx,Ua,Ua,keep _ λa ha z=>by(have:=lt1 a ha;rw[z,vC] at this;cases this),keep (zG (h+1) R) λa ha z=>by(have:=lt2 a ha;rw[z,vC] at this;cases this)];rw[aH,g4,<-aH,nW,vX,iy]
theorem like_none:∀(h:Nat) (xs:!7),(h=0\/0 < xs.length)->(∀x∈xs,tQ n h x)->(∀a∈zG h xs,kE a≠kE e)->zYu h xs e=none
 | 0,xs,_,_,hk=>by rw[uS] at hk;show(List.filter _ xs).head?=none;rw[Ys.mpr λa ha=>by simpa using hk a ha];rfl
 | h+1,xs,h0,hf,hk=>by
  have h0:0 < xs.length:=by rcases h0 with z | z;cases z;exact z
  have hw:=zTh (e:=e) h0;have hm:xs.getD (vK h xs e) []∈xs:=by simp_all
  obtain⟨c1,c2,c3⟩:=wK<|hf _ hm;exact like_none h _ (.inr jc) c3 λa ha=>hk a<|Wm.mpr ⟨_,hm,ha⟩
theorem like_some {b:Et}(hb:kE b=kE e):∀(h:Nat) (xs:!7),(h=0\/0 < xs.length)->(∀x∈xs,tQ n h x)->Srt (zG h xs)->b∈zG h xs->zYu h xs e=some b
 | 0,xs,_,_,hs,hm=>by
  rw[uS] at hs hm;show(List.filter (λa:Et=>decide (kE a=kE e)) xs).head?=some b;have:∃r,xs.filter (λa:Et=>decide (kE a=kE e))=b::r:=by
   have hx:b∈xs.filter (λa:Et=>decide (kE a=kE e)):=Eo.mpr ⟨hm,by simpa using hb⟩
   match hq:xs.filter λa:Et=>decide (kE a=kE e),hx with
   | c::r,_ =>
    have hc:c∈xs.filter (λa:Et=>decide (kE a=kE e)):=by rw[hq];simp
    obtain⟨c1,c2⟩:=Eo.mp hc;have:=hs.inj c1 hm<|(Eh c2).trans hb.symm;exact⟨r,by rw[this]⟩
  obtain⟨r,er⟩:=this;rw[er];rfl
 | h+1,xs,h0,hf,hs,hm=>by
  have h0:0 < xs.length:=by rcases h0 with z | z;cases z;exact z
  obtain⟨L,c,R,ex,hL,lt1,lt2⟩:=zYY jc hf hs e h0;obtain⟨t1,t2,t3⟩:=zVX (L:=L) (R:=R) (c:=c) (d:=([]:It<|h+1)) hL;rw[<-ex] at t1 t2 t3;have hc:c∈xs:=by rw[ex];simp
  obtain⟨c1,c2,c3⟩:=wK<|hf c hc;have sc:Srt<|zG h c:=hs.sublist<|rH (f:=pL<|h+1) hc;have eqx:zG (h+1) xs=zG (h+1) L++(zG h c++zG (h+1) R):=by
   conv=>lhs;rw[ex]
   rw[nW,vX];rfl
  rw[eqx] at hm;have hbc:b∈zG h c:=by
   rcases v6 hm with z | z
   .have:=lt1 b z;rw[hb,vC] at this;cases this
   .rcases v6 z with z | z
    .exact z
    .have:=lt2 b z;rw[hb,vC] at this;cases this
  show zYu h (List.getD xs (vK h xs e) []) e=some b;rw[t2];exact like_some hb h c (.inr jc) c3 sc hbc
end
structure RtOk (n h:Nat)(xs:!7):Prop where
 len:xs.length<=n
 two:h=0\/2<=xs.length
 full:∀x∈xs,tQ n h x
 srt:Srt<|zG h xs
abbrev Rt:=(h:Nat)×List (It h)
def zOV:(h:Nat)->List (It h)->Rt
 | 0,xs=>⟨0,xs⟩
 | h+1,xs=>match xs with
  | [x]=>zOV h x
  | xs=>⟨h+1,xs⟩
def zZf {xs:!7}(h2:h=0\/2<=xs.length):zOV h xs=⟨h,xs⟩:=by
 cases h with
 | zero=>rfl
 | succ h =>
  match xs,h2 with
  | [],_=>rfl
  | [x],h2=>rcases h2 with z | z;cases z;exact absurd z je
  | _::_::_,_=>rfl
def zSC (h:Nat)(ys:List (!7)):Rt:=if ys.length=0 then⟨0,[]⟩ else zOV (h+1) ys
def RtOk.nil {n:Nat}:RtOk n 0 []:=⟨Er _,.inl J,(λ_ h=>nomatch h),List.Pairwise.nil⟩
section
variable (hn:4<=n) (e:Et)
include hn
def RtOk.put {xs:!7}(H:RtOk n h xs)(hk:∀a∈zG h xs,kE a≠kE e):∃h' xs',zSC h (iO n h xs e)=⟨h',xs'⟩/\RtOk n h' xs'/\(zG h' xs').Perm (e::zG h xs):=by
 have h0:h=0\/0 < xs.length:=by rcases H.two with z | z;exact .inl z;exact .inr jc
 have p1:=zPn n hn e h xs H.len h0 H.full;obtain⟨p2,p3⟩:=zOd hn e h xs h0 H.full H.srt hk;generalize iO n h xs e=ys at p1 p2 p3;cases p1 with
 | @one y a b c =>
  have hy:zG (h+1) [y]=zG h y:=by show List.flatMap _ [y]=_;simp[pL]
  rw[hy] at p2 p3;have h2:h=0\/2<=y.length:=by rcases H.two with z | z;exact .inl z;exact .inr jc
  exact⟨h,y,zZf h2,⟨b,h2,c,p3⟩,p2⟩
 | @two y z a b=>exact⟨h+1,[y,z],J,⟨by simp;lia,.inr je,λx hx=>by
   rcases v4 hx with rfl | hx
   .exact a
   .rw[Qb] at hx;subst hx;exact b,p3⟩,p2⟩
def RtOk.take {xs:!7}(H:RtOk n h xs):∃h' xs',zSC h (zXV n h xs e)=⟨h',xs'⟩/\RtOk n h' xs'/\zG h' xs'=(zG h xs).filter λa => !vL a e:=by
 obtain⟨p1,p2⟩:=zZC hn e h xs H.len H.two H.full H.srt;generalize zXV n h xs e=ys at p1 p2;have hs:Srt<|(zG h xs).filter λa => !vL a e:=H.srt.sublist List.filter_sublist;rcases p2 with⟨z,rfl,_⟩ | ⟨y,rfl,y1,y2,y3,y4⟩
 .exact⟨0,[],rfl,.nil,p1⟩
 .have hy:zG (h+1) [y]=zG h y:=by show List.flatMap _ [y]=_;simp[pL]
  rw[hy] at p1
  by_cases h2:h=0\/2<=y.length
  .exact⟨h,y,zZf h2,⟨y2,h2,y4,by rw[p1];exact hs⟩,p1⟩
  .cases h with
   | zero=>exact absurd (.inl J) h2
   | succ h =>
    match y,y3,y4,hy,h2,p1 with
    | [c],_,y4,hy,_,p1 =>
     obtain⟨c1,c2,c3⟩:=wK<|y4 c Qf;have hc:zG _ [c]=zG h c:=by show List.flatMap _ [c]=_;simp[pL]
     rw[hc] at p1;have h2':h=0\/2<=List.length c:=.inr jc;exact⟨h,c,zZf h2',⟨c2,h2',c3,by rw[p1];exact hs⟩,p1⟩
    | _::_::_,_,_,_,h2,_=>exact absurd (.inr je) h2
omit e
theorem zWA:∀(h:Nat) (x:It h),tQ n h x->2^h<=(pL h x).length
 | 0,_,_=>Qg 1
 | h+1,xs,H=>by
  obtain⟨a,b,c⟩:=wK H;have key:∀ys:List _,(∀y∈ys,tQ n h y)->ys.length*2^h<=(zG h ys).length:=by
   intro ys;induction ys with
   | nil=>intro _;simp
   | cons y r ih =>intro hy;have i1:=ih λz hz=>hy z<|Qp _ hz;have i2:=zWA h y<|hy y Qf;rw[vX,Qo,Qk,Nat.add_mul];lia
  have:=key xs c;show 2^_<=(zG h xs).length;have h2:2*2^h<=List.length xs*2^h:=Nat.mul_le_mul_right _ jc;rw[Nat.pow_succ];lia
def RtOk.deep {xs:!7}(H:RtOk n h xs)(hl:(zG h xs).length < 32768):h<=13:=by
 rcases H.two with z | z
 .lia
 .match xs,z with
  | x::y::r,_ =>
   have a:=zWA hn h x<|H.full x je;have b:=zWA hn h y<|H.full y je;rw[vX,vX,Qo,Qo] at hl
   by_cases q:h<=13
   .exact q
   .have:2^14<=2^h:=Oq je jc;lia
theorem RtOk.like_none {h:Nat}{xs:!7}(H:RtOk n h xs){e:Et}(hk:∀a∈zG h xs,kE a≠kE e):zYu h xs e=none :=
 My.like_none hn e h xs (by rcases H.two with z | z;exact .inl z;exact .inr jc) H.full hk
theorem RtOk.like_some {h:Nat}{xs:!7}(H:RtOk n h xs){e b:Et}(hb:b∈zG h xs)(hk:kE b=kE e):zYu h xs e=some b :=
 My.like_some hn e hk h xs (by rcases H.two with z | z;exact .inl z;exact .inr jc) H.full H.srt hb
end
def bU {g:Sf}(h:f O=some d):zF (yJ i f) g O=g (O.set i<|.fz d):=wQ (by unfold yJ;rw[h];rfl)
def yG {g:Sf}(h:f O=some d)(k:(g<|O.set i<|.fz d).bind vR=r):(zF (yJ i f) g O).bind vR=r:=yM (by unfold yJ;rw[h];rfl) k
def zVM {f g:Sf}(h:t O=some false)(k:(g O).bind vR=r):(zF (sIf t f vU) g O).bind vR=r:=yM (by unfold sIf;rw[h];rfl) k
def jR {f:Sf}{b:Bool}(h:t O=some b):sIf t f vU O=if b then f O else some (.nx O):=by unfold sIf;rw[h];cases b<;>rfl
def zXr {g:Sf}(h:t O=some true)(k:e O=r):(zF (sIf t (xQ e) vU) g O).bind vR=r:=by unfold zF;rw[jR h];unfold xQ;rw[k];cases r<;>rfl
def tE:(xQ e O).bind vR=e O:=by unfold xQ;cases e O<;>rfl
def bY {f:jz}{x:D}(h:fa O=some x):yZ 1 f (zY fa zS) O=f [x]:=zZY (zM h J) J
def vM {f:jz}{x y:D}(h1:fa O=some x)(h2:fb O=some y):yZ 2 f (zY fa<|zY fb zS) O=f [x,y]:=zZY (zM h1<|zM h2 rfl) J
def vO {f:jz}{x y z:D}(h1:fa O=some x)(h2:fb O=some y)(h3:fc O=some z):yZ 3 f (zY fa<|zY fb<|zY fc zS) O=f [x,y,z]:=zZY (zM h1<|zM h2<|zM h3 rfl) J
def zJ {C:Int->Int->Bool}{g:Int->Int->Int}{i:Int}(h1:fa O=some (.int i))(h2:fb O=some (.int j))(h:C i j=true):eI C g fa fb O=some (.int<|g i j):=by unfold eI;rw[h1,h2];simp[h]
def aL {k:Int}(h:f O=some (.int x)):eB2 gEq f (eC<|.int k) O=some (decide (x=k)):=by unfold eB2;rw[h];rfl
def dC {i:Int}(h1:fa O=some (.int i))(h2:fb O=some (.int j)):sW fa fb O=some (.int<|i+j):=by unfold sW;rw[h1,h2];rfl
def zWW {x y:Str}(h1:fa O=some (.str x))(h2:fb O=some (.str y))(h:x.length+y.length<=100000):sW fa fb O=some (.str<|x++y):=by unfold sW;rw[h1,h2];exact zPR h
def lI (h:g O=some ds)(hl:ds.length<=100000):vZ g O=some (.tup ds):=by unfold vZ;rw[h,Qr,uL hl];rfl
def nM (h:g O=some ds)(hl:ds.length<=100000):xJ g O=some ds:=by unfold xJ;rw[h,Qr,uL hl]
def wJ {x y:D}(h1:fa O=some x)(h2:fb O=some y):eIx fa fb O=atD x y:=by unfold eIx;rw[h1,h2];rfl
theorem zTO {α:Type}{elt:Ef}{f:α->D}{Q:α->Prop}{rest:kj}:∀(ds:kd) (x0:B) (j7:kd),(∀d∈ds,∃a,elt (.fz d::rest)=some (f a)/\Q a)->∃as:List α,uB (gN 0) tOK elt ds (x0::rest) j7=some (j7++as.map f)/\as.length=ds.length/\∀a∈as,Q a
 | [],_,j7,_=>⟨[],by simp[uB],J,λ_ h=>by cases h⟩
 | d::r,x0,j7,hh=>by
  obtain⟨a,ha,qa⟩:=hh d Qf;obtain⟨as,e,el,hq⟩:=zTO r (.fz d) (j7++[f a]) λq hq=>hh q<|Qp _ hq;refine⟨a::as,?_,by rw[Qk,Qk,el],λb hb=>by
   rcases v4 hb with z | z
   .simp_all
   .exact hq b z⟩
  unfold uB;have e1:gN 0 d (x0::rest)=some _:=rfl;have e2:tOK (.fz d::rest)=some true:=rfl;simp_all
abbrev pgN:kh:=[As,A5,AH,AG]
def dE (e:Et):D:=.tup [.int e.f,.int e.l,.str e.z]
def zRc (h:Nat)(xs:!7):D:=if (xs.map<|most h).isEmpty=true then .non else .int (aA<|xs.map<|most h)
def iD:(h:Nat)->It h->D
 | 0,e=>dE e
 | h+1,xs=>.obj "Page" pgN [.bl<|h==0,.lst<|List.map (iD h) xs,.lst<|List.map (λx=>dE<|wW h x) xs,zRc h xs]
abbrev pgD (h:Nat)(xs:!7):D:=iD (h+1) xs
def ne:(h:Nat)->It h->Prop
 | 0,_=>True
 | h+1,xs=>0 < List.length xs
def gU (hn:4<=n){x:It h}(H:tQ n h x):ne h x:=by
 cases h with
 | zero=>trivial
 | succ h=>have:=(wK H).1;show 0 < List.length x;lia
def zST {a b c:D}(h:fa O=some (.obj A3 pgN [a,b,c,d])):yK A3 As fa O=some a/\yK A3 A5 fa O=some b/\yK A3 AH fa O=some c/\yK A3 AG fa O=some d:=by
 refine⟨?_,?_,?_,?_⟩
 all_goals
  unfold yK;rw[h,Qr];refine(Qh J).trans ?_;kernel_rfl
section
variable{xs:!7}
def zJI (H:fa O=some (pgD h xs)):yK A3 As fa O=some (.bl<|h==0):=(zST H).1
def w9 (H:fa O=some (pgD h xs)):yK A3 A5 fa O=some (.lst<|xs.map<|iD h):=(zST H).2.1
def zXo (H:fa O=some (pgD h xs)):yK A3 AH fa O=some (.lst<|xs.map λx=>dE<|wW h x):=(zST H).2.2.1
def zRT (H:fa O=some (pgD h xs)):yK A3 AG fa O=some (zRc h xs):=(zST H).2.2.2
end
theorem zNU {α:Type}{elt:Ef}{f h:α->D}{rest:kj}:∀(l:List α) (x0:B) (j7:kd),(∀a∈l,elt (.fz (f a)::rest)=some (h a))->uB (gN 0) tOK elt (l.map f) (x0::rest) j7=some (j7++l.map h)
 | [],_,j7,_=>by simp[uB]
 | a::r,x0,j7,hh=>by rw[Qx];unfold uB;have e1:gN 0 (f a) (x0::rest)=some (.fz _::rest):=rfl;have e2:tOK (.fz (f a)::rest)=some true:=rfl;rw[e1,Qr,e2,Qr,hh a Qf,Qr,zNU r _ _ λq hq=>hh q<|Qp _ hq];simp
theorem cS {α:Type}{t:Tf}{f:α->D}{p:α->Bool}{rest:kj}:∀(l:List α) (x0:B) (j7:kd),(∀a∈l,t (.fz (f a)::rest)=some (p a))->uB (gN 0) t eV0 (l.map f) (x0::rest) j7=some (j7++(l.filter p).map f)
 | [],_,j7,_=>by simp[uB]
 | a::r,x0,j7,hh=>by
  rw[Qx];unfold uB;have e1:gN 0 (f a) (x0::rest)=some (.fz _::rest):=rfl;have e3:eV0 (.fz (f a)::rest)=some _:=rfl;rw[e1,Qr,hh a Qf,Qr];cases hp:p a with
  | true=>rw[e3,Qr,cS r _ _ λq hq=>hh q<|Qp _ hq,List.filter_cons_of_pos hp];simp
  | false=>rw[Qv je,cS r _ _ λq hq=>hh q<|Qp _ hq,List.filter_cons_of_neg (!8)]
theorem zU0:∀l:ki,zUF (l.map .int)=some l
 | []=>rfl
 | i::r=>by show(zUF _).map _=_;rw[zU0 r];rfl
def zHv (h:g O=some (l.map .int)):zNP g O=some (if l.isEmpty=true then .non else .int (aA l)):=by unfold zNP;rw[h,Qr,zU0,Qr];split<;>rfl
def zQ9 {x:!7}(hx:0 < x.length):zRc h x = .int (most (h+1) x):=by unfold zRc;rw[Qv (by cases x;simp at hx;simp)];rfl
def zTB (f:α->D){x:α}{r:List α}:atD (.lst<|(x::r).map f) (.int 0)=some (f x):=by show atI _ 0=_;rw[mV _ 0 .non je je];rfl
def zS8 {l:List α}{f g:α->D}(hs:src O=some (.lst<|l.map f))(hl:l.length<=100000)(he:∀a∈l,elt [.fz<|f a]=some (g a)):yH (iL src) 1 [] (gN 0) tOK elt O=some (l.map g):=by unfold yH iL;rw[hs,Qr];rw[Qr,uL (!8)];have:=zNU l .no [] he;exact this
def zHA (h:Nat)(xs:!7)(hl:xs.length<=100000)(hne:∀x∈xs,ne h x):nX [.bl<|h==0,.lst<|xs.map<|iD h]=some [.bl<|h==0,.lst<|xs.map<|iD h,.lst<|xs.map λx=>dE<|wW h x,zRc h xs]:=by
 show zTc [.no,.fz _,.fz<|.lst _,.no]=_;have e1:eIf (tB1 eV1) (eL<|yH (iL eV2) 1 [] (gN 0) tOK<|eIx eV0 jq) (eL<|yH (iL eV2) 1 [] (gN 0) tOK<|yK A3 AG eV0) [.no,.fz<|.bl<|h==0,.fz<|.lst<|xs.map<|iD h,.no]=some (.lst<|(xs.map<|most h).map .int):=by
  rw[Wj];cases h with
  | zero=>exact vN<|zS8 rfl hl λe _=>rfl
  | succ h=>exact vN (zS8 J hl λx hx=>by rw[zRT rfl,zQ9<|hne x hx];rfl)
 unfold zTc;rw[e1,Qr];refine zM rfl<|zM rfl<|zM ?_<|zM (zHv J) rfl;cases h with
 | zero=>rfl
 | succ h =>
  exact vN (zS8 (g:=λx=>dE _) rfl hl λx hx=>by
   match x,hne x hx with
   | y::t,_=>exact(wJ (zXo (h:=h) J) J).trans (zTB _))
def zZ5 {fx:Ef}{xs:!7}(h1:fb O=some (.bl<|h==0))(h2:fx O=some (.lst<|xs.map<|iD h))(hl:xs.length<=100000)(hne:∀x∈xs,ne h x):nE A3 pgN 2 nX (zY fb<|zY fx zS) O=some (pgD h xs) :=zRL (zM h1<|zM h2 rfl) J (zHA h xs hl hne) J
def zF5 (f:α->D)(xs:List α)(k:Nat)(hk:k<=xs.length):fT (xs.map f) none (some (k:Int))=(xs.take k).map f:=by unfold fT;rw[HT.sIx_nat,Qy,List.map_take,Nat.min_eq_left hk];rfl
def zG4 (f:α->D)(xs:List α)(k:Nat):fT (xs.map f) (some (k:Int)) none=(xs.drop k).map f:=by unfold fT;rw[HT.sIx_none,HT.sIx_nat,Ya je];simp_all
def zHV (f:α->D)(xs:List α)(k:Nat):fT (xs.map f) (some (k:Int)) (some ((k+2:Nat):Int))=((xs.drop k).take 2).map f:=by
 unfold fT;rw[HT.sIx_nat,HT.sIx_nat,Qy,List.map_take,List.map_drop]
 by_cases h:k<=xs.length
 .rw[Nat.min_eq_left h]
  by_cases h2:k+2<=xs.length
  .simp_all
  .rw[Nat.min_eq_right jc,Ya je,Ya (by simp;lia)]
 .rw[show min k xs.length=xs.length from Nat.min_eq_right jc,List.drop_of_length_le je,List.drop_of_length_le (by simp;lia)];simp
def zW9 {f:α->D}{xs:List α}{k:Nat}(h:fa O=some (.lst<|xs.map f))(hk:fk O=some (.int (k:Int)))(hkl:k<=xs.length):uR fa oNo (vJ fk) O=some ((xs.take k).map f):=by unfold uR oNo vJ;rw[h,hk];exact Wi some<|zF5 f xs k hkl
def zWV {f:α->D}{xs:List α}{k:Nat}(h:fa O=some (.lst<|xs.map f))(hk:fk O=some (.int (k:Int))):uR fa (vJ fk) oNo O=some ((xs.drop k).map f):=by unfold uR oNo vJ;rw[h,hk];exact Wi some<|zG4 f xs k
def pC (n h:Nat)(xs:!7)(hl:xs.length<=1000)(hne:∀x∈xs,ne h x):sC [.bl<|h==0,.lst<|xs.map<|iD h,.int (n:Int)]=some (.lst<|(tW n xs).map<|iD<|h+1):=by
 show(gX [.fz<|.bl<|h==0,.fz<|.lst<|xs.map<|iD h,.fz<|.int (n:Int),.no]).bind vR=_
 by_cases h0:xs.length=0
 .have:=Te.mp h0;subst this;exact zXr J J
 .have hc0:tW n xs=if xs.length<=n then [xs] else [xs.take<|xs.length / 2,xs.drop<|xs.length / 2]:=Qv h0;refine zVM (by
   cases xs with
   | nil=>exact absurd J h0
   | cons x r=>rfl) ?_
  have ht:eB2 gLe (uV eV1) eV2 [.fz<|.bl<|h==0,.fz<|.lst<|xs.map<|iD h,.fz<|.int (n:Int),.no]=some (decide (xs.length<=n)):=by show some (decide (((xs.map<|iD h).length:Int)<=(n:Int)))=_;simp_all
  by_cases h1:xs.length<=n
  .rw[hc0,Qh h1];refine zXr (by rw[ht,Qc h1]) ?_;exact vN<|nM (zM (zZ5 (h:=h) (xs:=xs) J J jc hne) J) je
  .rw[hc0,Qv h1];refine zVM (by rw[ht,Qn h1]) ?_;refine yG (d:=.int ((xs.length / 2:Nat):Int)) (by
    refine(zJ (i:=(xs.length:Int)) (j:=2) ?_ J J).trans ?_
    .show some (D.int ((xs.map _).length:Int))=_;rw[Qy]
    .rfl) ?_
   unfold zZp;rw[tE];refine vN<|nM (zM (zZ5 (xs:=xs.take _) J (vN<|zW9 rfl rfl jc) (by rw[Wn];lia) λx hx=>hne x<|Ez hx)<|zM (zZ5 (xs:=xs.drop _) J (vN<|zWV rfl rfl) (by rw[Ec];lia) λx hx=>hne x<|Ex hx) rfl) je
def zOy (e:Et):rK [dE e]=some (dIS<|kE e):=rfl
def zPL (h:Nat)(xs:!7)(e:Et)(hl:xs.length<=1000):zWQ [pgD h xs,dE e]=some (.int ((zMx (xs.map<|wW h) e:Nat):Int)):=by
 refine yM (O':=[.fz<|pgD h xs,.fz<|dE e,.ow<|(xs.filter λx => !xH (kE e) (kE<|wW h x)).map λx=>dE<|wW h x]) ?_ ?_
 .unfold mF yH iL;rw[zXo rfl,Qr];rw[Qr,uL (by rw[Qy];lia)];have:=cS (t:=eB2 zOb (yZ 1 rK<|zY eV0 zS)<|yZ 1 rK (!13)) (f:=λx=>dE<|wW h x) (p:=λx => !xH (kE e) (kE _)) (rest:=[.fz<|dE e]) xs .no [] λa _=>by
   rfl
  exact(Wi _ this).trans J
 .unfold zOs;have j5:((xs.filter λx => !xH (kE e) (kE<|wW h x)).map λx=>dE<|wW h x).length=((xs.map<|wW h).filter λa => !xH (kE e) (kE a)).length:=by
   rw[Qy,Ut,Qy];rfl
  show some (D.int<|if _ > ((List.map (λx=>dE _)<|xs.filter λx => !xH _ (kE _)).length:Int) - 1 then 0 else((List.map (λx=>dE _)<|xs.filter λx => !xH _ (kE _)).length:Int) - 1)=_;rw[j5];unfold zMx
  grind
def zTo (f:α->D){xs:List α}{k:Nat}{d:α}(h:k < xs.length):atD (.lst<|xs.map f) (.int (k:Int))=some (f<|xs.getD k d):=by show atI _ _=_;rw[mV _ _ .non jc (!8)];simp[h]
def zDP (p q:Int×Str):zRq (dIS p) (dIS q)=some (decide (p=q)):=by
 show some (_&&true)=_;obtain⟨a,b⟩:=p;obtain⟨c,d⟩:=q
 by_cases h1:a=c<;>by_cases h2:b=d<;>simp[h1,h2]
def zEX (a e:Et):zXe (dE a) (dE e)=some (!vL a e):=by show some (!((a.f==e.f&&_)&&true))=_;unfold vL;simp
def Way (n h:Nat)(xs:!7):Prop:=xs.length<=n/\(h=0\/0 < xs.length)/\∀x∈xs,tQ n h x
def Way.down (hn:4<=n){xs:List<|It<|h+1}(H:Way n (h+1) xs)(e:Et):vK h xs e < xs.length/\Way n h (xs.getD (vK h xs e) []):=by
 obtain⟨a,b,c⟩:=H;have h0:0 < xs.length:=by rcases b with z | z;cases z;exact z
 have hw:=zTh (e:=e) h0;have hm:xs.getD (vK h xs e) []∈xs:=by simp_all
 obtain⟨c1,c2,c3⟩:=wK<|c _ hm;exact⟨hw,c2,.inr jc,c3⟩
def Way.ne {n h:Nat}(hn:4<=n){xs:!7}(H:Way n h xs):∀x∈xs,My.ne h x:=λx hx=>gU hn<|H.2.2 x hx
def zRW:(h:Nat)->List (It h)->Et->qm
 | 0,xs,_=>xs
 | h+1,xs,e=>zRW h (List.getD xs (vK h xs e) []) e
theorem zWm:∀(h:Nat) (xs:!7) (e:Et),zYu h xs e=((zRW h xs e).filter λa=>decide (kE a=kE e)).head?
 | 0,_,_=>rfl
 | h+1,xs,e=>zWm h _ e
theorem zUB {n:Nat}(hn:4<=n):∀(h:Nat) (xs:!7) (e:Et),Way n h xs->(zRW h xs e).length<=n
 | 0,_,_,H=>H.1
 | h+1,xs,e,H=>zUB hn h _ e (H.down hn e).2
def zDE:Option Et->D | none=>.non | some e=>dE e
theorem zOk {n:Nat}(hn:4<=n)(h12:n<=60)(e:Et):∀(h:Nat) (xs:!7) (k:Nat),Way n h xs->h < k -> kZ (tT<|tB1<|yK A3 As eV0) (yJ 0<|eIx (yK A3 A5 eV0)<|yZ 2 zWQ<|zY eV0 (!13)) k [.fz<|pgD h xs,.fz<|dE e,.no]=some (.nx [.fz<|pgD 0<|zRW h xs e,.fz<|dE e,.no])
 | 0,xs,k+1,H,hk=>by rfl
 | h+1,xs,k+1,H,hk=>by
  obtain⟨hw,H'⟩:=H.down hn e;have b:yJ 0 (eIx (yK A3 A5 eV0)<|yZ 2 zWQ<|zY eV0 (!13)) [.fz<|pgD _ xs,.fz<|dE e,.no]=some (.nx [.fz<|pgD h<|xs.getD (vK h xs e) [],.fz<|dE e,.no]):=by unfold yJ;rw[(wJ (w9 J)<|(vM J J).trans<|zPL _ xs e<|Ww H.1 jc).trans<|zTo _ (d:=_) hw];rfl
  rw[kZ,b];exact zOk hn h12 e h _ k H' jc
def zOg (hn:4<=n)(h12:n<=60)(e:Et)(h:Nat)(xs:!7)(H:Way n h xs)(hh:h < 18):tH [pgD h xs,dE e]=some (zDE<|zYu h xs e):=by
 have hl:=zUB hn h xs e H;refine yM (zOk hn h12 e h xs 18 H hh) ?_;rw[zWm];generalize zRW h xs e=es at hl;refine yM (O':=[.fz<|pgD 0 es,.fz<|dE e,.ow<|(es.filter λa=>decide (kE a=kE e)).map dE]) ?_ ?_
 .unfold mF yH iL;rw[w9 rfl,Qr];rw[Qr,uL<|by grind];have:=cS (t:=eB2 zRq (yZ 1 rK<|zY eV0 zS)<|yZ 1 rK (!13)) (f:=dE) (p:=λa=>decide (kE a=kE e)) (rest:=[.fz _]) es .no [] λa _=>by
   unfold eB2;rw[bY rfl,bY rfl,zOy,zOy];exact zDP _ _
  exact(Wi _ this).trans J
 .unfold eD zY9;rw[tE];cases es.filter λa=>decide (kE a=kE e) with
  | nil=>rfl
  | cons x r=>exact zTB dE
theorem zUE:∀l:qm,zQC rK (l.map dE)=some (l.map kE)
 | []=>rfl
 | e::r=>by show((rK [dE e]).bind zM7).bind _=_;rw[zUE r];rfl
def zJ4 {l:qm}(h:g O=some (l.map dE))(hl:l.length < 64):zS6 rK g O=some ((kA l).map dE):=by unfold zS6;rw[h,Qr,zUE,Qr,Qh (!8)];unfold kA;rw[Wj];congr 1;refine Es λi hi=>?_;have h:=zHi hi;simp[h]
def zWN {f:Lf}{d:α->D}{xs ys:List α}(h1:f O=some (xs.map d))(h2:g O=some (ys.map d))(hl:xs.length+ys.length<=100000):gE f g O=some ((xs++ys).map d):=by unfold gE;rw[h1,Qr,h2,Qr,uL (!8),Wz]
def zZ2 (h:f O=some (.lst xs)):iL f O=some xs:=by unfold iL;rw[h];rfl
def zOH (hn:4<=n)(e:Et)(h:Nat)(xs:!7)(H:Way n h xs):(iO n h xs e).length<=2/\(0 < xs.length\/h=0->∀y∈iO n h xs e,ne (h+1) y):=by
 have p:=zPn n hn e h xs H.1 H.2.1 H.2.2;have q:0 < xs.length\/h=0->∀y∈iO n h xs e,ne (h+1) y:=by
  intro hx y hy
  by_cases h0:h=0
  .subst h0;have hy:y∈tW n (kA _):=hy;have hL:(kA<|xs++[e]).length=xs.length+1:=by rw[zYV];exact Qo
   unfold tW at hy;rw[Qv jc] at hy;split at hy
   .rw[Qb] at hy;subst hy;show 0 < List.length _;lia
   .rcases v4 hy with rfl | hy
    .show 0 < List.length _;rw[Wn];lia
    .rw[Qb] at hy;subst hy;show 0 < List.length _;rw[Ec];lia
  .have hx:0 < xs.length:=by rcases hx with z | z;exact z;exact absurd z h0
   generalize iO n h xs e=ys at p hy;cases p with
   | one a b c=>rw[Qb] at hy;subst hy;show 0 < List.length _;lia
   | two a b =>
    rcases v4 hy with rfl | hy
    .exact gU hn a
    .rw[Qb] at hy;subst hy;exact gU hn b
 refine⟨?_,q⟩;generalize iO n h xs e=ys at p;cases p with
 | one a b c=>simp
 | two a b=>simp
def zOq {fx fi:Ef}{xs:List<|It<|h+1}{ys:List (!7)}{k:Nat}(h1:fx O=some (.lst<|xs.map<|iD<|h+1))(h2:fk O=some (.int (k:Int)))(h3:fi O=some (.lst<|ys.map<|iD<|h+1))(hk:k < xs.length)(hl:xs.length<=900)(hy:ys.length<=2):eL (gE (gE (uR fx oNo<|vJ fk)<|iL fi)<|uR fx (vJ<|wD fk jq) oNo) O=some (.lst<|(xs.take k++ys++xs.drop (k+1)).map<|iD<|h+1):=by have hk2:wD fk jq O=some (.int _):=(zJ h2 J J).trans J;exact vN<|zWN (zWN (zW9 h1 h2 jc) (zZ2 h3)<|by grind) (zWV h1 hk2)<|by grind
theorem dP {n:Nat}(hn:4<=n)(h12:n<=50)(e:Et):∀(h:Nat) (xs:!7) (k:Nat),Way n h xs->h < k->rR k [pgD h xs,dE e,.int (n:Int)]=some (.lst<|(iO n h xs e).map<|iD<|h+1)
 | 0,xs,k+1,H,_=>by
  have hl:=H.1;refine zXr ?_ ?_
  .rfl
  .have hc:gE (iL<|yK A3 A5 eV0) (xJ (!13)) [.fz _,.fz _,.fz<|.int<|n,.no,.no]=some (List.map dE<|xs++[e]) :=
    zWN (zZ2<|w9 (h:=0) rfl) (nM (zM J J) je) (by grind)
   refine(vO J (vN<|zJ4 hc<|by grind) rfl).trans ?_;exact pC n 0 (kA _) (by rw[zYV];simp;lia) λ_ _=>trivial
 | h+1,xs,k+1,H,hk=>by
  have hl:=H.1;obtain⟨hw,H'⟩:=H.down hn e;obtain⟨p1,p2⟩:=zOH hn e h _ H';have ih:=dP hn h12 e h _ k H' jc;show(pA _ [.fz<|pgD _ xs,.fz _,.fz<|.int _,.no,.no]).bind vR=_;refine zVM ?_ ?_
  .rfl
  refine yG ((vM J J).trans<|zPL _ xs e jc) ?_;refine yG ((vO ((wJ (w9 J) J).trans<|zTo (iD _) (d:=([]:It _)) hw) J J).trans ih) ?_;unfold gO;rw[tE];refine(vO J (zOq (w9 J) J J hw jc p1) J).trans ?_;refine pC n _ _ (by grind) λx hx=>?_;rcases v6 hx with hx | hx
  .rcases v6 hx with hx | hx
   .exact H.ne hn x (Ez hx)
   .exact p2 (by rcases H'.2.1 with z | z;exact .inr z;exact .inl z) x hx
  .exact H.ne hn x (Ex hx)
def zWt (n:Nat){α:Type}:Nat->List (List α)->kz
 | _,[]=>[]
 | k,p::r=>if p.length < n / 2 then k::zWt n (k+1) r else zWt n (k+1) r
theorem zU6 (n:Nat){α:Type}:∀(k:Nat) (ps:List<|List α),(zWt n k ps).head?=(ps.findIdx? λx=>decide (x.length < n / 2)).map (· + k)
 | _,[]=>rfl
 | k,p::r=>by
  unfold zWt;rw[List.findIdx?_cons]
  by_cases h:p.length < n / 2
  .simp[h]
  .rw[Qv h,zU6 n _ r];simp only[h];cases r.findIdx? λx=>decide (x.length < n / 2) with
   | none=>rfl
   | some i=>show some (i+_)=some (i+1+k);congr 1;lia
theorem zSF {n h:Nat}:∀(ps:List (!7)) (k:Nat) (x0 x1:B) (j7:kd), uB (gT<|zB (gN 0)<|zB (gN 1) xC) (eB2 gLt (uV<|yK A3 A5 eV1)<|wM eV2 jr) eV0 (((ps.map<|iD<|h+1).zipIdx k).map λq=>D.tup [.int (q.2:Nat),q.1]) [x0,x1,.fz<|.int (n:Int)] j7=some (j7++(zWt n k ps).map λi:Nat=>D.int (i:Int))
 | [],k,x0,x1,j7=>by simp[uB,zWt]
 | p::r,k,x0,x1,j7=>by
  rw[Qx,List.zipIdx_cons,Qx];unfold uB;have e1:gT (zB (gN 0)<|zB (gN 1) xC) (D.tup [.int (k:Nat),iD (h+1) p]) [x0,x1,.fz<|.int (n:Int)]=some [.fz<|.int (k:Nat),.fz<|iD (h+1) p,.fz<|.int (n:Int)]:=rfl;have e2:eB2 gLt (uV<|yK A3 A5 eV1) (wM eV2 jr) [.fz<|.int (k:Nat),.fz<|iD (h+1) p,.fz<|.int (n:Int)]=some (decide (p.length < n / 2)):=by
   show some (decide (((p.map<|iD h).length:Int) < (n:Int) / 2))=_;rw[Qy];congr 1
   grind
  have e3:eV0 [.fz<|.int<|k,.fz<|iD (h+1) p,.fz<|.int<|n]=some (.int _):=rfl;rw[e1,Qr,e2,Qr];unfold zWt
  by_cases q:p.length < n / 2
  .rw[Qc q,Qh q,e3,Qr,zSF r _];simp
  .rw[Qn q,Qv jb,Qv q,zSF r _]
theorem zOG {h:Nat}{a0 a1 a2 a3:B}:∀(ps:List (!7)) (j7:!7) (x5:B),j7.length+ps.flatten.length<=100000 -> ∃y5,uC (gN 5) zYx (ps.map<|iD<|h+1) [a0,a1,a2,a3,.ow<|j7.map<|iD h,x5]=some (.nx [a0,a1,a2,a3,.ow<|(j7++ps.flatten).map<|iD h,y5])
 | [],j7,x5,_=>⟨x5,by simp[uC]⟩
 | p::r,j7,x5,hl=>by obtain⟨y5,e⟩:=zOG r (j7++p) _ (by grind);refine⟨y5,?_⟩;rw[Qx,wL (ρ1:=[a0,a1,a2,a3,.ow _,.fz _]) (ρ2:=[a0,a1,a2,a3,.ow _,.fz _]) rfl ?_,e,Yf,Ra];show(if (j7.map _).length+(p.map _).length<=lim then some (Out.nx [a0,a1,a2,a3,.ow _,.fz _]) else none)=_;rw[Qh (by grind),Wz]
def zNj (ps:List (!7))(hl:ps.length<=900)(hn:n<=300)(hp:∀p∈ps,p.length<=n/\∀x∈p,ne h x):zXa [.lst<|ps.map<|iD<|h+1,.int (n:Int)]=some (.lst<|(lK n ps).map<|iD<|h+1):=by
 refine yM (O':=[.fz<|.lst<|ps.map<|iD<|h+1,.fz<|.int (n:Int),.ow ((zWt n 0 ps).map λi:Nat=>D.int (i:Int)),.no,.no,.no]) ?_ ?_
 .unfold mF yH zMg;show Option.map _ (((some<|L2.zWx<|ps.map<|iD<|h+1).bind okL).bind _)=_;rw[Qr,uL (by unfold L2.zWx;rw[Qy,List.length_zipIdx,Qy];lia),Qr];have:=zSF (n:=n) ps 0 .no .no [];exact(Wi (Option.map _) this).trans J
 have hh:=zU6 n 0 ps;cases hf:ps.findIdx? λx=>decide (x.length < n / 2) with
 | none =>
  rw[hf] at hh;have hfe:zWt n 0 ps=[]:=List.head?_eq_none_iff.mp hh;rw[hfe];have hI:lK n ps=ps:=by unfold lK;rw[hf]
  rw[hI];rfl
 | some i =>
  rw[hf] at hh;obtain⟨t,hfe⟩:∃t,zWt n 0 ps=i::t:=by
   cases hq:zWt n 0 ps with
   | nil=>rw[hq] at hh;cases hh
   | cons a t=>rw[hq] at hh;cases hh;exact⟨t,J⟩
  rw[hfe];have hi:i < ps.length:=(List.findIdx?_eq_some_iff_getElem.mp hf).1;have hI:lK n ps=ps.take (i - 1)++tW n ((ps.drop<|i - 1).take 2).flatten++ps.drop (i - 1+2):=by unfold lK;rw[hf]
  rw[hI];refine yM (O':=[.fz<|.lst<|ps.map<|iD<|h+1,.fz<|.int (n:Int),.fz<|.lst ((i::t).map λi:Nat=>D.int (i:Int)),.no,.no,.no]) rfl ?_;refine yG (d:=.int ((i - 1:Nat):Int)) ?_ ?_
  .have e0:eIx eV2 jp [.fz<|.lst<|ps.map<|iD<|h+1,.fz<|.int (n:Int),.fz<|.lst ((i::t).map λi:Nat=>D.int (i:Int)),.no,.no,.no]=some (.int (i:Int)):=(wJ (x:=.lst ((i::t).map λi:Nat=>D.int (i:Int))) rfl rfl).trans (zTB λi:Nat=>D.int (i:Int));unfold zHr;rw[show vG (eIx eV2 jp) jq [.fz<|.lst<|ps.map<|iD<|h+1,.fz<|.int (n:Int),.fz<|.lst ((i::t).map λi:Nat=>D.int (i:Int)),.no,.no,.no]=some (.int<|(i:Int) - 1) from(zJ e0 J J).trans rfl];show some (D.int<|if (0:Int) > (i:Int) - 1 then 0 else(i:Int) - 1)=_;congr 2;split<;>lia
  refine yM (O':=[.fz<|.lst<|ps.map<|iD<|h+1,.fz<|.int (n:Int),.fz<|.lst ((i::t).map λi:Nat=>D.int (i:Int)),.fz<|.int ((i - 1:Nat):Int),.ow [],.no]) rfl ?_;have hfl:((ps.drop<|i - 1).take 2).flatten.length<=2*n/\∀x∈((ps.drop<|i - 1).take 2).flatten,ne h x:=by
   have hm:∀p∈(ps.drop<|i - 1).take 2,p.length<=n/\∀x∈p,ne h x:=λp hp'=>hp p<|Ex<|Ez hp';have h2:((ps.drop<|i - 1).take 2).length<=2:=by rw[Wn];lia
   generalize(ps.drop<|i - 1).take 2=qs at hm h2;refine⟨?_,λx hx=>?_⟩
   .match qs,h2,hm with
    | [],_,_=>simp
    | [a],_,hm=>have:=(hm a je).1;simp;lia
    | [a,b],_,hm=>have:=(hm a je).1;have:=(hm b je).1;simp;lia
    | _::_::_::_,h2,_=>simp at h2
   .obtain⟨p,hp',hx⟩:=List.mem_flatten.mp hx;exact(hm p hp').2 x hx
  obtain⟨y5,ex⟩:=zOG (h:=h) (a0:=.fz<|.lst<|ps.map<|iD<|h+1) (a1:=.fz<|.int (n:Int)) (a2:=.fz<|.lst ((i::t).map λi:Nat=>D.int (i:Int))) (a3:=.fz<|.int ((i - 1:Nat):Int)) ((ps.drop<|i - 1).take 2) [] .no (by simp only[Pg];lia);refine yM (O':=[.fz<|.lst<|ps.map<|iD<|h+1,.fz<|.int (n:Int),.fz<|.lst ((i::t).map λi:Nat=>D.int (i:Int)),.fz<|.int ((i - 1:Nat):Int),.ow<|((ps.drop<|i - 1).take 2).flatten.map<|iD h,y5]) ?_ ?_
  .unfold vQ;have src:uR eV0 (vJ eV3) (vJ<|wD eV3 jr) [.fz<|.lst<|ps.map<|iD<|h+1,.fz<|.int (n:Int),.fz<|.lst ((i::t).map λi:Nat=>D.int (i:Int)),.fz<|.int ((i - 1:Nat):Int),.ow [],.no]=some (((ps.drop<|i - 1).take 2).map<|iD<|h+1):=by
    show some (fT (ps.map<|iD<|h+1) (some ((i - 1:Nat):Int))<|some<|((i - 1:Nat):Int)+2)=_;rw[show((i - 1:Nat):Int)+2=((i - 1+2:Nat):Int) by lia,zHV]
   rw[src,Qr];exact ex
  unfold zWa zY9;have s3:zIV 4 [.fz<|.lst<|ps.map<|iD<|h+1,.fz<|.int (n:Int),.fz<|.lst ((i::t).map λi:Nat=>D.int (i:Int)),.fz<|.int ((i - 1:Nat):Int),.ow<|((ps.drop<|i - 1).take 2).flatten.map<|iD h,y5]=[.fz<|.lst<|ps.map<|iD<|h+1,.fz<|.int (n:Int),.fz<|.lst ((i::t).map λi:Nat=>D.int (i:Int)),.fz<|.int ((i - 1:Nat):Int),.fz<|.lst<|((ps.drop<|i - 1).take 2).flatten.map<|iD h,y5]:=rfl;rw[s3,tE];have hlf:yK A3 As (eIx eV0 jp) [.fz<|.lst<|ps.map<|iD<|h+1,.fz<|.int (n:Int),.fz<|.lst ((i::t).map λi:Nat=>D.int (i:Int)),.fz<|.int ((i - 1:Nat):Int),.fz<|.lst<|((ps.drop<|i - 1).take 2).flatten.map<|iD h,y5]=some (.bl<|h==0):=by
   match ps,hi with
   | p::r,_=>exact zJI (h:=h) (xs:=p)<|(wJ J J).trans<|zTB<|iD<|h+1
  have hpg:=pC n h ((ps.drop<|i - 1).take 2).flatten jc hfl.2;have hcl:(tW n ((ps.drop<|i - 1).take 2).flatten).length<=2:=by unfold tW;split;simp;split<;>simp
  refine vN<|zWN (d:=iD<|h+1) (zWN (d:=iD<|h+1) (zW9 (f:=iD<|h+1) J J jc) (zZ2<|(vO hlf J J).trans hpg) (by rw[Wn];lia)) (zWV (f:=iD<|h+1) (k:=i - 1+2) rfl<|(zJ (j:=2) J J J).trans rfl) (by rw[Qo,Wn,Ec];lia)
theorem RtOk.way {xs:!7}(H:RtOk n h xs):Way n h xs:=⟨H.len,by rcases H.two with z | z;exact .inl z;exact .inr jc,H.full⟩
theorem zRV {n:Nat}(hn:4<=n)(h12:n<=300)(e:Et):∀(h:Nat) (xs:!7) (k:Nat),RtOk n h xs->h < k->vE k [pgD h xs,dE e,.int (n:Int)]=some (.lst<|(zXV n h xs e).map<|iD<|h+1)
 | 0,xs,k+1,H,_=>by
  have hl:=H.len;refine zXr ?_ ?_
  .rfl
  .have hfl:=Eg (λa:Et => !vL a e) xs;refine(vO (y:=.lst<|List.map (iD 0)<|List.filter (λa:Et => !vL a e) xs) rfl (vN ?_) rfl).trans (pC n 0 (List.filter (λa:Et => !vL a e) xs) (by have:=Ww hfl hl;lia) λ_ _=>trivial);unfold yH iL;rw[w9 (h:=0) (xs:=xs) rfl,Qr];rw[Qr,uL (by rw[Qy];lia),Qr];exact cS (t:=eB2 zXe eV0 eV1) (f:=dE) (p:=λa => !vL a e) (rest:=[.fz<|dE e]) xs .no [] λa _=>zEX a e
 | h+1,xs,k+1,H,hk=>by
  have hl:=H.len;have h2:2<=xs.length:=by rcases H.two with z | z;cases z;exact z
  obtain⟨hw,H'⟩:=H.way.down hn e;have hm:xs.getD (vK h xs e) []∈xs:=by simp_all
  obtain⟨c1,c2,c3⟩:=wK<|H.full _ hm;have HB:RtOk n h<|xs.getD (vK h xs e) []:=⟨c2,.inr jc,c3,H.srt.sublist<|rH (f:=pL<|h+1) hm⟩
  have ih:=zRV hn h12 e h _ k HB jc;obtain⟨_,i2⟩:=zZC hn e h _ HB.len HB.two HB.full HB.srt;show(rN (vE k) [.fz<|pgD (h+1) xs,.fz<|dE e,.fz<|.int (n:Int),.no,.no]).bind vR=_;rcases i2 with⟨_,_,z⟩ | ⟨y,ey,y1,y2,y3,y4⟩
  .grind
  obtain⟨g1,g2,g3,g4⟩:=zOJ hn (L:=xs.take<|vK h xs e) (R:=xs.drop<|vK h xs e+1) (c:=y) (λx hx=>H.full x<|Ez hx) (λx hx=>H.full x<|Ex hx) jc y2 y4 (by rw[Wn,Ec];lia);have hmid:xs.take (vK h xs e)++zXV n h (xs.getD (vK h xs e) []) e++xs.drop (vK h xs e+1)=xs.take (vK h xs e)++y::xs.drop (vK h xs e+1):=by rw[ey];simp
  have hfill:=zNj (n:=n) (h:=h) (xs.take (vK h xs e)++zXV n h (xs.getD (vK h xs e) []) e++xs.drop (vK h xs e+1)) (by rw[hmid,Qo,Qk,Wn,Ec];lia) h12 (λp hp=>by
   rw[hmid] at hp;rcases v6 hp with z | z
   .obtain⟨a,b,c⟩:=wK<|H.full p<|Ez z;exact⟨b,λx hx=>gU hn<|c x hx⟩
   .rcases v4 z with z | z
    .rw[z];exact⟨y2,λx hx=>gU hn<|y4 x hx⟩
    .obtain⟨a,b,c⟩:=wK<|H.full p<|Ex z;exact⟨b,λx hx=>gU hn<|c x hx⟩)
  refine zVM ?_ ?_
  .rfl
  refine yG ((vM J J).trans<|zPL (h+1) xs e jc) ?_;refine yG ((vO ((wJ (w9 (h:=h+1) (xs:=xs) J) J).trans<|zTo (iD<|h+1) (d:=([]:It<|h+1)) hw) J J).trans ih) ?_;unfold lL;rw[tE];refine(vO J ((vM (zOq (h:=h) (xs:=xs) (k:=vK h xs e) (w9 (h:=h+1) (xs:=xs) J) J J hw jc (by rw[ey];simp)) rfl).trans hfill) rfl).trans ?_;refine pC n (h+1) _ ?_ λx hx=>?_
  .grind
  .rw[hmid] at hx;exact gU hn<|g1 x hx
def rtD (r:Rt):D:=pgD r.1 r.2
theorem zSa {x0:B}:∀(h:Nat) (xs:!7) (k:Nat),h < k -> kZ (sZ (tT<|tB1<|yK A3 As eV1)<|eB2 gEq (uV<|yK A3 A5 eV1) jq) (yJ 1<|eIx (yK A3 A5 eV1) jp) k [x0,.fz<|pgD h xs]=some (.nx [x0,.fz<|rtD<|zOV h xs])
 | 0,xs,k+1,_=>by rfl
 | h+1,xs,k+1,hk=>by
  match xs with
  | []=>rfl
  | [x] =>exact zSa h x k jc
  | x::y::r =>rfl
def zON (ys:List (!7))(hh:h < 16)(hl:ys.length<=100000)(hne:∀y∈ys,0 < y.length):cQ [.lst<|ys.map<|iD<|h+1]=some (rtD<|zSC h ys):=by
 show(dF [.fz<|.lst _,.no]).bind vR=_;unfold zSC
 by_cases h0:ys.length=0
 .have:=Te.mp h0;subst this;exact zXr rfl<|zZ5 (h:=0) (xs:=[]) rfl (vN<|nM rfl jb) je λ_ _=>trivial
 .rw[Qv h0];refine zVM (by
   cases ys with
   | nil=>exact absurd J h0
   | cons x r=>rfl) ?_
  refine yG (zZ5 J J hl hne) ?_;exact yM (zSa (h+1) ys 18 jc) J
def zGS:tS 0 2=[.int 0,.int 1]:=rfl
def zHg:tS 0 3=[.int 0,.int 1,.int 2]:=rfl
theorem bit (x:Int):x % 2=0\/x % 2=1:=jc
abbrev Tn:=List<|Int×Int
def mE (p:Int×Int):D:=.tup [.int p.1,.int p.2]
def zVx (t:Tn):D:=.tup<|t.map mE
def yP (c:ki):D:=.tup<|c.map .int
def sN (t:Tn)(c:ki):ki:=t.map λp=>Builtin.bitXor (c.getD p.1.toNat 0) p.2
def iI (t u:Tn):Tn:=t.map λp=>((u.getD p.1.toNat (0,0)).1,Builtin.bitXor (u.getD p.1.toNat (0,0)).2 p.2)
abbrev Row:=Int×Int
abbrev km:=List Row
theorem zRQ {α:Type}{elt:Ef}{u v h:α->D}{rest:kj}:∀(l:List α) (x0 x1:B) (j7:kd),(∀a∈l,elt (.fz (u a) :: .fz (v a)::rest)=some (h a))->uB (gT<|zB (gN 0)<|zB (gN 1) xC) tOK elt (l.map λa=>.tup [u a,v a]) (x0::x1::rest) j7=some (j7++l.map h)
 | [],_,_,j7,_=>by simp[uB]
 | a::r,x0,x1,j7,hh=>by rw[Qx];unfold uB;have e1:gT (zB (gN 0)<|zB (gN 1) xC) (.tup [u a,v a]) (x0::x1::rest)=some (.fz _ :: .fz _::rest):=rfl;have e2:tOK (.fz (u a) :: .fz (v a)::rest)=some true:=rfl;rw[e1,Qr,e2,Qr,hh a Qf,Qr,zRQ r _ _ _ λq hq=>hh q<|Qp _ hq];simp
def zPK {x:Row}(h:f O=some (mE x)):eIx f jp O=some (.int x.1):=by unfold eIx;rw[h];rfl
def zQw {x:Row}(h:f O=some (mE x)):eIx f jq O=some (.int x.2):=by unfold eIx;rw[h];rfl
def zZ3 {src:Lf}{m:kz}{rest:kj}{u v h:α->D}{l:List α}(h1:src O=some (l.map λa=>.tup [u a,v a]))(hl:l.length<=10000)(hu:upB 2 m O = .no :: .no::rest)(he:∀a∈l,elt (.fz (u a) :: .fz (v a)::rest)=some (h a)):yH src 2 m (gT<|zB (gN 0)<|zB (gN 1) xC) tOK elt O=some (l.map h):=by unfold yH;rw[h1,Qr,uL (by rw[Qy];lia),Qr,hu,zRQ l _ _ _ he,Ih]
def Wc (n:Nat)(c:ki):Prop:=c.length=n/\∀x∈c,x=0\/x=1
def Wt (n:Nat)(t:Tn):Prop:=t.length=n/\∀p∈t,(0<=p.1/\p.1 < n)/\(p.2=0\/p.2=1)
def zQ2 {P:α->Prop}{d:α}(hd:P d){l:List α}(h:∀x∈l,P x)(i:Nat):P<|l.getD i d:=by
 rw[Ei];cases e:l[i]? with
 | none=>exact hd
 | some x=>exact h x<|El e
def zPe (hx:x=0\/x=1)(hy:y=0\/y=1):Builtin.bitXor x y=0\/Builtin.bitXor x y=1:=by rcases hx with rfl | rfl<;>rcases hy with rfl | rfl<;>decide
section
variable{t u:Tn}
def zJ6 (ht:Wt n t)(hc:Wc n c):Wc n<|sN t c:=⟨by simp[sN,ht.1],λx hx=>by obtain⟨p,hp,rfl⟩:=v7 hx;exact zPe (zQ2 (.inl J) hc.2 _) (ht.2 p hp).2⟩
theorem zIT (h0:0 < n)(ht:Wt n t)(hu:Wt n u):Wt n<|iI t u:=⟨by simp[iI,ht.1],λq hq=>by obtain⟨p,hp,rfl⟩:=v7 hq;have g:=zQ2 (d:=(0,0)) ⟨⟨Yq _,by show(0:Int) < n;lia⟩,.inl J⟩ hu.2 p.1.toNat;exact⟨g.1,zPe g.2 (ht.2 p hp).2⟩⟩
def zNd (hn:n<=3)(ht:Wt n t)(hc:Wc n c):zXk [zVx t,yP c]=some (yP<|sN t c):=by
 show(aF [.fz _,.fz _]).bind vR=_;unfold aF;rw[tE];unfold xA;rw[vN (zZ3 (rest:=[.fz _]) (h:=λp=>.int<|Builtin.bitXor (c.getD p.1.toNat 0) p.2) rfl (by rw[ht.1];lia) rfl λp hp=>by obtain⟨⟨h0,h1⟩,_⟩:=ht.2 p hp;rw[<-hc.1] at h1;simp[eI,eIx,eV,zMw,yP,atD,zX8,mV c p.1 0 h0 h1])]
 unfold sN yP;rw[Wj];rfl
def zKz (hn:n<=3)(ht:Wt n t)(hu:Wt n u):zT3 [zVx t,zVx u]=some (zVx<|iI t u):=by
 show(zZg [.fz _,.fz _]).bind vR=_;unfold zZg;rw[tE];unfold xA;rw[vN (zZ3 (rest:=[.fz _]) J (by rw[ht.1];lia) rfl λp hp=>by
  obtain⟨⟨h0,h1⟩,_⟩:=ht.2 p hp;rw[<-hu.1] at h1;have e:eIx eV2 eV0 [.fz<|.int p.1,.fz<|.int p.2,.fz<|zVx u]=some (mE<|u.getD p.1.toNat (0,0)):=by show atI _ p.1=_;rw[zX8,mV u p.1 _ h0 h1];rfl
  exact lI (zM (zPK e)<|zM (zJ (zQw e) J J) rfl) (Qt J))]
 unfold iI zVx;rw[Wj];rfl
end
def zIK (k n:Nat):ki:=(List.range n).map λi=>(((k >>> i) % 2:Nat):Int)
def sS (n:Nat):List ki:=(List.range<|2^n).map λk=>zIK k n
def Sj (n:Nat)(t:Tn):Prop:=∀c,Wc n c->∃c',Wc n c'/\sN t c'=c
def sjB (n:Nat)(t:Tn):Bool:=(sS n).all λc=>(sS n).any λc'=>decide (sN t c'=c)
def zJ5 (hn:n=2\/n=3):∀c∈sS n,Wc n c:=by unfold Wc;rcases hn with rfl | rfl<;>decide +kernel
def zPl (hn:n=2\/n=3)(h:Wc n c):c∈sS n:=by
 obtain⟨h1,h2⟩:=h;rcases hn with rfl | rfl
 .match c,h1 with
  | [x,y],_=>rcases h2 x je with rfl | rfl<;>rcases h2 y je with rfl | rfl<;>decide +kernel
 .match c,h1 with
  | [x,y,z],_=>rcases h2 x je with rfl | rfl<;>rcases h2 y je with rfl | rfl<;>rcases h2 z je with rfl | rfl<;>decide +kernel
def zNW (hn:n=2\/n=3){t:Tn}(h:sjB n t=true):Sj n t:=λc hc=>by obtain⟨c',h1,h2⟩:=Um.mp<|Rx.mp h c<|zPl hn hc;exact⟨c',zJ5 hn c' h1,Eh h2⟩
def zMN {z:Int}(hx:x=0\/x=1)(hy:y=0\/y=1)(hz:z=0\/z=1):Builtin.bitXor x (Builtin.bitXor y z)=Builtin.bitXor (Builtin.bitXor x y) z:=by rcases hx with rfl | rfl<;>rcases hy with rfl | rfl<;>rcases hz with rfl | rfl<;>rfl
def zTy {t u:Tn}(ht:Wt n t)(hu:Wt n u)(hc:Wc n c):sN (iI t u) c=sN t (sN u c):=by
 unfold sN iI;rw[Wj];refine Es λp hp=>?_;obtain⟨⟨h0,h1⟩,h2⟩:=ht.2 p hp;have hi:p.1.toNat < u.length:=by rw[hu.1];lia
 show Builtin.bitXor _ (Builtin.bitXor (u.getD _ _).2 p.2)=_;rw[show u.getD _ _=u[p.1.toNat] from by simp[hi],zMN (zQ2 (.inl J) hc.2 _) (hu.2 _<|Tt hi).2 h2];simp[hi]
def zLo {t u:Tn}(ht:Wt n t)(hu:Wt n u)(st:Sj n t)(su:Sj n u):Sj n<|iI t u:=λc hc=>by obtain⟨c1,w1,e1⟩:=st c hc;obtain⟨c2,w2,e2⟩:=su c1 w1;exact⟨c2,w2,by rw[zTy ht hu w2,e2,e1]⟩
structure Pt where
 c:ki
 t:Tn
 b:Bool
end My
variable{j:Bool}{e:Lf}{g:Sf}{f:kd->ka}{r:ka}{r':My.Rt}{xs:ki}{ps:List My.Pt}
namespace My
def fX (p:Pt):D:=.obj (Str.ofString AW) [Str.ofString Aj,Str.ofString AK,Str.ofString AL] [yP p.c,zVx p.t,.bl p.b]
def yU (nm:Str)(n:Int)(j:Bool)(ps:List Pt):D:=.obj (Str.ofString An) [Str.ofString A6,Str.ofString Ab,Str.ofString B4,Str.ofString AD] [.str nm,.int n,.bl j,.lst<|ps.map fX]
def zOS (O:kj)(f:Ef){n:Int}(h:f O=some (yU nm n j ps)):yK (Str.ofString An) (Str.ofString AD) f O=some (.lst<|ps.map fX):=by unfold yK;rw[h];rfl
def zUH {n:Int}(h:eV0 O=some (yU nm n j ps)):uV (yK (Str.ofString An) (Str.ofString AD) eV0) O=some (.int (ps.length:Nat)):=by unfold uV;rw[zOS O _ h];show some _=_;rw[Qy]
structure PtsOk (n:Nat)(ps:List Pt):Prop where
 len:ps.length=2^n
 w:∀p∈ps,Wc n p.c/\Wt n p.t
 sj:∀p∈ps,Sj n p.t
 all:∀c,Wc n c->∃p∈ps,p.c=c
def stD (t:Tn)(b:Bool):D:=.tup [zVx t,.bl b]
def zL1 {f:Ef}{p:Pt}(h:f O=some (fX p)):yK AW Aj f O=some (yP p.c)/\yK AW AK f O=some (zVx p.t)/\yK AW AL f O=some (.bl p.b):=by unfold yK;rw[h];exact⟨J,J,J⟩
section
variable (hn:n=2\/n=3) (ok:PtsOk n ps){t:Tn} (ht:Wt n t) (b j:Bool){k:Nat}
include hn ok
def zE1:0 < ps.length/\ps.length<=8:=by rw[ok.len];rcases hn with rfl | rfl<;>decide
def ixB (b:Bool)(len k:Nat):Nat:=if b=true then len - 1 - k else k
include ht
def zIU (p:Pt)(hk:k < ps.length)(hp:ps[ixB b ps.length k]?=some p):cY [yU nm n j ps,stD t b,.int k]=some (.tup [yP<|sN t p.c,stD (iI t p.t)<|b != p.b]):=by
 have w:zWY [yU nm n j ps,.bl b,.int k]=some (.int<|ixB b ps.length k):=by
  cases b with
  | false=>rfl
  | true =>show(aU [.fz<|yU nm n j ps,.fz<|.bl true,.fz<|.int k]).bind vR=some (.int<|(ps.length - 1 - k:Nat));unfold aU;rw[show((ps.length - 1 - k:Nat):Int)=(ps.length) - 1 - (k) by lia];show vG (vG (uV<|yK An AD eV0) jq) eV2 [.fz<|yU nm n j ps,.fz<|.bl true,.fz<|.int k]=_;exact zJ (zJ (zUH J) J J) J J
 obtain⟨pc,pt⟩:=ok.w p<|El hp;have h3:n<=3:=jc;show(eT [.fz _,.fz _,.fz _,.no,.no,.no,.no]).bind vR=_;refine yG (d:=fX p) ((wJ (zOS _ _ J)<|(vO J J J).trans w).trans ?_) ?_
 .show atI _ _=_;rw[zX8,zHH hp];rfl
 refine yG (d:=stD _<|b != p.b) (lI (zM ((vM J (zL1 J).2.1).trans<|zKz h3 ht pt)<|zM ?_ rfl)<|Qt rfl) ?_
 .rfl
 unfold zYg;rw[tE];exact lI (zM ((vM J (zL1 J).1).trans<|zNd h3 ht pc)<|zM rfl rfl)<|Qt rfl
def zIm (hs:Sj n t):∃(c:Nat->ki) (t':Nat->Tn) (b':Nat->Bool),(∀k,k < 2^n->Wc n (c k)/\(Wt n (t' k)/\Sj n (t' k))/\cY [yU nm n j ps,stD t b,.int (k:Nat)]=some (.tup [yP<|c k,stD (t' k)<|b' k]))/\∀x,Wc n x->∃k,k < 2^n/\c k=x:=by
 have lt:∀ {k},k < ps.length->ixB b ps.length k < ps.length:=λ{k} h=>by unfold ixB;split<;>lia
 refine⟨λk=>sN t (ps.getD (ixB b ps.length k) ⟨[],[],b⟩).c,λk=>iI t (ps.getD (ixB b ps.length k) ⟨[],[],b⟩).t,λk=>b != (ps.getD (ixB b ps.length k) ⟨[],[],b⟩).b,λk hk=>?_,λx hx=>?_⟩
 .rw[<-ok.len] at hk;have hp:=Ql<|lt hk;have hm:=Tt<|lt hk;have e:ps.getD (ixB b ps.length k) ⟨[],[],b⟩=ps[ixB b ps.length k]'(lt hk):=by rw[Ei,hp];rfl
  dsimp only;rw[e];obtain⟨pc,pt⟩:=ok.w _ hm;exact⟨zJ6 ht pc,⟨zIT jc ht pt,zLo ht pt hs<|ok.sj _ hm⟩,zIU hn ok ht b j _ hk hp⟩
 .obtain⟨c',w',e'⟩:=hs x hx;obtain⟨p,hp,ep⟩:=ok.all c' w';obtain⟨i,hi,rfl⟩:=Ow.mp hp;refine⟨ixB b ps.length i,by rw[<-ok.len];exact lt hi,?_⟩;dsimp only;rw[show ixB b ps.length _=i by unfold ixB;split<;>lia];simp_all
end
def zMP (xs ys:ki):eF (xs.map D.int) (ys.map D.int)=(xs.zip ys).map mE:=by unfold eF;rw[List.zip_map,Wj];rfl
def zXK {f g:Ef}(h1:f O=some (yP xs))(h2:g O=some (yP ys)):zWR f g O=some ((xs.zip ys).map mE):=by unfold zWR;rw[h1,h2];show some _=_;rw[zMP]
def bx (lo hi:ki):D:=.tup [yP lo,yP hi]
def zTD (h:xs.length<=100):(xs.zip ys).length<=100:=by grind
def zl (h:xs.length<=100):(xs.zip ys).length<=10000:=Ww (zTD h) je
def okB (lo hi:ki):Bool:=(lo.zip hi).all λp=>decide (p.1<=p.2)
def zV0 (h:xs.length<=100):jH [yP xs,yP ys]=some (.bl<|okB xs ys):=by show(nB [.fz _,.fz _]).bind vR=_;unfold nB;rw[tE];unfold zNq;rw[vN<|zZ3 (rest:=[]) (zXK J J) (zl h) rfl λ_ _=>rfl];show(zSv _).map _=_;rw[zXy _];unfold okB;simp
def mxL (xs ys:ki):ki:=(xs.zip ys).map λp=>aC p.1 p.2
def mnL (xs ys:ki):ki:=(xs.zip ys).map λp=>bF p.1 p.2
def zU5 {g:Int->Int->Int}{f2:Ef}(h1:f1 O=some (yP xs))(h2:f2 O=some (yP ys))(h:xs.length<=100)(he:∀a:Int×Int,elt [.fz<|mE a]=some (.int<|g a.1 a.2)):xA (eL<|yH (zWR f1 f2) 1 [] (gN 0) tOK elt) O=some (yP<|(xs.zip ys).map λp=>g p.1 p.2):=by
 have e3:yH (zWR f1 f2) 1 [] (gN 0) tOK elt O=some (((xs.zip ys).map λp=>g p.1 p.2).map D.int):=by
  unfold yH;rw[zXK h1 h2,Qr,uL (by rw[Qy];have:=zTD (ys:=ys) h;lia)];have hm:∀(l:List _) (x0) (j7),uB (gN 0) tOK elt (l.map mE) [x0] j7=some (j7++(l.map λp=>g p.1 p.2).map D.int):=by
   intro l;induction l with
   | nil=>intro x0 j7;simp[uB]
   | cons a r ih =>intro x0 j7;unfold uB;have e1:gN 0 (mE a) [x0]=some [.fz _]:=rfl;have e2:tOK [.fz<|mE a]=some true:=rfl;simp_all
  exact(hm _ .no []).trans J
 unfold xA;rw[vN e3];rfl
def zNi {hi lo' hi':ki}(h1:lo.length<=100)(h2:hi.length<=100):zV1 [bx lo hi,bx lo' hi']=some (if okB (mxL lo lo') (mnL hi hi')=true then bx (mxL lo lo') (mnL hi hi') else .non):=by refine yG (zU5 J J h1 λa=>rfl)<|yG (zU5 J J h2 λa=>rfl) ?_;unfold zWE;rw[tE];unfold eIf tB1;rw[vM (x:=yP<|mxL lo lo') (y:=yP<|mnL hi hi') rfl rfl,(zV0 (by unfold mxL;rw[Qy];exact zTD h1))];cases okB _ _<;>rfl
def wU (low:ki)(s:Int):ki:=low.map λx=>x+s - 1
def mD (low c:ki)(h:Int):ki:=(low.zip c).map λp=>p.1+h*p.2
def zZh {m:kz}{rest:kj}{g:Int->Int}(h1:f1 O=some (yP xs))(hl:xs.length<=100)(hu:upB 1 m O = .no::rest)(he:∀x∈xs,elt (.fz (.int x)::rest)=some (.int<|g x)):xA (eL<|yH (iT f1) 1 m (gN 0) tOK elt) O=some (yP<|xs.map g):=by
 have e3:yH (iT f1) 1 m (gN 0) tOK elt O=some ((xs.map g).map D.int):=by
  unfold yH iT;rw[h1];show(some _ |>.bind okL).bind _=_;rw[Qr,uL (by grind),Qr,hu,zXq (h:=λd=>match d with | .int x=>.int (g x) | d=>d)]
  .rw[Wj,Wj];rfl
  .intro d hd;obtain⟨x,hx,rfl⟩:=v7 hd;exact he x hx
 unfold xA;rw[vN e3];rfl
def at0 (x:Int)(r:ki):atD (yP<|x::r) (.int 0)=some (.int x):=by show atI _ 0=_;unfold atI ixN;simp_all
theorem zQE {s:Int}(h0:0<=s)(h1:s<=64)(x0 x1 x2:B):∀(l:ki) (v:Int) (x4 x5:B),∃y4 y5,uC (gT<|zB (gN 4)<|zB (gN 5) xC) eS ((l.zip<|wU l s).map mE) [x0,x1,x2,.fz<|.int v,x4,x5]=some (.nx [x0,x1,x2,.fz<|.int<|v*s^l.length,y4,y5])
 | [],v,x4,x5=>⟨x4,x5,by simp[uC]⟩
 | a::r,v,x4,x5=>by
  obtain⟨y4,y5,ih⟩:=zQE h0 h1 x0 x1 x2 r _ _ _;refine⟨y4,y5,?_⟩;show uC _ _ (mE _::(r.zip<|wU r s).map mE) _=_;rw[wL (ρ1:=[x0,x1,x2,.fz _,.fz<|.int a,.fz<|.int<|a+s - 1]) rfl ?_,ih,Qk,Int.pow_succ,Om _ s,Int.mul_assoc];have e:zSq eV3 (wD (vG eV5 eV4) jq) [x0,x1,x2,.fz _,.fz<|.int a,.fz<|.int<|a+s - 1]=some (.int<|v*_):=zJ J (zJ (!14) J J) (by unfold zUJ;rw[zTf jc jc];rfl)
  rw[show a+s - 1 - a+1=s by lia] at e;unfold eS yJ;rw[e];rfl
def zDS (h:m<=6):(0:Int) < 2^m/\(2:Int)^m<=64:=by rcases(show m=0\/m=1\/m=2\/m=3\/m=4\/m=5\/m=6 by lia) with rfl | rfl | rfl | rfl | rfl | rfl | rfl<;>decide
def zME (hm:m<=6):fL [bx low<|wU low<|2^m]=some (.int<|2^(low.length*m)):=by obtain⟨p0,p1⟩:=zDS hm;obtain⟨y4,y5,e⟩:=zQE (Ik p0) p1 _ _ _ low 1 .no .no;rw[Int.one_mul,<-Int.pow_mul,Nat.mul_comm] at e;show(aV [.fz _,.no,.no,.no,.no,.no]).bind vR=_;refine yM rfl<|yG rfl<|yM (O':=[.fz<|bx low<|wU low<|2^m,.fz<|yP low,.fz<|yP<|wU low<|2^m,.fz _,y4,y5]) ?_ rfl;unfold vQ;rw[zXK rfl rfl];exact e
def zPJ (hn:n=2\/n=3)(hl:low.length=n)(hc:Wc n c)(h:Int):zYK [bx low<|wU low<|2*h,yP c]=some (bx (mD low c h)<|wU (mD low c h) h):=by
 obtain⟨x0,r,hlow⟩:∃x0 r,low=x0::r:=by
  cases low with
  | nil=>simp at hl;lia
  | cons x r=>exact⟨x,r,J⟩
 show(eO [.fz<|bx low<|wU low _,.fz _,.no,.no,.no,.no,.no]).bind vR=_;refine yG (d:=.int h) ?_ ?_
 .have e1:eIx eV3 jp [.fz<|bx low<|wU low<|2*h,.fz<|yP c,.fz<|yP low,.fz<|yP<|wU low<|2*h,.no,.no,.no]=some (.int<|x0+2*h - 1):=by
   rw[hlow];exact at0 _ _
  have e2:eIx eV2 jp [.fz<|bx low<|wU low<|2*h,.fz<|yP c,.fz<|yP low,.fz<|yP<|wU low<|2*h,.no,.no,.no]=some (.int x0):=by rw[hlow];exact at0 _ _
  have e3:=zJ (C:=zGF) (g:=λi j=>i / j) (zJ (C:=λ_ _=>true) (g:=λi j=>i+j) (zJ (C:=λ_ _=>true) (g:=λi j=>i - j) e1 e2 rfl) (rfl:eC (.int 1) _=some _) rfl) (rfl:eC (.int 2) _=some _) rfl;rw[show _ / 2=h by lia] at e3;exact e3
 refine yG (d:=yP<|mD low c h) ?_ ?_
 .unfold xA;rw[vN (zZ3 (rest:=[.fz _]) (h:=λp=>.int _) (zXK J J) (zl jc) rfl λa ha=>zJ J (zJ J J (by
   have hb:=hc.2 a.2 (Yn ha).2;unfold zUJ;rw[zTf jc jc];rfl)) rfl)]
  unfold mD yP;rw[Wj];rfl
 exact yG (d:=yP<|wU _ h) (zZh (rest:=[.fz _]) J (by unfold mD;rw[Qy,Ta];lia) rfl λx _=>zJ (!14) J J) rfl
theorem zUg (m:Nat):∀(xs ys:ki),xs.length=ys.length->zXp (eqD<|m+1) (xs.map .int) (ys.map .int)=some (decide (xs=ys))
 | [],[],_=>rfl
 | [],_::_,h=>by simp at h
 | _::_,[],h=>by simp at h
 | x::xs,y::ys,h=>by
  rw[Qx,Qx,zXp,zUg m xs ys<|by simpa using h];show((some _).bind λa=>(some _).map λb=>a&&b)=_
  by_cases h1:x=y
  .simp_all
  .simp_all
def zMa {c':ki}(k:Nat)(h:c.length=c'.length):eqD (k+2) (yP c) (yP c')=some (decide (c=c')):=by show(zXp _ _ _).map _=_;rw[zUg k c c' h,Qy,h];simp
def zGw {a b d:ki}(h1:a.length=c.length)(h2:b.length=d.length):zRq (bx a b) (bx c d)=some (decide (a=c/\b=d)):=by show((eqD 7 _ _).bind λx=>((eqD 7 _ _).bind λy=>(some true).map λz=>y&&z).map λy=>x&&y).map (λz=>z&&true)=_;rw[zMa 5 h1,zMa 5 h2];simp
def zMh (h:t O=some true)(k:e O=r):(zF (sIf t (tG e) vU) g O).bind mM=r:=by unfold zF;rw[jR h];unfold tG;rw[k];cases r<;>rfl
def zPF {f:Sf}(h:t O=some false)(k:(g O).bind mM=r):(zF (sIf t f vU) g O).bind mM=r:=by rw[wQ (by rw[jR h];rfl)];exact k
def cO {f:Ef}(h:f O=some d)(k:(g<|O.set i<|.fz d).bind mM=r):(zF (yJ i f) g O).bind mM=r:=by rw[bU h];exact k
def zRx {f:Sf}(h:f O=some (.nx O'))(k:(g O').bind mM=r):(zF f g O).bind mM=r:=by rw[wQ h];exact k
def zMp {x y:D}(h1:fa O=some x)(h2:fb O=some y):sU 2 f (zY fa<|zY fb zS) O=f [x,y]:=by unfold sU;rw[zM h1<|zM h2 rfl];rfl
def zPx {x y z:D}(h1:fa O=some x)(h2:fb O=some y)(h3:fc O=some z):sU 3 f (zY fa<|zY fb<|zY fc zS) O=f [x,y,z]:=by unfold sU;rw[zM h1<|zM h2<|zM h3 rfl];rfl
def zLJ {fe:Ef}{x y z u v:D}(h1:fa O=some x)(h2:fb O=some y)(h3:fc O=some z)(h4:fd O=some u)(h5:fe O=some v):sU 5 f (zY fa<|zY fb<|zY fc<|zY fd<|zY fe zS) O=f [x,y,z,u,v]:=by unfold sU;rw[zM h1<|zM h2<|zM h3<|zM h4<|zM h5 rfl];rfl
def zMm {f:jz}{x y z u:D}(h1:fa O=some x)(h2:fb O=some y)(h3:fc O=some z)(h4:fd O=some u):yZ 4 f (zY fa<|zY fb<|zY fc<|zY fd zS) O=f [x,y,z,u]:=zZY (zM h1<|zM h2<|zM h3<|zM h4 rfl) J
def zSX {f:Ef}(e1:f O=some d)(e2:O[i]?=some (.ow ds))(e3:ds.length<=1000):zYT i f O=some (.nx<|O.set i<|.ow<|ds++[d]):=by
 unfold zYT;rw[e1,Qr,e2]
 grind
def zEG {f:Ef}(h:f O=some (.bl true)):tT (tB1 f) O=some false:=by unfold tT tB1;rw[h];rfl
def zYe {l:List α}(h:l.length=2):∃a b,l=[a,b]:=by
 match l,h with
 | [a,b],_=>exact⟨a,b,J⟩
def zXY {l:List α}(h:l.length=3):∃a b c,l=[a,b,c]:=by
 match l,h with
 | [a,b,c],_=>exact⟨a,b,c,J⟩
def ok0 (hn:n=2\/n=3){hi:ki}(h1:lo.length=n)(h2:hi.length=n)(h3:low.length=n)(hb:okB (mxL lo low) (mnL hi<|wU low 1)=true):mxL lo low=low/\mnL hi (wU low 1)=wU low 1:=by
 have key:∀x y z:Int,aC x z<=bF y (z+1 - 1)->aC x z=z/\bF y (z+1 - 1)=z+1 - 1:=by intro x y z q;unfold aC bF at *;split<;>split<;>lia
 rcases hn with rfl | rfl
 .obtain⟨a,b,rfl⟩:=zYe h1;obtain⟨c,d,rfl⟩:=zYe h2;obtain⟨s,u,rfl⟩:=zYe h3;have hb:(decide _&&(decide _&&true))=true:=hb;simp only[Bool.and_true,Qm,Wo] at hb;obtain⟨k1,k2⟩:=key a c s hb.1;obtain⟨k3,k4⟩:=key b d u hb.2;exact⟨by show [aC a s,aC b u]=_;rw[k1,k3],by show [bF c _,bF d _]=_;rw[k2,k4];rfl⟩
 .obtain⟨a,b,c,rfl⟩:=zXY h1;obtain⟨d,e,f,rfl⟩:=zXY h2;obtain⟨s,u,v,rfl⟩:=zXY h3;have hb:(decide _&&(decide _&&(decide _&&true)))=true:=hb;simp only[Bool.and_true,Qm,Wo] at hb;obtain⟨k1,k2⟩:=key a d s hb.1;obtain⟨k3,k4⟩:=key b e u hb.2.1;obtain⟨k5,k6⟩:=key c f v hb.2.2;exact⟨by show [aC a s,aC b u,aC c v]=_;rw[k1,k3,k5],by show [bF d _,bF e _,bF f _]=_;rw[k2,k4,k6];rfl⟩
def zTx (h:xs.length=ys.length):(mxL xs ys).length=ys.length:=by unfold mxL;rw[Qy,Ta,h,Uo]
def zTg (h:xs.length=ys.length):(mnL xs ys).length=ys.length:=by unfold mnL;rw[Qy,Ta,h,Uo]
def zZs (xs:ki)(s:Int):(wU xs s).length=xs.length:=by unfold wU;rw[Qy]
def zKK {h:Int}(hl:xs.length=ys.length):(mD xs ys h).length=ys.length:=by unfold mD;rw[Qy,Ta,hl,Uo]
def zOU (m:Nat):(2:Int)^(m+1)=2*2^m:=by rw[Int.pow_succ,Om]
def rO (m:Nat):(0:Int) < 2^m:=Int.pow_pos je
def yA (r:km):kd:=r.map mE
def zGA {f:Ef}(h:f O=some (!16))(hL:L<=1000):iR f O=some (tS 0 L):=by
 unfold iR;rw[h,Qr]
 grind
def zOf {a b:Nat}(h:a<=b):(2:Int)^a<=2^b:=Int.ofNat_le.mpr<|Oq jb h
def InB:ki->ki->ki->Prop
 | [],[],[]=>True
 | x::p,l::a,h::b=>(l<=x/\x<=h)/\InB p a b
 | _,_,_=>False
theorem zTr:∀ {p a h l t:ki},a.length=l.length->h.length=t.length->(InB p (mxL a l) (mnL h t)↔InB p a h/\InB p l t)
 | [],[],[],[],[],_,_=>by simp[mxL,mnL]
 | x::p,a::as,h::hs,l::ls,t::ts,e1,e2=>by
  have ih:=zTr (p:=p) (by simpa using e1) (by simpa using e2);show _/\InB p (mxL as ls) (mnL hs ts)↔(_/\InB p as hs)/\_/\InB p ls ts;have:(aC a l<=x/\x<=bF h t)↔(a<=x/\x<=h)/\(l<=x/\x<=t):=by unfold aC bF;split<;>split<;>lia
  constructor
  .simp_all
  .simp_all
 | [],[],_::_,[],_::_,_,_=>by simp[InB,mxL,mnL]
 | [],_::_,_,_::_,_,_,_=>by simp[InB,mxL]
 | _::_,[],_,[],_,_,_=>by simp[InB,mxL]
 | _::_,_::_,[],_::_,[],_,_=>by simp[InB,mxL,mnL]
 | _,[],_,_::_,_,e,_=>by simp at e
 | _,_::_,_,[],_,e,_=>by simp at e
 | _,_,[],_,_::_,_,e=>by simp at e
 | _,_,_::_,_,[],_,e=>by simp at e
theorem zK2:∀ {a b:ki},a.length=b.length->(okB a b=true↔∃p,InB p a b)
 | [],[],_=>⟨λ_=>⟨[],trivial⟩,λ_=>rfl⟩
 | x::a,y::b,e=>by
  show(decide (x<=y)&&okB a b)=true↔_;rw[Wb,(zK2<|by simpa using e),Wo];exact⟨λ⟨u,p,h⟩=>⟨x::p,⟨Yq _,u⟩,h⟩,λ⟨p,h⟩=>by
   match p,h with
   | z::p,h=>exact⟨Ii h.1.1 h.1.2,p,h.2⟩⟩
theorem zMj:∀(l:ki) {s:Int},0 < s->InB l l (wU l s)
 | [],_,_=>trivial
 | x::l,s,h=>⟨⟨Yq _,by show x<=x+s - 1;lia⟩,zMj l h⟩
theorem zXd {h:Int}(h0:0 < h):∀ {p low:ki},InB p low (wU low<|2*h)->∃c,Wc low.length c/\InB p (mD low c h) (wU (mD low c h) h)
 | [],[],_=>⟨[],⟨J,λ_ h=>by cases h⟩,trivial⟩
 | x::p,l::low,⟨⟨u,v⟩,r⟩=>by
  obtain⟨c,⟨w1,w2⟩,i⟩:=zXd h0 r
  by_cases q:x < l+h
  .exact⟨0::c,⟨by simp[w1],by simp;exact w2⟩,⟨by show l+h*0<=x;lia,by show x<=l+h*0+h - 1;lia⟩,i⟩
  .exact⟨1::c,⟨by simp[w1],by simp;exact w2⟩,⟨by show l+h*1<=x;lia,by show x<=l+h*1+h - 1;lia⟩,i⟩
theorem zXv {h:Int}(h0:0 < h):∀ {p low c:ki},(∀x∈c,x=0\/x=1)->low.length=c.length->InB p (mD low c h) (wU (mD low c h) h)->InB p low (wU low<|2*h)
 | [],[],[],_,_,_=>trivial
 | [],_::_,_::_,_,_,h=>h.elim
 | _::_,[],[],_,_,h=>h.elim
 | _,[],_::_,_,e,_=>by simp at e
 | _,_::_,[],_,e,_=>by simp at e
 | x::p,l::low,b::c,w,e,⟨⟨u,v⟩,r⟩=>by
  refine⟨⟨?_,?_⟩,zXv h0 (λx hx=>w x<|Qp _ hx) (by simpa using e) r⟩
  .rcases w b je with rfl | rfl<;>lia
  .show x<=l+2*h - 1;rcases w b je with rfl | rfl<;>lia
def Up (a:Int)(l:km)(z:Int):Prop:=(l.Pairwise λp q=>p.2 < q.1)/\∀p∈l,a<=p.1/\p.1<=p.2/\p.2 < z
def Up.app {z:Int}{l l':km}(h:Up a l y)(h':Up y l' z)(ay:a<=y)(yz:y<=z):Up a (l++l') z:=by
 refine⟨Rn.mpr ⟨h.1,h'.1,λp hp q hq=>Int.lt_of_lt_of_le (h.2 p hp).2.2 (h'.2 q hq).1⟩,λp hp=>?_⟩;rcases v6 hp with e | e
 .have:=h.2 p e;lia
 .have:=h'.2 p e;lia
theorem Up.len {z:Int}:∀ {l:km} {a:Int},Up a l z->a<=z->(l.length:Int)<=z - a
 | [],a,_,h=>by show(0)<=z - a;lia
 | p::r,a,⟨h1,h2⟩,h=>by obtain⟨q1,q2⟩:=Rr.mp h1;have b1:=h2 p Qf;have:=Up.len ⟨q2,λq hq=>⟨q1 q hq,(h2 q<|Qp _ hq).2⟩⟩ jc;rw[Qk];lia
def Sh (r r':km):Prop:=∃p∈r,∃q∈r',p.1<=q.2/\q.1<=p.2
def Sh.symm {r r':km}:Sh r r'↔Sh r' r:=⟨λ⟨p,hp,q,hq,e⟩=>⟨q,hq,p,hp,e.2,e.1⟩,λ⟨p,hp,q,hq,e⟩=>⟨q,hq,p,hp,e.2,e.1⟩⟩
def Pc (n:Nat)(low top:ki)(f W:Int)(P:ki->ki->km):Prop:=∀lo hi:ki,lo.length=n->hi.length=n->Up f (P lo hi) (f+W)/\(P lo hi≠[]↔∃p,InB p low top/\InB p lo hi)/\∀lo' hi':ki,lo'.length=n->hi'.length=n->(Sh (P lo hi) (P lo' hi')↔∃p,InB p low top/\InB p lo hi/\InB p lo' hi')
def stP (low top:ki)(f W:Int)(Q:ki->ki->km)(lo hi:ki):km:=if okB (mxL lo low) (mnL hi top)=true then(if mxL lo low=low/\mnL hi top=top then [(f,f+W - 1)] else Q (mxL lo low) (mnL hi top)) else []
def zRH {f W:Int}{r:km}(u:Up f r<|f+W):Sh [(f,f+W - 1)] r↔r≠[]:=by
 constructor
 .rintro⟨_,_,q,hq,_⟩ e;rw[e] at hq;cases hq
 .intro h
  match r,h with
  | q::r,_ =>have:=u.2 q Qf;exact⟨_,Qb.mpr J,q,Qf,by show f<=q.2;lia,by show q.1<=f+W - 1;lia⟩
def zFk {top:ki}{f W:Int}{Q:ki->ki->km}(hl:low.length=n)(ht:top.length=n)(hW:0 < W)(hin:InB low low top)(hQ:(∃lo hi:ki,lo.length=n/\hi.length=n/\okB (mxL lo low) (mnL hi top)=true/\¬(mxL lo low=low/\mnL hi top=top))->Pc n low top f W Q):Pc n low top f W<|stP low top f W Q:=by
 have one:∀lo hi:ki,lo.length=n->hi.length=n->(stP low top f W Q lo hi=[]/\∀p,InB p low top->¬InB p lo hi)\/(stP low top f W Q lo hi=[(f,f+W - 1)]/\∀p,InB p low top->InB p lo hi)\/(stP low top f W Q lo hi=Q (mxL lo low) (mnL hi top)/\(mxL lo low).length=n/\(mnL hi top).length=n/\(∀p,InB p (mxL lo low) (mnL hi top)↔InB p lo hi/\InB p low top)/\Pc n low top f W Q):=by
  intro lo hi h1 h2;have ib:=λp=>zTr (p:=p) (a:=lo) (h:=hi) (l:=low) (t:=top) jc jc;have l1:(mxL lo low).length=n:=by rw[zTx jc];exact hl
  have l2:(mnL hi top).length=n:=by rw[zTg jc];exact ht
  unfold stP
  by_cases hb:okB (mxL lo low) (mnL hi top)=true
  .rw[Qh hb]
   by_cases hf:mxL lo low=low/\mnL hi top=top
   .rw[Qh hf];exact .inr<|.inl ⟨rfl,λp hp=>((ib p).mp (by rw[hf.1,hf.2];exact hp)).1⟩
   .rw[Qv hf];exact .inr<|.inr ⟨rfl,l1,l2,ib,hQ ⟨lo,hi,h1,h2,hb,hf⟩⟩
  .rw[Qv hb];exact .inl ⟨J,λp hp hq=>hb<|(zK2 jc).mpr ⟨p,(ib p).mpr ⟨hq,hp⟩⟩⟩
 have u1:Up f [(f,f+W - 1)]<|f+W:=⟨List.pairwise_singleton _ _,λp hp=>by rw[Qb.mp hp];exact⟨Yq _,by show f<=f+W - 1;lia,by show f+W - 1 < f+W;lia⟩⟩
 have up:∀lo hi:ki,lo.length=n->hi.length=n->Up f (stP low top f W Q lo hi) (f+W)/\(stP low top f W Q lo hi≠[]↔∃p,InB p low top/\InB p lo hi):=by
  intro lo hi h1 h2;rcases one lo hi h1 h2 with⟨e,a⟩ | ⟨e,a⟩ | ⟨e,l1,l2,ib,q⟩<;>rw[e]
  .exact⟨⟨.nil,λ_ h=>by cases h⟩,λh=>absurd J h,λ⟨p,h,h'⟩=>absurd h'<|a p h⟩
  .exact⟨u1,λ_=>⟨low,hin,a low hin⟩,λ_ h=>by cases h⟩
  .obtain⟨q1,q2,_⟩:=q _ _ l1 l2;exact⟨q1,q2.trans ⟨λ⟨p,h,h'⟩=>⟨p,h,((ib p).mp h').1⟩,λ⟨p,h,h'⟩=>⟨p,h,(ib p).mpr ⟨h',h⟩⟩⟩⟩
 refineλlo hi h1 h2=>⟨(up lo hi h1 h2).1,(up lo hi h1 h2).2,λlo' hi' h1' h2'=>?_⟩
 obtain⟨v,w⟩:=up lo hi h1 h2;obtain⟨v',w'⟩:=up lo' hi' h1' h2';rcases one lo hi h1 h2 with⟨e,a⟩ | ⟨e,a⟩ | ⟨e,l1,l2,ib,q⟩
 .rw[e];exact⟨λ⟨_,h,_⟩=>(by cases h),λ⟨p,h,h',_⟩=>absurd h'<|a p h⟩
 .rw[e,zRH v',w'];exact⟨λ⟨p,h,h'⟩=>⟨p,h,a p h,h'⟩,λ⟨p,h,_,h'⟩=>⟨p,h,h'⟩⟩
 .rcases one lo' hi' h1' h2' with⟨e',a'⟩ | ⟨e',a'⟩ | ⟨e',l1',l2',ib',_⟩
  .rw[e'];exact⟨λ⟨_,_,_,h,_⟩=>(by cases h),λ⟨p,h,_,h'⟩=>absurd h'<|a' p h⟩
  .rw[e',Sh.symm,zRH v,w];exact⟨λ⟨p,h,h'⟩=>⟨p,h,h',a' p h⟩,λ⟨p,h,h',_⟩=>⟨p,h,h'⟩⟩
  .rw[e,e',(q _ _ l1 l2).2.2 _ _ l1' l2'];exact⟨λ⟨p,h,h',h''⟩=>⟨p,h,((ib p).mp h').1,((ib' p).mp h'').1⟩,λ⟨p,h,h',h''⟩=>⟨p,h,(ib p).mpr ⟨h',h⟩,(ib' p).mpr ⟨h'',h⟩⟩⟩
def flP (N:Nat)(Q:Nat->ki->ki->km)(lo hi:ki):km:=(List.range N).flatMap λk=>Q k lo hi
theorem zPZ {n:Nat}{f V:Int}(hV:0<=V){Q:Nat->ki->ki->km}{lo hi:ki}:∀ {N:Nat},(∀k,k < N->Up (f+(k:Nat)*V) (Q k lo hi) (f+(k:Nat)*V+V))->Up f (flP N Q lo hi) (f+(N:Nat)*V)
 | 0,_=>⟨.nil,λ_ h=>by cases h⟩
 | N+1,h=>by
  have ih:=zPZ (n:=n) hV (N:=N) λk hk=>h k jc;have e:((N+1:Nat))*V=(N)*V+V:=by rw[Int.natCast_add,Int.add_mul];show _+1*V=_;lia
  have nn:0<=(N)*V:=Int.mul_nonneg jc hV;unfold flP at ih ⊢;rw[List.range_succ,Tr,List.flatMap_singleton,e];exact ih.app (by rw[<-Int.add_assoc];exact h N jc) jc jc
def zGC {f V h:Int}(hl:low.length=n)(hV:0<=V)(h0:0 < h){c:Nat->ki}{N:Nat}(hc:∀k,k < N->Wc n (c k))(ha:∀x,Wc n x->∃k,k < N/\c k=x){Q:Nat->ki->ki->km}(hQ:∀k,k < N->Pc n (mD low (c k) h) (wU (mD low (c k) h) h) (f+(k:Nat)*V) V (Q k)):Pc n low (wU low<|2*h) f ((N:Nat)*V)<|flP N Q:=by
 have to:∀p,InB p low (wU low<|2*h)->∃k,k < N/\InB p (mD low (c k) h) (wU (mD low (c k) h) h):=λp hp=>by obtain⟨x,w,i⟩:=zXd h0 hp;rw[hl] at w;obtain⟨k,hk,e⟩:=ha x w;exact⟨k,hk,by rw[e];exact i⟩
 have back:∀p k,k < N->InB p (mD low (c k) h) (wU (mD low (c k) h) h)->InB p low (wU low<|2*h):=λp k hk i=>zXv h0 (hc k hk).2 (by rw[(hc k hk).1];exact hl) i;have mem:∀ {lo hi:ki} {q:Row},q∈flP N Q lo hi↔∃k,k < N/\q∈Q k lo hi:=λ{lo hi q}=>by unfold flP;simp[Wm]
 refineλlo hi h1 h2=>⟨zPZ (n:=n) hV λk hk=>(hQ k hk lo hi h1 h2).1,?_,λlo' hi' h1' h2'=>?_⟩
 .constructor
  .intro ne;obtain⟨q,hq⟩:=Aq _ ne;obtain⟨k,hk,hq⟩:=mem.mp hq;obtain⟨p,i1,i2⟩:=(hQ k hk lo hi h1 h2).2.1.mp<|List.ne_nil_of_mem hq;exact⟨p,back p k hk i1,i2⟩
  .rintro⟨p,i1,i2⟩;obtain⟨k,hk,i3⟩:=to p i1;obtain⟨q,hq⟩:=Aq _<|(hQ k hk lo hi h1 h2).2.1.mpr ⟨p,i3,i2⟩;exact List.ne_nil_of_mem<|mem.mpr ⟨k,hk,hq⟩
 .constructor
  .rintro⟨q,hq,q',hq',e1,e2⟩;obtain⟨k,hk,hq⟩:=mem.mp hq;obtain⟨k',hk',hq'⟩:=mem.mp hq';have b:=(hQ k hk lo hi h1 h2).1.2 q hq;have b':=(hQ k' hk' lo' hi' h1' h2').1.2 q' hq';have ek:k=k':=by
    have le:∀ {i j:Nat},i < j->(i:Int)*V+V<=j*V:=λ{i j} h=>by have:((i+1:Nat):Int)*V<=j*V:=Pq jc hV;rwa[Int.natCast_add,Int.add_mul,show((1:Nat):Int)*V=V from Int.one_mul V] at this
    rcases Nat.lt_trichotomy k k' with z | z | z
    .have:=le z;lia
    .exact z
    .have:=le z;lia
   subst ek;obtain⟨p,i1,i2⟩:=((hQ k hk lo hi h1 h2).2.2 lo' hi' h1' h2').mp ⟨q,hq,q',hq',e1,e2⟩;exact⟨p,back p k hk i1,i2⟩
  .rintro⟨p,i1,i2⟩;obtain⟨k,hk,i3⟩:=to p i1;obtain⟨q,hq,q',hq',e⟩:=((hQ k hk lo hi h1 h2).2.2 lo' hi' h1' h2').mpr ⟨p,i3,i2⟩;exact⟨q,mem.mpr ⟨k,hk,hq⟩,q',mem.mpr ⟨k,hk,hq'⟩,e⟩
abbrev fP (cv a s r:D)(f:Int)(x5 x6 x7 x8 x9 x10:B):kj:=[.fz cv,.fz a,.fz s,.fz r,.fz<|.int f,x5,x6,x7,x8,x9,x10]
section
variable (hn:n=2\/n=3) (ok:PtsOk n ps) (j:Bool)
include hn ok
theorem zUU:∀(fuel m:Nat) (t:Tn) (b:Bool) (low:ki) (f:Int),m < fuel->n*m<=12->low.length=n->Wt n t->Sj n t -> ∃P,Pc n low (wU low<|2^m) f (2^(n*m)) P/\∀lo hi:ki,lo.length=n->hi.length=n->nU fuel [yU nm n j ps,bx lo hi,stD t b,bx low<|wU low<|2^m,.int f]=some (yA<|P lo hi)
 | 0,m,_,_,_,_,hf,_,_,_,_=>absurd hf<|Nat.not_lt_zero _
 | fuel+1,m,t,b,low,f,hf,hm,h3,ht,hs=>by
  have hm4:m<=6:=by rcases hn with rfl | rfl<;>lia
  have hv:=zME (low:=low) hm4;rw[h3] at hv;obtain⟨c,t',b',hp,hall⟩:=zIm hn ok ht b j (nm:=nm) hs;have ih:∀k:Nat,∃P,∀m',m=m'+1->k < 2^n->Pc n (mD low (c k)<|2^m') (wU (mD low (c k)<|2^m')<|2^m') (f+(k:Nat)*2^(n*m')) (2^(n*m')) P/\∀lo hi:ki,lo.length=n->hi.length=n->nU fuel [yU nm n j ps,bx lo hi,stD (t' k)<|b' k,bx (mD low (c k)<|2^m')<|wU (mD low (c k)<|2^m')<|2^m',.int<|f+(k:Nat)*2^(n*m')]=some (yA<|P lo hi):=λk=>by
   by_cases q:(∃m',m=m'+1)/\k < 2^n
   .obtain⟨⟨m',rfl⟩,hk⟩:=q;obtain⟨w1,⟨w2,w3⟩,_⟩:=hp k hk;obtain⟨P,h⟩:=zUU fuel m' (t' k) (b' k) (mD low (c k)<|2^m') (f+(k:Nat)*2^(n*m')) jc (by rw[Nat.mul_add] at hm;lia) (by rw[zKK (by rw[w1.1];exact h3),w1.1]) w2 w3;exact⟨P,λm'' e _=>by cases e;exact h⟩
   .exact⟨λ_ _=>[],λm' e hk=>absurd ⟨⟨m',e⟩,hk⟩ q⟩
  obtain⟨Q,hQ⟩:=Classical.axiomOfChoice ih;have e2:∀m',(2:Int)^(n*(m'+1))=((2^n:Nat):Int)*2^(n*m'):=λm'=>by rw[Nat.mul_add,Nat.mul_one,Int.pow_add,Om,Int.natCast_pow];rfl
  refine⟨stP low (wU low<|2^m) f (2^(n*m))<|flP (2^n) Q,zFk h3 (by rw[zZs];exact h3) (rO _) (zMj low<|rO m) λ⟨lo,hi,h1,h2,hb,hfull⟩=>?_,λlo hi h1 h2=>?_⟩
  .cases m with
   | zero=>exact absurd (ok0 hn h1 h2 h3 hb) hfull
   | succ m =>have:=zGC (f:=f) (V:=2^(n*m)) (h:=2^m) h3 (Ik<|rO _) (rO m) (λk hk=>(hp k hk).1) hall λk hk=>(hQ k m J hk).1;rw[<-e2,<-zOU] at this;exact this
  .have hc:=zNi (lo:=lo) (hi:=hi) (lo':=low) (hi':=wU low<|2^m) jc jc;unfold stP
   by_cases hb:okB (mxL lo low) (mnL hi<|wU low<|2^m)=true
   .rw[Qh hb] at hc ⊢;have l1:(mxL lo low).length=n:=by rw[zTx jc];exact h3
    have l2:(mnL hi<|wU low<|2^m).length=n:=by rw[zTg (by rw[zZs];lia),zZs];exact h3
    have h0:m=0->mxL lo low=low/\mnL hi (wU low<|2^m)=wU low (2^m):=λe=>by subst e;exact ok0 hn h1 h2 h3 hb
    have heq:=zGw (a:=mxL lo low) (b:=mnL hi<|wU low<|2^m) (c:=low) (d:=wU low<|2^m) jc (by rw[zZs];lia);generalize mxL lo low=slo at *;generalize mnL hi (wU low<|2^m)=shi at *
    by_cases hfull:slo=low/\shi=wU low (2^m)
    .rw[Qh hfull];refine cO ((vM J J).trans hc)<|zPF rfl<|zMh (heq.trans<|by rw[Qc hfull]) ?_;exact nM (zM (lI (zM rfl<|zM (zJ (C:=λ_ _=>true) (g:=λi j=>i - j) (zJ (C:=λ_ _=>true) (g:=λi j=>i+j) rfl ((bY J).trans hv) rfl) rfl rfl) rfl)<|Qt rfl) rfl)<|Qt rfl
    .rw[Qv hfull];cases m with
     | zero=>exact absurd (h0 J) hfull
     | succ m =>
      have hps:=zE1 hn ok;have e2:=e2 m;have pv:=rO<|n*m;have hlp:=λ{x y z u v w:B}=>zUH (nm:=nm) (n:=n) (j:=j) (ps:=ps) (O:=fP (yU nm n j ps) (bx lo hi) (stD t b) (bx low<|wU low<|2^(m+1)) f x y z u v w) J;have hstep:=zJ (C:=zNN) (g:=λi j=>i / j) ((bY (f:=fL) (fa:=eV3) (O:=fP (yU nm n j ps) (bx lo hi) (stD t b) (bx low<|wU low<|2^(m+1)) f (.fz<|bx slo shi) .no .no .no .no .no) J).trans hv) hlp (by
       unfold zNN;rw[Qc jc,Qc (by rw[Int.natAbs_natCast];have:=(Nat.log2_lt (n:=ps.length) (k:=4) jc).mpr jc;lia)]
       rfl)
      rw[e2,ok.len,Int.mul_ediv_cancel_left _ (by have:=rO n;rw[Int.natCast_pow];show(2:Int)^n≠0;lia)] at hstep;have hQ:=λk hk=>hQ k m J hk;generalize hV:(2:Int)^(n*m)=V at *;obtain⟨O',e,y8,y9,y10,rfl⟩:=cI (g:=gN 8) (body:=eQ<|nU fuel) (P:=λi O=>∃y8 y9 y10,O=fP (yU nm n j ps) (bx lo hi) (stD t b) (bx low<|wU low<|2^(m+1)) f (.fz<|bx slo shi) (.fz<|.int V) (.ow<|yA<|flP i Q slo shi) y8 y9 y10) (tS 0<|2^n) 0 (λi d hd O hO=>by
       obtain⟨hil,rfl⟩:=fZ hd;obtain⟨y8,y9,y10,rfl⟩:=hO;rw[Yk];obtain⟨wc,_,ep⟩:=hp i hil;have hq:=zPJ hn h3 wc<|2^m;rw[<-zOU] at hq;have er:=(hQ i hil).2 slo shi l1 l2;have ua:=zPZ (n:=n) (f:=f) (Ik pv) (Q:=Q) (lo:=slo) (hi:=shi) (N:=i+1) λk hk=>((hQ k jc).1 slo shi l1 l2).1;have h8:2^n<=8:=by rw[<-ok.len];exact hps.2
       have e9:flP (i+1) Q slo shi=flP i Q slo shi++Q i slo shi:=by unfold flP;rw[List.range_succ,Tr,List.flatMap_singleton]
       have iv:0<=((i+1:Nat):Int)*V:=Int.mul_nonneg jc jc;have lb:=ua.len jc;have l9:((i+1:Nat):Int)*V<=2^12:=Ii (by rw[e2];exact Pq jc<|Ik pv)<|zOf hm;rw[e9] at lb ⊢;refine⟨_,_,J,?_,.fz<|.int (i:Nat),.fz<|yP<|c i,.fz<|stD (t' i)<|b' i,J⟩;rw[Qo] at lb;rw[Int.zero_add];refine(wQ (O':=fP (yU nm n j ps) (bx lo hi) (stD t b) (bx low<|wU low<|2^(m+1)) f (.fz<|bx slo shi) (.fz<|.int V) (.ow<|yA<|flP i Q slo shi) (.fz<|.int (i:Nat)) (.fz<|yP<|c i)<|.fz<|stD (t' i)<|b' i) (by unfold zYQ;rw[(vO J J J).trans ep];rfl)).trans ?_;unfold zYn zVj;rw[zLJ rfl rfl rfl ((vM J J).trans hq)<|zJ (C:=λ_ _=>true) (g:=λi j=>i+j) rfl (zJ (C:=zUJ) (g:=λi j=>i*j) (i:=(i:Nat)) (j:=V) rfl rfl (by unfold zUJ;rw[eZ jc jc];rfl)) rfl,er,Qr]
       show(if (yA<|flP i Q slo shi).length+(yA<|Q i slo shi).length<=lim then _ else none)=_;unfold yA;rw[Qh (by rw[Qy,Qy];show _<=100000;lia),<-Wz];rfl) (fP (yU nm n j ps) (bx lo hi) (stD t b) (bx low<|wU low<|2^(m+1)) f (.fz<|bx slo shi) (.fz<|.int V) (.ow<|yA []) .no .no .no) ⟨_,_,_,rfl⟩
      rw[pI,Yk] at e;refine cO ((vM J J).trans hc)<|zPF rfl<|zPF (heq.trans<|by rw[Qn hfull])<|cO hstep<|zRx rfl<|zRx (O':=fP (yU nm n j ps) (bx lo hi) (stD t b) (bx low<|wU low<|2^(m+1)) f (.fz<|bx slo shi) (.fz<|.int V) (.ow<|yA<|flP (2^n) Q slo shi) y8 y9 y10) ?_ rfl;show vQ _ _ _ (fP (yU nm n j ps) (bx lo hi) (stD t b) (bx low<|wU low<|2^(m+1)) f (.fz<|bx slo shi) (.fz<|.int V) (.ow<|yA []) .no .no .no)=_;unfold vQ;rw[zGA hlp jc,Qr,ok.len];exact e
   .rw[Qv hb] at hc ⊢;exact cO ((vM J J).trans hc)<|zMh rfl rfl
end
def rAt (r:km)(k:Nat):Row:=r.getD k (0,0)
def zUN (r:km)(g:Int)(k:Nat):Bool:=decide (g < (rAt r k).1 - (rAt r<|k - 1).2 - 1)
def seg (r:km):Nat->kz->Nat->km
 | a,[],n=>[((rAt r a).1,(rAt r<|n - 1).2)]
 | a,s::l,n=>((rAt r a).1,(rAt r<|s - 1).2)::seg r s l n
def zVn (r:km)(g:Int)(n:Nat):kz:=((List.range n).filter λk=>decide (0 < k)&&zUN r g k)
def zR2 {r:km}{g:Int}{k:Nat}(h:k∈zVn r g n):0 < k/\k < n:=by unfold zVn at h;simp_all
def zG8 {r:km}{k:Nat}(hk:k < r.length):atD (.lst<|yA r) (.int (k:Nat))=some (mE<|rAt r k):=by show atI (r.map mE) _=_;rw[mV _ _ (mE (0,0)) jc (!8)];unfold rAt;simp[Ei]
def zTb {r:km}{k:Nat}{f g:Ef}(h1:f O=some (.lst<|yA r))(h2:g O=some (.int (k:Nat)))(hk:k < r.length):eIx f g O=some (mE<|rAt r k):=by unfold eIx;rw[h1,Qr,h2,Qr,zG8 hk]
def zPb {f:Ef}{k:Nat}(h:f O=some (.int (k:Nat)))(hk:0 < k):vG f jq O=some (.int ((k - 1:Nat):Int)):=by rw[show((k - 1:Nat):Int)=(k) - 1 by lia];exact zJ h J J
def zLk {r:km}{k:Nat}(h0:0 < k)(hk:k < r.length):qF [.lst<|yA r,.int (k:Nat)]=some (.int<|(rAt r k).1 - (rAt r<|k - 1).2 - 1):=by
 show(oW [.fz _,.fz _]).bind vR=_;unfold oW xQ;rw[show vG (vG _ (eIx _ _)) _ [.fz _,.fz _]=some _ from
  zJ (zJ (zPK<|zTb rfl rfl hk) (zQw<|zTb rfl (zPb J h0) jc) J) rfl rfl]
 rfl
theorem zUv {t:Tf}{elt:Ef}{p:D->Bool}{h:D->D}{rest:kj}:∀(ds:kd) (x0:B) (j7:kd),(∀d∈ds,t (.fz d::rest)=some (p d)/\elt (.fz d::rest)=some (h d))->uB (gN 0) t elt ds (x0::rest) j7=some (j7++(ds.filter p).map h)
 | [],x0,j7,_=>by simp[uB]
 | d::r,x0,j7,hh=>by
  obtain⟨h1,h2⟩:=hh d Qf;have ih:=λj7=>zUv r (.fz d) j7 λd' hd=>hh d'<|Qp _ hd;unfold uB;rw[show gN 0 d _=some (.fz d::rest) from rfl,Qr,h1]
  grind
def nI (k:Nat):D:=.int (k:Nat)
def zNE {r:km}(g:Int)(hr:r.length<=10000)(h1:0 < r.length):yH (iR2 jq<|uV eV0) 1 [1,0] (gN 0) (eB2 gGt (yZ 2 qF<|zY eV2<|zY eV0 zS) eV1) eV0 [.fz<|.lst<|yA r,.fz<|.int g,.no]=some ((zVn r g r.length).map nI):=by
 obtain⟨m,hm⟩:∃m,r.length=m+1:=⟨r.length - 1,jc⟩
 have hi:iR2 jq (uV eV0) [.fz<|.lst<|yA r,.fz<|.int g,.no]=some (tS 1 m):=by
  show(if decide _&&decide _&&decide _&&decide _ then some _ else none)=_;have hl:(yA r).length=m+1:=by simp[yA,hm]
  grind
 unfold yH;rw[hi,Qr,uL (by rw[pI];lia)];show uB _ _ _ _ [.no,.fz _,.fz _] []=_;rw[zUv (p:=λd=>match d with | .int i=>zUN r g i.toNat | _=>false) (h:=id) _ .no [] (λd hd=>by obtain⟨i,hi,rfl⟩:=zVV hd;refine⟨?_,J⟩;unfold eB2;rw[vM rfl rfl,show(1:Int)+_=((i+1:Nat)) by lia,zLk (Nat.succ_pos _) jc];rfl)]
 rw[Ih,List.map_id];unfold zVn;rw[hm,Ie,Rz,Qv je,Ut,Wj];unfold tS;rw[Ut,Es (λi _=>by show D.int _=D.int ((i+1:Nat));congr 1;lia)];congr 2;refine List.filter_congr λi _=>?_;show zUN r g ((1:Int)+_).toNat=_;rw[show((1:Int)+_).toNat=i+1 by lia];simp
def zLE {r:km}:∀(l:kz) (a:Nat) (x0 x1:B) (j7:kd),a < r.length->(∀k∈l,0 < k/\k < r.length) -> uB (gT<|zB (gN 0)<|zB (gN 1) xC) tOK (vZ<|zY (eIx (eIx eV2 eV0) jp)<|zY (eIx (eIx eV2<|vG eV1 jq) jq) zS) (eF (nI a::l.map nI)<|l.map nI++[nI r.length]) [x0,x1,.fz<|.lst<|yA r] j7=some (j7++yA (seg r a l r.length)):=by
 have stp:∀(a s) (x0 x1) (rest) (j7),a < r.length->0 < s->s<=r.length->uB (gT<|zB (gN 0)<|zB (gN 1) xC) tOK (vZ<|zY (eIx (eIx eV2 eV0) jp)<|zY (eIx (eIx eV2<|vG eV1 jq) jq) zS) (.tup [nI a,nI s]::rest) [x0,x1,.fz<|.lst<|yA r] j7=uB (gT<|zB (gN 0)<|zB (gN 1) xC) tOK (vZ<|zY (eIx (eIx eV2 eV0) jp)<|zY (eIx (eIx eV2<|vG eV1 jq) jq) zS) rest [.fz<|nI a,.fz<|nI s,.fz<|.lst<|yA r] (j7++[mE ((rAt r a).1,(rAt r<|s - 1).2)]):=by
  intro a s x0 x1 rest j7 ha hs hs';show(some [B.fz _,.fz _,.fz _]).bind _=_;rw[Qr];show(some true).bind _=_;rw[Qr,Qh rfl];have e:vZ (zY (eIx (eIx eV2 eV0) jp)<|zY (eIx (eIx eV2<|vG eV1 jq) jq) zS) [B.fz<|nI a,.fz<|nI s,.fz<|.lst<|yA r]=some (mE ((rAt r a).1,(rAt r<|s - 1).2)):=by unfold vZ;rw[zM (zPK<|zTb rfl rfl ha)<|zM (zQw<|zTb rfl (zPb J hs) jc) rfl];rfl
  rw[e,Qr]
 intro l;induction l with
 | nil =>intro a x0 x1 j7 ha _;show uB _ _ _ [.tup [nI a,nI r.length]] _ _=_;rw[stp a _ x0 x1 [] j7 ha jc<|Qg _];rfl
 | cons s l ih =>intro a x0 x1 j7 ha hl;obtain⟨h0,h1⟩:=hl s Qf;show uB _ _ _ (.tup [nI a,nI s]::eF (nI s::l.map nI) (l.map nI++[nI r.length])) _ _=_;rw[stp a s x0 x1 _ j7 ha h0 jc,ih s _ _ _ h1 λk hk=>hl k<|Qp _ hk];simp[yA,seg]
def zNc {r:km}(hr:r.length<=10000)(h1:0 < r.length){l:kz}(hl:l.length<=10000)(hm:∀k∈l,0 < k/\k < r.length):kY [.lst<|yA r,.lst<|l.map nI]=some (yA<|seg r 0 l r.length):=by
 show(sR [.fz _,.fz _,.no]).bind mM=_;unfold sR;have t1:tT (zPI eV0) [.fz<|.lst<|yA r,.fz<|.lst<|l.map nI,.no]=some false:=by
  cases r with
  | nil=>simp at h1
  | cons x t=>rfl
 rw[wQ (O':=[.fz _,.fz _,.no]) (by unfold sIf;rw[t1];rfl)];unfold oX;have e1:eL (gE (iL eV1)<|xJ<|zY (uV eV0) zS) [.fz<|.lst<|yA r,.fz<|.lst<|l.map nI,.no]=some (.lst<|l.map nI++[nI r.length]):=by show((okL _).map D.lst)=_;rw[uL (by simp;lia),show(yA r).length=r.length by simp[yA]];rfl
 rw[wQ (O':=[.fz _,.fz _,.fz _]) (by unfold yJ;rw[e1];rfl)];unfold gL tG yH;have e2:zNR (eL<|gE (xJ<|zY jp zS)<|iL eV1) eV2 [.fz<|.lst<|yA r,.fz<|.lst<|l.map nI,.fz<|.lst<|l.map nI++[nI r.length]]=some (eF (nI 0::l.map nI)<|l.map nI++[nI r.length]):=by show((okL _).map _).bind _=_;rw[uL (by simp;lia)];rfl
 rw[e2,Qr,uL (by unfold eF;rw[Qy];simp;lia)];show((uB _ _ _ _ [.no,.no,.fz _] []).map _).bind mM=_;rw[zLE l 0 .no .no [] h1 hm];rfl
def zKa {r:km}{g:Int}(h:0 < r.length):(0::zVn r g r.length).Sublist<|List.range r.length:=by
 obtain⟨m,hm⟩:∃m,r.length=m+1:=⟨r.length - 1,jc⟩
 unfold zVn;rw[hm,Ie,Rz];exact List.filter_sublist.cons₂ 0
theorem zOw (r:km):∀(l:kz) (a n:Nat),(seg r a l n).map (·.1)=(a::l).map λk=>(rAt r k).1
 | [],_,_=>rfl
 | s::l,a,n=>Wi _<|zOw r l s n
def Num (r:km)(x:Int):Prop:=∃p∈r,p.1<=x/\x<=p.2
def zLZ {r r':km}(h:∀p∈r,p.1<=p.2)(h':∀p∈r',p.1<=p.2):Sh r r'↔∃x,Num r x/\Num r' x:=by
 constructor
 .rintro⟨p,hp,q,hq,e1,e2⟩;have:=h p hp;have:=h' q hq
  by_cases z:p.1<=q.1
  .exact⟨q.1,⟨p,hp,z,e2⟩,⟨q,hq,Yq _,jc⟩⟩
  .exact⟨p.1,⟨p,hp,Yq _,jc⟩,⟨q,hq,jc,e1⟩⟩
 .rintro⟨x,⟨p,hp,a,b⟩,⟨q,hq,c,d⟩⟩;exact⟨p,hp,q,hq,jc,jc⟩
theorem zKR {r:km}{a:Nat}:∀(d:Nat),(∀k,a < k->k<=a+d->(rAt r k).1=(rAt r<|k - 1).2+1)->(∀k,a<=k->k<=a+d->(rAt r k).1<=(rAt r k).2)->(rAt r a).1<=(rAt r<|a+d).2/\∀x,((rAt r a).1<=x/\x<=(rAt r<|a+d).2)↔∃k,(a<=k/\k<=a+d)/\(rAt r k).1<=x/\x<=(rAt r k).2
 | 0,_,h=>⟨h a (Qg _)<|Qg _,λx=>⟨λq=>⟨a,⟨Qg _,Qg _⟩,q⟩,λ⟨k,⟨h1,h2⟩,q⟩=>by obtain rfl:=Nat.le_antisymm h2 h1;exact q⟩⟩
 | d+1,hj,h=>by
  obtain⟨i1,i2⟩:=zKR d (λk h1 h2=>hj k h1 jc) λk h1 h2=>h k h1 jc;have e:=hj (a+d+1) jc jc;have w:=h (a+d+1) jc jc;rw[Nat.add_sub_cancel] at e;refine⟨by show _<=(rAt r<|a+d+1).2;lia,λx=>⟨λ⟨q1,q2⟩=>?_,λ⟨k,⟨h1,h2⟩,q1,q2⟩=>?_⟩⟩
  .have q2:=q2
   by_cases z:x<=(rAt r<|a+d).2
   .obtain⟨k,⟨h1,h2⟩,q⟩:=(i2 x).mp ⟨q1,z⟩;exact⟨k,⟨h1,jc⟩,q⟩
   .exact⟨a+d+1,⟨jc,jc⟩,jc,q2⟩
  .show _/\x<=(rAt r<|a+d+1).2
   by_cases z:k=a+d+1
   .grind
   .have:=(i2 x).mpr ⟨k,⟨h1,jc⟩,q1,q2⟩;lia
theorem zOp {r:km}{n:Nat}(hr:∀k,k < n->(rAt r k).1<=(rAt r k).2):∀(l:kz) (a:Nat),a < n->l.Pairwise (· < ·)->(∀k∈l,a < k/\k < n)->(∀k,a < k->k < n->k∉l->(rAt r k).1=(rAt r<|k - 1).2+1)->(∀p∈seg r a l n,p.1<=p.2)/\∀x,Num (seg r a l n) x↔∃k,(a<=k/\k < n)/\(rAt r k).1<=x/\x<=(rAt r k).2
 | [],a,ha,_,_,hj=>by obtain⟨c1,c2⟩:=zKR (r:=r) (a:=a) (n - 1 - a) (λk h1 h2=>hj k h1 jc λh=>by cases h) λk h1 h2=>hr k jc;rw[show a+(n - 1 - a)=n - 1 by lia] at c1 c2;refine⟨λp hp=>by rw[Qb.mp hp];exact c1,λx=>?_⟩;show(∃p∈[((rAt r a).1,(rAt r<|n - 1).2)],_)↔_;rw[show(∃p∈[((rAt r a).1,(rAt r<|n - 1).2)],p.1<=x/\x<=p.2)↔((rAt r a).1<=x/\x<=(rAt r<|n - 1).2) by simp,c2 x];exact⟨λ⟨k,h,q⟩=>⟨k,jc,q⟩,λ⟨k,h,q⟩=>⟨k,jc,q⟩⟩
 | s::l,a,ha,hp,hl,hj=>by
  obtain⟨p1,p2⟩:=Rr.mp hp;obtain⟨s1,s2⟩:=hl s Qf;obtain⟨c1,c2⟩:=zKR (r:=r) (a:=a) (s - 1 - a) (λk h1 h2=>hj k h1 jc (λh=>by
   rcases v4 h with e | e
   .lia
   .have:=p1 k e;lia)) λk h1 h2=>hr k jc
  rw[show a+(s - 1 - a)=s - 1 by lia] at c1 c2;obtain⟨i1,i2⟩:=zOp hr l s s2 p2 (λk hk=>⟨p1 k hk,(hl k<|Qp _ hk).2⟩) λk h1 h2 h=>hj k jc h2 (λe=>by
   rcases v4 e with e | e
   .lia
   .exact h e)
  refine⟨λp hp=>?_,λx=>?_⟩
  .rcases v4 hp with e | e
   .simp_all
   .exact i1 p e
  .show(∃p∈((rAt r a).1,(rAt r _).2)::seg r s l n,_)↔_;rw[show(∃p∈((rAt r a).1,(rAt r _).2)::seg r s l n,p.1<=x/\x<=p.2)↔((rAt r a).1<=x/\x<=(rAt r<|s - 1).2)\/Num (seg r s l n) x by unfold Num;simp,c2 x,i2 x];constructor
   .rintro(⟨k,h,q⟩ | ⟨k,h,q⟩)
    .exact⟨k,jc,q⟩
    .exact⟨k,jc,q⟩
   .rintro⟨k,h,q⟩
    by_cases z:k < s
    .exact .inl ⟨k,jc,q⟩
    .exact .inr ⟨k,jc,q⟩
def clR (r:km):km:=if r.length=0 then [] else seg r 0 (zVn r 0 r.length) r.length
def zM4 {r:km}{z:Int}(u:Up a r z)(hr:r.length<=4096):zV9 [.lst<|yA r,.int 0]=some (yA<|clR r)/\((clR r).Pairwise λp q=>p.1≠q.1)/\(clR r).length<=4096/\(∀p∈clR r,p.1<=p.2)/\∀x,Num (clR r) x↔Num r x:=by
 unfold clR
 by_cases h:r.length=0
 .rw[Qh h,Te.mp h];exact⟨J,.nil,jb,(λ_ h=>by cases h),λ_=>Iff.rfl⟩
 have h0:0 < r.length:=jc;rw[Qv h];have sub:=zKa (g:=0) h0;have ln:=sub.length_le;rw[Tz,Qk] at ln;have fs:=zOw r (zVn r 0 r.length) 0 r.length;have lt:∀ {i k:Nat},i < k->k < r.length->(rAt r i).2 < (rAt r k).1:=λ{i k} e hk=>by
  have:=Pn.mp u.1 i k jc hk e;unfold rAt
  grind
 have le:∀k,k < r.length->(rAt r k).1<=(rAt r k).2:=λk hk=>by
  have:=(u.2 _<|Tt hk).2.1;unfold rAt
  grind
 obtain⟨n1,n2⟩:=zOp le (zVn r 0 r.length) 0 h0 (List.Pairwise.sublist (List.filter_sublist) List.pairwise_lt_range) (λk hk=>zR2 hk) λk h1 h2 h3=>by
  have:zUN r 0 k=false:=by
   cases e:zUN r 0 k with
   | false=>rfl
   | true=>exact absurd (Eo.mpr ⟨Tx.mpr h2,by simp[e,h1]⟩) h3
  unfold zUN at this;have:=lt (show k - 1 < k by lia) h2;lia
 refine⟨?_,?_,?_,n1,λx=>(n2 x).trans ⟨λ⟨k,h,q⟩=>⟨r[k]'h.2,Tt _,by unfold rAt at q;grind⟩,λ⟨p,hp,q⟩=>?_⟩⟩
 .show(hZ [.fz<|.lst<|yA r,.fz<|.int 0,.no]).bind mM=_;unfold hZ;rw[wQ (O':=[.fz<|.lst<|yA r,.fz<|.int 0,.ow<|(zVn r 0 r.length).map nI]) (by unfold mF;rw[zNE 0 jc h0];rfl)];unfold zXs zY9 tG;rw[zMp rfl rfl,zNc jc h0 jc λk hk=>zR2 hk];rfl
 .refine(En (f:=λp:Row=>p.1) (R:=(· ≠ ·))).mp ?_;rw[fs,En];refine(List.pairwise_lt_range.sublist sub).imp_of_mem λ{i k} hi hk e=>?_;have hi:=Tx.mp<|sub.subset hi;have hk:=Tx.mp<|sub.subset hk;have:=lt e hk;have:=le i hi;lia
 .have:=Wi List.length fs;rw[Qy,Qy,Qk] at this;lia
 .obtain⟨k,hk,rfl⟩:=Ow.mp hp;exact⟨k,⟨Er _,hk⟩,by unfold rAt;grind⟩
theorem zUo (x0 x1:B):∀(j6:kd) (p:Int) (x3:B),∃y3,uC (gN 3) zY8 j6 [x0,x1,.fz<|.int p,x3]=some (.nx [x0,x1,.fz<|.int<|p*2^j6.length,y3])
 | [],p,x3=>⟨x3,by simp[uC]⟩
 | d::r,p,x3=>by obtain⟨y3,ih⟩:=zUo x0 x1 r _ _;refine⟨y3,?_⟩;rw[wL (ρ1:=[x0,x1,.fz _,.fz d]) rfl ?_,ih,Qk,Int.pow_succ,Om _ 2,<-Int.mul_assoc];unfold zY8 yJ;rw[show gB _ _ [x0,x1,.fz _,.fz d]=some _ from zJ rfl rfl<|zTf je je];rfl
def zOR (n L:Nat)(hn:n<=3)(hL:L<=100):zS5 [.int (n:Nat),.int (L:Nat)]=some (.int<|2^(n*L)):=by
 have hm:n*L<=300:=Ww (Ud hn hL) je;obtain⟨y3,e⟩:=zUo (.fz<|.int<|n) (.fz<|.int<|L) (tS 0<|n*L) 1 .no;rw[pI] at e;show(zV3 [.fz<|.int<|n,.fz<|.int<|L,.no,.no]).bind vR=_;refine yG rfl<|yM (O':=[.fz<|.int<|n,.fz<|.int<|L,.fz<|.int<|2^_,y3]) ?_ rfl;unfold vQ;have hmul:gB eV0 eV1 [.fz<|.int<|n,.fz<|.int<|L,.fz<|.int 1,.no]=some (.int ((n*L):Nat)):=by rw[Int.natCast_mul];exact zJ J rfl<|eZ jc jc
 have hir:iR (gB eV0 eV1) [.fz<|.int<|n,.fz<|.int<|L,.fz<|.int 1,.no]=some (tS 0<|n*L):=by
  unfold iR;rw[hmul,Qr];generalize n*L=m at hm
  grind
 simp_all
def zJR {n:Int}(h:eV0 O=some (yU nm n j ps)):yK (Str.ofString An) (Str.ofString Ab) eV0 O=some (.int n):=by unfold yK;rw[h];rfl
def zs (n:Nat):ki:=(List.range n).map λ_=>(0:Int)
def zX0 (n:Nat):Tn:=(List.range n).map λ(i:Nat)=>((i:Int),(0:Int))
def zSL (hn:n=2\/n=3)(ok:PtsOk n ps)(j:Bool)(hL:n*L<=12):∃S:ki->ki->km,∀lo hi:ki,lo.length=n->hi.length=n->xE [yU nm n j ps,.int (L:Nat),bx lo hi]=some (yA<|S lo hi)/\((S lo hi).Pairwise λp q=>p.1≠q.1)/\(S lo hi).length<=4096/\∀lo' hi':ki,lo'.length=n->hi'.length=n->(Sh (S lo hi) (S lo' hi')↔∃p,InB p (zs n) (wU (zs n)<|2^L)/\InB p lo hi/\InB p lo' hi'):=by
 have hL3:L<=6:=by rcases hn with rfl | rfl<;>lia
 have hst:kT [.int (n:Nat)]=some (stD (zX0 n) false):=by rcases hn with rfl | rfl<;>kernel_rfl
 have wst:Wt n<|zX0 n:=⟨by simp[zX0],λp hp=>by obtain⟨i,hi,rfl⟩:=v7 hp;have:=Tx.mp hi;exact⟨⟨by show(0:Int)<=i;lia,by show(i:Int) < n;lia⟩,.inl J⟩⟩
 have sst:Sj n<|zX0 n:=zNW hn (by rcases hn with rfl | rfl<;>decide +kernel);obtain⟨P,pc,hp⟩:=zUU hn ok (nm:=nm) j 9 L (zX0 n) false (zs n) 0 jc jc (by simp[zs]) wst sst;have h6:=zOf hL;have cl:=λ(lo hi:ki) (h1:lo.length=n) (h2:hi.length=n)=>zM4 (pc lo hi h1 h2).1 (by have:=(pc lo hi h1 h2).1.len (by have:=rO<|n*L;lia);lia);refine⟨λlo hi=>clR<|P lo hi,λlo hi h1 h2=>?_⟩;obtain⟨hcl,q1,q2,q3,q4⟩:=cl lo hi h1 h2;refine⟨?_,q1,q2,λlo' hi' h1' h2'=>?_⟩
 rotate_left
 .obtain⟨_,_,_,q3',q4'⟩:=cl lo' hi' h1' h2';rw[zLZ q3 q3',<-(pc lo hi h1 h2).2.2 lo' hi' h1' h2',zLZ (λp hp=>((pc lo hi h1 h2).1.2 p hp).2.1) λp hp=>((pc lo' hi' h1' h2').1.2 p hp).2.1];exact⟨λ⟨x,u,v⟩=>⟨x,(q4 x).mp u,(q4' x).mp v⟩,λ⟨x,u,v⟩=>⟨x,(q4 x).mpr u,(q4' x).mpr v⟩⟩
 have hf:=zOR 1 L jb jc;rw[Nat.one_mul] at hf;have hd:=λ{x y:B}=>zJR (n:=n) (j:=j) (ps:=ps) (nm:=nm) (O:=[.fz<|yU nm n j ps,.fz (!16),.fz<|bx lo hi,x,y]) J;show(tM [.fz<|yU nm n j ps,.fz (!16),.fz<|bx lo hi,.no,.no]).bind mM=_;unfold tM;refine cO (d:=.int<|2^L - 1) (zJ (C:=λ_ _=>true) (g:=λi j=>i - j) ((vM (x:=.int 1) (y:=!16) J J).trans hf) rfl rfl) ?_;unfold qL;have z:∀(f:Ef) (c:Int),f [.fz<|yU nm n j ps,.fz (!16),.fz<|bx lo hi,.fz<|.int<|2^L - 1,.no]=some (.int c)->zZy (vZ<|zY f zS) (yK An Ab eV0) [.fz<|yU nm n j ps,.fz (!16),.fz<|bx lo hi,.fz<|.int<|2^L - 1,.no]=some (yP<|(List.range n).map λ_=>c):=λf c h=>by unfold zZy;rw[hd,lI (zM h J)<|Qt rfl];rcases hn with rfl | rfl<;>rfl
 refine cO (d:=bx (zs n)<|wU (zs n)<|2^L) ?_ ?_
 .have e:wU (zs n) (2^L)=(List.range n).map λ_=>(2:Int)^L - 1:=by
   unfold wU zs;rw[Wj];exact Es λ_ _=>by show(0:Int)+2^L - 1=_;lia
  rw[e];exact lI (zM (z _ 0 J)<|zM (z _ _ J) rfl)<|Qt rfl
 unfold jS tG;dsimp only[List.set];rw[zMp (x:=.lst<|yA<|P lo hi) (y:=.int 0) (vN<|(zLJ J J ((bY hd).trans hst) J J).trans<|hp lo hi h1 h2) rfl,hcl];rfl
def zI2 (hx:0<=x):Builtin.bitAnd x 1=0\/Builtin.bitAnd x 1=1:=by
 rw[PyProof.Rows.bitAnd_pp hx je]
 grind
def mU (c k p:Int)(h0:0<=k)(h1:k<=1000)(p0:1000000<=p)(p1:p<=2000000):∃v,0<=v/\xK [.int c,.int k,.int p]=some (.int v):=by
 have m1:zXW 31 k=true:=eZ je je;have m2:zXW (31*k) k=true:=eZ jc jc;have m3:zXW (c % p+12345+31*k*k+k) 48271=true:=zTf je je;have d0:decide (0 < p)=true:=Qc jc;have hr:=Ts ((c % p+12345+31*k*k+k)*48271) (show p≠0 by lia);have hr':=Rb ((c % p+12345+31*k*k+k)*48271) (show 0 < p by lia);generalize hq:_*_ % p=q at hr hr';have m4:zXW q q=true:=eZ jc jc;refine⟨q*q % 998244353 / 3,jc,(yG (d:=.int q) ?_ ?_)⟩
 .rw[<-hq];exact zJ (zJ (zJ (zJ (zJ (zJ J J d0) J J) (zJ (zJ J J m1) J m2) J) J J) J m3) J d0
 .unfold zYj xQ;rw[show wM _ _ _=some _ from zJ (zJ (zJ J J m4) J J) rfl rfl];rfl
def zTP (ns:ki)(k:Nat):∃c:Int,uA [.lst<|ns.map D.int,.int (k:Nat)]=some (.int c):=by
 have hl:(ns.map D.int).length=ns.length:=je;have t1:eB2 gLt eV1 (uV eV0) [.fz<|.lst<|ns.map D.int,.fz<|.int<|k]=some (decide ((k:Int) < (ns.length))):=by rw[<-hl];rfl
 by_cases h:(k:Int) < (ns.length)
 .refine⟨ns.getD k 0,?_⟩;show(rD [.fz _,.fz _]).bind vR=_;unfold rD;rw[zZu (by
   unfold sIf;rw[t1,Qc h];show((atI _ _)).map _=_;rw[zX8,mV ns _ 0 jc h];rfl)]
  rfl
 .refine⟨0,?_⟩;show(rD [.fz _,.fz _]).bind vR=_;exact zVM (!8) J
theorem zZw {α β:Type}(f:α->β):∀(l:List α) (i:Nat),(l.map f).eraseIdx i=(l.eraseIdx i).map f
 | [],_=>rfl
 | a::r,0=>rfl
 | a::r,i+1=>by rw[Qx,Uv,Uv,Qx,zZw f r i]
def sj2:∀l∈[[(0:Int),1],[1,0]],∀f∈[(0:Int),1],∀g∈[(0:Int),1],sjB 2 [(l.getD 0 0,f),(l.getD 1 0,g)]=true:=ja
def sj3:∀l∈[[(0:Int),1,2],[0,2,1],[1,0,2],[1,2,0],[2,0,1],[2,1,0]],∀f∈[(0:Int),1],∀g∈[(0:Int),1],∀h∈[(0:Int),1],sjB 3 [(l.getD 0 0,f),(l.getD 1 0,g),(l.getD 2 0,h)]=true:=ja
def zZ8 (h:x=0\/x=1):x∈[(0:Int),1]:=by simp_all
def zHL (q:Int)(hq:0<=q)(hn:n=2\/n=3):∃t,(Wt n t/\Sj n t)/\iK [.int q,.int (n:Nat)]=some (zVx t):=by
 have hb:=λk:Nat=>zI2<|Int.ediv_nonneg (Int.ediv_nonneg hq (by decide:(0:Int)<=6))<|Ik<|rO k;have a2:∃l,atD (.lst [yP [0,1],yP [1,0]]) (.int<|q % 2)=some (yP l)/\l.length=2/\(∀x∈l,0<=x/\x < 2)/\l∈[[(0:Int),1],[1,0]]:=by rcases bit q with h | h<;>rw[h]<;>exact⟨_,J,J,jb,jb⟩
 obtain⟨l,e2,l2,w2,m2⟩:=a2;obtain⟨a,b,rfl⟩:=zYe l2;have go:∀r,(oH [.fz<|.int q,.fz<|.int (n:Nat),.fz<|yP [a,b]]).bind vR=r->iK [.int q,.int (n:Nat)]=r:=λr h=>by exact yG ((wJ (x:=.lst [yP [0,1],yP [1,0]]) (y:=.int<|q % 2) J (!14)).trans e2) h
 rcases hn with rfl | rfl
 .refine⟨[(a,Builtin.bitAnd (q / 6 / 2^0) 1),(b,Builtin.bitAnd (q / 6 / 2^1) 1)],⟨⟨rfl,λp hp=>?_⟩,zNW (.inl J)<|sj2 _ m2 _ (zZ8<|hb 0) _<|zZ8<|hb 1⟩,go _<|zVM rfl rfl⟩;simp only[Qj,Ry,Uz] at hp;rcases hp with rfl | rfl
  .exact⟨w2 a je,hb 0⟩
  .exact⟨w2 b je,hb 1⟩
 .have a3:∃l,atD (.lst [yP [0,1,2],yP [0,2,1],yP [1,0,2],yP [1,2,0],yP [2,0,1],yP [2,1,0]]) (.int<|q % 6)=some (yP l)/\l.length=3/\(∀x∈l,0<=x/\x < 3)/\l∈[[(0:Int),1,2],[0,2,1],[1,0,2],[1,2,0],[2,0,1],[2,1,0]]:=by
   rcases(show q % 6=0\/q % 6=1\/q % 6=2\/q % 6=3\/q % 6=4\/q % 6=5 by lia) with h | h | h | h | h | h<;>rw[h]<;>exact⟨_,J,J,jb,jb⟩
  obtain⟨l,e3,l3,w3,m3⟩:=a3;obtain⟨a',b',c',rfl⟩:=zXY l3;refine⟨[(a',Builtin.bitAnd (q / 6 / 2^0) 1),(b',Builtin.bitAnd (q / 6 / 2^1) 1),(c',Builtin.bitAnd (q / 6 / 2^2) 1)],⟨⟨J,λp hp=>?_⟩,zNW (.inr J)<|sj3 _ m3 _ (zZ8<|hb 0) _ (zZ8<|hb 1) _<|zZ8<|hb 2⟩,go _ ?_⟩
  .simp only[Qj,Ry,Uz] at hp;rcases hp with rfl | rfl | rfl
   .exact⟨w3 a' je,hb 0⟩
   .exact⟨w3 b' je,hb 1⟩
   .exact⟨w3 c' je,hb 2⟩
  .unfold oH;refine yM (O':=[.fz<|.int q,.fz<|.int 3,.fz<|yP [a',b',c']]) ((jR (b:=true) J).trans ?_) J;unfold yJ;rw[(wJ (x:=.lst [yP [0,1,2],yP [0,2,1],yP [1,0,2],yP [1,2,0],yP [2,0,1],yP [2,1,0]]) (y:=.int _) J (!14)).trans e3];rfl
def zSm (n:Nat):List Pt:=(if n=2 then [([0,0],[(1,0),(0,0)]),([0,1],[(0,0),(1,0)]),([1,1],[(0,0),(1,0)]),([1,0],[(1,1),(0,1)])] else [([0,0,0],[(1,0),(0,0),(2,0)]),([0,1,0],[(1,0),(2,0),(0,0)]),([0,1,1],[(0,0),(1,0),(2,0)]),([0,0,1],[(1,1),(2,1),(0,0)]),([1,0,1],[(1,0),(2,1),(0,1)]),([1,1,1],[(0,0),(1,0),(2,0)]),([1,1,0],[(1,1),(2,0),(0,1)]),([1,0,0],[(1,1),(0,1),(2,0)])]).map λx=>⟨x.1,x.2,false⟩
def zLM (hn:n=2\/n=3):PtsOk n<|zSm n:=by
 refine⟨by rcases hn with rfl | rfl<;>rfl,?_,λp hp=>zNW hn<|Rx.mp (show((zSm n).all λp=>sjB n p.t)=true by rcases hn with rfl | rfl<;>decide +kernel) p hp,λc hc=>?_⟩
 .unfold Wc Wt;rcases hn with rfl | rfl<;>decide +kernel
 .obtain⟨p,h1,h2⟩:=Um.mp<|Rx.mp (show((sS n).all λc=>(zSm n).any λp=>decide (p.c=c))=true by rcases hn with rfl | rfl<;>decide +kernel) c<|zPl hn hc;exact⟨p,h1,Eh h2⟩
def zLl {l:List α}{x y:α}(h:x∈l)(hi:l[i]?=some y):x=y\/x∈l.eraseIdx i:=by
 obtain⟨k,hk⟩:=List.mem_iff_getElem?.mp h
 by_cases e:k=i
 .simp_all
 .exact .inr (List.mem_eraseIdx_iff_getElem?.mpr ⟨k,e,hk⟩)
def zTE (hn:n=2\/n=3)(c:Int):∃y4,vQ (iR<|zWo jq eV1) (gN 4) fF [.fz<|.int c,.fz<|.int (n:Nat),.no,.ow [],.no,.no,.no,.no,.no]=some (.nx [.fz<|.int c,.fz<|.int (n:Nat),.no,.ow<|(sS n).map yP,y4,.no,.no,.no,.no]):=by
 rcases hn with rfl | rfl
 .exact⟨.fz<|.int 3,jf⟩
 .exact⟨.fz<|.int 7,jf⟩
def zQe (hn:n=2\/n=3)(c:Int)(x2 x4:B)(left:List ki)(j7:List Pt)(k:Int)(hk0:0<=k)(hk:k<=8)(x7 x8:B)(h0:0 < left.length)(hl:left.length<=8)(ha:j7.length<=8):∃(i:Nat) (cc:ki) (t:Tn) (b:Bool) (y7 y8:B),i < left.length/\left[i]?=some cc/\(Wt n t/\Sj n t) /\ tV [.fz<|.int c,.fz<|.int (n:Nat),x2,.ow<|left.map yP,x4,.ow<|j7.map fX,.fz<|.int k,x7,x8]=some (.nx [.fz<|.int c,.fz<|.int (n:Nat),x2,.ow<|(left.eraseIdx i).map yP,x4,.ow<|(j7++[(⟨cc,t,b⟩:Pt)]).map fX,.fz<|.int k,y7,y8]):=by
 obtain⟨v,hv,ev⟩:=mU c k 1000033 hk0 jc jb jb;obtain⟨t,htm,et⟩:=zHL (v / 8) jc hn;have hi0:0<=v % (left.length:Int):=Ts _ jc;have hi1:v % (left.length:Int) < left.length:=Rb _ jc;have hlt:(v % (left.length:Int)).toNat < left.length:=jc;have hg:=Ql hlt;generalize left[(v % (left.length:Int)).toNat]'hlt=cc at hg;refine⟨_,cc,t,decide (v / 512 % 2=1),.fz<|.int v,.fz<|yP cc,hlt,hg,htm,?_⟩;unfold tV;rw[bU<|(vO J J J).trans ev];unfold mR;rw[wQ (O':=[.fz (.int c),.fz (.int (n:Nat)),x2,.ow ((left.eraseIdx (v % (left.length:Int)).toNat).map yP),x4,.ow _,.fz _,.fz _,.fz _]) (by
  unfold zFu;have e2:zSc 3 [.fz<|.int c,.fz<|.int<|n,x2,.ow<|left.map yP,x4,.ow<|j7.map fX,.fz<|.int k,.fz<|.int v,x8]=some (.int<|left.length):=by show some _=_;rw[Qy]
  dsimp only[List.set];rw[show xO _ _ _=some (.int _) from zJ rfl e2<|Qc jc];show(if (left.map yP).length<=lim then(ixN (left.map yP).length _).bind λq=>(_[q]?).map λx=>Out.nx (([.fz _,.fz _,x2,.ow _,x4,.ow _,.fz _,.fz _,x8]:kj).set 8 _) else none)=_;rw[Qy,Qh (by show left.length<=100000;lia)];unfold ixN;rw[Qh hi0,Qh hi1,Qr,Eu,hg,zZw];rfl)]
 have hb:sE (eB2 gEq (xO (wM eV7<|eC<|.int 512) jr) jq) [.fz<|.int c,.fz<|.int<|n,x2,.ow<|(left.eraseIdx (v % (left.length)).toNat).map yP,x4,.ow<|j7.map fX,.fz<|.int k,.fz<|.int v,.fz<|yP cc]=some (.bl (decide (v / 512 % 2=1))):=by rfl
 refine(zSX (f:=nE AW [Aj,AK,AL] 3 zXE _) (zRL (zM rfl<|zM ((vM (!14) J).trans et)<|zM hb rfl) J J J) J (by rw[Qy];lia)).trans ?_;rw[Wz];rfl
def zK0 (hn:n=2\/n=3)(c:Int):∃ps,PtsOk n ps/\(kG [.fz<|.int c,.fz<|.int (n:Nat),.no,.no,.no,.no,.no,.no,.no]).bind vR=some (yU "loose" n false ps):=by
 obtain⟨y4,e1⟩:=zTE hn c;have hcl:(sS n).length=2^n:=by simp[sS]
 have hcw:=zJ5 hn;have h8:2^n<=8:=by rcases hn with rfl | rfl<;>decide
 obtain⟨O',e2,left,j7,y6,y7,y8,q1,q2,q3,q4,q5,rfl⟩:=cI (g:=gN 6) (body:=tV) (P:=λi O=>∃(left:List ki) (j7:List Pt) (y6 y7 y8:B),left.length+i=2^n/\j7.length=i/\(∀c∈left,Wc n c)/\(∀p∈j7,(Wc n p.c/\Wt n p.t)/\Sj n p.t)/\(∀c∈sS n,c∈left\/∃p∈j7,p.c=c)/\O=[.fz<|.int c,.fz<|.int (n:Nat),.no,.ow<|left.map yP,y4,.ow<|j7.map fX,y6,y7,y8]) (tS 0<|2^n) 0 (λi d hd O hO=>by
   obtain⟨hi,rfl⟩:=fZ hd;obtain⟨left,j7,y6,y7,y8,q1,q2,q3,q4,q5,rfl⟩:=hO;obtain⟨k,cc,t,b,z7,z8,hk,hm,⟨wt,sj⟩,e⟩:=zQe hn c .no y4 left j7 (0+(i)) jc jc y7 y8 jc jc jc;refine⟨_,_,J,e,_,_,_,_,_,by rw[List.length_eraseIdx,Qh hk];lia,by rw[Qo,q2];rfl,λc hc=>q3 c<|List.mem_of_mem_eraseIdx hc,λp hp=>?_,λc hc=>?_,J⟩
   .rcases v6 hp with z | z
    .exact q4 p z
    .rw[Qb.mp z];exact⟨⟨q3 cc<|El hm,wt⟩,sj⟩
   .rcases q5 c hc with z | ⟨p,hp,e⟩
    .rcases zLl z hm with z | z
     .simp_all
     .exact .inl z
    .exact .inr ⟨p,Yz _ hp,e⟩) [.fz _,.fz<|.int _,.no,.ow _,y4,.ow<|([]).map fX,.no,.no,.no] ⟨sS n,[],_,_,_,jc,J,hcw,(λp hp=>by cases hp),λc hc=>.inl hc,J⟩
 rw[pI,Yk] at q1 q2;refine⟨j7,⟨q2,λp hp=>(q4 p hp).1,λp hp=>(q4 p hp).2,λc hc=>?_⟩,?_⟩
 .rcases q5 c (zPl hn hc) with z | z
  .simp_all
  .exact z
 refine yM (O':=[.fz _,.fz _,.no,.ow [],.no,.no,.no,.no,.no]) J ?_;refine yM e1 ?_;refine yM (O':=[.fz _,.fz _,.no,.ow _,y4,.ow _,.no,.no,.no]) J ?_;refine yM (O':=[.fz<|.int c,.fz<|.int<|n,.no,.ow<|left.map yP,y4,.ow<|j7.map fX,y6,y7,y8]) ?_ ?_
 .unfold vQ;rw[show iR (zWo _ _) [.fz _,.fz _,.no,.ow _,y4,.ow _,.no,.no,.no]=some (tS 0<|2^n) by rcases hn with rfl | rfl<;>rfl];exact e2
 .rfl
def zR3 (hn:n=2\/n=3)(c:Int):∃nm j ps,PtsOk n ps/\lS [.int c,.int (n:Nat)]=some (yU nm n j ps):=by
 obtain⟨v,hv,ev⟩:=mU c 40 1000003 jb jb jb jb;have t:eB2 gEq (xO (yZ 3 xK<|zY eV0<|zY (eC<|.int 40)<|zY (eC<|.int 1000003) zS) jt) jp [.fz<|.int c,.fz<|.int (n:Nat),.no,.no,.no,.no,.no,.no,.no]=some (decide (v % 3=0)):=aL<|zJ ((vO J J J).trans ev) rfl rfl;show ∃nm j ps,PtsOk n ps/\(qG [.fz<|.int c,.fz<|.int (n:Nat),.no,.no,.no,.no,.no,.no,.no]).bind vR=some (yU nm n j ps);unfold qG
 by_cases h:v % 3=0
 .refine⟨"base",true,zSm n,zLM hn,?_⟩;rw[zZu (d:=yU "base" n true (zSm n)) ((jR t).trans (by
   rw[Qc h,Qh rfl];rcases hn with rfl | rfl<;>kernel_rfl))]
  rfl
 .obtain⟨ps,ok,e⟩:=zK0 hn c;refine⟨"loose",false,ps,ok,?_⟩;rw[wQ (O':=[.fz<|.int c,.fz<|.int (n:Nat),.no,.no,.no,.no,.no,.no,.no])<|(jR t).trans (by rw[Qn h];rfl)];exact e
abbrev stN:kh:=[Ae,AM]
def soD (n:Nat)(r:Rt):D:=.obj Ad stN [.int (n:Int),rtD r]
def zDN (n:Nat)(r:Rt)(O:kj):bX 0 Ad AM (.mu none (soD n r)::O)=some (rtD r)/\bX 0 Ad Ae (.mu none (soD n r)::O)=some (.int (n:Int)):=by
 refine⟨?_,?_⟩
 all_goals
  refine(Qh rfl:(if (Ad:Str)=Ad then _ else none)=_).trans ?_;kernel_rfl
def zJq {r:Rt}(h:fa O=some (soD n r)):yK Ad AM fa O=some (rtD r):=by unfold yK;rw[h,Qr];refine(Qh rfl:(if (Ad:Str)=Ad then _ else none)=_).trans ?_;kernel_rfl
theorem zRB (n:Nat)(a b:D):setF AM b stN [.int (n:Int),a]=[.int (n:Int),b]:=jf
section
variable (hn:4<=n) (h12:n<=50)
include hn h12
def zNC {xs:!7}(H:RtOk n h xs)(e:Et)(hk:∀a∈zG h xs,kE a≠kE e)(hl:(zG h xs).length < 32000):∃h' xs',RtOk n h' xs'/\(zG h' xs').Perm (e::zG h xs)/\oE stN [.int (n:Int),rtD ⟨h,xs⟩] [dE e]=some [.int (n:Int),rtD ⟨h',xs'⟩]:=by
 have hd:=H.deep hn jc;obtain⟨h',xs',e1,H',pm⟩:=H.put hn e hk;obtain⟨m1,m2⟩:=zDN n ⟨h,xs⟩ [.fz<|dE e];refine⟨h',xs',H',pm,?_⟩;show fnM 2 Ad stN AM _ _ [.int (n:Int),rtD ⟨h,xs⟩] [dE e]=_;unfold fnM;show(pO [.mu none<|soD n ⟨h,xs⟩,.fz<|dE e]).bind _=_;have ht:pO [.mu none<|soD n ⟨h,xs⟩,.fz<|dE e]=some false:=by unfold pO eB2;rw[vM m1 rfl,show tH [rtD ⟨h,xs⟩,dE e]=_ from zOg hn jc e h xs H.way jc,H.like_none hn hk];rfl
 rw[ht,Qr,Qh ⟨rfl,ja,jb⟩];obtain⟨p1,p2⟩:=zOH hn e h xs H.way;have he:lU [.mu none<|soD n ⟨h,xs⟩,.fz<|dE e]=some (rtD ⟨h',xs'⟩):=by refine(bY<|(vO m1 J m2).trans<|dP hn jc e h xs 16 H.way jc).trans ?_;rw[zON _ jc jc<|p2 (by rcases H.two with z | z;exact .inr z;exact .inl jc),e1]
 show(lU [.mu none<|soD n ⟨h,xs⟩,.fz<|dE e]).map _=_;rw[he];exact Wi some<|zRB n _ _
def zPp {xs:!7}(H:RtOk n h xs)(e:Et)(he:e∈zG h xs)(hl:(zG h xs).length < 32000):∃h' xs',RtOk n h' xs'/\zG h' xs'=(zG h xs).filter (λa => !vL a e)/\qI stN [.int (n:Int),rtD ⟨h,xs⟩] [dE e]=some [.int (n:Int),rtD ⟨h',xs'⟩]:=by
 have hd:=H.deep hn jc;obtain⟨h',xs',e1,H',pm⟩:=H.take hn e;obtain⟨m1,m2⟩:=zDN n ⟨h,xs⟩ [.fz<|dE e];refine⟨h',xs',H',pm,?_⟩;show fnM 2 Ad stN AM _ _ [.int (n:Int),rtD ⟨h,xs⟩] [dE e]=_;unfold fnM;show(rB [.mu none<|soD n ⟨h,xs⟩,.fz<|dE e]).bind _=_;have ht:rB [.mu none<|soD n ⟨h,xs⟩,.fz<|dE e]=some false:=by unfold rB eB2;rw[vM m1 rfl,show tH [rtD ⟨h,xs⟩,dE e]=_ from zOg hn jc e h xs H.way jc,H.like_some hn he rfl];show zXe (dE e) (dE e)=_;rw[zEX,qU.mpr rfl];rfl
 rw[ht,Qr,Qh ⟨rfl,ja,jb⟩];have hE:oA [.mu none<|soD n ⟨h,xs⟩,.fz<|dE e]=some (rtD ⟨h',xs'⟩):=by
  refine(bY<|(vO m1 J m2).trans<|zRV hn jc e h xs 16 H jc).trans ?_;obtain⟨_,i2⟩:=zZC hn e h xs H.len H.two H.full H.srt;rw[zON _ jc (by rcases i2 with⟨_,z,_⟩ | ⟨y,z,_⟩<;>rw[z]<;>simp) (by
   rcases i2 with⟨_,z,_⟩ | ⟨y,z,_,_,y3,_⟩
   .rw[z];exactλy hy=>nomatch hy
   .rw[z];intro y hy;rw[Qb] at hy;subst hy;exact y3),e1]
 show(oA [.mu none<|soD n ⟨h,xs⟩,.fz<|dE e]).map _=_;rw[hE];exact Wi some<|zRB n _ _
end
theorem zUt (val:Nat->Int):∀k i,i<=k->val i<=tD val k
 | 0,i,h=>by cases (Nat.le_zero.mp h);exact Yq _
 | k+1,i,h=>by
  unfold tD
  by_cases e:i=k+1
  .subst e;split<;>lia
  .have:=zUt val k i jc;split<;>lia
def zMb (h:x∈l):x<=aA l:=by obtain⟨i,hi,rfl⟩:=List.getElem_of_mem h;have:=zUt (λi=>l.getD i 0) (l.length - 1) i jc;simpa [hi,aA] using this
theorem zOB:∀(h:Nat) (x:It h),∀e∈pL h x,e.l<=most h x
 | 0,x,e,he=>by have he:e∈[x]:=he;rw[Qb] at he;rw[he];exact Yq _
 | h+1,xs,e,he=>by obtain⟨y,hy,he⟩:=Wm.mp he;exact Ii (zOB h y e he)<|zMb<|List.mem_map_of_mem hy
def iA (a b:Int)(e:Et):Bool:=decide (e.f<=b)&&decide (a<=e.l)
def uJ (a b:Int):(h:Nat)->List (It h)->qm
 | 0,xs=>List.filter (iA a b) xs
 | h+1,xs=>List.flatMap (λx=>if (decide ((wW (h+1) x).f<=b)&&decide (a<=most (h+1) x))=true then uJ a b h x else []) xs
def zLF {x y:Et}(h:xH (kE y) (kE x)=false):x.f<=y.f:=by
 by_cases q:x.f<=y.f
 .exact q
 .have:xH (kE y) (kE x)=true:=jY.mpr<|.inl (by show y.f < x.f;lia);rw[h] at this;cases this
theorem zSe {n:Nat}(hn:2<=n)(a b:Int):∀(h:Nat) (xs:!7),(∀x∈xs,tQ n h x)->Srt (zG h xs)->uJ a b h xs=(zG h xs).filter (iA a b)
 | 0,xs,_,_=>by rw[uS];rfl
 | h+1,xs,hf,hs=>by
  have key:∀ys:List<|It<|h+1,(∀x∈ys,x∈xs)->ys.flatMap (λx=>if (decide ((wW (h+1) x).f<=b)&&decide (a<=most (h+1) x))=true then uJ a b h x else [])=(zG (h+1) ys).filter (iA a b):=by
   intro ys;induction ys with
   | nil=>intro _;rfl
   | cons x r ih =>
    intro hy;have hx:=hy x Qf;have sx:Srt<|zG h x:=hs.sublist<|rH (f:=pL<|h+1) hx;rw[Em,ih λz hz=>hy z<|Qp _ hz,vX,Ua];congr 1;split
    .exact zSe hn a b h x (wK<|hf x hx).2.2 sx
    .rename_i q;symm;refine Ys.mpr λe he=>?_;obtain⟨t,et⟩:=zYO hn (h+1) x<|hf x hx;have sx:Srt<|pL (h+1) x:=sx;have low:(wW (h+1) x).f<=e.f:=by
      rw[et] at he sx;rcases v4 he with z | z
      .rw[z];exact Yq _
      .exact zLF (zO0<|(Rr.mp sx).1 e z)
     have up:=zOB (h+1) x e he;unfold iA;simp only[Qm,Wo] at q ⊢;lia
  exact key xs λ_ h=>h
def zQX {f:Sf}(h:f O=some (.nx O'))(k:(g O').bind mM=r):(zF f g O).bind mM=r:=by rw[wQ h];exact k
def zOt {r:kd}(h:t O=some true)(k:e O=some r):(zF (sIf t (tG e) vU) g O).bind mM=some r:=by unfold zF;rw[jR h];unfold tG;rw[k];rfl
def zXP:(tG e O).bind mM=e O:=by unfold tG;cases e O<;>rfl
def zJz {x:D}(h1:fa O=some x):sU 1 f (zY fa zS) O=f [x]:=by unfold sU;rw[zM h1 (rfl),Qr,Qh<|show [x].length=1 from rfl]
def zGq {u:Tf}{a b:Bool}(h1:t O=some a)(h2:u O=some b):sZ t u O=some (a&&b):=by unfold sZ;rw[h1];cases a<;>simp[h2]
def zOC {f g:Ef}(h:f O=some (.int x))(h2:g O=some (.int y)):eB2 gLe f g O=some (decide (x<=y)):=by unfold eB2;rw[h,h2];rfl
def zTF (es:qm)(a b:Int)(hl:es.length<=100000)(hs:src O=some (.lst<|es.map dE))(hj:upB 1 js O=[.no,.fz<|.int b,.fz<|.int a]):yH (iL src) 1 js (gN 0) (sZ (eB2 gLe (eIx eV0 jp) eV1)<|eB2 gLe eV2<|eIx eV0 jq) eV0 O=some ((es.filter<|iA a b).map dE):=by unfold yH;rw[zZ2 hs,Qr,uL (!8),hj];have:=cS (t:=sZ (eB2 gLe (eIx eV0 jp) eV1)<|eB2 gLe eV2<|eIx eV0 jq) (f:=dE) (p:=iA a b) (rest:=[.fz _,.fz _]) es .no [] λe _=>zGq (zOC J J)<|zOC rfl rfl;exact this
theorem zUA {h:Nat}{a b:Int}{pg:B}{self:kd->ka}:∀(xs:List<|It<|h+1) (j7:qm) (x4 x5:B),(∀x∈xs,0 < List.length x/\self [pgD h x,.int a,.int b]=some ((uJ a b h x).map dE))->j7.length+(xs.flatMap λx=>uJ a b h x).length<=100000 -> ∃y4 y5,uC (gT<|zB (gN 4)<|zB (gN 5) xC) (uI self) (eF (xs.map λx=>dE<|wW (h+1) x)<|xs.map<|iD<|h+1) [pg,.fz<|.int a,.fz<|.int b,.ow<|j7.map dE,x4,x5]=some (.nx [pg,.fz<|.int a,.fz<|.int b,.ow<|(j7++uJ a b (h+1) xs).map dE,y4,y5])
 | [],j7,x4,x5,_,_=>⟨x4,x5,by simp[uC,eF,uJ]⟩
 | x::r,j7,x4,x5,hx,hl=>by
  obtain⟨hx0,hx1⟩:=hx x Qf;rw[Em,Qo] at hl;have ht:sZ (eB2 gLe (eIx eV4 jp) eV2) (eB2 gLe eV1<|yK A3 AG eV5) [pg,.fz<|.int a,.fz<|.int b,.ow<|j7.map dE,.fz<|dE<|wW (h+1) x,.fz<|iD (h+1) x]=some (decide ((wW (h+1) x).f<=b)&&decide (a<=most (h+1) x)) :=
   zGq (zOC J J) (zOC rfl<|by rw[zRT (h:=h) (xs:=x) rfl,zQ9 hx0])
  have step:∃acc',acc'.length<=j7.length+(uJ a b h x).length/\j7++uJ a b (h+1) (x::r)=acc'++uJ a b (h+1) r/\uI self [pg,.fz<|.int a,.fz<|.int b,.ow<|j7.map dE,.fz<|dE<|wW (h+1) x,.fz<|iD (h+1) x]=some (.nx [pg,.fz<|.int a,.fz<|.int b,.ow<|acc'.map dE,.fz<|dE<|wW (h+1) x,.fz<|iD (h+1) x]):=by
   cases hc:decide ((wW (h+1) x).f<=b)&&decide (a<=most (h+1) x) with
   | false =>rw[hc] at ht;refine⟨j7,jc,?_,(jR ht).trans J⟩;show j7++List.flatMap _ (x::r)=_;rw[Em,hc];rfl
   | true =>
    rw[hc] at ht;refine⟨j7++uJ a b h x,by rw[Qo];lia,?_,(jR ht).trans ?_⟩
    .show j7++List.flatMap _ (x::r)=_;rw[Em,hc,Ra];rfl
    .rw[Qh rfl];unfold zVj;have hq:sU 3 self (zY eV5<|zY eV1<|zY eV2 zS) [pg,.fz<|.int a,.fz<|.int b,.ow<|j7.map dE,.fz<|dE<|wW (h+1) x,.fz<|iD (h+1) x]=some ((uJ a b h x).map dE):=(zPx J J J).trans hx1;rw[hq];show(if (j7.map dE).length+((uJ a b h x).map dE).length<=lim then some (Out.nx [pg,.fz<|.int a,.fz<|.int b,.ow<|j7.map dE++(uJ a b h x).map dE,.fz<|dE<|wW (h+1) x,.fz<|iD (h+1) x]) else none)=_;rw[Qh (by rw[Qy,Qy];show _<=100000;lia),Wz]
  obtain⟨acc',l1,e1,s1⟩:=step;obtain⟨y4,y5,e2⟩:=zUA (pg:=pg) (self:=self) r acc' (.fz<|dE<|wW (h+1) x) (.fz<|iD (h+1) x) (λz hz=>hx z<|Qp _ hz) jc;refine⟨y4,y5,?_⟩;show uC _ _ (D.tup [dE<|wW _ x,iD _ x]::eF _ _) _=_;rw[wL (ρ1:=[pg,.fz _,.fz _,.ow _,.fz<|dE<|wW _ x,.fz<|iD _ x]) rfl s1,e2,e1]
theorem zXx (a b:Int):∀(h:Nat) (xs:!7),(uJ a b h xs).length<=(zG h xs).length
 | 0,xs=>by rw[uS];exact Eg _ _
 | h+1,xs=>by
  show(List.flatMap _ xs).length<=(List.flatMap _ xs).length;induction xs with
  | nil=>exact Qg _
  | cons x r ih =>
   have:=zXx a b h x;have:(zG h x).length=(pL _ x).length:=rfl
   grind
theorem zYl {n:Nat}(hn:4<=n)(h12:n<=300)(a b:Int):∀(h:Nat) (xs:!7) (k:Nat),Way n h xs->(zG h xs).length<=50000->h < k->wF k [pgD h xs,.int a,.int b]=some ((uJ a b h xs).map dE)
 | 0,xs,k+1,H,_,_=>by
  have hl:=H.1;refine zOt ?_ ?_
  .rfl
  .exact zTF xs a b (Ww hl jc) (w9 (h:=0) (xs:=xs) J) J
 | h+1,xs,k+1,H,hl,hk=>by
  show(tZ (wF k) [.fz<|pgD (h+1) xs,.fz<|.int a,.fz<|.int b,.no,.no,.no]).bind mM=_;refine zQX (O':=[.fz<|pgD (h+1) xs,.fz<|.int a,.fz<|.int b,.no,.no,.no]) ((jR (b:=false) ?_).trans J) ?_
  .rfl
  refine zQX (O':=[.fz<|pgD _ xs,.fz _,.fz _,.ow [],.no,.no]) J ?_;have hsub:∀ys:List<|It<|h+1,(ys.flatMap λx=>uJ a b h x).length<=(zG _ ys).length:=by
   intro ys;induction ys with
   | nil=>exact Qg _
   | cons x r ih =>rw[Em,vX,Qo,Qo];have:=zXx a b h x;have:(zG h x).length=(pL _ x).length:=rfl;lia
  have hs:=hsub xs;obtain⟨y4,y5,e⟩:=zUA (pg:=.fz<|pgD _ xs) xs [] .no .no (λx hx=>by obtain⟨c1,c2,c3⟩:=wK<|H.2.2 x hx;have hxl:(zG h x).length<=(zG _ xs).length:=(rH (f:=pL _) hx).length_le;exact⟨jc,zYl hn h12 a b h x k ⟨c2,.inr jc,c3⟩ jc jc⟩) (by simp only[Pg];lia)
  refine zQX (O':=[.fz<|pgD _ xs,.fz<|.int a,.fz<|.int b,.ow<|(uJ a b _ xs).map dE,y4,y5]) ?_ J;exact e
def zXf (hn:4<=n)(h12:n<=300){xs:!7}(H:RtOk n h xs)(hl:(zG h xs).length < 32000)(a b:Int):qM [soD n ⟨h,xs⟩,.int a,.int b]=some (((zG h xs).filter<|iA a b).map dE):=by have hd:=H.deep hn jc;show(sA [.fz _,.fz _,.fz _]).bind mM=_;unfold sA;rw[zXP,<-zSe jc a b h xs H.full H.srt];exact(zPx (zJq (r:=⟨h,xs⟩) J) J J).trans (zYl hn h12 a b h xs 16 H.way jc jc)
abbrev Bx:=ki×ki
def bxD (b:Bx):D:=bx b.1 b.2
abbrev Kb:=List<|Str×Bx
end My
variable{c:Str}{g:Lf}{l:kh}{f:Ef}{r:My.Rt}{m:List<|Str×Str}{kt kb:My.Kb}
namespace My
def ksK (kb:Kb):qj:=kb.map λp=>.inr p.1
def kbD (kb:Kb):D:=.dct (ksK kb)<|kb.map λp=>bxD p.2
theorem cU (z:Str):∀kb:Kb,bB (ksK kb) (kb.map λp=>bxD p.2) (.inr z)=(kb.lookup z).map bxD
 | []=>rfl
 | (y,b)::r=>by
  have ih:=cU z r;unfold bB ksK at ih ⊢;rw[Qx,Qx,Yp,Ym,Wp]
  by_cases e:y=z
  .simp_all
  .have e':¬(Sum.inr y:Key)=Sum.inr z:=λq=>e<|Sum.inr.inj q;have e2:(z==y)=false:=by simpa using λq:z=y=>e q.symm
   simp only[e',decide_false,e2];exact ih
def yv (cv:D)(L n:Nat)(r:Rt)(kb:Kb):D:=ydD cv (!16) (soD n r)<|kbD kb
def gH (h:fa O=some (!22)):yK A1 Am fa O=some cv/\yK A1 Af fa O=some (!16)/\yK A1 Ct fa O=some (soD n r)/\yK A1 BX fa O=some (kbD kb):=by
 refine⟨?_,?_,?_,?_⟩
 all_goals
  unfold yK;rw[h,Qr];refine(Qh rfl:(if (A1:Str)=A1 then _ else none)=_).trans ?_;kernel_rfl
def zS0 {y:Bool}(h1:fk O=some (.str z))(h2:fd O=some (kbD kb)):cA y fk fd O=some ((kb.lookup z).isSome==y):=by unfold cA;rw[h1,h2];show some _=_;rw[cU,Yg]
def zTT (h1:fk O=some (.str z))(h2:fd O=some (kbD kb)):dQ fd fk O=(kb.lookup z).map bxD:=by unfold dQ;rw[h2,h1];exact cU z kb
def zXN {m:Str}{xs:kd}{k:Nat}{d:jz}(h1:fa O=some (.obj c ns xs))(h2:g O=some ds)(hk:ds.length+1=k)(hm:m∉ns):oO c m k d fa g O=d (.obj c ns xs::ds):=by unfold oO;rw[h1,h2];exact Qh ⟨J,hk,hm⟩
def fH {m:Str}{xs:kd}{k:Nat}{d:kd->ka}(h1:fa O=some (.obj c ns xs))(h2:g O=some ds)(hk:ds.length+1=k)(hm:m∉ns):pG c m k d fa g O=d (.obj c ns xs::ds):=by unfold pG;rw[h1,h2];exact Qh ⟨J,hk,hm⟩
def pV {m:Str}{xs:kd}{k:Nat}{x:kd->kf}(h1:fa O=some (.obj c ns xs))(h2:g O=some ds)(hk:ds.length+1=k)(hm:m∉ns):pX c m k x fa g O=x (.obj c ns xs::ds):=by unfold pX;rw[h1,h2];exact Qh ⟨J,hk,hm⟩
def zHO {e:Ef}{g:Sf}{r:qi}(h:e O=some d)(k:(g O).bind vR=r):(zF (dH e) g O).bind vR=r:=yM (by unfold dH;rw[h];rfl) k
abbrev yv1 (cv:D)(L n:Nat)(r:Rt)(kb:Kb):kd:=[cv,.int (L:Nat),soD n r,kbD kb]
def bC:uP [yv cv L n r kb,.str z]=if (kb.lookup z).isSome then some .non else none:=by show(rF [.fz _,.fz _]).bind vR=_;unfold rF sIf;rw[zS0 rfl (gH J).2.2.2];cases (kb.lookup z).isSome<;>rfl
def zWu (hz:z.length<=1000):sK [yv cv L n r kb,.str z]=if (kb.lookup z).isSome then none else some Au:=by
 show tO [.fz (!22),.fz<|.str z]=_;unfold tO xIf;rw[zS0 rfl (gH J).2.2.2,Qr];cases (kb.lookup z).isSome
 .refine(Qh J).trans ?_;unfold zYL;have:zX2 (qC "no thing ") (zX2 (qS eV1) zPX) [.fz (!22),.fz<|.str z]=true:=by
   show(decide _&&(decide _&&true))=true;rw[Qc hz];decide +kernel
  rw[this];rfl
 .rfl
def zIc:rA [yv cv L n r kb,.str z]=(kb.lookup z).map bxD:=by
 show(qZ [.fz _,.fz _]).bind vR=_;unfold qZ;have e:=(zXN (m:=Az) (k:=2) (fa:=eV0) (g:=!13) (O:=[.fz (!22),.fz<|.str z]) J J J (!6)).trans<|bC;cases h:kb.lookup z with
 | none =>rw[h] at e;unfold zF dH;rw[e];rfl
 | some b =>rw[h] at e;refine zHO e ?_;unfold eM;rw[tE,zTT rfl (gH J).2.2.2,h]
def zHS (hz:z.length<=1000):oJ [yv cv L n r kb,.str z]=if (kb.lookup z).isSome then none else some Au:=by show lA [.fz (!22),.fz _]=_;exact(pV J J J (!6)).trans (zWu hz)
def zOl {b:Bx}:tN [yv cv L n r kb,bxD b]=xE [cv,.int (L:Nat),bxD b]:=by show(mL [.fz _,.fz _]).bind mM=_;unfold mL;rw[zXP];exact zPx (gH J).1 (gH J).2.1 J
def zVe (n L:Nat)(xs:ki):Bool:=decide (xs.length=n)&&xs.all λx=>decide (0<=x)&&decide (x < (2:Int)^L)
def zNO (hL:L<=100)(xs:ki)(hl:xs.length<=100):lD [.int (n:Nat),.int (L:Nat),yP xs]=some (.bl<|zVe n L xs):=by
 have hf:=zOR 1 L jb hL;rw[Nat.one_mul] at hf;unfold zVe;generalize(2:Int)^L=S at hf ⊢;show(kJ [.fz<|.int (n:Nat),.fz (!16),.fz<|.tup<|xs.map _,.no]).bind vR=_;refine yG (d:=.int S) ((vM J J).trans hf) ?_;unfold bR xQ;have e1:sE (eB2 gEq (uV eV2) eV0) [.fz<|.int (n:Nat),.fz (!16),.fz<|.tup<|xs.map D.int,.fz<|.int S]=some (.bl (decide (xs.length=n))):=by show(gEq (.int ((xs.map _).length:Nat))<|.int (n:Nat)).map D.bl=_;rw[Qy];show(some (decide ((_:Int)=n))).map D.bl=_;rw[show decide ((_:Int)=n)=decide _ from Pp.mpr Int.ofNat_inj];rfl
 have e2:zNq (eL<|yH (iT eV2) 1 [3] (gN 0) tOK<|sE<|eB3 gLe gLt jp eV0 eV1) [.fz<|.int<|n,.fz<|.int<|L,.fz<|.tup<|xs.map D.int,.fz<|.int S]=some (.bl<|xs.all λx=>decide (0<=x)&&decide (x < S)):=by
  have e3:yH (iT eV2) 1 [3] (gN 0) tOK (sE<|eB3 gLe gLt jp eV0 eV1) [.fz<|.int<|n,.fz<|.int<|L,.fz<|.tup<|xs.map D.int,.fz<|.int S]=some ((xs.map D.int).map λd=>match d with | .int x=>.bl (decide (0<=x)&&decide (x < S)) | _=>.bl true):=by
   show(okL _).bind (λds=>uB _ tOK _ ds [.no,.fz _] [])=_;rw[uL (by rw[Qy];lia),Qr];rw[zXq (h:=λd=>match d with | .int x=>.bl _ | _=>.bl true)]
   .rfl
   .intro d hd;obtain⟨a,ha,rfl⟩:=v7 hd
    by_cases h1:0<=a
    .simp[sE,eB3,gLe,gLt,eC,eV,zMw,h1]
    .simp[sE,eB3,gLe,gLt,eC,eV,zMw,h1]
  unfold zNq;rw[vN e3,Wj];show(zSv<|xs.map λx=>.bl (decide _&&decide _)).map _=_;rw[zXy λx=>decide _&&decide _];simp
 unfold zSn tB1;dsimp only[List.set];rw[e1];cases decide (_=n) with
 | false=>rfl
 | true=>rw[e2];rfl
def flB (n L:Nat)(b:Bx):Bool:=zVe n L b.1&&zVe n L b.2
def Sm (b:Bx):Prop:=b.1.length<=100/\b.2.length<=100
section
variable (hL:L<=100){b:Bx} (hb:Sm b)
include hL hb
def zZR:jD [bxD b,.int (n:Nat),.int (L:Nat)]=some (.bl<|flB n L b):=by
 show(jG [.fz _,.fz _,.fz _,.no,.no]).bind vR=_;refine yM (O':=[.fz _,.fz _,.fz _,.fz _,.fz _]) J ?_;unfold zZr;rw[tE];unfold zSn tB1;rw[vO rfl rfl rfl,zNO hL b.1 hb.1];unfold flB;cases zVe n L b.1 with
 | false=>rfl
 | true=>rw[vO rfl rfl rfl,zNO hL b.2 hb.2];rfl
def zNA:zYH [bxD b,.int (n:Nat),.int (L:Nat)]=if flB n L b then some .non else none:=by show(dI [.fz<|bxD b,.fz<|.int<|n,.fz<|.int<|L]).bind vR=_;unfold dI sIf tT tB1;rw[vO rfl rfl rfl,zZR hL hb];cases flB n L b<;>rfl
def zMG:zZd [bxD b,.int (n:Nat),.int (L:Nat)]=if flB n L b then none else some At:=by show jC [.fz<|bxD b,.fz<|.int<|n,.fz<|.int<|L]=_;unfold jC xIf tT tB1;rw[vO rfl rfl rfl,zZR hL hb];cases flB n L b<;>rfl
end
section
variable{m:Nat} (hL:L<=100){b:Bx} (hb:Sm b)
include hL hb
def zK8 (h:fa O=some (yv (yU nm n j ps) L m r kb)):yK An Ab (yK A1 Am fa) O=some (.int (n:Nat)):=by have e:=(gH h).1;unfold yK at e ⊢;rw[e,Qr];refine(Qh rfl:(if (An:Str)=An then _ else none)=_).trans ?_;kernel_rfl
def zR6:uY [yv (yU nm n j ps) L m r kb,bxD b]=if flB n L b then some .non else none:=by show(sD [.fz<|yv (yU nm n j ps) L m r kb,.fz<|bxD b]).bind vR=_;unfold sD dH;rw[vO rfl (zK8 hL hb J) (gH J).2.1,zNA hL hb];cases flB n L b<;>rfl
def zYp:uZ [yv (yU nm n j ps) L m r kb,bxD b]=if flB n L b then none else some At:=by show uF [.fz<|yv (yU nm n j ps) L m r kb,.fz<|bxD b]=_;unfold uF zLX;rw[zM rfl<|zM (zK8 hL hb J)<|zM (gH J).2.1 rfl,Qr];exact(Qh J).trans (zMG hL hb)
end
abbrev rOk (n:Nat)(r:Rt):Prop:=RtOk n r.1 r.2
abbrev rE (r:Rt):qm:=zG r.1 r.2
def en (z:Str)(p:Row):Et:=⟨p.1,p.2,z⟩
def qQ (kb:Kb)(z:Str):Kb:=kb.filter λp=>decide (p.1≠z)
def zVv (kb:Kb)(z:Str)(b:Bx):Kb:=kb.map λp=>if p.1=z then(p.1,b) else p
def zZb (kb:Kb)(z:Str)(b:Bx):Kb:=if (kb.lookup z).isSome then zVv kb z b else kb++[(z,b)]
def zLj {y:Str}:((Sum.inr y:Key)=Sum.inr z)↔y=z:=je
theorem zVY (z:Str):∀kb:Kb,bL (ksK kb) (.inr z)=ksK (qQ kb z)/\fJ (ksK kb) (kb.map λp=>bxD p.2) (.inr z)=(qQ kb z).map λp=>bxD p.2
 | []=>⟨J,J⟩
 | _::r=>by
  obtain⟨h1,h2⟩:=zVY z r;unfold bL fJ ksK qQ at *
  grind
theorem zLu (z:Str)(b:Bx):∀kb:Kb,zY2 (ksK kb) (kb.map λp=>bxD p.2) (.inr z) (bxD b)=(zVv kb z b).map λp=>bxD p.2
 | []=>rfl
 | (y,c)::r=>by
  have ih:=zLu z b r;unfold zY2 ksK zVv at *;simp only[Qx,Yp];rw[ih]
  by_cases e:y=z
  .rw[Qh<|zLj.mpr e,Qh e]
  .rw[Qv λq=>e<|zLj.mp q,Qv e]
def zFR (z:Str)(b:Bx)(kb:Kb):ksK (zVv kb z b)=ksK kb:=by unfold ksK zVv;rw[Wj];exact Es λp _=>by show(Sum.inr (if p.1=z then _ else p).1)=_;split<;>rfl
def zQo (z:Str)(b:Bx)(kb:Kb):zS9 (ksK kb) (kb.map λp=>bxD p.2) (.inr z) (bxD b)=kbD (zZb kb z b):=by
 unfold zS9 zZb;rw[cU,Yg];split
 .unfold kbD;rw[zLu,zFR]
 .unfold kbD ksK;simp
theorem aN:∀l:km,aO (yA l)=true
 | []=>rfl
 | p::r=>by show(gG _&&aO (yA r))=true;rw[aN r];rfl
section
variable (hn:4<=n) (h12:n<=50)
include hn h12
def zKG (H:rOk n r)(p:Row)(hk:∀a∈rE r,kE a≠kE (en z p))(hl:(rE r).length < 32000):∃r',rOk n r'/\(rE r').Perm (en z p::rE r)/\∀(q:Option<|qu×qu×qu) (bd:B),kC [.yd q (!22),.fz<|.str z,bd,.fz<|.int p.1,.fz<|.int p.2]=some (.nx [.yd q<|yv cv L n r' kb,.fz<|.str z,bd,.fz<|.int p.1,.fz<|.int p.2]):=by obtain⟨h',xs',H',pm,e⟩:=zNC hn h12 H _ hk hl;refine⟨⟨h',xs'⟩,H',pm,λq bd=>?_⟩;show(oE stN [.int _,rtD r] [dE<|en z p]).map _=_;rw[e];rfl
theorem zSl:∀(rows:km) (r:Rt),rOk n r->(rows.Pairwise λa b=>a.1≠b.1)->(∀p∈rows,∀a∈rE r,kE a≠kE (en z p))->(rE r).length+rows.length < 32000 -> ∃r',rOk n r'/\(rE r').Perm (rows.map (en z)++rE r)/\∀(q:Option<|qu×qu×qu) (bd x3 x4:B),∃y3 y4,uC (gT<|zB (gN 3)<|zB (gN 4) xC) kC (yA rows) [.yd q (!22),.fz<|.str z,bd,x3,x4]=some (.nx [.yd q<|yv cv L n r' kb,.fz<|.str z,bd,y3,y4])
 | [],r,H,_,_,_=>⟨r,H,.refl _,λq bd x3 x4=>⟨x3,x4,J⟩⟩
 | p::t,r,H,hd,hk,hl=>by
  rw[Qk] at hl;obtain⟨d1,d2⟩:=Rr.mp hd;obtain⟨r1,H1,p1,e1⟩:=zKG hn h12 H p (hk p Qf) jc;have l1:=p1.length_eq;rw[Qk] at l1;obtain⟨r2,H2,p2,e2⟩:=zSl t r1 H1 d2 (λs hs a ha=>by
   rcases v4 (p1.subset ha) with rfl | ha
   .exact λw=>d1 s hs (by have:=Wi Prod.fst w;exact this)
   .exact hk s (Qp _ hs) a ha) jc
  refine⟨r2,H2,p2.trans<|(Il _ p1).trans List.perm_middle,λq bd x3 x4=>?_⟩
  .obtain⟨y3,y4,e3⟩:=e2 q bd (.fz _)<|.fz _;refine⟨y3,y4,?_⟩;show uC _ _ (mE p::yA t) _=_;rw[wL (ρ1:=[.yd q _,.fz _,bd,.fz _,.fz _]) rfl<|e1 q bd,e3]
def zJM (H:rOk n r){b:Bx}{rows:km}(hs:xE [cv,.int (L:Nat),bxD b]=some (yA rows))(hz:kb.lookup z=none)(hkb:kb.length<=1000)(hd:rows.Pairwise λa b=>a.1≠b.1)(hk:∀p∈rows,∀a∈rE r,kE a≠kE (en z p))(hl:(rE r).length+rows.length < 32000):∃r',rOk n r'/\(rE r').Perm (rows.map (en z)++rE r)/\kF lW 3 (!22) [.str z,bxD b]=some (.non,yv cv L n r'<|kb++[(z,b)]):=by
 obtain⟨r',H',pm,e⟩:=zSl (cv:=cv) (L:=L) (kb:=kb) hn h12 rows r H hd hk hl;refine⟨r',H',pm,hU λS hS=>?_⟩
 match S,hS with
 | [s1,s2,s3],_ =>
  obtain⟨y3,y4,e3⟩:=e (some (s1,s2,s3)) (.fz<|bxD b) .no .no;have e4:iZ [.yd (some (s1,s2,s3)) (!22),.fz<|.str z,.fz<|bxD b,.no,.no]=some (.nx [.yd (some (s1,s2,s3))<|yv cv L n r'<|kb++[(z,b)],.fz<|.str z,.fz<|bxD b,y3,y4]):=by
   refine(wQ (O':=[.yd (some (s1,s2,s3))<|yv cv L n r' kb,.fz<|.str z,.fz<|bxD b,y3,y4]) ?_).trans ?_
   .unfold vQ;have ei:iL (oY 0 3<|eL<|pG A1 Ai 2 tN eV0<|zY eV2 zS) [.yd (some (s1,s2,s3)) (!22),.fz<|.str z,.fz<|bxD b,.no,.no]=some (yA rows):=by
     refine zZ2 ?_;show((eL (pG A1 Ai 2 _ eV0<|zY eV2 zS) [.fz (!22),.fz<|.str z,.fz<|bxD b,.no,.no]).bind _)=_;have em:pG A1 Ai 2 _ eV0 (zY eV2 zS) [.fz (!22),.fz<|.str z,.fz<|bxD b,.no,.no]=some (yA rows):=(fH (xs:=yv1 cv L n r kb) (ns:=ydN) (ds:=[bxD b]) J J J ja).trans<|zOl.trans hs;rw[vN em,Qr,Qh<|show gG (.lst<|yA rows)=true from aN rows]
    simp_all
   .unfold zZt zKi;show(if (ksK kb).length<=lim then some (Out.nx [.yd (some (s1,s2,s3))<|ydD cv (!16) (soD n r')<|zS9 (ksK kb) (kb.map λp=>bxD p.2) (.inr z)<|bxD b,.fz<|.str z,.fz<|bxD b,y3,y4]) else none)=_;rw[Qh (by unfold ksK;rw[Qy];exact Ww hkb jb),zQo];unfold zZb;rw[hz];rfl
  show zVT [s1,s2,s3] (kOf _ [.yd (some (s1,s2,s3)) (!22),.fz<|.str z,.fz<|bxD b,.no,.no])=_;unfold kOf;rw[e4];exact Qh J
end
def bM (z:Str)(rows:km)(a:Et):Bool := !(rows.any λp=>vL a<|en z p)
section
variable (hn:4<=n) (h12:n<=50)
include hn h12
def zNn (H:rOk n r)(p:Row)(he:en z p∈rE r)(hl:(rE r).length < 32000):∃r',rOk n r'/\rE r'=(rE r).filter (λa => !vL a (en z p))/\∀(q:Option<|qu×qu×qu),nJ [.yd q (!22),.fz<|.str z,.fz<|.int p.1,.fz<|.int p.2]=some (.nx [.yd q<|yv cv L n r' kb,.fz<|.str z,.fz<|.int p.1,.fz<|.int p.2]):=by obtain⟨h',xs',H',pm,e⟩:=zPp hn h12 H _ he hl;refine⟨⟨h',xs'⟩,H',pm,λq=>?_⟩;show(qI stN [.int _,rtD r] [dE<|en z p]).map _=_;rw[e];rfl
theorem zUl:∀(rows:km) (r:Rt),rOk n r->(rows.Pairwise λa b=>a.1≠b.1)->(∀p∈rows,en z p∈rE r)->(rE r).length < 32000 -> ∃r',rOk n r'/\rE r'=(rE r).filter (bM z rows)/\∀(q:Option<|qu×qu×qu) (x2 x3:B),∃y2 y3,uC (gT<|zB (gN 2)<|zB (gN 3) xC) nJ (yA rows) [.yd q (!22),.fz<|.str z,x2,x3]=some (.nx [.yd q<|yv cv L n r' kb,.fz<|.str z,y2,y3])
 | [],r,H,_,_,_=>⟨r,H,(Ur.mpr λ_ _=>rfl).symm,λq x2 x3=>⟨x2,x3,J⟩⟩
 | p::t,r,H,hd,hk,hl=>by
  obtain⟨d1,d2⟩:=Rr.mp hd;obtain⟨r1,H1,p1,e1⟩:=zNn hn h12 H p (hk p Qf) hl;have l1:(rE r1).length<=(rE r).length:=by rw[p1];exact Eg _ _
  obtain⟨r2,H2,p2,e2⟩:=zUl t r1 H1 d2 (λs hs=>by
   rw[p1];refine Eo.mpr ⟨hk s<|Qp _ hs,?_⟩;cases h:vL _ _ with
   | false=>rfl
   | true=>exact absurd (Wi Et.f<|qU.mp h) λw=>d1 s hs w.symm) jc
  refine⟨r2,H2,?_,λq x2 x3=>?_⟩
  .rw[p2,p1,List.filter_filter];refine List.filter_congr λa _=>?_;unfold bM;rw[Od,Bool.not_or,Bool.and_comm]
  .obtain⟨y2,y3,e3⟩:=e2 q (.fz _)<|.fz _;refine⟨y2,y3,?_⟩;show uC _ _ (mE p::yA t) _=_;rw[wL (ρ1:=[.yd q _,.fz _,.fz _,.fz _]) rfl<|e1 q,e3]
def zOa (H:rOk n r){b:Bx}{rows:km}(hs:xE [cv,.int (L:Nat),bxD b]=some (yA rows))(hz:kb.lookup z=some b)(hd:rows.Pairwise λa b=>a.1≠b.1)(hk:∀p∈rows,en z p∈rE r)(hl:(rE r).length < 32000):∃r',rOk n r'/\rE r'=(rE r).filter (bM z rows)/\kF tL 3 (!22) [.str z]=some (.non,yv cv L n r'<|qQ kb z):=by
 obtain⟨r',H',pm,e⟩:=zUl (cv:=cv) (L:=L) (kb:=kb) hn h12 rows r H hd hk hl;refine⟨r',H',pm,hU λS hS=>?_⟩
 match S,hS with
 | [s1,s2,s3],_ =>
  obtain⟨y2,y3,e3⟩:=e (some (s1,s2,s3)) .no .no;have e4:lB [.yd (some (s1,s2,s3)) (!22),.fz<|.str z,.no,.no]=some (.nx [.yd (some (s1,s2,s3))<|yv cv L n r'<|qQ kb z,.fz<|.str z,y2,y3]):=by
   refine(wQ (O':=[.yd (some (s1,s2,s3))<|yv cv L n r' kb,.fz<|.str z,y2,y3]) ?_).trans ?_
   .unfold vQ;have ew:oO A1 Bd 2 rA eV0 (!13) [.fz (!22),.fz<|.str z,.no,.no]=some (bxD b):=by
     exact(zIc (kb:=kb)).trans (by rw[hz];rfl)
    have em:pG A1 Ai 2 _ eV0 (zY (oO A1 Bd 2 _ eV0 (!13)) zS) [.fz (!22),.fz<|.str z,.no,.no]=some (yA rows):=(fH (xs:=yv1 cv L n r kb) (ns:=ydN) (ds:=[bxD b]) J (zM ew J) J ja).trans<|zOl.trans hs;have ei:iL (oY 0 3<|eL<|pG A1 Ai 2 tN eV0<|zY (oO A1 Bd 2 rA eV0 (!13)) zS) [.yd (some (s1,s2,s3)) (!22),.fz<|.str z,.no,.no]=some (yA rows):=by refine zZ2 ?_;show((eL (pG A1 Ai 2 _ eV0<|zY (oO A1 Bd 2 _ eV0 (!13)) zS) [.fz (!22),.fz<|.str z,.no,.no]).bind _)=_;rw[vN em,Qr,Qh<|show gG (.lst<|yA rows)=true from aN rows]
    simp_all
   .unfold bO zKY;show(if (bB (ksK kb) (kb.map λp=>bxD p.2)<|.inr z).isSome then some (Out.nx [.yd (some (s1,s2,s3))<|ydD cv (!16) (soD n r')<|.dct (bL (ksK kb)<|.inr z)<|fJ (ksK kb) (kb.map λp=>bxD p.2)<|.inr z,.fz<|.str z,y2,y3]) else none)=_;rw[Qh (by rw[cU,hz];rfl),(zVY z kb).1,(zVY z kb).2];rfl
  show zVT [s1,s2,s3] (kOf _ [.yd (some (s1,s2,s3)) (!22),.fz<|.str z,.no,.no])=_;unfold kOf;rw[e4];exact Qh J
end
def zEj:Bool->Bool->kf | true,_=>some AT | _,true=>none | _,_=>some At
def zE2:Bool->Bool->kf | false,_=>some Au | _,true=>none | _,_=>some At
def zL9 {f:Sf}{t:kj}{s1 s2 s3:qu}(e:f O=some (.nx<|.yd (some (s1,s2,s3)) d::t)):zVT [s1,s2,s3] (kOf f O)=some (.non,d):=by unfold kOf;rw[e];exact Qh J
def jJ {m:Str}{k:Nat}{f:ko->D->kd->qc}{u:D}{t:kj}(hg:g (.yd q (!22)::t)=some ds)(hk:ds.length=k)(hm:m∉ydN)(e:kF f 3 (!22) ds=some (u,d')):qO 0 A1 m k f g (.yd q (!22)::t)=some (.nx<|.yd q d'::t):=by unfold qO;rw[hg];show(if (A1:Str)=A1/\_=k/\m∉ydN then(kF f 3 _ ds).map _ else none)=_;rw[Qh ⟨rfl,hk,hm⟩,e];rfl
def zFn (hz:z.length<=1000):lG [yv cv L n r kb,.str z]=if (kb.lookup z).isSome then none else some Au:=by show(if (A1)=A1/\(Ai:Str)∉ydN then pX A1 Bd 2 oJ eV0 (!13) [.fz (!22),.fz<|.str z,.no,.no] else none)=_;exact(pV J J J (!6)).trans (zHS hz)
section
variable{b:Bx} (hL:L<=100) (hb:Sm b)
include hL hb
def zEZ (hz:z.length<=1000):iG [yv (!27) L n r kb,.str z,bxD b]=zEj (kb.lookup z).isSome (flB dm L b):=by
 show lY [.fz<|yv _ L n r kb,.fz<|.str z,.fz _]=_;unfold lY zGz;rw[zS0 rfl (gH J).2.2.2,Qr];cases (kb.lookup z).isSome
 .exact(Qv jb).trans ((pV (xs:=yv1 _ L n r kb) J J J (!6)).trans<|(zYp hL hb).trans (by cases flB dm L b<;>rfl))
 .refine(Qh J).trans ?_;unfold zYL;have:zX2 (qC "a thing ") (zX2 (qS eV1)<|zX2 (qC " is there") zPX) [.fz (!19),.fz<|.str z,.fz<|bxD b]=true:=by
   show(decide _&&(decide _&&(decide _&&true)))=true;rw[Qc hz];decide +kernel
  rw[this];rfl
def zFX (hz:z.length<=1000):lN [yv (!27) L n r kb,.str z,bxD b]=zE2 (kb.lookup z).isSome (flB dm L b):=by
 show oF [.fz _,.fz _,.fz _]=_;unfold oF zPf;rw[((pV (m:=Az) (k:=2) (fa:=eV0) (g:=!13) (O:=[.fz (!19),.fz _,.fz<|bxD b]) J J J (!6)).trans<|zWu hz),((zXN (m:=Az) (k:=2) (fa:=eV0) (g:=!13) (O:=[.fz (!19),.fz<|.str z,.fz<|bxD b]) J J J (!6)).trans<|bC)];cases (kb.lookup z).isSome
 .rfl
 .show pX A1 AA 2 uZ eV0 (zY eV2 zS) [.fz<|yv _ L n r kb,.fz<|.str z,.fz _]=_;exact(pV J J J (!6)).trans ((zYp hL hb).trans (by cases flB dm L b<;>rfl))
end
section
variable (hn:4<=n) (h12:n<=50) (Ho:rOk n r){b:Bx}{rows:km} (hL:L<=100) (hb:Sm b) (hf:flB dm L b=true)
 (hs:xE [yU nm dm j ps,.int (L:Nat),bxD b]=some (yA rows)) (hd:rows.Pairwise λa b=>a.1≠b.1)
include hn h12 Ho hL hb hf hs hd
def zNX {g:Sf}:zF (dH<|oY 0 3<|oO A1 AA 2 uY eV0<|zY eV2 zS) g [.yd q (!19),.fz<|.str z,.fz<|bxD b]=g [.yd q (!19),.fz<|.str z,.fz<|bxD b]:=by have e2:=(zXN (m:=AA) (k:=2) (fa:=eV0) (g:=zY eV2 zS) (O:=[.fz (!19),.fz<|.str z,.fz _]) J J J (!6)).trans<|zR6 hL hb;rw[hf] at e2;refine wQ ?_;show(((oO A1 AA 2 _ _ _ [.fz _,.fz _,.fz _]).bind _).map _)=_;rw[e2];rfl
def zFQ (hz:kb.lookup z=none)(hkb:kb.length<=1000)(hk:∀p∈rows,∀a∈rE r,kE a≠kE (en z p))(hl:(rE r).length+rows.length < 32000):∃r',rOk n r'/\(rE r').Perm (rows.map (en z)++rE r)/\kF uT 3 (!19) [.str z,bxD b]=some (.non,yv (!27) L n r'<|kb++[(z,b)]):=by
 obtain⟨r',H',pm,e⟩:=zJM hn h12 Ho hs hz hkb hd hk hl;refine⟨r',H',pm,hU λS hS=>?_⟩
 match S,hS with
 | [s1,s2,s3],_ =>
  refine zL9 (t:=[.fz<|.str z,.fz<|bxD b])<|(wQ (O':=[.yd (some (s1,s2,s3)) (!19),.fz<|.str z,.fz<|bxD b]) ?_).trans ?_
  .unfold sIf jE;show(((cA true eV1 (yK A1 BX eV0) [.fz (!19),.fz<|.str z,.fz<|bxD b])).bind _)=_;rw[zS0 rfl (gH J).2.2.2,hz];rfl
  .unfold gY;rw[zNX hn h12 Ho hL hb hf hs hd];exact jJ J J (!6) e
def zIi {b0:Bx}{rows0:km}(hs0:xE [yU nm dm j ps,.int (L:Nat),bxD b0]=some (yA rows0))(hd0:rows0.Pairwise λa b=>a.1≠b.1)(hz:kb.lookup z=some b0)(hkb:kb.length<=1000)(hk0:∀p∈rows0,en z p∈rE r)(hk:∀a∈(rE r).filter (bM z rows0),a.z≠z)(hl0:(rE r).length < 32000)(hl:((rE r).filter<|bM z rows0).length+rows.length < 32000):∃r',rOk n r'/\(rE r').Perm (rows.map (en z)++(rE r).filter (bM z rows0))/\kF rT 3 (!19) [.str z,bxD b]=some (.non,yv (!27) L n r'<|qQ kb z++[(z,b)]):=by
 obtain⟨r1,H1,p1,e1⟩:=zOa hn h12 Ho hs0 hz hd0 hk0 hl0;have hz1:(qQ kb z).lookup z=none:=by refine List.lookup_eq_none_iff.mpr λp hp=>?_;have:=Eh (Eo.mp hp).2;simpa using λw=>this w.symm
 have hkb1:(qQ kb z).length<=1000:=Ww (Eg _ _) hkb;obtain⟨r2,H2,p2,e2⟩:=zJM hn h12 H1 hs hz1 hkb1 hd (λp hp a ha w=>hk a (by rw[<-p1];exact ha)<|Wi Prod.snd w) (!8);rw[p1] at p2;refine⟨r2,H2,p2,hU λS hS=>?_⟩
 match S,hS with
 | [s1,s2,s3],_ =>
  refine zL9 (t:=[.fz<|.str z,.fz<|bxD b])<|(wQ (O':=[.yd (some (s1,s2,s3)) (!19),.fz<|.str z,.fz<|bxD b]) ?_).trans ?_
  .have e3:=(zXN (m:=Az) (k:=2) (fa:=eV0) (g:=!13) (O:=[.fz (!19),.fz<|.str z,.fz<|bxD b]) (xs:=yv1 _ L n r kb) J J J (!6)).trans<|bC;rw[hz] at e3;show(((oO A1 Az 2 _ _ (zY _ zS) [.fz<|yv _ L n r kb,.fz _,.fz _]).bind _).map _)=_;rw[e3];rfl
  .unfold kW;rw[zNX hn h12 Ho hL hb hf hs hd];exact(wQ<|jJ rfl rfl (!6) e1).trans (jJ J J (!6) e2)
end
inductive Wd | put | move | take
def wS:Wd->Str | .put=>Ap | .move=>AF | .take=>Ax
def deD (w:Wd)(z:Str)(b:Bx):D:=.tup [.str<|wS w,.str z,bxD b]
def xW:Wd->Bool->Bool->kf | .put=>zEj | .move=>zE2 | .take=>λc _=>if c then none else some (Au:Str)
def wrd:kf->Str | none=>"ok" | some c=>if c=AT then "twice" else if c=Au then "thing" else CJ
def zFL {w:Wd}{t:Bool}(h:xW w s t=some c):sY [.exc c [] []]=some (.str<|wrd<|some c)/\pY.contains c=true:=by cases w<;>cases s<;>cases t<;>cases h<;>exact⟨jf,ja⟩
section
variable{b:Bx}{w:Wd}{Y Y':D}
def xB:kj->kf:=xIf (eB2 gEq (eIx eV1 jp)<|eC<|.str Ap) (zWG 0<|pX A1 Ap 3 iG eV0<|zY (!20)<|zY (eIx eV1 jr) zS)<|xIf (eB2 gEq (eIx eV1 jp)<|eC<|.str AF) (zWG 0<|pX A1 AF 3 lN eV0<|zY (!20)<|zY (eIx eV1 jr) zS)<|zWG 0<|pX A1 Ax 2 lG eV0<|zY (!20) zS
def sM:Sf:=sIf (eB2 gEq (eIx eV1 jp)<|eC<|.str Ap) (qO 0 A1 Ap 2 uT<|zY (!20)<|zY (eIx eV1 jr) zS)<|sIf (eB2 gEq (eIx eV1 jp)<|eC<|.str AF) (qO 0 A1 AF 2 rT<|zY (!20)<|zY (eIx eV1 jr) zS)<|qO 0 A1 Ax 1 tL<|zY (!20) zS
def zJO (hL:L<=100)(hb:Sm b)(hz:z.length<=1000):xB [.yd q (!19),.fz<|deD w z b,.fz<|.str "ok",.no]=xW w (kb.lookup z).isSome (flB dm L b):=by
 cases w
 .exact(pV (m:=Ap) (fa:=eV0) (g:=zY (!20)<|zY (eIx eV1 jr) zS) (O:=[.fz _,.fz<|deD .put z b,.fz<|.str "ok",.no]) J J J (!6)).trans (zEZ hL hb hz)
 .exact(pV (m:=AF) (fa:=eV0) (g:=zY (!20)<|zY (eIx eV1 jr) zS) (O:=[.fz _,.fz<|deD .move z b,.fz<|.str "ok",.no]) J J J (!6)).trans (zFX hL hb hz)
 .refine(pV (m:=Ax) (fa:=eV0) (g:=zY (!20) zS) (O:=[.fz _,.fz<|deD .take z b,.fz<|.str "ok",.no]) J J J (!6)).trans ((zFn hz).trans ?_);cases (kb.lookup z).isSome<;>rfl
def zRf {s1 s2 s3:qu}{u:Str}(h:sOr (zNo pY xB 3<|yJ 2<|yZ 1 sY<|zY eV3 zS) (sNx sM) [.yd (some (s1,s2,s3)) Y,.fz<|deD w z b,.fz<|.str "ok",.no]=some (.nx [.yd (some (s1,s2,s3)) Y',.fz<|deD w z b,.fz<|.str u,.no])):uU [s1,s2,s3] Y [deD w z b]=some (.str u,Y'):=by show zVT [s1,s2,s3] (oB [.yd _ Y,.fz _,.fz _,.no])=_;unfold oB cF kOf;unfold xB sM at h;rw[h];exact Qh J
def zJv (hL:L<=100)(hb:Sm b)(hz:z.length<=1000)(h:xW w (kb.lookup z).isSome (flB dm L b)=some c):kF uU 3 (!19) [deD w z b]=some (.str<|wrd<|some c,yv (!27) L n r kb):=by
 obtain⟨e1,e2⟩:=zFL h;refine hU λS hS=>?_
 match S,hS with
 | [s1,s2,s3],_ =>
  refine zRf ?_;unfold sOr zNo;rw[zJO hL hb hz,h,Qr,Qh e2];have e3:yJ 2 (yZ 1 sY<|zY eV3 zS) [.yd (some (s1,s2,s3)) (!19),.fz<|deD w z b,.fz<|.str "ok",.fz<|.exc c [] []]=some (.nx [.yd (some (s1,s2,s3)) (!19),.fz<|deD w z b,.fz<|.str<|wrd<|some c,.fz<|.exc c [] []]):=by unfold yJ;rw[(bY J).trans e1];rfl
  dsimp only[List.set];rw[e3];rfl
def mW:Wd->ko->D->kd->qc | .put=>uT | .move=>rT | .take=>tL
def aW (z:Str)(b:Bx):Wd->kd | .take=>[.str z] | _=>[.str z,bxD b]
def zTa (hL:L<=100)(hb:Sm b)(hz:z.length<=1000)(h:xW w (kb.lookup z).isSome (flB dm L b)=none){kb':Kb}(e:kF (mW w) 3 (!19) (aW z b w)=some (.non,yv (!27) L n r' kb')):kF uU 3 (!19) [deD w z b]=some (.str "ok",yv (!27) L n r' kb'):=by
 refine hU λS hS=>?_
 match S,hS with
 | [s1,s2,s3],_ =>
  refine zRf ?_;unfold sOr zNo;rw[zJO hL hb hz,h];have e3:∀ {f:Sf} {O O':kj},f O=some (.nx O')->((f O).bind λo=>match o with | .nx O'=>some (Out.nx O') | _=>none)=some _:=λh=>by rw[h];rfl
  refine e3 ?_;cases w
  .exact jJ (m:=Ap) (g:=zY (!20)<|zY (eIx eV1 jr) zS) (t:=[.fz<|deD .put z b,.fz _,.no]) J J (!6) e
  .exact jJ (m:=AF) (g:=zY (!20)<|zY (eIx eV1 jr) zS) (t:=[.fz<|deD _ z b,.fz _,.no]) J J (!6) e
  .exact jJ (m:=Ax) (g:=zY (!20) zS) (t:=[.fz<|deD _ z b,.fz _,.no]) J J (!6) e
end
def Bk (m:Nat)(b:Bx):Prop:=(m=2\/m=3)/\b.1.length=m/\b.2.length=m/\∀p∈b.1.zip b.2,p.1<=p.2
theorem Bk.sm {m:Nat}{b:Bx}(h:Bk m b):Sm b:=⟨by rcases h.1 with e | e<;>(have:=h.2.1;lia),by rcases h.1 with e | e<;>(have:=h.2.2.1;lia)⟩
def zQF {k:Int}(h:f O=some (.int k)):iR f O=iR (eC<|.int k) []:=by unfold iR;rw[h];rfl
def vT (dm L:Nat):D:=.tup<|List.replicate dm<|.int<|2^L
section
variable{m:Nat}{b:Bx}{w:Wd}{x0:B}
def dM {l h k:Int}{o:Bool}(h1:atD (yP b.1) (.int k)=some (.int l))(h2:atD (yP b.2) (.int k)=some (.int h))(h3:atD (vT dm L) (.int k)=some (.int<|2^L)):rC [x0,.fz<|deD w z b,.fz<|vT dm L,.fz<|.bl o,.fz<|.int k]=some (.nx [x0,.fz<|deD w z b,.fz<|vT dm L,.fz<|.bl<|o||(decide (l < 0)||decide ((2:Int)^L<=h)),.fz<|.int k]):=by
 unfold rC yJ;have e1:sE (eB2 gLt (eIx (eIx (eIx eV1 jr) jp) eV4) jp) [x0,.fz<|deD w z b,.fz<|vT dm L,.fz<|.bl o,.fz<|.int k]=some (.bl (decide (l < 0))):=by unfold sE eB2;rw[wJ rfl rfl,h1];rfl
 have e2:sE (eB2 gGe (eIx (eIx (eIx eV1 jr) jq) eV4)<|eIx eV2 eV4) [x0,.fz<|deD w z b,.fz<|vT dm L,.fz<|.bl o,.fz<|.int k]=some (.bl (decide ((2)^L<=h))):=by unfold sE eB2;rw[wJ rfl rfl,h2,wJ rfl rfl,h3];rfl
 have e3:zMR eV3 (zMR (sE<|eB2 gLt (eIx (eIx (eIx eV1 jr) jp) eV4) jp)<|sE<|eB2 gGe (eIx (eIx (eIx eV1 jr) jq) eV4)<|eIx eV2 eV4) [x0,.fz<|deD w z b,.fz<|vT dm L,.fz<|.bl o,.fz<|.int k]=some (.bl<|o||(decide (l < 0)||decide ((2)^L<=h))):=by unfold zMR tB1;rw[e1,e2];cases o<;>cases decide (l < 0)<;>rfl
 rw[e3];rfl
def zK3 (hd:dm=2\/dm=3)(hb:Bk m b):∃y',(vQ (iR<|zXm (uV eV2)<|uV<|eIx (eIx eV1 jr) jp) (gN 4) rC) [x0,.fz<|deD w z b,.fz<|vT dm L,.fz<|.bl (decide (m≠dm)),.no]=some (.nx [x0,.fz<|deD w z b,.fz<|vT dm L,.fz<|.bl !(flB dm L b),y']):=by
 obtain⟨hm,h1,h2,h3⟩:=hb;obtain⟨lo,hi⟩:=b;dsimp only at h1 h2 h3;unfold vQ;generalize hS:(2:Int)^L=S;rcases hm with rfl | rfl
 .obtain⟨a0,a1,rfl⟩:=zYe h1;obtain⟨b0,b1,rfl⟩:=zYe h2;have q0:a0<=b0:=h3 (a0,b0) je;have q1:a1<=b1:=h3 (a1,b1) je;rcases hd with rfl | rfl
  .refine⟨.fz<|.int 1,?_⟩;rw[zQF (k:=2) rfl,show iR jr []=some (tS 0 2) from rfl,Qr,zGS];rw[wL rfl<|dM (k:=0) (l:=a0) (h:=b0) rfl rfl rfl,wL rfl<|dM (k:=1) (l:=a1) (h:=b1) rfl rfl rfl];refine Wi some<|Wi _<|Wi (λt=>[x0,_,_,.fz<|.bl t,_]) ?_;rw[Rq];simp[flB,zVe,hS];omega +splitDisjunctions
  .refine⟨.fz<|.int 1,?_⟩;rw[zQF (k:=2) rfl];rfl
 .obtain⟨a0,a1,a2,rfl⟩:=zXY h1;obtain⟨b0,b1,b2,rfl⟩:=zXY h2;have q0:a0<=b0:=h3 (a0,b0) je;have q1:a1<=b1:=h3 (a1,b1) je;have q2:a2<=b2:=h3 (a2,b2) je;rcases hd with rfl | rfl
  .refine⟨.fz<|.int 1,?_⟩;rw[zQF (k:=2) rfl];rfl
  .refine⟨.fz<|.int 2,?_⟩;rw[zQF (k:=3) rfl,show iR jt []=some (tS 0 3) from rfl,Qr,zHg];rw[wL rfl<|dM (k:=0) (l:=a0) (h:=b0) rfl rfl rfl,wL rfl<|dM (k:=1) (l:=a1) (h:=b1) rfl rfl rfl,wL rfl<|dM (k:=2) (l:=a2) (h:=b2) rfl rfl rfl];refine Wi some<|Wi _<|Wi (λt=>[x0,_,_,.fz<|.bl t,_]) ?_;rw[Rq];simp[flB,zVe,hS];omega +splitDisjunctions
def isP:Wd->Bool | .put=>true | _=>false
def isK:Wd->Bool | .take=>true | _=>false
def nxT (kt:Kb)(z:Str)(b:Bx):Wd->Kb | .take=>qQ kt z | _=>zZb kt z b
def zGc (hd:dm=2\/dm=3)(hb:Bk m b)(hk:kt.length<=1000):kF nP 1 (kbD kt) [deD w z b,vT dm L]=some (.str<|wrd<|xW w (kt.lookup z).isSome<|flB dm L b,kbD<|if xW w (kt.lookup z).isSome (flB dm L b)=none then nxT kt z b w else kt):=by
 refine hU λS hS=>?_
 match S,hS with
 | [s],_ =>
  obtain⟨y',e⟩:=zK3 (L:=L) (z:=z) (w:=w) (x0:=.mu (some s)<|kbD kt) hd hb;show zVT [s] (lV [.mu (some s)<|kbD kt,.fz<|deD w z b,.fz<|vT dm L,.no,.no])=_;have e0:kOf (yJ 3<|sE<|eB2 gNe (uV<|eIx (eIx eV1 jr) jp)<|uV eV2) [.mu (some s)<|kbD kt,.fz<|deD w z b,.fz<|vT dm L,.no,.no]=some (.nx [.mu (some s)<|kbD kt,.fz<|deD w z b,.fz<|vT dm L,.fz<|.bl (decide (m≠dm)),.no]):=by show some (OutK.nx [.mu (some s)<|kbD kt,.fz<|deD w z b,.fz<|vT dm L,.fz<|.bl (!(decide (((b.1.map _).length:Int)=((List.replicate dm<|D.int<|2^L).length:Nat)))),.no])=_;rw[Qy,hb.2.1,Rw];congr 7;refine Wi D.bl ?_;rw[Rq];simp;lia
  have e1:kOf (vQ (iR<|zXm (uV eV2)<|uV<|eIx (eIx eV1 jr) jp) (gN 4) rC) [.mu (some s)<|kbD kt,.fz<|deD w z b,.fz<|vT dm L,.fz<|.bl (decide (m≠dm)),.no]=some (.nx [.mu (some s)<|kbD kt,.fz<|deD w z b,.fz<|vT dm L,.fz<|.bl !(flB dm L b),y']):=by unfold kOf;rw[e]
  unfold lV cF;rw[e0,Qr];show zVT [s] (lF _)=_;unfold lF cF;rw[e1,Qr];show zVT [s] (pP [.mu (some s)<|kbD kt,.fz<|deD w z b,.fz<|vT dm L,.fz<|.bl !(flB dm L b),y'])=_;generalize flB dm L b=fl;have t1 (v:Bool):cA v (!20) eV0 [.fz<|kbD kt,.fz<|deD w z b,.fz<|vT dm L,.fz<|.bl !fl,y']=some ((kt.lookup z).isSome==v):=zS0 J J;have p1:zUe 0 (!20) (eIx eV1 jr) (!30)=some (.nx [.mu (some s)<|kbD<|zZb kt z b,.fz<|deD w z b,.fz<|vT dm L,.fz<|.bl !fl,y']):=by show(if (ksK kt).length<=lim then some (Out.nx [.mu (some s)<|zS9 (ksK kt) (kt.map λp=>bxD p.2) (.inr z)<|bxD b,.fz<|deD w z b,.fz<|vT dm L,.fz<|.bl !fl,y']) else none)=_;rw[Qh (by unfold ksK;rw[Qy];exact Ww hk jb),zQo]
  have p2 (hz:(kt.lookup z).isSome=true):zSz 0 (!20) (!30)=some (.nx [.mu (some s)<|kbD<|qQ kt z,.fz<|deD w z b,.fz<|vT dm L,.fz<|.bl !fl,y']):=by show(if (bB (ksK kt) (kt.map λp=>bxD p.2)<|.inr z).isSome then some (Out.nx [.mu (some s)<|.dct (bL (ksK kt)<|.inr z)<|fJ (ksK kt) (kt.map λp=>bxD p.2)<|.inr z,.fz<|deD w z b,.fz<|vT dm L,.fz<|.bl !fl,y']) else none)=_;rw[Qh (by rw[cU,Yg,hz]),(zVY z kt).1,(zVY z kt).2];rfl
  generalize hq:(kt.lookup z).isSome=q at t1 p2 ⊢;have k2:pP (!30)=if isP w&&q then some (.rt (.str "twice") (!30)) else pD (!30):=by
   have c:jE 0 2 (sZ (eB2 gEq (eIx eV1 jp)<|eC<|.str Ap)<|cA true (!20) eV0) (!30)=some (isP w&&q):=by
    cases w
    .exact(t1 true).trans (by cases q<;>rfl)
    .rfl
    .rfl
   unfold pP cF kIf;rw[c];cases isP w&&q<;>rfl
  have k3:pD (!30)=if !isP w && !q then some (.rt (.str "thing") (!30)) else lX (!30):=by
   have c:jE 0 2 (sZ (eB2 gNe (eIx eV1 jp)<|eC<|.str Ap)<|cA false (!20) eV0) (!30)=some (!isP w && !q):=by
    cases w
    .rfl
    .exact(t1 _).trans (by cases q<;>rfl)
    .exact(t1 _).trans (by cases q<;>rfl)
   unfold pD cF kIf;rw[c];cases !isP w && !q<;>rfl
  have k4:lX (!30)=if !isK w && !fl then some (.rt (.str CJ) (!30)) else pU (!30):=by cases w<;>cases fl<;>rfl
  have k5 (hw:isK w=true->q=true):pU (!30)=some (.rt (.str "ok") [.mu (some s)<|kbD<|nxT kt z b w,.fz<|deD w z b,.fz<|vT dm L,.fz<|.bl !fl,y']):=by
   have c:kOf (sIf (eB2 gEq (eIx eV1 jp)<|eC<|.str Ax) (zSz 0 (!20))<|zUe 0 (!20)<|eIx eV1 jr) (!30)=some (.nx [.mu (some s)<|kbD<|nxT kt z b w,.fz<|deD w z b,.fz<|vT dm L,.fz<|.bl !fl,y']):=by
    have c1:sIf (eB2 gEq (eIx eV1 jp)<|eC<|.str Ax) (zSz 0 (!20)) (zUe 0 (!20)<|eIx eV1 jr) (!30)=some (.nx [.mu (some s)<|kbD<|nxT kt z b w,.fz<|deD w z b,.fz<|vT dm L,.fz<|.bl !fl,y']):=by
     cases w
     .exact p1
     .exact p1
     .exact p2 (hw J)
    unfold kOf;rw[c1]
   unfold pU cF;rw[c];rfl
  rw[k2,k3,k4];cases w<;>cases q<;>cases fl
  all_goals first
   | exact Qh rfl
   | (refine Eq.trans (Wi (zVT [s]) (k5 jb)) ?_;exact Qh J)
end
def zIH (n:Nat)(i:Str):eqD (n+1) (.str i) (.str i)=some true:=Wi some<|Pi i
def keys (kb:Kb):kh:=kb.map (·.1)
theorem zXA {z:Str}{b:Bx}:∀ {kb:Kb},(keys kb).Nodup->(z,b)∈kb->kb.lookup z=some b
 | (y,c)::r,nd,h=>by
  obtain⟨n1,n2⟩:=Rm.mp<|show(y::keys r).Nodup from nd;rw[Wp];rcases v4 h with e | e
  .cases e;simp
  .have:z≠y:=λw=>n1<|w ▸ Wg.mpr ⟨_,e,rfl⟩;rw[show(z==y)=false by simpa using this];exact zXA n2 e
def zJQ (hd:dm=2\/dm=3)(c:Int):∃L:Nat,(dm=2/\L<=6\/dm=3/\L<=4)/\fG [.int c,.int (dm:Nat)]=some (!16):=by
 obtain⟨v,hv,ev⟩:=mU c 31 1000033 jb jb jb jb;have a2:∃L:Nat,L<=6/\atD (.lst [.int 0,.int 1,.int 2,.int 2,.int 2]) (.int<|v % 5)=some (!16):=by
  have:v % 5=0\/v % 5=1\/v % 5=2\/v % 5=3\/v % 5=4:=jc;rcases this with e | e | e | e | e<;>rw[e]
  .exact⟨0,jb,rfl⟩
  .exact⟨1,jb,rfl⟩
  .exact⟨2,jb,rfl⟩
  .exact⟨2,jb,rfl⟩
  .exact⟨2,jb,rfl⟩
 have a3:∃L:Nat,L<=4/\atD (.lst [.int 0,.int 1,.int 1,.int 1]) (.int<|v % 4)=some (!16):=by
  have:v % 4=0\/v % 4=1\/v % 4=2\/v % 4=3:=jc;rcases this with e | e | e | e<;>rw[e]
  .exact⟨0,jb,rfl⟩
  .exact⟨1,jb,rfl⟩
  .exact⟨1,jb,rfl⟩
  .exact⟨1,jb,rfl⟩
 rcases hd with rfl | rfl
 .obtain⟨L,h1,h2⟩:=a2;refine⟨L,.inl ⟨J,h1⟩,?_⟩;refine yG (d:=.int v) ((vO J J J).trans ev) ?_;have e:eIx (eL<|xJ<|zY jp<|zY jq<|zY jr<|zY jr<|zY jr zS) (xO eV2 jv) [.fz<|.int c,.fz<|.int (2:Nat),.fz<|.int v]=some (!16):=(wJ J (!14)).trans h2;show(zF (xQ<|eIx (eL<|xJ<|zY jp<|zY jq<|zY jr<|zY jr<|zY jr zS)<|xO eV2 jv) kU [.fz<|.int c,.fz<|.int (2:Nat),.fz<|.int v]).bind vR=_;rw[zZu (d:=!16) (by unfold xQ;rw[e];rfl)];rfl
 .obtain⟨L,h1,h2⟩:=a3;refine⟨L,.inr ⟨J,h1⟩,?_⟩;refine yG (d:=.int v) ((vO J J J).trans ev) ?_;refine yM (O':=[.fz<|.int c,.fz<|.int (3:Nat),.fz<|.int v]) J ?_;unfold kU;rw[tE];exact(wJ J (!14)).trans h2
def zKd:Str:=Str.ofString Cj
def zKn:zKd.length=26:=jg
theorem zLR {i:Int}(h2:eV1 O=some (.str zKd))(h:fb O=some (.int i)):∃s:Nat,eIx eV1 (xO fb<|eC<|.int 26) O=some (.str ⟨#[s]⟩) :=
 ⟨_,(wJ h2<|zJ h rfl rfl).trans<|zHE jc (by rw[zKn];lia) (!6)⟩
def zXM {s:Nat}{n:Int}(h1:fa O=some (.str ⟨#[s]⟩))(h2:fb O=some (.int n))(h0:0<=n)(h3:n<=90):∃y:Str,bI fa fb O=some (.str y)/\y.length<=90:=by
 refine⟨Txt.mul ⟨#[s]⟩ n,?_,?_⟩
 .unfold bI;rw[h1,h2];show(if decide _&&decide _&&decide _ then some _ else none)=_;rw[Qc h0,Qc jc];rfl
 .have:=PyProof.Rows.len_mul_leN (x:=⟨#[s]⟩) (n:=n) (L:=1) (N:=90) (Qg 1) jc;lia
structure Nms (ns:kh):Prop where
 n7:ns.length=7
 le:∀z∈ns,z.length<=1000
abbrev nmR (c v:Int)(r:kj):kj:=.fz (.int c) :: .fz (.str zKd) :: .fz (.int v) :: .fz (.int<|1+v % 12) :: .fz (.int<|v / 12 % (1+v % 12))::r
def zKO (c:Int):∃ns:kh,Nms ns/\dR [.int c]=some (.lst<|ns.map .str):=by
 obtain⟨v,hv,ev⟩:=mU c 30 1000003 jb jb jb jb;obtain⟨s,es⟩:=zLR (fb:=wM eV2<|eC<|.int 150) (O:=nmR c v [.no,.no,.no,.no]) J (!14);have t (k:Int) {x3 x4 x5 x6 x7 x8:B}:eB2 gEq (xO (wM eV2<|eC<|.int 4000) jt) (eC<|.int k) [.fz<|.int c,.fz<|.str zKd,.fz<|.int v,x3,x4,x5,x6,x7,x8]=some (decide (v / 4000 % 3=k)):=aL<|zJ (!14) rfl rfl;have front {R:qi} (h:(pZ<|nmR c v [.fz<|.str ⟨#[s]⟩,.no,.no,.no]).bind vR=R):(kK [.fz<|.int c,.no,.no,.no,.no,.no,.no,.no,.no]).bind vR=R:=by refine yG (d:=.str zKd) rfl ?_;refine yG (d:=.int v) ((vO J J J).trans ev) ?_;refine yG (d:=.int<|1+v % 12) (dC J (!14)) ?_;refine yG (d:=.int<|v / 12 % (1+v % 12)) (zJ (!14) rfl<|Qc jc) ?_;exact yG (d:=.str ⟨#[s]⟩) es h
 by_cases h0:v / 4000 % 3=0
 .obtain⟨as,e,el,hq⟩:=zTO (elt:=bI eV1<|sW (sW eV0 jq)<|xO eV2 jw) (f:=D.str) (Q:=λz:Str=>z.length<=1000) (rest:=[.fz<|.str ⟨#[s]⟩,.fz<|.int v]) (tS 0 7) .no [] λd hd=>by
   obtain⟨i,hi,rfl⟩:=zVV hd;obtain⟨y,ey,ly⟩:=zXM (fa:=eV1) (fb:=sW (sW eV0 jq)<|xO eV2 jw) (O:=[.fz<|.int<|0+(i:Nat),.fz<|.str ⟨#[s]⟩,.fz<|.int v]) (s:=s) (n:=0+(i:Nat)+1+v % 6) J (dC (dC J J) (!14)) jc jc;exact⟨y,ey,jc⟩
  refine⟨as,⟨el,hq⟩,front ?_⟩;unfold pZ;have e2:sIf (eB2 gEq (xO (wM eV2<|eC<|.int 4000) jt) jp) (xQ<|eL<|yH (iR jx) 1 [5,2] (gN 0) tOK<|bI eV1<|sW (sW eV0 jq)<|xO eV2 jw) vU (nmR c v [.fz<|.str ⟨#[s]⟩,.no,.no,.no])=some (.rt<|.lst<|as.map .str):=by
   unfold sIf;rw[t 0,h0];unfold xQ;rw[vN (ds:=as.map D.str)]
   .rfl
   .assumption
  rw[zZu e2];rfl
 .obtain⟨O',e,ns,x7,x8,rfl,hl,hq⟩:=cI (g:=gN 7) (body:=mZ) (P:=λi O=>∃(ns:kh) (x7 x8:B),O=nmR c v [.fz<|.str ⟨#[s]⟩,.ow<|ns.map .str,x7,x8]/\ns.length=i/\∀z∈ns,z.length<=1000) (tS 0 7) 0 (λi d hd O hO=>by
   obtain⟨hi,rfl⟩:=fZ hd;obtain⟨ns,x7,x8,rfl,hl,hq⟩:=hO;obtain⟨t1,et⟩:=zLR (fb:=sW (wM eV2<|eC<|.int 12000)<|gB jt eV7) (O:=nmR c v [.fz<|.str ⟨#[s]⟩,.ow<|ns.map .str,.fz<|.int<|0+(i:Nat),x8]) rfl<|dC (!14)<|zJ rfl rfl<|eZ jc jc;have one:∃y:Str,y.length<=1000/\nH (nmR c v [.fz<|.str ⟨#[s]⟩,.ow<|ns.map .str,.fz<|.int<|0+(i:Nat),.fz<|.str ⟨#[t1]⟩])=some (.nx<|nmR c v [.fz<|.str ⟨#[s]⟩,.ow<|ns.map .str++[.str y],.fz<|.int<|0+(i:Nat),.fz<|.str ⟨#[t1]⟩]):=by
    have hlim:(ns.map D.str).length < lim:=by rw[Qy,hl];exact Nat.lt_trans (by lia:0+i < 7) jb
    unfold nH sIf;rw[t 1]
    by_cases h1:v / 4000 % 3=1
    .obtain⟨y,ey,ly⟩:=zXM (fa:=eV5) (fb:=xO (sW (wM eV2<|eC<|.int 12)<|gB jv eV7)<|eC<|.int 12) (O:=nmR c v [.fz<|.str ⟨#[s]⟩,.ow<|ns.map .str,.fz<|.int<|0+(i:Nat),.fz<|.str ⟨#[t1]⟩]) J (zJ (dC (!14)<|zJ rfl rfl<|eZ jc jc) J J) jc jc;have l1:(⟨#[t1]⟩:Str).length=1:=rfl;refine⟨⟨#[t1]⟩++y,by rw[Yj];lia,?_⟩;rw[h1];unfold zYT;rw[zWW (x:=⟨#[t1]⟩) (y:=y) rfl ey jc];exact Qh hlim
    .obtain⟨y,ey,ly⟩:=zXM (fa:=eV5) (fb:=eV4) (O:=nmR c v [.fz<|.str ⟨#[s]⟩,.ow<|ns.map .str,.fz<|.int<|0+(i:Nat),.fz<|.str ⟨#[t1]⟩]) J J (Ts _ jc) (by have:=Rb (v / 12) (show 0 < 1+v % 12 by lia);lia);obtain⟨u,eu,lu⟩:=zXM (fa:=eV5) (fb:=vG (vG eV3 jq) eV4) (O:=nmR c v [.fz<|.str ⟨#[s]⟩,.ow<|ns.map .str,.fz<|.int<|0+(i:Nat),.fz<|.str ⟨#[t1]⟩]) J (zJ (!14) J J) (by have:=Rb (v / 12) (show 0 < 1+v % 12 by lia);lia) (by have:=Ts (v / 12) (show 1+v % 12≠0 by lia);lia);have l1:(⟨#[t1]⟩:Str).length=1:=rfl;have e1:=zWW (x:=y) (y:=⟨#[t1]⟩) (fa:=bI eV5 eV4) (fb:=eV 8) ey J jc;refine⟨y++⟨#[t1]⟩++u,by rw[Yj,Yj];lia,?_⟩;rw[Qn h1];unfold zYT;rw[zWW e1 eu (by rw[Yj];lia)];exact Qh hlim
   obtain⟨y,ly,ey⟩:=one;refine⟨_,_,J,(bU et).trans ey,ns++[y],_,_,by rw[Wz];rfl,by rw[Qo,hl];rfl,λz hz=>?_⟩;rcases v6 hz with h | h
   .simp_all
   .rw[Qb.mp h];exact ly) (nmR c v [.fz<|.str ⟨#[s]⟩,.ow [],.no,.no]) ⟨[],_,_,rfl,rfl,λ_ h=>by cases h⟩
  refine⟨ns,⟨hl,hq⟩,front ?_⟩;refine yM (O':=nmR c v [.fz<|.str ⟨#[s]⟩,.no,.no,.no]) (by unfold sIf;rw[t 0,Qn h0];rfl) ?_;refine yM (O':=nmR c v [.fz<|.str ⟨#[s]⟩,.ow [],.no,.no]) J ?_;exact yM e J
def zTU (h:f O=some (!16))(hL:L<=62):zWo jq f O=some (.int<|2^L):=by
 have e:=zJ (C:=zL0) (g:=λi j=>i*2^j.toNat) (i:=1) (fa:=eC _) rfl h (by unfold zL0;rw[Qc jc,Qc jc];rfl)
 simp_all
def lH:zVe n L xs=true↔xs.length=n/\∀x∈xs,0<=x/\x < 2^L:=by unfold zVe;simp
def zHj (h1:xs.length=n/\∀x∈xs,0<=x/\x < 2^L)(h2:ys.length=n/\∀x∈ys,0<=x/\x < 2^L):flB n L (xs,ys)=true:=Wb.mpr ⟨lH.mpr h1,lH.mpr h2⟩
def zWC {P:α->Prop}{l:List α}{a:α}(h:∀x∈l,P x)(ha:P a):∀x∈l++[a],P x:=by grind
def zL7 (c n L o S:Int)(ho:0<=o/\o<=100)(hS:0 < S)(k:Nat)(hk:k<=3)(xs ys:ki)(hx:xs.length=k)(hy:ys.length<=10)(x8 x9:B):∃x y y8 y9,((0<=x/\x < S)/\(0<=y/\y < S)/\x<=y)/\oC [.fz<|.int c,.fz<|.int n,.fz<|.int L,.fz<|.int o,.ow<|xs.map D.int,.ow<|ys.map D.int,.fz<|.int S,.fz<|.int<|0+(k:Nat),x8,x9] = some (.nx [.fz<|.int c,.fz<|.int n,.fz<|.int L,.fz<|.int o,.ow<|(xs++[x]).map D.int,.ow<|(ys++[y]).map D.int,.fz<|.int S,.fz<|.int<|0+(k:Nat),y8,y9]):=by
 obtain⟨v,hv,ev⟩:=mU c (o+(0+(k))) 1000037 jc jc jb jb;have h1:0<=v % (1+S / 2):=Ts _ jc;have h2:v % _ < 1+S / 2:=Rb _ jc;generalize hz:1+v % (1+S / 2)=z;have h3:0<=v / 7 % (S - z+1):=Ts _ jc;have h4:v / 7 % _ < S - z+1:=Rb _ jc;refine⟨v / 7 % (S - z+1),v / 7 % (S - z+1)+z - 1,.fz<|.int v,.fz<|.int z,jc,?_⟩;unfold oC;rw[bU<|(vO J (!14) J).trans ev];unfold jF;rw[bU (d:=.int z) (by rw[<-hz];exact zJ J (zJ J (zJ J (!14) J)<|Qc jc) J)];unfold jB;generalize hg:v / 7 % _=x;rw[wQ (O':=[.fz _,.fz _,.fz _,.fz _,.ow<|(xs++[x]).map _,.ow _,.fz _,.fz _,.fz _,.fz _])<|(zSX (d:=.int x) (by rw[<-hg];exact zJ (!14) (zJ (!14) J J)<|Qc jc) rfl (by rw[Qy];lia)).trans (by rw[Wz];rfl)];have hlo:zIp 4 eV7 [.fz<|.int c,.fz<|.int n,.fz<|.int L,.fz<|.int o,.ow<|(xs++[x]).map D.int,.ow<|ys.map D.int,.fz<|.int S,.fz<|.int<|0+(k),.fz<|.int v,.fz<|.int z]=some (.int x):=by show atI _ _=_;rw[Int.zero_add];unfold atI ixN;rw[Qh jc,Qh (by rw[Qy,Qo,hx];show _ < ((k+1):Int);lia),<-hx];simp
 exact(zSX (zJ (zJ hlo J J) J J) J (by rw[Qy];lia)).trans (by rw[Wz (l₁:=ys)];rfl)
section
variable (hd:dm=2\/dm=3) (hL:L<=62)
include hd hL
def zLx (c o:Int)(ho:0<=o/\o<=100):∃b,Bk dm b/\flB dm L b=true/\cW [.int c,.int (dm:Nat),.int (L:Nat),.int o]=some (bxD b):=by
 obtain⟨O',e,xs,ys,y7,y8,y9,l1,l2,hp,hx,hy,rfl⟩:=cI (g:=gN 7) (P:=λi O=>∃(xs ys:ki) (y7 y8 y9:B),xs.length=i/\ys.length=i/\(∀p∈xs.zip ys,p.1<=p.2)/\(∀x∈xs,0<=x/\x < 2^L)/\(∀x∈ys,0<=x/\x < 2^L)/\O=[.fz _,.fz<|.int<|dm,.fz<|.int<|L,.fz _,.ow<|xs.map _,.ow<|ys.map _,.fz _,y7,y8,y9]) (tS 0 dm) 0 (λi d hd' O hO=>by obtain⟨hi,rfl⟩:=fZ hd';obtain⟨xs,ys,y7,y8,y9,l1,l2,hp,hx,hy,rfl⟩:=hO;obtain⟨x,y,z8,z9,q,e⟩:=zL7 c _ _ o _ ho (rO L) i jc xs ys jc jc y8 y9;refine⟨_,_,J,e,xs++[x],ys++[y],_,_,_,by rw[Qo,l1];rfl,by rw[Qo,l2];rfl,?_,zWC hx q.1,zWC hy q.2.1,J⟩;rw[List.zip_append jc];exact zWC hp q.2.2) [.fz _,.fz _,.fz _,.fz _,.ow<|([]).map _,.ow<|([]).map _,.fz _,.no,.no,.no] ⟨[],[],_,_,_,rfl,rfl,(λp hp=>by cases hp),(λp hp=>by cases hp),(λp hp=>by cases hp),rfl⟩
 rw[pI,Yk] at l1 l2;refine⟨_,⟨hd,l1,l2,hp⟩,zHj ⟨l1,hx⟩ ⟨l2,hy⟩,(yG (zTU J hL)<|yM (O':=[.fz<|.int c,.fz<|.int<|dm,.fz<|.int<|L,.fz<|.int o,.ow<|xs.map D.int,.ow<|ys.map D.int,.fz<|.int<|2^L,y7,y8,y9]) ?_ ?_)⟩
 .unfold vQ;rw[zQF rfl,show iR _ []=some (tS 0 dm) from by rcases hd with rfl | rfl<;>rfl];exact e
 .rfl
omit hd hL in
def zWg {b:Bx}(h:x∈b.1)(hx:¬(0<=x/\x < 2^L)):flB dm L b=false:=by
 cases e:flB dm L b with
 | false=>rfl
 | true=>exact absurd ((lH.mp (Wb.mp e).1).2 x h) hx
def zFq (c:Int):∃m b,Bk m b/\flB dm L b=false/\nR [.int c,.int (dm:Nat),.int (L:Nat)]=some (bxD b):=by
 obtain⟨v,hv,ev⟩:=mU c 32 1000039 jb jb jb jb;obtain⟨⟨lo,hi⟩,hb,hfl,eb⟩:=zLx hd hL c 60 jb;have hfx:=(lH.mp (Wb.mp hfl).1).2;obtain⟨u,hu0,hu⟩:∃u,(2^L<=u\/u <= - 2^L)/\(dU [.fz<|.int c,.fz<|.int (dm:Nat),.fz (!16),.fz<|.int v,.fz<|yP lo,.fz<|yP hi,.fz<|.int<|v % (dm:Nat),.no]).bind vR=(pQ [.fz<|.int c,.fz<|.int (dm:Nat),.fz (!16),.fz<|.int v,.fz<|yP lo,.fz<|yP hi,.fz<|.int<|v % (dm:Nat),.fz<|.int u]).bind vR:=by
  have e1:wD (zWo jq eV2) (xO (wM eV3 jw) ju) [.fz<|.int c,.fz<|.int (dm:Nat),.fz (!16),.fz<|.int v,.fz<|yP lo,.fz<|yP hi,.fz<|.int<|v % (dm:Nat),.no]=some (.int<|2^L+v / 6 % 4):=zJ (zTU J hL) (zJ (!14) J J) J;have hq:(2:Int)^L<=2^L+v / 6 % 4:=jc;generalize(2:Int)^L+v / 6 % 4=q at e1 hq;refine⟨if v / 3 % 2=1 then -q else q,by split<;>lia,(yG e1 ?_)⟩;unfold fN;have e2:eB2 gEq (xO (wM eV3 jt) jr) jq [.fz<|.int c,.fz<|.int (dm:Nat),.fz (!16),.fz<|.int v,.fz<|yP lo,.fz<|yP hi,.fz<|.int<|v % (dm:Nat),.fz<|.int q]=some (decide (v / 3 % 2=1)):=aL<|zJ (!14) rfl rfl;dsimp only[List.set];unfold sIf
  by_cases h:v / 3 % 2=1
  .rw[Qc h] at e2;rw[Qh h];exact yM (by rw[e2];rfl) rfl
  .rw[Qn h] at e2;rw[Qv h];exact yM (by rw[e2];rfl) rfl
 have front {R:qi} (h:(pQ [.fz<|.int c,.fz<|.int (dm:Nat),.fz (!16),.fz<|.int v,.fz<|yP lo,.fz<|yP hi,.fz<|.int<|v % (dm:Nat),.fz<|.int u]).bind vR=R):nR [.int c,.int (dm:Nat),.int (L:Nat)]=R:=by exact yG ((vO J J J).trans ev)<|yM (O':=[.fz<|.int c,.fz<|.int (dm:Nat),.fz (!16),.fz<|.int v,.fz<|yP lo,.fz<|yP hi,.no,.no]) (by unfold zYQ;rw[(zMm J J J J).trans eb];rfl)<|yG (d:=.int<|v % (dm:Nat)) (zJ J rfl<|Qc jc)<|hu.trans h
 have e5:eB2 gEq (xO (wM eV3<|eC<|.int 24) jv) jp [.fz<|.int c,.fz<|.int (dm:Nat),.fz (!16),.fz<|.int v,.fz<|yP lo,.fz<|yP hi,.fz<|.int<|v % (dm:Nat),.fz<|.int u]=some (decide (v / 24 % 5=0)):=aL<|zJ (!14) rfl rfl
 by_cases h:v / 24 % 5=0
 .rw[Qc h] at e5;refine⟨5 - dm,(List.replicate (5 - dm) 0,List.replicate (5 - dm) 0),⟨jc,Rw,Rw,λp hp=>?_⟩,by unfold flB zVe;rw[Rw,Qn<|show ¬5 - dm=dm by lia];rfl,front ?_⟩
  .simp_all
  .unfold pQ;rw[zZu (d:=bxD (List.replicate (5 - dm) 0,List.replicate (5 - dm) 0)) (by unfold sIf;rw[e5];rcases hd with rfl | rfl<;>rfl)];rfl
 .rw[Qn h] at e5;have back {R:qi} (h:(fV [.fz<|.int c,.fz<|.int (dm:Nat),.fz (!16),.fz<|.int v,.fz<|yP lo,.fz<|yP hi,.fz<|.int<|v % (dm:Nat),.fz<|.int u]).bind vR=R):nR [.int c,.int (dm:Nat),.int (L:Nat)]=R:=front (by
   exact yM (by unfold sIf;rw[e5];rfl) h)
  obtain⟨hm,h1,h2,h3⟩:=hb;dsimp only at h1 h2 h3;rcases hm with rfl | rfl
  .obtain⟨a0,a1,rfl⟩:=zYe h1;obtain⟨b0,b1,rfl⟩:=zYe h2;have q0:a0<=b0:=h3 (a0,b0) je;have q1:a1<=b1:=h3 (a1,b1) je;have hx:v % (2:Nat)=0\/v % (2:Nat)=1:=jc;rcases hx with e | e<;>rw[e] at back
   .exact⟨2,([a0+u,a1],[b0+u,b1]),⟨.inl rfl,rfl,rfl,by simp;lia⟩,zWg (x:=a0+u) je (by have:=hfx a0 je;lia),back rfl⟩
   .exact⟨2,([a0,a1+u],[b0,b1+u]),⟨.inl rfl,rfl,rfl,by simp;lia⟩,zWg (x:=a1+u) je (by have:=hfx a1 je;lia),back rfl⟩
  .obtain⟨a0,a1,a2,rfl⟩:=zXY h1;obtain⟨b0,b1,b2,rfl⟩:=zXY h2;have q0:a0<=b0:=h3 (a0,b0) je;have q1:a1<=b1:=h3 (a1,b1) je;have q2:a2<=b2:=h3 (a2,b2) je;have hx:v % (3:Nat)=0\/v % (3:Nat)=1\/v % (3:Nat)=2:=jc;rcases hx with e | e | e<;>rw[e] at back
   .exact⟨3,([a0+u,a1,a2],[b0+u,b1,b2]),⟨.inr rfl,rfl,rfl,by simp;lia⟩,zWg (x:=a0+u) je (by have:=hfx a0 je;lia),back rfl⟩
   .exact⟨3,([a0,a1+u,a2],[b0,b1+u,b2]),⟨.inr rfl,rfl,rfl,by simp;lia⟩,zWg (x:=a1+u) je (by have:=hfx a1 je;lia),back rfl⟩
   .exact⟨3,([a0,a1,a2+u],[b0,b1,b2+u]),⟨.inr rfl,rfl,rfl,by simp;lia⟩,zWg (x:=a2+u) je (by have:=hfx a2 je;lia),back rfl⟩
def zH4 (c:Int)(hn:Nms ns):∃w z m b,z∈ns/\Bk m b/\iM [.int c,.int (dm:Nat),.int (L:Nat),.lst<|ns.map .str]=some (deD w z b):=by
 obtain⟨v,hv,ev⟩:=mU c 33 1000081 jb jb jb jb;obtain⟨b1,hb1,_,eb1⟩:=zLx hd hL c 64 jb;obtain⟨m2,b2,hb2,_,eb2⟩:=zFq hd hL c;obtain⟨k,hk,ek⟩:∃k:Nat,k < 7/\v / 8 % 7=(k:Int):=⟨(v / 8 % 7).toNat,jc,jc⟩
 obtain⟨z,hz⟩:∃z,ns[k]?=some z:=⟨_,Ql (by rw[hn.n7];exact hk)⟩
 have aw:∃w,atD (.lst [.str Ap,.str Ap,.str Ap,.str Ap,.str AF,.str AF,.str AF,.str Ax]) (.int<|v % 8)=some (.str<|wS w):=by
  have:v % 8=0\/v % 8=1\/v % 8=2\/v % 8=3\/v % 8=4\/v % 8=5\/v % 8=6\/v % 8=7:=jc;rcases this with e | e | e | e | e | e | e | e<;>rw[e]
  .exact⟨.put,rfl⟩
  .exact⟨.put,rfl⟩
  .exact⟨.put,rfl⟩
  .exact⟨.put,rfl⟩
  .exact⟨.move,rfl⟩
  .exact⟨.move,rfl⟩
  .exact⟨.move,rfl⟩
  .exact⟨.take,rfl⟩
 obtain⟨w,ew⟩:=aw;have e1:eIx eV3 (xO (wM eV4 jy) jx) [.fz<|.int c,.fz<|.int (dm:Nat),.fz (!16),.fz<|.lst<|ns.map .str,.fz<|.int v,.no,.no]=some (.str z):=by
  have e2:xO (wM eV4 jy) jx [.fz<|.int c,.fz<|.int (dm:Nat),.fz (!16),.fz<|.lst<|ns.map .str,.fz<|.int v,.no,.no]=some (.int (k:Nat)):=by rw[<-ek];exact zJ (!14) J J
  rw[wJ rfl e2,zTo _ (d:=z) (by rw[hn.n7];exact hk),Ei,hz];rfl
 have t:eB2 gEq (xO (wM eV4<|eC<|.int 56) jy) jp [.fz<|.int c,.fz<|.int (dm:Nat),.fz (!16),.fz<|.lst<|ns.map .str,.fz<|.int v,.fz<|.str z,.fz<|bxD b1]=some (decide (v / 56 % 8=0)):=aL<|zJ (!14) rfl rfl;have main (b:Bx) (h:sIf (eB2 gEq (xO (wM eV4<|eC<|.int 56) jy) jp) (yJ 6<|yZ 3 nR<|zY eV0<|zY eV1<|zY eV2 zS) vU [.fz<|.int c,.fz<|.int (dm:Nat),.fz (!16),.fz<|.lst<|ns.map .str,.fz<|.int v,.fz<|.str z,.fz<|bxD b1]=some (.nx [.fz<|.int c,.fz<|.int (dm:Nat),.fz (!16),.fz<|.lst<|ns.map .str,.fz<|.int v,.fz<|.str z,.fz<|bxD b])):iM [.int c,.int (dm:Nat),.int (L:Nat),.lst<|ns.map .str]=some (deD w z b):=by refine yG ((vO J J J).trans ev)<|yG e1<|yG ((zMm J J J J).trans eb1)<|yM h ?_;unfold zZZ;rw[tE];exact lI (zM ((wJ J (!14)).trans ew)<|zM rfl<|zM rfl rfl)<|Qt rfl
 by_cases h:v / 56 % 8=0
 .refine⟨w,z,m2,b2,El hz,hb2,main b2 ?_⟩;unfold sIf yJ;rw[t,Qc h,(vO J J J).trans eb2];rfl
 .refine⟨w,z,dm,b1,El hz,hb1,main b1 ?_⟩;unfold sIf;rw[t,Qn h];rfl
end
def Gd (dm L:Nat)(b:Bx):Prop:=(∃m,Bk m b)/\flB dm L b=true
def Gd.bk {b:Bx}(h:Gd dm L b):Bk dm b:=by obtain⟨⟨m,hb⟩,hf⟩:=h;have:=(lH.mp (Wb.mp hf).1).1;rw[hb.2.1] at this;exact this ▸ hb
def Lv (dm L:Nat):Prop:=dm=2/\L<=6\/dm=3/\L<=4
def R1 (cv:D)(L:Nat)(b:Bx)(q:km):Prop:=xE [cv,.int (L:Nat),bxD b]=some (yA q)/\(q.Pairwise λp q=>p.1≠q.1)/\q.length<=4096
def RO (cv:D)(dm L:Nat)(R:Bx->km):Prop:=∀b,Gd dm L b->R1 cv L b (R b)
def shB (b c:Bx):Bool:=okB (mxL b.1 c.1)<|mnL b.2 c.2
def RS (dm L:Nat)(R:Bx->km):Prop:=∀b c,Gd dm L b->Gd dm L c->(Sh (R b) (R c)↔shB b c=true)
theorem zQJ {L:Nat}:∀ {p a b:ki},(∀x∈a,0<=x)->(∀x∈b,x < 2^L)->InB p a b->InB p (a.map λ_=>0) (wU (a.map λ_=>0)<|2^L)
 | [],[],[],_,_,_=>trivial
 | x::p,l::a,h::b,h1,h2,⟨⟨u,v⟩,r⟩=>⟨⟨Ii (h1 l Qf) u,by have:=h2 h Qf;show x<=0+2^L - 1;lia⟩,zQJ (λx hx=>h1 x<|Qp _ hx) (λx hx=>h2 x<|Qp _ hx) r⟩
def zHe (hv:Lv dm L)(ok:PtsOk dm ps)(nm:Str)(j:Bool):∃R,RO (!27) dm L R/\RS dm L R:=by
 obtain⟨S,hS⟩:=zSL (show dm=2\/dm=3 by rcases hv with h | h<;>lia) ok j (L:=L) (by rcases hv with⟨rfl,h⟩ | ⟨rfl,h⟩<;>lia);have len:∀ {b:Bx},Gd dm L b->_/\_:=λg=>⟨lH.mp (Wb.mp g.2).1,lH.mp (Wb.mp g.2).2⟩
 refine⟨λb=>S b.1 b.2,λb g=>?_,λb c g g'=>?_⟩
 .obtain⟨h1,h2,h3,_⟩:=hS b.1 b.2 (len g).1.1 (len g).2.1;exact⟨h1,h2,h3⟩
 .obtain⟨l1,l2⟩:=len g;obtain⟨l3,l4⟩:=len g';have ib:=λp=>zTr (p:=p) (l:=c.1) (t:=c.2) (by rw[l1.1,l3.1]) (by rw[l2.1,l4.1]);unfold shB;rw[(hS b.1 b.2 l1.1 l2.1).2.2.2 c.1 c.2 l3.1 l4.1,zK2<|by rw[zTx (by rw[l1.1,l3.1]),zTg (by rw[l2.1,l4.1]),l3.1,l4.1]];refine⟨λ⟨p,_,h⟩=>⟨p,(ib p).mpr h⟩,λ⟨p,h⟩=>?_⟩;obtain⟨h1,h2⟩:=(ib p).mp h;have hz:(zs dm)=b.1.map λ_=>(0):=by
   unfold zs;rw[<-l1.1];simp[List.map_const']
  exact⟨p,by rw[hz];exact zQJ (λx hx=>(l1.2 x hx).1) (λx hx=>(l2.2 x hx).2) h1,h1,h2⟩
def mP:(kb.lookup z).isSome=true↔z∈keys kb:=by unfold keys;simp_all
def lM {b:Bx}(h:kb.lookup z=some b):(z,b)∈kb:=by
 induction kb with
 | nil=>cases h
 | cons p r ih =>
  rw[Wp] at h;split at h
  .rename_i e;cases h;rw[eq_of_beq e];exact Qf
  .exact Qp _ (ih h)
def zFz (nd:(keys kb).Nodup){b c:Bx}(h1:(z,b)∈kb)(h2:(z,c)∈kb):b=c:=by
 induction kb with
 | nil=>cases h1
 | cons p r ih =>
  obtain⟨n1,n2⟩:=Rm.mp<|show(p.1::keys r).Nodup from nd;have up {y:Bx} (h:(z,y)∈r):z∈keys r:=Wg.mpr ⟨_,h,J⟩
  grind
theorem eN (z y:Str):∀kb:Kb,(qQ kb z).lookup y=if y=z then none else kb.lookup y
 | []=>by simp[qQ]
 | p::r=>by
  have ih:=eN z y r;unfold qQ at ih ⊢;rw[Rz,Wp]
  by_cases e:p.1=z
  .rw[Qn λh=>h e,Qv je,ih]
   by_cases e2:y=z
   .simp_all
   .have:(y==p.1)=false:=by simpa using λh=>e2<|h.trans e
    rw[Qv e2,Qv e2,this]
  .rw[Qc e,Qh rfl,Wp,ih]
   by_cases e2:y=z
   .have:(y==p.1)=false:=by simpa using λh=>e<|h.symm.trans e2
    rw[Qh e2,Qh e2,this]
   .simp_all
theorem zQN (z y:Str)(b:Bx):∀kb:Kb,(zVv kb z b).lookup y=if y=z then(kb.lookup y).map λ_=>b else kb.lookup y
 | []=>by simp[zVv]
 | p::r=>by
  have ih:=zQN z y b r;unfold zVv at ih ⊢;rw[Qx,Wp (as:=r)]
  by_cases e:p.1=z
  .rw[Qh e,Wp,ih]
   by_cases e2:y=z
   .simp_all
   .have:(y==p.1)=false:=by simpa using λh=>e2<|h.trans e
    rw[Qv e2,Qv e2,this]
  .rw[Qv e,Wp,ih]
   by_cases e2:y=z
   .have:(y==p.1)=false:=by simpa using λh=>e<|h.symm.trans e2
    rw[Qh e2,Qh e2,this]
   .simp_all
def zQU (hz:kb.lookup z=none)(b:Bx)(y:Str):(kb++[(z,b)]).lookup y=if y=z then some b else kb.lookup y:=by
 rw[List.lookup_append]
 by_cases e:y=z
 .rw[e,hz];simp
 .have:(y==z)=false:=by simpa using e
  rw[Qv e,Wp,this];simp
def zKL (z y:Str)(b:Bx)(kb:Kb):(zZb kb z b).lookup y=if y=z then some b else kb.lookup y:=by
 unfold zZb;split
 .rename_i h;rw[zQN]
  by_cases e:y=z
  .rw[Qh e,Qh e,e];cases hk:kb.lookup z with
   | none=>rw[hk] at h;cases h
   | some _=>rfl
  .simp_all
 .rename_i h;exact zQU (Option.not_isSome_iff_eq_none.mp h) b y
def zR4 (z:Str)(kb:Kb):keys (qQ kb z)=(keys kb).filter λy=>decide (y≠z):=by unfold keys qQ;rw[Ut];rfl
def zTk (h:l.Nodup)(hz:z∉l):(l++[z]).Nodup:=Uj.mpr ⟨h,Rm.mpr ⟨je,.nil⟩,λa ha b hb e=>hz (!8)⟩
def zGt {b:Bx}(h:(keys kb).Nodup):(keys<|zZb kb z b).Nodup:=by
 unfold zZb;split
 .have:keys (zVv kb z b)=keys kb:=by
   unfold keys zVv;rw[Wj];exact Es λp _=>by show(if p.1=z then _ else p).1=_;split<;>rfl
  rw[this];exact h
 .rename_i q;show((kb++[_]).map _).Nodup;rw[Wz];exact zTk h λw=>q<|mP.mpr w
def zL4 (h:(keys kb).Nodup):(keys<|qQ kb z).Nodup:=by rw[zR4];exact h.filter _
section
variable{R:Bx->km}
def zYb (R:Bx->km)(kb:Kb):qm:=kb.flatMap λp=>(R p.2).map<|en p.1
theorem zOO:∀kb:Kb,(∀p∈kb,(R p.2).length<=4096)->(zYb R kb).length<=4096*kb.length
 | [],_=>Qg _
 | p::r,hR=>by have:=zOO r λq hq=>hR q<|Qp _ hq;have h:=hR p Qf;show((R p.2).map _++zYb R r).length<=4096*(_+1);rw[Qo,Qy];lia
def zLg {a:Et}(h:a∈zYb R kb):a.z∈keys kb:=by obtain⟨p,hp,ha⟩:=Wm.mp h;obtain⟨q,_,rfl⟩:=v7 ha;exact Wg.mpr ⟨p,hp,J⟩
theorem zOL {z:Str}{b:Bx}:∀kb:Kb,(∀c,(z,c)∈kb->c=b)->(zYb R kb).filter (bM z<|R b)=zYb R (qQ kb z)
 | [],_=>rfl
 | p::r,h=>by
  show((R p.2).map _++zYb R r).filter _=_;rw[Ua,(zOL r λc hc=>h c<|Qp _ hc)];unfold qQ;rw[Rz]
  by_cases e:p.1=z
  .rw[Qn λw=>w e,Ys.mpr]
   .rfl
   .intro a ha;obtain⟨q,hq,rfl⟩:=v7 ha;rw[(h p.2 (by rw[<-e];exact Qf))] at hq;unfold bM;rw[Um.mpr ⟨q,hq,by rw[e];exact qU.mpr J⟩];decide
  .rw[Qc e,Ur.mpr]
   .rfl
   .intro a ha;obtain⟨q,hq,rfl⟩:=v7 ha;unfold bM;rw[Bool.not_eq_true',List.any_eq_false];exactλs _ w=>e<|Wi Et.z<|qU.mp w
end
structure Iv (ns:kh)(R:Bx->km)(dm L n:Nat)(r:Rt)(kb kt:Kb):Prop where
 ok:rOk n r
 pm:(rE r).Perm<|zYb R kb
 gd:∀p∈kb,Gd dm L p.2
 n1:(keys kb).Nodup
 n2:(keys kt).Nodup
 sm:∀z,kb.lookup z=kt.lookup z
 sb:∀z∈keys kb,z∈ns
section
variable (hn:4<=n) (h12:n<=50) (hv:Lv dm L){R:Bx->km} (hR:RO (!27) dm L R) (hs:Nms ns)
include hs in
def Iv.seven (i:Iv ns R dm L n r kb kt):kb.length<=7:=by have:=i.n1.length_le_of_subset λz hz=>i.sb z hz;unfold keys at this;rw[Qy,hs.n7] at this;exact this
theorem zGY (h:(keys kb).Nodup):kb.Nodup:=List.Pairwise.of_map _ (λ_ _ h e=>h<|Wi _ e) h
theorem Iv.pr (i:Iv ns R dm L n r kb kt):kb.Perm kt:=(Pk (zGY i.n1)<|zGY i.n2).mpr λ(z,b)=>⟨λh=>lM<|(i.sm z).symm.trans<|zXA i.n1 h,λh=>lM<|(i.sm z).trans<|zXA i.n2 h⟩
include hR in
theorem zLb (g:∀p∈kb,Gd dm L p.2):(zYb R kb).length<=4096*kb.length:=zOO kb λp hp=>(hR _<|g p hp).2.2
include hR in
def Iv.le (i:Iv ns R dm L n r kb kt):(rE r).length<=4096*kb.length:=by rw[i.pm.length_eq];exact zLb hR i.gd
theorem Iv.has (i:Iv ns R dm L n r kb kt){b:Bx}(h:kb.lookup z=some b):∀p∈R b,en z p∈rE r:=λp hp=>i.pm.symm.subset<|Wm.mpr ⟨_,lM h,Wg.mpr ⟨p,hp,rfl⟩⟩
def Iv.cut (i:Iv ns R dm L n r kb kt){b:Bx}(h:kb.lookup z=some b):((rE r).filter<|bM z<|R b).Perm<|zYb R<|qQ kb z:=by rw[<-zOL kb λc hc=>zFz i.n1 hc<|lM h];exact i.pm.filter _
theorem zV2 (h:kb.lookup z=none):z∉keys kb:=λw=>by have:=mP.mpr w;rw[h] at this;cases this
def zVQ (kb:Kb)(z:Str):(qQ kb z).lookup z=none:=by rw[eN,Qh rfl]
def zJs {b:Bx}(hz:kb.lookup z=none)(hb:Gd dm L b)(zn:z∈ns)(ok':rOk n r')(pm:(rE r').Perm<|(R b).map (en z)++zYb R kb)(gd:∀p∈kb,Gd dm L p.2)(n1:(keys kb).Nodup)(sb:∀z∈keys kb,z∈ns)(n2:(keys kt).Nodup)(sm:∀y,y≠z->kb.lookup y=kt.lookup y):Iv ns R dm L n r' (kb++[(z,b)])<|zZb kt z b:=by
 have hk:keys (kb++[(z,b)])=keys kb++[z]:=by unfold keys;rw[Wz];rfl
 refine⟨ok',pm.trans ?_,λp hp=>?_,by rw[hk];exact zTk n1<|zV2 hz,zGt n2,λy=>?_,λy hy=>?_⟩
 .unfold zYb;rw[Tr];refine List.perm_append_comm.trans ?_;rw[Em,List.flatMap_nil,Wf]
 .rcases v6 hp with h | h
  .exact gd p h
  .rw[Qb.mp h];exact hb
 .rw[zQU hz,zKL];simp_all
 .rw[hk] at hy;rcases v6 hy with h | h
  .simp_all
  .simp_all
def Iv.less (i:Iv ns R dm L n r kb kt)(z:Str):(∀p∈qQ kb z,Gd dm L p.2)/\(keys<|qQ kb z).Nodup/\(∀y∈keys (qQ kb z),y∈ns)/\(∀y,(qQ kb z).lookup y=(qQ kt z).lookup y)/\(keys<|qQ kt z).Nodup:=by refine⟨λp hp=>i.gd p (Eo.mp hp).1,zL4 i.n1,λy hy=>i.sb y ?_,λy=>by rw[eN,eN,i.sm y],zL4 i.n2⟩;rw[zR4] at hy;exact(Eo.mp hy).1
include hn h12 hv hR hs in
def Iv.put (i:Iv ns R dm L n r kb kt){m:Nat}{b:Bx}(zn:z∈ns)(hb:Bk m b)(hk:kb.lookup z=none)(hf:flB dm L b=true):∃r' kb',kF uT 3 (!19) [.str z,bxD b]=some (.non,yv (!27) L n r' kb')/\Iv ns R dm L n r' kb' (zZb kt z b):=by
 have hL:L<=100:=by rcases hv with h | h<;>lia
 have hle:=i.le hR;have g:Gd dm L b:=⟨⟨m,hb⟩,hf⟩
 obtain⟨s1,s2,s3⟩:=hR _ g;have l7:kb.length+1<=7:=by
  have:=(zTk i.n1<|zV2 hk).length_le_of_subset λy hy=>by
   rcases v6 hy with h | h
   .exact i.sb y h
   .simp_all
  unfold keys at this;rw[Qo,Qy,hs.n7] at this;exact this
 obtain⟨r',H',pm,e⟩:=zFQ hn h12 i.ok hL hb.sm hf s1 s2 hk jc (λp hp a ha q=>zV2 hk (by have:=zLg<|i.pm.subset ha;rw[show a.z=z from Wi Prod.snd q] at this;exact this)) jc;exact⟨r',_,e,zJs hk g zn H' (pm.trans<|Il _ i.pm) i.gd i.n1 i.sb i.n2 λy _=>i.sm y⟩
include hn h12 hv hR hs in
def zNf (i:Iv ns R dm L n r kb kt){w:Wd}{m:Nat}{b:Bx}(zn:z∈ns)(hb:Bk m b):∃r' kb',kF uU 3 (!19) [deD w z b]=some (.str<|wrd<|xW w (kt.lookup z).isSome<|flB dm L b,yv (!27) L n r' kb')/\Iv ns R dm L n r' kb' (if xW w (kt.lookup z).isSome (flB dm L b)=none then nxT kt z b w else kt):=by
 have hz:=hs.le z zn;have hL:L<=100:=by rcases hv with h | h<;>lia
 have h7:=i.seven hs;have hle:=i.le hR;rw[<-i.sm z];cases hx:xW w (kb.lookup z).isSome (flB dm L b) with
 | some c=>exact⟨r,kb,zJv hL hb.sm hz hx,by rw[Qv λh=>by cases h];exact i⟩
 | none =>
  cases w with
  | take =>
   cases hk:kb.lookup z with
   | none=>rw[hk] at hx;cases hx
   | some b0 =>obtain⟨s1,s2,s3⟩:=hR _<|i.gd _<|lM hk;obtain⟨r',H',pm,e⟩:=zOa (cv:=!27) (L:=L) (kb:=kb) hn h12 i.ok s1 hk s2 (i.has hk) jc;obtain⟨q1,q2,q3,q4,q5⟩:=i.less z;exact⟨r',_,zTa hL hb.sm hz hx e,⟨H',by rw[pm];exact i.cut hk,q1,q2,q5,q4,q3⟩⟩
  | put =>
   cases hk:kb.lookup z with
   | some b0=>rw[hk] at hx;cases hx
   | none =>
    cases hf:flB dm L b with
    | false=>rw[hk,hf] at hx;cases hx
    | true =>obtain⟨r',kb',e,i'⟩:=Iv.put (nm:=nm) (j:=j) hn h12 hv hR hs i zn hb hk hf;exact⟨r',_,zTa hL hb.sm hz hx e,i'⟩
  | move =>
   cases hk:kb.lookup z with
   | none=>rw[hk] at hx;cases hx
   | some b0 =>
    cases hf:flB dm L b with
    | false=>rw[hk,hf] at hx;cases hx
    | true =>
     have g:Gd dm L b:=⟨⟨m,hb⟩,hf⟩
     obtain⟨s1,s2,s3⟩:=hR _ g;obtain⟨t1,t2,t3⟩:=hR _<|i.gd _<|lM hk;obtain⟨q1,q2,q3,q4⟩:=i.less z;have ct:=i.cut hk;have l6:(qQ kb z).length+1<=7:=by
      have:=(zTk q2<|zV2<|zVQ kb z).length_le_of_subset (l₂:=ns) λy hy=>by
       rcases v6 hy with h | h
       .simp_all
       .simp_all
      unfold keys at this;rw[Qo,Qy,hs.n7] at this;exact this
     have le:=zLb hR q1;obtain⟨r',H',pm,e⟩:=zIi hn h12 i.ok hL hb.sm hf s1 s2 t1 t2 hk jc (i.has hk) (λa ha q=>zV2 (zVQ kb z) (by have:=zLg<|ct.subset ha;rw[q] at this;exact this)) jc (by rw[ct.length_eq];lia);refine⟨r',_,zTa hL hb.sm hz hx e,zJs (zVQ kb z) g zn H' (pm.trans<|Il _ ct) q1 q2 q3 i.n2 λy hy=>?_⟩;rw[eN,Qv hy];exact i.sm y
end
theorem zRJ {h:Nat}{pg:B}{self:kd->ka}:∀(xs:List<|It<|h+1) (j7:qm) (x2:B),(∀x∈xs,self [pgD h x]=some ((zG h x).map dE))->j7.length+(zG (h+1) xs).length<=100000 -> ∃y2,uC (gN 2) (tR self) (xs.map<|iD<|h+1) [pg,.ow<|j7.map dE,x2]=some (.nx [pg,.ow<|(j7++zG (h+1) xs).map dE,y2])
 | [],j7,x2,_,_=>⟨x2,by simp[uC]⟩
 | x::r,j7,x2,hx,hl=>by
  rw[vX,Qo] at hl;have hL:(zG h x).length=(pL (h+1) x).length:=rfl;obtain⟨y2,e2⟩:=zRJ (pg:=pg) (self:=self) r (j7++zG h x) (.fz<|iD (h+1) x) (λz hz=>hx z<|Qp _ hz) (by rw[Qo];lia);refine⟨y2,?_⟩;rw[Qx,wL (ρ1:=[pg,.ow<|j7.map dE,.fz<|iD (h+1) x]) (ρ2:=[pg,.ow<|(j7++zG h x).map dE,.fz<|iD (h+1) x]) rfl ?_,e2,vX,Ra]
  .rfl
  .unfold tR zVj;rw[show sU 1 self (zY eV2 zS) [pg,.ow<|j7.map dE,.fz<|iD (h+1) x]=some ((zG h x).map dE) from(zJz J).trans (hx x Qf),Qr];show(if (j7.map dE).length+((zG h x).map dE).length<=lim then some (Out.nx [pg,.ow<|j7.map dE++(zG h x).map dE,.fz<|iD (h+1) x]) else none)=_;rw[Qh (by rw[Qy,Qy];show _<=100000;lia),Wz]
theorem zWB {n:Nat}(hn:4<=n):∀(h:Nat) (xs:!7) (k:Nat),Way n h xs->(zG h xs).length<=50000->h < k->xL k [pgD h xs]=some ((zG h xs).map dE)
 | 0,xs,k+1,H,_,_=>by
  show(vF (xL k) [.fz<|pgD 0 xs,.no,.no]).bind mM=_;refine zOt ?_ ?_
  .rfl
  .rw[uS];unfold zXL;rw[w9 (h:=0) (xs:=xs) rfl];rfl
 | h+1,xs,k+1,H,hl,hk=>by
  show(vF (xL k) [.fz<|pgD (h+1) xs,.no,.no]).bind mM=_;refine zQX (O':=[.fz<|pgD (h+1) xs,.no,.no]) ((jR (b:=false) J).trans J)<|zQX (O':=[.fz<|pgD (h+1) xs,.ow [],.no]) rfl ?_;obtain⟨y2,e⟩:=zRJ (pg:=.fz<|pgD (h+1) xs) (self:=xL k) xs [] .no (λx hx=>by obtain⟨c1,c2,c3⟩:=wK<|H.2.2 x hx;have hxl:(zG h x).length<=(zG (h+1) xs).length:=(rH (f:=pL<|h+1) hx).length_le;exact zWB hn h x k ⟨c2,.inr jc,c3⟩ jc jc) (by simp only[Pg];lia)
  refine zQX (O':=[.fz<|pgD (h+1) xs,.ow<|(zG (h+1) xs).map dE,y2]) ?_ J;unfold vQ;rw[zZ2<|w9 (h:=h+1) (xs:=xs) rfl,Qr];exact e
def zTd (hn:4<=n){xs:!7}(H:RtOk n h xs)(hl:(zG h xs).length < 32000):rV [soD n ⟨h,xs⟩]=some ((zG h xs).map dE):=by have hd:=H.deep hn jc;show(qT [.fz _]).bind mM=_;unfold qT;rw[zXP];exact(zJz<|zJq (r:=⟨h,xs⟩) rfl).trans (zWB hn h xs 16 H.way jc jc)
def Mp (K:kh)(m:List<|Str×Str):Prop:=m.Nodup/\∀p∈m,p.1∈K/\p.2∈K
def zRS {p q:Str×Str}:p∈zRt m q↔p∈m\/p=q:=by
 unfold zRt;split
 .simp_all
 .simp
def Mp.add {a b:Str}(h:Mp K m)(ha:a∈K)(hb:b∈K):Mp K<|zRt m (a,b):=by
 refine⟨?_,λp hp=>?_⟩
 .unfold zRt;split
  .exact h.1
  .rename_i q;exact Uj.mpr ⟨h.1,Rm.mpr ⟨je,.nil⟩,λa ha b hb e=>q (!8)⟩
 .rcases zRS.mp hp with h' | rfl
  .exact h.2 p h'
  .exact⟨ha,hb⟩
theorem Mp.len (h:Mp K m)(hK:K.length<=7):m.length < 64:=by
 have:=h.1.length_le_of_subset (l₂:=K.flatMap λa=>K.map λb=>(a,b)) λp hp=>by have:=h.2 p hp;exact Wm.mpr ⟨p.1,this.1,Wg.mpr ⟨p.2,this.2,J⟩⟩
 have len:∀l:kh,(l.flatMap λa=>K.map λb=>(a,b)).length=l.length*K.length:=λl=>by
  induction l with
  | nil=>simp
  | cons a r ih=>rw[Em,Qo,ih,Qy,Qk,Nat.succ_mul];lia
 rw[len] at this;have:=Ud hK hK;lia
section
variable (hK:K.length<=7){Y x2 x3:B} (hz:z∈K)
include hK hz
theorem zKP:∀(es:qm) (m:List<|Str×Str) (x5:B),Mp K m->(∀e∈es,e.z∈K)->∃m' y5,Mp K m'/\(∀p,p∈m'↔p∈m\/∃e∈es,ltS z e.z=true/\p=(z,e.z))/\uC (gN 5) rL (es.map dE) [Y,.pt m,x2,x3,.fz<|.str z,x5]=some (.nx [Y,.pt m',x2,x3,.fz<|.str z,y5])
 | [],m,x5,h,_=>⟨m,x5,h,λp=>je,J⟩
 | e::r,m,x5,h,hk=>by
  have hk':∀a∈r,a.z∈K:=λa ha=>hk a<|Qp _ ha;have eb:rL [Y,.pt m,x2,x3,.fz<|.str z,.fz<|dE e]=if ltS z e.z=true then if m.length<=lim then some (.nx [Y,.pt<|zRt m (z,e.z),x2,x3,.fz<|.str z,.fz<|dE e]) else none else some (.nx [Y,.pt m,x2,x3,.fz<|.str z,.fz<|dE e]):=jR J;cases hlt:ltS z e.z with
  | false =>
   rw[hlt] at eb;obtain⟨m',y5,h1,h2,h3⟩:=zKP r m (.fz<|dE e) h hk';refine⟨m',y5,h1,λp=>?_,?_⟩
   .rw[h2];simp[hlt]
   .rw[Qx,wL rfl eb,h3]
  | true =>
   rw[hlt] at eb;obtain⟨m',y5,h1,h2,h3⟩:=zKP r _ (.fz<|dE e) (h.add hz<|hk e Qf) hk';refine⟨m',y5,h1,λp=>?_,?_⟩
   .rw[h2,zRS];simp only[Qj,exists_eq_or_imp,hlt,true_and];rw[or_assoc]
   .have hl:=h.len hK;rw[Qx,wL rfl (eb.trans<|Qh<|show m.length<=100000 by lia),h3]
end
section
variable (hn:4<=n) (h12:n<=50) (hO:rOk n r) (hl:(rE r).length < 32000) (hK:K.length<=7) (hz:∀e∈rE r,e.z∈K)
include hn h12 hO hl hK hz
theorem zMv:∀(as:qm) (m:List<|Str×Str) (x2 x3 x4 x5:B),(∀a∈as,a.z∈K)->Mp K m->∃m' y2 y3 y4 y5,Mp K m'/\(∀p,p∈m'↔p∈m\/∃a∈as,∃e∈rE r,iA a.f a.l e=true/\ltS a.z e.z=true/\p=(a.z,e.z))/\uC (gT<|zB (gN 2)<|zB (gN 3)<|zB (gN 4) xC) rJ (as.map dE) [.fz (!22),.pt m,x2,x3,x4,x5]=some (.nx [.fz (!22),.pt m',y2,y3,y4,y5])
 | [],m,x2,x3,x4,x5,_,h=>⟨m,x2,x3,x4,x5,h,λz=>je,J⟩
 | a::t,m,x2,x3,x4,x5,ha,h=>by
  obtain⟨m1,y5,h1,h2,h3⟩:=zKP hK (Y:=.fz (!22)) (x2:=.fz _) (x3:=.fz _) (ha a Qf) ((rE r).filter<|iA a.f a.l) m x5 h λe he=>hz e (Eo.mp he).1;obtain⟨m2,z2,z3,z4,z5,h4,h5,h6⟩:=zMv t m1 (.fz _) (.fz _) (.fz _) y5 (λb hb=>ha b<|Qp _ hb) h1;refine⟨m2,z2,z3,z4,z5,h4,λp=>?_,?_⟩
  .rw[h5,h2];simp only[Eo,Qj,exists_eq_or_imp,and_assoc,or_assoc]
  .rw[Qx,wL (ρ1:=[.fz _,.pt _,.fz _,.fz _,.fz _,x5]) rfl,h6];unfold rJ vQ;have em:pG Ad B9 3 _ (yK A1 Ct eV0) (zY eV2<|zY eV3 zS) [.fz (!22),.pt m,.fz _,.fz _,.fz<|.str a.z,x5]=some (((rE r).filter _).map dE):=(fH (gH J).2.2.1 J J (!6)).trans<|zXf hn jc hO hl a.f a.l;rw[zZ2<|vN em];exact h3
end
section
variable (hn:4<=n) (h12:n<=50) (hv:Lv dm L){R:Bx->km} (hR:RO (!27) dm L R) (hS:RS dm L R) (hs:Nms ns) (hI:Iv ns R dm L n r kb kt)
include hn h12 hR hS hs hI
def zN7:∃m:List<|Str×Str,m.Nodup/\(∀y z,(y,z)∈m↔∃b c,(y,b)∈kb/\(z,c)∈kb/\ltS y z=true/\shB c b=true)/\mT [yv (!27) L n r kb]=some ((dJ m).map dSS):=by
 have h7:=hI.seven hs;have hle:=hI.le hR;have hk:(keys kb).length=kb.length:=by unfold keys;rw[Qy]
 have hz:∀e∈rE r,e.z∈keys kb:=λe he=>zLg<|hI.pm.subset he;obtain⟨m,y2,y3,y4,y5,h1,h2,h3⟩:=zMv (cv:=!27) (L:=L) (kb:=kb) hn h12 hI.ok jc (K:=keys kb) jc hz (rE r) [] .no .no .no .no hz ⟨.nil,λ_ h=>by cases h⟩;refine⟨m,h1.1,λy z=>?_,?_⟩
 .rw[h2];have eK:∀e,e∈rE r↔∃c,(e.z,c)∈kb/\∃p∈R c,en e.z p=e:=λe=>by
   rw[hI.pm.mem_iff];unfold zYb;simp only[Wm,Wg];constructor
   .rintro⟨⟨z,c⟩,h,p,hp,rfl⟩;exact⟨c,h,p,hp,J⟩
   .rintro⟨c,h,p,hp,q⟩;exact⟨_,h,p,hp,q⟩
  constructor
  .rintro(h | ⟨a,ha,e,he,hc,hlt,q⟩)
   .cases h
   .cases q;obtain⟨b,hb,p,hp,e1⟩:=(eK a).mp ha;obtain⟨c,hc',p',hp',e2⟩:=(eK e).mp he;refine⟨b,c,hb,hc',hlt,(hS c b (hI.gd _ hc')<|hI.gd _ hb).mp ⟨p',hp',p,hp,?_⟩⟩;rw[<-e1,<-e2] at hc;have hc:(decide (p'.1<=p.2)&&decide (p.1<=p'.2))=true:=hc;simp only[Qm,Wo] at hc;exact hc
  .rintro⟨b,c,hb,hc,hlt,q⟩;obtain⟨p',hp',p,hp,q1,q2⟩:=(hS c b (hI.gd _ hc)<|hI.gd _ hb).mpr q;refine .inr ⟨en y p,(eK _).mpr ⟨b,hb,p,hp,J⟩,en z p',(eK _).mpr ⟨c,hc,p',hp',J⟩,?_,hlt,J⟩;show(decide (p'.1<=p.2)&&decide (p.1<=p'.2))=true;simp[q1,q2]
 .show(qN [.fz (!19),.no,.no,.no,.no,.no]).bind mM=_;refine zQX (O':=[.fz (!19),.pt [],.no,.no,.no,.no]) rfl<|zQX (O':=[.fz (!19),.pt m,y2,y3,y4,y5]) ?_ ?_
  .unfold vQ;have em:pG Ad BF 1 rV (yK A1 Ct eV0) zS [.fz (!19),.pt [],.no,.no,.no,.no]=some ((rE r).map dE):=(fH (gH J).2.2.1 J J (!6)).trans<|zTd hn hI.ok jc;rw[zZ2<|vN em];exact h3
  .unfold jZ;rw[zXP];exact Qh<|h1.len jc
end
abbrev zUQ (t:Bool)(O:kj):Option Out:=if t=true then some (.nx O) else some (.rt<|.bl false)
def zZo {g:Gf}{r:kd}{ρ1:kj}{t:Bool}(h1:g d O=some ρ1)(h2:body ρ1=zUQ s ρ1)(h3:uC g body r ρ1=zUQ t O'):uC g body (d::r) O=zUQ (s&&t) O':=by
 unfold uC;rw[h1,Qr,h2];cases s with
 | true=>exact h3
 | _=>rfl
def shF (a b c d:Int):Bool := !(decide (b < c)||decide (d < a))
def zHn {g:Ef}(h:f O=some (.int x))(h2:g O=some (.int y)):eB2 gLt f g O=some (decide (x < y)):=by unfold eB2;rw[h,h2];rfl
def zEw {u:Tf}{a b:Bool}(h1:t O=some a)(h2:u O=some b):sIf (zPV t u) (xQ<|eC<|.bl false) vU O=zUQ (!(a||b)) O:=by
 unfold sIf zPV;rw[h1];cases a with
 | true=>rfl
 | _=>rw[h2];cases b<;>rfl
def sh1 {b c d:Int}(h1:a<=b)(h2:c<=d):shF a b c d=decide (aC c a<=bF d b):=by
 unfold shF aC bF
 grind
def zNv {c b:Bx}{m:Nat}(hc:Bk m c)(hb:Bk m b):rS [bxD c,bxD b]=some (.bl<|shB b c):=by
 have hbd:∀ {k x1 x2 x3 x4:Int},x1<=x2->x3<=x4->atD (yP c.1) (.int k)=some (.int x1)->atD (yP c.2) (.int k)=some (.int x2)->atD (yP b.1) (.int k)=some (.int x3)->atD (yP b.2) (.int k)=some (.int x4)->sI [.fz<|bxD c,.fz<|bxD b,.fz<|.int k]=zUQ (decide (aC x3 x1<=bF x4 x2)) [.fz<|bxD c,.fz<|bxD b,.fz<|.int k]:=λq1 q2 h1 h2 h3 h4=>by rw[<-sh1 q1 q2];exact zEw (zHn ((wJ J J).trans h2)<|(wJ J J).trans h3)<|zHn ((wJ J J).trans h4)<|(wJ J J).trans h1
 have run:∀ {k:Nat},(iR (eC<|.int (k:Nat)) []=some (tS 0 k))->uV (eIx eV0 jp) [.fz<|bxD c,.fz<|bxD b,.no]=some (.int _)->∀ {t:Bool} {O':kj},uC (gN 2) sI (tS 0 k) [.fz<|bxD c,.fz<|bxD b,.no]=zUQ t O'->rS [bxD c,bxD b]=some (.bl t):=λ{k} h0 h1 {t O'} h2=>by show(zF (vQ (iR<|uV<|eIx eV0 jp) (gN 2) sI) eU [.fz<|bxD c,.fz<|bxD b,.no]).bind vR=_;unfold zF vQ;rw[zQF h1,h0,Qr,h2];cases t<;>rfl
 obtain⟨hm,h1,h2,q⟩:=hc;obtain⟨_,h3,h4,q'⟩:=hb;obtain⟨c1,c2⟩:=c;obtain⟨b1,b2⟩:=b;rcases hm with rfl | rfl
 .obtain⟨a0,a1,rfl⟩:=zYe h1;obtain⟨e0,e1,rfl⟩:=zYe h2;obtain⟨f0,f1,rfl⟩:=zYe h3;obtain⟨g0,g1,rfl⟩:=zYe h4;exact run (k:=2) J J (by rw[zGS];exact zZo J (hbd (q (a0,e0) je) (q' (f0,g0) je) J J J J)<|zZo rfl (hbd (q (a1,e1) je) (q' (f1,g1) je) J J J J) rfl)
 .obtain⟨a0,a1,a2,rfl⟩:=zXY h1;obtain⟨e0,e1,e2,rfl⟩:=zXY h2;obtain⟨f0,f1,f2,rfl⟩:=zXY h3;obtain⟨g0,g1,g2,rfl⟩:=zXY h4;exact run (k:=3) J J (by rw[zHg];exact zZo J (hbd (q (a0,e0) je) (q' (f0,g0) je) J J J J)<|zZo rfl (hbd (q (a1,e1) je) (q' (f1,g1) je) J J J J)<|zZo rfl (hbd (q (a2,e2) je) (q' (f2,g2) je) J J J J) rfl)
def zOj (l:kh):(uH l).Perm l:=by have:=(zY1<|l.map prS).map (·.2);rw[Wj] at this;exact this.trans<|by rw[show(_ ∘ prS)=id from rfl,List.map_id]
def zDM (h:l.Nodup):(uH l).Pairwise λa b=>ltS a b=true:=by
 have s:=bW<|l.map prS;have un:iF (l.map prS)=(uH l).map prS:=by unfold uH;rw[Wj];refine(List.map_id _).symm.trans (Es λp hp=>?_);obtain⟨z,_,rfl⟩:=v7<|(zY1 _).subset hp;rfl
 rw[un,En] at s;refine(s.and<|(zOj l).nodup_iff.mpr h).imp λ{a b} ⟨z,w⟩=>?_;cases e:ltS a b with
 | true=>rfl
 | false=>exact absurd (Wi Prod.snd<|zOr (show xH (prS a) (prS b)=false by unfold ltS at e;unfold xH;simpa using e) z) w
def zEz {a b:Str×Str}(h1:zTS a b=false)(h2:zTS b a=false):a=b:=by
 have e:cpP a=cpP b:=by
  have q1:=of_decide_eq_false h1;have q2:=of_decide_eq_false h2
  revert q1 q2
  generalize cpP a=x;generalize cpP b=y
  grind
 obtain⟨⟨a1⟩,⟨a2⟩⟩:=a;obtain⟨⟨b1⟩,⟨b2⟩⟩:=b;simp_all
def zR1 (ks ls:kh)(f:Str->Str->Bool):List<|Str×Str:=ls.flatMap λz=>(ks.filter<|f z).map λy=>(z,y)
def zHM {f:Str->Str->Bool}(nd:m.Nodup)(hk:ks.Pairwise λa b=>ltS a b=true)(h:∀p,p∈m↔p∈zR1 ks ks f):dJ m=zR1 ks ks f:=by
 have s:(zR1 ks ks f).Pairwise λx y=>cpP x < cpP y:=by
  refine List.pairwise_flatMap.mpr ⟨λa _=>En.mpr<|(hk.filter _).imp λ{b c} z=>pW.mp ?_,hk.imp λ{a b} z x hx y hy=>pW.mp ?_⟩
  .rw[zTN];exact Qc<|.inr ⟨rfl,Eh z⟩
  .obtain⟨_,_,rfl⟩:=v7 hx;obtain⟨_,_,rfl⟩:=v7 hy;rw[zTN];exact Qc<|.inl<|Eh z
 exact List.Perm.eq_of_pairwise (λa b _ _ z w=>zEz w z) (zVr m) (s.imp λ{a b} z=>Qn λw=>Oe _<|List.lt_trans z w)<|(zQV m).trans<|(Pk nd (s.imp λ{a b} z e=>by subst e;exact Oe _ z)).mpr h
theorem zOT {n:Nat}:∀l:List<|Str×Str,zXp (eqD<|n+2) (l.map dSS) (l.map dSS)=some true
 | []=>rfl
 | x::r=>by
  rw[Qx];unfold zXp;rw[zOT r,show eqD (n+2) (dSS x) (dSS x)=some true from ?_]
  .rfl
  .show some (((x.1==x.1)&&((x.2==x.2)&&true))&&true)=_;simp
def lkP (kt:Kb)(z y:Str):Bool:=ltS z y&&match kt.lookup z,kt.lookup y with | some c,some b=>shB b c | _,_=>false
section
variable{m:Nat}{Y F x3:B}
theorem zPk {z:Str}{c:Bx}(hz:kt.lookup z=some c)(kc:Bk m c):∀(ys:kh) (j7:List<|Str×Str) (x6:B),(∀y∈ys,∃b,kt.lookup y=some b/\Bk m b)->j7.length+ys.length<=1000->∃y6,uC (gN 6) rG (ys.map .str) [Y,.fz<|kbD kt,F,x3,.ow<|j7.map dSS,.fz<|.str z,x6]=some (.nx [Y,.fz<|kbD kt,F,x3,.ow<|(j7++(ys.filter<|lkP kt z).map λy=>(z,y)).map dSS,.fz<|.str z,y6])
 | [],j7,x6,_,_=>⟨x6,by simp[uC]⟩
 | y::r,j7,x6,hy,hl=>by
  rw[Qk] at hl;obtain⟨b,hb,kb⟩:=hy y Qf;have hr:∀a∈r,_:=λa ha=>hy a<|Qp _ ha;have e1:rG [Y,.fz<|kbD kt,F,x3,.ow<|j7.map dSS,.fz<|.str z,.fz<|.str y]=if (ltS z y&&shB b c)=true then some (.nx [Y,.fz<|kbD kt,F,x3,.ow<|j7.map dSS++[dSS (z,y)],.fz<|.str z,.fz<|.str y]) else some (.nx [Y,.fz<|kbD kt,F,x3,.ow<|j7.map dSS,.fz<|.str z,.fz<|.str y]):=by
   unfold rG;rw[jR<|zGq (a:=ltS z y) rfl<|show tB1 (yZ 2 rS<|zY (dQ eV1 eV5)<|zY (dQ eV1 eV6) zS) _=some (shB b c) from ?_,zSX (i:=4) (d:=dSS (z,y)) (ds:=j7.map dSS) rfl rfl (by rw[Qy];lia)]
   .rfl
   .unfold tB1;rw[(vM ((zTT (kb:=kt) (z:=z) J J).trans (by rw[hz];rfl))<|(zTT (kb:=kt) (z:=y) J J).trans (by rw[hb];rfl)).trans<|zNv kc kb];rfl
  have ek:lkP kt z y=(ltS z y&&shB b c):=by unfold lkP;rw[hz,hb]
  rw[Qx,Rz];rw[<-ek] at e1;cases h:lkP kt z y with
  | true =>rw[h] at e1;obtain⟨y6,e⟩:=zPk hz kc r (j7++[(z,y)]) (.fz<|.str y) hr (by rw[Qo];show j7.length+1+_<=_;lia);refine⟨y6,?_⟩;rw[wL (ρ1:=[Y,.fz _,F,x3,.ow _,.fz _,.fz _]) rfl<|e1.trans<|Qh rfl];have e':=e;rw[Wz,Ra] at e';exact e'
  | false =>rw[h] at e1;obtain⟨y6,e⟩:=zPk hz kc r j7 (.fz<|.str y) hr jc;refine⟨y6,?_⟩;rw[wL (ρ1:=[Y,.fz _,F,x3,.ow _,.fz _,.fz _]) rfl e1];exact e
variable (hk:∀z∈ks,∃c,kt.lookup z=some c/\Bk m c) (hEs:∀{O},eV1 O=some (kbD kt)->bG eV1 O=some (ks.map .str))
include hk hEs in
theorem zO3:∀(zs:kh) (j7:List<|Str×Str) (x5 x6:B),(∀z∈zs,z∈ks)->j7.length+zs.length*ks.length<=1000->∃y5 y6,uC (gN 5) mJ (zs.map .str) [Y,.fz<|kbD kt,F,x3,.ow<|j7.map dSS,x5,x6]=some (.nx [Y,.fz<|kbD kt,F,x3,.ow<|(j7++zR1 ks zs (lkP kt)).map dSS,y5,y6])
 | [],j7,x5,x6,_,_=>⟨x5,x6,by simp[uC,zR1]⟩
 | z::r,j7,x5,x6,hz,hl=>by rw[Qk,Nat.succ_mul] at hl;obtain⟨c,hc,kc⟩:=hk z<|hz z Qf;obtain⟨y6,e1⟩:=zPk (Y:=Y) (F:=F) (x3:=x3) hc kc ks j7 x6 hk jc;have hf:=Eg (lkP kt z) ks;obtain⟨z5,z6,e2⟩:=zO3 r (j7++(ks.filter<|lkP kt z).map λy=>(z,y)) (.fz<|.str z) y6 (λa ha=>hz a<|Qp _ ha) (by rw[Qo,Qy];lia);refine⟨z5,z6,?_⟩;rw[Qx,wL (ρ1:=[Y,.fz _,F,x3,.ow _,.fz _,x6]) rfl (by unfold mJ vQ;rw[hEs rfl];exact e1),e2,Ra];rfl
end
section
variable (hn:4<=n) (h12:n<=50){R:Bx->km} (hR:RO (!27) dm L R) (hS:RS dm L R) (hs:Nms ns) (hI:Iv ns R dm L n r kb kt)
theorem Iv.at (hI:Iv ns R dm L n r kb kt){c:Bx}:(z,c)∈kb↔kt.lookup z=some c:=⟨λh=>(hI.sm z).symm.trans<|zXA hI.n1 h,λh=>lM<|(hI.sm z).trans h⟩
include hn h12 hR hS hs hI
def zRo:pN [yv (!27) L n r kb,kbD kt]=some (.bl true):=by
 have h7:=hI.seven hs;have hk:=hI.pr.length_eq.symm;have hp:=zOj<|keys kt;have hl:(keys kt).length=kt.length:=by unfold keys;rw[Qy]
 have hm:∀ {z},z∈uH (keys kt)->∃c,kt.lookup z=some c/\Bk dm c:=λ{z} hz=>by obtain⟨c,e⟩:=Wh.mp<|mP.mpr<|hp.subset hz;exact⟨c,e,(hI.gd _<|hI.at.mpr e).bk⟩
 have es:∀ {O:kj},eV1 O=some (kbD kt)->bG eV1 O=some ((uH<|keys kt).map .str):=λ{O} h=>by unfold bG;rw[h];show(zVz _).bind _=_;rw[show zVz _=some (keys kt) from(by have:=zR5<|keys kt;unfold keys at this;rw[Wj] at this;exact this),Qr,Qh jc]
 obtain⟨m,m1,m2,m3⟩:=zN7 (nm:=nm) (j:=j) (ps:=ps) hn h12 hR hS hs hI;have em:dJ m=zR1 (uH<|keys kt) (uH<|keys kt) (lkP kt):=zHM m1 (zDM hI.n2) λ(y,z)=>by
  rw[m2];unfold zR1 lkP;simp only[Wm,Wg,Eo,hp.mem_iff,<-mP,Prod.mk.injEq,Qm];constructor
  .rintro⟨b,c,hb,hc,h1,h2⟩;have e1:=hI.at.mp hb;have e2:=hI.at.mp hc;exact⟨y,by rw[e1];rfl,z,⟨by rw[e2];rfl,h1,by rw[e1,e2];exact h2⟩,J,J⟩
  .rintro⟨y',h1,z',⟨h2,h3,h4⟩,rfl,rfl⟩;obtain⟨b,e1⟩:=Wh.mp h1;obtain⟨c,e2⟩:=Wh.mp h2;rw[e1,e2] at h4;exact⟨b,c,hI.at.mpr e1,hI.at.mpr e2,h3,h4⟩
 rw[em] at m3;generalize hq:zR1 (uH<|keys kt) (uH<|keys kt) (lkP kt)=q at m3;obtain⟨O',e,y3,rfl⟩:=zWl (g:=gN 3) (body:=mY) (P:=λO=>∃y,O=[.fz (!19),.fz<|kbD kt,.fz<|.lst<|q.map dSS,y,.no,.no,.no]) (q.map dSS) (λd hd O ⟨y,hy⟩=>by obtain⟨p,_,rfl⟩:=v7 hd;subst hy;exact⟨_,[.fz _,.fz _,.fz _,.fz _,.no,.no,.no],J,J,_,J⟩) [.fz<|yv _ L n r kb,.fz _,.fz _,.no,.no,.no,.no] ⟨_,rfl⟩
 obtain⟨y5,y6,e2⟩:=zO3 (Y:=.fz (!19)) (F:=.fz<|.lst<|q.map dSS) (x3:=y3) (λz hz=>hm hz) es (uH<|keys kt) [] .no .no (λ_ h=>h) (by rw[hp.length_eq];have:=Ud (show(keys kt).length<=7 by lia) (show(keys kt).length<=7 by lia);show 0+_<=_;lia)
 rw[hq] at e2;show(kQ [.fz (!19),.fz<|kbD kt,.no,.no,.no,.no,.no]).bind vR=_;refine yG (d:=.lst<|q.map dSS) (vN<|(fH (xs:=yv1 (!27) L n r kb) (ns:=ydN) (ds:=[]) J J J ja).trans m3)<|yM (O':=[.fz (!19),.fz<|kbD kt,.fz<|.lst<|q.map dSS,.no,.no,.no,.no]) rfl<|yM e<|yM (O':=[.fz (!19),.fz<|kbD kt,.fz<|.lst<|q.map dSS,y3,.ow [],.no,.no]) rfl<|yM (by unfold vQ;rw[es rfl];exact e2) ?_;show(xQ (sE<|eB2 zRq eV2 eV4) [.fz (!19),.fz<|kbD kt,.fz<|.lst<|q.map dSS,y3,.fz<|.lst<|q.map dSS,y5,y6]).bind vR=_;rw[tE];show(if _=_ then zXp (eqD 7) _ _ else some false).map D.bl=_;rw[Qh rfl,zOT];rfl
end
def zL:kh:=["z","y","x","w"]
def zN:kh:=["z","y","x","w","w","w","w"]
def zHm:Nms zN:=⟨J,ja⟩
theorem zOi:∀l:ki,gG (yP l)=true
 | []=>rfl
 | a::r=>zOi r
def zFW {m:kz}{rest:kj}{Q:Int->Prop}(hd:dm=2\/dm=3)(hf:f O=some (.int (dm:Nat)))(hu:upB 1 m O = .no::rest)(h:∀i:Nat,i < 3->∃a,elt (.fz (.int<|0+(i:Nat))::rest)=some (.int a)/\Q a):∃p:ki,p.length=dm/\(∀x∈p,Q x)/\xA (eL<|yH (iR f) 1 m (gN 0) tOK elt) O=some (yP p):=by
 obtain⟨as,e,el,hq⟩:=zTO (tS 0 dm) .no [] λd hd'=>by obtain⟨i,hi,rfl⟩:=zVV hd';exact h i jc
 rw[pI] at el;refine⟨as,el,hq,?_⟩;have e2:yH (iR f) 1 m (gN 0) tOK elt O=some (as.map D.int):=by unfold yH;rw[zQF hf,hu,show iR _ []=some (tS 0 dm) from by rcases hd with rfl | rfl<;>rfl,Qr,uL (by rw[pI];lia)];exact e
 unfold xA;rw[vN e2];rfl
def mn (i j:Int):Int:=if j < i then j else i
def zMu {i j:Int}(h1:fa O=some (.int i))(h2:fb O=some (.int j)):zXm fa fb O=some (.int<|mn i j):=by unfold zXm;rw[h1,h2];rfl
def zEA {k:Int}(h:f O=some (.int x)):eB2 gGt f (eC<|.int k) O=some (decide (x > k)):=by unfold eB2;rw[h];rfl
def zEO (hd:dm=2\/dm=3){lg:Int}(hg:0<=lg)(b1:lo.length=dm)(b2:∀x∈lo,0<=x/\x < 2^L):Gd dm L (lo,lo.map λx=>mn (2^L - 1)<|x+lg):=by
 have hmn:∀x∈lo,0<=mn (2^L - 1) (x+lg)/\mn (2^L - 1) (x+lg) < 2^L/\x<=mn (2^L - 1) (x+lg):=λx hx=>by have:=b2 x hx;unfold mn;split<;>lia
 refine⟨⟨dm,hd,b1,by rw[Qy];exact b1,λp hp=>?_⟩,zHj ⟨b1,b2⟩ ⟨by rw[Qy];exact b1,λx hx=>?_⟩⟩
 .obtain⟨k,hk1,hk2⟩:=Ow.mp hp;simp at hk2;rw[<-hk2];exact(hmn _<|Tt _).2.2
 .obtain⟨y,hy,rfl⟩:=v7 hx;simp_all
section
variable (hn:4<=n) (h12:n<=50) (hv:Lv dm L){R:Bx->km} (hR:RO (!27) dm L R){c v:Int} (hv0:0<=v)
abbrev GF (nm:Str)(j:Bool)(ps:List Pt)(dm L n:Nat)(c v:Int)(r:Rt)(kb kt:Kb)(x7 x8 x9 x10 x11:B):kj:=[.fz<|.int c,.fz<|.int v,.fz<|.int (dm:Nat),.fz (!16),.yd none (!19),.mu none<|kbD kt,.fz<|.int<|2^L,x7,x8,x9,x10,x11]
def zHl (h:Lv dm L):dm=2\/dm=3:=by rcases h with h | h<;>lia
def zK6 (h:Lv dm L):L<=62:=by rcases h with h | h<;>lia
include hn h12 hv hR hv0
def zPh (hi:i < 4)(I:Iv zN R dm L n r kb kt)(hk:keys kt=zL.take i)(hS:3<=L)(x8 x9 x10 x11:B):∃r' kb' kt' y8 y9 y10 y11,Iv zN R dm L n r' kb' kt'/\keys kt'=zL.take (i+1)/\mG (GF nm j ps dm L n c v r kb kt (.fz<|.int<|0+(i:Nat)) x8 x9 x10 x11)=some (.nx<|GF nm j ps dm L n c v r' kb' kt' (.fz<|.int<|0+(i:Nat)) y8 y9 y10 y11):=by
 have hd:=zHl hv;have S8:(8:Int)<=2^L:=by have:2^3<=2^L:=Oq jb hS;have:((2^L:Nat):Int)=2^L:=je;lia
 obtain⟨l1,a1,a2,a3⟩:=zFW (Q:=λx=>0<=x/\x < 2^L) (f:=eV2) (elt:=xO (yZ 3 xK<|zY eV2<|zY (wD (wD (eC<|.int 90)<|gB jv eV3) eV0)<|zY (eC<|.int 1000033) zS) eV1) (m:=[6,0,7]) (O:=GF nm j ps dm L n c v r kb kt (.fz<|.int<|0+(i:Nat)) x8 x9 x10 x11) hd rfl rfl λa ha=>by obtain⟨w,hw,ew⟩:=mU c (90+5*(0+(i:Nat))+(0+(a:Nat))) 1000033 jc jc jb jb;exact⟨w % 2^L,zJ ((vO J (zJ (zJ J (zJ J rfl<|eZ jc jc) J) J J) J).trans ew) rfl<|Qc jc,Ts _ jc,Rb _ jc⟩
 obtain⟨lo,b1,b2,b3⟩:∃lo,lo.length=dm/\(∀x∈lo,0<=x/\x < 2^L)/\(sIf (sZ (eB2 gEq eV7 jq)<|eB2 gGt (xO (wM eV1<|eC<|.int 162) jt) jp) (yJ 8<|oY 5 2<|xA<|eL<|yH (iT<|eIx (dQ eV5<|eC<|.str "z") jp) 1 [6,1] (gN 0) tOK<|zXm (vG eV1 jq)<|wD eV0<|xO (wM eV2<|eC<|.int 486) jr) vU) (GF nm j ps dm L n c v r kb kt (.fz<|.int<|0+(i:Nat)) (.fz<|yP l1) x9 x10 x11)=some (.nx<|GF nm j ps dm L n c v r kb kt (.fz<|.int<|0+(i:Nat)) (.fz<|yP lo) x9 x10 x11):=by
  have t:eB2 gGt (xO (wM eV1<|eC<|.int 162) jt) jp (GF nm j ps dm L n c v r kb kt (.fz<|.int<|0+(i:Nat)) (.fz<|yP l1) x9 x10 x11)=some (decide (v / 162 % 3 > 0)):=zEA<|zJ (!14) rfl rfl
  by_cases h1:i=1
  .subst h1
   by_cases h2:v / 162 % 3 > 0
   .have hz:∃b,kt.lookup ("z":Str)=some b:=by
     have:(kt.lookup ("z":Str)).isSome=true:=mP.mpr (by rw[hk];exact Qf);exact Wh.mp this
    obtain⟨b,hb⟩:=hz;have g:=I.gd _<|lM<|(I.sm _).trans hb;have o:=lH.mp (Wb.mp g.2).1;have e:=zZh (f1:=eIx (dQ eV5<|eC<|.str "z") jp) (m:=[6,1]) (O:=[.fz<|.int c,.fz<|.int v,.fz<|.int (dm:Nat),.fz (!16),.yd none (!19),.fz<|kbD kt,.fz<|.int<|2^L,.fz<|.int<|0+(1:Nat),.fz<|yP l1,x9,x10,x11]) (xs:=b.1) (rest:=[.fz<|.int<|2^L,.fz<|.int v]) (elt:=zXm (vG eV1 jq)<|wD eV0<|xO (wM eV2<|eC<|.int 486) jr) (g:=λx=>mn (2^L - 1)<|x+v / 486 % 2) ((wJ ((zTT (kb:=kt) (z:="z") J J).trans (by rw[hb];rfl)) rfl).trans rfl) jc rfl λx _=>zMu (!14)<|zJ rfl (zJ (!14) J J) rfl;refine⟨b.1.map λx=>mn (2^L - 1)<|x+v / 486 % 2,by rw[Qy];exact o.1,λx hx=>?_,?_⟩
    .obtain⟨y,hy,rfl⟩:=v7 hx;have:=o.2 y hy;unfold mn;split<;>lia
    .unfold sIf sZ;rw[t,Qc h2];unfold yJ oY;show(((xA _ [_,_,_,_,_,.fz<|kbD kt,_,_,_,_,_,_]).bind _).map _)=_;rw[e,Qr,Qh<|zOi _];rfl
   .refine⟨l1,a1,a2,?_⟩;unfold sIf sZ;rw[t,Qn h2];rfl
  .refine⟨l1,a1,a2,?_⟩;unfold sIf sZ;rw[aL (x:=0+(i:Nat)) rfl,Qn jc];rfl
 obtain⟨lg,hlg,c1⟩:∃lg,0<=lg/\eIx (eL<|xJ<|zY (xO (yZ 3 xK<|zY eV0<|zY (wD (eC<|.int 120) eV7)<|zY (eC<|.int 1000037) zS) jt)<|zY (vG (wM eV6 jr) jq) zS) (aR<|sE<|eB2 gEq eV7 jr) (GF nm j ps dm L n c v r kb kt (.fz<|.int<|0+(i:Nat)) (.fz<|yP lo) x9 x10 x11)=some (.int lg):=by
  obtain⟨w,hw,ew⟩:=mU c (120+(0+(i:Nat))) 1000037 jc jc jb jb;have e1:eL (xJ<|zY (xO (yZ 3 xK<|zY eV0<|zY (wD (eC<|.int 120) eV7)<|zY (eC<|.int 1000037) zS) jt)<|zY (vG (wM eV6 jr) jq) zS) (GF nm j ps dm L n c v r kb kt (.fz<|.int<|0+(i:Nat)) (.fz<|yP lo) x9 x10 x11)=some (.lst [.int<|w % 3,.int<|2^L / 2 - 1]):=vN<|nM (zM (zJ ((vO J (!14) J).trans ew) J J)<|zM (zJ (!14) J J) rfl)<|Qt rfl;have e2:aR (sE<|eB2 gEq eV7 jr) (GF nm j ps dm L n c v r kb kt (.fz<|.int<|0+(i:Nat)) (.fz<|yP lo) x9 x10 x11)=some (.int<|if i=2 then 1 else 0):=by
   unfold aR sE;rw[aL (x:=0+(i:Nat)) rfl]
   by_cases h:i=2
   .rw[Qc jc,Qh h];rfl
   .rw[Qn jc,Qv h];rfl
  rw[wJ e1 e2]
  by_cases h:i=2
  .rw[Qh h];exact⟨_,jc,J⟩
  .rw[Qv h];exact⟨w % 3,jc,J⟩
 have d1:=zZh (f1:=eV 8) (m:=[6,9]) (O:=GF nm j ps dm L n c v r kb kt (.fz<|.int<|0+(i:Nat)) (.fz<|yP lo) (.fz<|.int lg) x10 x11) (xs:=lo) (rest:=[.fz<|.int<|2^L,.fz<|.int lg]) (elt:=zXm (vG eV1 jq)<|wD eV0 eV2) (g:=λx=>mn (2^L - 1)<|x+lg) rfl jc rfl λx _=>zMu (!14) (!14);have gm:=zEO hd hlg b1 b2;generalize lo.map (λx=>mn (2^L - 1)<|x+lg)=hi at d1 gm;have hb:Bk dm (lo,hi):=by obtain⟨⟨d,q0,q1,q2⟩,_⟩:=gm;obtain rfl:d=dm:=q1.symm.trans b1;exact⟨q0,q1,q2⟩
 obtain⟨z,f1,f2,f3,f4⟩:∃z:Str,z∈zN/\z∉keys kt/\keys kt++[z]=zL.take (i+1)/\atD (.str "zyxw") (.int<|0+(i:Nat))=some (.str z):=by
  rw[hk];have:i=0\/i=1\/i=2\/i=3:=jc;rcases this with rfl | rfl | rfl | rfl
  .exact⟨"z",ja,ja,rfl,rfl⟩
  .exact⟨"y",ja,ja,rfl,rfl⟩
  .exact⟨"x",ja,ja,rfl,rfl⟩
  .exact⟨"w",ja,ja,rfl,rfl⟩
 have hkt:kt.lookup z=none:=by
  cases h:kt.lookup z with
  | none=>rfl
  | some b=>exact absurd (mP.mp (by rw[h];rfl)) f2
 obtain⟨r',kb',e,I'⟩:=Iv.put (nm:=nm) (j:=j) hn h12 hv hR zHm I f1 hb ((I.sm z).trans hkt) gm.2;refine⟨r',kb',zZb kt z (lo,hi),.fz<|yP lo,.fz<|.int lg,.fz<|yP hi,.fz<|.str z,I',?_,(bU a3).trans<|(wQ b3).trans<|(bU c1).trans<|(bU d1).trans<|(bU<|(wJ J J).trans f4).trans<|(wQ (O':=GF nm j ps dm L n c v r' kb' kt (.fz<|.int<|0+(i:Nat)) (.fz<|yP lo) (.fz<|.int lg) (.fz<|yP hi)<|.fz<|.str z) ?_).trans ?_⟩
 .rw[<-f3];unfold zZb;rw[hkt];exact Wz
 .show(if (A1:Str)=A1/\[D.str z,bxD (lo,hi)].length=2/\(Ap:Str)∉ydN then(kF uT 3 (!19) [.str z,bxD (lo,hi)]).map _ else none)=_;rw[Qh ⟨rfl,rfl,ja⟩,e];rfl
 .show(if (ksK kt).length<=lim then some (Out.nx<|GF nm j ps dm L n c v r' kb' kt (.fz<|.int<|0+(i:Nat)) (.fz<|yP lo) (.fz<|.int lg) (.fz<|yP hi) (.fz<|.str z) |>.set 5 (.mu none<|zS9 (ksK kt) (kt.map λp=>bxD p.2) (.inr z)<|bxD (lo,hi))) else none)=_;rw[Qh (by
   have:(keys kt).length=kt.length:=by unfold keys;rw[Qy]
   rw[hk,Wn] at this;unfold ksK;rw[Qy];show _<=100000;lia),zQo];rfl
end
def zLI (c:Int):∃nm j ps dm L n r kb kt R,(4<=n/\n<=50)/\(Lv dm L/\3<=L)/\RO (!27) dm L R/\RS dm L R/\Iv zN R dm L n r kb kt/\(kt.lookup ("z":Str)).isSome=true/\fE [.int c]=some (.tup [yv (!27) L n r kb,kbD kt,.int (dm:Nat),.int (L:Nat)]):=by
 obtain⟨v,hv0,ev⟩:=mU c 80 1000003 jb jb jb jb;obtain⟨dm,hd,ed⟩:∃dm:Nat,(dm=2\/dm=3)/\2+v % 2=(dm:Nat):=⟨(2+v % 2).toNat,jc,jc⟩
 obtain⟨L,hv,hS,eL⟩:∃L:Nat,Lv dm L/\3<=L/\atD (.lst [.int<|4+v / 2 % 3,.int<|3+v / 2 % 2]) (.int<|(dm:Nat) - 2)=some (!16):=by
  rcases hd with rfl | rfl
  .exact⟨(4+v / 2 % 3).toNat,.inl ⟨rfl,jc⟩,jc,by rw[Oo jc];rfl⟩
  .exact⟨(3+v / 2 % 2).toNat,.inr ⟨rfl,jc⟩,jc,by rw[Oo jc];rfl⟩
 obtain⟨n,en,hn,h12⟩:∃n:Nat,4+v / 6 % 9=(n:Nat)/\4<=n/\n<=50:=⟨(4+v / 6 % 9).toNat,jc,jc,jc⟩
 obtain⟨nm,j,ps,ok,ec⟩:=zR3 hd<|c / 5;obtain⟨R,hR,hRS⟩:=zHe hv ok nm j;obtain⟨m,hm,em⟩:∃m:Nat,(m<=4/\0 < m)/\2+v / 54 % 3=(m:Nat):=⟨(2+v / 54 % 3).toNat,jc,jc⟩
 obtain⟨O',e,r,kb,kt,x7,x8,x9,x10,x11,I,hk,rfl⟩:=cI (g:=gN 7) (P:=λi O=>∃r kb kt x7 x8 x9 x10 x11,Iv zN R dm L n r kb kt/\keys kt=zL.take i/\O=GF nm j ps dm L n c v r kb kt x7 x8 x9 x10 x11) (tS 0 m) 0 (λi d hd' O hO=>by obtain⟨hi,rfl⟩:=fZ hd';obtain⟨r,kb,kt,x7,x8,x9,x10,x11,I,hk,rfl⟩:=hO;rw[Yk] at hk ⊢;obtain⟨r',kb',kt',y8,y9,y10,y11,I',hk',e⟩:=zPh hn h12 hv hR hv0 (show i < 4 by lia) I hk hS x8 x9 x10 x11;exact⟨_,_,J,e,r',kb',kt',_,_,_,_,_,I',hk',J⟩) _ ⟨⟨0,[]⟩,[],[],_,_,_,_,_,⟨RtOk.nil,.nil,(λ_ h=>by cases h),.nil,.nil,(λ_=>rfl),λ_ h=>by cases h⟩,rfl,rfl⟩
 refine⟨nm,j,ps,dm,L,n,r,kb,kt,R,⟨hn,h12⟩,⟨hv,hS⟩,hR,hRS,I,mP.mpr (by rw[hk,pI];exact List.mem_take_iff_getElem.mpr ⟨0,by simp[zL];lia,J⟩),?_⟩;refine yG ((vO J J J).trans ev)<|yG (d:=.int _) (by rw[<-ed];exact zJ J (!14) J)<|yG ((wJ (vN<|nM (zM (zJ J (zJ (!14) J J) J)<|zM (zJ J (zJ (!14) J J) J) rfl)<|Qt rfl) (!14)).trans eL)<|yM (O':=[.fz<|.int c,.fz<|.int v,.fz<|.int<|dm,.fz<|.int<|L,.yd none<|yv (!27) L n ⟨0,[]⟩ [],.no,.no,.no,.no,.no,.no,.no]) ?_ ?_
 .unfold zXz;rw[zM ((vM (!14) J).trans ec)<|zM rfl<|zM (d:=.int<|n) (by rw[<-en];exact zJ J (zJ (!14) J J) J) rfl];rfl
 refine yM (O':=[.fz _,.fz _,.fz _,.fz _,.yd none _,.mu none _,.no,.no,.no,.no,.no,.no]) rfl<|yG (zTU rfl<|zK6 hv)<|yM (O':=GF nm j ps dm L n c v r kb kt x7 x8 x9 x10 x11) ?_ rfl;unfold vQ;rw[zQF (k:=(m)) (by rw[<-em];exact zJ J (zJ (!14) J J) J),show iR _ []=some (tS 0 m) from by have:m=0\/m=1\/m=2\/m=3\/m=4:=jc;rcases this with rfl | rfl | rfl | rfl | rfl<;>rfl]
 exact e
section
variable{A:D}{x8 x9:B}
abbrev Fr (A:D)(ns:kh)(nm:Str)(j:Bool)(ps:List Pt)(dm L n:Nat)(r:Rt)(kb kt:Kb)(x8 x9:B):kj:=[.fz A,.fz<|.int (dm:Nat),.fz (!16),.fz<|.lst<|ns.map .str,.fz<|.int (n:Nat),.yd none (!19),.fz<|vT dm L,.mu none<|kbD kt,x8,x9]
variable (hn:4<=n) (h12:n<=50) (hv:Lv dm L){R:Bx->km} (hR:RO (!27) dm L R) (hRS:RS dm L R) (hs:Nms ns)
include hn h12 hv hR hRS hs
def zKh (hI:Iv ns R dm L n r kb kt)(c:Int)(x9:B):∃r' kb' kt' y9,Iv ns R dm L n r' kb' kt'/\zWD (Fr A ns nm j ps dm L n r kb kt (.fz<|.int c) x9)=some (.nx<|Fr A ns nm j ps dm L n r' kb' kt' (.fz<|.int c) y9):=by
 have hd:=zHl hv;obtain⟨w,z,m,bd,zn,hbd,ed⟩:=zH4 hd (zK6 hv) c hs;obtain⟨r',kb',e,i'⟩:=zNf (nm:=nm) (j:=j) hn h12 hv hR hs hI (w:=w) zn hbd;have hk:kt.length<=1000:=by have:=hI.seven hs;rw[hI.pr.length_eq] at this;lia
 have du:=zGc (w:=w) (z:=z) (L:=L) (kt:=kt) hd hbd hk;generalize xW w (kt.lookup z).isSome (flB dm L bd)=x at e i' du;generalize(if x=none then nxT kt z bd w else kt)=kt' at du i';have er:=zRo (nm:=nm) (j:=j) (ps:=ps) hn h12 hR hRS hs i';refine⟨r',kb',kt',.fz<|deD w z bd,i',(bU<|(zMm J J J J).trans ed).trans<|(wQ (O':=Fr A ns nm j ps dm L n r' kb' kt' (.fz<|.int c)<|.fz<|deD w z bd) ?_).trans ?_⟩
 .have e2:zTq zXe (uW 5 1 uU<|zY (eV 9) zS) (uW 7 2 nP<|zY (eV 9)<|zY eV6 zS) (Fr A ns nm j ps dm L n r kb kt (.fz<|.int c)<|.fz<|deD w z bd)=some (false,Fr A ns nm j ps dm L n r' kb' kt' (.fz<|.int c)<|.fz<|deD w z bd):=by
   have u1:uW 5 1 uU (zY (eV 9) zS) (Fr A ns nm j ps dm L n r kb kt (.fz<|.int c)<|.fz<|deD w z bd)=some (.str<|wrd x,Fr A ns nm j ps dm L n r' kb' kt (.fz<|.int c)<|.fz<|deD w z bd):=by show(if [deD w z bd].length=1 then(kF _ 3 (!19) [deD w z bd]).map _ else none)=_;rw[e];rfl
   have u2:uW 7 2 nP (zY (eV 9)<|zY eV6 zS) (Fr A ns nm j ps dm L n r' kb' kt (.fz<|.int c)<|.fz<|deD w z bd)=some (.str<|wrd x,Fr A ns nm j ps dm L n r' kb' kt' (.fz<|.int c)<|.fz<|deD w z bd):=by show(if [deD w z bd,vT dm L].length=2 then(kF _ 1 (kbD kt) [deD w z bd,vT dm L]).map _ else none)=_;rw[du];rfl
   unfold zTq;rw[u1,Qr,u2,Qr];unfold zXe;rw[zIH];rfl
  exact(Wi (λo=>Option.bind o λq:Bool×kj=>if q.1=true then xQ (eC<|.bl _) q.2 else vU q.2) e2).trans rfl
 .show((tT (tB1<|yZ 2 pN<|zY eV5<|zY eV7 zS) [.fz A,.fz<|.int (dm:Nat),.fz (!16),.fz<|.lst<|ns.map .str,.fz<|.int (n:Nat),.fz<|yv (!27) L n r' kb',.fz<|vT dm L,.fz<|kbD kt',.fz<|.int c,.fz<|deD w z bd]).bind _)=_;rw[zEG<|(vM J J).trans er];rfl
end
def zJ7 (cs:ki)(_:cs.length<=63):zUZ [.lst<|cs.map .int]=some (.bl true):=by
 obtain⟨c0,e0⟩:=zTP cs 0;obtain⟨c1,e1⟩:=zTP cs 1;obtain⟨c2,e2⟩:=zTP cs 2;obtain⟨dm,hd,ed⟩:∃dm:Nat,(dm=2\/dm=3)/\2+c0 % 2=(dm:Nat):=⟨(2+c0 % 2).toNat,jc,jc⟩
 obtain⟨L,hv,eL⟩:=zJQ hd c0;obtain⟨ns,hs,es⟩:=zKO c1;obtain⟨v,hv0,ev⟩:=mU c1 5 1000033 jb jb jb jb;obtain⟨n,en,hn,h12⟩:∃n:Nat,4+v % 9=(n:Nat)/\4<=n/\n<=50:=⟨(4+v % 9).toNat,jc,jc,jc⟩
 obtain⟨nm,j,ps,ok,ec⟩:=zR3 hd<|c0 / 2;obtain⟨R,hR,hRS⟩:=zHe hv ok nm j;obtain⟨nm',j',ps',dm',L',n',rg,kg,tg,R',⟨hn',h12'⟩,_,hR',hRS',I',_,eg⟩:=zLI<|c2+(cs.length:Nat);have er:=zRo (nm:=nm') (j:=j') (ps:=ps') hn' h12' hR' hRS' zHm I';obtain⟨ds,hds⟩:∃ds:ki,fT (cs.map .int) (some 2) (some 16)=ds.map _:=⟨_,by unfold fT;rw[<-List.map_drop,<-List.map_take]⟩
 have el:∀ {r:kj},uV eV0 (.fz (.lst<|cs.map .int)::r)=some (.int (cs.length:Nat)):=λ{r}=>by show some (D.int ((cs.map D.int).length:Nat))=_;rw[Qy]
 generalize hA:D.lst (cs.map .int)=A at e0 e1 e2 el;obtain⟨O',e,r,kb,kt,x8,x9,rfl,i⟩:=zWl (g:=gN 8) (body:=_) (P:=λO=>∃r kb kt x8 x9,O=Fr A ns nm j ps dm L n r kb kt x8 x9/\Iv ns R dm L n r kb kt) (ds.map _) (λd hd' O hO=>by obtain⟨c,_,rfl⟩:=v7 hd';obtain⟨r,kb,kt,x8,x9,rfl,i⟩:=hO;obtain⟨r',kb',kt',y9,i',e⟩:=zKh (A:=A) (nm:=nm) (j:=j) hn h12 hv hR hRS hs i c x9;exact⟨_,_,J,e,r',kb',kt',_,_,J,i'⟩) (Fr A ns nm j ps dm L n ⟨0,[]⟩ [] [] .no .no) ⟨⟨0,[]⟩,[],[],_,_,rfl,⟨RtOk.nil,.nil,(λ_ h=>by cases h),.nil,.nil,(λ_=>rfl),λ_ h=>by cases h⟩⟩
 refine yG (d:=.int (dm:Nat)) (by rw[<-ed];exact zJ J (zJ ((vM J J).trans e0) J J) J)<|yG ((vM ((vM J J).trans e0) J).trans eL)<|yG ((bY<|(vM J J).trans e1).trans es)<|yG (d:=.int (n:Nat)) (by rw[<-en];exact zJ J (zJ ((vO ((vM J J).trans e1) J J).trans ev) J J) J)<|yM (O':=[.fz A,.fz<|.int (dm:Nat),.fz (!16),.fz<|.lst<|ns.map .str,.fz<|.int (n:Nat),.yd none<|yv (!27) L n ⟨0,[]⟩ [],.no,.no,.no,.no]) ?_ ?_
 .unfold zXz;rw[zM ((vM (zJ ((vM J J).trans e0) J J) J).trans ec)<|zM rfl<|zM rfl rfl];rfl
 refine yG (d:=vT dm L) ?_ ?_
 .unfold zZy;rw[lI (zM (zTU rfl<|zK6 hv) J)<|Qt rfl];rcases hd with rfl | rfl<;>rfl
 refine yM (O':=Fr A ns nm j ps dm L n ⟨0,[]⟩ [] [] .no .no) rfl<|yM (O':=Fr A ns nm j ps dm L n r kb kt x8 x9) ?_<|yM (O':=[.fz A,.fz<|.int (dm':Nat),.fz<|.int (L':Nat),.fz<|.lst<|ns.map .str,.fz<|.int (n:Nat),.fz<|yv (yU nm' dm' j' ps') L' n' rg kg,.fz<|vT dm L,.fz<|kbD tg,x8,x9]) ?_ ?_
 .unfold vQ;have src:uR eV0 (vJ jr) (vJ<|eC<|.int 16) (Fr A ns nm j ps dm L n ⟨0,[]⟩ [] [] .no .no)=some (ds.map D.int):=by
   rw[<-hA];show some (fT _ _ _)=_;rw[hds]
  exact(Wi (λo=>Option.bind o _) src).trans e
 .unfold zYQ;rw[(bY<|zJ ((vM J J).trans e2) el rfl).trans eg];rfl
 .unfold zOM;rw[tE];exact(vM J J).trans er
end My
set_option maxRecDepth 100000 in
set_option maxHeartbeats 0 in
theorem PySem.Challenge.cw_curveyard_k38_things_that_share_holds : PySem.Challenge.rw_curveyard_k38_things_that_share.Holds := by
 w_on
 refine PySem.W.holds_law My.zJc fun said=>?_;refine PySem.W.holds_open (r:=PySem.Challenge.rw_curveyard_k38_things_that_share.row) (q:=My.jA) (loose:=My.loose) (XP:=PySem.W.XL My.jA []) (YP:=PySem.W.InK My.zXc) My.zHB (PySem.W.InK.of My.zSf) PySem.W.InK.keeps (fun s e=>PySem.W.xl_of s (Wb.mp e).1) PySem.W.XL.keeps jg jg jg (fun s e=>PySem.W.recFacts_of (Wb.mp e).2) jg (by assumption) ja ⟨rfl,rfl,rfl,rfl,rfl,ja⟩ ?hw ?hc
 case hw=>w_witness2
 k_fill
 refine L2.zHK (l:=PySem.Challenge.rw_curveyard_k38_things_that_share) (n:=63) (k:=28) (x:="_law_script") (CX:=fun _=>L2.CX0) (sp:=fun w=>L2.spF _ 1 My.zUZ) rfl jb rfl ⟨rfl,jb,jb⟩ (fun w h Y=>Y) ?F (fun w H a ns hl hO hS=>My.zFF hS (My.zJ7 ns hl)) (fun _ _ _ _ _ z=>z)
 case F =>
   intro w mg fa h KX G hmg;refine' My.zGL KX G hmg ?g0 ?g1 ?g2 ?g3 ?g4 ?g5 ?g6 ?g7 ?g8 ?g9 ?g11 ?g12 ?g13 ?g14 ?g15 ?g16 ?g17 ?g18 ?g19 ?g20 ?g21 ?g22 ?g23 ?g24 ?g25 ?g27 ?g28 ?g29 ?g30 ?g31 ?g32 ?g36 ?g37 ?g38 ?g40 ?g43 ?g44 ?g45 ?g46 ?g47 ?g48 ?g51 ?g52 ?g56 ?g57 ?g58 ?c0 ?c1 ?c2 ?c3 ?c4 ?m10 ?m26 ?m33 ?m34 ?m35 ?m39 ?m41 ?m42 ?m49 ?m50 ?m53 ?m54 ?m55 ?x0 ?x1 ?x2 ?x3 ?x4 ?x5 ?x6 ?x7 ?x8 ?ix_ValueError ?ix_OffFloor ?ix_NoThing ?ix_Twice ?iy_0 ?em_YardError_OffFloor ?em_YardError_Twice ?em_YardError_NoThing ?zz
   all_goals (try exact⟨_,_,_,_,_,_,_,_,_,_,jh,jh,jh,jh⟩)
   (case c0=>exact⟨jh,⟨_,_,_,_,_,_,_,_,_,_,jh,jh,jh,jh,jh⟩,jh,jh,jh,jh,jh,jh,jf⟩)
   (case c1=>exact⟨jh,⟨_,_,_,_,_,_,_,_,_,_,jh,jh,jh,jh,jh⟩,jh,jh,jh,jh,jh,jh,jf⟩)
   (case c2=>exact⟨jh,⟨_,_,_,_,_,_,_,_,_,_,jh,jh,jh,jh,jh⟩,jh,jh,jh,jh,jh,jh,jf⟩)
   (case c3=>exact⟨jh,⟨_,_,_,_,_,_,_,_,_,_,jh,jh,jh,jh,jh⟩,jh,jh,jh,jh,jh,jh,jf⟩)
   (case c4=>exact⟨jh,⟨_,_,_,_,_,_,_,_,_,_,jh,jh,jh,jh,jh⟩,jh,jh,jh,jh,jh,jh,jf⟩)
   all_goals (try exact⟨_,_,_,_,_,_,_,_,_,_,jh,jh,jh,jh,jh⟩)
   all_goals (try exact⟨jh,jf,jh,jf⟩)
   all_goals (try k_is)
   all_goals kernel_rfl

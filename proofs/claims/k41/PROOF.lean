import PyProof.Rows.All
import OpenK.KLine
import KE.KItem
import OpenK.KTop
import Wide.Once
import Open.Boot
import Wide.FinOn
import Lean
import PyProof.EqAt
import PyProof.EqKinds
import PyProof.TupleCall
import KE.KDictList
import KE.KSortAsk
import KE.KIntText
import KE.IntTextLaws
import OpenK.KOwn
import KE.KIsAll
import PyProof.InstStoreFacts
import PyProof.MaxThree
import PyProof.WalkInts
import PyProof.MinMaxWalk
import KE.KSortTup
import KE.KRevIter
import PyProof.ListRange
import KE.RegMulBits
import PyProof.Rows.SumAny
import PyProof.Rows.RuleN_abs
import PyProof.Rows.CallKwBuiltin
import PyProof.ZipIter
import PyProof.RaisesMany
import PyProof.RulesAs
import KE.KTryMore
import PyProof.ReprRoads
import PyProof.ReprLen
import PyProof.FString5
import PyProof.StrCalls
import PyProof.AutoSeq1
import PyProof.Rows.StrNews
import PyProof.Rows.StrItems
import PyProof.StrLawsChain
import PyProof.StrLawsTight
import PyProof.Rows.SortStr
import PyProof.DictItems
import PyProof.DictWalks
import PyProof.AutoListH
import PySem.Challenge.RW_curveyard_k41_lists_of_the_asker
set_option Elab.async false
set_option linter.all false
set_option maxRecDepth 100000
set_option maxHeartbeats 4000000
noncomputable section
set_option compiler.extract_closed false
local macro_rules|`(def $i:declId $s:optDeclSig $v:declVal)=>`(noncomputable def $i $s:optDeclSig $v:declVal)
local macro_rules|`(def $i:declId $s:optDeclSig:=by $t:tacticSeq)=>`(theorem $i $(⟨Lean.mkNode ``Lean.Parser.Command.declSig #[s.raw[0],s.raw[1][0]]⟩):declSig:=by $t)
set_option hygiene false
local macro_rules|`(tactic|sleep 1)=>`(tactic|rintro U H Q ⟨G0,H0,G,O,d,j0,hf,k⟩)
local macro_rules|`(tactic|sleep 2)=>`(tactic|(
 sleep 1
 obtain⟨x,h1,hf⟩:=k8 hf))
local macro_rules|`(tactic|sleep 3)=>`(tactic|rintro D U H ⟨G0,H0,G,O,o,j0,hf,k⟩)
local macro_rules|`(tactic|sleep 4)=>`(tactic|refine⟨G0,H0,G,O,_,j0,h1,λv H1 G1 s1 r1=>?_⟩)
local macro_rules|`(tactic|sleep 5)=>`(tactic|intro Z s U H x y v u Q I rx ry h)
local macro_rules|`(tactic|sleep 6)=>`(tactic|intro X hP hw hK hc i Z s U H E I hf st hg)
local macro_rules|`(~~~$n:num)=>`(nat_lit $n)
local macro_rules|`(!1)=>`(.ref C)
local macro_rules|`(!2)=>`(Txt K mg)
local macro_rules|`(!3)=>`(Inv X Z U H s)
local macro_rules|`(!4)=>`(T.zz _ ja)
local macro_rules|`(!5)=>`(model X.prog X.w)
local macro_rules|`(!6)=>`(by trivial)
local macro_rules|`(!7)=>`(List (It h))
local macro_rules|`(!8)=>`(model prog w)
local macro_rules|`(!9)=>`(by simp_all)
local macro_rules|`(!10)=>`(List α)
local macro_rules|`(!11)=>`(zY eV1 zS)
local macro_rules|`(!12)=>`(PF X a fa)
local macro_rules|`(!13)=>`(hr.mono (Qr rfl))
local macro_rules|`(!14)=>`(zL nm dm j ps)
local macro_rules|`(!15)=>`({ s with heap:=h' })
local macro_rules|`(!16)=>`(yv (!14) L n r kb)
local macro_rules|`(!17)=>`(.int (L:Nat))
local macro_rules|`(!18)=>`(s1.trans s2)
local macro_rules|`(!19)=>`(.Name x p1)
local macro_rules|`(!20)=>`((x==("__debug__":Str))=false)
local macro_rules|`(!21)=>`(Good K G0 H0 G H U O)
local macro_rules|`(!22)=>`(yv cv L n r kb)
local macro_rules|`(!23)=>`(starEach (e::es) X.env=(false,eval e X.env)::starEach es X.env)
local macro_rules|`(!24)=>`(X.calm=true)
local macro_rules|`(!25)=>`(starEach es X.env)
local macro_rules|`(!26)=>`(some (.ref a))
local macro_rules|`(!27)=>`(X.N[i]?=some x)
local macro_rules|`(!28)=>`(zL nm n j ps)
local macro_rules|`(!29)=>`(yY rfl rfl rfl)
local macro_rules|`(!30)=>`((x==("__classdict__":Str))=false)
local macro_rules|`(!31)=>`(Vis X.env.scope x)
local macro_rules|`(!32)=>`({ s with heap:=h',toks:=tk })
local macro_rules|`(!33)=>`(.Attribute o m apos)
local macro_rules|`(!34)=>`(starEach [a] X.env=[(false,eval a X.env)])
local macro_rules|`(!35)=>`(vO X (tgs++j4) scope C s₀ H₀ fp)
local macro_rules|`(!36)=>`(zY (eIx eV1 jq) (zY (eIx eV1 jr) zS))
local macro_rules|`(!37)=>`(A.deeper (envOfC qual (zV st) s.heap.objs.size f j9))
local macro_rules|`(!38)=>`(backToKw cpos (keywordEach [] X.env))
local macro_rules|`(!39)=>`(X.fn x=true\/X.env.scope.names.lookup x=some .local)
local macro_rules|`(!40)=>`((h1.update D (Obj.mapSeq λ_=>(#[]:jo))).push (seqObj "tuple" us.toArray 0))
abbrev J.{u}{α:Sort u}{a:α}:a=a:=rfl
abbrev r9:=PySem.Stmt
abbrev r8:=PySem.Expr
abbrev qz:=PySem.World
abbrev qy:=PySem.Around
abbrev qx:=PySem.Heap
abbrev qw:=PySem.Shared
abbrev qv:=PySem.Value
abbrev qu:=PySem.Addr
abbrev qt:=List PySem.Expr
abbrev qp:=List<|PySem.Str×Bool
abbrev qh:=List PySem.Value
abbrev qg:=List PySem.Stmt
abbrev qf:=Array Nat
abbrev qe:=List<|Int×PySem.Str
abbrev qb:=List PySem.Env
abbrev ky:=List Nat
abbrev ku:=Option Bool
abbrev kr:=Option Int
abbrev kq:=Option PySem.Addr
abbrev ko:=Nat->Nat->Bool
abbrev kn:=List PySem.Addr
abbrev km:=Option PySem.Value
abbrev kh:=List Int
abbrev kg:=List PySem.Str
abbrev kf:=Option PySem.Str
def o0{p:Prop}(h:p:=by first | exact .inl rfl | exact .inr rfl):p:=h
abbrev r0:=PySem.Challenge.rw_curveyard_k41_lists_of_the_asker.row.prog
open PySem PySem.Spec PySem.W PyProof.Rows
abbrev A0:="self"
abbrev A1:="Yard"
abbrev A2:="Page"
abbrev A3:="__static_attributes__"
abbrev A4:="box"
abbrev A5:="things"
abbrev A6:="name"
abbrev A7:="_law_cell_here"
abbrev A8:="entry"
abbrev A9:="__init__"
abbrev Aa:="dims"
abbrev Ab:="__firstlineno__"
abbrev Ac:="level"
abbrev Ad:="Store"
abbrev Ae:="_law_dims"
abbrev Af:="size"
abbrev Ag:="curveyard.errors"
abbrev Ah:="spans"
abbrev Ai:="page"
abbrev Aj:="corner"
abbrev Ak:="__module__"
abbrev Al:="Curve"
abbrev Am:="first"
abbrev An:="curve"
abbrev Ao:="OffFloor"
abbrev Ap:="leaf"
abbrev Ar:="place"
abbrev As:="NoThing"
abbrev At:="_law_level_here"
abbrev Au:="ask_floor"
abbrev Av:="crossing_beneath"
abbrev Ax:="put"
abbrev Ay:="most"
abbrev Az:="entries_beneath"
abbrev AA:="ask_name"
abbrev AB:="_law_drawn"
abbrev AC:="take"
abbrev AD:="taken_beneath"
abbrev AE:="parts"
abbrev AF:="other"
abbrev AG:="ValueError"
abbrev AH:="move"
abbrev AI:="leasts"
abbrev AJ:="curveyard.curves"
abbrev AK:="turn"
abbrev AL:="back"
abbrev AM:="last"
abbrev AN:="root"
abbrev AO:="first_state"
abbrev AQ:="put_beneath"
abbrev AR:="Twice"
abbrev AS:="__qualname__"
abbrev AT:="_law_deed_here"
abbrev AU:="YardError"
abbrev AV:="crossing"
abbrev AW:="Part"
abbrev AX:="not_beyond"
abbrev AY:="entry_like"
abbrev AZ:="boxes"
abbrev B0:="_law_script"
abbrev B1:="high"
abbrev B2:="__doc__"
abbrev B3:="has_place"
abbrev B4:="ask_place"
abbrev B5:="_law_yard"
abbrev B6:="joined"
abbrev B7:="__weakref__"
abbrev B8:="/claim/cut.py"
abbrev B9:="on_floor"
abbrev Ba:="pages_of"
abbrev Bb:="_law_question"
abbrev Bc:="TextError"
abbrev Bd:="curveyard.store"
abbrev Bf:="low"
abbrev Bg:="_law_names_here"
abbrev Bh:="stretches_of"
abbrev Bi:="_law_refused"
abbrev Bj:="where"
abbrev Bl:="builtin_function_or_method"
abbrev Bm:="least"
abbrev Bn:="part_at"
abbrev Bo:="ask_box"
abbrev Bp:="root_of"
abbrev Bq:="Curve.__init__"
abbrev Br:="Store.__init__"
abbrev Bs:="listed"
abbrev Bt:="Store.crossing"
abbrev Bu:="_law_k"
abbrev Bv:="region"
abbrev Bw:="space_ahead"
abbrev By:="joined_from"
abbrev Bz:="law_curveyard_k41_lists_of_the_asker"
abbrev BA:="gap"
abbrev BB:="Part.__init__"
abbrev BC:="Page.__init__"
abbrev BD:="_law_box_here"
abbrev BE:="turned"
abbrev BF:="walked"
abbrev BG:="within"
abbrev BH:="volume"
abbrev BI:="common"
abbrev BJ:="filled"
abbrev BK:="_law_curve"
abbrev BL:="_law_names"
abbrev BM:="_law_level"
abbrev BN:="meeting"
abbrev BO:="Store.listed"
abbrev BP:="state"
abbrev BQ:="_law_one"
abbrev BR:="store"
abbrev BS:="curveyard.pages"
abbrev BT:="_law_cell"
abbrev BU:="_law_turn"
abbrev BV:="_law_part"
abbrev BW:="_law_deed"
abbrev BX:="_law_done"
abbrev BY:="_law_word"
abbrev BZ:="Yard.ask_floor"
abbrev C5:="TooWide"
abbrev C6:="NoEntry"
abbrev C7:="still"
abbrev C8:="after"
abbrev C9:="holds"
abbrev Ca:="inner"
abbrev Cb:="along"
abbrev Cc:="__dict__"
abbrev Cd:="_law_mix"
abbrev Ce:="_law_box"
abbrev Cf:="_law_off"
abbrev Cg:="TextError.__init__"
abbrev Ch:="Store.take"
abbrev Ci:="Yard.__init__"
abbrev Cj:="Yard.ask_name"
abbrev Ck:="one"
abbrev Cl:="__main__.__loader__#opaque"
abbrev Cm:="BadBox"
abbrev Cn:="Unmet"
abbrev Co:="Yard.meeting"
abbrev Cp:="Yard.nearest"
abbrev Cq:="Yard.sharing"
abbrev Cr:="pages"
abbrev Cs:="abcdefghijklmnopqrstuvwxyz"
abbrev Ct:="Store.put"
abbrev Cu:="full"
abbrev Cv:="rank"
abbrev Cw:="quarter"
abbrev Cy:="nearest"
abbrev Cz:="sharing"
abbrev CA:="Yard.inside"
abbrev CB:="object.__init_subclass__"
abbrev CD:="__annotations__"
abbrev CF:="_wall"
abbrev CG:="names"
abbrev CH:="pieces"
abbrev CI:="closed"
abbrev CJ:="Unmet.__init__"
abbrev CK:="Yard.where"
abbrev CL:="Yard.names"
abbrev CM:="inside"
abbrev CN:="Yard.spans"
abbrev CO:="half"
abbrev CP:="_law_e"
abbrev CQ:="starts"
abbrev CT:="_law_which"
abbrev CU:="way"
abbrev CV:="Yard.move"
abbrev CW:="Yard.take"
abbrev CZ:="axis"
abbrev D0:="Yard.put"
abbrev D1:="Yard.lay"
abbrev D2:="Store.shape"
def ja{p:Prop}(h:p:=by decide +kernel):p:=h
def jb{p:Prop}(h:p:=by decide):p:=h
def jc{p:Prop}(h:p:=by lia):p:=h
def jd{p:Prop}(h:p:=by omega):p:=h
def je{p:Prop}(h:p:=by simp):p:=h
def jf{p:Prop}(h:p:=by kernel_rfl):p:=h
def jg{p:Prop}(h:p:=by rfl):p:=h
def jh{p:Prop}(h:p:=by k_is):p:=h
abbrev jk:=PySem.W.Frag
abbrev jl:=qv->qw->Prop
abbrev jm:=List<|qu×Obj
abbrev jn:=qh
abbrev jo:=Array qv
section
def Qq:=@Option.bind_eq_some_iff
def k8:=λ{a b c d e}=>(@Qq a b c d e).mp
def Qw:=@wpAny_bind
def Qe:=@Heap.get?_push_of_some
def Qr:=@Nat.le_of_ble_eq_true
def Qt:=@Option.bind_some
def Qy:=@List.length_map
def Qu:=@Option.map_eq_some_iff
def k9:=λ{a b c d e}=>(@Qu a b c d e).mp
def Qi:=@List.getElem?_eq_some_iff
def v5:=λ{a b c d}=>(@Qi a b c d).mp
def Qo:=@wpAny_pure
def Qp:=@List.length_append
def Qa:=@Heap.get?_push_size
def Qs:=@Heap.lt_size
def Qd:=@List.size_toArray
def Qf:=@List.mem_cons_of_mem
def Qg:=@if_pos
def Qh:=@Nat.le_refl
def Qj:=@List.getElem?_eq_getElem
def Qk:=@List.length_cons
def Ql:=@List.mem_cons_self
def Qz:=@List.mem_cons
def v4:=λ{a b c d}=>(@Qz a b c d).mp
def Qx:=@List.map_cons
def Qc:=@if_neg
def Qv:=@List.mem_singleton
def Qb:=@decide_eq_true
def Qn:=@Nat.ne_of_lt
def Qm:=@PySem.F.plainAttrs_list
def Wq:=@Nat.le_trans
def Ww:=@Nat.le_of_lt
def We:=@List.mem_append
def v6:=λ{a b c d}=>(@We a b c d).mp
def Wr:=@Nat.lt_of_lt_of_le
def Wy:=@Bool.and_eq_true
def Wu:=@decide_eq_false
def Wi:=@PassesOwn.never
def Wo:=@List.append_nil
def Wp:=@List.mem_map
def v7:=λ{a b c d e}=>(@Wp a b c d e).mp
def Wa:=@congrArg
def Ws:=@List.mem_append_right
def Wf:=@sizeLine_eq
def Wg:=@Nat.lt_irrefl
def Wh:=@List.getElem?_map
def Wj:=@List.lookup_cons
def Wk:=@List.map_map
def Wl:=@decide_eq_true_eq
def Wz:=@Bool.false_ne_true
def Wx:=@List.length_take
def Wv:=@List.map_append
def Wb:=@List.getElem?_set_ne
def Wn:=@wpAny_call_entry
def Wm:=@Nat.zero_le
def Ew:=@PySem.F.slot_list_append
def Ee:=@PySem.F.type_list_append
def Er:=@Heap.get?_update_ne
def Ey:=@List.length_drop
def Eu:=@List.getD_eq_getElem?_getD
def Ei:=@List.length_zip
def Eo:=@List.mem_flatMap
def Ep:=@wpAny_field
def Ea:=@wpAny_mono
def Es:=@Option.isSome_iff_exists
def Ed:=@List.length_filter_le
def Eg:=@wpAny_callSpecial?_slot
def Eh:=@Bool.false_eq_true
def Ej:=@Bool.and_eq_true_iff
def Ek:=@List.mem_of_mem_take
def El:=@List.mem_of_mem_drop
def Ez:=@PySem.mem_of_lookup
def Ex:=@wpAny_newObj_type
def Ec:=@List.flatMap_cons
def Ev:=@wpAny_holding
def Eb:=@List.mem_filter
def En:=@Heap.get?_update_self
def Em:=@wpAny_Call_Name_kw
def Rq:=@List.pairwise_cons
def Rw:=@List.mem_of_getElem?
def Re:=@List.length_eq_zero_iff
def Rr:=@Heap.size_push
def Ry:=@wpAny_truthy_bool
def Ru:=@Nat.lt_succ_of_lt
def Ri:=@Option.some.inj
def Ro:=@PyProof.Rows.callWith_type1
def Rp:=@codeAny_builtin
def Ra:=@List.map_congr_left
def Rs:=@List.getElem?_set_self
def Rf:=@Heap.get?_update_other
def Rg:=@List.getElem?_append_right
def Rh:=@Array.getElem?_eq_some_iff
def Rj:=@wpAny_seqItems
def Rk:=@List.getElem?_zip_eq_some
def Rl:=@List.pairwise_append
def Rz:=@PyProof.Rows.slot_tuple_getitem
def Rx:=@of_decide_eq_true
def Rc:=@List.length_range
def Rv:=@Paired.length
def Rb:=@beq_eq_false_iff_ne
def Rn:=@List.filter_cons
def Rm:=@List.getElem_mem
def Tq:=@List.mem_range
def Tw:=@call_meets
def Te:=@callWith_K
def Tr:=@wpAny_setField_rec
def Tt:=@List.zip_cons_cons
def Tu:=@Int.emod_lt_of_pos
def Ti:=@wpAny_passesOwn
def To:=@Bool.eq_iff_iff
def Ta:=@List.nodup_cons
def Ts:=@List.length_replicate
def Td:=@Bool.or_eq_true
def Tg:=@kia_one
def Th:=@List.append_assoc
def Tj:=@plainId_quiet
def Tk:=@wpAny_loadPart_at
def Tl:=@listUpdate_at
def Tz:=@List.pairwise_map
def Tx:=@List.getElem?_append_left
def Tc:=@wpAny_newTuple
def Tv:=@wpAny_is_other
def Tb:=@List.pairwise_iff_getElem
def Yq:=@List.replicate_succ
def Yw:=@Heap.SameBut.update
def Ye:=@codeAny_mono
def Yr:=@Nat.min_self
def Yt:=@Nat.zero_add
def Yy:=@PySem.F.slot_list_extend
def Yu:=@PySem.F.type_list_extend
def Yi:=@wpAny_execs_nil
def Yo:=@List.getElem?_replicate
def Yp:=@List.find?_cons
def Ya:=@Option.map_some
def Ys:=@wpAny_getItem_str_slice
def Yf:=@Int.emod_nonneg
def Yg:=@Calls.callWith_builtin
def Yh:=@List.take_of_length_le
def Yj:=@List.filter_eq_nil_iff
def Yk:=@wpAny_pyIter_list
def Yl:=@Nat.le_succ
def Yz:=@List.flatten_cons
def Yx:=@Int.toNat_natCast
def Yc:=@wpAny_eqBool_str
def Yv:=@List.all_eq_true
def Yb:=@if_false
def Yn:=@wpAny_newList
def Ym:=@beq_iff_eq
def Uq:=@wpAny_rule
def Uw:=@List.of_mem_zip
def Ue:=@wpAny_updateSeq
def Ur:=@wpAny_ite_split
def Ut:=@List.flatMap_append
def Uy:=@List.filter_eq_self
def Uu:=@List.filter_map
def Ui:=@Int.fdiv_eq_ediv_of_nonneg
def Uo:=@Array.perm_iff_toList_perm
def Ua:=@wpAny_pyIter_tuple
def Us:=@Nat.lt_of_le_of_lt
def Ud:=@List.filter_append
def Ug:=@List.drop_eq_getElem_cons
def Uh:=@wpAny_tryCatch
def Uj:=@PySem.F.args_tuple_add_2
def Uk:=@Option.isSome_map
def Ul:=@wpAny_pyIter_slot
def Uz:=@List.nodup_append
def Ux:=@Str.length_append
def Uc:=@List.reverse_cons
def Uv:=@PySem.F.entry_tuple_add
def Ub:=@wpAny_letGo
def Um:=@seqEpoch_at
def Iq:=@List.eraseIdx_cons_succ
def Iw:=@wpAny_execs_cons
def Ie:=@Heap.size_update
def Ir:=@List.not_mem_nil
def Iy:=@cellsFrom_some
def Iu:=@PySem.F.slot_tuple_add
def Ii:=@List.range_succ_eq_map
def Ia:=@methodCall_KW
def Ig:=@List.map_nil
def Ih:=@post_val_or_str
def Ij:=@get?_update_seq
def Ik:=@Array.getElem?_setIfInBounds_self_of_lt
def Il:=@List.nil_append
def Ix:=@List.Perm.append_left
def Ic:=@wpAny_call
def Ib:=@typeIs_str
def Im:=@Nat.not_lt
def Oq:=@List.mem_append_left
def Ow:=@codeAny_call_builtin
def Oe:=@Nat.mul_le_mul
def Ot:=@List.filterMap_cons
def Oy:=@plainGet_of
def Ou:=@Array.length_toList
def Oi:=@mirror_perm
def Oo:=@List.toList_toArray
def Op:=@intItems_at
def Oa:=@ne_true_of_eq_false
def Os:=@List.flatten_append
def Od:=@Array.find?_toList
def Og:=@List.any_cons
def Oh:=@wpAny_attempt
def Oj:=@wpAny_standAt
def Ol:=@Array.forIn_toList
def Oz:=@List.map_take
def Ox:=@if_true
def Oc:=@bne_self_eq_false
def Ov:=@Nat.ne_of_gt
def Ob:=@Nat.le_of_eq
def On:=@concat_meets
def Om:=@Txt.slice_le
def Pq:=@listItems_at
def Pw:=@Int.mul_comm
def Pe:=@wpAny_eqBool_int
def Pr:=@Nat.lt_succ_self
def Py:=@noFill_tuple_add
def Pu:=@wpAny_isInstance
def Pi:=@beq_self_eq_true
def Po:=@wpAny_forIn_list
def Pp:=@Array.toList_map
def Pa:=@decide_eq_decide
def Ps:=@List.length_set
def Pd:=@Nat.min_eq_left
def Pf:=@Nat.le_antisymm
def Pg:=@SeqAt.EqAt.same
def Ph:=@entry_list_sort
def Pj:=@List.length_nil
def Pk:=@Int.le_refl
def Pz:=@Calls.Name_function_global
def Px:=@wpAny_newFunctionEnv_cells
def Pc:=@wpAny_loadPart
def Pv:=@wpAny_setField
def Pb:=@MeetsSeq.plain_index_loop
def Pn:=@MeetsSeq.entry_index_loop
def Pm:=@slot_list_sort
def Aq:=@Array.getElem?_eq_getElem
def Aw:=@Calls.call_function_entry
end
namespace L2
def zA (s:r9)(j:Nat):r9:=match s with
 | .ClassDef _ _ _ body _ _ _ _ _ _ _=>body.getD j<|.Pass ⟨0,0,0,0⟩
 | _=>.Pass ⟨0,0,0,0⟩
def qF (s:r9):Arguments:=match s with
 | .FunctionDef _ a _ _ _ _ _ _ _ _=>a
 | _=>{ posonlyargs:=[],args:=[],vararg:=none,kwonlyargs:=[],kw_defaults:=[],kwarg:=none,defaults:=[] }
def xL (s:r9):qg:=match s with
 | .FunctionDef _ _ b _ _ _ _ _ _ _=>b
 | _=>[]
def zV (s:r9):Scope:=match s with
 | .FunctionDef _ _ _ _ _ _ sc _ _ _=>sc
 | _=>{ kind:=.function,names:=[],isGenerator:=false,isCoroutine:=false }
end L2
open L2
namespace My
def top (i:Nat):r9:=PySem.Challenge.pw_curveyard_k41_lists_of_the_asker.main.body.getD i<|.Pass ⟨0,0,0,0⟩
end My
namespace My
open PyData
abbrev cb (n:Str)(t1 t2 t3 l r1 m r2 o t4:Nat):Obj:=⟨.type "code",none,.fields #[.str n t1,.str n t2,.str B8 t3,.int l 0,.int 0 0,.int 0 0,.int 0 0,.int 0 0,.ref r1,.bool false,.int m 0,.ref r2,.none,.none,.none,.none,.int o 0,.int l 0,.str B8 t4],#[]⟩
abbrev tu (l:jo)(n:Nat):Obj:=⟨.type "tuple",none,.seq l n,#[]⟩
abbrev nf (l:jo):Obj:=⟨.none,none,.fields l,#[]⟩
abbrev tf (t:String)(l:jo):Obj:=⟨.type t,none,.fields l,#[]⟩
abbrev di (l:Array DictEntry)(n:Nat):Obj:=⟨.type "dict",none,.dict l n,#[]⟩
abbrev fm (l:Array km):Obj:=⟨.type "frame",none,.plain,l⟩
abbrev co (n q:Str)(t1 t2 t3 l a x y z r1 m r2:Nat)(v1 v2 v3:qv)(r3 o t4:Nat):Obj:=⟨.type "code",none,.fields #[.str n t1,.str q t2,.str B8 t3,.int l 0,.int a 0,.int x 0,.int y 0,.int z 0,.ref r1,.bool true,.int m 0,.ref r2,v1,v2,v3,.ref r3,.int o 0,.int l 0,.str B8 t4],#[]⟩
abbrev fu (n q:Str)(s:r9)(m:Str)(t c:Nat):Obj:=⟨.type "function",none,.func<|fnOf n q (qF s) (xL s) (zV s) (.none) (.none) (.none) (.str m t) none (.ref c)<|.none,#[]⟩
abbrev ke (P:Params)(n:Str)(t:Nat)(v:qv):DictEntry:=⟨keyHash P n,.str n t,v⟩
abbrev cl (n:Str)(b r:jn)(s:Nat)(u:jn)(l:Array km):Obj:=⟨.type "type",none,.cls { name:=n,bases:=b,mro:=r,ns:=s,qualname:=n,hasDict:=true,slotNames:=[],subclasses:=u,abstract:=false,collection:=none,hasDel:=false },l⟩
abbrev gd (t a:Nat):Obj:=⟨.type "getset_descriptor",none,.fields #[.str Cc t,.ref a,.builtin "function.__dict__",.builtin "function.__dict__#set"],#[]⟩
abbrev gw (t a:Nat):Obj:=⟨.type "getset_descriptor",none,.fields #[.str B7 t,.ref a,.builtin "ExceptionGroup.__weakref__",.none],#[]⟩
abbrev cq5 (a:Nat)(n q:Str)(t l k o:Nat):Obj:=co n q t (t+1) (t+2) l k 0 0 3 (a - 5) 181 (a - 4) .none (.ref<|a - 3) (.ref<|a - 2) (a - 1) o<|o+1
abbrev rK (a:Nat)(n:Str)(t l k o:Nat):Obj:=cq5 a n n t l k o
abbrev cq3 (a:Nat)(n q:Str)(t l k o:Nat):Obj:=co n q t (t+1) (t+2) l k 0 0 3 (a - 3) 181 (a - 2) .none .none .none (a - 1) o<|o+1
abbrev gS (a:Nat)(n:Str)(t l k o:Nat):Obj:=cq3 a n n t l k o
abbrev fq0 (n q:Str)(s:r9)(a:Nat):Obj:=fu n q s "__main__" 164 a
abbrev fs0 (n:Str)(k a:Nat):Obj:=fq0 n n (top k) a
abbrev fq1 (n q:Str)(s:r9)(a:Nat):Obj:=fu n q s Ag 194 a
abbrev fq2 (n q:Str)(s:r9)(a:Nat):Obj:=fu n q s "curveyard.turns" 364 a
abbrev fs2 (n:Str)(k a:Nat):Obj:=fq2 n n (top k) a
abbrev fq3 (n q:Str)(s:r9)(a:Nat):Obj:=fu n q s AJ 384 a
abbrev fs3 (n:Str)(k a:Nat):Obj:=fq3 n n (top k) a
abbrev fq4 (n q:Str)(s:r9)(a:Nat):Obj:=fu n q s "curveyard.numbering" 483 a
abbrev fs4 (n:Str)(k a:Nat):Obj:=fq4 n n (top k) a
abbrev fq5 (n q:Str)(s:r9)(a:Nat):Obj:=fu n q s "curveyard.boxes" 510 a
abbrev fs5 (n:Str)(k a:Nat):Obj:=fq5 n n (top k) a
abbrev fq6 (n q:Str)(s:r9)(a:Nat):Obj:=fu n q s BS 582 a
abbrev fs6 (n:Str)(k a:Nat):Obj:=fq6 n n (top k) a
abbrev fq7 (n q:Str)(s:r9)(a:Nat):Obj:=fu n q s Bd 692 a
abbrev fq8 (n q:Str)(s:r9)(a:Nat):Obj:=fu n q s "curveyard.stretches" 763 a
abbrev fs8 (n:Str)(k a:Nat):Obj:=fq8 n n (top k) a
abbrev fq9 (n q:Str)(s:r9)(a:Nat):Obj:=fu n q s "curveyard.yard" 819 a
abbrev zDe (n q:Str)(s:r9)(a:Nat):Obj:=fu n q s Bz 969 a
abbrev zZz (n:Str)(k a:Nat):Obj:=zDe n n (top k) a
abbrev xd (P:Params)(a t l:Nat):Obj:=di #[ke P Ak t<|.str Ag 194,ke P Ab (t+4)<|.int l<|t+3,ke P A3 (t+5)<|.ref<|a - 1,ke P B2 (t+6) .none] 2
abbrev xc (a:Nat)(n:Str)(b:Nat)(l:Array km):Obj:=cl n [.ref b] [.ref a,.ref b,.type AG,.type "Exception",.type "BaseException",.type "object"] (a - 1) [] l
abbrev xe (a:Nat)(n:Str)(b r t u:Nat):Obj:=xc a n b #[some<|.ref r,none,some<|.str n t,some<|.str n u,some<|.builtin "ValueError.__new__",some<|.bool true]
abbrev oc (a:Nat)(n:Str)(t u:Nat):Obj:=cl n [.type "object"] [.ref a,.type "object"] (a - 1) [] #[none,none,some<|.str n t,some<|.str n u,some<|.builtin "object.__new__",some<|.bool true]
def zWk:Params->Frag:=λP =>
 (~~~3,di #[ke P "__name__" 165<|.str Bz 969,ke P B2 166 .none,ke P "__package__" 167 .none,ke P "__loader__" 168<|.builtin Cl,ke P "__spec__" 169 .none,ke P CD 170<|.ref 6,ke P "__builtins__" 171<|.ref 4,ke P "__file__" 173<|.str B8 172,ke P "__cached__" 174 .none,ke P CF 193<|.ref 21,ke P AU 213<|.ref 31,ke P Ao 229<|.ref 44,ke P C5 245<|.ref 56,ke P Cm 261<|.ref 68,ke P AR 277<|.ref 80,ke P As 293<|.ref 92,ke P C6 309<|.ref 104,ke P Bc 334<|.ref 123,ke P Cn 363<|.ref 142,ke P BE 371<|.ref 149,ke P C7 377<|.ref 154,ke P C8 383<|.ref 159,ke P AW 418<|.ref 176,ke P Al 453<|.ref 197,ke P AO 460<|.ref 208,ke P Bn 473<|.ref 215,ke P BF 482<|.ref 222,ke P Cu 494<|.ref 229,ke P B3 500<|.ref 234,ke P B4 509<|.ref 241,ke P AX 517<|.ref 246,ke P B9 528<|.ref 253,ke P Bo 537<|.ref 260,ke P C9 547<|.ref 267,ke P BG 557<|.ref 274,ke P BH 569<|.ref 281,ke P BI 575<|.ref 286,ke P BA 581<|.ref 291,ke P A2 613<|.ref 306,ke P Cv 623<|.ref 317,ke P CU 629<|.ref 322,ke P AY 635<|.ref 327,ke P AQ 646<|.ref 334,ke P AD 652<|.ref 339,ke P Ba 662<|.ref 346,ke P BJ 668<|.ref 351,ke P Bp 676<|.ref 358,ke P Az 685<|.ref 365,ke P Av 691<|.ref 370,ke P Ad 762<|.ref 422,ke P Bh 775<|.ref 433,ke P CH 792<|.ref 440,ke P Cw 798<|.ref 445,ke P CI 804<|.ref 450,ke P Bw 812<|.ref 457,ke P By 818<|.ref 462,ke P A1 968<|.ref 566,ke P BT 978<|.ref 577,ke P Cd 988<|.ref 584,ke P BU 994<|.ref 589,ke P BV 1000<|.ref 594,ke P BK 1006<|.ref 599,ke P BL 1012<|.ref 604,ke P BM 1021<|.ref 611,ke P Ce 1037<|.ref 618,ke P Cf 1051<|.ref 625,ke P BW 1064<|.ref 632,ke P "_law_due" 1075<|.ref 639,ke P Bi 1083<|.ref 646,ke P BX 1093<|.ref 653,ke P Bb 1102<|.ref 660,ke P "law" 1125<|.ref 667] 72) ::
 (~~~20,rK 20 CF 187 1 1 191) ::
 (~~~21,fs0 CF 0 20) ::
 (~~~30,di #[ke P Ak 203<|.str Ag 194,ke P Ab 207<|.int 5 206,ke P A3 208<|.ref 29,ke P B7 210<|.ref 32,ke P B2 211 .none] 3) ::
 (~~~31,cl AU [.type AG] [.ref 31,.type AG,.type "Exception",.type "BaseException",.type "object"] 30 [.ref 44,.ref 56,.ref 68,.ref 80,.ref 92,.ref 104,.ref 123,.ref 142] #[some<|.ref 22,none,some<|.str AU 196,some<|.str AU 204,some<|.builtin "ValueError.__new__",some<|.bool true]) ::
 (~~~32,gw 209 31) ::
 (~~~43,xd P 43 221 7) ::
 (~~~44,xe 44 Ao 31 35 214 222) ::
 (~~~55,xd P 55 237 9) ::
 (~~~56,xe 56 C5 31 47 230 238) ::
 (~~~67,xd P 67 253 11) ::
 (~~~68,xe 68 Cm 31 59 246 254) ::
 (~~~79,xd P 79 269 13) ::
 (~~~80,xe 80 AR 31 71 262 270) ::
 (~~~91,xd P 91 285 15) ::
 (~~~92,xe 92 As 31 83 278 286) ::
 (~~~103,xd P 103 301 17) ::
 (~~~104,xe 104 C6 31 95 294 302) ::
 (~~~119,cq5 119 A9 Cg 322 21 2 327) ::
 (~~~120,fq1 A9 Cg (zA (top 9) 0) 119) ::
 (~~~122,di #[ke P Ak 317<|.str Ag 194,ke P Ab 321<|.int 19 320,ke P A9 329<|.ref 120,ke P A3 331<|.ref 121,ke P B2 332 .none] 2) ::
 (~~~123,xe 123 Bc 31 107 310 318) ::
 (~~~138,cq5 138 A9 CJ 347 25 4 354) ::
 (~~~139,fq1 A9 CJ (zA (top 10) 0) 138) ::
 (~~~141,di #[ke P Ak 342<|.str Ag 194,ke P Ab 346<|.int 23 345,ke P A9 356<|.ref 139,ke P A3 360<|.ref 140,ke P B2 361 .none] 2) ::
 (~~~142,xe 142 Cn 31 126 335 343) ::
 (~~~148,gS 148 BE 366 30 2 369) ::
 (~~~149,fs2 BE 12 148) ::
 (~~~153,gS 153 C7 372 32 1 375) ::
 (~~~154,fs2 C7 13 153) ::
 (~~~158,gS 158 C8 378 34 2 381) ::
 (~~~159,fs2 C8 14 158) ::
 (~~~172,cq5 172 A9 BB 398 39 4 405) ::
 (~~~173,fq3 A9 BB (zA (top 16) 0) 172) ::
 (~~~175,di #[ke P Ak 393<|.str AJ 384,ke P Ab 397<|.int 37 396,ke P A9 407<|.ref 173,ke P A3 411<|.ref 174,ke P Cc 413<|.ref 177,ke P B7 415<|.ref 178,ke P B2 416 .none] 4) ::
 (~~~176,oc 176 AW 386 394) ::
 (~~~177,gd 412 176) ::
 (~~~178,gw 414 176) ::
 (~~~193,cq5 193 A9 Bq 431 45 5 439) ::
 (~~~194,fq3 A9 Bq (zA (top 17) 0) 193) ::
 (~~~196,di #[ke P Ak 426<|.str AJ 384,ke P Ab 430<|.int 43 429,ke P A9 441<|.ref 194,ke P A3 446<|.ref 195,ke P Cc 448<|.ref 198,ke P B7 450<|.ref 199,ke P B2 451 .none] 4) ::
 (~~~197,oc 197 Al 419 427) ::
 (~~~198,gd 447 197) ::
 (~~~199,gw 449 197) ::
 (~~~207,rK 207 AO 454 50 1 458) ::
 (~~~208,fs3 AO 18 207) ::
 (~~~214,rK 214 Bn 461 52 3 471) ::
 (~~~215,fs3 Bn 19 214) ::
 (~~~221,rK 221 BF 474 57 3 480) ::
 (~~~222,fs3 BF 20 221) ::
 (~~~228,rK 228 Cu 485 60 2 492) ::
 (~~~229,fs4 Cu 22 228) ::
 (~~~233,gS 233 B3 495 65 3 498) ::
 (~~~234,fs4 B3 23 233) ::
 (~~~240,rK 240 B4 501 68 3 507) ::
 (~~~241,fs4 B4 24 240) ::
 (~~~245,gS 245 AX 512 72 2 515) ::
 (~~~246,fs5 AX 26 245) ::
 (~~~252,rK 252 B9 518 74 3 526) ::
 (~~~253,fs5 B9 27 252) ::
 (~~~259,rK 259 Bo 529 77 3 535) ::
 (~~~260,fs5 Bo 28 259) ::
 (~~~266,rK 266 C9 538 80 2 545) ::
 (~~~267,fs5 C9 29 266) ::
 (~~~273,rK 273 BG 548 83 2 555) ::
 (~~~274,fs5 BG 30 273) ::
 (~~~280,rK 280 BH 558 86 1 567) ::
 (~~~281,fs5 BH 31 280) ::
 (~~~285,gS 285 BI 570 92 2 573) ::
 (~~~286,fs5 BI 32 285) ::
 (~~~290,gS 290 BA 576 96 2 579) ::
 (~~~291,fs5 BA 33 290) ::
 (~~~302,cq3 302 A9 BC 596 103 3 599) ::
 (~~~303,fq6 A9 BC (zA (top 35) 0) 302) ::
 (~~~305,di #[ke P Ak 591<|.str BS 582,ke P Ab 595<|.int 101 594,ke P A9 601<|.ref 303,ke P A3 606<|.ref 304,ke P Cc 608<|.ref 307,ke P B7 610<|.ref 308,ke P B2 611 .none] 4) ::
 (~~~306,oc 306 A2 584 592) ::
 (~~~307,gd 607 306) ::
 (~~~308,gw 609 306) ::
 (~~~316,rK 316 Cv 614 109 1 621) ::
 (~~~317,fs6 Cv 36 316) ::
 (~~~321,gS 321 CU 624 112 2 627) ::
 (~~~322,fs6 CU 37 321) ::
 (~~~326,gS 326 AY 630 115 2 633) ::
 (~~~327,fs6 AY 38 326) ::
 (~~~333,rK 333 AQ 636 120 3 644) ::
 (~~~334,fs6 AQ 39 333) ::
 (~~~338,gS 338 AD 647 126 3 650) ::
 (~~~339,fs6 AD 40 338) ::
 (~~~345,rK 345 Ba 653 132 3 660) ::
 (~~~346,fs6 Ba 41 345) ::
 (~~~350,gS 350 BJ 663 139 2 666) ::
 (~~~351,fs6 BJ 42 350) ::
 (~~~357,rK 357 Bp 669 148 1 674) ::
 (~~~358,fs6 Bp 43 357) ::
 (~~~364,rK 364 Az 677 155 1 683) ::
 (~~~365,fs6 Az 44 364) ::
 (~~~369,gS 369 Av 686 162 3 689) ::
 (~~~370,fs6 Av 45 369) ::
 (~~~383,cq5 383 A9 Br 706 173 2 711) ::
 (~~~384,fq7 A9 Br (zA (top 47) 0) 383) ::
 (~~~390,cq5 390 Ax Ct 714 177 2 719) ::
 (~~~391,fq7 Ax Ct (zA (top 47) 1) 390) ::
 (~~~397,cq5 397 AC Ch 722 182 2 727) ::
 (~~~398,fq7 AC Ch (zA (top 47) 2) 397) ::
 (~~~404,cq5 404 Bs BO 730 187 1 734) ::
 (~~~405,fq7 Bs BO (zA (top 47) 3) 404) ::
 (~~~411,cq5 411 AV Bt 737 190 3 743) ::
 (~~~412,fq7 AV Bt (zA (top 47) 4) 411) ::
 (~~~418,cq5 418 "shape" D2 746 193 1 750) ::
 (~~~419,fq7 "shape" D2 (zA (top 47) 5) 418) ::
 (~~~421,di #[ke P Ak 701<|.str Bd 692,ke P Ab 705<|.int 171 704,ke P A9 713<|.ref 384,ke P Ax 721<|.ref 391,ke P AC 729<|.ref 398,ke P Bs 736<|.ref 405,ke P AV 745<|.ref 412,ke P "shape" 752<|.ref 419,ke P A3 755<|.ref 420,ke P Cc 757<|.ref 423,ke P B7 759<|.ref 424,ke P B2 760 .none] 4) ::
 (~~~422,oc 422 Ad 694 702) ::
 (~~~423,gd 756 422) ::
 (~~~424,gw 758 422) ::
 (~~~432,rK 432 Bh 765 196 3 773) ::
 (~~~433,fs8 Bh 49 432) ::
 (~~~439,rK 439 CH 776 200 5 790) ::
 (~~~440,fs8 CH 50 439) ::
 (~~~444,gS 444 Cw 793 212 2 796) ::
 (~~~445,fs8 Cw 51 444) ::
 (~~~449,gS 449 CI 799 218 2 802) ::
 (~~~450,fs8 CI 52 449) ::
 (~~~456,rK 456 Bw 805 221 2 810) ::
 (~~~457,fs8 Bw 53 456) ::
 (~~~461,gS 461 By 813 223 2 816) ::
 (~~~462,fs8 By 54 461) ::
 (~~~475,cq5 475 A9 Ci 833 231 4 840) ::
 (~~~476,fq9 A9 Ci (zA (top 56) 0) 475) ::
 (~~~482,cq5 482 Ax D0 843 237 3 849) ::
 (~~~483,fq9 Ax D0 (zA (top 56) 1) 482) ::
 (~~~489,cq5 489 AH CV 852 243 3 858) ::
 (~~~490,fq9 AH CV (zA (top 56) 2) 489) ::
 (~~~496,cq5 496 AC CW 861 249 2 868) ::
 (~~~497,fq9 AC CW (zA (top 56) 3) 496) ::
 (~~~503,cq5 503 Bj CK 871 254 2 876) ::
 (~~~504,fq9 Bj CK (zA (top 56) 4) 503) ::
 (~~~510,cq5 510 CG CL 879 258 1 883) ::
 (~~~511,fq9 CG CL (zA (top 56) 5) 510) ::
 (~~~515,cq3 515 CM CA 886 261 2 889) ::
 (~~~516,fq9 CM CA (zA (top 56) 6) 515) ::
 (~~~522,cq5 522 BN Co 892 264 2 901) ::
 (~~~523,fq9 BN Co (zA (top 56) 7) 522) ::
 (~~~527,cq3 527 Cy Cp 904 272 3 907) ::
 (~~~528,fq9 Cy Cp (zA (top 56) 8) 527) ::
 (~~~534,cq5 534 Cz Cq 910 276 1 919) ::
 (~~~535,fq9 Cz Cq (zA (top 56) 9) 534) ::
 (~~~541,cq5 541 Au BZ 922 284 2 927) ::
 (~~~542,fq9 Au BZ (zA (top 56) 10) 541) ::
 (~~~548,cq5 548 AA Cj 930 287 2 935) ::
 (~~~549,fq9 AA Cj (zA (top 56) 11) 548) ::
 (~~~555,cq5 555 "lay" D1 938 291 3 946) ::
 (~~~556,fq9 "lay" D1 (zA (top 56) 12) 555) ::
 (~~~562,cq5 562 Ah CN 949 296 2 954) ::
 (~~~563,fq9 Ah CN (zA (top 56) 13) 562) ::
 (~~~565,di #[ke P Ak 828<|.str "curveyard.yard" 819,ke P Ab 832<|.int 229 831,ke P A9 842<|.ref 476,ke P Ax 851<|.ref 483,ke P AH 860<|.ref 490,ke P AC 870<|.ref 497,ke P Bj 878<|.ref 504,ke P CG 885<|.ref 511,ke P CM 891<|.ref 516,ke P BN 903<|.ref 523,ke P Cy 909<|.ref 528,ke P Cz 921<|.ref 535,ke P Au 929<|.ref 542,ke P AA 937<|.ref 549,ke P "lay" 948<|.ref 556,ke P Ah 956<|.ref 563,ke P A3 961<|.ref 564,ke P Cc 963<|.ref 567,ke P B7 965<|.ref 568,ke P B2 966 .none] 4) ::
 (~~~566,oc 566 A1 821 829) ::
 (~~~567,gd 962 566) ::
 (~~~568,gw 964 566) ::
 (~~~576,rK 576 BT 971 299 2 976) ::
 (~~~577,zZz BT 58 576) ::
 (~~~583,rK 583 Cd 979 303 3 986) ::
 (~~~584,zZz Cd 59 583) ::
 (~~~588,gS 588 BU 989 306 2 992) ::
 (~~~589,zZz BU 60 588) ::
 (~~~593,gS 593 BV 995 311 2 998) ::
 (~~~594,zZz BV 61 593) ::
 (~~~598,gS 598 BK 1001 318 2 1004) ::
 (~~~599,zZz BK 62 598) ::
 (~~~603,gS 603 BL 1007 333 1 1010) ::
 (~~~604,zZz BL 63 603) ::
 (~~~610,rK 610 BM 1013 346 2 1019) ::
 (~~~611,zZz BM 64 610) ::
 (~~~617,rK 617 Ce 1022 351 4 1035) ::
 (~~~618,zZz Ce 65 617) ::
 (~~~624,rK 624 Cf 1038 361 3 1049) ::
 (~~~625,zZz Cf 66 624) ::
 (~~~631,rK 631 BW 1052 373 4 1062) ::
 (~~~632,zZz BW 67 631) ::
 (~~~645,rK 645 Bi 1076 395 1 1081) ::
 (~~~646,zZz Bi 69 645) ::
 (~~~652,rK 652 BX 1084 402 2 1091) ::
 (~~~653,zZz BX 70 652) ::
 (~~~659,rK 659 Bb 1094 414 3 1100) ::
 (~~~660,zZz Bb 71 659) ::
 (~~~666,rK 666 "law" 1103 426 1 1123) ::
 (~~~667,zZz "law" 72 666)::[]
def gY:Program:=view PySem.Challenge.pw_curveyard_k41_lists_of_the_asker [72]
def loose:kg:=CF::AU::Ao::C5::Cm::AR::As::C6::Bc::Cn::BE::C7::C8::AW::Al::AO::Bn::BF::Cu::B3::B4::AX::B9::Bo::C9::BG::BH::BI::BA::A2::Cv::CU::AY::AQ::AD::Ba::BJ::Bp::Az::Av::Ad::Bh::CH::Cw::CI::Bw::By::A1::BT::Cd::BU::BV::BK::BL::BM::Ce::Cf::BW::"_law_due"::Bi::BX::Bb::[]
def zGL:kn:=(zWk { strHash:=λ_=>0,shareClass:=λ_=>0,mergeTok:=id,idOf:=λ_=>0,idOfShared:=λ_ _=>0,followText:=λ_=>false,idOfImm:=λ_=>0 }).map λx=>x.1
theorem zQY (P:Params):zGL=(zWk P).map (λx=>x.1):=jf
abbrev hook:Hook:=kHook zWk zGL zQY
abbrev zGY (s:qw):Bool:=xlAt gY [] s&&recOk (RowW.records PySem.Challenge.rw_curveyard_k41_lists_of_the_asker.row.toRowW) s
def b (P:Params)(i:Nat):Obj:=((zWk P).getD i (0,default)).2
def cf (n q:Str)(s:r9):Obj:=⟨.none,none,.func { name:=n,qualname:=q,params:=qF s,body:=.stmts<|xL s,scope:=zV s,globals:=0,closure:=[],defaults:=.none,kwdefaults:=.none },#[]⟩
abbrev tn (r:List Obj):List Obj:=tu #[] 0::nf #[]::r
abbrev bb (P:Params)(i:Nat)(r:List Obj):List Obj:=b P i::b P (i+1)::r
abbrev su (a:Nat)(r:List Obj):List Obj:=tf "super" #[.ref a,.ref a,.ref a]::tf Bl #[.builtin CB,.ref a]::r
abbrev pr (v:jo)(d:Obj)(f:jo)(c:Obj)(k e:Nat)(m:Str)(t:Nat)(r:List Obj):List Obj:=tu v 0::tf Bl #[.builtin "type.__prepare__",.type "type"]::d::tu #[] 0::nf f::c::fm #[some<|.ref k,some<|.ref 3,some<|.ref e,none,some<|.str m t,none,some<|.ref 0]::tu #[] 0::r
abbrev ex (P:Params)(v:qv)(n:Str)(t l c e i:Nat)(r:List Obj):List Obj:=pr #[v] (di #[ke P Ak t<|.str Ag 194,ke P AS (t+2)<|.str n<|t+1,ke P Ab (t+4)<|.int l<|t+3,ke P A3 (t+5)<|.ref<|e+5] 4) #[] (cb n c (c+1) (c+2) l (e+1) 181 (e+2) (c+3)<|c+4) (e+3) e Ag 194 <| b P i::b P (i+1)::su (e+7) r
def zIq (P:Params):List Obj :=
 boot_o_0 P ::
 boot_o_1 P ::
 boot_o_2 P ::
 di #[ke P "__name__" 165<|.str Bd 692,ke P B2 166 .none,ke P "__package__" 167 .none,ke P "__loader__" 168<|.builtin Cl,ke P "__spec__" 169 .none,ke P CD 170<|.ref 6,ke P "__builtins__" 171<|.ref 4,ke P "__file__" 173<|.str B8 172,ke P "__cached__" 174 .none,ke P CF 193<|.ref 21,ke P AU 213<|.ref 31,ke P Ao 229<|.ref 44,ke P C5 245<|.ref 56,ke P Cm 261<|.ref 68,ke P AR 277<|.ref 80,ke P As 293<|.ref 92,ke P C6 309<|.ref 104,ke P Bc 334<|.ref 123,ke P Cn 363<|.ref 142,ke P BE 371<|.ref 149,ke P C7 377<|.ref 154,ke P C8 383<|.ref 159,ke P AW 418<|.ref 176,ke P Al 453<|.ref 197,ke P AO 460<|.ref 208,ke P Bn 473<|.ref 215,ke P BF 482<|.ref 222,ke P Cu 494<|.ref 229,ke P B3 500<|.ref 234,ke P B4 509<|.ref 241,ke P AX 517<|.ref 246,ke P B9 528<|.ref 253,ke P Bo 537<|.ref 260,ke P C9 547<|.ref 267,ke P BG 557<|.ref 274,ke P BH 569<|.ref 281,ke P BI 575<|.ref 286,ke P BA 581<|.ref 291,ke P A2 613<|.ref 306,ke P Cv 623<|.ref 317,ke P CU 629<|.ref 322,ke P AY 635<|.ref 327,ke P AQ 646<|.ref 334,ke P AD 652<|.ref 339,ke P Ba 662<|.ref 346,ke P BJ 668<|.ref 351,ke P Bp 676<|.ref 358,ke P Az 685<|.ref 365,ke P Av 691<|.ref 370,ke P Ad 762<|.ref 422] 50 ::
 boot_o_4 P ::
 boot_o_5 P ::
 boot_o_6 P ::
 boot_o_7 P ::
 boot_o_8 P ::
 boot_o_9 P ::
 boot_o_10 P ::
 tu #[] 0 ::
 nf #[.int 1 0,.int 0 0,.ref 20,.int 5 0,.int 0 0,.ref 27,.int 7 0,.int 0 0,.ref 40,.int 9 0,.int 0 0,.ref 52,.int 11 0,.int 0 0,.ref 64,.int 13 0,.int 0 0,.ref 76,.int 15 0,.int 0 0,.ref 88,.int 17 0,.int 0 0,.ref 100,.int 19 0,.int 0 0,.ref 112,.int 23 0,.int 0 0,.ref 131,.int 30 0,.int 0 0,.ref 148,.int 32 0,.int 0 0,.ref 153,.int 34 0,.int 0 0,.ref 158,.int 37 0,.int 0 0,.ref 165,.int 43 0,.int 0 0,.ref 186,.int 50 0,.int 0 0,.ref 207,.int 52 0,.int 0 0,.ref 214,.int 57 0,.int 0 0,.ref 221,.int 60 0,.int 0 0,.ref 228,.int 65 0,.int 0 0,.ref 233,.int 68 0,.int 0 0,.ref 240,.int 72 0,.int 0 0,.ref 245,.int 74 0,.int 0 0,.ref 252,.int 77 0,.int 0 0,.ref 259,.int 80 0,.int 0 0,.ref 266,.int 83 0,.int 0 0,.ref 273,.int 86 0,.int 0 0,.ref 280,.int 92 0,.int 0 0,.ref 285,.int 96 0,.int 0 0,.ref 290,.int 101 0,.int 0 0,.ref 297,.int 109 0,.int 0 0,.ref 316,.int 112 0,.int 0 0,.ref 321,.int 115 0,.int 0 0,.ref 326,.int 120 0,.int 0 0,.ref 333,.int 126 0,.int 0 0,.ref 338,.int 132 0,.int 0 0,.ref 345,.int 139 0,.int 0 0,.ref 350,.int 148 0,.int 0 0,.ref 357,.int 155 0,.int 0 0,.ref 364,.int 162 0,.int 0 0,.ref 369,.int 171 0,.int 0 0,.ref 376] ::
 cb "<module>" 182 183 184 1 11 181 12 185 186 ::
 fm #[some<|.ref 13,some<|.ref 3,some<|.ref 3,none,some<|.str "__main__" 164,none,some<|.ref 0] ::
 tn (
 tu #[.str "k" 190] 0 ::
 tu #[] 0 ::
 cf CF CF (top 0) ::
 bb P 1 (
 pr #[.type AG] (di #[ke P Ak 203<|.str Ag 194,ke P AS 205<|.str AU 204,ke P Ab 207<|.int 5 206,ke P A3 208<|.ref 29] 4) #[] (cb AU 198 199 200 5 25 181 26 201 202) 27 24 Ag 194 (
 bb P 3 (
 b P 5 ::
 su 31 (
 ex P (.ref 31) Ao 221 7 216 37 6 (
 ex P (.ref 31) C5 237 9 232 49 8 (
 ex P (.ref 31) Cm 253 11 248 61 10 (
 ex P (.ref 31) AR 269 13 264 73 12 (
 ex P (.ref 31) As 285 15 280 85 14 (
 ex P (.ref 31) C6 301 17 296 97 16 (
 pr #[.ref 31] (di #[ke P Ak 317<|.str Ag 194,ke P AS 319<|.str Bc 318,ke P Ab 321<|.int 19 320,ke P A9 329<|.ref 120,ke P A3 331<|.ref 121] 5) #[.int 21 0,.int 4 0,.ref 119] (cb Bc 312 313 314 19 110 181 111 315 316) 112 109 Ag 194 (
 nf #[] ::
 tu #[.str A0 325,.str "row" 326] 0 ::
 tu #[] 0 ::
 cf A9 Cg (zA (top 9) 0) ::
 bb P 18 (
 tu #[.str "row" 330] 0 ::
 bb P 20 (
 su 123 (
 pr #[.ref 31] (di #[ke P Ak 342<|.str Ag 194,ke P AS 344<|.str Cn 343,ke P Ab 346<|.int 23 345,ke P A9 356<|.ref 139,ke P A3 360<|.ref 140] 5) #[.int 25 0,.int 4 0,.ref 138] (cb Cn 337 338 339 23 129 181 130 340 341) 131 128 Ag 194 (
 nf #[] ::
 tu #[.str A0 350,.str Am 351,.str "second" 352,.str Ac 353] 0 ::
 tu #[] 0 ::
 cf A9 CJ (zA (top 10) 0) ::
 bb P 22 (
 tu #[.str Am 357,.str Ac 358,.str "second" 359] 0 ::
 bb P 24 (
 su 142 (
 tn (
 cf BE BE (top 12) ::
 bb P 26 (
 tn (
 cf C7 C7 (top 13) ::
 bb P 28 (
 tn (
 cf C8 C8 (top 14) ::
 bb P 30 (
 pr #[] (di #[ke P Ak 393<|.str AJ 384,ke P AS 395<|.str AW 394,ke P Ab 397<|.int 37 396,ke P A9 407<|.ref 173,ke P A3 411<|.ref 174] 5) #[.int 39 0,.int 4 0,.ref 172] (cb AW 388 389 390 37 163 181 164 391 392) 165 162 AJ 384 (
 nf #[] ::
 tu #[.str A0 401,.str Aj 402,.str AK 403,.str AL 404] 0 ::
 tu #[] 0 ::
 cf A9 BB (zA (top 16) 0) ::
 bb P 32 (
 tu #[.str AL 408,.str Aj 409,.str AK 410] 0 ::
 bb P 34 (
 bb P 36 (
 su 176 (
 pr #[] (di #[ke P Ak 426<|.str AJ 384,ke P AS 428<|.str Al 427,ke P Ab 430<|.int 43 429,ke P A9 441<|.ref 194,ke P A3 446<|.ref 195] 5) #[.int 45 0,.int 4 0,.ref 193] (cb Al 421 422 423 43 184 181 185 424 425) 186 183 AJ 384 (
 nf #[] ::
 tu #[.str A0 434,.str A6 435,.str Aa 436,.str B6 437,.str AE 438] 0 ::
 tu #[] 0 ::
 cf A9 Bq (zA (top 17) 0) ::
 bb P 38 (
 tu #[.str Aa 442,.str B6 443,.str A6 444,.str AE 445] 0 ::
 bb P 40 (
 bb P 42 (
 su 197 (
 tn (
 tu #[.str Aa 457] 0 ::
 tu #[] 0 ::
 cf AO AO (top 18) ::
 bb P 44 (
 tn (
 tu #[.str An 464,.str BP 465,.str "digit" 466,.str AK 467,.str AL 468,.str "part" 469,.str Ca 470] 0 ::
 tu #[] 0 ::
 cf Bn Bn (top 19) ::
 bb P 46 (
 tn (
 tu #[.str An 477,.str AL 478,.str "number" 479] 0 ::
 tu #[] 0 ::
 cf BF BF (top 20) ::
 bb P 48 (
 tn (
 tu #[.str Aa 488,.str Ac 489,.str "places" 490,.str "halving" 491] 0 ::
 tu #[] 0 ::
 cf Cu Cu (top 22) ::
 bb P 50 (
 tn (
 cf B3 B3 (top 23) ::
 bb P 52 (
 tn (
 tu #[.str Aa 504,.str Ac 505,.str Ar 506] 0 ::
 tu #[] 0 ::
 cf B4 B4 (top 24) ::
 bb P 54 (
 tn (
 cf AX AX (top 26) ::
 bb P 56 (
 tn (
 tu #[.str A4 521,.str Aa 522,.str Ac 523,.str Bf 524,.str B1 525] 0 ::
 tu #[] 0 ::
 cf B9 B9 (top 27) ::
 bb P 58 (
 tn (
 tu #[.str A4 532,.str Aa 533,.str Ac 534] 0 ::
 tu #[] 0 ::
 cf Bo Bo (top 28) ::
 bb P 60 (
 tn (
 tu #[.str A4 541,.str Ar 542,.str Bf 543,.str B1 544] 0 ::
 tu #[] 0 ::
 cf C9 C9 (top 29) ::
 bb P 62 (
 tn (
 tu #[.str Ck 551,.str AF 552,.str Bf 553,.str B1 554] 0 ::
 tu #[] 0 ::
 cf BG BG (top 30) ::
 bb P 64 (
 tn (
 tu #[.str A4 561,.str Bf 562,.str B1 563,.str "places" 564,.str Bm 565,.str Ay 566] 0 ::
 tu #[] 0 ::
 cf BH BH (top 31) ::
 bb P 66 (
 tn (
 cf BI BI (top 32) ::
 bb P 68 (
 tn (
 cf BA BA (top 33) ::
 bb P 70 (
 pr #[] (di #[ke P Ak 591<|.str BS 582,ke P AS 593<|.str A2 592,ke P Ab 595<|.int 101 594,ke P A9 601<|.ref 303,ke P A3 606<|.ref 304] 5) #[.int 103 0,.int 4 0,.ref 302] (cb A2 586 587 588 101 295 181 296 589 590) 297 294 BS 582 (
 nf #[] ::
 cf A9 BC (zA (top 35) 0) ::
 bb P 72 (
 tu #[.str Ap 602,.str AI 603,.str Ay 604,.str A5 605] 0 ::
 bb P 74 (
 bb P 76 (
 su 306 (
 tn (
 tu #[.str A8 617,.str Am 618,.str AM 619,.str A6 620] 0 ::
 tu #[] 0 ::
 cf Cv Cv (top 36) ::
 bb P 78 (
 tn (
 cf CU CU (top 37) ::
 bb P 80 (
 tn (
 cf AY AY (top 38) ::
 bb P 82 (
 tn (
 tu #[.str Ai 639,.str A8 640,.str Af 641,.str "at" 642,.str Ca 643] 0 ::
 tu #[] 0 ::
 cf AQ AQ (top 39) ::
 bb P 84 (
 tn (
 cf AD AD (top 40) ::
 bb P 86 (
 tn (
 tu #[.str Ap 656,.str A5 657,.str Af 658,.str CO 659] 0 ::
 tu #[] 0 ::
 cf Ba Ba (top 41) ::
 bb P 88 (
 tn (
 cf BJ BJ (top 42) ::
 bb P 90 (
 tn (
 tu #[.str Cr 672,.str AN 673] 0 ::
 tu #[] 0 ::
 cf Bp Bp (top 43) ::
 bb P 92 (
 tn (
 tu #[.str Ai 680,.str "entries" 681,.str Ca 682] 0 ::
 tu #[] 0 ::
 cf Az Az (top 44) ::
 bb P 94 (
 tn (
 cf Av Av (top 45) ::
 bb P 96 (
 pr #[] (di #[ke P Ak 701<|.str Bd 692,ke P AS 703<|.str Ad 702,ke P Ab 705<|.int 171 704,ke P A9 713<|.ref 384,ke P Ax 721<|.ref 391,ke P AC 729<|.ref 398,ke P Bs 736<|.ref 405,ke P AV 745<|.ref 412,ke P "shape" 752<|.ref 419,ke P A3 755<|.ref 420] 10) #[.int 173 0,.int 4 0,.ref 383,.int 177 0,.int 4 0,.ref 390,.int 182 0,.int 4 0,.ref 397,.int 187 0,.int 4 0,.ref 404,.int 190 0,.int 4 0,.ref 411,.int 193 0,.int 4 0,.ref 418] (cb Ad 696 697 698 171 374 181 375 699 700) 376 373 Bd 692 (
 nf #[] ::
 tu #[.str A0 709,.str Af 710] 0 ::
 tu #[] 0 ::
 cf A9 Br (zA (top 47) 0) ::
 bb P 98 (
 tn (
 tu #[.str A0 717,.str A8 718] 0 ::
 tu #[] 0 ::
 cf Ax Ct (zA (top 47) 1) ::
 bb P 100 (
 tn (
 tu #[.str A0 725,.str A8 726] 0 ::
 tu #[] 0 ::
 cf AC Ch (zA (top 47) 2) ::
 bb P 102 (
 tn (
 tu #[.str A0 733] 0 ::
 tu #[] 0 ::
 cf Bs BO (zA (top 47) 3) ::
 bb P 104 (
 tn (
 tu #[.str A0 740,.str Am 741,.str AM 742] 0 ::
 tu #[] 0 ::
 cf AV Bt (zA (top 47) 4) ::
 bb P 106 (
 tn (
 tu #[.str A0 749] 0 ::
 tu #[] 0 ::
 cf "shape" D2 (zA (top 47) 5) ::
 bb P 108 (
 tu #[.str AN 753,.str Af 754] 0 ::
 bb P 110 (
 bb P 112 (
 tf "super" #[.ref 422,.ref 422,.ref 422] ::
 tf Bl #[.builtin CB,.ref 422]::[]))))))))))))))))))))))))))))))))))))))))))))))))))))))))))))))))))))))))))))))))))))))))))))))))))))))
def zWJ:Env:={ scope:=r0.main.scope,locals:=mainNs,globals:=mainNs,cells:=[],code:=.ref 13,frame:=some 14 }
def zEZ:qg:=(behindTheImports r0).take 48
def zHV:qg:=(behindTheImports r0).drop 48
def zFR (w:qz)(os:OsState):qw:=⟨⟨⟨zIq w.params⟩,{}⟩,#[],⟨0,0,0,0⟩,763,os⟩
def zK2:Pos:=⟨0,0,0,0⟩
def zGK:Pos:=⟨0,0,0,0⟩
def zKR:Pos:=⟨0,0,0,0⟩
def zJx:Pos:=⟨171,0,194,16⟩
abbrev zTN:Code:=.body (zEZ++zHV) zWJ
abbrev zEJ (w:qz)(os:OsState):=topGo treeTable r0 w 11 (some<|.ref 6) 12 ⟨boot_heap w.params,Array.mk [],boot_drawn,boot_toks,os⟩<|topStub r0
abbrev zFQ (w:qz)(os:OsState):=(zEJ w os).bind λx=>segRun treeTable r0 w 11 (some<|.ref 6) 1 1 x.1<|blockOf (zEZ++zHV) zWJ zTN zGK [topFrame zK2]
theorem zEl (w:qz)(os:OsState):(zEJ w os).map (λx=>x.2)=some ⟨denote treeTable zTN,zTN,zGK,[topFrame zK2]⟩:=jf
theorem zE1 (w:qz)(os:OsState):(zFQ w os).map (λy=>(y.1,y.2.2))=some (.next,zTN,zKR):=jf
theorem zDD (w:qz)(os:OsState):((zFQ w os).bind λy=>segRun treeTable r0 w 11 (some<|.ref 6) 1 3946 y.2.1<|piecesOf zEZ zWJ zTN zKR [topFrame zK2])=some (.next,zFR w os,zTN,zJx):=jf
abbrev zGd (w:qz)(os:OsState):Option qw:=(topRun treeTable r0 w 11 (some<|.ref 6) 1361 (zFR w os)<|restOf zHV zWJ zTN zJx [topFrame zK2]).bind λs=>match staticsOk (importedModules r0.main.body) (boot_heap w.params) s.heap&&namesBound r0 s.heap&&gensDone s&&laidKept (boot_heap w.params) s.heap with
 | true=>some s
 | false=>none
theorem zNm (w:qz)(os:OsState):(zGd w os).map (λs=>openSeen gY loose (importedModules r0.main.body) zGY true s)=some (openGood gY loose):=jf
theorem zNv (w:qz)(os:OsState):(zGd w os).map hook.obs=some (hook.val w):=jf
theorem zJ6 (w:qz):((boot_heap w.params).isNs mainGlobals&&(Array.mk []:Array GenState).size==0,(boot_heap w.params).objs.size,(boot_heap w.params).nsMap mainGlobals CD)=(true,11,some<|.ref 6):=jf
theorem zNt:opening r0=plainProg r0.main.scope.names:=jf
theorem zNl (s:qw):fenceModules? r0 s=some s:=jf
def zHQ (w:qz)(os:OsState)(r:qw)(k:topRun treeTable r0 w 11 (some<|.ref 6) 1361 (zFR w os) (restOf zHV zWJ zTN zJx [topFrame zK2])=some r):topRun treeTable r0 w 11 (some<|.ref 6) (12+(1+(3946+1361))) ⟨boot_heap w.params,Array.mk [],boot_drawn,boot_toks,os⟩ (topStub r0)=some r:=by
 have ha:=zEl w os;have hb:=zE1 w os;have hc:=zDD w os;obtain⟨⟨sa,ta⟩,ga,ea⟩:=k9 ha;have ea':ta=_:=ea;subst ea';unfold zFQ at hb hc;rw[ga] at hb hc;obtain⟨⟨fb,sb,cb,pb⟩,gb,eb⟩:=k9 hb;have e1:fb=Flow.next:=Wa (λy:Flow×Code×Pos=>y.1) eb
 have e2:cb=zTN:=Wa (λy:Flow×Code×Pos=>y.2.1) eb;have e3:pb=zKR:=Wa (λy:Flow×Code×Pos=>y.2.2) eb;subst e1 e2 e3;have gb':=gb;rw[Qt] at gb';rw[gb] at hc;rw[Qt] at hc;exact go_top ga<|piece_block gb'<|piece_app hc k
def zRr {β:Type}{f:qw->β}{v:qz->β}(h:∀w os,(zGd w os).map f=some (v w))(w:qz):(openEnds treeTable r0 w 10586).map f=some (v w):=by obtain⟨⟨hp,gs,d,k,os⟩,e,e'⟩:=k9<|boot_open zNt (N:=10586) jb zNl w;have e1:hp=_:=Wa (λy:qx×Array GenState×Drawn×Nat=>y.1) e';have e2:gs=_:=Wa (λy:qx×Array GenState×Drawn×Nat=>y.2.1) e';have e3:d=_:=Wa (λy:qx×Array GenState×Drawn×Nat=>y.2.2.1) e';have e4:k=_:=Wa (λy:qx×Array GenState×Drawn×Nat=>y.2.2.2) e';subst e1 e2 e3 e4;have z:=zJ6 w;have z1:=Wa (λy:Bool×Nat×km=>y.1) z;have z2:=Wa (λy:Bool×Nat×km=>y.2.1) z;have z3:=Wa (λy:Bool×Nat×km=>y.2.2) z;dsimp only at z1 z2 z3;have q:=h w os;obtain⟨s1,hs,hf⟩:=k9 q;obtain⟨r,hr,hm⟩:=k8 hs;have m:=topRun_mono (10586 - (12+(1+(3946+1361)))) _ _ _ _<|zHQ w os r hr;rw[show 12+(1+(3946+1361))+(10586 - (12+(1+(3946+1361))))=10586 from jc] at m;unfold openEnds;rw[e,Qt];unfold topFrom;dsimp only;rw[z1,z2,z3,m];show(match staticsOk _ _ r.heap&&_&&_&&_ with | true=>some r | false=>none:Option qw).map f=_;rw[<-hf];exact Wa (Option.map f) hm
def zIu {α β γ:Type}{x:Option α}{f:α->β}{g:α->γ}{a:β}{b:γ}(h1:x.map f=some a)(h2:x.map g=some b):x.map (λs=>(f s,g s))=some (a,b):=by
 cases x with
 | none=>cases h1
 | some s=>cases h1;cases h2;rfl
def zIx:LeftO r0 gY loose zGY hook.obs hook.val 10586:=λw=>zIu (zRr (v:=λ_=>openGood gY loose) zNm w)<|zRr zNv w
theorem zLI:PySem.Challenge.rw_curveyard_k41_lists_of_the_asker.row.wellSaid=true:=jf
def zIA:PySem.W.OpenLaw.wellSaid PySem.Challenge.rw_curveyard_k41_lists_of_the_asker=true:=by unfold PySem.W.OpenLaw.wellSaid;rw[zLI];kernel_rfl
end My
variable{β α κ:Type}{a it C dx fad Y:qu}{u cd vl vu:qv}{P prog q:Program}{w:qz}{h base h':qx}{ob:Obj}{c e tg l iter value elt:r8}{x m qual name z nm sf:Str}{g':Array GenState}{t' i j n tk ep e1 L dm:Nat}{d':Drawn}{ch fp ls cs:kn}{N ns ps ss:kg}{M:Model}{A:qy}{E:jl}{Q:Unit->qw->Prop}{s' s s2 s₀:qw}{pos pos' p p1 p2 apos cpos:Pos}{Z:jm}{op:CmpOp}{K:jk}{es ifs elts:qt}{g:Int->Int->Int}{body suite sts:qg}{lo hi:kr}{pl:Sem Bool}{R:Result->qw->Prop}{f:qv->qv->Sem qv}{j6 us ws:jn}{mA mg:Str->km}{kw:List<|Str×qv}{env:Env}{outer:qb}{fd:FuncData}{sc scope:Scope}{od:kq}{osl sl:Array km}{items:jo}{T:String}{XP:(Str->km)->qx->Prop}{YP:qz->qx->Prop}{d:DefRec}{st b₀:r9}{js:ky}{S:qu->Prop}{low:kh}
namespace L2
abbrev Key:=Sum Int Str
abbrev qj:=List Key
def zWw:Key->qv->Bool
 | .inl k,v=>Value.isInt k v
 | .inr x,v=>Value.isStrOf x v
def zCG (w:qz):Key->Int
 | .inl k=>hashInt k
 | .inr x=>hashStr w x
theorem wU:∀ {k:Key} {v:qv},zWw k v=true->(∃i t,k=Sum.inl i/\v=Value.int i t)\/(∃x t,k=Sum.inr x/\v=Value.str x t)
 | .inl i,v,h=>by obtain⟨t,e⟩:=Value.isInt_shape h;exact .inl ⟨i,t,J,e⟩
 | .inr x,v,h=>by obtain⟨t,e⟩:=Value.isStrOf_shape h;exact .inr ⟨x,t,J,e⟩
def zM4 (i:Int)(t:Tok):zWw (.inl i) (.int i t)=true:=by simp[zWw,Value.isInt]
def zNc (x:Str)(t:Tok):zWw (.inr x) (.str x t)=true:=by simp[zWw,Value.isStrOf]
def zET (a b:Int):decide ((Sum.inl a:Key)=Sum.inl b)=(a==b):=by grind
def zFU (a b:Str):decide ((Sum.inr a:Key)=Sum.inr b)=decide (a=b):=je
def zGc (a:Int)(b:Str):decide ((Sum.inl a:Key)=Sum.inr b)=false:=rfl
def zFu (a:Str)(b:Int):decide ((Sum.inr a:Key)=Sum.inl b)=false:=rfl
def uD (prog:Program)(w:qz):PySem.KeyKind prog w Key where
 is:=zWw
 hash:=zCG w
 inj:=λv a b ha hb=>by
  rcases wU ha with⟨i,t,rfl,rfl⟩ | ⟨x,t,rfl,rfl⟩
  .rcases wU hb with⟨j,u,rfl,e⟩ | ⟨y,u,rfl,e⟩
   .injection e with e1 _;rw[e1]
   .exact nomatch e
  .rcases wU hb with⟨j,u,rfl,e⟩ | ⟨y,u,rfl,e⟩
   .exact nomatch e
   .injection e with e1 _;rw[e1]
 byValue:=λk v h=>by rcases wU h with⟨i,t,rfl,rfl⟩ | ⟨x,t,rfl,rfl⟩<;>rfl
 pyHash:=λhv h=>by
  rcases wU hv with⟨i,t,rfl,rfl⟩ | ⟨x,t,rfl,rfl⟩
  .exact wpAny_pyHash_int h
  .exact wpAny_pyHash_str h
 eqBool:=λhu hv h=>by
  rcases wU hu with⟨i,t,rfl,rfl⟩ | ⟨x,t,rfl,rfl⟩
  .rcases wU hv with⟨j,u,rfl,rfl⟩ | ⟨y,u,rfl,rfl⟩
   .rw[zET] at h;exact Pe h
   .rw[zGc] at h;exact SeqAt.EqAt.int_str i t y u _ _ _ _ h
  .rcases wU hv with⟨j,u,rfl,rfl⟩ | ⟨y,u,rfl,rfl⟩
   .rw[zFu] at h;exact SeqAt.EqAt.str_int x t j u _ _ _ _ h
   .rw[zFU] at h;exact Yc h
 «strs» := λk x t v h=>by
  rcases wU h with⟨i,u,rfl,e⟩ | ⟨y,u,rfl,e⟩
  .exact nomatch e
  .injection e with e1 _
   subst e1;cases v<;>rfl
def zPN (prog:Program)(w:qz)(k:Key)(v:qv):(uD prog w).is k v=zWw k v:=rfl
def zSe (prog:Program)(w:qz)(i:Int)(t:Tok):(uD prog w).is (.inl i) (.int i t)=true:=zM4 i t
def zRC (prog:Program)(w:qz)(x:Str)(t:Tok):(uD prog w).is (.inr x) (.str x t)=true:=zNc x t
inductive V where
 | non | bl (b:Bool) | int (i:Int) | str (x:Str) | byt (b:Array UInt8) | flt (b:UInt64) | ref (a:qu) | ty (n:String)
 deriving DecidableEq
abbrev qr:=List<|Str×V
abbrev ql:=Option V
abbrev kj:=List V
def RelV:V->qv->Prop
 | .non,u=>u=Value.none
 | .bl b,u=>u=Value.bool b
 | .int i,u=>∃t,u=Value.int i t
 | .str x,u=>∃t,u=Value.str x t
 | .byt b,u=>∃t,u=Value.bytes b t
 | .flt b,u=>∃t,u=Value.float b t
 | .ref a,u=>u=Value.ref a
 | .ty n,u=>u=Value.type n
abbrev Vals:kj->qh->Prop:=Paired RelV
def Vals.length {xs:kj}{us:jn}(r:Vals xs us):xs.length=us.length:=Rv r
theorem Vals.get:∀ {xs:kj} {us:jn} {i:Nat} {x:V},Vals xs us->xs[i]?=some x->∃u,us[i]?=some u/\RelV x u
 | _,_,_,_,.nil,e=>by simp at e
 | _,_,0,_,.cons r _,e=>by simp at e;subst e;exact⟨_,J,r⟩
 | _,_,i+1,x,.cons _ t,e=>by obtain⟨u,h1,h2⟩:=Vals.get t (!6);exact⟨u,by simpa using h1,h2⟩
theorem Vals.append:∀ {xs ys:kj} {us ws:jn},Vals xs us->Vals ys ws->Vals (xs++ys) (us++ws)
 | _,_,_,_,.nil,s=>s
 | _,_,_,_,.cons r t,s=>.cons r<|Vals.append t s
theorem Vals.take:∀ {xs:kj} {us:jn} (n:Nat),Vals xs us->Vals (xs.take n) (us.take n)
 | _,_,0,_=>.nil
 | _,_,_+1,.nil=>.nil
 | _,_,n+1,.cons r t=>.cons r<|Vals.take n t
theorem Vals.drop:∀ {xs:kj} {us:jn} (n:Nat),Vals xs us->Vals (xs.drop n) (us.drop n)
 | _,_,0,r=>r
 | _,_,_+1,.nil=>.nil
 | _,_,n+1,.cons _ t=>Vals.drop n t
def RelO:ql->km->Prop
 | some v,some u=>RelV v u
 | none,none=>True
 | _,_=>False
def KV:List (κ×V)->List (κ×qv)->Prop:=Paired λ(p:κ×V) (q:κ×qv)=>p.1=q.1/\RelV p.2 q.2
def kV:Key->V
 | .inl i=>.int i
 | .inr x=>.str x
inductive HO where
  | lst (xs:kj)
  | tup (xs:kj)
  | dK (j8:List (Key×V)) | dT (j8:List (qj×V))
  | set (S:Int->Bool) (n:Nat)
  | ins (C dx:qu) (fs:qr)
  | own (x:qu)
  | xd (fs:qr)
  | met (f x:qu)
  | rng (lo hi:Int)
  | frz (o:Obj) (u:HO)
  | tbl (ps:jo)
  | ext (φ:qx->Prop)
abbrev Hp:=qu->Option HO
end L2
variable{H H' H2 G G' G0 H0 G1 H₀:Hp}{o o':HO}{v y vv:V}{vs xs ys:kj}{j8:List<|Key×V}{ks:qj}
namespace L2
def upd (H:Hp)(a:qu)(o:HO):Hp:=λb=>if b=a then some o else H b
def zN:upd H a o a=some o:=by unfold upd;rw[Qg rfl]
def zG {b:qu}(h:b≠a):upd H a o b=H b:=by unfold upd;rw[Qc h]
def zPl {u:HO}:upd (upd H a o) a u=upd H a u:=by funext b;unfold upd;split<;>rfl
def zDu {b:qu}{u:HO}(h:H a=some o)(h':H b=some u)(d:o≠u):a≠b:=by grind
def yU {b:qu}(h:H a=some o)(h':H b=none):a≠b:=by grind
section
variable (P:Program) (w:qz)
def ObjOk (H:Hp)(h:qx)(a:qu):HO->Prop
 | .lst xs=>xs.length<=sizeLine/\∃(j6:jn) (n:Nat),Vals xs j6/\h.get? a=some { cls:=.type "list",data:=.seq j6.toArray n }
 | .tup xs=>xs.length<=sizeLine/\∃j6:qh,Vals xs j6/\IsTup h a j6.toArray
 | .dK j8=>j8.length<=sizeLine/\(a==sysModules)=false/\∃vs,KV j8 vs/\h.DictOf (uD P w) a vs
 | .dT j8=>j8.length<=sizeLine/\(a==sysModules)=false/\∃xs:List<|qj×qu×qv,
   Paired (λ(p:qj×V) (q:qj×qu×qv)=>p.1=q.1/\H q.2.1=some (.tup<|p.1.map kV)/\RelV p.2 q.2.2) j8 xs /\
   ∃o es ep,h.get? a=some o/\o.ExactDict/\o.data = .dict es ep/\es.toList=xs.map (entryOfKey<|tupleKind<|uD P w)/\(xs.map (·.1)).Nodup
 | .set S n=>h.SetOf (intKind P w) a S n
 | .ins C dx fs=>H dx=some (.own a)/\fs.length<=1000/\dx≠a/\h.get? a=some (instObj C dx) /\
   ∃mA,h.Ns1 dx mA/\(∀f,RelO (fs.lookup f)<|mA f)/\PySem.Within mA (fs.map (·.1))
 | .own _=>∃o,h.get? a=some o
 | .xd fs=>∃mA,h.Ns1 a mA/\∀f,RelO (fs.lookup f)<|mA f
 | .rng lo hi=>∃t u v,h.get? a=some { cls:=.type "range",data:=.fields #[.int lo t,.int hi u,.int 1 v] }
 | .frz o u=>h.get? a=some o/\ObjOk H h a u
 | .tbl ps=>h.get? a=some { cls:=.none,data:=.fields ps }
 | .met f x=>h.get? a=some (methodObj (.ref f)<|.ref x)
 | .ext φ=>φ h/\(∃o,h.get? a=some o)/\∀h1 h2:qx,φ h1->(∀o,h1.get? a=some o->h2.get? a=some o)->φ h2
def HOk (H:Hp)(h:qx):Prop:=∀a o,H a=some o->ObjOk P w H h a o
end
def ObjOk.lt (x:ObjOk P w H h a o):a < h.objs.size:=by
 cases o with
 | lst xs=>obtain⟨_,_,_,_,e⟩:=x;exact Qs e
 | tup xs=>obtain⟨_,_,_,p⟩:=x;exact p.lt
 | dK j8=>obtain⟨_,_,_,_,o,_,_,e,_⟩:=x;exact Qs e
 | dT j8=>obtain⟨_,_,_,_,o,_,_,e,_⟩:=x;exact Qs e
 | set S n=>obtain⟨o,_,_,_,e,_⟩:=x;exact Qs e
 | ins C dx fs=>obtain⟨_,_,_,e,_⟩:=x;exact Qs e
 | own y=>obtain⟨_,e⟩:=x;exact Qs e
 | xd fs=>obtain⟨_,⟨_,_,_,e,_⟩,_⟩:=x;exact Qs e
 | rng lo hi=>obtain⟨_,_,_,e⟩:=x;exact Qs e
 | frz ob u=>obtain⟨e,_⟩:=x;exact Qs e
 | tbl ps=>exact Qs<|x
 | met f y=>exact Qs<|x
 | ext φ=>obtain⟨_,⟨_,e⟩,_⟩:=x;exact Qs e
theorem Paired.mapP {α β:Type}{F G:α->β->Prop}:∀ {l₁:!10} {l₂:List β},Paired F l₁ l₂->(∀a b,F a b->G a b)->Paired G l₁ l₂
 | _,_,.nil,_=>.nil
 | _,_,.cons r t,f=>.cons (f _ _ r)<|Paired.mapP t f
def Paired.imp' {F G:α->β->Prop}(f:∀a b,F a b->G a b){l₁:!10}{l₂:List β}(r:Paired F l₁ l₂):Paired G l₁ l₂:=Paired.mapP r f
def ObjOk.stay (x:ObjOk P w H h a o)(k:∀b u,(b=a\/H b=some (.own a))->h.get? b=some u->h'.get? b=some u)(ho:∀b,H b=some (.own a)->H' b=some (.own a)) (ht:∀b xs,H b=some (.tup xs)->H' b=some (.tup xs)):ObjOk P w H' h' a o:=by
 induction o with
 | lst xs=>obtain⟨z,j6,n,r,e⟩:=x;exact⟨z,j6,n,r,k _ _ (.inl J) e⟩
 | tup xs=>obtain⟨z,j6,r,ob,e,c⟩:=x;exact⟨z,j6,r,ob,k _ _ (.inl J) e,c⟩
 | dK j8=>obtain⟨z,y,vs,r,ob,es,ep,e,c⟩:=x;exact⟨z,y,vs,r,ob,es,ep,k _ _ (.inl J) e,c⟩
 | dT j8 =>obtain⟨z,y,xs,r,ob,es,ep,e,c⟩:=x;exact⟨z,y,xs,Paired.mapP r λp q z=>⟨z.1,ht _ _ z.2.1,z.2.2⟩,ob,es,ep,k _ _ (.inl J) e,c⟩
 | set S n=>obtain⟨ob,es,ep,t,e,c⟩:=x;exact⟨ob,es,ep,t,k _ _ (.inl J) e,c⟩
 | ins C dx fs =>obtain⟨d,z,ne,e,mA,⟨od,es,ep,e2,c⟩,r⟩:=x;exact⟨ho _ d,z,ne,k _ _ (.inl J) e,mA,⟨od,es,ep,k _ _ (.inr d) e2,c⟩,r⟩
 | own y=>obtain⟨ob,e⟩:=x;exact⟨ob,k _ _ (.inl J) e⟩
 | xd fs=>obtain⟨mA,⟨od,es,ep,e,c⟩,r⟩:=x;exact⟨mA,⟨od,es,ep,k _ _ (.inl J) e,c⟩,r⟩
 | rng lo hi=>obtain⟨t,u,v,e⟩:=x;exact⟨t,u,v,k _ _ (.inl J) e⟩
 | frz ob u ih=>obtain⟨e,q⟩:=x;exact⟨k _ _ (.inl J) e,ih q⟩
 | tbl ps =>have e:=x;exact k a _ (.inl J) e
 | met f y =>have e:=x;exact k a _ (.inl J) e
 | ext φ=>obtain⟨p,⟨o,e⟩,st⟩:=x;exact⟨st _ _ p λo q=>k _ _ (.inl J) q,⟨o,k _ _ (.inl J) e⟩,st⟩
def HOk.lt (x:HOk P w H h)(e:H a=some o):a < h.objs.size:=(x a o e).lt
def HOk.fresh (x:HOk P w H h)(e:h.objs.size<=a):H a=none:=by
 cases q:H a with
 | none=>rfl
 | some u=>exact absurd (Wr (x.lt q) e)<|Wg _
def HOk.kept (x:HOk P w H h)(k:∀b u,h.get? b=some u->h'.get? b=some u):HOk P w H h':=λa o e =>(x a o e).stay (λb u _ q=>k b u q) (λ_ q=>q) λ_ _ q=>q
theorem HOk.laid (x:HOk P w H h)(k:∀b u,h.get? b=some u->h'.get? b=some u)(hp:h.objs.size<=a)(new:ObjOk P w (upd H a o) h' a o):HOk P w (upd H a o) h':=λb u e=>by
 have hn:=x.fresh hp
 by_cases hb:b=a
 .subst hb;rw[zN] at e;cases e;exact new
 .rw[zG hb] at e;exact(x b u e).stay (λc v _ q=>k c v q) (λc q=>by rw[zG<|yU q hn];exact q) λc xs q=>by rw[zG<|yU q hn];exact q
def Rd (H:Hp)(a:qu)(u:HO):Prop:=H a=some u\/∃o,H a=some (.frz o u)
def Rd.of {u:HO}(h:H a=some u):Rd H a u:=.inl h
def Rd.ok {u:HO}(r:Rd H a u)(x:HOk P w H h):ObjOk P w H h a u:=by
 rcases r with r | ⟨o,r⟩
 .exact x a u r
 .obtain⟨_,q⟩:=x a _ r;exact q
def Mut:Option HO->Prop
 | some (.lst _)=>True
 | some (.dK _)=>True
 | some (.dT _)=>True
 | some (.set _ _)=>True
 | some (.ins _ _ _)=>True
 | some (.ext _)=>True
 | _=>False
section
variable{x e:qu}
theorem HOk.write (ok:HOk P w H h)(mu:Mut<|H x)(he:e=x\/H e=some (.own x))(k:∀b u,b≠e->h.get? b=some u->h'.get? b=some u)(heo:∃u,h'.get? e=some u)(new:ObjOk P w (upd H x o') h' x o'):HOk P w (upd H x o') h':=λb u q=>by
 have nown:∀c y,H c=some (.own y)->c≠x:=λc y r z=>by subst z;rw[r] at mu;exact mu
 have ntup:∀c xs,H c=some (.tup xs)->c≠x:=λc xs r z=>by subst z;rw[r] at mu;exact mu
 by_cases hb:b=x
 .subst hb;rw[zN] at q;cases q;exact new
 .rw[zG hb] at q
  by_cases hbe:b=e
  .have q':H b=some (.own x):=by
    grind
   rw[q] at q';cases q';obtain⟨v,hv⟩:=heo;exact⟨v,by rw[hbe];exact hv⟩
  .refine(ok b u q).stay (λc v hc r=>k c v ?_ r) (λc r=>by rw[zG<|nown c b r];exact r) λc xs r=>by rw[zG<|ntup c xs r];exact r
   grind
end
structure Un (fs ex:kn)(H H':Hp)(h h':qx):Prop where
 keep:∀b o,h.get? b=some o->H b=none->b∉fs->b∉ex->h'.get? b=some o
 slot:∀b o,h.get? b=some o->H b=none->b∈fs->b∉ex->∃sl,h'.get? b=some { o with slots:=sl }
 free:∀b o,h.get? b=some o->H b=none->b∉ex->H' b=none
 there:∀b o,h.get? b=some o->b∉ex->∃o',h'.get? b=some o'
 tups:∀b xs,H b=some (.tup xs)->H' b=some (.tup xs)
 frzs:∀b o u,H b=some (.frz o u)->H' b=some (.frz o u)
 tbls:∀b ps,H b=some (.tbl ps)->∃more,H' b=some (.tbl<|ps++more)
section
variable{fs ex:kn}{H1:Hp}{h1 h2:qx}{x e:qu}
def Un.any (u:Un fs ex H H1 h h1){b:qu}(q:h.get? b=some ob)(n:H b=none)(hx:b∉ex):∃sl,h1.get? b=some { ob with slots:=sl }:=by
 by_cases hb:b∈fs
 .exact u.slot b ob q n hb hx
 .exact⟨ob.slots,u.keep b ob q n hb hx⟩
theorem Un.trans (a:Un fs ex H H1 h h1)(b:Un fs ex H1 H2 h1 h2):Un fs ex H H2 h h2 where
 keep:=λc ob q n hc hx=>b.keep c ob (a.keep c ob q n hc hx) (a.free c ob q n hx) hc hx
 slot:=λc ob q n hc hx=>by obtain⟨sl,e1⟩:=a.slot c ob q n hc hx;obtain⟨sl',e2⟩:=b.slot c _ e1 (a.free c ob q n hx) hc hx;exact⟨sl',e2⟩
 free:=λc ob q n hx=>by obtain⟨o',e1⟩:=a.there c ob q hx;exact b.free c o' e1 (a.free c ob q n hx) hx
 there:=λc ob q hx=>by obtain⟨o',e1⟩:=a.there c ob q hx;exact b.there c o' e1 hx
 tups:=λc xs q=>b.tups c xs<|a.tups c xs q
 frzs:=λc ob xs q=>b.frzs c ob xs<|a.frzs c ob xs q
 tbls:=λc ps q=>by obtain⟨m1,e1⟩:=a.tbls c ps q;obtain⟨m2,e2⟩:=b.tbls c _ e1;exact⟨m1++m2,by rw[e2,Array.append_assoc]⟩
def Un.kept (k:∀b u,h.get? b=some u->h'.get? b=some u):Un fs ex H H h h' :=
 ⟨λb ob q _ _ _=>k b ob q,λb ob q _ _ _=>⟨ob.slots,k b ob q⟩,λ_ _ _ n _=>n,λb ob q _=>⟨ob,k b ob q⟩,λ_ _ q=>q,λ_ _ _ q=>q,λ_ ps q=>⟨#[],by rw[q];simp⟩⟩
def Un.refl:Un fs ex H H h h:=Un.kept λ_ _ q=>q
theorem Un.laid (k:∀b u,h.get? b=some u->h'.get? b=some u)(hp:h.objs.size<=a)(hn:H a=none):Un fs ex H (upd H a o) h h' where
 keep:=λb u q _ _ _=>k b u q
 slot:=λb u q _ _ _=>⟨u.slots,k b u q⟩
 free:=λb u q n _=>by rw[zG<|Qn<|Wr (Qs q) hp];exact n
 there:=λb u q _=>⟨u,k b u q⟩
 tups:=λb xs q=>by rw[zG<|yU q hn];exact q
 frzs:=λb u xs q=>by rw[zG<|yU q hn];exact q
 tbls:=λb ps q=>⟨#[],by rw[zG<|yU q hn,q];simp⟩
def Un.write (mu:Mut<|H x)(he:e=x\/H e=some (.own x))(k:∀b u,b≠e->h.get? b=some u->h'.get? b=some u)(heo:∃u,h'.get? e=some u):Un fs ex H (upd H x o) h h':=by
 have hx:∀b,H b=none->b≠x:=λb n z=>by subst z;rw[n] at mu;exact mu
 have hb:∀b,H b=none->b≠e:=λb n z=>by simp_all
 have hm:∀b u,H b=some u->¬Mut (some u)->b≠x:=λb u q nm z=>by subst z;rw[q] at mu;exact nm mu
 refine⟨λb u q n _ _=>k b u (hb b n) q,λb u q n _ _=>⟨u.slots,k b u (hb b n) q⟩,λb u q n _=>by rw[zG (hx b n)];exact n,λb u q _=>?_,
  λb xs q=>by rw[zG<|hm b _ q λz=>z];exact q,λb u xs q=>by rw[zG<|hm b _ q λz=>z];exact q,λb ps q=>⟨#[],by rw[zG<|hm b _ q λz=>z,q];simp⟩⟩
 by_cases hbe:b=e
 .subst hbe;exact heo
 .exact⟨u,k b u hbe q⟩
end
def trk (h:qx)(H:Hp):kn:=(List.range h.objs.size).filter λa=>(H a).isSome
def zTH (h:qx)(H:Hp):qx:=hideAll h<|trk h H
def zMH (h:qx)(H:Hp):(zTH h H).objs.size=h.objs.size:=hideAll_size _ _
def zLV {b:qu}{o:Obj}(e:h.get? b=some o)(n:H b=none):(zTH h H).get? b=some o :=hideAll_get _ e λhm=>by have q:=(Eb.mp hm).2;rw[n] at q;simp at q
def zHK {b:qu}{o:Obj}(e:(zTH h H).get? b=some o):h.get? b=some o/\H b=none:=by
 have e':=of_hideAll _ e;refine⟨e',?_⟩;cases q:H b with
 | none=>rfl
 | some x =>have hm:b∈trk h H:=Eb.mpr ⟨Tq.mpr<|Qs e',by simp[q]⟩;have z:(zTH h H).get? b=none:=hideAll_none _ hm;rw[z] at e;cases e
def zH7 (g h:qx)(L:qu):jm:=(List.range h.objs.size).filterMap λa=>if a=L\/(g.get? a).isSome=true then none else(h.get? a).map λo=>(a,o)
def rest (g h:qx)(L d:qu):jm:=(zH7 g h L).filter λp=>decide (p.1≠d)
structure Mod (K:jk)(mg:Str->km)(base:qx):Prop where
 kin:K.In base
 glob:base.Ns mainGlobals mg
 blt:∃mb,base.Ns builtinsNs mb/\∀x:Str,x≠"__name__"->mb x=bootBuiltins x
 nolimit:base.NoLimit
structure Cx where
 prog:Program
 w:qz
 K:jk
 mg:Str->km
 base:qx
 A:qy
 N:kg
 s₀:qw
 H₀:Hp
 env:Env
 outer:qb
 stack:qb
 ex:kn
 fn:Str->Bool
 calm:Bool
 pn:jm
 xe:qv->qw->Prop
def frs (l:qb):kn:=l.filterMap (·.frame)
abbrev Cx.fs (X:Cx):kn:=frs X.outer
def Vis (sc:Scope)(x:Str):Prop:=sc.names.lookup x=some .local\/sc.names.lookup x=some .cell\/sc.names.lookup x=some .free
def visQ {c:Scope}(h:(match c.names.lookup x with | some .local | some .cell | some .free=>true | _=>false)=true):Vis c x:=by unfold Vis;split at h <;> simp_all
def Loc (sc:Scope)(x:Str):Prop:=sc.names.lookup x=some .local\/sc.names.lookup x=some .cell
def zDm (env:Env)(h:qx)(m:Str->km)(x:Str)(u:qv):Prop :=(env.kindOf x=some .local/\m x=some u)\/((env.kindOf x=some .cell\/env.kindOf x=some .free)/\∃c,env.cells.lookup x=some c/\h.IsCell c (some u))
structure Cx.Ok (X:Cx):Prop where
 mod:Mod X.K X.mg X.base
 kind:X.env.scope.kind = .function
 glob:X.env.globals=mainGlobals
 blt:X.env.builtins=builtinsNs
 above:X.s₀.heap.objs.size<=X.env.locals
 inj:∀x y c,X.env.cells.lookup x=some c->X.env.cells.lookup y=some c->x=y
 has:∀x,(X.env.kindOf x=some .cell\/X.env.kindOf x=some .free)->∃c,X.env.cells.lookup x=some c
 cab:∀x c,X.fn x=true->X.env.cells.lookup x=some c->X.s₀.heap.objs.size<=c
 hd:X.calm=true->X.A.handled=none
 frames:X.A.frames=some X.stack
 stk:X.stack=X.outer\/(X.stack=X.env::X.outer/\X.env.frame=some X.env.locals)
 exf:∀b∈X.ex,b≠X.env.locals/\∀x c,X.env.cells.lookup x=some c->c≠b
 bs:∀b o,X.base.get? b=some o->X.s₀.heap.get? b=some o/\X.H₀ b=none
 bsz:X.base.objs.size<=X.s₀.heap.objs.size
 noex:∀b o,X.base.get? b=some o->b∉X.ex
 exfs:∀b∈X.ex,b∉X.fs
 funs:X.s₀.heap.FunFrames X.base X.outer
 frf:∀b∈X.fs,X.H₀ b=none
structure Inv (X:Cx)(Z:jm)(U:List ql)(H:Hp)(s:qw):Prop where
 ok:X.Ok
 os:s.os=X.s₀.os
 bare:AllBare s.gens
 base:Un X.fs X.ex X.H₀ H X.s₀.heap s.heap
 loc:∃m,s.heap.Ns X.env.locals m/\∀(i:Nat) (x:Str) (v:V),X.N[i]?=some x->U[i]?=some (some v)->Vis X.env.scope x->∃u,RelV v u/\zDm X.env s.heap m x u
 cell:∀x c,X.env.cells.lookup x=some c->∃v,s.heap.IsCell c v
 free:H X.env.locals=none
 freeC:∀x c,X.env.cells.lookup x=some c->H c=none
 pin:∀p∈X.pn++Z,s.heap.get? p.1=some p.2/\H p.1=none/\p.1≠X.env.locals/\p.1∉X.fs/\∀v,p.2.data ≠ .cell v
 hok:HOk X.prog X.w H s.heap
 len:U.length=X.N.length
section
variable{X:Cx}{U:List ql}
theorem Cx.Ok.nofr (ok:X.Ok){b:qu}{o:Obj}(e:X.base.get? b=some o):b∉X.fs:=λhb=>by have:=(ok.funs.mem hb).1;rw[e] at this;cases this
def Inv.bs (I:!3):∀b o,X.base.get? b=some o->s.heap.get? b=some o/\H b=none:=λb o e =>⟨I.base.keep b o (I.ok.bs b o e).1 (I.ok.bs b o e).2 (I.ok.nofr e)<|I.ok.noex b o e,I.base.free b o (I.ok.bs b o e).1 (I.ok.bs b o e).2<|I.ok.noex b o e⟩
def Inv.bk (I:!3):∀b o,X.base.get? b=some o->s.heap.get? b=some o:=λb o e=>(I.bs b o e).1
def Inv.mod (I:!3):Mod X.K X.mg X.base:=I.ok.mod
def Inv.kIn (I:!3):X.K.In s.heap:=I.ok.mod.kin.keeps I.bk
def Inv.lt (I:!3):X.env.locals < s.heap.objs.size:=let ⟨_,hn,_⟩:=I.loc;hn.lt
def Inv.sz (I:!3):X.s₀.heap.objs.size<=s.heap.objs.size:=Wq I.ok.above<|Ww I.lt
def Inv.nofs (I:!3)(h:s.heap.objs.size<=a):a∉X.fs:=λhb=>by obtain⟨_,o,ho,_⟩:=I.ok.funs.mem hb;exact absurd (Wr (Qs ho)<|Wq I.sz h)<|Wg _
theorem Inv.cne (I:!3):∀x c,X.env.cells.lookup x=some c->c≠X.env.locals:=λx c e z=>by obtain⟨v,o,ho,hd⟩:=I.cell x c e;obtain⟨m,⟨o',es,ep,ho',hd',_⟩,_⟩:=I.loc;rw[z,ho'] at ho;cases ho;rw[hd'] at hd;cases hd
def Inv.funs (I:!3):s.heap.FunFrames X.base X.outer:=by
 have all:∀(l),(∀b∈frs l,b∈X.fs)->X.s₀.heap.FunFrames X.base l->s.heap.FunFrames X.base l:=by
  intro l;induction l with
  | nil=>intro _ _;trivial
  | cons env r ih =>intro hs hl;obtain⟨hk,⟨L,o,hf,hn,ho,hd⟩,hr⟩:=hl;have hL:=hs L (by unfold frs;rw[Ot,hf];exact Ql);obtain⟨sl,e⟩:=I.base.slot L o ho (I.ok.frf L hL) hL λz=>I.ok.exfs L z hL;exact⟨hk,⟨L,_,hf,hn,e,hd⟩,ih (λb hb=>hs b (by unfold frs;rw[Ot,hf];exact Qf _ hb)) hr⟩
 exact all _ (λ_ hb=>hb) I.ok.funs
def Inv.stack (I:!3):s.heap.FunFrames X.base X.stack:=by
 rcases I.ok.stk with e | ⟨e,hf⟩
 .rw[e];exact I.funs
 .rw[e];obtain⟨m,hn,_⟩:=I.loc;exact .cons (by rw[I.ok.kind];decide) hf hn (Heap.get?_none_of_le<|Wq I.ok.bsz I.ok.above) I.funs
theorem Inv.stkSub (I:!3):∀b∈frs X.stack,b∈X.env.locals::X.fs:=λb hb=>by
 rcases I.ok.stk with e | ⟨e,hf⟩
 .simp_all
 .rw[e] at hb;unfold frs at hb;rw[Ot,hf] at hb;exact hb
def Inv.stkFree (I:!3):∀b∈frs X.stack,H b=none:=λb hb=>by
 rcases v4 (I.stkSub b hb) with e | hb
 .rw[e];exact I.free
 .obtain⟨_,o,ho,_⟩:=I.ok.funs.mem hb;exact I.base.free b o ho (I.ok.frf b hb) λz=>I.ok.exfs b z hb
def Inv.step (I:!3)(hch:∀b∈ch,(b∈X.ex\/X.s₀.heap.objs.size<=b)/\b≠X.env.locals/\(∀x c,X.env.cells.lookup x=some c->c≠b)/\∀p∈X.pn++Z,p.1≠b)(keep:∀b o,b≠X.env.locals->b∉X.fs->b∉ch->s.heap.get? b=some o->H b=none->h'.get? b=some o)(slot:∀b o,b≠X.env.locals->b∈X.fs->b∉ch->s.heap.get? b=some o->H b=none->∃sl,h'.get? b=some { o with slots:=sl }) (free:∀b o,b∉ch->s.heap.get? b=some o->H b=none->H' b=none)(there:∀b o,b∉ch->s.heap.get? b=some o->∃o',h'.get? b=some o')(tups:∀b xs,H b=some (.tup xs)->H' b=some (.tup xs)) (frzs:∀b o u,H b=some (.frz o u)->H' b=some (.frz o u)) (tbls:∀b ps,H b=some (.tbl ps)->∃more,H' b=some (.tbl<|ps++more))(ns:∀m,s.heap.Ns X.env.locals m->h'.Ns X.env.locals m) (hok:HOk X.prog X.w H' h') (hg:AllBare g'):Inv X Z U H' { s with heap:=h',gens:=g',drawn:=d',toks:=t' }:=by
 have neL:∀b o,X.s₀.heap.get? b=some o->b≠_:=λb o e=>Qn<|Wr (Qs e) I.ok.above;have neC:∀b o,X.s₀.heap.get? b=some o->b∉X.ex->b∉ch:=λb o e hx hb=>by
  rcases(hch b hb).1 with z | z
  .exact hx z
  .exact absurd (Wr (Qs e) z) (Wg _)
 have cellK:∀x c,X.env.cells.lookup x=some c->∀v,s.heap.IsCell c v->h'.IsCell c v:=λx c e v ⟨o,ho,hd⟩=>by
  have nch:c∉ch:=λz=>(hch c z).2.2.1 x c e J
  by_cases hc:c∈X.fs
  .obtain⟨sl,q⟩:=slot c o (I.cne x c e) hc nch ho<|I.freeC x c e;exact⟨_,q,hd⟩
  .exact⟨o,keep c o (I.cne x c e) hc nch ho<|I.freeC x c e,hd⟩
 refine⟨I.ok,I.os,hg,⟨λb o e n hb hx=>(keep b o (neL b o e) hb (neC b o e hx) (I.base.keep b o e n hb hx)<|I.base.free b o e n hx),λb o e n hb hx=>?_,λb o e n hx=>?_,λb o e hx=>?_,λb xs e=>tups b xs<|I.base.tups b xs e,λb o xs e=>frzs b o xs<|I.base.frzs b o xs e,λb ps e=>?_⟩,?_,λx c e=>?_,?_,λx c e=>?_,λp hp=>?_,hok,I.len⟩
 .obtain⟨sl,e1⟩:=I.base.slot b o e n hb hx;obtain⟨sl',e2⟩:=slot b _ (neL b o e) hb (neC b o e hx) e1<|I.base.free b o e n hx;exact⟨sl',e2⟩
 .obtain⟨o',e1⟩:=I.base.there b o e hx;exact free b o' (neC b o e hx) e1<|I.base.free b o e n hx
 .obtain⟨o',e1⟩:=I.base.there b o e hx;exact there b o' (neC b o e hx) e1
 .obtain⟨m1,e1⟩:=I.base.tbls b ps e;obtain⟨m2,e2⟩:=tbls b _ e1;exact⟨m1++m2,by rw[e2,Array.append_assoc]⟩
 .obtain⟨m,hn,hl⟩:=I.loc;refine⟨m,ns m hn,λi x v e1 e2 e3=>?_⟩;obtain⟨u,r,l⟩:=hl i x v e1 e2 e3;refine⟨u,r,?_⟩;rcases l with l | ⟨k,c,e,z⟩
  .exact .inl l
  .exact .inr ⟨k,c,e,cellK x c e _ z⟩
 .obtain⟨v,z⟩:=I.cell x c e;exact⟨v,cellK x c e v z⟩
 .obtain⟨m,⟨o,_,_,ho,_⟩,_⟩:=I.loc;exact free _ o (λz=>(hch _ z).2.1 J) ho I.free
 .obtain⟨v,o,ho,hd⟩:=I.cell x c e;exact free c o (λz=>(hch c z).2.2.1 x c e J) ho<|I.freeC x c e
 .obtain⟨e,n,ne,nf,d⟩:=I.pin p hp;have nch:p.1∉ch:=λz=>(hch p.1 z).2.2.2 p hp J;exact⟨keep p.1 p.2 ne nf nch e n,free p.1 p.2 nch e n,ne,nf,d⟩
def Inv.un (I:!3)(u:Un X.fs [] H H' s.heap h')(hok:HOk X.prog X.w H' h'):Inv X Z U H' { s with heap:=h',toks:=t' }:=by
 obtain⟨m,⟨o,es,ep,ho,r⟩,_⟩:=id I.loc;obtain⟨sl,hL⟩:=u.any ho I.free je;exact I.step (ch:=[]) (λ_ z=>nomatch z) (λb o _ hb _ e n=>u.keep b o e n hb je) (λb o _ hb _ e n=>u.slot b o e n hb je) (λb o _ e n=>u.free b o e n je) (λb o _ e=>u.there b o e je) u.tups u.frzs u.tbls (λm' hm=>by obtain⟨o',es',ep',ho',r'⟩:=hm;rw[ho] at ho';cases ho';exact⟨_,es',ep',hL,r'⟩) hok I.bare
def Inv.call (I:!3)(u:Un (frs X.stack) ch H H' s.heap h')(hok:HOk X.prog X.w H' h')(hg:AllBare g')(hch:∀b∈ch,(b∈X.ex\/X.s₀.heap.objs.size<=b)/\b≠X.env.locals/\(∀x c,X.env.cells.lookup x=some c->c≠b)/\∀p∈X.pn++Z,p.1≠b):Inv X Z U H' { s with heap:=h',gens:=g',drawn:=d',toks:=t' }:=by
 obtain⟨m,⟨o,es,ep,ho,r⟩,_⟩:=id I.loc;obtain⟨sl,hL⟩:=u.any ho I.free λz=>(hch _ z).2.1 J;exact I.step hch (λb o hL hb hc e n=>u.keep b o e n (λz=>(v4<|I.stkSub b z).elim hL hb) hc) (λb o _ _ hc e n=>u.any e n hc) (λb o hc e n=>u.free b o e n hc) (λb o hc e=>u.there b o e hc) u.tups u.frzs u.tbls (λm' hm=>by obtain⟨o',es',ep',ho',r'⟩:=hm;rw[ho] at ho';cases ho';exact⟨_,es',ep',hL,r'⟩) hok hg
def Inv.turned (I:!3)(k:∀b o,b≠it->s.heap.get? b=some o->h'.get? b=some o)(hn:H it=none)(hL:it≠X.env.locals)(h1:it∈X.ex\/X.s₀.heap.objs.size<=it) (h2:∀x c,X.env.cells.lookup x=some c->c≠it) (h3:∀p∈X.pn++Z,p.1≠it):Inv X Z U H { s with heap:=h',toks:=t' }:=by
 have nit:∀b u,H b=some u->b≠it:=λb u e z=>by rw[z,hn] at e;cases e
 refine I.step (ch:=[it]) (λb hb=>?_) (λb o _ _ hc e _=>k b o (λz=>hc<|by simp[z]) e) (λb o _ _ hc e _=>⟨o.slots,k b o (λz=>hc<|by simp[z]) e⟩) (λ_ _ _ _ n=>n) (λb o hc e=>⟨o,k b o (λz=>hc<|by simp[z]) e⟩) (λ_ _ e=>e) (λ_ _ _ e=>e) (λb ps e=>⟨#[],by rw[e];simp⟩) (λm hm=>?_) (λb u e=>?_) I.bare
 .have e:=by simpa using hb
  subst e;exact⟨h1,hL,h2,h3⟩
 .obtain⟨o,es,ep,ho,r⟩:=hm;exact⟨o,es,ep,k _ o (Ne.symm hL) ho,r⟩
 .refine(I.hok b u e).stay (λc v hc q=>k c v ?_ q) (λ_ q=>q) λ_ _ q=>q;rcases hc with z | z
  .rw[z];exact nit b u e
  .exact nit c _ z
def Inv.tok (I:!3)(t:Nat):Inv X Z U H { s with toks:=t }:=I.un Un.refl I.hok
def Inv.kept {t':Nat}(I:!3)(k:∀b u,s.heap.get? b=some u->h'.get? b=some u):Inv X Z U H { s with heap:=h',toks:=t' }:=I.un (Un.kept k)<|I.hok.kept k
def Inv.laid {a:qu}{o:HO}{t':Nat}(I:!3)(k:∀b u,s.heap.get? b=some u->h'.get? b=some u)(hp:s.heap.objs.size<=a)(new:ObjOk X.prog X.w (upd H a o) h' a o):Inv X Z U (upd H a o) { s with heap:=h',toks:=t' }:=I.un (Un.laid k hp<|I.hok.fresh hp)<|I.hok.laid k hp new
def Inv.write {x e:qu}{o:HO}{t':Nat}(I:!3)(mu:Mut<|H x)(he:e=x\/H e=some (.own x))(k:∀b u,b≠e->s.heap.get? b=some u->h'.get? b=some u)(heo:∃u,h'.get? e=some u)(new:ObjOk X.prog X.w (upd H x o) h' x o):Inv X Z U (upd H x o) { s with heap:=h',toks:=t' }:=I.un (Un.write mu he k heo)<|I.hok.write mu he k heo new
def Inv.pins_of {pins':jm}(I:!3)(h:∀p∈pins',s.heap.get? p.1=some p.2/\H p.1=none/\p.1≠X.env.locals/\p.1∉X.fs/\∀v,p.2.data ≠ .cell v):Inv X pins' U H s :=
 ⟨I.ok,I.os,I.bare,I.base,I.loc,I.cell,I.free,I.freeC,λp hp=>(v6 hp).elim (λz=>I.pin p<|Oq _ z)<|h p,I.hok,I.len⟩
def zS1 (hN:N.Nodup)(a:N[i]?=some x)(b:N[j]?=some x):i=j:=by obtain⟨h1,e1⟩:=v5 a;obtain⟨h2,e2⟩:=v5 b;exact(List.getElem_inj hN).mp (e1.trans e2.symm)
def zZf (I:!3)(hN:X.N.Nodup)(hi:!27)(hx:Loc X.env.scope x)(r:RelV v u)(h:∀s',Inv X Z (U.set i<|some v) H s'->(∃a,Heap.SameBut a s.heap s'.heap/\(a=X.env.locals\/X.env.cells.lookup x=some a))->Q () s') (hf:!39:=by first | exact .inl rfl | exact .inr rfl | assumption):wpAny M A (storeName X.env x u) Q E s:=by
 obtain⟨m,hn,hl⟩:=id I.loc;have hcls:(X.env.scope.kind == .class||(X.env.scope.kind == .module&&X.env.locals != X.env.globals))=false:=by rw[I.ok.kind];rfl
 have hiU:i < U.length:=by rw[I.len];exact(v5 hi).1
 have cne:=I.cne;have tracked:∀ {a:qu} {h':qx},(∃o,s.heap.get? a=some o/\H a=none)->Heap.SameBut a _ h'->HOk _ X.w H h':=λ{a h'} ha hs b ob e=>by
  obtain⟨_,_,hfree⟩:=ha;refine(I.hok b ob e).stay (λc w' hc q=>(hs.2 c ?_).trans q) (λ_ q=>q) λ_ _ q=>q;rintro rfl;rcases hc with rfl | hc
  .rw[hfree] at e;cases e
  .rw[hfree] at hc;cases hc
 rcases hx with hk | hk
 .refine wpAny_storeName_local hk hn (λh' hn' hs=>?_) hcls;obtain⟨oL,_,_,hoL,_⟩:=id hn;refine h _ ⟨I.ok,I.os,I.bare,⟨λb o e n hb hx=>((hs.2 b<|Qn<|Wr (Qs e) I.ok.above).trans<|I.base.keep b o e n hb hx),λb o e n hb hx=>?_,I.base.free,λb o e hx=>?_,I.base.tups,I.base.frzs,I.base.tbls⟩,⟨_,hn',λj y v' e1 e2 e3=>?_⟩,λy c e=>?_,I.free,I.freeC,λp hp=>?_,tracked ⟨oL,hoL,I.free⟩ hs,by simpa using I.len⟩ ⟨_,hs,.inl rfl⟩
  .obtain⟨sl,e1⟩:=I.base.slot b o e n hb hx;exact⟨sl,(hs.2 b<|Qn<|Wr (Qs e) I.ok.above).trans e1⟩
  .obtain⟨o',e1⟩:=I.base.there b o e hx;exact⟨o',(hs.2 b<|Qn<|Wr (Qs e) I.ok.above).trans e1⟩
  .by_cases hj:j=i
   .subst hj;rw[hi] at e1;cases e1;rw[Rs hiU] at e2;cases e2;exact⟨u,r,.inl ⟨hk,je⟩⟩
   .rw[Wb<|Ne.symm hj] at e2;obtain⟨u',r',q⟩:=hl j y v' e1 e2 e3;refine⟨u',r',?_⟩;rcases q with⟨k,e⟩ | ⟨k,c,e,z⟩
    .refine .inl ⟨k,?_⟩;have:y≠x:=λe=>hj<|zS1 hN e1<|e ▸ hi;simp[this,e]
    .exact .inr ⟨k,c,e,z.sameBut hs<|cne y c e⟩
  .obtain⟨w',z⟩:=I.cell y c e;exact⟨w',z.sameBut hs<|cne y c e⟩
  .obtain⟨e,n,ne,nf,d⟩:=I.pin p hp;exact⟨(hs.2 p.1 ne).trans e,n,ne,nf,d⟩
 .have hfn:X.fn x=true:=by
   rcases hf with z | z
   .exact z
   .simp_all
  obtain⟨c,hc⟩:=I.ok.has x<|.inl hk;obtain⟨w',z⟩:=I.cell x c hc;refine wpAny_storeName_cell I.ok.kind hk hc z λh' hc' hs=>?_;obtain⟨oc,hoc,hocd⟩:=id z;refine h (!15) ⟨I.ok,I.os,I.bare,⟨λb o e n hb hx=>((hs.2 b<|Qn<|Wr (Qs e)<|I.ok.cab x c hfn hc).trans<|I.base.keep b o e n hb hx),λb o e n hb hx=>?_,I.base.free,λb o e hx=>?_,I.base.tups,I.base.frzs,I.base.tbls⟩,⟨m,hn.sameBut hs<|Ne.symm<|cne x c hc,λj y v' e1 e2 e3=>?_⟩,λy c' e=>?_,I.free,I.freeC,λp hp=>?_,tracked ⟨oc,hoc,I.freeC x c hc⟩ hs,by simpa using I.len⟩ ⟨c,hs,.inr hc⟩
  .obtain⟨sl,e1⟩:=I.base.slot b o e n hb hx;exact⟨sl,(hs.2 b<|Qn<|Wr (Qs e)<|I.ok.cab x c hfn hc).trans e1⟩
  .obtain⟨o',e1⟩:=I.base.there b o e hx;exact⟨o',(hs.2 b<|Qn<|Wr (Qs e)<|I.ok.cab x c hfn hc).trans e1⟩
  .by_cases hj:j=i
   .subst hj;rw[hi] at e1;cases e1;rw[Rs hiU] at e2;cases e2;exact⟨u,r,.inr ⟨.inl hk,c,hc,hc'⟩⟩
   .rw[Wb<|Ne.symm hj] at e2;obtain⟨u',r',q⟩:=hl j y v' e1 e2 e3;refine⟨u',r',?_⟩;rcases q with q | ⟨k,c',e,z'⟩
    .exact .inl q
    .refine .inr ⟨k,c',e,z'.sameBut hs ?_⟩;rintro rfl;exact hj<|zS1 hN e1<|I.ok.inj _ _ _ e hc ▸ hi
  .by_cases hcc:c'=c
   .subst hcc;exact⟨_,hc'⟩
   .obtain⟨w2,z2⟩:=I.cell y c' e;exact⟨w2,z2.sameBut hs hcc⟩
  .obtain⟨e,n,ne,nf,d⟩:=I.pin p hp;refine⟨(hs.2 p.1 ?_).trans e,n,ne,nf,d⟩;intro q;rw[q,hoc] at e;have q':oc=p.2:=Ri e;exact d w' (by rw[<-q'];exact hocd)
def zXj (I:!3)(hN:X.N.Nodup)(hi:!27)(hx:Loc X.env.scope x)(r:RelV v u)(h:∀s',Inv X Z (U.set i<|some v) H s'->Q () s') (hf:!39:=by first | exact .inl rfl | exact .inr rfl | assumption):wpAny M A (storeName X.env x u) Q E s :=
 zZf I hN hi hx r (λs' I' _=>h s' I') hf
def Inv.call' (I:!3)(ho:s'.os=s.os)(u:Un (frs X.stack) ch H H' s.heap s'.heap)(hok:HOk X.prog X.w H' s'.heap)(hg:AllBare s'.gens)(hch:∀b∈ch,(b∈X.ex\/X.s₀.heap.objs.size<=b)/\b≠X.env.locals/\(∀x c,X.env.cells.lookup x=some c->c≠b)/\∀p∈X.pn++Z,p.1≠b):Inv X Z U H' s':=by obtain⟨h',g'⟩:=s';subst ho;exact I.call u hok hg hch
end
abbrev XK:=qv->kq->Hp->Prop
abbrev St:=List ql
abbrev VK:=V->Hp->Prop
abbrev TE:=St->Hp->VK->Prop
abbrev TT:=St->Hp->(Bool->Hp->Prop)->Prop
end L2
variable{o:km}{X:Cx}{t te tb tl ta:TE}{U:L2.St}{tc:TT}{r:V->kr->kr->Hp->VK->Prop}
namespace L2
abbrev TA:=St->Hp->(kj->Hp->Prop)->Prop
structure Ends where
 nx:St->Hp->Prop
 rt:VK
 bk:St->Hp->Prop:=λ_ _=>False
 ct:St->Hp->Prop:=λ_ _=>False
abbrev TS:=Ends->St->Hp->Prop
def EP (X:Cx)(Z:jm)(U:St)(Q:VK)(u:qv)(s':qw):Prop:=∃v H',Inv X Z U H' s'/\RelV v u/\Q v H'
def TP (X:Cx)(Z:jm)(U:St)(Q:Bool->Hp->Prop)(b:Bool)(s':qw):Prop:=∃H',Inv X Z U H' s'/\Q b H'
def AP (X:Cx)(Z:jm)(U:St)(Q:kj->Hp->Prop)(us:jn)(s':qw):Prop:=∃vs H',Inv X Z U H' s'/\Vals vs us/\Q vs H'
def SP (X:Cx)(Z:jm)(D:Ends)(f:Flow)(s':qw):Prop :=
 match f with
 | .next=>∃U' H',Inv X Z U' H' s'/\D.nx U' H'
 | .brk=>∃U' H',Inv X Z U' H' s'/\D.bk U' H'
 | .cont=>∃U' H',Inv X Z U' H' s'/\D.ct U' H'
 | .ret u=>∃v U' H',Inv X Z U' H' s'/\RelV v u/\D.rt v H'
def PE (X:Cx)(e:r8)(t:TE):Prop :=
 ∀(Z:jm) (s:qw) (U:St) (H:Hp) (Q:VK),Inv X Z U H s->t U H Q->wpAny (!5) X.A (eval e X.env) (EP X Z U Q) X.xe s
def PT (X:Cx)(e:r8)(t:TT):Prop :=
 ∀(Z:jm) (s:qw) (U:St) (H:Hp) (Q:Bool->Hp->Prop),Inv X Z U H s->t U H Q->wpAny (!5) X.A (isTrue e X.env<|eval e X.env) (TP X Z U Q) X.xe s
def PW (X:Cx)(e:r8)(t:TT):Prop :=
 ∀(whole:Sem qv) (Z:jm) (s:qw) (U:St) (H:Hp) (Q:Bool->Hp->Prop),Inv X Z U H s->t U H Q->wpAny (!5) X.A (isTrue e X.env whole) (TP X Z U Q) X.xe s
def PW.pt {t:TT}(h:PW X e t):PT X e t:=h _
def PA (X:Cx)(es:qt)(t:TA):Prop :=
 ∀(pos:Pos) (Z:jm) (s:qw) (U:St) (H:Hp) (Q:kj->Hp->Prop),Inv X Z U H s->t U H Q->wpAny (!5) X.A (spliced<|backTo pos (!25)) (AP X Z U Q) X.xe s
def PS (X:Cx)(st:r9)(t:TS):Prop :=
 ∀(Z:jm) (s:qw) (U:St) (H:Hp) (D:Ends),Inv X Z U H s->t D U H->wpAny (!5) X.A (exec st X.env) (SP X Z D) X.xe s
def PSs (X:Cx)(st:qg)(t:TS):Prop :=
 ∀(Z:jm) (s:qw) (U:St) (H:Hp) (D:Ends),Inv X Z U H s->t D U H->wpAny (!5) X.A (execs st X.env) (SP X Z D) X.xe s
def thn {t:Sem α}{Q Q':α->qw->Prop}(h:wpAny M A t Q E s)(hQ:∀a s,Q a s->Q' a s):wpAny M A t Q' E s:=Ea h hQ λ_ _ x=>x
section
def zMw (i:Nat):TE:=λU H Q=>∃v,U[i]?=some (some v)/\Q v H
def tC (v:V):TE:=λ_ H Q=>Q v H
def wI (hN:!27)(hv:!31)(hd:!20:=by decide)(hcd:!30:=by decide):PE X (.Name x pos)<|zMw i:=by
 intro Z s U H Q I h;obtain⟨v,e,h⟩:=h;obtain⟨m,hn,hl⟩:=I.loc;obtain⟨u,r,l⟩:=hl i x v hN e hv;have fin:EP X Z U Q u s:=⟨v,H,I,r,h⟩
 rcases l with⟨hk,hm⟩ | ⟨hk,c,hc,hcell⟩
 .exact wpAny_Name (wpAny_loadName_local I.ok.kind hk hn hm fin) hd
 .rcases hk with hk | hk
  .exact wpAny_Name (wpAny_loadName_cell I.ok.kind hk hc hcell fin) hd
  .exact wpAny_Name (wpAny_loadName_free I.ok.kind hk hc hcell fin hcd) hd
def zGy {i j pos}:PE X (.Constant (.int i) j pos)<|tC<|.int i:=λ_ _ _ H _ I h=>wpAny_Constant_int ⟨.int i,H,I.tok _,⟨_,J⟩,h⟩
def zD0 {b j pos}:PE X (.Constant (.bool b) j pos)<|tC<|.bl b:=λ_ _ _ H _ I h=>Constant_bool ⟨.bl b,H,I,J,h⟩
def zLX {j pos}:PE X (.Constant .none j pos)<|tC .non:=λ_ _ _ H _ I h=>Constant_none ⟨.non,H,I,J,h⟩
def zPU {x j pos}:PE X (.Constant (.str x) j pos)<|tC<|.str x:=λ_ _ _ H _ I h=>Calls.Constant_str ⟨.str x,H,I.tok _,⟨_,J⟩,h⟩
def Gl (X:Cx)(x:Str):Prop:=X.env.kindOf x=some .globalImplicit
def gU {Q:jl}(I:!3)(hg:Gl X x)(hm:X.mg x=some u)(h:Q u s)(hd:!20:=by decide):wpAny (!5) X.A (eval (.Name x pos) X.env) Q E s :=
 Pz I.ok.kind hg (Calls.loadGlobal_global (by rw[I.ok.glob];exact I.mod.glob.keeps I.bk) hm h) hd
def iE {Q:jl}(I:!3)(hg:Gl X x)(hm:X.mg x=none)(hv:bootBuiltins x=some u)(h:Q u s)(hn:x≠"__name__":=by decide) (hd:!20:=by decide):wpAny (!5) X.A (eval (.Name x pos) X.env) Q E s:=by obtain⟨mb,h1,h2⟩:=I.mod.blt;exact Pz I.ok.kind hg (Calls.loadGlobal_builtin (by rw[I.ok.glob];exact I.mod.glob.keeps I.bk) hm (by rw[I.ok.blt];exact h1.keeps I.bk) ((h2 x hn).trans hv) h) hd
def cV (hg:Gl X x)(hm:X.mg x=some u)(r:RelV v u)(hd:!20:=by decide):PE X (.Name x pos) (tC v) :=
 λ_ _ _ H _ I h=>gU I hg hm ⟨v,H,I,r,h⟩ hd
def zPa (hg:Gl X x)(hm:X.mg x=none)(hv:bootBuiltins x=some u)(r:RelV v u)(hn:x≠"__name__":=by decide)(hd:!20:=by decide):PE X (.Name x pos) (tC v) :=
 λ_ _ _ H _ I h=>iE I hg hm hv ⟨v,H,I,r,h⟩ hn hd
variable{a b:r8}
def PC (X:Cx)(op:CmpOp)(a b:r8)(t:TE):Prop :=
 ∀(Z:jm) (s:qw) (U:St) (H:Hp) (Q:VK),Inv X Z U H s->t U H Q ->
  wpAny (!5) X.A (eval a X.env) (λv s₁=>wpAny (!5) X.A (eval b X.env) (λu s₂=>wpAny (!5) X.A (compareOp op v u) (EP X Z U Q) X.xe s₂) X.xe s₁) X.xe s
def tB (t:TE):TT:=λU H Q=>t U H λx H1=>∃c,x = .bl c/\Q c H1
def zJJ (h:PC X op a b t)(h1:behindInMarks op b=false:=by first | exact nobehind _ jb jb | rfl):PT X (.Compare a [op] [b] pos)<|tB t:=by refineλZ s U H Q I hw=>wpAny_isTrue_Compare1 (thn (h Z s U H _ I hw) λv s1 h1=>thn h1 λu s2 h2=>thn h2 λc s3 ⟨x,H1,I1,r1,q1⟩=>?_) h1;obtain⟨d,rfl,q⟩:=q1;cases r1;exact Ry ⟨H1,I1,q⟩
def zGg (h:PE X e t)(he:∀whole,isTrue e X.env whole=(do let v ←whole;standAt e.pos;holding [v] (truthy v)):=by intro _;rfl):PT X e<|tB t:=by refineλZ s U H Q I hw=>isTrue_plain (thn (h Z s U H _ I hw) λv s1 ⟨x,H1,I1,r1,q1⟩=>?_)<|he _;obtain⟨d,rfl,q⟩:=q1;cases r1;exact Ry ⟨H1,I1,q⟩
variable{tA tB':TT}{rest:qt}
def zDc (t u:TT):TT:=λU H Q=>t U H λc H1=>if c=true then u U H1 Q else Q false H1
def tOr (t u:TT):TT:=λU H Q=>t U H λc H1=>if c=true then Q true H1 else u U H1 Q
def zDo (t:TT):TT:=λU H Q=>t U H λc H1=>Q (!c) H1
def zIW (ha:PT X a tA):PW X (.BoolOp .And [a] pos) tA:=by
 refineλwh Z s U H Q I h=>isTrue_and<|thn (ha Z s U H Q I h) λc s1 e=>?_;cases c with
 | true=>exact isTrue_and_nil e
 | _=>exact e
def zG4 (ha:PT X a tA):PW X (.BoolOp .Or [a] pos) tA:=by
 refineλwh Z s U H Q I h=>isTrue_or<|thn (ha Z s U H Q I h) λc s1 e=>?_;cases c with
 | false=>exact isTrue_or_nil e
 | true=>exact e
def zGo (ha:PT X a tA)(hb:PW X (.BoolOp .And (b::rest) pos) tB'):PW X (.BoolOp .And (a::b::rest) pos)<|zDc tA tB':=by
 refineλwh Z s U H Q I h=>isTrue_and<|thn (ha Z s U H _ I h) λc s1 ⟨H1,I1,q1⟩=>?_;cases c with
 | true=>exact hb wh Z s1 U H1 Q I1 q1
 | _=>exact⟨H1,I1,q1⟩
def zEt (ha:PT X a tA)(hb:PW X (.BoolOp .Or (b::rest) pos) tB'):PW X (.BoolOp .Or (a::b::rest) pos)<|tOr tA tB':=by
 refineλwh Z s U H Q I h=>isTrue_or<|thn (ha Z s U H _ I h) λc s1 ⟨H1,I1,q1⟩=>?_;cases c with
 | true=>exact⟨H1,I1,q1⟩
 | _=>exact hb wh Z s1 U H1 Q I1 q1
def zGh (ha:PT X a tA):PT X (.UnaryOp .Not a pos)<|zDo tA:=by exactλZ s U H Q I h=>isTrue_not<|ha Z s U H _ I h
def zDz (ta tb:TE):TE:=λU H Q=>ta U H λx H1=>∃c,x = .bl c/\if c=true then tb U H1 Q else Q (.bl false) H1
def zGa {op}(h:PE X a t):PE X (.BoolOp op [a] pos) t:=λZ s U H Q I hw=>BoolOp_one<|h Z s U H Q I hw
def zFh (ha:PE X a ta)(hb:PE X (.BoolOp .And (b::rest) pos) tb):PE X (.BoolOp .And (a::b::rest) pos)<|zDz ta tb:=by
 refineλZ s U H Q I h=>BoolOp_and<|thn (ha Z s U H _ I h) λv s1 ⟨x,H1,I1,r1,q1⟩=>?_;obtain⟨c,rfl,q1⟩:=q1;cases r1;refine Ry ?_;cases c with
 | true=>exact hb Z s1 U H1 Q I1 q1
 | _=>exact⟨.bl false,H1,I1,J,q1⟩
def tIf (t:TT)(ta tb:TE):TE:=λU H Q=>t U H λc H1=>if c=true then ta U H1 Q else tb U H1 Q
def zMp (hc:PT X c tA)(ha:PE X a ta)(hb:PE X b tb):PE X (.IfExp c a b pos)<|tIf tA ta tb:=by
 refineλZ s U H Q I h=>wpAny_IfExp<|thn (hc Z s U H _ I h) λd s1 ⟨H1,I1,q1⟩=>?_;cases d with
 | true=>exact ha Z s1 U H1 Q I1 q1
 | _=>exact hb Z s1 U H1 Q I1 q1
end
def SqL (K:jk)(H:Hp)(a:qu)(xs:kj):Prop :=
 Rd H a (.lst xs) \/
  ∃(o:Obj) (j6:jo) (n:Nat),K.lookup a=some o/\o.cls = .type "list"/\o.dict=none/\o.data = .seq j6 n/\j6.size<=sizeLine/\Vals xs j6.toList
def SqT (K:jk)(H:Hp)(a:qu)(xs:kj):Prop :=
 Rd H a (.tup xs) \/
  ∃(o:Obj) (j6:jo) (n:Nat),K.lookup a=some o/\o.cls = .type "tuple"/\o.data = .seq j6 n/\j6.size<=sizeLine/\Vals xs j6.toList
def zDd:qv->ql
 | .none=>some .non
 | .bool b=>some<|.bl b
 | .int i _=>some<|.int i
 | .str x _=>some<|.str x
 | .bytes b _=>some<|.byt b
 | .float b _=>some<|.flt b
 | .ref a=>some<|.ref a
 | .type n=>some<|.ty n
 | _=>none
def RelV.abs {x:V}(r:RelV x u):zDd u=some x:=by
 cases x with
 | non=>cases r;rfl
 | bl _=>cases r;rfl
 | int _=>obtain⟨t,rfl⟩:=r;rfl
 | str _=>obtain⟨t,rfl⟩:=r;rfl
 | byt _=>obtain⟨t,rfl⟩:=r;rfl
 | flt _=>obtain⟨t,rfl⟩:=r;rfl
 | ref _=>cases r;rfl
 | ty _=>cases r;rfl
def RelV.inj {x:V}(r:RelV x u)(q:RelV y u):x=y:=Ri<|r.abs.symm.trans q.abs
theorem Vals.inj:∀ {xs ys:kj} {us:jn},Vals xs us->Vals ys us->xs=ys
 | _,_,_,.nil,.nil=>rfl
 | _,_,_,.cons r t,.cons r' t'=>by rw[r.inj r',Vals.inj t t']
def SqL.of (h:H a=some (.lst xs)):SqL K H a xs:=.inl<|.inl h
def SqT.of (h:H a=some (.tup xs)):SqT K H a xs:=.inl<|.inl h
def Inv.list (I:!3)(h:SqL X.K H a xs):∃j6:qh,Vals xs j6/\PlainL s.heap a j6.toArray/\xs.length<=sizeLine:=by
 rcases h with h | ⟨o,j6,n,hk,hc,hd,hs,hz,r⟩
 .obtain⟨z,j6,n,r,e⟩:=h.ok I.hok;exact⟨j6,r,⟨_,n,e,J,J,J⟩,z⟩
 .refine⟨j6.toList,r,⟨o,n,I.kIn a o hk,hc,hd,by simpa using hs⟩,?_⟩;have e:=r.length;simp_all
def Inv.tuple (I:!3)(h:SqT X.K H a xs):∃j6:qh,Vals xs j6/\IsTup s.heap a j6.toArray/\xs.length<=sizeLine:=by
 rcases h with h | ⟨o,j6,n,hk,hc,hs,hz,r⟩
 .obtain⟨z,j6,r,p⟩:=h.ok I.hok;exact⟨j6,r,p,z⟩
 .refine⟨j6.toList,r,⟨o,I.kIn a o hk,hc,n,by simpa using hs⟩,?_⟩;have e:=r.length;simp_all
def Inv.list_inj (I:!3)(h:SqL X.K H a xs)(h':SqL X.K H a ys):xs=ys:=by
 obtain⟨j6,r,⟨o,n,e,_,_,d⟩,_⟩:=I.list h;obtain⟨its',r',⟨o',n',e',_,_,d'⟩,_⟩:=I.list h';rw[e] at e';cases e';rw[d] at d';injection d' with d1 _
 have:=by simpa using Wa Array.toList d1
 subst this;exact r.inj r'
def Inv.tuple_inj (I:!3)(h:SqT X.K H a xs)(h':SqT X.K H a ys):xs=ys:=by
 obtain⟨j6,r,⟨o,e,_,n,d⟩,_⟩:=I.tuple h;obtain⟨its',r',⟨o',e',_,n',d'⟩,_⟩:=I.tuple h';rw[e] at e';cases e';rw[d] at d';injection d' with d1 _
 have:=by simpa using Wa Array.toList d1
 subst this;exact r.inj r'
abbrev Cx.wish (X:Cx)(E:jl):Cx:={ X with xe:=E }
abbrev Cx.nox (X:Cx):Cx:=X.wish λ_ _=>False
def Cx.Ok.wish {X:Cx}(ok:X.Ok)(E:jl):(X.wish E).Ok :=
 ⟨ok.mod,ok.kind,ok.glob,ok.blt,ok.above,ok.inj,ok.has,ok.cab,ok.hd,ok.frames,ok.stk,ok.exf,ok.bs,ok.bsz,ok.noex,ok.exfs,ok.funs,ok.frf⟩
def Cx.Ok.unwish (ok:(X.wish E).Ok):X.Ok :=
 ⟨ok.mod,ok.kind,ok.glob,ok.blt,ok.above,ok.inj,ok.has,ok.cab,ok.hd,ok.frames,ok.stk,ok.exf,ok.bs,ok.bsz,ok.noex,ok.exfs,ok.funs,ok.frf⟩
section
def Inv.wish (I:!3)(E:jl):Inv (X.wish E) Z U H s:=⟨I.ok.wish E,I.os,I.bare,I.base,I.loc,I.cell,I.free,I.freeC,I.pin,I.hok,I.len⟩
def Inv.unwish (I:Inv (X.wish E) Z U H s):Inv X Z U H s:=⟨I.ok.unwish,I.os,I.bare,I.base,I.loc,I.cell,I.free,I.freeC,I.pin,I.hok,I.len⟩
def SP.unwish {D:Ends}{f:Flow}{s':qw}(h:SP (X.wish E) Z D f s'):SP X Z D f s':=by
 cases f with
 | next=>obtain⟨U',H',I,q⟩:=h;exact⟨U',H',I.unwish,q⟩
 | brk=>obtain⟨U',H',I,q⟩:=h;exact⟨U',H',I.unwish,q⟩
 | cont=>obtain⟨U',H',I,q⟩:=h;exact⟨U',H',I.unwish,q⟩
 | ret u=>obtain⟨v,U',H',I,r,q⟩:=h;exact⟨v,U',H',I.unwish,r,q⟩
def PSs.nox {st:qg}{t:TS}(h:PSs X.nox st t):PSs X st t:=λZ s U H D I hw =>Ea (h Z s U H D (I.wish _) hw) (λ_ _ q=>q.unwish) λ_ _ z=>False.elim z
variable{rest:qg}{t u:TS}
def zDM:TS:=λD U H=>D.nx U H
def zDs (t u:TS):TS:=λD U H=>t { D with nx:=u D } U H
def zX5:PSs X [] zDM:=λ_ _ U H _ I h=>Yi ⟨U,H,I,h⟩
def tP (h1:PS X st t)(h2:PSs X rest u):PSs X (st::rest)<|zDs t u:=by
 refineλZ s U H D I h=>Iw<|thn (h1 Z s U H { D with nx:=u D } I h) λf s1 q=>?_;cases f with
 | next =>obtain⟨U',H',I',q⟩:=q;exact h2 Z s1 U' H' D I' q
 | ret v=>exact q
 | brk=>exact q
 | cont=>exact q
def zXz (h1:PS X st t):PSs X [st] t:=by
 refineλZ s U H D I h=>Iw<|thn (h1 Z s U H D I h) λf s1 q=>?_;cases f with
 | next=>exact Yi q
 | ret v=>exact q
 | brk=>exact q
 | cont=>exact q
def Inv.quiet (I:!3):interactive X.env=false:=by simp[interactive,I.ok.kind]
def zDv (te:TE):TS:=λD U H=>te U H λ_ H1=>D.nx U H1
def pV (he:PE X e te)(hs:swapsWith e none pos.line X.env=pure false:=by rfl):PS X (.Expr e pos)<|zDv te:=by exactλZ s U H D I h=>wpAny_Expr_any (thn (he Z s U H _ I h) λv s1 ⟨x,H1,I1,r1,q1⟩=>⟨U,H1,I1,q1⟩) I.quiet hs
def zDb (te:TE):TS:=λD U H=>te U H D.rt
def zT8 (he:PE X e te):PS X (.Return (some e) pos)<|zDb te:=by exactλZ s U H D I h=>wpAny_Return_some<|thn (he Z s U H _ I h) λv s1 ⟨x,H1,I1,r1,q1⟩=>⟨x,U,H1,I1,r1,q1⟩
def zDa (c:TT)(t u:TS):TS:=λD U H=>c U H λb H1=>if b=true then t D U H1 else u D U H1
def zRz {a b:qg}(hc:PT X c tc)(ha:PSs X a t)(hb:PSs X b u):PS X (.If c a b pos)<|zDa tc t u:=by
 refineλZ s U H D I h=>wpAny_If<|thn (hc Z s U H _ I h) λd s1 ⟨H1,I1,q1⟩=>?_;cases d with
 | true=>exact ha Z s1 U H1 D I1 q1
 | _=>exact hb Z s1 U H1 D I1 q1
end
abbrev TG:=V->St->Hp->(St->Hp->Prop)->Prop
abbrev TGs:=kj->St->Hp->(St->Hp->Prop)->Prop
def PG (X:Cx)(target:r8)(t:TG):Prop :=
 ∀(Z:jm) (s:qw) (U:St) (H:Hp) (v:V) (u:qv) (Q:St->Hp->Prop),Inv X Z U H s->RelV v u->t v U H Q ->
  wpAny (!5) X.A (assign target X.env u) (λ_ s'=>∃U' H',Inv X Z U' H' s'/\Q U' H') X.xe s
def PGs (X:Cx)(ts:qt)(t:TGs):Prop :=
 ∀(Z:jm) (s:qw) (U:St) (H:Hp) (vs:kj) (us:jn) (Q:St->Hp->Prop),Inv X Z U H s->Vals vs us->t vs U H Q ->
  wpAny (!5) X.A (assignInOrder ((assignEach ts X.env).map (·.2)) us) (λ_ s'=>∃U' H',Inv X Z U' H' s'/\Q U' H') X.xe s
def zRl (i:Nat):TG:=λv U H Q=>Q (U.set i<|some v) H
def zJb (hN:X.N.Nodup)(hi:!27)(hx:Loc X.env.scope x)(hf:!39:=by first | exact .inl rfl | exact .inr rfl | assumption):PG X (.Name x pos)<|zRl i:=by exactλZ s U H v u Q I r h=>wpAny_assign_Name<|zXj I hN hi hx r (λs' I'=>⟨_,H,I',h⟩) hf
def zCW:TGs:=λvs U H Q=>vs=[]/\Q U H
def zEy (t:TG)(u:TGs):TGs:=λvs U H Q=>∃v r,vs=v::r/\t v U H λU' H'=>u r U' H' Q
def zHi:PGs X [] zCW:=by intro Z s U H vs us Q I r h;obtain⟨e,h⟩:=h;exact assignInOrder_nil ⟨U,H,I,h⟩
def zKz {t:TG}{u:TGs}(h1:PG X e t)(h2:PGs X es u)(hs:(assignEach (e::es) X.env).map (·.2)=assign e X.env::(assignEach es X.env).map (·.2):=by rfl):PGs X (e::es)<|zEy t u:=by
 intro Z s U H vs us Q I r h;obtain⟨v,vr,e1,h⟩:=h;subst e1;cases r with
 | cons r rr =>rw[hs];exact assignInOrder_cons<|thn (h1 Z s U H _ _ _ I r h) λ_ s1 ⟨σ1,H1,I1,q1⟩=>h2 Z s1 σ1 H1 _ _ Q I1 rr q1
def zCN (K:jk)(n:Nat)(t:TGs):TG:=λv U H Q=>∃a xs,v = .ref a/\SqT K H a xs/\xs.length=n/\t xs U H Q
def zG8 {k:Nat}{t:TGs}(hc:!24)(h:PGs X es t)(hn:(assignEach es X.env).length=n:=by rfl) (hst:(assignEach es X.env).findIdx? (·.1)=none:=by rfl):PG X (.Tuple es k pos)<|zCN X.K n t:=by intro Z s U H v u Q I r hw;obtain⟨a,xs,e1,hq,hl,hw⟩:=hw;subst e1;cases r;obtain⟨j6,rv,ht,hz⟩:=I.tuple hq;exact assign_Tuple_tuple (I.ok.hd hc) ht (by simp[hn,<-hl,rv.length]) hst λh' hx=>h Z _ U H xs _ Q (I.kept (t':=_) λb o e=>hx b o (Qn<|Qs e) e) (!6) hw
def zNj (te:TE)(g:TG):TS:=λD U H=>te U H λx H1=>g x U H1 D.nx
def zGt {g:TG}(he:PE X e te)(hg:PG X tg g)(hs:swapsWithSole [tg] e pos.line X.env=pure false:=by rfl)(hw:swappedStores [tg] e X.env=pure none:=by rfl)(h1:(assignEach [tg] X.env).map (·.2)=[assign tg X.env]:=by rfl):PS X (.Assign [tg] e pos)<|zNj te g:=by refineλZ s U H D I h=>wpAny_Assign_stores (thn (he Z s U H _ I h) λv s1 ⟨x,H1,I1,r1,q1⟩=>?_) hs hw;rw[h1];exact thn (hg Z s1 U H1 x v _ I1 r1 q1) λ_ s2 q=>q
def bF (hN:X.N.Nodup)(hi:!27)(hx:Loc X.env.scope x)(he:PE X e te)(hs:swapsWith e (some<|.Name x pos') pos.line X.env=pure false:=by rfl)(hf:!39:=by first | exact .inl rfl | exact .inr rfl | assumption):PS X (.Assign [.Name x pos'] e pos)<|zNj te<|zRl i:=by exactλZ s U H D I h=>wpAny_Assign_Name (thn (he Z s U H _ I h) λv s1 ⟨y,H1,I1,r1,q1⟩=>(zXj I1 hN hi hx r1 (λs2 I2=>⟨_,H1,I2,q1⟩) hf)) hs
def zGp (c:TT)(tb:TS):TS:=λD U H=>∃W:Nat->St->Hp->Prop,(∃m,W m U H)/\∀m U H,W m U H ->
 c U H λb H1=>if b=true then ∃N:St->Hp->Prop,(∀U' H',N U' H'->∃m',m' < m/\W m' U' H')/\tb { D with nx:=N,ct:=N,bk:=D.nx } U H1 else D.nx U H1
def zJV {tb:TS}(hp:PassesOwn (!5) X.A X.env X.xe)(hc:PT X c tc)(hb:PSs X body tb):PS X (.While c body [] pos)<|zGp tc tb:=by
 intro Z s U H D I h;obtain⟨W,⟨m0,w0⟩,turn⟩:=h;refine wpAny_While<|codeAny_whileLoop (λn s'=>∃U' H',Inv X Z U' H' s'/\W n U' H') ?_ m0 ⟨U,H,I,w0⟩;rintro n s1 ⟨σ1,H1,I1,w1⟩;refine Ti hp<|thn (hc Z s1 σ1 H1 _ I1<|turn n σ1 H1 w1) λb s2 ⟨H2,I2,q2⟩=>?_;cases b with
 | true =>
  obtain⟨N,hN,q2⟩:=q2;refine Ti hp<|thn (hb Z s2 σ1 H2 _ I2 q2) λf s3 q3=>?_;cases f with
  | next =>obtain⟨σ3,H3,I3,n3⟩:=q3;obtain⟨m',hm,w3⟩:=hN σ3 H3 n3;exact⟨m',hm,σ3,H3,I3,w3⟩
  | cont =>obtain⟨σ3,H3,I3,n3⟩:=q3;obtain⟨m',hm,w3⟩:=hN σ3 H3 n3;exact⟨m',hm,σ3,H3,I3,w3⟩
  | brk=>exact q3
  | ret v=>exact q3
 | _ =>exact Yi ⟨σ1,H2,I2,q2⟩
structure It where
 go:Nat->Hp->Prop
 yld:Nat->Hp->V->Hp->Prop
 stop:Nat->Hp->Prop
def fV (X:Cx)(Z:jm)(H:Hp)(b:qu):Prop :=
 H b=none/\b≠X.env.locals/\b∉X.fs/\(b∈X.ex\/X.s₀.heap.objs.size<=b)/\(∀x c,X.env.cells.lookup x=some c->c≠b)/\∀p∈X.pn++Z,p.1≠b
def Inv.fpOk {b:qu}(I:!3)(hb:s.heap.objs.size<=b)(hn:H' b=none):fV X Z H' b:=by
 refine⟨hn,Ov<|Wr I.lt hb,I.nofs hb,.inr<|Wq I.sz hb,λx c e z=>?_,λp hp z=>absurd (Wr (Qs (I.pin p hp).1) (!9))<|Wg _⟩
 .obtain⟨v,q⟩:=I.cell x c e;exact absurd (Wr q.lt (!9))<|Wg _
structure Turn (P:Program)(w:qz)(K:jk)(tg:r8)(ya:It)(fp:kn)(it:qu)(tn:Nat->qx->Prop):Prop where
 mem:it∈fp
 obj:∀i h,tn i h->∀b∈fp,∃o,h.get? b=some o/\∀v,o.data ≠ .cell v
 keep:∀i h h',tn i h->(∀b∈fp,∀o,h.get? b=some o->h'.get? b=some o)->tn i h'
 item:∀(X:Cx),X.prog=P->X.w=w->X.K=K->X.calm=true->∀(i:Nat) (Z:jm) (s:qw) (U:St) (H:Hp) (E:jl),Inv X Z U H s->(∀b∈fp,fV X Z H b)->tn i s.heap->ya.go i H ->
  wpAny (model P w) X.A (pyNext (.ref it)) (λr s1=>∃u,r=some u /\
   wpAny (model P w) X.A (letOwnedTupleGo tg (.ref it) u) (λ_ s2=>∃x H',Inv X Z U H' s2/\RelV x u/\ya.yld i H x H'/\tn (i+1) s2.heap/\∀b∈fp,H' b=none) E s1) E s
 done:∀(X:Cx),X.prog=P->X.w=w->X.K=K->X.calm=true->∀(i:Nat) (Z:jm) (s:qw) (U:St) (H:Hp) (E:jl),Inv X Z U H s->(∀b∈fp,fV X Z H b)->tn i s.heap->ya.stop i H ->
  wpAny (model P w) X.A (pyNext<|.ref it) (λr s1=>r=none/\Inv X Z U H s1) E s
 self:∀(A:qy) (i:Nat) (s:qw) (Q:jl) (E:jl),tn i s.heap->Q (.ref it) s->wpAny (model P w) A (pyIter<|.ref it) Q E s
abbrev TI:=St->Hp->(It->Hp->Prop)->Prop
def PIE (X:Cx)(Z:jm)(U:St)(tg:r8)(R:It->Hp->Prop)(itv:qv)(s2:qw):Prop :=
 ∃(it:qu) (fp:kn) (tn:Nat->qx->Prop) (ya:It) (H':Hp),itv = .ref it/\Inv X Z U H' s2/\Turn X.prog X.w X.K tg ya fp it tn/\tn 0 s2.heap/\(∀b∈fp,fV X Z H' b)/\R ya H'
def PI (X:Cx)(tg iter:r8)(wi:TI):Prop :=
 ∀(Z:jm) (s:qw) (U:St) (H:Hp) (R:It->Hp->Prop),Inv X Z U H s->wi U H R ->
  wpAny (!5) X.A (eval iter X.env) (λv s1=>wpAny (!5) X.A (pyIter v) (PIE X Z U tg R) X.xe s1) X.xe s
def zQW {o:Obj}{n:String}{vs:jo}(ho:s.heap.get? it=some o)(hc:o.cls = .type n)(hd:o.data = .fields vs)(hn:["enumerate","zip","dict_itemiterator","dict_reverseitemiterator","odict_iterator","itertools.zip_longest","itertools.pairwise"].contains n=false) (hQ:Q () s):wpAny M A (letOwnedTupleGo tg (.ref it) u) Q E s:=by
 cases tg<;>first
   | exact Qo hQ
   | (cases u<;>first
       | exact Qo hQ
       | (refine Qw (wpAny_load ho ?_)
          rw[hc,hd];show wpAny M A (if _=true then _ else _) Q E s;rw[Qc (by intro h;rw[hn] at h;cases h)];exact Qo hQ))
def Itl (K:jk)(a:qu):It :=
 ⟨λi H=>∃xs x,SqL K H a xs/\xs[i]?=some x,λi H x H'=>H'=H/\∀xs,SqL K H a xs->xs[i]?=some x,λi H=>∃xs,SqL K H a xs/\xs.length<=i⟩
def Itt (K:jk)(a:qu):It :=
 ⟨λi H=>∃xs x,SqT K H a xs/\xs[i]?=some x,λi H x H'=>H'=H/\∀xs,SqT K H a xs->xs[i]?=some x,λi H=>∃xs,SqT K H a xs/\xs.length<=i⟩
def Itr (lo:Int)(n:Nat):It:=⟨λi _=>i < n,λi H x H'=>H'=H/\x = .int (lo+i),λi _=>n<=i⟩
theorem zND (a it:qu):Turn P w K tg (Itl K a) [it] it (λi h=>h.IsListIter it a i) where
 mem:=je
 obj:=λi h st b hb=>by
  have e:=by simpa using hb
  subst e;obtain⟨o,e,c,d⟩:=st;exact⟨o,e,λv z=>by rw[d] at z;cases z⟩
 keep:=λi h h' st k=>st.at λo e=>k it je o e
 item:=by
  sleep 6
  subst hP hw hK;obtain⟨xs,x,hq,hx⟩:=hg;obtain⟨j6,rv,p,hz⟩:=I.list hq;obtain⟨u,hu,ru⟩:=rv.get hx;obtain⟨f0,f1,f2,f3,f4,f5⟩:=hf it je;refine wpAny_pyNext_list_item st p.isList (by simpa using hu) λh' st' sb=>?_;obtain⟨o,e,c,d⟩:=id st';exact⟨u,J,zQW e c d J ⟨x,H,(I.turned (t':=_) (λb o hb e=>(sb.2 b hb).trans e) f0 f1 f3 f4 f5),ru,⟨J,λys hy=>by rw[I.list_inj hy hq];exact hx⟩,st',λb hb=>(hf b hb).1⟩⟩
 done:=by
  sleep 6
  subst hP hw hK;obtain⟨xs,hq,hx⟩:=hg;obtain⟨j6,rv,p,hz⟩:=I.list hq;obtain⟨f0,f1,f2,f3,f4,f5⟩:=hf it je;have hl:=rv.length;exact wpAny_pyNext_list_end (I.ok.hd hc) st p.isList (!9) λh' eb=>⟨J,I.turned (λb o hb e=>eb b o hb e) f0 f1 f3 f4 f5⟩
 self:=λ_ _ _ _ _ st h=>wpAny_pyIter_listiter st h
theorem zQD (a it:qu):Turn P w K tg (Itt K a) [it] it (λi h=>h.IsTupleIter it a i) where
 mem:=je
 obj:=λi h st b hb=>by
  have e:=by simpa using hb
  subst e;obtain⟨o,e,c,d⟩:=st;exact⟨o,e,λv z=>by rw[d] at z;cases z⟩
 keep:=λi h h' st k=>st.at λo e=>k it je o e
 item:=by
  sleep 6
  subst hP hw hK;obtain⟨xs,x,hq,hx⟩:=hg;obtain⟨j6,rv,p,hz⟩:=I.tuple hq;obtain⟨u,hu,ru⟩:=rv.get hx;obtain⟨f0,f1,f2,f3,f4,f5⟩:=hf it je;refine wpAny_pyNext_tuple_item st (p) (x:=u) (by simpa using hu) λh' st' sb=>?_;obtain⟨o,e,c,d⟩:=id st';exact⟨u,J,zQW (s:=(!15)) e c d jb ⟨x,H,(I.turned (t':=_) (λb o hb e=>(sb.2 b hb).trans e) f0 f1 f3 f4 f5),ru,⟨J,λys hy=>by rw[I.tuple_inj hy hq];exact hx⟩,st',λb hb=>(hf b hb).1⟩⟩
 done:=by
  sleep 6
  subst hP hw hK;obtain⟨xs,hq,hx⟩:=hg;obtain⟨j6,rv,p,hz⟩:=I.tuple hq;obtain⟨f0,f1,f2,f3,f4,f5⟩:=hf it je;have hl:=rv.length;exact wpAny_pyNext_tuple_end (I.ok.hd hc) st (p) (by simp;lia) λh' eb=>⟨J,I.turned (t':=_) (λb o hb e=>eb b o hb e) f0 f1 f3 f4 f5⟩
 self:=λ_ _ _ _ _ st h=>wpAny_pyIter_tupleiter st h
theorem zPE (it:qu)(lo:Int)(n:Nat):Turn P w K tg (Itr lo n) [it] it (λi h=>IsRangeIter h it (lo+(i:Nat)*1) ((n:Int) - (i:Nat)) 1) where
 mem:=je
 obj:=λi h st b hb=>by simp_all
 keep:=λi h h' st k=>k it je _ st
 item:=by
  sleep 6
  subst hP hw hK;obtain⟨f0,f1,f2,f3,f4,f5⟩:=hf it je;refine(Walks.range (prog:=_) (w:=X.w) (I.ok.hd hc) it lo 1 n).item i s _ _ hg st λv h' tk hv st' kk=>?_;obtain⟨t,rfl⟩:=hv;have I1:Inv X Z U H (!32):=I.turned (λb o hb e=>kk b o (!9) e) f0 f1 f3 f4 f5;refine⟨_,J,zQW st' J J J ⟨.int _,H,I1,⟨t,?_⟩,⟨J,J⟩,st',λb hb=>(hf b hb).1⟩⟩;rw[Int.mul_one]
 done:=by
  sleep 6
  obtain⟨f0,f1,f2,f3,f4,f5⟩:=hf it je;exact wpAny_pyNext_range_end (I.ok.hd hc) st (by have:n<=i:=hg;lia) λh' eb=>⟨J,I.turned (λb o hb e=>eb b o hb e) f0 f1 f3 f4 f5⟩
 self:=λ_ _ _ _ _ st h=>wpAny_pyIter_rangeiter st h
def zDJ (K:jk)(tl:TE):TI:=λU H R=>tl U H λx H1=>∃a,x = .ref a/\(∃xs,SqL K H1 a xs)/\R (Itl K a) H1
def zCM (K:jk)(tl:TE):TI:=λU H R=>tl U H λx H1=>∃a,x = .ref a/\(∃xs,SqT K H1 a xs)/\R (Itt K a) H1
def zNY (hl:PE X l tl):PI X tg l<|zDJ X.K tl:=by
 refineλZ s U H R I h=>thn (hl Z s U H _ I h) λv s1 ⟨x,H1,I1,r1,q1⟩=>?_;obtain⟨a,e,⟨xs,hq⟩,q⟩:=q1;subst e;cases r1;obtain⟨j6,rv,p,hz⟩:=I1.list hq;refine Yk p.isList ⟨s1.heap.objs.size,[s1.heap.objs.size],_,_,H1,J,I1.kept λb o e=>Qe _ e,zND a _,⟨_,Qa _ J,J,J⟩,λb hb=>?_,q⟩;have e:=by simpa using hb
 subst e;exact I1.fpOk (Qh _)<|I1.hok.fresh<|Qh _
def zFO (hl:PE X l tl):PI X tg l<|zCM X.K tl:=by
 refineλZ s U H R I h=>thn (hl Z s U H _ I h) λv s1 ⟨x,H1,I1,r1,q1⟩=>?_;obtain⟨a,e,⟨xs,hq⟩,q⟩:=q1;subst e;cases r1;obtain⟨j6,rv,p,hz⟩:=I1.tuple hq;refine Ua (p) ⟨s1.heap.objs.size,[s1.heap.objs.size],_,_,H1,J,I1.kept λb o e=>Qe _ e,zQD a _,⟨_,Qa _ J,J,J⟩,λb hb=>?_,q⟩;have e:=by simpa using hb
 subst e;exact I1.fpOk (Qh _)<|I1.hok.fresh<|Qh _
def zRK {R:It->Hp->Prop}{lo hi:Int}{t u v:Tok}(I:!3)(h1 : -(2^62)<=lo)(h2:lo < 2^62)(h3 : -(2^62)<=hi)(h4:hi < 2^62)(q:R (Itr lo (hi - lo).toNat) H):wpAny (!5) X.A (pyIter<|.ref s.heap.objs.size) (PIE X Z U tg R) E { s with heap:=s.heap.push { cls:=.type "range",data:=.fields #[.int lo t,.int hi u,.int 1 v] },toks:=tk }:=by
 refine wpAny_pyIter_range (IsRange.new ..) (small_one h1 h2 h3 h4) ?_;have I1:Inv X Z U H { s with heap:=s.heap.push { cls:=.type "range",data:=.fields #[.int lo t,.int hi u,.int 1 v] },toks:=tk }:=I.kept λb o e=>Qe _ e;refine⟨(s.heap.push { cls:=.type "range",data:=.fields #[.int lo t,.int hi u,.int 1 v] }).objs.size,[(s.heap.push { cls:=.type "range",data:=.fields #[.int lo t,.int hi u,.int 1 v] }).objs.size],_,_,H,J, I1.kept λb o e=>Qe _ e,zPE _ lo (hi - lo).toNat,?_,λb hb=>?_,q⟩
 .have e1:lo+((0:Nat))*1=lo:=by simp
  have e2:(((hi - lo).toNat)) - ((0:Nat))=Builtin.Range.rangeSize lo hi 1:=by rw[rangeSize_one];split<;>lia
  rw[e1,e2];exact Qa _ J
 .have e:b=(s.heap.push { cls:=.type "range",data:=.fields #[.int lo t,.int hi u,.int 1 v] }).objs.size:=by simpa using hb
  subst e;exact I1.fpOk (Qh _)<|I1.hok.fresh<|Qh _
def zEm (ta:TA):TI:=λU H R=>ta U H λvs H1=>∃j:Int,vs=[.int j] /\ -(2^62)<=j/\j < 2^62/\R (Itr 0 j.toNat) H1
def zDx (ta:TA):TI:=λU H R=>ta U H λvs H1=>∃i j:Int,vs=[.int i,.int j]/\(-(2^62)<=i/\i < 2^62 /\ -(2^62)<=j/\j < 2^62)/\R (Itr i (j - i).toNat) H1
def zMB {a:r8}{ta:TA}(hg:Gl X "range")(hm:X.mg "range"=none)(ha:PA X [a] ta)(hs:!34:=by rfl):PI X tg (.Call (.Name "range" p) [a] [] pos)<|zEm ta:=by
 refineλZ s U H R I h=>Call_<|iE I hg hm boot_range<|Ro (thn (ha pos Z s U H _ I h) λus s1 ⟨vs,H1,I1,r1,q1⟩=>?_) hs rfl;obtain⟨j,e,q1,q2,q⟩:=q1;subst e;cases r1 with
 | cons r rr =>cases rr;obtain⟨t,rfl⟩:=r;exact call_range_1<|zRK I1 jc jc q1 q2 (!9)
def zM5 {a b:r8}{ta:TA}(hg:Gl X "range")(hm:X.mg "range"=none)(ha:PA X [a,b] ta)(hs:starEach [a,b] X.env=[(false,eval a X.env),(false,eval b X.env)]:=by rfl)(hs2:starEach [b] X.env=[(false,eval b X.env)]:=by rfl):PI X tg (.Call (.Name "range" p) [a,b] [] pos)<|zDx ta:=by
 refineλZ s U H R I h=>Call_<|iE I hg hm boot_range<|Ro (thn (ha pos Z s U H _ I h) λus s1 ⟨vs,H1,I1,r1,q1⟩=>?_) (!9) (by rw[hs2];rfl);obtain⟨i,j,e,⟨q1,q2,q3,q4⟩,q⟩:=q1;subst e;cases r1 with
 | cons r rr =>
  cases rr with
  | cons r' rr =>cases rr;obtain⟨t,rfl⟩:=r;obtain⟨t',rfl⟩:=r';exact call_range_2<|zRK I1 q1 q2 q3 q4 q
def zDr (wi:TI)(g:TG)(tb:TS):TS:=λD U H=>wi U H λya H1=>∃W:Nat->Nat->St->Hp->Prop,(∃m,W 0 m U H1)/\∀i m U H,W i m U H ->
 (ya.stop i H/\D.nx U H)\/(ya.go i H/\∃N:St->Hp->Prop,(∀U' H',N U' H'->∃m',m' < m/\W (i+1) m' U' H')/\∀x H',ya.yld i H x H'->g x U H' λσ2 H2=>tb { D with nx:=N,ct:=N,bk:=D.nx } σ2 H2)
def zVO (fp:kn)(h:qx):jm:=fp.filterMap λb=>(h.get? b).map λo=>(b,o)
def iM {b:qu}{o:Obj}(hb:b∈fp)(e:h.get? b=some o):(b,o)∈zVO fp h:=List.mem_filterMap.mpr ⟨b,hb,by rw[e];rfl⟩
def zM3 {p:qu×Obj}(hp:p∈zVO fp h):p.1∈fp/\h.get? p.1=some p.2:=by
 obtain⟨b,hb,e⟩:=List.mem_filterMap.mp hp;cases q:h.get? b with
 | none=>rw[q] at e;cases e
 | some o =>rw[q] at e;have e':=Ri e;subst e';exact⟨hb,q⟩
theorem Inv.pinned (I:!3)(hf:∀b∈fp,fV X Z H b)(ho:∀b∈fp,∃o,s.heap.get? b=some o/\∀v,o.data ≠ .cell v):Inv X (Z++zVO fp s.heap) U H s :=
 I.pins_of λp hp=>(v6 hp).elim (λz=>I.pin p<|Ws _ z) λz=>by obtain⟨hb,e⟩:=zM3 z;obtain⟨f0,f1,f2,_⟩:=hf p.1 hb;obtain⟨o,e',d⟩:=ho p.1 hb;rw[e] at e';cases e';exact⟨e,f0,f1,f2,d⟩
def Inv.unpinned {pl:jm}(I:Inv X (Z++pl) U H s):Inv X Z U H s:=I.pins_of λp hp=>I.pin p<|Ws _<|Oq _ hp
def zGz {wi:TI}{g:TG}{tb:TS}(hp:PassesOwn (!5) X.A X.env X.xe)(hc:!24)(hi:PI X tg iter wi)(hg:PG X tg g)(hb:PSs X body tb)(hs:∀x,foldedSetIterable iter X.env x=pure x:=by intro _;rfl):PS X (.For tg iter body [] pos)<|zDr wi g tb:=by
 refineλZ s U H D I h=>wpAny_For (thn (hi Z s U H _ I h) λv s1 h1=>thn h1 λitv s2 h2=>?_) hs;obtain⟨it,fp,tn,ya,H2,e,I2,T,st2,f2,W,⟨m0,w0⟩,turn⟩:=h2;subst e;have stat:∀ {H':Hp},(∀b∈fp,H' b=none)->∀b∈fp,fV X Z H' b:=λhn b hb=>⟨hn b hb,(f2 b hb).2⟩
 refine codeAny_forLoop_any (λn s'=>∃i U' H',Inv X Z U' H' s'/\tn i s'.heap/\(∀b∈fp,H' b=none)/\W i n U' H') ?_ m0 ⟨0,U,H2,I2,st2,λb hb=>(f2 b hb).1,w0⟩;rintro n s3 ⟨i,σ3,H3,I3,st3,fr3,w3⟩;rcases turn i n σ3 H3 w3 with⟨stop,qn⟩ | ⟨go,N,hN,step⟩
 .refine Ti hp (thn (T.done X J J J hc i Z s3 σ3 H3 X.xe I3 (stat fr3) st3 stop) λr s4 ⟨hr,I4⟩=>?_);subst hr;exact Yi ⟨σ3,H3,I4,qn⟩
 .refine Ti hp (thn (T.item X J J J hc i Z s3 σ3 H3 X.xe I3 (stat fr3) st3 go) λr s4 ⟨u,hr,h4⟩=>?_);subst hr;refine Ti hp<|thn h4 λ_ s5 ⟨x,H5,I5,r5,y5,st5,fr5⟩=>Ti hp<|thn (hg _ s5 σ3 H5 x u _ (I5.pinned (stat fr5)<|T.obj _ _ st5) r5<|step x H5 y5) λ_ s6 ⟨σ6,H6,I6,q6⟩=>Ti hp<|thn (hb _ s6 σ6 H6 _ I6 q6) λf s7 q7=>?_;have again:∀ {σ7:St} {H7:Hp},Inv X (Z++zVO fp _) σ7 H7 s7->N σ7 H7->∃m,m < n/\∃i U' H',Inv X Z U' H' s7/\tn i _/\(∀b∈fp,H' b=none)/\W i m U' H':=λ{σ7 H7} I7 n7=>by
   obtain⟨m',hm,w7⟩:=hN σ7 H7 n7;refine⟨m',hm,i+1,σ7,H7,I7.unpinned,T.keep _ _ _ st5 λb hb o e=>(I7.pin (b,o)<|Ws _<|Ws _<|iM hb e).1,λb hb=>?_,w7⟩;obtain⟨o,e,d⟩:=T.obj _ _ st5 b hb;exact(I7.pin (b,o)<|Ws _<|Ws _<|iM hb e).2.1
  cases f with
  | next=>obtain⟨σ7,H7,I7,n7⟩:=q7;exact again I7 n7
  | cont=>obtain⟨σ7,H7,I7,n7⟩:=q7;exact again I7 n7
  | brk=>obtain⟨σ7,H7,I7,q7⟩:=q7;exact⟨σ7,H7,I7.unpinned,q7⟩
  | ret v=>obtain⟨x7,σ7,H7,I7,r7,q7⟩:=q7;exact⟨x7,σ7,H7,I7.unpinned,r7,q7⟩
abbrev R2:=V->V->Hp->VK->Prop
def OpR (X:Cx)(f:qv->qv->Sem qv)(r:R2):Prop :=
 ∀(Z:jm) (s:qw) (U:St) (H:Hp) (x y:V) (v u:qv) (Q:VK),Inv X Z U H s->RelV x v->RelV y u->r x y H Q ->
  wpAny (!5) X.A (f v u) (EP X Z U Q) X.xe s
def UnR (X:Cx)(f:qv->Sem qv)(r:V->Hp->VK->Prop):Prop :=
 ∀(Z:jm) (s:qw) (U:St) (H:Hp) (x:V) (v:qv) (Q:VK),Inv X Z U H s->RelV x v->r x H Q ->
  wpAny (!5) X.A (f v) (EP X Z U Q) X.xe s
def CallR (X:Cx)(f:qv)(r:kj->Hp->VK->Prop):Prop :=
 ∀(Z:jm) (s:qw) (U:St) (H:Hp) (xs:kj) (us:jn) (Q:VK),Inv X Z U H s->Vals xs us->r xs H Q ->
  wpAny (!5) X.A (call f us) (EP X Z U Q) X.xe s
def zCO (X:Cx)(r:V->Hp->(Bool->Hp->Prop)->Prop):Prop :=
 ∀(Z:jm) (s:qw) (U:St) (H:Hp) (x:V) (v:qv) (Q:Bool->Hp->Prop),Inv X Z U H s->RelV x v->r x H Q ->
  wpAny (!5) X.A (truthy v) (TP X Z U Q) X.xe s
def tOp (r:R2)(ta tb:TE):TE:=λU H Q=>ta U H λx H1=>tb U H1 λy H2=>r x y H2 Q
def tUn (r:V->Hp->VK->Prop)(ta:TE):TE:=λU H Q=>ta U H λx H1=>r x H1 Q
def rI (C:Int->Int->Prop)(g:Int->Int->V):R2:=λx y H Q=>∃i j,x = .int i/\y = .int j/\C i j/\Q (g i j) H
def rI0 (g:Int->Int->V):R2:=λx y H Q=>∃i j,x = .int i/\y = .int j/\Q (g i j) H
def rU (g:Int->V):V->Hp->VK->Prop:=λx H Q=>∃i,x = .int i/\Q (g i) H
section
variable{a b:r8}
def zEL (ha:PE X a ta)(hb:PE X b tb){R:V->V->Hp->Prop}(I:!3)(h:ta U H λx H1=>tb U H1 λy H2=>R x y H2) {Q:jl}(hf:∀v u s2 x y H2,Inv X Z U H2 s2->RelV x v->RelV y u->R x y H2->wpAny (!5) X.A (f v u) Q X.xe s2):wpAny (!5) X.A (eval a X.env) (λv s₁=>wpAny (!5) X.A (eval b X.env) (λu s₂=>wpAny (!5) X.A (f v u) Q X.xe s₂) X.xe s₁) X.xe s:=by exact thn (ha Z s U H _ I h) λv s1 ⟨x,H1,I1,r1,q1⟩=>thn (hb Z s1 U H1 _ I1 q1) λu s2 ⟨y,H2,I2,r2,q2⟩=>hf v u s2 x y H2 I2 r1 r2 q2
def zYu {op:Operator}{r:R2}(ho:OpR X (binaryOp op) r)(ha:PE X a ta)(hb:PE X b tb):PE X (.BinOp a op b pos)<|tOp r ta tb:=by exactλZ s U H Q I h=>wpAny_BinOp<|zEL ha hb I h λv u s2 x y H2 I2 rx ry q=>ho Z s2 U H2 x y v u Q I2 rx ry q
def zE5 {op:UnaryOp}{r:V->Hp->VK->Prop}(ho:UnR X (unaryOp op) r)(ha:PE X a ta):PE X (.UnaryOp op a pos)<|tUn r ta:=by exactλZ s U H Q I h=>UnaryOp_<|thn (ha Z s U H _ I h) λv s1 ⟨x,H1,I1,r1,q1⟩=>ho Z s1 U H1 x v Q I1 r1 q1
def opI {C:Int->Int->Prop}(rule:∀(i j:Int) (t u:Tok) (s:qw) (Q:jl) (E:jl),C i j->Q (.int (g i j) s.toks) { s with toks:=s.toks+1 }->wpAny (!5) X.A (f (.int i t)<|.int j u) Q E s):OpR X f<|rI C λi j=>.int<|g i j:=by intro Z s U H x y v u Q I rx ry h;obtain⟨i,j,rfl,rfl,hc,q⟩:=h;obtain⟨t,rfl⟩:=rx;obtain⟨t',rfl⟩:=ry;exact rule i j t t' s _ _ hc ⟨.int _,H,I.tok _,⟨_,J⟩,q⟩
def zHr (rule:∀(i j:Int) (t u:Tok) (s:qw) (Q:jl) (E:jl),Q (.int (g i j) s.toks) { s with toks:=s.toks+1 }->wpAny (!5) X.A (f (.int i t)<|.int j u) Q E s):OpR X f<|rI0 λi j=>.int<|g i j:=by intro Z s U H x y v u Q I rx ry h;obtain⟨i,j,rfl,rfl,q⟩:=h;obtain⟨t,rfl⟩:=rx;obtain⟨t',rfl⟩:=ry;exact rule i j t t' s _ _ ⟨.int _,H,I.tok _,⟨_,J⟩,q⟩
def zFA {g:Int->Int->Bool}(rule:∀(i j:Int) (t u:Tok) (s:qw) (Q:jl) (E:jl),Q (.bool<|g i j) s->wpAny (!5) X.A (f (.int i t)<|.int j u) Q E s):OpR X f<|rI0 λi j=>.bl<|g i j:=by intro Z s U H x y v u Q I rx ry h;obtain⟨i,j,rfl,rfl,q⟩:=h;obtain⟨t,rfl⟩:=rx;obtain⟨t',rfl⟩:=ry;exact rule i j t t' s _ _ ⟨.bl _,H,I,J,q⟩
def zDj (i j:Int):Prop:=0 < j/\j < 1073741824
def zDC (i j:Int):Prop:=0<=j/\j<=1000000/\i.natAbs < 2^64
def CMul (i j:Int):Prop:=(-(2^64) < i/\i < 2^64)\/(-(2^64) < j/\j < 2^64)
def CMul.ok {i j:Int}(h:CMul i j):IntMulOk i j:=by
 rcases h with⟨h1,h2⟩ | ⟨h1,h2⟩
 .exact .of_left (intBits_le_64 h1 h2)
 .exact .of_right (intBits_le_64 h1 h2)
def zP6 (k:Nat):(0:Int)<=2^k:=by exact Int.natCast_nonneg _
def zLe:OpR X (binaryOp .Add)<|rI0 λi j=>.int<|i+j:=zHr λ_ _ _ _ _ _ _ q=>add_int q
def zFj:OpR X (binaryOp .Sub)<|rI0 λi j=>.int<|i - j:=zHr λ_ _ _ _ _ _ _ q=>sub_int q
def zFr:OpR X (binaryOp .Mult)<|rI CMul λi j=>.int<|i*j:=opI λ_ _ _ _ _ _ _ hc q=>mul_int q hc.ok
theorem zIX:OpR X (binaryOp .FloorDiv)<|rI zDj λi j=>.int<|i / j:=opI λi j _ _ _ _ _ hc q=>by have h1:=hc.1;have h2:=hc.2;exact floordiv_int jc (by rw[Ui i jc];exact q)<|.inl<|PyProof.noPylong_small jc
theorem zEY:OpR X (binaryOp .Mod)<|rI (λ_ j=>0 < j) λi j=>.int<|i % j:=opI λi j _ _ _ _ _ hc q=>by exact mod_int' jc (by rw[Int.fmod_eq_emod_of_nonneg i jc];exact q)
def zFl:OpR X (binaryOp .LShift)<|rI zDC λi j=>.int<|i*2^j.toNat:=opI λ_ _ _ _ _ _ _ hc q=>lshift_int_small hc.1 hc.2.1 hc.2.2 q
def zG0:OpR X (binaryOp .RShift)<|rI (λ_ j=>0<=j) λi j=>.int<|i / 2^j.toNat:=opI λi j _ _ _ _ _ hc q =>rshift_int hc (by rw[Ui i<|zP6 _];exact q)
def zFv:OpR X (binaryOp .BitAnd)<|rI0 λi j=>.int<|Builtin.bitAnd i j:=zHr λ_ _ _ _ _ _ _ q=>and_int q
def zFs:OpR X (binaryOp .BitXor)<|rI0 λi j=>.int<|Builtin.bitXor i j:=zHr λ_ _ _ _ _ _ _ q=>xor_int q
def unI {f:qv->Sem qv}{g:Int->Int}(rule:∀(i:Int) (t:Tok) (s:qw) (Q:jl) (E:jl),Q (.int (g i) s.toks) { s with toks:=s.toks+1 }->wpAny (!5) X.A (f<|.int i t) Q E s):UnR X f<|rU λi=>.int<|g i:=by intro Z s U H x v Q I rx h;obtain⟨i,rfl,q⟩:=h;obtain⟨t,rfl⟩:=rx;exact rule i t s _ _ ⟨.int _,H,I.tok _,⟨_,J⟩,q⟩
def zFI:UnR X (unaryOp .USub)<|rU λi=>.int (-i):=unI λ_ _ _ _ _ q=>neg_int q
def zFc:V->V->Bool
 | .non,.non=>true | .non,.int _=>true | .int _,.non=>true | .non,.bl _=>true | .bl _,.non=>true | .non,.str _=>true | .str _,.non=>true
 | .int _,.int _=>true | .bl _,.bl _=>true | .str _,.str _=>true | .byt _,.byt _=>true
 | .int _,.str _=>true | .str _,.int _=>true | .bl _,.str _=>true | .str _,.bl _=>true
 | _,_=>false
def rEq:R2:=λx y H Q=>zFc x y=true/\Q (.bl (decide (x=y))) H
def rNe:R2:=λx y H Q=>zFc x y=true/\Q (.bl (!decide (x=y))) H
def zOj {i j:Int}:decide (V.int i=V.int j)=(i==j):=by rw[To];simp
def zTA {i j:Bool}:decide (V.bl i=V.bl j)=(i==j):=by rw[To];simp
def zNQ {i j:Str}:decide (V.str i=V.str j)=(i==j):=by rw[To];simp
def zOn {i j:Array UInt8}:decide (V.byt i=V.byt j)=(i.toList==j.toList):=by rw[To];simp_all
variable{tc:TE}
def yH {Q:VK}{k k':Bool}(I:!3)(q:Q (.bl k) H)(e:k=k'):EP X Z U Q (.bool k') s:=by subst e;exact⟨.bl k,H,I,J,q⟩
def zDT:OpR X (compareOp .Eq) rEq:=by
 sleep 5
 obtain⟨hs,q⟩:=h;cases x with
 | non =>
  cases rx;cases y with
  | non=>cases ry;exact PySem.EqNone.eq_none_none<|yH I q rfl
  | bl j=>cases ry;exact PySem.EqNone.eq_none_bool<|yH I q rfl
  | int j=>obtain⟨t',rfl⟩:=ry;exact PySem.EqNone.eq_none_int<|yH I q rfl
  | str j=>obtain⟨t',rfl⟩:=ry;exact PySem.EqNone.eq_none_str<|yH I q rfl
  | _=>exact absurd (hs) Wz
 | bl i =>
  cases rx;cases y with
  | non=>cases ry;exact PySem.EqNone.eq_bool_none<|yH I q rfl
  | bl j=>cases ry;exact eq_bool<|yH I q zTA
  | str j=>obtain⟨t',rfl⟩:=ry;exact PySem.EqMixed.eq_bool_str<|yH I q rfl
  | _=>exact absurd (hs) Wz
 | int i =>
  obtain⟨t,rfl⟩:=rx;cases y with
  | non=>cases ry;exact PySem.EqNone.eq_int_none<|yH I q rfl
  | int j=>obtain⟨t',rfl⟩:=ry;exact eq_int<|yH I q zOj
  | str j=>obtain⟨t',rfl⟩:=ry;exact PySem.EqMixed.eq_int_str<|yH I q rfl
  | _=>exact absurd (hs) Wz
 | str i =>
  obtain⟨t,rfl⟩:=rx;cases y with
  | non=>cases ry;exact PySem.EqNone.eq_str_none<|yH I q rfl
  | bl j=>cases ry;exact PySem.EqMixed.eq_str_bool<|yH I q rfl
  | int j=>obtain⟨t',rfl⟩:=ry;exact PySem.EqMixed.eq_str_int<|yH I q rfl
  | str j=>obtain⟨t',rfl⟩:=ry;exact eq_str<|yH I q zNQ
  | _=>exact absurd (hs) Wz
 | byt i =>
  obtain⟨t,rfl⟩:=rx;cases y with
  | byt j=>obtain⟨t',rfl⟩:=ry;exact eq_bytes<|yH I q zOn
  | _=>exact absurd (hs) Wz
 | _=>cases y<;>exact absurd (show false=true from hs) Wz
def zDQ:OpR X (compareOp .NotEq) rNe:=by
 sleep 5
 obtain⟨hs,q⟩:=h;cases x with
 | non =>
  cases rx;cases y with
  | non=>cases ry;exact PySem.EqNone.ne_none_none<|yH I q rfl
  | bl j=>cases ry;exact PySem.EqNone.ne_none_bool<|yH I q rfl
  | int j=>obtain⟨t',rfl⟩:=ry;exact PySem.EqNone.ne_none_int<|yH I q rfl
  | str j=>obtain⟨t',rfl⟩:=ry;exact PySem.EqNone.ne_none_str<|yH I q rfl
  | _=>exact absurd (hs) Wz
 | bl i =>
  cases rx;cases y with
  | non=>cases ry;exact PySem.EqNone.ne_bool_none<|yH I q rfl
  | bl j=>cases ry;exact ne_bool<|yH I q<|Wa not zTA
  | str j=>obtain⟨t',rfl⟩:=ry;exact PySem.EqMixed.ne_bool_str<|yH I q rfl
  | _=>exact absurd (hs) Wz
 | int i =>
  obtain⟨t,rfl⟩:=rx;cases y with
  | non=>cases ry;exact PySem.EqNone.ne_int_none<|yH I q rfl
  | int j=>obtain⟨t',rfl⟩:=ry;exact ne_int<|yH I q<|Wa not zOj
  | str j=>obtain⟨t',rfl⟩:=ry;exact PySem.EqMixed.ne_int_str<|yH I q rfl
  | _=>exact absurd (hs) Wz
 | str i =>
  obtain⟨t,rfl⟩:=rx;cases y with
  | non=>cases ry;exact PySem.EqNone.ne_str_none<|yH I q rfl
  | bl j=>cases ry;exact PySem.EqMixed.ne_str_bool<|yH I q rfl
  | int j=>obtain⟨t',rfl⟩:=ry;exact PySem.EqMixed.ne_str_int<|yH I q rfl
  | str j=>obtain⟨t',rfl⟩:=ry;exact ne_str<|yH I q<|Wa not zNQ
  | _=>exact absurd (hs) Wz
 | byt i =>
  obtain⟨t,rfl⟩:=rx;cases y with
  | byt j=>obtain⟨t',rfl⟩:=ry;exact ne_bytes<|yH I q<|Wa not zOn
  | _=>exact absurd (hs) Wz
 | _=>cases y<;>exact absurd (show false=true from hs) Wz
def zDA:OpR X (compareOp .Lt)<|rI0 λi j=>.bl (decide (i < j)):=zFA λ_ _ _ _ _ _ _ q=>lt_int q
def zEo:OpR X (compareOp .LtE)<|rI0 λi j=>.bl (decide (i<=j)):=zFA λ_ _ _ _ _ _ _ q=>le_int q
def zEF:OpR X (compareOp .Gt)<|rI0 λi j=>.bl (decide (j < i)):=zFA λ_ _ _ _ _ _ _ q=>gt_int q
def zNI:OpR X (compareOp .Lt) (λx y H Q=>∃i j,x = .str i/\y = .str j/\Q (.bl (decide (i.cps.toList < j.cps.toList))) H):=by
 sleep 5
 obtain⟨i,j,rfl,rfl,q⟩:=h;obtain⟨t,rfl⟩:=rx;obtain⟨t',rfl⟩:=ry;exact lt_str<|yH I q rfl
def zGq:OpR X (compareOp .Is) λx y H Q=>y = .non/\Q (.bl (decide (x = .non))) H:=by
 sleep 5
 obtain⟨rfl,q⟩:=h;cases ry;refine is_none_gen<|yH I q ?_;cases x<;>first
  | (cases rx;rfl)
  | (obtain⟨t,rfl⟩:=rx;rfl)
def zIS:OpR X (compareOp .IsNot) λx y H Q=>y = .non/\Q (.bl (!decide (x = .non))) H:=by
 sleep 5
 obtain⟨rfl,q⟩:=h;cases ry;refine isnot_none_gen<|yH I q ?_;cases x<;>first
  | (cases rx;rfl)
  | (obtain⟨t,rfl⟩:=rx;rfl)
def OpR.or {r r':R2}(h:OpR X f r)(h':OpR X f r'):OpR X f λx y H Q=>r x y H Q\/r' x y H Q:=by
 intro Z s U H x y v u Q I rx ry q;rcases q with q | q
 .exact h Z s U H x y v u Q I rx ry q
 .exact h' Z s U H x y v u Q I rx ry q
def zV6 (b:r8)(h:op ≠ .In:=by decide)(h2:op ≠ .NotIn:=by decide):behindInMarks op b=false:=by
 have e1:(op==CmpOp.In)=false:=by cases op<;>first | rfl | exact absurd rfl h
 have e2:(op==CmpOp.NotIn)=false:=by cases op<;>first | rfl | exact absurd rfl h2
 cases b<;>simp[behindInMarks,e1,e2]
def zJc {r:R2}(ho:OpR X (compareOp op) r)(ha:PE X a ta)(hb:PE X b tb)(hm:behindInMarks op b=false):PE X (.Compare a [op] [b] pos)<|tOp r ta tb:=by exactλZ s U H Q I h=>wpAny_Compare1 (zEL ha hb I h λv u s2 x y H2 I2 rx ry q=>ho Z s2 U H2 x y v u Q I2 rx ry q) hm
def zEb (t:TE):TT:=λU H Q=>t U H λx H'=>∃k,x = .bl k/\Q k H'
def zPk {r:R2}(ho:OpR X (compareOp op) r)(ha:PE X a ta)(hb:PE X b tb)(hm:behindInMarks op b=false):PT X (.Compare a [op] [b] pos)<|zEb<|tOp r ta tb:=by
 intro Z s U H Q I h;refine wpAny_isTrue_Compare1 (thn (ha Z s U H _ I h) λv s1 ⟨x,H1,I1,r1,q1⟩=>thn (hb Z s1 U H1 _ I1 q1) λu s2 ⟨y,H2,I2,r2,q2⟩ =>thn (ho Z s2 U H2 x y v u _ I2 r1 r2 q2) λc s3 ⟨z,H3,I3,r3,k,e,q3⟩=>?_) hm
 subst e;cases r3;exact Ry ⟨H3,I3,q3⟩
def zEK (r r':R2)(ta tb tc:TE):TE:=λU H Q=>ta U H λx H1=>tb U H1 λy H2=>r x y H2 λz H3=>∃k,z = .bl k /\
 (if k=true then tc U H3 λw' H4=>r' y w' H4 Q else Q (.bl false) H3)
def zKP {op':CmpOp}{r r':R2}(ho:OpR X (compareOp op) r)(ho':OpR X (compareOp op') r')(ha:PE X a ta)(hb:PE X b tb)(hc:PE X c tc)(hm:lastMarks [op,op'] [b,c]=false:=by with_unfolding_all rfl):PE X (.Compare a [op,op'] [b,c] pos)<|zEK r r' ta tb tc:=by
 intro Z s U H Q I h;refine Compare_chain (thn (ha Z s U H _ I h) λv s1 ⟨x,H1,I1,r1,q1⟩=>chain_link<|thn (hb Z s1 U H1 _ I1 q1) λu s2 ⟨y,H2,I2,r2,q2⟩ =>thn (ho Z s2 U H2 x y v u _ I2 r1 r2 q2) λd s3 ⟨z,H3,I3,r3,k,e,q3⟩=>?_) hm
 subst e;cases r3;refine Ry ?_;cases k with
 | false=>exact ite_ff ⟨.bl false,H3,I3,J,q3⟩
 | true=>exact ite_tt<|chain_last<|thn (hc Z s3 U H3 _ I3 q3) λw' s4 ⟨z',H4,I4,r4,q4⟩=>ho' Z s4 U H4 y z' u w' Q I4 r2 r4 q4
def zDX (K:jk)(x:V)(H:Hp)(k:Bool):Prop :=
 match x with
 | .non=>k=false
 | .bl b=>k=b
 | .int i=>k=(i != 0)
 | .str y=>y.length<=sizeLine/\k=((y.length:Int) != 0)
 | .byt y=>y.size<=sizeLine/\k=((y.size:Int) != 0)
 | .ref p=>(∃xs,SqL K H p xs/\k = !xs.isEmpty)\/(∃xs,SqT K H p xs/\k = !xs.isEmpty)\/∃j8,H p=some (.dK j8)/\k = !j8.isEmpty
 | _=>False
def zQp {j8:List<|κ×V}{vs:List<|κ×qv}(r:KV j8 vs):(!vs.isEmpty) = !j8.isEmpty:=by cases r<;>rfl
def zVW (r:Vals xs j6):(!j6.toArray.isEmpty) = !xs.isEmpty:=by cases r<;>simp
def zVH:(sizeLine:Nat) < 2^63:=by rw[Wf];decide
def zF9:zCO X (λx H Q=>∃k,zDX X.K x H k/\Q k H):=by
 intro Z s U H x v Q I rx h;obtain⟨k,e,q⟩:=h;have hs:=Wf;cases x with
 | non =>cases rx;have e':=e;subst e';exact truthy_none ⟨H,I,q⟩
 | bl b =>cases rx;have e':=e;subst e';exact Ry ⟨H,I,q⟩
 | int i =>obtain⟨t,rfl⟩:=rx;have e':=e;subst e';exact PySem.P.truthy_int ⟨H,I,q⟩
 | str y =>obtain⟨t,rfl⟩:=rx;obtain⟨hy,e'⟩:=e;subst e';exact PySem.P.truthy_str jc ⟨H,I.tok _,q⟩
 | byt y =>obtain⟨t,rfl⟩:=rx;obtain⟨hy,e'⟩:=e;subst e';exact truthy_bytes jc ⟨H,I.tok _,q⟩
 | ref p =>
  cases rx;have e':=e;rcases e' with⟨xs,hx,e'⟩ | ⟨xs,hx,e'⟩ | ⟨j8,hx,e'⟩
  .subst e';obtain⟨j6,r,pl,hz⟩:=I.list hx;have j5:=r.length;exact wpAny_truthy_list pl.isList (by simp only[Qd];lia) ⟨H,I.tok _,by rw[zVW r];exact q⟩
  .subst e';obtain⟨j6,r,pl,hz⟩:=I.tuple hx;have j5:=r.length;exact truthy_tuple pl (by simp only[Qd];lia) ⟨H,I.tok _,by rw[zVW r];exact q⟩
  .subst e';obtain⟨hz,hS,vs,r,m⟩:=I.hok p _ hx;have j5:=Rv r;exact wpAny_truthy_dict hS m jc ⟨H,I.tok _,by rw[zQp r];exact q⟩
 | _=>exact(e).elim
def zLd (ha:PE X a ta)(he:∀whole,isTrue a X.env whole=(do let v ←whole;standAt a.pos;holding [v] (truthy v))) :
  PT X a (λU H Q=>ta U H λx H'=>∃k,zDX X.K x H' k/\Q k H'):=by
 exactλZ s U H Q I h=>isTrue_plain (thn (ha Z s U H _ I h) λv s1 ⟨x,H1,I1,r1,q1⟩=>zF9 Z s1 U H1 x v Q I1 r1 q1)<|he _
def zQf:OpR X (binaryOp .Add) (λx y H Q=>∃i j,x = .str i/\y = .str j/\i.length+j.length<=sizeLine/\Q (.str<|i++j) H):=by
 sleep 5
 obtain⟨i,j,rfl,rfl,hz,q⟩:=h;obtain⟨t,rfl⟩:=rx;obtain⟨t',rfl⟩:=ry;exact add_str (λt' tk=>⟨.str _,H,I.tok _,⟨_,J⟩,q⟩) hz
def nH {x:V}(r:Vals [x] us):∃u,us=[u]/\RelV x u:=by
 cases r with
 | cons r1 r2=>cases r2;exact⟨_,J,r1⟩
def zO5 {x:V}(r:Vals [x,y] us):∃u w',us=[u,w']/\RelV x u/\RelV y w':=by
 cases r with
 | cons r1 r2 =>
  cases r2 with
  | cons r3 r4=>cases r4;exact⟨_,_,J,r1,r3⟩
def zNA (hc:!24):CallR X (.builtin "max") (λxs H Q=>∃i j,xs=[.int i,.int j]/\Q (.int<|if j > i then j else i) H):=by
 intro Z s U H xs us Q I r h;obtain⟨i,j,rfl,q⟩:=h;obtain⟨u,w',rfl,⟨t,rfl⟩,⟨t',rfl⟩⟩:=zO5 r;refine max_two_ints (I.ok.hd hc) λh' tk k=>⟨_,H,I.kept k,?_,q⟩
 by_cases hj:j > i
 .rw[Qg hj,Qg hj];exact⟨_,J⟩
 .rw[Qc hj,Qc hj];exact⟨_,J⟩
def zME:CallR X (.type "int") (λxs H Q=>(∃i,xs=[.int i]/\Q (.int i) H)\/∃k,xs=[.bl k]/\Q (.int<|if k then 1 else 0) H):=by
 intro Z s U H xs us Q I r h;rcases h with⟨i,rfl,q⟩ | ⟨k,rfl,q⟩
 .obtain⟨u,rfl,t,rfl⟩:=nH r;exact call_int_int ⟨.int i,H,I,⟨_,J⟩,q⟩
 .obtain⟨u,rfl,r1⟩:=nH r;cases r1;exact call_int_bool ⟨.int _,H,I.tok _,⟨_,J⟩,q⟩
end
structure ObjM (h:qx)(x dx C:qu)(mA:Str->km):Prop where
 obj:h.get? x=some (instObj C dx)
 ns:h.Ns1 dx mA
 ne:dx≠x
def zN8 (n:h.Ns1 dx mA):∃od,h.get? dx=some od/\∀name,lookIn name od=some (mA name):=by
 obtain⟨o,es,ep,ho,hd,hk,_,hm⟩:=n;refine⟨o,ho,λname=>?_⟩;have e:=hm name;unfold nsFind findBy at e;rw[<-Od] at e;unfold lookIn;rw[hd];dsimp only;split
 .simp_all
 .rename_i q;have a:es.toList.any (·.refKey)=false:=by
   rw[List.any_eq_false];intro y hy;obtain⟨z,t,hkey⟩:=hk y<|Array.mem_toList_iff.mp hy;simp[DictEntry.refKey,hkey]
  simp_all
def ObjM.look {x:qu}(I:ObjM h x dx C mA):∃od,InstAt h x (instObj C dx) C (some od)/\∀name,lookIn name od=some (mA name) :=
 let ⟨od,ho,hl⟩:=zN8 I.ns
 ⟨od,⟨I.obj,rfl,rfl,ho⟩,hl⟩
section
variable{x f:qu}{v:qv}
def zIU {expr:Bool}{Q:jl}(X:K.In s.heap)(I:ObjM s.heap x dx C mA)(hg:plainGet K C name=true)(hh:hasDictIn K C=true)(ha:PySem.W.findIn K (!1) name=some none) (hv:mA name=some v) (hv':handedIn v=true) (h:Q v { s with toks:=s.toks+1 }):wpAny (!8) A (getAttr (.ref x) name expr) Q E s:=by obtain⟨od,ya,hl⟩:=I.look;exact get_value X ya (Oy hg).1 (findObj_own hh ha J (!9)) hv' h
def zMj {Q:qv×qh->qw->Prop}(X:K.In s.heap)(I:ObjM s.heap x dx C mA)(hg:plainGet K C name=true)(hf:PySem.W.findIn K (!1) name=some (some<|.ref f)) (ht:isFn K (.ref f)=true) (hv:mA name=none) (h:Q (.ref f,[.ref x]) s):wpAny (!8) A (getMethod (.ref x) name pl) Q E s:=by obtain⟨od,ya,hl⟩:=I.look;exact method_fn X ya (Oy hg).1 (Oy hg).2 hf (Ym.mp ht) (by show(lookIn name od).map _=some false;rw[hl,hv];rfl) h
def zH1 (X:K.In s.heap)(I:ObjM s.heap x dx C mA)(hs:PySem.W.findIn K (!1) "__setattr__"=some (some<|.builtin "object.__setattr__")) (hp:plainOver K C=true) (ht:takerIn K C name=some none) (hh:hasDictIn K C=true)(hw:PySem.Within mA ns) (hsz:ns.length<=sizeLine)(h:∀h',ObjM h' x dx C (λy=>if y=name then some v else mA y)->Heap.SameBut dx s.heap h'->Q () { s with heap:=h',toks:=s.toks+2 }):wpAny (!8) A (setAttr (.ref x) name v) Q E s:=by obtain⟨od,ya,hl⟩:=I.look;refine set_plain X ya hs<|osa_open X ya hp ht λb=>?_;obtain⟨cd,hc,hd'⟩:=any_some hh;refine Qw<|Qo<|Qw<|Qw<|Pc I.obj<|Qw<|PySem.W.Looks.here (looks_clsIn X hc) ?_;rw[hd'];refine Qo<|Qw<|Qo<|Qw<|wpAny_nsSet1 I.ns λh' hn2 hs2=>?_;obtain⟨oD,esD,epD,hoD,hdD,hcD⟩:=hn2.count<|PySem.Within.cons name v hw;exact Qw<|wpAny_lookBehind hoD (by rw[hdD];exact pastItsLine_dict<|Wq hcD (!9))<|Qo<|h _ ⟨(hs2.2 _<|Ne.symm I.ne).trans I.obj,hn2,I.ne⟩ hs2
def zJi {vs:jn}(X:K.In s.heap)(hm:makesIn K C=true)(hi:PySem.W.findIn K (!1) "__init__"=some (some<|.ref f)) (hf:typeIn K (.ref f)=some (.type "function"))(h:codeAny (!8) (A.under<|.builtin "type.__call__" ⟨.ref C::vs,kw⟩) (.call (.ref f) ⟨.ref (s.heap.objs.size+1)::vs,kw⟩) (InitBack (s.heap.objs.size+1) R) {s with heap:=(s.heap.push emptyDict).push (instObj C s.heap.objs.size) }):codeAny (!8) A (.call (!1) ⟨vs,kw⟩) R s:=make_core (makes_of X hm) (PySem.W.looks_findIn X hi) (λself=>bind_fn X self hf) (.inl J) h
end
def nN (f:Str)(v:V):qr->qr
 | []=>[(f,v)]
 | (g,x)::r=>if g=f then(g,v)::r else(g,x)::nN f v r
theorem zYl (f g:Str)(v:V):∀fs:qr,(nN f v fs).lookup g=if g=f then some v else fs.lookup g
 | []=>by
  show List.lookup g [_]=_
  by_cases h:g=f
  .simp_all
  .simp_all
 | (k,x)::r=>by
  rw[show nN f v _=(if k=f then _::r else _::nN f v r) from rfl]
  by_cases hk:k=f
  .rw[Qg hk]
   by_cases h:g=k
   .simp_all
   .have hb:=Rb.mpr h;simp only[List.lookup,hb,Qc λe:g=f=>h<|e.trans hk.symm]
  .rw[Qc hk]
   by_cases h:g=k
   .simp_all
   .have hb:=Rb.mpr h;simp only[List.lookup,hb];exact(zYl f g v r)
theorem zZi (f:Str)(v:V):∀fs:qr,f∈(nN f v fs).map (·.1)/\∀g,g∈fs.map (·.1)->g∈(nN f v fs).map (·.1)
 | []=>⟨by simp[nN],λg h=>by simp at h⟩
 | (k,x)::r=>by
  obtain⟨i1,i2⟩:=zZi f v r;rw[show nN f v _=(if k=f then _::r else _::nN f v r) from rfl]
  grind
theorem zYb (f:Str)(v:V):∀fs:qr,(nN f v fs).length<=fs.length+1
 | []=>by simp[nN]
 | (k,x)::r=>by
  have ih:=zYb f v r;rw[show nN f v _=(if k=f then _::r else _::nN f v r) from rfl]
  by_cases hk:k=f
  .simp_all
  .simp_all
def RelO.some_of (r:RelO (some v) o):∃u,o=some u/\RelV v u:=by
 cases o with
 | none=>exact(r).elim
 | some u=>exact⟨u,J,r⟩
def RelO.none_of (r:RelO none o):o=none:=by
 cases o with
 | none=>rfl
 | some u=>exact(r).elim
def zMC (r:RelV v u):handedIn u=true:=by
 cases v with
 | non=>cases (r);rfl
 | bl b=>cases (r);rfl
 | int i=>obtain⟨t,e⟩:=(r);cases e;rfl
 | str x=>obtain⟨t,e⟩:=(r);cases e;rfl
 | byt b=>obtain⟨t,e⟩:=(r);cases e;rfl
 | flt b=>obtain⟨t,e⟩:=(r);cases e;rfl
 | ref a=>cases (r);rfl
 | ty n=>cases (r);rfl
section
variable{fs:qr}
def zTh (hok:HOk P w H h)(e:H a=some (.ins C dx fs)):∃mA,ObjM h a dx C mA/\(∀f,RelO (fs.lookup f)<|mA f)/\PySem.Within mA (fs.map (·.1))/\fs.length<=1000/\H dx=some (.own a):=by
 obtain⟨d,z,ne,ob,mA,n,r,q⟩:=(hok a _ e)
 exact⟨mA,⟨ob,n,ne⟩,r,q,z,d⟩
end
structure Cls (K:jk)(C:qu):Prop where
 pg:plainGet K C Str.empty=true
 hd:hasDictIn K C=true
 po:plainOver K C=true
 sa:PySem.W.findIn K (!1) "__setattr__"=some (some<|.builtin "object.__setattr__")
def Cls.get (c:Cls K C)(f:Str):plainGet K C f=true:=c.pg
def NoAttr (K:jk)(C:qu)(f:Str):Prop:=PySem.W.findIn K (!1) f=some none
def NoAttr.taker {f:Str}(n:NoAttr K C f):takerIn K C f=some none:=by unfold takerIn;rw[show PySem.W.findIn K _ f=some none from n];rfl
structure Con (K:jk)(C:qu)(f:Str)(v:V)(u:qv):Prop where
 at_:PySem.W.findIn K (!1) f=some (some u)
 rel:RelV v u
 get:specialIn K u "__get__"=some none
 cp:copiedNames.contains f=false
structure Meth (K:jk)(C:qu)(m:Str)(f:qu):Prop where
 at_:PySem.W.findIn K (!1) m=some (some<|.ref f)
 fn:isFn K (.ref f)=true
 kp:keepIn K (.ref f)=true
section
variable{fs:qr}{f:Str}
def zP2 {b:Bool}{Q:jl}(I:!3)(e:H a=some (.ins C dx fs))(c:Cls X.K C)(n:NoAttr X.K C f)(l:fs.lookup f=some v)(h:∀u s',Inv X Z U H s'->RelV v u->Q u s'):wpAny (!5) A (getAttr (.ref a) f b) Q E s:=by obtain⟨mA,O99,r,_⟩:=zTh I.hok e;obtain⟨u,hu,ru⟩:=RelO.some_of (by rw[<-l];exact r f);exact zIU I.kIn O99 (c.get f) c.hd n hu (zMC ru)<|h u _ (I.tok _) ru
def bR {g:qu}{Q:qv×qh->qw->Prop}(I:!3)(e:H a=some (.ins C dx fs))(c:Cls X.K C)(k:Meth X.K C m g)(l:fs.lookup m=none)(h:Q (.ref g,[.ref a]) s):wpAny (!5) A (getMethod (.ref a) m pl) Q E s:=by obtain⟨mA,O99,r,_⟩:=zTh I.hok e;exact zMj I.kIn O99 (c.get m) k.at_ k.fn (RelO.none_of (by rw[<-l];exact r m)) h
def zQC (I:!3)(e:H a=some (.ins C dx fs))(c:Cls X.K C)(n:NoAttr X.K C f)(hl:fs.length < 1000)(ry:RelV y u)(h:∀s',Inv X Z U (upd H a<|.ins C dx<|nN f y fs) s'->Q () s'):wpAny (!5) A (setAttr (.ref a) f u) Q E s:=by
 obtain⟨mA,O99,r,wi,_,ho⟩:=zTh I.hok e;have hz:(fs.map (·.1)).length<=sizeLine:=by rw[Qy,Wf];lia
 refine zH1 I.kIn O99 c.sa c.po n.taker c.hd wi hz λh' O99' sb=>h _ ?_;have hd:∃o,h'.get? dx=some o:=let ⟨o,_,_,e',_⟩:=O99'.ns;⟨o,e'⟩;refine I.write (by rw[e];exact True.intro) (.inr ho) (λb q hb z=>(sb.2 b hb).trans z) hd ⟨by rw[zG O99.ne];exact ho,?_,O99.ne,O99'.obj,_,O99'.ns,λg=>?_,λg hg=>?_⟩
 .have:=zYb f y fs;lia
 .show RelO _ _;rw[zYl]
  by_cases q:g=f
  .rw[Qg q,Qg q];exact ry
  .simp_all
 .by_cases q:g=f
  .rw[q];exact(zZi f y fs).1
  .refine(zZi f y fs).2 g (wi g λz=>hg ?_);simp_all
def Inv.made (I:!3):Inv X Z U (upd (upd H s.heap.objs.size<|.own<|s.heap.objs.size+1) (s.heap.objs.size+1)<|.ins C s.heap.objs.size []) {s with heap:=(s.heap.push emptyDict).push (instObj C s.heap.objs.size) }:=by
 have e1:(s.heap.push emptyDict).get? _=some _:=Qa _ J;have e2:=by have:=Qa (s.heap.push emptyDict) (o:=instObj C s.heap.objs.size) J;rwa[Rr] at this
 have e3:(s.heap.push _).Ns _ _:=⟨emptyDict,#[],_,e1,J,(λe he=>absurd he je),λ_=>rfl⟩
 refine(I.laid (o:=.own<|_+1) (t':=s.toks) (λb u q=>Qe _ q) (Qh _) ⟨_,e1⟩).laid (λb u q=>Qe _ q) (Ob<|Rr _ _) ?_;have ne:s.heap.objs.size≠_+1:=Qn<|Pr _;refine⟨by rw[zG ne,zN],Wm _,ne,e2,λ_=>none,(Heap.Ns1.of_empty e3).at λo q=>Qe _ q,λ_=>True.intro,λy hy=>absurd J hy⟩
def zHR {f:Str}{Q:jl}(hb:attributeBase e f env (eval e env)=eval e env)(h:wpAny (!8) A (eval e env) (λo s₁=>wpAny (!8) A (getAttr o f true) Q E s₁) E s):wpAny (!8) A (eval (.Attribute e f pos) env) Q E s :=
 Attribute_any_ h (by rw[arm_eval_Attribute,hb])
end
def zDh (K:jk)(ta:TE)(f:Str):TE:=λU H Q=>ta U H λx H1=>∃a C dx fs v,x = .ref a/\H1 a=some (.ins C dx fs)/\Cls K C/\NoAttr K C f/\fs.lookup f=some v/\Q v H1
def zDf (K:jk)(ta tv:TE)(f:Str):TS:=λD U H=>tv U H λy H1=>ta U H1 λx H2=>∃a C dx fs,x = .ref a/\H2 a=some (.ins C dx fs)/\Cls K C/\NoAttr K C f/\fs.length < 1000 /\
 D.nx U (upd H2 a<|.ins C dx<|nN f y fs)
section
variable{o:r8}{f:Str}{tv:TE}
def zVV (he:PE X e ta)(hb:attributeBase e f X.env (eval e X.env)=eval e X.env):PE X (.Attribute e f pos)<|zDh X.K ta f:=by refineλZ s U H Q I h=>zHR hb<|thn (he Z s U H _ I h) λu s1 ⟨x,H1,I1,rx,a,C,dx,fs,v,ex,ea,c,n,l,q⟩=>?_;subst ex;obtain rfl:=rx;exact zP2 I1 ea c n l λu' s2 I2 ru=>⟨v,H1,I2,ru,q⟩
def zYK (ha:PE X o ta)(hv:PE X value tv)(hs:swapsWith value (some<|.Attribute o f pos') pos.line X.env=pure false):PS X (.Assign [.Attribute o f pos'] value pos)<|zDf X.K ta tv f:=by refineλZ s U H D I h=>plainObj_wpAny_Assign_Attribute (thn (hv Z s U H _ I h) λu s1 ⟨y,H1,I1,ry,q⟩=>thn (ha Z s1 U H1 _ I1 q) λov s2 ⟨x,H2,I2,rx,a,C,dx,fs,ex,ea,c,n,l,q2⟩=>?_) hs;subst ex;obtain rfl:=rx;exact zQC I2 ea c n l ry λs3 I3=>⟨U,_,I3,q2⟩
inductive TyOf (K:jk)(H:Hp):V->qv->Prop where
 | non:TyOf K H .non (.type "NoneType")
 | bl (x:Bool):TyOf K H (.bl x) (.type "bool")
 | int (i:Int):TyOf K H (.int i) (.type "int")
 | str (x:Str):TyOf K H (.str x) (.type "str")
 | flt (x:UInt64):TyOf K H (.flt x) (.type "float")
 | lst {a:qu} {xs:kj} (e:H a=some (.lst xs)):TyOf K H (.ref a) (.type "list")
 | frz {a:qu} {o:Obj} {xs:kj} (e:H a=some (.frz o (.lst xs))):TyOf K H (.ref a) (.type "list")
 | tup {a:qu} {xs:kj} (e:H a=some (.tup xs)):TyOf K H (.ref a) (.type "tuple")
 | dK {a:qu} {j8:List (Key×V)} (e:H a=some (.dK j8)):TyOf K H (.ref a) (.type "dict")
 | dT {a:qu} {j8:List (qj×V)} (e:H a=some (.dT j8)):TyOf K H (.ref a) (.type "dict")
 | ins {a C dx:qu} {fs:qr} (e:H a=some (.ins C dx fs)) (cl:Cls K C) (ha:PySem.W.findIn K (!1) "__class__"=some (some (.builtin "object.__class__")))
   (hn:specialIn K (.builtin "object.__class__") "__get__"=some (some<|.builtin "getset_descriptor.__get__")) (htk:takesIn K (.builtin "object.__class__")=some true)
   (hm:mroIn K C (.type "object")=some true):TyOf K H (.ref a) (!1)
end
structure Room (k:Nat)(A:qy):Prop where
 hd:A.handled=none
 dp:A.depth+3*k+5 < recursionLimit
 un:A.units+16*k+200 < cLine
theorem Room.mono {k:Nat}(r:Room k A)(h:j<=k):Room j A:=⟨r.hd,by have:=r.dp;lia,by have:=r.un;lia⟩
theorem Room.deeper {k:Nat}{A:qy}(r:Room (k+1) A)(env:Env):Room k (A.deeper env) :=
 ⟨r.hd,by have:=r.dp;show _+1+3*k+5 < _;lia,by have:=r.un;show _+3+16*k+200 < _;lia⟩
theorem Room.in1 {k:Nat}{A:qy}(r:Room (k+1) A):Room k A.in1 :=
 ⟨r.hd,by have:=r.dp;show A.depth+3*k+5 < _;lia,by have:=r.un;show _+1+16*k+200 < _;lia⟩
def zQe:(A.under<|.builtin "type.__call__" ⟨.ref C::us,kw⟩).depth=A.depth+1:=rfl
def zPv:(A.under<|.builtin "type.__call__" ⟨.ref C::us,kw⟩).units=A.units+1:=rfl
theorem Room.make {k:Nat}(r:Room (k+1) A)(C:qu)(us:jn)(kw:List<|Str×qv):Room k (A.under<|.builtin "type.__call__" ⟨.ref C::us,kw⟩) :=
 ⟨r.hd,by have:=r.dp;rw[zQe];lia,by have:=r.un;rw[zPv];lia⟩
def Room.depth {k:Nat}{A:qy}(r:Room k A):A.depth < recursionLimit:=by have:=r.dp;lia
def Room.units {k:Nat}{A:qy}(r:Room k A):A.units+64 < cLine:=by have:=r.un;lia
def Room.units0 {k:Nat}(r:Room k A):A.units < cLine:=by have:=r.un;lia
def zV1:TA:=λ_ H Q=>Q [] H
def fA (ta:TE)(tr:TA):TA:=λU H Q=>ta U H λx H1=>tr U H1 λxs H2=>Q (x::xs) H2
section
variable{t:TA}
def yK:PA X [] zV1:=λ_ _ _ _ H Q I h=>Calls.spliced_nil ⟨[],H,I,.nil,h⟩
def yX (ha:PE X e te)(hr:PA X es t)(hs:!23:=by rfl):PA X (e::es)<|fA te t:=by intro pos Z s U H Q I h;rw[hs];exact Calls.spliced_cons<|thn (ha Z s U H _ I h) λu s1 ⟨x,H1,I1,r1,q1⟩=>thn (hr pos Z s1 U H1 _ I1 q1) λus s2 ⟨xs,H2,I2,r2,q2⟩=>⟨x::xs,H2,I2,.cons r1 r2,q2⟩
def zCI (t:TA):TE:=λU H Q=>t U H λxs H1=>xs.length<=sizeLine/\∀p,H1 p=none->Q (.ref p) (upd H1 p<|.tup xs)
def zCL (t:TA):TE:=λU H Q=>t U H λxs H1=>xs.length<=sizeLine/\∀p,H1 p=none->Q (.ref p) (upd H1 p<|.lst xs)
def zQ2 {x1}(h:PA X es t):PE X (.Tuple es x1 pos)<|zCI t:=by refineλZ s U H Q I hq=>wpAny_Tuple_spliced<|thn (h pos Z s U H _ I hq) λus s1 ⟨xs,H1,I1,r,z,q⟩=>⟨by rw[<-r.length];exact z,⟨.ref s1.heap.objs.size,upd H1 _ _,I1.laid (λb u e=>Qe _ e) (Qh _) ?_,J,q _<|I1.hok.fresh<|Qh _⟩⟩;exact⟨z,us,r,⟨_,Qa _ J,J,_,J⟩⟩
def zJZ (h:PA X es t):PE X (.List es pos)<|zCL t:=by refineλZ s U H Q I hq=>wpAny_List_spliced<|thn (h pos Z s U H _ I hq) λus s1 ⟨xs,H1,I1,r,z,q⟩=>⟨by rw[<-r.length];exact z,⟨.ref s1.heap.objs.size,upd H1 _ _,I1.laid (λb u e=>Qe _ e) (Qh _) ?_,J,q _<|I1.hok.fresh<|Qh _⟩⟩;exact⟨z,us,0,r,Qa _ J⟩
end
abbrev Sp:=kj->Hp->VK->XK->Prop
abbrev CXT:=qb->Hp->qw->XK->qv->qw->Prop
end L2
variable{o:ql}{Q:VK}{t:TA}{l f:qu}{wi:TI}{CX:CXT}{sp:Sp}
namespace L2
structure Env0 (P:Program)(w:qz)(K:jk)(mg:Str->km)(base:qx)(A:qy)(outer:qb)(s:qw)(H:Hp):Prop where
 frames:A.frames=some outer
 mod:Mod K mg base
 bs:∀b o,base.get? b=some o->s.heap.get? b=some o/\H b=none
 bsz:base.objs.size<=s.heap.objs.size
 funs:s.heap.FunFrames base outer
 frf:∀b∈frs outer,H b=none
 hok:HOk P w H s.heap
 bare:AllBare s.gens
def CE (outer:qb)(P:Program)(w:qz)(H:Hp)(s:qw)(Q:VK)(u:qv)(s':qw):Prop :=
 ∃v H',s'.os=s.os/\AllBare s'.gens/\Un (frs outer) [] H H' s.heap s'.heap/\HOk P w H' s'.heap/\RelV v u/\Q v H'
def CR (CX:CXT)(outer:qb)(P:Program)(w:qz)(H:Hp)(s:qw)(Q:VK)(E:XK)(r:Result)(s':qw):Prop :=
 match r with
 | .ok (.ret u)=>CE outer P w H s Q u s'
 | .ok _=>False
 | .error e=>CX outer H s E e s'
structure FnOk (P:Program)(w:qz)(K:jk)(mg:Str->km)(base:qx)(CX:CXT)(k:Nat)(f:qu)(fd:FuncData)(ps:kg)(sp:Sp):Prop where
 len:∀vs H Q E,sp vs H Q E->vs.length=ps.length
 run:∀(A:qy) (outer:qb) (s:qw) (H:Hp) (args:Args) (us:jn) (vs:kj) (Q:VK) (E:XK),Room k A->Env0 P w K mg base A outer s H->BindsTo s fd args (ps.zip us)->Vals vs us->sp vs H Q E ->
  codeAny (model P w) A (.call (.ref f) args) (CR CX outer P w H s Q E) s
def Env0.make (e:Env0 P w K mg base A outer s H)(C:qu)(us:jn)(kw:List<|Str×qv):Env0 P w K mg base (A.under<|.builtin "type.__call__" ⟨.ref C::us,kw⟩) outer s H:=⟨by first | exact e.frames | (simpa [Around.under] using _),e.mod,e.bs,e.bsz,e.funs,e.frf,e.hok,e.bare⟩
def Env0.in1 {P:Program}{w:qz}{K:jk}{mg:Str->km}{base:qx}{A:qy}{outer:qb}{s:qw}{H:Hp}(e:Env0 P w K mg base A outer s H):Env0 P w K mg base A.in1 outer s H:=⟨e.frames,e.mod,e.bs,e.bsz,e.funs,e.frf,e.hok,e.bare⟩
def Inv.env0 (I:!3):Env0 X.prog X.w X.K X.mg X.base X.A X.stack s H :=
 ⟨I.ok.frames,I.ok.mod,I.bs,Wq I.ok.bsz I.sz,I.stack,I.stkFree,I.hok,I.bare⟩
def Inv.after (I:!3)(h:CE X.stack X.prog X.w H s Q u s'):EP X Z U Q u s':=by obtain⟨v,H',os,bare,un,hok,r,q⟩:=h;obtain⟨hh,g⟩:=s';obtain rfl:=os;exact⟨v,H',I.call un hok bare λb z=>absurd z je,r,q⟩
def zEz (sp:Sp)(dvs:kj)(E:XK)(t:TA):TE:=λU H Q=>t U H λvs H1=>sp (vs++dvs) H1 Q E
def zGS (C:qu)(m:Str)(sp:Sp)(dvs:kj)(E:XK)(ta:TE)(t:TA):TE:=λU H Q=>ta U H λx H1=>∃a dx fs,x = .ref a/\H1 a=some (.ins C dx fs)/\fs.lookup m=none /\
 t U H1 λvs H2=>sp (x::(vs++dvs)) H2 Q E
def zD5 (C:qu)(sp:Sp)(dvs:kj)(E:XK)(t:TA):TE:=λU H Q=>t U H λvs H1=>∀x dx,H1 x=none->H1 dx=none->dx≠x ->
 sp (.ref x::(vs++dvs)) (upd (upd H1 dx<|.own x) x<|.ins C dx []) (λv H2=>v = .non/\Q (.ref x) H2) E
def Binds (K:jk)(fd:FuncData)(ps:kg)(ds:jn):Prop :=
 ∀(s:qw) (us:jn),K.In s.heap->(us++ds).length=ps.length->BindsTo s fd ⟨us,[]⟩ (ps.zip<|us++ds)
def Binds.all (h:∀us:qh,us.length=ps.length->bindArgs fd ⟨us,[]⟩=pure (ps.zip us)):Binds K fd ps []:=λs us _ hl=>by rw[Wo] at hl ⊢;exact .of_eq<|h us hl
def oZ (CX:CXT)(X:Cx)(E:XK):Prop:=∀(Z:jm) (U:St) (H:Hp) (s:qw) (e:qv) (s':qw),Inv X Z U H s->CX X.stack H s E e s'->X.xe e s'
section
variable{k:Nat}{dvs:kj}{ds:jn}{E:XK}{o:r8}
def zPz (F:FnOk X.prog X.w X.K X.mg X.base CX k f fd ps sp)(hr:Room k X.A)(hb:Binds X.K fd ps ds)(hd:Vals dvs ds)(hx:oZ CX X E)(I:!3) (r:Vals vs us) (h:sp (vs++dvs) H Q E):wpAny (!5) X.A (call (.ref f) us) (EP X Z U Q) X.xe s:=by
 have r2:=r.append hd;have hl:(us++ds).length=ps.length:=by rw[<-r2.length];exact F.len _ _ _ _ h
 refine Ic<|Ye (F.run X.A _ s H ⟨us,[]⟩ _ _ Q E hr I.env0 (hb s us I.kIn hl) r2 h) λr s' hq=>?_;cases r with
 | error e=>exact hx Z U H s e s' I hq
 | ok fl =>
  cases fl with
  | ret u=>exact I.after hq
  | next=>exact False.elim hq
  | brk=>exact False.elim hq
  | cont=>exact False.elim hq
def zZF (F:FnOk X.prog X.w X.K X.mg X.base CX k f fd ps sp)(hr:Room k X.A)(hg:Gl X x)(hm:X.mg x=some (.ref f))(hk:keepIn X.K (.ref f)=true)(hb:Binds X.K fd ps ds)(hd:Vals dvs ds)(hx:oZ CX X E)(ha:PA X (e::es) t) (hdb:!20:=by decide) (he:!23:=by rfl) (hpl:(backTo pos (!25)).any (·.1)=false:=by rfl):PE X (.Call (.Name x p) (e::es) [] pos)<|zEz sp dvs E t:=by exactλZ s U H Q I h=>Em<|gU I hg hm (Te I.ok.mod.kin hk (thn (ha pos Z s U H _ I h) λus s1 ⟨vs,H1,I1,r,q⟩=>⟨I1.kIn,(zPz F hr hb hd hx I1 r q)⟩) he hpl) hdb
def dA (he:PE X o ta)(c:Cls X.K C)(hm:Meth X.K C m f)(F:FnOk X.prog X.w X.K X.mg X.base CX k f fd ps sp)(hr:Room k X.A)(hb:Binds X.K fd ps ds)(hd:Vals dvs ds)(hx:oZ CX X E)(ha:PA X (e::es) t)(hst:!23:=by rfl) (hpl:(backTo pos (!25)).any (·.1)=false:=by rfl)(ht:eval (.Call (!33) (e::es) [] pos) X.env=(do
   let ov <-eval o X.env
   standAt apos.atName
   let (f,first) <-holding [ov] (getMethod ov m pl)
   callWith pos f first (backTo pos<|starEach (e::es) X.env) (backToKw pos<|keywordEach [] X.env)):=by rfl) :
  PE X (.Call (!33) (e::es) [] pos) (zGS C m sp dvs E ta t):=by
 refineλZ s U H Q I h=>Ia (thn (he Z s U H _ I h) λu s1 ⟨x,H1,I1,rx,a,dx,fs,ex,ea,l,q⟩=>?_) ht;subst ex;obtain rfl:=rx;exact bR I1 ea c hm l<|Te I.ok.mod.kin hm.kp (thn (ha pos Z s1 U H1 _ I1 q) λus s2 ⟨vs,H2,I2,r,q2⟩=>⟨I2.kIn,(zPz (vs:=.ref a::vs) F hr hb hd hx I2 (.cons J r) q2)⟩) hst hpl
def zMm (he:PE X o ta)(c:Cls X.K C)(hm:Meth X.K C m f)(F:FnOk X.prog X.w X.K X.mg X.base CX k f fd ps sp)(hr:Room k X.A)(hb:Binds X.K fd ps ds)(hd:Vals dvs ds)(hx:oZ CX X E)(ht:eval (.Call (!33) [] [] pos) X.env=(do
   let ov <-eval o X.env
   standAt apos.atName
   let (f,first) <-holding [ov] (getMethod ov m pl)
   callWith pos f first (backTo pos<|starEach [] X.env) (backToKw pos<|keywordEach [] X.env)):=by rfl) :
  PE X (.Call (!33) [] [] pos) (zGS C m sp dvs E ta zV1):=by
 refineλZ s U H Q I h=>Ia (thn (he Z s U H _ I h) λu s1 ⟨x,H1,I1,rx,a,dx,fs,ex,ea,l,q⟩=>?_) ht;subst ex;obtain rfl:=rx;exact bR I1 ea c hm l<|callWith_K0 I1.kIn hm.kp<|zPz (vs:=[.ref a]) F hr hb hd hx I1 (.cons J .nil) q
structure Mk (K:jk)(C f:qu):Prop where
 makes:makesIn K C=true
 init:PySem.W.findIn K (!1) "__init__"=some (some<|.ref f)
 fn:isFn K (.ref f)=true
 kp:keepIn K (!1)=true
def zMs (M:Mk X.K C f)(F:FnOk X.prog X.w X.K X.mg X.base CX k f fd ps sp)(hr:Room (k+1) X.A)(hb:Binds X.K fd ps ds)(hd:Vals dvs ds)(hx:oZ CX X E) (I:!3) (r:Vals vs us)(h:∀x dx,H x=none->H dx=none->dx≠x->sp (.ref x::(vs++dvs)) (upd (upd H dx<|.own x) x<|.ins C dx []) (λv H2=>v = .non/\Q (.ref x) H2) E):wpAny (!5) X.A (call (!1) us) (EP X Z U Q) X.xe s:=by
 have hq:=h _ _ (I.hok.fresh<|Yl _) (I.hok.fresh<|Qh _)<|Qn<|Pr _;have I2:=Inv.made (C:=C) I;have r2:Vals (V.ref (s.heap.objs.size+1)::_) _:=.cons rfl<|r.append hd;have hl:=by have e:=r2.length;rw[F.len _ _ _ _ hq] at e;exact e.symm
 refine Ic<|zJi I.kIn M.makes M.init (Ym.mp M.fn)<|Ye (F.run _ _ _ _ ⟨Value.ref _::us,[]⟩ _ _ _ E (hr.make C us []) (I2.env0.make C us []) (hb _ _ I2.kIn hl) r2 hq) λr s' hq'=>?_;cases r with
 | error e=>exact hx Z U _ _ e s' I2 hq'
 | ok fl =>
  cases fl with
  | ret u =>obtain⟨v,H',I3,rv,ev,q3⟩:=I2.after hq';subst ev;exact⟨rv,⟨V.ref _,H',I3,J,q3⟩⟩
  | next=>exact False.elim hq'
  | brk=>exact False.elim hq'
  | cont=>exact False.elim hq'
def zTp (M:Mk X.K C f)(F:FnOk X.prog X.w X.K X.mg X.base CX k f fd ps sp)(hr:Room (k+1) X.A)(hg:Gl X x)(hm:X.mg x=some (!1))(hb:Binds X.K fd ps ds)(hd:Vals dvs ds)(hx:oZ CX X E)(ha:PA X (e::es) t) (hdb:!20:=by decide) (he:!23:=by rfl) (hpl:(backTo pos (!25)).any (·.1)=false:=by rfl):PE X (.Call (.Name x p) (e::es) [] pos)<|zD5 C sp dvs E t:=by exactλZ s U H Q I h=>Em<|gU I hg hm (Te I.ok.mod.kin M.kp (thn (ha pos Z s U H _ I h) λus s1 ⟨vs,H1,I1,r,q⟩=>⟨I1.kIn,(zMs M F hr hb hd hx I1 r q)⟩) he hpl) hdb
variable{ks:kg}
structure KBinds (K:jk)(fd:FuncData)(ps ks:kg)(g:qh->qh->qh)(gV:kj->kj->kj):Prop where
 to:∀(s:qw) (us ws:jn),K.In s.heap->(g us ws).length=ps.length->BindsTo s fd ⟨us,ks.zip ws⟩ (ps.zip<|g us ws)
 rel:∀ {vs:kj} {us:jn} {zs:kj} {ws:jn},Vals vs us->Vals zs ws->Vals (gV vs zs) (g us ws)
variable{g:qh->qh->qh}{gV:kj->kj->kj}
end
structure FnScope (N P:kg)(sc:Scope):Prop where
 kind:sc.kind = .function
 co:sc.isCoroutine=false
 gen:sc.isGenerator=false
 nd:N.Nodup
 pre:N.take P.length=P
 par:∀x∈P,sc.names.lookup x=some .local\/sc.names.lookup x=some .cell
 nofree:∀y∈sc.names,y.2 ≠ .free
theorem zUI {kindOf:Str->Option NameKind}{x:Str}:∀ {binds:List<|Str×qv} {m:Str->km},(∀v,(x,v)∉binds)->bindL kindOf binds m x=m x
 | [],_,_=>rfl
 | _::r,m,h=>by
  unfold bindL;rw[zUI λw hw=>h w<|Qf _ hw];split
  .grind
  .rfl
theorem zUh {kindOf:Str->Option NameKind}{x:Str}:∀ {binds:List<|Str×qv} {m:Str->km},(∀v,(x,v)∉binds)->bindC kindOf binds m x=m x
 | [],_,_=>rfl
 | _::r,m,h=>by
  unfold bindC;rw[zUh λw hw=>h w<|Qf _ hw];split
  .rfl
  .grind
theorem zUm {kindOf:Str->Option NameKind}{x:Str}{v:qv}:∀ {P:kg} {vs:jn} {i:Nat} {m:Str->km},P.Nodup->P[i]?=some x->vs[i]?=some v->kindOf x=some .local -> bindL kindOf (P.zip vs) m x=some v
 | [],_,_,_,_,h,_,_=>by simp at h
 | _::_,[],_,_,_,_,h,_=>by simp at h
 | p::P,w::vs,0,m,nd,h1,h2,hk=>by simp at h1 h2;subst h1;subst h2;show bindL _ (_::P.zip vs) m p=_;unfold bindL;rw[zUI λv hv=>(Ta.mp nd).1 (Uw hv).1,Qg hk];simp
 | p::P,w::vs,i+1,m,nd,h1,h2,hk=>by show bindL _ (_::P.zip vs) m x=_;exact zUm (Ta.mp nd).2 (!6) (!6) hk
theorem zUO {kindOf:Str->Option NameKind}{x:Str}{v:qv}:∀ {P:kg} {vs:jn} {i:Nat} {m:Str->km},P.Nodup->P[i]?=some x->vs[i]?=some v->kindOf x≠some .local -> bindC kindOf (P.zip vs) m x=some v
 | [],_,_,_,_,h,_,_=>by simp at h
 | _::_,[],_,_,_,_,h,_=>by simp at h
 | p::P,w::vs,0,m,nd,h1,h2,hk=>by simp at h1 h2;subst h1;subst h2;show bindC _ (_::P.zip vs) m p=_;unfold bindC;rw[zUh λv hv=>(Ta.mp nd).1 (Uw hv).1,Qc hk];simp
 | p::P,w::vs,i+1,m,nd,h1,h2,hk=>by show bindC _ (_::P.zip vs) m x=_;exact zUO (Ta.mp nd).2 (!6) (!6) hk
def oJ (N:kg)(vs:kj):St:=vs.map some++List.replicate (N.length - vs.length) none
def qP (CX:CXT)(P:Program)(w:qz)(K:jk)(mg:Str->km)(base:qx)(N:kg)(qual:Str)(scope:Scope)(f:qu)(cd:qv)(A:qy)(outer:qb)(s:qw)(H:Hp)(E:XK):Cx where
 prog:=P
 w:=w
 K:=K
 mg:=mg
 base:=base
 A:=A.deeper<|envOfC qual scope s.heap.objs.size f cd
 N:=N
 s₀:=s
 H₀:=H
 env:=envOfC qual scope s.heap.objs.size f cd
 outer:=outer
 stack:=envOfC qual scope s.heap.objs.size f cd::outer
 ex:=[]
 calm:=true
 fn:=λ_=>true
 pn:=[]
 xe:=λe s'=>wpAny (model P w) (A.deeper<|envOfC qual scope s.heap.objs.size f cd) (leaving (envOfC qual scope s.heap.objs.size f cd) e) (λ_ s''=>CX outer H s E e s'') (λe' s''=>CX outer H s E e' s'') s'
def zQG (h:sc.names.lookup x=some .cell):∃c,(cellsFrom n sc.names []).lookup x=some c:=by exact Es.mp<|Iy _ n []<|.inl h
def zUQ {s1:qw}{E:XK}(S:FnScope N ps scope) (hd:A.handled=none) (e0:Env0 P w K mg base A outer s H) (hl:vs.length=ps.length) (r:Vals vs us)(x:InCallC s s.heap.objs.size (bindL (envOfC qual scope s.heap.objs.size f cd).kindOf (ps.zip us) λ_=>none) (cellsFrom (s.heap.objs.size+1) scope.names []) (bindC (envOfC qual scope s.heap.objs.size f cd).kindOf (ps.zip us) λ_=>none) s1):Inv (qP CX P w K mg base N qual scope f cd A outer s H E) [] (oJ N vs) H s1:=by
 have hpl:ps.length<=N.length:=by have:=Wa List.length S.pre;rw[Wx] at this;lia
 obtain⟨h1,tk,rfl,hk⟩:=x.done;have noA:∀b:qu,b∉(qP CX P w K mg base N qual scope f cd A outer s H E).ex:=λb z=>absurd (show b∈([]:kn) from z) je;refine⟨⟨e0.mod,S.kind,J,J,Qh _,λy z c h1 h2=>?_,λy hy=>?_,λy c _ h=>?_,λ_=>hd,Around.frames_deeper e0.frames,.inr ⟨J,J⟩,λb z=>absurd z<|noA b,e0.bs,e0.bsz,λb _ _=>noA b,λb z=>absurd z<|noA b,e0.funs,e0.frf⟩, J,e0.bare,Un.kept hk,⟨_,x.toInCall.ns,λi y v h1 h2 h3=>?_⟩,λy c h=>⟨_,x.cell y c h⟩,e0.hok.fresh<|Qh _,λy c h=>?_,λp hp=>absurd (show p∈([]:jm) from hp) je,e0.hok.kept hk,?_⟩
 .exact name_of_addr x.apart (Ez h1) (Ez h2)
 .have hy:scope.names.lookup y=some _\/scope.names.lookup y=some _:=hy;rcases hy with hy | hy
  .exact zQG hy
  .exact absurd J (S.nofree _<|Ez hy)
 .exact Ww (x.above y c<|Ez h)
 .have hi:i < vs.length:=by
   unfold oJ at h2
   by_cases hi:i < vs.length
   .exact hi
   .rw[Rg (by simpa using hi),Yo] at h2;split at h2<;>cases h2
  have ha:vs[i]?=some v:=by
   unfold oJ at h2;rw[Tx (by simpa using hi),Wh] at h2;cases e:vs[i]? with
   | none=>rw[e] at h2;cases h2
   | some a=>rw[e] at h2;cases h2;rfl
  obtain⟨u,hu,rv⟩:=r.get ha;have hp:ps[i]?=some y:=by rw[<-S.pre,List.getElem?_take_of_lt jc];exact h1
  have ndP:ps.Nodup:=by rw[<-S.pre];exact S.nd.sublist<|List.take_sublist _ _
  refine⟨u,rv,?_⟩;rcases S.par y (Rw hp) with k | k
  .exact .inl ⟨k,zUm ndP hp hu k⟩
  .obtain⟨c,e⟩:=zQG (n:=_+1) k;refine .inr ⟨.inl k,c,e,?_⟩;have q:=x.cell y c e;rw[zUO ndP hp hu (by show scope.names.lookup y≠_;rw[k];decide)] at q;exact q
 .exact e0.hok.fresh (Ww<|x.above y c<|Ez h)
 .unfold oJ;show _=N.length;rw[Qp,Qy,Ts];lia
def zGN {k:Nat}{params:Arguments}{dV kV doc pm j9 ct oc:qv}{an:kq}(lk:K.lookup f=some ⟨oc,od,.func<|PySem.W.fnOf name qual params body scope dV kV doc pm an j9 ct,osl⟩) (hcd:codeIn K j9 qual=true) (S:FnScope N ps scope)(len:∀vs H Q E,sp vs H Q E->vs.length=ps.length)(hbody:∀(A:qy) (outer:qb) (s:qw) (H:Hp) (vs:kj) (Q:VK) (E:XK),Room k (A.deeper<|envOfC qual scope s.heap.objs.size f j9)->sp vs H Q E -> ∃t,PSs (qP CX P w K mg base N qual scope f j9 A outer s H E) body t/\t { nx:=λ_ H'=>Q .non H',rt:=Q } (oJ N vs) H):FnOk P w K mg base CX (k+1) f (PySem.W.fnOf name qual params body scope dV kV doc pm an j9 ct) ps sp:=by
 refine⟨len,λA outer s H args us vs Q E hr e0 hb r hsp=>?_⟩;have KX:=e0.mod.kin.keeps λb o e=>(e0.bs b o e).1;have hkind:∀y∈ps.zip us,scope.names.lookup y.1=some _\/(scope.names.lookup y.1=some _/\((cellsFrom (s.heap.objs.size+1) _ []).lookup y.1).isSome=true):=λ⟨n,v⟩ hy=>by
   rcases S.par n (Uw hy).1 with q | q
   · exact .inl q
   · exact .inr ⟨q,Iy _ _ _<|.inl q⟩
 refine codeAny_call_function hr.depth (KX _ _ lk) J S.co S.gen J (codeRec_of KX hcd)<|hb _ _ _ _<|Px S.kind hkind λenv he s1 x=>?_;subst he;refine⟨(e0.mod.nolimit.keeps λb o e=>(e0.bs b o e).1).keeps x.toInCall.keep,codeAny_func ?_⟩;obtain⟨t,ht,hq⟩:=hbody A _ s H vs Q E (hr.deeper _) hsp;have I:Inv (qP CX P w K mg base N qual _ f j9 A _ s H E) [] _ H s1:=zUQ S hr.hd e0 (len _ _ _ _ hsp) r x;refine Ea (ht [] s1 _ H _ I hq) (λfl s' hs=>?_) λe s' hs=>hs;have fin:∀ {U':St} {H':Hp} {v:V} {u:qv},Inv (qP CX P w K mg base N qual scope f j9 A outer s H E) [] U' H' s'->RelV v u->Q v H'->CE _ P w H s Q u s' :=
   λ{U' H' v u} ya rv q=>⟨v,H',ya.os,ya.bare,ya.base,ya.hok,rv,q⟩
 cases fl with
 | ret u =>obtain⟨v,U',H',ya,rv,q⟩:=hs;exact fin ya rv q
 | next =>obtain⟨U',H',ya,q⟩:=hs;exact fin (v:=V.non) ya J q
 | brk =>obtain⟨_,_,_,q⟩:=hs;exact False.elim q
 | cont =>obtain⟨_,_,_,q⟩:=hs;exact False.elim q
section
variable{id:String}{r:kj->Hp->VK->Prop}
def tCB (r:kj->Hp->VK->Prop)(t:TA):TE:=λU H Q=>t U H λvs H1=>r vs H1 Q
def wD (hc:CallR X (.builtin id) r)(hg:Gl X x)(hm:X.mg x=none)(hv:bootBuiltins x=some (.builtin id))(ha:PA X (e::es) t)(hn:x≠"__name__":=by decide)(hdb:!20:=by decide)(he:!23:=by rfl) (hpl:(backTo pos (!25)).any (·.1)=false:=by rfl):PE X (.Call (.Name x p) (e::es) [] pos)<|tCB r t:=by exactλZ s U H Q I h=>Em<|iE I hg hm hv (PyProof.Rows.callWith_builtin1 (thn (ha pos Z s U H _ I h) λus s1 ⟨vs,H1,I1,r1,q1⟩=>hc Z s1 U H1 vs us Q I1 r1 q1) he hpl) hn hdb
def zYB (hc:CallR X (.type T) r)(hg:Gl X x)(hm:X.mg x=none)(hv:bootBuiltins x=some (.type T))(ha:PA X (e::es) t)(hn:x≠"__name__":=by decide)(hdb:!20:=by decide)(he:!23:=by rfl) (hpl:(backTo pos (!25)).any (·.1)=false:=by rfl):PE X (.Call (.Name x p) (e::es) [] pos)<|tCB r t:=by exactλZ s U H Q I h=>Em<|iE I hg hm hv (Ro (thn (ha pos Z s U H _ I h) λus s1 ⟨vs,H1,I1,r1,q1⟩=>hc Z s1 U H1 vs us Q I1 r1 q1) he hpl) hn hdb
end
end L2
variable{Q:jl}{p:qf}
namespace HT
def cat_tup {t b:qu}{vs:jn}(ht:IsTup s.heap t vs.toArray)(hb:IsTup s.heap b ws.toArray)(hv:vs≠[])(h1:ws=[]->Q (.ref t) s) (h2:ws≠[]->Q (.ref s.heap.objs.size) { s with heap:=s.heap.push { cls:=.type "tuple",data:=.seq (vs++ws).toArray } })(hsz:vs.length+ws.length<=sizeLine):wpAny (!8) A (binaryOp .Add (.ref t)<|.ref b) Q E s:=by
 obtain⟨⟨cls,dd,data,sl⟩,ho,hc,n,hd⟩:=id ht;obtain⟨⟨cls2,dd2,data2,sl2⟩,ho2,hc2,n2,hd2⟩:=id hb;subst hc hd hc2 hd2;have e:vs.toArray++ws.toArray=(vs++ws).toArray:=je
 by_cases hw:ws=[]
 .exact On ⟨_,ho,J⟩ ⟨_,ho2,J⟩ Py seq_tuple_add Iu Uv (Uj _ _) (tuple_addW1 t b _ _ n n2 dd dd2 sl sl2 (!9) (!9)) ⟨ho,ho2,h1 hw⟩
 .refine On ⟨_,ho,J⟩ ⟨_,ho2,J⟩ Py seq_tuple_add Iu Uv (Uj _ _) (tuple_addW2 t b _ _ n n2 dd dd2 sl sl2 (!9) (!9) (!6)) ⟨ho,ho2,?_⟩;rw[e];exact h2 hw
def sIx (n d:Nat):kr->Nat
 | none=>d
 | some v=>if v < 0 then(v+(n:Int)).toNat else min v.toNat n
def sIx_none (n d:Nat):sIx n d none=d:=rfl
def sIx_nat (n d k:Nat):sIx n d (some (k:Int))=min k n:=rfl
def zNL (v:Int)(n d:Nat):(if v < 0 then max (v+(n:Int)) 0 else min v (n:Int))=((sIx n d (some v):Nat):Int):=by
 show(if v < 0 then max _ 0 else min v _)=(((if v < 0 then(v+_).toNat else min _ n):Nat))
 grind
def zPr (lo hi:kr)(n:Nat):Builtin.Slice.sliceAdjust lo hi 1 (n:Int)=(((sIx n 0 lo:Nat):Int),((sIx n n hi:Nat):Int)):=by
 refine Prod.ext ?_ ?_
 .cases lo with
  | none=>rfl
  | some v=>exact zNL v n 0
 .cases hi with
  | none=>rfl
  | some v=>exact zNL v n n
def zP8 (i j:Nat):Builtin.Slice.slicePlaces (i:Int) (j:Int) 1=j - i:=by
 unfold Builtin.Slice.slicePlaces
 grind
def zWS {v:qv}{o:kr}{Q:kr->qw->Prop}(p:IsPart v o)(h:Q o s):wpAny (!8) A (Builtin.Slice.slicePartIndex v) Q E s:=by
 cases p with
 | none=>exact slicePart_none h
 | int i t=>exact slicePart_int h
def jV {sl:qu}{Q:Int×Int×Nat->qw->Prop}(hs:s.heap.IsSliceOf sl vl vu .none)(pl:IsPart vl lo)(pu:IsPart vu hi)(h:Q (((sIx n 0 lo:Nat):Int),1,sIx n n hi - sIx n 0 lo) s):wpAny (!8) A (Builtin.Slice.sliceApplied (.ref sl)<|pure (n:Int)) Q E s:=by obtain⟨os,hos,hcs,hds⟩:=id hs;refine Qw<|Qw<|Ep hos hds (x:=vl) rfl<|Qw<|Ep hos hds (x:=vu) rfl<|Qw<|Ep hos hds rfl<|Qo<|Qw<|slicePart_none<|Qw<|zWS pl<|Qw<|zWS pu<|Qw<|Qo ?_;show wpAny _ _ (match Builtin.Slice.sliceAdjust lo hi 1 _ with | (lo,hi)=>pure (lo,_,Builtin.Slice.slicePlaces lo hi 1)) _ _ s;rw[zPr lo hi n];show wpAny _ _ (pure (_,_,Builtin.Slice.slicePlaces _ _ 1)) _ _ s;rw[zP8];exact Qo h
def zLZ (xs:jo)(i k:Nat):((List.range k).filterMap λ(m:Nat)=>xs[((i:Int)+(m:Int)*1).toNat]?).toArray=((xs.toList.drop i).take k).toArray:=by
 have e:(λ(m:Nat)=>xs[((i:Int)+(m)*1).toNat]?)=λm=>xs[i+m]?:=by grind
 rw[e];have:=pick_run xs i k;rw[List.filterMap_map] at this;have e2:(_ ∘ λx=>i+x)=λm=>xs[i+m]?:=rfl;rw[e2] at this;rw[this]
def getItem_tuple_cut {t sl:qu}(ht:IsTup s.heap t items)(hs:s.heap.IsSliceOf sl vl vu .none)(pl:IsPart vl lo)(pu:IsPart vu hi)(hw:¬(sIx items.size 0 lo=0/\sIx items.size items.size hi=items.size))(h:Q (.ref s.heap.objs.size) { s with heap:=s.heap.push { cls:=.type "tuple",data:=.seq ((items.toList.drop<|sIx items.size 0 lo).take<|sIx items.size items.size hi - sIx items.size 0 lo).toArray } })(hsz:items.size<=sizeLine):wpAny (!8) A (getItem (.ref t)<|.ref sl) Q E s:=by
 have htake:=by show((items.toList.drop<|sIx items.size 0 lo).take<|sIx items.size items.size hi - sIx items.size 0 lo).toArray.size<=sizeLine;rw[Qd,Wx,Ey,Ou];lia
 obtain⟨os,hos,hcs,hds⟩:=id hs;have hTs:s.TypeIs (.ref sl) "slice":=⟨os,hos,hcs⟩
 unfold getItem
 try with_reducible refine Ev ?_
 refine Qw<|wpAny_sequenceKey ht.typeIs jb ?_;refine Qw<|Eg (name:=Str.ofString "__getitem__") ht.typeIs Rz<|Wn Rz ht.typeIs entry_tuple_getitem ?_<|args_tuple_getitem _ _;show wpAny _ _ (Builtin.Tuple.tupleItemsOf (.ref t) >>= _) _ _ s;refine Qw<|tupleItemsOf_ ht<|Qw<|wpAny_typeOf hTs<|Qw<|jV hs pl pu ?_;have hno:¬((((sIx items.size 0 lo:Nat):Int)==0&&(1:Int)==1&&(sIx items.size items.size hi - sIx items.size 0 lo)==items.size)=true):=by simp_all
 show wpAny _ _ (if (((sIx _ 0 lo:Nat):Int)==0&&(1:Int)==1&&(sIx _ _ hi - sIx _ 0 lo)==_)=true then _ else _) _ _ s;rw[Qc hno,zLZ]
 first
  | exact Qw (m:=Builtin.Tuple.tupleExact _) (Ex (Qo ⟨_,J,Qo h⟩) htake)
  | exact _ (m:=_ _) (_ (_ (_ (_ ⟨_,J,_ h⟩))) _)
  | exact _ (_ (m:=_ _) (_ (_ _) _))
  | exact _ _
end HT
variable{Q:km->qw->Prop}{lo hi:Option r8}
namespace L2
abbrev TO:=St->Hp->(kr->Hp->Prop)->Prop
def PO (X:Cx)(e:Option r8)(t:TO):Prop :=
 ∀(Z:jm) (s:qw) (U:St) (H:Hp) (Q:kr->Hp->Prop),Inv X Z U H s->t U H Q ->
  wpAny (!5) X.A (evalPart e X.env) (λu s'=>∃o H',Inv X Z U H' s'/\IsPart u o/\Q o H') X.xe s
def zIa:TO:=λ_ H Q=>Q none H
def zEf (t:TE):TO:=λU H Q=>t U H λx H1=>∃i,x = .int i/\Q (some i) H1
section
variable{tl th:TO}
def zHS:PO X none zIa:=by exactλZ s U H Q I h=>Qo ⟨none,H,I,.none,h⟩
def zHA (h:PE X e te):PO X (some e)<|zEf te:=by refineλZ s U H Q I hw=>thn (h Z s U H _ I hw) λu s1 ⟨x,H1,I1,r1,q1⟩=>?_;obtain⟨i,rfl,q⟩:=q1;obtain⟨t,rfl⟩:=r1;exact⟨some i,H1,I1,.int i t,q⟩
def SlR (X:Cx)(r:V->kr->kr->Hp->VK->Prop):Prop :=
 ∀(Z:jm) (s:qw) (U:St) (H:Hp) (x:V) (v vl vu:qv) (lo hi:kr) (sl:qu) (Q:VK),Inv X Z U H s->RelV x v->s.heap.IsSliceOf sl vl vu .none->IsPart vl lo->IsPart vu hi->r x lo hi H Q ->
  ∃T id,typeLookup (.type T) "__getitem__"=pure (some<|.builtin id)/\s.TypeIs v T/\wpAny (!5) X.A (getItem v<|.ref sl) (EP X Z U Q) X.xe s
def SlR.or {r':V->kr->kr->Hp->VK->Prop}(h:SlR X r)(h':SlR X r'):SlR X λx lo hi H Q=>r x lo hi H Q\/r' x lo hi H Q:=by
 intro Z s U H x v vl vu lo hi sl Q I rx hs pl pu q;rcases q with q | q
 .exact h Z s U H x v vl vu lo hi sl Q I rx hs pl pu q
 .exact h' Z s U H x v vl vu lo hi sl Q I rx hs pl pu q
def tSl (r:V->kr->kr->Hp->VK->Prop)(te:TE)(tl th:TO):TE:=λU H Q=>te U H λx H1=>tl U H1 λl H2=>th U H2 λu H3=>r x l u H3 Q
def zXa (hr:SlR X r)(he:PE X e te)(hl:PO X lo tl)(hu:PO X hi th):PE X (.Subscript e (.Slice lo hi none p2) pos)<|tSl r te tl th:=by refineλZ s U H Q I h=>Subscript_<|thn (he Z s U H _ I h) λv s1 ⟨x,H1,I1,r1,q1⟩=>wpAny_Slice<|thn (hl Z s1 U H1 _ I1 q1) λvl s2 ⟨l,H2,I2,pl,q2⟩=>thn (hu Z s2 U H2 _ I2 q2) λvu s3 ⟨u,H3,I3,pu,q3⟩=>Qo ?_;have I4:Inv X Z U H3 { s3 with heap:=s3.heap.push { cls:=.type "slice",data:=.fields #[vl,vu,.none] } }:=I3.kept λb ob q=>Qe _ q;obtain⟨T,id,hT,ht,hg⟩:=hr Z { s3 with heap:=s3.heap.push { cls:=.type "slice",data:=.fields #[vl,vu,.none] } } U H3 x v vl vu l u _ Q I4 r1 (Heap.IsSliceOf.new ..) pl pu q3;exact tail_any ht hT hg J
def zSF (xs:kj)(lo hi:kr):kj:=(xs.drop<|HT.sIx xs.length 0 lo).take<|HT.sIx xs.length xs.length hi - HT.sIx xs.length 0 lo
def zYv (xs:kj)(lo hi:kr):(zSF xs lo hi).length<=xs.length:=by unfold zSF;rw[Wx,Ey];lia
def zCH (K:jk):V->kr->kr->Hp->VK->Prop:=λx lo hi H Q=>∃a xs,x = .ref a/\SqT K H a xs /\
 ¬(HT.sIx xs.length 0 lo=0/\HT.sIx xs.length xs.length hi=xs.length)/\∀p,H p=none->Q (.ref p) (upd H p<|.tup<|zSF xs lo hi)
def zFP:SlR X<|zCH X.K:=by
 intro Z s U H x v vl vu lo hi sl Q I rx hs pl pu h;obtain⟨a,xs,rfl,hx,hw,q⟩:=h;cases rx;obtain⟨j6,r,ht,hz⟩:=I.tuple hx;have j5:j6.toArray.size=xs.length:=by rw[Qd];exact r.length.symm
 refine⟨"tuple",_,Rz.lookup,ht.typeIs,(HT.getItem_tuple_cut ht hs pl pu (by rw[j5];exact hw) ?_ (by rw[j5];exact hz))⟩;rw[j5];refine⟨.ref s.heap.objs.size,_,I.laid (λb ob q=>Qe _ q) (Qh _) ?_,J,q _<|I.hok.fresh<|Qh _⟩;exact⟨Wq (zYv xs lo hi) hz,_,(r.drop _).take _,IsTup.new _ _⟩
def zEa (K:jk):R2:=λx y H Q=>∃a b xs ys,x = .ref a/\y = .ref b/\SqT K H a xs/\SqT K H b ys/\xs≠[]/\xs.length+ys.length<=sizeLine /\
 (ys=[]->Q (.ref a) H)/\(ys≠[]->∀p,H p=none->Q (.ref p) (upd H p<|.tup<|xs++ys))
def Vals.nil_iff (r:Vals xs us):us=[]↔xs=[]:=by
 cases r with
 | nil=>simp
 | cons _ _=>simp
def zH4:OpR X (binaryOp .Add)<|zEa X.K:=by
 sleep 5
 obtain⟨a,b,xs,ys,rfl,rfl,ha,hb,hx,hz,q1,q2⟩:=h;cases rx;cases ry;obtain⟨j6,r1,p1,_⟩:=I.tuple ha;obtain⟨its2,r2,p2,_⟩:=I.tuple hb;refine HT.cat_tup p1 p2 (λz=>hx<|r1.nil_iff.mp z) (λz=>⟨.ref a,H,I,J,q1<|r2.nil_iff.mp z⟩) (λz=>⟨.ref s.heap.objs.size,_,I.laid (λb ob q=>Qe _ q) (Qh _) ?_,J,q2 (λw=>z<|r2.nil_iff.mpr w) _<|I.hok.fresh<|Qh _⟩) (by rw[<-r1.length,<-r2.length];exact hz);exact⟨by rw[Qp];exact hz,_,r1.append r2,IsTup.new _ _⟩
end
def ixN (n:Nat)(i:Int):Option Nat:=if 0<=i then(if i < n then some i.toNat else none) else if -(n:Int)<=i then some (i+n).toNat else none
def atI (xs:!10)(i:Int):Option α:=(ixN xs.length i).bind λj=>xs[j]?
def zOl {i:Int}(h:ixN n i=some j):seqIndex? i n=some j/\j < n /\ -(n:Int)<=i/\i < n:=by
 unfold ixN at h
 by_cases h0:0<=i
 .rw[Qg h0] at h
  by_cases h1:i < n
  .rw[Qg h1] at h;have e:=Ri h;exact⟨by rw[seqIndex_of h0 h1,e],jc,jc,h1⟩
  .simp_all
 .rw[Qc h0] at h
  by_cases h1 : -(n)<=i
  .rw[Qg h1] at h;have e:=Ri h;exact⟨by rw[seqIndex_neg jc h1,e],jc,h1,jc⟩
  .simp_all
def zSM {xs:!10}{i:Int}{v:α}(h:atI xs i=some v):∃j,seqIndex? i xs.length=some j/\xs[j]?=some v/\j < xs.length /\ -(xs.length:Int)<=i/\i < xs.length:=by
 unfold atI at h;cases e:ixN _ i with
 | none=>rw[e] at h;cases h
 | some j =>rw[e] at h;obtain⟨h1,h2,h3,h4⟩:=zOl e;exact⟨j,h1,h,h2,h3,h4⟩
def zII {xs:!10}{v:α}(h:xs[j]?=some v):atI xs (j:Int)=some v:=by
 have hj:=(v5 h).1;have e:ixN xs.length (j)=some j:=by unfold ixN;rw[Qg jc,Qg jc];simp
 unfold atI;rw[e];exact h
def zXE (b:r8):Prop:=∀o i,subscripted b false o i=operate [o,i] (getItem o i)
def IxR (X:Cx)(r:R2):Prop :=
 ∀(value slice:r8) (Z:jm) (s:qw) (U:St) (H:Hp) (x y:V) (v u:qv) (Q:VK),Inv X Z U H s->RelV x v->RelV y u->r x y H Q ->
  subscripted slice false v u=operate [v,u] (getItem v u)->wpAny (!5) X.A (subscriptTail value slice v u) (EP X Z U Q) X.xe s
def MtR (X:Cx)(id:String)(r:V->kj->Hp->VK->Prop):Prop :=
 ∀(Z:jm) (s:qw) (U:St) (H:Hp) (x:V) (xs:kj) (v:qv) (us:jn) (Q:VK),Inv X Z U H s->RelV x v->Vals xs us->r x xs H Q ->
  wpAny (!5) X.A (call (.builtin id)<|v::us) (EP X Z U Q) X.xe s
section
variable{a b:r8}
def IxR.or {r r':R2}(h:IxR X r)(h':IxR X r'):IxR X λx y H Q=>r x y H Q\/r' x y H Q:=by
 intro _ _ Z s U H x y v u Q I rx ry q hs;rcases q with q | q
 .exact h _ _ Z s U H x y v u Q I rx ry q hs
 .exact h' _ _ Z s U H x y v u Q I rx ry q hs
def zK3 {r:R2}(hr:IxR X r)(ha:PE X a ta)(hb:PE X b tb)(hs:zXE b):PE X (.Subscript a b pos)<|tOp r ta tb:=by exactλZ s U H Q I h=>Subscript_<|zEL ha hb I h λv u s2 x y H2 I2 rx ry q=>hr a b Z s2 U H2 x y v u Q I2 rx ry q<|hs _ _
def zE6 (K:jk):R2:=λx y H Q=>∃p xs i v,x = .ref p/\y = .int i/\SqL K H p xs/\atI xs i=some v/\Q v H
def zEi (K:jk):R2:=λx y H Q=>∃p xs i v,x = .ref p/\y = .int i/\SqT K H p xs/\atI xs i=some v/\Q v H
def zDN:R2:=λx y H Q=>∃z i c,x = .str z/\y = .int i/\z.length<=sizeLine/\atI z.cps.toList i=some c/\Q (.str ⟨#[c]⟩) H
def zOG:IxR X<|zE6 X.K:=by
 intro _ _ Z s U H x y v u Q I rx ry h hs;obtain⟨p,xs,i,z,rfl,rfl,hq,he,q⟩:=h;cases rx;obtain⟨t,rfl⟩:=ry;obtain⟨j6,r,pl,hz⟩:=I.list hq;obtain⟨j,h1,h2,h3,h4,h5⟩:=zSM he;obtain⟨w,ew,rw'⟩:=r.get h2;have hl:=r.length;have hn:=zVH;have fin:EP X Z U Q w s:=⟨z,H,I,rw',q⟩
 by_cases h0:0<=i
 .have hj:=by
   rw[seqIndex_of h0 h5] at h1;exact Ri h1
  exact item_listR pl.isList h0 jc (by rw[hj];simpa using ew) fin hs
 .have hj:(i+(j6.toArray.size)).toNat=j:=by
   rw[seqIndex_neg jc h4] at h1;simp_all
  exact subscriptTail_builtinR pl.isList.typeIs slot_list_getitem.lookup (wpAny_getItem_list_neg pl.isList jc (!9) jc (by rw[hj];simpa using ew) ⟨rfl,fin⟩) hs
def zFF:IxR X<|zEi X.K:=by
 intro _ _ Z s U H x y v u Q I rx ry h hs;obtain⟨p,xs,i,z,rfl,rfl,hq,he,q⟩:=h;cases rx;obtain⟨t,rfl⟩:=ry;obtain⟨j6,r,pl,hz⟩:=I.tuple hq;obtain⟨j,h1,h2,h3,h4,h5⟩:=zSM he;obtain⟨w,ew,rw'⟩:=r.get h2;have hn:=zVH;have fin:EP X Z U Q w s:=⟨z,H,I,rw',q⟩
 exact subscriptTail_builtinR pl.typeIs slot_tuple_getitem.lookup (getItem_tuple pl jc jc (by rw[Qd,<-r.length];exact h1) (by simpa using ew) ⟨rfl,fin⟩) hs
def zEP:IxR X zDN:=by
 intro _ _ Z s U H x y v u Q I rx ry h hs;obtain⟨z,i,c,rfl,rfl,hz,he,q⟩:=h;obtain⟨t,rfl⟩:=rx;obtain⟨t',rfl⟩:=ry;obtain⟨j,h1,h2,h3,h4,h5⟩:=zSM he;have hl:z.cps.toList.length=z.length:=by simp[Str.length]
 rw[hl] at h1 h4 h5;have hn:=zVH;exact tail_any (Ib s z t) slot_str_getitem.lookup (getItem_str (by have e1:decide (i < -(2^63))=_:=Wu jc;have e2:decide (i≥2^63)=_:=Wu jc;rw[e1,e2,Bool.or_false]) (by rw[h1];simpa using h2) ⟨.str ⟨#[c]⟩,H,I.tok _,⟨_,rfl⟩,q⟩) hs
def rIx (K:jk):R2:=λx y H Q=>zE6 K x y H Q\/zEi K x y H Q\/zDN x y H Q
def zJp:IxR X<|rIx X.K:=zOG.or<|zFF.or zEP
def zTw (lo hi:kr)(n:Nat):(sliceBounds lo hi none n).1=((HT.sIx n 0 lo:Nat):Int)/\(sliceBounds lo hi none n).2.1=((HT.sIx n n hi:Nat):Int)/\(sliceBounds lo hi none n).2.2=1:=by
 refine⟨?_,?_,J⟩
 .cases lo with
  | none=>simp[sliceBounds,HT.sIx]
  | some i =>
   simp only[sliceBounds,HT.sIx,Option.getD_none,show(1:Int) > 0 by decide,Ox]
   by_cases h:i < 0
   .simp only[h,Ox]<;>lia
   .simp only[h,Yb]<;>lia
 .cases hi with
  | none=>simp[sliceBounds,HT.sIx]
  | some i =>
   simp only[sliceBounds,HT.sIx,Option.getD_none,show(1:Int) > 0 by decide,Ox]
   by_cases h:i < 0
   .simp only[h,Ox]<;>lia
   .simp only[h,Yb]<;>lia
def zVt (j6:jn)(lo hi:kr):slicePick j6.toArray lo hi none=((j6.drop<|HT.sIx j6.length 0 lo).take<|HT.sIx j6.length j6.length hi - HT.sIx j6.length 0 lo).toArray:=by obtain⟨h1,h2,h3⟩:=zTw lo hi j6.toArray.size;unfold slicePick;rw[h1,h2,h3];simp only[sliceRange_one,pick_run]<;>rfl
def zDq (K:jk):V->kr->kr->Hp->VK->Prop:=λx lo hi H Q=>∃a xs,x = .ref a/\SqL K H a xs/\∀p,H p=none->Q (.ref p) (upd H p<|.lst<|zSF xs lo hi)
def zIs:SlR X<|zDq X.K:=by intro Z s U H x v vl vu lo hi sl Q I rx hs pl pu h;obtain⟨a,xs,rfl,hx,q⟩:=h;cases rx;obtain⟨j6,r,ht,hz⟩:=I.list hx;have j5:=r.length;refine⟨"list",_,slot_list_getitem.lookup,ht.isList.typeIs,(wpAny_getItem_list_slice ht.isList hs pl pu .none je ?_ (!9))⟩;rw[zVt,<-j5];refine⟨.ref s.heap.objs.size,_,I.laid (λb ob q=>Qe _ q) (Qh _) ?_,J,q _<|I.hok.fresh<|Qh _⟩;exact⟨Wq (zYv xs lo hi) hz,_,0,(r.drop _).take _,Qa _ J⟩
def zZs:CallR X (.builtin "len") (λxs H Q=>∃p ys,xs=[.ref p]/\(SqL X.K H p ys\/SqT X.K H p ys)/\Q (.int ys.length) H):=by
 intro Z s U H xs us Q I r h;obtain⟨p,ys,rfl,hq,q⟩:=h;obtain⟨u,rfl,rx⟩:=nH r;cases rx;have hn:=zVH;rcases hq with hq | hq
 .obtain⟨j6,r',pl,hz⟩:=I.list hq;have j5:=r'.length;exact Calls.call_len_list pl.isList (by simp only[Qd]<;>lia) ⟨.int ys.length,H,I.tok _,⟨s.toks+1,by rw[Qd,j5]⟩,q⟩
 .obtain⟨j6,r',pl,hz⟩:=I.tuple hq;have j5:=r'.length;exact len_tuple pl (by simp only[Qd]<;>lia) ⟨.int ys.length,H,I.tok _,⟨s.toks+1,by rw[Qd,j5]⟩,q⟩
def zTO:CallR X (.builtin "len") (λxs H Q=>∃z,xs=[.str z]/\z.length<=sizeLine/\Q (.int z.length) H):=by intro Z s U H xs us Q I r h;obtain⟨z,rfl,hz,q⟩:=h;obtain⟨u,rfl,t,rfl⟩:=nH r;have hn:=zVH;exact len_str jc ⟨.int z.length,H,I.tok _,⟨_,J⟩,q⟩
def CallR.or {f:qv}{r r':kj->Hp->VK->Prop}(h:CallR X f r)(h':CallR X f r'):CallR X f λxs H Q=>r xs H Q\/r' xs H Q:=by
 intro Z s U H xs us Q I rs q;rcases q with q | q
 .exact h Z s U H xs us Q I rs q
 .exact h' Z s U H xs us Q I rs q
def zTx:CallR X (.type "list") (λxs H Q=>∃p ys,xs=[.ref p]/\(SqL X.K H p ys\/SqT X.K H p ys)/\∀l,H l=none->Q (.ref l) (upd H l<|.lst ys)):=by
 intro Z s U H xs us Q I r h;obtain⟨p,ys,rfl,hq,q⟩:=h;obtain⟨u,rfl,rx⟩:=nH r;cases rx;have fin:∀(j6),Vals ys j6->_<=_->∀(h') (c'),_ -> h'.get? s.heap.objs.size=some { cls:=.type "list",dict:=none,data:=.seq j6.toArray c',slots:=#[] }->EP X Z U Q _ (!15):=λj6 r' hz h' c' kp e =>⟨.ref s.heap.objs.size,_,I.laid kp (Qh _)<|show ObjOk _ X.w _ h' _ (.lst ys) from⟨hz,j6,c',r',e⟩,J,q _<|I.hok.fresh<|Qh _⟩
 rcases hq with hq | hq
 .obtain⟨j6,r',pl,hz⟩:=I.list hq;have j5:=r'.length;obtain⟨o,ho,hc,n,hd⟩:=pl.isList;exact call_list_seq p (.inl J) ho hc hd (λh' c' kp e=>fin j6 r' hz h' c' kp e) (by simp only[Qd]<;>lia)
 .obtain⟨j6,r',pl,hz⟩:=I.tuple hq;have j5:=r'.length;obtain⟨o,ho,hc,n,hd⟩:=pl;exact call_list_seq p (.inr J) ho hc hd (λh' c' kp e=>fin j6 r' hz h' c' kp e) (!9)
def zVu:CallR X (.type "tuple") (λxs H Q=>∃p ys,xs=[.ref p]/\((SqL X.K H p ys/\∀l,H l=none->Q (.ref l) (upd H l<|.tup ys))\/(SqT X.K H p ys/\Q (.ref p) H))):=by
 intro Z s U H xs us Q I r h;obtain⟨p,ys,rfl,h⟩:=h;obtain⟨u,rfl,rx⟩:=nH r;cases rx;rcases h with⟨hq,q⟩ | ⟨hq,q⟩
 .obtain⟨j6,r',pl,hz⟩:=I.list hq;have j5:=r'.length;refine call_tuple_list pl.isList (λh' kp=>?_) (!9);have I1:=I.kept (t':=s.toks) kp;have I2:Inv X Z U (upd H _<|.tup ys) { s with heap:=h'.push { cls:=.type "tuple",data:=.seq _ } } :=
   I1.laid (λb o e=>Qe _ e) (Qh _) (⟨hz,j6,r',IsTup.new _ _⟩)
  exact⟨.ref h'.objs.size,_,I2,J,q _<|I1.hok.fresh<|Qh _⟩
 .obtain⟨j6,r',pl,hz⟩:=I.tuple hq;exact call_tuple_same pl ⟨.ref p,H,I,J,q⟩
def tyV (K:jk)(T:String)(x:V)(H:Hp):Prop:=match x with
 | .str _=>T="str"
 | .int _=>T="int"
 | .ref p=>(T="list"/\∃xs,SqL K H p xs)\/(T="tuple"/\∃o,K.lookup p=some o/\o.cls = .type "tuple"/\o.dict=none) \/
   (T="dict"/\((∃j8,H p=some (.dK j8))\/∃j8,H p=some (.dT j8)))\/(T="set"/\∃S n,H p=some (.set S n))
 | _=>False
def zLr {x:V}{v:qv}(I:!3)(r:RelV x v)(ty:tyV X.K T x H):s.TypeIs v T/\∀a,v = .ref a->∃ob,s.heap.get? a=some ob/\ob.dict=none:=by
 cases x with
 | str z =>obtain⟨t,rfl⟩:=r;cases (ty);exact⟨Ib s z t,λ_ e=>nomatch e⟩
 | int i =>obtain⟨t,rfl⟩:=r;cases (ty);exact⟨typeIs_int s i t,λ_ e=>nomatch e⟩
 | ref p =>
  cases r;rcases ty with⟨rfl,xs,hq⟩ | ⟨rfl,o,hk,hc,hd⟩ | ⟨rfl,hk⟩ | ⟨rfl,S,n,hk⟩
  .obtain⟨j6,_,pl,_⟩:=I.list hq;refine⟨pl.isList.typeIs,λa e=>?_⟩;cases e;obtain⟨o,n,e,c,hd,_⟩:=pl;exact⟨o,e,hd⟩
  .refine⟨⟨o,I.kIn p o hk,hc⟩,λa e=>?_⟩;cases e;exact⟨o,I.kIn _ o hk,hd⟩
  .have z:∃o,s.heap.get? p=some o/\o.ExactDict:=by
    rcases hk with⟨j8,hk⟩ | ⟨j8,hk⟩
    .obtain⟨_,_,_,_,o,_,_,e,ex,_⟩:=I.hok p _ hk;exact⟨o,e,ex⟩
    .obtain⟨_,_,_,_,o,_,_,e,ex,_⟩:=I.hok p _ hk;exact⟨o,e,ex⟩
   obtain⟨o,e,ex⟩:=z;refine⟨⟨o,e,ex.1⟩,λa e2=>?_⟩;cases e2;exact⟨o,e,ex.2.1⟩
  .obtain⟨o,_,_,_,e,ex,_⟩:=I.hok p _ hk;refine⟨⟨o,e,ex.1⟩,λa e2=>?_⟩;cases e2;exact⟨o,e,ex.2.1⟩
 | _=>exact False.elim ty
def zDp (K:jk)(T:String)(r:V->kj->Hp->VK->Prop)(to:TE):TE:=λU H Q=>to U H λx H1=>tyV K T x H1/\r x [] H1 Q
def tBM (K:jk)(T:String)(r:V->kj->Hp->VK->Prop)(to:TE)(t:TA):TE:=λU H Q=>to U H λx H1=>tyV K T x H1/\t U H1 λxs H2=>r x xs H2 Q
variable{o:r8}{to:TE}{id:String}{r:V->kj->Hp->VK->Prop}
def zGA (pa:PlainAttrs T)(slot:Slot T name id)(hty:typeOf (.builtin id)=pure (.type "method_descriptor"))(hm:MtR X id r)(ho:PE X o to)(hbase:attributeBase o name X.env (eval o X.env)=eval o X.env:=by rfl) (hline:(apos.endLine==cpos.line)=true:=by rfl):PE X (.Call (.Attribute o name apos) [] [] cpos)<|zDp X.K T r to:=by intro Z s U H Q I h;refine wpAny_Call_method0_late hbase hline<|thn (ho Z s U H _ I h) λv s1 ⟨x,H1,I1,r1,ty,q1⟩=>?_;obtain⟨h1,h2⟩:=zLr I1 r1 ty;exact⟨T,id,pa,slot,hty,h1,h2,Yg rfl<|PySem.evalArgs_none<|hm Z s1 U H1 x [] v [] Q I1 r1 .nil q1⟩
def pQ (pa:PlainAttrs T)(slot:Slot T name id)(hty:typeOf (.builtin id)=pure (.type "method_descriptor"))(hm:MtR X id r)(ho:PE X o to)(ha:PA X (e::es) t)(hbase:attributeBase o name X.env (eval o X.env)=eval o X.env:=by rfl)(hfew:((backTo cpos<|starEach (e::es) X.env).all (λx => !x.1)&&(!38).all (λx=>x.1.isSome) && decide ((e::es).length+([]:List Keyword).length+(if ([]:List Keyword).isEmpty then 0 else 1) < 30))=true:=by rfl)(hline:(apos.endLine==cpos.line)=true:=by rfl) (hs:!23:=by rfl) (hplain:(backTo cpos (!25)).any (·.1)=false:=by rfl):PE X (.Call (.Attribute o name apos) (e::es) [] cpos)<|tBM X.K T r to t:=by refineλZ s U H Q I h=>wpAny_Call_method_late hbase hfew hline rfl<|thn (ho Z s U H _ I h) λv s1 ⟨x,H1,I1,r1,ty,q1⟩=>?_;obtain⟨h1,h2⟩:=zLr I1 r1 ty;refine⟨T,id,pa,slot,hty,h1,h2,?_⟩;have hA:=ha cpos Z s1 U H1 _ I1 q1;rw[hs] at hA ⊢;exact Yg (!6)<|Calls.evalArgs_plain<|thn hA λus s2 ⟨vs,H2,I2,r2,q2⟩=>hm Z s2 U H2 x vs v us Q I2 r1 r2 q2
end
def MtM (X:Cx)(id:String)(r:V->kj->Hp->VK->Prop):Prop :=
 ∀(Z:jm) (s:qw) (U:St) (H:Hp) (x:V) (xs:kj) (v:qv) (us:jn) (Q:VK),Inv X Z U H s->RelV x v->Vals xs us->r x xs H Q ->
  wpAny (!5) X.A (call (.builtin id)<|v::us) (EP X Z U Q) X.xe s
theorem Vals.one:∀ {x:V} {us:jn},Vals [x] us->∃u,us=[u]/\RelV x u
 | _,_,.cons r .nil=>⟨_,J,r⟩
theorem Vals.zero:∀ {us:jn},Vals [] us->us=[]
 | _,.nil=>rfl
theorem Vals.eraseIdx:∀ {xs:kj} {us:jn} (i:Nat),Vals xs us->Vals (xs.eraseIdx i) (us.eraseIdx i)
 | _,_,_,.nil=>.nil
 | _,_,0,.cons _ t=>t
 | _,_,i+1,.cons r t=>.cons r<|Vals.eraseIdx i t
theorem Vals.rep {xs:kj}{us:jn}(h:Vals xs us):∀k:Nat,Vals (List.replicate k xs).flatten (List.replicate k us).flatten
 | 0=>.nil
 | k+1=>by exact Vals.append h<|Vals.rep h k
theorem zUF {α:Type}:∀(l:!10) (i:Nat),(l.eraseIdx i).length<=l.length
 | [],_=>Qh _
 | _::_,0=>Yl _
 | _::r,i+1=>Nat.succ_le_succ<|zUF r i
theorem zUj (j6:jn):∀(k:Nat) (j7:jn), List.foldl (λx1 x2=>x1++x2) j7.toArray (List.replicate k j6.toArray)=(j7++(List.replicate k j6).flatten).toArray
 | 0,j7=>je
 | k+1,j7=>by
  have e:j7.toArray++j6.toArray=(j7++j6).toArray:=je;have e2:(j7++j6)++(List.replicate k j6).flatten=j7++(List.replicate (k+1) j6).flatten:=by rw[Yq,Yz,Th]
  rw[<-e2,<-zUj j6 k _,<-e,Yq,List.foldl_cons]
def Inv.lset {its':jn}{f:Array qv->Array qv}(I:!3)(hH:H l=some (.lst xs))(e:s.heap.get? l=some { cls:=.type "list",data:=.seq j6.toArray n }) (hf:f j6.toArray=its'.toArray) (hv:Vals ys its') (hz:ys.length<=sizeLine):Inv X Z U (upd H l<|.lst ys) { s with heap:=s.heap.update l<|Obj.mapSeq f,toks:=t' }:=by have q:=PySem.IsL.update e f;rw[hf] at q;exact I.write (by rw[hH];exact trivial) (.inl J) (λb' u hb hu=>(Rf _ _<|Ne.symm hb).trans hu) ⟨_,q⟩ ⟨hz,its',_,hv,q⟩
def Inv.lnew (I:!3)(hv:Vals ys j6)(hz:ys.length<=sizeLine):Inv X Z U (upd H s.heap.objs.size<|.lst ys) { s with heap:=s.heap.push { cls:=.type "list",data:=.seq j6.toArray },toks:=t' } :=
 I.laid (λ_ _ q=>Qe _ q) (Qh _) ⟨hz,j6,0,hv,Qa _ rfl⟩
def Inv.fresh (I:!3):H s.heap.objs.size=none:=I.hok.fresh<|Qh _
def Inv.lstM (I:!3)(hH:H l=some (.lst xs)):xs.length<=sizeLine/\∃(j6:jn) (n:Nat),Vals xs j6/\xs.length=j6.length/\s.heap.get? l=some { cls:=.type "list",data:=.seq j6.toArray n }:=by obtain⟨z,j6,n,r,e⟩:=I.hok l _ hH;exact⟨z,j6,n,r,r.length,e⟩
theorem zRU (h:n<=sizeLine):Builtin.List.listTooLong n=false:=Wu jc
def zOs:V->kj->Hp->VK->Prop:=λx vs H Q=>∃l xs y,x = .ref l/\vs=[y]/\H l=some (.lst xs)/\xs.length < sizeLine/\Q .non (upd H l<|.lst<|xs++[y])
def tJ:MtM X "list.append" zOs:=by
 intro Z s U H x vs v us Q I rx rv h;obtain⟨l,xs,y,rfl,rfl,hH,hz,q⟩:=h;cases rx;obtain⟨u,rfl,ru⟩:=rv.one;obtain⟨z,j6,n,r,hl,e⟩:=I.lstM hH;refine Tw F.slot_list_append ⟨_,e,J⟩ F.entry_list_append (F.args_list_append_2 _ _) (PySem.list_append l _ n u (!9)) ⟨e,⟨.non,_,I.lset hH e je (r.append<|.cons ru .nil) ?_,J,q⟩⟩
 grind
def zO4:V->kj->Hp->VK->Prop:=λx vs H Q=>∃l b xs zs,x = .ref l/\vs=[.ref b]/\H l=some (.lst xs)/\H b=some (.lst zs)/\xs.length+zs.length<=sizeLine/\Q .non (upd H l<|.lst<|xs++zs)
def zYL:MtM X "list.extend" zO4:=by
 intro Z s U H x vs v us Q I rx rv h;obtain⟨l,b,xs,zs,rfl,rfl,hH,hB,hz,q⟩:=h;cases rx;obtain⟨u,rfl,ru⟩:=rv.one;cases ru;obtain⟨z,j6,n,r,hl,e⟩:=I.lstM hH;obtain⟨z2,its2,n2,r2,hl2,e2⟩:=I.lstM hB;have hsz:j6.toArray.size+its2.toArray.size<=sizeLine:=by rw[Qd,Qd];lia
 have hlong:¬(!j6.toArray.isEmpty&&Builtin.List.listTooLong (j6.toArray.size+its2.toArray.size))=true:=by rw[zRU hsz,Bool.and_false];exact Wz
 refine Tw F.slot_list_extend ⟨_,e,J⟩ F.entry_list_extend (F.args_list_extend_2 _ _) (AutoSeq1.list_extend_list_list_0 l _ n b _ n2 hlong jc jc) ⟨e,e2,?_⟩;refine⟨.non,_,I.lset hH e je (r.append r2) ?_,J,q⟩;simp_all
def zLL:V->kj->Hp->VK->Prop:=λx vs H Q=>∃l xs i k y,x = .ref l/\vs=[.int i]/\H l=some (.lst xs) /\ -(2^63)<=i/\i < 2^63/\seqIndex? i xs.length=some k/\xs[k]?=some y/\Q y (upd H l<|.lst<|xs.eraseIdx k)
def zJs:MtM X "list.pop" zLL:=by
 intro Z s U H x vs v us Q I rx rv h;obtain⟨l,xs,i,k,y,rfl,rfl,hH,h1,h2,hk,hy,q⟩:=h;cases rx;obtain⟨u,rfl,ru⟩:=rv.one;obtain⟨t,rfl⟩:=ru;obtain⟨z,j6,n,r,hl,e⟩:=I.lstM hH;obtain⟨w,hw,rw'⟩:=r.get hy;refine Tw F.slot_list_pop ⟨_,e,J⟩ F.entry_list_pop (F.args_list_pop_2 _ _) (MeetsSeq.list_pop_at l _ n i t k w (fitsIndex_both h1 h2) (!9) (!9) (!9)) ⟨e,?_⟩;refine⟨y,_,I.lset hH e ?_ (r.eraseIdx k) ?_,rw',q⟩
 .simp
 .have:=zUF xs k;lia
def zDl:R2:=λx y H Q=>∃l b xs zs,x = .ref l/\y = .ref b/\H l=some (.lst xs)/\H b=some (.lst zs)/\xs.length+zs.length<=sizeLine/\∀p,H p=none->Q (.ref p) (upd H p<|.lst<|xs++zs)
def zFp:OpR X (binaryOp .Add) zDl:=by
 sleep 5
 obtain⟨l,b,xs,zs,rfl,rfl,hH,hB,hz,q⟩:=h;cases rx;cases ry;obtain⟨z,j6,n,r,hl,e⟩:=I.lstM hH;obtain⟨z2,its2,n2,r2,hl2,e2⟩:=I.lstM hB;refine PySem.P.add_list e e2 ?_ (!9);have ea:j6.toArray++its2.toArray=(j6++its2).toArray:=je;rw[ea];exact⟨.ref _,_,I.lnew (r.append r2) (!9),J,q _ I.fresh⟩
end L2
variable{t:TE}{tb:qp}{r:List<|qu×Bool}{xs:List<|qj×qu×qv}
namespace Att
open PySem.Calls
def zYa {P:Params}:∀(ns:kh) (vs:jn),WellAll P h vs (ns.map WData.int)->IntsAre vs ns:=by
 intro ns;induction ns with
 | nil =>intro vs w;cases w;exact .nil
 | cons n ns ih =>
  intro vs w;cases w with
  | cons a b =>cases a;exact .cons _ _<|ih _ b
def zN9 {l:OpenLaw}(hn:l.most=some n){P:Params}{args:List WData}{vals:jn}(hpre:l.row.toRowW.claim.pre args=true) (hwl:WellAll P h vals args):∃a vs ns,vals=[Value.ref a]/\args=[WData.list<|ns.map WData.int]/\h.get? a=some { cls:=.type "list",data:=.seq vs.toArray }/\IntsAre vs ns/\ns.length<=n:=by
 have hc:l.pre.holds [] { args:=args }=true:=(pre_splitW hpre).2;obtain⟨d,r,rfl,h1,h2⟩:=hasAllW_cons<|(pre_splitW hpre).1;obtain rfl:=hasAllW_nil h2;obtain⟨xs,rfl,h3⟩:=hasW_list h1;obtain⟨ns,rfl⟩:=items_int h3;have j5:ns.length<=n:=by
  have h4:(WTm.not<|.lt (.lit<|.int<|n)<|.len<|.arg 0).holds [] { args:=[.list<|ns.map .int] }=true:=by have h4:=(holds_andW hc).1;simp_all
  have h5:=condW_of h4<|w_not<|w_lt w_lit<|w_len_list<|w_arg rfl;simp_all
 cases hwl with
 | cons w1 w2 =>
  cases w2;cases w1 with
  | list ho hall=>exact⟨_,_,ns,J,J,ho,zYa ns _ hall,j5⟩
theorem zM6 (l:OpenLaw)(args:List WData):l.row.toRowW.claim.post args (.bool true) args=true :=
 postW_of
  (show WShape.has [] _ _=true by first | rfl | decide | simp[WShape.has])
  (w_eq_bool (w_res J) w_lit) rfl
def attach_call {l:OpenLaw}{loose:kg}(hn:l.most=some n) (hdf:d.params.defaults=[])(call:∀(w:qz) (s₀ s₁:qw) (mg mb:Str->km) (fa:qu) (o:Obj) (pm cd doc:qv) (a:qu) (vs:jn) (ns:kh), Ground q loose [] XP w s₀ mg mb s₁.heap->YP w s₁.heap -> s₁.heap.get? fa=some o->o.data = .func (docDef d.name d.params d.body d.scope pm cd doc)->s₁.heap.CodeRec cd d.name->mg d.name=some (.ref fa) -> s₁.heap.get? a=some { cls:=.type "list",data:=.seq vs.toArray }->IntsAre vs ns->ns.length<=n->s₁.gens=#[] -> codeAny (model l.prog w) callerA (.call (.ref fa) ⟨[.ref a],[]⟩) (λr s'=>r = .ok (.ret<|.bool true)/\OldK s₁.heap s'.heap/\s'.os=s₁.os/\AllBare s'.gens) s₁):WalkO q loose XP YP l.row.toRowW d [] λf vs=>PySem.call f vs:=by intro w s₀ s₁ mg mb G Y fa o pm cd doc dV kV ho hd hcd hD hmg hg args vals as hpre hlay hrd hwl hlo;obtain rfl:=Dflts.none hD hdf;obtain rfl:=Dflts.noKw hD;obtain⟨a,vs,ns,rfl,rfl,hobj,hints,j5⟩:=zN9 hn hpre hwl;refine enter_call<|Ye (call w s₀ s₁ mg mb fa o pm cd doc a vs ns G Y ho (fd_plain hd) hcd hmg hobj hints j5 hg) λr s' hq=>?_;obtain⟨rfl,h2,h3,h4⟩:=hq;exact⟨.inl ⟨.bool true,.bool true,[],J,λ_=>rfl,.bool true,zM6 l _,λ_=>⟨List.Pairwise.nil,λ_ hm=>(nomatch hm)⟩⟩,h2,h3,h4⟩
end Att
namespace L2
theorem zUv:∀ {vs:jn} {ns:kh},IntsAre vs ns->Vals (ns.map V.int) vs
 | _,_,.nil=>.nil
 | _,_,.cons n t h=>.cons ⟨t,J⟩<|zUv h
def zG5 (H:Hp):Prop:=∀b,H b=none\/∃o xs,H b=some (.frz o<|.lst xs)
def zKd {mb:Str->km}{k:Nat}{fa:qu}{s₁:qw}{vs:jn}{ns:kh}(KX:K.In s₁.heap) (hns:s₁.heap.Ns mainGlobals mg) (hb:s₁.heap.Ns builtinsNs mb) (hbb:∀x:Str,x≠"__name__"->mb x=bootBuiltins x) (hlim:s₁.heap.NoLimit) (hg:s₁.gens=#[])(ha:s₁.heap.get? a=some { cls:=.type "list",data:=.seq vs.toArray }) (hi:IntsAre vs ns) (hl:ns.length<=sizeLine) (hr:Room k callerA)(F:∀base:qx,K.In base->base.Ns mainGlobals mg->FnOk P w K mg base CX k fa fd [x] sp) (hbind:∀(s:qw) (u:qv),BindsTo s fd ⟨[u],[]⟩ [(x,u)])(hsp:∀H:Hp,zG5 H->SqL K H a (ns.map V.int)->sp [.ref a] H (λv _=>v = .bl true) λ_ _ _=>False)(hCX:∀H e s',CX [] H s₁ (λ_ _ _=>False) e s'->False):codeAny (model P w) callerA (.call (.ref fa) ⟨[.ref a],[]⟩) (λr s'=>r = .ok (.ret<|.bool true)/\OldK s₁.heap s'.heap/\s'.os=s₁.os/\AllBare s'.gens) s₁:=by
 have rv:=zUv hi;have core:∀H:Hp,zG5 H->SqL K H a (ns.map V.int)->HOk P w H s₁.heap->(∀b,H b≠none->b=a)->(H a≠none->K.lookup a=none) -> codeAny (model P w) callerA (.call (.ref fa) ⟨[.ref a],[]⟩) (λr s'=>r = .ok (.ret<|.bool true)/\OldK s₁.heap s'.heap/\s'.os=s₁.os/\AllBare s'.gens) s₁:=by
  intro H hO hS hok hA hK;have base_of:∀ {b:qu} {o:Obj},s₁.heap.get? b=some o->H b=none->(zTH _ H).get? b=some o:=λe n=>zLV e n;have noA:∀ {b:qu} {o:Obj} {es:Array DictEntry} {ep:Nat},s₁.heap.get? b=some o->o.data = .dict es ep->H b=none:=λ{b o es ep} e d=>by
   cases q:H b with
   | none=>rfl
   | some u =>have e':b=a:=hA b (by rw[q];simp);subst e';rw[ha] at e;cases e;have d':Data.seq _ _=Data.dict es ep:=d;cases d'
  have nsK:∀ {b:qu} {m:Str->km},s₁.heap.Ns b m->(zTH _ H).Ns b m:=λ{b m} ⟨o,es,ep,e,d,r⟩=>⟨o,es,ep,base_of e<|noA e d,d,r⟩
  have hKb:K.In<|zTH _ H:=λb o e=>base_of (KX b o e) (by
   cases q:H b with
   | none=>rfl
   | some u =>have e':b=a:=hA b (by rw[q];simp);subst e';rw[hK (by rw[q];simp)] at e;cases e)
  have hM:Mod K mg<|zTH _ H:=⟨hKb,nsK hns,⟨mb,nsK hb,hbb⟩,let ⟨mc,h1,h2⟩:=hlim;⟨mc,nsK h1,h2⟩⟩
  have e0:Env0 P w K mg (zTH _ H) callerA [] s₁ H:=⟨J,hM,λb o e=>zHK e,Ob<|zMH _ _,trivial,λb hb=>absurd (show b∈([]:kn) from hb) je,hok,.of_eq hg⟩
  refine Ye ((F _ hKb<|nsK hns).run _ [] s₁ H ⟨[.ref a],[]⟩ [.ref a] [.ref a] _ _ hr e0 (hbind s₁<|.ref a) (.cons J .nil)<|hsp H hO hS) λr s' h=>?_;cases r with
  | error e=>exact(hCX H e s' h).elim
  | ok fl =>
   cases fl with
   | next=>exact False.elim h
   | brk=>exact False.elim h
   | cont=>exact False.elim h
   | ret u =>
    obtain⟨v,H',os,bare,un,hok',r',q⟩:=h;have q':v = .bl true:=q;subst q';obtain rfl:u=Value.bool true:=r';refine⟨J,OldK.of_keep λb o e=>?_,os,bare⟩;cases q:H b with
    | none=>exact un.keep b o e q (by intro z;exact absurd (show b∈([]:kn) from z) je) je
    | some u =>
     rcases hO b with z | ⟨ob,xs,z⟩
     .rw[q] at z;cases z
     .have z2:=un.frzs b ob _ z;obtain⟨e1,_⟩:=hok b _ z;obtain⟨e2,_⟩:=hok' b _ z2;rw[e] at e1;cases e1;exact e2
 cases hk:K.lookup a with
 | some o =>have e:=KX a o hk;rw[ha] at e;cases e;refine core (λ_=>none) (λ_=>.inl J) (.inr ⟨_,vs.toArray,_,hk,J,J,J,by rw[Qd,hi.length];exact hl,by simpa using rv⟩) (λb u z=>by have z':(none:Option HO)=some u:=z;cases z') (λb z=>absurd J z) λz=>absurd J z
 | none =>
  refine core (λb=>if b=a then some (.frz { cls:=.type "list",data:=.seq vs.toArray } (.lst<|ns.map _)) else none) (λb=>?_) (.inl<|.inr ⟨{ cls:=.type "list",data:=.seq _ },Qg rfl⟩) (λb u z=>?_) (λb z=>?_) λ_=>hk
  .by_cases hb:b=a
   .exact .inr ⟨_,_,Qg hb⟩
   .exact .inl (Qc hb)
  .by_cases hb:b=a
   .have z':=(Qg hb).symm.trans z;cases z';subst hb;exact⟨ha,by rw[Qy];exact hl,vs,_,rv,ha⟩
   .have z':=(Qc hb).symm.trans z;cases z'
  .by_cases hb:b=a
   .exact hb
   .simp_all
def zIf {l:PySem.W.OpenLaw}{k:Nat}{loose:kg}{K:Params->jk}{CX:qz->CXT}{sp:qz->Sp}(hn:l.most=some n) (hn2:n<=sizeLine) (hdf:d.params.defaults=[]) (hr:Room k callerA)(hY:∀(w:qz) (h:qx),YP w h->(K w.params).In h)(F:∀(w:qz) (mg:Str->km) (fa:qu) (h:qx),(K w.params).In h->h.Ns mainGlobals mg->mg d.name=some (.ref fa) -> ∃fd:FuncData,(∀(s:qw) (u:qv),BindsTo s fd ⟨[u],[]⟩ [(x,u)]) /\ ∀base:qx,(K w.params).In base->base.Ns mainGlobals mg->FnOk l.prog w (K w.params) mg base (CX w) k fa fd [x] (sp w))(hsp:∀(w:qz) (H:Hp) (a:qu) (ns:kh),ns.length<=n->zG5 H->SqL (K w.params) H a (ns.map V.int)->sp w [.ref a] H (λv _=>v = .bl true) λ_ _ _=>False)(hCX:∀(w:qz) (H:Hp) (s:qw) (e:qv) (s':qw),CX w [] H s (λ_ _ _=>False) e s'->False):PySem.W.WalkO q loose XP YP l.row.toRowW d [] λf vs=>PySem.call f vs:=by refine Att.attach_call hn hdf λw s₀ s₁ mg mb fa o pm cd doc a vs ns G Y ho hd hcd hmg hobj hints j5 hg=>?_;have KX:=hY w _ Y;obtain⟨fd,hb,hF⟩:=F w mg fa _ KX G.T.g hmg;exact zKd KX G.T.g G.T.b G.T.builtins G.T.nolimit hg hobj hints (Wq j5 hn2) hr hF hb (λH hO hS=>hsp w H a ns j5 hO hS) λH e s'=>hCX w H s₁ e s'
abbrev CX0:CXT:=λ_ _ _ _ _ _=>False
abbrev E0:XK:=λ_ _ _=>False
def gH:oZ CX0 X E0:=λ_ _ _ _ _ _ _ h=>h.elim
structure Fun (K:jk)(x qual:Str)(st:r9)(f:qu)(fd:FuncData):Prop where
 ex:∃(oc:qv) (od:kq) (kV doc pm:qv) (an:kq) (j9 ct:qv) (osl:Array km),
  fd=PySem.W.fnOf x qual (qF st) (xL st) (zV st) .none kV doc pm an j9 ct/\K.lookup f=some ⟨oc,od,.func fd,osl⟩/\codeIn K j9 qual=true
 kp:keepIn K (.ref f)=true
def Fun.ok {k:Nat}(F:Fun K x qual st f fd)(S:FnScope N ps<|zV st)(len:∀vs H Q E,sp vs H Q E->vs.length=ps.length)(hbody:∀(j9:qv) (A:qy) (outer:qb) (s:qw) (H:Hp) (vs:kj) (Q:VK) (E:XK),Room k (!37)->sp vs H Q E -> ∃t,PSs (qP CX0 P w K mg base N qual (zV st) f j9 A outer s H E).nox (xL st) t/\t { nx:=λ_ H'=>Q .non H',rt:=Q } (oJ N vs) H):FnOk P w K mg base CX0 (k+1) f fd ps sp:=by obtain⟨oc,od,kV,doc,pm,an,j9,ct,osl,rfl,lk,hcd⟩:=F.ex;refine zGN lk hcd S len λA _ s H vs Q E hr hsp=>?_;obtain⟨t,h,q⟩:=hbody j9 A _ s H vs Q E hr hsp;exact⟨t,h.nox,q⟩
def Fun.binds (F:Fun K x qual st f fd)(h:∀(kV doc pm:qv) (an:kq) (j9 ct:qv) (us:jn),us.length=ps.length->bindArgs (PySem.W.fnOf x qual (qF st) (xL st) (zV st) .none kV doc pm an j9 ct) ⟨us,[]⟩=pure (ps.zip us)):Binds K fd ps []:=by obtain⟨oc,od,kV,doc,pm,an,j9,ct,osl,rfl,lk⟩:=F.ex;exact .all<|h kV doc pm an j9 ct
def zSG {oc:qv}{an:kq}{kV doc pm j9 ct:qv}(l:K.lookup f=some ⟨oc,od,.func<|PySem.W.fnOf x qual (qF st) (xL st) (zV st) .none kV doc pm an j9 ct,osl⟩)(c:codeIn K j9 qual=true) (k:keepIn K (.ref f)=true):Fun K x qual st f<|PySem.W.fnOf x qual (qF st) (xL st) (zV st) .none kV doc pm an j9 ct:=⟨⟨oc,od,kV,doc,pm,an,j9,ct,osl,J,l,c⟩,k⟩
def pv (i:Nat)(hN:!27:=by rfl)(hv:!31:=by exact visQ rfl)(hd:!20:=by decide)(hcd:!30:=by decide):PE X (.Name x pos)<|zMw i:=wI hN hv hd hcd
def Same (H H':Hp):Prop:=∀b o,H b=some o->H' b=some o
def Same.refl (H:Hp):Same H H:=λ_ _ h=>h
def Same.trans {H1:Hp}(a:Same H H1)(b:Same H1 H2):Same H H2:=λc o h=>b c o<|a c o h
def Same.free (e:Same H H')(h:H' l=Option.none):H l=Option.none:=by
 cases q:H l with
 | none=>rfl
 | some o =>rw[e l o q] at h;cases h
def Same.seq {xs:kj}(e:Same H H')(h:SqL K H a xs):SqL K H' a xs:=by
 rcases h with(h | ⟨o,h⟩) | h
 .exact .inl (.inl<|e _ _ h)
 .exact .inl (.inr ⟨o,e _ _ h⟩)
 .exact .inr h
section
variable [DecidableEq κ]
def fX (j8:List<|κ×V)(k:κ):ql:=(j8.find? λkv=>decide (kv.1=k)).map (·.2)
def cK (j8:List<|κ×V)(k:κ)(v:V):List (κ×V) :=if (j8.any λkv=>decide (kv.1=k))=true then j8.map (λkv=>if kv.1=k then(kv.1,v) else kv) else j8++[(k,v)]
def zYn (j8:List<|κ×V)(k:κ):List<|κ×V:=j8.filter λkv=>decide (kv.1≠k)
def zV0 {p:κ×V}{r:List<|κ×V}{k:κ}(e:p.1=k):fX (p::r) k=some p.2:=by simp[fX,e]
def zVJ {p:κ×V}{r:List<|κ×V}{k:κ}(e:¬p.1=k):fX (p::r) k=fX r k:=by simp[fX,e]
theorem zZk (k:κ):∀j8:List<|κ×V,(j8.any λkv=>decide (kv.1=k))=(fX j8 k).isSome
 | []=>rfl
 | p::r=>by
  rw[Og]
  by_cases e:p.1=k
  .simp only[zV0 e,Qb e,Bool.true_or,Option.isSome_some]
  .rw[zVJ e,Wu e];exact zZk k r
def zYy (j8:List<|κ×V)(k:κ)(v:V):(cK j8 k v).length<=j8.length+1:=by
 unfold cK;split
 .simp
 .simp
def zJe {j8:List<|κ×V}{k:κ}(v:V)(h:fX j8 k=none):cK j8 k v=j8++[(k,v)]:=by unfold cK;rw[zZk,h];exact Qc je
def RelO.isSome_eq {u:km}(r:RelO o u):o.isSome=u.isSome:=by
 cases o with
 | none=>cases u with
  | none=>rfl
  | some _=>exact(r).elim
 | some _=>cases u with
  | none=>exact(r).elim
  | some _=>rfl
def KV.val {j8:List<|κ×V}{vs:List<|κ×qv}(r:KV j8 vs)(k:κ):RelO (fX j8 k)<|valueAt vs k:=by
 induction r with
 | nil=>exact True.intro
 | @cons p q ps qs h t ih =>
  obtain⟨h1,h2⟩:=h
  by_cases e:p.1=k
  .have e':=h1.symm.trans e;have b:valueAt (q::qs) k=some q.2:=by simp[valueAt,e']
   rw[zV0 e,b];exact h2
  .have e':¬q.1=k:=λz=>e<|h1.trans z;have b:valueAt (q::qs) k=valueAt qs k:=by simp[valueAt,e']
   rw[zVJ e,b];exact ih
def KV.any {j8:List<|κ×V}{vs:List<|κ×qv}(r:KV j8 vs)(k:κ):(j8.any λkv=>decide (kv.1=k))=vs.any λkv=>decide (kv.1=k):=by
 induction r with
 | nil=>rfl
 | cons h t ih=>rw[Og,Og,ih,h.1]
def KV.repl {j8:List<|κ×V}{vs:List<|κ×qv}(r:KV j8 vs)(k:κ)(ry:RelV y u):KV (j8.map λkv=>if kv.1=k then(kv.1,y) else kv)<|vs.map λkv=>if kv.1=k then(kv.1,u) else kv:=by
 induction r with
 | nil=>exact .nil
 | @cons p q ps qs h t ih =>
  refine .cons ?_ ih
  by_cases e:p.1=k
  .simp_all
  .simp_all
def KV.put {j8:List<|κ×V}{vs:List<|κ×qv}(r:KV j8 vs)(k:κ)(ry:RelV y u):KV (cK j8 k y)<|stored vs k u:=by
 unfold cK stored;rw[r.any k]
 by_cases e:(vs.any λkv=>decide (kv.1=k))=true
 .rw[Qg e,Qg e];exact r.repl k ry
 .rw[Qc e,Qc e];exact Paired.snoc r ⟨J,ry⟩
def KV.drop {j8:List<|κ×V}{vs:List<|κ×qv}(r:KV j8 vs)(k:κ):KV (zYn j8 k)<|without vs k:=by
 unfold zYn without;induction r with
 | nil=>exact .nil
 | @cons p q ps qs h t ih =>
  obtain⟨h1,h2⟩:=h;rw[Rn,Rn]
  by_cases e:p.1=k
  .simp_all
  .have e':¬q.1=k:=λz=>e<|h1.trans z;have a:decide (p.1≠k)=true:=by simp[e]
   have b:decide (q.1≠k)=true:=by simp[e']
   rw[Qg a,Qg b];exact .cons ⟨h1,h2⟩ ih
def KV.keys {j8:List<|κ×V}{vs:List<|κ×qv}(r:KV j8 vs):j8.map (·.1)=vs.map (·.1):=by
 induction r with
 | nil=>rfl
 | cons h t ih=>rw[Qx,Qx,ih,h.1]
theorem KV.length {j8:List<|κ×V}{vs:List<|κ×qv}(r:KV j8 vs):j8.length=vs.length:=Rv r
theorem zJS (j8:List<|κ×V)(k:κ):(zYn j8 k).length<=j8.length:=Ed _ _
end
def zU8 {k:Key}(r:RelV (kV k) u):(uD P w).is k u=true:=by
 cases k with
 | inl i=>obtain⟨t,e⟩:=(r);subst e;exact zSe P w i t
 | inr x=>obtain⟨t,e⟩:=(r);subst e;exact zRC P w x t
theorem zUk {P:Program}{w:qz}:∀ {ks:qj} {us:jn},Vals (ks.map kV) us->ItemsAre (uD P w) ks us
 | [],_,r=>by rw[Ig] at r;cases r;exact .nil
 | k::ks,_,r=>by
  rw[Qx] at r;cases r with
  | cons h t=>exact .cons (zU8 h)<|zUk t
abbrev KTd (H:Hp):List (qj×V)->List (qj×qu×qv)->Prop:=Paired λp q=>p.1=q.1/\H q.2.1=some (.tup<|p.1.map kV)/\RelV p.2 q.2.2
def KTd.val {j8:List<|qj×V}(r:KTd H j8 xs)(k:qj):RelO (fX j8 k) ((atKey xs k).map (·.2)):=by
 induction r with
 | nil=>exact True.intro
 | @cons p q ps qs h t ih =>
  obtain⟨h1,_,h2⟩:=h
  by_cases e:p.1=k
  .have e':q.1=k:=h1.symm.trans e;have b:atKey (q::qs) k=some q.2:=by simp[atKey,Yp,e']
   rw[zV0 e,b];exact h2
  .have e':¬q.1=k:=λz=>e<|h1.trans z;have b:atKey (q::qs) k=atKey qs k:=by simp[atKey,Yp,e']
   rw[zVJ e,b];exact ih
def KTd.repl {j8:List<|qj×V}(r:KTd H j8 xs)(k:qj)(ry:RelV y u):KTd H (j8.map λkv=>if kv.1=k then(kv.1,y) else kv)<|xs.map<|putAt k u:=by
 induction r with
 | nil=>exact .nil
 | @cons p q ps qs h t ih =>
  rw[Qx,Qx];refine .cons ?_ ih;obtain⟨h1,h2,h3⟩:=h;unfold putAt
  by_cases e:p.1=k
  .rw[Qg e,Qg<|h1.symm.trans e];exact⟨h1,h2,ry⟩
  .rw[Qc e,Qc λz=>e<|h1.trans z];exact⟨h1,h2,h3⟩
def KTd.put {j8:List<|qj×V}(r:KTd H j8 xs)(k:qj){b:qu}(hb:H b=some (.tup<|k.map kV))(ry:RelV y u):KTd H (cK j8 k y)<|storedH xs k b u:=by
 have e:(j8.any λkv=>decide (kv.1=k))=(atKey xs k).isSome:=by rw[zZk,(r.val k).isSome_eq,Uk]
 unfold cK storedH;rw[e]
 by_cases q:(atKey xs k).isSome=true
 .rw[Qg q,Qg q];exact r.repl k ry
 .rw[Qc q,Qc q];exact Paired.snoc r ⟨J,hb,ry⟩
def KTd.keeps {j8:List<|qj×V}(r:KTd H j8 xs)(ht:∀b ys,H b=some (.tup ys)->H' b=some (.tup ys)):KTd H' j8 xs :=
 Paired.mapP r λ_ _ z=>⟨z.1,ht _ _ z.2.1,z.2.2⟩
def zDw {u:HO}(ok:HOk P w H h)(e:Rd H a u):ObjOk P w H h a u:=e.ok ok
def zXq (ok:HOk P w H h)(e:Rd H a<|.dK j8):j8.length<=sizeLine/\(a==sysModules)=false/\∃vs,KV j8 vs/\h.DictOf (uD P w) a vs :=show ObjOk P w H h a _ from zDw ok e
def zKT (ok:HOk P w H h)(e:H a=some (.dK j8)):j8.length<=sizeLine/\(a==sysModules)=false/\∃vs,KV j8 vs/\h.DictOf (uD P w) a vs:=zXq ok<|.inl e
def zQZ (H:Hp)(a:qu)(y:V)(r:ql):Prop :=
 ∃j8 k,Rd H a (.dK j8)/\y=kV k/\r=fX j8 k
def DPut (H:Hp)(a:qu)(y v:V)(H':Hp):Prop:=∃j8 k,H a=some (.dK j8)/\y=kV k/\j8.length < sizeLine/\H'=upd H a (.dK<|cK j8 k v)
theorem DPut.k {k:Key}(e:H a=some (.dK j8))(hl:j8.length < sizeLine):DPut H a (kV k) v<|upd H a<|.dK<|cK j8 k v:=⟨j8,k,e,J,hl,J⟩
section
variable{r:qv}
def Inv.big (I:!3):sysModules < s.heap.objs.size:=by exact Nat.lt_trans jb<|(I.mod.glob.keeps I.bk).lt
def zMT {Q:jl}(hu:A.units+1 < cLine)(I:!3)(g:zQZ H a y<|some v)(ry:RelV y u)(h:∀w' s',Inv X Z U H s'->RelV v w'->Q w' s'):wpAny (!5) A (getItem (.ref a) u) Q E s:=by obtain⟨j8,k,e,ey,l⟩:=g;subst ey;obtain⟨z,hd,vs,rel,dd⟩:=zXq I.hok e;obtain⟨w',hw,rw'⟩:=RelO.some_of (by rw[l];exact rel.val k);exact wpAny_getItem_of (zU8 ry) dd.mapOf hw<|h w' _ (I.tok _) rw'
def zCX {Q:jl}(hu:A.units+1 < cLine)(I:!3)(g:zQZ H a y o)(ry:RelV y u)(h:∀s',Inv X Z U H s'->Q (.bool o.isSome) s'):wpAny (!5) A (compareOp .In u<|.ref a) Q E s:=by obtain⟨j8,k,e,ey,l⟩:=g;subst ey;obtain⟨z,hd,vs,rel,dd⟩:=zXq I.hok e;refine wpAny_in_of (zU8 ry) hd dd.mapOf ?_;rw[<-(rel.val k).isSome_eq,<-l];exact h _<|I.tok _
def zHq {Q:jl}(hu:A.units+1 < cLine)(I:!3)(g:zQZ H a y o)(ry:RelV y u)(h:∀s',Inv X Z U H s'->Q (.bool (!o.isSome)) s'):wpAny (!5) A (compareOp .NotIn u<|.ref a) Q E s:=by obtain⟨j8,k,e,ey,l⟩:=g;subst ey;obtain⟨z,hd,vs,rel,dd⟩:=zXq I.hok e;refine wpAny_notIn_of (zU8 ry) hd dd.mapOf ?_;rw[<-(rel.val k).isSome_eq,<-l];exact h _<|I.tok _
def zTR {ob:HO}(I:!3)(mu:Mut<|H a)(hs:Heap.SameBut a s.heap h')(he:∃q,h'.get? a=some q)(new:ObjOk X.prog X.w (upd H a ob) h' a ob):Inv X Z U (upd H a ob) { s with heap:=h',toks:=t' } :=
 I.write mu (.inl J) (λb q hb z=>(hs.2 b hb).trans z) he new
def zL2 {vs:List<|Key×qv}(z:j8.length<=sizeLine)(hd:(a==sysModules)=false)(rel:KV j8 vs)(dd:h'.DictOf (uD P w) a vs):ObjOk P w H' h' a<|.dK j8:=⟨z,hd,vs,rel,dd⟩
def zMz {Q:Unit->qw->Prop}(hu:A.units+1 < cLine)(I:!3)(g:DPut H a y v H')(ry:RelV y u)(rv:RelV v r)(h:∀s',Inv X Z U H' s'->Q () s'):wpAny (!5) A (setItem (.ref a) u r) Q E s:=by
 obtain⟨j8,k,e,ey,l,eH⟩:=g;subst ey eH;obtain⟨z,hd,vs,rel,dd⟩:=zKT I.hok e;have hz:vs.length<=sizeLine:=by rw[<-rel.length];exact z
 have hl:(cK j8 k v).length<=sizeLine:=by have:=zYy j8 k v;lia
 refine wpAny_setItem_pairs (hsz:=hz) (zU8 ry) dd λh' dd' hs=>h _ ?_;have he:∃q,h'.get? a=some q:=let ⟨q,_,_,hq,_⟩:=dd';⟨q,hq⟩;exact zTR I (by rw[e];exact True.intro) hs he<|zL2 hl hd (rel.put k rv) dd'
variable{k:Key}
def zDW {more:jn}{Q:jl}(I:!3)(e:H a=some (.dK j8))(ry:RelV (kV k) u)(l:fX j8 k=some v)(hm:more=[]\/∃x,more=[x])(h:∀w' s',Inv X Z U (upd H a<|.dK<|zYn j8 k) s'->RelV v w'->Q w' s'):wpAny (!5) A (call (.builtin "dict.pop")<|.ref a::u::more) Q E s:=by
 obtain⟨z,hd,vs,rel,dd⟩:=zKT I.hok e;obtain⟨w',hw,rw'⟩:=RelO.some_of (by rw[<-l];exact rel.val k);have hp:(keyPart u).isSome=true:=by
  cases k with
  | inl i=>obtain⟨t,q⟩:=(ry);subst q;rfl
  | inr x=>obtain⟨t,q⟩:=(ry);subst q;rfl
 have ha:argsOk "dict.pop" ⟨.ref a::u::more,[]⟩:=by
  rcases hm with q | ⟨x,q⟩
  .subst q;exact PySem.F.args_dict_pop_2 _ _
  .subst q;exact PySem.F.args_dict_pop_3 _ _ _
 refine call_meetsIn PySem.F.slot_dict_pop dd.typeIs PySem.F.entry_dict_pop ha (meets_dict_pop_there _ a (zU8 ry) more hm hp) ⟨vs,w',dd,by rw[<-rel.length];exact z,hw,λh' dd' hs=>h w' _ ?_ rw'⟩;have he:∃q,h'.get? a=some q:=let ⟨q,_,_,hq,_⟩:=dd';⟨q,hq⟩;exact zTR I (by rw[e];exact True.intro) hs he<|zL2 (Wq (zJS j8 k) z) hd (rel.drop k) dd'
end
def zF4 (i:r8):Prop:=∀ov iv,subscripted i false ov iv=operate [ov,iv] (getItem ov iv)
def zHC {slice:r8}{id:String}{Q:jl}(hl:typeLookup (.type T) "__getitem__"=pure (some<|.builtin id)) (hs:zF4 slice)(h:wpAny (!8) A (eval value env) (λo s₁=>wpAny (!8) A (eval slice env) (λi s₂=>s₂.TypeIs o T/\wpAny (!8) A (getItem o i) Q E s₂) E s₁) E s):wpAny (!8) A (eval (.Subscript value slice pos) env) Q E s:=by
 refine Subscript_<|Ea h (λo s₁ h₁=>Ea h₁ (λi s₂ h₂=>?_) λ_ _ x=>x) λ_ _ x=>x;obtain⟨hT,h₂⟩:=h₂;refine Qw<|Qw<|wpAny_specialOf hT hl ?_;have fin:wpAny (!8) A (subscripted slice false o i) (λr s₃ => wpAny (!8) A (letTemporaryGo value o r >>= λ_=>pure r) Q E s₃) E s₂:=by rw[hs o i];exact wpAny_operating<|Ea h₂ (λr s₃ h₃ => Qw (wpAny_letTemporaryGo<|Qo h₃)) λ_ _ x=>x
 first
  | exact Qo (Qw fin)
  | exact _ _ fin
def zSj (I:!3)(g:zQZ H a y o):s.TypeIs (.ref a) "dict":=by obtain⟨j8,k,e,_⟩:=g;obtain⟨_,_,vs,_,dd⟩:=zXq I.hok e;exact dd.typeIs
def zEs (td ty:TE):TE:=λU H Q=>td U H λx H1=>ty U H1 λy H2=>∃a v,x = .ref a/\zQZ H2 a y (some v)/\Q v H2
def zCU (ty td:TE):TE:=λU H Q=>ty U H λy H1=>td U H1 λx H2=>∃a o,x = .ref a/\zQZ H2 a y o/\Q (.bl o.isSome) H2
def zHj (ty td:TE):TE:=λU H Q=>ty U H λy H1=>td U H1 λx H2=>∃a o,x = .ref a/\zQZ H2 a y o/\Q (.bl (!o.isSome)) H2
def zE7 (td ty tv:TE):TS:=λD U H=>tv U H λv H1=>td U H1 λx H2=>ty U H2 λy H3=>∃a H4,x = .ref a/\DPut H3 a y v H4/\D.nx U H4
section
variable{o i:r8}{td ty tv:TE}
def zI9 (hu:X.A.units+1 < cLine)(ho:PE X o td)(hi:PE X i ty)(hs:zF4 i):PE X (.Subscript o i pos)<|zEs td ty:=by refineλZ s U H Q I h=>zHC PySem.F.slot_dict_getitem.lookup hs<|thn (ho Z s U H _ I h) λu s1 ⟨x,H1,I1,rx,q1⟩=>thn (hi Z s1 U H1 _ I1 q1) λiv s2 ⟨y,H2,I2,ry,a,v,ex,g,q2⟩=>?_;subst ex;obtain rfl:=rx;exact⟨zSj I2 g,zMT hu I2 g ry λw' s3 I3 rw'=>⟨v,H2,I3,rw',q2⟩⟩
def zFK (hu:X.A.units+1 < cLine)(hi:PE X i ty)(ho:PE X o td):PC X .In i o<|zCU ty td:=by refineλZ s U H Q I h=>thn (hi Z s U H _ I h) λiv s1 ⟨y,H1,I1,ry,q1⟩=>thn (ho Z s1 U H1 _ I1 q1) λu s2 ⟨x,H2,I2,rx,a,ov,ex,g,q2⟩=>?_;subst ex;obtain rfl:=rx;exact zCX hu I2 g ry λs3 I3=>⟨.bl ov.isSome,H2,I3,J,q2⟩
def zNp (hu:X.A.units+1 < cLine)(hi:PE X i ty)(ho:PE X o td):PC X .NotIn i o<|zHj ty td:=by refineλZ s U H Q I h=>thn (hi Z s U H _ I h) λiv s1 ⟨y,H1,I1,ry,q1⟩=>thn (ho Z s1 U H1 _ I1 q1) λu s2 ⟨x,H2,I2,rx,a,ov,ex,g,q2⟩=>?_;subst ex;obtain rfl:=rx;exact zHq hu I2 g ry λs3 I3=>⟨.bl _,H2,I3,J,q2⟩
def zOy (hu:X.A.units+1 < cLine)(ho:PE X o td)(hi:PE X i ty)(hv:PE X value tv)(hs:swapsWith value (some<|.Subscript o i pos') pos.line X.env=pure false):PS X (.Assign [.Subscript o i pos'] value pos)<|zE7 td ty tv:=by refineλZ s U H D I h=>wpAny_Assign_Subscript (thn (hv Z s U H _ I h) λr s1 ⟨v,H1,I1,rv,q1⟩=>thn (ho Z s1 U H1 _ I1 q1) λu s2 ⟨x,H2,I2,rx,q2⟩=>thn (hi Z s2 U H2 _ I2 q2) λiv s3 ⟨y,H3,I3,ry,a,H4,ex,g,q3⟩=>?_) hs;subst ex;obtain rfl:=rx;exact zMz hu I3 g ry rv λs4 I4=>⟨U,H4,I4,q3⟩
def zJP (h:qx)(hb:sysModules < h.objs.size):ObjOk P w H (h.push { cls:=.type "dict",data:=.dict #[] }) h.objs.size (.dK []) :=
 ⟨Wm _,Rb.mpr<|Ne.symm<|Qn hb,[],.nil,Heap.DictOf.new h⟩
def zF5:TE:=λ_ H Q=>∀p,H p=none->Q (.ref p) (upd H p<|.dK [])
def zRm:PE X (.Dict [] [] pos) zF5:=λZ s U H Q I h =>wpAny_Dict_empty ⟨.ref s.heap.objs.size,_,I.laid (λ_ _ q=>Qe _ q) (Qh _)<|zJP _ I.big,J,h _<|I.hok.fresh<|Qh _⟩
end
structure M1 (X:Cx)(o:r8)(m:Str)(apos:Pos)(e:r8)(cpos:Pos):Prop where
 base:attributeBase o m X.env (eval o X.env)=eval o X.env
 few:((backTo cpos (starEach [e] X.env)).all (λx => !x.1)&&(!38).all (λx=>x.1.isSome)
  && decide (([e]:qt).length+([]:List Keyword).length+(if ([]:List Keyword).isEmpty then 0 else 1) < 30))=true
 line:(apos.endLine==cpos.line)=true
 trees:backTo cpos (starEach [e] X.env)=[(false,eval e X.env)]
structure M2 (X:Cx)(o:r8)(m:Str)(apos:Pos)(e f:r8)(cpos:Pos):Prop where
 base:attributeBase o m X.env (eval o X.env)=eval o X.env
 few:((backTo cpos (starEach [e,f] X.env)).all (λx => !x.1)&&(!38).all (λx=>x.1.isSome)
  && decide (([e,f]:qt).length+([]:List Keyword).length+(if ([]:List Keyword).isEmpty then 0 else 1) < 30))=true
 line:(apos.endLine==cpos.line)=true
 trees:backTo cpos (starEach [e,f] X.env)=[(false,eval e X.env),(false,eval f X.env)]
def IsD (H:Hp)(a:qu):Prop:=∃j8,Rd H a<|.dK j8
def zJw (I:!3)(d:IsD H a):s.TypeIs (.ref a) "dict"/\(∀b,Value.ref a = .ref b->∃ob,s.heap.get? b=some ob/\ob.dict=none)/\(a==sysModules)=false:=by obtain⟨j8,e⟩:=d;obtain⟨_,hd,vs,_,dd⟩:=zXq I.hok e;refine⟨dd.typeIs,λb q=>?_,hd⟩;cases q;obtain⟨ob,_,_,h1,h2,_⟩:=dd;exact⟨ob,h1,h2.2.1⟩
def zFZ (td ty:TE):TE:=λU H Q=>td U H λx H1=>∃a,x = .ref a/\IsD H1 a/\ty U H1 λy H2=>∃j8 k v,H2 a=some (.dK j8)/\y=kV k/\fX j8 k=some v/\Q v (upd H2 a<|.dK<|zYn j8 k)
section
variable{o:r8}{td ty:TE}
def zJW (ho:PE X o td)(he:PE X e ty)(m:M1 X o "pop" apos e cpos):PE X (.Call (.Attribute o "pop" apos) [e] [] cpos)<|zFZ td ty:=by refineλZ s U H Q I h=>wpAny_Call_method m.base m.few m.line PySem.F.plainAttrs_dict PySem.F.slot_dict_pop PySem.F.type_dict_pop<|thn (ho Z s U H _ I h) λu s1 ⟨x,H1,I1,rx,a,ex,d,q1⟩=>?_;subst ex;obtain rfl:=rx;obtain⟨t1,t2,_⟩:=zJw I1 d;refine⟨t1,t2,?_⟩;rw[m.trees];refine Yg rfl<|Calls.evalArgs_plain<|Calls.spliced_cons<|thn (he Z s1 U H1 _ I1 q1) λiv s2 ⟨y,H2,I2,ry,j8,k,v,ea,ey,l,q2⟩=>Calls.spliced_nil ?_;subst ey;exact zDW I2 ea ry l (.inl J) λw' s3 I3 rw'=>⟨v,_,I3,rw',q2⟩
end
def DEs (h:qx)(d:qu)(es:Array DictEntry)(ep:Nat):Prop:=∃o,h.get? d=some o/\o.ExactDict/\o.data = .dict es ep
def DEs.keep {d:qu}{es:Array DictEntry}(x:DEs h d es ep)(k:∀o,h.get? d=some o->h'.get? d=some o):DEs h' d es ep:=let ⟨o,h1,h2⟩:=x;⟨o,k o h1,h2⟩
section
variable{d I:qu}{es:Array DictEntry}
abbrev kiO (d:qu)(i n ep:Nat):Obj:={ cls:=.type "dict_keyiterator",data:=.fields #[.ref d,rawInt i,rawInt n,rawInt ep] }
def zIN {v:qv}(hd:DEs s.heap d es ep)(hI:s.heap.get? I=some (kiO d i es.size ep))(hv:es[i]?.map (·.key)=some v)(h:∀h',Heap.SameBut I s.heap h'->h'.get? I=some (kiO d (i+1) es.size ep)->Q (some v) (!15)):wpAny (model P w) A (pyNext<|.ref I) Q E s:=by
 have hT:s.TypeIs (.ref I) "dict_keyiterator":=⟨_,hI,J⟩
 obtain⟨o,ho,hx,hdt⟩:=hd;unfold pyNext;refine Qw<|Oh ?_;have sl:Slot "dict_keyiterator" "__next__" "dict_keyiterator.__next__":=F.slot_dict_keyiterator_next;refine Eg (name:=Str.ofString "__next__") hT sl<|Wn sl hT F.entry_dict_keyiterator_next ?_<|F.args_dict_keyiterator_next_1 _;obtain⟨cc,dd,dt,sz⟩:=o;dsimp only at hdt;subst hdt
 wp_walk
 rw[Qc je]
 wp_walk
 have ei:((i:Nat):Int).toNat=i:=Yx i;rw[ei];cases he:es[i]? with
 | none=>rw[he] at hv;cases hv
 | some e =>
  rw[he] at hv;have hv:some e.key=some v:=hv;cases hv;dsimp only
  wp_walk
  have key:∀(n:Nat) (m:Int),n=1->m=(i:Int)+1->Q (some e.key) { s with heap:=s.heap.update I (Obj.mapFields λx=>x.setIfInBounds n<|rawInt m) }:=λn m e1 e2=>by subst e1;subst e2;refine h _ ⟨Ie _ _ _,λb hb=>Er _ _ _ _ hb⟩ ?_;have:=En (Obj.mapFields λx=>x.setIfInBounds 1<|rawInt<|(i:Int)+1) hI rfl;refine this.trans ?_;rfl
  refine⟨_,J,Qo<|key _ _ jf ?_⟩;rw[Qc ja]
def zGe (hh:A.handled=none)(hd:DEs s.heap d es ep)(hI:s.heap.get? I=some (kiO d i es.size ep))(hv:es[i]?=none)(h:∀h',(∀c o,c≠I->s.heap.get? c=some o->h'.get? c=some o)->Q none (!15)):wpAny (model P w) A (pyNext<|.ref I) Q E s:=by
 have hT:s.TypeIs (.ref I) "dict_keyiterator":=⟨_,hI,J⟩
 obtain⟨o,ho,hx,hdt⟩:=hd;unfold pyNext;refine Qw<|Oh ?_;have sl:Slot "dict_keyiterator" "__next__" "dict_keyiterator.__next__":=F.slot_dict_keyiterator_next;refine Eg (name:=Str.ofString "__next__") hT sl<|Wn sl hT F.entry_dict_keyiterator_next ?_<|F.args_dict_keyiterator_next_1 _;obtain⟨cc,dd,dt,sz⟩:=o;dsimp only at hdt;subst hdt
 wp_walk
 rw[Qc je]
 wp_walk
 have ei:((i:Nat):Int).toNat=i:=Yx i;rw[ei,hv];dsimp only
 wp_walk
 refine wpAny_raiseNew_none (by simp[hh])<|Qw<|Pu (T:="StopIteration") (b:=true) ⟨_,Qa _ rfl,rfl⟩ isSubtype_stop<|Qo<|h _ λc o hc e=>?_;exact Qe _<|Qe _ (by rw[Er _ _ _ _ hc];exact e)
def zIE {Q:jl}(hd:DEs s.heap d es ep)(hs:(d==sysModules)=false)(h:Q (.ref s.heap.objs.size) { s with heap:=s.heap.push (kiO d 0 es.size ep) }):wpAny (model P w) A (pyIter<|.ref d) Q E s:=by
 obtain⟨o,ho,hx,hdt⟩:=hd;have hT:s.TypeIs (.ref d) "dict":=⟨_,ho,hx.1⟩
 refine Ul hT F.slot_dict_iter<|Wn F.slot_dict_iter hT F.entry_dict_iter ?_<|F.args_dict_iter_1 _;obtain⟨cc,dd,dt,sz⟩:=o;dsimp only at hdt;subst hdt;have hc:cc = .type "dict":=hx.1;subst hc
 wp_walk
 exact⟨_,J,_,_,⟨_,Qa _ J,J⟩,F.slot_dict_keyiterator_next.lookup,h⟩
end
end L2
variable{a q:Nat}{o:HO}{y:Str}{xs:kj}{T:qu}
namespace L2
def evT {α:Type}(lt:ko):KasT α->α
 | .ret a=>a
 | .ask i j k=>evT lt<|k<|lt i j
theorem jI {α β:Type}(lt:ko)(f:α->KasT β):∀t:KasT α,evT lt (t.bind f)=evT lt (f<|evT lt t)
 | .ret _=>rfl
 | .ask i j k=>jI lt f<|k _
structure SWO (lt:ko):Prop where
 irr:∀a,lt a a=false
 tr:∀a b c,lt a b=true->lt b c=true->lt a c=true
 neg:∀a b c,lt a c=true->lt a b=true\/lt b c=true
def Lx (lt:ko)(a b:Nat):Prop:=lt a b=true\/(lt a b=false/\lt b a=false/\a < b)
section
variable{lt:ko} (W:SWO lt)
include W
def SWO.asym {b:Nat}(h:lt a b=true):lt b a=false:=by
 cases e:lt b a
 .rfl
 .have:=W.tr _ _ _ h e;rw[W.irr] at this;cases this
def SWO.eqr {b c:Nat}(h:lt a b=true)(h1:lt c b=false):lt a c=true:=by
 rcases W.neg a c b h with e | e
 .exact e
 .simp_all
def SWO.eql {b c:Nat}(h:lt a b=true)(h1:lt a c=false):lt c b=true:=by
 rcases W.neg a c b h with e | e
 .simp_all
 .exact e
def SWO.ntr {b c:Nat}(h1:lt a b=false)(h2:lt b c=false):lt a c=false:=by
 cases e:lt a c
 .rfl
 .rcases W.neg a b c e with z | z
  .simp_all
  .simp_all
def Lx.trans {b c:Nat}(h1:Lx lt a b)(h2:Lx lt b c):Lx lt a c:=by
 rcases h1 with h1 | ⟨x1,x2,x3⟩<;>rcases h2 with h2 | ⟨y1,y2,y3⟩
 .exact .inl (W.tr _ _ _ h1 h2)
 .exact .inl (W.eqr h1 y2)
 .exact .inl (W.eql h2 x2)
 .exact .inr ⟨W.ntr x1 y1,W.ntr y2 x2,jc⟩
def Lx.le {b:Nat}(h:Lx lt a b):lt b a=false:=by
 rcases h with h | ⟨_,h,_⟩
 .exact W.asym h
 .exact h
def Lx.of {b:Nat}(h:lt b a=false)(hab:a < b):Lx lt a b:=by
 cases e:lt a b
 .exact .inr ⟨e,h,hab⟩
 .exact .inl e
end
abbrev gg (p:qf)(k:Nat):Nat:=p.getD k 0
def zZ5 (p:qf)(k:Nat):gg p k=(p[k]?).getD 0:=je
def oY (hj:j<=p.size)(k:Nat):gg (kas_rev p i j) k=if i<=k/\k < j then gg p (i+j - 1 - k) else gg p k:=by rw[zZ5,zZ5,zZ5];unfold kas_rev;rw[getElem?_mirror_all hj];split<;>rfl
def zTj {k l:Nat}(hk:k < p.size)(hl:l<=k)(i:Nat):gg (bubble p k<|k - l) i=if i=l then gg p k else if l < i/\i<=k then gg p (i - 1) else gg p i:=by
 rw[zZ5,zZ5,zZ5,zZ5,getElem?_bubble hk _ jc,show k - _=l by lia];split
 .rfl
 .split<;>rfl
def Srt (lt:ko)(p:qf)(a:Nat):Prop:=∀i j,i < j->j < a->Lx lt (gg p i) (gg p j)
def Dcr (lt:ko)(p:qf)(a:Nat):Prop:=∀i j,i < j->j < a->Lx lt (gg p j) (gg p i)
structure Org (N:Nat)(p:qf)(a:Nat):Prop where
 sz:p.size=N
 pm:p.toList.Perm<|List.range N
 hi:∀j,a<=j->j < N->gg p j=j
 lo:∀i,i < a->gg p i < a
def zFi {N:Nat}(h:p.toList.Perm<|List.range N):(kas_rev p i j).toList.Perm<|List.range N:=(Uo.mp<|Oi _ _ _ _).trans h
def Org.rev {N:Nat}(h:Org N p a)(ha:a<=N):Org N (kas_rev p i a) a:=by
 have hs:a<=p.size:=by rw[h.sz];exact ha
 refine⟨by unfold kas_rev;rw[mirror_size];exact h.sz,zFi h.pm,λj h1 h2=>?_,λk hk=>?_⟩
 .rw[oY hs,Qc jc];exact h.hi j h1 h2
 .rw[oY hs];split
  .exact h.lo _ jc
  .exact h.lo _ hk
theorem Org.next {N:Nat}(h:Org N p a)(ha:a < N):Org N p (a+1) :=
 ⟨h.sz,h.pm,λj h1 h2=>h.hi j jc h2,λi hi=>by
  by_cases e:i=a
  .subst e;rw[h.hi i jc ha];lia
  .have:=h.lo i jc;lia⟩
section
variable{lt:ko} (W:SWO lt){N:Nat}
include W
def zMr (h1:1<=n)(hn:n < N)(hs:Srt lt p n)(ho:Org N p n)(hlt:lt (gg p n) (gg p<|n - 1)=false):Srt lt p<|n+1:=by
 have hl:=Lx.of W hlt (by rw[ho.hi n jc hn];exact ho.lo _ jc);intro i j hij hj
 by_cases e:j=n
 .subst e
  by_cases e':i=j - 1
  .subst e';exact hl
  .exact Lx.trans W (hs i _ jc jc) hl
 .exact hs i j hij jc
theorem zQ4 (p:qf):∀(f n:Nat),1<=n->n+f=N->Srt lt p n->Org N p n -> n<=evT lt (kas_asc p f n)/\evT lt (kas_asc p f n)<=N/\Srt lt p (evT lt<|kas_asc p f n)/\Org N p (evT lt<|kas_asc p f n)/\(evT lt (kas_asc p f n) < N->lt (gg p<|evT lt<|kas_asc p f n) (gg p<|evT lt (kas_asc p f n) - 1)=true)
 | 0,n,h1,hn,hs,ho=>⟨Qh _,by show n<=N;lia,hs,ho,λz=>by have z:n < N:=z;lia⟩
 | f+1,n,h1,hn,hs,ho=>by
  have e:evT lt (kas_asc p (f+1) n)=if lt (gg p n) (gg p<|n - 1)=true then n else evT lt (kas_asc p f<|n+1):=by show evT lt (if lt _ (gg p _)=true then .ret n else kas_asc p f _)=_;split<;>rfl
  rw[e];cases hc:lt _<|gg p _
  .rw[Qc je];obtain⟨a1,a2,a3,a4,a5⟩:=zQ4 p f _ jc jc (zMr W h1 jc hs ho hc)<|ho.next jc;exact⟨jc,a2,a3,a4,a5⟩
  .rw[Qg rfl];exact⟨Qh _,jc,hs,ho,λ_=>hc⟩
omit W in
theorem zIV (hn:n<=p.size)(h:Dcr lt p n):Srt lt (kas_rev p 0 n) n:=λi j hij hj=>by rw[oY hn,oY hn,Qg jc,Qg jc];exact h _ _ jc jc
def zQJ (p:qf)(n:Nat)(h1:1<=n)(hn:n<=N)(hd:Dcr lt p n)(ho:Org N p n):n<=(evT lt<|kas_tail3 n N p).1/\(evT lt<|kas_tail3 n N p).1<=N/\Srt lt (evT lt<|kas_tail3 n N p).2 (evT lt<|kas_tail3 n N p).1/\Org N (evT lt<|kas_tail3 n N p).2 (evT lt<|kas_tail3 n N p).1:=by
 have hs:n<=p.size:=by rw[ho.sz];exact hn
 obtain⟨a1,a2,a3,a4,_⟩:=zQ4 W _ (N - n) n h1 jc (zIV hs hd)<|ho.rev hn;unfold kas_tail3;rw[jI];exact⟨a1,a2,a3,a4⟩
structure Fal (lt:ko)(N:Nat)(p:qf)(n q:Nat):Prop where
 hq:q+1<=n
 dn:∀i j,i < j->j < n - (q+1)->Lx lt (gg p j) (gg p i)
 ac:∀i j,i < n - (q+1)->n - (q+1)<=j->j < n->lt (gg p j) (gg p i)=true
 eq:∀i j,n - (q+1)<=i->i < j->j < n->lt (gg p i) (gg p j)=false/\lt (gg p j) (gg p i)=false/\gg p i < gg p j
 og:Org N p n
def Fal.last (h:Fal lt N p n q)(hi:n - (q+1)<=i)(hin:i < n):lt (gg p i) (gg p<|n - 1)=false/\lt (gg p<|n - 1) (gg p i)=false:=by
 by_cases e:i=n - 1
 .subst e;exact⟨W.irr _,W.irr _⟩
 .have:=h.eq i (n - 1) hi jc jc;exact⟨this.1,this.2.1⟩
def Fal.turn (h:Fal lt N p n q)(hn:n<=N):Dcr lt (kas_rev p (n - (q+1)) n) n/\Org N (kas_rev p (n - (q+1)) n) n:=by
 have hs:n<=p.size:=by rw[h.og.sz];exact hn
 refine⟨λi j hij hj=>?_,h.og.rev hn⟩;rw[oY hs,oY hs]
 by_cases hj':n - (q+1)<=j
 .rw[Qg ⟨hj',hj⟩]
  by_cases hi':n - (q+1)<=i
  .rw[Qg ⟨hi',jc⟩];exact .inr<|h.eq _ _ jc jc jc
  .rw[Qc jc];exact .inl<|h.ac _ _ jc jc jc
 .rw[Qc jc,Qc jc];exact h.dn i j hij jc
def zZy (h1:1<=n)(hn:n < N)(hd:Dcr lt p n)(ho:Org N p n)(hl:∀i,i < n->lt (gg p n) (gg p i)=true):Fal lt N p (n+1) 0:=by refine⟨jc,λi j hij hj=>hd i j hij jc,λi j hi hj hj'=>?_,λi j hi hij hj=>jc,ho.next hn⟩;have:j=n:=jc;simp_all
def Fal.less (h:Fal lt N p n q)(hc:lt (gg p n) (gg p<|n - 1)=true)(i:Nat)(hi:i < n):lt (gg p n) (gg p i)=true:=by
 by_cases hr:n - (q+1)<=i
 .exact W.eqr hc (Fal.last W h hr hi).1
 .exact W.tr _ _ _ hc (h.ac i _ jc jc jc)
theorem Fal.dcr (h:Fal lt N p n 0):Dcr lt p n:=λi j hij hj=>by
 by_cases e:j=n - 1
 .exact .inl (h.ac i j jc jc hj)
 .exact h.dn i j hij jc
theorem zXF:∀(f:Nat) (p:qf) (n q:Nat),n+f=N->Fal lt N p n q -> n<=(evT lt<|kas_desc f p n q).2.1/\(evT lt<|kas_desc f p n q).2.1<=N/\Fal lt N (evT lt<|kas_desc f p n q).1 (evT lt<|kas_desc f p n q).2.1 (evT lt<|kas_desc f p n q).2.2
 | 0,p,n,q,hn,h=>⟨Qh _,by show n<=N;lia,h⟩
 | f+1,p,n,q,hn,h=>by
  have hq:=h.hq;have e:evT lt (kas_desc (f+1) p n q)=if lt (gg p n) (gg p<|n - 1)=true then(if q > 0 then evT lt (kas_desc f (kas_rev p (n - (q+1)) n) (n+1) 0) else evT lt (kas_desc f p (n+1) 0)) else if lt (gg p<|n - 1) (gg p n)=true then(p,n,q) else evT lt (kas_desc f p (n+1)<|q+1):=by
   show evT lt (if lt (gg p n) (gg p<|n - 1)=true then(if q > 0 then kas_desc f (kas_rev p (n - (q+1)) n) (n+1) 0 else kas_desc f p (n+1) 0) else .ask (p.getD (n - 1) 0) (p.getD n 0) λd=>if d=true then .ret (p,n,q) else kas_desc f p (n+1) (q+1))=_
   by_cases hc:lt (gg p n) (gg p<|n - 1)=true
   .rw[Qg hc];split<;>rfl
   .rw[Qc hc];show evT lt (if lt (gg p<|n - 1) (gg p n)=true then .ret (p,n,q) else kas_desc f p (n+1) (q+1))=_;split<;>rfl
  rw[e];cases hc:lt (gg p n)<|gg p<|n - 1
  .rw[Qc jb];cases hd:lt (gg p<|n - 1) _
   .rw[Qc jb];have hnn:=h.og.hi n jc jc;obtain⟨a1,a2,a3⟩:=zXF f p _ (q+1) jc ⟨jc,λi j hij hj=>h.dn i j hij jc,λi j hi hj hj'=>by
      by_cases e:j=n
      .subst e;exact W.eql (h.ac i _ jc jc jc) hd
      .exact h.ac i j jc jc jc,λi j hi hij hj=>by
      by_cases e:j=n
      .subst e;obtain⟨l1,l2⟩:=Fal.last W h (i:=i) jc jc;exact⟨W.ntr l1 hd,W.ntr hc l2,by rw[hnn];exact h.og.lo i jc⟩
      .exact h.eq i j jc hij jc,h.og.next jc⟩
    exact⟨jc,a2,a3⟩
   .rw[Qg rfl];exact⟨Qh _,by show n<=N;lia,h⟩
  .rw[Qg rfl];have hl:=λi hi=>Fal.less W h hc i hi
   by_cases hq0:q > 0
   .rw[Qg hq0];obtain⟨t1,t2⟩:=Fal.turn W h jc;have hs:n<=p.size:=by rw[h.og.sz];lia
    obtain⟨a1,a2,a3⟩:=zXF f (kas_rev p (n - _) n) _ 0 jc (zZy W jc jc t1 t2 λi hi=>by
     rw[oY hs,oY hs,Qc jc];split
     .exact hl _ jc
     .exact hl _ hi)
    exact⟨jc,a2,a3⟩
   .rw[Qc hq0];have:q=0:=jc;subst this;obtain⟨a1,a2,a3⟩:=zXF f p _ 0 jc<|zZy W jc jc (Fal.dcr W h) h.og hl;exact⟨jc,a2,a3⟩
def zEV (lt:ko)(N:Nat)(r:Nat×qf):Prop:=1<=r.1/\r.1<=N/\Srt lt r.2 r.1/\Org N r.2 r.1
def zYr (p:qf)(n:Nat)(hn:n+1<=N)(h:Fal lt N p (n+1) 0):zEV lt N<|evT lt<|kas_descPart n N p:=by
 unfold kas_descPart;rw[jI];obtain⟨a1,a2,a3⟩:=zXF W (N - (n+1)) p _ 0 jc h;generalize evT lt (kas_desc _ p _ 0)=r at a1 a2 a3;obtain⟨p',m,q⟩:=r;dsimp only at a1 a2 a3 ⊢
 by_cases hq:q > 0
 .rw[Qg hq];obtain⟨t1,t2⟩:=Fal.turn W a3 a2;obtain⟨b1,b2,b3,b4⟩:=zQJ W _ m jc a2 t1 t2;exact⟨jc,b2,b3,b4⟩
 .rw[Qc hq];have:q=0:=jc;subst this;obtain⟨b1,b2,b3,b4⟩:=zQJ W _ m jc a2 (Fal.dcr W a3) a3.og;exact⟨jc,b2,b3,b4⟩
def zL3 (p:qf)(hN:1<=N)(ho:Org N p 1):zEV lt N<|evT lt<|kas_count N p:=by
 unfold kas_count;rw[jI];obtain⟨a1,a2,a3,a4,a5⟩:=zQ4 W p (N - 1) 1 jc jc (λi j hij hj=>jc) ho;generalize evT lt (kas_asc p (N - 1) 1)=n at a1 a2 a3 a4 a5
 by_cases hn:n=N
 .rw[Qg<|by simpa using hn];exact⟨a1,a2,a3,a4⟩
 .rw[Qc<|by simpa using hn];have hlt:=a5 jc;have hs:n<=p.size:=by rw[ho.sz];lia
  by_cases h1:n > 1
  .rw[Qg h1];show zEV lt N (evT lt<|if lt (gg p 0) (gg p<|n - 1)=true then .ret (n,p) else kas_descPart n N (kas_rev p 0 n));cases hc:lt (gg p 0)<|gg p<|n - 1
   .rw[Qc jb];have hall:∀i j,i < j->j < n->lt (gg p i) (gg p j)=_:=λi j hij hj=>by
     have z0:lt (gg p i) (gg p 0)=false:=by
      by_cases e:i=0
      .subst e;exact W.irr _
      .exact Lx.le W (a3 0 i jc jc)
     have z1:lt (gg p<|n - 1) (gg p j)=false:=by
      by_cases e:j=n - 1
      .subst e;exact W.irr _
      .exact Lx.le W (a3 j (n - 1) jc jc)
     exact W.ntr z0<|W.ntr hc z1
    refine zYr W _ n jc<|zZy W jc jc (λi j hij hj=>?_) (a4.rev jc) λi hi=>?_
    .rw[oY hs,oY hs,Qg jc,Qg jc];exact a3 _ _ jc jc
    .rw[oY hs,oY hs,Qc jc,Qg jc]
     by_cases e:0+n - 1 - i=n - 1
     .rw[e];exact hlt
     .exact W.eqr hlt (hall _ _ jc jc)
   .rw[Qg rfl];exact⟨a1,a2,a3,a4⟩
  .rw[Qc h1];have:n=1:=jc;subst this;refine zYr W _ 1 jc<|zZy W jc jc (λi j hij hj=>jc) a4 λi hi=>?_;have:i=0:=jc;subst this;exact hlt
theorem zWe (p:qf)(k:Nat)(hs:Srt lt p k):∀(f l r:Nat),l<=r->r<=k->r - l<=f->(∀i,i < l->lt (gg p k) (gg p i)=false)->(∀i,r<=i->i < k->lt (gg p k) (gg p i)=true) -> evT lt (kas_place p k f l r)<=k/\(∀i,i < evT lt (kas_place p k f l r)->lt (gg p k) (gg p i)=false)/\(∀i,evT lt (kas_place p k f l r)<=i->i < k->lt (gg p k) (gg p i)=true)
 | 0,l,r,h1,h2,h3,h4,h5=>⟨by show l<=k;lia,h4,λi hi=>h5 i (by have hi:l<=i:=hi;lia)⟩
 | f+1,l,r,h1,h2,h3,h4,h5=>by
  unfold kas_place
  by_cases hge:l≥r
  .rw[Qg hge];exact⟨by show l<=k;lia,h4,λi hi=>h5 i (by have hi:l<=i:=hi;lia)⟩
  .rw[Qc hge];show evT lt (if lt (gg p k) (gg p<|(l+r) / 2)=true then kas_place p k f l ((l+r) / 2) else kas_place p k f ((l+r) / 2+1) r)<=k/\_;cases hc:lt (gg p k)<|gg p<|(l+r) / 2
   .have ih:=zWe p k hs f ((l+r) / 2+1) r jc h2 jc (λi hi=>by
     by_cases e:i=(l+r) / 2
     .rw[e];exact hc
     .exact W.ntr hc (Lx.le W<|hs i ((l+r) / 2) jc jc)) h5
    have e:evT lt (KasT.ask (p.getD k 0) (p.getD ((l+r) / 2) 0) λc=>if c=true then kas_place p k f l ((l+r) / 2) else kas_place p k f ((l+r) / 2+1) r)=evT lt (kas_place p k f ((l+r) / 2+1) r):=by show evT lt (if lt (gg p k) (gg p<|(l+r) / 2)=true then _ else _)=_;rw[hc,Qc jb]
    rw[e];exact ih
   .have ih:=zWe p k hs f l ((l+r) / 2) jc jc jc h4 (λi hi hik=>by
     by_cases e:i=(l+r) / 2
     .rw[e];exact hc
     .exact W.eqr hc (Lx.le W<|hs ((l+r) / 2) i jc hik))
    have e:evT lt (KasT.ask (p.getD k 0) (p.getD ((l+r) / 2) 0) λc=>if c=true then kas_place p k f l ((l+r) / 2) else kas_place p k f ((l+r) / 2+1) r)=evT lt (kas_place p k f l<|(l+r) / 2):=by show evT lt (if lt (gg p k) (gg p<|_ / 2)=true then _ else _)=_;rw[hc,Qg rfl]
    rw[e];exact ih
theorem zJr:∀(f:Nat) (p:qf) (k:Nat),1<=k->k+f=N->Srt lt p k->Org N p k->Srt lt (evT lt<|kas_bin f p k) N/\Org N (evT lt<|kas_bin f p k) N
 | 0,p,k,h1,hk,hs,ho=>by have:k=N:=jc;subst this;exact⟨hs,ho⟩
 | f+1,p,k,h1,hk,hs,ho=>by
  unfold kas_bin;rw[jI];obtain⟨a1,a2,a3⟩:=zWe W p k hs k 0 k jc (Qh _) jc (λi hi=>jc) λi h1 h2=>jc;generalize evT lt (kas_place p k k 0 k)=l at a1 a2 a3;have hks:k < p.size:=by rw[ho.sz];lia
  have hkk:gg p k=k:=ho.hi k (Qh _) jc;refine zJr f (bubble p k<|k - l) (k+1) jc jc (λi j hij hj=>?_) ⟨by rw[bubble_size];exact ho.sz,(Uo.mp<|bubble_perm _ _ _).trans ho.pm,λj h1 h2=>?_,λi hi=>?_⟩
  .have hlo:∀i,i < l->Lx lt (gg p i) (gg p k):=λi hi=>Lx.of W (a2 i hi) (by rw[hkk];exact ho.lo i jc);rw[zTj hks a1,zTj hks a1]
   by_cases ei:i=l
   .rw[Qg ei,Qc jc,Qg jc];exact .inl<|a3 _ jc jc
   .rw[Qc ei]
    by_cases ej:j=l
    .grind
    .rw[Qc ej]
     by_cases hi':l < i/\i<=k
     .rw[Qg hi',Qg jc];exact hs _ _ jc jc
     .rw[Qc hi']
      by_cases hj':l < j/\j<=k
      .rw[Qg hj'];exact hs _ _ jc jc
      .rw[Qc hj'];exact hs _ _ jc jc
  .rw[zTj hks a1,Qc jc,Qc jc];exact ho.hi j jc h2
  .rw[zTj hks a1]
   by_cases e0:i=l
   .simp_all
   .rw[Qc e0]
    by_cases e1:l < i/\i<=k
    .rw[Qg e1];have:=ho.lo (i - 1) jc;lia
    .rw[Qc e1];have:=ho.lo i jc;lia
def zMX (hN:1<=N):Org N (List.toArray<|List.range N) 1:=by
 have e:∀j,j < N->gg (List.toArray<|List.range N) j=j:=λj hj=>by rw[zZ5];simp[hj]
 refine⟨je,je,λj h1 h2=>e j h2,λi hi=>?_⟩
 grind
def zHf (hN:1<=N):Srt lt (evT lt<|kas_sort N) N/\Org N (evT lt<|kas_sort N) N:=by
 unfold kas_sort;rw[jI];obtain⟨a1,a2,a3,a4⟩:=zL3 W _ hN<|zMX W hN;generalize evT lt (kas_count N _)=r at a1 a2 a3 a4;obtain⟨m,p⟩:=r
 by_cases hm:m < N
 .rw[Qg hm];have e:max m 1=m:=jc;rw[e];exact zJr W _ p m a1 jc a3 a4
 .rw[Qc hm];have:m=N:=jc;subst this;exact⟨a3,a4⟩
end
end L2
variable{a p:qu}
namespace L2
abbrev F0:qv->qw->Prop:=λ_ _=>False
def zUY {t:Sem α}{Q Q':α->qw->Prop}(h:wpAny M A t Q F0 s)(hq:∀a s,Q a s->Q' a s):wpAny M A t Q' E s:=Ea h hq λ_ _ z=>z.elim
def zVG {target:r8}{it j7:qv}(I:Nat->qw->Prop)(turn:∀n s,I n s->wpAny (!8) A (pyNext it) (λr s₁=>match r with
   | none=>R (.ok .next) s₁
   | some v=>wpAny (!8) A (letOwnedTupleGo target it v) (λ_ s₁=>wpAny (!8) A (assign target env v) (λ_ s₂ =>
     wpAny (!8) A (forIn ifs true λc r=>if r=true then do let ok ←isTrue c env (eval c env);pure (ForInStep.yield ok) else pure (ForInStep.yield r)) (λok s₃ =>
      if ok=true then wpAny (!8) A (eval elt env) (λx s₄ =>wpAny (!8) A (call (.builtin "list.append") [j7,x]) (λ_ s₅ => ∃m,m < n/\I m s₅) F0 s₄) F0 s₃
      else ∃m,m < n/\I m s₃) F0 s₂) F0 s₁) F0 s₁) F0 s)
  (n:Nat) (h:I n s) :
  codeAny (!8) A (.compLoop (.ListComp elt [⟨target,iter,ifs,0⟩] scope pos) 0 it j7 env) R s:=by
 refine codeAny_loop J I (λn s hI=>(wpAny_noted ?_)) n h;rw[compTurn_list];refine Qw<|Oj<|Qw<|zUY (turn n s hI) λr s₁ h₁=>?_;cases r with
 | none=>exact Qo h₁
 | some v =>
  refine Qw<|zUY h₁ λ_ s₁' h₁'=>Qw<|zUY h₁' λ_ s₂ h₂=>Qw<|zUY h₂ λok s₃ h₃ => ?_;cases ok with
  | false=>exact Qo ⟨J,h₃⟩
  | true =>exact Qw<|Qw<|zUY h₃ λx s₄ h₄ => Qw (zUY h₄ λ_ s₅ h₅ => Qo (Qo ⟨J,h₅⟩))
theorem nO {env:Env}(x:Str):∀(names:List<|Str×NameKind), (names.map λ(n,k)=>if (k==NameKind.free&&env.scope.kind == .function&&env.kindOf n==some .cell) then(n,NameKind.cell) else(n,k)).lookup x = (names.lookup x).map λk=>if (k==NameKind.free&&env.scope.kind == .function&&env.kindOf x==some .cell)=true then NameKind.cell else k
 | []=>rfl
 | (n,k)::r=>by
  have ih:=nO (env:=env) x r;rw[Qx];cases hx:x==n with
  | true =>
   have e:=eq_of_beq hx;subst e
   by_cases hc:(k==NameKind.free&&env.scope.kind == .function&&env.kindOf x==some .cell)=true
   .simp only[hc,Ox,Wj,Pi,Ya]
   .simp only[hc,Yb,Wj,Pi,Ya,Eh]
  | _ =>
   by_cases hc:(k==NameKind.free&&env.scope.kind == .function&&env.kindOf n==some .cell)=true
   .simp only[hc,Ox,Wj,hx];exact ih
   .simp only[hc,Yb,Wj,hx,Eh];exact ih
def cI (env:Env):List (Str×NameKind)->List (Str×qu)->List (Str×qu)
 | [],j7=>j7
 | (n,k)::r,j7=>cI env r<|if k = .free then(match env.cells.lookup n with | some c=>(n,c)::j7 | none=>j7) else j7
def zQm (h:∀p∈scope.names,p.2 = .free->∃c,env.cells.lookup p.1=some c):closureFor scope env=pure (cI env scope.names []):=by
 have gen:∀(l:List _) (j7:List _),(∀p∈l,p.2 = .free->∃c,env.cells.lookup p.1=some c) -> (forIn l j7 λx r=>if (x.2==NameKind.free)=true then(do let a ←cellOf env x.1;pure (ForInStep.yield<|(x.1,a)::r)) else pure (ForInStep.yield r):Sem<|List _)=pure (cI env l j7):=by
  intro l;induction l with
  | nil=>intro j7 _;rfl
  | cons p r ih =>
   intro j7 hp;obtain⟨n,k⟩:=p;rw[List.forIn_cons];have hr:=λp hm=>hp p<|Qf _ hm
   by_cases hk:k = .free
   .subst hk;obtain⟨c,hc⟩:=hp _ Ql J;have e:cellOf env n=pure c:=by unfold cellOf;rw[hc]
    simp only[e];show(forIn r (_::j7) _:Sem _)=_;rw[ih _ hr];show _=(pure (cI env r<|if _=_ then(match env.cells.lookup n with | some c=>_::j7 | none=>j7) else j7):Sem _);rw[Qg rfl,hc]
   .have hb:(k==NameKind.free)=false:=by simpa using hk
    simp only[hb];show(forIn r j7 _:Sem _)=_;rw[ih _ hr];show _=(pure (cI env r<|if k=_ then(match env.cells.lookup n with | some c=>_::j7 | none=>j7) else j7):Sem _);rw[Qc hk]
 simp only[closureFor];rw[(gen _ [] h)];rfl
theorem zWi {env:Env}:∀(l:List<|Str×NameKind) (j7:List<|Str×qu),(∀x c,j7.lookup x=some c->env.cells.lookup x=some c)->∀x c,(cI env l j7).lookup x=some c->env.cells.lookup x=some c
 | [],_,h=>h
 | (n,k)::r,j7,h=>by
  refine zWi r _ ?_
  by_cases hk:k = .free
  .rw[Qg hk];cases e:env.cells.lookup n with
   | none=>exact h
   | some c =>
    intro x c' hx;rw[Wj] at hx;cases q:x==n with
    | true=>rw[q] at hx;cases hx;rw[eq_of_beq q];exact e
    | _=>rw[q] at hx;exact h x c' hx
  .rw[Qc hk];exact h
theorem zSi {env:Env}:∀(l:List<|Str×NameKind) (j7:List<|Str×qu) (x:Str),(j7.lookup x).isSome=true->((cI env l j7).lookup x).isSome=true
 | [],_,_,h=>h
 | (n,k)::r,j7,x,h=>by
  refine zSi r _ x ?_
  by_cases hk:k = .free
  .rw[Qg hk];cases e:env.cells.lookup n with
   | none=>exact h
   | some c =>simp_all
  .rw[Qc hk];exact h
theorem zW7 {env:Env}:∀(l:List<|Str×NameKind) (j7:List<|Str×qu),(∀p∈l,p.2 = .free->∃c,env.cells.lookup p.1=some c)->∀x,(x,NameKind.free)∈l->((cI env l j7).lookup x).isSome=true
 | [],_,_,_,h=>nomatch h
 | (n,k)::r,j7,hp,x,h=>by
  rcases v4 h with e | h
  .cases e;obtain⟨c,hc⟩:=hp _ Ql J;show((cI env r<|if _=_ then _ else j7).lookup n).isSome=true;rw[hc];exact zSi r _ n je
  .exact zW7 r _ (λp hm=>hp p<|Qf _ hm) x h
def kQ (sc scope:Scope)(N tgs j4:kg)(js:ky):Bool :=
 scope.kind == .function&&scope.names.all (λp=>p.2 != .cell&&(p.2 != .free||sc.names.lookup p.1==some .cell||sc.names.lookup p.1==some .free)&&(p.2 != .local||scope.names.lookup p.1==some .local))
  && tgs.all (λx=>scope.names.lookup x==some .local)&&j4.all (λx=>scope.names.lookup x==some .free)&&(js.map λj=>N[j]?)==j4.map some
def upC (m:Nat)(js:ky)(U:St):St:=List.replicate m none++js.map λj=>(U[j]?).join
def vO (X:Cx)(Nc:kg)(scope:Scope)(C:qu)(s₀:qw)(H₀:Hp)(fp:kn):Cx where
 prog:=X.prog
 w:=X.w
 K:=X.K
 mg:=X.mg
 base:=X.base
 A:=X.A
 N:=Nc
 s₀:=s₀
 H₀:=H₀
 env:=compEnvC scope (cI X.env scope.names []) C X.env
 outer:=X.stack
 stack:=X.stack
 ex:=fp
 fn:=λ_=>false
 calm:=X.calm
 pn:=[]
 xe:=F0
def zQj (X:Cx)(ifs:qt)(t:TT):Prop :=
 ∀(Z:jm) (s:qw) (U:St) (H:Hp) (Q:Bool->Hp->Prop),Inv X Z U H s->t U H Q ->
  wpAny (!5) X.A (forIn ifs true λc r=>if r=true then do let ok ←isTrue c X.env (eval c X.env);pure (ForInStep.yield ok) else pure (ForInStep.yield r)) (TP X Z U Q) X.xe s
def zDg:TT:=λ_ H Q=>Q true H
def zLF:zQj X [] zDg:=λ_ _ _ H _ I h=>wpAny_tests_nil ⟨H,I,h⟩
def zMk {t:TT}(h:PT X c t):zQj X [c] t:=λZ s U H Q I hq=>wpAny_tests_one<|h Z s U H Q I hq
def zEA (ya:It)(m:Nat)(js:ky)(g:TG)(tc:TT)(te:TE)(U:St)(H1:Hp)(Q:VK):Prop:=∀D,H1 D=none ->
 ∃W:Nat->Nat->St->Hp->Prop,(∃k,W 0 k (upC m js U)<|upd H1 D<|.lst [])/\∀i k U' H',W i k U' H' ->
  (ya.stop i H'/\Q (.ref D) H')\/(ya.go i H'/\∀x H2,ya.yld i H' x H2->g x U' H2 λσ2 H3=>tc σ2 H3 λb H4=>if b=true then te σ2 H4 λy H5=>∃ys k',H5 D=some (.lst ys)/\ys.length < sizeLine/\k' < k/\W (i+1) k' σ2 (upd H5 D (.lst (ys++[y])))
   else ∃k',k' < k/\W (i+1) k' σ2 H4)
section
variable{tgs j4:kg}{g:TG}
def tK (h:kQ sc scope N tgs j4 js=true):scope.kind = .function/\(∀p∈scope.names,p.2 ≠ .cell)/\(∀p∈scope.names,p.2 = .free->sc.names.lookup p.1=some .cell\/sc.names.lookup p.1=some .free) /\ (∀p∈scope.names,p.2 = .local->scope.names.lookup p.1=some .local)/\(∀x∈tgs,scope.names.lookup x=some .local)/\(∀x∈j4,scope.names.lookup x=some .free)/\(js.map λj=>N[j]?)=j4.map some:=by
 unfold kQ at h
 grind
def zQw {s3:qw}{H3:Hp}{h4:qx}{m0:Str->km}(I:Inv X Z U H3 s3)(f3:∀b∈fp,fV X Z H3 b)(ofp:∀b∈fp,b < s3.heap.objs.size)(hsc:X.env.scope=sc) (hok:kQ sc scope X.N tgs j4 js=true) (hC:C=s3.heap.objs.size) (hk:∀b o,s3.heap.get? b=some o->h4.get? b=some o) (hn:h4.Ns C m0):Inv (vO X (tgs++j4) scope C s3 H3 fp) [] (upC tgs.length js U) H3 { s3 with heap:=h4,toks:=tk }:=by
 obtain⟨k1,k2,k3,k4,k5,k6,k7⟩:=tK hok;have hcl:∀x c,(cI _ scope.names []).lookup x=some c->X.env.cells.lookup x=some c:=zWi _ [] (λ_ _ z=>nomatch z);have hfr:∀p∈scope.names,p.2=_->∃c,X.env.cells.lookup p.1=some c:=λp hp e=>I.ok.has p.1 (by show X.env.scope.names.lookup p.1=_\/X.env.scope.names.lookup p.1=_;rw[hsc];exact k3 p hp e)
 have rl:∀x,(relabel _ _).names.lookup x=(scope.names.lookup x).map λk=>if (k==_&&_==_&&X.env.kindOf x==some _)=true then _ else k:=λx=>nO x scope.names;have hasc:∀x,((relabel _ _).names.lookup x=some _\/(relabel _ _).names.lookup x=some _)->∃c,(cI _ _ []).lookup x=some c:=λx hx=>by
  rw[rl x] at hx;cases e:scope.names.lookup x with
  | none=>rw[e] at hx;simp at hx
  | some k =>
   have hm:=Ez e;have hkf:k = .free:=by
    rw[e] at hx;simp only[Ya,Option.some.injEq] at hx
    by_cases q:k = .free
    .exact q
    .have hb:(k==NameKind.free)=false:=by simpa using q
     rw[hb] at hx;simp only[Bool.false_and,Eh,Yb] at hx;rcases hx with z | z
     .exact absurd z (k2 _ hm)
     .exact z
   subst hkf;exact Es.mp<|zW7 _ [] hfr x hm
 have cfr:∀x c,X.env.cells.lookup x=some c->c≠C:=λx c e z=>by obtain⟨v,q⟩:=I.cell x c e;exact absurd (z ▸ q.lt) (by rw[hC];exact Wg _)
 have base0:∀b o,X.base.get? b=some o->b∉fp:=λb o e hb=>by
  obtain⟨_,_,_,q⟩:=f3 b hb;rcases q with q | q
  .exact I.ok.noex b o e q
  .exact absurd (Wr (Qs (I.ok.bs b o e).1) q) (Wg _)
 have stk:∀b∈fp,b∉frs _:=λb hb z=>by
  obtain⟨_,q1,q2,_⟩:=f3 b hb;rcases v4 (I.stkSub b z) with e | e
  .exact q1 e
  .exact q2 e
 refine⟨⟨I.ok.mod,k1,I.ok.glob,I.ok.blt,by rw[hC];exact Qh _,λx y c e1 e2=>I.ok.inj x y c (hcl x c e1) (hcl y c e2),hasc,(λx c z _=>nomatch z),I.ok.hd,I.ok.frames,.inl J,
   λb hb=>⟨λz=>absurd (ofp b hb) (by rw[show b=C from z,hC];exact Wg _),λx c e=>(f3 b hb).2.2.2.2.1 x c<|hcl x c e⟩,
   λb o e=>I.bs b o e,Wq I.ok.bsz I.sz,base0,stk,I.stack,I.stkFree⟩,
  rfl,I.bare,Un.kept hk,⟨m0,hn,λi x v e1 e2 e3=>?_⟩,λx c e=>?_,I.hok.fresh (by rw[show(vO X (tgs++_) _ C s3 H3 fp).env.locals=C from rfl,hC];exact Qh _),λx c e=>I.freeC x c<|hcl x c e,
  λp hp=>absurd (show p∈([]:jm) from hp) je,I.hok.kept hk,?_⟩
 ·-- a _ value
  have hi:tgs.length<=i:=by refine Nat.le_of_not_lt λhlt=>?_;unfold upC at e2;rw[Tx (by simpa using hlt),Yo] at e2;split at e2<;>cases e2
  unfold upC at e2;rw[Rg (by simpa using hi),Ts,Wh] at e2;have e1:(tgs++_)[i]?=some x:=e1;rw[Rg hi] at e1;obtain⟨j,ej,e2⟩:=k9 e2;have hj:X.N[j]?=some x:=by have q:=Wa (λl=>l[i - tgs.length]?) k7;simp only[Wh,ej,e1,Ya] at q;exact Ri q
  have hU:U[j]?=some (some v):=by
   cases q:U[j]? with
   | none=>rw[q] at e2;cases e2
   | some o=>rw[q] at e2;exact Wa some e2
  have hf:scope.names.lookup x=some _:=k6 x<|Rw e1;have hX:X.env.kindOf x=some .cell\/X.env.kindOf x=some .free:=by show X.env.scope.names.lookup x=_\/X.env.scope.names.lookup x=_;rw[hsc];exact k3 _ (Ez hf) J
  obtain⟨m,_,hl⟩:=I.loc;obtain⟨u,r,l⟩:=hl j x v hj hU (by
   rcases hX with q | q
   .exact .inr (.inl q)
   .exact .inr (.inr q))
  refine⟨u,r,.inr ⟨?_,?_⟩⟩
  .show(relabel _ _).names.lookup x=_\/(relabel _ _).names.lookup x=_;rw[rl x,hf]
   by_cases q:(NameKind.free==NameKind.free&&X.env.scope.kind == .function&&X.env.kindOf x==some .cell)=true
   .exact .inl (by rw[Ya,Qg q])
   .exact .inr (by rw[Ya,Qc q])
  .rcases l with⟨q,_⟩ | ⟨_,c,ec,hcell⟩
   .rcases hX with z | z<;>(rw[z] at q;cases q)
   .obtain⟨c',ec'⟩:=Es.mp<|zW7 _ [] hfr x<|Ez hf;have e:c'=c:=Ri<|(hcl x c' ec').symm.trans ec;subst e;obtain⟨o,ho,hd⟩:=hcell;exact⟨c',ec',o,hk _ _ ho,hd⟩
 .obtain⟨v,o,ho,hd⟩:=I.cell x c<|hcl x c e;exact⟨v,o,hk _ _ ho,hd⟩
 .show(upC _ js U).length=(tgs++_).length;have q:=Wa List.length k7;rw[Qy,Qy] at q;unfold upC;rw[Qp,Ts,Qy,Qp,q]
def zWW {ya:It}{tn:Nat->qx->Prop}{RR:qv->qu->Result->qw->Prop}{Q:VK}(I2:Inv X Z U H2 s2) (T:Turn X.prog X.w X.K tg ya fp it tn) (st2:tn 0 s2.heap) (f2:∀b∈fp,fV X Z H2 b) (hc:!24)(hsc:X.env.scope=sc) (hok:kQ sc scope X.N tgs j4 js=true)(hg:∀C s₀ H₀ fp,PG (!35) tg g) (hi:∀C s₀ H₀ fp,zQj (!35) ifs tc) (he:∀C s₀ H₀ fp,PE (!35) elt te)(hw:zEA ya tgs.length js g tc te U H2 Q)(hRR:∀D C s' H' m,Inv X Z U H' s'->Q (.ref D) H'->fV X Z H' C->s'.heap.Ns C m->RR (.ref D) C (.ok .next) s'):wpAny (!5) X.A (newList []) (λj7 s₃ => wpAny (!5) X.A (newFunctionEnv scope X.env.globals (cI X.env scope.names []) [] X.env.qual none .none<|some X.env) (λcenv s₄ => codeAny (!5) X.A (.compStart (.ListComp elt [⟨tg,iter,ifs,0⟩] scope pos) 0 (.ref it) j7 { cenv with scope:=relabel scope X.env }) (RR j7 cenv.locals) s₄) E s₃) E s2:=by
 obtain⟨k1,k2,k3⟩:=tK hok;refine Ex<|wpAny_newFunctionEnv k2 (by intro y hy;simp at hy) (λh4 hn4 hs4=>?_) k1;generalize hh3:s2.heap.push { cls:=.type "list",dict:=none,data:=.seq ([]:jn).toArray }=h3 at hn4 hs4 ⊢;generalize hD:s2.heap.objs.size=D;have hDn:H2 D=none:=by rw[<-hD];exact I2.fresh
 have hsz3:h3.objs.size=D+1:=by rw[<-hh3,Rr,hD]
 have keep23:∀b o,s2.heap.get? b=some o->h3.get? b=some o:=λb o e=>by rw[<-hh3];exact Qe _ e
 have keep34:∀b o,h3.get? b=some o->h4.get? b=some o:=λb o e=>hs4.extBut b o (Qn<|Qs e)<|Qe _ e;have I3:Inv X Z U (upd H2 D<|.lst []) { s2 with heap:=h3 }:=by have q:=I2.lnew (j6:=[]) (ys:=[]) (t':=s2.toks) .nil<|Wm _;simp_all
 have nfp:∀b∈fp,b≠D:=λb hb z=>by obtain⟨o,e,_⟩:=T.obj 0 _ st2 b hb;exact absurd (Qs e) (by rw[z,hD];exact Wg _)
 have f3:∀b∈fp,fV X Z (upd H2 D<|.lst []) b:=λb hb=>by obtain⟨q0,q⟩:=f2 b hb;exact⟨by rw[zG<|nfp b hb];exact q0,q⟩
 have ofp:∀b∈fp,b < _:=λb hb=>by obtain⟨o,e,_⟩:=T.obj 0 _ st2 b hb;exact Qs<|keep23 b o e
 obtain⟨W,⟨n0,w0⟩,turn⟩:=hw D hDn;have loop:∀s4:qw,s4={ s2 with heap:=h4,toks:=s2.toks+([]:List<|Str×qv).length } -> codeAny (!5) X.A (.compLoop (.ListComp elt [⟨tg,iter,ifs,0⟩] scope pos) 0 (.ref it) (.ref D)<|compEnvC scope (cI X.env scope.names []) h3.objs.size X.env) (RR (.ref D) h3.objs.size) s4:=by
  rintro s4 rfl;generalize hX':vO X (tgs++_) _ h3.objs.size { s2 with heap:=h3 } (upd H2 D<|.lst []) fp=X';have I4:Inv X' [] (upC tgs.length js U) (upd H2 D<|.lst []) { s2 with heap:=h4,toks:=s2.toks+([]:List<|Str×qv).length }:=by rw[<-hX'];exact zQw (s3:={ s2 with heap:=h3 }) I3 f3 ofp hsc hok rfl keep34 hn4
  have eP:X'.prog=X.prog:=by rw[<-hX'];rfl
  have eW:X'.w=X.w:=by rw[<-hX'];rfl
  have eK:X'.K=X.K:=by rw[<-hX'];rfl
  have eA:X'.A=X.A:=by rw[<-hX'];rfl
  have eC:X'.calm=true:=by rw[<-hX'];exact hc
  have T':Turn X'.prog X'.w X'.K tg ya fp it tn:=by rw[eP,eW,eK];exact T
  have eE:X'.env=compEnvC scope (cI X.env scope.names []) h3.objs.size X.env:=by rw[<-hX'];rfl
  have eX:X'.xe=F0:=by rw[<-hX'];rfl
  have stat:∀ {H':Hp},(∀b∈fp,H' b=none)->∀b∈fp,fV X' [] H' b:=λ{H'} hn b hb=>by
   obtain⟨_,q1,q2,q3,q4,q5⟩:=f3 b hb;rw[<-hX'];refine⟨hn b hb,(λz=>absurd (ofp b hb) (by rw[show b=_ from z];exact Wg _)),?_,.inl hb,λx c e=>(q4 x c<|zWi _ [] (λ_ _ z=>nomatch z) x c e),λp hp=>absurd (show p∈([]:jm) from hp) je⟩
   .intro z;rcases v4 (I3.stkSub b z) with e | e
    .exact q1 e
    .exact q2 e
  have hgX:PG X' tg g:=by rw[<-hX'];exact hg _ _ _ _
  have hiX:zQj X' ifs tc:=by rw[<-hX'];exact hi _ _ _ _
  have heX:PE X' elt te:=by rw[<-hX'];exact he _ _ _ _
  refine zVG (λn s'=>∃i U' H',Inv X' [] U' H' s'/\tn i s'.heap/\(∀b∈fp,H' b=none)/\W i n U' H') ?_ n0 ⟨0,_,_,I4,T.keep 0 _ _ st2 λb _ o e=>keep34 b o<|keep23 b o e,λb hb=>(f3 b hb).1,w0⟩;rintro n s5 ⟨i,σ5,H5,I5,st5,fr5,w5⟩;rw[<-eP,<-eW,<-eE,<-eA];rcases turn i n σ5 H5 w5 with⟨stop,qn⟩ | ⟨go,step⟩
  .refine thn (T'.done X' J J J eC i [] s5 σ5 H5 F0 I5 (stat fr5) st5 stop) λr s6 ⟨hr,I6⟩=>?_;subst hr;have un:Un (frs X.stack) fp H2 H5 s2.heap s6.heap:=by
    have u1:Un (frs X.stack) fp H2 (upd H2 D<|.lst []) _ h3:=Un.laid keep23 (Ob hD) hDn;have u2:=I6.base;rw[<-hX'] at u2;exact u1.trans u2
   have hpx:HOk X.prog X.w H5 s6.heap:=by have q:=I6.hok;rw[eP,eW] at q;exact q
   have hos:s6.os=s2.os:=by have q:=I6.os;rw[<-hX'] at q;exact q
   have IX:Inv X Z U H5 s6:=I2.call' (ch:=fp) hos un hpx I6.bare λb hb=>⟨(f2 b hb).2.2.2.1,(f2 b hb).2.1,(f2 b hb).2.2.2.2.1,(f2 b hb).2.2.2.2.2⟩
   obtain⟨m,hm,_⟩:=I6.loc;have hloc:X'.env.locals=h3.objs.size:=by rw[eE];rfl
   rw[hloc] at hm;have hle:s2.heap.objs.size<=h3.objs.size:=by rw[hD,hsz3];exact Yl _
   refine hRR D _ s6 H5 m IX qn (I2.fpOk hle ?_) hm;have q:=I6.free;rw[hloc] at q;exact q
  .refine thn (T'.item X' J J J eC i [] s5 σ5 H5 F0 I5 (stat fr5) st5 go) λr s6 ⟨u,hr,h6⟩=>?_;subst hr;refine thn h6 λ_ s7 ⟨x,H7,I7,r7,y7,st7,fr7⟩=>?_;have xe0:_=F0:=eX;have conv:∀ {α:Type} {t:Sem α} {Q:α->_->Prop} {s:qw},wpAny (model X'.prog X'.w) X'.A t Q X'.xe s->wpAny (model _ X'.w) X'.A t Q F0 s:=λh=>by rw[xe0] at h;exact h
   refine thn (conv (hgX _ s7 σ5 H7 x u _ (I7.pinned (stat fr7)<|T.obj _ _ st7) r7<|step x H7 y7)) λ_ s8 ⟨σ8,H8,I8,q8⟩=>thn (conv (hiX _ s8 σ8 H8 _ I8 q8)) λok s9 ⟨H9,I9,q9⟩=>?_;have again:∀ {σz:St} {Hz:Hp} {sz:qw} {k':Nat},Inv X' ([]++zVO fp _) σz Hz sz->k' < n->W (i+1) k' σz Hz->∃m,m < n/\∃i U' H',Inv X' [] U' H' sz/\tn i _/\(∀b∈fp,H' b=none)/\W i m U' H':=λ{σz Hz sz k'} Iz hk wz=>by refine⟨k',hk,i+1,σz,Hz,Iz.unpinned,T.keep _ _ _ st7 λb hb o e=>(Iz.pin (b,o)<|Ws _<|Ws _<|iM hb e).1,λb hb=>?_,wz⟩;obtain⟨o,e,d⟩:=T.obj _ _ st7 b hb;exact(Iz.pin (b,o)<|Ws _<|Ws _<|iM hb e).2.1
   cases ok with
   | false =>obtain⟨k',hk,wz⟩:=q9;exact again I9 hk wz
   | true =>exact thn (conv (heX _ s9 σ8 H9 _ I9 q9)) λv s10 ⟨y,H10,I10,r10,ys,k',hys,hl,hk,wz⟩=>thn (conv (tJ (X:=X') _ s10 σ8 H10 (.ref D) [y] (.ref D) [v] (λz Hz=>W (i+1) k' σ8 Hz) I10 rfl (.cons r10 .nil) ⟨D,ys,y,rfl,rfl,hys,hl,wz⟩)) λ_ s11 ⟨_,H11,I11,_,q11⟩=>again I11 hk q11
 exact codeAny_compStart_list (loop _ J)<|T.self _ 0 _ _ _ (T.keep 0 _ _ st2 λb _ o e=>keep34 b o<|keep23 b o e)<|loop _ rfl
def zLk (wi:TI)(m:Nat)(js:ky)(g:TG)(tc:TT)(te:TE):TE:=λU H Q=>wi U H λya H1=>zEA ya m js g tc te U H1 Q
def zWF (ok:X.Ok)(hsc:X.env.scope=sc)(hok:kQ sc scope X.N tgs j4 js=true):closureFor scope X.env=pure (cI X.env scope.names []) :=zQm λp hp e=>ok.has p.1 (by show X.env.scope.names.lookup p.1=_\/X.env.scope.names.lookup p.1=_;rw[hsc];exact(tK hok).2.2.1 p hp e)
def zHp (sc:Scope)(tgs j4:kg)(js:ky)(hp:PI X tg iter wi)(hc:!24)(hsc:X.env.scope=sc)(hok:kQ sc scope X.N tgs j4 js=true)(hg:∀C s₀ H₀ fp,PG (!35) tg g) (hi:∀C s₀ H₀ fp,zQj (!35) ifs tc) (he:∀C s₀ H₀ fp,PE (!35) elt te)(hs:∀x,foldedSetIterable iter X.env x=pure x:=by intro _;rfl):PE X (.ListComp elt [⟨tg,iter,ifs,0⟩] scope pos)<|zLk wi tgs.length js g tc te:=by intro Z s U H Q I h;obtain⟨k1,k2,k3,k4,k5⟩:=tK hok;refine wpAny_comprehension_free J hs (zWF I.ok hsc hok) k1 k4<|thn (hp Z s U H _ I h) λv s1 h1=>thn h1 λitv s2 h2=>?_;obtain⟨it,fp,tn,ya,H2,e,I2,T,st2,f2,hw⟩:=h2;subst e;refine zWW I2 T st2 f2 hc hsc hok hg hi he hw λD C s' H' m I' q fC hn=>⟨m,hn,λh' hs'=>⟨.ref D,H',?_,J,q⟩⟩;obtain⟨c0,c1,c2,c3,c4,c5⟩:=fC;exact I'.turned (λb o hb e=>hs'.extBut b o hb e) c0 c1 c3 c4 c5
def zPY (sc:Scope)(tgs j4:kg)(js:ky){spos:Pos}(hN:X.N.Nodup)(hx:!27)(hl:X.env.scope.names.lookup x=some .local)(hp:PI X tg iter wi) (hc:!24) (hsc:X.env.scope=sc) (hok:kQ sc scope X.N tgs j4 js=true)(hg:∀C s₀ H₀ fp,PG (!35) tg g) (hi:∀C s₀ H₀ fp,zQj (!35) ifs tc) (he:∀C s₀ H₀ fp,PE (!35) elt te)(hsw:swapsWith (.ListComp elt [⟨tg,iter,ifs,0⟩] scope pos) (some<|.Name x pos') spos.line X.env=pure true:=by with_unfolding_all rfl) (hs:∀x,foldedSetIterable iter X.env x=pure x:=by intro _;rfl):PS X (.Assign [.Name x pos'] (.ListComp elt [⟨tg,iter,ifs,0⟩] scope pos) spos)<|zNj (zLk wi tgs.length js g tc te)<|zRl i:=by
 intro Z s U H D I h;obtain⟨k1,k2,k3,k4,k5⟩:=tK hok;rw[exec_Assign_Name_used _ _ _ _ hsw];refine Qw<|Oj<|Qw ?_;refine Qw<|Ea (wpAny_comprehension_free (use:=some<|assign (.Name x pos') _) (Q:=λ_ s'=>SP X Z D _ s') rfl hs (zWF I.ok hsc hok) k1 k4<|thn (hp Z s U H _ I h) λv s1 h1=>thn h1 λitv s2 h2=>?_) (λ_ s' hq=>Qo<|Qo hq) λ_ _ e=>e;obtain⟨it,fp,tn,ya,H2,e,I2,T,st2,f2,hw⟩:=h2;subst e;refine zWW (RR:=λj7 C=>compPost (model _ X.w) X.A X.xe (some<|assign (.Name x pos') _) (λ_ s'=>SP X Z D _ s') j7 C) I2 T st2 f2 hc hsc hok hg hi he hw ?_;intro D' C s' H' m I' q fC hn;obtain⟨c0,c1,c2,c3,c4,c5⟩:=fC;refine wpAny_assign_Name<|zZf (v:=V.ref D') I' hN hx (.inl hl) rfl (λs3 I3 hb=>?_)<|.inr hl;obtain⟨a,sb,ha⟩:=hb;have hCa:C≠a:=by
  rcases ha with z | z
  .simp_all
  .exact(c4 x a z).symm
 refine⟨m,hn.sameBut sb hCa,λh' hs'=>⟨_,H',I3.turned (λb o hb e=>hs'.extBut b o hb e) c0 c1 c3 c4 c5,q⟩⟩
end
inductive D where
 | non | bl (b:Bool) | int (i:Int) | str (x:Str) | tup (ds:List D) | lst (ds:List D) | obj (c:Str) (ns:kg) (ds:List D)
  | exc (c:Str) (ns:kg) (ds:List D)
  | dct (ks:qj) (ds:List D)
 deriving Inhabited
abbrev qi:=Option D
abbrev qc:=Option<|D×D
abbrev kd:=List D
abbrev ka:=Option kd
end L2
variable{d' d cv:D}{g:D->D->ku}{tk:Tok}{C:Int->Int->Bool}{ds:kd}{fD:kd->ka}{xf:kd->kf}
namespace L2
def Same.tup (e:Same H H')(h:SqT K H a xs):SqT K H' a xs:=by
 rcases h with(h | ⟨o,h⟩) | h
 .exact .inl (.inl<|e _ _ h)
 .exact .inl (.inr ⟨o,e _ _ h⟩)
 .exact .inr h
def ClsAt (K:jk)(c:Str)(C:qu):Prop:=PySem.W.nsIn K mainGlobals c=some (some (!1))
def ClsAt.one {K:jk}{c:Str}{C C':qu}(h:ClsAt K c C)(h':ClsAt K c C'):C'=C:=by have:=h.symm.trans h';cases this;rfl
def Xe (C a:qu)(od:kq):qx->Prop:=λh=>∃fs,h.get? a=some { cls:=.ref C,dict:=od,data:=.fields fs }
def Xd (dx:qu)(fs:qr):qx->Prop:=λh=>∃mA,h.Ns1 dx mA/\∀f,RelO (fs.lookup f)<|mA f
def XD (G:Hp):kq->qr->Prop
 | none,fs=>fs=[]
 | some dx,fs=>G dx=some (.ext<|Xd dx fs)
theorem XD.mono (e:Same G G'):∀ {od:kq} {fs:qr},XD G od fs->XD G' od fs
 | none,_,h=>h
 | some _,_,h=>e _ _ h
mutual
def Rep (K:jk)(G:Hp):D->V->Prop
 | .non,v=>v = .non
 | .bl b,v=>v = .bl b
 | .int i,v=>v = .int i
 | .str x,v=>v = .str x
 | .tup ds,v=>∃a vs,v = .ref a/\SqT K G a vs/\Reps K G ds vs
 | .lst ds,v=>∃a vs,v = .ref a/\SqL K G a vs/\Reps K G ds vs
 | .obj c ns ds,v=>∃C a dx vs,ClsAt K c C/\v = .ref a/\G a=some (.ins C dx<|ns.zip vs)/\ns.length=ds.length/\Reps K G ds vs
 | .exc c ns ds,v=>∃C a od vs,ClsAt K c C/\v = .ref a/\G a=some (.ext<|Xe C a od)/\XD G od (ns.zip vs)/\ns.length=ds.length/\Reps K G ds vs
 | .dct ks ds,v=>∃a vs ob,v = .ref a/\G a=some (.frz ob<|.dK<|ks.zip vs)/\ks.length=ds.length/\Reps K G ds vs
def Reps (K:jk)(G:Hp):kd->kj->Prop
 | [],vs=>vs=[]
 | d::r,vs=>∃v vr,vs=v::vr/\Rep K G d v/\Reps K G r vr
end
mutual
theorem Rep.mono (e:Same G G'):∀(d:D) (v:V),Rep K G d v->Rep K G' d v
 | .non,_,h=>by unfold Rep at h ⊢;exact h
 | .bl _,_,h=>by unfold Rep at h ⊢;exact h
 | .int _,_,h=>by unfold Rep at h ⊢;exact h
 | .str _,_,h=>by unfold Rep at h ⊢;exact h
 | .tup ds,_,h=>by unfold Rep at h ⊢;obtain⟨a,vs,h1,h2,h3⟩:=h;exact⟨a,vs,h1,e.tup h2,Reps.mono e ds vs h3⟩
 | .lst ds,_,h=>by unfold Rep at h ⊢;obtain⟨a,vs,h1,h2,h3⟩:=h;exact⟨a,vs,h1,e.seq h2,Reps.mono e ds vs h3⟩
 | .obj C ns ds,_,h=>by unfold Rep at h ⊢;obtain⟨C,a,dx,vs,h0,h1,h2,h4,h3⟩:=h;exact⟨C,a,dx,vs,h0,h1,e _ _ h2,h4,Reps.mono e ds vs h3⟩
 | .exc C ns ds,_,h=>by unfold Rep at h ⊢;obtain⟨C,a,od,vs,h0,h1,h2,h5,h4,h3⟩:=h;exact⟨C,a,od,vs,h0,h1,e _ _ h2,h5.mono e,h4,Reps.mono e ds vs h3⟩
 | .dct ks ds,_,h=>by unfold Rep at h ⊢;obtain⟨a,vs,ob,h1,h2,h4,h3⟩:=h;exact⟨a,vs,ob,h1,e _ _ h2,h4,Reps.mono e ds vs h3⟩
theorem Reps.mono (e:Same G G'):∀(ds:kd) (vs:kj),Reps K G ds vs->Reps K G' ds vs
 | [],_,h=>by unfold Reps at h ⊢;exact h
 | d::r,_,h=>by unfold Reps at h ⊢;obtain⟨v,vr,h1,h2,h3⟩:=h;exact⟨v,vr,h1,Rep.mono e d v h2,Reps.mono e r vr h3⟩
end
def sX:Rep K G .non v↔v = .non:=jg
def wP {b:Bool}:Rep K G (.bl b) v↔v = .bl b:=jg
def zC {i:Int}:Rep K G (.int i) v↔v = .int i:=jg
def yF:Rep K G (.str x) v↔v = .str x:=jg
def yE:Rep K G (.tup ds) v↔∃a vs,v = .ref a/\SqT K G a vs/\Reps K G ds vs:=jg
def xF:Rep K G (.lst ds) v↔∃a vs,v = .ref a/\SqL K G a vs/\Reps K G ds vs:=jg
def sU {c:Str}:Rep K G (.obj c ns ds) v↔∃C a dx vs,ClsAt K c C/\v = .ref a/\G a=some (.ins C dx<|ns.zip vs)/\ns.length=ds.length/\Reps K G ds vs:=jg
def aJ {c:Str}:Rep K G (.exc c ns ds) v↔∃C a od vs,ClsAt K c C/\v = .ref a/\G a=some (.ext<|Xe C a od)/\XD G od (ns.zip vs)/\ns.length=ds.length/\Reps K G ds vs:=jg
def zX1:Rep K G (.dct ks ds) v↔∃a vs ob,v = .ref a/\G a=some (.frz ob<|.dK<|ks.zip vs)/\ks.length=ds.length/\Reps K G ds vs:=jg
def zD:Reps K G [] vs↔vs=[]:=jg
def zQ {r:kd}:Reps K G (d::r) vs↔∃v vr,vs=v::vr/\Rep K G d v/\Reps K G r vr:=jg
theorem Reps.length:∀ {ds:kd} {vs:kj},Reps K G ds vs->ds.length=vs.length
 | [],_,h=>by rw[zD] at h;rw[h];rfl
 | d::r,_,h=>by obtain⟨v,vr,rfl,_,h3⟩:=h;rw[Qk,Qk,Reps.length h3]
theorem Reps.get:∀ {ds:kd} {vs:kj} {i:Nat} {d:D},Reps K G ds vs->ds[i]?=some d->∃v,vs[i]?=some v/\Rep K G d v
 | [],_,_,_,_,e=>by simp at e
 | d::r,_,0,_,h,e=>by obtain⟨v,vr,rfl,h2⟩:=h;simp_all
 | d::r,_,i+1,_,h,e=>by obtain⟨v,vr,rfl,h2,h3⟩:=h;obtain⟨u,e1,e2⟩:=Reps.get h3 (!6);exact⟨u,by simpa using e1,e2⟩
theorem Reps.snoc:∀ {ds:kd} {vs:kj} {d:D} {v:V},Reps K G ds vs->Rep K G d v->Reps K G (ds++[d]) (vs++[v])
 | [],_,d,v,h,r=>by rw[zD] at h;subst h;exact zQ.mpr ⟨v,[],J,r,zD.mpr J⟩
 | e::t,_,d,v,h,r=>by obtain⟨u,vr,rfl,h2,h3⟩:=h;exact zQ.mpr ⟨u,vr++[v],J,h2,h3.snoc r⟩
theorem Reps.append:∀ {ds es:kd} {vs us:kj},Reps K G ds vs->Reps K G es us->Reps K G (ds++es) (vs++us)
 | [],_,_,_,h,r=>by rw[zD] at h;subst h;exact r
 | e::t,_,_,us,h,r=>by obtain⟨u,vr,rfl,h2,h3⟩:=h;exact zQ.mpr ⟨u,vr++us,J,h2,h3.append r⟩
theorem Reps.take:∀ {ds:kd} {vs:kj} (n:Nat),Reps K G ds vs->Reps K G (ds.take n) (vs.take n)
 | _,_,0,_=>by rw[List.take_zero];exact zD.mpr J
 | [],_,_+1,h=>by rw[zD] at h;subst h;exact zD.mpr J
 | e::t,_,n+1,h=>by obtain⟨u,vr,rfl,h2,h3⟩:=h;exact zQ.mpr ⟨u,vr.take n,J,h2,h3.take n⟩
theorem Reps.drop:∀ {ds:kd} {vs:kj} (n:Nat),Reps K G ds vs->Reps K G (ds.drop n) (vs.drop n)
 | _,_,0,h=>h
 | [],_,_+1,h=>by rw[zD] at h;subst h;exact zD.mpr J
 | e::t,_,n+1,h=>by obtain⟨u,vr,rfl,h2,h3⟩:=h;exact h3.drop n
theorem Reps.erase:∀ {ds:kd} {vs:kj} (i:Nat),Reps K G ds vs->Reps K G (ds.eraseIdx i) (vs.eraseIdx i)
 | [],_,_,h=>by rw[zD] at h;subst h;exact zD.mpr J
 | e::t,_,0,h=>by obtain⟨u,vr,rfl,h2,h3⟩:=h;exact h3
 | e::t,_,i+1,h=>by obtain⟨u,vr,rfl,h2,h3⟩:=h;exact zQ.mpr ⟨u,vr.eraseIdx i,J,h2,h3.erase i⟩
def zYU:HO->Bool | .tup _=>false | _=>true
structure Step (G H G' H':Hp):Prop where
 hh:Same H H'
 gg:Same G G'
 sub:Same G' H'
 new:∀a o,H a=some o->zYU o=true->G' a=G a
def Step.refl {G H:Hp}(h:Same G H):Step G H G H:=⟨Same.refl _,Same.refl _,h,λ_ _ _ _=>rfl⟩
def Step.trans {G H G1 H1 G2 H2:Hp}(a:Step G H G1 H1)(b:Step G1 H1 G2 H2):Step G H G2 H2 :=
 ⟨a.hh.trans b.hh,a.gg.trans b.gg,b.sub,λc o hc hn=>(b.new c o (a.hh _ _ hc) hn).trans<|a.new c o hc hn⟩
def Same.new (hp:H p=none):Same H<|upd H p o:=λb u e=>by rw[zG<|yU e hp];exact e
def Step.laid (s:Same G H)(hp:H p=none):Step G H (upd G p o)<|upd H p o:=by
 refine⟨Same.new hp,Same.new<|s.free hp,λb u e=>?_,λa o' ha hn=>zG (λz:a=p=>by rw[z,hp] at ha;cases ha)⟩
 .by_cases hb:b=p
  .subst hb;rw[zN] at e ⊢;exact e
  .rw[zG hb] at e ⊢;exact s b u e
def Step.own (s:Same G H)(hp:H p=none):Step G H G (upd H p o) :=
 ⟨Same.new hp,Same.refl _,s.trans<|Same.new hp,λ_ _ _ _=>rfl⟩
def Step.frz (s:Step G H G' H')(hp:H p=none)(h':H' p=some o)(g':G' p=none):Step G H (upd G' p o) H':=by
 refine⟨s.hh,s.gg.trans<|Same.new g',λb u e=>?_,λa o' ha hn=>?_⟩
 .by_cases hb:b=p
  .subst hb;rw[zN] at e;rw[h'];exact e
  .rw[zG hb] at e;exact s.sub b u e
 .rw[zG (λz:a=p=>by rw[z,hp] at ha;cases ha)];exact s.new a o' ha hn
def Step.adopt (s:Same G H)(hp:H p=some (.tup xs)):Step G H (upd G p<|.tup xs) H:=by
 refine⟨Same.refl _,λb u e=>?_,λb u e=>?_,λa o ha hn=>?_⟩
 .by_cases hb:b=p
  .subst hb;have:=s _ _ e;rw[hp] at this;rw[zN];exact this
  .rw[zG hb];exact e
 .by_cases hb:b=p
  .subst hb;rw[zN] at e;rw[hp];exact e
  .rw[zG hb] at e;exact s b u e
 .refine zG λz=>?_;rw[z,hp] at ha;cases ha;cases hn
inductive B where
 | no | fz (d:D) | ow (ds:kd)
  | mu (q:kq) (d:D)
  | yd (q:Option (qu×qu×qu)) (d:D)
  | pt (ps:List (Str×Str))
  | yl (ds:kd)
 deriving Inhabited
abbrev ki:=List B
def RepO (K:jk)(G:Hp)(o:HO):D->Prop
 | .obj c ns ds=>∃C dx vs,ClsAt K c C/\o = .ins C dx (ns.zip vs)/\ns.length=ds.length/\Reps K G ds vs
 | .dct ks ds=>∃vs,o = .dK (ks.zip vs)/\ks.length=ds.length/\Reps K G ds vs
 | _=>False
theorem RepO.mono {K:jk}{G G':Hp}{o:HO}(e:Same G G'):∀ {d:D},RepO K G o d->RepO K G' o d
 | .obj _ _ _,⟨C,dx,vs,h1,h2,h3,h4⟩=>⟨C,dx,vs,h1,h2,h3,h4.mono e⟩
 | .dct _ _,⟨vs,h1,h2,h3⟩=>⟨vs,h1,h2,h3.mono e⟩
def bK:HO->Bool | .ins _ _ _=>true | .dK _=>true | .dT _=>true | _=>false
def zXc (h:bK o=true):zYU o=true:=by cases o<;>first | rfl | cases h
theorem RepO.two {K:jk}{G:Hp}{o:HO}:∀ {d:D},RepO K G o d->bK o=true
 | .obj _ _ _,⟨C,dx,vs,_,h2,_⟩=>by rw[h2];rfl
 | .dct _ _,⟨vs,h1,_⟩=>by rw[h1];rfl
def RepO.nt (h:RepO K G o d):zYU o=true:=zXc h.two
def ydF (vc vl:V)(b c:qu):qr:=[("curve",vc),("level",vl),("store",.ref b),("boxes",.ref c)]
def ydN:kg:=["curve","level","store","boxes"]
def ydD (dc dl ds db:D):D:=.obj "Yard" ydN [dc,dl,ds,db]
structure Yd (K:jk)(H0 G H:Hp)(a b c:qu)(d:D):Prop where
 ex:∃C dx vc vl dc dl ds db o1 o2,d=ydD dc dl ds db/\ClsAt K "Yard" C/\H a=some (.ins C dx<|ydF vc vl b c)/\Rep K G dc vc/\Rep K G dl vl/\H b=some o1/\RepO K G o1 ds/\H c=some o2/\RepO K G o2 db
 no:∀x,x=a\/x=b\/x=c->G x=none/\H0 x=none
 ne:a≠b/\a≠c/\b≠c
def in3 (a b c x:qu):Prop:=x=a\/x=b\/x=c
def atQ (q:Option α)(a:α):Prop:=q=none\/q=some a
inductive RB (K:jk)(H0 G H:Hp):ql->B->Prop where
 | no {o:ql}:RB K H0 G H o .no
 | fz {v:V} {d:D}:Rep K G d v->RB K H0 G H (some v) (.fz d)
 | ow {a:qu} {vs:kj} {ds:kd}:H a=some (.lst vs)->G a=none->H0 a=none->Reps K G ds vs->RB K H0 G H (!26) (.ow ds)
 | mu {a:qu} {o:HO} {q:kq} {d:D}:atQ q a->H a=some o->G a=none->H0 a=none->RepO K G o d->RB K H0 G H (!26) (.mu q d)
 | yd {a b c:qu} {q:Option (qu×qu×qu)} {d:D}:atQ q (a,b,c)->Yd K H0 G H a b c d->RB K H0 G H (!26) (.yd q d)
 | yl {l:qu} {ts:List (qu×qu×qu)} {ds:kd}:G l=some (.lst (ts.map λt=>.ref t.1))->H l=some (.lst<|ts.map λt=>.ref t.1)->Paired (λt d=>Yd K H0 G H t.1 t.2.1 t.2.2 d) ts ds->(ts.Pairwise λt u=>∀x,in3 t.1 t.2.1 t.2.2 x->¬in3 u.1 u.2.1 u.2.2 x)->RB K H0 G H (some<|.ref l) (.yl ds)
 | pt {a:qu} {j8:List (qj×V)} {ps:List (Str×Str)}:H a=some (.dT j8)->G a=none->H0 a=none->j8.map (·.1)=ps.map (λp=>[.inr p.1,.inr p.2])->RB K H0 G H (!26) (.pt ps)
def bW (H:Hp)(v:ql)(x:qu):Prop:=∃a b c C dx vc vl,v=some (.ref a)/\H a=some (.ins C dx<|ydF vc vl b c)/\(x=a\/x=b\/x=c)
def uU (H:Hp)(v:ql):B->qu->Prop
 | .ow _,x=>v=some (.ref x)
 | .mu _ _,x=>v=some (.ref x)
 | .pt _,x=>v=some (.ref x)
 | .yd _ _,x=>bW H v x
 | .yl _,x=>∃l vs w,v=some (.ref l)/\H l=some (.lst vs)/\w∈vs/\bW H (some w) x
 | _,_=>False
def zMq (H:Hp)(U:St)(O:ki):Prop:=∀(i j:Nat) (x:qu) (v w:ql) (b c:B),U[i]?=some v->O[i]?=some b->U[j]?=some w->O[j]?=some c->uU H v b x->uU H w c x->i=j
structure Good (K:jk)(G0 H0 G H:Hp)(U:St)(O:ki):Prop where
 st:Step G0 H0 G H
 vals:Paired (RB K H0 G H) U O
 apart:zMq H U O
theorem Paired.get {α β:Type}{F:α->β->Prop}:∀ {l:!10} {r:List β} {i:Nat} {b:β},Paired F l r->r[i]?=some b->∃a,l[i]?=some a/\F a b
 | _,_,_,_,.nil,e=>by simp at e
 | _,_,0,_,.cons h _,e=>by simp at e;subst e;exact⟨_,J,h⟩
 | _,_,i+1,b,.cons _ t,e=>by obtain⟨a,h1,h2⟩:=Paired.get t (!6);exact⟨a,by simpa using h1,h2⟩
theorem Paired.mk' {α β:Type}{F:α->β->Prop}:∀ {l:!10} {r:List β},l.length=r.length->(∀(i:Nat) (a:α) (b:β),l[i]?=some a->r[i]?=some b->F a b)->Paired F l r
 | [],[],_,_=>.nil
 | a::l,b::r,h,f=>.cons (f 0 a b J J)<|Paired.mk' (by simpa using h) λi x y h1 h2=>f (i+1) x y (!6) (!6)
theorem Paired.set {α β:Type}{F:α->β->Prop}{a:α}{b:β}(h:F a b):∀ {l:!10} {r:List β} (i:Nat),Paired F l r->Paired F (l.set i a) (r.set i b)
 | _,_,_,.nil=>.nil
 | _,_,0,.cons _ t=>.cons h t
 | _,_,i+1,.cons q t=>.cons q<|Paired.set h i t
section
variable{O:ki}{v:ql}{b:B}{x:qu}
theorem Good.at (g:!21)(h1:U[i]?=some v)(h2:O[i]?=some b):RB K H0 G H v b:=by obtain⟨a,e,r⟩:=Paired.get g.vals h2;rw[h1] at e;cases e;exact r
theorem Paired.mem {α β:Type}{F:α->β->Prop}:∀ {l:!10} {r:List β} {a:α},Paired F l r->a∈l->∃b,F a b
 | _,_,_,.cons h t,e=>by
  rcases v4 e with rfl | e
  .exact⟨_,h⟩
  .exact Paired.mem t e
theorem Paired.on {α β:Type}{F F':α->β->Prop}:∀ {l:!10} {r:List β},Paired F l r->(∀a∈l,∀b,F a b->F' a b)->Paired F' l r
 | _,_,.nil,_=>.nil
 | _,_,.cons h t,f=>.cons (f _ je _ h)<|Paired.on t λa ha=>f a<|by simp[ha]
section
variable{b c:qu}
def Yd.own (y:Yd K H0 G H a b c d)(f:bW H (!26) x):(∃o,H x=some o/\bK o=true)/\G x=none/\H0 x=none:=by
 obtain⟨a,b,c,C,dx,vc,vl,e1,e2,e3⟩:=f;cases e1;obtain⟨C',dx',vc',vl',_,_,_,_,o1,o2,_,_,q,_,_,q1,q2,q3,q4⟩:=y.ex;rw[e2] at q;cases q;refine⟨?_,y.no x e3⟩;rcases e3 with rfl | rfl | rfl
 .exact⟨_,e2,rfl⟩
 .exact⟨o1,q1,q2.two⟩
 .exact⟨o2,q3,q4.two⟩
def Yd.keep (y:Yd K H0 G H a b c d)(gg:Same G G')(hh:∀x o,bW H (!26) x->H x=some o->H' x=some o)(gn:∀x,bW H (!26) x->G' x=none):Yd K H0 G' H' a b c d:=by
 obtain⟨⟨C,dx,vc,vl,dc,dl,ds,db,o1,o2,e0,e1,e2,e3,e4,e5,e6,e7,e8⟩,no,ne⟩:=y;have ft:∀x,x=a\/x=b\/x=c->bW H _ x:=λx hx=>⟨_,_,_,C,dx,vc,vl,J,e2,hx⟩
 exact⟨⟨C,dx,vc,vl,dc,dl,ds,db,o1,o2,e0,e1,hh _ _ (ft _<|.inl rfl) e2,e3.mono gg,e4.mono gg,hh _ _ (ft _<|.inr<|.inl rfl) e5,e6.mono gg,hh _ _ (ft _<|.inr<|.inr rfl) e7,e8.mono gg⟩,λx hx=>⟨gn x<|ft x hx,(no x hx).2⟩,ne⟩
def Yd.back (y:Yd K H0 G H a b c d)(hh:∀x o,bW H (!26) x->H x=some o->H' x=some o)(f:bW H' (!26) x):bW H (!26) x:=by obtain⟨a,b,c,C,dx,vc,vl,e1,e2,e3⟩:=f;cases e1;obtain⟨C',dx',vc',vl',_,_,_,_,_,_,_,_,q,_⟩:=y.ex;have:=hh _ _ ⟨_,_,_,_,_,_,_,J,q,.inl J⟩ q;rw[e2] at this;cases this;exact⟨_,_,_,_,_,_,_,J,q,e3⟩
end
def RB.foot (r:RB K H0 G H v b)(f:uU H v b x):(∃o,H x=some o/\zYU o=true/\((∃us,o = .lst us)\/bK o=true))/\G x=none/\H0 x=none:=by
 have up:∀ {a b c d},Yd K H0 G H a b c d->bW H (!26) x->(∃o,H x=some o/\zYU o=true/\((∃us,o = .lst us)\/bK o=true))/\G x=none/\H0 x=none:=λy f=>by obtain⟨⟨o,h1,h2⟩,h3⟩:=y.own f;exact⟨⟨o,h1,zXc h2,.inr h2⟩,h3⟩
 cases r with
 | no=>exact f.elim
 | fz _=>exact f.elim
 | ow h1 h2 h3 _=>cases f;exact⟨⟨_,h1,J,.inl ⟨_,J⟩⟩,h2,h3⟩
 | mu _ h1 h2 h3 h4=>cases f;exact⟨⟨_,h1,h4.nt,.inr h4.two⟩,h2,h3⟩
 | pt h1 h2 h3 _=>cases f;exact⟨⟨_,h1,J,.inr J⟩,h2,h3⟩
 | yd _ y=>exact up y f
 | yl h1 h2 h3 _ =>obtain⟨l,vs,w,e1,e2,e3,f⟩:=f;cases e1;rw[h2] at e2;cases e2;obtain⟨t,ht,rfl⟩:=v7 e3;obtain⟨d,y⟩:=Paired.mem h3 ht;exact up y f
def RB.keep (r:RB K H0 G H v b)(gg:Same G G')(gs:Same G' H')(hh:∀x o,uU H v b x->H x=some o->H' x=some o)(gn:∀x,uU H v b x->G' x=none):RB K H0 G' H' v b:=by
 cases r with
 | no=>exact .no
 | fz q=>exact .fz<|q.mono gg
 | ow h1 h2 h3 h4=>exact .ow (hh _ _ J h1) (gn _ J) h3<|h4.mono gg
 | mu q h1 h2 h3 h4=>exact .mu q (hh _ _ J h1) (gn _ J) h3<|h4.mono gg
 | pt h1 h2 h3 h4=>exact .pt (hh _ _ J h1) (gn _ J) h3 h4
 | yd q y=>exact .yd q<|y.keep gg hh gn
 | yl h1 h2 h3 h4=>exact .yl (gg _ _ h1) (gs _ _<|gg _ _ h1) (Paired.on h3 λt ht d y=>y.keep gg (λx o f=>hh x o ⟨_,_,_,J,h2,Wp.mpr ⟨t,ht,J⟩,f⟩) λx f=>gn x ⟨_,_,_,J,h2,Wp.mpr ⟨t,ht,J⟩,f⟩) h4
def RB.back (r:RB K H0 G H v b)(gs:Same G H')(hh:∀x o,uU H v b x->H x=some o->H' x=some o)(f:uU H' v b x):uU H v b x:=by
 cases r with
 | no=>exact f
 | fz _=>exact f
 | ow _ _ _ _=>exact f
 | mu _ _ _ _ _=>exact f
 | pt _ _ _ _=>exact f
 | yd _ y=>exact y.back hh f
 | yl h1 h2 h3 _ =>obtain⟨l,vs,w,e1,e2,e3,f⟩:=f;cases e1;rw[gs _ _ h1] at e2;cases e2;obtain⟨t,ht,rfl⟩:=v7 e3;obtain⟨d,y⟩:=Paired.mem h3 ht;exact⟨_,_,_,J,h2,e3,y.back (λx o f=>hh x o ⟨_,_,_,J,h2,e3,f⟩) f⟩
def RB.step (r:RB K H0 G H v b)(s:Step G H G' H'):RB K H0 G' H' v b:=r.keep s.gg s.sub (λx o _ h=>s.hh x o h) λx f=>by obtain⟨⟨o,h1,h2,_⟩,h3,_⟩:=r.foot f;exact(s.new x o h1 h2).trans h3
def Good.step (g:!21)(s:Step G H G' H'):Good K G0 H0 G' H' U O :=
 ⟨g.st.trans s,Paired.mapP g.vals λ_ _ r=>r.step s,λi j x v w b c h1 h2 h3 h4 f1 f2=>g.apart i j x v w b c h1 h2 h3 h4 ((g.at h1 h2).back (s.gg.trans s.sub) (λx o _ h=>s.hh x o h) f1)<|(g.at h3 h4).back (s.gg.trans s.sub) (λx o _ h=>s.hh x o h) f2⟩
def Good.sub (g:!21):Same G H:=g.st.sub
def Good.len (g:!21):U.length=O.length:=Rv g.vals
theorem Good.fresh (g:!21)(hn:H x=none)(j:Nat)(w:ql)(c:B)(h1:U[j]?=some w)(h2:O[j]?=some c):¬uU H w c x:=λf=>by obtain⟨⟨o,h,_⟩,_⟩:=(g.at h1 h2).foot f;rw[hn] at h;cases h
def Good.put (g:!21)(i:Nat)(r:RB K H0 G H v b)(fr:∀x,uU H v b x->∀j w c,j≠i->U[j]?=some w->O[j]?=some c->¬uU H w c x):Good K G0 H0 G H (U.set i v)<|O.set i b:=by
 have one:∀ {α:Type} {l:!10} {y z:α},(l.set i y)[i]?=some z->z=y:=λ{α l y z} h=>by rw[List.getElem?_set] at h;simp_all
 refine⟨g.st,Paired.set r i g.vals,λj k x v' w' b' c' h1 h2 h3 h4 f1 f2=>?_⟩
 by_cases hj:j=i<;>by_cases hk:k=i
 .rw[hj,hk]
 .subst hj;rw[one h1,one h2] at f1;rw[Wb<|Ne.symm hk] at h3 h4;exact absurd f2<|fr x f1 k _ _ hk h3 h4
 .subst hk;rw[one h3,one h4] at f2;rw[Wb<|Ne.symm hj] at h1 h2;exact absurd f1<|fr x f2 j _ _ hj h1 h2
 .rw[Wb<|Ne.symm hj] at h1 h2;rw[Wb<|Ne.symm hk] at h3 h4;exact g.apart j k x v' w' b' c' h1 h2 h3 h4 f1 f2
def Good.chg (g:!21){b1:B}(hs:U[i]?=some v)(hi:O[i]?=some b)(gg:Same G G')(sub:Same G' H')(hh:∀x o,¬uU H v b x->H x=some o->H' x=some o)(gn:∀x o,¬uU H v b x->H x=some o->zYU o=true->G' x=G x)(r:RB K H0 G' H' v b1) (ft:∀x,uU H' v b1 x->uU H v b x):Good K G0 H0 G' H' U<|O.set i b1:=by
 have hl:=g.len;have old:∀x,H0 x≠none->¬uU H v b x:=λx h f=>h ((g.at hs hi).foot f).2.2;have oth:∀ {j:Nat} {w:ql} {c:B} {x:qu},j≠i->U[j]?=some w->O[j]?=some c->uU H w c x->¬uU H v b x:=λ{j w c x} hj h1 h2 f1 f2=>hj<|g.apart j i x w v c b h1 h2 hs hi f1 f2;have bk:∀ {j:Nat} {w:ql} {c:B} {x:qu},U[j]?=some w->(O.set i b1)[j]?=some c->uU H' w c x->∃c',O[j]?=some c'/\uU H w c' x:=λ{j w c x} h1 h2 f=>by
  by_cases hj:j=i
  .subst hj;rw[hs] at h1;cases h1;rw[Rs (by rw[<-hl];exact(v5 hs).1)] at h2;cases h2;exact⟨b,hi,ft x f⟩
  .rw[Wb<|Ne.symm hj] at h2;exact⟨c,h2,(g.at h1 h2).back (gg.trans sub) (λy o f h=>hh y o (oth hj h1 h2 f) h) f⟩
 refine⟨⟨λx o h=>hh x o (old x jc)<|g.st.hh x o h,g.st.gg.trans gg,sub,λx o h n=>(gn x o (old x jc) (g.st.hh x o h) n).trans<|g.st.new x o h n⟩,Paired.mk' (by rw[Ps];exact hl) λj w c h1 h2=>?_,λj k x w w' c c' h1 h2 h3 h4 f1 f2=>?_⟩
 .by_cases hj:j=i
  .subst hj;rw[hs] at h1;cases h1;rw[Rs (by rw[<-hl];exact(v5 hs).1)] at h2;cases h2;exact r
  .rw[Wb<|Ne.symm hj] at h2;have q:=g.at h1 h2;refine q.keep gg sub (λy o f h=>hh y o (oth hj h1 h2 f) h) λy f=>?_;obtain⟨⟨o,e1,e2,_⟩,e3,_⟩:=q.foot f;exact(gn y o (oth hj h1 h2 f) e1 e2).trans e3
 .obtain⟨d,q1,q2⟩:=bk h1 h2 f1;obtain⟨d',q3,q4⟩:=bk h3 h4 f2;exact g.apart j k x w w' d d' h1 q1 h3 q3 q2 q4
def Good.same (g:!21)(gg:Same G G')(st:Step G0 H0 G' H')(hh:∀(x:qu) (o:HO) (i:Nat) (w:ql) (c:B),U[i]?=some w->O[i]?=some c->uU H w c x->H x=some o->H' x=some o)(gn:∀(x:qu) (i:Nat) (w:ql) (c:B),U[i]?=some w->O[i]?=some c->uU H w c x->G' x=none):Good K G0 H0 G' H' U O :=
 ⟨st,Paired.mk' g.len λi w c h1 h2=>(g.at h1 h2).keep gg st.sub (λx o f h=>hh x o i w c h1 h2 f h) λx f=>gn x i w c h1 h2 f,λi j x v w b c h1 h2 h3 h4 f1 f2=>g.apart i j x v w b c h1 h2 h3 h4 ((g.at h1 h2).back (gg.trans st.sub) (λx o f h=>hh x o i v b h1 h2 f h) f1)<|(g.at h3 h4).back (gg.trans st.sub) (λx o f h=>hh x o j w c h3 h4 f h) f2⟩
end
abbrev Ef:=ki->qi
def tF (K:jk)(f:Ef):TE:=λU H Q=>∃G0 H0 G O d,Good K G0 H0 G H U O/\f O=some d/\∀v H' G',Step G H G' H'->Rep K G' d v->Q v H'
def PF (X:Cx)(e:r8)(f:Ef):Prop:=PE X e<|tF X.K f
def PE.to {f:Ef}(h:PE X e t)(imp:∀U H Q,tF X.K f U H Q->t U H Q):PF X e f:=λZ s U H Q I q=>h Z s U H Q I<|imp U H Q q
abbrev Lf:=ki->ka
def tFr (K:jk)(f:Lf):TE:=λU H Q=>∃G0 H0 G O ds,Good K G0 H0 G H U O/\f O=some ds/\∀a vs H' G',Step G H G' H'->H a=none->H' a=some (.lst vs)->G' a=none->Reps K G' ds vs->Q (.ref a) H'
def PFr (X:Cx)(e:r8)(f:Lf):Prop:=PE X e<|tFr X.K f
def PE.toR {f:Lf}(h:PE X e t)(imp:∀U H Q,tFr X.K f U H Q->t U H Q):PFr X e f:=λZ s U H Q I q=>h Z s U H Q I<|imp U H Q q
def eL (f:Lf):Ef:=λO=>(f O).map .lst
def wL {f:Lf}(h:PFr X e f):PF X e<|eL f:=by
 refine PE.to h ?_
 sleep 1
 obtain⟨ds,h1,rfl⟩:=k9 hf;exact⟨G0,H0,G,O,ds,j0,h1,λa vs H' G' s hn ha ga rs=>k _ _ _ (s.frz hn ha ga)<|xF.mpr ⟨a,vs,rfl,.of zN,rs.mono<|Same.new ga⟩⟩
abbrev Tf:=ki->ku
end L2
variable{t:Bool}{tc ta tt:Tf}{p:Pos}{q:ki->Bool}{fa el fk fb fc src f1:Ef}{O O':ki}{xb xa:ki->kf}{ga gi:Lf}{bD:B}
namespace L2
def tFT (K:jk)(f:Tf):TT:=λU H Q=>∃G0 H0 G O b,Good K G0 H0 G H U O/\f O=some b/\∀H' G',Step G H G' H'->Q b H'
def PFT (X:Cx)(e:r8)(f:Tf):Prop:=PT X e<|tFT X.K f
def PT.to {t:TT}{f:Tf}(h:PT X e t)(imp:∀U H Q,tFT X.K f U H Q->t U H Q):PFT X e f:=λZ s U H Q I q=>h Z s U H Q I<|imp U H Q q
def PFW (X:Cx)(e:r8)(f:Tf):Prop:=PW X e<|tFT X.K f
def tFA (K:jk)(f:Lf):TA:=λU H Q=>∃G0 H0 G O ds,Good K G0 H0 G H U O/\f O=some ds/\∀vs H' G',Step G H G' H'->Reps K G' ds vs->Q vs H'
def PFA (X:Cx)(es:qt)(f:Lf):Prop:=PA X es<|tFA X.K f
def PA.to {t:TA}{f:Lf}(h:PA X es t)(imp:∀U H Q,tFA X.K f U H Q->t U H Q):PFA X es f:=λpos Z s U H Q I q=>h pos Z s U H Q I<|imp U H Q q
section
variable{a b:r8}{tb:Tf}
def zNC (O:ki)(i:Nat):qi:=match O[i]? with | some (.fz d)=>some d | _=>none
def eV (i:Nat):Ef:=λO=>zNC O i
def zNn (g:!21)(h:zNC O i=some d):∃v,U[i]?=some (some v)/\Rep K G d v:=by
 unfold zNC at h;split at h
 .rename_i d' e;cases h;obtain⟨o,h1,r⟩:=Paired.get g.vals e;cases r with
  | fz r=>exact⟨_,h1,r⟩
 .cases h
def yS (i:Nat)(hN:!27:=by rfl)(hv:!31:=by exact visQ rfl)(hd:!20:=by decide)(hcd:!30:=by decide):PF X (.Name x pos)<|eV i:=by
 refine PE.to (wI hN hv hd hcd) ?_
 sleep 1
 obtain⟨v,h1,r⟩:=zNn j0 hf;exact⟨v,h1,k v H G (.refl j0.sub) r⟩
def eC (d:D):Ef:=λ_=>some d
abbrev jp:Ef:=eC<|.int 0
abbrev jq:Ef:=eC<|.int 1
abbrev jr:Ef:=eC<|.int 2
abbrev jt:Ef:=eC<|.int 3
abbrev ju:Ef:=eC<|.int 4
abbrev jv:Ef:=eC<|.int 5
abbrev jw:Ef:=eC<|.int 6
abbrev jx:Ef:=eC<|.int 7
abbrev jy:Ef:=eC<|.int 8
abbrev jz:=kd->qi
abbrev J0:=@List.Nodup Str
def zTM (h:PE X e<|tC v)(r:∀G,Rep X.K G d v):PF X e<|eC d:=by refine PE.to h ?_;rintro U H Q ⟨G0,H0,G,O,d',j0,hf,k⟩;cases hf;exact k v H G (.refl j0.sub)<|r G
def zW {i:Int}:PF X (.Constant (.int i) j pos)<|eC<|.int i:=zTM zGy λ_=>zC.mpr J
def rO {i:Bool}:PF X (.Constant (.bool i) j pos)<|eC<|.bl i:=zTM zD0 λ_=>wP.mpr J
def zT9:PF X (.Constant .none j pos)<|eC .non:=zTM zLX λ_=>sX.mpr J
def wX:PF X (.Constant (.str x) j pos)<|eC<|.str x:=zTM zPU λ_=>yF.mpr J
def eI (C:Int->Int->Bool)(g:Int->Int->Int)(fa fb:Ef):Ef:=λO=>(fa O).bind λx=>(fb O).bind λy=>match x,y with | .int i,.int j=>if C i j then some (.int<|g i j) else none | _,_=>none
def zL9 {g:Int->Int->Int}(h:eI C g fa fb O=some d):∃i j,fa O=some (.int i)/\fb O=some (.int j)/\C i j=true/\d = .int (g i j):=by
 obtain⟨x,h1,h⟩:=k8 h;obtain⟨y,h2,h⟩:=k8 h;cases x with
 | int i =>
  cases y with
  | int j =>
   dsimp only at h;split at h
   .rename_i hc;cases h;exact⟨i,j,h1,h2,hc,J⟩
   .cases h
  | _=>cases h
 | _=>cases h
def zPW {op:Operator}{P:Int->Int->Prop}{g:Int->Int->Int}(ho:OpR X (binaryOp op)<|rI P λi j=>.int<|g i j)(hP:∀i j,C i j=true->P i j)(ha:!12)(hb:PF X b fb):PF X (.BinOp a op b pos)<|eI C g fa fb:=by
 refine PE.to (zYu ho ha hb) ?_
 sleep 1
 obtain⟨i,j,h1,h2,hc,rfl⟩:=zL9 hf;exact⟨G0,H0,G,O,_,j0,h1,λx H1 G1 s1 r1=>⟨G0,H0,G1,O,_,j0.step s1,h2,λy H2 G2 s2 r2=>⟨i,j,zC.mp r1,zC.mp r2,hP i j hc,k _ _ G2 (!18)<|zC.mpr rfl⟩⟩⟩
def zOI {op:Operator}{g:Int->Int->Int}(ho:OpR X (binaryOp op)<|rI0 λi j=>.int<|g i j)(ha:!12)(hb:PF X b fb):PF X (.BinOp a op b pos)<|eI (λ_ _=>true) g fa fb:=by
 refine PE.to (zYu ho ha hb) ?_
 sleep 1
 obtain⟨i,j,h1,h2,hc,rfl⟩:=zL9 hf;exact⟨G0,H0,G,O,_,j0,h1,λx H1 G1 s1 r1=>⟨G0,H0,G1,O,_,j0.step s1,h2,λy H2 G2 s2 r2=>⟨i,j,zC.mp r1,zC.mp r2,k _ _ G2 (!18)<|zC.mpr rfl⟩⟩⟩
abbrev uB:=eI (λ_ _=>true) λi j=>i+j
abbrev uT:=eI (λ_ _=>true) λi j=>i - j
def zXP (i j:Int):Bool:=(decide (-(2^64) < i)&&decide (i < 2^64))||(decide (-(2^64) < j)&&decide (j < 2^64))
abbrev fW:=eI zXP λi j=>i*j
def zGn (_ j:Int):Bool:=decide (0 < j)&&decide (j < 1073741824)
abbrev uL:=eI zGn λi j=>i / j
abbrev wO:=eI (λ_ j=>decide (0 < j)) λi j=>i % j
def zKm (i j:Int):Bool:=decide (0<=j)&&decide (j<=1000000)&&decide (i.natAbs < 2^64)
abbrev zTW:=eI zKm λi j=>i*2^j.toNat
abbrev zFG:=eI (λ_ j=>decide (0<=j)) λi j=>i / 2^j.toNat
abbrev zFX:=eI (λ_ _=>true) λi j=>Builtin.bitAnd i j
abbrev zF2:=eI (λ_ _=>true) λi j=>Builtin.bitXor i j
def xD (ha:!12)(hb:PF X b fb):PF X (.BinOp a .Add b pos)<|uB fa fb:=zOI zLe ha hb
def vM (ha:!12)(hb:PF X b fb):PF X (.BinOp a .Sub b pos)<|uT fa fb:=zOI zFj ha hb
def mE (ha:!12)(hb:PF X b fb):PF X (.BinOp a .Mult b pos)<|fW fa fb:=zPW zFr (λi j h=>by unfold zXP at h;simp only[Td,Wy,Wl] at h;exact h) ha hb
def vI (ha:!12)(hb:PF X b fb):PF X (.BinOp a .FloorDiv b pos)<|uL fa fb:=zPW zIX (λi j h=>by unfold zGn at h;simp only[Wy,Wl] at h;exact h) ha hb
def xK (ha:!12)(hb:PF X b fb):PF X (.BinOp a .Mod b pos)<|wO fa fb:=zPW zEY (λi j h=>Rx h) ha hb
def zHN {i j:Int}(h:zKm i j=true):zDC i j:=by unfold zKm at h;simp only[Wy,Wl] at h;exact⟨h.1.1,h.1.2,h.2⟩
def zSR (ha:!12)(hb:PF X b fb):PF X (.BinOp a .LShift b pos)<|zTW fa fb:=zPW zFl (λi j h=>zHN h) ha hb
def zJd (ha:!12)(hb:PF X b fb):PF X (.BinOp a .RShift b pos)<|zFG fa fb:=zPW zG0 (λi j h=>Rx h) ha hb
def zPc (ha:!12)(hb:PF X b fb):PF X (.BinOp a .BitAnd b pos)<|zFX fa fb:=zOI zFv ha hb
def zKc (ha:!12)(hb:PF X b fb):PF X (.BinOp a .BitXor b pos)<|zF2 fa fb:=zOI zFs ha hb
def zEr (fa:Ef):Ef:=λO=>(fa O).bind λx=>match x with | .int i=>some (.int (-i)) | _=>none
def zFY (ha:!12):PF X (.UnaryOp .USub a pos)<|zEr fa:=by
 refine PE.to (zE5 zFI ha) ?_
 sleep 2
 split at hf
 .rename_i i;cases hf;exact⟨G0,H0,G,O,_,j0,h1,λx H1 G1 s1 r1=>⟨i,zC.mp r1,k _ _ G1 s1<|zC.mpr rfl⟩⟩
 .simp_all
def eB2 (g:D->D->ku)(fa fb:Ef):Tf:=λO=>(fa O).bind λx=>(fb O).bind λy=>g x y
def bQ (t:Tf):Ef:=λO=>(t O).map .bl
def gLt:D->D->ku | .int i,.int j=>some (decide (i < j)) | _,_=>none
def gLe:D->D->ku | .int i,.int j=>some (decide (i<=j)) | _,_=>none
def gGt:D->D->ku | .int i,.int j=>some (decide (j < i)) | _,_=>none
def gEq:D->D->ku
 | .int i,.int j=>some (decide (i=j))
 | .bl i,.bl j=>some (decide (i=j))
 | .str i,.str j=>some (decide (i=j))
 | _,_=>none
def gNe (x y:D):ku:=(gEq x y).map (!·)
def CmR (X:Cx)(op:CmpOp)(g:D->D->ku):Prop:=∃r:R2,OpR X (compareOp op) r/\∀(d d':D) (k:Bool) (G H:Hp) (x y:V) (Q:VK),g d d'=some k->Same G H->Rep X.K G d x->Rep X.K G d' y->(∀H' G',Step G H G' H'->Q (.bl k) H')->r x y H Q
def zQu {p:Int->Int->Bool}(ho:OpR X (compareOp op)<|rI0 λi j=>.bl<|p i j)(hg:∀d d' k,g d d'=some k->∃i j,d = .int i/\d' = .int j/\k=p i j):CmR X op g:=by refine⟨_,ho,λd d' k G H x y Q h s rx ry q=>?_⟩;obtain⟨i,j,rfl,rfl,rfl⟩:=hg d d' k h;exact⟨i,j,zC.mp rx,zC.mp ry,q H G<|.refl s⟩
theorem zL0:CmR X .Lt gLt:=zQu zDA λd d' k h=>by unfold gLt at h;split at h<;>cases h;exact⟨_,_,J,J,J⟩
theorem zVZ:CmR X .LtE gLe:=zQu zEo λd d' k h=>by unfold gLe at h;split at h<;>cases h;exact⟨_,_,J,J,J⟩
theorem zDP:CmR X .Gt gGt:=zQu zEF λd d' k h=>by unfold gGt at h;split at h<;>cases h;exact⟨_,_,J,J,J⟩
def zLg {k:Bool}{x y:V}(h:gEq d d'=some k)(rx:Rep K G d x)(ry:Rep K G d' y):zFc x y=true/\decide (x=y)=k:=by
 unfold gEq at h;split at h
 .cases h;rw[zC] at rx ry;subst rx;subst ry;exact⟨J,je⟩
 .cases h;rw[wP] at rx ry;subst rx;subst ry;exact⟨J,je⟩
 .cases h;rw[yF] at rx ry;subst rx;subst ry;exact⟨J,je⟩
 .cases h
def sZ:CmR X .Eq gEq:=⟨_,zDT,λd d' k G H x y Q h s rx ry q=>by obtain⟨h1,h2⟩:=zLg h rx ry;exact⟨h1,by rw[h2];exact q H G<|.refl s⟩⟩
def zGM:CmR X .NotEq gNe:=⟨_,zDQ,λd d' k G H x y Q h s rx ry q=>by obtain⟨k',h',rfl⟩:=k9 h;obtain⟨h1,h2⟩:=zLg h' rx ry;exact⟨h1,by rw[h2];exact q H G<|.refl s⟩⟩
def zOX {k:Bool}(h:eB2 g fa fb O=some k):∃x y,fa O=some x/\fb O=some y/\g x y=some k:=by obtain⟨x,h1,h⟩:=k8 h;obtain⟨y,h2,h⟩:=k8 h;exact⟨x,y,h1,h2,h⟩
def zRw {t:Tf}(h:bQ t O=some d):∃k,t O=some k/\d = .bl k:=by obtain⟨k,h1,rfl⟩:=k9 h;exact⟨k,h1,J⟩
def zVY (hc:CmR X op g)(ha:!12)(hb:PF X b fb)(hm:behindInMarks op b=false:=by first | exact zV6 _ | (with_unfolding_all rfl)):PF X (.Compare a [op] [b] pos)<|bQ<|eB2 g fa fb:=by
 obtain⟨r,ho,hr⟩:=hc;refine PE.to (zJc ho ha hb hm) ?_
 sleep 1
 obtain⟨c,hf2,rfl⟩:=zRw hf;obtain⟨x,y,h1,h2,h3⟩:=zOX hf2;exact⟨G0,H0,G,O,_,j0,h1,λu H1 G1 s1 r1=>⟨G0,H0,G1,O,_,j0.step s1,h2,λv H2 G2 s2 r2=>hr x y c G2 H2 u v Q h3 s2.sub (r1.mono s2.gg) r2 λH' G' s3=>k _ _ G' ((!18).trans s3)<|wP.mpr rfl⟩⟩
def yL (hc:CmR X op g)(ha:!12)(hb:PF X b fb)(hm:behindInMarks op b=false:=by first | exact zV6 _ | (with_unfolding_all rfl)):PFT X (.Compare a [op] [b] pos)<|eB2 g fa fb:=by obtain⟨r,ho,hr⟩:=hc;refine PT.to (zPk ho ha hb hm) ?_;rintro U H Q ⟨G0,H0,G,O,c,j0,hf,k⟩;obtain⟨x,y,h1,h2,h3⟩:=zOX hf;exact⟨G0,H0,G,O,_,j0,h1,λu H1 G1 s1 r1=>⟨G0,H0,G1,O,_,j0.step s1,h2,λv H2 G2 s2 r2=>hr x y c G2 H2 u v _ h3 s2.sub (r1.mono s2.gg) r2 λH' G' s3=>⟨c,J,k _ G'<|(!18).trans s3⟩⟩⟩
def gQ:D->Bool | .non=>true | _=>false
def zUT (r:Rep K G d v):decide (v = .non)=gQ d:=by
 cases d with
 | non=>rw[sX] at r;subst r;rfl
 | bl b=>rw[wP] at r;subst r;simp[gQ]
 | int b=>rw[zC] at r;subst r;simp[gQ]
 | str b=>rw[yF] at r;subst r;simp[gQ]
 | tup ds=>obtain⟨p,_,rfl,_⟩:=yE.mp r;simp[gQ]
 | lst ds=>obtain⟨p,_,rfl,_⟩:=xF.mp r;simp[gQ]
 | obj C ns ds=>obtain⟨_,p,_,_,_,rfl,_⟩:=sU.mp r;simp[gQ]
 | exc C ns ds=>obtain⟨_,p,_,_,_,rfl,_⟩:=aJ.mp r;simp[gQ]
 | dct ks ds=>obtain⟨p,_,_,rfl,_⟩:=zX1.mp r;simp[gQ]
def zQc:D->D->ku | d,.non=>some (!gQ d) | _,_=>none
theorem zJI:CmR X .IsNot zQc:=⟨_,zIS,λd d' k G H x y Q h s rx ry q=>by
 unfold zQc at h;split at h
 .cases h;refine⟨sX.mp ry,?_⟩;rw[zUT rx];exact q H G<|.refl s
 .cases h⟩
def tB1 (f:Ef):Tf:=λO=>(f O).bind λx=>match x with | .bl k=>some k | _=>none
def zNK {f:Ef}{k:Bool}(h:tB1 f O=some k):f O=some (.bl k):=by
 obtain⟨x,h1,h⟩:=k8 h;split at h
 .simp_all
 .cases h
def wA (ha:!12)(he:∀whole,isTrue a X.env whole=(do let v ←whole;standAt a.pos;holding [v] (truthy v)):=by intro _;rfl):PFT X a<|tB1 fa:=by refine PT.to (zGg ha he) ?_;rintro U H Q ⟨G0,H0,G,O,c,j0,hf,k⟩;exact⟨G0,H0,G,O,_,j0,zNK hf,λu H1 G1 s1 r1=>⟨c,wP.mp r1,k _ G1 s1⟩⟩
def sD (t:Tf):Tf:=λO=>(t O).map (!·)
def bV (t u:Tf):Tf:=λO=>(t O).bind λc=>if c=true then u O else some false
def zIi (t u:Tf):Tf:=λO=>(t O).bind λc=>if c=true then some true else u O
def sW (ha:PFT X a ta):PFT X (.UnaryOp .Not a pos)<|sD ta:=by refine PT.to (zGh ha) ?_;rintro U H Q ⟨G0,H0,G,O,c,j0,hf,k⟩;obtain⟨c',h1,rfl⟩:=k9 hf;exact⟨G0,H0,G,O,_,j0,h1,λH1 G1 s1=>k _ G1 s1⟩
def PW.to {t:TT}{f:Tf}(h:PW X e t)(imp:∀U H Q,tFT X.K f U H Q->t U H Q):PFW X e f:=λ_ Z s U H Q I q=>h _ Z s U H Q I<|imp U H Q q
def zWX (ha:PFT X a ta):PFW X (.BoolOp .And [a] pos) ta:=zIW ha
def zOi (ha:PFT X a ta):PFW X (.BoolOp .Or [a] pos) ta:=zG4 ha
def zTQ {rest:qt}(ha:PFT X a ta)(hb:PFW X (.BoolOp .And (b::rest) pos) tb):PFW X (.BoolOp .And (a::b::rest) pos)<|bV ta tb:=by
 refine PW.to (zGo ha hb) ?_;rintro U H Q ⟨G0,H0,G,O,c,j0,hf,k⟩;obtain⟨c',h1,hf⟩:=k8 hf;refine⟨G0,H0,G,O,_,j0,h1,λH1 G1 s1=>?_⟩;split at hf
 .rename_i h;rw[Qg h];exact⟨G0,H0,G1,O,c,j0.step s1,hf,λH2 G2 s2=>k _ G2 (!18)⟩
 .rename_i h;rw[Qc h];cases hf;exact k _ G1 s1
def zLP {rest:qt}(ha:PFT X a ta)(hb:PFW X (.BoolOp .Or (b::rest) pos) tb):PFW X (.BoolOp .Or (a::b::rest) pos)<|zIi ta tb:=by
 refine PW.to (zEt ha hb) ?_;rintro U H Q ⟨G0,H0,G,O,c,j0,hf,k⟩;obtain⟨c',h1,hf⟩:=k8 hf;refine⟨G0,H0,G,O,_,j0,h1,λH1 G1 s1=>?_⟩;split at hf
 .rename_i h;rw[Qg h];cases hf;exact k _ G1 s1
 .rename_i h;rw[Qc h];exact⟨G0,H0,G1,O,c,j0.step s1,hf,λH2 G2 s2=>k _ G2 (!18)⟩
def zLS (h:PFW X e ta):PFT X e ta:=h.pt
def zTU {op:BoolOp}(h:!12):PF X (.BoolOp op [a] pos) fa:=zGa h
def zZQ (fa fb:Ef):Ef:=λO=>(tB1 fa O).bind λc=>if c=true then fb O else some (.bl false)
def zTq {rest:qt}(ha:!12)(hb:PF X (.BoolOp .And (b::rest) pos) fb):PF X (.BoolOp .And (a::b::rest) pos)<|zZQ fa fb:=by
 refine PE.to (zFh ha hb) ?_
 sleep 1
 obtain⟨c,h1,hf⟩:=k8 hf;refine⟨G0,H0,G,O,_,j0,zNK h1,λu H1 G1 s1 r1=>⟨c,wP.mp r1,?_⟩⟩;split at hf
 .rename_i h;rw[Qg h];exact⟨G0,H0,G1,O,d,j0.step s1,hf,λv H2 G2 s2 r2=>k _ _ G2 (!18) r2⟩
 .rename_i h;rw[Qc h];cases hf;exact k _ _ G1 s1<|wP.mpr rfl
def eIf (t:Tf)(fa fb:Ef):Ef:=λO=>(t O).bind λc=>if c=true then fa O else fb O
def zR0 (ht:PFT X c ta)(ha:!12)(hb:PF X b fb):PF X (.IfExp c a b pos)<|eIf ta fa fb:=by
 refine PE.to (zMp ht ha hb) ?_
 sleep 1
 obtain⟨c',h1,hf⟩:=k8 hf;refine⟨G0,H0,G,O,_,j0,h1,λH1 G1 s1=>?_⟩;split at hf
 .rename_i h;rw[Qg h];exact⟨G0,H0,G1,O,d,j0.step s1,hf,λv H2 G2 s2 r2=>k _ _ G2 (!18) r2⟩
 .rename_i h;rw[Qc h];exact⟨G0,H0,G1,O,d,j0.step s1,hf,λv H2 G2 s2 r2=>k _ _ G2 (!18) r2⟩
def zS:Lf:=λ_=>some []
def zY (f:Ef)(r:Lf):Lf:=λO=>(f O).bind λd=>(r O).map λds=>d::ds
def zX:PFA X [] zS:=by
 refine PA.to yK ?_
 sleep 1
 cases hf;exact k [] H G (.refl j0.sub)<|zD.mpr rfl
def zVa {f:Ef}{r:Lf}(h:zY f r O=some ds):∃d dr,f O=some d/\r O=some dr/\ds=d::dr:=by obtain⟨d,h1,h⟩:=k8 h;obtain⟨dr,h2,rfl⟩:=k9 h;exact⟨d,dr,h1,h2,J⟩
def zZ (ha:PF X e fa)(hr:PFA X es ga)(hs:!23:=by rfl):PFA X (e::es)<|zY fa ga:=by refine PA.to (yX ha hr hs) ?_;rintro U H Q ⟨G0,H0,G,O,ds,j0,hf,k⟩;obtain⟨d,dr,h1,h2,rfl⟩:=zVa hf;exact⟨G0,H0,G,O,_,j0,h1,λu H1 G1 s1 r1=>⟨G0,H0,G1,O,_,j0.step s1,h2,λv H2 G2 s2 r2=>k _ _ G2 (!18)<|zQ.mpr ⟨u,v,rfl,r1.mono s2.gg,r2⟩⟩⟩
abbrev lim:Nat:=100000
def xR (h:n<=lim):n < sizeLine:=Us h jb
def okL (ds:kd):ka:=if ds.length<=lim then some ds else none
def zZw {es:kd}(h:okL ds=some es):es=ds/\ds.length<=lim:=by
 unfold okL at h;split at h
 .simp_all
 .cases h
def w9 (g:Lf):Ef:=λO=>((g O).bind okL).map .tup
def xV {k:Nat}(h:PFA X es ga):PF X (.Tuple es k pos)<|w9 ga:=by
 refine PE.to (zQ2 h) ?_
 sleep 1
 obtain⟨ds,h1,rfl⟩:=k9 hf;obtain⟨es,h1,h2⟩:=k8 h1;obtain⟨rfl,h3⟩:=zZw h2;refine⟨G0,H0,G,O,_,j0,h1,λvs H1 G1 s1 r1=>⟨by rw[<-r1.length];exact Ww<|xR h3,λp hp=>?_⟩⟩;have s2:=Step.laid (o:=.tup vs) s1.sub hp;exact k _ _ _ (!18)<|yE.mpr ⟨p,vs,rfl,.of zN,r1.mono s2.gg⟩
def xA (g:Lf):Lf:=λO=>(g O).bind okL
def xY (h:PFA X es ga):PFr X (.List es pos)<|xA ga:=by
 refine PE.toR (zJZ h) ?_
 sleep 1
 obtain⟨es,h1,h2⟩:=k8 hf;obtain⟨rfl,h3⟩:=zZw h2;exact⟨G0,H0,G,O,_,j0,h1,λvs H1 G1 s1 r1=>⟨by rw[<-r1.length];exact Ww<|xR h3,λp hp=>k p vs _ G1 (s1.trans<|Step.own s1.sub hp) (s1.hh.free hp) zN (s1.sub.free hp) r1⟩⟩
def atD (x y:D):qi:=match x,y with
 | .tup ds,.int i=>atI ds i
 | .lst ds,.int i=>atI ds i
 | .str z,.int i=>if z.length<=lim then(atI z.cps.toList i).map λc=>.str ⟨#[c]⟩ else none
 | _,_=>none
def eIx (fa fb:Ef):Ef:=λO=>(fa O).bind λx=>(fb O).bind λy=>atD x y
def zXk {i:Int}(r:Reps K G ds vs)(h:atI ds i=some d):∃v,atI vs i=some v/\Rep K G d v:=by unfold atI at h ⊢;rw[r.length] at h;obtain⟨j,h1,h2⟩:=k8 h;obtain⟨v,h3,h4⟩:=r.get h2;exact⟨v,by rw[h1];exact h3,h4⟩
def yO (ha:!12)(hb:PF X b fb)(hs:zXE b:=by exactλ_ _=>rfl):PF X (.Subscript a b pos)<|eIx fa fb:=by
 refine PE.to (zK3 zJp ha hb hs) ?_
 sleep 2
 obtain⟨y,h2,hf⟩:=k8 hf;refine⟨G0,H0,G,O,_,j0,h1,λu H1 G1 s1 r1=>⟨G0,H0,G1,O,_,j0.step s1,h2,λv H2 G2 s2 r2=>?_⟩⟩;have r1:=r1.mono s2.gg;have s3:=s1.trans s2;unfold atD at hf;split at hf
 .obtain⟨p,vs,rfl,q,rs⟩:=yE.mp r1;obtain⟨w,e,rw'⟩:=zXk rs hf;exact .inr<|.inl ⟨p,vs,_,w,rfl,zC.mp r2,s2.sub.tup q,e,k _ _ G2 s3 rw'⟩
 .obtain⟨p,vs,rfl,q,rs⟩:=xF.mp r1;obtain⟨w,e,rw'⟩:=zXk rs hf;exact .inl ⟨p,vs,_,w,J,zC.mp r2,s2.sub.seq q,e,k _ _ G2 s3 rw'⟩
 .split at hf
  .rename_i hz;obtain⟨c,e,rfl⟩:=k9 hf;exact .inr<|.inr ⟨_,_,c,yF.mp r1,zC.mp r2,Ww<|xR hz,e,k _ _ G2 s3<|yF.mpr rfl⟩
  .simp_all
 .simp_all
end
inductive Out where
 | nx (O:ki) | rt (d:D) | rl (ds:kd) | bk (O:ki) | ct (O:ki)
 deriving Inhabited
abbrev Sf:=ki->Option Out
def Wants (K:jk)(G0 H0 G:Hp)(D:Ends):Out->Prop
 | .nx O'=>∀U' H' G',Same G G'->Good K G0 H0 G' H' U' O'->D.nx U' H'
 | .bk O'=>∀U' H' G',Same G G'->Good K G0 H0 G' H' U' O'->D.bk U' H'
 | .ct O'=>∀U' H' G',Same G G'->Good K G0 H0 G' H' U' O'->D.ct U' H'
 | .rt d=>∀v H' G',Step G0 H0 G' H'->Rep K G' d v->D.rt v H'
 | .rl ds=>∀a vs H' G',Step G0 H0 G' H'->H0 a=none->H' a=some (.lst vs)->G' a=none->Reps K G' ds vs->D.rt (.ref a) H'
def tFS (K:jk)(f:Sf):TS:=λD U H=>∃G0 H0 G O o,Good K G0 H0 G H U O/\f O=some o/\Wants K G0 H0 G D o
def PFS (X:Cx)(st:r9)(f:Sf):Prop:=PS X st<|tFS X.K f
def PFSs (X:Cx)(sts:qg)(f:Sf):Prop:=PSs X sts<|tFS X.K f
def PS.to {t:TS}{f:Sf}(h:PS X st t)(imp:∀D U H,tFS X.K f D U H->t D U H):PFS X st f:=λZ s U H D I q=>h Z s U H D I<|imp D U H q
def PSs.to {st:qg}{t:TS}{f:Sf}(h:PSs X st t)(imp:∀D U H,tFS X.K f D U H->t D U H):PFSs X st f:=λZ s U H D I q=>h Z s U H D I<|imp D U H q
def Wants.mono {D:Ends}{o:Out}(h:Wants K G0 H0 G D o)(s:Same G G'):Wants K G0 H0 G' D o:=by
 cases o with
 | nx O=>exactλU' H' G2 s2 g=>h U' H' G2 (s.trans s2) g
 | bk O=>exactλU' H' G2 s2 g=>h U' H' G2 (s.trans s2) g
 | ct O=>exactλU' H' G2 s2 g=>h U' H' G2 (s.trans s2) g
 | rt d=>exact h
 | rl ds=>exact h
def zUo:B->Bool | .ow _=>true | .mu _ _=>true | .yd _ _=>true | .pt _=>true | .yl _=>true | _=>false
def zZ6 {v:ql}{b:B}{x:qu}(f:uU H v b x):zUo b=true:=by cases b<;>first | rfl | exact f.elim
def zHE {b b':B}(hb:zUo b'=false)(h:(O.set i b')[j]?=some b)(o:zUo b=true):j≠i/\O[j]?=some b:=by
 by_cases e:j=i
 .subst e;rw[List.getElem?_set] at h;simp_all
 .rw[Wb<|Ne.symm e] at h;exact⟨e,h⟩
section
variable{es:kd}{us:kj}
def Good.setF (g:!21)(i:Nat)(r:Rep K G d v):Good K G0 H0 G H (U.set i<|some v)<|O.set i<|.fz d:=g.put i (.fz r) λ_ f=>f.elim
def Good.addr (g:!21)(h:O[i]?=some (.ow ds)):∃a vs,U[i]?=some (!26)/\H a=some (.lst vs)/\G a=none/\H0 a=none/\Reps K G ds vs:=by
 obtain⟨o,e,r⟩:=Paired.get g.vals h;cases r with
 | ow h1 h2 h3 h4=>exact⟨_,_,e,h1,h2,h3,h4⟩
def Good.setO (g:!21)(i:Nat)(ha:H a=some (.lst vs))(ga:G a=none)(h0:H0 a=none)(rs:Reps K G ds vs)(fr:∀(j:Nat) (w:ql) (c:B),U[j]?=some w->O[j]?=some c->¬uU H w c a):Good K G0 H0 G H (U.set i (!26))<|O.set i<|.ow ds:=by exact g.put i (.ow ha ga h0 rs) λx f j w c hj h1 h2=>by cases f;exact fr j w c h1 h2
def Good.wr (g:!21)(hi:O[i]?=some (.ow ds))(hs:U[i]?=some (!26))(rs:Reps K G es us):Good K G0 H0 G (upd H a<|.lst us) U<|O.set i<|.ow es:=by obtain⟨a',vs,h1,h2,h3,h4,_⟩:=g.addr hi;rw[hs] at h1;cases h1;exact g.chg hs hi (Same.refl _) (λb o e=>by rw[zG<|yU e h3];exact g.sub b o e) (λx o f h=>by rw[zG λz=>f (by rw[z];rfl)];exact h) (λ_ _ _ _ _=>rfl) (.ow zN h3 h4 rs) λx f=>f
def Same.lend {p:qu}(s:Same G H)(h:H p=some o):Same (upd G p o) H:=λb u q=>by
 by_cases z:b=p
 .subst z;rw[zN] at q;rw[h];exact q
 .rw[zG z] at q;exact s b u q
def Good.lendL (g:!21)(hi:O[i]?=some (.ow ds)):∃p vs,G p=none/\H p=some (.lst vs)/\Good K G0 H0 (upd G p<|.lst vs) H U (O.set i<|.fz<|.lst ds):=by obtain⟨p,vs,h1,h2,h3,h4,h5⟩:=g.addr hi;have sG:Same G<|upd G p<|.lst vs:=Same.new h3;exact⟨p,vs,h3,h2,g.chg h1 hi sG (g.sub.lend h2) (λ_ _ _ h=>h) (λx o f _ _=>zG λz=>f (by rw[z];rfl)) (.fz<|xF.mpr ⟨p,vs,rfl,.of zN,h5.mono sG⟩) λx f=>f.elim⟩
end
section
variable{b:r8}{rest:qg}{f g:Sf}
def zH (f g:Sf):Sf:=λO=>(f O).bind λo=>match o with | .nx O'=>g O' | o=>some o
def wC:Sf:=λO=>some<|.nx O
def yQ:PFSs X [] wC:=by
 refine PSs.to zX5 ?_
 sleep 3
 cases hf;exact k U H G (Same.refl _) j0
def zU (h:PFS X st f):PFSs X [st] f:=zXz h
def zT (h1:PFS X st f)(h2:PFSs X rest g):PFSs X (st::rest)<|zH f g:=by
 refine PSs.to (tP h1 h2) ?_
 sleep 3
 obtain⟨o1,h1,hf⟩:=k8 hf;refine⟨G0,H0,G,O,o1,j0,h1,?_⟩;cases o1 with
 | nx O'=>exactλU' H' G' s g'=>⟨G0,H0,G',O',o,g',hf,k.mono s⟩
 | rt d=>cases hf;exact k
 | rl d=>cases hf;exact k
 | bk d=>cases hf;exact k
 | ct d=>cases hf;exact k
def xS (f:Ef):Sf:=λO=>(f O).map .rt
def yV (h:PF X e fa):PFS X (.Return (some e) pos)<|xS fa:=by
 refine PS.to (zT8 h) ?_
 sleep 3
 obtain⟨d,h1,rfl⟩:=k9 hf;exact⟨G0,H0,G,O,d,j0,h1,λv H' G' s r=>k v H' G' (j0.st.trans s) r⟩
def wN (f:Lf):Sf:=λO=>(f O).map .rl
def xC (h:PFr X e ga):PFS X (.Return (some e) pos)<|wN ga:=by
 refine PS.to (zT8 h) ?_
 sleep 3
 obtain⟨d,h1,rfl⟩:=k9 hf;exact⟨G0,H0,G,O,d,j0,h1,λp vs H' G' s hn hp gp rs=>k p vs H' G' (j0.st.trans s) (j0.st.hh.free hn) hp gp rs⟩
def zU0 (i:Nat):Sf:=λO=>match O[i]? with | some (.ow ds)=>some (.rl ds) | _=>none
def zXy (i:Nat)(hN:!27:=by rfl)(hv:!31:=by exact visQ rfl)(hd:!20:=by decide)(hcd:!30:=by decide):PFS X (.Return (some<|.Name x pos') pos)<|zU0 i:=by
 refine PS.to (zT8<|wI hN hv hd hcd) ?_;rintro D U H ⟨G0,H0,G,O,o,j0,hf,k⟩;unfold zU0 at hf;split at hf
 .rename_i ds e;cases hf;obtain⟨p,vs,h1,h2,h3,h4,h5⟩:=j0.addr e;exact⟨.ref p,h1,k p vs H G j0.st h4 h2 h3 h5⟩
 .simp_all
def sIf (t:Tf)(f g:Sf):Sf:=λO=>(t O).bind λc=>if c=true then f O else g O
def yA {sa sb:qg}(ht:PFT X c ta)(ha:PFSs X sa f)(hb:PFSs X sb g):PFS X (.If c sa sb pos)<|sIf ta f g:=by
 refine PS.to (zRz ht ha hb) ?_
 sleep 3
 obtain⟨c',h1,hf⟩:=k8 hf;refine⟨G0,H0,G,O,_,j0,h1,λH1 G1 s1=>?_⟩;split at hf
 .rename_i h;rw[Qg h];exact⟨G0,H0,G1,O,o,j0.step s1,hf,k.mono s1.gg⟩
 .rename_i h;rw[Qc h];exact⟨G0,H0,G1,O,o,j0.step s1,hf,k.mono s1.gg⟩
def mN (f:Ef):Sf:=λO=>(f O).map λ_=>.nx O
def mG (h:PF X e fa)(hs:swapsWith e none pos.line X.env=pure false:=by rfl):PFS X (.Expr e pos)<|mN fa:=by
 refine PS.to (pV h hs) ?_
 sleep 3
 obtain⟨d,h1,rfl⟩:=k9 hf;exact⟨G0,H0,G,O,d,j0,h1,λv H' G' s r=>k U H' G' s.gg<|j0.step s⟩
abbrev Gf:=D->ki->Option ki
def tFG (K:jk)(g:Gf):TG:=λv U H Q=>∃G0 H0 G O d O',Good K G0 H0 G H U O/\Rep K G d v/\g d O=some O'/\∀U' H' G',Step G H G' H'->Good K G0 H0 G' H' U' O'->Q U' H'
def PFG (X:Cx)(tg:r8)(g:Gf):Prop:=PG X tg<|tFG X.K g
abbrev Gfs:=kd->ki->Option ki
def zCY (K:jk)(g:Gfs):TGs:=λvs U H Q=>∃G0 H0 G O ds O',Good K G0 H0 G H U O/\Reps K G ds vs/\g ds O=some O'/\∀U' H' G',Step G H G' H'->Good K G0 H0 G' H' U' O'->Q U' H'
def zHZ (X:Cx)(tgs:qt)(g:Gfs):Prop:=PGs X tgs<|zCY X.K g
def gN (i:Nat):Gf:=λd O=>some<|O.set i<|.fz d
def xU (i:Nat)(hN:X.N.Nodup)(hi:!27:=by rfl)(hx:Loc X.env.scope x:=by exact o0)(hf:!39:=by exact o0):PFG X (.Name x pos)<|gN i:=by refineλZ s U H v u Q I r q=>(zJb (pos:=pos) hN hi hx hf) Z s U H v u Q I r ?_;obtain⟨G0,H0,G,O,d,O',j0,rd,hf,k⟩:=q;cases hf;exact k _ H G (.refl j0.sub)<|j0.setF i rd
def xZ:Gfs:=λds O=>match ds with | []=>some O | _=>none
def zM (g:Gf)(r:Gfs):Gfs:=λds O=>match ds with | d::dr=>(g d O).bind λO'=>r dr O' | _=>none
def yD:zHZ X [] xZ:=by
 refineλZ s U H vs us Q I r q=>zHi Z s U H vs us Q I r ?_;obtain⟨G0,H0,G,O,ds,O',j0,rd,hf,k⟩:=q;unfold xZ at hf;split at hf
 .cases hf;exact⟨rd,k _ H G (.refl j0.sub) j0⟩
 .simp_all
def zK {g:Gf}{r:Gfs}(h1:PFG X e g)(h2:zHZ X es r)(hs:(assignEach (e::es) X.env).map (·.2)=assign e X.env::(assignEach es X.env).map (·.2):=by rfl):zHZ X (e::es)<|zM g r:=by
 refineλZ s U H vs us Q I rv q=>zKz h1 h2 hs Z s U H vs us Q I rv ?_;obtain⟨G0,H0,G,O,ds,O',j0,rd,hf,k⟩:=q;unfold zM at hf;split at hf
 .rename_i d dr;obtain⟨ρ1,e1,e2⟩:=k8 hf;obtain⟨v,vr,rfl,r1,r2⟩:=zQ.mp rd;exact⟨v,vr,J,G0,H0,G,O,d,ρ1,j0,r1,e1,λU' H' G' s' g'=>⟨G0,H0,G',ρ1,dr,O',g',r2.mono s'.gg,e2,λσ2 H2 G2 s2 g2=>k σ2 H2 G2 (s'.trans s2) g2⟩⟩
 .simp_all
def gT (r:Gfs):Gf:=λd O=>match d with | .tup ds=>r ds O | _=>none
def oX {r:Gfs}{k:Nat}(n:Nat)(hc:!24)(h:zHZ X es r)(hr:∀ds O O',r ds O=some O'->ds.length=n)(hn:(assignEach es X.env).length=n:=by rfl)(hst:(assignEach es X.env).findIdx? (·.1)=none:=by rfl):PFG X (.Tuple es k pos)<|gT r:=by
 refineλZ s U H v u Q I rv q=>(zG8 (pos:=pos) (k:=k) hc h hn hst) Z s U H v u Q I rv ?_;obtain⟨G0,H0,G,O,d,O',j0,rd,hf,k⟩:=q;unfold gT at hf;split at hf
 .obtain⟨p,vs,rfl,h1,h2⟩:=yE.mp rd;exact⟨p,vs,J,j0.sub.tup h1,by rw[<-h2.length];exact hr _ _ _ hf,G0,H0,G,O,_,O',j0,h2,hf,k⟩
 .simp_all
def yW {g:Gf}{r:Gfs}(h:∀ds O O',r ds O=some O'->ds.length=n):∀ds O O',zM g r ds O=some O'->ds.length=n+1:=by
 intro ds O O' q;unfold zM at q;split at q
 .obtain⟨ρ1,e1,e2⟩:=k8 q;rw[Qk,h _ _ _ e2]
 .cases q
def xQ:∀ds O O',xZ ds O=some O'->ds.length=0:=by
 intro ds O O' q;unfold xZ at q;split at q
 .rfl
 .cases q
def NoOw (O:ki):Prop:=∀(j:Nat) (b:B),O[j]?=some b->zUo b=false
def NoOw.own (n:NoOw O){b:B}(h:O[j]?=some b)(o:zUo b=true):False:=by rw[n j b h] at o;cases o
def NoOw.apart (n:NoOw O):zMq H U O:=λ_ _ _ _ _ _ _ _ h2 _ _ f1 _=>(n.own h2<|zZ6 f1).elim
theorem zTF (m:Nat)(ds:kd):NoOw<|ds.map B.fz++List.replicate m B.no:=λj b h=>by
 by_cases hi:j < ds.length
 .rw[Tx (!9),Wh] at h;obtain⟨k,_,h⟩:=k9 h;cases h;rfl
 .rw[Rg (!9),Yo] at h;split at h<;>cases h<;>rfl
theorem zR9 (h:NoOw O)(i:Nat)(d:D):NoOw<|O.set i<|.fz d:=λj b e=>by
 cases z:zUo b with
 | false=>rfl
 | true=>exact(h.own (zHE J e z).2 z).elim
def zNy (g:Gf):Prop:=∀d O O',g d O=some O'->NoOw O->NoOw O'
def zO3 (g:Gfs):Prop:=∀d O O',g d O=some O'->NoOw O->NoOw O'
theorem kC (i:Nat):zNy<|gN i:=λd O O' h n=>by cases h;exact zR9 n i d
theorem lW:zO3 xZ:=λd O O' h n=>by
 unfold xZ at h;split at h
 .simp_all
 .cases h
theorem wT {g:Gf}{r:Gfs}(h1:zNy g)(h2:zO3 r):zO3<|zM g r:=λd O O' h n=>by
 unfold zM at h;split at h
 .obtain⟨ρ1,e1,e2⟩:=k8 h;exact h2 _ _ _ e2<|h1 _ _ _ e1 n
 .cases h
theorem zRL {r:Gfs}(h:zO3 r):zNy<|gT r:=λd O O' q n=>by
 unfold gT at q;split at q
 .exact h _ _ _ q n
 .cases q
def aF (f:Ef)(g:Gf):Sf:=λO=>(f O).bind λd=>(g d O).map .nx
def zL1 {t:TE}{f:Ef}{g:Gf}(imp:∀U H Q,tF K f U H Q->t U H Q){D:Ends}(h:tFS K (aF f g) D U H):zNj t (tFG K g) D U H:=by obtain⟨G0,H0,G,O,o,j0,hf,k⟩:=h;obtain⟨d,h1,hf⟩:=k8 hf;obtain⟨O',h2,rfl⟩:=k9 hf;exact imp _ _ _ ⟨G0,H0,G,O,d,j0,h1,λv H' G' s r=>⟨G0,H0,G',O,d,O',j0.step s,r,h2,λσ2 H2 G2 s2 g2=>k σ2 H2 G2 (s.gg.trans s2.gg) g2⟩⟩
def pY {g:Gf}(he:PF X e fa)(hg:PFG X tg g)(hs:swapsWithSole [tg] e pos.line X.env=pure false:=by rfl)(hw:swappedStores [tg] e X.env=pure none:=by rfl)(h1:(assignEach [tg] X.env).map (·.2)=[assign tg X.env]:=by rfl):PFS X (.Assign [tg] e pos)<|aF fa g:=PS.to (zGt he hg hs hw h1) λD U H h=>zL1 (λ_ _ _ q=>q) h
def yI (i:Nat)(f:Ef):Sf:=λO=>(f O).map λd=>.nx<|O.set i<|.fz d
def zMn {t:TE}{f:Ef}(imp:∀U H Q,tF K f U H Q->t U H Q){D:Ends}(h:tFS K (yI i f) D U H):zNj t (zRl i) D U H:=by obtain⟨G0,H0,G,O,o,j0,hf,k⟩:=h;obtain⟨d,h1,rfl⟩:=k9 hf;exact imp _ _ _ ⟨G0,H0,G,O,d,j0,h1,λv H' G' s r=>k _ H' G' s.gg<|(j0.step s).setF i r⟩
def zF (i:Nat)(hN:X.N.Nodup)(he:PF X e fa)(hi:!27:=by rfl)(hx:Loc X.env.scope x:=by exact o0)(hs:swapsWith e (some<|.Name x pos') pos.line X.env=pure false:=by rfl)(hf:!39:=by exact o0):PFS X (.Assign [.Name x pos'] e pos) (yI i fa) :=
 PS.to (bF hN hi hx he hs hf) λD U H h=>zMn (λ_ _ _ q=>q) h
def pS (i:Nat)(f:Lf):Sf:=λO=>(f O).map λds=>.nx<|O.set i<|.ow ds
def zQX {t:TE}{f:Lf}(imp:∀U H Q,tFr K f U H Q->t U H Q){D:Ends}(h:tFS K (pS i f) D U H):zNj t (zRl i) D U H:=by obtain⟨G0,H0,G,O,o,j0,hf,k⟩:=h;obtain⟨ds,h1,rfl⟩:=k9 hf;refine imp _ _ _ ⟨G0,H0,G,O,ds,j0,h1,λp vs H' G' s hn hp gp rs=>k _ H' G' s.gg<|(j0.step s).setO i hp gp (j0.st.hh.free hn) rs λj w c h1 h2 f=>j0.fresh hn j w c h1 h2<|(j0.at h1 h2).back (s.gg.trans s.sub) (λx o _ h=>s.hh x o h) f⟩
def oU (i:Nat)(hN:X.N.Nodup)(he:PFr X e ga)(hi:!27:=by rfl)(hx:Loc X.env.scope x:=by exact o0)(hs:swapsWith e (some<|.Name x pos') pos.line X.env=pure false:=by rfl)(hf:!39:=by exact o0):PFS X (.Assign [.Name x pos'] e pos) (pS i ga) :=
 PS.to (bF hN hi hx he hs hf) λD U H h=>zQX (λ_ _ _ q=>q) h
def zR4 (i:Nat)(O:ki):ki:=match O[i]? with | some (.ow ds)=>O.set i (.fz<|.lst ds) | _=>O
def zZA (i:Nat)(f:Sf):Sf:=λO=>f<|zR4 i O
def Good.frz (g:!21)(i:Nat):∃G',Same G G'/\Good K G0 H0 G' H U (zR4 i O):=by
 unfold zR4;split
 .rename_i ds e;obtain⟨p,vs,h1,_,g'⟩:=g.lendL e;exact⟨_,Same.new h1,g'⟩
 .exact⟨G,Same.refl _,g⟩
def kG (i:Nat)(h:PFS X st f):PFS X st<|zZA i f:=by
 refine PS.to h ?_
 sleep 3
 obtain⟨G',s,g'⟩:=j0.frz i;exact⟨G0,H0,G',_,o,g',hf,k.mono s⟩
end
def fR (K:jk)(ya:It)(G:Hp)(ds:kd):Prop:=∀(i:Nat) (G2 H2:Hp),Same G G2->Same G2 H2 ->
 (∀d,ds[i]?=some d->ya.go i H2/\∀x H3,ya.yld i H2 x H3->∃G3,Step G2 H2 G3 H3/\Rep K G3 d x)/\(ds.length<=i->ya.stop i H2)
def tFI (K:jk)(f:Lf):TI:=λU H R=>∃G0 H0 G O ds,Good K G0 H0 G H U O/\f O=some ds/\∀ya H' G',Step G H G' H'->fR K ya G' ds->R ya H'
def PFI (X:Cx)(tg iter:r8)(f:Lf):Prop:=PI X tg iter<|tFI X.K f
def PI.to {t:TI}{f:Lf}(h:PI X tg e t)(imp:∀U H R,tFI X.K f U H R->t U H R):PFI X tg e f:=λZ s U H R I q=>h Z s U H R I<|imp U H R q
def zZV (h:SqL K G a vs)(r:Reps K G ds vs):fR K (Itl K a) G ds:=by intro i G2 H2 s1 s2;have q:=(!18).seq h;refine⟨λd hd=>?_,λhi=>⟨vs,q,by rw[<-r.length];exact hi⟩⟩;obtain⟨v,e,rv⟩:=r.get hd;refine⟨⟨vs,v,q,e⟩,λx H3 y=>?_⟩;obtain⟨rfl,y⟩:=y;have:=y vs q;rw[e] at this;cases this;exact⟨G2,.refl s2,rv.mono s1⟩
def zPq (h:SqT K G a vs)(r:Reps K G ds vs):fR K (Itt K a) G ds:=by intro i G2 H2 s1 s2;have q:=(!18).tup h;refine⟨λd hd=>?_,λhi=>⟨vs,q,by rw[<-r.length];exact hi⟩⟩;obtain⟨v,e,rv⟩:=r.get hd;refine⟨⟨vs,v,q,e⟩,λx H3 y=>?_⟩;obtain⟨rfl,y⟩:=y;have:=y vs q;rw[e] at this;cases this;exact⟨G2,.refl s2,rv.mono s1⟩
def pL (lo:Int)(n:Nat):kd:=(List.range n).map λi=>D.int<|lo+(i:Nat)
def zZB {lo:Int}:fR K (Itr lo n) G<|pL lo n:=by
 intro i G2 H2 s1 s2;have hl:(pL lo n).length=n:=by simp[pL]
 refine⟨λd hd=>?_,λhi=>by rw[hl] at hi;exact hi⟩;have hi:i < n:=by rw[<-hl];exact(v5 hd).1
 refine⟨hi,λx H3 y=>?_⟩;obtain⟨rfl,rfl⟩:=y;have e:d = .int (lo+i):=by unfold pL at hd;simp_all
 subst e;exact⟨G2,.refl s2,zC.mpr J⟩
section
variable{a b:r8}{f g:Sf}
def iL (f:Ef):Lf:=λO=>(f O).bind λd=>match d with | .lst ds=>some ds | _=>none
def iT (f:Ef):Lf:=λO=>(f O).bind λd=>match d with | .tup ds=>some ds | _=>none
def cG (h:PF X e fa):PFI X tg e<|iL fa:=by
 refine PI.to (zNY h) ?_;rintro U H R ⟨G0,H0,G,O,ds,j0,hf,k⟩;obtain⟨d,h1,hf⟩:=k8 hf;cases d with
 | lst es =>cases hf;refine⟨G0,H0,G,O,_,j0,h1,λx H1 G1 s1 r1=>?_⟩;obtain⟨p,vs,rfl,q,rs⟩:=xF.mp r1;exact⟨p,J,⟨vs,s1.sub.seq q⟩,k _ H1 G1 s1<|zZV q rs⟩
 | _=>cases hf
def zJt (h:PFr X e ga):PFI X tg e ga:=by refine PI.to (zNY h) ?_;rintro U H R ⟨G0,H0,G,O,ds,j0,hf,k⟩;exact⟨G0,H0,G,O,_,j0,hf,λp vs H1 G1 s1 hn hp gp rs=>⟨p,J,⟨vs,.of hp⟩,k _ H1 _ (s1.frz hn hp gp)<|zZV (.of zN)<|rs.mono<|Same.new gp⟩⟩
def zIH (h:PF X e fa):PFI X tg e<|iT fa:=by
 refine PI.to (zFO h) ?_;rintro U H R ⟨G0,H0,G,O,ds,j0,hf,k⟩;obtain⟨d,h1,hf⟩:=k8 hf;cases d with
 | tup es =>cases hf;refine⟨G0,H0,G,O,_,j0,h1,λx H1 G1 s1 r1=>?_⟩;obtain⟨p,vs,rfl,q,rs⟩:=yE.mp r1;exact⟨p,J,⟨vs,s1.sub.tup q⟩,k _ H1 G1 s1<|zPq q rs⟩
 | _=>cases hf
def iR (f:Ef):Lf:=λO=>(f O).bind λd=>match d with | .int n=>if decide (-1000000<=n)&&decide (n<=1000000) then some (pL 0 n.toNat) else none | _=>none
def zXT (hg:Gl X "range")(hm:X.mg "range"=none)(h:!12)(hs:!34:=by rfl):PFI X tg (.Call (.Name "range" p) [a] [] pos)<|iR fa:=by
 refine PI.to (zMB hg hm (yX h yK (!6)) hs) ?_;rintro U H R ⟨G0,H0,G,O,ds,j0,hf,k⟩;obtain⟨d,h1,hf⟩:=k8 hf;cases d with
 | int n =>
  dsimp only at hf;split at hf
  .rename_i hc;cases hf;simp only[Wy,Wl] at hc;refine⟨G0,H0,G,O,_,j0,h1,λx H1 G1 s1 r1=>⟨n,by rw[zC.mp r1],jc,jc,k _ H1 G1 s1 zZB⟩⟩
  .simp_all
 | _=>cases hf
def iR2 (f g:Ef):Lf:=λO=>(f O).bind λx=>(g O).bind λy=>match x,y with | .int m,.int n=>if decide (-1000000<=m)&&decide (m<=1000000)&&decide (-1000000<=n)&&decide (n<=1000000) then some (pL m (n - m).toNat) else none | _,_=>none
def zDS (hg:Gl X "range")(hm:X.mg "range"=none)(h:!12)(h':PF X b fb)(hs:starEach [a,b] X.env=[(false,eval a X.env),(false,eval b X.env)]:=by rfl)(hs2:starEach [b] X.env=[(false,eval b X.env)]:=by rfl):PFI X tg (.Call (.Name "range" p) [a,b] [] pos)<|iR2 fa fb:=by
 refine PI.to (zM5 hg hm (yX h (yX h' yK (!6)) (!9)) hs hs2) ?_;rintro U H R ⟨G0,H0,G,O,ds,j0,hf,k⟩;obtain⟨d,h1,hf⟩:=k8 hf;obtain⟨d',h2,hf⟩:=k8 hf;cases d with
 | int m =>
  cases d' with
  | int n =>
   dsimp only at hf;split at hf
   .rename_i hc;cases hf;simp only[Wy,Wl] at hc;refine⟨G0,H0,G,O,_,j0,h1,λx H1 G1 s1 r1=>⟨G0,H0,G1,O,_,j0.step s1,h2,λy H2 G2 s2 r2=>⟨m,n,by rw[zC.mp r1,zC.mp r2],⟨jc,jc,jc,jc⟩,k _ H2 G2 (!18) zZB⟩⟩⟩
   .cases hf
  | _=>cases hf
 | _=>cases hf
def sQ (g:Gf)(body:Sf):kd->Sf
 | [],O=>some<|.nx O
 | d::r,O=>(g d O).bind λρ1=>(body ρ1).bind λo=>match o with
  | .nx ρ2=>sQ g body r ρ2
  | .ct ρ2=>sQ g body r ρ2
  | .bk ρ2=>some<|.nx ρ2
  | o=>some o
def uG (src:Lf)(g:Gf)(body:Sf):Sf:=λO=>(src O).bind λds=>sQ g body ds O
def wQ {gt:Gf}{fb:Sf}(hp:PassesOwn (!5) X.A X.env X.xe)(hc:!24)(hi:PFI X tg iter gi)(hg:PFG X tg gt)(hb:PFSs X body fb)(hs:∀x,foldedSetIterable iter X.env x=pure x:=by intro _;rfl):PFS X (.For tg iter body [] pos)<|uG gi gt fb:=by
 refine PS.to (zGz hp hc hi hg hb hs) ?_;rintro D U H ⟨G0,H0,G,O,o,j0,hf,k⟩;obtain⟨ds,h1,hf⟩:=k8 hf;refine⟨G0,H0,G,O,ds,j0,h1,λya H1 G1 s1 y=>⟨λi m U H=>m=ds.length - i/\i<=ds.length/\∃G2 ρ2,Same G1 G2/\Good X.K G0 H0 G2 H U ρ2/\sQ gt fb (ds.drop i) ρ2=some o,⟨ds.length,je,Wm _,G1,O,Same.refl _,j0.step s1,by simpa using hf⟩,?_⟩⟩;rintro i m σ2 H2 ⟨rfl,hi',G2,ρ2,sg,good2,hf2⟩;obtain⟨y1,y2⟩:=y i G2 H2 sg good2.sub
 by_cases hlt:i < ds.length
 .obtain⟨go,yl⟩:=y1 ds[i] (Qj hlt);rw[Ug hlt] at hf2;obtain⟨ρ3,e1,hf2⟩:=k8 hf2;obtain⟨o1,e2,hf2⟩:=k8 hf2;refine .inr ⟨go,λU' H'=>∃G' O',Same G1 G'/\Good X.K G0 H0 G' H' U' O'/\sQ gt fb _ O'=some o,λU' H' ⟨G',O',a1,a2,a3⟩=>⟨ds.length - _,jc,J,hlt,G',O',a1,a2,a3⟩,λx H3 yx=>?_⟩;obtain⟨G3,s3,r3⟩:=yl x H3 yx;refine⟨G0,H0,G3,ρ2,_,ρ3,good2.step s3,r3,e1,λσ4 H4 G4 s4 good4=>?_⟩;have sg4:=(sg.trans s3.gg).trans s4.gg;refine⟨G0,H0,G4,ρ3,o1,good4,e2,?_⟩;cases o1 with
  | nx ρ5=>exactλσ5 H5 G5 s5 good5=>⟨G5,ρ5,sg4.trans s5,good5,hf2⟩
  | ct ρ5=>exactλσ5 H5 G5 s5 good5=>⟨G5,ρ5,sg4.trans s5,good5,hf2⟩
  | bk ρ5=>cases hf2;exactλσ5 H5 G5 s5 good5=>k σ5 H5 G5 ((s1.gg.trans sg4).trans s5) good5
  | rt d=>cases hf2;exact k
  | rl d=>cases hf2;exact k
 .have e:i=ds.length:=by lia
  subst e;rw[List.drop_length] at hf2;cases hf2;exact .inl ⟨y2<|Qh _,k σ2 H2 G2 (s1.gg.trans sg) good2⟩
def uI (g:Gf)(t:Tf)(elt:Ef):kd->ki->kd->ka
 | [],_,j7=>some j7
 | d::r,O,j7=>(g d O).bind λρ1=>(t ρ1).bind λc=>if c=true then(elt ρ1).bind λy=>uI g t elt r ρ1 (j7++[y]) else uI g t elt r ρ1 j7
def upB (m:Nat)(js:ky)(O:ki):ki:=List.replicate m .no++js.map λj=>match O[j]? with | some (.fz d)=>.fz d | _=>.no
def yJ (src:Lf)(m:Nat)(js:ky)(g:Gf)(t:Tf)(elt:Ef):Lf:=λO=>((src O).bind okL).bind λds=>uI g t elt ds (upB m js O) []
theorem zRg (m:Nat)(js:ky)(O:ki):NoOw<|upB m js O:=λi b h1=>by
 unfold upB at h1
 by_cases hi:i < m
 .rw[Tx (!9),Yo] at h1;split at h1<;>cases h1<;>rfl
 .rw[Rg (!9),Wh] at h1;obtain⟨k,_,h1⟩:=k9 h1;split at h1<;>cases h1<;>rfl
def Good.up (g:!21)(m:Nat)(js:ky):Good K G H G H (upC m js U)<|upB m js O:=by
 refine⟨.refl g.sub,?_,(zRg m js O).apart⟩
 .unfold upC upB;have rep:∀m:Nat,Paired (RB K H G H) (List.replicate m<|none)<|List.replicate m B.no:=λm=>by
   induction m with
   | zero=>exact .nil
   | succ n ih=>rw[Yq];exact .cons .no ih
  have app:∀ {l1 l2:List _} {r1 r2:ki},Paired _ l1 r1->Paired (RB K H G H) l2 r2->Paired _ (l1++l2) (r1++r2):=λh1 h2=>by
   induction h1 with
   | nil=>exact h2
   | cons q t ih=>exact .cons q ih
  refine app (rep m) ?_;induction js with
  | nil=>exact .nil
  | cons j r ih =>
   rw[Qx,Qx];refine .cons ?_ ih;cases e:O[j]? with
   | none=>exact .no
   | some b =>obtain⟨o,e1,r1⟩:=Paired.get g.vals e;cases r1<;>first | exact .no | (rw[e1];exact .fz ‹_›)
def Good.wrX {p:qu}(g:!21)(n:NoOw O)(gp:G p=none)(h0:H0 p=none):Good K G0 H0 G (upd H p o) U O :=
 g.same (Same.refl _) ⟨λb u e=>by rw[zG<|yU e h0];exact g.st.hh b u e,g.st.gg,λb u e=>by rw[zG<|yU e gp];exact g.st.sub b u e,g.st.new⟩ (λ_ _ _ _ _ _ h2 f _=>(n.own h2<|zZ6 f).elim) λ_ _ _ _ _ h2 f=>(n.own h2<|zZ6 f).elim
def zRZ {m:Nat}{gt:Gf}{t:Tf}(hgo:zNy gt){Q:VK}(h:tFr K (yJ gi m js gt t el) U H Q):zLk (tFI K gi) m js (tFG K gt) (tFT K t) (tF K el) U H Q:=by
 obtain⟨G0,H0,G,O,out,j0,hf,k⟩:=h;obtain⟨ds,h1,hf⟩:=k8 hf;obtain⟨ds',h1,h1'⟩:=k8 h1;obtain⟨rfl,j5⟩:=zZw h1';refine⟨G0,H0,G,O,_,j0,h1,λya H1 G1 s1 y D hD=>?_⟩;have hGD:G1 D=none:=s1.sub.free hD;refine⟨λi n σ2 H2=>n=ds.length - i/\i<=ds.length/\∃G2 ρ2 j7 us,Same G1 G2/\G2 D=none/\H2 D=some (.lst us)/\Reps K G2 j7 us/\j7.length<=i/\NoOw ρ2/\Good K G1 H1 G2 H2 σ2 ρ2/\uI gt t el (ds.drop i) ρ2 j7=some out, ⟨ds.length,je,Wm _,G1,upB m js O,[],[],Same.refl _,hGD,zN,zD.mpr rfl,Qh _,zRg _ _ _,((j0.step s1).up m js).step<|Step.own s1.sub hD,by simpa using hf⟩,?_⟩;rintro i n σ2 H2 ⟨rfl,hi,G2,ρ2,j7,us,sg,gD,hD2,rs,hal,now,good2,hf2⟩;obtain⟨y1,y2⟩:=y i G2 H2 sg good2.sub
 by_cases hlt:i < ds.length
 .obtain⟨go,yl⟩:=y1 ds[i] (Qj hlt);rw[Ug hlt] at hf2;obtain⟨ρ3,e1,hf2⟩:=k8 hf2;obtain⟨c,e2,hf2⟩:=k8 hf2;have now3:=hgo _ _ _ e1 now;refine .inr ⟨go,λx H3 yx=>?_⟩;obtain⟨G3,s3,r3⟩:=yl x H3 yx;refine⟨G1,H1,G3,ρ2,_,ρ3,good2.step s3,r3,e1,λσ4 H4 G4 s4 good4=>⟨G1,H1,G4,ρ3,c,good4,e2,λH5 G5 s5=>?_⟩⟩;have s35:=(s3.trans s4).trans s5;split at hf2
  .rename_i hc;show if c=true then _ else _;rw[Qg hc];obtain⟨yd,e3,hf2⟩:=k8 hf2;refine⟨G1,H1,G5,ρ3,yd,good4.step s5,e3,λv H6 G6 s6 r6=>?_⟩;have s36:=s35.trans s6;have hD6:H6 D=some (.lst us):=s36.hh _ _ hD2;have gD6:G6 D=none:=(s36.new D _ hD2 J).trans gD;refine⟨us,_ - (i+1),hD6,?_,jc,J,hlt,G6,ρ3,j7++[yd],us++[v],sg.trans s36.gg,gD6,zN,(rs.mono s36.gg).snoc r6,by rw[Qp,List.length_singleton];lia,now3,((good4.step s5).step s6).wrX now3 gD6 hD,hf2⟩;rw[<-rs.length];exact xR<|Wq hal<|Wq hi j5
  .rename_i hc;show if c=true then _ else _;rw[Qc hc];exact⟨ds.length - (i+1),jc,J,hlt,G5,ρ3,j7,us,sg.trans s35.gg,(s35.new D _ hD2 J).trans gD,s35.hh _ _ hD2,rs.mono s35.gg,jc,now3,good4.step s5,hf2⟩
 .have e:i=ds.length:=by lia
  subst e;rw[List.drop_length] at hf2;cases hf2;exact .inl ⟨y2<|Qh _,k D us H2 G2 (s1.trans good2.st) (s1.hh.free hD) hD2 gD rs⟩
def tOK:Tf:=λ_=>some true
def zRO (X:Cx)(ifs:qt)(t:Tf):Prop:=zQj X ifs<|tFT X.K t
theorem xX:zRO X [] tOK:=λZ s U H Q I h=>zLF Z s U H Q I (by obtain⟨G0,H0,G,O,b,j0,hf,k⟩:=h;cases hf;exact k H G<|.refl j0.sub)
def qT {t:Tf}(h:PFT X c t):zRO X [c] t:=zMk h
def iX (sc:Scope)(N tgs j4:kg)(js:ky){gt:Gf}{t:Tf}(hgo:zNy gt)(hp:PFI X tg iter gi)(hc:!24)(hsc:X.env.scope=sc)(hNN:X.N=N)(hok:kQ sc scope N tgs j4 js=true)(hg:∀C s₀ H₀ fp,PFG (!35) tg gt) (hi:∀C s₀ H₀ fp,zRO (!35) ifs t) (he:∀C s₀ H₀ fp,PF (!35) elt el)(hs:∀x,foldedSetIterable iter X.env x=pure x:=by intro _;rfl):PFr X (.ListComp elt [⟨tg,iter,ifs,0⟩] scope pos) (yJ gi tgs.length js gt t el) :=
 PE.toR (zHp (g:=tFG X.K gt) (tc:=tFT X.K t) (te:=tF X.K el) sc tgs _ js hp hc hsc (!9) hg hi he hs) λU H Q h=>zRZ hgo h
def nG (sc:Scope)(N tgs j4:kg)(js:ky){gt:Gf}{t:Tf}(hgo:zNy gt)(i:Nat){spos:Pos}(hN:X.N.Nodup)(hx:!27)(hl:X.env.scope.names.lookup x=some .local)(hp:PFI X tg iter gi)(hc:!24)(hsc:X.env.scope=sc)(hNN:X.N=N)(hok:kQ sc scope N tgs j4 js=true)(hg:∀C s₀ H₀ fp,PFG (!35) tg gt) (hi:∀C s₀ H₀ fp,zRO (!35) ifs t) (he:∀C s₀ H₀ fp,PF (!35) elt el)(hsw:swapsWith (.ListComp elt [⟨tg,iter,ifs,0⟩] scope pos) (some<|.Name x pos') spos.line X.env=pure true:=by with_unfolding_all rfl) (hs:∀x,foldedSetIterable iter X.env x=pure x:=by intro _;rfl):PFS X (.Assign [.Name x pos'] (.ListComp elt [⟨tg,iter,ifs,0⟩] scope pos) spos) (pS i<|yJ gi tgs.length js gt t el) :=
 PS.to (zPY (g:=tFG X.K gt) (tc:=tFT X.K t) (te:=tF X.K el) sc tgs _ js hN hx hl hp hc hsc (!9) hg hi he hsw hs) λD U H h=>zQX (λ_ _ _ q=>zRZ hgo q) h
end
section
variable{a:r8}{f:Sf}
def zZo (i:Nat)(f:Ef):Sf:=λO=>(f O).bind λd=>match O[i]? with | some (.ow ds)=>if ds.length < lim then some (.nx<|O.set i<|.ow<|ds++[d]) else none | _=>none
def eT (i:Nat)(ht:PE X c<|tBM X.K "list" zOs (zMw i)<|fA (tF X.K fa) zV1)(hs:swapsWith c none pos.line X.env=pure false:=by rfl):PFS X (.Expr c pos)<|zZo i fa:=by
 refine PS.to (pV ht hs) ?_
 sleep 3
 obtain⟨d,h1,hf⟩:=k8 hf;split at hf
 .rename_i ds hi;split at hf
  .rename_i hl;cases hf;obtain⟨p,vs,e1,e2,e3⟩:=j0.addr hi;refine⟨.ref p,e1,.inl ⟨J,vs,.of e2⟩,G0,H0,G,O,d,j0,h1,λv H1 G1 s1 r1=>?_⟩;have good1:=j0.step s1;obtain⟨p',vs',f1,f2,f3,f4,f5⟩:=good1.addr hi;rw[e1] at f1;cases f1;exact⟨p,vs',v,J,J,f2,by rw[<-f5.length];exact xR<|Ww hl,k U _ G1 s1.gg<|good1.wr hi e1<|f5.snoc r1⟩
  .simp_all
 .simp_all
def zFa (j i:Nat)(f:Ef):Sf:=λO=>(f O).bind λd=>match d,O[i]? with
 | .int n,some (.ow ds)=>if ds.length<=lim then(ixN ds.length n).bind λq=>(ds[q]?).map λx=>.nx ((O.set i<|.ow<|ds.eraseIdx q).set j<|.fz x) else none
 | _,_=>none
def zHl (j i:Nat){p4:Pos}(hNd:X.N.Nodup)(ht:PE X c<|tBM X.K "list" zLL (zMw i)<|fA (tF X.K fa) zV1)(hj:X.N[j]?=some y:=by rfl)(hjx:Loc X.env.scope y:=by exact o0)(hs:swapsWith c (some<|.Name y p4) pos.line X.env=pure false:=by rfl) (hfn:X.fn y=true\/X.env.scope.names.lookup y=some .local:=by exact o0):PFS X (.Assign [.Name y p4] c pos)<|zFa j i fa:=by
 refine PS.to (bF hNd hj hjx ht hs hfn) ?_;rintro D U H ⟨G0,H0,G,O,o,j0,hf,k⟩;obtain⟨d,h1,hf⟩:=k8 hf;split at hf
 .rename_i n ds hi;split at hf
  .rename_i hl;obtain⟨q,hq,hf⟩:=k8 hf;obtain⟨x',hx,rfl⟩:=k9 hf;obtain⟨p,vs,e1,e2,e3⟩:=j0.addr hi;refine⟨.ref p,e1,.inl ⟨J,vs,.of e2⟩,G0,H0,G,O,_,j0,h1,λv H1 G1 s1 r1=>?_⟩;have good1:=j0.step s1;obtain⟨p',vs',f1,f2,f3,f4,f5⟩:=good1.addr hi;rw[e1] at f1;cases f1;obtain⟨w,hw,rw'⟩:=f5.get hx;have j5:=f5.length;rw[j5] at hq;obtain⟨q1,q2,q3,q4⟩:=zOl hq;have hb:vs'.length < 2^40:=by rw[<-j5];exact Us hl jb
   exact⟨p,vs',n,q,w,J,by rw[zC.mp r1],f2,jc,jc,q1,hw,(k _ _ G1 s1.gg<|(good1.wr hi e1<|f5.erase q).setF j rw')⟩
  .cases hf
 .simp_all
def zEk:D->qi
 | .tup ds=>some<|.int ds.length
 | .lst ds=>some<|.int ds.length
 | .str z=>if z.length<=lim then some (.int z.length) else none
 | _=>none
def nV (f:Ef):Ef:=λO=>(f O).bind zEk
def mI (hg:Gl X "len")(hm:X.mg "len"=none)(h:!12)(hs:!34:=by rfl):PF X (.Call (.Name "len" p) [a] [] pos)<|nV fa:=by
 refine PE.to (wD (zZs.or zTO) hg hm PySem.boot_len (yX h yK (by rw[hs];rfl)) jb jb (by rw[hs];rfl) jg) ?_
 sleep 2
 sleep 4
 unfold zEk at hf;split at hf
 .cases hf;obtain⟨p,vs,rfl,q,rs⟩:=yE.mp r1;exact .inl ⟨p,vs,J,.inr<|s1.sub.tup q,k _ _ G1 s1<|zC.mpr<|by rw[rs.length]⟩
 .cases hf;obtain⟨p,vs,rfl,q,rs⟩:=xF.mp r1;exact .inl ⟨p,vs,J,.inl<|s1.sub.seq q,k _ _ G1 s1<|zC.mpr<|by rw[rs.length]⟩
 .split at hf
  .rename_i hz;cases hf;exact .inr ⟨_,by rw[yF.mp r1],Ww<|xR hz,k _ _ G1 s1<|zC.mpr rfl⟩
  .simp_all
 .simp_all
def zR5 (i:Nat):Ef:=λO=>match O[i]? with | some (.ow ds)=>some (.int ds.length) | _=>none
def zOk (i:Nat)(hg:Gl X "len")(hm:X.mg "len"=none)(hN:!27:=by rfl)(hv:!31:=by exact visQ rfl)(hd:!20:=by decide)(hcd:!30:=by decide):PF X (.Call (.Name "len" p) [.Name x p1] [] pos)<|zR5 i:=by
 refine PE.to (wD zZs hg hm PySem.boot_len<|yX (wI hN hv hd hcd) yK) ?_
 sleep 1
 unfold zR5 at hf;split at hf
 .rename_i ds hi;cases hf;obtain⟨q,vs,e1,e2,e3,e4,e5⟩:=j0.addr hi;exact⟨.ref q,e1,q,vs,J,.inl<|.of e2,k _ _ G (.refl j0.sub)<|zC.mpr<|by rw[e5.length]⟩
 .simp_all
def zE4:D->qi | .lst ds=>some (.tup ds) | .tup ds=>some (.tup ds) | _=>none
def vP (f:Ef):Ef:=λO=>(f O).bind zE4
def vB (hg:Gl X "tuple")(hm:X.mg "tuple"=none)(h:!12)(hs:!34:=by rfl):PF X (.Call (.Name "tuple" p) [a] [] pos)<|vP fa:=by
 refine PE.to (zYB zVu hg hm jg (yX h yK (!6)) jb J (!6) jg) ?_
 sleep 2
 sleep 4
 unfold zE4 at hf;split at hf
 .cases hf;obtain⟨p,vs,rfl,q,rs⟩:=xF.mp r1;refine⟨p,vs,J,.inl ⟨s1.sub.seq q,λl hl=>?_⟩⟩;have s2:=Step.laid (o:=.tup vs) s1.sub hl;exact k _ _ _ (!18)<|yE.mpr ⟨l,vs,rfl,.of zN,rs.mono s2.gg⟩
 .cases hf;obtain⟨p,vs,rfl,q,rs⟩:=yE.mp r1;exact⟨p,vs,J,.inr ⟨s1.sub.tup q,k _ _ G1 s1 r1⟩⟩
 .simp_all
def zMb:D->ka | .lst ds=>some ds | .tup ds=>some ds | _=>none
def aG (f:Ef):Lf:=λO=>(f O).bind zMb
def zZc (hg:Gl X "list")(hm:X.mg "list"=none)(h:!12)(hs:!34:=by rfl):PFr X (.Call (.Name "list" p) [a] [] pos)<|aG fa:=by
 refine PE.toR (zYB zTx hg hm jg (yX h yK (!6)) jb J (!6) jg) ?_
 sleep 2
 sleep 4
 unfold zMb at hf;split at hf
 .cases hf;obtain⟨p,vs,rfl,q,rs⟩:=xF.mp r1;exact⟨p,vs,J,.inl<|s1.sub.seq q,λl hl=>k l vs _ G1 (s1.trans<|Step.own s1.sub hl) (s1.hh.free hl) zN (s1.sub.free hl) rs⟩
 .cases hf;obtain⟨p,vs,rfl,q,rs⟩:=yE.mp r1;exact⟨p,vs,J,.inr<|s1.sub.tup q,λl hl=>k l vs _ G1 (s1.trans<|Step.own s1.sub hl) (s1.hh.free hl) zN (s1.sub.free hl) rs⟩
 .simp_all
end
def spF (K:jk)(n:Nat)(f:jz):Sp:=λvs H Q _=>∃G ds d,Same G H/\Reps K G ds vs/\ds.length=n/\f ds=some d/\∀v H' G',Step G H G' H'->Rep K G' d v->Q v H'
def spL (K:jk)(n:Nat)(f:kd->ka):Sp:=λvs H Q _=>∃G ds es,Same G H/\Reps K G ds vs/\ds.length=n/\f ds=some es/\∀a us H' G',Step G H G' H'->H a=none->H' a=some (.lst us)->G' a=none->Reps K G' es us->Q (.ref a) H'
def zZg (N:Nat)(ds:kd):ki:=ds.map .fz++List.replicate (N - ds.length) .no
def wG:Out->qi
 | .nx _=>some .non
 | .rt d=>some d
 | .rl ds=>some<|.lst ds
 | _=>none
def rR:Out->ka
 | .rl ds=>some ds
 | _=>none
def fnF (N:Nat)(body:Sf)(ds:kd):qi:=(body<|zZg N ds).bind wG
def fnL (N:Nat)(body:Sf)(ds:kd):ka:=(body<|zZg N ds).bind rR
def mY (s:Same G H)(r:Reps K G ds vs):Good K G H G H (oJ N vs)<|zZg N.length ds:=by
 refine⟨.refl s,?_,(zTF _ ds).apart⟩
 .unfold oJ zZg;rw[r.length];have rep:∀m:Nat,Paired (RB K H G H) (List.replicate m<|none)<|List.replicate m B.no:=λm=>by
   induction m with
   | zero=>exact .nil
   | succ n ih=>rw[Yq];exact .cons .no ih
  have key:∀(ds) (vs) (l) (q),Reps K G ds vs->Paired (RB K H G H) l q->Paired (RB K H G H) (vs.map some++l) (ds.map .fz++q):=by
   intro ds;induction ds with
   | nil=>intro vs l q h p;rw[zD] at h;subst h;exact p
   | cons d r ih =>intro vs l q h p;obtain⟨v,vr,rfl,h1,h2⟩:=zQ.mp h;exact .cons (.fz h1)<|ih vr l q h2 p
  exact key ds vs _ _ r<|rep _
section
variable{k:Nat}
def wW {body:Sf}(F:Fun K x qual st f fd)(S:FnScope N ps<|zV st)(hb:∀(j9:qv) (A:qy) (outer:qb) (s:qw) (H:Hp) (E:XK),Room k (!37)->PFSs (qP CX0 P w K mg base N qual (zV st) f j9 A outer s H E).nox (xL st) body):FnOk P w K mg base CX0 (k+1) f fd ps<|spF K ps.length<|fnF N.length body:=by
 refine F.ok S (λvs H Q E h=>?_) λj9 A _ s H vs Q E hr h=>⟨_,hb j9 A _ s H E hr,?_⟩
 .obtain⟨G,ds,d,sub,rs,hl,_⟩:=h;rw[<-rs.length];exact hl
 .obtain⟨G,ds,d,sub,rs,hl,hf,k⟩:=h;obtain⟨o,h1,h2⟩:=k8 hf;refine⟨G,H,G,_,o,mY sub rs,h1,?_⟩;cases o with
  | nx O=>cases h2;exactλU' H' G' s' g'=>k .non H' G' g'.st<|sX.mpr rfl
  | rt e=>cases h2;exactλv H' G' s' r=>k v H' G' s' r
  | rl es=>cases h2;exactλp us H' G' s' hn hp gp r=>k _ H' _ (s'.frz hn hp gp)<|xF.mpr ⟨p,us,rfl,.of zN,r.mono<|Same.new gp⟩
  | bk O=>cases h2
  | ct O=>cases h2
def sI {body:Sf}(F:Fun K x qual st f fd)(S:FnScope N ps<|zV st)(hb:∀(j9:qv) (A:qy) (outer:qb) (s:qw) (H:Hp) (E:XK),Room k (!37)->PFSs (qP CX0 P w K mg base N qual (zV st) f j9 A outer s H E).nox (xL st) body):FnOk P w K mg base CX0 (k+1) f fd ps<|spL K ps.length<|fnL N.length body:=by
 refine F.ok S (λvs H Q E h=>?_) λj9 A _ s H vs Q E hr h=>⟨_,hb j9 A _ s H E hr,?_⟩
 .obtain⟨G,ds,d,sub,rs,hl,_⟩:=h;rw[<-rs.length];exact hl
 .obtain⟨G,ds,d,sub,rs,hl,hf,k⟩:=h;obtain⟨o,h1,h2⟩:=k8 hf;refine⟨G,H,G,_,o,mY sub rs,h1,?_⟩;cases o with
  | rl es=>cases h2;exactλp us H' G' s' hn hp gp r=>k p us H' G' s' hn hp gp r
  | _=>cases h2
def zQV:FnOk P w K mg base CX k f fd ps (spF K n λ_=>none) :=
 ⟨λvs H Q E h=>(by obtain⟨_,_,_,_,_,_,z,_⟩:=h;exact nomatch z),λA _ s H args us vs Q E _ _ _ _ h=>(by obtain⟨_,_,_,_,_,_,z,_⟩:=h;exact nomatch z)⟩
end
section
variable{a b:r8}{f g:Sf}
def yZ (n:Nat)(f:jz)(g:Lf):Ef:=λO=>(g O).bind λds=>if ds.length=n then f ds else none
def zH3 {k:Nat}{fD:jz}(F:FnOk X.prog X.w X.K X.mg X.base CX0 k fad fd ps<|spF X.K n fD)(hr:Room k X.A)(hm:X.mg x=some (.ref fad))(hk:keepIn X.K (.ref fad)=true)(hb:Binds X.K fd ps [])(hg:Gl X x)(ha:PFA X (e::es) ga) (hdb:!20:=by decide) (he:!23:=by rfl) (hpl:(backTo pos (!25)).any (·.1)=false:=by rfl):PF X (.Call (.Name x p) (e::es) [] pos)<|yZ n fD ga:=by
 refine PE.to (zZF F hr hg hm hk hb .nil gH ha hdb he hpl) ?_;rintro U H Q ⟨G0,H0,G,O,d,j0,hf,k⟩;obtain⟨ds,h1,hf⟩:=k8 hf;split at hf
 .rename_i hl;refine⟨G0,H0,G,O,_,j0,h1,λvs H1 G1 s1 r1=>?_⟩;show spF X.K n fD _ H1 Q E0;rw[Wo];exact⟨G1,ds,d,s1.sub,r1,hl,hf,λv H' G' s r=>k v H' G' (s1.trans s) r⟩
 .simp_all
def uN (n:Nat)(f:kd->ka)(g:Lf):Lf:=λO=>(g O).bind λds=>if ds.length=n then f ds else none
def zId {k:Nat}(F:FnOk X.prog X.w X.K X.mg X.base CX0 k fad fd ps<|spL X.K n fD)(hr:Room k X.A)(hm:X.mg x=some (.ref fad))(hk:keepIn X.K (.ref fad)=true)(hb:Binds X.K fd ps [])(hg:Gl X x)(ha:PFA X (e::es) ga) (hdb:!20:=by decide) (he:!23:=by rfl) (hpl:(backTo pos (!25)).any (·.1)=false:=by rfl):PFr X (.Call (.Name x p) (e::es) [] pos)<|uN n fD ga:=by
 refine PE.toR (zZF F hr hg hm hk hb .nil gH ha hdb he hpl) ?_;rintro U H Q ⟨G0,H0,G,O,d,j0,hf,k⟩;obtain⟨ds,h1,hf⟩:=k8 hf;split at hf
 .rename_i hl;refine⟨G0,H0,G,O,_,j0,h1,λvs H1 G1 s1 r1=>?_⟩;show spL X.K n fD _ H1 Q E0;rw[Wo];exact⟨G1,ds,d,s1.sub,r1,hl,hf,λp us H' G' s hn hp gp r=>k p us H' G' (s1.trans s) (s1.hh.free hn) hp gp r⟩
 .simp_all
def kM (t:Tf)(body:Sf):Nat->Sf
 | 0,_=>none
 | n+1,O=>(t O).bind λc=>if c=true then(body O).bind λo=>match o with
   | .nx ρ2=>kM t body n ρ2
   | .ct ρ2=>kM t body n ρ2
   | .bk ρ2=>some<|.nx ρ2
   | o=>some o
  else some (.nx O)
def zUV (n:Nat){fb:Sf}(hp:PassesOwn (!5) X.A X.env X.xe)(hc:PFT X c tc)(hb:PFSs X body fb):PFS X (.While c body [] pos)<|kM tc fb n:=by
 refine PS.to (zJV hp hc hb) ?_
 sleep 3
 refine⟨λm U H=>∃G2 ρ2,Same G G2/\Good X.K G0 H0 G2 H U ρ2/\kM tc fb m ρ2=some o,⟨n,G,O,Same.refl _,j0,hf⟩,?_⟩;rintro m σ2 H2 ⟨G2,ρ2,sg,good2,hf2⟩;cases m with
 | zero=>cases hf2
 | succ m =>
  obtain⟨c',h1,hf2⟩:=k8 hf2;refine⟨G0,H0,G2,ρ2,c',good2,h1,λH3 G3 s3=>?_⟩;cases c' with
  | true =>
   obtain⟨o1,e2,hf2⟩:=k8 hf2;refine⟨λU' H'=>∃G2 ρ2,Same G G2/\Good X.K G0 H0 G2 H' U' ρ2/\kM tc fb m ρ2=some o,λU' H' h=>⟨m,Pr _,h⟩,⟨G0,H0,G3,ρ2,o1,good2.step s3,e2,?_⟩⟩;have sg3:=sg.trans s3.gg;cases o1 with
   | nx ρ5=>exactλσ5 H5 G5 s5 good5=>⟨G5,ρ5,sg3.trans s5,good5,hf2⟩
   | ct ρ5=>exactλσ5 H5 G5 s5 good5=>⟨G5,ρ5,sg3.trans s5,good5,hf2⟩
   | bk ρ5=>cases hf2;exactλσ5 H5 G5 s5 good5=>k σ5 H5 G5 (sg3.trans s5) good5
   | rt d=>cases hf2;exact k
   | rl d=>cases hf2;exact k
  | _ =>cases hf2;exact k σ2 H3 G3 (sg.trans s3.gg)<|good2.step s3
def tyD:D->Option String
 | .non=>some "NoneType"
 | .bl _=>some "bool"
 | .int _=>some "int"
 | .str _=>some "str"
 | .tup _=>some "tuple"
 | .lst _=>some "list"
 | _=>none
def zE8 {Q:jl}{cl:qv}{t:String}{k:Bool}(I:!3)(rv:RelV v u)(sub:Same G H)(r:Rep X.K G d v)(ht:tyD d=some t)(e:kitOne X.K (.type t) cl=some k) (h:∀tk,Q (.bool k) { s with toks:=tk }):wpAny (!5) A (call (.builtin "isinstance") [u,cl]) Q E s:=by
 cases d with
 | non=>cases ht;rw[sX] at r;subst r;cases rv;exact Tg kitx_none I.kIn True.intro e (λz=>nomatch z) h
 | bl y=>cases ht;rw[wP] at r;subst r;cases rv;exact Tg kitx_bool I.kIn True.intro e (λz=>nomatch z) h
 | int i=>cases ht;rw[zC] at r;subst r;obtain⟨t,rfl⟩:=rv;exact Tg kitx_int I.kIn True.intro e (λz=>nomatch z) h
 | str i=>cases ht;rw[yF] at r;subst r;obtain⟨t,rfl⟩:=rv;exact Tg kitx_str I.kIn True.intro e (λz=>nomatch z) h
 | tup ds =>cases ht;obtain⟨p,vs,rfl,q,_⟩:=yE.mp r;cases rv;obtain⟨j6,_,⟨o,h1,h2,_⟩,_⟩:=I.tuple<|sub.tup q;exact Tg kitx_tuple I.kIn ⟨o,h1,h2⟩ e (λz=>nomatch z) h
 | lst ds =>cases ht;obtain⟨p,vs,rfl,q,_⟩:=xF.mp r;cases rv;obtain⟨j6,_,⟨o,n,h1,h2,_⟩,_⟩:=I.list<|sub.seq q;exact Tg kitx_list I.kIn ⟨o,h1,h2⟩ e (λz=>nomatch z) h
 | obj C ns ds=>cases ht
 | exc C ns ds=>cases ht
 | dct ks ds=>cases ht
def zKy (K:jk):∀t:String,t∈["NoneType","bool","int","str","tuple","list"]->kitOne K (.type t) (.type "list")=some (decide (t="list")):=by intro t ht;simp only[Qz,Ir,or_false] at ht;rcases ht with rfl | rfl | rfl | rfl | rfl | rfl<;>kernel_rfl
def zIg {t:String}(h:tyD d=some t):t∈["NoneType","bool","int","str","tuple","list"]:=by cases d<;>cases h<;>simp
def zEW (p:D->Bool)(f:Ef):Ef:=λO=>(f O).bind λd=>match d with | .obj _ _ _=>none | .exc _ _ _=>none | .dct _ _=>none | d=>some<|.bl<|p d
def isInt:D->Bool | .int _=>true | .bl _=>true | _=>false
def isStr:D->Bool | .str _=>true | _=>false
def zNM:D->Bool | .lst _=>true | _=>false
def zES {T:Str}{TT:String}{q:D->Bool}(hT:bootBuiltins T=some (.type TT))(hq:∀(K:jk) d t,tyD d=some t->kitOne K (.type t) (.type TT)=some (q d))(hg:Gl X "isinstance")(hm:X.mg "isinstance"=none)(hgT:Gl X T)(hmT:X.mg T=none)(h:!12)(hn:T≠"__name__":=by decide) (hd:(T==("__debug__":Str))=false:=by decide) (hs:starEach [a,.Name T p1] X.env=[(false,eval a X.env),(false,eval (.Name T p1) X.env)]:=by rfl):PF X (.Call (.Name "isinstance" p) [a,.Name T p1] [] pos)<|zEW q fa:=by
 have hcall:CallR X (.builtin "isinstance") (λxs H Q=>∃x G d,xs=[x,.ty TT]/\Same G H/\Rep X.K G d x/\(tyD d).isSome=true/\Q (.bl<|q d) H):=by intro Z s U H xs us Q I r hh;obtain⟨x,G,d,rfl,sub,rx,ht,qq⟩:=hh;obtain⟨u,u',rfl,ru,ru'⟩:=zO5 r;cases ru';obtain⟨t,ht⟩:=Es.mp ht;exact zE8 I ru sub rx ht (hq _ d t ht) λtk=>⟨.bl _,H,I.tok tk,J,qq⟩
 refine PE.to (wD hcall hg hm jg (yX h (yX (zPa (v:=.ty TT) hgT hmT hT J hn hd) yK) (!6)) jb J (!6) jg) ?_;rintro U H Q ⟨G0,H0,G,O,d,j0,hf,k⟩;obtain⟨x,h1,hf⟩:=k8 hf;refine⟨G0,H0,G,O,_,j0,h1,λv H1 G1 s1 r1=>?_⟩;have hx:(tyD x).isSome=true/\d = .bl (q x):=by
  cases x<;>first
   | (cases hf;exact⟨J,J⟩)
   | cases hf
 obtain⟨hx,rfl⟩:=hx;exact⟨v,G1,x,J,s1.sub,r1,hx,k _ _ G1 s1<|wP.mpr rfl⟩
def zFb (K:jk)(d:D)(t:String)(h:tyD d=some t):kitOne K (.type t) (.type "list")=some (zNM d):=by rw[zKy K t<|zIg h];cases d<;>cases h<;>simp[zNM]
def zSf:kd->Option (List Bool)
 | []=>some []
 | .bl k::r=>(zSf r).map λks=>k::ks
 | _=>none
def zNd (f:Ef):Ef:=λO=>(f O).bind λd=>match d with | .lst ds=>(zSf ds).map λks=>.bl (ks.all id) | _=>none
def zNi (hc:!24):CallR X (.builtin "all") (λxs H Q=>∃(p:qu) (ks:List Bool),xs=[V.ref p]/\SqL X.K H p (ks.map V.bl)/\Q (.bl<|ks.all id) H):=by
 intro Z s U H xs us Q I r h;obtain⟨p,ks,rfl,hq,q⟩:=h;obtain⟨u,rfl,ru⟩:=nH r;cases ru;obtain⟨j6,rv,pl,hz⟩:=I.list hq;have hks:∀(i:Nat) (v:_),j6[i]?=some v->∃k,ks[i]?=some k/\v=Value.bool k:=λi v e=>by
  have hi:i < ks.length:=by have:=rv.length;rw[Qy] at this;rw[this];exact(v5 e).1
  obtain⟨u,e1,r1⟩:=rv.get (i:=i) (x:=.bl ks[i]) (by rw[Wh,Qj hi];rfl);rw[e] at e1;cases e1;exact⟨ks[i],Qj hi,r1⟩
 have j5:j6.length=ks.length:=by have:=rv.length;rw[Qy] at this;exact this.symm
 refine call_all_walk<|Yk pl.isList ?_;have hne:p≠s.heap.objs.size:=by obtain⟨o,_,e,_⟩:=pl;exact Qn<|Qs e
 refine⟨s.heap.objs.size,_,_,_,_,_,λi=>(ks[i]?).getD true,J,Walks.list (A:=X.A.in1) (I.ok.hd hc) _ p hne j6.toArray,⟨⟨_,Qa _ J,J,J⟩,pl.isList.push _⟩,?_,λh' tk hk=>?_⟩
 .intro i v s' Q' E' hv hQ';obtain⟨k,e1,rfl⟩:=hks i v (by simpa using hv);have hQ2:Q' ((ks[i]?).getD true) s':=hQ';rw[e1] at hQ2;exact Ry hQ2
 .have hI:Inv X Z U H (!32):=I.kept λb o e=>hk b o (by simp;exact Qn<|Qs e)<|Qe _ e;have e:((List.range j6.toArray.size).all λi=>(ks[i]?).getD true)=ks.all id:=by
   rw[Qd,j5,To];simp only[Yv,Tq,id];constructor
   .intro h x hx;obtain⟨i,hi,rfl⟩:=List.getElem_of_mem hx;simp_all
   .intro h i hi;rw[Qj hi];exact h _<|Rm hi
  rw[e];exact⟨.bl<|ks.all id,H,hI,J,q⟩
theorem zQI {K:jk}{G:Hp}:∀ {ds:kd} {vs:kj} {ks:List Bool},zSf ds=some ks->Reps K G ds vs->vs=ks.map V.bl
 | [],_,_,h,r=>by cases h;rw[zD] at r;rw[r];rfl
 | d::t,_,_,h,r=>by
  unfold zSf at h;split at h
  .simp_all
  .rename_i k t' h';cases h';obtain⟨v,vr,rfl,r1,r2⟩:=zQ.mp r;obtain⟨ks,h1,rfl⟩:=k9 h;rw[zQI h1 r2,wP.mp r1];rfl
  .cases h
def zKb (hc:!24)(hg:Gl X "all")(hm:X.mg "all"=none)(h:!12)(hs:!34:=by rfl):PF X (.Call (.Name "all" p) [a] [] pos)<|zNd fa:=by
 refine PE.to (wD (zNi hc) hg hm jg (yX h yK (!6)) jb J (!6) jg) ?_
 sleep 2
 cases x with
 | lst ds =>
  obtain⟨ks,h2,rfl⟩:=k9 hf
  sleep 4
  obtain⟨p,vs,rfl,q,rs⟩:=xF.mp r1;have e:=zQI h2 rs;subst e;exact⟨p,ks,J,s1.sub.seq q,k _ _ G1 s1<|wP.mpr rfl⟩
 | _=>cases hf
end
def Inv.turnedNew (I:!3)(k:∀b u,b∉fp->s.heap.get? b=some u->h'.get? b=some u)(hf:∀b∈fp,fV X Z H b) (hT:s.heap.objs.size<=T) (new:ObjOk X.prog X.w (upd H T o) h' T o):Inv X Z U (upd H T o) { s with heap:=h',toks:=t' }:=by
 have fr:=I.hok.fresh hT;have neT:∀b u,s.heap.get? b=some u->b≠T:=λb u e=>Qn<|Wr (Qs e) hT;have nfp:∀b u,H b=some u->b∉fp:=λb u e z=>by have:=(hf b z).1;rw[e] at this;cases this
 refine I.step (λb hb=>⟨(hf b hb).2.2.2.1,(hf b hb).2.1,(hf b hb).2.2.2.2.1,(hf b hb).2.2.2.2.2⟩) (λb u _ _ hc e _=>k b u hc e) (λb u _ _ hc e _=>⟨u.slots,k b u hc e⟩) (λb u _ e n=>by rw[zG<|neT b u e];exact n) (λb u hc e=>⟨u,k b u hc e⟩) (λb xs e=>by rw[zG<|yU e fr];exact e) (λb u x e=>by rw[zG<|yU e fr];exact e) (λb ps e=>⟨#[],by rw[zG<|yU e fr,e];simp⟩) (λm hm=>?_) (λb u e=>?_) I.bare
 .obtain⟨ob,es,ep,ho,r⟩:=hm;exact⟨ob,es,ep,k _ ob (λz=>(hf _ z).2.1 J) ho,r⟩
 .by_cases hb:b=T
  .subst hb;rw[zN] at e;cases e;exact new
  .rw[zG hb] at e;refine(I.hok b u e).stay (λc v hc q=>k c v ?_ q) (λc q=>by rw[zG<|yU q fr];exact q) λc xs q=>by rw[zG<|yU q fr];exact q
   rcases hc with z | z
   .rw[z];exact nfp b u e
   .exact nfp c _ z
def Inv.turnedL (I:!3)(k:∀b u,b∉fp->s.heap.get? b=some u->h'.get? b=some u)(hf:∀b∈fp,fV X Z H b):Inv X Z U H { s with heap:=h',toks:=t' }:=by
 have nfp:∀b u,H b=some u->b∉fp:=λb u e z=>by have:=(hf b z).1;rw[e] at this;cases this
 refine I.step (λb hb=>⟨(hf b hb).2.2.2.1,(hf b hb).2.1,(hf b hb).2.2.2.2.1,(hf b hb).2.2.2.2.2⟩) (λb u _ _ hc e _=>k b u hc e) (λb u _ _ hc e _=>⟨u.slots,k b u hc e⟩) (λb u _ e n=>n) (λb u hc e=>⟨u,k b u hc e⟩) (λb xs e=>e) (λb u x e=>e) (λb ps e=>⟨#[],by rw[e];simp⟩) (λm hm=>?_) (λb u e=>?_) I.bare
 .obtain⟨ob,es,ep,ho,r⟩:=hm;exact⟨ob,es,ep,k _ ob (λz=>(hf _ z).2.1 J) ho,r⟩
 .refine(I.hok b u e).stay (λc v hc q=>k c v ?_ q) (λc q=>q) λc xs q=>q;rcases hc with z | z
  .rw[z];exact nfp b u e
  .exact nfp c _ z
def Ite (K:jk)(a:qu):It :=
 ⟨λi H=>∃xs x,SqL K H a xs/\xs[i]?=some x,λi H x H'=>∃p v,H p=none/\x = .ref p/\H'=upd H p (.tup [.int (i:Nat),v])/\∀xs,SqL K H a xs->xs[i]?=some v,λi H=>∃xs,SqL K H a xs/\xs.length<=i⟩
theorem zMu {k:Nat}(a e it:qu)(hei:e≠it):Turn P w K (.Tuple elts k pos) (Ite K a) [e,it] e (λi h=>(∃old,IsEnum h e it (i:Nat) old)/\h.IsListIter it a i) where
 mem:=je
 obj:=λi h st b hb=>by
  obtain⟨⟨old,he⟩,o,h1⟩:=st;rcases v4 hb with z | z
  .simp_all
  .rcases v4 z with z | z
   .simp_all
   .cases z
 keep:=λi h h' st kk=>by obtain⟨⟨old,he⟩,hl⟩:=st;exact⟨⟨old,kk e je _ he⟩,hl.at λo q=>kk it je o q⟩
 item:=by
  sleep 6
  subst hP hw hK;obtain⟨xs,x,hq,hx⟩:=hg;obtain⟨j6,rv,p,hz⟩:=I.list hq;obtain⟨u,hu,ru⟩:=rv.get hx;obtain⟨⟨old,he⟩,hit⟩:=st;refine wpAny_pyNext_enum_item he hit p.isList (x:=u) (by simpa using hu) hei λh1 ho hit1 hT hsz hk=>?_;have I1:Inv X Z U (upd H _<|.tup [.int (i:Nat),x]) { s with heap:=h1,toks:=s.toks+1 }:=I.turnedNew (λb o hb e=>hk b o (λz=>hb<|by simp[z]) (λz=>hb<|by simp[z]) e) hf (Qh _) ⟨by show 2<=sizeLine;exact Ww<|xR jb,[.int (i:Nat) s.toks,u],.cons ⟨_,rfl⟩<|.cons ru .nil,⟨_,hT,rfl,_,rfl⟩⟩;refine⟨_,J,wpAny_letOwnedTupleGo_enum ho λh2 he2 hs2=>?_⟩;have neT:∀b∈[e,it],b≠_:=λb hb z=>by
   obtain⟨o,h1,h2⟩:=hit;rcases v4 hb with q | q
   .exact absurd (Qs he) (by rw[<-q,z];exact Wg _)
   .rcases v4 q with q | q
    .exact absurd (Qs h1) (by rw[<-q,z];exact Wg _)
    .cases q
  have hf1:∀b∈[e,it],fV X Z (upd H _<|.tup [.int (i:Nat),x]) b:=λb hb=>⟨by rw[zG<|neT b hb];exact(hf b hb).1,(hf b hb).2⟩
  refine⟨.ref s.heap.objs.size,_,(I1.turnedL (h':=h2) (t':=_+1) (fp:=[e,it]) (λb o hb q=>(hs2.2 b λz=>hb<|by simp[z]).trans q) hf1),J,⟨s.heap.objs.size,x,I.fresh,J,J,λys hy=>by rw[I.list_inj hy hq];exact hx⟩,⟨⟨_,by simpa using he2⟩,hit1.at λo q=>(hs2.2 it hei.symm).trans q⟩,λb hb=>(hf1 b hb).1⟩
 done:=by
  sleep 6
  subst hP hw hK;obtain⟨xs,hq,hx⟩:=hg;obtain⟨j6,rv,p,hz⟩:=I.list hq;obtain⟨⟨old,he⟩,hit⟩:=st;have hl:=rv.length;exact wpAny_pyNext_enum_end (I.ok.hd hc) he hit p.isList (by simp;lia) λh' eb=>⟨J,I.turnedL (t':=_) (fp:=[e,it]) (λb o hb q=>eb b o (λz=>hb<|by simp[z]) q) hf⟩
 self:=λ_ _ _ _ _ st h=>wpAny_pyIter_enum st.1.choose_spec h
def zQS (h:SqL K G a vs)(r:Reps K G ds vs):fR K (Ite K a) G<|ds.zipIdx.map λq=>D.tup [.int (q.2:Nat),q.1]:=by intro i G2 H2 s1 s2;have q:=(!18).seq h;refine⟨λd hd=>?_,λhi=>⟨vs,q,by rw[<-r.length];simpa using hi⟩⟩;rw[Wh,List.getElem?_zipIdx] at hd;obtain⟨⟨d0,j⟩,hd2,hd3⟩:=k9 hd;obtain⟨d1,hd1,e⟩:=k9 hd2;cases e;subst hd3;obtain⟨v,e,rv⟩:=r.get hd1;refine⟨⟨vs,v,q,e⟩,λx H3 y=>?_⟩;obtain⟨p,u,hp,rfl,rfl,y⟩:=y;have e2:=y vs q;rw[e] at e2;cases e2;have s3:=Step.laid (o:=.tup [.int<|i,v]) s2 hp;refine⟨_,s3,yE.mpr ⟨p,_,J,.of zN,zQ.mpr ⟨_,_,J,zC.mpr je,zQ.mpr ⟨_,_,J,(rv.mono s1).mono s3.gg,zD.mpr J⟩⟩⟩⟩
section
variable{a b:r8}{gb:Lf}
def zWj (ds:kd):kd:=ds.zipIdx.map λq=>D.tup [.int (q.2:Nat),q.1]
def zJR (g:Lf):Lf:=λO=>(g O).map zWj
def zJN (K:jk)(f:Lf):TE:=λU H Q=>∃G0 H0 G O ds,Good K G0 H0 G H U O/\f O=some ds/\∀a vs H' G',Step G H G' H'->SqL K G' a vs->Reps K G' ds vs->Q (.ref a) H'
def zTG (X:Cx)(e:r8)(f:Lf):Prop:=PE X e<|zJN X.K f
def zYg (h:PFr X e ga):zTG X e ga:=λZ s U H Q I q=>h Z s U H Q I (by obtain⟨G0,H0,G,O,ds,j0,hf,k⟩:=q;exact⟨G0,H0,G,O,ds,j0,hf,λp vs H' G' s hn hp gp rs=>k p vs H' _ (s.frz hn hp gp) (.of zN)<|rs.mono<|Same.new gp⟩)
theorem gP (h:PF X e fa):zTG X e<|iL fa:=λZ s U H Q I q=>h Z s U H Q I (by
 obtain⟨G0,H0,G,O,ds,j0,hf,k⟩:=q;obtain⟨d,h1,hf⟩:=k8 hf;cases d with
 | lst es =>cases hf;refine⟨G0,H0,G,O,_,j0,h1,λx H1 G1 s1 r1=>?_⟩;obtain⟨p,vs,rfl,q,rs⟩:=xF.mp r1;exact k p vs H1 G1 s1 q rs
 | _=>cases hf)
def zIt {k:Nat}(hg:Gl X "enumerate")(hm:X.mg "enumerate"=none)(h:zTG X a ga)(hs:!34:=by rfl):PFI X (.Tuple elts k pos') (.Call (.Name "enumerate" p) [a] [] pos)<|zJR ga:=by
 intro Z s U H R I q;obtain⟨G0,H0,G,O,ds,j0,hf,kk⟩:=q;obtain⟨es,h1,rfl⟩:=k9 hf;refine Call_<|iE I hg hm jg<|Ro (thn (yX h yK (!6) pos Z s U H (λvs H'=>∃a us G',vs=[.ref a]/\Step G H G' H'/\SqL X.K G' a us/\Reps X.K G' es us) I ⟨G0,H0,G,O,es,j0,h1,λa us H' G' s' hq rs=>⟨a,us,G',J,s',hq,rs⟩⟩) λus s1 ⟨vs,H1,I1,r1,l,ws,G1,e1,st1,hq,rs⟩=>?_) hs rfl;subst e1;obtain⟨u,rfl,ru⟩:=nH r1;cases ru;obtain⟨j6,rv,pl,hz⟩:=I1.list<|st1.sub.seq hq;refine call_enumerate_list pl.isList λh' he hit hsz hk=>wpAny_pyIter_enum he ⟨_,[s1.heap.objs.size+1,s1.heap.objs.size],_,_,H1,J,(I1.kept (t':=_) hk),zMu l _ _<|Nat.succ_ne_self _,⟨⟨_,he⟩,hit⟩,λb hb=>?_,kk _ H1 G1 st1<|zQS hq rs⟩;have hb':s1.heap.objs.size<=b:=by
  rcases v4 hb with z | z
  .simp_all
  .simp_all
 exact I1.fpOk hb'<|I1.hok.fresh hb'
def fY (f g:Lf):Lf:=λO=>(f O).bind λxs=>(g O).bind λys=>okL<|xs++ys
def zQi (ha:PFr X a ga)(hb:PFr X b gb):PFr X (.BinOp a .Add b pos)<|fY ga gb:=by
 refine PE.toR (zYu zFp ha hb) ?_
 sleep 1
 obtain⟨xs,h1,hf⟩:=k8 hf;obtain⟨ys,h2,hf⟩:=k8 hf;obtain⟨rfl,h3⟩:=zZw hf;refine⟨G0,H0,G,O,_,j0,h1,λp vs H1 G1 s1 hn hp gp rs=>⟨G0,H0,G1,O,_,j0.step s1,h2,λq us H2 G2 s2 hn2 hq gq rs2=>⟨p,q,vs,us,J,J,s2.hh _ _ hp,hq,?_,λl hl=>?_⟩⟩⟩
 .rw[<-rs.length,<-rs2.length,<-Qp];exact Ww<|xR h3
 .have s3:=Step.own (o:=.lst<|vs++us) s2.sub hl;exact k l _ _ G2 ((!18).trans s3) ((!18).hh.free hl) zN (s2.sub.free hl)<|(rs.mono s2.gg).append rs2
abbrev Of:=ki->Option kr
def tFO (K:jk)(f:Of):TO:=λU H Q=>∃G0 H0 G O o,Good K G0 H0 G H U O/\f O=some o/\∀H' G',Step G H G' H'->Q o H'
def PFO (X:Cx)(e:Option r8)(f:Of):Prop:=PO X e<|tFO X.K f
def oNo:Of:=λ_=>some none
def vX (f:Ef):Of:=λO=>(f O).bind λd=>match d with | .int i=>some (some i) | _=>none
theorem mM:PFO X none oNo:=λZ s U H Q I h=>zHS Z s U H Q I (by obtain⟨G0,H0,G,O,o,j0,hf,k⟩:=h;cases hf;exact k H G<|.refl j0.sub)
theorem rS (h:PF X e fa):PFO X (some e)<|vX fa:=λZ s U H Q I q=>zHA h Z s U H Q I (by
 obtain⟨G0,H0,G,O,o,j0,hf,k⟩:=q;obtain⟨d,h1,hf⟩:=k8 hf;cases d with
 | int i=>cases hf;exact⟨G0,H0,G,O,_,j0,h1,λv H' G' s r=>⟨i,zC.mp r,k H' G' s⟩⟩
 | _=>cases hf)
def jW (xs:kd)(lo hi:kr):kd:=(xs.drop<|HT.sIx xs.length 0 lo).take<|HT.sIx xs.length xs.length hi - HT.sIx xs.length 0 lo
def vN (f:Ef)(lo hi:Of):Lf:=λO=>(f O).bind λd=>(lo O).bind λl=>(hi O).bind λu=>match d with | .lst ds=>some (jW ds l u) | _=>none
def tQ {fl fh:Of}(ha:!12)(hl:PFO X lo fl)(hh:PFO X hi fh):PFr X (.Subscript a (.Slice lo hi none p2) pos)<|vN fa fl fh:=by
 refine PE.toR (zXa zIs ha hl hh) ?_
 sleep 2
 obtain⟨l,h2,hf⟩:=k8 hf;obtain⟨u,h3,hf⟩:=k8 hf;cases x with
 | lst ds =>cases hf;refine⟨G0,H0,G,O,_,j0,h1,λv H1 G1 s1 r1=>⟨G0,H0,G1,O,_,j0.step s1,h2,λH2 G2 s2=>⟨G0,H0,G2,O,_,(j0.step s1).step s2,h3,λH3 G3 s3=>?_⟩⟩⟩;obtain⟨q,vs,rfl,hq,rs⟩:=xF.mp r1;have s23:=s2.trans s3;refine⟨q,vs,J,s23.hh |> λz=>(s1.sub.trans z).seq hq,λp hp=>k p _ _ G3 ((s1.trans s23).trans<|Step.own (o:=.lst<|zSF vs l u) s23.sub hp) ((s1.trans s23).hh.free hp) zN (s23.sub.free hp) ?_⟩;unfold zSF jW;rw[<-rs.length];exact((rs.mono s23.gg).drop _).take _
 | _=>cases hf
end
def IsSq (t:Bool)(h:qx)(l:qu)(xs:jo):Prop:=∃o,h.get? l=some o/\o.cls = .type (cond t "tuple" "list")/\∃n,o.data = .seq xs n
def IsIr (t:Bool)(h:qx)(i l:qu)(k:Nat):Prop:=∃o,h.get? i=some o/\o.cls = .type (cond t "tuple_iterator" "list_iterator")/\o.data = .fields #[.ref l,.int k 0]
def IsSq.to {xs:jo}(x:IsSq t h a xs)(e:∀o,h.get? a=some o->h'.get? a=some o):IsSq t h' a xs:=let ⟨o,q,r⟩:=x;⟨o,e o q,r⟩
def IsIr.to {k:Nat}(x:IsIr t h a l k)(e:∀o,h.get? a=some o->h'.get? a=some o):IsIr t h' a l k:=let ⟨o,q,r⟩:=x;⟨o,e o q,r⟩
def IsIr.extBut {b:qu}{k:Nat}(x:IsIr t h a l k)(e:Heap.ExtBut b h h')(n:a≠b):IsIr t h' a l k:=x.to λo=>e a o n
def SqB (t:Bool)(K:jk)(H:Hp)(b:qu)(ys:kj):Prop:=match t with | true=>SqT K H b ys | false=>SqL K H b ys
def mkS (t:Bool)(ds:kd):D:=match t with | true=>.tup ds | false=>.lst ds
def zPm {b:qu}(e:Same H H')(h:SqB t K H b ys):SqB t K H' b ys:=by
 cases t
 .exact e.seq h
 .exact e.tup h
def zG1 (h:Rep K G (mkS t ds) v):∃a us,v = .ref a/\SqB t K G a us/\Reps K G ds us:=by
 cases t
 .assumption
 .assumption
section
variable{b:qu}{zs:kj}
def zKX (I:!3)(h:SqB t X.K H b ys):∃j6:qh,Vals ys j6/\IsSq t s.heap b j6.toArray:=by
 cases t
 .obtain⟨j6,v,p,_⟩:=I.list h;exact⟨j6,v,p.isList⟩
 .obtain⟨j6,v,p,_⟩:=I.tuple h;exact⟨j6,v,p⟩
def zP3 (I:!3)(h:SqB t X.K H b ys)(h':SqB t X.K H b zs):ys=zs:=by
 cases t
 .exact I.list_inj h h'
 .exact I.tuple_inj h h'
theorem zFn {c:qu}(I:!3)(hf:fV X Z H c)(hd:SqB t X.K H b ys):b≠c:=λz=>by
 have e:=hf.1;cases t<;>(
  rcases hd with(hd | ⟨ob,hd⟩) | hd
  .simp_all
  .simp_all
  .obtain⟨ob,_,_,hk,_⟩:=hd;have e3:=I.ok.mod.kin b ob hk;obtain⟨_,q1,_,q3⟩:=hf;rcases q3 with q3 | q3
   .exact I.ok.noex b ob e3 (z ▸ q3)
   .exact absurd (Wr (Qs (I.ok.bs b ob e3).1)<|z ▸ q3) (Wg _))
end
def zQ5 {t:qu}{x:qv}{Q:jl}(hit:s.heap.IsTupleIter it t i)(ht:s.heap.IsTuple t items)(hx:items[i]?=some x)(hQ:∀h',h'.IsTupleIter it t (i+1)->Heap.SameBut it s.heap h'->Q x (!15)):wpAny (!8) A (Builtin.SmallTypes.nextOf<|.ref it) Q E s:=by obtain⟨o,h1,h2,h3⟩:=id hit;obtain⟨ot,t1,_,n,t2⟩:=ht;refine Qw<|Eg hit.typeIs F.slot_tuple_iterator_next<|Wn F.slot_tuple_iterator_next hit.typeIs F.entry_tuple_iterator_next ?_<|F.args_tuple_iterator_next_1 _;change wpAny _ _ (field _ 0 >>= _) _ _ s;refine Qw<|Ep h1 h3 rfl<|Qw<|Ep h1 h3 rfl<|Qw<|Rj t1 t2 ?_;simp only[Yx,hx];refine Qw<|Pv h1 h3 je<|Qo ⟨x,rfl,Qo<|hQ _ ⟨_,En _ h1<|Obj.isFreed_of_fields<|Obj.data_mapFields h3 _,(Obj.cls_mapFields ..).trans h2,?_⟩<|Yw ..⟩;rw[Obj.data_mapFields h3];simp[rawInt]
def zM1 {t:qu}{Q:jl}(hh:A.handled=none)(hit:s.heap.IsTupleIter it t i)(ht:s.heap.IsTuple t items)(hx:items[i]?=none)(hE:∀h' e,Heap.ExtBut it s.heap h'->(∃o,h'.get? e=some o/\o.cls = .type "StopIteration")->E (.ref e) (!15)):wpAny (!8) A (Builtin.SmallTypes.nextOf<|.ref it) Q E s:=by
 obtain⟨o,h1,h2,h3⟩:=id hit;obtain⟨ot,t1,_,n,t2⟩:=ht;refine Qw<|Eg hit.typeIs F.slot_tuple_iterator_next<|Wn F.slot_tuple_iterator_next hit.typeIs F.entry_tuple_iterator_next ?_<|F.args_tuple_iterator_next_1 _;change wpAny _ _ (field _ 0 >>= _) _ _ s;refine Qw<|Ep h1 h3 rfl<|Qw<|Ep h1 h3 rfl<|Qw<|Rj t1 t2 ?_;simp only[Yx,hx];refine Qw<|Uq<|Qw<|Pv h1 h3 je<|Qw<|Qw (m:=firstArgMember _ _)<|wpAny_of_eq rfl<|Ex (Qw<|wpAny_handled ?_)<|by size_fits
 first | rw[show _=none from hh] | rw[hh]
 exact Qw<|Qo<|wpAny_throw<|hE _ _ (((Yw ..).extBut.push _).push _) ⟨_,Qa _ rfl,rfl⟩
abbrev Stp (h:qx)(e:qu):Prop:=∃o,h.get? e=some o/\o.cls = .type "StopIteration"
def zGZ {Q:jl}(hh:A.handled=none)(hit:IsIr t s.heap it l i)(hl:IsSq t s.heap l items)(hQ:∀x h',items[i]?=some x->IsIr t h' it l (i+1)->Heap.SameBut it s.heap h'->Q x (!15))(hE:∀h' e,items[i]?=none->Heap.ExtBut it s.heap h'->Stp h' e->E (.ref e) (!15)):wpAny (!8) A (Builtin.SmallTypes.nextOf<|.ref it) Q E s:=by
 cases hx:items[i]? with
 | some x =>
  cases t
  .exact wpAny_nextOf_list_item hit hl hx λh'=>hQ x h' hx
  .exact zQ5 hit hl hx λh'=>hQ x h' hx
 | none =>
  cases t
  .exact wpAny_nextOf_list_end hh hit hl hx λh' e=>hE h' e hx
  .exact zM1 hh hit hl hx λh' e=>hE h' e hx
abbrev ZR (h:qx)(z TI TO:qu)(f:qv)(b:Bool):Prop:=h.get? z=some { cls:=.type "zip",dict:=none,data:=.fields #[f,.bool b,.bool false,.ref TI,.ref TO],slots:=#[] }
def ZAny (h:qx)(z TI TO:qu):Prop:=∃f b,(f=Value.none\/∃T:qu,f=rawInt T)/\ZR h z TI TO f b
def ZAny.to {z TI TO:qu}(x:ZAny h z TI TO)(e:∀o,h.get? z=some o->h'.get? z=some o):ZAny h' z TI TO:=let ⟨f,b,q,r⟩:=x;⟨f,b,q,e _ r⟩
def zHX {Q:Option Obj->qw->Prop}(h:Q (s.heap.get? a) s):wpAny M A (loadIfAlive a) Q E s :=λΓ p _=>by show Sem.wp M Γ (.loadIfAlive a _) _ _ p s;rw[Sem.wp_loadIfAlive];exact h
def zE2 {z TI TO:qu}{f:qv}{b:Bool}{Q:Bool->qw->Prop}(hf:f=Value.none\/∃T:qu,f=rawInt T)(hz:ZR s.heap z TI TO f b)(hT:Q true s)(hQ:∀h',ZAny h' z TI TO->Heap.SameBut z s.heap h'->Q false (!15)):wpAny (!8) A (Builtin.SmallTypes.ownedTupleIsFree<|.ref z) Q E s:=by
 rcases hf with rfl | ⟨T,rfl⟩
 .exact Qw (Ep hz J rfl<|Qo hT)
 refine Qw<|Ep hz rfl rfl<|Qw<|zHX ?_;rw[Yx];cases s.heap.get? T with
 | none=>exact Qo hT
 | some o =>
  refine Qw<|Ep hz rfl rfl ?_;cases b with
  | false =>exact Qw<|Tr hz je λh' q1 q2=>Qo<|hQ h' ⟨_,_,.inr ⟨T,rfl⟩,q1⟩ q2
  | true =>exact Qo<|hQ _ ⟨_,_,.inr ⟨T,rfl⟩,hz⟩ ⟨rfl,λ_ _=>rfl⟩
abbrev Tp (h:qx)(T:qu)(vs:jn):Prop:=h.get? T=some { cls:=.type "tuple",data:=.seq vs.toArray }
abbrev mX (n N:Nat):qh:=(List.range N).map λj=>.ref<|n+j
abbrev Kz (h h':qx)(n N:Nat):Prop:=∀c o,c < n\/n+N+3<=c->h.get? c=some o->h'.get? c=some o
def ZSt (t:Bool)(ls:kn)(n k:Nat)(h:qx):Prop:=ZAny h (n+ls.length+2) (n+ls.length) (n+ls.length+1)/\Tp h (n+ls.length) (mX n ls.length)/\(∃ws,ws.length=ls.length/\Tp h (n+ls.length+1) ws)/\∀j a,ls[j]?=some a->IsIr t h (n+j) a k
def zL7 (t:Bool)(h:qx)(k:Nat)(a:qu)(x:qv):Prop:=∃xs,IsSq t h a xs/\xs[k]?=some x
def zEE (t:Bool)(h:qx)(k:Nat)(a:qu):Prop:=∃xs,IsSq t h a xs/\xs[k]?=none
structure Mid (t:Bool)(ls:kn)(n k j:Nat)(h g:qx)(us:jn):Prop where
 le:j<=ls.length
 us:Paired (zL7 t h k) (ls.take j) us
 it:∀i a,ls[i]?=some a->IsIr t g (n+i) a (if i < j then k+1 else k)
 kz:Kz h g n ls.length
 sz:g.objs.size=h.objs.size
theorem zYq {α β:Type}{F:α->β->Prop}{a:α}{b:β}(h:F a b):∀ {l:!10} {r:List β},Paired F l r->Paired F (l++[a]) (r++[b])
 | _,_,.nil=>.cons h .nil
 | _,_,.cons x y=>.cons x<|zYq h y
section
variable{k:Nat}{g g':qx}
def Mid.len (M:Mid t ls n k j h g us):us.length=j:=by have:=M.us.length;rw[Wx,Pd M.le] at this;exact this.symm
def Mid.now (M:Mid t ls n k j h g us)(ha:ls[j]?=some a):IsIr t g (n+j) a k:=by have:=M.it j a ha;rwa[Qc<|Wg _] at this
theorem Mid.same (M:Mid t ls n k j h g us){c:qu}(hc:n+ls.length<=c/\c < n+ls.length+3)(e:Heap.SameBut c g g'):Mid t ls n k j h g' us :=
 ⟨M.le,M.us,λi a ha=>(M.it i a ha).extBut e.extBut (by have:=(v5 ha).1;lia),λd o hd q=>e.extBut d o jc<|M.kz d o hd q,e.1.trans M.sz⟩
def Mid.next (M:Mid t ls n k j h g us){x:qv}(ha:ls[j]?=some a)(hx:zL7 t h k a x)(hi:IsIr t g' (n+j) a<|k+1)(e:Heap.SameBut (n+j) g g'):Mid t ls n k (j+1) h g'<|us++[x]:=by
 have hj:=(v5 ha).1;refine⟨hj,?_,λi b hb=>?_,λd o hd q=>e.extBut d o jc<|M.kz d o hd q,e.1.trans M.sz⟩
 .rw[List.take_add_one,ha];exact zYq hx M.us
 .by_cases q:i=j
  .simp_all
  .have:=(M.it i b hb).extBut e.extBut (show n+i≠n+j by lia)
   by_cases q':i < j
   .rw[Qg q'] at this;rw[Qg jc];exact this
   .rw[Qc q'] at this;rw[Qc jc];exact this
theorem Mid.fin (M:Mid t ls n k ls.length h g us)(up:∀c o,c≠n+ls.length+2->g.get? c=some o->g'.get? c=some o)(hz:ZAny g' (n+ls.length+2) (n+ls.length)<|n+ls.length+1)(i1:Tp g (n+ls.length)<|mX n ls.length)(hw:ws.length=ls.length)(o1:Tp g (n+ls.length+1) ws):Paired (zL7 t h k) ls us/\ZSt t ls n (k+1) g'/\Kz h g' n ls.length :=
 ⟨by simpa using M.us,⟨hz,up _ _ jc i1,⟨ws,hw,up _ _ jc o1⟩,λi a ha=>by have q:=M.it i a ha;have hi:=(v5 ha).1;rw[Qg hi] at q;exact q.to (up _ · jc)⟩,λc o hc q=>up c o jc<|M.kz c o hc q⟩
end
def zCV {vs:jn}{x:qv}{k:Nat}{Q:Unit->qw->Prop}(hT:Tp s.heap T vs)(hl:vs.length<=100)(h:∀h',Tp h' T (vs.set k x)->Heap.SameBut T s.heap h'->Q () (!15)):wpAny (!8) A (updateSeq T (·.setIfInBounds k x)) Q E s:=by have hz:vs.length<=_:=Ww<|xR jc;refine Ue hT J (h _ ?_<|Yw ..) (!6) (by simp;lia);show(s.heap.update T _).get? T=_;rw[En _ hT rfl];simp[Obj.mapSeq]
def zXs {l:!10}{x:α}{rest:!10}(h:x::rest=l.drop j):j < l.length/\l[j]?=some x/\rest=l.drop (j+1):=by
 have hj:j < l.length:=by have:=Wa List.length h;simp at this;lia
 rw[Ug hj] at h;cases h;exact⟨hj,Qj hj,J⟩
def zKa {k:Nat}{Q:jl}(hh:A.handled=none)(h0:0 < ls.length)(hN:ls.length<=100)(st:ZSt t ls n k s.heap)(hs:∀a∈ls,(a < n\/n+ls.length+3<=a)/\∃xs,IsSq t s.heap a xs)(hQ:∀vs h',Paired (zL7 t s.heap k) ls vs->ZSt t ls n (k+1) h'->Tp h' s.heap.objs.size vs->Kz s.heap h' n ls.length->Q (.ref s.heap.objs.size) (!15))(hE:∀h' e,(∃a∈ls,zEE t s.heap k a)->Kz s.heap h' n ls.length->Stp h' e->E (.ref e) (!15)):wpAny (!8) A (Builtin.«zip.__next__» ⟨[.ref<|n+ls.length+2],[]⟩) (λfin s'=>∃v,fin = .done (.ret v)/\Q v s') E s:=by
 obtain⟨⟨f,bb,hf,hz⟩,hTI,⟨ws,hw,hTO⟩,hi⟩:=st;have M0:Mid t ls n k 0 s.heap s.heap []:=⟨Wm _,.nil,λi a ha=>by rw[Qc<|Nat.not_lt_zero _];exact hi i a ha,λ_ _ _ q=>q,J⟩
 have hs':∀j,j < ls.length->∃a,ls[j]?=some a/\a∈ls/\(a < n\/n+ls.length+3<=a)/\∃xs,IsSq t s.heap a xs:=λj hj=>⟨_,Qj hj,Rm hj,hs _<|Rm hj⟩
 change wpAny _ _ (field (.ref<|n+ls.length+2) 2 >>= _) _ _ _;refine Qw<|Ep hz rfl (x:=.bool false) rfl<|Qw<|Ep hz rfl (x:=.ref<|n+ls.length) rfl<|Qw<|Rj hTI rfl ?_;have he:(mX n ls.length).toArray.isEmpty=false:=by
  cases hl:ls.length with
  | zero=>lia
  | succ m=>simp[mX]
 simp only[he];refine Qw<|zE2 hf hz ?free λg1 z1 k1=>?busy
 case busy =>
  rw[<-Ol];refine Qw<|Po _ (λrest b s'=>∃j us g,rest=(mX n ls.length).drop j/\b=(none,us.toArray)/\s'={ s with heap:=g }/\(∀c o,n+ls.length<=c->g1.get? c=some o->g.get? c=some o)/\Mid t ls n k j s.heap g us) _ ?turn ?fin _ _ ⟨0,[],g1,rfl,rfl,rfl,λ_ _ _ q=>q,M0.same jc k1⟩
  case turn =>
   rintro x rest b s' ⟨j,us,g,er,rfl,rfl,hk,M⟩;obtain⟨hj,ex,rfl⟩:=zXs er;have hj:j < ls.length:=by simpa [mX] using hj
   obtain rfl : .ref (n+j)=x:=by simpa [mX,hj] using ex
   obtain⟨a,ha,hm,ho,xs,hq⟩:=hs' j hj;exact Qw (Ev (Qw (zGZ hh (M.now ha) (hq.to (M.kz _ · ho)) (λx g2 hx u1 t2=>Qo<|Qo ⟨j+1,us++[x],g2,rfl,je,rfl,λc o hc q=>t2.extBut _ _ jc<|hk c o hc q,M.next ha ⟨xs,hq,hx⟩ u1 t2⟩) λg2 e hx t2 he=>hE g2 e ⟨a,hm,xs,hq,hx⟩ (λc o hc q=>t2 _ _ jc<|M.kz c o hc q) he)))
  case fin =>rintro b s' ⟨j,us,g,er,rfl,rfl,hk,M⟩;obtain rfl:j=ls.length:=Pf M.le (by have:=Wa List.length er;simp[mX] at this;lia);refine Qw<|Tc (Qo ⟨_,J,?_⟩) (by rw[Oo,M.len];exact Ww<|xR (by show _<=100000;lia));have n3:Tp (g.push { cls:=.type "tuple",data:=.seq us.toArray }) g.objs.size us:=Qa _ J;obtain⟨c1,c2,c3⟩:=M.fin (λc o _ q=>Qe _ q) (z1.to λo q=>Qe _<|hk _ o jc q) (hk _ _ jc<|k1.extBut _ _ jc hTI) hw<|hk _ _ jc<|k1.extBut _ _ jc hTO;rw[M.sz] at n3 ⊢;exact hQ us _ c1 c2 n3 c3
 refine Qw<|Uq<|Qw<|Ep hz rfl (x:=.ref<|n+ls.length+1) rfl<|Qw<|Tr hz je λg1 z1 t1=>?_;have bad:∀ {g:qx} {e:qu},ZR g (n+ls.length+2) (n+ls.length) (n+ls.length+1) .ellipsis bb->Stp g e->e≠n+ls.length+2:=λ{g e} q1 ⟨oe,q2,q3⟩ q=>by subst q;rw[q1] at q2;cases q2;simp at q3
 refine Qw<|Po _ (λrest b s'=>∃j us vs g,rest=(mX n ls.length).zipIdx.drop j/\b=(none,())/\s'={ s with heap:=g }/\(us++vs).length=ls.length/\Tp g (n+ls.length+1) (us++vs)/\Tp g (n+ls.length) (mX n ls.length)/\ZR g (n+ls.length+2) (n+ls.length) (n+ls.length+1) .ellipsis bb/\Mid t ls n k j s.heap g us) _ ?turn ?fin _ _ ⟨0,[],ws,g1,rfl,rfl,rfl,hw,t1.extBut _ _ jc hTO,t1.extBut _ _ jc hTI,z1,M0.same jc t1⟩
 case turn =>
  rintro x rest b s' ⟨j,us,vs,g,er,rfl,rfl,hv,o1,i1,z1,M⟩;obtain⟨hj,ex,rfl⟩:=zXs er;have hj:j < ls.length:=by simpa [mX] using hj
  obtain rfl:(.ref<|n+j,j)=x:=by simpa [mX,hj] using ex
  obtain⟨a,ha,hm,ho,xs,hq⟩:=hs' j hj;have hl:=M.len;refine Qw (wpAny_onRaise (Qw (zGZ hh (M.now ha) (hq.to (M.kz _ · ho)) (λx g2 hx u1 t2=>Qo<|Qw<|Rj (t2.extBut _ _ jc o1) rfl<|Qw<|zCV (t2.extBut _ _ jc o1) jc λg3 o3 t3=>Qw<|Ub<|Qo ?_) λg2 e hx t2 he=>?_)))
  .match vs,hv with
   | v::vs,hv=>exact⟨j+1,us++[x],vs,g3,J,J,J,by simp at hv ⊢;lia,by simpa [List.set_append,hl] using o3,t3.extBut _ _ jc<|t2.extBut _ _ jc i1,t3.extBut _ _ jc<|t2.extBut _ _ jc z1,(M.next ha ⟨xs,hq,hx⟩ u1 t2).same jc t3⟩
   | [],hv=>simp at hv;lia
  .have z2:=t2 _ _ jc z1;have ne:=bad z2 he;obtain⟨oe,q1,q2⟩:=he;exact Tr z2 je λg3 _ t3=>hE g3 e ⟨a,hm,xs,hq,hx⟩ (λc o hc q=>t3.extBut _ _ jc<|t2 _ _ jc<|M.kz c o hc q) ⟨oe,t3.extBut _ _ ne q1,q2⟩
 case fin =>rintro b s' ⟨j,us,vs,g,er,rfl,rfl,hv,o1,i1,z1,M⟩;obtain rfl:j=ls.length:=Pf M.le (by have:=Wa List.length er;simp[mX] at this;lia);obtain rfl:vs=[]:=Re.mp (by rw[Qp,M.len] at hv;lia);rw[Wo] at o1 hv;have z6:ZR (g.push { cls:=.type "tuple",data:=.seq us.toArray }) (n+ls.length+2) (n+ls.length) (n+ls.length+1) .ellipsis bb:=Qe _ z1;have lz:=Ov<|Qs z1;refine Qw<|Rj o1 rfl<|Qw<|Tc (Qw<|Qw<|Tr z6 je λg7 z7 t7=>Tr z7 je λg8 z8 t8=>Qo ⟨_,J,?_⟩) (by rw[Oo,hv];exact Ww<|xR (by show _<=100000;lia));have n8:Tp g8 g.objs.size us:=t8.extBut _ _ lz<|t7.extBut _ _ lz<|Qa _ rfl;obtain⟨c1,c2,c3⟩:=M.fin (λc o c1 e=>t8.extBut _ _ c1<|t7.extBut _ _ c1<|Qe _ e) ⟨_,_,.inr ⟨_,rfl⟩,z8⟩ i1 hv o1;rw[M.sz] at n8 ⊢;exact hQ us _ c1 c2 n8 c3
def zP5 {k:Nat}(hh:A.handled=none)(h0:0 < ls.length)(hN:ls.length<=100)(st:ZSt t ls n k s.heap)(hs:∀a∈ls,(a < n\/n+ls.length+3<=a)/\∃xs,IsSq t s.heap a xs)(hQ:∀vs h',Paired (zL7 t s.heap k) ls vs->ZSt t ls n (k+1) h'->Tp h' s.heap.objs.size vs->Kz s.heap h' n ls.length->Q (some<|.ref s.heap.objs.size) (!15))(hE:∀h',(∃a∈ls,zEE t s.heap k a)->Kz s.heap h' n ls.length->Q none (!15)):wpAny (!8) A (pyNext<|.ref<|n+ls.length+2) Q E s:=by have hT:s.TypeIs (.ref _) "zip":=let ⟨_,_,_,hz⟩:=st.1;⟨_,hz,rfl⟩;refine Qw<|Oh<|Eg hT F.slot_zip_next<|Wn F.slot_zip_next hT F.entry_zip_next (zKa hh h0 hN st hs (λvs h' a1 a2 a3 a4=>Qo<|hQ vs h' a1 a2 a3 a4) λh' e q hk he=>?_)<|F.args_zip_next_1 _;obtain⟨o,q1,q2⟩:=he;exact Qw<|Pu ⟨o,q1,q2⟩ isSubtype_stop<|Qo<|hE _ q hk
def zFN {z TI TO:qu}{Q:Unit->qw->Prop}(hz:ZAny s.heap z TI TO)(hQ:∀h',ZAny h' z TI TO->Heap.SameBut z s.heap h'->Q () (!15)):wpAny (!8) A (letOwnedTupleGo tg (.ref z) u) Q E s:=by
 have q0:=hQ _ hz ⟨J,λ_ _=>rfl⟩;obtain⟨f,bb,hf,hz⟩:=hz;cases tg<;>first
   | exact Qo q0
   | (cases u<;>first
       | exact Qo q0
       | (refine Qw (wpAny_load hz ?_)
          dsimp only;split
          · exact Qw<|Uq<|Tr hz je λh' q1 q2=>hQ h' ⟨_,_,.inl J,q1⟩ q2
          · exact Qo q0))
def zDF {xs:jo}{Q:jl}(hq:IsSq t s.heap l xs)(hQ:Q (.ref s.heap.objs.size) { s with heap:=s.heap.push { cls:=.type<|cond t "tuple_iterator" "list_iterator",data:=.fields #[.ref l,.int 0 0] } }):wpAny (!8) A (pyIter<|.ref l) Q E s:=by
 cases t
 .exact Yk hq hQ
 .exact Ua hq hQ
def zK1 {Q:qh->qw->Prop}(hs:∀a∈ls,∃xs,IsSq t s.heap a xs)(h:∀h',(∀j a,ls[j]?=some a->IsIr t h' (s.heap.objs.size+j) a 0)->(∀c o,s.heap.get? c=some o->h'.get? c=some o)->h'.objs.size=s.heap.objs.size+ls.length->Q (mX s.heap.objs.size ls.length) (!15)):wpAny (!8) A (Builtin.SmallTypes.iterAll<|ls.map .ref) Q E s:=by
 refine Qw<|Po _ (λrest b s'=>∃j g,j<=ls.length/\rest=(ls.map Value.ref).drop j/\b=(mX s.heap.objs.size j).toArray/\s'={ s with heap:=g }/\(∀i a,i < j->ls[i]?=some a->IsIr t g (s.heap.objs.size+i) a 0)/\(∀c o,s.heap.get? c=some o->g.get? c=some o)/\g.objs.size=s.heap.objs.size+j) _ ?turn ?fin _ _ ⟨0,s.heap,Wm _,rfl,rfl,rfl,λi _ hi=>jc,λ_ _ q=>q,rfl⟩
 case turn =>
  rintro x rest b s' ⟨j,g,hj,er,rfl,rfl,hi,hk,sz⟩;obtain⟨hj,ex,rfl⟩:=zXs er;have hj:=by simpa using hj
  obtain rfl : .ref ls[j]=x:=by simpa [hj] using ex
  obtain⟨xs,hq⟩:=hs _<|Rm hj;refine Qw<|Ev<|zDF (hq.to<|hk _)<|Qo ⟨j+1,_,hj,rfl,by simp[mX,List.range_succ,sz],rfl,λi a hi' ha=>?_,λc o q=>Qe _<|hk c o q,by rw[Rr,sz,Nat.add_assoc]⟩
  by_cases q:i=j
  .subst q;rw[Qj hj] at ha;cases ha;rw[<-sz];exact⟨_,Qa _ J,J,J⟩
  .exact(hi i a jc ha).to λo=>Qe _
 case fin =>rintro b s' ⟨j,g,hj,er,rfl,rfl,hi,hk,sz⟩;obtain rfl:=Pf hj (!9);exact Qo<|h g (λi a ha=>hi i a (v5 ha).1 ha) hk sz
theorem zIr (hN:ls.length<=100):Meets (Builtin.«zip.__new__» ⟨.type "zip"::ls.map .ref,[]⟩) (λ_ R s=>(∀a∈ls,∃xs,IsSq t s.heap a xs)/\∀h',ZSt t ls s.heap.objs.size 0 h'->(∀c o,s.heap.get? c=some o->h'.get? c=some o)->R (.ok<|.ret<|.ref<|s.heap.objs.size+ls.length+2) (!15)) :=
 .of_wp λprog w A R s ⟨hs,h⟩=>by
  have hl:(mX s.heap.objs.size ls.length).length<=sizeLine:=by simp[mX];exact Ww<|xR (by show _<=100000;lia)
  have e:Builtin.SmallTypes.newClass "zip" ⟨.type "zip"::ls.map .ref,[]⟩=pure (.type "zip",ls.map .ref):=by rfl
  refine Qw<|Qo ?_;refine Qw<|zK1 hs λg hi hk sz=>?_;refine Qw<|Tc ?_ hl;refine Qw<|Tc ?_ (by rw[Qy];exact hl);have y2:(g.push { cls:=.type "tuple",data:=.seq (mX s.heap.objs.size ls.length).toArray }).objs.size=s.heap.objs.size+ls.length+1:=by rw[Rr,sz]
  have y3:((g.push { cls:=.type "tuple",data:=.seq (mX s.heap.objs.size ls.length).toArray }).push { cls:=.type "tuple",data:=.seq (List.map (λ_=>Value.none)<|mX s.heap.objs.size ls.length).toArray }).objs.size=s.heap.objs.size+ls.length+2:=by rw[Rr,y2]
  unfold Builtin.SmallTypes.newRecord;refine Qw<|Ex (Qo ⟨_,J,?_⟩)<|Wq (Ww<|xR<|show 5<=100000 by decide)<|Nat.le_add_right _ 2;have up:∀(c:qu) (o A B C:Obj),g.get? c=some o->(((g.push A).push B).push C).get? c=some o:=λc o A B C q=>Qe _<|Qe _<|Qe _ q;rw[y3];refine h _ ⟨⟨.none,false,.inl J,?_⟩,?_,⟨(mX s.heap.objs.size ls.length).map λ_=>.none,by simp[mX],?_⟩,λj a ha=>(hi j a ha).to λo q=>up _ _ _ _ _ q⟩ λc o q=>up _ _ _ _ _<|hk c o q
  .rw[<-y3,<-y2,<-sz];exact Qa _ J
  .rw[<-sz];exact Qe _<|Qe _<|Qa _ rfl
  .rw[<-y2];exact Qe _<|Qa _ rfl
theorem zF3 (vs:jn):checkTypeCall "zip" ⟨vs,[]⟩=pure ():=jf
def zFW (o:qv)(vs:jn):argsOk "object.__init__" ⟨o::vs,[]⟩:=by unfold argsOk;kernel_rfl
def zJf {Q:jl}(hN:ls.length<=100)(hn:checkBuiltinCall "zip.__new__" ⟨.type "zip"::ls.map .ref,[]⟩=pure ())(hs:∀a∈ls,∃xs,IsSq t s.heap a xs)(h:∀h',ZSt t ls s.heap.objs.size 0 h'->(∀c o,s.heap.get? c=some o->h'.get? c=some o)->Q (.ref<|s.heap.objs.size+ls.length+2) (!15)):wpAny (!8) A (call (.type "zip")<|ls.map .ref) Q E s :=callType_new F.called_zip J (zF3 _) hn (λobj=>zFW obj _) F.entry_zip_new (zIr hN) ⟨hs,λh' st hk=>⟨let ⟨_,_,_,hz⟩:=st.1;⟨_,hz,rfl⟩,h h' st hk⟩⟩
abbrev fpz (n N:Nat):kn:=(List.range<|N+3).map (n+·)
def pX {N c:Nat}:c∈fpz n N↔n<=c/\c < n+N+3:=by rw[Wp];exact⟨λ⟨j,hj,e⟩=>by have:=Tq.mp hj;lia,λh=>⟨c - n,Tq.mpr jc,jc⟩⟩
def zMx (r:Vals xs j6)(h:j6[i]?=some u):∃x,xs[i]?=some x/\RelV x u:=by
 have hl:i < xs.length:=by rw[r.length];exact(v5 h).1
 obtain⟨u',h'⟩:=r.get<|Qj hl;simp_all
def Col (t:Bool)(K:jk)(H:Hp)(i:Nat)(a:qu)(x:V):Prop:=∃ys,SqB t K H a ys/\ys[i]?=some x
theorem zLM {F:qu->qv->Prop}{G:qu->V->Prop}:∀ {ls:kn} {us:jn},(∀a∈ls,∀u,F a u->∃x,G a x/\RelV x u)->Paired F ls us->∃xs,Vals xs us/\Paired G ls xs
 | _,_,_,.nil=>⟨[],.nil,.nil⟩
 | _,_,h,.cons p r=>by obtain⟨x,g,v⟩:=h _ Ql _ p;obtain⟨xs,h1,h2⟩:=zLM (λa ha=>h a<|Qf _ ha) r;exact⟨x::xs,.cons v h1,.cons g h2⟩
def IsSq.inj {xs ys:jo}(x:IsSq t h a xs)(y:IsSq t h a ys):xs=ys:=by obtain⟨o,e,_,n,d⟩:=x;obtain⟨o',e',_,n',d'⟩:=y;simp_all
def ZSt.obj (st:ZSt t ls n i h){c:qu}(hc:c∈fpz n ls.length):∃o,h.get? c=some o/\∀v,o.data ≠ .cell v:=by
 obtain⟨⟨f,bb,_⟩,h2,⟨ws,_⟩,h4⟩:=st;obtain⟨c1,c2⟩:=pX.mp hc
 by_cases q:c < n+ls.length
 .obtain⟨o,q1⟩:=h4 (c - n) _<|Qj jc;simp_all
 .have:c=n+ls.length\/c=n+ls.length+1\/c=n+ls.length+2:=by lia
  rcases this with rfl | rfl | rfl
  .simp_all
  .simp_all
  .simp_all
theorem ZSt.keep (st:ZSt t ls n i h)(kk:∀b∈fpz n ls.length,∀o,h.get? b=some o->h'.get? b=some o):ZSt t ls n i h' :=
 let ⟨h1,h2,⟨ws,hw,h3⟩,h4⟩:=st
 ⟨h1.to<|kk _<|pX.mpr jc,kk _ (pX.mpr jc) _ h2,⟨ws,hw,kk _ (pX.mpr jc) _ h3⟩,λj a ha=>(h4 j a ha).to<|kk _<|pX.mpr (by have:=(v5 ha).1;lia)⟩
def zRd (h0:0 < ls.length)(hN:ls.length<=100)(hc:!24)(I:!3)(hf:∀c∈fpz n ls.length,fV X Z H c)(st:ZSt t ls n i s.heap)(hq:∀a∈ls,∃ys,SqB t X.K H a ys)(hQ:∀xs h',Paired (Col t X.K H i) ls xs->Inv X Z U (upd H s.heap.objs.size<|.tup xs) (!15)->(∀c∈fpz n ls.length,fV X Z (upd H s.heap.objs.size<|.tup xs) c)->ZSt t ls n (i+1) h'->Q (some<|.ref s.heap.objs.size) (!15))(hE:∀h',(∃a∈ls,∃ys,SqB t X.K H a ys/\ys.length<=i)->Inv X Z U H (!15)->Q none (!15)):wpAny (!5) X.A (pyNext<|.ref<|n+ls.length+2) Q E s:=by
 have out:∀ {g:qx},Kz _ g n ls.length->∀c o,c∉fpz n ls.length->s.heap.get? c=some o->g.get? c=some o:=λhk c o hc e=>hk c o (by rw[pX] at hc;lia) e;have isq:∀a∈ls,(a < n\/n+ls.length+3<=a)/\∃ys j6,SqB t X.K H a ys/\Vals ys j6/\IsSq t _ a _:=λa ha=>by obtain⟨ys,q⟩:=hq a ha;obtain⟨j6,rv,p1⟩:=zKX I q;refine⟨Classical.byContradiction λz=>zFn I (hf a<|pX.mpr jc) q J,ys,j6,q,rv,p1⟩
 refine zP5 (I.ok.hd hc) h0 hN st (λa ha=>⟨(isq a ha).1,let ⟨_,_,j6,_,_,p⟩:=isq a ha;⟨_,p⟩⟩) (λus g hu g2 g3 hk=>?_) λg ⟨a,ha,xs,p1,hx⟩ hk=>?_
 .obtain⟨xs,rv,rc⟩:=zLM (G:=Col t X.K H i) (λa ha u ⟨xs,q1,q2⟩=>by
   obtain⟨_,ys,j6,q,rv,p⟩:=isq a ha;rw[q1.inj p] at q2;obtain⟨x,hx,ru⟩:=zMx rv (by simpa using q2);exact⟨x,⟨ys,q,hx⟩,ru⟩) hu
  have hl:=rc.length;have neT:∀c∈fpz n ls.length,c≠_:=λc hc z=>by obtain⟨o,e,_⟩:=st.obj hc;exact Wg _<|z ▸ Qs e
  exact hQ xs g rc (I.turnedNew (out hk) hf (Qh _) ⟨by show _<=sizeLine;exact Ww<|xR jc,us,rv,⟨_,g3,J,_,J⟩⟩) (λc hc=>⟨by rw[zG<|neT c hc];exact(hf c hc).1,(hf c hc).2⟩) g2
 .obtain⟨_,ys,j6,q,rv,p⟩:=isq a ha;rw[p1.inj p] at hx;exact hE g ⟨a,ha,ys,q,by rw[rv.length];simpa using hx⟩<|I.turnedL (out hk) hf
def Itz (t:Bool)(K:jk)(ls:kn):It :=
 ⟨λi H=>(∃xs,Paired (Col t K H i) ls xs),λi H x H'=>∃p xs,H p=none/\x = .ref p/\H'=upd H p (.tup xs)/\Paired (λa x=>∀ys,SqB t K H a ys->ys[i]?=some x) ls xs,
  λi H=>(∀a∈ls,∃ys,SqB t K H a ys)/\∃a∈ls,∃ys,SqB t K H a ys/\ys.length<=i⟩
theorem qK {α β:Type}{F:α->β->Prop}:∀ {l:!10} {r:List β} {a:α},Paired F l r->a∈l->∃b,F a b
 | _,_,_,.cons x y,h=>by
  rcases v4 h with rfl | h
  .exact⟨_,x⟩
  .exact qK y h
theorem zQP (h0:0 < ls.length)(hN:ls.length<=100):Turn P w K tg (Itz t K ls) (fpz n ls.length) (n+ls.length+2) (ZSt t ls n) where
 mem:=pX.mpr jc
 obj:=λi h st c hc=>st.obj hc
 keep:=λi h h' st kk=>st.keep kk
 item:=by
  intro X hP hw hK hc i Z s U H E I hf st ⟨ys,hg⟩;subst hP hw hK;refine zRd h0 hN hc I hf st (λa ha=>let ⟨_,q,p,_⟩:=qK hg ha;⟨q,p⟩) (λxs g rc I1 hf1 st1=>⟨_,J,zFN st1.1 λg' z' t'=>?_⟩) λg ⟨a,ha,ys,q,l⟩ _=>?_
  .refine⟨.ref s.heap.objs.size,_,I1.turnedL (λc o hc e=>(t'.2 c λz=>hc<|pX.mpr jc).trans e) hf1,rfl,⟨s.heap.objs.size,xs,I.fresh,rfl,rfl,Paired.imp' (λa x ⟨ys,q,e⟩ zs hs=>by rw[zP3 I hs q];exact e) rc⟩,?_,λc hc=>(hf1 c hc).1⟩;obtain⟨_,s2,⟨ws,hw,s3⟩,s4⟩:=st1;exact⟨z',(t'.2 _ jc).trans s2,⟨ws,hw,(t'.2 _ jc).trans s3⟩,λj a ha=>(s4 j a ha).extBut t'.extBut (by have:=(v5 ha).1;lia)⟩
  .obtain⟨x,zs,q',e⟩:=qK hg ha;rw[zP3 I q q'] at l;simp_all
 done:=by
  intro X hP hw hK hc i Z s U H E I hf st ⟨hq,a,ha,ys,q,l⟩;subst hP hw hK;refine zRd h0 hN hc I hf st hq (λxs g rc _ _ _=>?_) λg _ I1=>⟨J,I1⟩
  obtain⟨x,zs,q',e⟩:=qK rc ha;rw[zP3 I q q'] at l;simp_all
 self:=λ_ _ _ _ _ st h=>by obtain⟨f,bb,_,hz⟩:=st.1;exact Ul ⟨_,hz,J⟩ F.slot_zip_iter<|Wn F.slot_zip_iter ⟨_,hz,rfl⟩ F.entry_zip_iter (by show wpAny _ _ (ret<|.ref _) _ _ _;exact Qo ⟨_,J,"zip",_,⟨_,hz,J⟩,F.slot_zip_next.lookup,h⟩)<|F.args_zip_iter_1 _
def zQt {dss:List kd}{out:kd}(h:Paired (λa ds=>∃vs,SqB t K G a vs/\Reps K G ds vs) ls dss)(h1:∀(i:Nat) (d:D),out[i]?=some d->∃xs:kd,d = .tup xs/\Paired (λds x=>ds[i]?=some x) dss xs)(h2:∀i:Nat,out.length<=i->∃ds∈dss,ds.length<=i):fR K (Itz t K ls) G out:=by
 intro i G2 H2 s1 s2;have q:∀ {a vs},SqB t K G a vs->SqB t K H2 a vs:=zPm (!18);have key:∀ {ls:kn} {dss:List _} {xs:kd},Paired (λa ds=>∃vs,SqB t K G a vs/\Reps K G ds vs) ls dss->Paired (λds x=>ds[i]?=some x) dss xs->∃us,Paired (Col t K H2 i) ls us/\∀us',Paired (λa x=>∀ys,SqB t K H2 a ys->ys[i]?=some x) ls us'->Reps K G xs us':=by
  intro ls dss xs h;induction h generalizing xs with
  | nil=>intro h;cases h;exact⟨[],.nil,λ_ h=>by cases h;exact zD.mpr J⟩
  | cons p r ih =>
   intro h;cases h with
   | cons p' r' =>
    obtain⟨us,i1,i2⟩:=ih r';obtain⟨vs,q1,q2⟩:=p;obtain⟨v,e,rv⟩:=q2.get p';refine⟨v::us,.cons ⟨vs,q q1,e⟩ i1,λus' h=>?_⟩;cases h with
    | cons p2 r2 =>have:=p2 vs<|q q1;rw[e] at this;cases this;exact zQ.mpr ⟨_,_,J,rv,i2 _ r2⟩
 refine⟨λd hd=>?_,λhi=>⟨λa ha=>let ⟨_,vs,p,_⟩:=qK h ha;⟨vs,q p⟩,?_⟩⟩
 .obtain⟨xs,rfl,hx⟩:=h1 i d hd;obtain⟨us,c1,c2⟩:=key h hx;refine⟨⟨us,c1⟩,λx' H3 ⟨p,us',hp,e1,e2,c3⟩=>?_⟩;subst e1 e2;have s3:=Step.laid (o:=.tup us') s2 hp;exact⟨_,s3,yE.mpr ⟨p,_,J,.of zN,((c2 us' c3).mono s1).mono s3.gg⟩⟩
 .obtain⟨ds,hd,l⟩:=h2 i hi;obtain⟨a,ha,vs,p,r⟩:∃a∈ls,∃vs,SqB t K G a vs/\Reps K G ds vs:=by
   clear key h1 h2;induction h with
   | nil=>cases hd
   | cons p r ih =>
    rcases v4 hd with rfl | hd
    .simp_all
    .simp_all
  exact⟨a,ha,vs,q p,by rw[<-r.length];exact l⟩
theorem zOU {t:Bool}{K:jk}{G:Hp}:∀ {dss:List kd} {vs:kj},Reps K G (dss.map<|mkS t) vs->∃ls:kn,vs=ls.map .ref/\Paired (λa ds=>∃vs,SqB t K G a vs/\Reps K G ds vs) ls dss
 | [],_,h=>⟨[],h,.nil⟩
 | _::_,_,h=>by obtain⟨v,vr,rfl,h1,h2⟩:=zQ.mp h;obtain⟨a,us,rfl,p⟩:=zG1 h1;obtain⟨ls,rfl,q⟩:=zOU h2;exact⟨a::ls,J,.cons ⟨us,p⟩ q⟩
theorem zY8:∀ {ls:kn} {us:jn},Vals (ls.map .ref) us->us=ls.map .ref
 | [],_,h=>by cases h;rfl
 | _::_,_,h=>by
  cases h with
  | cons p q=>cases p;rw[zY8 q];rfl
def zZ9 (xs ys:kd):kd:=(xs.zip ys).map λp=>.tup [p.1,p.2]
def zO7 (xs ys zs:kd):kd:=(xs.zip<|ys.zip zs).map λp=>.tup [p.1,p.2.1,p.2.2]
section
variable{a b:r8}{f:Lf}
def zEj (t:Bool)(n:Nat)(ga f:Lf):Prop:=∀O out,f O=some out->∃dss:List kd,ga O=some (dss.map<|mkS t)/\dss.length=n/\(∀(i:Nat) (d:D),out[i]?=some d->∃xs:kd,d = .tup xs/\Paired (λds x=>ds[i]?=some x) dss xs)/\∀i:Nat,out.length<=i->∃ds∈dss,ds.length<=i
def zTI (t:Bool)(hF:zEj t (es.length+1) ga f)(hN:es.length < 100)(hn:∀l:qh,l.length=es.length+1->checkBuiltinCall "zip.__new__" ⟨.type "zip"::l,[]⟩=pure ())(hg:Gl X "zip")(hm:X.mg "zip"=none)(ha:PFA X (e::es) ga)(hs:!23)(hpl:(backTo pos (!25)).any (·.1)=false):PFI X tg (.Call (.Name "zip" p) (e::es) [] pos) f:=by
 intro Z s U H R I ⟨G0,H0,G,O,out,j0,hf,kk⟩;obtain⟨dss,hga,h0,h1,h2⟩:=hF O out hf;refine Call_<|iE I hg hm jg<|Ro (thn (ha pos Z s U H (λvs H'=>∃G',Step G H G' H'/\Reps X.K G' _ vs) I ⟨G0,H0,G,O,_,j0,hga,λvs H' G' st r=>⟨G',st,r⟩⟩) λus s1 ⟨vs,H1,I1,r1,G1,st1,rp⟩=>?_) hs hpl;obtain⟨ls,rfl,pr⟩:=zOU rp;obtain rfl:=zY8 r1;have hl:=pr.length;have z0:0 < ls.length:=jc;have z1:ls.length<=100:=jc;refine zJf z1 (hn _ (!9)) (λa ha=>by obtain⟨ds,vs,q,_⟩:=qK pr ha;obtain⟨j6,_,p1⟩:=zKX I1<|zPm st1.sub q;exact⟨_,p1⟩) λh' st hk=>(zQP (tg:=tg) (K:=X.K) z0 z1).self _ 0 _ _ _ st ⟨_,fpz _ ls.length,_,_,H1,J,I1.kept hk,zQP z0 z1,st,λb hb=>?_,kk _ H1 G1 st1<|zQt pr h1 h2⟩
 have hb':=(pX.mp hb).1;exact I1.fpOk hb'<|I1.hok.fresh hb'
theorem zOZ (h:∀O ds,f O=some ds->∃xs ys,fa O=some (mkS t xs)/\fb O=some (mkS t ys)/\ds=zZ9 xs ys):zEj t 2 (zY fa<|zY fb zS) f:=λO out hf=>by
 obtain⟨xs,ys,h1,h2,rfl⟩:=h O out hf;refine⟨[xs,ys],by unfold zY;rw[h1,h2];rfl,J,λi d hd=>?_,λi hi=>?_⟩
 .unfold zZ9 at hd;rw[Wh] at hd;obtain⟨⟨x,y⟩,q,rfl⟩:=k9 hd;obtain⟨q1,q2⟩:=Rk.mp q;exact⟨_,J,.cons q1<|.cons q2 .nil⟩
 .unfold zZ9 at hi;simp only[Qy,Ei] at hi;simp;lia
def zWr (f g:Ef):Lf:=λO=>(f O).bind λx=>(g O).bind λy=>match x,y with | .tup xs,.tup ys=>some (zZ9 xs ys) | _,_=>none
def zPe (f g:Ef):Lf:=λO=>(f O).bind λx=>(g O).bind λy=>match x,y with | .lst xs,.lst ys=>some (zZ9 xs ys) | _,_=>none
def zKH (f g h:Ef):Lf:=λO=>(f O).bind λx=>(g O).bind λy=>(h O).bind λz=>match x,y,z with | .tup xs,.tup ys,.tup zs=>some (zO7 xs ys zs) | _,_,_=>none
def nc2 (l:jn)(h:l.length=2):checkBuiltinCall "zip.__new__" ⟨.type "zip"::l,[]⟩=pure ():=by
 match l,h with
 | [a,b],_=>kernel_rfl
theorem zSY (hg:Gl X "zip")(hm:X.mg "zip"=none)(ha:!12)(hb:PF X b fb)(hs:starEach [a,b] X.env=(false,eval a X.env)::starEach [b] X.env:=by rfl)(hs2:starEach [b] X.env=[(false,eval b X.env)]:=by rfl):PFI X tg (.Call (.Name "zip" p) [a,b] [] pos) (zWr fa fb) :=
 zTI true (zOZ λO ds h=>by
  obtain⟨x,h1,h⟩:=k8 h;obtain⟨y,h2,h⟩:=k8 h;split at h<;>cases h
  exact⟨_,_,h1,h2,J⟩) (show 1 < 100 by decide) nc2 hg hm (zZ ha (zZ hb zX hs2) hs) hs (by rw[hs2];rfl)
theorem zOE (hg:Gl X "zip")(hm:X.mg "zip"=none)(ha:!12)(hb:PF X b fb)(hs:starEach [a,b] X.env=(false,eval a X.env)::starEach [b] X.env:=by rfl)(hs2:starEach [b] X.env=[(false,eval b X.env)]:=by rfl):PFI X tg (.Call (.Name "zip" p) [a,b] [] pos) (zPe fa fb) :=
 zTI false (zOZ λO ds h=>by
  obtain⟨x,h1,h⟩:=k8 h;obtain⟨y,h2,h⟩:=k8 h;split at h<;>cases h
  exact⟨_,_,h1,h2,J⟩) (show 1 < 100 by decide) nc2 hg hm (zZ ha (zZ hb zX hs2) hs) hs (by rw[hs2];rfl)
theorem zHT (hg:Gl X "zip")(hm:X.mg "zip"=none)(ha:!12)(hb:PF X b fb)(hc:PF X c fc)(hs:starEach [a,b,c] X.env=(false,eval a X.env)::starEach [b,c] X.env:=by rfl)(hs2:starEach [b,c] X.env=(false,eval b X.env)::starEach [c] X.env:=by rfl)(hs3:starEach [c] X.env=[(false,eval c X.env)]:=by rfl):PFI X tg (.Call (.Name "zip" p) [a,b,c] [] pos) (zKH fa fb fc) :=
 zTI true (λO out h=>by
  obtain⟨x,h1,h⟩:=k8 h;obtain⟨y,h2,h⟩:=k8 h;obtain⟨z,h3,h⟩:=k8 h;obtain⟨xs,ys,zs,h1,h2,h3,rfl⟩:∃xs ys zs,fa O=some (.tup xs)/\fb O=some (.tup ys)/\fc O=some (.tup zs)/\out=zO7 xs ys zs:=by
   split at h<;>cases h
   exact⟨_,_,_,h1,h2,h3,J⟩
  refine⟨[xs,ys,zs],by unfold zY;rw[h1,h2,h3];rfl,J,λi d hd=>?_,λi hi=>?_⟩
  .unfold zO7 at hd;rw[Wh] at hd;obtain⟨⟨x,y⟩,q,rfl⟩:=k9 hd;obtain⟨q1,q2⟩:=Rk.mp q;obtain⟨q2,q3⟩:=Rk.mp q2;exact⟨_,J,.cons q1<|.cons q2<|.cons q3 .nil⟩
  .unfold zO7 at hi;simp only[Qy,Ei] at hi;simp;lia) (show 2 < 100 by decide) (λl h=>by
   match l,h with
   | [a,b,c],_=>kernel_rfl) hg hm (zZ ha (zZ hb (zZ hc zX hs3) hs2) hs) hs (by rw[hs2,hs3];rfl)
end
end L2
variable{v:qv}{t:TS}{body:Sf}{vs:jn}{C:qu}{xs:kd}{ys:kh}
namespace L2
def zXW (f:D->D->ku):kd->kd->ku
 | x::xs,y::ys=>(f x y).bind λa=>(zXW f xs ys).map λb=>a&&b
 | _,_=>some true
def eqD:Nat->D->D->ku
 | _+1,.int i,.int j=>some<|i==j
 | _+1,.bl i,.bl j=>some<|i==j
 | _+1,.str i,.str j=>some<|i==j
 | _+1,.non,.non=>some true
 | n+1,.tup xs,.tup ys=>(zXW (eqD n) xs ys).map λb=>b&&xs.length==ys.length
 | n+1,.lst xs,.lst ys=>if xs.length=ys.length then zXW (eqD n) xs ys else some false
 | _,_,_=>none
def zRR (d d':D):eqD 0 d d'=none:=rfl
def iJ (f:D->D->ku)(xs ys:kd)(j:Nat):Bool:=match xs[j]?,ys[j]? with | some a,some c=>(f a c).getD true | _,_=>true
theorem zWY {f:D->D->ku}:∀ {xs ys:kd} {b:Bool},zXW f xs ys=some b->b=(List.range<|min xs.length ys.length).all (iJ f xs ys)/\∀(j:Nat) (a c:D),xs[j]?=some a->ys[j]?=some c->f a c=some (iJ f xs ys j)
 | [],_,_,h=>by cases h;exact⟨je,λj a c e=>by simp at e⟩
 | _::_,[],_,h=>by cases h;exact⟨je,λj a c _ e=>by simp at e⟩
 | x::xs,y::ys,b,h=>by
  obtain⟨a,h1,h⟩:=k8 h;obtain⟨b',h2,rfl⟩:=k9 h;obtain⟨e1,e2⟩:=zWY h2;constructor
  .rw[Qk,Qk,Nat.succ_min_succ,Ii,List.all_cons,List.all_map];congr 1;simp[iJ,h1]
  .intro j p q hp hq;cases j with
   | zero =>simp at hp hq;subst hp;subst hq;simp[iJ,h1]
   | succ j =>have:=e2 j p q (!6) (!6);simpa [iJ] using this
section
def zRp (I:!3)(sub:Same G H):∀(n:Nat) (d d':D) (x:V) (k:Bool),eqD n d d'=some k->Rep X.K G d x->Rep X.K G d' x->k=true:=by
 intro n;induction n with
 | zero=>intro d d' x k h;rw[zRR] at h;cases h
 | succ n ih =>
  have many:∀(ds es) (vs) (b),zXW (eqD n) ds es=some b->Reps X.K G ds vs->Reps X.K G es vs->b=true:=by
   intro ds;induction ds with
   | nil=>intro es vs b h _ _;cases h;rfl
   | cons d r ihr =>
    intro es vs b h r1 r2;cases es with
    | nil=>cases h;rfl
    | cons e t =>obtain⟨a,h1,h⟩:=k8 h;obtain⟨b',h2,rfl⟩:=k9 h;obtain⟨v,vr,rfl,q1,q2⟩:=zQ.mp r1;obtain⟨v',vr',e',q3,q4⟩:=zQ.mp r2;cases e';rw[ih d e v a h1 q1 q3,ihr t vr b' h2 q2 q4];rfl
  intro d d' x k h r1 r2;cases d with
  | int i =>
   cases d' with
   | int j=>cases h;rw[zC] at r1 r2;rw[r1] at r2;cases r2;simp
   | _=>cases h
  | bl i =>
   cases d' with
   | bl j=>cases h;rw[wP] at r1 r2;rw[r1] at r2;cases r2;simp
   | _=>cases h
  | str i =>
   cases d' with
   | str j=>cases h;rw[yF] at r1 r2;rw[r1] at r2;cases r2;simp
   | _=>cases h
  | non =>
   cases d' with
   | non=>cases h;rfl
   | _=>cases h
  | tup ds =>
   cases d' with
   | tup es =>obtain⟨b,h1,rfl⟩:=k9 h;obtain⟨p,vs,e1,q1,q2⟩:=yE.mp r1;obtain⟨p',vs',e2,q3,q4⟩:=yE.mp r2;rw[e1] at e2;cases e2;have ev:=I.tuple_inj (sub.tup q1)<|sub.tup q3;subst ev;rw[many ds es vs b h1 q2 q4,q2.length,q4.length];simp
   | _=>cases h
  | lst ds =>
   cases d' with
   | lst es =>change (if (_:Nat)=_ then _ else _)=_ at h;obtain⟨p,vs,e1,q1,q2⟩:=xF.mp r1;obtain⟨p',vs',e2,q3,q4⟩:=xF.mp r2;rw[e1] at e2;cases e2;have ev:=I.list_inj (sub.seq q1)<|sub.seq q3;subst ev;rw[Qg<|by rw[q2.length,q4.length]] at h;exact many ds es vs k h q2 q4
   | _=>cases h
  | obj C ns ds=>cases d'<;>cases h
  | exc C ns ds=>cases d'<;>cases h
  | dct ks ds=>cases d'<;>cases h
def zHx (I:!3)(sub:Same G H):∀(n:Nat) (A:qy) (d d':D) (x y:V) (u v:qv) (k:Bool),A.units+n < cLine->eqD n d d'=some k->Rep X.K G d x->Rep X.K G d' y->RelV x u->RelV y v -> SeqAt.RcAt A s u v k/\SeqAt.RcNeAt A s u v (!k)/\SeqAt.EqAt A s u v k:=by
 intro n;induction n with
 | zero=>intro A d d' x y u v k _ h;rw[zRR] at h;cases h
 | succ n ih =>
  intro A d d' x y u v k hu h r1 r2 ru rv;have hu1:A.units < cLine:=jc;have hin:A.in1.units+n < cLine:=by show _+1+n < cLine;lia
  cases d with
  | int i =>
   cases d' with
   | int j=>cases h;rw[zC] at r1 r2;subst r1;subst r2;obtain⟨t,rfl⟩:=ru;obtain⟨t',rfl⟩:=rv;exact⟨SeqAt.RcAt.int_int _ _ _ _,SeqAt.RcNeAt.int_int _ _ _ _,SeqAt.EqAt.int_int _ _ _ _⟩
   | _=>cases h
  | bl i =>
   cases d' with
   | bl j=>cases h;rw[wP] at r1 r2;subst r1;subst r2;cases ru;cases rv;exact⟨SeqAt.RcAt.bool_bool _ _,SeqAt.RcNeAt.bool_bool _ _,SeqAt.EqAt.bool_bool _ _⟩
   | _=>cases h
  | str i =>
   cases d' with
   | str j=>cases h;rw[yF] at r1 r2;subst r1;subst r2;obtain⟨t,rfl⟩:=ru;obtain⟨t',rfl⟩:=rv;exact⟨SeqAt.RcAt.str_str _ _ _ _,SeqAt.RcNeAt.str_str _ _ _ _,SeqAt.EqAt.str_str _ _ _ _⟩
   | _=>cases h
  | non =>
   cases d' with
   | non=>cases h;rw[sX] at r1 r2;subst r1;subst r2;cases ru;cases rv;exact⟨SeqAt.RcAt.none_none,SeqAt.RcNeAt.none_none,Pg _⟩
   | _=>cases h
  | tup ds =>
   cases d' with
   | tup es =>
    obtain⟨b,h1,rfl⟩:=k9 h;obtain⟨p,vs,rfl,q1,q2⟩:=yE.mp r1;obtain⟨p',vs',rfl,q3,q4⟩:=yE.mp r2;cases ru;cases rv;obtain⟨j6,w1,t1,_⟩:=I.tuple<|sub.tup q1;obtain⟨jts,w2,t2,_⟩:=I.tuple<|sub.tup q3;obtain⟨e1,e2⟩:=zWY h1;have l1:_=_:=q2.length.trans w1.length;have l2:_=_:=q4.length.trans w2.length;have he:∀j (a1:j < _) (a2:j < jts.toArray.size),SeqAt.EqAt _ s j6.toArray[j] jts.toArray[j] (iJ (eqD n) ds es j):=λj a1 a2=>by
     have b1:j < ds.length:=by rw[l1];simpa using a1
     have b2:j < es.length:=by rw[l2];simpa using a2
     obtain⟨v1,f1,g1⟩:=q2.get<|Qj b1;obtain⟨v2,f2,g2⟩:=q4.get<|Qj b2;obtain⟨u1,f3,g3⟩:=w1.get f1;obtain⟨u2,f4,g4⟩:=w2.get f2;have x1:j6.toArray[j]=u1:=by have:=(v5 f3).2;simpa using this
     have x2:jts.toArray[j]=u2:=by have:=(v5 f4).2;simpa using this
     rw[x1,x2];exact(ih _ _ _ v1 v2 u1 u2 _ hin (e2 j _ _ (Qj b1)<|Qj b2) g1 g2 g3 g4).2.2
    have ek:((List.range<|min j6.toArray.size jts.toArray.size).all (iJ (eqD n) ds es)&&j6.toArray.size==jts.toArray.size)=(b&&ds.length==es.length):=by rw[Qd,Qd,<-l1,<-l2,e1]
    have R1:=SeqAt.RcAt.tuples t1 t2 hu1 he;have R2:=SeqAt.RcNeAt.tuples t1 t2 hu1 he;rw[ek] at R1 R2;refine⟨R1,R2,?_⟩
    by_cases hp:p=p'
    .subst hp;rw[(zRp I sub (n+1) (.tup ds) (.tup es) (.ref p) _ h r1 r2)];exact Pg _
    .exact .of_refs hp R1
   | _=>cases h
  | lst ds =>
   cases d' with
   | lst es =>
    change (if (_:Nat)=_ then _ else _)=_ at h;obtain⟨p,vs,rfl,q1,q2⟩:=xF.mp r1;obtain⟨p',vs',rfl,q3,q4⟩:=xF.mp r2;cases ru;cases rv;obtain⟨j6,w1,t1,_⟩:=I.list<|sub.seq q1;obtain⟨jts,w2,t2,_⟩:=I.list<|sub.seq q3;have l1:_=_:=q2.length.trans w1.length;have l2:_=_:=q4.length.trans w2.length;have fin:SeqAt.RcAt A s (.ref p) (.ref p') k/\SeqAt.RcNeAt A s (.ref p) (.ref p') (!k):=by
     split at h
     .rename_i hl;obtain⟨e1,e2⟩:=zWY h;have he:∀j (a1:j < _) (a2:j < jts.toArray.size),SeqAt.EqAt _ s j6.toArray[j] jts.toArray[j] (iJ (eqD n) ds es j):=λj a1 a2=>by
       have b1:j < ds.length:=by rw[l1];simpa using a1
       have b2:j < es.length:=by rw[l2];simpa using a2
       obtain⟨v1,f1,g1⟩:=q2.get<|Qj b1;obtain⟨v2,f2,g2⟩:=q4.get<|Qj b2;obtain⟨u1,f3,g3⟩:=w1.get f1;obtain⟨u2,f4,g4⟩:=w2.get f2;have x1:j6.toArray[j]=u1:=by have:=(v5 f3).2;simpa using this
       have x2:jts.toArray[j]=u2:=by have:=(v5 f4).2;simpa using this
       rw[x1,x2];exact(ih _ _ _ v1 v2 u1 u2 _ hin (e2 j _ _ (Qj b1)<|Qj b2) g1 g2 g3 g4).2.2
      have hsz:j6.toArray.size=jts.toArray.size:=by rw[Qd,Qd,<-l1,<-l2,hl]
      have ek:(List.range j6.toArray.size).all (iJ (eqD n) ds es)=k:=by rw[e1,Qd,<-l1,<-hl,Yr]
      have R1:=SeqAt.RcAt.lists t1.isList t2.isList hsz hu1 he;have R2:=SeqAt.RcNeAt.lists t1.isList t2.isList hsz hu1 he;rw[ek] at R1 R2;exact⟨R1,R2⟩
     .rename_i hl;cases h;have hsz:(j6.toArray.size != jts.toArray.size)=true:=by
       rw[Qd,Qd,<-l1,<-l2];simpa using hl
      exact⟨SeqAt.RcAt.lists_lengths t1.isList t2.isList hsz hu1,SeqAt.RcNeAt.lists_lengths t1.isList t2.isList hsz hu1⟩
    refine⟨fin.1,fin.2,?_⟩
    by_cases hp:p=p'
    .subst hp;rw[(zRp I sub (n+1) (.lst ds) (.lst es) (.ref p) _ h r1 r2)];exact Pg _
    .exact .of_refs hp fin.1
   | _=>cases h
  | obj C ns ds=>cases d'<;>cases h
  | exc C ns ds=>cases d'<;>cases h
  | dct ks ds=>cases d'<;>cases h
variable{b:r8}{k:Nat}
def zM8:D->D->ku:=eqD 8
def bE (x y:D):ku:=(eqD 8 x y).map (!·)
def zLB (hr:Room k X.A):CmR X .Eq zM8:=by refine⟨λx y H Q=>∃G d d' b,Same G H/\Rep X.K G d x/\Rep X.K G d' y/\eqD 8 d d'=some b/\Q _ H,?_,λd d' k G H x y Q h s rx ry q=>⟨G,d,d',k,s,rx,ry,h,q H G<|.refl s⟩⟩;intro Z s U H x y v u Q I rx ry ⟨G,d,d',b,sub,r1,r2,h,q⟩;have hu:=hr.units;exact(zHx I sub 8 X.A d d' x y v u b jc h r1 r2 rx ry).1 _ X.w X.xe _ ⟨.bl b,H,I,J,q⟩
def zWg (hr:Room k X.A):CmR X .NotEq bE:=by
 refine⟨λx y H Q=>∃G d d' b,Same G H/\Rep X.K G d x/\Rep X.K G d' y/\eqD 8 d d'=some b/\Q (.bl (!b)) H,?_,λd d' k G H x y Q h s rx ry q=>?_⟩
 .intro Z s U H x y v u Q I rx ry ⟨G,d,d',b,sub,r1,r2,h,q⟩;have hu:=hr.units;exact(zHx I sub 8 X.A d d' x y v u b jc h r1 r2 rx ry).2.1 _ X.w X.xe _ ⟨.bl _,H,I,J,q⟩
 .unfold bE at h;obtain⟨b,h1,rfl⟩:=k9 h;exact⟨G,d,d',b,s,rx,ry,h1,q H G<|.refl s⟩
def zXf:kd->Option kh
 | []=>some []
 | .int i::r=>(zXf r).map λis=>i::is
 | _=>none
theorem zY7 {K:jk}{G:Hp}:∀ {ds:kd} {is:kh} {vs:kj},zXf ds=some is->Reps K G ds vs->vs=is.map V.int
 | [],_,_,h,r=>by cases h;rw[zD] at r;rw[r];rfl
 | d::t,_,_,h,r=>by
  unfold zXf at h;split at h
  .simp_all
  .rename_i k t' h';cases h';obtain⟨v,vr,rfl,r1,r2⟩:=zQ.mp r;obtain⟨ks,h1,rfl⟩:=k9 h;rw[zY7 h1 r2,zC.mp r1];rfl
  .cases h
end
def Its (x:Str):It:=⟨λi _=>i < x.cps.size,λi H y H'=>H'=H/\∃c,x.cps[i]?=some c/\y = .str ⟨#[c]⟩,λi _=>x.cps.size<=i⟩
theorem zJm (it:qu)(ty:String)(hty:ty="str_ascii_iterator"\/ty="str_iterator")(x:Str)(t:Tok):Turn P w K tg (Its x) [it] it (λi h=>h.IsStrIter it ty x t i) where
 mem:=je
 obj:=λi h st b hb=>by
  have e:=by simpa using hb
  subst e;obtain⟨o,e,c,d⟩:=st;exact⟨o,e,λv z=>by rw[d] at z;cases z⟩
 keep:=λi h h' st k=>by obtain⟨o,e,r⟩:=st;exact⟨o,k it je o e,r⟩
 item:=by
  sleep 6
  obtain⟨f0,f1,f2,f3,f4,f5⟩:=hf it je;have hg:i < _:=hg;have hx:x.cps[i]?=some x.cps[i]:=by simp[hg]
  rcases hty with rfl | rfl
  .refine wpAny_pyNext_ascii_item st hx λh' st' sb=>?_;have I1:=I.turned (t':=s.toks+1) (λb o hb e=>(sb.2 b hb).trans e) f0 f1 f3 f4 f5;obtain⟨o,e,c,d⟩:=id st';exact⟨_,J,zQW (s:={ s with heap:=h',toks:=_+1 }) e c d jb ⟨.str ⟨#[x.cps[i]]⟩,H,I1,⟨_,J⟩,⟨J,_,hx,J⟩,st',λb hb=>(hf b hb).1⟩⟩
  .refine wpAny_pyNext_wide_item st hx λh' st' sb=>?_;have I1:=I.turned (t':=s.toks+1) (λb o hb e=>(sb.2 b hb).trans e) f0 f1 f3 f4 f5;obtain⟨o,e,c,d⟩:=id st';exact⟨_,J,zQW (s:={ s with heap:=h',toks:=_+1 }) e c d jb ⟨.str ⟨#[x.cps[i]]⟩,H,I1,⟨_,J⟩,⟨J,_,hx,J⟩,st',λb hb=>(hf b hb).1⟩⟩
 done:=by
  sleep 6
  obtain⟨f0,f1,f2,f3,f4,f5⟩:=hf it je;have hg:_<=i:=hg;have hx:x.cps[i]?=none:=by simp[hg]
  rcases hty with rfl | rfl
  .exact wpAny_pyNext_ascii_end (I.ok.hd hc) st hx λh' eb=>⟨J,I.turned (t':=_) (λb o hb e=>eb b o hb e) f0 f1 f3 f4 f5⟩
  .exact wpAny_pyNext_wide_end (I.ok.hd hc) st hx λh' eb=>⟨J,I.turned (λb o hb e=>eb b o hb e) f0 f1 f3 f4 f5⟩
 self:=λ_ _ _ _ _ st h=>by
  rcases hty with rfl | rfl
  .exact wpAny_pyIter_striter_ascii st h
  .exact wpAny_pyIter_striter_wide st h
def zWM (x:Str):kd:=x.cps.toList.map λc=>.str ⟨#[c]⟩
def zPJ:fR K (Its x) G<|zWM x:=by
 intro i G2 H2 s1 s2;have hl:(zWM x).length=x.cps.size:=by simp[zWM]
 refine⟨λd hd=>?_,λhi=>by rw[hl] at hi;exact hi⟩;have hi:i < x.cps.size:=by rw[<-hl];exact(v5 hd).1
 refine⟨hi,λy H3 q=>?_⟩;obtain⟨rfl,c,hc,rfl⟩:=q;unfold zWM at hd;rw[Wh,Array.getElem?_toList,hc] at hd;cases hd;exact⟨G2,.refl s2,yF.mpr J⟩
section
variable{a b:r8}
def zCP (tl:TE):TI:=λU H R=>tl U H λx H1=>∃z,x = .str z/\R (Its z) H1
def zIh {l:r8}(hl:PE X l tl):PI X tg l<|zCP tl:=by
 refineλZ s U H R I h=>thn (hl Z s U H _ I h) λv s1 ⟨x,H1,I1,r1,q1⟩=>?_;obtain⟨z,e,q⟩:=q1;subst e;obtain⟨t,rfl⟩:=r1;have fin:∀(o) (ty),_->(s1.heap.push o).IsStrIter _ ty z t 0->PIE X Z U tg R _ { s1 with heap:=s1.heap.push o }:=λo ty hty st=>by
  refine⟨s1.heap.objs.size,[s1.heap.objs.size],_,_,H1,J,I1.kept λb o e=>Qe _ e,zJm _ ty hty z t,st,λb hb=>?_,q⟩;have e:=by simpa using hb
  subst e;exact I1.fpOk (Qh _)<|I1.hok.fresh<|Qh _
 cases ha:z.cps.all _
 .exact wpAny_pyIter_wide ha (fin _ _ (.inr J) ⟨_,Qa _ J,J,J⟩)
 .exact wpAny_pyIter_ascii ha (fin _ _ (.inl J) ⟨_,Qa _ J,J,J⟩)
def iS (f:Ef):Lf:=λO=>(f O).bind λd=>match d with | .str x=>some (zWM x) | _=>none
def zCK (h:PF X e fa):PFI X tg e<|iS fa:=by
 refine PI.to (zIh h) ?_;rintro U H R ⟨G0,H0,G,O,ds,j0,hf,k⟩;obtain⟨d,h1,hf⟩:=k8 hf;cases d with
 | str x =>cases hf;exact⟨G0,H0,G,O,_,j0,h1,λv H1 G1 s1 r1=>⟨x,yF.mp r1,k _ H1 G1 s1 zPJ⟩⟩
 | _=>cases hf
def eB3 (g g':D->D->ku)(fa fb fc:Ef):Tf:=λO=>(fa O).bind λx=>(fb O).bind λy=>(g x y).bind λk=>if k=true then(fc O).bind λz=>g' y z else some false
def zLo {op':CmpOp}{g':D->D->ku}(hc1:CmR X op g)(hc2:CmR X op' g')(ha:!12)(hb:PF X b fb)(hc:PF X c fc)(hm:lastMarks [op,op'] [b,c]=false:=by with_unfolding_all rfl):PF X (.Compare a [op,op'] [b,c] pos)<|bQ<|eB3 g g' fa fb fc:=by
 obtain⟨r,ho,hr⟩:=hc1;obtain⟨r',ho',hr'⟩:=hc2;refine PE.to (zKP ho ho' ha hb hc hm) ?_
 sleep 1
 obtain⟨b',hf2,rfl⟩:=zRw hf;obtain⟨x,h1,hf2⟩:=k8 hf2;obtain⟨y,h2,hf2⟩:=k8 hf2;obtain⟨kk,h3,hf2⟩:=k8 hf2;refine⟨G0,H0,G,O,_,j0,h1,λu H1 G1 s1 r1=>⟨G0,H0,G1,O,_,j0.step s1,h2,λv H2 G2 s2 r2=>hr x y kk G2 H2 u v _ h3 s2.sub (r1.mono s2.gg) r2 λH3 G3 s3=>⟨kk,J,?_⟩⟩⟩;split at hf2
 .rename_i hk;rw[Qg hk];obtain⟨z,h4,hf3⟩:=k8 hf2;exact⟨G0,H0,G3,O,_,((j0.step s1).step s2).step s3,h4,λw' H4 G4 s4 r4=>hr' y z b' G4 H4 v w' Q hf3 s4.sub ((r2.mono s3.gg).mono s4.gg) r4 λH5 G5 s5=>k _ _ G5 ((((!18).trans s3).trans s4).trans s5)<|wP.mpr rfl⟩
 .rename_i hk;rw[Qc hk];cases hf2;exact k _ _ G3 ((!18).trans s3)<|wP.mpr rfl
def zF6:D->D->qi
 | .int i,.int j=>some<|.int<|i+j
 | .str i,.str j=>if i.length+j.length<=lim then some (.str<|i++j) else none
 | _,_=>none
def rA (fa fb:Ef):Ef:=λO=>(fa O).bind λx=>(fb O).bind λy=>zF6 x y
def cY (ha:!12)(hb:PF X b fb):PF X (.BinOp a .Add b pos)<|rA fa fb:=by
 refine PE.to (zYu (zLe.or zQf) ha hb) ?_
 sleep 2
 obtain⟨y,h2,hf⟩:=k8 hf;refine⟨G0,H0,G,O,_,j0,h1,λu H1 G1 s1 r1=>⟨G0,H0,G1,O,_,j0.step s1,h2,λv H2 G2 s2 r2=>?_⟩⟩;unfold zF6 at hf;split at hf
 .cases hf;exact .inl ⟨_,_,zC.mp r1,zC.mp r2,k _ _ G2 (!18)<|zC.mpr rfl⟩
 .split at hf
  .rename_i hz;cases hf;exact .inr ⟨_,_,yF.mp r1,yF.mp r2,Ww<|xR hz,k _ _ G2 (!18)<|yF.mpr rfl⟩
  .simp_all
 .simp_all
def zCZ:V->kr->kr->Hp->VK->Prop:=λx lo hi H Q=>∃z,x = .str z/\z.length<=sizeLine/\Q (.str<|Txt.slice z lo hi) H
def zFm:SlR X zCZ:=by
 intro Z s U H x v vl vu lo hi sl Q I rx hs pl pu h;obtain⟨z,rfl,hz,q⟩:=h;obtain⟨t,rfl⟩:=rx;refine⟨"str",_,F.slot_str_getitem.lookup,Ib s z t,?_⟩;have fin:∀t' k,EP X Z U Q _ { s with toks:=k }:=λt' k=>⟨.str _,H,I.tok k,⟨t',J⟩,q⟩
 cases pl with
 | none =>
  cases pu with
  | none=>exact Ys (l:=none) (u:=none) (st:=none) hs rfl<|Ih ⟨Wq (Om z _ _) hz,fin⟩
  | int j tj=>exact Ys (l:=none) (u:=some (j,tj)) (st:=none) hs rfl<|Ih ⟨Wq (Om z _ _) hz,fin⟩
 | int i ti =>
  cases pu with
  | none=>exact Ys (l:=some (i,ti)) (u:=none) (st:=none) hs rfl<|Ih ⟨Wq (Om z _ _) hz,fin⟩
  | int j tj=>exact Ys (l:=some (i,ti)) (u:=some (j,tj)) (st:=none) hs rfl<|Ih ⟨Wq (Om z _ _) hz,fin⟩
def zPH (f:Ef)(lo hi:Of):Ef:=λO=>(f O).bind λd=>(lo O).bind λl=>(hi O).bind λu=>match d with | .str x=>if x.length<=lim then some (.str<|Txt.slice x l u) else none | _=>none
def zUs {fl fh:Of}(ha:!12)(hl:PFO X lo fl)(hh:PFO X hi fh):PF X (.Subscript a (.Slice lo hi none p2) pos)<|zPH fa fl fh:=by
 refine PE.to (zXa zFm ha hl hh) ?_
 sleep 2
 obtain⟨l,h2,hf⟩:=k8 hf;obtain⟨u,h3,hf⟩:=k8 hf;cases x with
 | str z =>
  dsimp only at hf;split at hf
  .rename_i hz;cases hf;exact⟨G0,H0,G,O,_,j0,h1,λv H1 G1 s1 r1=>⟨G0,H0,G1,O,_,j0.step s1,h2,λH2 G2 s2=>⟨G0,H0,G2,O,_,(j0.step s1).step s2,h3,λH3 G3 s3=>⟨z,yF.mp r1,Ww<|xR hz,k _ _ G3 ((!18).trans s3)<|yF.mpr rfl⟩⟩⟩⟩
  .simp_all
 | _=>cases hf
end
section
variable{a b:r8}{gb:Lf}
def zMM:CallR X (.type "int") (λxs H Q=>∃x n,xs=[.str x]/\x.length<=640/\PySem.intText? x=some n/\Q (.int n) H):=by intro Z s U H xs us Q I r h;obtain⟨x,n,rfl,hl,hn,q⟩:=h;obtain⟨u,rfl,t,rfl⟩:=nH r;exact KIN.call_text hn hl ⟨.int n,H,I.tok _,⟨_,J⟩,q⟩
def zE9:D->qi
 | .int i=>some<|.int i
 | .bl k=>some<|.int<|if k then 1 else 0
 | .str x=>if x.length<=640 then(PySem.intText? x).map .int else none
 | _=>none
def zPF (f:Ef):Ef:=λO=>(f O).bind zE9
def zSc (hg:Gl X "int")(hm:X.mg "int"=none)(h:!12)(hs:!34:=by rfl):PF X (.Call (.Name "int" p) [a] [] pos)<|zPF fa:=by
 refine PE.to (zYB (zME.or zMM) hg hm jg (yX h yK (!6)) jb J (!6) jg) ?_
 sleep 2
 sleep 4
 unfold zE9 at hf;split at hf
 .cases hf;exact .inl<|.inl ⟨_,by rw[zC.mp r1],k _ _ G1 s1<|zC.mpr rfl⟩
 .cases hf;exact .inl<|.inr ⟨_,by rw[wP.mp r1],k _ _ G1 s1<|zC.mpr rfl⟩
 .split at hf
  .rename_i hz;obtain⟨n,h2,rfl⟩:=k9 hf;exact .inr ⟨_,n,by rw[yF.mp r1],hz,h2,k _ _ G1 s1<|zC.mpr rfl⟩
  .simp_all
 .simp_all
def zI4 (fa fb:Ef):Ef:=λO=>(fa O).bind λx=>(fb O).bind λy=>match x,y with | .int i,.int j=>some (.int<|if j > i then j else i) | _,_=>none
def zKS (hc:!24)(hg:Gl X "max")(hm:X.mg "max"=none)(ha:!12)(hb:PF X b fb)(hs:starEach [a,b] X.env=[(false,eval a X.env),(false,eval b X.env)]:=by rfl)(hs2:starEach [b] X.env=[(false,eval b X.env)]:=by rfl):PF X (.Call (.Name "max" p) [a,b] [] pos)<|zI4 fa fb:=by
 refine PE.to (wD (zNA hc) hg hm jg (yX ha (yX hb yK (!6))<|by rw[hs,hs2]) jb rfl (by rw[hs,hs2]) (by rw[hs2];rfl)) ?_;rintro U H Q ⟨G0,H0,G,O,d,j0,hf,k⟩;obtain⟨x,h1,hf⟩:=k8 hf;obtain⟨y,h2,hf⟩:=k8 hf;refine⟨G0,H0,G,O,_,j0,h1,λu H1 G1 s1 r1=>⟨G0,H0,G1,O,_,j0.step s1,h2,λv H2 G2 s2 r2=>?_⟩⟩;split at hf
 .cases hf;exact⟨_,_,by rw[zC.mp r1,zC.mp r2],k _ _ G2 (!18)<|zC.mpr rfl⟩
 .simp_all
def zU1 (i j:Int):Bool:=zXP i j||(decide (i.natAbs < 2^1000)&&decide (j.natAbs < 2^1000))
abbrev zQN:=eI zU1 λi j=>i*j
def zIv:OpR X (binaryOp .Mult)<|rI IntMulOk λi j=>.int<|i*j:=opI λ_ _ _ _ _ _ _ hc q=>mul_int q hc
def zUC {i:Int}(h:i.natAbs < 2^1000):Builtin.Int.intBits i<=2^20:=by
 unfold Builtin.Int.intBits;split
 .simp
 .rename_i hz;have hne:i.natAbs≠0:=λz=>by
   simp_all
  have:=(Nat.log2_lt hne).mpr h;lia
def zSL (ha:!12)(hb:PF X b fb):PF X (.BinOp a .Mult b pos)<|zQN fa fb:=zPW zIv (λi j h=>by
 unfold zU1 at h;rw[Td] at h;rcases h with h | h
 .unfold zXP at h;simp only[Td,Wy,Wl] at h;exact CMul.ok h
 .simp only[Wy,Wl] at h;exact .of_bits (zUC h.1) (zUC h.2)) ha hb
def zDL {n:Int}(h0:0<=n)(h1:n<=1000)(h2:z.length<=1000):MulOk z n:=by
 refine⟨?_,λq _=>?_,λq _=>?_⟩
 .lia
 .have hn:0 < n:=by lia
  have hz:(z.length:Int)<=1000:=jc;have hm:=Int.mul_le_mul hz h1 h0 je;have:=Int.le_ediv_of_mul_le hn (Int.le_trans hm<|show _<=2^63 - 1 by decide);lia
 .have hm:_*n.toNat<=1000*1000:=Oe h2 jc;exact Wu (by rw[Wf];lia)
def zPV:OpR X (binaryOp .Mult) (λx y H Q=>∃z n,x = .str z/\y = .int n/\0<=n/\n<=1000/\z.length<=1000/\Q (.str<|Txt.mul z n) H):=by
 sleep 5
 obtain⟨z,n,rfl,rfl,h0,h1,h2,q⟩:=h;obtain⟨t,rfl⟩:=rx;obtain⟨t',rfl⟩:=ry;exact SB.mul (zDL h0 h1 h2) λt' k=>⟨.str _,H,I.tok _,⟨_,J⟩,q⟩
def zZp (fa fb:Ef):Ef:=λO=>(fa O).bind λx=>(fb O).bind λy=>match x,y with | .str z,.int n=>if decide (0<=n)&&decide (n<=1000)&&decide (z.length<=1000) then some (.str<|Txt.mul z n) else none | _,_=>none
def zSW (ha:!12)(hb:PF X b fb):PF X (.BinOp a .Mult b pos)<|zZp fa fb:=by
 refine PE.to (zYu zPV ha hb) ?_
 sleep 2
 obtain⟨y,h2,hf⟩:=k8 hf;refine⟨G0,H0,G,O,_,j0,h1,λu H1 G1 s1 r1=>⟨G0,H0,G1,O,_,j0.step s1,h2,λv H2 G2 s2 r2=>?_⟩⟩;split at hf
 .split at hf
  .rename_i hc;cases hf;simp only[Wy,Wl] at hc;exact⟨_,_,yF.mp r1,zC.mp r2,hc.1.1,hc.1.2,hc.2,k _ _ G2 (!18)<|yF.mpr rfl⟩
  .cases hf
 .cases hf
def zIo:OpR X (binaryOp .Add) (λx y H Q=>∃l b xs zs,x = .ref l/\y = .ref b/\SqL X.K H l xs/\SqL X.K H b zs/\xs.length+zs.length<=sizeLine/\∀p,H p=none->Q (.ref p) (upd H p<|.lst<|xs++zs)):=by
 sleep 5
 obtain⟨l,b,xs,zs,rfl,rfl,hH,hB,hz,q⟩:=h;cases rx;cases ry;obtain⟨j6,r,pl,_⟩:=I.list hH;obtain⟨its2,r2,pl2,_⟩:=I.list hB;obtain⟨⟨cls,dd,data,sl⟩,ho,hc,n,hd⟩:=pl.isList;obtain⟨⟨cls2,dd2,data2,sl2⟩,ho2,hc2,n2,hd2⟩:=pl2.isList;subst hc hd hc2 hd2;have hl:=r.length;have hl2:=r2.length;have e:j6.toArray++its2.toArray=(j6++its2).toArray:=je;refine On ⟨_,ho,J⟩ ⟨_,ho2,J⟩ noFill_list_add seq_list_add PySem.F.slot_list_add PySem.F.entry_list_add (PySem.F.args_list_add_2 _ _) (list_addW l b _ _ n n2 dd dd2 sl sl2 (!9)) ⟨ho,ho2,?_⟩;rw[e];exact⟨.ref _,_,I.lnew (r.append r2) (!9),J,q _ I.fresh⟩
def cZ (ha:zTG X a ga)(hb:zTG X b gb):PFr X (.BinOp a .Add b pos)<|fY ga gb:=by
 refine PE.toR (zYu zIo ha hb) ?_
 sleep 1
 obtain⟨xs,h1,hf⟩:=k8 hf;obtain⟨ys,h2,hf⟩:=k8 hf;obtain⟨rfl,h3⟩:=zZw hf;refine⟨G0,H0,G,O,_,j0,h1,λp vs H1 G1 s1 hq rs=>⟨G0,H0,G1,O,_,j0.step s1,h2,λq us H2 G2 s2 hq2 rs2=>⟨p,q,vs,us,J,J,(s1.sub.trans s2.hh).seq hq,s2.sub.seq hq2,?_,λl hl=>?_⟩⟩⟩
 .rw[<-rs.length,<-rs2.length,<-Qp];exact Ww<|xR h3
 .have s3:=Step.own (o:=.lst<|vs++us) s2.sub hl;exact k l _ _ G2 ((!18).trans s3) ((!18).hh.free hl) zN (s2.sub.free hl)<|(rs.mono s2.gg).append rs2
end
structure FunD (K:jk)(x qual:Str)(st:r9)(f:qu)(fd:FuncData):Prop where
 ex:∃(oc:qv) (od:kq) (dV kV doc pm:qv) (an:kq) (j9 ct:qv) (osl:Array km),
  fd=PySem.W.fnOf x qual (qF st) (xL st) (zV st) dV kV doc pm an j9 ct/\K.lookup f=some ⟨oc,od,.func fd,osl⟩/\codeIn K j9 qual=true
 kp:keepIn K (.ref f)=true
theorem bM {K:jk}{G:Hp}{f:Str}{d:D}:∀ {ns:kg} {ds:kd} {vs:kj},ns.length=ds.length->Reps K G ds vs->(ns.zip ds).lookup f=some d->∃u,(ns.zip vs).lookup f=some u/\Rep K G d u
 | [],_,_,_,_,h=>by simp at h
 | n::ns,[],_,hl,_,_=>by simp at hl
 | n::ns,e::ds,_,hl,r,h=>by
  obtain⟨v,vr,rfl,r1,r2⟩:=zQ.mp r;rw[Tt,Wj] at h ⊢;cases hq:f==n with
  | true=>rw[hq] at h;cases h;exact⟨v,J,r1⟩
  | _=>rw[hq] at h;exact bM (by simpa using hl) r2 h
section
variable{a:r8}
def yT (c f:Str)(fa:Ef):Ef:=λO=>(fa O).bind λd=>match d with | .obj c' ns ds=>if c'=c then(ns.zip ds).lookup f else none | _=>none
def zGs {c f:Str}(hC:ClsAt X.K c C)(hcl:Cls X.K C)(hn:NoAttr X.K C f)(ha:!12)(hb:attributeBase a f X.env (eval a X.env)=eval a X.env:=by rfl):PF X (.Attribute a f pos)<|yT c f fa:=by
 refine PE.to (zVV ha hb) ?_
 sleep 1
 obtain⟨x,h1,hf2⟩:=k8 hf;cases x with
 | obj c' ns ds =>
  dsimp only at hf2
  by_cases hc:c'=c
  .rw[Qg hc] at hf2;subst hc
   sleep 4
   obtain⟨C',q,dx,vs,e0,rfl,e1,e2,e3⟩:=sU.mp r1;have ec:=hC.one e0;subst ec;obtain⟨u,e4,e5⟩:=bM e2 e3 hf2;exact⟨q,_,dx,ns.zip vs,u,J,s1.sub _ _ e1,hcl,hn,e4,k _ _ G1 s1 e5⟩
  .simp_all
 | _=>cases hf2
theorem zSa {f:Str}{y:V}:∀ {ns:kg} {vs:kj},ns.length=vs.length->f∉ns->nN f y (ns.zip vs)=(ns++[f]).zip (vs++[y])
 | [],[],_,_=>rfl
 | [],_::_,h,_=>by simp at h
 | _::_,[],h,_=>by simp at h
 | n::ns,v::vs,h,hf=>by show(if n=f then _ else _::nN f y (ns.zip vs))=_;rw[Qc λz=>hf (by rw[z];exact Ql),zSa (by simpa using h) λz=>hf<|Qf _ z];rfl
def zJn (K:jk)(C:qu)(ns:kg)(g:Lf):TS:=λDD U H=>∃(G0 H0 G:Hp) (O:ki) (p dx:qu) (pre:kg) (us:kj) (xs ds:kd),
 Good K G0 H0 G H U O/\NoOw O/\U[0]?=some (some<|.ref p)/\H p=some (.ins C dx<|pre.zip us)/\G p=none/\H0 p=none/\pre.length=us.length/\(pre++ns).Nodup/\(pre++ns).length<=900/\Reps K G xs us/\g O=some ds /\
 ∀H' G' vs,Step G0 H0 G' H'->H' p=some (.ins C dx<|(pre++ns).zip vs)->G' p=none->Reps K G' (xs++ds) vs->DD.nx U H'
def zXJ:PSs X []<|zJn X.K C [] zS:=by refineλZ s U H D I h=>zX5 Z s U H D I ?_;obtain⟨G0,H0,G,O,p,dx,pre,us,xs,ds,j0,now,hs,hp,gp,h0,hl,nd,hz,rs,hg,k⟩:=h;cases hg;exact k H G us j0.st (by rw[Wo] at *;exact hp) gp (!9)
def vE {f:Str}{g:Lf}{rest:qg}(hcl:Cls X.K C)(hn:NoAttr X.K C f)(hself:X.N[0]?=some x)(hvis:!31)(he:PF X e fa)(hr:PSs X rest<|zJn X.K C ns g)(hd:!20:=by decide)(hcd:!30:=by decide)(hs:swapsWith e (some<|.Attribute (!19) f pos') pos.line X.env=pure false:=by rfl):PSs X (.Assign [.Attribute (!19) f pos'] e pos::rest)<|zJn X.K C (f::ns)<|zY fa g:=by
 refineλZ s U H D I h=>tP (zYK (wI hself hvis hd hcd) he hs) hr Z s U H D I ?_;obtain⟨G0,H0,G,O,p,dx,pre,us,xs,ds,j0,now,hself,hp,gp,h0,hl,nd,hz,rs,hg,k⟩:=h;obtain⟨d,dr,h1,h2,rfl⟩:=zVa hg;have e1:pre++f::ns=(pre++[f])++ns:=je;refine⟨G0,H0,G,O,d,j0,h1,λv H1 G1 s1 r1=>⟨.ref p,hself,p,C,dx,pre.zip us,J,s1.hh _ _ hp,hcl,hn,?_,?_⟩⟩
 .grind
 .have hne:H p≠none:=by rw[hp];exactλz=>nomatch z
  have gp1:=(s1.new p _ hp J).trans gp;refine⟨G0,H0,G1,O,p,dx,pre++[f],us++[v],xs++[d],dr,(j0.step s1).wrX now gp1 h0,now,hself,?_,gp1,h0,by rw[Qp,Qp,hl];rfl,by rw[<-e1];exact nd,by rw[<-e1];exact hz,(rs.mono s1.gg).snoc r1,h2,λH' G' vs st q1 q2 q3=>?_⟩
  .rw[zN,zSa hl λz=>(Uz.mp nd).2.2 f z f Ql J]
  .refine k H' G' vs st (by rw[e1];exact q1) q2 ?_;rw[show xs++d::dr=(xs++[d])++dr by simp];exact q3
end
def spI (K:jk)(C:qu)(ns:kg)(n:Nat)(f:kd->ka):Sp:=λvs H Q _=>∃(p dx:qu) (rest:kj) (G H0:Hp) (ds xs:kd),vs = .ref p::rest/\H=upd (upd H0 dx<|.own p) p (.ins C dx [])/\H0 p=none/\H0 dx=none/\dx≠p/\Same G H0/\Reps K G ds rest/\ds.length=n/\f ds=some xs /\
 ∀H' G' us,Step G H0 G' H'->H' p=some (.ins C dx<|ns.zip us)->G' p=none->Reps K G' xs us->Q .non H'
theorem jN {K:jk}{G H0 H:Hp}(m:Nat):∀ {ds:kd} {vs:kj},Reps K G ds vs->Paired (RB K H0 G H) (vs.map some++List.replicate m none) (ds.map .fz++List.replicate m .no)
 | [],_,h=>by
  rw[zD] at h;subst h;induction m with
  | zero=>exact .nil
  | succ n ih=>rw[Yq];exact .cons .no ih
 | d::r,_,h=>by obtain⟨v,vr,rfl,h1,h2⟩:=zQ.mp h;exact .cons (.fz h1)<|jN m h2
theorem zXG (m:Nat)(ds:kd):NoOw<|.no::(ds.map B.fz++List.replicate m B.no):=λj b h=>by
 cases j with
 | zero=>cases h;rfl
 | succ j=>rw[List.getElem?_cons_succ] at h;exact zTF m ds j b h
def kL (N:Nat)(ds:kd):ki:=.no::(ds.map .fz++List.replicate (N - (ds.length+1)) .no)
section
variable{k:Nat}
def zT7 {g:Lf}(F:Fun K x qual st f fd)(S:FnScope N (sf::ps)<|zV st)(hnd:ns.Nodup)(j5:ns.length<=900)(hb:∀(j9:qv) (A:qy) (outer:qb) (s:qw) (H:Hp) (E:XK),Room k (!37)->PSs (qP CX0 P w K mg base N qual (zV st) f j9 A outer s H E).nox (xL st) (zJn K C ns g)):FnOk P w K mg base CX0 (k+1) f fd (sf::ps)<|spI K C ns ps.length λds=>g<|kL N.length ds:=by
 refine F.ok S (λvs H Q E h=>?_) λj9 A _ s H vs Q E hr h=>⟨_,hb j9 A _ s H E hr,?_⟩
 .obtain⟨p,dx,rest,G,H0,ds,xs,rfl,_,_,_,_,_,rs,hl,_⟩:=h;rw[Qk,Qk,<-rs.length,hl]
 .obtain⟨p,dx,rest,G,H0,ds,xs,rfl,rfl,h1,h2,h3,sub,rs,hl,hf,k⟩:=h;have hp1:(upd H0 dx<|.own p) p=none:=by rw[zG h3.symm];exact h1
  have st1:Step G H0 G<|upd H0 dx<|.own p:=Step.own sub h2;have st2:Step G H0 G<|upd (upd H0 dx _) p<|.ins C dx []:=st1.trans<|Step.own st1.sub hp1;have j0:Good K G H0 G (upd (upd H0 dx<|.own p) p<|.ins C dx []) (oJ N<|.ref p::rest)<|kL N.length ds:=by refine⟨st2,?_,(zXG _ ds).apart⟩;unfold oJ kL;rw[Qk,<-rs.length];exact .cons .no<|jN _ rs
  refine⟨G,H0,G,_,p,dx,[],[],[],xs,j0,zXG _ ds,J,zN,sub.free h1,h1,J,hnd,j5,zD.mpr J,hf,λH' G' us s' q1 q2 q3=>k H' G' us s' q1 q2 q3⟩
def nC (c:Str)(ns:kg)(n:Nat)(f:kd->ka)(g:Lf):Ef:=λO=>(g O).bind λds=>if ds.length=n then(f ds).bind λxs=>if ns.length=xs.length then some (.obj c ns xs) else none else none
def qG {k:Nat}{fI:qu}{c:Str}{f:kd->ka}(hC:ClsAt X.K c C)(M:Mk X.K C fI)(F:FnOk X.prog X.w X.K X.mg X.base CX0 k fI fd ps<|spI X.K C ns n f)(hr:Room (k+1) X.A)(hm:X.mg c=some (!1))(hb:Binds X.K fd ps [])(hg:Gl X c)(ha:PFA X (e::es) ga) (hdb:(c==("__debug__":Str))=false:=by decide) (he:!23:=by rfl) (hpl:(backTo pos (!25)).any (·.1)=false:=by rfl):PF X (.Call (.Name c p) (e::es) [] pos)<|nC c ns n f ga:=by
 refine PE.to (zTp M F hr hg hm hb .nil gH ha hdb he hpl) ?_;rintro U H Q ⟨G0,H0,G,O,d,j0,hf,k⟩;obtain⟨ds,h1,hf⟩:=k8 hf;split at hf
 .rename_i hl;obtain⟨xs,h2,hf⟩:=k8 hf;split at hf
  .rename_i hn;cases hf;exact⟨G0,H0,G,O,_,j0,h1,λvs H1 G1 s1 r1 x dx hx hdx hne=>⟨x,dx,vs++[],G1,H1,ds,xs,J,J,hx,hdx,hne,s1.sub,by rw[Wo];exact r1,hl,h2,λH' G' us s' q1 q2 q3=>⟨J,(k _ _ _ (s1.trans<|s'.frz hx q1 q2)<|sU.mpr ⟨C,x,dx,us,hC,rfl,zN,hn,q3.mono<|Same.new q2⟩)⟩⟩⟩
  .simp_all
 .simp_all
def zDE:D->D->ku
 | d,.non=>some<|gQ d
 | .bl x,.bl y=>some<|x==y
 | .non,.bl _=>some false
 | .int _,.bl _=>some false
 | .str _,.bl _=>some false
 | .tup _,.bl _=>some false
 | .lst _,.bl _=>some false
 | .obj _ _ _,.bl _=>some false
 | .exc _ _ _,.bl _=>some false
 | _,_=>none
def zGk:OpR X (compareOp .Is) (λx y H Q=>∃k,y = .bl k/\Q (.bl (decide (x = .bl k))) H):=by
 sleep 5
 obtain⟨k,rfl,q⟩:=h;cases ry;cases x with
 | bl z=>cases rx;refine is_bool<|yH I q ?_;rw[zTA]
 | non=>cases rx;refine Tv jg jc<|yH I q rfl
 | int i=>obtain⟨t,rfl⟩:=rx;refine Tv jg je<|yH I q rfl
 | str i=>obtain⟨t,rfl⟩:=rx;refine Tv jg je<|yH I q rfl
 | byt i=>obtain⟨t,rfl⟩:=rx;refine Tv jg je<|yH I q rfl
 | flt i=>obtain⟨t,rfl⟩:=rx;refine Tv jg je<|yH I q rfl
 | ref i=>cases rx;refine Tv jg jc<|yH I q rfl
 | ty i=>cases rx;refine Tv jg jc<|yH I q rfl
theorem zEO:CmR X .Is zDE:=⟨_,zGq.or zGk,λd d' k G H x y Q h s rx ry q=>by
 have fin:∀(z) (v),d' = .bl z->x=v->k=decide (v = .bl z)->(λx y H Q=>y=V.non/\Q (.bl (decide (x = .non))) H) x y H Q\/(∃k,y = .bl k/\Q (.bl (decide (x = .bl k))) H):=λz v e1 e2 e3=>by subst e1;subst e2;exact .inr ⟨z,wP.mp ry,by rw[<-e3];exact q H G<|.refl s⟩
 cases d' with
 | non =>
  have hk:gQ d=k:=by cases d<;>(cases h;rfl)
  refine .inl ⟨sX.mp ry,?_⟩;rw[zUT rx,hk];exact q H G<|.refl s
 | bl z =>
  cases d with
  | bl w=>cases h;exact fin z _ J (wP.mp rx)<|by rw[zTA]
  | non=>cases h;exact fin z _ J (sX.mp rx) J
  | int i=>cases h;exact fin z _ J (zC.mp rx) J
  | str i=>cases h;exact fin z _ J (yF.mp rx) J
  | tup ds=>cases h;obtain⟨p,_,e,_⟩:=yE.mp rx;exact fin z _ J e J
  | lst ds=>cases h;obtain⟨p,_,e,_⟩:=xF.mp rx;exact fin z _ J e J
  | obj _ _ ds=>cases h;obtain⟨_,p,_,_,_,e,_⟩:=sU.mp rx;exact fin z _ J e J
  | exc _ _ ds=>cases h;obtain⟨_,p,_,_,_,e,_⟩:=aJ.mp rx;exact fin z _ J e J
  | dct _ ds=>cases h
 | _=>cases d<;>cases h⟩
theorem zRF {K:jk}{G:Hp}{ds:kd}{vs:kj}(h:Reps K G ds vs):∀k:Nat,Reps K G (List.replicate k ds).flatten (List.replicate k vs).flatten
 | 0=>zD.mpr J
 | k+1=>by exact h.append<|zRF h k
variable{j6:jo}{dd:kq}{y:qv}{q:Nat->Bool}{top:Int}
theorem zOA (hj:j < j6.size)(ht:(j:Int) < top)(hq:q j=true):∀(k i:Nat),j - i=k->i<=j->(∀m,i<=m->m < j->q m=false)->Meets (Builtin.«list.index.loop» ⟨[.ref l,y,rawInt i,rawInt top],[]⟩) (λA R s=>s.heap.get? l=some { cls:=.type "list",dict:=dd,data:=.seq j6 n,slots:=sl }/\(∀m (h:m < j6.size),SeqAt.EqAt A.in1 s j6[m] y (q m))/\R (.ok<|.ret<|.int j s.toks) { s with toks:=s.toks+1 })
 | 0,i,hk,hi,_=>by
  have e:i=j:=jc;subst e;intro P w A R s hyp;obtain⟨at_,eqs,fin⟩:=hyp
  wp_walk using _ at_
  rw[show(if _ < top then j6[(_:Int).toNat]? else none)=some j6[i] by simp[ht]];refine Qw<|eqs i hj P w _ _ ?_
  wp_walk
  exact fin
 | k+1,i,hk,hi,hno=>by
  intro P w A R s hyp;obtain⟨at_,eqs,fin⟩:=hyp;have lt:i < j6.size:=jc;have lt2:(i) < top:=jc
  wp_walk using _ at_
  rw[show(if _ < top then j6[(_:Int).toNat]? else none)=some j6[i] by simp[lt2]];refine Qw<|eqs i lt P w _ _ ?_;rw[hno i (Qh _) jc]
  wp_walk
  exact⟨Tj Pb _,Rp Pn<|by exact zOA hj ht hq k (i+1) jc jc (λm h1 h2=>hno m jc h2) P w A R _ ⟨at_,eqs,fin⟩⟩
def zJT (hj:j < j6.size)(hs:(j:Int) < 2^63 - 1)(hq:q j=true)(hno:∀m,m < j->q m=false):Meets (Builtin.«list.index» ⟨[.ref l,y],[]⟩) λA R s=>s.heap.get? l=some { cls:=.type "list",dict:=dd,data:=.seq j6 n,slots:=sl }/\(∀m (h:m < j6.size),SeqAt.EqAt A.in1 s j6[m] y (q m))/\R (.ok<|.ret<|.int j s.toks) { s with toks:=s.toks+1 }:=by
 intro P w A R s hyp;obtain⟨at_,eqs,fin⟩:=hyp
 wp_walk using _ at_
 exact⟨Tj Pb _,Rp Pn<|by exact zOA hj hs hq _ 0 rfl (Wm _) (λm _ h2=>hno m h2) P w A R _ ⟨at_,eqs,fin⟩⟩
end
def ixD (d:D):kd->Option Nat
 | []=>none
 | x::r=>(eqD 8 x d).bind λb=>if b=true then(if (r.all λz=>(eqD 8 z d).isSome) then some 0 else none) else(ixD d r).map (· + 1)
theorem zRV {d:D}:∀ {ds:kd} {j:Nat},ixD d ds=some j->j < ds.length/\(∀(m:Nat) (x:D),ds[m]?=some x->∃b,eqD 8 x d=some b/\(m < j->b=false)/\(m=j->b=true))
 | [],_,h=>by cases h
 | x::r,j,h=>by
  obtain⟨b,h1,h⟩:=k8 h;split at h
  .rename_i hb;split at h
   .rename_i ha;cases h;refine⟨je,λm z hz=>?_⟩;cases m with
    | zero=>cases hz;exact⟨b,h1,λq=>absurd q<|Wg _,λ_=>hb⟩
    | succ m =>have:=Yv.mp ha z<|Rw hz;obtain⟨b',hb'⟩:=Es.mp this;exact⟨b',hb',λq=>jc,λq=>jc⟩
   .cases h
  .rename_i hb;obtain⟨i,h2,rfl⟩:=k9 h;obtain⟨h3,h4⟩:=zRV h2;refine⟨by rw[Qk];lia,λm z hz=>?_⟩;cases m with
   | zero=>cases hz;exact⟨b,h1,λ_=>by simpa using hb,λq=>jc⟩
   | succ m =>simp_all
section
variable{b:r8}
def zLT (X:Cx):V->kj->Hp->VK->Prop:=λx vs H Q=>∃l y G ds ws d j,x = .ref l/\vs=[y]/\Same G H/\SqL X.K H l ws/\Reps X.K G ds ws/\Rep X.K G d y/\ixD d ds=some j/\ds.length<=100000/\Q (.int (j:Nat)) H
def zKt (hun:X.A.units+64 < cLine):MtR X "list.index"<|zLT X:=by
 intro Z s U H x xs v us Q I rx rv h;obtain⟨l,y,G,ds,ws,d,j,rfl,rfl,sub,hq,rs,rd,hj,hl,q⟩:=h;cases rx;obtain⟨u,rfl,ru⟩:=rv.one;obtain⟨j6,r,pl,_⟩:=I.list hq;obtain⟨⟨cls,dd⟩,ho,hc,n,hd⟩:=pl.isList;subst hc hd;obtain⟨h1,h2⟩:=zRV hj;have l1:=rs.length;have l2:=r.length;have bs:∀m,∃b:Bool,(m < j->b=_)/\_/\∀_,SeqAt.EqAt X.A.in1 s j6.toArray[m] u b:=λm=>by
  by_cases hm:m < ds.length
  .obtain⟨b,q1,q2,q3⟩:=h2 m _<|Qj hm;refine⟨b,q2,q3,λh=>?_⟩;obtain⟨v1,f1,g1⟩:=rs.get<|Qj hm;obtain⟨u1,f3,g3⟩:=r.get f1;have x1:j6.toArray[m]=u1:=by
    have:=(v5 f3).2;simpa using this
   rw[x1];exact(zHx I sub 8 _ _ _ v1 y u1 u _ (by show _+1+8 < cLine;lia) q1 g1 rd g3 ru).2.2
  .exact⟨decide _,λz=>Wu jc,λz=>Qb z,λh=>absurd h (by rw[Qd,<-l2,<-l1];exact hm)⟩
 have hjs:j < j6.toArray.size:=by rw[Qd,<-l2,<-l1];exact h1
 exact Tw F.slot_list_index ⟨_,ho,J⟩ F.entry_list_index (F.args_list_index_2 _ _) (zJT hjs jc ((bs j).choose_spec.2.1 J) λm hm=>(bs m).choose_spec.1 hm) ⟨ho,λm h=>(bs m).choose_spec.2.2 h,⟨.int _,H,I.tok _,⟨_,rfl⟩,q⟩⟩
def zKi (g:Lf)(f:Ef):Ef:=λO=>(g O).bind λds=>(f O).bind λd=>if ds.length<=100000 then(ixD d ds).map λj=>.int (j:Nat) else none
def zJu (ht:PE X c<|tBM X.K "list" (zLT X) (zJN X.K ga)<|fA (tF X.K fb) zV1):PF X c<|zKi ga fb:=by
 refine PE.to ht ?_
 sleep 1
 obtain⟨ds,h1,hf⟩:=k8 hf;obtain⟨y,h2,hf⟩:=k8 hf;split at hf
 .rename_i hl;obtain⟨j,h3,rfl⟩:=k9 hf;exact⟨G0,H0,G,O,_,j0,h1,λq vs H1 G1 s1 hq rs=>⟨.inl ⟨J,vs,s1.sub.seq hq⟩,G0,H0,G1,O,_,j0.step s1,h2,λv H2 G2 s2 r2=>⟨q,v,G2,ds,vs,y,j,J,J,s2.sub,(s1.sub.trans s2.hh).seq hq,rs.mono s2.gg,r2,h3,hl,k _ _ G2 (!18)<|zC.mpr rfl⟩⟩⟩
 .simp_all
end
end L2
variable{c:Str}
namespace L2
def ObjOk.got (x:ObjOk P w H h a o):∃u,h.get? a=some u:=by
 cases o with
 | lst xs=>obtain⟨_,_,_,_,e⟩:=x;exact⟨_,e⟩
 | tup xs=>obtain⟨_,_,_,_,e,_⟩:=x;exact⟨_,e⟩
 | dK j8=>obtain⟨_,_,_,_,o,_,_,e,_⟩:=x;exact⟨_,e⟩
 | dT j8=>obtain⟨_,_,_,_,o,_,_,e,_⟩:=x;exact⟨_,e⟩
 | set S n=>obtain⟨o,_,_,_,e,_⟩:=x;exact⟨_,e⟩
 | ins C dx fs=>obtain⟨_,_,_,e,_⟩:=x;exact⟨_,e⟩
 | own y=>exact x
 | xd fs=>obtain⟨_,⟨_,_,_,e,_⟩,_⟩:=x;exact⟨_,e⟩
 | rng lo hi=>obtain⟨_,_,_,e⟩:=x;exact⟨_,e⟩
 | frz ob u=>obtain⟨e,_⟩:=x;exact⟨_,e⟩
 | tbl ps=>exact⟨_,x⟩
 | met f y=>exact⟨_,x⟩
 | ext φ=>obtain⟨_,q,_⟩:=x;exact q
abbrev zDU:qh:=[.type "ValueError",.type "Exception",.type "BaseException",.type "object"]
def zMv (K:jk)(C:qu):Prop:=∃bm N nm q bs hdct sn sub ab col dd k0 k1 k2 k3 k5,K.lookup C=some (excClassObj nm q C N bs bm hdct sn sub ab col dd k0 k1 k2 k3 k5 "ValueError.__new__") /\
 nsOkIn K N=true/\PySem.W.nsIn K N "__init__"=some none/\tailIn K zDU bm=true
section
variable{g:Array GenState}{d:Drawn}{t:Nat}{os:OsState}{o:Obj}{K:Frag}
def zFy (X:K.In h)(hx:h.get? a=some o)(hc:o.cls = .ref C)(g3:subIn K (!1) (.type "object")=some true)(hq:R (.ok<|.ret (!1)) ⟨h,g,d,t,os⟩):codeAny (!8) A (.call (.builtin "getset_descriptor.__get__") ⟨[.builtin "object.__class__",.ref a,.ref C],[]⟩) R ⟨h,g,d,t,os⟩:=by
 refine Ow F.slot_gs_get.plain F.entry_gs_get<|F.slot_gs_get.check _ _ _ _ _ _ _ _ F.typeOf_object_class (F.args_gs_get _ _ _) ?_
 repeat (any_goals (first | assumption | (with_reducible refine Tk hx ?_;rw[hc]) | wp_step))
 refine(looks_subIn (M:=!8) X g3).at ?_
 repeat (any_goals (first | assumption | (with_reducible refine _ hx ?_;rw[hc]) | wp_step))
 refine⟨Code.quiet_builtin _ ja,Rp F.entry_object_class ?_⟩
 repeat (any_goals (first | assumption | (with_reducible refine Tk hx ?_;rw[hc]) | wp_step))
def zKr {Q:Fin->qw->Prop}(X:K.In h)(hx:h.get? a=some o)(hc:o.cls = .ref C)(g2:findIn K (!1) "__class__"=some (some<|.builtin "object.__class__"))(g3:subIn K (!1) (.type "object")=some true)(hq:Q (.done<|.ret (!1)) ⟨h,g,d,t,os⟩):wpAny (!8) A (Builtin.«object.__getattribute__» ⟨[.ref a,.str "__class__" tk],[]⟩) Q E ⟨h,g,d,t,os⟩:=by
 have hT5:=F.typeOf_object_class;have f6:=F.slot_gs_get.lookup;have f7:=F.slot_gs_set.lookup
 repeat (any_goals (first | assumption | (with_reducible refine Tk hx ?_;rw[hc]) | with_reducible refine(looks_findIn (M:=!8) X g2).at ?_ | wp_step))
 refine zFy X hx hc g3 ?_
 repeat (any_goals (first | assumption | wp_step))
def zKK {id:String}{rest:jn}{Q:Unit->qw->Prop}{n:String}(X:K.In h)(hx:h.get? a=some o)(hc:o.cls = .ref C)(hk:builtinKind id=some .slot)(hsp:splitId id=some ("BaseException",n))(g4:subIn K (!1) (.type "BaseException")=some true)(ha:argsOk id ⟨.ref a::rest,[]⟩) (hq:Q () ⟨h,g,d,t,os⟩):wpAny M A (checkBuiltinCall id ⟨.ref a::rest,[]⟩) Q E ⟨h,g,d,t,os⟩:=by
 simp only[checkBuiltinCall,hk,hsp]
 repeat (first | (with_reducible refine Tk hx ?_;rw[hc]) | with_reducible refine(looks_subIn (M:=M) X g4).at ?_ | wp_step)
 cases hsig:Manifest.signature? id with
 | none=>exact Qo hq
 | some sig =>simp only[argsOk,hsig] at ha;show wpAny M A (Bind.checkArgs id sig ⟨.ref a::rest,[]⟩) Q E _;rw[show Bind.checkArgs id sig ⟨.ref a::rest,[]⟩=pure () from ha];exact Qo hq
def zMf:builtinKind "BaseException.__getattribute__"=some .slot:=jg
def zMU:splitId "BaseException.__getattribute__"=some ("BaseException","__getattribute__"):=jg
def zH9 (X:K.In h)(hx:h.get? a=some o)(hc:o.cls = .ref C)(g2:findIn K (!1) "__class__"=some (some<|.builtin "object.__class__"))(g3:subIn K (!1) (.type "object")=some true)(g4:subIn K (!1) (.type "BaseException")=some true)(hq:R (.ok<|.ret (!1)) ⟨h,g,d,t,os⟩):codeAny (!8) A (.call (.builtin "BaseException.__getattribute__") ⟨[.ref a,.str "__class__" tk],[]⟩) R ⟨h,g,d,t,os⟩:=by exact Ow F.excAttr_ValueError.ga.plain F.entry_bexc_ga<|zKK (id:="BaseException.__getattribute__") X hx hc zMf zMU g4 (F.args_bexc_ga (.ref a)<|.str "__class__" tk)<|zKr X hx hc g2 g3 hq
def zD2 {Q:jl}(X:K.In h)(hx:h.get? a=some o)(hc:o.cls = .ref C)(g1:findIn K (!1) "__getattribute__"=some (some<|.builtin "BaseException.__getattribute__"))(g5:findIn K (!1) "__getattr__"=some none)(g2:findIn K (!1) "__class__"=some (some<|.builtin "object.__class__"))(g3:subIn K (!1) (.type "object")=some true)(g4:subIn K (!1) (.type "BaseException")=some true)(hq:Q (!1) ⟨h,g,d,t,os⟩):wpAny (!8) A (getAttrBy (.ref a) (.str "__class__" tk) false) Q E ⟨h,g,d,t,os⟩:=by
 have f3:=F.excAttr_ValueError.ga.bind<|.ref a
 repeat (any_goals (first | assumption | (with_reducible refine Tk hx ?_;rw[hc]) | with_reducible refine(looks_findIn (M:=!8) X g1).at ?_ | with_reducible refine(looks_findIn (M:=!8) X g5).at ?_ | wp_step))
 refine zH9 X hx hc g2 g3 g4 ?_
 repeat (any_goals (first | assumption | wp_step))
def zJa (X:K.In h)(hx:h.get? a=some o)(hc:o.cls = .ref C)(g1:findIn K (!1) "__getattribute__"=some (some<|.builtin "BaseException.__getattribute__"))(g5:findIn K (!1) "__getattr__"=some none)(g2:findIn K (!1) "__class__"=some (some<|.builtin "object.__class__"))(g3:subIn K (!1) (.type "object")=some true)(g4:subIn K (!1) (.type "BaseException")=some true)(hq:Q (some (!1)) ⟨h,g,d,t+1,os⟩):wpAny (!8) A (getAttr? (.ref a) "__class__") Q E ⟨h,g,d,t,os⟩:=by repeat (any_goals (first | assumption | with_reducible apply zD2 X hx hc g1 g5 g2 g3 g4 | wp_step))
theorem zSs (hcl:(clsIn K C).isSome=true)(g1:findIn K (!1) "__getattribute__"=some (some<|.builtin "BaseException.__getattribute__"))(g5:findIn K (!1) "__getattr__"=some none)(g2:findIn K (!1) "__class__"=some (some<|.builtin "object.__class__"))(g3:subIn K (!1) (.type "object")=some true)(g4:subIn K (!1) (.type "BaseException")=some true):KitX K (.ref a) (!1) (λh=>∃o,h.get? a=some o/\o.cls = .ref C) where
 ty:=λM h X ⟨o,e1,e2⟩=>by
  intro A' Q' E' s' k q
  repeat (first | (with_reducible refine Tk (k _ _ e1) ?_;rw[e2]) | wp_step)
  exact q
 it:=λM h X _=>by
  unfold clsIn at hcl;split at hcl
  .rename_i c' d' cd' sl' ho;exactλA' Q' E' s' k q=>Qw<|Pc (k _ _<|X _ _ ho)<|Qo q
  .simp_all
 ne:=λh tp dd j6 n sl X htp=>by
  refine Bool.eq_false_iff.mpr λq=>?_;have e:=Value.ref.inj<|Ym.mp q;subst e;unfold clsIn at hcl;split at hcl
  .rename_i c' d' cd' sl' ho;cases ((X _ _ ho).symm.trans htp)
  .simp_all
 ca:=λ{prog w A E Q s} X p k=>by obtain⟨o,e1,e2⟩:=p;exact zJa X e1 e2 g1 g5 g2 g3 g4 k
end
end L2
variable{Q:jl}
namespace L2
end L2
namespace L2
open Builtin Builtin.ObjectAttr
def zSt:qh->Bool
 | []=>false
 | v::r=>(v::r)==[.type "ValueError",.type "Exception",.type "BaseException",.type "object"]||match v with | .ref _=>zSt r | _=>false
end L2
namespace L2
structure XKit (K:jk)(C:qu):Prop where
 cl:(PySem.W.clsIn K C).isSome=true
 ga:PySem.W.findIn K (!1) "__getattribute__"=some (some<|.builtin "BaseException.__getattribute__")
 gt:PySem.W.findIn K (!1) "__getattr__"=some none
 gc:PySem.W.findIn K (!1) "__class__"=some (some<|.builtin "object.__class__")
 so:PySem.W.subIn K (!1) (.type "object")=some true
 sb:PySem.W.subIn K (!1) (.type "BaseException")=some true
def zEG (K:jk)(C:qu):Prop:=∃nm q N bs bm sn sub ab col dd k0 k1 k2 k3 k5,K.lookup C=some (excClassObj nm q C N bs bm true sn sub ab col dd k0 k1 k2 k3 k5 "ValueError.__new__")/\zSt bm=true
def zQ9 (K:jk)(C:qu):Bool:=isClsIn K C&&(PySem.W.findIn K (!1) "__getattribute__"==some (some<|.builtin "BaseException.__getattribute__"))&&(PySem.W.findIn K (!1) "__getattr__"==some none) &&
 (PySem.W.findIn K (!1) "__class__"==some (some<|.builtin "object.__class__"))&&(PySem.W.subIn K (!1) (.type "object")==some true)&&(PySem.W.subIn K (!1) (.type "BaseException")==some true)
def zHn (h:zQ9 K C=true):XKit K C:=by unfold zQ9 at h;simp only[Wy,Ym] at h;obtain⟨⟨⟨⟨⟨h1,h2⟩,h3⟩,h4⟩,h5⟩,h6⟩:=h;exact⟨h1,h2,h3,h4,h5,h6⟩
def zDy (K:jk)(C:qu):Bool:=(K.lookup C).any λo=>match o.data with
 | .cls c=>o.cls == .type "type"&&c.mro == .ref C::c.mro.tail&&o.slots.toList==[o.slots.getD 0 none,o.slots.getD 1 none,o.slots.getD 2 none,o.slots.getD 3 none,some<|.builtin "ValueError.__new__",o.slots.getD 5 none]&&c.hasDel==false&&tailIn K zDU c.mro.tail&&nsOkIn K c.ns&&PySem.W.nsIn K c.ns "__init__"==some none
 | _=>false
def zIK (q:zDy K C=true):zMv K C:=by
 obtain⟨⟨cl,dd,da,sl⟩,ho,q⟩:=(Option.any_eq_true _ _).mp q;cases da with
 | cls cd =>obtain⟨nm,bs,mro,ns,qn,hd,sn,sub,ab,col,del⟩:=cd;obtain⟨l⟩:=sl;simp only[Wy,Ym] at q;obtain⟨⟨⟨⟨⟨⟨rfl,e1⟩,e2⟩,rfl⟩,ht⟩,hok⟩,hni⟩:=q;generalize mro.tail=bm at e1 ht;subst e1;rw[e2] at ho;exact⟨bm,ns,nm,qn,bs,hd,sn,sub,ab,col,dd,_,_,_,_,_,ho,hok,hni,ht⟩
 | _=>cases q
def IsxOk (K:jk)(v:qv):qp->Prop
 | []=>True
 | (c,b)::r=>(∃C,ClsAt K c C/\XKit K C/\kitOne K (!1) v=some b)/\IsxOk K v r
theorem IsxOk.at {K:jk}{v:qv}:∀ {tb:qp} {c:Str} {b:Bool},IsxOk K v tb->tb.lookup c=some b->∃C,ClsAt K c C/\XKit K C/\kitOne K (!1) v=some b
 | [],_,_,_,h=>by cases h
 | (n,x)::r,c,b,⟨h1,h2⟩,h=>by
  rw[Wj] at h;cases hq:c==n with
  | true =>simp_all
  | _=>rw[hq] at h;exact h2.at h
def fB (K:jk)(v:qv)(l:List<|qu×Bool):Bool:=l.all λx=>kitOne K (.ref x.1) v==some x.2
def zXH:IsxOk K v []:=True.intro
def uP {b:Bool}(ca:ClsAt K c C)(k:XKit K C)(h:fB K v ((C,b)::r)=true)(rest:fB K v r=true->IsxOk K v tb):IsxOk K v<|(c,b)::tb:=by unfold fB at h;rw[List.all_cons,Wy] at h;exact⟨⟨C,ca,k,Ym.mp h.1⟩,rest h.2⟩
section
variable{a b c:r8}
def zS7 (hv:∀u,RelV vv u->u=v)(h:IsxOk X.K v tb):CallR X (.builtin "isinstance") (λxs H Q=>∃x G c ns ds b,xs=[x,vv]/\Same G H/\Rep X.K G (.exc c ns ds) x/\tb.lookup c=some b/\Q (.bl b) H):=by
 intro Z s U H xs us Q I r hh;obtain⟨x,G,c,ns,ds,b,rfl,sub,rx,ht,q⟩:=hh;obtain⟨u,u',rfl,ru,ru'⟩:=zO5 r;have e:=hv _ ru';subst e;obtain⟨C,hC,hk,ho⟩:=h.at ht;obtain⟨C',a,od,vs,h0,rfl,h1,_⟩:=aJ.mp rx;have ec:=hC.one h0;subst ec;cases ru;obtain⟨⟨fs,h2⟩,_⟩:=(I.hok a _<|sub _ _ h1)
 exact Tg (zSs hk.cl hk.ga hk.gt hk.gc hk.so hk.sb) I.kIn ⟨_,h2,J⟩ ho (λz=>nomatch z) λtk=>⟨.bl b,H,I.tok tk,J,q⟩
def zVj (tb:qp)(fa:Ef):Ef:=λO=>(fa O).bind λd=>match d with | .exc c _ _=>(tb.lookup c).map .bl | _=>none
def zKO {v:qv}(h:PE X e<|tCB (λxs H Q=>∃x G c ns ds b,xs=[x,vv]/\Same G H/\Rep X.K G (.exc c ns ds) x/\tb.lookup c=some b/\Q (.bl b) H)<|fA (tF X.K fa)<|fA (tC vv) zV1):PF X e<|zVj tb fa:=by
 refine PE.to h ?_
 sleep 2
 cases x with
 | exc c ns ds =>obtain⟨b,h2,rfl⟩:=k9 hf;exact⟨G0,H0,G,O,_,j0,h1,λv H1 G1 s1 r1=>⟨v,G1,c,ns,ds,b,J,s1.sub,r1,h2,k _ _ G1 s1<|wP.mpr rfl⟩⟩
 | _=>cases hf
def zQ3 {DN:Str}{DA:qu}(hok:IsxOk X.K (.ref DA) tb)(hmD:X.mg DN=some (.ref DA))(hgD:Gl X DN)(hg:Gl X "isinstance")(hm:X.mg "isinstance"=none)(h:!12)(hd:(DN==("__debug__":Str))=false:=by decide) (hs:starEach [a,.Name DN p1] X.env=[(false,eval a X.env),(false,eval (.Name DN p1) X.env)]:=by rfl):PF X (.Call (.Name "isinstance" p) [a,.Name DN p1] [] pos) (zVj tb fa) :=
 zKO (v:=.ref DA) (wD (zS7 (vv:=.ref DA) (λ_ z=>z) hok) hg hm jg (yX h (yX (cV hgD hmD J hd) yK) (!6)) jb rfl (!6) jg)
def zHs {T:Str}{TT:String}(hT:bootBuiltins T=some (.type TT))(hok:IsxOk X.K (.type TT) tb)(hmT:X.mg T=none)(hgT:Gl X T)(hg:Gl X "isinstance")(hm:X.mg "isinstance"=none)(h:!12)(hn:T≠"__name__":=by decide) (hd:(T==("__debug__":Str))=false:=by decide) (hs:starEach [a,.Name T p1] X.env=[(false,eval a X.env),(false,eval (.Name T p1) X.env)]:=by rfl):PF X (.Call (.Name "isinstance" p) [a,.Name T p1] [] pos) (zVj tb fa) :=
 zKO (v:=.type TT) (wD (zS7 (vv:=.ty TT) (λ_ z=>z) hok) hg hm jg (yX h (yX (zPa hgT hmT hT J hn hd) yK) (!6)) jb rfl (!6) jg)
structure XSt (K:jk)(C:qu):Prop where
 kit:XKit K C
 ob:zEG K C
 sa:PySem.W.findIn K (!1) "__setattr__"=some (some<|.builtin "object.__setattr__")
end
structure XMk (K:jk)(C f:qu):Prop where
 ob:zEG K C
 init:PySem.W.findIn K (!1) "__init__"=some (some<|.ref f)
 fn:isFn K (.ref f)=true
 kp:keepIn K (!1)=true
def zED {x y z:V}(h:Vals [x,y,z] us):∃u v w,us=[u,v,w]/\RelV x u/\RelV y v/\RelV z w:=by
 cases h with
 | cons h1 t=>cases t with
  | cons h2 t=>cases t with
   | cons h3 t=>cases t;exact⟨_,_,_,J,h1,h2,h3⟩
section
variable{a b c:r8}
def zN2 (hc:!24):CallR X (.builtin "max") (λxs H Q=>∃i j k,xs=[.int i,.int j,.int k]/\Q (.int<|if j > i then(if k > j then k else j) else(if k > i then k else i)) H):=by
 intro Z s U H xs us Q I r h;obtain⟨i,j,k,rfl,q⟩:=h;obtain⟨u,v,w,rfl,⟨t,rfl⟩,⟨t',rfl⟩,⟨t2,rfl⟩⟩:=zED r;refine max_three_ints (I.ok.hd hc) λh' tk kk=>⟨_,H,I.kept kk,?_,q⟩
 by_cases hj:j > i
 .rw[Qg hj,Qg hj]
  by_cases hk:k > j
  .rw[Qg hk,Qg hk];exact⟨_,J⟩
  .rw[Qc hk,Qc hk];exact⟨_,J⟩
 .rw[Qc hj,Qc hj]
  by_cases hk:k > i
  .rw[Qg hk,Qg hk];exact⟨_,J⟩
  .rw[Qc hk,Qc hk];exact⟨_,J⟩
def zOq (fa fb fc:Ef):Ef:=λO=>(fa O).bind λx=>(fb O).bind λy=>(fc O).bind λz=>match x,y,z with | .int i,.int j,.int k=>some (.int<|if j > i then(if k > j then k else j) else(if k > i then k else i)) | _,_,_=>none
def zHG (hcm:!24)(hg:Gl X "max")(hm:X.mg "max"=none)(ha:!12)(hb:PF X b fb)(hc:PF X c fc)(hs:starEach [a,b,c] X.env=[(false,eval a X.env),(false,eval b X.env),(false,eval c X.env)]:=by rfl)(hs2:starEach [b,c] X.env=[(false,eval b X.env),(false,eval c X.env)]:=by rfl)(hs3:starEach [c] X.env=[(false,eval c X.env)]:=by rfl):PF X (.Call (.Name "max" p) [a,b,c] [] pos)<|zOq fa fb fc:=by
 refine PE.to (wD (zN2 hcm) hg hm jg (yX ha (yX hb (yX hc yK (by rw[hs3];rfl))<|by rw[hs2,hs3])<|by rw[hs,hs2]) jb jb (by rw[hs,hs2]) (by rw[hs2];rfl)) ?_;rintro U H Q ⟨G0,H0,G,O,d,j0,hf,k⟩;unfold zOq at hf;obtain⟨x,h1,hf⟩:=k8 hf;obtain⟨y,h2,hf⟩:=k8 hf;obtain⟨z,h3,hf⟩:=k8 hf;split at hf
 .rename_i i j l _h _h2;cases hf;exact⟨G0,H0,G,O,_,j0,h1,λv H1 G1 s1 r1=>⟨G0,H0,G1,O,_,j0.step s1,h2,λu H2 G2 s2 r2=>⟨G0,H0,G2,O,_,(j0.step s1).step s2,h3,λt H3 G3 s3 r3=>⟨i,j,l,by rw[zC.mp r1,zC.mp r2,zC.mp r3],k _ _ G3 ((!18).trans s3)<|zC.mpr rfl⟩⟩⟩⟩
 .cases hf
def zUx (ns:kh):Int:=ns.getD (argBest (λi j=>decide (ns.getD i 0 > ns.getD j 0))<|ns.length - 1) 0
theorem zYI:∀ {ns:kh} {j6:jn},Vals (ns.map V.int) j6->∃ps:List<|Int×Tok,j6=ps.map (λp=>Value.int p.1 p.2)/\ps.map (·.1)=ns
 | [],_,h=>by cases h;exact⟨[],J,J⟩
 | n::ns,_,h=>by
  cases h with
  | cons h1 h2 =>obtain⟨t,rfl⟩:=h1;obtain⟨ps,rfl,rfl⟩:=zYI h2;exact⟨(n,t)::ps,J,J⟩
def zM7 (hc:!24):CallR X (.builtin "max") (λxs H Q=>∃(q:qu) (ns:kh),xs=[V.ref q]/\SqL X.K H q (ns.map V.int)/\0 < ns.length/\Q (.int<|zUx ns) H):=by
 intro Z s U H xs us Q I r h;obtain⟨l,ns,rfl,hq,hl,q⟩:=h;obtain⟨u,rfl,ru⟩:=nH r;cases ru;obtain⟨j6,rv,pl,hz⟩:=I.list hq;obtain⟨ps,rfl,rfl⟩:=zYI rv;have hit:s.heap.IsList l<|intItems ps.toArray:=by have:=pl.isList;unfold intItems;rw[List.map_toArray];exact this
 have hn:∀i,numAt ps.toArray i=(ps.map (·.1)).getD i 0:=λi=>by unfold numAt;rw[List.getElem?_toArray,Eu,Wh]
 refine max_intList (I.ok.hd hc) hit (by simpa using hl) λv h' tk hv hk=>?_;obtain⟨t,rfl⟩:=Op hv;refine⟨.int _,H,I.kept hk,⟨t,J⟩,?_⟩;have e:numAt ps.toArray (argBest (λi j=>decide (numAt ps.toArray i > numAt ps.toArray j))<|ps.toArray.size - 1)=zUx (ps.map (·.1)):=by unfold zUx;rw[hn,Qd,Qy];simp only[hn]
 rw[e];exact q
def zRq (g:Lf):Ef:=λO=>(g O).bind λds=>(zXf ds).bind λns=>if 0 < ns.length then some (.int<|zUx ns) else none
def zIT (hcm:!24)(hg:Gl X "max")(hm:X.mg "max"=none)(h:zTG X a ga)(hs:!34:=by rfl):PF X (.Call (.Name "max" p) [a] [] pos)<|zRq ga:=by
 refine PE.to (wD (zM7 hcm) hg hm jg (yX h yK (by rw[hs];rfl)) jb jb (by rw[hs];rfl) jg) ?_
 sleep 1
 unfold zRq at hf;obtain⟨ds,h1,hf⟩:=k8 hf;obtain⟨ns,h2,hf⟩:=k8 hf;split at hf
 .rename_i hl;cases hf;refine⟨G0,H0,G,O,ds,j0,h1,λq vs H1 G1 s1 e1 r1=>?_⟩;rw[zY7 h2 r1] at e1;exact⟨q,ns,J,s1.sub.seq e1,hl,k _ _ G1 s1<|zC.mpr rfl⟩
 .cases hf
end
def zJ4 {t b:qu}(ht:IsTup s.heap t vs.toArray)(hb:IsTup s.heap b ws.toArray)(hv:vs=[])(h:Q (.ref b) s):wpAny (!8) A (binaryOp .Add (.ref t)<|.ref b) Q E s:=by obtain⟨⟨cls,dd,data,sl⟩,ho,hc,n,hd⟩:=id ht;obtain⟨⟨cls2,dd2,data2,sl2⟩,ho2,hc2,n2,hd2⟩:=id hb;subst hc hd hc2 hd2;exact On ⟨_,ho,J⟩ ⟨_,ho2,J⟩ Py seq_tuple_add Iu Uv (Uj _ _) (tuple_addW0 t b _ _ n n2 dd dd2 sl sl2 (!9)) ⟨ho,ho2,h⟩
open HT in
def cJ {t sl:qu}{lo hi:kr}(ht:IsTup s.heap t items)(hs:s.heap.IsSliceOf sl vl vu .none)(pl:IsPart vl lo)(pu:IsPart vu hi)(hw:sIx items.size 0 lo=0/\sIx items.size items.size hi=items.size)(h:Q (.ref t) s):wpAny (!8) A (getItem (.ref t)<|.ref sl) Q E s:=by
 obtain⟨os,hos,hcs,hds⟩:=id hs;have hTs:s.TypeIs (.ref sl) "slice":=⟨os,hos,hcs⟩
 unfold getItem
 try with_reducible refine Ev ?_
 refine Qw<|wpAny_sequenceKey ht.typeIs rfl ?_;refine Qw<|Eg ht.typeIs Rz<|Wn Rz ht.typeIs entry_tuple_getitem ?_<|args_tuple_getitem _ _;show wpAny _ _ (Builtin.Tuple.tupleItemsOf _ >>= _) _ _ s;refine Qw<|tupleItemsOf_ ht<|Qw<|wpAny_typeOf hTs<|Qw<|jV hs pl pu ?_;show wpAny _ _ (if (_==0&&_==1&&_==_)=true then _ else _) _ _ s;rw[Qg (!9)];exact Qw<|Qw<|wpAny_typeOf ht.typeIs<|Qo<|Qw<|Uq<|Qo ⟨_,rfl,Qo h⟩
section
variable{a b:r8}
def zI0:OpR X (binaryOp .Add) (λx y H Q=>∃a b ys,x = .ref a/\y = .ref b/\SqT X.K H a []/\SqT X.K H b ys/\Q (.ref b) H):=by
 sleep 5
 obtain⟨a,b,ys,rfl,rfl,ha,hb,q⟩:=h;cases rx;cases ry;obtain⟨j6,r1,p1,_⟩:=I.tuple ha;obtain⟨its2,r2,p2,_⟩:=I.tuple hb;exact zJ4 p1 p2 (r1.nil_iff.mpr J) ⟨.ref b,H,I,J,q⟩
def zRS (fa fb:Ef):Ef:=λO=>(fa O).bind λx=>(fb O).bind λy=>match x,y with | .tup xs,.tup ys=>if xs.length+ys.length<=1000 then some (.tup<|xs++ys) else none | _,_=>none
def zX0 (ha:!12)(hb:PF X b fb):PF X (.BinOp a .Add b pos)<|zRS fa fb:=by
 refine PE.to (zYu (zH4.or zI0) ha hb) ?_
 sleep 2
 obtain⟨y,h2,hf⟩:=k8 hf;split at hf
 .rename_i xs ys _h;split at hf
  .rename_i hl;cases hf;refine⟨G0,H0,G,O,_,j0,h1,λv H1 G1 s1 r1=>⟨G0,H0,G1,O,_,j0.step s1,h2,λu H2 G2 s2 r2=>?_⟩⟩;obtain⟨q,vs,rfl,q1,q2⟩:=yE.mp<|r1.mono s2.gg;obtain⟨t,us,rfl,t1,t2⟩:=yE.mp r2;have s3:=s1.trans s2;cases xs with
   | nil =>subst q2;exact .inr ⟨q,t,us,J,J,s2.sub.tup q1,s2.sub.tup t1,k _ _ G2 s3<|yE.mpr ⟨t,us,rfl,t1,t2⟩⟩
   | cons d0 xr =>
    have hsl:1001<=_:=Ww<|xR jb;have e1:=q2.length;have e2:=t2.length;refine .inl ⟨q,t,vs,us,J,J,s2.sub.tup q1,s2.sub.tup t1,λz=>by rw[z] at e1;simp at e1,by rw[<-e1];lia,λz=>?_,λz p hp=>?_⟩
    .subst z;have z2:=Re.mp (by rw[e2];rfl);subst z2;rw[Wo] at k;exact k _ _ G2 s3<|yE.mpr ⟨q,vs,rfl,q1,q2⟩
    .have s4:=Step.laid (o:=.tup<|vs++us) s2.sub hp;exact k _ _ _ (s3.trans s4)<|yE.mpr ⟨p,_,rfl,.of zN,(q2.mono s4.gg).append<|t2.mono s4.gg⟩
  .simp_all
 .cases hf
def zHe:SlR X (λx lo hi H Q=>∃a xs,x = .ref a/\SqT X.K H a xs/\(HT.sIx xs.length 0 lo=0/\HT.sIx xs.length xs.length hi=xs.length)/\Q (.ref a) H):=by
 intro Z s U H x v vl vu lo hi sl Q I rx hs pl pu h;obtain⟨a,xs,rfl,hx,hw,q⟩:=h;cases rx;obtain⟨j6,r,ht,hz⟩:=I.tuple hx;have j5:j6.toArray.size=xs.length:=by rw[Qd];exact r.length.symm
 exact⟨"tuple",_,Rz.lookup,ht.typeIs,(cJ ht hs pl pu (by rw[j5];exact hw) ⟨.ref a,H,I,rfl,q⟩)⟩
def zRE (f:Ef)(lo hi:Of):Ef:=λO=>(f O).bind λd=>(lo O).bind λl=>(hi O).bind λu=>match d with | .tup ds=>some (.tup<|jW ds l u) | _=>none
def zX9 {fl fh:Of}(ha:!12)(hl:PFO X lo fl)(hh:PFO X hi fh):PF X (.Subscript a (.Slice lo hi none p2) pos)<|zRE fa fl fh:=by
 refine PE.to (zXa (zFP.or zHe) ha hl hh) ?_
 sleep 2
 obtain⟨l,h2,hf⟩:=k8 hf;obtain⟨u,h3,hf⟩:=k8 hf;cases x with
 | tup ds =>
  cases hf;refine⟨G0,H0,G,O,_,j0,h1,λv H1 G1 s1 r1=>⟨G0,H0,G1,O,_,j0.step s1,h2,λH2 G2 s2=>⟨G0,H0,G2,O,_,(j0.step s1).step s2,h3,λH3 G3 s3=>?_⟩⟩⟩;obtain⟨q,vs,rfl,hq,rs⟩:=yE.mp r1;have s23:=s2.trans s3;have hqq:=(s1.sub.trans s23.hh).tup hq
  by_cases hw:HT.sIx vs.length 0 l=0/\HT.sIx vs.length vs.length u=vs.length
  .refine .inr ⟨q,vs,J,hqq,hw,?_⟩;have e:jW ds l u=ds:=by
    unfold jW;rw[rs.length,hw.1,hw.2,List.drop_zero,Nat.sub_zero,<-rs.length,List.take_length]
   rw[e] at k;exact k _ _ G3 (s1.trans s23)<|yE.mpr ⟨q,vs,rfl,s23.gg.tup hq,rs.mono s23.gg⟩
  .refine .inl ⟨q,vs,J,hqq,hw,λp hp=>?_⟩;have s4:=Step.laid (o:=.tup<|zSF vs l u) s23.sub hp;have e:Reps X.K G3 (jW ds l u)<|zSF vs l u:=by
    unfold zSF jW;rw[<-rs.length];exact((rs.mono s23.gg).drop _).take _
   exact k _ _ _ ((s1.trans s23).trans s4)<|yE.mpr ⟨p,_,rfl,.of zN,e.mono s4.gg⟩
 | _=>cases hf
def zHo (i:Nat)(fb:Ef):Ef:=λO=>match O[i]? with | some (.ow ds)=>(fb O).bind (λy=>match y with | .int k=>atI ds k | _=>none) | _=>none
def zGb (i:Nat)(hb:PF X b fb)(hN:!27:=by rfl)(hv:!31:=by exact visQ rfl)(hd:!20:=by decide)(hcd:!30:=by decide)(hs:zXE b:=by exactλ_ _=>rfl):PF X (.Subscript (!19) b pos)<|zHo i fb:=by
 refine PE.to (zK3 zOG (wI hN hv hd hcd) hb hs) ?_;rintro U H Q ⟨G0,H0,G,O,d,j0,hf,k⟩;unfold zHo at hf;split at hf
 .rename_i ds hi;obtain⟨q,vs,e1,e2,e3,e4,e5⟩:=j0.addr hi;obtain⟨y,h2,hf⟩:=k8 hf;cases y with
  | int m =>refine⟨.ref q,e1,G0,H0,G,O,_,j0,h2,λv H2 G2 s2 r2=>?_⟩;obtain⟨w,e,rw'⟩:=zXk (e5.mono s2.gg) hf;exact⟨q,vs,m,w,J,zC.mp r2,.of<|s2.hh _ _ e2,e,k _ _ G2 s2 rw'⟩
  | _=>cases hf
 .simp_all
end
end L2
variable{lo:Int}{hi:kh}
namespace L2
section
theorem zUg {o:Obj}(hl:l < h.objs.size):∀c∈[h.objs.size,l],c < (h.push o).objs.size:=λc hc=>by
 rw[Rr];simp only[Qz,Ir,or_false] at hc;rcases hc with z | z
 .simp_all
 .rw[z];exact Ru hl
def zUz {o:Obj}(hk:∀b u,b∉[h.objs.size]->(h.push o).get? b=some u->h'.get? b=some u):∀b u,h.get? b=some u->h'.get? b=some u:=λb u e =>hk b u (λhm=>absurd (Qv.mp hm ▸ Qs e)<|Wg _)<|Qe _ e
def zLj {a b:Int}{t u:Tok}(hh:A.handled=none)(hl:s.heap.IsTuple l<|intItems #[(a,t),(b,u)])(h:∀h' tk,(∀c o,s.heap.get? c=some o->h'.get? c=some o)->Q (if b > a then .int b u else .int a t) (!32)):wpAny (!8) A (call (.builtin "max") [.ref l]) Q E s:=by
 have hlt:l < s.heap.objs.size:=by obtain⟨_,e,_⟩:=hl;exact Qs e
 refine call_max_walk<|Ua hl ⟨_,[s.heap.objs.size,l],[s.heap.objs.size],_,_,_,_,rfl,Walks.tuple (A:=A.in1) hh _ l (Qn hlt)<|intItems #[_,_],⟨⟨_,Qa _ rfl,rfl,rfl⟩,hl.push _⟩,zUg hlt,by simp[intItems],CmpOf.ints_gt (numAt #[_,_]) λ_ _=>Op,λv h' tk hP hk=>?_⟩;have q:=h h' tk<|zUz hk
 by_cases hba:b > a
 .have e:argBest (λi j=>decide (numAt #[(a,t),(b,u)] i > numAt #[(a,t),(b,u)] j)) ((intItems #[(a,t),(b,u)]).size - 1)=1:=by simp[intItems,argBest,numAt,hba]
  rw[e] at hP;rw[Qg hba] at q;have:=by simpa [intItems] using hP.symm
  rw[this];exact q
 .have e:argBest (λi j=>decide (numAt #[(a,t),(b,u)] i > numAt #[(a,t),(b,u)] j)) ((intItems #[(a,t),(b,u)]).size - 1)=0:=by simp[intItems,argBest,numAt,hba]
  rw[e] at hP;rw[Qc hba] at q;have:=by simpa [intItems] using hP.symm
  rw[this];exact q
def zLW {a b:Int}{t u:Tok}(hh:A.handled=none)(hl:s.heap.IsTuple l<|intItems #[(a,t),(b,u)])(h:∀h' tk,(∀c o,s.heap.get? c=some o->h'.get? c=some o)->Q (if b < a then .int b u else .int a t) (!32)):wpAny (!8) A (call (.builtin "min") [.ref l]) Q E s:=by
 have hlt:l < s.heap.objs.size:=by obtain⟨_,e,_⟩:=hl;exact Qs e
 refine call_min_walk<|Ua hl ⟨_,[s.heap.objs.size,l],[s.heap.objs.size],_,_,_,_,rfl,Walks.tuple (A:=A.in1) hh _ l (Qn hlt)<|intItems #[_,_],⟨⟨_,Qa _ rfl,rfl,rfl⟩,hl.push _⟩,zUg hlt,by simp[intItems],CmpOf.ints_lt (numAt #[_,_]) λ_ _=>Op,λv h' tk hP hk=>?_⟩;have q:=h h' tk<|zUz hk
 by_cases hba:b < a
 .have e:argBest (λi j=>decide (numAt #[(a,t),(b,u)] i < numAt #[(a,t),(b,u)] j)) ((intItems #[(a,t),(b,u)]).size - 1)=1:=by simp[intItems,argBest,numAt,hba]
  rw[e] at hP;rw[Qg hba] at q;have:=by simpa [intItems] using hP.symm
  rw[this];exact q
 .have e:argBest (λi j=>decide (numAt #[(a,t),(b,u)] i < numAt #[(a,t),(b,u)] j)) ((intItems #[(a,t),(b,u)]).size - 1)=0:=by simp[intItems,argBest,numAt,hba]
  rw[e] at hP;rw[Qc hba] at q;have:=by simpa [intItems] using hP.symm
  rw[this];exact q
variable{a:r8}
def zVD {i j:Int}(r:Vals [V.int i,V.int j] j6):∃t u,j6.toArray=intItems #[(i,t),(j,u)]:=by
 cases r with
 | cons r1 r2 =>
  cases r2 with
  | cons r3 r4 =>cases r4;obtain⟨t,rfl⟩:=r1;obtain⟨u,rfl⟩:=r3;exact⟨t,u,by simp[intItems]⟩
def zNh (hc:!24):CallR X (.builtin "max") (λxs H Q=>∃(q:qu) (i j:Int),xs=[V.ref q]/\SqT X.K H q [V.int i,V.int j]/\Q (.int<|if j > i then j else i) H):=by
 intro Z s U H xs us Q I r h;obtain⟨l,i,j,rfl,hq,q⟩:=h;obtain⟨u,rfl,ru⟩:=nH r;cases ru;obtain⟨j6,rv,pl,hz⟩:=I.tuple hq;obtain⟨t,u,e⟩:=zVD rv;refine zLj (I.ok.hd hc) (e ▸ pl) λh' tk hk=>⟨.int _,H,I.kept hk,?_,q⟩
 by_cases hj:j > i
 .rw[Qg hj,Qg hj];exact⟨_,J⟩
 .rw[Qc hj,Qc hj];exact⟨_,J⟩
def zM2 (hc:!24):CallR X (.builtin "min") (λxs H Q=>∃(q:qu) (i j:Int),xs=[V.ref q]/\SqT X.K H q [V.int i,V.int j]/\Q (.int<|if j < i then j else i) H):=by
 intro Z s U H xs us Q I r h;obtain⟨l,i,j,rfl,hq,q⟩:=h;obtain⟨u,rfl,ru⟩:=nH r;cases ru;obtain⟨j6,rv,pl,hz⟩:=I.tuple hq;obtain⟨t,u,e⟩:=zVD rv;refine zLW (I.ok.hd hc) (e ▸ pl) λh' tk hk=>⟨.int _,H,I.kept hk,?_,q⟩
 by_cases hj:j < i
 .rw[Qg hj,Qg hj];exact⟨_,J⟩
 .rw[Qc hj,Qc hj];exact⟨_,J⟩
def zOK (g:Int->Int->Int):D->qi | .tup [.int i,.int j]=>some (.int<|g i j) | _=>none
def zZd (i j:Int):Int:=if j > i then j else i
def zY3 (i j:Int):Int:=if j < i then j else i
def zGT (f:Ef):Ef:=λO=>(f O).bind<|zOK zZd
def zGC (f:Ef):Ef:=λO=>(f O).bind<|zOK zY3
def zU3 {g:Int->Int->Int}{x:D}(h:zOK g d=some x):∃i j,d = .tup [.int i,.int j]/\x = .int (g i j):=by
 unfold zOK at h;split at h
 .cases h;exact⟨_,_,J,J⟩
 .cases h
def zRB {i j:Int}{v:V}(r:Rep K G (.tup [.int i,.int j]) v):∃q,v = .ref q/\SqT K G q [V.int i,V.int j]:=by obtain⟨q,vs,rfl,h1,h2⟩:=yE.mp r;obtain⟨x,xr,rfl,q1,q2⟩:=zQ.mp h2;obtain⟨y,yr,rfl,q3,q4⟩:=zQ.mp q2;subst q1 q3 q4;exact⟨q,J,h1⟩
def zH6 (hcm:!24)(hg:Gl X "max")(hm:X.mg "max"=none)(h:!12)(hs:!34:=by rfl):PF X (.Call (.Name "max" p) [a] [] pos)<|zGT fa:=by
 refine PE.to (wD (zNh hcm) hg hm jg (yX h yK (!6)) jb J (!6) jg) ?_
 sleep 2
 obtain⟨i,j,rfl,rfl⟩:=zU3 hf
 sleep 4
 obtain⟨q,rfl,hq⟩:=zRB r1;exact⟨q,i,j,J,s1.sub.tup hq,k _ _ G1 s1<|zC.mpr rfl⟩
def zI6 (hcm:!24)(hg:Gl X "min")(hm:X.mg "min"=none)(h:!12)(hs:!34:=by rfl):PF X (.Call (.Name "min" p) [a] [] pos)<|zGC fa:=by
 refine PE.to (wD (zM2 hcm) hg hm jg (yX h yK (!6)) jb J (!6) jg) ?_
 sleep 2
 obtain⟨i,j,rfl,rfl⟩:=zU3 hf
 sleep 4
 obtain⟨q,rfl,hq⟩:=zRB r1;exact⟨q,i,j,J,s1.sub.tup hq,k _ _ G1 s1<|zC.mpr rfl⟩
end
end L2
variable{p:qf}
namespace L2
def AskIn {α:Type}(N:Nat)(Post:α->Prop):KasT α->Prop
 | .ret a=>Post a
 | .ask i j k=>i < N/\j < N/\∀b,AskIn N Post<|k b
theorem AskIn.bind {α β:Type}{N:Nat}{P:α->Prop}{P':β->Prop}{f:α->KasT β}(hf:∀a,P a->AskIn N P' (f a)):∀ {t:KasT α},AskIn N P t->AskIn N P' (t.bind f)
 | .ret a,h=>hf a h
 | .ask i j k,h=>⟨h.1,h.2.1,λb=>AskIn.bind hf<|h.2.2 b⟩
theorem zPj {α:Type}{cmp:Nat->Nat->(Bool->qw->Prop)->qw->Prop}{lt:ko}{N:Nat}{s:qw}(hc:∀i j C,i < N->j < N->C (lt i j) s->cmp i j C s):∀(t:KasT α) (Q:α->qw->Prop),AskIn N (λ_=>True) t->Q (evT lt t) s->t.kasWp cmp Q s
 | .ret _,_,_,h=>h
 | .ask i j k,Q,a,h=>hc i j _ a.1 a.2.1<|zPj hc _ Q (a.2.2 _) h
def Sm (N:Nat)(p:qf):Prop:=∀x∈p.toList,x < N
def Sm.gg {N:Nat}{p:qf}(h:Sm N p)(hN:0 < N)(k:Nat):p.getD k 0 < N:=by
 show L2.gg p k < N;rw[zZ5]
 by_cases hk:k < p.size
 .have:p[k]?=some p[k]:=by simp[hk]
  rw[this];exact h _ je
 .simp_all
def Sm.perm {N:Nat}{q:qf}(h:Sm N p)(e:q.Perm p):Sm N q:=λx hx=>h x<|(Uo.mp e).subset hx
section
variable{N:Nat} (hN:0 < N)
include hN
theorem zP9 {p:qf}(h:Sm N p):∀f n,AskIn N (λ_=>True)<|kas_asc p f n
 | 0,_=>trivial
 | f+1,n=>⟨h.gg hN _,h.gg hN _,λb=>by
   dsimp only;split
   .trivial
   .exact zP9 h f _⟩
theorem zXI:∀f (p:qf) n q,Sm N p->AskIn N (λr=>Sm N r.1) (kas_desc f p n q)
 | 0,_,_,_,h=>h
 | f+1,p,n,q,h=>⟨h.gg hN _,h.gg hN _,λb=>by
   dsimp only;split
   .split
    .exact zXI f _ _ _ (h.perm<|Oi ..)
    .exact zXI f _ _ _ h
   .refine⟨h.gg hN _,h.gg hN _,λb=>?_⟩;dsimp only;split
    .exact h
    .exact zXI f _ _ _ h⟩
def zRa (h:Sm N p)(n m:Nat):AskIn N (λr=>Sm N r.2)<|kas_tail3 n m p:=by have h':Sm N<|kas_rev p 0 n:=h.perm<|Oi ..;refine AskIn.bind (λm _=>?_)<|zP9 hN h' _ _;exact h'
def zYs (h:Sm N p)(n m:Nat):AskIn N (λr=>Sm N r.2)<|kas_descPart n m p:=by
 refine AskIn.bind (λr hr=>?_)<|zXI hN _ _ _ _ h;split
 .exact zRa hN (hr.perm<|Oi ..) _ _
 .exact zRa hN hr _ _
def zJQ (h:Sm N p)(m:Nat):AskIn N (λr=>Sm N r.2)<|kas_count m p:=by
 refine AskIn.bind (λr _=>?_)<|zP9 hN h _ _;split
 .exact h
 .split
  .refine⟨h.gg hN _,h.gg hN _,λb=>?_⟩;dsimp only;split
   .exact h
   .exact zYs hN (h.perm<|Oi ..) _ _
  .exact zYs hN h _ _
theorem zW0 {p:qf}(h:Sm N p)(k:Nat):∀f l r,AskIn N (λ_=>True)<|kas_place p k f l r
 | 0,_,_=>trivial
 | f+1,l,r=>by
  unfold kas_place;split
  .trivial
  .refine⟨h.gg hN _,h.gg hN _,λb=>?_⟩;dsimp only;split
   .exact zW0 h k f _ _
   .exact zW0 h k f _ _
theorem zMe:∀f (p:qf) k,Sm N p->AskIn N (λ_=>True) (kas_bin f p k)
 | 0,_,_,_=>trivial
 | f+1,p,k,h=>by exact AskIn.bind (λ_ _=>zMe f _ _<|h.perm<|bubble_perm ..)<|zW0 hN h k _ _ _
def zHv:AskIn N (λ_=>True)<|kas_sort N:=by
 have h:Sm N<|List.toArray<|List.range N:=λx hx=>by simpa using hx
 refine AskIn.bind (λr hr=>?_)<|zJQ hN h N;split
 .exact zMe hN _ _ _ hr
 .trivial
end
theorem uY {α β:Type}{F:α->β->Prop}{da:α}{db:β}:∀ {l:!10} {m:List β} {i:Nat},Paired F l m->i < l.length->F (l.getD i da) (m.getD i db)
 | _,_,_,.nil,h=>by simp at h
 | _,_,0,.cons r _,_=>r
 | _,_,i+1,.cons _ t,h=>by simpa using uY t (!9)
theorem tS (d:α):∀l:List α,(List.range l.length).map (λi=>l.getD i d)=l:=λl=>by
 apply List.ext_getElem
 .simp
 .intro i h1 h2;simp_all
theorem zUp {K:jk}{G:Hp}:∀ {ds:kd} {vs:kj} {i:Nat},Reps K G ds vs->i < ds.length->Rep K G (ds.getD i .non) (vs.getD i .non)
 | [],_,_,_,h=>by simp at h
 | d::r,vs,0,h,_=>by obtain⟨v,t,rfl,r1,_⟩:=zQ.mp h;exact r1
 | d::r,vs,i+1,h,hi=>by obtain⟨v,t,rfl,_,r2⟩:=zQ.mp h;simpa using zUp (i:=i) r2<|by simpa using hi
theorem zUu {K:jk}{G:Hp}{ds:kd}{vs:kj}(h:Reps K G ds vs):∀p:ky,(∀i∈p,i < ds.length)->Reps K G (p.map λi=>ds.getD i .non) (p.map λi=>vs.getD i .non)
 | [],_=>zD.mpr J
 | i::r,hp=>zQ.mpr ⟨_,_,J,zUp h<|hp i je,zUu h r λj hj=>hp j<|by simp[hj]⟩
end L2
variable{p:Pos}
namespace L2
def zKI (lt:ko)(a b:Nat):Bool:=lt a b||(!lt b a&&decide (a<=b))
def vW (lt:ko)(N:Nat):ky:=(List.range N).mergeSort<|zKI lt
def zQF {lt:ko}{a b:Nat}:zKI lt a b=true↔(Lx lt a b\/(lt b a=false/\a=b)):=by unfold zKI Lx;cases h1:lt a b<;>cases h2:lt b a<;>simp<;>lia
def sH (lt:ko)(N:Nat):(vW lt N).Perm<|List.range N:=List.mergeSort_perm _ _
def zUy {lt:ko}(W:SWO lt)(N:Nat):(vW lt N).Pairwise<|Lx lt:=by
 have h:=List.pairwise_mergeSort (le:=zKI lt) (λa b c h1 h2=>by
  rw[zQF] at h1 h2 ⊢;rcases h1 with h1 | ⟨h1,rfl⟩
  .rcases h2 with h2 | ⟨h2,rfl⟩
   .exact .inl (Lx.trans W h1 h2)
   .exact .inl h1
  .exact h2) (λa b=>by
  unfold zKI;cases h1:lt a b<;>cases h2:lt b a<;>simp<;>lia) (List.range N)
 refine(h.and<|(sH lt N).nodup_iff.mpr List.nodup_range).imp λ{a b} z=>?_;rcases zQF.mp z.1 with q | ⟨_,q⟩
 .exact q
 .exact absurd q z.2
def zHw {lt:ko}(W:SWO lt){a b:Nat}(h1:Lx lt a b)(h2:Lx lt b a):False:=by
 rcases h1 with h1 | ⟨_,_,h1⟩
 .rcases h2 with h2 | ⟨_,h2⟩
  .rw[W.asym h1] at h2;cases h2
  .simp_all
 .rcases h2 with h2 | ⟨_,_,h2⟩
  .simp_all
  .lia
def zFT {lt:ko}(W:SWO lt){l m:ky}(h:l.Perm m)(h1:l.Pairwise<|Lx lt)(h2:m.Pairwise<|Lx lt):l=m:=List.Perm.eq_of_pairwise (λ_ _ _ _ z w=>(zHw W z w).elim) h1 h2 h
def zNE {lt:ko}(W:SWO lt){P:ky}(h1:P.Perm<|List.range n)(h2:P.Pairwise<|Lx lt):P=vW lt n:=zFT W (h1.trans (sH lt n).symm) h2<|zUy W n
def zVy (lt:ko)(h:n < 2):vW lt n=List.range n:=by
 match n,h with
 | 0,_=>simp[vW]
 | 1,_=>simp[vW]
def zPy {lt:ko}(W:SWO lt)(h:1<=n):(evT lt<|kas_sort n).toList=vW lt n:=by
 obtain⟨h1,h2⟩:=zHf W h;refine zNE W h2.pm<|Tb.mpr λi j hi hj hij=>?_;have hj':j < n:=by rw[<-h2.sz];simpa using hj
 have:=h1 i j hij hj';have hi':=by simpa using hi
 have hj'':=by simpa using hj
 simpa [hi',hj''] using this
def zRT {keys:jn}{κ:SortKind}{lt:ko}{Q:Unit×SortSt->qw->Prop}(W:SWO lt)(hl:keys.length=vs.length)(h2:2<=vs.length)(h64:vs.length < 64)(hc:∀i j C,i < vs.length->j < vs.length->C (lt i j) s->kas_ask prog w A κ keys i j C s)(hQ:∀st',(arrOf st').map (·.2)=List.toArray ((vW lt vs.length).map λi=>vs.getD i Value.none)->failedOf st'=none->Q ((),st') s):wpAny (!8) A (sortRuns'.run<|SortSt.mk' κ (keys.toArray.zip vs.toArray) #[] 7 none) Q E s:=by refine Ea (kat_run (Q:=λst' s'=>(arrOf st').map _=List.toArray _/\failedOf st'=none/\s'=s) hl h2 h64 (λp' st' s' b1 b2 b3 b4=>⟨by rw[kat_snds hl b2,b4.1],b3,b4.2⟩)<|zPj hc _ (λp s'=>p=evT lt _/\s'=s) (zHv jc) ⟨rfl,rfl⟩) ?_ λ_ _ e=>e;rintro⟨⟨⟩,st'⟩ s' ⟨har,hf,rfl⟩;rw[zPy W jc] at har;exact hQ st' har hf
end L2
namespace L2
section
variable{a b:r8}
def zO2 (_ j:Int):Bool:=decide (0 < j)&&decide (j.natAbs.log2 < 9000)
abbrev zGH:=eI zO2 λi j=>i / j
theorem zKx:OpR X (binaryOp .FloorDiv)<|rI (λ_ j=>0 < j/\j.natAbs.log2 < 9000) λi j=>.int<|i / j:=opI λi j _ _ _ _ _ hc q=>by exact floordiv_int jc (by rw[Ui i jc];exact q)<|.inl<|PyProof.noPylong_of_log2 hc.2
def zHW (ha:!12)(hb:PF X b fb):PF X (.BinOp a .FloorDiv b pos)<|zGH fa fb:=zPW zKx (λi j h=>by unfold zO2 at h;simp only[Wy,Wl] at h;exact h) ha hb
end
theorem zYW:fillsNumberSlot (.type "tuple") "mul"=pure false :=
 PySem.fillsNumberSlot_seq (id:="tuple.__mul__") (r:=some<|.builtin "tuple.__rmul__") F.slot_tuple_mul.lookup ja (by rw[typeLookup_type,builtinLookup_eq_fast];kernel_rfl) ja
def zXS:typeLookup (.type "tuple") "__rmul__"=pure (some<|.builtin "tuple.__rmul__"):=by rw[typeLookup_type,builtinLookup_eq_fast];kernel_rfl
def zUa:seqRepeat? (.type "tuple")=pure (some<|.builtin "tuple.__mul__"):=by unfold seqRepeat?;rw[PySem.seqSlot_of (name:="__mul__") F.slot_tuple_mul.lookup rfl,PySem.seqSlot_of zXS rfl];rfl
def zV7 (a:Int)(t:Tok)(l:qu)(items:jo)(n:Nat)(dd:kq)(sl:Array km):Meets (Builtin.«int.__rmul__» ⟨[.int a t,.ref l],[]⟩) (λ_ R s=>s.heap.get? l=some { cls:=.type "tuple",dict:=dd,data:=.seq items n,slots:=sl }/\R (.ok<|.ret Value.notImplemented) s) :=
 .of_wp λprog w A R s h=>by obtain⟨hp,g⟩:=s;obtain⟨hl,h⟩:=h;wp_walk;exact⟨_,J,h⟩
open AutoSeq1 (wpAny_loadPart') in
def zPR (l:qu)(items:jo)(n:Nat)(dd:kq)(sl:Array km)(x:Int)(u:Tok)(c1:¬((decide (x < -2^63)||decide (x≥2^63))=true))(c2:¬((items.isEmpty||x==1)=true))(c3:¬((decide (x<=0)||items.isEmpty)=true))(c4:¬(items.size:Int)*x > (2^63 - 1) / 8) (c5:¬Builtin.Tuple.tupleTooMany ((items.size:Int)*x)=true) (hsz:(List.foldl (λx1 x2=>x1++x2) #[] (List.replicate x.toNat items)).size<=sizeLine):Meets (Builtin.«tuple.__mul__» ⟨[.ref l,.int x u],[]⟩) (λ_ R s=>s.heap.get? l=some { cls:=.type "tuple",dict:=dd,data:=.seq items n,slots:=sl }/\R (.ok<|.ret<|Value.ref s.heap.objs.size) { s with heap:=s.heap.push { cls:=Value.type "tuple",data:=Data.seq (List.foldl (λx1 x2=>x1++x2) #[] (List.replicate x.toNat items)) },toks:=s.toks }) :=
 .of_wp λprog w A R s h=>by
  obtain⟨hp,g⟩:=s;obtain⟨hl,h⟩:=h;have ht:IsTup _ l _:=⟨_,hl,J,n,J⟩
  exact Ur (λhab=>absurd hab c1) λ_=>Qw<|tupleItemsOf_ ht<|Ur (λhab=>absurd hab c2) λ_=>Ur (λhab=>absurd hab c3) λ_=>Ur (λhab=>absurd hab c4) λ_=>Ur (λhab=>absurd hab c5) λ_=>Qw<|Ex (Qo ⟨_,J,h⟩) hsz
section
variable{a b:r8}
def zDY (K:jk):R2:=λx y H Q=>∃l k xs,x = .ref l/\y = .int k/\SqT K H l xs/\xs≠[]/\2<=k/\k<=1000/\xs.length<=90/\∀p,H p=none->Q (.ref p) (upd H p<|.tup (List.replicate k.toNat xs).flatten)
def zIO:OpR X (binaryOp .Mult)<|zDY X.K:=by
 sleep 5
 obtain⟨l,k,xs,rfl,rfl,hx,hne,h1,h2,hl,q⟩:=h;cases rx;obtain⟨t,rfl⟩:=ry;obtain⟨j6,r,ht,hz⟩:=I.tuple hx;have j5:=r.length;have hne':j6≠[]:=λz=>hne<|r.nil_iff.mp z;obtain⟨⟨cls,dd,data,sl⟩,ho,hc,n,hd⟩:=id ht;subst hc hd;have hnew:List.foldl (λx1 x2=>x1++x2) #[] (List.replicate k.toNat j6.toArray)=(List.replicate k.toNat j6).flatten.toArray:=by have:=zUj j6 k.toNat [];exact this
 have hsl:100000 < _:=xR jb;have hb:j6.length*k.toNat<=90*1000:=Oe jc jc;have hb2:(j6.toArray.size:Int)*k=((j6.length*k.toNat:Nat):Int):=by rw[Qd,Int.natCast_mul,Int.toNat_of_nonneg jc]
 have hfl:(List.replicate k.toNat j6).flatten.length=k.toNat*j6.length:=je;refine wpAny_binaryOp_repeat_ref (T:="tuple") (U:="int") jb ⟨_,ho,J⟩ (λs'=>typeIs_int s' k t) zYW F.fills_int_mul F.slot_int_rmul zUa F.slot_int_index.lookup<|Tw F.slot_int_rmul (typeIs_int s k t) F.entry_int_rmul (F.args_int_rmul_2 _ _) (zV7 k t l _ n dd sl) ⟨ho,rfl,⟨_,ho,rfl⟩,Tw F.slot_tuple_mul ⟨_,ho,rfl⟩ F.entry_tuple_mul (F.args_tuple_mul_2 _ _) (zPR l _ n dd sl k t ?_ ?_ ?_ ?_ ?_ ?_) ⟨ho,?_⟩⟩
 .grind
 .simp[hne'];lia
 .grind
 .grind
 .unfold Builtin.Tuple.tupleTooMany
  grind
 .grind
 .rw[hnew];have hw:(List.replicate k.toNat xs).flatten.length<=sizeLine:=by
   have:(List.replicate k.toNat xs).flatten.length=k.toNat*xs.length:=je;rw[this,Nat.mul_comm,j5];lia
  exact⟨.ref s.heap.objs.size,_,I.laid (t':=_) (o:=.tup (List.replicate _ xs).flatten) (λb ob q=>Qe _ q) (Qh _) ⟨hw,_,r.rep k.toNat,IsTup.new _ _⟩,J,q _<|I.hok.fresh<|Qh _⟩
def zV2 (fa fb:Ef):Ef:=λO=>(fa O).bind λx=>(fb O).bind λy=>match x,y with | .tup xs,.int k=>if xs≠[]/\2<=k/\k<=1000/\xs.length<=90 then some (.tup (List.replicate k.toNat xs).flatten) else none | _,_=>none
def zXA (ha:!12)(hb:PF X b fb):PF X (.BinOp a .Mult b pos)<|zV2 fa fb:=by
 refine PE.to (zYu zIO ha hb) ?_
 sleep 1
 obtain⟨x,h1,hf1⟩:=k8 hf;obtain⟨y,h2,hf2⟩:=k8 hf1;cases x with
 | tup xs =>
  cases y with
  | int m =>
   dsimp only at hf2;split at hf2
   .rename_i hc;obtain⟨c0,c1,c2,c3⟩:=hc;cases hf2;refine⟨G0,H0,G,O,_,j0,h1,λv H1 G1 s1 r1=>⟨G0,H0,G1,O,_,j0.step s1,h2,λu H2 G2 s2 r2=>?_⟩⟩;obtain⟨q,vs,rfl,q1,q2⟩:=yE.mp<|r1.mono s2.gg;have e1:=q2.length;refine⟨q,m,vs,J,zC.mp r2,s2.sub.tup q1,λz=>c0<|Re.mp (by rw[e1,z];rfl),c1,c2,jc,λp hp=>?_⟩;have s4:=Step.laid (o:=.tup (List.replicate m.toNat vs).flatten) s2.sub hp;exact k _ _ _ ((!18).trans s4)<|yE.mpr ⟨p,_,rfl,.of zN,(zRF q2 _).mono s4.gg⟩
   .cases hf2
  | _=>cases hf2
 | _=>cases hf2
def zZC:PFS X st λ_=>none:=by intro Z s U H D I q;obtain⟨G0,H0,G,O,o,j0,hf,k⟩:=q;cases hf
end
end L2
namespace Att
end Att
namespace Att
open PySem.Calls
end Att
namespace L2
def iK {id:String}{b:Builtin}{args:jn}(hk:builtinKind id=none)(hp:plainId id=true)(hb:entryFor table id=some b) (ha:argsOk id ⟨args,kw⟩)(hc:wpAny (!8) A.in1 (b ⟨args,kw⟩) (λfin s'=>match fin with
   | .done f=>(match (Except.ok f:Result) with | .ok (.ret v)=>Q v s' | .ok _=>False | .error e=>E e s')
   | .again c'=>c'.quiet=true/\codeAny (!8) A c' (λr s'=>match r with | .ok (.ret v)=>Q v s' | .ok _=>False | .error e=>E e s') s') E s) :
  wpAny (!8) A (call (.builtin id) args kw) Q E s:=by
 refine Ic<|Ow hp hb ?_;simp only[checkBuiltinCall,hk];cases hsig:Manifest.signature? id with
 | none=>exact Qo hc
 | some sig =>
  have h2:=by simpa only [argsOk,hsig] using ha
  show wpAny _ _ (Bind.checkArgs id sig ⟨args,kw⟩) _ _ s;rw[h2];exact Qo hc
end L2
namespace L2
section
def Inv.adopt {D kS:qu}(I:!3)(k:∀b u,b≠D->b≠kS->s.heap.get? b=some u->h'.get? b=some u)(hD:H D=none)(hK:H kS=none)(hne:D≠kS)(h1:∀b,b=D\/b=kS->X.s₀.heap.objs.size<=b/\b≠X.env.locals/\(∀x c,X.env.cells.lookup x=some c->c≠b)/\∀p∈X.pn++Z,p.1≠b) (new:ObjOk X.prog X.w (upd H D o) h' D o):Inv X Z U (upd H D o) (!15):=by
 have nD:∀b u,H b=some u->b≠D:=λb u e z=>by rw[z,hD] at e;cases e
 have nK:∀b u,H b=some u->b≠kS:=λb u e z=>by rw[z,hK] at e;cases e
 have hin:∀ {b:qu},b∉[D,kS]->b≠D/\b≠kS:=λhb=>⟨λz=>hb (by simp[z]),λz=>hb<|by simp[z]⟩
 refine I.step (g':=s.gens) (d':=s.drawn) (t':=s.toks) (ch:=[D,kS]) (λb hb=>?_) (λb u _ _ hc e _=>k b u (hin hc).1 (hin hc).2 e) (λb u _ _ hc e _=>⟨u.slots,k b u (hin hc).1 (hin hc).2 e⟩) (λb u hc _ n=>by rw[zG (hin hc).1];exact n) (λb u hc e=>⟨u,k b u (hin hc).1 (hin hc).2 e⟩) (λb xs e=>by rw[zG<|nD b _ e];exact e) (λb u xs e=>by rw[zG<|nD b _ e];exact e) (λb ps e=>⟨#[],by rw[zG<|nD b _ e,e];simp⟩) (λm hm=>?_) (λb u e=>?_) I.bare
 .have hb':b=D\/b=kS:=by simpa using hb
  obtain⟨a1,a2,a3,a4⟩:=h1 b hb';exact⟨.inr a1,a2,a3,a4⟩
 .obtain⟨u,es,ep,hu,r⟩:=hm;exact⟨u,es,ep,k _ u (Ne.symm (h1 D<|.inl rfl).2.1) (Ne.symm (h1 kS<|.inr rfl).2.1) hu,r⟩
 .by_cases hb:b=D
  .subst hb;rw[zN] at e
   grind
  .rw[zG hb] at e;refine(I.hok b u e).stay (λc v hc q=>?_) (λc q=>by rw[zG<|nD c _ q];exact q) λc xs q=>by rw[zG<|nD c _ q];exact q
   have hc':c≠D/\c≠kS:=by
    rcases hc with z | z
    .rw[z];exact⟨hb,nK b u e⟩
    .exact⟨nD c _ z,nK c _ z⟩
   exact k c v hc'.1 hc'.2 q
def Own (X:Cx)(Z:jm)(b:qu):Prop:=X.s₀.heap.objs.size<=b/\b≠X.env.locals/\(∀x c,X.env.cells.lookup x=some c->c≠b)/\(∀p∈X.pn++Z,p.1≠b)/\b∉X.fs
def zOO (I:!3){b:qu}(hb:s.heap.objs.size<=b):Own X Z b:=by
 refine⟨Wq I.sz hb,λz=>?_,λx c e z=>?_,λp hp z=>?_,I.nofs hb⟩
 .have:=I.lt;rw[<-z] at this;exact absurd this<|Im.mpr hb
 .obtain⟨v,o,ho,_⟩:=I.cell x c e;have:=Qs ho;rw[z] at this;exact absurd this<|Im.mpr hb
 .have:=Qs (I.pin p hp).1;rw[z] at this;exact absurd this<|Im.mpr hb
abbrev oO (us:jn)(c:Nat):Obj:=seqObj "list" us.toArray c
def zVM (us:jn)(c:Nat):∀v,(oO us c).data ≠ .cell v:=je
def zKf {D kS fa:qu}(ya:Nat->qh->Hp->Prop)(hD:Own X Z D)(hK:Own X Z kS)(hne:D≠kS)(j5:us.length < 64)(hstep:∀i x ws H' s' pins',us[i]?=some x->ya i ws H'->Inv X pins' U H' s'->wpAny (!5) X.A.in1.in1 (call (.ref fa) [x]) (λu s''=>∃H'',Inv X pins' U H'' s''/\ya (i+1) (ws++[u]) H'') (λ_ _=>False) s')(hJ:ya 0 [] H) (I:Inv X ((D,oO [] e1)::(kS,oO [] 0)::Z) U H s) {P:PySem.Fin->qw->Prop}(hfin:∀ws c H' s',ya us.length ws H'->ws.length=us.length->Inv X ((D,oO [] e1)::(kS,oO ws c)::Z) U H' s'->wpAny (!5) X.A.in1.in1 (ksk_end D false us.toArray e1 (.ref kS) ws.toArray) P E s'):wpAny (!5) X.A.in1.in1 (ksk_rest D (.ref fa) false us.toArray e1<|.ref kS) P E s:=by
 unfold ksk_rest;refine Qw<|Uq ?_
 first
  | rw[List.forIn_toArray]
  | (rw[<-Ol];simp only[Oo])
  | rw[<-Ol]
 refine Qw<|ksk_fold (λi s'=>∃ws c H',ya i ws H'/\ws.length=i/\Inv X ((D,oO [] e1)::(kS,oO ws c)::Z) U H' s') us 0 s ⟨[],0,H,hJ,rfl,I⟩ (λj x s' hx hd=>?_) λs' hd=>?_
 .obtain⟨ws,c,H',j1,j2,I'⟩:=hd;rw[Yt] at j1 j2 ⊢;have hj:j < us.length:=(v5 hx).1;refine Qw<|Oh<|Ea (hstep j x ws H' s' _ hx j1 I') (λu s'' hu=>?_) λ_ _ z=>z.elim;obtain⟨H'',I'',j3⟩:=hu;have pk:=I''.pin (kS,oO ws c) je;have pd:=I''.pin (D,oO [] e1) je;have ea:(List.toArray ws).push u=List.toArray (ws++[u]):=je;obtain⟨c2,hc2⟩:∃c2,(s''.heap.update kS (Obj.mapSeq (·.push u))).get? kS=some (oO (ws++[u]) c2):=⟨_,by show _=some (seqObj "list" (List.toArray<|ws++[u]) _);rw[<-ea];exact Ij pk.1 (·.push u)⟩
  try dsimp only
  refine Qw<|Tl pk.1 rfl ?_ (by rw[Qd,Wf];lia)<|Wq (Ob<|Array.size_push ..) (by rw[Qd,Wf];lia);refine Qo ⟨J,ws++[u],c2,H'',j3,by rw[Qp,j2];rfl,?_⟩;have Id:Inv X ((D,oO [] e1)::Z) U H'' s'':=I''.pins_of λp hp=>by
   rcases v4 hp with rfl | hp
   .exact pd
   .exact I''.pin p (by simp[hp])
  have keep:∀b o,b≠kS->s''.heap.get? b=some o->(s''.heap.update kS (Obj.mapSeq (·.push u))).get? b=some o:=λb o hb e=>by rw[Er _ _ _ _ hb];exact e
  have It:=Id.turned (t':=s''.toks) (it:=kS) (h':=s''.heap.update kS (Obj.mapSeq (·.push u))) keep pk.2.1 hK.2.1 (.inr hK.1) hK.2.2.1 (λp hp=>by
   rcases v6 hp with z | z
   .exact hK.2.2.2.1 p (Oq _ z)
   .rcases v4 z with rfl | z
    .exact hne
    .exact hK.2.2.2.1 p (Ws _ z))
  refine It.pins_of λp hp=>?_;rcases v4 hp with rfl | hp
  .exact It.pin _ je
  .rcases v4 hp with rfl | hp
   .exact⟨hc2,pk.2.1,hK.2.1,hK.2.2.2.2,zVM _ _⟩
   .exact It.pin p (by simp[hp])
 .obtain⟨ws,c,H',j1,j2,I'⟩:=hd;rw[Yt] at j1 j2;have pk:=I'.pin (kS,oO ws c) je;exact Qw<|Pq pk.1 rfl<|hfin ws c H' s' j1 j2 I'
variable{D kS:qu}{c:Nat}{P:Fin->qw->Prop}
def zRY {st:SortSt}{out:jn}(hne:D≠kS)(hout:(arrOf st).map (·.2)=List.toArray out)(hf:failedOf st=none)(hz:out.length < 64)(hw:ws.length < 64)(I:Inv X ((D,oO [] e1)::(kS,oO ws c)::Z) U H s)(h:∀h' c3,(∀b o,b≠D->b≠kS->s.heap.get? b=some o->h'.get? b=some o)->h'.get? D=some (oO out c3)->P (.done<|.ret .none) (!15)):wpAny (!5) X.A.in1.in1 (ksk_tail D false e1 (.ref kS) st) P E s:=by
 have pk:=I.pin (kS,oO ws c) je;have pd:=I.pin (D,oO [] e1) je;have pd':(s.heap.update kS<|Obj.mapSeq λ_=>(#[])).get? D=some (seqObj "list" #[] e1):=by rw[Er _ _ _ _ hne];exact pd.1
 obtain⟨c3,hc3⟩:∃c3,((s.heap.update kS<|Obj.mapSeq λ_=>_).update D<|Obj.mapSeq λ_=>List.toArray out).get? D=some _:=⟨_,Ij pd' λ_=>List.toArray out⟩
 unfold ksk_tail;rw[hout];refine Qw<|Tl pk.1 rfl (Qw<|Ub<|Qw<|Um pd' rfl ?_) (by rw[Qd,Wf];lia)<|Wm _;refine Qw<|Tl pd' rfl ?_ (Wm _) (by show(List.toArray out).size<=_;rw[Qd,Wf];lia);rw[hf];simp only[Oc];refine Qo<|h _ c3 (λb o h1 h2 e=>?_) hc3;rw[Er _ _ _ _ h1,Er _ _ _ _ h2];exact e
def zHY {lt:ko}(W:SWO lt)(hne:D≠kS)(hl:ws.length=us.length)(h64:us.length < 64)(I:Inv X ((D,oO [] e1)::(kS,oO ws c)::Z) U H s)(hq:2<=us.length->∃κ,(∀(E':jl) Q,Q κ s->wpAny (!5) X.A.in1.in1 (keyKind' ws.toArray) Q E' s)/\∀i j C,i < us.length->j < us.length->C (lt i j) s->kas_ask X.prog X.w X.A.in1.in1 κ ws i j C s)(h:∀h' c3,(∀b o,b≠D->b≠kS->s.heap.get? b=some o->h'.get? b=some o)->h'.get? D=some (oO ((vW lt us.length).map λi=>us.getD i Value.none) c3)->P (.done<|.ret .none) (!15)):wpAny (!5) X.A.in1.in1 (ksk_end D false us.toArray e1 (.ref kS) ws.toArray) P E s:=by
 unfold ksk_end;simp only[Eh,Yb]
 by_cases h2:us.toArray.size < 2
 .have h2':=by simpa using h2
  rw[Qg h2,Qg h2];have e:(vW lt us.length).map (λi=>us.getD i Value.none)=us:=by rw[zVy lt h2',tS]
  rw[e] at h;refine zRY (out:=us) hne ?_ J h64 jc I h;apply Array.toList_inj.mp;rw[Pp,ksk_zip];have:∀(a b:jn),a.length=b.length->(List.zip a b).map (λx=>x.2)=b:=by intro a b hab;exact List.map_snd_zip jc
  exact this ws us hl
 .have h2':2<=us.length:=(by have:¬us.length < 2:=(by simpa using h2);lia)
  rw[Qc h2,Qc h2];obtain⟨κ,hk,hc⟩:=hq h2';refine Qw<|hk _ _ ?_;refine Qw<|zRT W hl h2' h64 hc λst' har hf=>?_;have j5:(vW lt us.length).length=us.length:=by rw[(sH lt _).length_eq,Rc]
  exact zRY hne har hf (by rw[Qy,j5];exact h64) jc I h
def zTe {q fa:qu}{lt:ko}(W:SWO lt)(ya:Nat->qh->Hp->Prop)(hl:s.heap.IsList q us.toArray)(h64:us.length < 64)(I:!3)(hJ:ya 0 [] H)(hstep:∀i x ws H' s' pins',us[i]?=some x->ya i ws H'->Inv X pins' U H' s'->wpAny (!5) X.A.in1.in1 (call (.ref fa) [x]) (λu s''=>∃H'',Inv X pins' U H'' s''/\ya (i+1) (ws++[u]) H'') (λ_ _=>False) s')(hq:∀ws H' s' pins',ya us.length ws H'->ws.length=us.length->Inv X pins' U H' s'->2<=us.length->∃κ,(∀(E':jl) Q,Q κ s'->wpAny (!5) X.A.in1.in1 (keyKind' ws.toArray) Q E' s')/\∀i j C,i < us.length->j < us.length->C (lt i j) s'->kas_ask X.prog X.w X.A.in1.in1 κ ws i j C s')(hend:∀ws H' D s',ya us.length ws H'->H' D=none->(∀o,(∀h':qx,(∃c3,h'.get? D=some (oO ((vW lt us.length).map λi=>us.getD i Value.none) c3))->ObjOk X.prog X.w (upd H' D o) h' D o)->Inv X Z U (upd H' D o) s')->Q (.ref D) s'):wpAny (!5) X.A (call (.builtin "sorted") [.ref q] [(Str.ofString "key",.ref fa)]) Q E s:=by
 have hsz:((s.heap.push<|seqObj "list" #[] 0).update s.heap.objs.size (Obj.mapSeq (· ++ us.toArray))).objs.size=s.heap.objs.size+1:=by rw[Ie,size_push']
 have qD:(((s.heap.push<|seqObj "list" #[] 0).update s.heap.objs.size (Obj.mapSeq (· ++ us.toArray))).push<|seqObj "list" us.toArray 0).get? (s.heap.objs.size+1)=some (seqObj "list" us.toArray 0):=by rw[<-hsz];exact Qa _ J
 have old:∀b o,s.heap.get? b=some o->(((s.heap.push<|seqObj "list" #[] 0).update s.heap.objs.size (Obj.mapSeq (· ++ us.toArray))).push<|seqObj "list" us.toArray 0).get? b=some o:=λb o e=>by have hlt:b < s.heap.objs.size:=Qs e;exact Qe _ (by rw[Er _ _ _ _<|Qn hlt];exact Qe _ e)
 generalize hh1:(((s.heap.push<|seqObj "list" #[] 0).update s.heap.objs.size (Obj.mapSeq (· ++ us.toArray))).push<|seqObj "list" us.toArray 0)=h1 at qD old;have hD0:s.heap.objs.size<=s.heap.objs.size+1:=Yl _;generalize hDd:s.heap.objs.size+1=D at qD hD0;refine iK kind_sorted plain_sorted entry_sorted (ksk_s1 _ _) ?_;refine Qw (m:=checkCount "sorted" 1 1 _)<|Qo<|Qw<|collect_list hl ?_ (by rw[Wf];lia);refine Qw<|Yn ?_ (by rw[Wf];lia);rw[hsz,hh1,hDd];obtain⟨e1,q1⟩:∃e1,(h1.update D<|Obj.mapSeq λ_=>(#[]:jo)).get? D=some (seqObj "list" #[] e1):=⟨_,Ij qD λ_=>#[]⟩
 have hDlt:D < h1.objs.size:=Qs qD;have old2:∀b o,s.heap.get? b=some o->(h1.update D<|Obj.mapSeq λ_=>(#[]:jo)).get? b=some o:=λb o e=>by rw[Er _ _ _ _<|Qn<|Wr (Qs e) hD0];exact old b o e
 have hkS:(!40).objs.size=h1.objs.size+1:=by rw[size_push',Ie]
 refine Qw<|Ev<|wpAny_call_entry_kw Pm ⟨_,qD,rfl⟩ Ph ?body<|ksk_l1 _ _;rw[ksk_t1];refine Qw<|Pq (n:=0) qD rfl<|Qw<|Tl (n:=0) qD rfl ?_ (by rw[Qd,Wf];lia)<|Wm _;refine Qw<|Um q1 rfl<|Qw<|Tc ?_ (by show us.length<=_;rw[Wf];lia);refine Qw<|Yn (Ev ?_)<|Wm _;have qk:((!40).push<|seqObj "list" #[] 0).get? (!40).objs.size=some (oO [] 0):=Qa _ J;have hks1:s.heap.objs.size<=(!40).objs.size:=by rw[hkS];exact Wq hD0<|Wq (Ww hDlt)<|Yl _
 have hne:D≠(!40).objs.size:=by rw[hkS];exact Qn<|Ru hDlt
 have I1:Inv X Z U H { s with heap:=(!40).push<|seqObj "list" #[] 0,toks:=s.toks }:=I.kept λb o e=>Qe _<|Qe _<|old2 b o e;generalize(!40).objs.size=kS at qk hks1 hne;have oD:=zOO I hD0;have oK:=zOO I hks1;have qd:((!40).push<|seqObj "list" #[] 0).get? D=some (oO [] e1):=Qe _<|Qe _ q1;refine zKf (X:=X) (Z:=Z) (U:=U) ya oD oK hne h64 hstep hJ (I1.pins_of λp hp=>?_) λws c H' s' j1 j2 I'=>?_
 .rcases v4 hp with rfl | hp
  .exact⟨qd,I.hok.fresh hD0,oD.2.1,oD.2.2.2.2,zVM _ _⟩
  .rcases v4 hp with rfl | hp
   .exact⟨qk,I.hok.fresh hks1,oK.2.1,oK.2.2.2.2,zVM _ _⟩
   .exact I1.pin p (Ws _ hp)
 .refine zHY (lt:=lt) W hne j2 h64 I' (λh2=>hq ws H' s' _ j1 j2 I' h2) λh' c3 kk hd=>⟨_,J,?_⟩
  refine Qo ?_;have pd:=I'.pin (D,oO [] e1) je;have pk:=I'.pin (kS,oO ws c) je;have Ip:Inv X Z U H' s':=I'.pins_of λp hp=>I'.pin p (by simp[hp]);refine hend ws H' D _ j1 pd.2.1 λo ho=>?_;exact Ip.adopt kk pd.2.1 pk.2.1 hne (λb hb=>by
   rcases hb with rfl | rfl
   .exact⟨oD.1,oD.2.1,oD.2.2.1,oD.2.2.2.1⟩
   .exact⟨oK.1,oK.2.1,oK.2.2.1,oK.2.2.2.1⟩) (ho h' ⟨c3,hd⟩)
end
end L2
namespace L2
section
variable{d:qu}{es:Array DictEntry}
theorem zFB (lo:(d==sysModules)=false):KdlSrc P w "dict" d d es.size (λi v=>es[i]?.map (·.key)=some v) (λh=>DEs h d es ep) where
 type:=λs ⟨o,ho,hx,_⟩=>⟨o,ho,hx.1⟩
 there:=λh ⟨o,ho,_⟩=>⟨Qs ho,Qs ho⟩
 keep:=λh h' x k=>x.keep λo e=>k d (.inl J) o e
 notList:=jb
 notTuple:=jb
 hint:=λA E s Q ⟨o,ho,hx,_⟩ q=>kdl_hint_dict ⟨o,ho,hx.1⟩ q
 iter:=λA s hh x=>⟨kiO d 0 _ ep,λi h=>h.get? _=some (kiO d i _ ep)/\DEs h d es ep,λE Q q=>zIE x lo q,
  {sub:=λb q=>by simp at q;simp[q]
   frame:=λi h h' y k=>⟨k _ je _ y.1,y.2.keep λo e=>k d je o e⟩
   item:=λi s' Q E hi y hQ=>by
    have hv:es[i]?.map (·.key)=some es[i].key:=by simp[hi]
    refine zIN y.2 y.1 hv λh' sb e=>hQ _ h' _ hv ⟨e,y.2.keep λo e'=>(sb.2 d ?_).trans e'⟩ λb o hb e'=>(sb.2 b (!9)).trans e';obtain⟨o,ho,_⟩:=x;exact Qn<|Qs ho
   done:=λs' Q E y hQ=>zGe hh y.2 y.1 je λh' k=>hQ h' _ λb o hb e=>k b o (!9) e
   self:=λi s' Q E y hQ=>by
    have hT:s'.TypeIs (.ref _) "dict_keyiterator":=⟨_,y.1,J⟩
    refine Ul hT F.slot_dict_keyiterator_iter<|Wn F.slot_dict_keyiterator_iter hT F.entry_dict_keyiterator_iter ?_<|F.args_dict_keyiterator_iter_1 _;exact Qo ⟨_,J,"dict_keyiterator",_,hT,F.slot_dict_keyiterator_next.lookup,hQ⟩ },
  ⟨Qa _ rfl,x.keep λo e=>Qe _ e⟩⟩
def zI1 (hh:A.handled=none)(hd:DEs s.heap d es ep)(lo:(d==sysModules)=false)(hz:es.size < 64)(h:∀h' tk c,(∀c o,s.heap.get? c=some o->h'.get? c=some o)->h'.get? s.heap.objs.size=some { cls:=.type "list",dict:=none,data:=.seq (es.map (·.key)) c,slots:=#[] }->R (.ok<|.ret<|.ref s.heap.objs.size) (!32)):codeAny (model P w) A (.builtin "proto.collect" ⟨[.ref d],[]⟩) R s:=by
 have ld:=let ⟨o,ho,_⟩:=hd;Qs ho;refine Rp F.entry_proto_collect<|Qw<|Ex<|Qo ⟨Tj F.plain_list_iadd _,Rp F.entry_list_iadd ?_⟩;rw[Around.under_plainId F.plain_list_iadd _];have hL1:(s.heap.push { cls:=.type "list",data:=.seq ([]).toArray }).get? _=some { cls:=.type "list",data:=.seq #[] 0 }:=Qa _ J;refine kdl_extend (s:={ s with heap:=s.heap.push { cls:=.type "list",data:=.seq ([]).toArray } }) (zFB lo) hh (hd.keep λo e=>Qe _ e) _ (Ov ld) (Ov ld) _ 0 hL1 (λh' tk j7 c k hS it=>?_)<|Ww<|xR jc;have ea:j7=es.map (·.key):=by
  apply Array.ext_getElem?;intro i;rw[Array.getElem?_map];rcases Nat.lt_or_ge i _ with z | z
  .rw[Aq z];exact(it.2 i _<|Aq z).symm
  .rw[Array.getElem?_eq_none z,Array.getElem?_eq_none (by rw[<-it.1];exact z)];rfl
 rw[ea] at hS;exact h h' tk c (λc o e=>k c o (Qn<|Qs e)<|Qe _ e) hS
def zP1 {Q:qh->qw->Prop}(hh:A.handled=none)(hd:DEs s.heap d es ep)(lo:(d==sysModules)=false)(hz:es.size < 64)(h:∀h' tk,(∀c o,s.heap.get? c=some o->h'.get? c=some o)->Q (es.toList.map (·.key)) (!32)):wpAny (model P w) A (collect<|.ref d) Q E s:=by refine Qw<|wpAny_runValue<|zI1 hh hd lo hz λh' tk c k hS=>Qw<|wpAny_load hS<|Qo ?_;rw[Pp];exact h h' tk k
def zOL {P':PySem.Fin->qw->Prop}{lt:ko}(W:SWO lt)(ho:s.heap.get? a=some (seqObj "list" vs.toArray n))(h64:vs.length < 64)(hq:2<=vs.length->∀h':qx,(∀b o,b≠a->s.heap.get? b=some o->h'.get? b=some o)->∃κ,(∀(E':jl) Q,Q κ (!15)->wpAny (model P w) A (keyKind' vs.toArray) Q E' (!15)) /\ ∀i j C,i < vs.length->j < vs.length->C (lt i j) (!15)->kas_ask P w A κ vs i j C (!15))(h:P' (.done<|.ret .none) { s with heap:=sortedHeap s.heap a vs (List.toArray<|(vW lt vs.length).map λi=>vs.getD i Value.none) }):wpAny (model P w) A (Builtin.«list.sort» ⟨[.ref a],[]⟩) P' E s:=by
 obtain⟨e1,q1⟩:∃e1,(s.heap.update a<|Obj.mapSeq λ_=>#[]).get? a=some (seqObj "list" #[] e1):=⟨_,Ij ho λ_=>#[]⟩
 have q6:(((s.heap.update a<|Obj.mapSeq λ_=>#[]).push<|seqObj "tuple" vs.toArray 0).push<|seqObj "list" #[] 0).get? a=some (seqObj "list" #[] e1):=Qe _<|Qe _ q1
 by_cases h2:2<=vs.length
 .obtain⟨κ,hk,hc⟩:=hq h2 (((s.heap.update a<|Obj.mapSeq λ_=>#[]).push<|seqObj "tuple" _ 0).push<|seqObj "list" #[] 0) λb o hb e=>Qe _<|Qe _ (by rw[Er _ _ _ _ hb];exact e);have hz:¬vs.toArray.size < 2:=by rw[Qd];lia
  have j5:(vW lt vs.length).length=vs.length:=by rw[(sH lt _).length_eq,Rc]
  rw[list_sort_plain];refine Qw<|Pq (n:=n) ho rfl<|Qw<|Tl (n:=n) ho rfl (Qw<|Um q1 rfl<|Qw<|Tc (Qw<|Yn (Ev ?_)<|Wm _) (by show vs.length<=_;rw[Wf];lia)) (by rw[Qd,Wf];lia)<|Wm _;dsimp only;rw[Qc hz,Qc hz];refine Qw<|hk _ _<|Qw<|zRT W rfl h2 h64 hc λst' har hf=>?_;rw[har];refine Qw<|Um q6 rfl<|Qw<|Tl q6 rfl ?_ (Wm _) (by rw[Qd,Qy,j5,Wf];lia);rw[hf];simp only[Oc,Eh,Yb];exact Qo h
 .have e:(vW lt vs.length).map (λi=>vs.getD i Value.none)=vs:=by rw[zVy lt jc,tS]
  rw[e] at h;have hz:vs.toArray.size < 2:=by rw[Qd];lia
  rw[list_sort_plain];refine Qw<|Pq (n:=n) ho rfl<|Qw<|Tl (n:=n) ho rfl (Qw<|Um q1 rfl<|Qw<|Tc (Qw<|Yn (Ev ?_)<|Wm _) (by show vs.length<=_;rw[Wf];lia)) (by rw[Qd,Wf];lia)<|Wm _;rw[Qg hz,Qg hz];refine Qw<|Qo<|Qw<|Qo ?_;have har:(arrOf<|SortSt.mk' general' (vs.toArray.zip vs.toArray) #[] 7 none).map (·.2)=vs.toArray:=by apply Array.toList_inj.mp;rw[Pp,ksk_zip];exact List.map_snd_zip je
  dsimp only;rw[har];refine Qw<|Um q6 rfl<|Qw<|Tl q6 rfl ?_ (Wm _) (by rw[Qd,Wf];lia);simp only[Oc,Eh,Yb];exact Qo h
def zUr {lt:ko}(W:SWO lt)(hh:A.handled=none)(hd:DEs s.heap d es ep)(lo:(d==sysModules)=false)(h64:es.size < 64)(hq:2<=es.size->∀(h':qx) tk,(∀b o,s.heap.get? b=some o->h'.get? b=some o)->∃κ,(∀(E':jl) Q,Q κ (!32)->wpAny (model P w) A.in1.in1 (keyKind' (es.toList.map (·.key)).toArray) Q E' (!32)) /\ ∀i j C,i < es.size->j < es.size->C (lt i j) (!32)->kas_ask P w A.in1.in1 κ (es.toList.map (·.key)) i j C (!32))(h:∀(h1 h':qx) tk n,(∀c o,s.heap.get? c=some o->h1.get? c=some o)->(∀c o,h1.get? c=some o->h'.get? c=some o)->h'.get? h1.objs.size=some (seqObj "list" (List.toArray ((vW lt es.size).map λi=>(es.toList.map (·.key)).getD i Value.none)) n)->Q (.ref h1.objs.size) (!32)):wpAny (model P w) A (call (.builtin "sorted") [.ref d]) Q E s:=by
 refine Aw kind_sorted plain_sorted entry_sorted (args_sorted1 _)<|Qw<|Qo<|Qw<|zP1 (by simp[hh]) hd lo jc λh1 tk k=>?_;have hl:(es.toList.map (·.key)).length=es.size:=je;refine Qw<|Yn ?_ (by rw[Wf];lia);have hoL:(h1.push (seqObj "list" (es.toList.map (·.key)).toArray 0)).get? _=some (seqObj "list" (es.toList.map _).toArray 0):=Qa _ J;refine Qw<|Ev<|Wn Pm ⟨_,hoL,rfl⟩ Ph (zOL W (s:={ s with heap:=h1.push<|seqObj "list" (es.toList.map _).toArray 0,toks:=tk }) hoL jc (λh2 h' kp=>?_) ⟨_,rfl,?_⟩)<|args_list_sort _
 .have:=hq (by rw[<-hl];exact h2) h' tk λb o e=>kp b o (Qn<|Qs<|k b o e)<|Qe _<|k b o e;rw[<-hl] at this;exact this
 .obtain⟨n,hn⟩:=sortedHeap_at (out:=List.toArray<|(vW lt (es.toList.map _).length).map λi=>(es.toList.map _).getD i _) hoL;rw[hl] at hn;refine Qo ⟨_,J,h h1 _ tk n k (λc o z=>?_) (by rw[hl];exact hn)⟩;have lt:=Qs z;exact(sortedHeap_old (Qn lt) (by rw[Rr];exact Ru lt)).trans (Qe _ z)
end
end L2
variable{Q:Unit->qw->Prop}{vs:jo}
namespace L2
def Good.lend (g:!21)(e:O[i]?=some (.ow ds)):∃p vs,G p=none/\H p=some (.lst vs)/\Good K G0 H0 (upd G p<|.lst vs) H U (zR4 i O):=by
 have fe:zR4 i O=O.set i (.fz<|.lst ds):=by unfold zR4;rw[e]
 rw[fe];exact g.lendL e
mutual
def zDn:D->Bool
 | .non=>true
 | .bl _=>true
 | .int _=>true
 | .str _=>true
 | .tup ds=>zHb ds
 | _=>false
def zHb:kd->Bool
 | []=>true
 | d::r=>zDn d&&zHb r
end
def zWO (G:Hp)(p:qu):Hp:=λa=>if a=p then none else G a
def vQ {p:qu}(h:a≠p):zWO G p a=G a:=Qc h
def qH {p:qu}:zWO G p p=none:=Qg J
def Step.back {p:qu}{us:kj}(s:Step (upd G p<|.lst us) H G1 H')(hG:G p=none)(hH:H p=some (.lst us)):Step G H (zWO G1 p) H'/\G1 p=some (.lst us):=by
 refine⟨⟨s.hh,λb u e=>?_,λb u e=>?_,λa o ha hn=>?_⟩,s.gg p _ zN⟩
 .have hb:b≠p:=λz=>by rw[z,hG] at e;cases e
  rw[vQ hb];exact s.gg b u (by rw[zG hb];exact e)
 .by_cases hb:b=p
  .rw[hb,qH] at e;cases e
  .rw[vQ hb] at e;exact s.sub b u e
 .by_cases hb:a=p
  .rw[hb,qH,hG]
  .rw[vQ hb,s.new a o ha hn,zG hb]
def zFS (i:Nat)(O:ki):Bool:=match O[i]? with | some (.ow _)=>true | _=>false
def zLR (h:zFS i O=true):∃ds,O[i]?=some (.ow ds):=by
 unfold zFS at h;split at h
 .exact⟨_,by assumption⟩
 .cases h
def zNP (i:Nat)(t:Tf):Tf:=λO=>if zFS i O then t (zR4 i O) else none
def zIF (i:Nat)(h:PFT X e ta):PFT X e<|zNP i ta:=by
 refine PT.to h ?_;rintro U H Q ⟨G0,H0,G,O,b,j0,hf,k⟩;unfold zNP at hf;split at hf
 .rename_i ho;obtain⟨ds,ho⟩:=zLR ho;obtain⟨p,vs,hG,hH,good'⟩:=j0.lend ho;exact⟨G0,H0,_,_,b,good',hf,λH' G1 s=>k H' _ (s.back hG hH).1⟩
 .cases hf
def zQ8 (f:Ef):Tf:=λO=>(f O).bind λx=>match x with | .lst ds=>some (!ds.isEmpty) | _=>none
def zZI (ha:PF X e fa)(he:∀whole,isTrue e X.env whole=(do let v ←whole;standAt e.pos;holding [v] (truthy v)):=by intro _;rfl):PFT X e<|zQ8 fa:=by
 refine PT.to (zLd ha he) ?_;rintro U H Q ⟨G0,H0,G,O,c,j0,hf,k⟩;obtain⟨x,h1,hf⟩:=k8 hf;cases x with
 | lst ds =>
  cases hf
  sleep 4
  obtain⟨p,vs,rfl,q,rs⟩:=xF.mp r1;refine⟨_,.inl ⟨vs,s1.sub.seq q,?_⟩,k _ G1 s1⟩;cases ds<;>cases vs<;>first | rfl | cases rs.length
 | _=>cases hf
def zT2 (h:qx)(e:qu)(v:qv):Prop:=v = .none\/∃T oT ts,v = .ref T/\T≠e/\h.get? T=some oT/\oT.data = .fields ts/\ts[3]?=some .none
structure Flew (fs:kn)(e:qu)(c:qv)(od:kq)(vs:jo)(sl:Array km)(h h':qx):Prop where
 obj:h'.get? e=some { cls:=c,dict:=od,data:=.fields<|vs.setIfInBounds 1<|.ref h.objs.size,slots:=sl }
 ne:h.objs.size≠e
 head:∃oT ts,h'.get? h.objs.size=some oT/\oT.data = .fields ts/\ts[3]?=some .none
 keep:∀b o,h.get? b=some o->b≠e->b∉fs->some (Value.ref b)≠vs[1]?->h'.get? b=some o
 slot:∀b o,h.get? b=some o->b≠e->b∈fs->some (Value.ref b)≠vs[1]?->∃z,h'.get? b=some { o with slots:=z }
def cX {c x:qv}{k:Nat}(ho:s.heap.get? a=some { cls:=c,dict:=od,data:=.fields vs,slots:=sl })(hk:k < vs.size)(h:∀h',h'.get? a=some { cls:=c,dict:=od,data:=.fields<|vs.setIfInBounds k x,slots:=sl }->Heap.SameBut a s.heap h'->Q () (!15)):wpAny M A (setField (.ref a) k x) Q E s :=
 Pv ho rfl hk (h _ (En _ ho J)<|Yw ..)
def zUR {L e:qu}{c:qv}{hd:qv}{nx:Bool}(hfr:A.frames=some (env::outer)) (hl:s.heap.FunFrames base<|env::outer) (hf:env.frame=some L)(he:s.heap.get? e=some { cls:=c,dict:=od,data:=.fields vs,slots:=sl }) (hsz:1 < vs.size)(h:∀h',(h'.get? e=some { cls:=c,dict:=od,data:=.fields<|vs.setIfInBounds 1<|.ref s.heap.objs.size,slots:=sl }/\s.heap.objs.size≠e/\∃oT ts,h'.get? s.heap.objs.size=some oT/\oT.data = .fields ts/\ts[3]?=some .none) -> (∀b o,s.heap.get? b=some o->b≠e->b∉frs (env::outer)->h'.get? b=some o)->(∀b o,s.heap.get? b=some o->b≠e->b∈frs (env::outer)->∃z,h'.get? b=some { o with slots:=z })->Q () (!15)):wpAny M A (do let a ←frameOf env;let pl ←entryPlaceOf L nx;let b ←EntryCells.newEntry hd a .none (rawInt L) .none pl;setField (.ref e) 1 b) (λ_ s'=>wpAny M A (setFlight (.ref e) none) Q E s') E s:=by
 have ne:e∉frs (env::_):=λz=>by
  obtain⟨_,o,q,n⟩:=hl.mem z
  grind
 refine Qw<|wpAny_frameOf_fun hfr hl hf λg1 k1=>Qw<|wpAny_entryPlaceOf λpl hp=>Qw<|Ex ?_<|hp.sizeOk5 _ _ _ _ _;have e1:=(k1.2.1 e ne).trans he;have ln:_≠e:=λz=>Wg _<|z ▸ Qs e1;have hsz3:3 < ([hd,.ref L,.none,rawInt L,.none]++(if pl.isEmpty then List.replicate 6 Value.none else pl)).toArray.size:=by rw[Qd,Qp];show 3 < 5+_;lia
 generalize hts:([hd,.ref L,.none,rawInt L,.none]++(if pl.isEmpty then List.replicate 6 _ else pl)).toArray=ts at hsz3;have e2:(g1.push { cls:=.type "traceback",data:=.fields ts }).get? e=some { cls:=c,dict:=od,data:=.fields vs,slots:=sl }:=Qe _ e1;have t2:(g1.push { cls:=.type "traceback",data:=.fields ts }).get? _=some { cls:=.type "traceback",dict:=none,data:=.fields ts,slots:=#[] }:=Qa _ J;refine cX e2 hsz λg3 e3 k3=>Qw<|Ep e3 rfl (x:=.ref _) (by simp[hsz])<|cX (k3.extBut _ _ ln t2) hsz3 λg4 t4 k4=>h g4 (by rw[<-k1.1];exact⟨k4.extBut _ _ (λz=>ln z.symm) e3,ln,_,_,t4,J,by simp[hsz3]⟩) (λb o q n1 n2=>?_) λb o q n1 n2=>?_
 .have q1:=(k1.2.1 b n2).trans q;exact k4.extBut _ _ (Qn<|Qs q1)<|k3.extBut _ _ n1<|Qe _ q1
 .obtain⟨w,q1⟩:=k1.2.2 b o q;exact⟨w,k4.extBut _ _ (Qn<|Qs q1)<|k3.extBut _ _ n1<|Qe _ q1⟩
def zVQ {L e:qu}{c:qv}(hfr:A.frames=some (env::outer)) (hl:s.heap.FunFrames base<|env::outer) (hf:env.frame=some L)(he:s.heap.get? e=some { cls:=c,dict:=od,data:=.fields vs,slots:=sl }) (hv:vs[1]?=some v) (hh:zT2 s.heap e v)(h:∀h',Flew (frs<|env::outer) e c od vs sl s.heap h'->Q () (!15)):wpAny M A (noteFrame (.ref e) env) (λ_ s'=>wpAny M A (setFlight (.ref e) none) Q E s') E s:=by
 have hsz:=(Rh.mp hv).1;unfold noteFrame;simp only[hf];refine Qw<|Ep he rfl hv ?_;rcases hh with rfl | ⟨T,oT,ts,rfl,ne,hT,hdT,h3⟩
 .rw[Qc jb];exact zUR hfr hl hf he hsz λh' a1 a2 a3=>h h' ⟨a1.1,a1.2.1,a1.2.2,λb o q n1 n2 _=>a2 b o q n1 n2,λb o q n1 n2 _=>a3 b o q n1 n2⟩
 .rw[Qg jg];refine Qw<|Ep hT hdT h3 ?_;obtain⟨cT,dT⟩:=oT;subst hdT;refine Qw<|cX hT (Rh.mp h3).1 λg1 t1 k1=>?_;have up:∀b o,b≠T->s.heap.get? b=some o->g1.get? b=some o:=λb o z q=>k1.extBut _ _ z q;have nT:∀b o,s.heap.get? b=some o->(∀vs,o.data ≠ .fields vs)->b≠T:=λb o q n z=>by
   rw[z,hT] at q;cases q;exact n ts J
  refine zUR hfr (hl.of_keeps λb o q n=>⟨o,up b o (nT b o q n) q,J⟩) hf (up _ _ (λz=>ne z.symm) he) hsz λh' a1 a2 a3=>?_;rw[k1.1] at a1;exact h h' ⟨a1.1,a1.2.1,a1.2.2,λb o q n1 n2 n3=>a2 b o (up b o (λz=>n3<|by rw[hv,z]) q) n1 n2,λb o q n1 n2 n3=>a3 b o (up b o (λz=>n3<|by rw[hv,z]) q) n1 n2⟩
def zSx {L e:qu}{c:qv}(hfr:A.frames=some (env::outer)) (hl:s.heap.FunFrames base<|env::outer) (hf:env.frame=some L)(he:s.heap.get? e=some { cls:=c,dict:=od,data:=.fields vs,slots:=sl }) (hv:vs[1]?=some v) (hh:zT2 s.heap e v)(h:∀h',Flew (frs<|env::outer) e c od vs sl s.heap h'->Q () (!15)):wpAny M A (leaving env<|.ref e) Q E s:=Qw<|zVQ hfr hl hf he hv hh h
def zRP {o oT:Obj}{ts:jo}(ho:s.heap.get? a=some o)(hd:o.data = .fields vs)(hv:vs[1]?=some (.ref T))(hT:s.heap.get? T=some oT)(hdT:oT.data = .fields ts)(h3:ts[3]?=some .none)(h:∀h',(∀b u,s.heap.get? b=some u->h'.get? b=some u)->Q () (!15)):wpAny M A (setFlight (.ref a) none) Q E s:=by
 refine Qw<|Ep ho hd hv ?_;obtain⟨cT,dT⟩:=oT;subst hdT;refine cX hT (Rh.mp h3).1 λg q1 q2=>h g λb u q=>?_
 by_cases hb:b=T
 .subst hb;rw[hT] at q;cases q;rw[q1];have:ts.setIfInBounds 3 ((none:kq).elim Value.none λf=>rawInt f)=ts:=by
   apply Array.ext_getElem?;intro k;rw[Array.getElem?_setIfInBounds];split
   .rename_i z;subst z;split
    .exact h3.symm
    .simp_all
   .rfl
  rw[this]
 .exact q2.extBut _ _ hb q
structure Fly (h:qx)(H:Hp)(h0:qx)(C a:qu):Prop where
 ob:∃vs v,h.get? a=some { cls:=.ref C,dict:=none,data:=.fields vs,slots:=#[] }/\vs[1]?=some v/\zT2 h a v/\∀T,v = .ref T->H T=none/\h0.get? T=none
 free:H a=none
 new:h0.get? a=none
def CXq (P:Program)(w:qz):CXT:=λouter H s E e s'=>∃C a H',e = .ref a/\s'.os=s.os/\AllBare s'.gens/\Un (frs outer) [] H H' s.heap s'.heap/\HOk P w H' s'.heap/\Fly s'.heap H' s.heap C a/\E (!1) none H'
section
variable{E:XK}
def zGV (I:Inv (qP (CXq P w) P w K mg base N qual scope f cd A outer s₀ H₀ E) Z U H s)(fl:Fly s.heap H s₀.heap C a)(hE:E (!1) none H):(qP (CXq P w) P w K mg base N qual scope f cd A outer s₀ H₀ E).xe (.ref a) s:=by
 obtain⟨vs,v,ho,hv,hh,hT⟩:=fl.ob;refine zSx (base:=base) I.ok.frames I.stack J ho hv hh λh' fw=>?_;have old:∀b o,s₀.heap.get? b=some o->b≠a/\some (Value.ref b)≠vs[1]?/\b≠_:=λb o q=>by
  refine⟨λz=>?_,λz=>?_,λz=>Wg _<|z ▸ Qs q⟩
  .rw[z,fl.new] at q;cases q
  .simp_all
 have inF:∀b,b∈frs (envOfC qual scope s₀.heap.objs.size f cd::outer)↔b=_\/b∈frs _:=λb=>by exact Qz
 have U99:=I.base;refine⟨C,a,H,J,I.os,I.bare,⟨λb o q n hb hx=>?_,λb o q n hb hx=>?_,λb o q n hx=>U99.free b o q n hx,λb o q hx=>?_,U99.tups,U99.frzs,U99.tbls⟩,λb o q=>?_,⟨⟨_,_,fw.obj,by rw[Ik (Rh.mp hv).1],.inr ?_,λT z=>?_⟩,fl.free,fl.new⟩,hE⟩
 .obtain⟨n1,n2,n3⟩:=old b o q;exact fw.keep b o (U99.keep b o q n hb hx) n1 (λz=>((inF b).mp z).elim n3 hb) n2
 .obtain⟨n1,n2,n3⟩:=old b o q;obtain⟨z,q1⟩:=U99.slot b o q n hb hx;obtain⟨z',q2⟩:=fw.slot b _ q1 n1 ((inF b).mpr<|.inr hb) n2;exact⟨z',q2⟩
 .obtain⟨n1,n2,n3⟩:=old b o q;obtain⟨o1,q1⟩:=U99.there b o q hx
  by_cases hb:b∈frs (envOfC qual scope s₀.heap.objs.size f cd::outer)
  .obtain⟨z,q2⟩:=fw.slot b o1 q1 n1 hb n2;exact⟨_,q2⟩
  .exact⟨o1,fw.keep b o1 q1 n1 hb n2⟩
 .refine(I.hok b o q).stay (λb' u hb' q'=>?_) (λ_ z=>z) (λ_ _ z=>z);have tr:H b'≠none:=by
   rcases hb' with z | z
   .simp_all
   .simp_all
  refine fw.keep b' u q' (λz=>tr (by rw[z];exact fl.free)) (λz=>tr<|I.stkFree b' z) λz=>?_;rw[hv] at z;exact tr (hT b' (Ri z).symm).1
 .obtain⟨oT,ts,h1,h2,h3⟩:=fw.head;exact⟨_,oT,ts,J,fw.ne,h1,h2,h3⟩
 .cases z;refine⟨I.fresh,?_⟩;cases y:s₀.heap.get? _ with
  | none=>rfl
  | some o=>exact absurd (Qs y)<|Im.mpr I.sz
def zEH {E':XK}(h:∀(C:qu) (H:Hp),E' (!1) none H->E (!1) none H):oZ (CXq P w) (qP (CXq P w) P w K mg base N qual scope f cd A outer s₀ H₀ E) E':=by
 intro Z U H s e s' I hx;obtain⟨C,a,H',rfl,os,bare,un,hok,fl,he⟩:=hx;obtain⟨vs,v,ho,hv,hh,hT⟩:=fl.ob;have back:∀b,s.heap.get? b=none->s₀.heap.get? b=none:=λb z=>by
  cases y:s₀.heap.get? b with
  | none=>rfl
  | some o =>obtain⟨o',q⟩:=I.base.there b o y (λz=>nomatch (show b∈([]) from z));rw[z] at q;cases q
 exact zGV (I.call' os un hok bare λb z=>absurd z je) ⟨⟨vs,v,ho,hv,hh,λT z=>⟨(hT T z).1,back T (hT T z).2⟩⟩,fl.free,back a fl.new⟩<|h C H' he
end
def zST (X:Cx)(E:XK):Prop:=∀(Z:jm) (U:St) (H:Hp) (s:qw) (C a:qu),Inv X Z U H s->Fly s.heap H X.s₀.heap C a->E (!1) none H->X.xe (.ref a) s
section
variable{E:XK}{t:TA}
def zIz (M:zMv X.K C){Q:jl}(I:!3)(hl:us.length<=1000)(h:∀h' a t,Inv X Z U H (!15)->s.heap.get? a=none->h'.get? a=some { cls:=.ref C,data:=.fields #[.ref t,.none,.none,.none,.bool false,.none] }->Q (.ref a) (!15)):wpAny (!5) X.A (call (!1) us) Q X.xe s:=by obtain⟨bm,N,nm,qn,bs,hdct,sn,sub,ab,col,dd,k0,k1,k2,k3,k5,hk,x1,x2,x3⟩:=M;have hsl:1001<=_:=Ww<|xR jb;refine wpAny_call_exc_subU F.excBase_ValueError J F.excBase_ValueError (tail_of_in I.kIn x3) (I.kIn _ _ hk) (.of_isNs<|isNs_of_in I.kIn x1) (nsMap_none_of_in I.kIn x1 x2) (λh' a m=>?_) jc;obtain⟨t,et,_⟩:=m.there;exact h h' a t (I.kept m.keeps) m.new et
def zFC (C:qu)(E:XK)(t:TA):TS:=λ_ U H=>t U H λvs H1=>vs.length<=1000/\E (!1) none H1
def zLc (M:zMv X.K C)(hx:X.ex=[])(hm:X.mg c=some (!1))(kp:keepIn X.K (!1)=true)(hg:Gl X c)(hc:!24)(th:zST X E)(ha:PA X (e::es) t)(hdb:(c==("__debug__":Str))=false:=by decide)(he:!23:=by rfl) (hpl:(backTo cpos (!25)).any (·.1)=false:=by rfl):PS X (.Raise (some<|.Call (.Name c p) (e::es) [] cpos) none pos)<|zFC C E t:=by
 intro Z s U H D I h;obtain⟨bm,N,nm,qn,bs,hdct,sn,sub,ab,col,dd,k0,k1,k2,k3,k5,hk,x1,x2,x3⟩:=id M;refine Qw<|Oj<|wpAny_raiseStmt_made_sub (C:=C) (nm:=nm) (q:=qn) (N:=N) (bs:=bs) (hdct:=hdct) (sn:=sn) (sub:=sub) (ab:=ab) (col:=col) (dd:=dd) (k0:=k0) (k1:=k1) (k2:=k2) (k3:=k3) (k5:=k5) (newId:="ValueError.__new__") ((tail_of_in I.kIn x3).hasType J) (I.ok.hd hc)<|Qw<|thn (Em<|gU I hg hm (Te I.ok.mod.kin kp (thn (ha cpos Z s U H _ I h) λus s1 ⟨vs,H1,I1,r,q1,q2⟩=>⟨I1.kIn,(zIz M I1 (by rw[Il,<-r.length];exact q1) λh' a t I2 new ob=>⟨a,t,J,I2.kIn _ _ hk,ob,th Z U H1 _ C a I2 ⟨⟨_,_,ob,J,.inl J,λT z=>nomatch z⟩,?_,?_⟩ q2⟩)⟩) he hpl) hdb) λv s1 q=>Qw<|Oj<|Qo q
 .cases z:H1 a with
  | none=>rfl
  | some o=>obtain⟨u,y⟩:=(I1.hok a o z).got;rw[new] at y;cases y
 .cases z:X.s₀.heap.get? a with
  | none=>rfl
  | some o =>obtain⟨u,y⟩:=I1.base.there a o z (!9);rw[new] at y;cases y
end
theorem zW9 {α:Type}(p:α->Bool):∀(l:!10) (i:Nat),(∀x,l[i]?=some x->p x=false)->(l.eraseIdx i).find? p=l.find? p
 | [],_,_=>rfl
 | x::r,0,h=>by simp_all
 | x::r,i+1,h=>by rw[Iq,Yp,Yp,zW9 p r i λy e=>h y (!6)]
def zJD {k:qv}(h:k.isStr x=true)(ne:y≠x):k.isStr y=false:=by
 cases k<;>simp_all [Value.isStr]
 exactλq=>ne q.symm
def zF8 {m:Str->km}{n:Str}{Q:Bool->qw->Prop}(hn:s.heap.Ns a m)(hQ:∀h' m',h'.Ns a m'->(∀x,x≠n->m' x=m x)->Heap.SameBut a s.heap h'->Q (m n).isSome (!15)):wpAny M A (nsDel a n) Q E s:=by
 obtain⟨⟨c,d,dt,sl⟩,es,ep,ho,hd,hk,hm⟩:=id hn;subst hd;have noref:es.any (·.refKey)=_:=Array.any_eq_false'.mpr λe he=>by obtain⟨w,t,q⟩:=hk e he;simp[DictEntry.refKey,q]
 have hh:nsHas n ⟨c,d,.dict es ep,sl⟩=pure (es.any (·.key.isStr n)):=by rw[nsHas_eq];show(if (es.any λx=>x.key.isStr n)=true then _ else _)=_;cases es.any λx=>x.key.isStr n<;>simp[noref]
 have hs:(m n).isSome=es.any (·.key.isStr n):=by rw[<-hm n];unfold nsFind findBy;rw[Uk,To,Array.find?_isSome,Array.any_eq_true']
 refine Qw<|Pc ho ?_;rw[hh];refine Qw<|Qo ?_;rw[<-hs];cases hb:(m n).isSome with
 | false =>have:=hQ _ m hn (λ_ _=>rfl)<|.refl ..;rw[hb] at this;exact Qo this
 | true =>
  refine Qw<|wpAny_updatePart ho<|Qo ?_;rw[hb] at hs;obtain⟨k,hk1⟩:=Array.any_eq_true'.mp hs.symm;cases hi:es.findIdx? (·.key.isStr n) with
  | none =>simp_all
  | some i =>
   have hd':Obj.dropName n ⟨c,d,.dict es ep,sl⟩=⟨c,d,.dict (es.eraseIdxIfInBounds i)<|ep+1,sl⟩:=by rw[Obj.dropName_eq];unfold Obj.dropNameByArray;dsimp only;rw[hi]
   have hg:=En (Obj.dropName n) ho (by rw[hd'];rfl);rw[hd'] at hg;have:=hQ _ (nsFind<|es.eraseIdxIfInBounds i) ⟨_,_,_,hg,J,hk.erase i,λ_=>rfl⟩ (λx ne=>?_)<|Yw ..
   .simp_all
   .rw[<-hm x];unfold nsFind findBy;congr 1;obtain⟨hlt,hp,_⟩:=(Array.findIdx?_eq_some_iff_getElem.mp hi)
    rw[<-Od,<-Od,show(es.eraseIdxIfInBounds i).toList=es.toList.eraseIdx i by simp[Array.eraseIdxIfInBounds,hlt]];refine zW9 _ _ _ λy e=>zJD (x:=n) ?_ ne;rw[Qj<|by simpa using hlt] at e;cases e;simpa using hp
def Inv.gone {n:Str}{m m':Str->km}(I:!3)(hN:X.N.Nodup)(hi:X.N[i]?=some n)(hm:s.heap.Ns X.env.locals m)(hm':h'.Ns X.env.locals m')(e:∀x,x≠n->m' x=m x)(sb:Heap.SameBut X.env.locals s.heap h'):Inv X Z (U.set i none) H { s with heap:=h',toks:=t' }:=by
 have keep:∀b o,b≠_->s.heap.get? b=some o->h'.get? b=some o:=λb o ne q=>sb.extBut _ _ ne q;have neL:∀b o,X.s₀.heap.get? b=some o->b≠_:=λb o q=>Qn<|Wr (Qs q) I.ok.above;obtain⟨m0,hn0,hl⟩:=I.loc;have em:∀x,m0 x=m x:=λx=>by obtain⟨o,es,ep,q1,q2,_,q3⟩:=hn0;obtain⟨o',es',ep',r1,r2,_,r3⟩:=hm;rw[q1] at r1;cases r1;rw[q2] at r2;cases r2;rw[<-q3,<-r3]
 refine⟨I.ok,I.os,I.bare,⟨λb o q n hb hx=>keep b o (neL b o q)<|I.base.keep b o q n hb hx,λb o q n hb hx=>?_,I.base.free,λb o q hx=>?_,I.base.tups,I.base.frzs,I.base.tbls⟩,⟨m',hm',λj x v hj hU hv=>?_⟩,λx c q=>?_,I.free,I.freeC,λp hp=>?_,λb o q=>?_,?_⟩
 .obtain⟨z,y⟩:=I.base.slot b o q n hb hx;exact⟨z,keep b _ (neL b o q) y⟩
 .obtain⟨z,y⟩:=I.base.there b o q hx;exact⟨z,keep b _ (neL b o q) y⟩
 .have ji:j≠i:=λz=>by
   subst z
   by_cases hl':j < U.length
   .rw[Rs hl'] at hU;cases hU
   .rw[List.getElem?_eq_none (by rw[Ps];lia)] at hU;cases hU
  rw[Wb<|Ne.symm ji] at hU;obtain⟨u,r,lk⟩:=hl j x v hj hU hv;have xn:x≠n:=λz=>ji (by subst z;exact(List.getElem?_inj (v5 hj).1 hN).mp (hj.trans hi.symm))
  refine⟨u,r,?_⟩;rcases lk with⟨k1,k2⟩ | ⟨k1,c,k2,ob,k3,k4⟩
  .exact .inl ⟨k1,by rw[e x xn,<-em];exact k2⟩
  .exact .inr ⟨k1,c,k2,ob,keep c ob (I.cne x c k2) k3,k4⟩
 .obtain⟨v,ob,k1,k2⟩:=I.cell x c q;exact⟨v,ob,keep c ob (I.cne x c q) k1,k2⟩
 .obtain⟨p1,p2,p3,p4⟩:=I.pin p hp;exact⟨keep _ _ p3 p1,p2,p3,p4⟩
 .refine(I.hok b o q).stay (λb' u hb' q'=>keep b' u (λz=>?_) q') (λ_ z=>z) (λ_ _ z=>z);have fr:=I.free;rcases hb' with y | y
  .grind
  .simp_all
 .rw[Ps];exact I.len
def zMF {n:Str}(I:!3)(hN:X.N.Nodup)(hi:X.N[i]?=some n)(hk:X.env.kindOf n=some .local)(hx:Loc X.env.scope n)(h:∀s',Inv X Z (U.set i none) H s'->Q () s') (hf:X.fn n=true\/X.env.scope.names.lookup n=some .local):wpAny M A (do bindName X.env n .none;unbindBehindTheSuite X.env n pos) Q E s:=by
 refine Qw<|wpAny_bindName<|zZf (v:=.non) I hN hi hx rfl (λs1 I1 _=>?_) hf;have hp:(X.env.scope.kind == .class||(X.env.scope.kind == .module&&X.env.locals != X.env.globals))=false:=by rw[I.ok.kind];rfl
 obtain⟨m1,hn1,hl1⟩:=I1.loc;refine wpAny_onRaise<|Qw<|wpAny_point<|Qw ?_;unfold deleteName;simp only[hk,hp];have hii:i < U.length:=by rw[I.len];exact(v5 hi).1
 obtain⟨u,_,lk⟩:=hl1 i n .non hi (Rs hii)<|.inl<|hk;have hs:(m1 n).isSome=true:=by
  rcases lk with⟨_,k2⟩ | ⟨k1,_⟩
  .simp_all
  .simp_all
 refine Qw<|zF8 hn1 λh2 m2 q1 q2 q3=>?_;rw[hs];refine Qo<|wpAny_point ?_;have ya:=I1.gone (t':=s1.toks) hN hi hn1 q1 q2 q3;simp_all
def Inv.caught {g:qx}(I2:Inv X Z U H2 s2)(os:s'.os=s2.os)(bare:AllBare s'.gens)(un:Un (frs X.stack) [] H2 H' s2.heap s'.heap)(hok:HOk X.prog X.w H' s'.heap)(fa:H' a=none)(na:s2.heap.get? a=none)(k1:∀b o,s'.heap.get? b=some o->(H' b≠none\/∃o',s2.heap.get? b=some o')->b∉frs X.stack->g.get? b=some o) (k2:∀b o,s'.heap.get? b=some o->(∃o',s2.heap.get? b=some o')->b∈frs X.stack->∃z,g.get? b=some { o with slots:=z })(oa:∃fs,g.get? a=some { cls:=.ref C,dict:=none,data:=.fields fs }):Inv X Z U (upd H' a<|.ext<|Xe C a none) { s' with heap:=g,toks:=t' }:=by
 have I':Inv X Z U H' s':=I2.call' (ch:=[]) os un hok bare (λb z=>nomatch z);have nea:∀b o,s2.heap.get? b=some o->b≠a:=λb o q z=>by rw[z,na] at q;cases q
 refine I2.call' (s':={ s' with heap:=g,toks:=t' }) (ch:=[]) os ⟨λb o q n hb hx=>k1 b o (un.keep b o q n hb hx) (.inr ⟨o,q⟩) hb,λb o q n hb hx=>?_,λb o q n hx=>?_,λb o q hx=>?_,λb xs q=>?_,λb o u q=>?_,λb ps q=>?_⟩ (λb o q=>?_) bare λb z=>nomatch z
 .obtain⟨z,y⟩:=un.slot b o q n hb hx;obtain⟨z',y'⟩:=k2 b _ y ⟨o,q⟩ hb;exact⟨z',y'⟩
 .rw[zG<|nea b o q];exact un.free b o q n hx
 .obtain⟨o1,y⟩:=un.there b o q hx
  by_cases hb:b∈frs X.stack
  .obtain⟨z,y'⟩:=k2 b o1 y ⟨o,q⟩ hb;exact⟨_,y'⟩
  .exact⟨o1,k1 b o1 y (.inr ⟨o,q⟩) hb⟩
 .have y:=un.tups b xs q;rw[zG<|yU y fa];exact y
 .have y:=un.frzs b o u q;rw[zG<|yU y fa];exact y
 .obtain⟨more,y⟩:=un.tbls b ps q;exact⟨more,by rw[zG<|yU y fa];exact y⟩
 .by_cases hb:b=a
  .subst hb;rw[zN] at q;cases q;exact⟨oa,(let ⟨_,e⟩:=oa;⟨_,e⟩),λh1 h2 ⟨fs,e⟩ k=>⟨fs,k _ e⟩⟩
  .rw[zG hb] at q;refine(hok b o q).stay (λb' u hb' q'=>?_) (λb' z=>by rw[zG<|yU z fa];exact z) (λb' xs z=>by rw[zG<|yU z fa];exact z);have tr:H' b'≠none:=by
    grind
   exact k1 b' u q' (.inl tr) λz=>tr<|I'.stkFree b' z
abbrev Cx.marked (X:Cx)(a:qu)(R:jl):Cx:={ X with A:=X.A.mark (!26),calm:=false,xe:=R }
theorem Cx.Ok.marked {X:Cx}(ok:X.Ok)(a:qu)(R:jl):(X.marked a R).Ok :=
 ⟨ok.mod,ok.kind,ok.glob,ok.blt,ok.above,ok.inj,ok.has,ok.cab,(λz=>by cases z),ok.frames,ok.stk,ok.exf,ok.bs,ok.bsz,ok.noex,ok.exfs,ok.funs,ok.frf⟩
def Inv.marked {X:Cx}{Z:jm}{U:St}{H:Hp}{s:qw}(I:!3)(a:qu)(R:jl):Inv (X.marked a R) Z U H s:=⟨I.ok.marked a R,I.os,I.bare,I.base,I.loc,I.cell,I.free,I.freeC,I.pin,I.hok,I.len⟩
def Inv.unmarked {R:jl}(ok:X.Ok)(I:Inv (X.marked a R) Z U H s):Inv X Z U H s:=⟨ok,I.os,I.bare,I.base,I.loc,I.cell,I.free,I.freeC,I.pin,I.hok,I.len⟩
def zLG {D:Ends}{n:Str}{yp hp:Pos}(I2:Inv X Z U H2 s2)(os:s'.os=s2.os)(bare:AllBare s'.gens)(un:Un (frs X.stack) [] H2 H' s2.heap s'.heap)(hok:HOk X.prog X.w H' s'.heap)(fl:Fly s'.heap H' s2.heap C a) (hst:X.stack=X.env::X.outer) (hef:X.env.frame=some X.env.locals) (hg:Gl X y) (hm:X.mg y=some (.ref Y)) (hdb:(y==("__debug__":Str))=false) (hx:PySem.W.exmOne X.K (!1) (.ref Y)=some true)(hN:X.N.Nodup) (hi:X.N[i]?=some n) (hk:X.env.kindOf n=some .local) (hl:Loc X.env.scope n) (hf:X.fn n=true\/X.env.scope.names.lookup n=some .local)(hs:PSs (X.marked a λ_ _=>False) (b₀::suite) t) (ht:t { nx:=λU' H''=>D.nx (U'.set i none) H'',rt:=λ_ _=>False } (U.set i (!26)) (upd H' a<|.ext<|Xe C a none)):wpAny (!5) X.A (noteFrame (.ref a) X.env) (λ_ s3=>wpAny (!5) X.A (setFlight (.ref a) none) (λ_ s4=>wpAny (!5) X.A (handleBy (.ref a) X.env [.ExceptHandler (some<|.Name y yp) (some n) (b₀::suite) hp]) (SP X Z D) X.xe s4) X.xe s3) X.xe s':=by
 have I':Inv X Z U H' s':=I2.call' (ch:=[]) os un hok bare (λb z=>nomatch z);obtain⟨vs,v,ho,hv,hh,hT⟩:=fl.ob;have hfr:X.A.frames=some (X.env::X.outer):=by rw[<-hst];exact I2.ok.frames
 have hfun:s'.heap.FunFrames X.base<|X.env::X.outer:=by rw[<-hst];exact I'.stack
 refine zVQ (base:=_) hfr hfun hef ho hv hh λh3 fw=>?_;rw[<-hst] at fw;have old:∀b o',s2.heap.get? b=some o'->b≠a/\some (Value.ref b)≠vs[1]?:=λb o' q=>by
  refine⟨λz=>?_,λz=>?_⟩
  .rw[z,fl.new] at q;cases q
  .simp_all
 have ya:∀tk,Inv X Z U (upd H' a<|.ext<|Xe C a none) { s' with heap:=h3,toks:=tk }:=λtk=>I2.caught os bare un hok fl.free fl.new (λb o q hb hn=>by
   rcases hb with z | ⟨o',z⟩
   .refine fw.keep b o q (λe=>z (by rw[e];exact fl.free)) hn λe=>z ?_;simp_all
   .exact fw.keep b o q (old b o' z).1 hn (old b o' z).2) (λb o q ⟨o',z⟩ hb=>fw.slot b o q (old b o' z).1 hb (old b o' z).2) ⟨_,fw.obj⟩
 have ya:=ya s'.toks;have hsz:1 < _:=(Rh.mp hv).1;obtain⟨oT,ts,hT1,hT2,hT3⟩:=fw.head;have cls:PySem.W.Looks (!5) h3 (typeOf<|.ref a) (!1):=(PySem.W.Looks.ld fw.obj).andThen .now;refine wpAny_handleBy_cons (codeAny_handlers_test<|gU (X:=X.marked a λ_ _=>False) (ya.marked a _) hg hm ?_ hdb) (by intro q;cases q);have kx:X.K.In h3:=ya.kIn;refine(exm_one kx cls hx) (X.A.mark (!26)) _ _ _ (λ_ _ q=>q) (codeAny_handlers_suite_as<|zRP fw.obj rfl (by rw[Ik hsz]) hT1 hT2 hT3 λh4 k4=>?_);have J4:Inv X Z U (upd H' a<|.ext<|Xe C a none) { s' with heap:=h4 }:=ya.kept (t':=_) k4;refine zXj J4 hN hi hl (v:=.ref a) J (λs6 I6=>(Ea (hs Z s6 _ _ _ (I6.marked a _) ht) (λf s7 h7=>?_) λ_ _ z=>z.elim)) hf;cases f with
 | next =>obtain⟨U',H'',I7,q7⟩:=h7;exact zMF (I7.unmarked I2.ok) hN hi hk hl (λs8 I8=>⟨_,H'',I8,q7⟩) hf
 | brk=>obtain⟨_,_,_,z⟩:=h7;exact False.elim z
 | cont=>obtain⟨_,_,_,z⟩:=h7;exact False.elim z
 | ret u=>obtain⟨_,_,_,_,_,z⟩:=h7;exact False.elim z
def spQ (K:jk)(n:Nat)(d:jz)(x:kd->kf):Sp:=λvs H Q E=>∃G ds,Same G H/\Reps K G ds vs/\ds.length=n /\
 ((∃r,d ds=some r/\∀v H' G',Step G H G' H'->Rep K G' r v->Q v H')\/∃c C,x ds=some c/\ClsAt K c C/\∀H' G',Step G H G' H'->E (!1) none H')
def tXS (K:jk)(E:XK)(x:ki->kf):TS:=λ_ U H=>∃G0 H0 G O c C,Good K G0 H0 G H U O/\x O=some c/\ClsAt K c C/\∀H' G',Step G H G' H'->E (!1) none H'
def PXS (X:Cx)(E:XK)(st:r9)(x:ki->kf):Prop:=PS X st<|tXS X.K E x
def zZE (X:Cx)(E:XK)(sts:qg)(x:ki->kf):Prop:=PSs X sts<|tXS X.K E x
def tXE (K:jk)(E:XK)(x:ki->kf):TE:=λU H _=>∃G0 H0 G O c C,Good K G0 H0 G H U O/\x O=some c/\ClsAt K c C/\∀H' G',Step G H G' H'->E (!1) none H'
def PXE (X:Cx)(E:XK)(e:r8)(x:ki->kf):Prop:=PE X e<|tXE X.K E x
def zCJ (K:jk)(p:ki->Bool):TA:=λU H Q=>∃G0 H0 G O,Good K G0 H0 G H U O/\p O=true/\∀vs H' G',Step G H G' H'->vs.length<=1000->Q vs H'
def zK6 (X:Cx)(es:qt)(p:ki->Bool):Prop:=PA X es<|zCJ X.K p
section
variable{E:XK}{a:r8}{x:ki->kf}{rest:qg}
def zKj (hC:ClsAt X.K c C)(M:zMv X.K C)(hx:X.ex=[])(hm:X.mg c=some (!1))(kp:keepIn X.K (!1)=true)(hg:Gl X c)(hc:!24)(th:zST X E)(ha:zK6 X (e::es) q)(hdb:(c==("__debug__":Str))=false:=by decide)(he:!23:=by rfl) (hpl:(backTo cpos (!25)).any (·.1)=false:=by rfl):PXS X E (.Raise (some<|.Call (.Name c p) (e::es) [] cpos) none pos) λO=>if q O then some c else none:=by
 intro Z s U H D I h;obtain⟨G0,H0,G,O,c',C',j0,hq,hC',k⟩:=h;dsimp only at hq;split at hq
 .rename_i hq';cases hq;have ec:=hC.one hC';subst ec;exact zLc M hx hm kp hg hc th ha hdb he hpl Z s U H D I ⟨G0,H0,G,O,j0,hq',λvs H' G' st hl=>⟨hl,k H' G' st⟩⟩
 .simp_all
def zGX (ht:PFT X a tt)(h1:zZE X E sts xa)(h2:zZE X E rest xb):PXS X E (.If a sts rest pos) λO=>(tt O).bind λc=>if c=true then xa O else xb O:=by
 intro Z s U H D I h;obtain⟨G0,H0,G,O,c,C,j0,hq,hC,k⟩:=h;obtain⟨v,hv,hq⟩:=k8 hq;refine zRz ht h1 h2 Z s U H D I ⟨G0,H0,G,O,v,j0,hv,λH1 G1 st=>?_⟩;cases v with
 | true =>exact⟨G0,H0,G1,O,c,C,j0.step st,hq,hC,λH' G' st'=>k H' G'<|st.trans st'⟩
 | _ =>exact⟨G0,H0,G1,O,c,C,j0.step st,hq,hC,λH' G' st'=>k H' G'<|st.trans st'⟩
theorem zMi:zZE X E [] λ_=>none:=λZ s U H D I h=>by obtain⟨_,_,_,_,_,_,_,z,_⟩:=h;cases z
def uC (h:PXS X E st x):zZE X E (st::rest) x:=by exactλZ s U H D I q=>tP (u:=λ_ _ _=>False) h (λZ s U H D I z=>z.elim) Z s U H D I q
def zZr (h:PXE X E e x)(hs:swapsWith e none pos.line X.env=pure false:=by rfl):PXS X E (.Expr e pos) x:=λZ s U H D I q=>pV h hs Z s U H D I q
def zHy {k:Nat}{d:jz}(F:FnOk X.prog X.w X.K X.mg X.base (CXq X.prog X.w) k fad fd ps<|spQ X.K n d xf)(hp:oZ (CXq X.prog X.w) X E)(hr:Room k X.A)(hm:X.mg y=some (.ref fad))(hk:keepIn X.K (.ref fad)=true)(hb:Binds X.K fd ps [])(hg:Gl X y)(ha:PFA X (e::es) ga) (hdb:(y==("__debug__":Str))=false:=by decide) (he:!23:=by rfl) (hpl:(backTo pos (!25)).any (·.1)=false:=by rfl):PXE X E (.Call (.Name y p) (e::es) [] pos) λO=>(ga O).bind λds=>if ds.length=n then xf ds else none:=by
 intro Z s U H Q I h;obtain⟨G0,H0,G,O,c,C,j0,hq,hC,k⟩:=h;obtain⟨ds,h1,hq⟩:=k8 hq;split at hq
 .rename_i hl;refine zZF F hr hg hm hk hb .nil hp ha hdb he hpl Z s U H Q I ⟨G0,H0,G,O,_,j0,h1,λvs H1 G1 s1 r1=>?_⟩;show spQ X.K n d xf _ H1 Q E;rw[Wo];exact⟨G1,ds,s1.sub,r1,hl,.inr ⟨c,C,hq,hC,λH' G' st=>k H' G'<|s1.trans st⟩⟩
 .simp_all
def zRk {k:Nat}{d:jz}(F:FnOk X.prog X.w X.K X.mg X.base (CXq X.prog X.w) k fad fd ps<|spQ X.K n d xf)(hr:Room k X.A)(hm:X.mg y=some (.ref fad))(hk:keepIn X.K (.ref fad)=true)(hb:Binds X.K fd ps [])(hg:Gl X y)(ha:PFA X (e::es) ga) (hdb:(y==("__debug__":Str))=false:=by decide) (he:!23:=by rfl) (hpl:(backTo pos (!25)).any (·.1)=false:=by rfl):PF X (.Call (.Name y p) (e::es) [] pos)<|yZ n d ga:=by
 refine PE.to (zZF (E:=E0) F hr hg hm hk hb .nil (λZ U H s e s' I h=>by obtain⟨_,_,_,_,_,_,_,_,_,z⟩:=h;exact z.elim) ha hdb he hpl) ?_;rintro U H Q ⟨G0,H0,G,O,r,j0,hf,k⟩;obtain⟨ds,h1,hf⟩:=k8 hf;split at hf
 .rename_i hl;refine⟨G0,H0,G,O,_,j0,h1,λvs H1 G1 s1 r1=>?_⟩;show spQ X.K n d xf _ H1 Q E0;rw[Wo];exact⟨G1,ds,s1.sub,r1,hl,.inl ⟨r,hf,λv H' G' st rr=>k v H' G' (s1.trans st) rr⟩⟩
 .simp_all
end
section
variable{k:Nat}
def zG7 (F:Fun K x qual st f fd)(S:FnScope N ps<|zV st)(hb:∀(j9:qv) (A:qy) (outer:qb) (s:qw) (H:Hp) (E:XK),Room k (!37)->PFSs (qP (CXq P w) P w K mg base N qual (zV st) f j9 A outer s H E) (xL st) body)(hx:∀(j9:qv) (A:qy) (outer:qb) (s:qw) (H:Hp) (E:XK),Room k (!37)->zZE (qP (CXq P w) P w K mg base N qual (zV st) f j9 A outer s H E) E (xL st) xb):FnOk P w K mg base (CXq P w) (k+1) f fd ps<|spQ K ps.length (fnF N.length body) λds=>xb<|zZg N.length ds:=by
 obtain⟨oc,od,kV,doc,pm,an,j9,ct,osl,rfl,lk,hcd⟩:=F.ex;refine zGN lk hcd S (λvs H Q E h=>?_) λA _ s H vs Q E hr h=>?_
 .obtain⟨G,ds,sub,rs,hl,_⟩:=h;rw[<-rs.length];exact hl
 .obtain⟨G,ds,sub,rs,hl,h | ⟨c,C,hc,hC,k⟩⟩:=h
  .obtain⟨d,hf,k⟩:=h;refine⟨_,hb j9 A _ s H E hr,?_⟩;obtain⟨o,h1,h2⟩:=k8 hf;refine⟨G,H,G,_,o,mY sub rs,h1,?_⟩;cases o with
   | nx O=>cases h2;exactλU' H' G' s' g'=>k .non H' G' g'.st<|sX.mpr rfl
   | rt e=>cases h2;exactλv H' G' s' r=>k v H' G' s' r
   | rl es=>cases h2;exactλp us H' G' s' hn hp gp r=>k _ H' _ (s'.frz hn hp gp)<|xF.mpr ⟨p,us,rfl,.of zN,r.mono<|Same.new gp⟩
   | bk O=>cases h2
   | ct O=>cases h2
  .exact⟨_,hx j9 A _ s H E hr,⟨G,H,G,_,c,C,mY sub rs,hc,hC,k⟩⟩
end
def zWq {Q:Flow->qw->Prop}{R:jl}(h:wpAny M A (exec st env) (λ_ _=>False) R s):wpAny M A (execs [st] env) Q R s:=Iw<|Ea h (λ_ _ z=>z.elim) λ_ _ z=>z
def PXB (X:Cx)(st:r9)(xb:ki->kf):Prop:=∀(Z:jm) (s:qw) (U:St) (H:Hp) (R:jl) (G0 H0 G:Hp) (O:ki) (c:Str) (C:qu),Inv X Z U H s->Good X.K G0 H0 G H U O->xb O=some c->ClsAt X.K c C ->
 (∀s2 H2 G2 e s',Inv X Z U H2 s2->Step G H G2 H2->CXq X.prog X.w X.stack H2 s2 (λv _ H'=>v = .ref C/\∃G',Step G2 H2 G' H') e s'->R e s')->wpAny (!5) X.A (exec st X.env) (λ_ _=>False) R s
section
variable{a b:r8}{st':r9}
def zG9 (hno:∀e s,¬X.xe e s)(ht:PFT X a tt)(h1:PXB X st xa)(h2:PXB X st' xb):PXB X (.If a [st] [st'] pos) λO=>(tt O).bind λc=>if c=true then xa O else xb O:=by
 intro Z s U H R G0 H0 G O c C I j0 hq hC k;obtain⟨v,hv,hq⟩:=k8 hq;refine wpAny_If<|Ea (ht Z s U H (λb H1=>b=v/\∃G1,Step G H G1 H1) I ⟨G0,H0,G,O,v,j0,hv,λH1 G1 st=>⟨J,G1,st⟩⟩) (λb s1 ⟨H1,I1,eb,G1,st1⟩=>?_) λe s z=>(hno e s z).elim;subst eb;cases b with
 | true =>exact zWq<|h1 Z s1 U H1 R G0 H0 G1 O c C I1 (j0.step st1) hq hC λs2 H2 G2 e s' I2 st2 hx=>k s2 H2 G2 e s' I2 (st1.trans st2) hx
 | _ =>exact zWq<|h2 Z s1 U H1 R G0 H0 G1 O c C I1 (j0.step st1) hq hC λs2 H2 G2 e s' I2 st2 hx=>k s2 H2 G2 e s' I2 (st1.trans st2) hx
def Good.setNo (g:!21)(i:Nat):Good K G0 H0 G H (U.set i none)<|O.set i .no:=g.put i .no λ_ f=>f.elim
def zML (cs:kg)(xb:ki->kf)(i:Nat)(f:Sf):Sf:=λO=>(xb O).bind λc=>if cs.contains c then(f<|O.set i<|.fz<|.exc c [] []).bind λo=>match o with | .nx O'=>some (.nx<|O'.set i .no) | _=>none else none
def zIZ {cs:kg}{n:Str}{yp hp:Pos}{f:Sf}(hb:PXB X st xb)(hcs:∀c C,cs.contains c=true->ClsAt X.K c C->PySem.W.exmOne X.K (!1) (.ref Y)=some true)(hst:X.stack=X.env::X.outer) (hef:X.env.frame=some X.env.locals) (hg:Gl X y) (hm:X.mg y=some (.ref Y)) (hC:∀c,cs.contains c=true->∃C,ClsAt X.K c C) (hN:X.N.Nodup) (hh:∀a,PFSs (X.marked a λ_ _=>False) (b₀::suite) f)(hi:X.N[i]?=some n:=by rfl) (hk:X.env.kindOf n=some .local:=by rfl) (hl:Loc X.env.scope n:=by exact o0) (hf:X.fn n=true\/X.env.scope.names.lookup n=some .local:=by exact o0) (hdb:(y==("__debug__":Str))=false:=by decide):PFS X (.Try [st] [.ExceptHandler (some<|.Name y yp) (some n) (b₀::suite) hp] [] [] pos)<|zML cs xb i f:=by
 intro Z s U H D I q;obtain⟨G0,H0,G,O,o,j0,hq,k⟩:=q;obtain⟨c,hc,hq⟩:=k8 hq;split at hq
 .rename_i hcc;obtain⟨C,hCC⟩:=hC c hcc;obtain⟨o1,ho1,hq⟩:=k8 hq;split at hq
  .rename_i O';cases hq;refine wpAny_Try_except<|zWq<|hb Z s U H _ G0 H0 G O c C I j0 hc hCC λs2 H2 G2 e s' I2 st2 hx=>?_;obtain⟨C',a,H',rfl,os,bare,un,hok,fl,eC,G',st'⟩:=hx;cases eC;have rp:Rep X.K (upd G' a<|.ext _) (.exc c [] []) _:=aJ.mpr ⟨C,a,none,[],hCC,J,zN,J,J,zD.mpr J⟩;exact zLG I2 os bare un hok fl hst hef hg hm hdb (hcs c C hcc hCC) hN hi hk hl hf (hh a) ⟨G0,H0,_,_,.nx O',(((j0.step st2).step st').step<|Step.laid (o:=.ext<|Xe C a none) st'.sub fl.free).setF i rp,ho1,λU' H'' G'' sg g3=>k _ H'' G'' (((st2.gg.trans st'.gg).trans<|Same.new<|st'.sub.free fl.free).trans sg)<|g3.setNo i⟩
  .simp_all
 .simp_all
end
def zCT (K:jk)(p:ki->Bool):TE:=λU H Q=>∃G0 H0 G O,Good K G0 H0 G H U O/\p O=true/\∀y H' G',Step G H G' H'->Str.length y<=20000->Q (.str y) H'
def zKL (X:Cx)(e:r8)(p:ki->Bool):Prop:=PE X e<|zCT X.K p
section
variable{p:ki->Bool}{k:Nat}
def zNH:zKL X (.Constant (.str y) j pos) λ_=>decide (y.length<=1000):=by intro Z s U H Q I h;obtain⟨G0,H0,G,O,j0,hp,k⟩:=h;exact zPU Z s U H Q I<|k y H G (.refl j0.sub) jc
def PJ (X:Cx)(es:qt)(p:ki->Bool):Prop:=∀(Z:jm) (s:qw) (U:St) (H:Hp) (out:Str) (Q:VK),Inv X Z U H s->(∃G0 H0 G O,Good X.K G0 H0 G H U O/\p O=true/\out.length+20000*es.length<=400000/\∀y H' G',Step G H G' H'->Str.length y<=400000->Q (.str y) H') ->
 wpAny (!5) X.A (joinParts out<|evalEach es X.env) (EP X Z U Q) X.xe s
def zGv:PJ X [] λ_=>true:=by
 intro Z s U H out Q I h;obtain⟨G0,H0,G,O,j0,hp,hl,k⟩:=h;have hl:=by simpa using hl
 exact joinParts_nil ⟨.str out,H,I.tok _,⟨_,J⟩,k out H G (.refl j0.sub) hl⟩ (by rw[Wf];lia)
def zID (h1:zKL X e p)(h2:PJ X es q):PJ X (e::es) λO=>p O&&q O:=by intro Z s U H out Q I h;obtain⟨G0,H0,G,O,j0,hp,hl,k⟩:=h;rw[Wy] at hp;rw[Qk] at hl;refine joinParts_cons<|thn (h1 Z s U H (λv H1=>∃y G1,v = .str y/\Str.length y<=_/\Step G H G1 H1) I ⟨G0,H0,G,O,j0,hp.1,λy H1 G1 st hy=>⟨y,G1,J,hy,st⟩⟩) λv s1 ⟨x,H1,I1,r1,y,G1,e1,hy,st1⟩=>?_;subst e1;obtain⟨t,rfl⟩:=r1;have ha:=Ux out y;exact⟨by rw[Wf];lia,h2 Z s1 U H1 _ Q I1 ⟨G0,H0,G1,O,j0.step st1,hp.2,by rw[ha];lia,λz H' G' st' hz=>k z H' G' (st1.trans st') hz⟩⟩
def zLi (hs:starEach [Expr.Constant (.str y) j pos] X.env=[(false,eval (.Constant (.str y) j pos) X.env)]:=by rfl):zK6 X [.Constant (.str y) j pos] λ_=>true:=by intro pos' Z s U H Q I h';obtain⟨G0,H0,G,O,j0,hp,k⟩:=h';exact yX zPU yK J pos' Z s U H Q I<|k [.str y] H G (.refl j0.sub)<|Qr rfl
def zR8 {v1 v2:r8}(h:PJ X (v1::v2::es) p)(hs:starEach [Expr.JoinedStr (v1::v2::es) pos] X.env=[(false,eval (.JoinedStr (v1::v2::es) pos) X.env)]:=by rfl)(hl:es.length<=10):zK6 X [.JoinedStr (v1::v2::es) pos] p:=by
 have hE:PE X (.JoinedStr (v1::v2::es) pos) (λU H Q=>∃G0 H0 G O,Good X.K G0 H0 G H U O/\p O=true/\∀y H' G',Step G H G' H'->Q (.str y) H'):=by intro Z s U H Q I ⟨G0,H0,G,O,j0,hp,k⟩;refine JoinedStr_many<|h Z s U H _ Q I ⟨G0,H0,G,O,j0,hp,?_,λy H' G' st _=>k y H' G' st⟩;have:Str.empty.length=0:=rfl;rw[this,Qk,Qk];lia
 intro pos' Z s U H Q I h';obtain⟨G0,H0,G,O,j0,hp,k⟩:=h';exact yX hE yK J pos' Z s U H Q I ⟨G0,H0,G,O,j0,hp,λy H' G' st=>k [.str y] H' G' st<|Qr rfl⟩
end
def IsyOk (K:jk)(j6:jn):qp->Prop
 | []=>True
 | (c,b)::r=>(∃C,ClsAt K c C/\XKit K C/\kitAny K (!1) j6=some b)/\IsyOk K j6 r
theorem IsyOk.at {K:jk}{j6:jn}:∀ {tb:qp} {c:Str} {b:Bool},IsyOk K j6 tb->tb.lookup c=some b->∃C,ClsAt K c C/\XKit K C/\kitAny K (!1) j6=some b
 | [],_,_,_,h=>by cases h
 | (n,x)::r,c,b,⟨h1,h2⟩,h=>by
  rw[Wj] at h;cases hq:c==n with
  | true =>rw[hq] at h;cases h;have e:=Ym.mp hq;subst e;exact h1
  | false=>rw[hq] at h;exact h2.at h
def zSm (K:jk)(j6:jn)(l:List<|qu×Bool):Bool:=l.all λx=>kitAny K (.ref x.1) j6==some x.2
def zH5:IsyOk K j6 []:=True.intro
def zWz {b:Bool}(ca:ClsAt K c C)(k:XKit K C)(h:zSm K j6 ((C,b)::r)=true)(rest:zSm K j6 r=true->IsyOk K j6 tb):IsyOk K j6<|(c,b)::tb:=by unfold zSm at h;rw[List.all_cons,Wy] at h;exact⟨⟨C,ca,k,Ym.mp h.1⟩,rest h.2⟩
def zWQ (cs:kn):kj:=cs.map .ref
def zSd (cs:kn):qh:=cs.map .ref
def tCs (vs:kj):TA:=λ_ H Q=>Q vs H
section
variable{a b c:r8}
def zM9:PA X []<|tCs<|zWQ []:=yK
def mL (h:PE X e<|tC (!1))(hr:PA X es<|tCs<|zWQ cs)(hs:!23:=by rfl):PA X (e::es)<|tCs<|zWQ<|C::cs:=yX h hr hs
def zLq (h:IsyOk X.K (zSd cs) tb):CallR X (.builtin "isinstance") (λxs H Q=>∃x G c ns ds b q,xs=[x,.ref q]/\Rd H q (.tup<|zWQ cs)/\Same G H/\Rep X.K G (.exc c ns ds) x/\tb.lookup c=some b/\Q (.bl b) H):=by
 intro Z s U H xs us Q I r hh;obtain⟨x,G,c,ns,ds,b,q,rfl,hq,sub,rx,ht,k⟩:=hh;obtain⟨u,u',rfl,ru,ru'⟩:=zO5 r;cases ru';obtain⟨C,hC,hk,ho⟩:=h.at ht;obtain⟨C',a,od,vs,h0,rfl,h1,_⟩:=aJ.mp rx;have ec:=hC.one h0;subst ec;cases ru;obtain⟨⟨fs,h2⟩,_⟩:=(show ObjOk X.prog X.w H s.heap a (.ext _) from I.hok a _<|sub _ _ h1)
 obtain⟨j6,rv,⟨o,t1,t2,n,t3⟩,_⟩:=I.tuple<|.inl hq;have ei:=zY8 rv;subst ei;obtain⟨oc,od',oda,osl⟩:=o;cases t2;cases t3;exact kia_tup (zSs hk.cl hk.ga hk.gt hk.gc hk.so hk.sb) I.kIn ⟨_,h2,J⟩ t1 ho (λz=>nomatch z) λtk=>⟨.bl b,H,I.tok tk,J,k⟩
def zEQ {k1:Nat}(hok:IsyOk X.K (zSd cs) tb)(hcs:PA X es<|tCs<|zWQ cs)(hl:cs.length<=1000)(hg:Gl X "isinstance")(hm:X.mg "isinstance"=none)(h:!12)(hs:starEach [a,.Tuple es k1 p1] X.env=[(false,eval a X.env),(false,eval (.Tuple es k1 p1) X.env)]:=by rfl):PF X (.Call (.Name "isinstance" p) [a,.Tuple es k1 p1] [] pos)<|zVj tb fa:=by
 refine PE.to (wD (zLq (cs:=cs) hok) hg hm jg (yX h (yX (zQ2 (x1:=k1) hcs) yK) (by rw[hs];rfl)) jb jb (by rw[hs];rfl) jg) ?_;rintro U H Q ⟨G0,H0,G,O,d,j0,hf,k⟩;unfold zVj at hf;obtain⟨x,h1,hf⟩:=k8 hf;cases x with
 | exc c ns ds =>
  obtain⟨b,h2,rfl⟩:=k9 hf;refine⟨G0,H0,G,O,_,j0,h1,λv H1 G1 s1 r1=>⟨?_,λq hq=>?_⟩⟩
  .rw[Wf,zWQ,Qy];lia
  .have s2:=Step.laid (o:=.tup<|zWQ cs) s1.sub hq;exact⟨v,_,c,ns,ds,b,q,J,.of zN,s2.sub,r1.mono s2.gg,h2,k _ _ _ (!18)<|wP.mpr rfl⟩
 | _=>cases hf
end
def qC (y:Str):ki->Bool:=λ_=>decide (y.length<=1000)
def zVz (p q:ki->Bool):ki->Bool:=λO=>p O&&q O
def zR3:ki->Bool:=λ_=>true
def aS (c:Str)(q:ki->Bool):ki->kf:=λO=>if q O then some c else none
def xIf (tt:Tf)(xa xb:ki->kf):ki->kf:=λO=>(tt O).bind λc=>if c=true then xa O else xb O
def zMl (n:Nat)(xf:kd->kf)(ga:Lf):ki->kf:=λO=>(ga O).bind λds=>if ds.length=n then xf ds else none
def zIe:ki->kf:=λ_=>none
def fnX (n:Nat)(xb:ki->kf):kd->kf:=λds=>xb<|zZg n ds
section
variable{p:ki->Bool}
def zLJ:zKL X (.Constant (.str y) j pos)<|qC y:=zNH
def zHa (hs:starEach [Expr.Constant (.str y) j pos] X.env=[(false,eval (.Constant (.str y) j pos) X.env)]:=by rfl):zK6 X [.Constant (.str y) j pos] zR3:=zLi hs
def zE3:PJ X [] zR3:=zGv
def zJ5 (h1:zKL X e p)(h2:PJ X es q):PJ X (e::es)<|zVz p q:=zID h1 h2
def zZb:PFSs X sts λ_=>none:=by intro Z s U H D I q;obtain⟨G0,H0,G,O,o,j0,hf,k⟩:=q;cases hf
variable{E:XK}
def zXB:zST (qP (CXq P w) P w K mg base N qual scope f cd A outer s₀ H₀ E) E:=λZ U H s C a I fl hE=>zGV I fl hE
def cS:oZ (CXq P w) (qP (CXq P w) P w K mg base N qual scope f cd A outer s₀ H₀ E) E:=zEH λ_ _ h=>h
def PXB.nox {X:Cx}{st:r9}{xb:ki->kf}(h:PXB X.nox st xb):PXB X st xb:=λZ s U H R G0 H0 G O c C I j0 hq hC k=>h Z s U H R G0 H0 G O c C (I.wish _) j0 hq hC λs2 H2 G2 e s' I2 st hx=>k s2 H2 G2 e s' I2.unwish st hx
def zJK:∀e s,¬X.nox.xe e s:=λ_ _ z=>z
end
section
variable{E:XK}{a:r8}{st':r9}{rest:qg}
def zSV:zZE X E [] zIe:=zMi
def zPt (ht:PFT X a tt)(h1:zZE X E sts xa)(h2:zZE X E rest xb):PXS X E (.If a sts rest pos)<|xIf tt xa xb:=zGX ht h1 h2
def cR (hC:ClsAt X.K c C)(M:zMv X.K C)(hx:X.ex=[])(hm:X.mg c=some (!1))(kp:keepIn X.K (!1)=true)(hg:Gl X c)(hc:!24)(th:zST X E)(ha:zK6 X (e::es) q)(hdb:(c==("__debug__":Str))=false:=by decide)(he:!23:=by rfl) (hpl:(backTo cpos (!25)).any (·.1)=false:=by rfl):PXS X E (.Raise (some<|.Call (.Name c p) (e::es) [] cpos) none pos)<|aS c q:=zKj hC M hx hm kp hg hc th ha hdb he hpl
def zL5 {k:Nat}{d:jz}(F:FnOk X.prog X.w X.K X.mg X.base (CXq X.prog X.w) k fad fd ps<|spQ X.K n d xf)(hp:oZ (CXq X.prog X.w) X E)(hr:Room k X.A)(hm:X.mg y=some (.ref fad))(hk:keepIn X.K (.ref fad)=true)(hb:Binds X.K fd ps [])(hg:Gl X y)(ha:PFA X (e::es) ga) (hdb:(y==("__debug__":Str))=false:=by decide) (he:!23:=by rfl) (hpl:(backTo pos (!25)).any (·.1)=false:=by rfl):PXE X E (.Call (.Name y p) (e::es) [] pos)<|zMl n xf ga:=zHy F hp hr hm hk hb hg ha hdb he hpl
def zOS (hno:∀e s,¬X.xe e s)(ht:PFT X a tt)(h1:PXB X st xa)(h2:PXB X st' xb):PXB X (.If a [st] [st'] pos)<|xIf tt xa xb:=zG9 hno ht h1 h2
def ExOk (K:jk)(Y:qu):kg->Prop
 | []=>True
 | c::r=>(∃C,ClsAt K c C/\PySem.W.exmOne K (!1) (.ref Y)=some true)/\ExOk K Y r
theorem ExOk.at {K:jk}{Y:qu}:∀ {cs:kg} {c:Str},ExOk K Y cs->cs.contains c=true->∃C,ClsAt K c C/\PySem.W.exmOne K (!1) (.ref Y)=some true
 | [],c,_,h=>by cases h
 | n::r,c,⟨h1,h2⟩,h=>by
  rw[List.contains_cons,Td] at h;rcases h with h | h
  .simp_all
  .exact h2.at h
def zI7 {cs:kg}{n:Str}{yp hp:Pos}{f:Sf}(ok:ExOk X.K Y cs)(hb:PXB X.nox st xb)(hst:X.stack=X.env::X.outer) (hef:X.env.frame=some X.env.locals) (hg:Gl X y) (hm:X.mg y=some (.ref Y)) (hN:X.N.Nodup) (hh:∀a,PFSs (X.marked a λ_ _=>False) (b₀::suite) f)(hi:X.N[i]?=some n:=by rfl) (hk:X.env.kindOf n=some .local:=by rfl) (hl:Loc X.env.scope n:=by exact o0) (hf:X.fn n=true\/X.env.scope.names.lookup n=some .local:=by exact o0) (hdb:(y==("__debug__":Str))=false:=by decide):PFS X (.Try [st] [.ExceptHandler (some<|.Name y yp) (some n) (b₀::suite) hp] [] [] pos) (zML cs xb i f) :=
 zIZ hb.nox (λc C hc hC=>by obtain⟨C',h1,h2⟩:=ok.at hc;have e:=h1.one hC;subst e;exact h2) hst hef hg hm (λc hc=>by obtain⟨C',h1,_⟩:=ok.at hc;exact⟨C',h1⟩) hN hh hi hk hl hf hdb
variable{k:Nat}
def PFSs.nox {X:Cx}{sts:qg}{g:Sf}(h:PFSs X.nox sts g):PFSs X sts g:=λZ s U H D I hw =>Ea (h Z s U H D (I.wish _) hw) (λ_ _ q=>q.unwish) λ_ _ z=>False.elim z
def dS (F:Fun K x qual st f fd)(S:FnScope N ps<|zV st)(hb:∀(j9:qv) (A:qy) (outer:qb) (s:qw) (H:Hp) (E:XK),Room k (!37)->PFSs (qP (CXq P w) P w K mg base N qual (zV st) f j9 A outer s H E).nox (xL st) body)(hx:∀(j9:qv) (A:qy) (outer:qb) (s:qw) (H:Hp) (E:XK),Room k (!37)->zZE (qP (CXq P w) P w K mg base N qual (zV st) f j9 A outer s H E) E (xL st) xb):FnOk P w K mg base (CXq P w) (k+1) f fd ps (spQ K ps.length (fnF N.length body)<|fnX N.length xb) :=zG7 F S (λj9 A _ s H E hr=>(hb j9 A _ s H E hr).nox) hx
end
end L2
variable{c:HO->Obj->Prop}{v:V}{Q:jl}{vs:kj}{r:D×D}{q:Option<|qu×qu×qu}
namespace L2
open Classical in
def rL (G H:Hp)(S:qu->Prop):Hp:=λx=>if S x then H x else G x
open Classical in
def outS (G:Hp)(S:qu->Prop):Hp:=λx=>if S x then none else G x
section
variable{b c x:qu}
def lH (h:S x):rL G H S x=H x:=Qg h
def xI (h:¬S x):rL G H S x=G x:=Qc h
def rF (h:S x):outS G S x=none:=Qg h
def xN (h:¬S x):outS G S x=G x:=Qc h
theorem zNJ (hG:∀x,S x->G x=none):Same G<|rL G H S:=λb u e=>by rw[xI λz=>by rw[hG b z] at e;cases e];exact e
def zLw (s:Same G H):Same (rL G H S) H:=λb u e=>by
 by_cases z:S b
 .rw[lH z] at e;exact e
 .rw[xI z] at e;exact s b u e
def zMa (o:HO)(ob:Obj):HO:=match o with | .dK j8=>.frz ob (.dK j8) | o=>o
open Classical in
def fU (H:Hp)(h:qx)(S:qu->Prop):Hp:=λx=>if S x then(H x).map λo=>zMa o ((h.get? x).getD default) else H x
def cP (hx:S x):fU H h S x=(H x).map λo=>zMa o<|(h.get? x).getD default:=Qg hx
def jP (hx:¬S x):fU H h S x=H x:=Qc hx
def Step.backS (s:Step (rL G (fU H h S) S) (fU H h S) G1 H')(hG:∀x,S x->G x=none):Step G H (outS G1 S)<|rL H' H S:=by
 refine⟨λb u e=>?_,λb u e=>?_,λb u e=>?_,λx u ha hn=>?_⟩
 .by_cases hb:S b
  .rw[lH hb];exact e
  .rw[xI hb];exact s.hh b u (by rw[jP hb];exact e)
 .have hb:¬S b:=λz=>by rw[hG b z] at e;cases e
  rw[xN hb];exact s.gg b u (by rw[xI hb];exact e)
 .by_cases hb:S b
  .rw[rF hb] at e;cases e
  .rw[xN hb] at e;rw[xI hb];exact s.sub b u e
 .by_cases hb:S x
  .rw[rF hb,hG x hb]
  .rw[xN hb,s.new x u (by rw[jP hb];exact ha) hn,xI hb]
theorem RepO.rep (h:G1 a=some (zMa o ob))(s:Same G G1):∀ {d:D},RepO K G o d->Rep K G1 d (.ref a)
 | .obj _ _ _,⟨C,dx,vs,h1,h2,h3,h4⟩=>sU.mpr ⟨C,a,dx,vs,h1,J,by rw[h,h2];rfl,h3,h4.mono s⟩
 | .dct _ _,⟨vs,h1,h2,h3⟩=>zX1.mpr ⟨a,vs,ob,J,by rw[h,h1];rfl,h2,h3.mono s⟩
theorem Good.mu {q:kq}(g:!21)(h:O[i]?=some (.mu q d)):∃a o,U[i]?=some (!26)/\H a=some o/\G a=none/\H0 a=none/\RepO K G o d:=by
 obtain⟨x,e,r⟩:=Paired.get g.vals h;cases r with
 | mu _ h1 h2 h3 h4=>exact⟨_,_,e,h1,h2,h3,h4⟩
theorem Good.yd {q:Option<|qu×qu×qu}(g:!21)(h:O[i]?=some (.yd q d)):∃a b c,U[i]?=some (!26)/\Yd K H0 G H a b c d:=by
 obtain⟨x,e,r⟩:=Paired.get g.vals h;cases r with
 | yd _ y=>exact⟨_,_,_,e,y⟩
theorem Good.yl {ds:kd}(g:!21)(h:O[i]?=some (.yl ds)):∃(l:qu) (ts:List<|qu×qu×qu),U[i]?=some (some<|.ref l)/\G l=some (.lst<|ts.map λt=>.ref t.1)/\Paired (λt d=>Yd K H0 G H t.1 t.2.1 t.2.2 d) ts ds/\ts.Pairwise λt u=>∀x,in3 t.1 t.2.1 t.2.2 x->¬in3 u.1 u.2.1 u.2.2 x:=by
 obtain⟨x,e,r⟩:=Paired.get g.vals h;cases r with
 | yl h1 h2 h3 h4=>exact⟨_,_,e,h1,h3,h4⟩
def Yd.rep (y:Yd K H0 G H a b c d)(up:Same G G1)(at_:∀x o,in3 a b c x->H x=some o->∃ob,G1 x=some (zMa o ob)):Rep K G1 d<|.ref a:=by obtain⟨C,dx,vc,vl,dc,dl,ds,db,o1,o2,rfl,h1,h2,h3,h4,h5,h6,h7,h8⟩:=y.ex;obtain⟨_,q1⟩:=at_ _ _ (.inl J) h2;obtain⟨_,q2⟩:=at_ _ _ (.inr<|.inl rfl) h5;obtain⟨_,q3⟩:=at_ _ _ (.inr<|.inr rfl) h7;exact sU.mpr ⟨C,a,dx,[vc,vl,.ref b,.ref c],h1,J,q1,J,zQ.mpr ⟨_,_,J,h3.mono up,zQ.mpr ⟨_,_,J,h4.mono up,zQ.mpr ⟨_,_,J,h6.rep q2 up,zQ.mpr ⟨_,_,J,h8.rep q3 up,zD.mpr J⟩⟩⟩⟩⟩
theorem zOD {F:qu×qu×qu->D->Prop}:∀ {ts:List<|qu×qu×qu} {ds:kd},Paired F ts ds->(∀t∈ts,∀d,F t d->Rep K G d (.ref t.1))->Reps K G ds (ts.map λt=>.ref t.1)
 | _,_,.nil,_=>zD.mpr J
 | _,_,.cons h t,f=>zQ.mpr ⟨_,_,J,f _ je _ h,zOD t λa ha=>f a<|by simp[ha]⟩
def Yd.foot (y:Yd K H0 G H a b c d):uU H (!26) (.yd q d) x↔x=a\/x=b\/x=c:=by obtain⟨C,dx,vc,vl,_,_,_,_,_,_,_,_,e,_⟩:=y.ex;refine⟨λ⟨a',b',c',_,_,_,_,e1,e2,e3⟩=>?_,λh=>⟨a,b,c,C,dx,vc,vl,J,e,h⟩⟩;cases e1;rw[e] at e2;cases e2;exact e3
theorem Good.setM (g:!21)(i:Nat)(ha:H a=some o)(ga:G a=none)(h0:H0 a=none)(r:RepO K G o d)(fr:∀(j:Nat) (w:ql) (c:B),U[j]?=some w->O[j]?=some c->¬uU H w c a):Good K G0 H0 G H (U.set i (!26)) (O.set i<|.mu none d) :=
 g.put i (.mu (.inl J) ha ga h0 r) λx f j w c _ h1 h2=>by cases f;exact fr j w c h1 h2
def Good.ioM {q:kq}(g:!21)(hi:O[i]?=some (.mu q d))(hs:U[i]?=some (!26))(s:Step G (zWO H a) G' H')(h':H' a=some o')(g':G' a=none)(r:RepO K G' o' d'):Good K G0 H0 G' H' U<|O.set i<|.mu q d':=by
 have q0:=g.at hs hi;cases q0 with
 | mu qa _ _ h0 _ =>have ne:∀ {x:qu},¬uU H _ (.mu q d) x->x≠a:=λf z=>f (by rw[z];rfl);exact g.chg hs hi s.gg s.sub (λx o f h=>s.hh x o (by rw[vQ<|ne f];exact h)) (λx o f h n=>s.new x o (by rw[vQ<|ne f];exact h) n) (.mu qa h' g' h0 r) λx f=>f
def Step.wrO (s:Same G H)(g:G a=none):Step G (zWO H a) G<|upd H a o':=by
 refine⟨λb u e=>?_,Same.refl _,λb u e=>?_,λ_ _ _ _=>rfl⟩
 .by_cases hb:b=a
  .rw[hb,qH] at e;cases e
  .rw[vQ hb] at e;rw[zG hb];exact e
 .rw[zG<|yU e g];exact s b u e
def Good.wrM {q:kq}(g:!21)(hi:O[i]?=some (.mu q d))(hs:U[i]?=some (!26))(r:RepO K G o' d'):Good K G0 H0 G (upd H a o') U<|O.set i<|.mu q d':=by obtain⟨a',o,e1,e2,e3,e4⟩:=g.mu hi;rw[hs] at e1;cases e1;exact g.ioM hi hs (Step.wrO g.sub e3) zN e3 r
def Good.ioY {E:Hp}(g:!21)(hi:O[i]?=some (.yd q d))(hs:U[i]?=some (!26))(y:Yd K H0 G H a b c d)(s:Step G (outS H<|in3 a b c) G' H')(y':Yd K E G' H' a b c d'):Good K G0 H0 G' H' U<|O.set i<|.yd q d':=by
 have q0:=g.at hs hi;cases q0 with
 | @yd _ b1 c1 _ _ qa y1 =>
  have eb:b1=b/\c1=c:=by obtain⟨C,dx,vc,vl,_,_,_,_,_,_,_,_,e,_⟩:=y.ex;obtain⟨C1,dx1,vc1,vl1,_,_,_,_,_,_,_,_,e1,_⟩:=y1.ex;rw[e] at e1;cases e1;exact⟨J,J⟩
  obtain⟨rfl,rfl⟩:=eb;have ne:∀ {x:qu},¬uU H _ (.yd q d) x->¬in3 a b1 c1 x:=λf z=>f<|y.foot.mpr z;exact g.chg hs hi s.gg s.sub (λx o f h=>s.hh x o (by rw[xN<|ne f];exact h)) (λx o f h n=>s.new x o (by rw[xN<|ne f];exact h) n) (.yd qa ⟨y'.ex,λx hx=>⟨(y'.no x hx).1,(y.no x hx).2⟩,y'.ne⟩) λx f=>y.foot.mpr<|y'.foot.mp f
theorem Good.lendS {b:B}(g:!21)(hs:U[i]?=some (some v))(hi:O[i]?=some b)(r:Rep K (rL G (fU H h<|uU H (some v) b)<|uU H (some v) b) d v):Good K G0 H0 (rL G (fU H h<|uU H (some v) b)<|uU H (some v) b) (fU H h<|uU H (some v) b) U (O.set i<|.fz d) :=
 have hG:=λx f=>((g.at hs hi).foot f).2.1
 g.chg hs hi (zNJ hG) (zLw λb u e=>by rw[jP λz=>by rw[hG b z] at e;cases e];exact g.sub b u e) (λx o f e=>by rw[jP f];exact e) (λx o f _ _=>xI f) (.fz r) λx f=>f.elim
end
mutual
def lK:D->Bool
 | .non=>true
 | .bl _=>true
 | .int _=>true
 | .str _=>true
 | .tup ds=>qL ds
 | .lst ds=>qL ds
 | _=>false
def qL:kd->Bool
 | []=>true
 | d::r=>lK d&&qL r
end
def zMy:HO->Bool | .frz _ (.dK _)=>true | o=>bK o
def Rd.outS {u:HO}(hn:∀x,S x->∃o,G x=some o/\zMy o=true)(hu:zMy u=false)(hv:∀o,zMy (.frz o u)=false)(h:Rd G a u):Rd (outS G S) a u:=by
 rcases h with h | ⟨o,h⟩
 .refine .inl ?_;rw[xN λz=>by obtain⟨o,e1,e2⟩:=hn a z;rw[h] at e1;cases e1;rw[hu] at e2;cases e2];exact h
 .refine .inr ⟨o,?_⟩;rw[xN λz=>by obtain⟨o,e1,e2⟩:=hn a z;rw[h] at e1;cases e1;rw[hv] at e2;cases e2];exact h
mutual
theorem Rep.outM (hn:∀x,S x->∃o,G x=some o/\zMy o=true):∀(d:D) (v:V),lK d=true->Rep K G d v->Rep K (outS G S) d v
 | .non,_,_,h=>by unfold Rep at h ⊢;exact h
 | .bl _,_,_,h=>by unfold Rep at h ⊢;exact h
 | .int _,_,_,h=>by unfold Rep at h ⊢;exact h
 | .str _,_,_,h=>by unfold Rep at h ⊢;exact h
 | .tup ds,_,f,h=>by unfold Rep at h ⊢;obtain⟨a,vs,h1,h2,h3⟩:=h;exact⟨a,vs,h1,h2.imp (Rd.outS hn J λ_=>rfl) id,Reps.outM hn ds vs (by unfold lK at f;exact f) h3⟩
 | .lst ds,_,f,h=>by unfold Rep at h ⊢;obtain⟨a,vs,h1,h2,h3⟩:=h;exact⟨a,vs,h1,h2.imp (Rd.outS hn J λ_=>rfl) id,Reps.outM hn ds vs (by unfold lK at f;exact f) h3⟩
 | .obj C ns ds,_,f,_=>by unfold lK at f;cases f
 | .exc C ns ds,_,f,_=>by unfold lK at f;cases f
 | .dct ks ds,_,f,_=>by unfold lK at f;cases f
theorem Reps.outM (hn:∀x,S x->∃o,G x=some o/\zMy o=true):∀(ds:kd) (vs:kj),qL ds=true->Reps K G ds vs->Reps K (outS G S) ds vs
 | [],_,_,h=>by unfold Reps at h ⊢;exact h
 | d::r,_,f,h=>by unfold Reps at h ⊢;obtain⟨v,vr,h1,h2,h3⟩:=h;unfold qL at f;rw[Wy] at f;exact⟨v,vr,h1,Rep.outM hn d v f.1 h2,Reps.outM hn r vr f.2 h3⟩
end
def lendB (i:Nat)(O:ki):Option ki:=match O[i]? with | some (.mu _ d)=>some (O.set i<|.fz d) | some (.yd _ d)=>some (O.set i<|.fz d) | some (.yl ds)=>some (O.set i<|.fz<|.lst ds) | _=>none
def Good.lendB {K:jk}{G0 H0 G H:Hp}{U:St}{O O':ki}{i:Nat}(g:!21)(h:L2.lendB i O=some O'):∃S:qu->Prop,(∀x,S x->G x=none)/\(∀x,S x->∃o,H x=some o/\bK o=true)/\∀hp,Good K G0 H0 (rL G (fU H hp S) S) (fU H hp S) U O':=by
 have key:∀ {v:V} {b:B} {d:D},U[i]?=some (some v)->O[i]?=some b->(∀x,uU H (some v) b x->(∃o,H x=some o/\bK o=true)/\G x=none/\H0 x=none)->(∀G1,Same G G1->(∀x o,uU H (some v) b x->H x=some o->∃ob,G1 x=some (zMa o ob))->Rep K G1 d v)->∃S:qu->Prop,(∀x,S x->G x=none)/\(∀x,S x->∃o,H x=some o/\bK o=true)/\∀hp,Good K G0 H0 (rL G (fU H hp S) S) (fU H hp S) U<|O.set i<|.fz d:=λ{v b d} e1 e hf r=>⟨_,λx f=>(hf x f).2.1,λx f=>(hf x f).1,λhp=>g.lendS e1 e<|r _ (zNJ λx f=>(hf x f).2.1) λx o f h=>⟨_,by rw[lH f,cP f,h];rfl⟩⟩
 unfold L2.lendB at h;split at h
 .rename_i q d e;cases h;obtain⟨a,o,e1,e2,e3,e4,e5⟩:=g.mu e;refine key e1 e (λx f=>by cases f;exact⟨⟨o,e2,e5.two⟩,e3,e4⟩) λG1 up z=>?_;obtain⟨ob,z⟩:=z a o J e2;exact e5.rep z up
 .rename_i q d e;cases h;obtain⟨a,b,c,e1,y⟩:=g.yd e;exact key e1 e (λx f=>y.own f) λG1 up z=>y.rep up λx o hx=>z x o<|y.foot.mpr hx
 .rename_i ds e;cases h;obtain⟨l,ts,e1,e2,e3,e4⟩:=g.yl e;have hl:=g.sub _ _ e2;refine key e1 e (λx ⟨l',vs,w,q1,q2,q3,f⟩=>?_) λG1 up z=>xF.mpr ⟨l,_,J,.inl<|.inl<|up _ _ e2,zOD e3 λt ht d y=>y.rep up λx o hx=>z x o ⟨l,_,_,J,hl,Wp.mpr ⟨t,ht,J⟩,(y.foot (q:=none)).mpr hx⟩⟩;cases q1;rw[hl] at q2;cases q2;obtain⟨t,ht,rfl⟩:=v7 q3;obtain⟨d,y⟩:=Paired.mem e3 ht;exact y.own f
 .cases h
section
variable{U':St}
abbrev Lab (H H':Hp)(x:qu)(c:HO->Obj->Prop):Prop:=H' x=H x\/∃j8 ob,(H x=some (.dK j8)/\H' x=some (.frz ob<|.dK j8)/\c (.dK j8) ob)\/(H x=some (.frz ob<|.dK j8)/\H' x=some (.dK j8)/\c (.frz ob<|.dK j8) ob)
def Lab.none {x:qu}(l:Lab H H' x c)(e:H x=none):H' x=none:=by grind
def Lab.same {x:qu}(l:Lab H H' x c)(e:H x=some o)(n1:∀j8,o ≠ .dK j8)(n2:∀ob j8,o ≠ .frz ob (.dK j8)):H' x=some o:=by grind
abbrev zEp (h:qx)(x:qu)(o:HO)(ob:Obj):Prop:=match o with | .dK _=>h.get? x=some ob | _=>True
theorem HOk.relab (ok:HOk P w H h)(l:∀x,Lab H H' x<|zEp h x):HOk P w H' h:=λa o e=>by
 have ow:∀ {b a},H b=some (.own a)->H' b=some _:=λz=>(l _).same z (λ_ q=>nomatch q) λ_ _ q=>nomatch q;have tu:∀ {b xs},H b=some (.tup xs)->H' b=some _:=λz=>(l _).same z (λ_ q=>nomatch q) λ_ _ q=>nomatch q;rcases l a with q | ⟨j8,ob,⟨q,q2,q3⟩ | ⟨q,q2,_⟩⟩
 .exact(ok a o (!9)).stay (λ_ _ _ z=>z) (λ_=>ow) λ_ _=>tu
 .rw[q2] at e;cases e;exact⟨q3,(ok a _ q).stay (λ_ _ _ z=>z) (λ_=>ow) λ_ _=>tu⟩
 .rw[q2] at e;cases e;exact(ok a _ q).2.stay (λ_ _ _ z=>z) (λ_=>ow) λ_ _=>tu
def Inv.relab (I:!3)(l:∀x,Lab H H' x λo ob=>zEp s.heap x o ob/\((∃j8,o = .dK j8)\/∀o u,X.H₀ x≠some (.frz o u))):Inv X Z U H' s:=by
 refine⟨I.ok,I.os,I.bare,⟨I.base.keep,I.base.slot,λb o e n x=>(l b).none<|I.base.free b o e n x,I.base.there,λb xs e=>(l b).same (I.base.tups b xs e) (λ_ q=>nomatch q) (λ_ _ q=>nomatch q),λb o u e=>?_,λb ps e=>?_⟩,I.loc,I.cell,(l _).none I.free,λx c e=>(l _).none<|I.freeC x c e,λp hp=>⟨(I.pin p hp).1,(l _).none (I.pin p hp).2.1,(I.pin p hp).2.2⟩,I.hok.relab λx=>?_,I.len⟩
 .have z:=I.base.frzs b o u e;rcases l b with q | ⟨j8,ob,⟨q,_⟩ | ⟨q,_,_,n⟩⟩
  .simp_all
  .simp_all
  .simp_all
 .obtain⟨more,z⟩:=I.base.tbls b ps e;exact⟨more,(l b).same z (λ_ q=>nomatch q) λ_ _ q=>nomatch q⟩
 .rcases l x with q | ⟨j8,ob,⟨q,q2,q3⟩ | ⟨q,q2,q3⟩⟩
  .exact .inl q
  .exact .inr ⟨j8,ob,.inl ⟨q,q2,q3.1⟩⟩
  .exact .inr ⟨j8,ob,.inr ⟨q,q2,q3.1⟩⟩
theorem Inv.lab (I:!3)(S:qu->Prop):Inv X Z U (fU H s.heap S) s:=I.relab λx=>by
 by_cases hx:S x
 .rw[Lab,cP hx];cases e:H x with
  | none=>exact .inl J
  | some o =>
   cases o with
   | dK j8 =>obtain⟨_,_,vs,_,ob,es,ep,ho,_⟩:=zKT I.hok e;exact .inr ⟨j8,ob,.inl ⟨J,by rw[ho];rfl,ho,.inl ⟨_,J⟩⟩⟩
   | _=>exact .inl J
 .exact .inl (jP hx)
def zRb (h2:∀x o,fU H h S x=some o->H2 x=some o)(hS:∀x,S x->∃o,H x=some o/\bK o=true)(x:qu):Lab H2 (rL H2 H S) x λo _=>(∃ob j8,o = .frz ob (.dK j8))/\∃j8,H x=some (.dK j8):=by
 by_cases hx:S x
 .rw[Lab,lH hx];obtain⟨o,e,_⟩:=hS x hx;rw[e,(h2 x _ (by rw[cP hx,e];rfl))];cases o with
  | dK j8=>exact .inr ⟨j8,_,.inr ⟨J,J,⟨_,_,J⟩,_,J⟩⟩
  | _=>exact .inl J
 .exact .inl (xI hx)
def Lab.on {c':HO->Obj->Prop}{x:qu}(l:Lab H H' x c)(h:∀o ob,c o ob->c' o ob):Lab H H' x c':=by
 rcases l with q | ⟨j8,ob,⟨q,q2,q3⟩ | ⟨q,q2,q3⟩⟩
 .exact .inl q
 .exact .inr ⟨j8,ob,.inl ⟨q,q2,h _ _ q3⟩⟩
 .exact .inr ⟨j8,ob,.inr ⟨q,q2,h _ _ q3⟩⟩
theorem Inv.unlab (I:!3)(I2:Inv X Z U' H2 s2)(h2:∀x o,fU H s.heap S x=some o->H2 x=some o)(hS:∀x,S x->∃o,H x=some o/\bK o=true):Inv X Z U' (rL H2 H S) s2:=I2.relab λx=>(zRb h2 hS x).on λo ob ⟨⟨_,_,e⟩,_,q⟩=>by subst e;exact⟨trivial,.inr λo u z=>by have:=I.base.frzs x o u z;rw[q] at this;cases this⟩
theorem HOk.unlab (ok:HOk P w H2 h')(h2:∀x o,fU H h S x=some o->H2 x=some o)(hS:∀x,S x->∃o,H x=some o/\bK o=true):HOk P w (rL H2 H S) h':=ok.relab λx=>(zRb h2 hS x).on λo ob ⟨⟨_,_,e⟩,_⟩=>by subst e;trivial
def Un.unlab {fs ex:kn}(u:Un fs ex H2 H' h h')(hS:∀x,S x->∃o,H x=some o/\bK o=true):Un fs ex (rL H2 H S) (rL H' H S) h h':=by
 have no:∀ {b},rL H2 H S b=none->¬S b:=λn z=>by rw[lH z] at n;obtain⟨o,e,_⟩:=hS _ z;rw[e] at n;cases n
 have ns:∀ {b:qu} {o:HO},rL H2 H S b=some o->bK o=false->¬S b:=λn f z=>by rw[lH z] at n;obtain⟨o,e,w⟩:=hS _ z;rw[e] at n;cases n;rw[f] at w;cases w
 refine⟨λb o e n=>u.keep b o e (by have z:=no n;rw[xI z] at n;exact n),λb o e n=>u.slot b o e (by have z:=no n;rw[xI z] at n;exact n),λb o e n x=>?_,u.there,λb xs e=>?_,λb o v e=>?_,λb ps e=>?_⟩
 .have z:=no n;rw[xI z] at n ⊢;exact u.free b o e n x
 .have z:=ns e J;rw[xI z] at e ⊢;exact u.tups b xs e
 .have z:=ns e J;rw[xI z] at e ⊢;exact u.frzs b o v e
 .have z:=ns e J;rw[xI z] at e ⊢;exact u.tbls b ps e
end
def kW (i k:Nat)(f:Ef):Ef:=λO=>(lendB i O).bind λO'=>(f O').bind λd=>if lK d then some d else none
theorem zRH (s:Step (rL G (fU H h S) S) (fU H h S) G1 H')(hH:∀x,S x->∃o,H x=some o/\bK o=true):∀x,S x->∃o,G1 x=some o/\zMy o=true:=λx hx=>by obtain⟨o,h1,h2⟩:=hH x hx;refine⟨_,s.gg x _ (by rw[lH hx,cP hx,h1];rfl),?_⟩;cases o<;>first | rfl | cases h2
def jC (i k:Nat)(h:PF X e fa):PF X e<|kW i k fa:=by
 rintro Z s U H Q I ⟨G0,H0,G,O,d,j0,hf,kk⟩;obtain⟨O',h1,hf1⟩:=k8 hf;obtain⟨d',h2,hf2⟩:=k8 hf1;obtain⟨S,hG,hH,good'⟩:=j0.lendB h1;split at hf2
 .rename_i fl;cases hf2;exact thn (h Z s U _ (λv H'=>∃G1,Step _ _ G1 H'/\Rep X.K G1 d v) (I.lab S) ⟨G0,H0,_,_,_,good' s.heap,h2,λv H' G1 st r=>⟨G1,st,r⟩⟩) λu s2 ⟨x,H2,I2,rx,G1,st,r⟩=>⟨x,_,I.unlab I2 st.hh hH,rx,kk x _ _ (st.backS hG)<|Rep.outM (zRH st hH) _ _ fl r⟩
 .simp_all
def zQ7 (i k:Nat)(t:Tf):Tf:=λO=>(lendB i O).bind λO'=>t O'
def zKw (i k:Nat)(h:PFT X e ta):PFT X e<|zQ7 i k ta:=by rintro Z s U H Q I ⟨G0,H0,G,O,b,j0,hf,kk⟩;obtain⟨O',h1,hf⟩:=k8 hf;obtain⟨S,hG,hH,good'⟩:=j0.lendB h1;refine thn (h Z s U _ (λc H'=>c=b/\∃G1,Step _ _ G1 H') (I.lab S) ⟨G0,H0,_,_,b,good' s.heap,hf,λH' G1 st=>⟨J,G1,st⟩⟩) λc s2 ⟨H2,I2,hc,G1,st⟩=>?_;subst hc;exact⟨_,I.unlab I2 st.hh hH,kk _ _<|st.backS hG⟩
end L2
variable{a:Int×Str}{o c:r8}{S:kn}
namespace L2
def setF {α:Type}(f:Str)(y:α):kg->List α->List α
 | n::ns,x::xs=>if n=f then y::xs else x::setF f y ns xs
 | _,xs=>xs
theorem zSw {α:Type}{f:Str}{y:α}:∀ {ns:kg} {xs:!10},(setF f y ns xs).length=xs.length
 | [],xs=>by unfold setF;rfl
 | _::_,[]=>rfl
 | n::ns,x::xs=>by
  unfold setF;split
  .rfl
  .rw[Qk,Qk,zSw]
theorem zSv {f:Str}{y:V}:∀ {ns:kg} {vs:kj},ns.length=vs.length->f∈ns->nN f y (ns.zip vs)=ns.zip (setF f y ns vs)
 | [],_,_,h=>by cases h
 | _::_,[],h,_=>by simp at h
 | n::ns,v::vs,h,hf=>by
  show(if n=f then _ else _::nN f y (ns.zip vs))=_;unfold setF
  by_cases hn:n=f
  .rw[Qg hn,Qg hn];rfl
  .rw[Qc hn,Qc hn,Tt,zSv (by simpa using h)<|(v4 hf).resolve_left λz=>hn z.symm]
theorem zUP {K:jk}{G:Hp}{f:Str}{d:D}{v:V}(r:Rep K G d v):∀ {ns:kg} {ds:kd} {vs:kj},Reps K G ds vs->Reps K G (setF f d ns ds) (setF f v ns vs)
 | [],_,_,h=>by unfold setF;exact h
 | n::ns,[],_,h=>by rw[zD] at h;subst h;exact zD.mpr J
 | n::ns,e::ds,_,h=>by
  obtain⟨u,vr,rfl,h2,h3⟩:=zQ.mp h;unfold setF
  by_cases hn:n=f
  .rw[Qg hn,Qg hn];exact zQ.mpr ⟨v,vr,J,r,h3⟩
  .rw[Qc hn,Qc hn];exact zQ.mpr ⟨u,_,J,h2,zUP r h3⟩
def cC (i:Nat)(c f:Str):Ef:=λO=>match O[i]? with | some (.mu _<|.obj c' ns ds)=>if c'=c then(ns.zip ds).lookup f else none | _=>none
def cN {c f:Str}(i:Nat)(hC:ClsAt X.K c C)(hcl:Cls X.K C)(hn:NoAttr X.K C f)(hN:!27:=by rfl)(hv:!31:=by exact visQ rfl)(hd:!20:=by decide)(hcd:!30:=by decide)(hb:attributeBase (!19) f X.env (eval (!19) X.env)=eval (!19) X.env:=by rfl):PF X (.Attribute (!19) f pos)<|cC i c f:=by
 refine PE.to (zVV (wI hN hv hd hcd) hb) ?_;rintro U H Q ⟨G0,H0,G,O,d,j0,hf,k⟩;unfold cC at hf;split at hf
 .rename_i c' ns ds e;split at hf
  .rename_i hc;subst hc;obtain⟨q,o,e1,e2,e3,e4,C',dx,vs,r1,r2,r3,r4⟩:=j0.mu e;have ec:=hC.one r1;subst ec;obtain⟨u,l1,l2⟩:=bM r3 r4 hf;exact⟨.ref q,e1,q,_,dx,_,u,J,by rw[e2,r2],hcl,hn,l1,k _ _ G (.refl j0.sub) l2⟩
  .simp_all
 .simp_all
def spM (K:jk)(c:Str)(ns:kg)(n:Nat)(f:kd->kd->ka):Sp:=λvs H Q _=>∃(a:qu) (o:HO) (rest:kj) (G:Hp) (xs ds ys:kd),vs = .ref a::rest/\H a=some o/\G a=none/\RepO K G o (.obj c ns xs)/\Same G H/\Reps K G ds rest/\ds.length=n/\f xs ds=some ys /\
 ∀H' G' o',Step G (zWO H a) G' H'->H' a=some o'->G' a=none->RepO K G' o' (.obj c ns ys)->Q .non H'
def zTi (N:Nat)(c:Str)(ns:kg)(xs ds:kd):ki:=.mu none (.obj c ns xs)::(ds.map .fz++List.replicate (N - (ds.length+1)) .no)
def fnM (N:Nat)(c:Str)(ns:kg)(f:Str)(t:Tf)(e:Ef):kd->kd->ka:=λxs ds=>(t<|zTi N c ns xs ds).bind λb=>if b=false/\f∈ns/\ns.length<=900 then(e<|zTi N c ns xs ds).map λd=>setF f d ns xs else none
section
variable{k:Nat}{c f:Str}{t:r8}{rs:qg}{fe:Ef}{p3 p4:Pos}
def Step.wrP {p:qu}{o:HO}(s:Step G H G' H')(hp:H p=none)(g':G' p=none):Step G H G' (upd H' p o) :=
 ⟨λb u e=>by rw[zG<|yU e hp];exact s.hh b u e,s.gg,λb u e=>by rw[zG<|yU e g'];exact s.sub b u e,s.new⟩
def zUK:PSs X sts λ_ _ _=>False:=λ_ _ _ _ _ _ z=>z.elim
theorem zUw {b:B}{m:Nat}:zMq H U<|b::(ds.map B.fz++List.replicate m B.no):=λi j x v w c c' _ h2 _ h4 f1 f2=>by
 have key:∀ {i:Nat} {c:B} {v:ql},(b::_)[i]?=some c->uU H v c x->i=0:=λ{i c v} h f=>by
  cases i with
  | zero=>rfl
  | succ i=>rw[List.getElem?_cons_succ] at h;exact((zTF m ds).own h<|zZ6 f).elim
 rw[key h2 f1,key h4 f2]
def zKY (F:Fun K x qual st fad fd)(S:FnScope N (sf::ps)<|zV st)(hC:ClsAt K c C)(hcl:Cls K C)(hn:NoAttr K C f)(hbody:xL st=[.If t rs [] p1,.Assign [.Attribute (.Name sf p2) f p3] e p4])(ht:∀(j9:qv) (A:qy) (outer:qb) (s:qw) (H:Hp) (E:XK),Room k (A.deeper<|envOfC qual (zV st) s.heap.objs.size fad j9)->PFT (qP CX0 P w K mg base N qual (zV st) fad j9 A outer s H E).nox t tt)(he:∀(j9:qv) (A:qy) (outer:qb) (s:qw) (H:Hp) (E:XK),Room k (A.deeper<|envOfC qual (zV st) s.heap.objs.size fad j9)->PF (qP CX0 P w K mg base N qual (zV st) fad j9 A outer s H E).nox e fe)(hN0:N[0]?=some sf) (hv:Vis (zV st) sf) (hd:(sf==("__debug__":Str))=false:=by decide) (hcd:(sf==("__classdict__":Str))=false:=by decide)(hs:∀(j9:qv) (A:qy) (outer:qb) (s:qw) (H:Hp) (E:XK),swapsWith e (some<|.Attribute (.Name sf p2) f p3) p4.line (qP CX0 P w K mg base N qual (zV st) fad j9 A outer s H E).nox.env=pure false:=by exactλ_ _ _ _ _ _=>rfl):FnOk P w K mg base CX0 (k+1) fad fd (sf::ps)<|spM K c ns ps.length<|fnM N.length c ns f tt fe:=by
 refine F.ok S (λvs H Q E h=>?_) λj9 A _ s H vs Q E hr h=>?_
 .obtain⟨a,o,rest,G,xs,ds,ys,rfl,_,_,_,_,rr,hl,_⟩:=h;rw[Qk,Qk,<-rr.length,hl]
 .rw[hbody];refine⟨_,tP (zRz (ht j9 A _ s H E hr) zUK zX5)<|zXz<|zYK (wI hN0 hv hd hcd) (he j9 A _ s H E hr)<|hs j9 A _ s H E,?_⟩;obtain⟨a,o,rest,G,xs,ds,ys,rfl,h1,h2,h3,sub,rr,hl,hf,kk⟩:=h;have j0:Good K G (zWO H a) G H (oJ N<|.ref a::rest)<|zTi N.length c ns xs ds:=by
   refine⟨⟨λb u q=>?_,Same.refl _,sub,λ_ _ _ _=>rfl⟩,?_,zUw⟩
   .by_cases hb:b=a
    .rw[hb,qH] at q;cases q
    .rwa[vQ hb] at q
   .unfold oJ zTi;rw[Qx,Qk,List.cons_append,<-rr.length];exact .cons (.mu (.inl J) h1 h2 qH h3)<|jN _ rr
  obtain⟨b,e1,hf⟩:=k8 hf;split at hf
  .rename_i hq;obtain⟨rfl,hfn,hn9⟩:=hq;obtain⟨d,e2,rfl⟩:=k9 hf;refine⟨G,zWO H a,G,_,false,j0,e1,λH1 G1 s1=>⟨G,zWO H a,G1,_,d,j0.step s1,e2,λv H2 G2 s2 r2=>?_⟩⟩;have s12:=s1.trans s2;obtain⟨C',dx,vs,r3,r4,r5,r6⟩:=h3;have ec:=hC.one r3;subst ec;have hlv:ns.length=vs.length:=by rw[r5];exact r6.length
   refine⟨.ref a,J,a,_,dx,ns.zip vs,J,by rw[s12.hh _ _ h1,r4],hcl,hn,by rw[Ei];lia,?_⟩;have ga:G2 a=none:=(s12.new a _ h1 (by rw[r4];rfl)).trans h2;exact kk _ G2 _ ((j0.st.trans s12).wrP qH ga) zN ga ⟨_,dx,_,hC,by rw[zSv hlv hfn],by rw[zSw];exact r5,zUP r2<|r6.mono s12.gg⟩
  .simp_all
end
theorem xP {f:Str}:∀ {ns:kg} {vs:kj},f∉ns->(ns.zip vs).lookup f=none
 | [],_,_=>je
 | _::_,[],_=>je
 | n::ns,v::vs,h=>by rw[Tt,Wj,Rb.mpr λz=>h<|by simp[z]];exact xP λz=>h<|by simp[z]
def qZ (c m:Str)(n:Nat)(d:jz)(fa:Ef)(g:Lf):Ef:=λO=>(fa O).bind λx=>(g O).bind λds=>match x with
 | .obj c' ns _=>if c'=c/\ds.length+1=n/\m∉ns then d (x::ds) else none
 | _=>none
def zEn (X:Cx)(e:r8)(xb:ki->kf):Prop:=∀(Z:jm) (s:qw) (U:St) (H:Hp) (R:jl) (G0 H0 G:Hp) (O:ki) (c:Str) (C:qu),Inv X Z U H s->Good X.K G0 H0 G H U O->xb O=some c->ClsAt X.K c C ->
 (∀s2 H2 G2 e s',Inv X Z U H2 s2->Step G H G2 H2->CXq X.prog X.w X.stack H2 s2 (λv _ H'=>v = .ref C/\∃G',Step G2 H2 G' H') e s'->R e s')->wpAny (!5) X.A (eval e X.env) (λ_ _=>False) R s
def zWb (h:zEn X e xb)(hs:swapsWith e none pos.line X.env=pure false:=by rfl):PXB X (.Expr e pos) xb:=λZ s U H R G0 H0 G O c C I j0 hq hC k =>wpAny_Expr_any (Ea (h Z s U H R G0 H0 G O c C I j0 hq hC k) (λ_ _ z=>z.elim) λ_ _ z=>z) I.quiet hs
def pI (c m:Str)(n:Nat)(xf:kd->kf)(fa:Ef)(g:Lf):ki->kf:=λO=>(fa O).bind λx=>(g O).bind λds=>match x with
 | .obj c' ns _=>if c'=c/\ds.length+1=n/\m∉ns then xf (x::ds) else none
 | _=>none
def zY5 {c:Str}{k:Nat}{d:jz}(hno:∀e s,¬X.xe e s)(hC:ClsAt X.K c C)(hcl:Cls X.K C)(hm:Meth X.K C m fad)(F:FnOk X.prog X.w X.K X.mg X.base (CXq X.prog X.w) k fad fd ps (spQ X.K n d xf))(hr:Room k X.A)(hb:Binds X.K fd ps [])(ho:PF X o fa) (ha:PFA X (e::es) ga)(hst:!23:=by rfl) (hpl:(backTo cpos (!25)).any (·.1)=false:=by rfl)(ht:eval (.Call (!33) (e::es) [] cpos) X.env=(do
   let ov <-eval o X.env
   standAt apos.atName
   let (f,first) <-holding [ov] (getMethod ov m pl)
   callWith cpos f first (backTo cpos<|starEach (e::es) X.env) (!38)):=by rfl) :
  zEn X (.Call (!33) (e::es) [] cpos) (pI c m n xf fa ga):=by
 intro Z s U H R G0 H0 G O cc CC I j0 hq hCC kk;obtain⟨x,h1,hq1⟩:=k8 hq;obtain⟨ds,h2,hq2⟩:=k8 hq1;clear hq hq1;have hq:=hq2;clear hq2;cases x with
 | obj c' ns xs =>
  dsimp only at hq;split at hq
  .rename_i hz;obtain⟨rfl,hl,hmn⟩:=hz;refine Ia (pl:=pl) (Ea (ho Z s U H (λv H1=>∃G1,Step G H G1 H1/\Rep X.K G1 (.obj c' ns xs) v) I ⟨G0,H0,G,O,_,j0,h1,λv H1 G1 s1 r1=>⟨G1,s1,r1⟩⟩) (λu s1 ⟨v,H1,I1,rv,G1,st1,r1⟩=>?_) λe s z=>(hno e s z).elim) ht;obtain⟨C',q,dx,vs,r2,rfl,r3,r4⟩:=sU.mp r1;have ec:=hC.one r2;subst ec;obtain rfl:=rv;refine bR I1 (st1.sub _ _ r3) hcl hm (xP hmn)<|Te (first:=[.ref q]) (h₀:=_) I.ok.mod.kin hm.kp (Ea (ha cpos Z s1 U H1 (λvs H2=>∃G2,Step G1 H1 G2 H2/\Reps X.K G2 ds vs) I1 ⟨G0,H0,G1,O,ds,(j0.step st1),h2,λvs H2 G2 s2 rr=>⟨G2,s2,rr⟩⟩) (λus s2 ⟨ws,H2,I2,r,G2,st2,rr⟩=>⟨I2.kIn,?_⟩) λe s z=>(hno e s z).elim) hst hpl;have r':Vals (V.ref q::ws)<|Value.ref q::us:=.cons J r;have rs':=zQ.mpr ⟨_,_,J,r1.mono st2.gg,rr⟩;have j5:(Value.ref q::us).length=ps.length:=by
    rw[<-r'.length];exact F.len _ H2 (λ_ _=>False) (λv _ H'=>v = .ref CC/\∃G',Step G2 H2 G' H') ⟨G2,_,st2.sub,rs',hl,.inr ⟨cc,CC,hq,hCC,λH' G' z=>⟨J,G',z⟩⟩⟩
   refine Ic<|Ye (F.run X.A _ s2 H2 ⟨Value.ref q::us,[]⟩ _ _ (λ_ _=>False) (λv _ H'=>v = .ref CC/\∃G',Step G2 H2 G' H') hr I2.env0 (by have:=hb s2 _ I2.kIn (by rw[Wo];exact j5);rwa[Wo] at this) r' ⟨G2,_,st2.sub,rs',hl,.inr ⟨cc,CC,hq,hCC,λH' G' z=>⟨J,G',z⟩⟩⟩) λr s' hr'=>?_;cases r with
   | error e=>exact kk s2 H2 G2 e s' I2 (st1.trans st2) hr'
   | ok fl =>
    cases fl with
    | ret u=>obtain⟨_,_,_,_,_,_,_,z⟩:=hr';exact z.elim
    | next=>exact False.elim hr'
    | brk=>exact False.elim hr'
    | cont=>exact False.elim hr'
  .simp_all
 | _=>cases hq
end L2
namespace L2
def zPT:D->Option Key | .int i=>some (.inl i) | .str s=>some (.inr s) | _=>none
def aQ (ks:qj)(ds:kd)(k:Key):qi:=((ks.zip ds).find? λp=>decide (p.1=k)).map (·.2)
def zZ1 (ks:qj)(ds:kd)(k:Key):kd:=((ks.zip ds).filter λp=>decide (p.1≠k)).map (·.2)
def zYp (ks:qj)(k:Key):qj:=ks.filter λq=>decide (q≠k)
def bT (ks:qj)(ds:kd)(k:Key)(e:D):kd:=(ks.zip ds).map λp=>if p.1=k then e else p.2
def zSN (ks:qj)(ds:kd)(k:Key)(e:D):D:=if (aQ ks ds k).isSome then .dct ks (bT ks ds k e) else .dct (ks++[k]) (ds++[e])
section
def dY {k:Key}(h:zPT d=some k)(r:Rep K G d v):v=kV k:=by
 cases d with
 | int i=>cases h;exact zC.mp r
 | str z=>cases h;exact yF.mp r
 | _=>cases h
theorem zV5:∀ {ks:qj} {ds:kd} {vs:kj} (k:Key),ks.length=ds.length->Reps K G ds vs->match aQ ks ds k,fX (ks.zip vs) k with | some d,some v=>Rep K G d v | none,none=>True | _,_=>False
 | [],ds,vs,k,h,r=>by simp[aQ,fX]
 | q::ks,[],vs,k,h,r=>by simp at h
 | q::ks,d::ds,vs,k,h,r=>by
  obtain⟨v,vr,rfl,r1,r2⟩:=zQ.mp r;have ih:=zV5 k (by simpa using h) r2;unfold aQ fX at ih ⊢
  by_cases e:q=k
  .simp_all
  .simp_all
def lI (k:Key)(h:ks.length=ds.length)(r:Reps K G ds vs):(fX (ks.zip vs) k).isSome=(aQ ks ds k).isSome:=by
 have:=zV5 k h r;split at this
 .simp_all
 .simp_all
 .simp_all
theorem zUA:∀ {ks:qj} {ds:kd} {vs:kj} (k:Key),ks.length=ds.length->Reps K G ds vs -> ∃us,zYn (ks.zip vs) k=(zYp ks k).zip us/\(zYp ks k).length=(zZ1 ks ds k).length/\Reps K G (zZ1 ks ds k) us
 | [],ds,vs,k,h,r=>⟨[],by simp[zYn],by simp[zZ1,zYp],by simp[zZ1];exact zD.mpr J⟩
 | q::ks,[],vs,k,h,r=>by simp at h
 | q::ks,d::ds,vs,k,h,r=>by
  obtain⟨v,vr,rfl,r1,r2⟩:=zQ.mp r;obtain⟨us,a1,a2,a3⟩:=zUA k (by simpa using h) r2;unfold zYn zZ1 zYp at *
  by_cases e:q=k
  .refine⟨us,?_,?_,?_⟩
   .simp_all
   .simp_all
   .simp_all
  .refine⟨v::us,?_,?_,?_⟩
   .simp_all
   .simp_all
   .have:=zQ.mpr ⟨v,us,J,r1,a3⟩;simpa [e] using this
theorem zUX {d:D}{v:V}(rv:Rep K G d v)(k:Key):∀ {ks:qj} {ds:kd} {vs:kj},ks.length=ds.length->Reps K G ds vs -> ∃us,((ks.zip vs).map λkv=>if kv.1=k then(kv.1,v) else kv)=ks.zip us/\ks.length=(bT ks ds k d).length/\Reps K G (bT ks ds k d) us
 | [],ds,vs,h,r=>⟨[],je,by simp[bT],by simp[bT];exact zD.mpr J⟩
 | q::ks,[],vs,h,r=>by simp at h
 | q::ks,d'::ds,vs,h,r=>by
  obtain⟨w,vr,rfl,r1,r2⟩:=zQ.mp r;obtain⟨us,a1,a2,a3⟩:=zUX rv k (by simpa using h) r2;unfold bT at *
  by_cases e:q=k
  .refine⟨v::us,by simp[e,a1],by simpa using a2,?_⟩;have:=zQ.mpr ⟨v,us,J,rv,a3⟩;simpa [e] using this
  .refine⟨w::us,by simp[e,a1],by simpa using a2,?_⟩;have:=zQ.mpr ⟨w,us,J,r1,a3⟩;simpa [e] using this
def zOd (rv:Rep K G d v)(k:Key)(h:ks.length=ds.length)(r:Reps K G ds vs):RepO K G (.dK<|cK (ks.zip vs) k v)<|zSN ks ds k d:=by
 unfold zSN;split
 .rename_i e;obtain⟨us,a1,a2,a3⟩:=zUX rv k h r;exact⟨us,Wa _<|(Qg (by rw[zZk,lI k h r];exact e)).trans a1,a2,a3⟩
 .rename_i e;have hn:fX (ks.zip vs) k=none:=by
   have:=lI k h r;simp_all
  refine⟨vs++[v],?_,by simp[h],r.snoc rv⟩;rw[zJe v hn,List.zip_append<|by rw[h,r.length]];rfl
def zPw (sub:Same G H)(r:Rep K G (.dct ks ds) v):∃q vs,v = .ref q/\Rd H q (.dK<|ks.zip vs)/\ks.length=ds.length/\Reps K G ds vs:=by obtain⟨q,vs,ob,rfl,h1,h2,h3⟩:=zX1.mp r;exact⟨q,vs,J,.inr ⟨ob,sub _ _ h1⟩,h2,h3⟩
variable{a b:r8}{k:Nat}
def zKC (i:Nat):Sf:=λO=>some<|.nx<|O.set i<|.mu none<|.dct [] []
def zLn (i:Nat)(hN:X.N.Nodup)(hi:!27:=by rfl)(hx:Loc X.env.scope x:=by exact o0)(hs:swapsWith (.Dict [] [] p) (some<|.Name x pos') pos.line X.env=pure false:=by rfl)(hf:!39:=by exact o0):PFS X (.Assign [.Name x pos'] (.Dict [] [] p) pos)<|zKC i:=by refine PS.to (bF hN hi hx zRm hs hf) ?_;rintro D U H ⟨G0,H0,G,O,o,j0,hf,k⟩;cases hf;intro q hq;have s1:=Step.own (o:=.dK []) j0.st.sub hq;exact k _ _ G s1.gg<|(j0.step s1).setM i zN (j0.st.sub.free hq) (j0.st.hh.free hq) ⟨[],rfl,rfl,zD.mpr rfl⟩ λj w c h1 h2 f=>j0.fresh hq j w c h1 h2<|(j0.at h1 h2).back (s1.gg.trans s1.sub) (λx o _ h=>s1.hh x o h) f
def zVX (y:Bool)(fk fd:Ef):Tf:=λO=>(fk O).bind λdk=>(fd O).bind λd=>(zPT dk).bind λk=>match d with | .dct ks ds=>some ((aQ ks ds k).isSome==y) | _=>none
def zLA {y:Bool}{fd:Ef}{r:Bool}(h:zVX y fk fd O=some r):∃dk k ks ds,fk O=some dk/\fd O=some (.dct ks ds)/\zPT dk=some k/\r=((aQ ks ds k).isSome==y):=by
 obtain⟨dk,h1,h⟩:=k8 h;obtain⟨d,h2,h⟩:=k8 h;obtain⟨k,h3,h⟩:=k8 h;split at h
 .cases h;exact⟨dk,k,_,_,h1,h2,h3,J⟩
 .cases h
def zNZ {y:Bool}{Q:Bool->Hp->Prop}(h:tFT X.K (zVX y fa fb) U H Q):tF X.K fa U H λv H1=>tF X.K fb U H1 λx H2=>∃q o,x = .ref q/\zQZ H2 q v o/\Q (o.isSome==y) H2:=by obtain⟨G0,H0,G,O,c,j0,hf,kk⟩:=h;obtain⟨dk,k,ks,ds,h1,h2,h3,rfl⟩:=zLA hf;refine⟨G0,H0,G,O,_,j0,h1,λu H1 G1 s1 r1=>⟨G0,H0,G1,O,_,j0.step s1,h2,λv H2 G2 s2 r2=>?_⟩⟩;obtain⟨q,vs,rfl,e1,e2,e3⟩:=zPw s2.sub r2;have e4:=dY h3 r1;subst e4;exact⟨q,_,J,⟨_,_,e1,J,J⟩,by rw[lI k e2 e3];exact kk _ G2 (!18)⟩
def zJG (hr:Room k X.A)(ha:!12)(hb:PF X b fb)(hm:behindInMarks .In b=false:=by first | exact zV6 _ | (with_unfolding_all rfl)):PFT X (.Compare a [.In] [b] pos)<|zVX true fa fb:=by have hu:=hr.un;refine PT.to (zJJ (zFK jc ha hb) hm) λU H Q h=>?_;obtain⟨G0,H0,G,O,d,j0,hf,k⟩:=zNZ h;refine⟨G0,H0,G,O,d,j0,hf,λv H1 G1 s1 r1=>?_⟩;obtain⟨G0,H0,G,O,d,j0,hf,k⟩:=k v H1 G1 s1 r1;refine⟨G0,H0,G,O,d,j0,hf,λv H1 G1 s1 r1=>?_⟩;obtain⟨q,o,e1,e2,e3⟩:=k v H1 G1 s1 r1;exact⟨q,o,e1,e2,_,J,by simpa using e3⟩
def zVd (hr:Room k X.A)(ha:!12)(hb:PF X b fb)(hm:behindInMarks .NotIn b=false:=by first | exact zV6 _ | (with_unfolding_all rfl)):PFT X (.Compare a [.NotIn] [b] pos)<|zVX false fa fb:=by have hu:=hr.un;refine PT.to (zJJ (zNp jc ha hb) hm) λU H Q h=>?_;obtain⟨G0,H0,G,O,d,j0,hf,k⟩:=zNZ h;refine⟨G0,H0,G,O,d,j0,hf,λv H1 G1 s1 r1=>?_⟩;obtain⟨G0,H0,G,O,d,j0,hf,k⟩:=k v H1 G1 s1 r1;refine⟨G0,H0,G,O,d,j0,hf,λv H1 G1 s1 r1=>?_⟩;obtain⟨q,o,e1,e2,e3⟩:=k v H1 G1 s1 r1;exact⟨q,o,e1,e2,_,J,by simpa using e3⟩
def zVb (fd fk:Ef):Ef:=λO=>(fd O).bind λd=>(fk O).bind λdk=>(zPT dk).bind λk=>match d with | .dct ks ds=>aQ ks ds k | _=>none
def zOR (hr:Room k X.A)(ha:!12)(hb:PF X b fb)(hs:zF4 b:=by exactλ_ _=>rfl):PF X (.Subscript a b pos)<|zVb fa fb:=by
 have hu:=hr.un;refine PE.to (zI9 jc ha hb hs) ?_;rintro U H Q ⟨G0,H0,G,O,c,j0,hf,kk⟩;obtain⟨d,h1,hf⟩:=k8 hf;obtain⟨dk,h2,hf⟩:=k8 hf;obtain⟨k,h3,hf⟩:=k8 hf;cases d with
 | dct ks ds =>
  refine⟨G0,H0,G,O,_,j0,h1,λu H1 G1 s1 r1=>⟨G0,H0,G1,O,_,j0.step s1,h2,λv H2 G2 s2 r2=>?_⟩⟩;obtain⟨q,vs,rfl,e1,e2,e3⟩:=zPw s2.sub<|r1.mono s2.gg;have e4:=dY h3 r2;subst e4;have hv:=zV5 k e2 e3;have hf:aQ ks ds k=some c:=hf;rw[hf] at hv;cases hw:fX _ k with
  | none=>rw[hw] at hv;exact hv.elim
  | some w =>rw[hw] at hv;refine⟨q,w,J,?_,kk _ _ G2 (!18) hv⟩;rw[<-hw];exact⟨_,_,e1,J,J⟩
 | _=>cases hf
def zGB (i:Nat)(fk fv:Ef):Sf:=λO=>(fv O).bind λe=>(fk O).bind λdk=>(zPT dk).bind λk=>match O[i]? with
 | some (.mu q (.dct ks ds))=>if ks.length<=lim then some (.nx<|O.set i<|.mu q<|zSN ks ds k e) else none
 | _=>none
def zHI (i:Nat)(hr:Room k X.A)(he:PF X e fa)(hb:PF X b fb)(hN:!27:=by rfl)(hv:!31:=by exact visQ rfl)(hd:!20:=by decide)(hcd:!30:=by decide)(hs:swapsWith e (some<|.Subscript (!19) b p2) pos.line X.env=pure false:=by rfl):PFS X (.Assign [.Subscript (!19) b p2] e pos)<|zGB i fb fa:=by
 have hu:=hr.un;refine PS.to (zOy jc (wI hN hv hd hcd) hb he hs) ?_;rintro D U H ⟨G0,H0,G,O,o,j0,hf,kk⟩;obtain⟨de,g1,hf⟩:=k8 hf;obtain⟨dk,g2,hf⟩:=k8 hf;obtain⟨k,g3,hf⟩:=k8 hf;split at hf
 .rename_i q ks ds hi;split at hf
  .rename_i hl;cases hf;refine⟨G0,H0,G,O,_,j0,g1,λv H1 G1 s1 r1=>?_⟩;obtain⟨q,oq,e1,e2⟩:=(j0.step s1).mu hi;refine⟨.ref q,e1,G0,H0,G1,O,_,j0.step s1,g2,λu H2 G2 s2 r2=>?_⟩;have gd:=(j0.step s1).step s2;obtain⟨q',oq',f1,f2,f3,f4,f5⟩:=gd.mu hi;rw[e1] at f1;cases f1;obtain⟨vs,rfl,l1,l2⟩:=f5;have e4:=dY g3 r2;subst e4;refine⟨q,_,J,DPut.k f2 ?_,kk _ _ G2 (s1.gg.trans s2.gg)<|gd.wrM hi e1<|zOd (r1.mono s2.gg) k l1 l2⟩;rw[Ei,<-l2.length,<-l1,Yr];exact xR hl
  .simp_all
 .simp_all
end
theorem zZh:∀ {vs:kj} {us:jn} {v:V} {u:qv},Vals vs us->RelV v u->Vals (vs++[v]) (us++[u])
 | _,_,_,_,.nil,h=>.cons h .nil
 | _,_,_,_,.cons a t,h=>.cons a<|zZh t h
def xE (a b:Int×Str):Bool:=decide (a.1 < b.1)||(a.1==b.1&&decide (a.2.cps.toList < b.2.cps.toList))
def jY {b:Int×Str}:xE a b=true↔a.1 < b.1\/(a.1=b.1/\a.2.cps.toList < b.2.cps.toList):=by unfold xE;simp[Td]
def zGU (a:ky):¬a < a:=List.lt_irrefl a
def zEd {a b:ky}(h1:¬a < b)(h2:¬b < a):a=b:=by grind
def vC (a:Int×Str):xE a a=false:=by
 cases h:xE a a
 .rfl
 .rw[jY] at h
  grind
def zSK {b c:Int×Str}(h1:xE a b=true)(h2:xE b c=true):xE a c=true:=by
 rw[jY] at *;rcases h1 with h1 | h1<;>rcases h2 with h2 | h2
 .lia
 .simp_all
 .simp_all
 .grind
def zRe {b c:Int×Str}(h:xE a c=true):xE a b=true\/xE b c=true:=by
 simp only[jY] at *
 grind
def zIR {b:Int×Str}(h1:xE a b=false)(h2:xE b a=false):a=b:=by
 have q1:¬_:=λz=>by rw[jY.mpr z] at h1;cases h1
 have q2:¬_:=λz=>by rw[jY.mpr z] at h2;cases h2
 have e:a.1=b.1:=jc;have e2:=zEd (λz=>q1<|.inr ⟨e,z⟩) λz=>q2<|.inr ⟨e.symm,z⟩;obtain⟨a1,⟨a2⟩⟩:=a;simp_all
def zVN (f:Nat->Int×Str):SWO λi j=>xE (f i)<|f j:=⟨λa=>vC _,λa b c=>zSK,λa b c=>zRe⟩
abbrev isZ:Int×Str:=(0,⟨#[]⟩)
abbrev ltP (ps:qe)(i j:Nat):Bool:=xE (ps.getD i isZ)<|ps.getD j isZ
def aM (ps:qe):ky:=vW (ltP ps) ps.length
def qR (ps:qe):(aM ps).Perm<|List.range ps.length:=sH _ _
def qX (ps:qe):qe:=(aM ps).map λi=>ps.getD i isZ
def zYh (ps:qe):(qX ps).Perm ps:=by refine((qR ps).map _).trans ?_;rw[tS]
def zRy (ps:qe):(aM ps).Pairwise λi j=>ltP ps j i=false :=(zUy (zVN λi=>ps.getD i isZ) _).imp λ{a b} h=>Lx.le (zVN λi=>ps.getD i isZ) h
def zVm (ps:qe):(qX ps).Pairwise λa b=>xE b a=false:=by unfold qX;rw[Tz];exact zRy ps
def zQr (h:qx)(p:Int×Str)(u:qv):Prop:=∃a o n t t',u = .ref a/\h.get? a=some o/\o.cls = .type "tuple"/\o.data = .seq #[.int p.1 t,.str p.2 t'] n
theorem zJL {h:qx}:∀ {ps:qe} {us:jn},Paired (zQr h) ps us->∃fs:qh,KatTups h us fs/\fs.length=us.length/\∀v∈fs,∃i t,v=Value.int i t
 | _,_,.nil=>⟨[],KatTups.nil,J,λ_ h=>nomatch h⟩
 | _,_,.cons r t=>by
  obtain⟨a,o,n,t1,t2,rfl,e,c,d⟩:=r;obtain⟨fs,q1,q2⟩:=zJL t;refine⟨_::fs,KatTups.cons e c d J q1,by simp[q2],λv hv=>?_⟩;rcases v4 hv with rfl | hv
  .exact⟨_,_,rfl⟩
  .simp_all
def zOB {ps:qe}(hp:Paired (zQr s.heap) ps us)(h2:2<=us.length):∃κ,(∀(E':jl) Q,Q κ s->wpAny (model P w) A (keyKind' us.toArray) Q E' s) /\ ∀i j C,i < us.length->j < us.length->C (ltP ps i j) s->kas_ask P w A κ us i j C s:=by
 obtain⟨fs,q1,q2,q3⟩:=zJL hp;have hl:_=_:=Rv hp;refine⟨tuples'<|(Value.type "int") != Value.type "tuple",λE' Q' hQ=>kat_kind q1 jc (λv hv=>?_) rfl hQ,λi j C hi hj hC=>?_⟩
 .obtain⟨n,t,rfl⟩:=q3 v hv;exact Looks.of_pure J
 .obtain⟨a,o,n,t1,t2,ea,e,c,d⟩:=uY (i:=i) (da:=isZ) (db:=_) hp jc;obtain⟨b,o',n',t3,t4,eb,e',c',d'⟩:=uY (i:=j) (da:=isZ) (db:=Value.none) hp jc;have hC:C (xE (ps.getD i isZ)<|ps.getD j isZ) s:=hC;generalize ps.getD i isZ=x at *;generalize ps.getD j isZ=y at *;unfold kas_ask;rw[ea,eb];refine kat_lt e d e' d'<|kat_cons<|Pe ?_
  by_cases h1:x.1=y.1
  .have e1:(x.1==y.1)=true:=by simp[h1]
   rw[e1];refine kat_yes<|kat_cons<|Yc ?_
   by_cases h3:x.2=y.2
   .have e2:decide (x.2=y.2)=true:=by simp[h3]
    rw[e2];refine kat_yes<|kat_nil ?_;have e3:x=y:=Prod.ext h1 h3;rw[e3,vC] at hC;simpa using hC
   .have e2:decide (x.2=y.2)=false:=by simp[h3]
    rw[e2];refine kat_one _ _<|lt_str ?_;have e3:xE x y=decide (x.2.cps.toList < y.2.cps.toList):=by unfold xE;simp[h1]
    rw[e3] at hC;exact hC
  .have e1:(x.1==y.1)=false:=by simp[h1]
   rw[e1];refine oneLt_int ?_;have e3:xE x y=decide (x.1 < y.1):=by unfold xE;simp[h1]
   simp_all
def zGJ (I:!3)(k:∀b o,s.heap.get? b=some o->h'.get? b=some o){p:Int×Str}{b:qu}(e:SqT X.K H b [.int p.1,.str p.2]):zQr h' p<|.ref b:=by
 obtain⟨j6,rv,⟨o,e,c,n,d⟩,_⟩:=I.tuple e;obtain⟨u1,r1,e1,r2⟩:∃u1 r1,j6=u1::r1/\RelV _ u1/\Vals [.str p.2] r1:=by cases rv with | cons x y=>exact⟨_,_,J,x,y⟩
 obtain⟨u2,e2,r3⟩:∃u2,r1=[u2]/\RelV _ u2:=by cases r2.2 with | cons x y=>cases y;exact⟨_,J,x⟩
 obtain⟨t,rfl⟩:=r2.1;obtain⟨t',rfl⟩:=r3;subst e1;subst e2;exact⟨b,o,n,t,t',J,k _ _ e,c,d⟩
def dIS (p:Int×Str):D:=.tup [.int p.1,.str p.2]
end L2
variable{a:r8}
namespace L2
structure FlyV (h:qx)(H:Hp)(h0:qx)(C a:qu)(od:kq):Prop where
 ob:∃vs v,h.get? a=some { cls:=.ref C,dict:=od,data:=.fields vs,slots:=#[] }/\vs[1]?=some v/\zT2 h a v/\∀T,v = .ref T->H T=none/\h0.get? T=none
 tr:H a=some (.ext<|Xe C a od)
 new:h0.get? a=none
def zN1 {rest:qg}{B f g:Sf}(e:B=zH f g)(h1:PFS X st f)(h2:PFSs X rest g):PFSs X (st::rest) B:=by subst e;exact zT h1 h2
def zO {rest:qg}(B:Sf){f g:Sf}(e:B=zH f g)(h1:PFS X st f)(h2:PFSs X rest g):PFSs X (st::rest) B:=zN1 e h1 h2
structure FnT (K:jk)(mg:Str->km)(x:Str)(st:r9)(ps:kg) where
 f:qu
 fd:FuncData
 F:Fun K x x st f fd
 b:Binds K fd ps []
 m:mg x=some (.ref f)
def wH (K:jk)(x:Str)(st:r9):Prop:=∃(f:qu) (od an:kq) (sl:Array km) (oc kV dc pm cd ct:qv),PySem.W.nsIn K mainGlobals x=some (some<|.ref f)/\K.lookup f=some ⟨oc,od,.func<|PySem.W.fnOf x x (qF st) (xL st) (zV st) .none kV dc pm an cd ct,sl⟩/\codeIn K cd x=true/\keepIn K (.ref f)=true
abbrev fnR (x q:Str)(st:r9)(kV dc pm:qv)(an:kq)(cd ct:qv):FuncData:=PySem.W.fnOf x q (qF st) (xL st) (zV st) .none kV dc pm an cd ct
def Be (x q:Str)(st:r9)(ps:kg):Prop:=∀(kV doc pm:qv) (an:kq) (j9 ct:qv) (us:jn),us.length=ps.length->bindArgs (fnR x q st kV doc pm an j9 ct) ⟨us,[]⟩=pure (ps.zip us)
section
variable{q a b c d e:Str}
theorem mC {P:List α->Prop}(h:∀u r,r.length=n->P (u::r)):∀us,us.length=n+1->P us
 | u::r,e=>h u r<|Nat.succ.inj e
theorem zQM {P:List α->Prop}(h:P []):∀us,us.length=0->P us
 | [],_=>h
def be1 (h:∀kV dc pm an cd ct u,bindArgs (fnR x q st kV dc pm an cd ct) ⟨[u],[]⟩=pure [(a,u)]):Be x q st [a]:=λ_ _ _ _ _ _=>mC λu=>zQM<|h _ _ _ _ _ _ u
def be2 (h:∀kV dc pm an cd ct u v,bindArgs (fnR x q st kV dc pm an cd ct) ⟨[u,v],[]⟩=pure [(a,u),(b,v)]):Be x q st [a,b]:=λ_ _ _ _ _ _=>mC λu=>mC λv=>zQM<|h _ _ _ _ _ _ u v
def be3 (h:∀kV dc pm an cd ct u v z,bindArgs (fnR x q st kV dc pm an cd ct) ⟨[u,v,z],[]⟩=pure [(a,u),(b,v),(c,z)]):Be x q st [a,b,c]:=λ_ _ _ _ _ _=>mC λu=>mC λv=>mC λz=>zQM<|h _ _ _ _ _ _ u v z
def be4 (h:∀kV dc pm an cd ct u v z w,bindArgs (fnR x q st kV dc pm an cd ct) ⟨[u,v,z,w],[]⟩=pure [(a,u),(b,v),(c,z),(d,w)]):Be x q st [a,b,c,d]:=λ_ _ _ _ _ _=>mC λu=>mC λv=>mC λz=>mC λw=>zQM<|h _ _ _ _ _ _ u v z w
def be5 (h:∀kV dc pm an cd ct u v z w y,bindArgs (fnR x q st kV dc pm an cd ct) ⟨[u,v,z,w,y],[]⟩=pure [(a,u),(b,v),(c,z),(d,w),(e,y)]):Be x q st [a,b,c,d,e]:=λ_ _ _ _ _ _=>mC λu=>mC λv=>mC λz=>mC λw=>mC λy=>zQM<|h _ _ _ _ _ _ u v z w y
def wE (X:K.In h)(G:h.Ns mainGlobals mg)(g:wH K x st)(hb:Be x x st ps:=by first | exact be1 λ_ _ _ _ _ _ _=>rfl | exact be2 λ_ _ _ _ _ _ _ _=>rfl | exact be3 λ_ _ _ _ _ _ _ _ _=>rfl | exact be4 λ_ _ _ _ _ _ _ _ _ _=>rfl | exact be5 λ_ _ _ _ _ _ _ _ _ _ _=>rfl):FnT K mg x st ps:=Classical.choice (by obtain⟨f,od,an,sl,oc,kV,dc,pm,cd,ct,a,l,c,k⟩:=g;exact⟨⟨f,_,zSG l c k,(zSG l c k).binds hb,mg_of X G a⟩⟩)
def zGr {k:Nat}{p:Str}{fa:qu}(t:FnT K mg x st [p])(hb:Be x x st [p])(hfa:mg x=some (.ref fa))(ok:∀base:qx,FnOk P w K mg base CX0 k t.f t.fd [p] sp):∃fd:FuncData,(∀(s:qw) (v:qv),BindsTo s fd ⟨[v],[]⟩ [(p,v)])/\∀base:qx,K.In base->base.Ns mainGlobals mg->FnOk P w K mg base CX0 k fa fd [p] sp:=by have e:=hfa.symm.trans t.m;cases e;refine⟨t.fd,λs v=>?_,λbase _ _=>ok base⟩;obtain⟨oc,od,kV,doc,pm,an,j9,ct,osl,e,lk⟩:=t.F.ex;rw[e];exact .of_eq<|hb kV doc pm an j9 ct [v] rfl
end
abbrev OkT (P:Program)(w:qz)(base:qx)(t:FnT K mg x st ps)(k n:Nat)(d:jz):Prop:=FnOk P w K mg base CX0 k t.f t.fd ps<|spF K n d
abbrev zQx (P:Program)(w:qz)(base:qx)(t:FnT K mg x st ps)(k n:Nat)(d:kd->ka):Prop:=FnOk P w K mg base CX0 k t.f t.fd ps<|spL K n d
def xT {k:Nat}{t:FnT X.K X.mg x st ps}{fD:jz}(F:FnOk X.prog X.w X.K X.mg X.base CX0 j t.f t.fd ps<|spF X.K n fD)(hr:Room k X.A)(ha:PFA X (e::es) ga)(hj:j<=k:=by first | exact Qr rfl | lia)(hg:Gl X x:=by rfl)(hdb:!20:=by decide)(he:!23:=by rfl)(hpl:(backTo pos (!25)).any (·.1)=false:=by rfl):PF X (.Call (.Name x p) (e::es) [] pos)<|yZ n fD ga:=zH3 F (hr.mono hj) t.m t.F.kp t.b hg ha hdb he hpl
def zWT {k:Nat}{t:FnT X.K X.mg x st ps}(F:FnOk X.prog X.w X.K X.mg X.base CX0 j t.f t.fd ps<|spL X.K n fD)(hr:Room k X.A)(ha:PFA X (e::es) ga)(hj:j<=k:=by first | exact Qr rfl | lia)(hg:Gl X x:=by rfl)(hdb:!20:=by decide)(he:!23:=by rfl)(hpl:(backTo pos (!25)).any (·.1)=false:=by rfl):PFr X (.Call (.Name x p) (e::es) [] pos)<|uN n fD ga:=zId F (hr.mono hj) t.m t.F.kp t.b hg ha hdb he hpl
def yP {P:kg}(h:(sc.kind == .function && !sc.isCoroutine && !sc.isGenerator&&decide (N.take P.length=P)&&decide N.Nodup&&decide (∀x∈P,sc.names.lookup x=some .local\/sc.names.lookup x=some .cell)&&decide (∀y∈sc.names,y.2 ≠ .free))=true):FnScope N P sc:=by simp only[Wy,Wl,Bool.not_eq_true'] at h;obtain⟨⟨⟨⟨⟨⟨h1,h2⟩,h3⟩,h4⟩,h5⟩,h6⟩,h7⟩:=h;refine⟨?_,h2,h3,h5,h4,h6,h7⟩;simp_all
end L2
namespace L2
def zP7:D->Option (Int×Str) | .tup [.int i,.str z]=>some (i,z) | _=>none
def zX8 {p:Int×Str}(h:zP7 d=some p):d=dIS p:=by
 unfold zP7 at h;split at h
 .cases h;rfl
 .cases h
def zRM (f:jz):kd->Option qe
 | []=>some []
 | d::r=>((f [d]).bind zP7).bind λp=>(zRM f r).map (p::·)
theorem zU7 {f:jz}:∀ {ds:kd} {ps:qe},zRM f ds=some ps->ps.length=ds.length
 | [],_,h=>by cases h;rfl
 | d::r,ps,h=>by obtain⟨p,h1,h⟩:=k8 h;obtain⟨qs,h2,rfl⟩:=k9 h;rw[Qk,Qk,zU7 h2]
theorem zR6 {f:jz}:∀ {ds:kd} {ps:qe} {i:Nat} {d:D},zRM f ds=some ps->ds[i]?=some d->∃p,ps[i]?=some p/\f [d]=some (dIS p)
 | [],_,_,_,_,e=>by simp at e
 | d::r,ps,i,d',h,e=>by
  obtain⟨p,h1,h⟩:=k8 h;obtain⟨qs,h2,rfl⟩:=k9 h;obtain⟨x,h3,h4⟩:=k8 h1;cases i with
  | zero=>cases e;exact⟨p,J,by rw[h3,zX8 h4]⟩
  | succ i=>exact zR6 (i:=i) h2 (!6)
def zSE (f:jz)(g:Lf):Lf:=λO=>(g O).bind λds=>(zRM f ds).bind λps=>if ps.length < 64 then some ((aM ps).map λi=>ds.getD i .non) else none
theorem Vals.at {x:qv}:∀ {vs:kj} {us:jn} {i:Nat},Vals vs us->us[i]?=some x->∃v,vs[i]?=some v/\RelV v x
 | _,_,_,.nil,e=>by simp at e
 | _,_,0,.cons r _,e=>by cases e;exact⟨_,J,r⟩
 | _,_,i+1,.cons _ t,e=>Vals.at (i:=i) t (!6)
theorem Reps.at {K:jk}{G:Hp}{v:V}:∀ {ds:kd} {vs:kj} {i:Nat},Reps K G ds vs->vs[i]?=some v->∃d,ds[i]?=some d/\Rep K G d v
 | [],vs,i,h,e=>by rw[zD] at h;subst h;simp at e
 | d::ds,vs,i,h,e=>by
  obtain⟨v',vr,rfl,r1,r2⟩:=zQ.mp h;cases i with
  | zero=>cases e;exact⟨d,J,r1⟩
  | succ i=>exact Reps.at (i:=i) r2 (!6)
theorem zT3 {X:Cx}{Z:jm}{U:St}{G H:Hp}{s:qw}(I:!3)(sub:Same G H):∀ {ps:qe} {vs:kj} {us:jn},Reps X.K G (ps.map dIS) vs->Vals vs us->Paired (zQr s.heap) ps us
 | [],vs,us,h,r=>by rw[Ig] at h;subst h;cases r;exact .nil
 | p::ps,vs,us,h,r=>by
  obtain⟨v',vr,rfl,r1,r2⟩:=zQ.mp h;cases r with
  | cons w1 w2 =>refine .cons ?_<|zT3 I sub r2 w2;obtain⟨b,us',rfl,q1,q2⟩:=yE.mp r1;cases w1;obtain⟨_,_,rfl,a1,a2⟩:=zQ.mp q2;obtain⟨_,_,rfl,a3,a4⟩:=zQ.mp a2;rw[zD] at a4;subst a4;subst a1 a3;exact zGJ I (λ_ _ e=>e)<|sub.tup q1
section
variable{kp:Pos}{k:Nat}{fD:jz}
def zLt {t:FnT X.K X.mg x st [y]}(F:FnOk X.prog X.w X.K X.mg X.base CX0 j t.f t.fd [y]<|spF X.K 1 fD)(hr:Room k X.A)(hg:Gl X "sorted")(hm:X.mg "sorted"=none)(h:zTG X a ga)(hj:j+2<=k:=by lia)(hgx:Gl X x:=by rfl)(hdb:!20:=by decide)(hs:!34:=by rfl):PFr X (.Call (.Name "sorted" p) [a] [⟨some "key",.Name x p1,kp⟩] pos)<|zSE fD ga:=by
 intro Z s U H Q I h0;obtain⟨G0,H0,G,O,ds',j0,hf,K⟩:=h0;obtain⟨ds,f1,hf⟩:=k8 hf;obtain⟨ps,f2,hf⟩:=k8 hf;split at hf
 case isFalse=>cases hf
 cases hf;have j5:=zU7 f2;refine Em<|iE I hg hm (u:=.builtin "sorted") jg (callWith_kw (spliced_more (thn (h Z s U H (λv H1=>∃r vs G1,v = .ref r/\Step G H G1 H1/\SqL X.K G1 r vs/\Reps X.K G1 ds vs) I ?_) λu s1 ⟨v,H1,I1,rv,r,vs,G1,e,st1,hr1,rs1⟩=>?_) (by rw[hs];rfl)) (by first | rfl | (rw[hs];rfl)) (by first | rfl | (rw[hs];rfl)) (by first | rfl | (rw[hs];rfl))<|by first | rfl | (rw[hs];rfl)) jb jb
 .exact⟨G0,H0,G,O,ds,j0,f1,λr vs H1 G1 s1 q1 q2=>⟨r,vs,G1,J,s1,q1,q2⟩⟩
 subst e;cases rv;refine spliced_none<|kws_cons<|gU I1 hgx t.m (kws_nil ?_) hdb;obtain⟨j6,rvl,pl,hz⟩:=I1.list<|st1.sub.seq hr1;have hvl:_=_:=rvl.length;have hdl:_=_:=rs1.length;refine zTe (lt:=ltP ps) (zVN λi=>ps.getD i isZ) (λm ws H'=>∃G' j8,Step G1 H1 G' H'/\Reps X.K G' ((ps.take m).map dIS) j8/\Vals j8 ws) pl.isList jc I1 ⟨G1,[],.refl st1.sub,by rw[List.take_zero];exact zD.mpr J,.nil⟩ ?step ?asks ?fin
 case step =>
  intro m x' ws H' s' _ hx hJ I';obtain⟨G',j8,st,rk,iw⟩:=hJ;obtain⟨v,ev,rvx⟩:=rvl.at hx;obtain⟨d,ed,rd⟩:=rs1.at ev;obtain⟨q,eq,fq⟩:=zR6 f2 ed;refine Ic<|Ye (F.run _ _ s' H' ⟨[x'],[]⟩ [x'] [v] (λv' H''=>∃G'',Step G' H' G'' H''/\Rep X.K G'' (dIS q) v') E0 ((hr.mono hj).in1.in1) I'.env0.in1.in1 (by simpa using (t.b s' [x'] I'.kIn J)) (.cons rvx .nil) ⟨G',[d],dIS q,st.sub,zQ.mpr ⟨v,[],rfl,rd.mono st.gg,zD.mpr rfl⟩,rfl,fq,λv' H'' G'' s'' r=>⟨G'',s'',r⟩⟩) λr s'' hq=>?_
  .cases r with
   | error e=>exact False.elim hq
   | ok fl =>
    cases fl with
    | ret u =>obtain⟨v',H'',I'',rv',G'',st'',rp⟩:=I'.after hq;refine⟨H'',I'',G'',j8++[v'],st.trans st'',?_,zZh iw rv'⟩;rw[List.take_succ,eq,Wv];exact(rk.mono st''.gg).append (zQ.mpr ⟨v',[],J,rp,zD.mpr J⟩)
    | next=>exact False.elim hq
    | brk=>exact False.elim hq
    | cont=>exact False.elim hq
 case asks =>intro ws H' s' _ hJ hw I' h2;obtain⟨G',j8,st,rk,iw⟩:=hJ;rw[Yh jc] at rk;have:=zOB (P:=X.prog) (w:=X.w) (A:=X.A.in1.in1) (zT3 I' st.sub rk iw) jc;rw[hw] at this;exact this
 case fin =>
  intro ws H' D s' hJ hD hI;obtain⟨G',j8,st,rk⟩:=hJ;have stp:Step G H G' H':=st1.trans st;have hpm:=qR ps;have en:j6.length=ps.length:=jc;rw[en] at hI;have vals:Vals ((aM ps).map λi=>vs.getD i .non)<|(aM ps).map λi=>j6.getD i Value.none:=by
   have key:∀l:ky,(∀i∈l,i < vs.length)->Vals (l.map λi=>vs.getD i .non) (l.map λi=>j6.getD i Value.none):=by
    intro l;induction l with
    | nil=>intro _;exact .nil
    | cons i r ih=>intro hh;exact .cons (uY rvl<|hh i je)<|ih λj hj=>hh j<|by simp[hj]
   exact key _ λi hi=>(by have:i < _:=(by simpa using hpm.subset hi);lia)
  refine⟨.ref D,_,hI (.lst<|(aM ps).map λi=>vs.getD i .non) λh' ⟨c3,e3⟩=>?_,J,?_⟩
  .refine⟨?_,_,c3,vals,e3⟩;rw[Qy,hpm.length_eq,Rc];exact Ww<|xR (by show _<=100000;lia)
  .refine K D _ _ G' (stp.trans<|Step.own stp.sub hD) (stp.hh.free hD) zN (stp.sub.free hD) ?_;have key:∀l:ky,(∀i∈l,i < vs.length)->Reps X.K G' (l.map λi=>ds.getD i .non) (l.map λi=>vs.getD i .non):=by
    intro l;induction l with
    | nil=>intro _;exact zD.mpr J
    | cons i r ih =>intro hh;have hi:i < _:=hh i je;obtain⟨d,ed,rd⟩:=(rs1.mono st.gg).at (i:=i) (v:=vs[i]) (by simp[hi]);refine zQ.mpr ⟨_,_,J,?_,ih λj hj=>hh j<|by simp[hj]⟩;show Rep X.K G' (ds.getD i .non) (vs.getD i .non);rw[Eu,Eu,ed];simpa [hi] using rd
   exact key _ λi hi=>(by have:i < _:=(by simpa using hpm.subset hi);lia)
end
end L2
variable{d:kd->ka}
namespace L2
def zK4 {x y:Int×Str}{v:qv}(hu:A.units < cLine)(ha:zQr s.heap x u)(hb:zQr s.heap y v)(h:Q (.bool (!xE y x)) s):wpAny (!8) A (richCompare .LtE u v) Q E s:=by
 obtain⟨a,o,n,t1,t2,rfl,e1,c1,d1⟩:=ha;obtain⟨b,o',n',t3,t4,rfl,e2,c2,d2⟩:=hb;have ta:s.TypeIs (.ref a) "tuple":=⟨o,e1,c1⟩
 have tb:s.TypeIs (.ref b) "tuple":=⟨o',e2,c2⟩
 refine wpAny_richCompare_same_room ta tb PySem.F.slot_tuple_le (Wn PySem.F.slot_tuple_le ta PySem.F.entry_tuple_le ?_<|PySem.F.args_tuple_le_2 _ _) hu;show wpAny _ _ (isInstance (.ref b) (.type "tuple") >>= _) _ _ s;refine Qw<|Pu tb isSubtype_tuple_tuple ?_;simp only[Bool.not_true,Eh,Yb];refine Qw<|wpAny_tupleItemsOf e1 d1 ?_;refine Qw<|wpAny_tupleItemsOf e2 d2 ?_;dsimp only[List.zip,List.zipWith];simp only[List.forIn_cons,List.forIn_nil];refine Qw<|Qw<|Qw<|Pe ?_
 by_cases h1:x.1=y.1
 .have q1:(x.1==y.1)=true:=by simp[h1]
  rw[q1];simp only[Bool.not_true,Eh,Yb];refine Qo<|Qw<|Qw<|Yc ?_
  by_cases h2:x.2=y.2
  .have q2:decide (x.2=y.2)=true:=by simp[h2]
   rw[q2];simp only[Bool.not_true,Eh,Yb];refine Qo<|Qo<|Qo ⟨_,rfl,(λe=>nomatch e),?_⟩;have e3:y=x:=Prod.ext h1.symm h2.symm;rw[e3,vC] at h;exact h
  .have q2:decide (x.2=y.2)=false:=by simp[h2]
   rw[q2];simp only[Bool.not_false,Ox];have e3:xE y x=decide (y.2.cps.toList < x.2.cps.toList):=by unfold xE;simp[h1]
   rw[e3] at h;refine Qw<|Uq<|Qw<|PySem.P.le_str ?_;exact Qo<|Qo<|Qo ⟨_,rfl,(λe=>nomatch e),h⟩
 .have q1:(x.1==y.1)=false:=by simp[h1]
  rw[q1];simp only[Bool.not_false,Ox];have e3:(!xE y x)=decide (x.1<=y.1):=by
   unfold xE;have:(y.1==x.1)=false:=by simp;lia
   rw[this,Bool.false_and,Bool.or_false]
   by_cases h3:y.1 < x.1
   .simp[h3]
   .simp[h3];lia
  rw[e3] at h;refine Qw<|Uq<|Qw<|le_int ?_;exact Qo<|Qo<|Qo ⟨_,rfl,(λe=>nomatch e),h⟩
def zOm (x y:D):ku:=(zP7 x).bind λa=>(zP7 y).map λb => !xE b a
def zHL {k:Nat}(hr:Room k X.A):CmR X .LtE zOm:=by
 refine⟨λx y H Q=>∃p q G,Same G H/\Rep X.K G (dIS p) x/\Rep X.K G (dIS q) y/\Q (.bl (!xE q p)) H,?_,λd d' k G H x y Q h s rx ry kk=>?_⟩
 .intro Z s U H x y v u Q I rx ry ⟨p,q,G,sm,hx,hy,hQ⟩;have pa:=zT3 (ps:=[p]) (vs:=[x]) (us:=[v]) I sm (zQ.mpr ⟨_,_,J,hx,zD.mpr J⟩)<|.cons rx .nil;have pb:=zT3 (ps:=[q]) (vs:=[y]) (us:=[u]) I sm (zQ.mpr ⟨_,_,J,hy,zD.mpr J⟩)<|.cons ry .nil;cases pa with
  | cons pa _ =>
   cases pb with
   | cons pb _=>exact zK4 hr.units0 pa pb ⟨.bl _,H,I,J,hQ⟩
 .unfold zOm at h;obtain⟨p,h1,h⟩:=k8 h;obtain⟨q,h2,rfl⟩:=k9 h;rw[zX8 h1] at rx;rw[zX8 h2] at ry;exact⟨p,q,G,s,rx,ry,kk H G<|.refl s⟩
end L2
namespace L2
open PySem.Builtin PySem.Builtin.Str
section
def zVh (i:Nat)(g:Lf):Sf:=λO=>(g O).bind λes=>match O[i]? with | some (.ow ds)=>if ds.length+es.length<=lim then some (.nx<|O.set i<|.ow<|ds++es) else none | _=>none
def zP4 (i:Nat)(ht:PE X c<|tBM X.K "list" zO4 (zMw i)<|fA (tFr X.K ga) zV1)(hs:swapsWith c none pos.line X.env=pure false:=by rfl):PFS X (.Expr c pos)<|zVh i ga:=by
 refine PS.to (pV ht hs) ?_
 sleep 3
 unfold zVh at hf;obtain⟨es,h1,hf⟩:=k8 hf;split at hf
 .rename_i ds hi;split at hf
  .rename_i hl;cases hf;obtain⟨p,vs,e1,e2,e3⟩:=j0.addr hi;refine⟨.ref p,e1,.inl ⟨J,vs,.of e2⟩,G0,H0,G,O,es,j0,h1,λq ws H1 G1 s1 hq0 hq1 gq rs=>?_⟩;have good1:=j0.step s1;obtain⟨p',vs',f1,f2,f3,f4,f5⟩:=good1.addr hi;rw[e1] at f1;cases f1;exact⟨p,q,vs',ws,J,J,f2,hq1,by rw[<-f5.length,<-rs.length];exact Ww<|xR hl,k U _ G1 s1.gg<|good1.wr hi e1<|f5.append rs⟩
  .cases hf
 .cases hf
def zOT:V->kj->Hp->VK->Prop:=λx vs H Q=>∃z y i r,x = .str z/\vs=[.str y]/\occurrences z y 0 z.length 1=i::r/\Q (.int (i:Nat)) H
def zMS:MtR X "str.index" zOT:=by intro Z s U H x xs v us Q I rx rv h;obtain⟨z,y,i,r,rfl,rfl,ho,q⟩:=h;obtain⟨t,rfl⟩:=rx;obtain⟨w,rfl,u,rfl⟩:=rv.one;exact SC.index ho ⟨.int _,H,I.tok _,⟨_,J⟩,q⟩
def zGu (x y:D):qi:=match x,y with | .str z,.str m=>(occurrences z m 0 z.length 1).head?.map λi=>.int (i:Nat) | _,_=>none
def zTB (fa fb:Ef):Ef:=λO=>(fa O).bind λx=>(fb O).bind λy=>zGu x y
def zMQ (ht:PE X c<|tBM X.K "str" zOT (tF X.K fa)<|fA (tF X.K fb) zV1):PF X c<|zTB fa fb:=by
 refine PE.to ht ?_
 sleep 1
 unfold zTB at hf;obtain⟨x,h1,hf⟩:=k8 hf;obtain⟨y,h2,hf⟩:=k8 hf;cases x with
 | str z =>
  cases y with
  | str m =>
   have hf:((occurrences z m 0 _ 1).head?.map λi=>D.int (i:Nat))=some d:=hf;obtain⟨i,ho,rfl⟩:=k9 hf;refine⟨G0,H0,G,O,_,j0,h1,λu H1 G1 s1 r1=>?_⟩;have r1:=yF.mp r1;subst r1;refine⟨J,G0,H0,G1,O,_,j0.step s1,h2,λv H2 G2 s2 r2=>?_⟩;have r2:=yF.mp r2;subst r2;cases ho':occurrences z m 0 _ 1 with
   | nil=>rw[ho'] at ho;cases ho
   | cons j r =>rw[ho'] at ho;cases ho;exact⟨z,m,i,r,J,J,ho',k _ _ G2 (!18)<|zC.mpr rfl⟩
  | _=>cases hf
 | _=>cases hf
variable{k:Nat}
theorem zYF:FnOk P w K mg base CX k f fd ps (spL K n λ_=>none) :=
 ⟨λvs H Q E h=>(by obtain⟨_,_,_,_,_,_,z,_⟩:=h;cases z),λA _ s H args us vs Q E _ _ _ _ h=>(by obtain⟨_,_,_,_,_,_,z,_⟩:=h;cases z)⟩
end
def zPC (l:qu)(items:jo)(n:Nat)(b:qu)(items2:jo)(n2:Nat)(sl:_)(hc0:¬(!items.isEmpty&&Builtin.List.listTooLong (items.size+items2.size))=true)(hc1:items.size<=sizeLine)(hs2:items.size+items2.size<=sizeLine+1):Meets (Builtin.«list.extend» ⟨[.ref l,.ref b],[]⟩) (λ_ R s=>s.heap.get? l=some { cls:=.type "list",dict:=none,data:=.seq items n,slots:=#[] }/\s.heap.get? b=some { cls:=.type "list",dict:=none,data:=.seq items2 n2,slots:=sl }/\R (.ok<|.ret Value.none) { s with heap:=s.heap.update l<|Obj.mapSeq λx=>x++items2,toks:=s.toks }) :=
 .of_wp λprog w A R s h=>by
  obtain⟨hp,g⟩:=s;obtain⟨hl,hb,h⟩:=h;have f1:=AutoSeq1.idx_int;have f2:=AutoSeq1.sub_tuple_tuple;have f3:=AutoSeq1.sub_list_list;have f4:=AutoSeq1.sub_tuple_list;have f5:=AutoSeq1.sub_list_tuple;
  wp_walk using (Ue hl J (hz:=hc1)),_ hl,_ hb;exact⟨_,J,h⟩
def zGI (K:jk):V->kj->Hp->VK->Prop:=λx vs H Q=>∃l b xs zs,x = .ref l/\vs=[.ref b]/\H l=some (.lst xs)/\SqL K H b zs/\xs.length+zs.length<=sizeLine/\Q .non (upd H l<|.lst<|xs++zs)
def zIB:MtM X "list.extend"<|zGI X.K:=by
 intro Z s U H x vs v us Q I rx rv h;obtain⟨l,b,xs,zs,rfl,rfl,hH,hB,hz,q⟩:=h;cases rx;obtain⟨u,rfl,ru⟩:=rv.one;cases ru;obtain⟨z,j6,n,r,hl,e⟩:=I.lstM hH;obtain⟨its2,r2,⟨⟨cls,dd,data,sl⟩,n2,e2,hc,hd,ha⟩,z2⟩:=I.list hB;subst hc hd ha;have hl2:=r2.length;have hsz:j6.toArray.size+its2.toArray.size<=sizeLine:=by rw[Qd,Qd];lia
 have hlong:¬(!j6.toArray.isEmpty&&Builtin.List.listTooLong (j6.toArray.size+its2.toArray.size))=true:=by rw[zRU hsz,Bool.and_false];exact Wz
 refine Tw F.slot_list_extend ⟨_,e,J⟩ F.entry_list_extend (F.args_list_extend_2 _ _) (zPC l _ n b _ n2 sl hlong jc jc) ⟨e,e2,?_⟩;refine⟨.non,_,I.lset hH e je (r.append r2) ?_,J,q⟩;simp_all
def zHH (i:Nat)(ht:PE X c<|tBM X.K "list" (zGI X.K) (zMw i)<|fA (zJN X.K ga) zV1)(hs:swapsWith c none pos.line X.env=pure false:=by rfl):PFS X (.Expr c pos)<|zVh i ga:=by
 refine PS.to (pV ht hs) ?_
 sleep 3
 obtain⟨es,h1,hf⟩:=k8 hf;split at hf
 .rename_i ds hi;split at hf
  .rename_i hl;cases hf;obtain⟨p,vs,e1,e2,e3⟩:=j0.addr hi;refine⟨.ref p,e1,.inl ⟨J,vs,.of e2⟩,G0,H0,G,O,es,j0,h1,λq ws H1 G1 s1 sq rs=>?_⟩;have good1:=j0.step s1;obtain⟨p',vs',f1,f2,f3,f4,f5⟩:=good1.addr hi;rw[e1] at f1;cases f1;exact⟨p,q,vs',ws,J,J,f2,s1.sub.seq sq,by rw[<-f5.length,<-rs.length];exact Ww<|xR hl,k U _ G1 s1.gg<|good1.wr hi e1<|f5.append rs⟩
  .simp_all
 .simp_all
end L2
namespace L2
section
def zUE (a d:qv):argsOk "max" ⟨[a],[("default",d)]⟩:=by unfold argsOk;kernel_rfl
def zH2 {d:qv}(hh:A.handled=none)(hl:s.heap.IsList l #[])(h:∀h' tk,(∀b o,s.heap.get? b=some o->h'.get? b=some o)->Q d (!32)):wpAny (!8) A (call (.builtin "max") [.ref l] [("default",d)]) Q E s:=by
 refine iK F.kind_max F.plain_max F.entry_max (zUE _ _)<|Qw<|wpAny_of_eq (rfl)<|Qw<|Qo<|Qw<|Yk hl<|Qw<|Ex ?_;have hne:l≠s.heap.objs.size:=by obtain⟨_,e,_⟩:=hl;exact Qn<|Qs e
 refine Qo ⟨Tj F.plain_max_loop _,Rp F.entry_max_loop<|Qw<|Rj (Qa _ J) rfl<|Qw<|Uh<|(Walks.list (prog:=prog) (w:=w) (A:=A.in1) hh _ l hne #[]).done _ _ _ ⟨⟨_,Qe _<|Qa _ rfl,rfl,rfl⟩,(hl.push _).push _⟩ λh' tk hk=>Qw<|Uq<|Qo<|h h' tk λb o e=>hk b o ?_<|Qe _<|Qe _ e⟩;intro hm;rcases v4 hm with z | z
 .exact absurd (z ▸ Qs e) (Wg _)
 .cases z
def tE (val:Nat->Int):Nat->Int
 | 0=>val 0
 | k+1=>if val (k+1) > tE val k then val (k+1) else tE val k
variable{I:qu}{wr:kn}{P:Nat->qv->Prop}{St:Nat->qx->Prop}
def zIl {a b:Int}{t u:Tok}(h:Q (.bool (decide (a > b))) s):wpAny (!8) A (richCompare .Gt (.int a t)<|.int b u) Q E s :=
 CmpOf.ints_gt (P:=λi v=>∃t,v = .int (if i=0 then a else b) t) _ (λ_ _ h=>h) 0 1 _ _ s Q E ⟨t,rfl⟩ ⟨u,rfl⟩ h
def zN3 (W:Walks prog w A.in1 I fp wr n P St)(val:Nat->Int)(hv:∀i v,P i v->∃t,v = .int (val i) t)(d:qv)(S:qu)(hSf:S∉fp):∀(k j:Nat) (s:qw) (t:Tok) (c:Nat),n - (j+1)=k->j+1<=n->St (j+1) s.heap -> s.heap.get? S=some { cls:=.type "list",dict:=none,data:=.seq #[.int (tE val j) t,.int (tE val j) t] c,slots:=#[] } -> (∀t' h' tk,(∀b o,b∉wr->b≠S->s.heap.get? b=some o->h'.get? b=some o)->R (.ok<|.ret<|.int (tE val<|n - 1) t') (!32)) -> codeAny (!8) A (.builtin "max.loop" ⟨[.ref I,.none,.ref S],[("default",d)]⟩) R s:=by
 have hSw:S∉wr:=λh=>hSf<|W.sub _ h;intro k;induction k with
 | zero =>intro j s t c hk hj hst hS hR;have hin:j+1=n:=jc;refine Rp F.entry_max_loop<|Qw<|Rj hS rfl<|Qw<|Uh<|W.done s _ _ (hin ▸ hst) λh' tk hk'=>?_;have hS':=hk' S _ hSw hS;refine Qw<|Ue hS' rfl<|Qw<|Ub<|Qo ?_;rw[<-hin] at hR;exact hR t _ tk λb o hbw hbS e=>(Rf _ _<|Ne.symm hbS).trans<|hk' b o hbw e
 | succ k ih =>
  intro j s t c hk hj hst hS hR;have hlt:j+1 < n:=jc;refine Rp F.entry_max_loop<|Qw<|Rj hS rfl<|Qw<|Uh<|W.item (j+1) s _ _ hlt hst λv h' tk hP hst' hk'=>?_;obtain⟨tv,rfl⟩:=hv _ _ hP;have hS':=hk' S _ hSw hS;show wpAny _ _ (tryCatch (holding _<|richCompare .Gt _ _ >>= _) _ >>= _) _ _ _;refine Qw<|Uh<|Ev<|Qw<|zIl<|Qw<|Ev<|Ry<|Qw<|Ub<|Qo ?_
  by_cases hb:val (j+1) > tE val j
  .rw[Qb hb];refine Qw<|Ue hS' rfl<|Qw<|Ub ?_;have em:tE val (j+1)=val (j+1):=by rw[tE,Qg hb]
   exact Qo ⟨Tj F.plain_max_loop _,ih (j+1) _ tv _ jc hlt (W.frame _ _ _ hst' λb hbf o e=>((Rf _ _ λh:S=b=>hSf (by rw[h];exact hbf)).trans e)) (by rw[em];exact En _ hS' J) λt' h'' tk'' hk''=>hR t' h'' tk'' λb o hbw hbS e=>hk'' b o hbw hbS<|(Rf _ _<|Ne.symm hbS).trans<|hk' b o hbw e⟩
  .rw[Wu hb];refine Qw<|Ub ?_;have em:tE val (j+1)=tE val j:=by rw[tE,Qc hb]
   exact Qo ⟨Tj F.plain_max_loop _,ih (j+1) _ t c jc hlt hst' (by rw[em];exact hS') λt' h'' tk'' hk''=>hR t' h'' tk'' λb o hbw hbS e=>hk'' b o hbw hbS<|hk' b o hbw e⟩
def zKQ {d:qv}{xs:Array<|Int×Tok}(hh:A.handled=none)(hl:s.heap.IsList l<|intItems xs)(hn:0 < xs.size)(h:∀t h' tk,(∀b o,s.heap.get? b=some o->h'.get? b=some o)->Q (.int (tE (numAt xs)<|xs.size - 1) t) (!32)):wpAny (!8) A (call (.builtin "max") [.ref l] [("default",d)]) Q E s:=by
 refine iK F.kind_max F.plain_max F.entry_max (zUE _ _)<|Qw<|wpAny_of_eq (show Builtin.Builtins.bindParams "max" ["key","default"] 0 ⟨[],[("default",d)]⟩=pure [none,some d] from rfl)<|Qw<|Qo<|Qw<|Yk hl<|Qw<|Ex ?_;have hne:l≠s.heap.objs.size:=by obtain⟨_,e,_⟩:=hl;exact Qn<|Qs e
 have hsz:(intItems xs).size=xs.size:=by simp[intItems]
 have W:=Walks.list (prog:=prog) (w:=w) (A:=A.in1) hh _ l hne<|intItems xs;have hll:l < s.heap.objs.size:=by obtain⟨_,e,_⟩:=hl;exact Qs e
 refine Qo ⟨Tj F.plain_max_loop _,Rp F.entry_max_loop<|Qw<|Rj (Qa _ J) rfl ?_⟩;have hps:(s.heap.push { cls:=.type "list_iterator",data:=.fields #[.ref l,.int 0 0] }).objs.size=_+1:=Rr _ _;refine Qw<|Uh<|W.item 0 _ _ _ (by rw[hsz];exact hn) ⟨⟨_,Qe _<|Qa _ rfl,rfl,rfl⟩,(hl.push _).push _⟩ λv h' tk hP hst' hk'=>?_;obtain⟨tv,rfl⟩:=Op hP;have hSw:(s.heap.push { cls:=.type "list_iterator",data:=.fields #[.ref l,.int 0 0] }).objs.size∉[s.heap.objs.size]:=λhm=>by rw[Qv] at hm;lia
 have hS':=hk' _ _ hSw<|Qa _ rfl;show wpAny _ _ (updateSeq _ (λ_=>#[.int (numAt xs 0) tv,.int (numAt xs 0) tv]) >>= _) _ _ _;refine Qw<|Ue hS' rfl ?_;have hSf:(s.heap.push { cls:=.type "list_iterator",data:=.fields #[.ref l,.int 0 0] }).objs.size∉[s.heap.objs.size,l]:=λhm=>by
  rcases v4 hm with z | z
  .simp_all
  .rw[Qv,hps] at z;rw[<-z] at hll;exact absurd hll<|Im.mpr<|Yl _
 refine Qo ⟨Tj F.plain_max_loop _,zN3 W (numAt xs) (λi v h=>Op h) d _ hSf _ 0 _ tv _ J (by rw[hsz];exact hn) (W.frame _ _ _ hst' λb hbf o e=>((Rf _ _ λz=>hSf (by rw[z];exact hbf)).trans e)) (En _ hS' J) λt' h'' tk'' hk''=>?_⟩
 .rw[hsz];refine h t' h'' tk'' λb o e=>?_;have hlt:=Qs e;have n1:b∉[s.heap.objs.size]:=λhm=>by rw[Qv] at hm;rw[hm] at hlt;exact Wg _ hlt
  have n2:b≠(s.heap.push { cls:=.type "list_iterator",data:=.fields #[.ref l,.int 0 0] }).objs.size:=λz=>by rw[hps] at z;rw[z] at hlt;exact absurd hlt<|Im.mpr<|Yl _
  exact hk'' b o n1 n2<|(Rf _ _<|Ne.symm n2).trans<|hk' b o n1<|Qe _<|Qe _ e
def zZ3 (ns:kh):Int:=tE (λi=>ns.getD i 0)<|ns.length - 1
def zOt (g:Lf):Ef:=λO=>(g O).bind λds=>(zXf ds).bind λns=>if ns.isEmpty=true then some .non else some (.int<|zZ3 ns)
def zHh {kp:Pos}{j}(hc:!24)(hg:Gl X "max")(hm:X.mg "max"=none)(h:zTG X a ga)(hs:!34:=by rfl):PF X (.Call (.Name "max" p) [a] [⟨some "default",.Constant .none j p2,kp⟩] pos)<|zOt ga:=by
 refine PE.to (t:=λU H Q=>zJN X.K ga U H λv H1=>∃q ns,v = .ref q/\SqL X.K H1 q (ns.map V.int)/\Q (if ns.isEmpty=true then .non else .int (zZ3 ns)) H1) ?_ ?_
 .refine λZ s U H Q I h0=>Em<|iE I hg hm (u:=.builtin "max") jg (callWith_kw (spliced_more (thn (h Z s U H _ I h0) λu s1 ⟨v,H1,I1,rv,q,ns,e,sq,q1⟩=>?_) (by rw[hs];rfl)) (by rw[hs];rfl) (by rw[hs];rfl) jg jg) jb jb;subst e;cases rv;refine spliced_none<|kws_cons<|thn (zLX (X:=X) (j:=j) (pos:=p2) Z s1 U H1 _ I1<|show tC .non U H1 (λv H2=>v = .non/\H2=H1) from⟨rfl,rfl⟩) λu2 s2 ⟨v2,H2,I2,rv2,e2,e3⟩=>?_;subst e2 e3;cases rv2;refine kws_nil ?_;obtain⟨j6,rl,pl,_⟩:=I2.list sq;cases ns with
  | nil =>cases rl;exact zH2 (I2.ok.hd hc) pl.isList λh' tk hk=>⟨.non,H2,I2.kept hk,J,q1⟩
  | cons x r =>
   obtain⟨ps,rfl,hps⟩:=zYI rl;have hit:s2.heap.IsList q<|intItems ps.toArray:=by have:=pl.isList;unfold intItems;simp_all
   have j5:ps.length=r.length+1:=by have:=Wa List.length hps;simpa using this
   have hnum:(λi=>numAt ps.toArray i)=λi=>(x::r).getD i 0:=by funext i;rw[<-hps];unfold numAt;rw[List.getElem?_toArray,Eu,Wh]
   refine zKQ (I2.ok.hd hc) hit (by simp[j5]) λt h' tk hk=>⟨.int _,H2,I2.kept hk,⟨t,J⟩,?_⟩
   have e:tE (numAt ps.toArray) (ps.toArray.size - 1)=zZ3 (x::r):=by unfold zZ3;rw[<-hnum,Qd,j5,Qk]
   rw[e];exact q1
 .sleep 1
  obtain⟨ds,h1,hf⟩:=k8 hf;obtain⟨ns,h2,hf⟩:=k8 hf;refine⟨G0,H0,G,O,ds,j0,h1,λq vs H1 G1 s1 e1 r1=>⟨q,ns,J,by rw[<-zY7 h2 r1];exact s1.sub.seq e1,?_⟩⟩;split at hf
  .rename_i he;cases hf;rw[Qg he];exact k _ _ G1 s1<|sX.mpr rfl
  .rename_i he;cases hf;rw[Qc he];exact k _ _ G1 s1<|zC.mpr rfl
end
def zD7 (K:jk)(C:qu)(ns:kg)(g:Lf):TS:=λDD U H=>∃(G0 H0 G:Hp) (O:ki) (p dx:qu) (pre:kg) (us:kj) (xs ds:kd),
 Good K G0 H0 G H U O/\NoOw O/\U[0]?=some (some<|.ref p)/\H p=some (.ins C dx<|pre.zip us)/\G p=none/\H0 p=none/\pre.length=us.length/\(pre++ns).Nodup/\(pre++ns).length<=900/\Reps K G xs us/\g O=some ds /\
 ∀U' H' G' vs,Step G0 H0 G' H'->H' p=some (.ins C dx<|(pre++ns).zip vs)->G' p=none->Reps K G' (xs++ds) vs->DD.nx U' H'
section
def zHF (i:Nat){g:Lf}{rest:qg}(hN:X.N.Nodup)(he:PF X e fa)(hr:PSs X rest<|zJn X.K C ns g)(hi0:0≠i:=by decide)(hi:X.N[i]?=some y:=by rfl)(hx:Loc X.env.scope y:=by exact o0)(hs:swapsWith e (some<|.Name y pos') pos.line X.env=pure false:=by rfl) (hf:X.fn y=true\/X.env.scope.names.lookup y=some .local:=by exact o0):PSs X (.Assign [.Name y pos'] e pos::rest)<|zD7 X.K C ns λO=>(fa O).bind λd=>g<|O.set i<|.fz d:=by refineλZ s U H D I h=>tP (bF hN hi hx he hs hf) hr Z s U H D I ?_;obtain⟨G0,H0,G,O,p,dx,pre,us,xs,ds,j0,now,hself,hp,gp,h0,hl,nd,hz,rs,hg,k⟩:=h;obtain⟨d,h1,h2⟩:=k8 hg;refine⟨G0,H0,G,O,d,j0,h1,λv H1 G1 s1 r1=>?_⟩;have gp1:G1 p=none:=(s1.new p _ hp J).trans gp;refine⟨G0,H0,G1,O.set i<|.fz d,p,dx,pre,us,xs,ds,(j0.step s1).setF i r1,zR9 now i d,?_,s1.hh _ _ hp,gp1,h0,hl,nd,hz,rs.mono s1.gg,h2,λH' G' vs st q1 q2 q3=>k _ H' G' vs st q1 q2 q3⟩;rw[Wb<|Ne.symm hi0];exact hself
variable{k:Nat}
def zK9 {g:Lf}(F:Fun K x qual st f fd)(S:FnScope N (sf::ps)<|zV st)(hnd:ns.Nodup)(j5:ns.length<=900)(hb:∀(j9:qv) (A:qy) (outer:qb) (s:qw) (H:Hp) (E:XK),Room k (!37)->PSs (qP CX0 P w K mg base N qual (zV st) f j9 A outer s H E).nox (xL st) (zD7 K C ns g)):FnOk P w K mg base CX0 (k+1) f fd (sf::ps)<|spI K C ns ps.length λds=>g<|kL N.length ds:=by
 refine F.ok S (λvs H Q E h=>?_) λj9 A _ s H vs Q E hr h=>⟨_,hb j9 A _ s H E hr,?_⟩
 .obtain⟨p,dx,rest,G,H0,ds,xs,rfl,_,_,_,_,_,rs,hl,_⟩:=h;rw[Qk,Qk,<-rs.length,hl]
 .obtain⟨p,dx,rest,G,H0,ds,xs,rfl,rfl,h1,h2,h3,sub,rs,hl,hf,k⟩:=h;have hne:p≠dx:=h3.symm;have hp1:(upd H0 dx<|.own p) p=none:=by rw[zG hne];exact h1
  have st1:Step G H0 G<|upd H0 dx<|.own p:=Step.own sub h2;have st2:Step G H0 G<|upd (upd H0 dx<|.own p) p<|.ins C dx []:=st1.trans<|Step.own st1.sub hp1;have j0:Good K G H0 G (upd (upd H0 dx<|.own p) p<|.ins C dx []) (oJ N<|.ref p::rest)<|kL N.length ds:=by refine⟨st2,?_,(zXG _ ds).apart⟩;unfold oJ kL;rw[Qx,Qk,List.cons_append,<-rs.length];exact .cons .no<|jN _ rs
  refine⟨G,H0,G,_,p,dx,[],[],[],xs,j0,zXG _ ds,J,zN,sub.free h1,h1,J,hnd,j5,zD.mpr J,hf,λU' H' G' us s' q1 q2 q3=>k H' G' us s' q1 q2 q3⟩
end
def nE {c:Str}{k:Nat}{d:jz}(hC:ClsAt X.K c C)(hcl:Cls X.K C)(hm:Meth X.K C m fad)(F:FnOk X.prog X.w X.K X.mg X.base CX0 k fad fd ps (spF X.K n d))(hr:Room k X.A)(hb:Binds X.K fd ps [])(ho:PF X o fa) (ha:PFA X (e::es) ga)(hst:!23:=by rfl) (hpl:(backTo cpos (!25)).any (·.1)=false:=by rfl)(ht:eval (.Call (!33) (e::es) [] cpos) X.env=(do
   let ov <-eval o X.env
   standAt apos.atName
   let (f,first) <-holding [ov] (getMethod ov m pl)
   callWith cpos f first (backTo cpos<|starEach (e::es) X.env) (!38)):=by rfl) :
  PF X (.Call (!33) (e::es) [] cpos) (qZ c m n d fa ga):=by
 refine PE.to (dA ho hcl hm F hr hb .nil gH ha hst hpl ht) ?_;rintro U H Q ⟨G0,H0,G,O,r,j0,hf,kk⟩;obtain⟨x,h1,hf1⟩:=k8 hf;obtain⟨ds,h2,hf2⟩:=k8 hf1;clear hf hf1;cases x with
 | obj c' ns xs =>
  dsimp only at hf2;split at hf2
  .rename_i hq;obtain⟨rfl,hl,hmn⟩:=hq
   sleep 4
   obtain⟨C',q,dx,vs,r2,rfl,r3,r4⟩:=sU.mp r1;have ec:=hC.one r2;subst ec;refine⟨q,dx,_,J,s1.sub _ _ r3,xP hmn,⟨G0,H0,G1,O,ds,j0.step s1,h2,λus H2 G2 s2 rs=>?_⟩⟩;show spF X.K n d (.ref q::_) H2 _ E0;rw[Wo];exact⟨G2,.obj c' ns xs::ds,r,s2.sub,zQ.mpr ⟨_,_,J,r1.mono s2.gg,rs⟩,hl,hf2,λv H' G' st rr=>kk v H' G' ((!18).trans st) rr⟩
  .simp_all
 | _=>cases hf2
def vK (c m:Str)(n:Nat)(d:kd->ka)(fa:Ef)(g:Lf):Lf:=λO=>(fa O).bind λx=>(g O).bind λds=>match x with
 | .obj c' ns _=>if c'=c/\ds.length+1=n/\m∉ns then d (x::ds) else none
 | _=>none
def rP {c:Str}{k:Nat}(hC:ClsAt X.K c C)(hcl:Cls X.K C)(hm:Meth X.K C m fad)(F:FnOk X.prog X.w X.K X.mg X.base CX0 k fad fd ps (spL X.K n d))(hr:Room k X.A)(hb:Binds X.K fd ps [])(ho:PF X o fa) (ha:PFA X (e::es) ga)(hst:!23:=by rfl) (hpl:(backTo cpos (!25)).any (·.1)=false:=by rfl)(ht:eval (.Call (!33) (e::es) [] cpos) X.env=(do
   let ov <-eval o X.env
   standAt apos.atName
   let (f,first) <-holding [ov] (getMethod ov m pl)
   callWith cpos f first (backTo cpos<|starEach (e::es) X.env) (!38)):=by rfl) :
  PFr X (.Call (!33) (e::es) [] cpos) (vK c m n d fa ga):=by
 refine PE.toR (dA ho hcl hm F hr hb .nil gH ha hst hpl ht) ?_;rintro U H Q ⟨G0,H0,G,O,r,j0,hf,kk⟩;obtain⟨x,h1,hf1⟩:=k8 hf;obtain⟨ds,h2,hf2⟩:=k8 hf1;clear hf hf1;cases x with
 | obj c' ns xs =>
  dsimp only at hf2;split at hf2
  .rename_i hq;obtain⟨rfl,hl,hmn⟩:=hq
   sleep 4
   obtain⟨C',q,dx,vs,r2,rfl,r3,r4⟩:=sU.mp r1;have ec:=hC.one r2;subst ec;refine⟨q,dx,_,J,s1.sub _ _ r3,xP hmn,⟨G0,H0,G1,O,ds,j0.step s1,h2,λus H2 G2 s2 rs=>?_⟩⟩;show spL X.K n d (.ref q::_) H2 _ E0;rw[Wo];have s12:=s1.trans s2;exact⟨G2,.obj c' ns xs::ds,r,s2.sub,zQ.mpr ⟨_,_,J,r1.mono s2.gg,rs⟩,hl,hf2,λp us H' G' st hn hp gp rr=>kk p us H' G' (s12.trans st) (s12.hh.free hn) hp gp rr⟩
  .simp_all
 | _=>cases hf2
def aB {c:Str}{k:Nat}(hC:ClsAt X.K c C)(hcl:Cls X.K C)(hm:Meth X.K C m fad)(F:FnOk X.prog X.w X.K X.mg X.base CX0 k fad fd ps (spL X.K n d))(hr:Room k X.A)(hb:Binds X.K fd ps [])(ho:PF X o fa)(ht:eval (.Call (!33) [] [] cpos) X.env=(do
   let ov <-eval o X.env
   standAt apos.atName
   let (f,first) <-holding [ov] (getMethod ov m pl)
   callWith cpos f first (backTo cpos<|starEach [] X.env) (!38)):=by rfl) :
  PFr X (.Call (!33) [] [] cpos) (vK c m n d fa zS):=by
 refine PE.toR (zMm ho hcl hm F hr hb .nil gH ht) ?_;rintro U H Q ⟨G0,H0,G,O,r,j0,hf,kk⟩;obtain⟨x,h1,hf1⟩:=k8 hf;obtain⟨ds,h2,hf2⟩:=k8 hf1;clear hf hf1;cases h2;cases x with
 | obj c' ns xs =>
  dsimp only at hf2;split at hf2
  .rename_i hq;obtain⟨rfl,hl,hmn⟩:=hq
   sleep 4
   obtain⟨C',q,dx,vs,r2,rfl,r3,r4⟩:=sU.mp r1;have ec:=hC.one r2;subst ec;exact⟨q,dx,_,J,s1.sub _ _ r3,xP hmn,⟨G1,[.obj c' ns xs],r,s1.sub,zQ.mpr ⟨_,_,J,r1,zD.mpr J⟩,hl,hf2,λp us H' G' st hn hp gp rr=>kk p us H' G' (s1.trans st) (s1.hh.free hn) hp gp rr⟩⟩
  .simp_all
 | _=>cases hf2
def fJ {E:XK}{c:Str}{k:Nat}{d:jz}(hC:ClsAt X.K c C)(hcl:Cls X.K C)(hm:Meth X.K C m fad)(F:FnOk X.prog X.w X.K X.mg X.base (CXq X.prog X.w) k fad fd ps (spQ X.K n d xf))(hp:oZ (CXq X.prog X.w) X E)(hr:Room k X.A)(hb:Binds X.K fd ps [])(ho:PF X o fa) (ha:PFA X (e::es) ga)(hst:!23:=by rfl) (hpl:(backTo cpos (!25)).any (·.1)=false:=by rfl)(ht:eval (.Call (!33) (e::es) [] cpos) X.env=(do
   let ov <-eval o X.env
   standAt apos.atName
   let (f,first) <-holding [ov] (getMethod ov m pl)
   callWith cpos f first (backTo cpos<|starEach (e::es) X.env) (!38)):=by rfl) :
  PXE X E (.Call (!33) (e::es) [] cpos) (pI c m n xf fa ga):=by
 intro Z s U H Q I h;obtain⟨G0,H0,G,O,cc,CC,j0,hf,hCC,kk⟩:=h;obtain⟨x,h1,hf1⟩:=k8 hf;obtain⟨ds,h2,hf2⟩:=k8 hf1;clear hf hf1;cases x with
 | obj c' ns xs =>
  dsimp only at hf2;split at hf2
  .rename_i hq;obtain⟨rfl,hl,hmn⟩:=hq;refine dA ho hcl hm F hr hb .nil hp ha hst hpl ht Z s U H Q I ⟨G0,H0,G,O,_,j0,h1,λv H1 G1 s1 r1=>?_⟩;obtain⟨C',q,dx,vs,r2,rfl,r3,r4⟩:=sU.mp r1;have ec:=hC.one r2;subst ec;refine⟨q,dx,_,J,s1.sub _ _ r3,xP hmn,⟨G0,H0,G1,O,ds,j0.step s1,h2,λus H2 G2 s2 rs=>?_⟩⟩;show spQ X.K n d xf _ H2 _ E;rw[Wo];exact⟨G2,.obj c' ns xs::ds,s2.sub,zQ.mpr ⟨_,_,J,r1.mono s2.gg,rs⟩,hl,.inr ⟨cc,CC,hf2,hCC,λH' G' st=>kk H' G'<|(!18).trans st⟩⟩
  .simp_all
 | _=>cases hf2
def zOf {b:r8}(hg:Gl X "zip")(hm:X.mg "zip"=none)(ha:!12)(hb:PF X b fb)(hs:starEach [a,b] X.env=(false,eval a X.env)::starEach [b] X.env:=by rfl)(hs2:starEach [b] X.env=[(false,eval b X.env)]:=by rfl):PFI X tg (.Call (.Name "zip" p) [a,b] [] pos)<|zWr fa fb:=zSY hg hm ha hb hs hs2
end L2
variable{f:kn->D->kd->qc}{d:D}
namespace L2
open PySem.Builtin PySem.Builtin.Str
theorem zUN:∀l:List<|Str×Tok,Vals ((l.map (·.1)).map V.str)<|strValues l
 | []=>.nil
 | (x,t)::r=>.cons ⟨t,J⟩<|zUN r
def zJA:V->kj->Hp->VK->Prop:=λx vs H Q=>∃z y,x = .str z/\vs=[.str y]/\1<=y.length/\z.length<=100000/\∀p,H p=none->Q (.ref p) (upd H p<|.lst<|(Txt.split z y).map V.str)
def zKJ:MtR X "str.split" zJA:=by
 intro Z s U H x xs v us Q I rx rv h;obtain⟨z,y,rfl,rfl,hy1,hz,q⟩:=h;obtain⟨t,rfl⟩:=rx;obtain⟨w,rfl,u,rfl⟩:=rv.one;have hy:(y.length==0)=false:=by rw[Rb];lia
 have j5:=split_le z y;have go:∀(l:List _) (k),l.map (·.1)=Txt.split z y->EP X Z U Q (.ref s.heap.objs.size) { s with toks:=k,heap:=s.heap.push { cls:=.type "list",data:=.seq (strValues l).toArray } }:=by exactλl k hl=>⟨.ref s.heap.objs.size,_,I.laid (o:=.lst _) (λb o e=>Qe _ e) (Qh _) ⟨by rw[Qy,Wf];lia,_,_,by rw[<-hl];exact zUN l,Qa _ J⟩,J,q _ I.fresh⟩
 have hn:(partsBetween z (occurrences z y 0 z.length<|z.length+1) y.length).length<=sizeLine:=by have e1:=StrLaws.occ_length_le z y 0 z.length<|z.length+1;rw[length_partsBetween,Wf];lia
 cases h1:(decide (z.length < _)||decide (strKind z < strKind y))
 .cases hf:(occurrences z y 0 _ _).isEmpty
  .refine Tw F.slot_str_split (Ib _ _ _) F.entry_str_split (F.args_str_split_2 _ _) (meets_str_split_sep z y t u h1 hy hf (by rw[Wf];lia) hn) ?_;rw[strsFrom_eq];exact go _ _<|(numbered_texts _ _).trans ((Qc<|Oa h1).trans<|Qc<|Oa hf).symm
  .exact Tw F.slot_str_split (Ib _ _ _) F.entry_str_split (F.args_str_split_2 _ _) (meets_str_split_not_found z y t u h1 hy hf) (go [(z,t)] _ ((Qc<|Oa h1).trans<|Qg hf).symm)
 .exact Tw F.slot_str_split (Ib _ _ _) F.entry_str_split (F.args_str_split_2 _ _) (meets_str_split_cannot_occur z y t u h1) (go [(z,t)] _ (Qg h1).symm)
theorem zU9 {K:jk}{G:Hp}:∀ys:kg,Reps K G (ys.map D.str)<|ys.map V.str
 | []=>by rw[Ig,Ig,zD]
 | y::r=>by rw[Qx];exact zQ.mpr ⟨_,_,J,yF.mpr J,zU9 r⟩
def zLz (x y:D):ka:=match x,y with | .str z,.str m=>if 1<=m.length/\z.length<=100000 then some ((Txt.split z m).map D.str) else none | _,_=>none
def zJX (fa fb:Ef):Lf:=λO=>(fa O).bind λx=>(fb O).bind λy=>zLz x y
def zLy (ht:PE X c<|tBM X.K "str" zJA (tF X.K fa)<|fA (tF X.K fb) zV1):PFr X c<|zJX fa fb:=by
 refine PE.toR ht ?_
 sleep 2
 obtain⟨y,h2,hf⟩:=k8 hf;unfold zLz at hf;split at hf
 .split at hf
  .rename_i hz;cases hf;refine⟨G0,H0,G,O,_,j0,h1,λu H1 G1 s1 r1=>?_⟩;subst r1;refine⟨J,G0,H0,G1,O,_,j0.step s1,h2,λv H2 G2 s2 r2=>?_⟩;subst r2;exact⟨_,_,J,J,hz.1,hz.2,λl hl=>k l _ _ G2 ((!18).trans<|Step.own s2.sub hl) ((!18).hh.free hl) zN (s2.sub.free hl)<|zU9 _⟩
  .simp_all
 .simp_all
end L2
namespace L2
abbrev prS (z:Str):Int×Str:=(0,z)
def zXO:qj->Option kg
 | []=>some []
 | .inr z::r=>(zXO r).map (z::·)
 | _=>none
theorem zNT:∀ {ks:qj} {ss:kg},zXO ks=some ss->ks=ss.map .inr
 | [],_,h=>by cases h;rfl
 | .inr z::r,ss,h=>by unfold zXO at h;obtain⟨qs,h2,rfl⟩:=k9 h;rw[zNT h2];rfl
 | .inl _::_,_,h=>by unfold zXO at h;cases h
theorem zW8:∀ss:kg,zXO (ss.map .inr)=some ss
 | []=>rfl
 | z::r=>by rw[Qx];unfold zXO;rw[zW8 r];rfl
def tD (ss:kg):kg:=(qX<|ss.map prS).map (·.2)
def eY (fd:Ef):Lf:=λO=>(fd O).bind λd=>match d with | .dct ks _=>(zXO ks).bind λss=>if ss.length < 64 then some ((tD ss).map .str) else none | _=>none
def zPx (h:StrsAre us ss)(hi:i < us.length):∃t,us.getD i Value.none = .str (ss.getD i ⟨#[]⟩) t:=by
 induction h generalizing i with
 | nil=>simp at hi
 | cons x t h ih =>
  cases i with
  | zero=>exact⟨t,J⟩
  | succ i=>obtain⟨t',e⟩:=ih (i:=i) (by simpa using hi);exact⟨t',by simpa using e⟩
def zRv (h:StrsAre us ss):us.length=ss.length:=by
 induction h with
 | nil=>rfl
 | cons x t h ih=>simp[ih]
def zK0 (hp:StrsAre us ss)(h2:2<=us.length):∃κ,(∀(E':jl) Q,Q κ s->wpAny (model P w) A (keyKind' us.toArray) Q E' s) /\ ∀i j C,i < us.length->j < us.length->C (ltP (ss.map prS) i j) s->kas_ask P w A κ us i j C s:=by
 refine⟨oneType',λE' Q hQ=>?_,λi j C hi hj hC=>?_⟩
 .match us,h2,hp with
  | v1::v2::r,_,hp=>rw[keyKind_strs hp];exact Qo hQ
 .obtain⟨t,e⟩:=zPx hp hi;obtain⟨t',e'⟩:=zPx hp hj;unfold kas_ask;rw[e,e'];refine kas_lt_str ?_;have hl:=zRv hp;have e3:ltP (ss.map prS) i j=decide ((ss.getD i ⟨#[]⟩).cps.toList < (ss.getD j ⟨#[]⟩).cps.toList):=by
   have g:∀k,k < ss.length->(ss.map prS).getD k isZ=(0,ss.getD k ⟨#[]⟩):=λk hk=>by simp[hk]
   unfold ltP;rw[g i jc,g j jc];unfold xE;simp
  rw[e3] at hC;exact hC
def zPS (hc:!24):CallR X (.builtin "sorted") (λxs H Q=>∃(q:qu) (j8:List<|Key×V) (ss:kg),xs=[V.ref q]/\Rd H q (.dK j8)/\j8.map (·.1)=ss.map .inr/\ss.length < 64 /\ ∀l,H l=none->Q (.ref l) (upd H l<|.lst<|(tD ss).map .str)):=by
 intro Z s U H xs us Q I r h;obtain⟨q,j8,ss,rfl,hq,hk,h64,k⟩:=h;obtain⟨u,rfl,ru⟩:=nH r;cases ru;obtain⟨z,hd,vs,rel,o,es,ep,ho,hx,hdat,_,he,hn⟩:=zXq I.hok hq;have hkeys:StrsAre (es.toList.map (·.key)) ss:=by
  have hk2:vs.map (·.1)=ss.map .inr:=by rw[<-rel.keys];exact hk
  clear hk rel ho hx hdat hn hq z k h64
  revert he
  generalize es.toList=el;intro he;induction he generalizing ss with
  | nil =>
   cases ss with
   | nil=>exact .nil
   | cons _ _=>cases hk2
  | @cons e kv es' vs' h1 _ t ih =>
   cases ss with
   | nil=>cases hk2
   | cons y r =>
    rw[Qx,Qx] at hk2;injection hk2 with e1 e2
    rw[e1,zPN] at h1;rcases wU h1 with⟨_,_,w,_⟩ | ⟨x,t',w,w2⟩
    .cases w
    .cases w;rw[Qx,w2];exact .cons _ _<|ih r e2
 have hl:=zRv hkeys;have hz:es.size=ss.length:=by rw[<-hl];simp
 refine zUr (lt:=ltP<|ss.map prS) (zVN λi=>(ss.map prS).getD i isZ) (I.ok.hd hc) ⟨o,ho,hx,hdat⟩ hd jc (λh2 h' tk kp=>?_) λh1 h' tk n k1 k2 hn'=>?_
 .have:=zK0 (P:=X.prog) (w:=X.w) (A:=X.A.in1.in1) (s:=(!32)) hkeys (by rw[hl,<-hz];exact h2);rw[hl,<-hz] at this;exact this
 .have I1:Inv X Z U H { s with heap:=h1,toks:=tk }:=I.kept k1;have fr:H h1.objs.size=none:=I1.hok.fresh<|Qh _;rw[hz] at hn';have hpm:=qR<|ss.map prS;rw[Qy] at hpm;have hle:(aM<|ss.map prS)=vW (ltP<|ss.map prS) ss.length:=by unfold aM;rw[Qy]
  have vals:Vals ((tD ss).map .str) ((vW (ltP<|ss.map prS) ss.length).map λi=>(es.toList.map (·.key)).getD i Value.none):=by
   rw[<-hle];unfold tD qX;rw[Wk,Wk];have key:∀l:ky,(∀i∈l,i < ss.length)->Vals (l.map<|V.str ∘ ((λx=>x.2) ∘ λi=>(ss.map prS).getD i isZ)) (l.map λi=>(es.toList.map (·.key)).getD i Value.none):=by
    intro l;induction l with
    | nil=>intro _;exact .nil
    | cons i r ih =>intro hh;refine .cons ?_ (ih λj hj=>hh j<|by simp[hj]);have hi:i < ss.length:=hh i je;obtain⟨t,e⟩:=zPx hkeys (i:=i) (by rw[hl];exact hi);refine⟨t,e.trans ?_⟩;simp[hi]
   exact key _ λi hi=>by simpa using hpm.subset hi
  have I2:=I1.laid (t':=tk) (h':=h') (a:=h1.objs.size) (o:=.lst<|(tD ss).map .str) k2 (Qh _) ⟨by unfold tD qX;rw[Qy,Qy,Qy,hpm.length_eq,Rc];exact Ww<|xR (by show ss.length<=100000;lia),_,n,vals,by simpa [seqObj] using hn'⟩;exact⟨.ref _,_,I2,J,k _ fr⟩
def zS5 (hc:!24)(hg:Gl X "sorted")(hm:X.mg "sorted"=none)(h:!12)(hs:!34:=by rfl):PFr X (.Call (.Name "sorted" p) [a] [] pos)<|eY fa:=by
 refine PE.toR (wD (zPS hc) hg hm jg (yX h yK (by rw[hs];rfl)) jb jb (by rw[hs];rfl) jg) ?_;rintro U H Q ⟨G0,H0,G,O,ds',j0,hf,k⟩;unfold eY at hf;obtain⟨d,h1,hf⟩:=k8 hf;cases d with
 | dct ks ds =>
  obtain⟨ss,h2,hf⟩:=k8<|show(zXO ks).bind _=some ds' from hf;split at hf
  .rename_i h64;cases hf
   sleep 4
   obtain⟨q,vs,rfl,e1,e2,e3⟩:=zPw s1.sub r1;refine⟨q,_,ss,J,e1,by rw[List.map_fst_zip (by rw[e2,e3.length];exact Qh _),zNT h2],h64,λl hl=>?_⟩;refine k l _ _ G1 (s1.trans<|Step.own s1.sub hl) (s1.hh.free hl) zN (s1.sub.free hl) ?_;generalize tD ss=l';induction l' with
   | nil=>exact zD.mpr J
   | cons x r ih=>exact zQ.mpr ⟨_,_,J,yF.mpr J,ih⟩
  .cases hf
 | _=>cases hf
end L2
namespace L2
def zOu (x:ki->kf)(f:Ef)(y:ki->kf):ki->kf:=λO=>match x O with
 | some c=>some c
 | none=>(f O).bind λ_=>y O
def zRJ {E:XK}{x y:ki->kf}{f:Ef}{rest:qg}(h1:PXE X E e x)(he:PF X e f)(h2:zZE X E rest y)(hs:swapsWith e none pos.line X.env=pure false:=by rfl):zZE X E (.Expr e pos::rest)<|zOu x f y:=by
 intro Z s U H D I q;obtain⟨G0,H0,G,O,c,C,j0,hq,hC,k⟩:=q;unfold zOu at hq;split at hq
 .rename_i c' hx;cases hq;exact uC (zZr h1 hs) Z s U H D I ⟨G0,H0,G,O,c,C,j0,hx,hC,k⟩
 .obtain⟨d,hd,hq⟩:=k8 hq;exact tP (pV he hs) h2 Z s U H D I ⟨G0,H0,G,O,d,j0,hd,λv H' G' st _=>⟨G0,H0,G',O,c,C,j0.step st,hq,hC,λH2 G2 st2=>k H2 G2<|st.trans st2⟩⟩
section
variable{dc dl ds db:D}{a b c x:qu}
def unY:D->Option (D×D×D×D) | .obj _ _ [dc,dl,ds,db]=>some (dc,dl,ds,db) | _=>none
def Yd.un (y:Yd K H0 G H a b c d)(h:unY d=some (dc,dl,ds,db)):d=ydD dc dl ds db:=by obtain⟨_,_,_,_,_,_,_,_,_,_,rfl,_⟩:=y.ex;cases h;rfl
theorem Step.one (s:Step G (zWO H x) G' H')(h:in3 a b c x):Step G (outS H<|in3 a b c) G' H' :=
 ⟨λy u e=>by
  by_cases z:in3 a b c y
  .rw[rF z] at e;cases e
  .rw[xN z] at e;exact s.hh y u (by rw[vQ λw=>z (!9)];exact e),s.gg,s.sub,λy u e n=>by
  by_cases z:in3 a b c y
  .rw[rF z] at e;cases e
  .rw[xN z] at e;exact s.new y u (by rw[vQ λw=>z (!9)];exact e) n⟩
def Good.stY (g:!21)(hi:O[i]?=some (.yd q<|ydD dc dl ds db))(hs:U[i]?=some (!26))(y:Yd K H0 G H a b c<|ydD dc dl ds db)(s:Step G (zWO H b) G' H')(h':H' b=some o')(g':G' b=none)(r:RepO K G' o' d'):Good K G0 H0 G' H' U<|O.set i<|.yd q<|ydD dc dl d' db:=by
 refine g.ioY hi hs y (s.one<|.inr<|.inl rfl) (E:=H0) ?_;obtain⟨⟨C,dx,vc,vl,_,_,_,_,o1,o2,e0,e1,e2,e3,e4,e5,e6,e7,e8⟩,no,n1,n2,n3⟩:=y;cases e0;refine⟨⟨C,dx,vc,vl,_,_,_,_,o',o2,J,e1,s.hh _ _ (by rw[vQ n1];exact e2),e3.mono s.gg,e4.mono s.gg,h',r,s.hh _ _ (by rw[vQ<|Ne.symm n3];exact e7),e8.mono s.gg⟩,λx hx=>⟨?_,(no x hx).2⟩,n1,n2,n3⟩;rcases hx with rfl | rfl | rfl
 .exact(s.new _ _ (by rw[vQ n1];exact e2) rfl).trans (no _<|.inl rfl).1
 .exact g'
 .exact(s.new _ _ (by rw[vQ<|Ne.symm n3];exact e7) e8.nt).trans (no _<|.inr<|.inr rfl).1
def Good.bxY (g:!21)(hi:O[i]?=some (.yd q<|ydD dc dl ds db))(hs:U[i]?=some (!26))(y:Yd K H0 G H a b c<|ydD dc dl ds db)(r:RepO K G o' d'):Good K G0 H0 G (upd H c o') U<|O.set i<|.yd q<|ydD dc dl ds d':=by refine g.ioY hi hs y ((Step.wrO g.sub<|(y.no c<|.inr<|.inr rfl).1).one<|.inr<|.inr rfl) (E:=H0) ?_;obtain⟨⟨C,dx,vc,vl,_,_,_,_,o1,o2,e0,e1,e2,e3,e4,e5,e6,e7⟩,no,n1,n2,n3⟩:=y;cases e0;exact⟨⟨C,dx,vc,vl,_,_,_,_,o1,o',J,e1,by rw[zG n2];exact e2,e3,e4,by rw[zG n3];exact e5,e6,zN,r⟩,no,n1,n2,n3⟩
end
section
variable{b:r8}{p3:Pos}{k:Nat}
def zYX {a b c:qu}(y:Yd K H0 G H a b c d)(hC:ClsAt K "Yard" C):∃dx vc vl,H a=some (.ins C dx<|ydF vc vl b c):=by obtain⟨C',dx,vc,vl,_,_,_,_,_,_,_,e1,e2,_⟩:=y.ex;have e:=hC.one e1;subst e;exact⟨dx,vc,vl,e2⟩
def zKN (i:Nat)(fk fv:Ef):Sf:=λO=>(fv O).bind λe=>(fk O).bind λdk=>(zPT dk).bind λk=>match O[i]? with
 | some (.yd q d)=>match unY d with
  | some (dc,dl,ds,.dct ks es)=>if ks.length<=lim then some (.nx<|O.set i<|.yd q<|ydD dc dl ds<|zSN ks es k e) else none
  | _=>none
 | _=>none
def zIc (i:Nat)(hr:Room k X.A)(hC:ClsAt X.K "Yard" C)(hcl:Cls X.K C)(hn:NoAttr X.K C "boxes")(he:PF X e fa)(hb:PF X b fb)(hN:!27:=by rfl)(hv:!31:=by exact visQ rfl)(hd:!20:=by decide)(hcd:!30:=by decide)(ha:attributeBase (!19) "boxes" X.env (eval (!19) X.env)=eval (!19) X.env:=by rfl) (hs:swapsWith e (some<|.Subscript (.Attribute (!19) "boxes" p3) b p2) pos.line X.env=pure false:=by rfl):PFS X (.Assign [.Subscript (.Attribute (!19) "boxes" p3) b p2] e pos)<|zKN i fb fa:=by
 have hu:=hr.un;refine PS.to (zOy jc (zVV (wI hN hv hd hcd) ha) hb he hs) ?_;rintro D U H ⟨G0,H0,G,O,o,j0,hf,kk⟩;obtain⟨de,g1,hf⟩:=k8 hf;obtain⟨dk,g2,hf⟩:=k8 hf;obtain⟨k,g3,hf⟩:=k8 hf;split at hf
 .rename_i q d hi;split at hf
  .rename_i dc dl ds ks es hun;split at hf
   .rename_i hl;cases hf;refine⟨G0,H0,G,O,_,j0,g1,λv H1 G1 s1 r1=>?_⟩;obtain⟨a',b',c',e1,y⟩:=(j0.step s1).yd hi;have ed:=y.un hun;subst ed;obtain⟨dx,vc,vl,e2⟩:=zYX y hC;refine⟨.ref a',e1,a',C,dx,_,.ref c',J,e2,hcl,hn,J,G0,H0,G1,O,_,j0.step s1,g2,λu H2 G2 s2 r2=>?_⟩;have gd:=(j0.step s1).step s2;obtain⟨a2,b2,c2,f1,y2⟩:=gd.yd hi;rw[e1] at f1;cases f1;obtain⟨dx',vc',vl',f2⟩:=zYX y2 hC;rw[s2.hh _ _ e2] at f2;cases f2;obtain⟨_,_,_,_,_,_,_,_,o1,o2,z0,_,_,_,_,_,_,z7,z8⟩:=y2.ex;cases z0;obtain⟨vs,rfl,l1,l2⟩:=z8;have e4:=dY g3 r2;subst e4;refine⟨c',_,J,DPut.k z7 ?_,kk _ _ G2 (s1.gg.trans s2.gg)<|gd.bxY hi e1 y2<|zOd (r1.mono s2.gg) k l1 l2⟩;rw[Ei,<-l2.length,<-l1,Yr];exact xR hl
   .simp_all
  .simp_all
 .simp_all
def zJl (i:Nat)(fk:Ef):Sf:=λO=>(fk O).bind λdk=>(zPT dk).bind λk=>match O[i]? with
 | some (.yd q d)=>match unY d with
  | some (dc,dl,ds,.dct ks es)=>if (aQ ks es k).isSome then some (.nx<|O.set i<|.yd q<|ydD dc dl ds<|.dct (zYp ks k)<|zZ1 ks es k) else none
  | _=>none
 | _=>none
def zH8 (i:Nat)(hC:ClsAt X.K "Yard" C)(hcl:Cls X.K C)(hn:NoAttr X.K C "boxes")(hb:PF X b fb)(hN:!27:=by rfl)(hv:!31:=by exact visQ rfl)(hd:!20:=by decide)(hcd:!30:=by decide)(ha:attributeBase (!19) "boxes" X.env (eval (!19) X.env)=eval (!19) X.env:=by rfl) (m:M1 X (.Attribute (!19) "boxes" p3) "pop" apos b cpos:=by exact⟨J,J,J,J⟩) (hs:swapsWith (.Call (.Attribute (.Attribute (!19) "boxes" p3) "pop" apos) [b] [] cpos) none pos.line X.env=pure false:=by rfl):PFS X (.Expr (.Call (.Attribute (.Attribute (!19) "boxes" p3) "pop" apos) [b] [] cpos) pos)<|zJl i fb:=by
 refine PS.to (pV (zJW (zVV (wI hN hv hd hcd) ha) hb m) hs) ?_;rintro D U H ⟨G0,H0,G,O,o,j0,hf,kk⟩;obtain⟨dk,g2,hf⟩:=k8 hf;obtain⟨k,g3,hf⟩:=k8 hf;split at hf
 .rename_i q d hi;split at hf
  .rename_i dc dl ds ks es hun;split at hf
   .rename_i hnn;cases hf;obtain⟨a',b',c',e1,y⟩:=j0.yd hi;have ed:=y.un hun;subst ed;obtain⟨dx,vc,vl,e2⟩:=zYX y hC;obtain⟨_,_,_,_,_,_,_,_,_,_,z0,_,_,_,_,_,_,z7,z8⟩:=y.ex;cases z0;obtain⟨vs0,rfl,_⟩:=z8;refine⟨.ref a',e1,a',C,dx,_,.ref c',J,e2,hcl,hn,J,c',J,⟨_,.inl z7⟩,G0,H0,G,O,_,j0,g2,λu H1 G1 s1 r1=>?_⟩;have gd:=j0.step s1;obtain⟨a2,b2,c2,f1,y2⟩:=gd.yd hi;rw[e1] at f1;cases f1;obtain⟨dx',vc',vl',f2⟩:=zYX y2 hC;rw[s1.hh _ _ e2] at f2;cases f2;obtain⟨_,_,_,_,_,_,_,_,o1,o2,w0,_,_,_,_,_,_,w7,w8⟩:=y2.ex;cases w0;obtain⟨vs,rfl,l1,l2⟩:=w8;have hv:=lI k l1 l2;rw[hnn] at hv;obtain⟨w,hw⟩:=Es.mp hv;obtain⟨us,a1,a2,a3⟩:=zUA k l1 l2;refine⟨_,k,w,w7,dY g3 r1,hw,?_⟩;rw[a1];exact kk _ _ G1 s1.gg<|gd.bxY hi e1 y2 ⟨us,rfl,a2,a3⟩
   .simp_all
  .simp_all
 .simp_all
def zPD (i:Nat)(c m:Str)(n:Nat)(f:kg->kd->kd->ka)(g:Lf):Sf:=λO=>(g O).bind λes=>match O[i]? with
 | some (.yd q d)=>match unY d with
  | some (dc,dl,.obj c' ns xs,db)=>if c'=c/\es.length=n/\m∉ns then(f ns xs es).map λys=>.nx (O.set i<|.yd q<|ydD dc dl (.obj c ns ys) db) else none
  | _=>none
 | _=>none
def zRt (i:Nat){c:Str}{k:Nat}{CY:qu}{f:kg->kd->kd->ka}(hCY:ClsAt X.K "Yard" CY)(hclY:Cls X.K CY)(hnY:NoAttr X.K CY "store")(hC:ClsAt X.K c C)(hcl:Cls X.K C)(hm:Meth X.K C m fad)(F:∀ns,FnOk X.prog X.w X.K X.mg X.base CX0 k fad fd ps (spM X.K c ns n (f ns)))(hr:Room k X.A)(hb:Binds X.K fd ps [])(ha:PFA X (e::es) ga) (hN:!27:=by rfl) (hv:!31:=by exact visQ rfl) (hd:!20:=by decide) (hcd:!30:=by decide) (hab:attributeBase (!19) "store" X.env (eval (!19) X.env)=eval (!19) X.env:=by rfl)(hst:!23:=by rfl) (hpl:(backTo cpos (!25)).any (·.1)=false:=by rfl)(ht:eval (.Call (.Attribute (.Attribute (!19) "store" p3) m apos) (e::es) [] cpos) X.env=(do
   let ov <-eval (.Attribute (!19) "store" p3) X.env
   standAt apos.atName
   let (f,first) <-holding [ov] (getMethod ov m pl)
   callWith cpos f first (backTo cpos<|starEach (e::es) X.env) (!38)):=by rfl)
  (hs:swapsWith (.Call (.Attribute (.Attribute (!19) "store" p3) m apos) (e::es) [] cpos) none pos.line X.env=pure false:=by rfl) :
  PFS X (.Expr (.Call (.Attribute (.Attribute (!19) "store" p3) m apos) (e::es) [] cpos) pos) (zPD i c m n f ga):=by
 rintro Z s U H D I ⟨G0,H0,G,O,out,j0,hf,kk⟩;obtain⟨ds',h1,hf⟩:=k8 hf;split at hf
 .rename_i q d hi;split at hf
  .rename_i dc dl c' ns xs db hun;split at hf
   .rename_i hq;obtain⟨rfl,hl,hmn⟩:=hq;obtain⟨ys,h2,rfl⟩:=k9 hf;obtain⟨a',b',c'',e1,y⟩:=j0.yd hi;have ed:=y.un hun;subst ed;obtain⟨dx,vc,vl,e2⟩:=zYX y hCY;obtain⟨_,_,_,_,_,_,_,_,_,_,z0,_,_,_,_,z5,z6,_⟩:=y.ex;cases z0;obtain⟨C',dx',vs,r1,r2,r3⟩:=z6;have ec:=hC.one r1;subst ec;refine pV (dA (pl:=pl) (E:=E0) (zVV (wI hN hv hd hcd) hab) hcl hm (F ns) hr hb .nil gH ha hst hpl ht) hs Z s U H D I ⟨.ref a',e1,a',CY,dx,_,.ref b',J,e2,hclY,hnY,J,b',dx',_,J,by rw[z5,r2],xP hmn,G0,H0,G,O,ds',j0,h1,λus H1 G1 s1 rs=>?_⟩;show spM X.K c' ns n (f ns) (.ref b'::(us++[])) H1 _ E0;rw[Wo];have gd:=j0.step s1;obtain⟨a2,b2,c2,f1,y2⟩:=gd.yd hi;rw[e1] at f1;cases f1;obtain⟨dx2,vc2,vl2,f2⟩:=zYX y2 hCY;rw[s1.hh _ _ e2] at f2;cases f2;obtain⟨_,_,_,_,_,_,_,_,o1,o2,w0,_,_,_,_,w5,w6,_⟩:=y2.ex;cases w0;exact⟨b',_,us,G1,xs,ds',ys,J,w5,(y2.no _<|.inr<|.inl rfl).1,w6,s1.sub,rs,hl,h2,λH' G' o' st q1 q2 q3=>kk U H' G' (s1.gg.trans st.gg)<|gd.stY hi e1 y2 st q1 q2 q3⟩
   .simp_all
  .simp_all
 .simp_all
end
def inL (S:kn)(x:qu):Prop:=x∈S
def OwT (K:jk)(G H:Hp)(a:qu):kn->D->Prop
 | [x],d=>x=a/\∃o,H a=some o/\G a=none/\RepO K G o d
 | [x,b,c],d=>x=a/\Yd K (λ_=>none) G H a b c d
 | _,_=>False
def bS:kn->D->B
 | [a],d=>.mu (some a) d
 | [a,b,c],d=>.yd (some (a,b,c)) d
 | _,_=>.no
def zHm:B->Option (Nat×D) | .mu _ d=>some (1,d) | .yd _ d=>some (3,d) | _=>none
def zD6:B->D->B | .mu q _,y=>.mu q y | .yd q _,y=>.yd q y | b,_=>b
section
variable{y:D}{a:qu}{b:B}
def Good.own (g:!21)(hi:O[i]?=some b)(hd:zHm b=some (n,d)):∃a S,U[i]?=some (!26)/\OwT K G H a S d/\S.length=n/\∀G' H' y,Step G (outS H<|inL S) G' H'->OwT K G' H' a S y->Good K G0 H0 G' H' U (O.set i<|zD6 b y):=by
 cases b with
 | mu q d' =>
  cases hd;obtain⟨a,o,e1,e2,e3,e4,e5⟩:=g.mu hi;refine⟨a,[a],e1,⟨J,o,e2,e3,e5⟩,J,λG' H' y s ⟨_,o',h1,h2,h3⟩=>g.ioM hi e1 ⟨λx u e=>?_,s.gg,s.sub,λx u e m=>?_⟩ h1 h2 h3⟩
  .by_cases hx:x=a
   .rw[hx,qH] at e;cases e
   .rw[vQ hx] at e;exact s.hh x u (by rw[xN (S:=inL [a]) λz=>hx<|Qv.mp z];exact e)
  .by_cases hx:x=a
   .simp_all
   .rw[vQ hx] at e;exact s.new x u (by rw[xN (S:=inL [a]) λz=>hx<|Qv.mp z];exact e) m
 | yd q d' =>
  cases hd;obtain⟨a,b,c,e1,y⟩:=g.yd hi;refine⟨a,[a,b,c],e1,⟨J,y.ex,λx hx=>⟨(y.no x hx).1,J⟩,y.ne⟩,J,λG' H' y' s ⟨_,h⟩=>?_⟩;have e:inL [a,b,c]=in3 a b c:=by funext x;simp[inL,in3]
  rw[e] at s;exact g.ioY hi e1 y s h
 | _=>cases hd
def zJM {N:Nat}(o:OwT K G H a S d)(s:Same G H)(r:Reps K G ds vs):Good K G (outS H<|inL S) G H (some (.ref a)::(vs.map some++List.replicate (N - (vs.length+1)) none))<|bS S d::(ds.map .fz++List.replicate (N - (ds.length+1)) .no):=by
 refine⟨⟨λx u e=>?_,Same.refl _,s,λ_ _ _ _=>rfl⟩,?_,zUw⟩
 .by_cases z:inL S x
  .rw[rF z] at e;cases e
  .rw[xN z] at e;exact e
 .rw[r.length];refine .cons ?_<|jN _ r;unfold OwT at o;split at o
  .obtain⟨rfl,o',h1,h2,h3⟩:=o;exact .mu (.inr J) h1 h2 (rF<|Qv.mpr rfl) h3
  .obtain⟨rfl,h⟩:=o;exact .yd (.inr J) ⟨h.ex,λx hx=>⟨(h.no x hx).1,rF<|by simpa [inL] using hx⟩,h.ne⟩
  .simp_all
def zIJ (g:!21)(h:O[i]?=some (bS S y))(hS:S.length=1\/S.length=3):∃a,S.head?=some a/\OwT K G H a S y:=by
 match S,hS,h with
 | [a],_,h =>
  obtain⟨x,e,r⟩:=Paired.get g.vals h;cases r with
  | mu q h1 h2 h3 h4 =>
   rcases q with q | q
   .cases q
   .cases q;exact⟨_,J,J,_,h1,h2,h4⟩
 | [a,b,c],_,h =>
  obtain⟨x,e,r⟩:=Paired.get g.vals h;cases r with
  | yd q y =>
   rcases q with q | q
   .cases q
   .cases q;exact⟨_,J,J,y.ex,λx hx=>⟨(y.no x hx).1,J⟩,y.ne⟩
def OwT.head (o:OwT K G H a S d):S.head?=some a/\(S.length=1\/S.length=3):=by
 unfold OwT at o;split at o
 .simp_all
 .simp_all
 .simp_all
end
inductive OutK where
 | nx (O:ki)
 | rt (d:D) (O:ki)
abbrev Kf:=ki->Option OutK
def WantsK (K:jk)(G0 H0 G:Hp)(D:Ends):OutK->Prop
 | .nx ρ1=>∀U' H' G',Same G G'->Good K G0 H0 G' H' U' ρ1->D.nx U' H'
 | .rt d ρ1=>∀v U' H' G',Same G G'->Good K G0 H0 G' H' U' ρ1->Rep K G' d v->D.rt v H'
theorem WantsK.mono {D:Ends}:∀ {o:OutK},WantsK K G0 H0 G D o->Same G G1->WantsK K G0 H0 G1 D o
 | .nx _,h,s=>λU' H' G' s' g'=>h U' H' G' (s.trans s') g'
 | .rt _ _,h,s=>λv U' H' G' s' g' r=>h v U' H' G' (s.trans s') g' r
def tFR (K:jk)(f:Kf):TS:=λD U H=>∃G0 H0 G O o,Good K G0 H0 G H U O/\f O=some o/\WantsK K G0 H0 G D o
def PFR (X:Cx)(st:r9)(f:Kf):Prop:=PS X st<|tFR X.K f
def zSh (X:Cx)(st:qg)(f:Kf):Prop:=PSs X st<|tFR X.K f
def PSR.to {f:Kf}(h:PS X st t)(imp:∀D U H,tFR X.K f D U H->t D U H):PFR X st f:=λZ s U H D I q=>h Z s U H D I<|imp D U H q
def PSsR.to {st:qg}{f:Kf}(h:PSs X st t)(imp:∀D U H,tFR X.K f D U H->t D U H):zSh X st f:=λZ s U H D I q=>h Z s U H D I<|imp D U H q
def zLp (f g:Kf):Kf:=λO=>(f O).bind λo=>match o with | .nx O'=>g O' | o=>some o
def zD9 (f:Ef):Kf:=λO=>(f O).map λd=>.rt d O
def kOf (f:Sf):Kf:=λO=>match f O with | some (.nx O')=>some (.nx O') | _=>none
section
variable{rest:qg}{f g:Kf}{h:Sf}
def zGW (hh:PFS X st h):PFR X st<|kOf h:=by
 refine PSR.to hh ?_
 sleep 3
 unfold kOf at hf;split at hf
 .rename_i O' e;cases hf;exact⟨G0,H0,G,O,.nx O',j0,e,k⟩
 .simp_all
def zTY (hh:PFSs X rest h):zSh X rest<|kOf h:=by
 refine PSsR.to hh ?_
 sleep 3
 unfold kOf at hf;split at hf
 .rename_i O' e;cases hf;exact⟨G0,H0,G,O,.nx O',j0,e,k⟩
 .simp_all
def zF1 (h:PFR X st f):zSh X [st] f:=zXz h
def zHM (h1:PFR X st f)(h2:zSh X rest g):zSh X (st::rest)<|zLp f g:=by
 refine PSsR.to (tP h1 h2) ?_
 sleep 3
 obtain⟨o1,h1,hf⟩:=k8 hf;refine⟨G0,H0,G,O,o1,j0,h1,?_⟩;cases o1 with
 | nx O'=>exactλU' H' G' s g'=>⟨G0,H0,G',O',o,g',hf,k.mono s⟩
 | rt d O'=>cases hf;exact k
def zS3 (h:Kf)(hB:h=zLp f g)(h1:PFR X st f)(h2:zSh X rest g):zSh X (st::rest) h:=hB ▸ zHM h1 h2
def zFH (h:PF X e fa):PFR X (.Return (some e) pos)<|zD9 fa:=by
 refine PSR.to (zT8 h) ?_
 sleep 3
 obtain⟨d,h1,rfl⟩:=k9 hf;exact⟨G0,H0,G,O,d,j0,h1,λv H' G' s r=>k v U H' G' s.gg (j0.step s) r⟩
end
def spW (K:jk)(n:Nat)(f:kn->D->kd->qc):Sp:=λvs H Q _=>∃(a:qu) (S:kn) (rest:kj) (G:Hp) (x:D) (ds:kd) (r y:D),vs = .ref a::rest/\OwT K G H a S x/\Same G H/\Reps K G ds rest/\ds.length=n/\f S x ds=some (r,y) /\
 ∀v H' G',Step G (outS H<|inL S) G' H'->OwT K G' H' a S y->Rep K G' r v->Q v H'
open Classical in
def zQh (S:kn):Option OutK->qc
 | some (.rt d (b::_))=>(zHm b).bind λy=>if b=bS S y.2 then some (d,y.2) else none
 | some (.nx (b::_))=>(zHm b).bind λy=>if b=bS S y.2 then some (.non,y.2) else none
 | _=>none
def zJ3 {o:Option OutK}{r y:D}(h:zQh S o=some (r,y)):(∃O,o=some (.rt r O)/\O[0]?=some (bS S y))\/∃O,o=some (.nx O)/\O[0]?=some (bS S y)/\r = .non:=by
 unfold zQh at h;split at h
 .obtain⟨z,h1⟩:=k8 h;simp_all
 .obtain⟨z,h1⟩:=k8 h;simp_all
 .cases h
def fnW (N:Nat)(f:Kf):kn->D->kd->qc:=λS x ds=>zQh S<|f<|bS S x::(ds.map .fz++List.replicate (N - (ds.length+1)) .no)
open Classical in
def gW (f:kn->D->kd->qc)(n:Nat)(x:D)(ds:kd):qc:=if h:∃r,∀S:kn,S.length=n->f S x ds=some r then some h.choose else none
def zPn {x:D}(h:gW f n x ds=some r)(hS:S.length=n):f S x ds=some r:=by
 unfold gW at h;split at h
 .rename_i q;cases h;exact q.choose_spec S hS
 .cases h
def cW {x:D}(h:∀S:kn,S.length=n->f S x ds=some r):gW f n x ds=some r:=by
 have q:∃r,∀S:kn,S.length=n->f S x ds=some r:=⟨r,h⟩
 unfold gW;rw[dif_pos q];exact((q.choose_spec (List.replicate n 0) je).symm.trans<|h _ je)
section
variable{k:Nat}{f:Kf}
def zXw (F:Fun K x qual st fad fd)(S:FnScope N (sf::ps)<|zV st)(hb:∀(j9:qv) (A:qy) (outer:qb) (s:qw) (H:Hp) (E:XK),Room k (A.deeper<|envOfC qual (zV st) s.heap.objs.size fad j9)->zSh (qP CX0 P w K mg base N qual (zV st) fad j9 A outer s H E).nox (xL st) f):FnOk P w K mg base CX0 (k+1) fad fd (sf::ps)<|spW K ps.length<|fnW N.length f:=by
 refine F.ok S (λvs H Q E h=>?_) λj9 A _ s H vs Q E hr h=>?_
 .obtain⟨a,S,rest,G,xs,ds,r,y,rfl,_,_,rr,hl,_⟩:=h;rw[Qk,Qk,<-rr.length,hl]
 .refine⟨_,hb j9 A _ s H E hr,?_⟩;obtain⟨a,S,rest,G,x,ds,r,y,rfl,h1,sub,rr,hl,hf,kk⟩:=h;have j0:=zJM (N:=N.length) h1 sub rr;obtain⟨hS1,hS⟩:=h1.head;have fin:∀ {H' G':Hp} {U':St} {ρ1:ki},Good K G (outS H<|inL S) G' H' U' ρ1->ρ1[0]?=some _->OwT K G' H' a S y:=λg' e=>by
   obtain⟨a',e1,e2⟩:=zIJ g' e hS;rw[hS1] at e1;cases e1;exact e2
  rcases zJ3 hf with⟨ρ1,e1,e2⟩ | ⟨ρ1,e1,e2,rfl⟩
  .exact⟨G,_,G,_,_,j0,e1,λv U' H' G' s' g' rv=>kk v H' G' g'.st (fin g' e2) rv⟩
  .exact⟨G,_,G,_,_,j0,e1,λU' H' G' s' g'=>kk .non H' G' g'.st (fin g' e2)<|sX.mpr rfl⟩
variable{b:r8}
def OwT.ins {K:jk}{G H:Hp}{a C:qu}{S:kn}{c:Str}{ns:kg}{xs:kd}(h:OwT K G H a S<|.obj c ns xs)(hC:ClsAt K c C):∃dx vs,H a=some (.ins C dx<|ns.zip vs):=by
 unfold OwT at h;split at h
 .obtain⟨_,o,h1,_,C',dx,vs,r1,r2,_⟩:=h;have e:=hC.one r1;subst e;exact⟨dx,vs,by rw[h1,r2]⟩
 .obtain⟨_,⟨C',dx,vc,vl,_,_,_,_,_,_,e0,e1,e2,_⟩,_⟩:=h;cases e0;have e:=hC.one e1;subst e;exact⟨dx,[vc,vl,.ref _,.ref _],e2⟩
 .simp_all
def oR (i:Nat)(c m:Str)(n:Nat)(f:kn->D->kd->qc)(g:Lf):Sf:=λO=>(g O).bind λds=>(O[i]?).bind λb=>(zHm b).bind λx=>match x.2 with
 | .obj c' ns _=>if c'=c/\ds.length=n/\m∉ns then(gW f x.1 x.2 ds).map λr=>.nx (O.set i<|zD6 b r.2) else none
 | _=>none
def jQ (i:Nat){c:Str}{k:Nat}{f:kn->D->kd->qc}(hC:ClsAt X.K c C)(hcl:Cls X.K C)(hm:Meth X.K C m fad)(F:FnOk X.prog X.w X.K X.mg X.base CX0 k fad fd ps (spW X.K n f))(hr:Room k X.A)(hb:Binds X.K fd ps [])(ha:PFA X (e::es) ga) (hN:!27:=by rfl) (hv:!31:=by exact visQ rfl) (hd:!20:=by decide) (hcd:!30:=by decide)(hst:!23:=by rfl) (hpl:(backTo cpos (!25)).any (·.1)=false:=by rfl)(ht:eval (.Call (.Attribute (!19) m apos) (e::es) [] cpos) X.env=(do
   let ov <-eval (!19) X.env
   standAt apos.atName
   let (f,first) <-holding [ov] (getMethod ov m pl)
   callWith cpos f first (backTo cpos<|starEach (e::es) X.env) (!38)):=by rfl)
  (hs:swapsWith (.Call (.Attribute (!19) m apos) (e::es) [] cpos) none pos.line X.env=pure false:=by rfl) :
  PFS X (.Expr (.Call (.Attribute (!19) m apos) (e::es) [] cpos) pos) (oR i c m n f ga):=by
 rintro Z s U H D I ⟨G0,H0,G,O,out,j0,hf,kk⟩;obtain⟨ds,h1,hf1⟩:=k8 hf;obtain⟨b,hi,hf2⟩:=k8 hf1;obtain⟨⟨nn,dd⟩,hd',hf3⟩:=k8 hf2;clear hf hf1 hf2;have hf:=hf3;clear hf3;dsimp only at hf;split at hf
 .rename_i c' ns xs;split at hf
  .rename_i hq;obtain⟨rfl,hl,hmn⟩:=hq;obtain⟨r,h2,rfl⟩:=k9 hf;obtain⟨q,S,e1,ow,_⟩:=j0.own hi hd';obtain⟨dx,vs,e2⟩:=ow.ins hC;refine pV (dA (pl:=pl) (E:=E0) (wI hN hv hd hcd) hcl hm F hr hb .nil gH ha hst hpl ht) hs Z s U H D I ⟨.ref q,e1,q,dx,_,J,e2,xP hmn,G0,H0,G,O,ds,j0,h1,λus H1 G1 s1 rs=>?_⟩;show spW X.K n f (.ref q::(us++[])) H1 _ E0;rw[Wo];obtain⟨q',S',f1,ow',hS,fin⟩:=(j0.step s1).own hi hd';rw[e1] at f1;cases f1;exact⟨q,S',us,G1,_,ds,r.1,r.2,J,ow',s1.sub,rs,hl,zPn h2 hS,λv H' G' st ow2 _=>kk U H' G' (s1.gg.trans st.gg)<|fin G' H' r.2 st ow2⟩
  .simp_all
 .simp_all
end
end L2
variable{t:Tf}{r:qi}
namespace L2
def sOr (f g:Sf):Sf:=λO=>match f O with | some o=>some o | none=>g O
def zEC {f g:Sf}(h1:PFS X st f)(h2:PFS X st g):PFS X st<|sOr f g:=by
 rintro Z s U H D I ⟨G0,H0,G,O,o,j0,hf,k⟩;unfold sOr at hf;split at hf
 .rename_i e;cases hf;exact h1 Z s U H D I ⟨G0,H0,G,O,o,j0,e,k⟩
 .exact h2 Z s U H D I ⟨G0,H0,G,O,o,j0,hf,k⟩
def zVK (i:Nat)(x:ki->kf):ki->kf:=λO=>(lendB i O).bind x
section
variable{E:XK}{b:r8}{x y:ki->kf}{k:Nat}{rest body:qg}
def zYN (i:Nat)(h:PXB X st x):PXB X st<|zVK i x:=by
 intro Z s U H R G0 H0 G O c C I j0 hq hC k;obtain⟨O',h1,hq⟩:=k8 hq;obtain⟨S,hG,hH,good'⟩:=j0.lendB h1;refine h Z s U _ R G0 H0 _ O' c C (I.lab S) (good' _) hq hC λs2 H2 G2 e s' I2 st2 hx=>k s2 _ _ e s' (I.unlab I2 st2.hh hH) (st2.backS hG) ?_;obtain⟨C',a',H',e1,e2,e3,e4,e5,e6,e7,G',e8⟩:=hx;have h3:=λx o q=>e8.hh x o<|st2.hh x o q;have nS:∀ {b},H' b=none->rL H' H S b=none:=λ{b} n=>by
  have z:¬S b:=λz=>by obtain⟨o,q,_⟩:=hH b z;have:=h3 b _ (by rw[cP z,q];rfl);rw[n] at this;cases this
  rw[xI z];exact n
 obtain⟨⟨vs,v,f1,f2,f3,f4⟩,f5,f6⟩:=e6;refine⟨C',a',_,e1,e2,e3,e4.unlab hH,e5.unlab h3 hH,⟨⟨vs,v,f1,f2,f3,λT q=>⟨nS (f4 T q).1,(f4 T q).2⟩⟩,nS f5,f6⟩,e7,outS G' S,⟨λb u q=>?_,λb u q=>?_,λb u q=>?_,λb u q n=>?_⟩⟩
 .by_cases z:S b
  .rw[lH z] at q ⊢;exact q
  .rw[xI z] at q ⊢;exact e8.hh b u q
 .by_cases z:S b
  .rw[rF z] at q;cases q
  .rw[xN z] at q ⊢;exact e8.gg b u q
 .by_cases z:S b
  .rw[rF z] at q;cases q
  .rw[xN z] at q;rw[xI z];exact e8.sub b u q
 .by_cases z:S b
  .rw[rF z,rF z]
  .rw[xN z,xN z];rw[xI z] at q;exact e8.new b u q n
def zER (t:Tf)(xa y:ki->kf):ki->kf:=λO=>(t O).bind λc=>if c=true then xa O else y O
def zMR (ht:PFT X a tt)(h1:zZE X E sts xa)(h2:zZE X E rest y):zZE X E (.If a sts [] pos::rest)<|zER tt xa y:=by
 intro Z s U H D I h;obtain⟨G0,H0,G,O,c,C,j0,hq,hC,k⟩:=h;obtain⟨v,hv,hq⟩:=k8 hq;cases v with
 | true =>refine uC (zGX ht h1 zMi) Z s U H D I ⟨G0,H0,G,O,c,C,j0,?_,hC,k⟩;dsimp only;rw[hv];exact hq
 | _ =>exact tP (zRz ht zUK zX5) h2 Z s U H D I ⟨G0,H0,G,O,false,j0,hv,λH1 G1 s1=>⟨G0,H0,G1,O,c,C,j0.step s1,hq,hC,λH' G' s'=>k H' G'<|s1.trans s'⟩⟩
def zGO (c m:Str)(fa:Ef)(x:ki->kf):ki->kf:=λO=>(fa O).bind λd=>match d with | .obj c' ns _=>if c'=c/\m∉ns then x O else none | _=>none
def zQd {c:Str}{k:Nat}(hC:ClsAt X.K c C)(hcl:Cls X.K C)(hm:Meth X.K C m fad)(F:FnOk X.prog X.w X.K X.mg X.base CX0 k fad fd ps sp)(hr:Room k X.A)(hb:Binds X.K fd ps [])(ho:PF X o fa) (ha:PXE X E e x) (hst:starEach [e] X.env=(false,eval e X.env)::starEach [] X.env:=by rfl) (hpl:(backTo cpos (starEach [] X.env)).any (·.1)=false:=by rfl)(ht:eval (.Call (!33) [e] [] cpos) X.env=(do
   let ov <-eval o X.env
   standAt apos.atName
   let (f,first) <-holding [ov] (getMethod ov m pl)
   callWith cpos f first (backTo cpos<|starEach [e] X.env) (!38)):=by rfl) :
  PXE X E (.Call (!33) [e] [] cpos) (zGO c m fa x):=by
 intro Z s U H Q I h;obtain⟨G0,H0,G,O,cc,CC,j0,hq,hCC,kk⟩:=h;obtain⟨d,h1,hq1⟩:=k8 hq;clear hq;have hq:=hq1;clear hq1;split at hq
 .rename_i c' ns xs;split at hq
  .rename_i hz;obtain⟨rfl,hmn⟩:=hz;refine dA ho hcl hm F hr hb .nil gH (yX ha yK hst) hst hpl ht Z s U H Q I ⟨G0,H0,G,O,_,j0,h1,λv H1 G1 s1 r1=>?_⟩;obtain⟨C',q,dx,vs,r2,rfl,r3,r4⟩:=sU.mp r1;have ec:=hC.one r2;subst ec;exact⟨q,dx,_,J,s1.sub _ _ r3,xP hmn,G0,H0,G1,O,cc,CC,j0.step s1,hq,hCC,λH' G' st=>kk H' G'<|s1.trans st⟩
  .simp_all
 .simp_all
def zIY (he:PXE X E e x)(hs:∀x,foldedSetIterable e X.env x=pure x:=by intro _;rfl):PXS X E (.For tg e body [] pos) x:=by refineλZ s U H D I h=>wpAny_For (thn (he Z s U H (λ_ _=>False) I h) λv s1 ⟨_,_,_,_,z⟩=>z.elim) hs
def sNx (f:Sf):Sf:=λO=>(f O).bind λo=>match o with | .nx O'=>some (.nx O') | _=>none
def zIk {h0:ExceptHandler}{hs:List ExceptHandler}{f:Sf}(hfb:PFS X.nox st f):PFS X (.Try [st] (h0::hs) [] [] pos)<|sNx f:=by
 intro Z s U H D I q;obtain⟨G0,H0,G,O,o,j0,hq,k⟩:=q;obtain⟨o1,ho1,hq⟩:=k8 hq;split at hq
 .rename_i O';cases hq;refine wpAny_Try_except<|Iw<|Ea (hfb Z s U H { nx:=D.nx,rt:=λ_ _=>False } (I.wish _) ⟨G0,H0,G,O,.nx O',j0,ho1,k⟩) (λf s1 h1=>?_) λ_ _ z=>z.elim;cases f with
  | next =>obtain⟨U',H',I1,q1⟩:=h1;exact Yi<|Yi ⟨U',H',I1.unwish,q1⟩
  | brk=>obtain⟨_,_,_,z⟩:=h1;exact False.elim z
  | cont=>obtain⟨_,_,_,z⟩:=h1;exact False.elim z
  | ret u=>obtain⟨_,_,_,_,_,z⟩:=h1;exact False.elim z
 .simp_all
end
abbrev Uf:=ki->Option (Bool×ki)
def tFU (K:jk)(f:Uf):TT:=λU H Q=>∃G0 H0 G O b ρ1,Good K G0 H0 G H U O/\f O=some (b,ρ1)/\∀H' G',Same G G'->Good K G0 H0 G' H' U ρ1->Q b H'
def PFU (X:Cx)(e:r8)(f:Uf):Prop:=PT X e<|tFU X.K f
def zD8 (f:Uf)(fa fb:Sf):Sf:=λO=>(f O).bind λq=>if q.1=true then fa q.2 else fb q.2
section
variable{f:Uf}{sa sb:qg}{ha hb:Sf}
def zEU (h:PFU X c f)(h1:PFSs X sa ha)(h2:PFSs X sb hb):PFS X (.If c sa sb pos)<|zD8 f ha hb:=by
 refine PS.to (zRz h h1 h2) ?_
 sleep 3
 obtain⟨q,h1,hf⟩:=k8 hf;refine⟨G0,H0,G,O,q.1,q.2,j0,h1,λH1 G1 s1 g1=>?_⟩;split at hf
 .rename_i z;rw[Qg z];exact⟨G0,H0,G1,q.2,o,g1,hf,k.mono s1⟩
 .rename_i z;rw[Qc z];exact⟨G0,H0,G1,q.2,o,g1,hf,k.mono s1⟩
end
def zFe (K:jk)(C:qu)(n:Nat)(f:jz):Sp:=λvs H Q _=>∃(p dx:qu) (rest:kj) (G H0:Hp) (ds:kd) (x:D),vs = .ref p::rest/\H=upd (upd H0 dx<|.own p) p (.ins C dx [])/\H0 p=none/\H0 dx=none/\dx≠p/\Same G H0/\Reps K G ds rest/\ds.length=n/\f ds=some x /\
 ∀H' G' b c,Step G H0 G' H'->Yd K H0 G' H' p b c x->Q .non H'
def zEB (nsS:kg)(fS:kd->ka):kd->qi
 | [d1,d2,d3]=>(fS [d3]).bind λxs=>if nsS.length=xs.length then some (ydD d1 d2 (.obj "Store" nsS xs)<|.dct [] []) else none
 | _=>none
theorem mQ {f:Str}{v:V}:∀ {fs:qr} {n:Nat},fs.length < n->(nN f v fs).length < n+1
 | [],n,h=>by show 1 < n+1;exact Nat.succ_lt_succ h
 | _::r,n,h=>by
  unfold nN;split
  .exact Ru h
  .cases n with
   | zero=>cases h
   | succ n=>exact Nat.succ_lt_succ<|mQ<|Nat.lt_of_succ_lt_succ h
section
variable{CS fI:qu}{fdS:FuncData}{nsS psS:kg}{k:Nat}{n1 n2 n3:Str}{fS:kd->ka}{p3 p4 q1 q2 q3 q4 r1 r2 r3 r4 r5 r6 u1 u2 u3 u4:Pos}
def zKk (F:Fun K x qual st fad fd)(S:FnScope [sf,n1,n2,n3] [sf,n1,n2,n3] (zV st))(hbody:xL st=[.Assign [.Attribute (.Name sf p1) "curve" p2] (.Name n1 p3) p4,.Assign [.Attribute (.Name sf q1) "level" q2] (.Name n2 q3) q4,.Assign [.Attribute (.Name sf r1) "store" r2] (.Call (.Name "Store" r3) [.Name n3 r4] [] r5) r6,.Assign [.Attribute (.Name sf u1) "boxes" u2] (.Dict [] [] u3) u4])(hC:ClsAt K "Yard" C) (hcl:Cls K C) (h1:NoAttr K C "curve") (h2:NoAttr K C "level") (h3:NoAttr K C "store") (h4:NoAttr K C "boxes")(hCS:ClsAt K "Store" CS) (M:Mk K CS fI) (FS:FnOk P w K mg base CX0 j fI fdS psS (spI K CS nsS 1 fS)) (hmS:mg "Store"=some (.ref CS)) (hbS:Binds K fdS psS []) (hj:j+1<=k)(hgS:∀(j9:qv) (A:qy) (outer:qb) (s:qw) (H:Hp) (E:XK),Gl (qP CX0 P w K mg base [sf,n1,n2,n3] qual (zV st) fad j9 A outer s H E).nox "Store":=by exactλ_ _ _ _ _ _=>rfl)(v0:Vis (zV st) sf:=by exact visQ rfl) (v1:Vis (zV st) n1:=by exact visQ rfl) (v2:Vis (zV st) n2:=by exact visQ rfl) (v3:Vis (zV st) n3:=by exact visQ rfl)(hd:∀y∈[sf,n1,n2,n3],(y==("__debug__":Str))=false/\(y==("__classdict__":Str))=false:=by decide)(hs:∀(j9:qv) (A:qy) (outer:qb) (s:qw) (H:Hp) (E:XK),let env:=(qP CX0 P w K mg base [sf,n1,n2,n3] qual (zV st) fad j9 A outer s H E).nox.env
   swapsWith (.Name n1 p3) (some<|.Attribute (.Name sf p1) "curve" p2) p4.line env=pure false/\swapsWith (.Name n2 q3) (some<|.Attribute (.Name sf q1) "level" q2) q4.line env=pure false/\swapsWith (.Call (.Name "Store" r3) [.Name n3 r4] [] r5) (some<|.Attribute (.Name sf r1) "store" r2) r6.line env=pure false/\swapsWith (.Dict [] [] u3) (some<|.Attribute (.Name sf u1) "boxes" u2) u4.line env=pure false:=by exactλ_ _ _ _ _ _=>⟨J,J,J,J⟩) :
  FnOk P w K mg base CX0 (k+1) fad fd [sf,n1,n2,n3] (zFe K C 3<|zEB nsS fS):=by
 have hd0:=hd sf je;have hd1:=hd n1 je;have hd2:=hd n2 je;have hd3:=hd n3 je;refine F.ok S (λvs H Q E h=>?_) λj9 A _ s H vs Q E hr h=>?_
 .obtain⟨p,dx,rest,G,H0,ds,xs,rfl,_,_,_,_,_,rs,hl,_⟩:=h;rw[Qk,<-rs.length,hl];rfl
 .obtain⟨s1,s2,s3,s4⟩:=hs j9 A _ s H E;rw[hbody];refine⟨_,tP (zYK (wI (i:=0) J v0 hd0.1 hd0.2) (wI (i:=1) J v1 hd1.1 hd1.2) s1)<|tP (zYK (wI (i:=0) J v0 hd0.1 hd0.2) (wI (i:=2) J v2 hd2.1 hd2.2) s2)<|tP (zYK (wI (i:=0) J v0 hd0.1 hd0.2) (zTp (E:=E0) M FS (hr.mono hj) (hgS j9 A _ s H E) hmS hbS .nil gH (yX (wI (i:=3) J v3 hd3.1 hd3.2) yK jg) jb jg jg) s3)<|zXz<|zYK (wI (i:=0) J v0 hd0.1 hd0.2) zRm s4,?_⟩;obtain⟨p,dx,rest,G,H0,ds,y,rfl,rfl,z1,z2,z3,sub,rs,hl,hf,kk⟩:=h
  match ds,hl,hf,rs with
  | [d1,d2,d3],_,hf,rs =>
   obtain⟨w1,_,rfl,t1,rs⟩:=zQ.mp rs;obtain⟨w2,_,rfl,t2,rs⟩:=zQ.mp rs;obtain⟨w3,_,rfl,t3,rs⟩:=zQ.mp rs;obtain⟨xs,f1,hf⟩:=k8 hf;split at hf
   .rename_i hn;cases hf;have pdx:p≠dx:=z3.symm;refine⟨w1,J,.ref p,J,p,C,dx,_,J,zN,hcl,h1,jb,⟨w2,J,.ref p,J,p,C,dx,_,J,zN,hcl,h2,mQ (n:=999) jb,?_⟩⟩;rw[zPl,zPl];have gp:G p=none:=sub.free z1;have sb0:Same G<|upd H0 dx<|.own p:=sub.trans<|Same.new z2;have hp1:(upd H0 dx<|.own p) p=none:=by rw[zG pdx];exact z1
    have sb1:∀o,Same G<|upd (upd H0 dx<|.own p) p o:=λo=>sb0.trans<|Same.new hp1;refine⟨w3,J,λb dxb hb hdb hbn=>⟨b,dxb,[w3],G,_,[d3],xs,J,J,hb,hdb,hbn,sb1 _,zQ.mpr ⟨w3,[],J,t3,zD.mpr J⟩,J,f1,λH' G' us st q1 q2 q3=>⟨J,?_⟩⟩⟩;have hpH:H' p=some (.ins C dx<|nN "level" w2<|nN "curve" w1 []):=st.hh _ _ zN;have bp:b≠p:=λz=>by rw[z,zN] at hb;cases hb
    have hb0:H0 b=none:=by
     rw[zG bp] at hb
     by_cases z:b=dx
     .simp_all
     .rwa[zG z] at hb
    have gp':G' p=none:=(st.new p _ zN J).trans gp;refine⟨.ref p,J,p,C,dx,_,J,hpH,hcl,h3,mQ (n:=999)<|mQ (n:=998) jb,?_⟩;intro c hc;have cp:c≠p:=λz=>by rw[z,zN] at hc;cases hc
    have hc':H' c=none:=by rwa[zG cp] at hc
    have cb:c≠b:=λz=>by rw[z,q1] at hc';cases hc'
    refine⟨.ref p,J,p,C,dx,_,J,by rw[zG cp.symm];exact zN,hcl,h4,mQ (n:=999)<|mQ (n:=998)<|mQ (n:=997) jb,?_⟩;have gc:G' c=none:=st.sub.free hc';have up0:∀z o,H0 z=some o->H' z=some o:=λz o e=>st.hh z o (by rw[zG<|yU e z1,zG<|yU e z2];exact e);have c0:H0 c=none:=by
     cases e:H0 c with
     | none=>rfl
     | some o=>rw[up0 c o e] at hc';cases hc'
    refine kk _ G' b c ⟨λz o e=>?_,st.gg,λz o e=>?_,λz o e m=>(st.new z o (by rw[zG<|yU e z1,zG<|yU e z2];exact e) m)⟩ ⟨⟨C,dx,w1,w2,d1,d2,_,_,_,_,rfl,hC,zN,t1.mono st.gg,t2.mono st.gg,by rw[zG bp,zG<|Ne.symm cb,zG bp];exact q1,⟨CS,dxb,us,hCS,rfl,hn,q3⟩,by rw[zG cp];exact zN,[],rfl,rfl,zD.mpr rfl⟩,λz hz=>?_,Ne.symm bp,Ne.symm cp,Ne.symm cb⟩
    .rw[zG<|yU e z1,zG<|yU e c0,zG<|yU e z1];exact up0 z o e
    .rw[zG<|yU e gp',zG<|yU e gc,zG<|yU e gp'];exact st.sub z o e
    .grind
   .simp_all
end
def FnOk.ans {k:Nat}{f:qu}{d:jz}{x:kd->kf}(F:FnOk P w K mg base (CXq P w) k f fd ps<|spQ K n d x):FnOk P w K mg base CX0 k f fd ps<|spF K n d:=by
 have im:∀vs H Q E,spF K n d vs H Q E->spQ K n d x vs H Q E0:=λvs H Q E ⟨G,ds,r,h1,h2,h3,h4,h5⟩=>⟨G,ds,h1,h2,h3,.inl ⟨r,h4,h5⟩⟩
 refine⟨λvs H Q E h=>F.len vs H Q E0<|im vs H Q E h,λA _ s H args us vs Q E hr he hb hv hs=>Ye (F.run A _ s H args us vs Q E0 hr he hb hv<|im vs H Q E hs) λr s' h=>?_⟩;cases r with
 | ok fl=>cases fl<;>exact h
 | _ e=>obtain⟨_,_,_,_,_,_,_,_,_,z⟩:=h;exact z.elim
def qS (fa:Ef):ki->Bool:=λO=>match fa O with | some (.str y)=>decide (y.length<=1000) | _=>false
def zGP (h:PF X e fa):zKL X (.FormattedValue e (-1) none pos)<|qS fa:=by
 intro Z s U H Q I h';obtain⟨G0,H0,G,O,j0,hp,k⟩:=h';unfold qS at hp;split at hp
 .rename_i y hy;have hl:_<=1000:=Rx hp;refine FormattedValue_plain<|thn (h Z s U H (λv H1=>∃G1,Step G H G1 H1/\v = .str y) I ⟨G0,H0,G,O,_,j0,hy,λv H1 G1 s1 r1=>⟨G1,s1,yF.mp r1⟩⟩) λv s1 ⟨x,H1,I1,r1,G1,st1,e1⟩=>?_;subst e1;obtain⟨t,rfl⟩:=r1;exact wpAny_formatField_str ⟨.str _,H1,I1,⟨_,J⟩,k _ H1 G1 st1 jc⟩ ⟨.str _,H1,I1.tok _,⟨_,J⟩,k _ H1 G1 st1 jc⟩ (by rw[Wf];lia)
 .cases hp
def zI2:kd->Option (List Bool)
 | []=>some []
 | .bl b::r=>(zI2 r).map (b::·)
 | _=>none
theorem zON:∀ {ds:kd} {bs:List Bool},zI2 ds=some bs->ds=bs.map .bl
 | [],_,h=>by cases h;rfl
 | .bl b::r,bs,h=>by unfold zI2 at h;obtain⟨qs,h2,rfl⟩:=k9 h;rw[zON h2];rfl
 | .non::_,_,h=>by cases h
 | .int _::_,_,h=>by cases h
 | .str _::_,_,h=>by cases h
 | .tup _::_,_,h=>by cases h
 | .lst _::_,_,h=>by cases h
 | .obj _ _ _::_,_,h=>by cases h
 | .exc _ _ _::_,_,h=>by cases h
 | .dct _ _::_,_,h=>by cases h
def zKG (X:Cx):V->kj->Hp->VK->Prop:=λx vs H Q=>∃(l:qu) (bs:List Bool),x = .ref l/\vs=[.bl true]/\SqL X.K H l (bs.map V.bl)/\Q (.int (bs.count true:Nat)) H
def zLs (hun:X.A.units+64 < cLine):MtR X "list.count"<|zKG X:=by
 intro Z s U H x xs v us Q I rx rv h;obtain⟨l,bs,rfl,rfl,hq,q⟩:=h;cases rx;obtain⟨u,rfl,ru⟩:=rv.one;obtain⟨j6,r,pl,_⟩:=I.list hq;obtain⟨⟨cls,dd,data,sl⟩,ho,hc,n,hd⟩:=pl.isList;simp only at hc hd;subst hc hd;have eu:u = .bool true:=ru;subst eu;have key:∀ {bs:List Bool} {j6:jn},Vals (bs.map V.bl) j6->j6.countP (λy=>match y with | .bool b=>b | _=>false)=bs.count true/\∀y∈j6,∃b,y = .bool b:=by
  intro bs;induction bs with
  | nil=>intro j6 r;cases r;exact⟨J,λ_ h=>nomatch h⟩
  | cons b t ih =>
   intro j6 r;cases r with
   | cons h1 h2 =>
    obtain⟨e1,e2⟩:=ih h2;have eb:_=Value.bool b:=h1;subst eb;refine⟨?_,λy hy=>?_⟩
    .cases b<;>simp[List.countP_cons,List.count_cons,e1]
    .rcases v4 hy with rfl | hy
     .exact⟨b,rfl⟩
     .exact e2 y hy
 obtain⟨k1,k2⟩:=key r;refine Tw PySem.F.slot_list_count ⟨_,ho,J⟩ PySem.F.entry_list_count (PySem.F.args_list_count_2 _ _) (PySem.SeqAt.list_countAt l _ n dd sl (.bool true) λy=>match y with | .bool b=>b | _=>false) ⟨ho,λy hy=>?_,?_⟩
 .obtain⟨b,rfl⟩:=k2 y (by simpa using hy);have:=(zHx I (Same.refl H) 8 X.A.in1 (.bl b) (.bl true) (.bl b) (.bl true) (.bool b) (.bool true) b (by show _+1+8 < cLine;lia) (by cases b<;>rfl) (wP.mpr J) (wP.mpr J) rfl rfl).2.2;exact this
 .rw[show _=j6 from rfl,k1];exact⟨.int (bs.count true:Nat),H,I.tok _,⟨_,J⟩,q⟩
def zTd (g:Lf):Ef:=λO=>(g O).bind λds=>(zI2 ds).map λbs=>.int (bs.count true:Nat)
def zNa (ht:PE X c<|tBM X.K "list" (zKG X) (zJN X.K ga)<|fA (tF X.K<|eC<|.bl true) zV1):PF X c<|zTd ga:=by
 refine PE.to ht ?_
 sleep 1
 unfold zTd at hf;obtain⟨ds,h1,hf⟩:=k8 hf;obtain⟨bs,h2,rfl⟩:=k9 hf;have ed:=zON h2;subst ed;refine⟨G0,H0,G,O,_,j0,h1,λq vs H1 G1 s1 hq rs=>⟨.inl ⟨J,vs,s1.sub.seq hq⟩,G0,H0,G1,O,_,j0.step s1,J,λv H2 G2 s2 r2=>?_⟩⟩;have ev:∀ {bs:List Bool} {vs:kj},Reps X.K G1 (bs.map .bl) vs->vs=bs.map V.bl:=by
  intro bs;induction bs with
  | nil=>intro vs h;exact zD.mp h
  | cons b t ih=>intro vs h;obtain⟨v,vr,rfl,h1,h2⟩:=zQ.mp h;rw[wP.mp h1,ih h2];rfl
 rw[ev rs] at hq;exact⟨q,bs,J,by rw[wP.mp r2],(s1.sub.trans s2.hh).seq hq,k _ _ G2 (!18)<|zC.mpr rfl⟩
structure RoomU (k:Nat)(A:qy):Prop where
 dp:A.depth+3*k+5 < recursionLimit
 un:A.units+16*k+200 < cLine
def RoomU.units {k:Nat}{A:qy}(r:RoomU k A):A.units+64 < cLine:=by have:=r.un;lia
def Room.uM {k:Nat}{v:km}(r:Room k A):RoomU k<|A.mark v:=⟨by have:=r.dp;exact Us (Qh _) this,by have:=r.un;exact Us (Qh _) this⟩
theorem RoomU.mono {k:Nat}(r:RoomU k A)(h:j<=k):RoomU j A:=⟨by have:=r.dp;lia,by have:=r.un;lia⟩
theorem RoomU.deeper {k:Nat}{A:qy}(r:RoomU (k+1) A)(env:Env):RoomU k (A.deeper env) :=
 ⟨by have:=r.dp;show _+1+3*k+5 < _;lia,by have:=r.un;show _+3+16*k+200 < _;lia⟩
structure FnOkH (P:Program)(w:qz)(K:jk)(mg:Str->km)(base:qx)(k:Nat)(f:qu)(fd:FuncData)(ps:kg)(sp:Sp):Prop where
 len:∀vs H Q E,sp vs H Q E->vs.length=ps.length
 run:∀(A:qy) (outer:qb) (s:qw) (H:Hp) (args:Args) (us:jn) (vs:kj) (Q:VK) (E:XK),RoomU k A->Env0 P w K mg base A outer s H->BindsTo s fd args (ps.zip us)->Vals vs us->sp vs H Q E ->
  codeAny (model P w) A (.call (.ref f) args) (CR CX0 outer P w H s Q E) s
abbrev cxH (P:Program)(w:qz)(K:jk)(mg:Str->km)(base:qx)(N:kg)(qual:Str)(scope:Scope)(f:qu)(cd:qv)(A:qy)(outer:qb)(s:qw)(H:Hp):Cx:={ qP CX0 P w K mg base N qual scope f cd A outer s H E0 with calm:=false,xe:=λ_ _=>False }
section
variable{f:qu}{k:Nat}
def Fun.okH (F:Fun K x qual st f fd)(S:FnScope N ps<|zV st)(len:∀vs H Q E,sp vs H Q E->vs.length=ps.length)(hbody:∀(j9:qv) (A:qy) (outer:qb) (s:qw) (H:Hp) (vs:kj) (Q:VK) (E:XK),RoomU k (!37)->sp vs H Q E -> ∃t,PSs (cxH P w K mg base N qual (zV st) f j9 A outer s H) (xL st) t/\t { nx:=λ_ H'=>Q .non H',rt:=Q } (oJ N vs) H):FnOkH P w K mg base (k+1) f fd ps sp:=by
 obtain⟨oc,od,kV,doc,pm,an,j9,ct,osl,rfl,lk,hcd⟩:=F.ex;refine⟨len,λA _ s H args us vs Q E hr e0 hb r hsp=>?_⟩;have KX:=e0.mod.kin.keeps λb o e=>(e0.bs b o e).1;have hkind:∀y∈ps.zip us,(zV st).names.lookup y.1=some _\/((zV st).names.lookup y.1=some _/\((cellsFrom (s.heap.objs.size+1) (zV st).names []).lookup y.1).isSome=true):=λ⟨n,v⟩ hy=>by
  rcases S.par n (Uw hy).1 with q | q
  .exact .inl q
  .exact .inr ⟨q,Iy _ _ _<|.inl q⟩
 refine codeAny_call_function (by have:=hr.dp;lia) (KX _ _ lk) rfl S.co S.gen rfl (codeRec_of KX hcd)<|hb _ _ _ _<|Px S.kind hkind λenv he s1 x=>?_;subst he;refine⟨(e0.mod.nolimit.keeps λb o e=>(e0.bs b o e).1).keeps x.toInCall.keep,codeAny_func ?_⟩;obtain⟨t,ht,hq⟩:=hbody j9 A _ s H vs Q E (hr.deeper _) hsp;have I0:Inv (qP CX0 P w K mg base N qual (zV st) f j9 ({ A with handled:=none }:_) _ s H E0) [] (oJ N vs) H s1:=zUQ S J ⟨e0.frames,e0.mod,e0.bs,e0.bsz,e0.funs,e0.frf,e0.hok,e0.bare⟩ (len _ _ _ _ hsp) r x;have ok:=I0.ok;have I:Inv (cxH P w K mg base N qual _ f j9 A _ s H) [] _ H s1:=⟨⟨ok.mod,ok.kind,ok.glob,ok.blt,ok.above,ok.inj,ok.has,ok.cab,(λz=>by cases z),Around.frames_deeper e0.frames,ok.stk,ok.exf,ok.bs,ok.bsz,ok.noex,ok.exfs,ok.funs,ok.frf⟩,I0.os,I0.bare,I0.base,I0.loc,I0.cell,I0.free,I0.freeC,I0.pin,I0.hok,I0.len⟩
 refine Ea (ht [] s1 _ H _ I hq) (λfl s' hs=>?_) λe s' hs=>hs.elim;cases fl with
 | ret u =>obtain⟨v,U',H',ya,rv,q⟩:=hs;exact⟨v,H',ya.os,ya.bare,ya.base,ya.hok,rv,q⟩
 | next =>obtain⟨U',H',ya,q⟩:=hs;exact⟨V.non,H',ya.os,ya.bare,ya.base,ya.hok,J,q⟩
 | brk =>obtain⟨_,_,_,q⟩:=hs;exact False.elim q
 | cont =>obtain⟨_,_,_,q⟩:=hs;exact False.elim q
def zGw (F:Fun K x qual st f fd)(S:FnScope N ps<|zV st)(hb:∀(j9:qv) (A:qy) (outer:qb) (s:qw) (H:Hp),RoomU k (!37)->PFSs (cxH P w K mg base N qual (zV st) f j9 A outer s H) (xL st) body):FnOkH P w K mg base (k+1) f fd ps<|spF K ps.length<|fnF N.length body:=by
 refine F.okH S (λvs H Q E h=>?_) λj9 A _ s H vs Q E hr h=>⟨_,hb j9 A _ s H hr,?_⟩
 .obtain⟨G,ds,d,sub,rs,hl,_⟩:=h;rw[<-rs.length];exact hl
 .obtain⟨G,ds,d,sub,rs,hl,hf,k⟩:=h;obtain⟨o,h1,h2⟩:=k8 hf;refine⟨G,H,G,_,o,mY sub rs,h1,?_⟩;cases o with
  | nx O=>cases h2;exactλU' H' G' s' g'=>k .non H' G' g'.st<|sX.mpr rfl
  | rt e=>cases h2;exactλv H' G' s' r=>k v H' G' s' r
  | rl es=>cases h2;exactλp us H' G' s' hn hp gp r=>k _ H' _ (s'.frz hn hp gp)<|xF.mpr ⟨p,us,rfl,.of zN,r.mono<|Same.new gp⟩
  | bk O=>cases h2
  | ct O=>cases h2
def zDK {k:Nat}{t:FnT X.K X.mg x st ps}{fD:jz}(F:FnOkH X.prog X.w X.K X.mg X.base j t.f t.fd ps<|spF X.K n fD)(hr:RoomU k X.A)(ha:PFA X (e::es) ga)(hj:j<=k:=by lia)(hg:Gl X x:=by rfl)(hdb:!20:=by decide)(he:!23:=by rfl)(hpl:(backTo pos (!25)).any (·.1)=false:=by rfl):PF X (.Call (.Name x p) (e::es) [] pos)<|yZ n fD ga:=by
 rintro Z s U H Q I ⟨G0,H0,G,O,d,j0,hf,kk⟩;obtain⟨ds,h1,hf⟩:=k8 hf;split at hf
 .rename_i hl;refine Em<|gU I hg t.m (Te I.ok.mod.kin t.F.kp (thn (ha pos Z s U H (λvs H1=>∃G1,Step G H G1 H1/\Reps X.K G1 ds vs) I ⟨G0,H0,G,O,ds,j0,h1,λvs H1 G1 s1 r1=>⟨G1,s1,r1⟩⟩) λus s1 ⟨vs,H1,I1,r,G1,st1,r1⟩=>⟨I1.kIn,?_⟩) he hpl) hdb;have sp:spF X.K n fD vs H1 Q E0:=⟨G1,ds,d,st1.sub,r1,hl,hf,λv H' G' s' rr=>kk v H' G' (st1.trans s') rr⟩
  have j5:us.length=ps.length:=by rw[<-r.length];exact F.len vs H1 Q E0 sp
  refine Ic<|Ye (F.run X.A _ s1 H1 ⟨us,[]⟩ us vs Q E0 (hr.mono hj) I1.env0 (by have:=t.b s1 us I1.kIn (!9);rwa[Wo] at this) r sp) λr s' hq=>?_;cases r with
  | error e=>exact False.elim hq
  | ok fl =>
   cases fl with
   | ret u=>exact I1.after hq
   | next=>exact False.elim hq
   | brk=>exact False.elim hq
   | cont=>exact False.elim hq
 .simp_all
end
structure MeT (K:jk)(C:qu)(m q:Str)(st:r9)(ps:kg) where
 f:qu
 fd:FuncData
 F:Fun K m q st f fd
 b:Binds K fd ps []
 me:Meth K C m f
def iV (K:jk)(C:qu)(m q:Str)(st:r9):Prop:=∃(f:qu) (od an:kq) (sl:Array km) (oc kV dc pm cd ct:qv),PySem.W.findIn K (!1) m=some (some<|.ref f)/\isFn K (.ref f)=true/\K.lookup f=some ⟨oc,od,.func<|PySem.W.fnOf m q (qF st) (xL st) (zV st) .none kV dc pm an cd ct,sl⟩/\codeIn K cd q=true/\keepIn K (.ref f)=true
def zL8 (K:jk)(C:qu)(fs:kg):Bool:=fs.all λy=>match PySem.W.findIn K (!1) y with | some none=>true | _=>false
def zKq (K:jk)(fs:kg):Bool:=fs.all λy=>match PySem.W.nsIn K mainGlobals y with | some none=>true | _=>false
structure ClT (K:jk)(mg:Str->km)(x q:Str)(si:r9)(ps fs:kg)(C:qu) where
 t:MeT K C "__init__" q si ps
 ca:ClsAt K x C
 cl:Cls K C
 mc:mg x=some (!1)
 k:Mk K C t.f
 n:∀y∈fs,NoAttr K C y
def zMZ (K:jk)(x q:Str)(si:r9)(fs:kg)(C:qu):Prop:=PySem.W.nsIn K mainGlobals x=some (some (!1))/\iV K C "__init__" q si/\plainGet K C Str.empty=true/\hasDictIn K C=true/\plainOver K C=true/\PySem.W.findIn K (!1) "__setattr__"=some (some<|.builtin "object.__setattr__")/\makesIn K C=true/\keepIn K (!1)=true/\zL8 K C fs=true
structure XnT (K:jk)(mg:Str->km)(x:Str)(C:qu):Prop where
 ca:ClsAt K x C
 mc:mg x=some (!1)
structure XcT (K:jk)(mg:Str->km)(x:Str)(C:qu):Prop extends XnT K mg x C where
 xk:XKit K C
 kc:keepIn K (!1)=true
 xc:zMv K C
def zIP (K:jk)(x:Str)(C:qu):Prop:=PySem.W.nsIn K mainGlobals x=some (some (!1))/\zQ9 K C=true/\keepIn K (!1)=true/\zDy K C=true
section
variable{q:Str}{fs:kg}
def lX (g:iV K C m q st)(hb:Be m q st ps:=by first | exact be1 λ_ _ _ _ _ _ _=>rfl | exact be2 λ_ _ _ _ _ _ _ _=>rfl | exact be3 λ_ _ _ _ _ _ _ _ _=>rfl | exact be4 λ_ _ _ _ _ _ _ _ _ _=>rfl | exact be5 λ_ _ _ _ _ _ _ _ _ _ _=>rfl):MeT K C m q st ps:=Classical.choice (by obtain⟨f,od,an,sl,oc,kV,dc,pm,cd,ct,a,n,l,c,k⟩:=g;exact⟨⟨f,_,zSG l c k,(zSG l c k).binds hb,⟨a,n,k⟩⟩⟩)
theorem zIC (hn:zL8 K C fs=true):∀y∈fs,NoAttr K C y:=λy hy=>by
 have:=Yv.mp hn y hy;split at this
 .assumption
 .simp_all
theorem zIQ (X:K.In h)(G:h.Ns mainGlobals mg)(hn:zKq K fs=true):∀y∈fs,mg y=none:=λy hy=>by
 have:=Yv.mp hn y hy;refine mg_none_of X G ?_;split at this
 .assumption
 .simp_all
def zKo (X:K.In h)(G:h.Ns mainGlobals mg)(t:MeT K C "__init__" q st ps)(g:zMZ K x q st fs C):ClT K mg x q st ps fs C :=
 ⟨t,g.1,⟨g.2.2.1,g.2.2.2.1,g.2.2.2.2.1,g.2.2.2.2.2.1⟩,mg_of X G g.1,⟨g.2.2.2.2.2.2.1,t.me.1,t.me.2,g.2.2.2.2.2.2.2.1⟩,zIC g.2.2.2.2.2.2.2.2⟩
def yN {f:Str}(c:ClT X.K X.mg x q st ps fs C)(ha:!12)(hf:f∈fs:=by decide +kernel)(hb:attributeBase a f X.env (eval a X.env)=eval a X.env:=by rfl):PF X (.Attribute a f pos)<|yT x f fa:=zGs c.ca c.cl (c.n _ hf) ha hb
def zQg (X:K.In h)(G:h.Ns mainGlobals mg)(g:ClsAt K x C):XnT K mg x C:=⟨g,mg_of X G g⟩
def zGj (X:K.In h)(G:h.Ns mainGlobals mg)(g:zIP K x C):XcT K mg x C:=⟨zQg X G g.1,zHn g.2.1,g.2.2.1,zIK g.2.2.2⟩
end
end L2
variable{c:kh}{m:Nat}
namespace L2
def szO (ob:Obj):Nat:=match ob.data with | .dict es _=>es.size | _=>0
def epO (ob:Obj):Nat:=match ob.data with | .dict _ ep=>ep | _=>0
section
variable{a:qu}
def zQb (I:!3)(e:H a=some (.frz ob<|.dK j8)):(a==sysModules)=false/\∃vs,KV j8 vs/\vs.length=szO ob/\s.heap.DictAt (uD X.prog X.w) a vs (epO ob):=by
 obtain⟨q,z⟩:=(I.hok a _ e)
 obtain⟨_,hd,vs,rel,o,es,ep,ho,r1,r2,r3,r4,r5⟩:=z;rw[q] at ho;cases ho;refine⟨hd,vs,rel,?_,?_⟩
 .rw[<-r4.length];unfold szO;rw[r2];simp
 .have:epO ob=ep:=by unfold epO;rw[r2]
  rw[this];exact⟨ob,es,q,r1,r2,r3,r4,r5⟩
end
def zIw {k:Key}(h:(uD P w).is k u=true):RelV (kV k) u:=by
 rcases wU h with⟨i,t,rfl,rfl⟩ | ⟨x,t,rfl,rfl⟩
 .exact⟨t,rfl⟩
 .exact⟨t,rfl⟩
def Itk (a:qu)(ob:Obj):It :=
 ⟨λi H=>∃j8,H a=some (.frz ob<|.dK j8)/\i < j8.length,λi H x H'=>H'=H/\∀j8,H a=some (.frz ob<|.dK j8)->j8[i]?.map (λp=>kV p.1)=some x,λi H=>∃j8,H a=some (.frz ob<|.dK j8)/\j8.length<=i⟩
def zEu:Key->D | .inl i=>.int i | .inr z=>.str z
def zKl (k:Key):Rep K G (zEu k)<|kV k:=by
 cases k with
 | inl i=>exact zC.mpr J
 | inr z=>exact yF.mpr J
def Iti (a:qu)(ob:Obj):It :=
 ⟨(Itk a ob).go,λi H x H'=>∃p k v,H p=none/\x = .ref p/\H'=upd H p (.tup [kV k,v])/\∀j8,H a=some (.frz ob<|.dK j8)->j8[i]?=some (k,v),(Itk a ob).stop⟩
theorem zXv:entryFor table "dict_itemiterator.__iter__"=some Builtin.«dict_keyiterator.__iter__» := entryFor_alias (id':="dict_keyiterator.__iter__") jf J ja jf
def zXQ {d:qu}{ok ov:qv}(hit:IsItemIter s.heap it d i n ep ok ov)(h:Q (.ref it) s):wpAny (model P w) A (pyIter<|.ref it) Q E s:=by
 have hT:s.TypeIs (.ref it) "dict_itemiterator":=⟨_,hit,J⟩
 exact Ul hT F.slot_dict_itemiterator_iter<|Wn F.slot_dict_itemiterator_iter hT zXv (Qo ⟨_,J,"dict_itemiterator",_,hT,F.slot_dict_itemiterator_next.lookup,h⟩)<|F.args_dict_itemiterator_iter_1 _
theorem zPB {k:Nat}(a it:qu)(ob:Obj):Turn P w K (.Tuple elts k pos) (Iti a ob) [it] it (λi h=>∃ok ov,IsItemIter h it a i (szO ob) (epO ob) ok ov) where
 mem:=je
 obj:=λi h st b hb=>by grind
 keep:=λi h h' st k=>let ⟨x,y,e⟩:=st;⟨x,y,k it je _ e⟩
 item:=by
  sleep 6
  subst hP hw hK;obtain⟨j8,hq,hi⟩:=hg;obtain⟨hd,vs,rel,hz,hm⟩:=zQb I hq;obtain⟨⟨k,u⟩,hu⟩:∃p,vs[i]?=some p:=⟨_,Qj (by rw[<-rel.length];exact hi)⟩
  obtain⟨p,hp,rp⟩:=Paired.get rel hu;obtain⟨ok,ov,st⟩:=st;refine wpAny_pyNext_items_item (by rw[hz];exact st) hm hu λkey h1 hk ho hT hsz kp=>?_;have I1:Inv X Z U (upd H s.heap.objs.size<|.tup [kV k,p.2]) { s with heap:=h1 }:=I.turnedNew (t':=s.toks) (λb o hb e=>kp b o (λz=>hb<|by simp[z]) e) hf (Qh _) ⟨by show 2<=sizeLine;exact Ww<|xR jb,[key,u],.cons (zIw hk)<|.cons rp.2 .nil,⟨_,hT,rfl,_,rfl⟩⟩;refine⟨_,J,wpAny_letOwnedTupleGo_items ho λh2 he2 hs2=>?_⟩;have neT:it≠s.heap.objs.size:=λz=>absurd (Qs st) (by rw[z];exact Wg _);have hf1:∀b∈[it],fV X Z (upd H s.heap.objs.size<|.tup [kV k,p.2]) b:=λb hb=>⟨by rw[zG (by rw[Qv.mp hb];exact neT)];exact(hf b hb).1,(hf b hb).2⟩
  have I2:=I1.turnedL (h':=h2) (t':=s.toks) (fp:=[it]) (λb o hb q=>(hs2.2 b λz=>hb<|by simp[z]).trans q) hf1;refine⟨.ref s.heap.objs.size,_,I2,J,⟨s.heap.objs.size,k,p.2,I.fresh,J,J,λys hy=>?_⟩,⟨_,_,by rw[<-hz];exact he2⟩,λb hb=>(hf1 b hb).1⟩;rw[hq] at hy;cases hy;rw[hp];exact Wa some<|Prod.ext rp.1 rfl
 done:=by
  sleep 6
  subst hP hw hK;obtain⟨j8,hq,hx⟩:=hg;obtain⟨hd,vs,rel,hz,hm⟩:=zQb I hq;obtain⟨ok,ov,st⟩:=st;exact wpAny_pyNext_items_end (I.ok.hd hc) (by rw[hz];exact st) hm (List.getElem?_eq_none (by rw[<-rel.length];exact hx)) λh' eb=>⟨J,I.turnedL (t':=s.toks) (fp:=[it]) (λb o hb e=>eb b o (λz=>hb<|by simp[z]) e) hf⟩
 self:=λ_ _ _ _ _ st h=>let ⟨_,_,e⟩:=st;zXQ e h
def zUe (ks:qj)(ds:kd):kd:=(ks.zip ds).map λp=>.tup [zEu p.1,p.2]
def zTS {a:qu}(h:G a=some (.frz ob<|.dK<|ks.zip vs))(hl:ks.length=ds.length)(r:Reps K G ds vs):fR K (Iti a ob) G<|zUe ks ds:=by
 intro i G2 H2 s1 s2;have q:=s2 _ _<|s1 _ _ h;have hz:(ks.zip vs).length=ks.length:=by rw[Ei,<-r.length,<-hl,Yr]
 have hy:(zUe ks ds).length=ks.length:=by unfold zUe;rw[Qy,Ei,<-hl,Yr]
 refine⟨λd hd=>?_,λhi=>⟨_,q,by rw[hz,<-hy];exact hi⟩⟩;have hi:i < ks.length:=by rw[<-hy];exact(v5 hd).1
 unfold zUe at hd;rw[Wh] at hd;obtain⟨⟨k,d0⟩,hk,rfl⟩:=k9 hd;rw[Rk] at hk;obtain⟨v,e,rv⟩:=r.get hk.2;refine⟨⟨_,q,by rw[hz];exact hi⟩,λx H3 y=>?_⟩;obtain⟨p,k',v',hp,rfl,rfl,y⟩:=y;have y:=y _ q;rw[Rk,hk.1,e] at y;obtain⟨y1,y2⟩:=y;cases y1;cases y2;have s3:=Step.laid (o:=.tup [kV k,v']) s2 hp;exact⟨_,s3,yE.mpr ⟨p,_,J,.of zN,zQ.mpr ⟨_,_,J,zKl k,zQ.mpr ⟨_,_,J,(rv.mono s1).mono s3.gg,zD.mpr J⟩⟩⟩⟩
def iIt (f:Ef):Lf:=λO=>(f O).bind λd=>match d with | .dct ks ds=>some (zUe ks ds) | _=>none
def zDt {k:Nat}(h:PF X e fa)(hbase:attributeBase e "items" X.env (eval e X.env)=eval e X.env:=by rfl)(hline:(apos.endLine==cpos.line)=true:=by rfl):PFI X (.Tuple elts k pos') (.Call (.Attribute e "items" apos) [] [] cpos)<|iIt fa:=by
 rintro Z s U H R I ⟨G0,H0,G,O,ds,j0,hf,kk⟩;obtain⟨d,h1,hf⟩:=k8 hf;cases d with
 | dct ks es =>
  cases hf;refine wpAny_Call_method0_late hbase hline<|thn (h Z s U H (λv H1=>∃G1,Step G H G1 H1/\Rep X.K G1 _ v) I ⟨G0,H0,G,O,_,j0,h1,λv H1 G1 st r=>⟨G1,st,r⟩⟩) λv s1 ⟨x,H1,I1,r1,G1,st,rp⟩=>?_;obtain⟨a,vs,ob,rfl,g1,g2,g3⟩:=zX1.mp rp;cases r1;obtain⟨hd,us,rel,hz,hm⟩:=zQb I1<|st.sub _ _ g1;obtain⟨t1,t2,_⟩:=zJw I1 ⟨_,.inr ⟨ob,st.sub _ _ g1⟩⟩;refine⟨"dict","dict.items",F.plainAttrs_dict,F.slot_dict_items,F.type_dict_items,t1,t2,Yg rfl<|PySem.evalArgs_none<|call_meetsIn F.slot_dict_items t1 F.entry_dict_items (F.args_dict_items_1 _) (meets_dict_items _ a hd) ⟨⟨us,hm.dictOf⟩,(wpAny_pyIter_items ⟨_,Qa _ J,J,J⟩ (hm.push _) ?_)⟩⟩;have kp:∀b o,s1.heap.get? b=some o->((s1.heap.push { cls:=.type "dict_items",data:=.fields #[.ref a] }).push { cls:=.type "dict_itemiterator",data:=.fields #[.none,.bool false,.ref a,.int 0 0,.int us.length 0,.int (epO ob) 0,.none,.none] }).get? b=some o:=λb o e=>Qe _<|Qe _ e;refine⟨_,[(s1.heap.push { cls:=.type "dict_items",data:=.fields #[.ref a] }).objs.size],_,_,H1,J,I1.kept kp,zPB a _ ob,⟨_,_,by rw[<-hz];exact Qa _ J⟩,λb hb=>?_,kk _ H1 G1 st<|zTS g1 g2 g3⟩;have hb':s1.heap.objs.size<=b:=by rw[Qv.mp hb];simp[Heap.push]
  exact I1.fpOk hb'<|I1.hok.fresh hb'
 | _=>cases hf
def zQa {vs:jn}{lt:ko}(W:SWO lt)(hl:s.heap.IsList l vs.toArray)(h64:vs.length < 64)(hq:2<=vs.length->∀h':qx,(∀b o,s.heap.get? b=some o->h'.get? b=some o)->∃κ,(∀(E':jl) Q,Q κ (!15)->wpAny (model P w) A.in1.in1 (keyKind' vs.toArray) Q E' (!15)) /\ ∀i j C,i < vs.length->j < vs.length->C (lt i j) (!15)->kas_ask P w A.in1.in1 κ vs i j C (!15))(h:∀(h':qx) n,(∀c o,s.heap.get? c=some o->h'.get? c=some o)->h'.get? (s.heap.objs.size+1)=some (seqObj "list" (List.toArray<|(vW lt vs.length).map λi=>vs.getD i Value.none) n)->Q (.ref<|s.heap.objs.size+1) (!15)):wpAny (model P w) A (call (.builtin "sorted") [.ref l]) Q E s:=by
 have hsz:((s.heap.push<|seqObj "list" #[] 0).update s.heap.objs.size (Obj.mapSeq (· ++ vs.toArray))).objs.size=s.heap.objs.size+1:=by rw[Ie,size_push']
 have q:(((s.heap.push<|seqObj "list" #[] 0).update s.heap.objs.size (Obj.mapSeq (· ++ vs.toArray))).push<|seqObj "list" vs.toArray 0).get? (s.heap.objs.size+1)=some (seqObj "list" vs.toArray 0):=by rw[<-hsz];exact Qa _ J
 have old:∀b o,s.heap.get? b=some o->(((s.heap.push<|seqObj "list" #[] 0).update s.heap.objs.size (Obj.mapSeq (· ++ vs.toArray))).push<|seqObj "list" vs.toArray 0).get? b=some o:=λb o e=>by exact Qe _ (by rw[Er _ _ _ _<|Qn<|Qs e];exact Qe _ e)
 refine Aw kind_sorted plain_sorted entry_sorted (args_sorted1 _)<|Qw<|Qo<|Qw<|collect_list hl (Qw<|Yn ?_ (by rw[Wf];lia)) (by rw[Wf];lia);rw[hsz];refine Qw<|Ev<|Wn Pm ⟨_,q,rfl⟩ Ph (zOL W q h64 (λh2 h' k=>hq h2 h' λb o e=>k b o (Qn<|Ru<|Qs e)<|old b o e) ⟨_,rfl,?_⟩)<|args_list_sort _;obtain⟨n,hn⟩:=sortedHeap_at (out:=List.toArray _) q;refine Qo ⟨_,J,h _ n (λc o z=>?_) hn⟩;have lt:=Qs z;exact(sortedHeap_old (Qn<|Ru lt) (by rw[Rr,hsz];exact Ru<|Ru lt)).trans (old c o z)
def zRD:kd->Option qe
 | []=>some []
 | d::r=>(zP7 d).bind λp=>(zRD r).map (p::·)
theorem zR7:∀ {ds:kd} {ps:qe},zRD ds=some ps->ds=ps.map dIS
 | [],_,h=>by cases h;rfl
 | d::r,ps,h=>by obtain⟨p,h1,h⟩:=k8 h;obtain⟨qs,h2,rfl⟩:=k9 h;rw[zX8 h1,zR7 h2];rfl
theorem zUH:∀ps:qe,zRD (ps.map dIS)=some ps
 | []=>rfl
 | p::r=>by have:=zUH r;simp only[Qx,zRD,this];rfl
def zTP (g:Lf):Lf:=λO=>(g O).bind λds=>(zRD ds).bind λps=>if ps.length < 64 then some ((qX ps).map dIS) else none
theorem zOW {X:Cx}{Z:jm}{U:St}{G H:Hp}{s:qw}{h':qx}(I:!3)(k:∀b o,s.heap.get? b=some o->h'.get? b=some o)(sub:Same G H):∀ {ps:qe} {vs:kj} {us:jn},Reps X.K G (ps.map dIS) vs->Vals vs us->Paired (zQr h') ps us
 | [],vs,us,h,r=>by rw[Ig] at h;subst h;cases r;exact .nil
 | p::ps,vs,us,h,r=>by
  obtain⟨v',vr,rfl,r1,r2⟩:=zQ.mp h;cases r with
  | cons w1 w2 =>refine .cons ?_<|zOW I k sub r2 w2;obtain⟨b,us',rfl,q1,q2⟩:=yE.mp r1;cases w1;obtain⟨_,_,rfl,a1,a2⟩:=zQ.mp q2;obtain⟨_,_,rfl,a3,a4⟩:=zQ.mp a2;rw[zD] at a4;subst a4;subst a1 a3;exact zGJ I k<|sub.tup q1
def zPL:CallR X (.builtin "sorted") (λxs H Q=>∃(q:qu) (vs:kj) (ps:qe) (G:Hp),xs=[V.ref q]/\SqL X.K H q vs/\Same G H/\Reps X.K G (ps.map dIS) vs/\ps.length < 64 /\ ∀l,H l=none->Q (.ref l) (upd H l<|.lst<|(aM ps).map λi=>vs.getD i .non)):=by
 intro Z s U H xs us Q I r h;obtain⟨q,vs,ps,G,rfl,hq,sm,hp,h64,k⟩:=h;obtain⟨u,rfl,ru⟩:=nH r;cases ru;obtain⟨j6,rv,pl,hz⟩:=I.list hq;have j5:=rv.length.symm;have hps:=by have:=hp.length;rwa[Qy] at this
 refine zQa (zVN λi=>ps.getD i isZ) pl.isList jc (λh2 h' kp=>(zOB (zOW I kp sm hp rv) h2)) λh' n kp hn=>?_
 .have hsz:s.heap.objs.size<=s.heap.objs.size+1:=Yl _;have en:j6.length=ps.length:=jc;rw[en] at hn;change h'.get? _=some (seqObj "list" (List.toArray<|(aM ps).map λi=>j6.getD i Value.none) n) at hn;have hpm:=qR ps;have hvals:=by
   have key:∀l:ky,(∀i∈l,i < vs.length)->Vals (l.map λi=>vs.getD i .non) (l.map λi=>j6.getD i Value.none):=by
    intro l;induction l with
    | nil=>intro _;exact .nil
    | cons i r ih=>intro hh;exact .cons (uY rv<|hh i je)<|ih λj hj=>hh j (!9)
   exact key _ λi hi=>(by have:=(by simpa using hpm.subset hi);lia)
  refine⟨.ref _,_,I.laid (o:=.lst _) kp hsz ⟨?_,_,n,hvals,by simpa [seqObj] using hn⟩,J,k _<|I.hok.fresh hsz⟩;rw[Qy,hpm.length_eq,Rc];exact Ww<|xR jc
def zJo (hg:Gl X "sorted")(hm:X.mg "sorted"=none)(h:zTG X a ga)(hs:!34:=by rfl):PFr X (.Call (.Name "sorted" p) [a] [] pos)<|zTP ga:=by
 refine PE.toR (wD zPL hg hm jg (yX h yK (!6)) jb J (!6) jg) ?_
 sleep 1
 obtain⟨ds,h1,hf⟩:=k8 hf;obtain⟨ps,h2,hf⟩:=k8 hf;split at hf
 .rename_i hl;cases hf;refine⟨G0,H0,G,O,_,j0,h1,λq vs H1 G1 s1 hq rs=>?_⟩;have e:=zR7 h2;subst e;refine⟨q,vs,ps,G1,J,s1.sub.seq hq,s1.sub,rs,hl,λl hl'=>?_⟩;have hin:∀i∈aM ps,i < _:=λi hi=>by simpa using (qR ps).subset hi
  have e2:(qX ps).map dIS=(aM ps).map λi=>(ps.map dIS).getD i .non:=by unfold qX;simp_all
  rw[e2] at k;exact k l _ _ G1 (s1.trans<|Step.own s1.sub hl') (s1.hh.free hl') zN (s1.sub.free hl') (zUu rs _ λi hi=>by rw[Qy];exact hin i hi)
 .simp_all
end L2
variable{l:kh}
namespace L2
def ltS (a b:Str):Bool:=decide (a.cps.toList < b.cps.toList)
def zFV:D->D->ku | .str i,.str j=>some (ltS i j) | _,_=>none
theorem zF7:CmR X .Lt zFV:=⟨_,zNI,λd d' k G H x y Q h s rx ry q=>by
 unfold zFV at h;split at h
 .cases h;exact⟨_,_,yF.mp rx,yF.mp ry,q H G<|.refl s⟩
 .cases h⟩
abbrev cpP (p:Str×Str):List ky:=[p.1.cps.toList,p.2.cps.toList]
def zNk (a b:Str×Str):Bool:=decide (cpP a < cpP b)
theorem jE {a b:Str×Str}:zNk a b=true↔cpP a < cpP b:=decide_eq_true_iff
def zI3 {x y:Str×Str}:zNk x y=decide (x.1.cps.toList < y.1.cps.toList\/x.1.cps.toList=y.1.cps.toList/\x.2.cps.toList < y.2.cps.toList):=by unfold zNk cpP;simp[List.cons_lt_cons_iff]
def zFq (f:Nat->Str×Str):SWO λi j=>zNk (f i)<|f j:=by
 refine⟨λa=>?_,λa b c=>?_,λa b c=>?_⟩
 .exact Wu (List.lt_irrefl _)
 .rw[jE,jE,jE];exactλh1 h2=>List.lt_trans h1 h2
 .rw[jE,jE,jE];generalize cpP (f a)=x;generalize cpP (f b)=y;generalize cpP (f c)=z;grind
abbrev ssZ:Str×Str:=(⟨#[]⟩,⟨#[]⟩)
abbrev ltQ (ps:List<|Str×Str)(i j:Nat):Bool:=zNk (ps.getD i ssZ)<|ps.getD j ssZ
def zNo (ps:List<|Str×Str):ky:=vW (ltQ ps) ps.length
def zYM (ps:List<|Str×Str):(zNo ps).Perm<|List.range ps.length:=sH _ _
def zTL (ps:List<|Str×Str):List<|Str×Str:=(zNo ps).map λi=>ps.getD i ssZ
def zQU (ps:List<|Str×Str):(zTL ps).Perm ps:=by refine((zYM ps).map _).trans ?_;rw[tS]
def zHt (h:qx)(p:Str×Str)(u:qv):Prop:=∃a o n t t',u = .ref a/\h.get? a=some o/\o.cls = .type "tuple"/\o.data = .seq #[.str p.1 t,.str p.2 t'] n
theorem zKA {h:qx}:∀ {ps:List<|Str×Str} {us:jn},Paired (zHt h) ps us->∃fs:qh,KatTups h us fs/\fs.length=us.length/\∀v∈fs,∃i t,v=Value.str i t
 | _,_,.nil=>⟨[],KatTups.nil,J,λ_ h=>nomatch h⟩
 | _,_,.cons r t=>by
  obtain⟨a,o,n,t1,t2,rfl,e,c,d⟩:=r;obtain⟨fs,q1,q2⟩:=zKA t;refine⟨_::fs,KatTups.cons e c d J q1,by simp[q2],λv hv=>?_⟩;rcases v4 hv with rfl | hv
  .exact⟨_,_,rfl⟩
  .simp_all
section
def zIG {ps:List<|Str×Str}(hp:Paired (zHt s.heap) ps us)(h2:2<=us.length):∃κ,(∀(E':jl) Q,Q κ s->wpAny (model P w) A (keyKind' us.toArray) Q E' s) /\ ∀i j C,i < us.length->j < us.length->C (ltQ ps i j) s->kas_ask P w A κ us i j C s:=by
 obtain⟨fs,q1,q2,q3⟩:=zKA hp;have hl:_=_:=Rv hp;refine⟨tuples'<|(Value.type "str") != Value.type "tuple",λE' Q' hQ=>kat_kind q1 jc (λv hv=>?_) rfl hQ,λi j C hi hj hC=>?_⟩
 .obtain⟨n,t,rfl⟩:=q3 v hv;exact Looks.of_pure J
 .obtain⟨a,o,n,t1,t2,ea,e,c,d⟩:=uY (i:=i) (da:=ssZ) (db:=_) hp jc;obtain⟨b,o',n',t3,t4,eb,e',c',d'⟩:=uY (i:=j) (da:=ssZ) (db:=Value.none) hp jc;have hC:C (zNk (ps.getD i ssZ)<|ps.getD j ssZ) s:=hC;generalize ps.getD i ssZ=x at *;generalize ps.getD j ssZ=y at *;unfold kas_ask;rw[ea,eb];refine kat_lt e d e' d'<|kat_cons<|Yc ?_;rw[zI3] at hC
  by_cases h1:x.1=y.1
  .rw[Qb h1];refine kat_yes<|kat_cons<|Yc ?_
   by_cases h3:x.2=y.2
   .rw[Qb h3];refine kat_yes<|kat_nil ?_;rw[Wu (by rw[h1,h3];rintro(z | ⟨_,z⟩)<;>exact zGU _ z)] at hC;simpa using hC
   .rw[Wu h3];refine kat_one _ _<|lt_str ?_;rw[Pa.mpr ⟨λz=>z.elim (λz=>absurd z (by rw[h1];exact zGU _)) (·.2),λz=>.inr ⟨by rw[h1],z⟩⟩] at hC;exact hC
  .rw[Wu h1];refine oneLt_str ?_;have:¬x.1.cps.toList=y.1.cps.toList:=λz=>h1 (by
    obtain⟨⟨u⟩,_⟩:=x;obtain⟨⟨v⟩,_⟩:=y;simp_all)
   rw[Pa.mpr ⟨λz=>z.elim id λz=>absurd z.1 this,.inl⟩] at hC;exact hC
abbrev ssK (p:Str×Str):qj:=[.inr p.1,.inr p.2]
def dSS (p:Str×Str):D:=.tup [.str p.1,.str p.2]
variable{k:Nat}{b:r8}
def zDB (I:!3)(k:∀b o,s.heap.get? b=some o->h'.get? b=some o){p:Str×Str}{b:qu}(e:SqT X.K H b [.str p.1,.str p.2]):zHt h' p<|.ref b:=by
 obtain⟨j6,rv,⟨o,e,c,n,d⟩,_⟩:=I.tuple e;obtain⟨u1,r1,e1,r2⟩:∃u1 r1,j6=u1::r1/\RelV _ u1/\Vals [.str p.2] r1:=by cases rv with | cons x y=>exact⟨_,_,J,x,y⟩
 obtain⟨u2,e2,r3⟩:∃u2,r1=[u2]/\RelV _ u2:=by cases r2.2 with | cons x y=>cases y;exact⟨_,J,x⟩
 obtain⟨t,rfl⟩:=r2.1;obtain⟨t',rfl⟩:=r3;subst e1;subst e2;exact⟨b,o,n,t,t',J,k _ _ e,c,d⟩
abbrev TAt (H:Hp):List (Str×Str)->kn->Prop:=Paired λp b=>H b=some (.tup [.str p.1,.str p.2])
def zQv (hc:!24):CallR X (.builtin "sorted") (λxs H Q=>∃(q:qu) (j8:List<|qj×V) (ps:List<|Str×Str),xs=[V.ref q]/\H q=some (.dT j8)/\j8.map (·.1)=ps.map ssK/\ps.length < 64 /\ ∀l (bs:kn),H l=none->TAt H ps bs->Q (.ref l) (upd H l<|.lst<|(zNo ps).map λi=>.ref<|bs.getD i 0)):=by
 intro Z s U H xs us Q I r h;obtain⟨q,j8,ps,rfl,hq,hk,h64,k⟩:=h;obtain⟨u,rfl,ru⟩:=nH r;cases ru;obtain⟨z,hd,xs,rel,o,es,ep,ho,hx,hdat,he,hn⟩:=(show ObjOk X.prog X.w H s.heap q (.dT j8) from I.hok q _ hq)
 have hb:TAt H ps (xs.map (·.2.1)):=by
  clear ho hx hdat he hn hq z k h64;induction rel generalizing ps with
  | nil =>
   cases ps with
   | nil=>exact .nil
   | cons _ _=>cases hk
  | cons h t ih =>
   cases ps with
   | nil=>cases hk
   | cons y r =>
    rw[Qx,Qx] at hk;injection hk with hk1 hk2
    refine .cons ?_<|ih r hk2;have:=h.2.1;rw[hk1] at this;exact this
 have hl:=(Rv hb).symm;have hkeys:es.toList.map (·.key)=(xs.map (·.2.1)).map Value.ref:=by rw[he,Wk,Wk];rfl
 have hz:es.size=ps.length:=by rw[<-hl,<-Ou,he];simp
 revert hl hb hkeys
 generalize xs.map (·.2.1)=bs;intro hb hl hkeys;have hat:∀h':qx,(∀b o,s.heap.get? b=some o->h'.get? b=some o)->Paired (zHt h') ps (bs.map Value.ref):=by
  intro h' kp;clear hl hz hkeys k hk h64;induction hb with
  | nil=>exact .nil
  | cons h t ih=>exact .cons (zDB I kp<|.inl<|.inl h) ih
 refine zUr (lt:=ltQ ps) (zFq λi=>ps.getD i ssZ) (I.ok.hd hc) ⟨o,ho,hx,hdat⟩ hd jc (λh2 h' tk kp=>?_) λh1 h' tk n k1 k2 hn'=>?_
 .have:=zIG (P:=X.prog) (w:=X.w) (A:=X.A.in1.in1) (s:=(!32)) (hat h' kp) (by rw[Qy,hl,<-hz];exact h2);rw[hkeys,hz];rw[Qy,hl] at this;exact this
 .have I1:Inv X Z U H { s with heap:=h1,toks:=tk }:=I.kept k1;have fr:H h1.objs.size=none:=I1.hok.fresh<|Qh _;rw[hkeys,hz] at hn';have hpm:=zYM ps;have vals:Vals ((zNo ps).map λi=>V.ref<|bs.getD i 0)<|(zNo ps).map λi=>(bs.map Value.ref).getD i Value.none:=by
   have key:∀l:ky,(∀i∈l,i < bs.length)->Vals (l.map λi=>V.ref<|bs.getD i 0) (l.map λi=>(bs.map Value.ref).getD i Value.none):=by
    intro l;induction l with
    | nil=>intro _;exact .nil
    | cons i r ih =>intro hh;refine .cons ?_ (ih λj hj=>hh j<|by simp[hj]);have hi:=hh i je;show(bs.map Value.ref).getD i Value.none=Value.ref (bs.getD i 0);simp[hi]
   exact key _ λi hi=>by rw[hl];simpa using hpm.subset hi
  have I2:=I1.laid (t':=tk) (h':=h') (a:=h1.objs.size) (o:=.lst<|(zNo ps).map λi=>V.ref<|bs.getD i 0) k2 (Qh _) ⟨by rw[Qy,hpm.length_eq,Rc];exact Ww<|xR (by show ps.length<=100000;lia),_,n,vals,hn'⟩;exact⟨.ref _,_,I2,J,k _ _ fr hb⟩
theorem zRI {G H:Hp}(s:Same G H):∀ {ps:List<|Str×Str} {bs:kn},TAt H ps bs->∃G',Step G H G' H/\TAt G' ps bs
 | _,_,.nil=>⟨G,.refl s,.nil⟩
 | _,_,.cons h t=>by obtain⟨G1,s1,r1⟩:=zRI s t;have s2:=Step.adopt s1.sub h;exact⟨_,s1.trans s2,.cons zN<|Paired.mapP r1 λp b e=>s2.gg _ _ e⟩
theorem Good.pt {K:jk}{G0 H0 G H:Hp}{U:St}{O:ki}{i:Nat}{ps:List<|Str×Str}(g:!21)(h:O[i]?=some (.pt ps)):∃a j8,U[i]?=some (!26)/\H a=some (.dT j8)/\G a=none/\H0 a=none/\j8.map (·.1)=ps.map ssK:=by
 obtain⟨x,e,r⟩:=Paired.get g.vals h;cases r with
 | pt h1 h2 h3 h4=>exact⟨_,_,e,h1,h2,h3,h4⟩
def zQn (i:Nat):Lf:=λO=>match O[i]? with | some (.pt ps)=>if ps.length < 64 then some ((zTL ps).map dSS) else none | _=>none
def zKs (i:Nat)(hc:!24)(hg:Gl X "sorted")(hm:X.mg "sorted"=none)(hN:!27:=by rfl)(hv:!31:=by exact visQ rfl)(hd:!20:=by decide)(hcd:!30:=by decide)(hs:starEach [.Name x p1] X.env=[(false,eval (!19) X.env)]:=by rfl):PFr X (.Call (.Name "sorted" p) [.Name x p1] [] pos)<|zQn i:=by
 refine PE.toR (wD (zQv hc) hg hm jg (yX (wI hN hv hd hcd) yK (by rw[hs];rfl)) jb jb (by rw[hs];rfl) jg) ?_;rintro U H Q ⟨G0,H0,G,O,ds',j0,hf,k⟩;unfold zQn at hf;split at hf
 .rename_i ps hi;split at hf
  .rename_i h64;cases hf;obtain⟨q,j8,e1,e2,e3,e4,e5⟩:=j0.pt hi;refine⟨.ref q,e1,q,j8,ps,J,e2,e5,h64,λl bs hl hb=>?_⟩;obtain⟨G2,s2,r2⟩:=zRI j0.sub hb;refine k l _ _ G2 (s2.trans<|Step.own s2.sub hl) hl zN (s2.sub.free hl) ?_;unfold zTL;rw[Wk];have hp:=zYM ps;have key:∀l:ky,(∀i∈l,i < ps.length)->Reps X.K G2 (l.map<|dSS ∘ λi=>ps.getD i ssZ) (l.map λi=>V.ref<|bs.getD i 0):=by
    intro l;induction l with
    | nil=>intro _;exact zD.mpr J
    | cons i r ih =>intro hh;refine zQ.mpr ⟨_,_,J,?_,ih λj hj=>hh j<|by simp[hj]⟩;have:=uY (i:=i) (da:=ssZ) (db:=0) r2<|hh i je;exact yE.mpr ⟨_,_,J,.inl<|.inl this,zQ.mpr ⟨_,_,J,yF.mpr J,zQ.mpr ⟨_,_,J,yF.mpr J,zD.mpr J⟩⟩⟩
   exact key _ λi hi=>by simpa using hp.subset hi
  .cases hf
 .cases hf
def zJY (i:Nat):Sf:=λO=>some<|.nx<|O.set i<|.pt []
def zJ8 (i:Nat)(hN:X.N.Nodup)(hi:!27:=by rfl)(hx:Loc X.env.scope x:=by exact o0)(hs:swapsWith (.Dict [] [] p) (some<|.Name x pos') pos.line X.env=pure false:=by rfl)(hf:!39:=by exact o0):PFS X (.Assign [.Name x pos'] (.Dict [] [] p) pos)<|zJY i:=by
 have hd:PE X (.Dict [] [] p) (λ_ H Q=>∀q,H q=none->Q (.ref q) (upd H q<|.dT [])):=λZ s U H Q I h =>wpAny_Dict_empty ⟨.ref s.heap.objs.size,_,I.laid (a:=s.heap.objs.size) (o:=.dT []) (t':=s.toks) (λ_ _ q=>Qe _ q) (Qh _) ⟨Wm _,Rb.mpr<|Ne.symm<|Qn I.big,[],.nil,_,#[],0,Qa _ J,⟨J,J,J⟩,J,J,List.nodup_nil⟩,J,h _<|I.hok.fresh<|Qh _⟩
 refine PS.to (bF hN hi hx hd hs hf) ?_;rintro D U H ⟨G0,H0,G,O,o,j0,hf,k⟩;cases hf;intro q hq;have s1:=Step.own (o:=.dT []) j0.st.sub hq;exact k _ _ G s1.gg ((j0.step s1).put i (.pt zN (j0.st.sub.free hq) (j0.st.hh.free hq) J) λx f j w c _ h1 h2 f'=>by cases f;exact j0.fresh hq j w c h1 h2<|(j0.at h1 h2).back (s1.gg.trans s1.sub) (λx o _ h=>s1.hh x o h) f')
def zRA (ps:List<|Str×Str)(p:Str×Str):List<|Str×Str:=if p∈ps then ps else ps++[p]
def zIL {p q:Str×Str}(h:ssK p=ssK q):p=q:=by
 injection h with h1 h2
 injection h1 with h1
 injection h2 with h2 _
 injection h2 with h2
 exact Prod.ext h1 h2
def zKM {j8:List<|qj×V}{ps:List<|Str×Str}{p:Str×Str}(h:j8.map (·.1)=ps.map ssK):(cK j8 (ssK p) v).map (·.1)=(zRA ps p).map ssK:=by
 have e:(j8.any λkv=>decide (kv.1=ssK p))=decide (p∈ps):=by
  rw[To,List.any_eq_true,decide_eq_true_iff];have m:∀q,q∈j8.map (·.1)↔q∈ps.map ssK:=λq=>by rw[h]
  have:=m<|ssK p;simp only[Wp] at this;refine⟨λ⟨x,h1,h2⟩=>?_,λhp=>?_⟩
  .obtain⟨q,h3,h4⟩:=this.mp ⟨x,h1,by simpa using h2⟩;rw[<-zIL h4];exact h3
  .obtain⟨x,h1,h2⟩:=this.mpr ⟨p,hp,J⟩;exact⟨x,h1,by simpa using h2⟩
 unfold cK zRA;rw[e]
 by_cases hp:p∈ps
 .rw[Qg<|Qb hp,Qg hp,Wk,<-h];refine Ra λx _=>?_;show(if x.1=_ then(x.1,v) else x).1=x.1;split<;>rfl
 .rw[Qc (by simp[hp]),Qc hp,Wv,Wv,h];rfl
def zLE {a:qu}(ok:HOk X.prog X.w H h)(e:H a=some (.tup<|ks.map kV)):(tupleKind<|uD X.prog X.w).is h ks a:=by
 obtain⟨_,j6,r,o,h1,h2,n,h3⟩:=(show ObjOk X.prog X.w H h a (.tup<|ks.map kV) from ok a _ e)
 exact⟨o,j6.toArray,n,h1,h2,h3,by simpa using zUk r⟩
def zGF (i:Nat)(ga:Lf)(fv:Ef):Sf:=λO=>(fv O).bind λ_=>(ga O).bind λdk=>match dk,O[i]? with
 | [.str y,.str z],some (.pt ps)=>if ps.length<=lim then some (.nx<|O.set i<|.pt<|zRA ps (y,z)) else none
 | _,_=>none
def zHO (i:Nat){kk':Nat}(hr:Room k X.A)(he:PF X e fa)(hb:PFA X es ga)(hN:!27:=by rfl)(hv:!31:=by exact visQ rfl)(hd:!20:=by decide)(hcd:!30:=by decide)(hs:swapsWith e (some<|.Subscript (!19) (.Tuple es kk' p) p2) pos.line X.env=pure false:=by rfl):PFS X (.Assign [.Subscript (!19) (.Tuple es kk' p) p2] e pos)<|zGF i ga fa:=by
 have hu:=hr.un;rintro Z s U H D I ⟨G0,H0,G,O,o,j0,hf,kk⟩;obtain⟨de,g1,hf⟩:=k8 hf;obtain⟨dk,g2,hf⟩:=k8 hf;split at hf
 .rename_i y z ps hi;split at hf
  .rename_i hl;cases hf;refine wpAny_Assign_Subscript (thn (he Z s U H (λv H1=>∃G1,Step G H G1 H1) I ⟨G0,H0,G,O,_,j0,g1,λv H1 G1 s1 r1=>⟨G1,s1⟩⟩) λr s1 ⟨v,H1,I1,rv,G1,st1⟩=>?_) hs;obtain⟨q,j8,e1,e2,e3,e4,e5⟩:=(j0.step st1).pt hi;refine thn (wI hN hv hd hcd Z s1 U H1 (λx H2=>x = .ref q/\H2=H1) I1 ⟨.ref q,e1,rfl,rfl⟩) λu s2 ⟨x,H2,I2,rx,ex,eH⟩=>?_;subst ex eH;refine thn (zQ2 hb Z s2 U H2 (λx H3=>∃b G2 H2',Step G1 H2 G2 H2'/\x = .ref b/\H2' b=none/\H3=upd H2' b (.tup [.str y,.str z])) I2 ⟨G0,H0,G1,O,_,j0.step st1,g2,λus H3 G2 st2 r2=>⟨by rw[<-r2.length];exact Ww<|xR (by show 2<=100000;lia),λb' hb'=>⟨b',G2,H3,st2,J,hb',?_⟩⟩⟩) λiv s3 ⟨x',H3,I3,rx',b',G2,H2',st2,ex',hb',eH⟩=>?_
   .obtain⟨_,_,rfl,a1,a2⟩:=zQ.mp r2;obtain⟨_,_,rfl,a3,a4⟩:=zQ.mp a2;rw[zD] at a4;subst a4;rw[yF] at a1 a3;subst a1 a3;rfl
   .subst ex' eH;cases rx;cases rx';have st3:=Step.own (o:=.tup [.str y,.str z]) st2.sub hb';have gd:=(j0.step st1).step<|st2.trans st3;obtain⟨q',kvs',f1,f2,f3,f4,f5⟩:=gd.pt hi;rw[e1] at f1;cases f1;have eb:(upd H2' b'<|.tup [.str y,.str z]) b'=some (.tup<|(ssK (y,z)).map kV):=zN;obtain⟨hz,hd,xs,rel,o,es',ep,w1,w2,w3,w4,w5⟩:=(show ObjOk X.prog X.w _ s3.heap q (.dT kvs') from I3.hok q _ f2)
    have hn:kvs'.length < sizeLine:=by have:=Wa List.length f5;rw[Qy,Qy] at this;rw[this];exact xR hl
    have all:∀x∈xs,(tupleKind<|uD X.prog X.w).is s3.heap x.1 x.2.1:=by
     clear w4 w5 f5 f2 hz hn;induction rel with
     | nil=>exactλx hx=>nomatch hx
     | cons hq t ih =>
      intro x hx;rcases v4 hx with rfl | hx
      .exact zLE I3.hok (by rw[<-hq.1];exact hq.2.1)
      .exact ih x hx
    have rel:KTd _ kvs' xs:=rel;have hxl:xs.length<=sizeLine:=by rw[<-Rv rel];exact hz
    refine wpAny_setItem_heap (hsz:=hxl) (tupleKind_room_in1 jc) (zLE I3.hok eb) ⟨o,es',ep,w1,w2,w3,w4,all,w5⟩ λh' dd' hs=>?_;obtain⟨qo,es,ep,hq,h2,h3,h4,_,h5⟩:=dd';have hpl:=zYy kvs' (ssK (y,z)) v;have I4:=λ{t':Nat}=>zTR (t':=t') (ob:=.dT<|cK kvs' (ssK (y,z)) v) I3 (by rw[f2];exact True.intro) hs ⟨qo,hq⟩ ⟨jc,hd,_,(rel.put _ eb rv).keeps λc ys ec=>by rw[zG<|zDu ec f2 λz=>nomatch z];exact ec,qo,es,ep,hq,h2,h3,h4,h5⟩;refine⟨U,_,I4,kk _ _ G2 (st1.gg.trans st2.gg) ?_⟩;have s5:=Step.wrO (o':=.dT<|cK kvs' (ssK (y,z)) v) gd.sub f3;have ne:∀ {x:qu},¬uU (upd H2' b'<|.tup [.str y,.str z]) (some<|.ref q) (.pt ps) x->x≠q:=λf z=>f (by rw[z];rfl);exact gd.chg e1 hi s5.gg s5.sub (λx o f h=>s5.hh x o (by rw[vQ<|ne f];exact h)) (λx o f h n=>s5.new x o (by rw[vQ<|ne f];exact h) n) (.pt zN f3 f4<|zKM f5) λx f=>f
  .cases hf
 .cases hf
end
abbrev zHU:=ki->Option (Nat×D×(D->ki))
def lnY (i:Nat)(f:Ef):zHU:=λO=>(f O).bind λj=>match j,O[i]? with
 | .int k,some (.yl ds)=>if 0<=k then(ds[k.toNat]?).map λd=>(3,d,λy=>O.set i<|.yl<|ds.set k.toNat y) else none
 | _,_=>none
def zCR (K:jk)(G0 H0 G H:Hp)(U:St)(a:qu)(n:Nat)(d:D)(st:D->ki):Prop :=
 ∀G1 H1,Step G H G1 H1->∃S,OwT K G1 H1 a S d/\S.length=n/\∀G' H' y,Step G1 (outS H1<|inL S) G' H'->OwT K G' H' a S y->Good K G0 H0 G' H' U (st y)
def tO (K:jk)(l:zHU):TE:=λU H Q=>∃G0 H0 G O n d st,Good K G0 H0 G H U O/\l O=some (n,d,st)/\∀a H1 G1,Step G H G1 H1->zCR K G0 H0 G1 H1 U a n d st->Q (.ref a) H1
section
theorem Paired.onK {α β:Type}{F F':α->β->Prop}:∀ {l:!10} {r:List β},Paired F l r->(∀(k:Nat) a b,l[k]?=some a->F a b->F' a b)->Paired F' l r
 | _,_,.nil,_=>.nil
 | _,_,.cons h t,f=>.cons (f 0 _ _ J h)<|Paired.onK t λk a b e=>f (k+1) a b e
theorem Paired.set2 {α β:Type}{F F':α->β->Prop}:∀ {l:!10} {r:List β} {j:Nat} {a:α} {y:β},Paired F l r->l[j]?=some a->F' a y->(∀k a b,k≠j->l[k]?=some a->F a b->F' a b)->Paired F' l (r.set j y)
 | _,_,0,_,_,.cons h t,e,h',f=>by cases e;exact .cons h'<|Paired.onK t λk a b e q=>f (k+1) a b je e q
 | _,_,j+1,_,_,.cons h t,e,h',f=>.cons (f 0 _ _ je J h)<|Paired.set2 t e h' λk a b n e q=>f (k+1) a b (by simpa using n) e q
def Good.ownY (g:!21)(hi:O[i]?=some (.yl ds))(hd:ds[j]?=some d):∃l vs a,U[i]?=some (some<|.ref l)/\G l=some (.lst vs)/\vs[j]?=some (.ref a)/\∃S,OwT K G H a S d/\S.length=3/\∀G' H' y,Step G (outS H<|inL S) G' H'->OwT K G' H' a S y->Good K G0 H0 G' H' U (O.set i<|.yl<|ds.set j y):=by
 obtain⟨l,ts,e1,e2,e3,e4⟩:=g.yl hi;obtain⟨t,ht,y⟩:=Paired.get e3 hd;obtain⟨a,b,c⟩:=t;have hl:=g.sub _ _ e2;have mem:∀ {t:qu×qu×qu},t∈ts->V.ref t.1∈ts.map λt=>V.ref t.1:=λh=>Wp.mpr ⟨_,h,J⟩;have fj:∀x,in3 a b c x->uU H (some<|.ref l) (.yl ds) x:=λx hx=>⟨l,_,_,J,hl,mem<|Rw ht,(y.foot (q:=none)).mpr hx⟩
 refine⟨l,_,a,e1,e2,by rw[Wh,ht];rfl,[a,b,c],⟨J,y.ex,λx hx=>⟨(y.no x hx).1,J⟩,y.ne⟩,J,λG' H' y' s ⟨_,h⟩=>?_⟩;have e:inL [a,b,c]=in3 a b c:=by funext x;simp[inL,in3]
 rw[e] at s;have keep:∀x o,¬in3 a b c x->H x=some o->H' x=some o:=λx o n q=>s.hh x o (by rw[xN n];exact q);have hl':=s.sub _ _<|s.gg _ _ e2;have y0:∀x,in3 a b c x->H0 x=none:=λx hx=>(y.no x hx).2;have new:Paired (λt d=>Yd K H0 G' H' t.1 t.2.1 t.2.2 d) ts<|ds.set j y':=Paired.set2 e3 ht ⟨h.ex,λx hx=>⟨(h.no x hx).1,y0 x hx⟩,h.ne⟩ λk u d' hk hu yu=>by
  have ap:∀x,in3 u.1 u.2.1 u.2.2 x->¬in3 a b c x:=λx h1 h2=>by
   rcases Nat.lt_or_gt_of_ne hk with q | q
   .exact(Tb.mp e4 k j (v5 hu).1 (v5 ht).1 q) x (by rw[(v5 hu).2];exact h1) (by rw[(v5 ht).2];exact h2)
   .exact(Tb.mp e4 j k (v5 ht).1 (v5 hu).1 q) x (by rw[(v5 ht).2];exact h2) (by rw[(v5 hu).2];exact h1)
  refine yu.keep s.gg (λx o f=>keep x o<|ap x<|(yu.foot (q:=none)).mp f) λx f=>?_;obtain⟨⟨o,q1,q2⟩,q3,_⟩:=yu.own f;exact(s.new x o (by rw[xN<|ap x<|(yu.foot (q:=none)).mp f];exact q1)<|zXc q2).trans q3
 refine g.chg e1 hi s.gg s.sub (λx o f=>keep x o λz=>f<|fj x z) (λx o f q n=>s.new x o (by rw[xN λz=>f<|fj x z];exact q) n) (.yl (s.gg _ _ e2) hl' new e4) λx ⟨l',vs,w,q1,q2,q3,f⟩=>?_;cases q1;rw[hl'] at q2;cases q2;obtain⟨u,hu,rfl⟩:=v7 q3;obtain⟨d1,y1⟩:=Paired.mem new hu;obtain⟨d2,y2⟩:=Paired.mem e3 hu
 by_cases z:in3 a b c x
 .exact fj x z
 .refine⟨l,_,_,rfl,hl,mem hu,?_⟩;obtain⟨k,hk⟩:=List.getElem?_of_mem hu
  by_cases hkj:k=j
  .subst hkj;rw[ht] at hk;cases hk;exact absurd ((h.foot (q:=none)).mp f) z
  .exact(y2.foot (q:=none)).mpr ((y1.foot (q:=none)).mp f)
variable{b:r8}{l:zHU}
def zEw (i:Nat)(he:PF X e fa)(hN:!27:=by rfl)(hv:!31:=by exact visQ rfl)(hd:!20:=by decide)(hcd:!30:=by decide)(hs:zXE e:=by exactλ_ _=>rfl):PE X (.Subscript (.Name x p) e pos)<|tO X.K<|lnY i fa:=by
 rintro Z s U H Q I ⟨G0,H0,G,O,n,d,st,j0,hf,k⟩;obtain⟨dj,h1,hf⟩:=k8 hf;split at hf
 .rename_i kk ds hi;split at hf
  .rename_i h0;obtain⟨d',hd',e'⟩:=k9 hf;cases e';obtain⟨l,vs,a,e1,e2,e3,_⟩:=j0.ownY hi hd';refine zK3 zJp (wI hN hv hd hcd) he hs Z s U H Q I ⟨.ref l,e1,G0,H0,G,O,_,j0,h1,λv H1 G1 s1 r1=>.inl ⟨l,vs,kk,.ref a,J,zC.mp r1,.inl<|.inl<|s1.sub _ _<|s1.gg _ _ e2,?_,k a H1 G1 s1 λG2 H2 s2=>?_⟩⟩
   .have:=(v5 e3).1;unfold atI ixN;rw[Qg h0,Qg jc];exact e3
   .obtain⟨l',vs',a',f1,f2,f3,ow⟩:=((j0.step s1).step s2).ownY hi hd';rw[e1] at f1;cases f1;rw[s2.gg _ _<|s1.gg _ _ e2] at f2;cases f2;rw[e3] at f3;cases f3;exact ow
  .cases hf
 .cases hf
def uO (l:zHU)(n:Nat)(f:kn->D->kd->qc)(ga:Lf):ki->Option (D×ki):=λO=>(ga O).bind λds=>(l O).bind λx=>if ds.length=n then(gW f x.1 x.2.1 ds).map λr=>(r.1,x.2.2 r.2) else none
def tUO (K:jk)(u:ki->Option (D×ki)):TE:=λU H Q=>∃G0 H0 G O d O',Good K G0 H0 G H U O/\u O=some (d,O')/\∀v H' G',Same G G'->Good K G0 H0 G' H' U O'->Rep K G' d v->Q v H'
def zNO {jj k:Nat}{t:FnT X.K X.mg y st ps}(F:FnOk X.prog X.w X.K X.mg X.base CX0 jj t.f t.fd ps<|spW X.K n f)(hr:Room k X.A)(ho:PE X e<|tO X.K l)(ha:PFA X es ga)(hj:jj<=k:=by lia)(hg:Gl X y:=by rfl)(hdb:(y==("__debug__":Str))=false:=by decide)(hst:!23:=by rfl) (hpl:(backTo cpos (!25)).any (·.1)=false:=by rfl):PE X (.Call (.Name y p) (e::es) [] cpos)<|tUO X.K<|uO l n f ga:=by
 refineλZ s U H Q I hw=>zZF F (hr.mono hj) hg t.m t.F.kp t.b .nil gH (yX ho ha hst) hdb hst hpl Z s U H Q I ?_;obtain⟨G0,H0,G,O,d,O',j0,hf,kk⟩:=hw;obtain⟨ds,h1,hf⟩:=k8 hf;obtain⟨⟨n',dd,stt⟩,hl,hf⟩:=k8 hf;split at hf
 .rename_i hn;obtain⟨r1,h2,e⟩:=k9 hf;obtain⟨e1',e2'⟩:=Prod.mk.inj e;subst e1' e2';refine⟨G0,H0,G,O,n',dd,stt,j0,hl,λa H1 G1 s1 ow=>⟨G0,H0,G1,O,ds,j0.step s1,h1,λus H2 G2 s2 rs=>?_⟩⟩;show spW X.K n f _ H2 Q _;rw[Wo];obtain⟨S,o1,o2,o3⟩:=ow G2 H2 s2;exact⟨a,S,us,G2,_,ds,r1.1,r1.2,J,o1,s2.sub,rs,hn,zPn h2 o2,λv H' G' st' ow2 rv=>kk v H' G' ((!18).gg.trans st'.gg) (o3 G' H' r1.2 st' ow2) rv⟩
 .cases hf
def zTn (g:D->D->ku)(u v:ki->Option (D×ki)):Uf:=λO=>(u O).bind λp=>(v p.2).bind λq=>(g p.1 q.1).map λc=>(c,q.2)
def zLD {u v:ki->Option (D×ki)}(cm:CmR X op g)(ha:PE X a<|tUO X.K u)(hb:PE X b<|tUO X.K v)(hm:behindInMarks op b=false:=by first | exact zV6 _ | (with_unfolding_all rfl)):PFU X (.Compare a [op] [b] pos)<|zTn g u v:=by obtain⟨r,ho,hr'⟩:=cm;refineλZ s U H Q I hw=>zPk ho ha hb hm Z s U H Q I ?_;obtain⟨G0,H0,G,O,bb,ρ1,j0,hf,kk⟩:=hw;obtain⟨⟨d1,ρ2⟩,h1,hf⟩:=k8 hf;obtain⟨⟨d2,ρ3⟩,h2,hf⟩:=k8 hf;obtain⟨c,h3,e⟩:=k9 hf;obtain⟨e3,e4⟩:=Prod.mk.inj e;subst e3 e4;exact⟨G0,H0,G,O,d1,ρ2,j0,h1,λv1 H2 G2 sg g2 rv=>⟨G0,H0,G2,ρ2,d2,ρ3,g2,h2,λv2 H3 G3 sg3 g3 rv2=>hr' _ _ c G3 H3 v1 v2 _ h3 g3.sub (rv.mono sg3) rv2 λH4 G4 s4=>⟨c,J,kk H4 G4 ((sg.trans sg3).trans s4.gg)<|g3.step s4⟩⟩⟩
def tMY (K:jk)(f:Ef):TE:=λU H Q=>∃G0 H0 G O x,Good K G0 H0 G H U O/\f O=some x/\∀a b c H' G',Step G H G' H'->Yd K H G' H' a b c x->Q (.ref a) H'
def zPu (n:Nat)(f:jz)(g:Lf):Ef:=λO=>(g O).bind λds=>if ds.length=n then f ds else none
def zOe {c:Str}{k:Nat}{fI:qu}{f:jz}(M:Mk X.K C fI)(F:FnOk X.prog X.w X.K X.mg X.base CX0 k fI fd ps<|zFe X.K C n f)(hr:Room (k+1) X.A)(hm:X.mg c=some (!1))(hb:Binds X.K fd ps [])(hg:Gl X c)(ha:PFA X (e::es) ga) (hdb:(c==("__debug__":Str))=false:=by decide) (he:!23:=by rfl) (hpl:(backTo cpos (!25)).any (·.1)=false:=by rfl):PE X (.Call (.Name c p) (e::es) [] cpos)<|tMY X.K<|zPu n f ga:=by
 refineλZ s U H Q I hw=>zTp M F hr hg hm hb .nil gH ha hdb he hpl Z s U H Q I ?_;obtain⟨G0,H0,G,O,x,j0,hf,k⟩:=hw;obtain⟨ds,h1,hf⟩:=k8 hf;split at hf
 .rename_i hl;exact⟨G0,H0,G,O,_,j0,h1,λvs H1 G1 s1 r1 x' dx hx hdx hne=>⟨x',dx,vs++[],G1,H1,ds,x,J,J,hx,hdx,hne,s1.sub,by rw[Wo];exact r1,hl,hf,λH' G' b c s' y=>⟨J,k _ b c H' G' (s1.trans s') ⟨y.ex,λz hz=>⟨(y.no z hz).1,s1.hh.free (y.no z hz).2⟩,y.ne⟩⟩⟩⟩
 .cases hf
abbrev zCS (K:jk)(H G' H':Hp)(ts:List<|qu×qu×qu)(ds:kd):Prop:=Paired (λt d=>Yd K H G' H' t.1 t.2.1 t.2.2 d) ts ds/\ts.Pairwise λt u=>∀x,in3 t.1 t.2.1 t.2.2 x->¬in3 u.1 u.2.1 u.2.2 x
def tML (K:jk)(f:Lf):TA:=λU H Q=>∃G0 H0 G O ds,Good K G0 H0 G H U O/\f O=some ds/\∀ts H' G',Step G H G' H'->zCS K H G' H' ts ds->Q (ts.map λt=>.ref t.1) H'
theorem zIy:PA X []<|tML X.K zS:=λpos Z s U H Q I ⟨G0,H0,G,O,ds,j0,hf,k⟩=>by cases hf;exact yK pos Z s U H Q I<|k [] H G (.refl j0.sub) ⟨.nil,.nil⟩
theorem zRi (ha:PE X e<|tMY X.K fa)(hr:PA X es<|tML X.K ga)(hs:!23:=by rfl):PA X (e::es)<|tML X.K<|zY fa ga:=λpos Z s U H Q I ⟨G0,H0,G,O,ds,j0,hf,k⟩=>by
 obtain⟨d,h1,hf⟩:=k8 hf;obtain⟨r,h2,rfl⟩:=k9 hf;refine yX ha hr hs pos Z s U H Q I ⟨G0,H0,G,O,d,j0,h1,λa b c H1 G1 s1 y=>⟨G0,H0,G1,O,r,j0.step s1,h2,λts H2 G2 s2 ⟨q1,q2⟩=>k ((a,b,c)::ts) H2 G2 (!18) ⟨.cons ?_<|Paired.on q1 λt _ d y=>⟨y.ex,λz hz=>⟨(y.no z hz).1,s1.hh.free (y.no z hz).2⟩,y.ne⟩,Rq.mpr ⟨λu hu x hx hx2=>?_,q2⟩⟩⟩⟩
 .refine y.keep s2.gg (λx o _ h=>s2.hh x o h) λx f=>?_;obtain⟨⟨o,z1,z2⟩,z3,_⟩:=y.own f;exact(s2.new x o z1<|zXc z2).trans z3
 .obtain⟨d',y'⟩:=Paired.mem q1 hu;obtain⟨⟨o,z1,_⟩,_⟩:=y.own<|(y.foot (q:=none)).mpr hx;rw[(y'.no x hx2).2] at z1;cases z1
def zNV (i:Nat)(g:Lf):Sf:=λO=>(g O).bind λds=>if ds.length<=lim then some (.nx<|O.set i<|.yl ds) else none
def zNF (i:Nat)(hN:X.N.Nodup)(ha:PA X es<|tML X.K ga)(hi:!27:=by rfl)(hx:Loc X.env.scope x:=by exact o0)(hs:swapsWith (.List es p) (some<|.Name x pos') pos.line X.env=pure false:=by rfl)(hf:!39:=by exact o0):PFS X (.Assign [.Name x pos'] (.List es p) pos)<|zNV i ga:=by
 refine PS.to (bF hN hi hx (zJZ ha) hs hf) ?_;rintro D U H ⟨G0,H0,G,O,o,j0,hf,k⟩;obtain⟨ds,h1,hf⟩:=k8 hf;split at hf
 .rename_i hl;cases hf;refine⟨G0,H0,G,O,ds,j0,h1,λts H1 G1 s1 ⟨q1,q2⟩=>⟨by rw[Qy,Rv q1];exact Ww<|xR hl,λq hq=>?_⟩⟩;have s2:=Step.laid (o:=.lst<|ts.map λt=>.ref t.1) s1.sub hq;have st:=s1.trans s2;have q1':Paired (λt d=>Yd X.K H (upd G1 q _) (upd H1 q _) t.1 t.2.1 t.2.2 d) ts ds:=Paired.on q1 λt _ d y=>y.keep s2.gg (λx o _ h=>s2.hh x o h) λx f=>by
   obtain⟨⟨o,z1,z2⟩,z3,_⟩:=y.own f;exact(s2.new x o z1<|zXc z2).trans z3
  refine k _ _ _ st.gg<|(j0.step st).put i (.yl zN zN (Paired.on q1' λt _ d y=>⟨y.ex,λz hz=>⟨(y.no z hz).1,j0.st.hh.free (y.no z hz).2⟩,y.ne⟩) q2) λz ⟨l',vs,w,w1,w2,w3,f⟩ j' w' c' _ r1 r2 f2=>?_;cases w1;rw[zN] at w2;cases w2;obtain⟨t,ht,rfl⟩:=v7 w3;obtain⟨d,y⟩:=Paired.mem q1' ht;exact j0.fresh (y.no z<|(y.foot (q:=none)).mp f).2 j' w' c' r1 r2<|(j0.at r1 r2).back (st.gg.trans st.sub) (λx o _ h=>st.hh x o h) f2
 .cases hf
def zPp (i:Nat)(g:Lf):Lf:=λO=>(lendB i O).bind λO'=>(g O').bind λds=>if qL ds then some ds else none
def zSb (i:Nat)(h:PFr X e ga):PFr X e<|zPp i ga:=by
 rintro Z s U H Q I ⟨G0,H0,G,O,ds,j0,hf,kk⟩;obtain⟨O',h1,hf1⟩:=k8 hf;obtain⟨d',h2,hf2⟩:=k8 hf1;obtain⟨S,hG,hH,good'⟩:=j0.lendB h1;split at hf2
 .rename_i fl;cases hf2;refine thn (h Z s U _ (λv H'=>∃a vs G1,v = .ref a/\Step _ _ G1 H'/\fU H s.heap S a=none/\H' a=some (.lst vs)/\G1 a=none/\Reps X.K G1 ds vs) (I.lab S) ⟨G0,H0,_,_,_,good' s.heap,h2,λa vs H' G1 st z1 z2 z3 r=>⟨a,vs,G1,J,st,z1,z2,z3,r⟩⟩) λu s2 ⟨x,H2,I2,rx,a,vs,G1,ex,st,z1,z2,z3,r⟩=>?_;subst ex;have nS:¬S a:=λz=>by
   obtain⟨o,e,_⟩:=hH a z;rw[cP z,e] at z1;cases z1
  rw[jP nS] at z1;exact⟨_,_,I.unlab I2 st.hh hH,rx,kk a vs _ _ (st.backS hG) z1 (by rw[xI nS];exact z2) (by rw[xN nS];exact z3)<|Reps.outM (zRH st hH) _ _ fl r⟩
 .cases hf2
def zFJ (i:Nat):Sf:=λO=>match O[i]? with | some (.ow ds)=>some (.nx<|O.set i<|.ow ds.reverse) | _=>none
theorem zSk:∀ {vs:kj} {us:jn},Vals vs us->Vals vs.reverse us.reverse
 | _,_,.nil=>.nil
 | _,_,.cons h t=>by rw[Uc,Uc];exact zZh (zSk t) h
theorem Reps.rev {K:jk}{G:Hp}:∀ {ds:kd} {vs:kj},Reps K G ds vs->Reps K G ds.reverse vs.reverse
 | [],_,h=>by rw[zD] at h;subst h;exact zD.mpr J
 | d::r,_,h=>by obtain⟨v,vr,rfl,h1,h2⟩:=zQ.mp h;rw[Uc,Uc];exact(Reps.rev h2).snoc h1
def zF0:MtR X "list.reverse" λx vs H Q=>∃l xs,x = .ref l/\vs=[]/\H l=some (.lst xs)/\Q .non (upd H l<|.lst xs.reverse):=by intro Z s U H x vs v us Q I rx rv h;obtain⟨l,xs,rfl,rfl,hH,q⟩:=h;cases rx;have hus:=rv.zero;subst hus;obtain⟨z,j6,n,r,hl,e⟩:=I.lstM hH;refine Tw F.slot_list_reverse ⟨_,e,J⟩ F.entry_list_reverse (F.args_list_reverse_1 _) (PySem.AutoListH.list_reverse_list_0 l _ n (by rw[Qd];lia)) ⟨e,?_⟩;exact⟨.non,_,I.lset (its':=j6.reverse) hH e je (zSk r) (by simpa using z),J,q⟩
def zGl (i:Nat)(hN:!27:=by rfl)(hv:!31:=by exact visQ rfl)(hd:!20:=by decide)(hcd:!30:=by decide)(hbase:attributeBase (!19) "reverse" X.env (eval (!19) X.env)=eval (!19) X.env:=by rfl)(hline:(apos.endLine==cpos.line)=true:=by rfl)(hs:swapsWith (.Call (.Attribute (!19) "reverse" apos) [] [] cpos) none pos.line X.env=pure false:=by rfl):PFS X (.Expr (.Call (.Attribute (!19) "reverse" apos) [] [] cpos) pos)<|zFJ i:=by
 refine PS.to (pV (zGA F.plainAttrs_list F.slot_list_reverse F.type_list_reverse zF0 (wI hN hv hd hcd) hbase hline) hs) ?_;rintro D U H ⟨G0,H0,G,O,o,j0,hf,kk⟩;unfold zFJ at hf;split at hf
 .rename_i ds hi;cases hf;obtain⟨a,vs,e1,e2,e3,e4,e5⟩:=j0.addr hi;exact⟨.ref a,e1,.inl ⟨J,vs,.inl<|.inl e2⟩,a,vs,J,J,e2,kk _ _ G (Same.refl _)<|j0.wr hi e1<|Reps.rev e5⟩
 .cases hf
end
end L2
variable{j:Int}{e f fd:Ef}{g:Lf}{p:kh}
namespace L2
abbrev eV0:Ef:=eV 0
abbrev eV1:Ef:=eV 1
abbrev eV2:Ef:=eV 2
abbrev eV3:Ef:=eV 3
abbrev eV4:Ef:=eV 4
abbrev eV5:Ef:=eV 5
abbrev eV6:Ef:=eV 6
abbrev eV7:Ef:=eV 7
def zR (hN:X.N[0]?=some x:=by rfl)(hv:!31:=by exact visQ rfl)(hd:!20:=by decide)(hcd:!30:=by decide):PF X (.Name x pos) eV0:=yS 0 hN hv hd hcd
def zP (hN:X.N[1]?=some x:=by rfl)(hv:!31:=by exact visQ rfl)(hd:!20:=by decide)(hcd:!30:=by decide):PF X (.Name x pos) eV1:=yS 1 hN hv hd hcd
def zB (hN:X.N[2]?=some x:=by rfl)(hv:!31:=by exact visQ rfl)(hd:!20:=by decide)(hcd:!30:=by decide):PF X (.Name x pos) eV2:=yS 2 hN hv hd hcd
def yB (hN:X.N[3]?=some x:=by rfl)(hv:!31:=by exact visQ rfl)(hd:!20:=by decide)(hcd:!30:=by decide):PF X (.Name x pos) eV3:=yS 3 hN hv hd hcd
def wM {P:kg}(S:FnScope N P sc)(x:Str)(j4:kg)(hp:PFI X (!19) iter gi)(hi:∀C s₀ H₀ fp,zRO (vO X ([x]++j4) scope C s₀ H₀ fp) ifs t)(he:∀C s₀ H₀ fp,PF (vO X ([x]++j4) scope C s₀ H₀ fp) elt el)(hok:(kQ sc scope N [x] j4 js&&decide ([x]++j4).Nodup)=true:=by decide +kernel) (hc:!24:=by rfl) (hsc:X.env.scope=sc:=by rfl) (hNN:X.N=N:=by rfl) (hs:∀x,foldedSetIterable iter X.env x=pure x:=by intro _;rfl):PFr X (.ListComp elt [⟨.Name x p1,iter,ifs,0⟩] scope pos)<|yJ gi 1 js (gN 0) t el:=by obtain⟨h1,h2⟩:=Ej.mp hok;have l:=(tK h1).2.2.2.2.1 x<|Qv.mpr rfl;exact iX sc N [x] j4 js (kC 0) hp hc hsc hNN h1 (λC s₀ H₀ fp=>have l':(vO X ([x]++j4) scope C s₀ H₀ fp).env.scope.names.lookup x=some .local:=(nO x scope.names).trans (by rw[l];rfl);xU 0 (Rx h2) rfl (.inl l') (.inr l')) hi he hs
def xG {f g:Sf}(h:f O=some (.nx O')):zH f g O=g O':=by unfold zH;rw[h];rfl
def yM {f g:Sf}(h:f O=some (.nx O'))(k:(g O').bind wG=r):(zH f g O).bind wG=r:=by rw[xG h];exact k
def zZn {f g:Sf}(h:f O=some (.rt d)):zH f g O=some (.rt d):=by unfold zH;rw[h];rfl
def uE {g:Gf}{r:kd}{ρ1 ρ2:ki}(h1:g d O=some ρ1)(h2:body ρ1=some (.nx ρ2)):sQ g body (d::r) O=sQ g body r ρ2:=by rw[sQ,h1,Qt,h2,Qt]
def zI (h1:f O=some d)(h2:g O=some ds):zY f g O=some (d::ds):=by unfold zY;rw[h1,h2];rfl
def vZ (h:g O=some ds):eL g O=some (.lst ds):=by unfold eL;rw[h];rfl
def zZY {f:jz}(h:g O=some ds)(hl:ds.length=n):yZ n f g O=f ds:=by unfold yZ;rw[h,Qt,Qg hl]
def zRW {c:Str}{f:kd->ka}(h:g O=some ds)(hl:ds.length=n)(hf:f ds=some xs)(hn:ns.length=xs.length):nC c ns n f g O=some (.obj c ns xs):=by unfold nC;rw[h,Qt,Qg hl,hf,Qt,Qg hn]
theorem zQT {g:Gf}{body:Sf}{P:ki->Prop}:∀(ds:kd),(∀d∈ds,∀O,P O->∃ρ1 ρ2,g d O=some ρ1/\body ρ1=some (.nx ρ2)/\P ρ2)->∀O,P O->∃O',sQ g body ds O=some (.nx O')/\P O'
 | [],_,O,h=>⟨O,J,h⟩
 | d::r,hs,O,h=>by obtain⟨ρ1,ρ2,e1,e2,h2⟩:=hs d Ql O h;obtain⟨O',e,h'⟩:=zQT r (λd hd=>hs d<|Qf _ hd) ρ2 h2;exact⟨O',by rw[uE e1 e2];exact e,h'⟩
theorem iW {g:Gf}{body:Sf}{P:Nat->ki->Prop}:∀(ds:kd) (n:Nat),(∀(i:Nat) (d:D),ds[i]?=some d->∀O,P (n+i) O->∃ρ1 ρ2,g d O=some ρ1/\body ρ1=some (.nx ρ2)/\P (n+i+1) ρ2)->∀O,P n O->∃O',sQ g body ds O=some (.nx O')/\P (n+ds.length) O'
 | [],_,_,O,h=>⟨O,J,h⟩
 | d::r,n,hs,O,h=>by
  obtain⟨ρ1,ρ2,e1,e2,h2⟩:=hs 0 d J O h;obtain⟨O',e,h'⟩:=iW r (n+1) (λi d hd O hO=>by have q:=hs (i+1) d (!6) O jc;rw[show n+_+1=n+1+i+1 by lia] at q;exact q) ρ2 h2
  exact⟨O',by rw[uE e1 e2];exact e,by rw[Qk,show n+_=n+1+r.length by lia];exact h'⟩
def zQO (h:d∈pL lo n):∃i:Nat,i < n/\d = .int (lo+i):=by obtain⟨i,hi,rfl⟩:=v7 h;exact⟨i,Tq.mp hi,J⟩
def eU (h:(pL lo n)[i]?=some d):i < n/\d = .int (lo+i):=by
 have hl:(pL lo n).length=n:=by simp[pL]
 have hi:i < n:=by rw[<-hl];exact(v5 h).1
 unfold pL at h;simp_all
def eN (lo:Int)(n:Nat):(pL lo n).length=n:=by simp[pL]
theorem zWn {elt:Ef}{h:D->D}{rest:ki}:∀(ds:kd) (x0:B) (j7:kd),(∀d∈ds,elt (.fz d::rest)=some (h d))->uI (gN 0) tOK elt ds (x0::rest) j7=some (j7++ds.map h)
 | [],_,j7,_=>by simp[uI]
 | d::r,x0,j7,hh=>by unfold uI;have e1:gN 0 d (x0::rest)=some (.fz d::rest):=rfl;have e2:tOK (.fz d::rest)=some true:=rfl;rw[e1,Qt,e2,Qt,hh d Ql,Qt,zWn r _ _ λq hq=>hh q<|Qf _ hq];simp
theorem zWZ {α:Type}(p:α->Bool):∀l:List α,zSf (l.map λc=>.bl<|p c)=some (l.map p)
 | []=>rfl
 | x::r=>by rw[Qx,zSf,zWZ p r];rfl
def uV {t:kd}(h:t.length<=100000):okL t=some t:=by unfold okL;rw[Qg h]
def mJ (xs:!10)(i:Int)(d:α)(h0:0<=i)(h1:i < xs.length):atI xs i=some (xs.getD i.toNat d):=by unfold atI ixN;simp_all
def zX7 (f:α->β)(xs:!10)(i:Int):atI (xs.map f) i=(atI xs i).map f:=by
 unfold atI;rw[Qy];cases ixN _ i with
 | none=>rfl
 | some j=>simp
def dW {i:Int}(h1 : -18446744073709551616 < i)(h2:i < 18446744073709551616):zXP i j=true:=by unfold zXP;simp only[Td,Wy,Wl];exact .inl ⟨jc,jc⟩
def zTk {i:Int}(h1 : -18446744073709551616 < j)(h2:j < 18446744073709551616):zXP i j=true:=by unfold zXP;simp only[Td,Wy,Wl];exact .inr ⟨jc,jc⟩
def zPX (h:x.length+y.length<=100000):zF6 (.str x) (.str y)=some (.str<|x++y):=by show(if _+_<=lim then _ else none)=_;rw[Qg h]
def zH0 {i:Int}(h0:0<=i)(h1:i < x.length)(h:x.length<=100000):atD (.str x) (.int i)=some (.str ⟨#[x.cps.toList.getD i.toNat 0]⟩):=by have hl:x.cps.toList.length=_:=Ou;show(if _<=lim then _ else none)=_;rw[Qg h,mJ _ i 0 h0 (!6)];rfl
end L2
variable{x y:D}{lo:kh}{elt:Ef}
namespace My
abbrev zYA:r9:=top 59
abbrev dB:r9:=top 64
abbrev dL:r9:=top 63
abbrev bC:r9:=top 61
abbrev aO:r9:=top 60
abbrev fT:r9:=top 62
abbrev aT:r9:=top 58
abbrev zY6:r9:=top 65
abbrev zZe:r9:=top 66
abbrev aY:r9:=top 67
abbrev kZ:r9:=top 69
abbrev zQq:r9:=top 22
abbrev dQ:r9:=top 23
abbrev aR:r9:=top 27
abbrev zYH:r9:=top 28
abbrev qI:r9:=zA (top 56) 10
abbrev pT:r9:=top 54
abbrev lB:r9:=top 53
abbrev zZL:r9:=top 52
abbrev oE:r9:=top 26
abbrev zVL:r9:=top 32
abbrev zW6:r9:=top 31
abbrev zXi:r9:=top 20
abbrev zX2:r9:=top 14
abbrev zZx:r9:=top 12
abbrev zYG:r9:=top 19
abbrev cU:r9:=top 51
abbrev zXm:r9:=top 50
abbrev zTz:r9:=top 13
abbrev kU:r9:=top 18
abbrev nM:r9:=top 49
abbrev iU:r9:=zA (top 56) 13
abbrev zYJ:r9:=top 43
abbrev zQB:r9:=top 36
abbrev zNN:r9:=top 37
abbrev nX:r9:=top 38
abbrev aX:r9:=top 41
abbrev kO:r9:=top 39
abbrev dI:r9:=zA (top 47) 1
abbrev aV:r9:=zA (top 56) 12
abbrev bH:r9:=zA (top 56) 1
abbrev oP:r9:=zA (top 56) 11
abbrev hU:r9:=zA (top 56) 4
abbrev aA:r9:=top 42
abbrev oW:r9:=top 40
abbrev jB:r9:=zA (top 47) 2
abbrev dH:r9:=zA (top 56) 3
abbrev fQ:r9:=zA (top 56) 2
abbrev bP:r9:=top 70
abbrev rV:r9:=top 44
abbrev lZ:r9:=zA (top 47) 3
abbrev iG:r9:=zA (top 56) 5
abbrev zT1:r9:=top 29
abbrev zXo:r9:=top 30
abbrev sJ:r9:=top 45
abbrev qN:r9:=zA (top 47) 4
abbrev nJ:r9:=zA (top 56) 7
abbrev lA:r9:=zA (top 56) 6
abbrev dU:r9:=top 24
abbrev zPf:r9:=top 33
abbrev rQ:r9:=zA (top 56) 8
abbrev mR:r9:=zA (top 56) 9
abbrev nB:r9:=top 71
abbrev zJ7:r9:=top 72
abbrev zTr:r9:=zA (top 16) 0
abbrev zWA:r9:=zA (top 17) 0
abbrev zT6:r9:=zA (top 35) 0
abbrev zWl:r9:=zA (top 47) 0
abbrev zSQ:r9:=zA (top 56) 0
set_option genInjectivity false
set_option genSizeOf false
set_option genSizeOfSpec false
structure Txt (K:jk)(mg:Str->km) where
 q0:FnT K mg Cd zYA [A7,BQ,"_law_prime"]
 q1:FnT K mg BM dB [A7,Ae]
 q2:FnT K mg BL dL [A7]
 q3:FnT K mg BV bC [BY,Ae]
 q4:FnT K mg BU aO [AB,Ae]
 q5:FnT K mg BK fT [A7,Ae]
 q6:FnT K mg BT aT [B0,Bu]
 q7:FnT K mg Ce zY6 [A7,Ae,At,BQ]
 q8:FnT K mg Cf zZe [A7,Ae,At]
 q9:FnT K mg BW aY [A7,Ae,At,Bg]
 q10:FnT K mg Bi kZ [CP]
 q11:FnT K mg Cu zQq [Aa,Ac]
 q12:FnT K mg B3 dQ [Aa,Ac,Ar]
 q13:FnT K mg B9 aR [A4,Aa,Ac]
 q14:FnT K mg Bo zYH [A4,Aa,Ac]
 q16:FnT K mg By pT [Ah,CQ]
 q17:FnT K mg Bw lB [Ah,"at"]
 q18:FnT K mg CI zZL [Ah,BA]
 q19:FnT K mg AX oE [Bf,B1]
 q20:FnT K mg BI zVL [Ck,AF]
 q21:FnT K mg BH zW6 [A4]
 q22:FnT K mg BF zXi [An,AL,"number"]
 q23:FnT K mg C8 zX2 [Ck,AF]
 q24:FnT K mg BE zZx [AK,Aj]
 q25:FnT K mg Bn zYG [An,BP,"digit"]
 q26:FnT K mg Cw cU [Bv,Aj]
 q27:FnT K mg CH zXm [An,A4,BP,Bv,Am]
 q28:FnT K mg C7 zTz [Aa]
 q29:FnT K mg AO kU [Aa]
 q30:FnT K mg Bh nM [An,Ac,A4]
 q32:FnT K mg Bp zYJ [Cr]
 q33:FnT K mg Cv zQB [A8]
 q34:FnT K mg CU zNN ["branch",A8]
 q35:FnT K mg AY nX [Ai,A8]
 q36:FnT K mg Ba aX [Ap,A5,Af]
 q37:FnT K mg AQ kO [Ai,A8,Af]
 q43:FnT K mg BJ aA [Cr,Af]
 q44:FnT K mg AD oW [Ai,A8,Af]
 q48:FnT K mg BX bP [B5,AT]
 q49:FnT K mg Az rV [Ai]
 q52:FnT K mg C9 zT1 [A4,Ar]
 q53:FnT K mg BG zXo [Ck,AF]
 q54:FnT K mg Av sJ [Ai,Am,AM]
 q58:FnT K mg B4 dU [Aa,Ac,Ar]
 q59:FnT K mg BA zPf [Ar,A4]
 q62:FnT K mg Bb nB [B5,CT,BD]
 q63:FnT K mg "law" zJ7 [B0]
 C0:qu
 c0:ClT K mg AW BB zTr [A0,Aj,AK,AL] [AL,Aj,AK] C0
 C1:qu
 c1:ClT K mg Al Bq zWA [A0,A6,Aa,B6,AE] [Aa,B6,A6,AE] C1
 C2:qu
 c2:ClT K mg A2 BC zT6 [A0,Ap,A5] [Ap,AI,Ay,A5] C2
 C3:qu
 c3:ClT K mg Ad Br zWl [A0,Af] [AN,Af] C3
 C4:qu
 c4:ClT K mg A1 Ci zSQ [A0,An,Ac,Af] [AZ,An,Ac,BR] C4
 m15:MeT K C4 Au BZ qI [A0,A4]
 m31:MeT K C4 Ah CN iU [A0,A4]
 m38:MeT K C3 Ax Ct dI [A0,A8]
 m39:MeT K C4 "lay" D1 aV [A0,A6,A4]
 m40:MeT K C4 Ax D0 bH [A0,A6,A4]
 m41:MeT K C4 AA Cj oP [A0,A6]
 m42:MeT K C4 Bj CK hU [A0,A6]
 m45:MeT K C3 AC Ch jB [A0,A8]
 m46:MeT K C4 AC CW dH [A0,A6]
 m47:MeT K C4 AH CV fQ [A0,A6,A4]
 m50:MeT K C3 Bs BO lZ [A0]
 m51:MeT K C4 CG CL iG [A0]
 m55:MeT K C3 AV Bt qN [A0,Am,AM]
 m56:MeT K C4 BN Co nJ [A0,A4]
 m57:MeT K C4 CM CA lA [A0,A4]
 m60:MeT K C4 Cy Cp rQ [A0,Ar,"many"]
 m61:MeT K C4 Cz Cq mR [A0]
 X0:qu
 x0:XcT K mg Ao X0
 X1:qu
 x1:XcT K mg AR X1
 X2:qu
 x2:XcT K mg As X2
 X3:qu
 x3:XnT K mg Cm X3
 X4:qu
 x4:XnT K mg C6 X4
 X5:qu
 x5:XnT K mg Bc X5
 X6:qu
 x6:XnT K mg C5 X6
 X7:qu
 x7:XnT K mg Cn X7
 X8:qu
 x8:XnT K mg AU X8
 ix_ValueError:fB K (.type AG) [(X0,true),(X1,true),(X2,true)]=true
 ix_OffFloor:fB K (.ref X0) [(X0,true),(X1,false),(X2,false)]=true
 ix_NoThing:fB K (.ref X2) [(X0,false),(X1,false),(X2,true)]=true
 ix_Twice:fB K (.ref X1) [(X0,false),(X1,true),(X2,false)]=true
 iy_0:zSm K (zSd [X3,X4,X5,X6,X7]) [(X0,false),(X1,false),(X2,false)]=true
 em_YardError_OffFloor:PySem.W.exmOne K (.ref X0) (.ref X8)=some true
 em_YardError_Twice:PySem.W.exmOne K (.ref X1) (.ref X8)=some true
 em_YardError_NoThing:PySem.W.exmOne K (.ref X2) (.ref X8)=some true
 zz:∀y∈([AG,"all","enumerate","int","isinstance","len","list","max","min","range","sorted","tuple","zip"]:kg),mg y=none
set_option genInjectivity true
set_option genSizeOf true
set_option genSizeOfSpec true
section
seal PySem.Sem.wp
def qA:kg:=[Ao,AR,As]
def cA:qp:=[(Ao,true),(AR,true),(As,true)]
def zWH (T:!2):IsxOk K (.type AG) cA:=have h:=T.ix_ValueError;(uP T.x0.ca T.x0.xk h λh=>(uP T.x1.ca T.x1.xk h λh=>(uP T.x2.ca T.x2.xk h λh=>zXH)))
def zYx:qp:=[(Ao,true),(AR,false),(As,false)]
def zTb (T:!2):IsxOk K (.ref T.X0) zYx:=have h:=T.ix_OffFloor;(uP T.x0.ca T.x0.xk h λh=>(uP T.x1.ca T.x1.xk h λh=>(uP T.x2.ca T.x2.xk h λh=>zXH)))
def zWa:qp:=[(Ao,false),(AR,false),(As,true)]
def zRc (T:!2):IsxOk K (.ref T.X2) zWa:=have h:=T.ix_NoThing;(uP T.x0.ca T.x0.xk h λh=>(uP T.x1.ca T.x1.xk h λh=>(uP T.x2.ca T.x2.xk h λh=>zXH)))
def zRG:qp:=[(Ao,false),(AR,true),(As,false)]
def zMY (T:!2):IsxOk K (.ref T.X1) zRG:=have h:=T.ix_Twice;(uP T.x0.ca T.x0.xk h λh=>(uP T.x1.ca T.x1.xk h λh=>(uP T.x2.ca T.x2.xk h λh=>zXH)))
def zEq:qp:=[(Ao,false),(AR,false),(As,false)]
def zDI (T:!2):IsyOk K (zSd [T.X3,T.X4,T.X5,T.X6,T.X7]) zEq:=have h:=T.iy_0;(zWz T.x0.ca T.x0.xk h λh=>(zWz T.x1.ca T.x1.xk h λh=>(zWz T.x2.ca T.x2.xk h λh=>zH5)))
def zVo (T:!2):ExOk K T.X8 qA:=⟨⟨T.X0,T.x0.ca,T.em_YardError_OffFloor⟩,⟨⟨T.X1,T.x1.ca,T.em_YardError_Twice⟩,⟨⟨T.X2,T.x2.ca,T.em_YardError_NoThing⟩,True.intro⟩⟩⟩
def zMh:FnScope [A0,Aj,AK,AL] [A0,Aj,AK,AL]<|zV zTr:=yP ja
def zIp:Lf:=(zY eV1<|zY eV2<|zY eV3 zS)
def zXK:kd->ka:=λds=>zIp<|kL 4 ds
def zSr (T:!2):FnOk P w K mg base CX0 1 T.c0.t.f T.c0.t.fd [A0,Aj,AK,AL] (spI K T.C0 [Aj,AK,AL] 3 zXK) :=zT7 (k:=0) T.c0.t.F zMh ja jb λ_ _ _ _ _ _ hr=>(vE T.c0.cl (T.c0.n _ ja) J (Or.inl J) zP<|vE T.c0.cl (T.c0.n _ ja) rfl (Or.inl J) zB<|vE T.c0.cl (T.c0.n _ ja) rfl (Or.inl J) yB zXJ)
def zNB:FnScope [A0,A6,Aa,B6,AE] [A0,A6,Aa,B6,AE]<|zV zWA:=yP ja
def zLQ:Lf:=(zY eV1<|zY eV2<|zY eV3<|zY (eL<|aG eV4) zS)
def zXh:kd->ka:=λds=>zLQ<|kL 5 ds
def zVc (T:!2):FnOk P w K mg base CX0 1 T.c1.t.f T.c1.t.fd [A0,A6,Aa,B6,AE] (spI K T.C1 [A6,Aa,B6,AE] 4 zXh) :=zT7 (k:=0) T.c1.t.F zNB ja jb λ_ _ _ _ _ _ hr=>(vE T.c1.cl (T.c1.n _ ja) J (Or.inl J) zP<|vE T.c1.cl (T.c1.n _ ja) rfl (Or.inl J) zB<|vE T.c1.cl (T.c1.n _ ja) rfl (Or.inl J) yB<|vE T.c1.cl (T.c1.n _ ja) rfl (Or.inl J) (wL<|zZc rfl (!4)<|yS 4) zXJ)
def dJ:FnScope [A0,Ap,A5,"lasts"] [A0,Ap,A5]<|zV zT6:=yP ja
def zSX:Lf:=(λO=>((eIf (tB1 eV1) (eL<|yJ (iL eV2) 1 [] (gN 0) tOK<|eIx eV0 jq)<|eL<|yJ (iL eV2) 1 [] (gN 0) tOK<|yT A2 Ay eV0) O).bind λd=>(zY eV1<|zY eV2<|zY (eIf (tB1 eV1) eV2<|eL<|yJ (iL eV2) 1 [] (gN 0) tOK<|eIx (yT A2 AI eV0) jp)<|zY (zOt<|iL eV3) zS)<|O.set 3<|.fz d)
def nZ:kd->ka:=λds=>zSX<|kL 4 ds
def jJ (T:!2):FnOk P w K mg base CX0 1 T.c2.t.f T.c2.t.fd [A0,Ap,A5] (spI K T.C2 [Ap,A5,AI,Ay] 2 nZ) :=zK9 (k:=0) T.c2.t.F dJ ja jb λ_ _ _ _ _ _ hr=>(zHF 3 dJ.nd (zR0 (wA zP) (wL<|wM dJ A8 [] (cG zB) (λ_ _ _ _=>xX) λ_ _ _ _=>(yO zR zW))<|wL<|wM dJ Ai [] (cG zB) (λ_ _ _ _=>xX) λ_ _ _ _=>(yN T.c2 zR))<|vE T.c2.cl (T.c2.n _ ja) rfl (Or.inl J) zP<|vE T.c2.cl (T.c2.n _ ja) rfl (Or.inl J) zB<|vE T.c2.cl (T.c2.n _ ja) rfl (Or.inl J) (zR0 (wA zP) zB<|wL<|wM dJ Ai [] (cG zB) (λ_ _ _ _=>xX) λ_ _ _ _=>(yO (yN T.c2 zR) zW))<|vE T.c2.cl (T.c2.n _ ja) rfl (Or.inl J) (zHh J J (!4)<|gP yB) zXJ)
def zNz:FnScope [A0,Af] [A0,Af]<|zV zWl:=yP ja
def zKg:Lf:=(zY eV1<|zY (nC A2 [Ap,A5,AI,Ay] 2 nZ<|zY (eC<|.bl true)<|zY (eL<|xA zS) zS) zS)
def zSl:kd->ka:=λds=>zKg<|kL 2 ds
def zMO (T:!2):FnOk P w K mg base CX0 3 T.c3.t.f T.c3.t.fd [A0,Af] (spI K T.C3 [Af,AN] 1 zSl) :=zT7 (k:=2) T.c3.t.F zNz ja jb λ_ _ _ _ _ _ hr=>(vE T.c3.cl (T.c3.n _ ja) J (Or.inl J) zP<|vE T.c3.cl (T.c3.n _ ja) rfl (Or.inl J) (qG T.c2.ca T.c2.k (jJ T) (!13) T.c2.mc T.c2.t.b rfl<|zZ rO<|zZ (wL<|xY zX) zX) zXJ)
def zLl:FnScope [A0,An,Ac,Af] [A0,An,Ac,Af]<|zV zSQ:=yP ja
def zVR:jz:=zEB [Af,AN] zSl
theorem zUl (T:!2):FnOk P w K mg base CX0 5 T.c4.t.f T.c4.t.fd [A0,An,Ac,Af] (zFe K T.C4 3 zVR) :=zKk (k:=4) T.c4.t.F zLl J T.c4.ca T.c4.cl (T.c4.n _ ja) (T.c4.n _ ja) (T.c4.n _ ja) (T.c4.n _ ja) T.c3.ca T.c3.k (zMO T) T.c3.mc T.c3.t.b jc
def zXb:FnScope [A7,BQ,"_law_prime",AB] [A7,BQ,"_law_prime"]<|zV zYA:=yP ja
def zYo:Sf:=(xS<|uL (wO (fW eV3 eV3)<|eC<|.int 998244353) jt)
def vH:jz:=fnF 4<|zH (yI 3<|wO (fW (uB (uB (uB (wO eV0 eV2)<|eC<|.int 12345)<|fW (fW (eC<|.int 31) eV1) eV1) eV1)<|eC<|.int 48271) eV2)<|zYo
def tU (T:!2):OkT P w base T.q0 1 3 vH :=wW (k:=0) T.q0.F zXb λ_ _ _ _ _ _ hr=>(zT (zF 3 zXb.nd<|xK (mE (xD (xD (xD (xK zR zB) zW)<|mE (mE zW zP) zP) zP) zW) zB)<|zU<|yV<|vI (xK (mE yB yB) zW) zW)
def zZD:FnScope [A7,Ae,AB] [A7,Ae]<|zV dB:=yP ja
def kF:Sf:=(xS<|eIx (eL<|xA<|zY jp<|zY jq<|zY jq<|zY jq zS)<|wO eV2 ju)
def dN:jz:=fnF 3<|zH (yI 2<|yZ 3 vH<|zY eV0<|zY (eC<|.int 31)<|zY (eC<|.int 1000033) zS)<|zH (sIf (eB2 gEq eV1 jr) (xS<|eIx (eL<|xA<|zY jp<|zY jq<|zY jr<|zY jr<|zY jr zS)<|wO eV2 jv) wC)<|kF
def zTK (T:!2):OkT P w base T.q1 2 2 dN :=wW (k:=1) T.q1.F zZD λ_ _ _ _ _ _ hr=>(zT (zF 2 zZD.nd<|xT (tU T) hr<|zZ zR<|zZ zW<|zZ zW zX)<|zT (yA (yL sZ zP zW) (zU<|yV<|yO (wL<|xY<|zZ zW<|zZ zW<|zZ zW<|zZ zW<|zZ zW zX)<|xK zB zW) yQ)<|zU<|yV<|yO (wL<|xY<|zZ zW<|zZ zW<|zZ zW<|zZ zW zX)<|xK zB zW)
def wV:FnScope [A7,"_law_letters",AB,"_law_size","_law_at","_law_fill",Bg,Bu,"_law_sign"] [A7]<|zV dL:=yP ja
def lY:Sf:=(zZo 6<|rA (rA (zZp eV5 eV4)<|eV 8)<|zZp eV5<|uT (uT eV3 jq) eV4)
def mS:Sf:=(zH (yI 8<|eIx eV1<|wO (rA (uL eV2<|eC<|.int 12000)<|fW jt eV7)<|eC<|.int 26)<|lY)
def qE:Sf:=(zH (sIf (eB2 gEq (wO (uL eV2<|eC<|.int 4000) jt) jp) (xS<|eL<|yJ (iR jx) 1 [5,2] (gN 0) tOK<|zZp eV1<|rA (rA eV0 jq)<|wO eV2 jw) wC)<|zH (pS 6<|xA zS)<|zH (uG (iR jx) (gN 7)<|mS)<|zU0 6)
def jZ:Sf:=(zH (yI 1<|eC<|.str Cs)<|zH (yI 2<|yZ 3 vH<|zY eV0<|zY (eC<|.int 30)<|zY (eC<|.int 1000003) zS)<|zH (yI 3<|rA jq<|wO eV2<|eC<|.int 12)<|zH (yI 4<|wO (uL eV2<|eC<|.int 12) eV3)<|zH (yI 5<|eIx eV1<|wO (uL eV2<|eC<|.int 150)<|eC<|.int 26)<|qE)
def dZ:jz:=fnF 9 jZ
def zTT (T:!2):OkT P w base T.q2 2 1 dZ :=wW (k:=1) T.q2.F wV λ_ _ _ _ _ _ hr=>(zO jZ J (zF 1 wV.nd wX)<|zT (zF 2 wV.nd<|xT (tU T) hr<|zZ zR<|zZ zW<|zZ zW zX)<|zT (zF 3 wV.nd<|cY zW<|xK zB zW)<|zT (zF 4 wV.nd<|xK (vI zB zW) yB)<|zT (zF 5 wV.nd<|yO zP<|xK (vI zB zW) zW)<|zO qE rfl (yA (yL sZ (xK (vI zB zW) zW) zW) (zU<|yV<|wL<|wM wV Bu ["_law_fill",AB] (zXT J (!4) zW) (λ_ _ _ _=>xX) λ_ _ _ _=>(zSW zP<|cY (cY zR zW)<|xK zB zW)) yQ)<|zT (oU 6 wV.nd<|xY zX)<|zT (wQ Wi J (zXT J (!4) zW) (xU 7 wV.nd)<|zO mS rfl (zF 8 wV.nd<|yO zP<|xK (cY (vI zB zW)<|mE zW<|yS 7) zW)<|zU<|eT 6<|pQ Qm Ew Ee tJ (pv 6)<|yX (cY (cY (zSW (yS 5)<|yS 4)<|yS 8)<|zSW (yS 5)<|vM (vM yB zW)<|yS 4) yK)<|zU<|zXy 6)
def sE:FnScope [BY,Ae,"_law_corner","_law_signs","_law_turn_here",Bu] [BY,Ae]<|zV bC:=yP ja
def zWc:jz:=fnF 6<|zH (yI 2<|vP<|eL<|yJ (iS<|zPH eV0 oNo<|vX eV1) 1 [] (gN 0) tOK<|zPF eV0)<|zH (yI 3<|zPH eV0 (vX eV1) oNo)<|zH (pS 4<|xA zS)<|zH (uG (iR eV1) (gN 5)<|zZo 4<|w9<|zY (zTB (eC<|.str "xyz")<|eIx eV3<|uB (fW jr eV5) jq)<|zY (zPF<|bQ<|eB2 gEq (eIx eV3<|fW jr eV5)<|eC<|.str "-") zS)<|zZA 4<|xS<|nC AW [Aj,AK,AL] 3 zXK<|zY eV2<|zY (vP eV4)<|zY (eC<|.bl false) zS
def zRn (T:!2):OkT P w base T.q3 3 2 zWc :=wW (k:=2) T.q3.F sE λ_ _ _ _ _ _ hr=>(zT (zF 2 sE.nd<|vB rfl (!4)<|wL<|wM sE "_law_sign" [] (zCK<|zUs zR mM<|rS zP) (λ_ _ _ _=>xX) λ_ _ _ _=>(zSc J (!4) zR))<|zT (zF 3 sE.nd<|zUs zR (rS zP) mM)<|zT (oU 4 sE.nd<|xY zX)<|zT (wQ Wi J (zXT J (!4) zP) (xU 5 sE.nd)<|zU<|eT 4<|pQ Qm Ew Ee tJ (pv 4)<|yX (xV<|zZ (zMQ<|pQ PySem.F.plainAttrs_str PySem.F.slot_str_index PySem.F.type_str_index zMS wX<|yX (yO yB<|xD (mE zW<|yS 5) zW) yK)<|zZ (zSc J (!4)<|zVY sZ (yO yB<|mE zW<|yS 5) wX) zX) yK)<|zU<|kG 4<|yV<|qG T.c0.ca T.c0.k (zSr T) (!13) T.c0.mc T.c0.t.b rfl<|zZ zB<|zZ (vB J (!4)<|yS 4)<|zZ rO zX)
def lO:FnScope [AB,Ae,"_law_axes"] [AB,Ae]<|zV aO:=yP ja
def oC:Sf:=(zH (sIf (eB2 gEq eV1 jt) (yI 2<|eIx (eL<|xA<|zY (w9<|zY jp<|zY jq<|zY jr zS)<|zY (w9<|zY jp<|zY jr<|zY jq zS)<|zY (w9<|zY jq<|zY jp<|zY jr zS)<|zY (w9<|zY jq<|zY jr<|zY jp zS)<|zY (w9<|zY jr<|zY jp<|zY jq zS)<|zY (w9<|zY jr<|zY jq<|zY jp zS) zS)<|wO eV0 jw) wC)<|xS<|vP<|eL<|yJ (iR eV1) 1 [2,0] (gN 0) tOK<|w9<|zY (eIx eV1 eV0)<|zY (zFX (zFG (uL eV2 jw) eV0) jq) zS)
def iY:jz:=fnF 3<|zH (yI 2<|eIx (eL<|xA<|zY (w9<|zY jp<|zY jq zS)<|zY (w9<|zY jq<|zY jp zS) zS)<|wO eV0 jr)<|oC
def zRN (T:!2):OkT P w base T.q4 1 2 iY :=wW (k:=0) T.q4.F lO λ_ _ _ _ _ _ hr=>(zT (zF 2 lO.nd<|yO (wL<|xY<|zZ (xV<|zZ zW<|zZ zW zX)<|zZ (xV<|zZ zW<|zZ zW zX) zX)<|xK zR zW)<|zO oC rfl (yA (yL sZ zP zW) (zU<|zF 2 lO.nd<|yO (wL<|xY<|zZ (xV<|zZ zW<|zZ zW<|zZ zW zX)<|zZ (xV<|zZ zW<|zZ zW<|zZ zW zX)<|zZ (xV<|zZ zW<|zZ zW<|zZ zW zX)<|zZ (xV<|zZ zW<|zZ zW<|zZ zW zX)<|zZ (xV<|zZ zW<|zZ zW<|zZ zW zX)<|zZ (xV<|zZ zW<|zZ zW<|zZ zW zX) zX)<|xK zR zW) yQ)<|zU<|yV<|vB rfl (!4)<|wL<|wM lO Bu ["_law_axes",AB] (zXT J (!4) zP) (λ_ _ _ _=>xX) λ_ _ _ _=>(xV<|zZ (yO zP zR)<|zZ (zPc (zJd (vI zB zW) zR) zW) zX))
def xH:FnScope [A7,Ae,"_law_text","_law_left","_law_m","_law_parts",Bu,AB,"_law_corner"] [A7,Ae]<|zV fT:=yP ja
def dO:Sf:=(zZo 3<|vP<|eL<|yJ (iR eV1) 1 [4] (gN 0) tOK<|zFX (zFG eV1 eV0) jq)
def nL:Sf:=(zH (zFa 8 3<|wO eV7<|zR5 3)<|zZo 5<|nC AW [Aj,AK,AL] 3 zXK<|zY (eV 8)<|zY (yZ 2 iY<|zY (uL eV7 jy) (!11))<|zY (bQ<|eB2 gEq (wO (uL eV7<|eC<|.int 512) jr) jq) zS)
def tT:Sf:=(zH (yI 7<|yZ 3 vH<|zY eV0<|zY eV6<|zY (eC<|.int 1000033) zS)<|nL)
def kX:Sf:=(zH (pS 3<|xA zS)<|zH (uG (iR<|zTW jq eV1) (gN 4)<|dO)<|zH (pS 5<|xA zS)<|zH (uG (iR<|zTW jq eV1) (gN 6)<|tT)<|zZA 5<|xS<|nC Al [A6,Aa,B6,AE] 4 zXh<|zY (eC<|.str "loose")<|zY eV1<|zY (eC<|.bl false)<|zY eV5 zS)
def pW:Sf:=(zH (sIf (eB2 gEq (wO (yZ 3 vH<|zY eV0<|zY (eC<|.int 40)<|zY (eC<|.int 1000003) zS) jt) jp) (zH (yI 2<|eC<|.str "00+y+x 01+x+y 11+x+y 10-y-x")<|zH (sIf (eB2 gEq eV1 jt) (yI 2<|eC<|.str "000+y+x+z 010+y+z+x 011+x+y+z 001-y-z+x 101+y-z-x 111+x+y+z 110-y+z-x 100-y-x+z") wC)<|xS<|nC Al [A6,Aa,B6,AE] 4 zXh<|zY (eC<|.str "base")<|zY eV1<|zY (eC<|.bl true)<|zY (eL<|yJ (zJX eV2<|eC<|.str " ") 1 [1] (gN 0) tOK<|yZ 2 zWc<|zY eV0 (!11)) zS) wC)<|kX)
def fM:jz:=fnF 9 pW
def zTs (T:!2):OkT P w base T.q5 4 2 fM :=wW (k:=3) T.q5.F xH λ_ _ _ _ _ _ hr=>(zO pW J (yA (yL sZ (xK (xT (tU T) hr<|zZ zR<|zZ zW<|zZ zW zX) zW) zW) (zT (zF 2 xH.nd wX)<|zT (yA (yL sZ zP zW) (zU<|zF 2 xH.nd wX) yQ)<|zU<|yV<|qG T.c1.ca T.c1.k (zVc T) (!13) T.c1.mc T.c1.t.b rfl<|zZ wX<|zZ zP<|zZ rO<|zZ (wL<|wM xH BY [Ae] (zJt<|zLy<|pQ PySem.F.plainAttrs_str PySem.F.slot_str_split PySem.F.type_str_split zKJ zB<|yX wX yK) (λ_ _ _ _=>xX) λ_ _ _ _=>(xT (zRn T) hr<|zZ zR<|zZ zP zX)) zX) yQ)<|zO kX rfl (oU 3 xH.nd<|xY zX)<|zT (wQ Wi J (zXT J (!4)<|zSR zW zP) (xU 4 xH.nd)<|zU<|eT 3<|pQ Qm Ew Ee tJ (pv 3)<|yX (vB J (!4)<|wL<|wM xH Bu ["_law_m"] (zXT J (!4) zP) (λ_ _ _ _=>xX) λ_ _ _ _=>(zPc (zJd zP zR) zW)) yK)<|zT (oU 5 xH.nd<|xY zX)<|zT (wQ Wi J (zXT J (!4)<|zSR zW zP) (xU 6 xH.nd)<|zO tT rfl (zF 7 xH.nd<|xT (tU T) hr<|zZ zR<|zZ (yS 6)<|zZ zW zX)<|zO nL rfl (zHl 8 3 xH.nd<|pQ Qm PySem.F.slot_list_pop PySem.F.type_list_pop zJs (pv 3)<|yX (xK (yS 7)<|zOk 3 rfl (!4)) yK)<|zU<|eT 5<|pQ Qm Ew Ee tJ (pv 5)<|yX (qG T.c0.ca T.c0.k (zSr T) (!13) T.c0.mc T.c0.t.b rfl<|zZ (yS 8)<|zZ (xT (zRN T) hr<|zZ (vI (yS 7) zW)<|zZ zP zX)<|zZ (zVY sZ (xK (vI (yS 7) zW) zW) zW) zX) yK)<|zU<|kG 5<|yV<|qG T.c1.ca T.c1.k (zVc T) (!13) T.c1.mc T.c1.t.b rfl<|zZ wX<|zZ zP<|zZ rO<|zZ (yS 5) zX)
def zRQ:FnScope [B0,Bu] [B0,Bu]<|zV aT:=yP ja
def rM:Sf:=(zH (sIf (eB2 gLt eV1<|nV eV0) (xS<|eIx eV0 eV1) wC)<|xS jp)
def sS:jz:=fnF 2 rM
def pG (T:!2):OkT P w base T.q6 1 2 sS :=wW (k:=0) T.q6.F zRQ λ_ _ _ _ _ _ hr=>(zO rM J (yA (yL zL0 zP<|mI rfl (!4) zR) (zU<|yV<|yO zR zP) yQ)<|zU<|yV zW)
def sN:FnScope [A7,Ae,At,BQ,"_law_low","_law_high","_law_side",Bu,AB,"_law_size"] [A7,Ae,At,BQ]<|zV zY6:=yP ja
def hZ:Sf:=(zH (zZo 4<|wO (uL (eV 8) jx)<|uB (uT eV6<|eV 9) jq)<|zZo 5<|uT (uB (zHo 4 eV7)<|eV 9) jq)
def iH:Sf:=(zH (yI 9<|uB jq<|wO (eV 8)<|uB jq<|uL eV6 jr)<|hZ)
def oG:Sf:=(zH (yI 8<|yZ 3 vH<|zY eV0<|zY (uB eV3 eV7)<|zY (eC<|.int 1000037) zS)<|iH)
def jF:jz:=fnF 10<|zH (pS 4<|xA zS)<|zH (pS 5<|xA zS)<|zH (yI 6<|zTW jq eV2)<|zH (uG (iR eV1) (gN 7)<|oG)<|zZA 4<|zZA 5<|xS<|w9<|zY (vP eV4)<|zY (vP eV5) zS
def bI (T:!2):OkT P w base T.q7 2 4 jF :=wW (k:=1) T.q7.F sN λ_ _ _ _ _ _ hr=>(zT (oU 4 sN.nd<|xY zX)<|zT (oU 5 sN.nd<|xY zX)<|zT (zF 6 sN.nd<|zSR zW zB)<|zT (wQ Wi J (zXT J (!4) zP) (xU 7 sN.nd)<|zO oG rfl (zF 8 sN.nd<|xT (tU T) hr<|zZ zR<|zZ (xD yB<|yS 7)<|zZ zW zX)<|zO iH rfl (zF 9 sN.nd<|xD zW<|xK (yS 8)<|xD zW<|vI (yS 6) zW)<|zO hZ rfl (eT 4<|pQ Qm Ew Ee tJ (pv 4)<|yX (xK (vI (yS 8) zW)<|xD (vM (yS 6)<|yS 9) zW) yK)<|zU<|eT 5<|pQ Qm Ew Ee tJ (pv 5)<|yX (vM (xD (zGb 4<|yS 7)<|yS 9) zW) yK)<|zU<|kG 4<|kG 5<|yV<|xV<|zZ (vB J (!4)<|yS 4)<|zZ (vB J (!4)<|yS 5) zX)
def uW:FnScope [A7,Ae,At,AB,"_law_low","_law_high","_law_axis","_law_by"] [A7,Ae,At]<|zV zZe:=yP ja
def eR:Sf:=(zH (yI 4<|zRS (zRS (zRE eV4 oNo<|vX eV6)<|w9<|zY (uB (eIx eV4 eV6) eV7) zS)<|zRE eV4 (vX<|uB eV6 jq) oNo)<|zH (yI 5<|zRS (zRS (zRE eV5 oNo<|vX eV6)<|w9<|zY (uB (eIx eV5 eV6) eV7) zS)<|zRE eV5 (vX<|uB eV6 jq) oNo)<|xS<|w9<|zY eV4<|zY eV5 zS)
def pP:Sf:=(zH (sIf (eB2 gEq (wO (uL eV3<|eC<|.int 24) jv) jp) (xS<|w9<|zY (zV2 (w9<|zY jp zS)<|uT jv eV1)<|zY (zV2 (w9<|zY jp zS)<|uT jv eV1) zS) wC)<|eR)
def fF:Sf:=(zH (sIf (eB2 gEq (wO (uL eV3 jt) jr) jq) (yI 7<|zEr eV7) wC)<|pP)
def eJ:Sf:=(zH (yI 7<|uB (zTW jq eV2)<|wO (uL eV3 jw) ju)<|fF)
def nP:jz:=fnF 8<|zH (yI 3<|yZ 3 vH<|zY eV0<|zY (eC<|.int 32)<|zY (eC<|.int 1000039) zS)<|zH (aF (yZ 4 jF<|zY eV0<|zY eV1<|zY eV2<|zY (eC<|.int 60) zS)<|gT<|zM (gN 4)<|zM (gN 5) xZ)<|zH (yI 6<|wO eV3 eV1)<|eJ
def zQ0 (T:!2):OkT P w base T.q8 3 3 nP :=wW (k:=2) T.q8.F uW λ_ _ _ _ _ _ hr=>(zT (zF 3 uW.nd<|xT (tU T) hr<|zZ zR<|zZ zW<|zZ zW zX)<|zT (pY (xT (bI T) hr<|zZ zR<|zZ zP<|zZ zB<|zZ zW zX)<|oX 2 rfl (zK (xU 4 uW.nd)<|zK (xU 5 uW.nd) yD)<|yW<|yW xQ)<|zT (zF 6 uW.nd<|xK yB zP)<|zO eJ rfl (zF 7 uW.nd<|xD (zSR zW zB)<|xK (vI yB zW) zW)<|zO fF rfl (yA (yL sZ (xK (vI yB zW) zW) zW) (zU<|zF 7 uW.nd<|zFY<|yS 7) yQ)<|zO pP rfl (yA (yL sZ (xK (vI yB zW) zW) zW) (zU<|yV<|xV<|zZ (zXA (xV<|zZ zW zX)<|vM zW zP)<|zZ (zXA (xV<|zZ zW zX)<|vM zW zP) zX) yQ)<|zO eR rfl (zF 4 uW.nd<|zX0 (zX0 (zX9 (yS 4) mM<|rS<|yS 6)<|xV<|zZ (xD (yO (yS 4)<|yS 6)<|yS 7) zX)<|zX9 (yS 4) (rS<|xD (yS 6) zW) mM)<|zT (zF 5 uW.nd<|zX0 (zX0 (zX9 (yS 5) mM<|rS<|yS 6)<|xV<|zZ (xD (yO (yS 5)<|yS 6)<|yS 7) zX)<|zX9 (yS 5) (rS<|xD (yS 6) zW) mM)<|zU<|yV<|xV<|zZ (yS 4)<|zZ (yS 5) zX)
def pK:FnScope [A7,Ae,At,Bg,AB,"_law_name",BD] [A7,Ae,At,Bg]<|zV aY:=yP ja
def zZ8:Sf:=(xS<|w9<|zY (eIx (eL<|xA<|zY (eC<|.str Ax)<|zY (eC<|.str Ax)<|zY (eC<|.str Ax)<|zY (eC<|.str Ax)<|zY (eC<|.str AH)<|zY (eC<|.str AH)<|zY (eC<|.str AH)<|zY (eC<|.str AC) zS)<|wO eV4 jy)<|zY eV5<|zY eV6 zS)
def jA:jz:=fnF 7<|zH (yI 4<|yZ 3 vH<|zY eV0<|zY (eC<|.int 33)<|zY (eC<|.int 1000081) zS)<|zH (yI 5<|eIx eV3<|wO (uL eV4 jy) jx)<|zH (yI 6<|yZ 4 jF<|zY eV0<|zY eV1<|zY eV2<|zY (eC<|.int 64) zS)<|zH (sIf (eB2 gEq (wO (uL eV4<|eC<|.int 56) jy) jp) (yI 6<|yZ 3 nP<|zY eV0<|zY eV1<|zY eV2 zS) wC)<|zZ8
def zRo (T:!2):OkT P w base T.q9 4 4 jA :=wW (k:=3) T.q9.F pK λ_ _ _ _ _ _ hr=>(zT (zF 4 pK.nd<|xT (tU T) hr<|zZ zR<|zZ zW<|zZ zW zX)<|zT (zF 5 pK.nd<|yO yB<|xK (vI (yS 4) zW) zW)<|zT (zF 6 pK.nd<|xT (bI T) hr<|zZ zR<|zZ zP<|zZ zB<|zZ zW zX)<|zT (yA (yL sZ (xK (vI (yS 4) zW) zW) zW) (zU<|zF 6 pK.nd<|xT (zQ0 T) hr<|zZ zR<|zZ zP<|zZ zB zX) yQ)<|zU<|yV<|xV<|zZ (yO (wL<|xY<|zZ wX<|zZ wX<|zZ wX<|zZ wX<|zZ wX<|zZ wX<|zZ wX<|zZ wX zX)<|xK (yS 4) zW)<|zZ (yS 5)<|zZ (yS 6) zX)
def eO:FnScope [CP,"_law_told"] [CP]<|zV kZ:=yP ja
def sY:jz:=fnF 2<|zH (sIf (zIi (tB1<|zVj zEq eV0)<|sD<|tB1<|zVj cA eV0) (xS<|eC<|.str AF) wC)<|zH (yI 1<|eL<|xA<|zY (zVj zRG eV0)<|zY (zVj zWa eV0)<|zY (zVj zYx eV0) zS)<|zH (sIf (eB2 gNe (zTd<|iL eV1) jq) (xS<|eC<|.str AF) wC)<|xS<|eIx (eL<|xA<|zY (eC<|.str "twice")<|zY (eC<|.str "thing")<|zY (eC<|.str "floor") zS)<|zKi (iL eV1)<|eC<|.bl true
def zXN (T:!2):FnOkH P w K mg base 1 T.q10.f T.q10.fd [CP] (spF K 1 sY) :=zGw (k:=0) T.q10.F eO λj9 A outer s H hr=>(zT (yA (zLS<|zLP (wA<|zEQ (cs:=[T.X3,T.X4,T.X5,T.X6,T.X7]) (zDI T) (mL (cV (v:=.ref T.X3) J T.x3.mc J)<|mL (cV (v:=.ref T.X4) J T.x4.mc J)<|mL (cV (v:=.ref T.X5) J T.x5.mc J)<|mL (cV (v:=.ref T.X6) J T.x6.mc J)<|mL (cV (v:=.ref T.X7) J T.x7.mc J) zM9) (Qr J) rfl (!4) zR)<|zOi<|sW<|wA<|zHs (T:=AG) (TT:=AG) rfl (zWH T) (!4) rfl rfl (!4) zR) (zU<|yV wX) yQ)<|zT (zF 1 eO.nd<|wL<|xY<|zZ (zQ3 (zMY T) T.x1.mc J J (!4) zR)<|zZ (zQ3 (zRc T) T.x2.mc J J (!4) zR)<|zZ (zQ3 (zTb T) T.x0.mc J J (!4) zR) zX)<|zT (yA (yL zGM (zNa<|pQ Qm PySem.F.slot_list_count PySem.F.type_list_count (zLs hr.units) (gP zP)<|yX rO yK) zW) (zU<|yV wX) yQ)<|zU<|yV<|yO (wL<|xY<|zZ wX<|zZ wX<|zZ wX zX)<|zJu<|pQ Qm PySem.F.slot_list_index PySem.F.type_list_index (zKt hr.units) (gP zP)<|yX rO yK)
def zX4:FnScope [Aa,Ac,"places","halving"] [Aa,Ac]<|zV zQq:=yP ja
def zYO:Sf:=(yI 2<|fW eV2 jr)
def zWR:Sf:=(zH (yI 2 jq)<|zH (uG (iR<|fW eV0 eV1) (gN 3)<|zYO)<|xS eV2)
def zSP:jz:=fnF 4 zWR
def zOP (T:!2):OkT P w base T.q11 1 2 zSP :=wW (k:=0) T.q11.F zX4 λ_ _ _ _ _ _ hr=>(zO zWR J (zF 2 zX4.nd zW)<|zT (wQ Wi J (zXT J (!4)<|mE zR zP) (xU 3 zX4.nd)<|zU<|zF 2 zX4.nd<|mE zB zW)<|zU<|yV zB)
def iF:FnScope [Aa,Ac,Ar,"side"] [Aa,Ac,Ar]<|zV dQ:=yP ja
def bZ:Sf:=(xS<|zZQ (bQ<|eB2 gEq (nV eV2) eV0)<|zNd<|eL<|yJ (iT eV2) 1 [3] (gN 0) tOK<|bQ<|eB3 gLe gLt jp eV0 eV1)
def kD:Sf:=(zH (yI 3<|yZ 2 zSP<|zY jq (!11))<|bZ)
def sF:jz:=fnF 4 kD
def nW (T:!2):OkT P w base T.q12 2 3 sF :=wW (k:=1) T.q12.F iF λ_ _ _ _ _ _ hr=>(zO kD J (zF 3 iF.nd<|xT (zOP T) hr<|zZ zW<|zZ zP zX)<|zU<|yV<|zTq (zVY sZ (mI J (!4) zB) zR)<|zTU<|zKb rfl rfl (!4)<|wL<|wM iF Cb ["side"] (zIH zB) (λ_ _ _ _=>xX) λ_ _ _ _=>(zLo zVZ zL0 zW zR zP))
def dC:FnScope [A4,Aa,Ac,Bf,B1] [A4,Aa,Ac]<|zV aR:=yP ja
def zZR:Sf:=(xS<|zZQ (yZ 3 sF<|zY eV1<|zY eV2<|zY eV3 zS)<|yZ 3 sF<|zY eV1<|zY eV2<|zY eV4 zS)
def iI:Sf:=(zH (aF eV0<|gT<|zM (gN 3)<|zM (gN 4) xZ)<|zZR)
def gR:jz:=fnF 5 iI
def zYk (T:!2):OkT P w base T.q13 3 3 gR :=wW (k:=2) T.q13.F dC λ_ _ _ _ _ _ hr=>(zO iI J (pY zR<|oX 2 rfl (zK (xU 3 dC.nd)<|zK (xU 4 dC.nd) yD)<|yW<|yW xQ)<|zU<|yV<|zTq (xT (nW T) hr<|zZ zP<|zZ zB<|zZ yB zX)<|zTU<|xT (nW T) hr<|zZ zP<|zZ zB<|zZ (yS 4) zX)
def zPQ:FnScope [A4,Aa,Ac] [A4,Aa,Ac]<|zV zYH:=yP ja
def eG:Sf:=(sIf (sD<|tB1<|yZ 3 gR<|zY eV0<|zY eV1<|zY eV2 zS) (λ_=>none) wC)
def zUZ:Sf :=(eG)
def zYR:jz:=fnF 3 zUZ
def gZ:ki->kf:=(xIf (sD<|tB1<|yZ 3 gR<|zY eV0<|zY eV1<|zY eV2 zS) (aS Ao zR3) zIe)
def zYD:kd->kf:=fnX 3 gZ
def zWV (T:!2):FnOk P w K mg base (CXq P w) 4 T.q14.f T.q14.fd [A4,Aa,Ac] (spQ K 3 zYR zYD) :=dS (N:=[A4,Aa,Ac]) (ps:=[A4,Aa,Ac]) (k:=3) (body:=zUZ) (xb:=gZ) T.q14.F zPQ (λj9 A outer s H E hr=>(zU<|yA (sW<|wA<|xT (zYk T) hr<|zZ zR<|zZ zP<|zZ zB zX) (zU zZC) yQ)) λj9 A outer s H E hr=>(uC<|zPt (sW<|wA<|xT (zYk T) hr<|zZ zR<|zZ zP<|zZ zB zX) (uC<|cR T.x0.ca T.x0.xc rfl T.x0.mc T.x0.kc rfl rfl zXB zHa) zSV)
def zZT:FnScope [A0,A4] [A0,A4]<|zV qI:=yP ja
def sL:Sf:=(mN<|yZ 3 zYR<|zY eV1<|zY (yT Al Aa<|yT A1 An eV0)<|zY (yT A1 Ac eV0) zS)
def jD:Sf :=(sL)
def wY:jz:=fnF 2 jD
def uF:ki->kf:=(zMl 3 zYD<|zY eV1<|zY (yT Al Aa<|yT A1 An eV0)<|zY (yT A1 Ac eV0) zS)
def vG:kd->kf:=fnX 2 uF
def vU (T:!2):FnOk P w K mg base (CXq P w) 5 T.m15.f T.m15.fd [A0,A4] (spQ K 2 wY vG) :=dS (N:=[A0,A4]) (ps:=[A0,A4]) (k:=4) (body:=jD) (xb:=uF) T.m15.F zZT (λj9 A outer s H E hr=>(zU<|mG<|zRk (zWV T) (!13) T.q14.m T.q14.F.kp T.q14.b rfl<|zZ zP<|zZ (yN T.c1<|yN T.c4 zR)<|zZ (yN T.c4 zR) zX)) λj9 A outer s H E hr=>(uC<|zZr<|zL5 (zWV T) cS (!13) T.q14.m T.q14.F.kp T.q14.b rfl<|zZ zP<|zZ (yN T.c1<|yN T.c4 zR)<|zZ (yN T.c4 zR) zX)
def eM:FnScope [Ah,CQ,"ends"] [Ah,CQ]<|zV pT:=yP ja
def fZ:Sf:=(wN<|yJ (zPe (eL<|fY (xA<|zY jp zS)<|iL eV1) eV2) 2 [0] (gT<|zM (gN 0)<|zM (gN 1) xZ) tOK<|w9<|zY (eIx (eIx eV2 eV0) jp)<|zY (eIx (eIx eV2<|uT eV1 jq) jq) zS)
def oQ:Sf:=(zH (yI 2<|eL<|fY (iL eV1)<|xA<|zY (nV eV0) zS)<|fZ)
def sV:Sf:=(zH (sIf (sD<|zQ8 eV0) (wN<|xA zS) wC)<|oQ)
def kH:kd->ka:=fnL 3 sV
def zVT (T:!2):zQx P w base T.q16 1 2 kH :=sI (k:=0) T.q16.F eM λ_ _ _ _ _ _ hr=>(zO sV J (yA (sW<|zZI zR) (zU<|xC<|xY zX) yQ)<|zO oQ rfl (zF 2 eM.nd<|wL<|cZ (gP zP)<|zYg<|xY<|zZ (mI J (!4) zR) zX)<|zU<|xC<|iX (zV pT) [Ah,CQ,"ends"] ["start","end"] [Ah] [0] (zRL<|wT (kC 0)<|wT (kC 1) lW) (zOE J (!4) (wL<|cZ (zYg<|xY<|zZ zW zX)<|gP zP) zB) rfl rfl rfl ja (λ_ _ _ _=>(oX 2 J (zK (xU 0<|show(J0 ["start","end",Ah]) from ja)<|zK (xU 1<|show(J0 ["start","end",Ah]) from ja) yD)<|yW<|yW xQ)) (λ_ _ _ _=>xX) λ_ _ _ _=>(xV<|zZ (yO (yO zB zR) zW)<|zZ (yO (yO zB<|vM zP zW) zW) zX))
def zWD:FnScope [Ah,"at"] [Ah,"at"]<|zV lB:=yP ja
def oS:Sf:=(xS<|uT (uT (eIx (eIx eV0 eV1) jp)<|eIx (eIx eV0<|uT eV1 jq) jq) jq)
def pZ:jz:=fnF 2 oS
def zV3 (T:!2):OkT P w base T.q17 1 2 pZ :=wW (k:=0) T.q17.F zWD λ_ _ _ _ _ _ hr=>(zU<|yV<|vM (vM (yO (yO zR zP) zW)<|yO (yO zR<|vM zP zW) zW) zW)
def zUt:FnScope [Ah,BA,CQ] [Ah,BA]<|zV zZL:=yP ja
def zVI:Sf:=(zZA 2<|wN<|uN 2 kH<|zY eV0<|zY eV2 zS)
def iQ:Sf:=(zH (pS 2<|yJ (iR2 jq<|nV eV0) 1 [1,0] (gN 0) (eB2 gGt (yZ 2 pZ<|zY eV2<|zY eV0 zS) eV1) eV0)<|zVI)
def zWC:kd->ka:=fnL 3 iQ
def zNu (T:!2):zQx P w base T.q18 2 2 zWC :=sI (k:=1) T.q18.F zUt λ_ _ _ _ _ _ hr=>(zO iQ J (nG (zV zZL) [Ah,BA,CQ] ["at"] [BA,Ah] [1,0] (kC 0) 2 zUt.nd rfl rfl (zDS J (!4) zW<|mI rfl (!4) zR) rfl rfl rfl ja (λ_ _ _ _=>(xU 0<|show(J0 ["at",BA,Ah]) from ja)) (λ_ _ _ _=>(qT<|yL zDP (xT (zV3 T) hr<|zZ zB<|zZ zR zX) zP)) λ_ _ _ _=>zR)<|zU<|kG 2<|xC<|zWT (zVT T) hr<|zZ zR<|zZ zB zX)
def zVq:FnScope [Bf,B1] [Bf,B1]<|zV oE:=yP ja
def mH:Sf:=(xS<|zNd<|eL<|yJ (zWr eV0 eV1) 2 [] (gT<|zM (gN 0)<|zM (gN 1) xZ) tOK<|bQ<|eB2 gLe eV0 eV1)
def rG:jz:=fnF 2 mH
def kI (T:!2):OkT P w base T.q19 1 2 rG :=wW (k:=0) T.q19.F zVq λ_ _ _ _ _ _ hr=>(zU<|yV<|zKb rfl rfl (!4)<|wL<|iX (zV oE) [Bf,B1] [Bm,Ay] [] [] (zRL<|wT (kC 0)<|wT (kC 1) lW) (zSY J (!4) zR zP) rfl rfl rfl ja (λ_ _ _ _=>(oX 2 J (zK (xU 0<|show(J0 [Bm,Ay]) from ja)<|zK (xU 1<|show(J0 [Bm,Ay]) from ja) yD)<|yW<|yW xQ)) (λ_ _ _ _=>xX) λ_ _ _ _=>(zVY zVZ zR zP))
def jO:FnScope [Ck,AF,Bf,B1] [Ck,AF]<|zV zVL:=yP ja
def zVA:Sf:=(xS<|eIf (tB1<|yZ 2 rG<|zY eV2<|zY eV3 zS) (w9<|zY eV2<|zY eV3 zS)<|eC .non)
def zWE:jz:=fnF 4<|zH (yI 2<|vP<|eL<|yJ (zWr (eIx eV0 jp)<|eIx eV1 jp) 1 [] (gN 0) tOK<|zGT eV0)<|zH (yI 3<|vP<|eL<|yJ (zWr (eIx eV0 jq)<|eIx eV1 jq) 1 [] (gN 0) tOK<|zGC eV0)<|zVA
def zM0 (T:!2):OkT P w base T.q20 2 2 zWE :=wW (k:=1) T.q20.F jO λ_ _ _ _ _ _ hr=>(zT (zF 2 jO.nd<|vB rfl (!4)<|wL<|wM jO "pair" [] (zOf J (!4) (yO zR zW)<|yO zP zW) (λ_ _ _ _=>xX) λ_ _ _ _=>(zH6 J J (!4) zR))<|zT (zF 3 jO.nd<|vB rfl (!4)<|wL<|wM jO "pair" [] (zOf J (!4) (yO zR zW)<|yO zP zW) (λ_ _ _ _=>xX) λ_ _ _ _=>(zI6 J J (!4) zR))<|zU<|yV<|zR0 (wA<|xT (kI T) hr<|zZ zB<|zZ yB zX) (xV<|zZ zB<|zZ yB zX) zT9)
def qU:FnScope [A4,Bf,B1,"places",Bm,Ay] [A4]<|zV zW6:=yP ja
def fE:Sf:=(yI 3<|zQN eV3<|uB (uT eV5 eV4) jq)
def bJ:Sf:=(zH (aF eV0<|gT<|zM (gN 1)<|zM (gN 2) xZ)<|zH (yI 3 jq)<|zH (uG (zWr eV1 eV2) (gT<|zM (gN 4)<|zM (gN 5) xZ)<|fE)<|xS eV3)
def eZ:jz:=fnF 6 bJ
def zU2 (T:!2):OkT P w base T.q21 1 1 eZ :=wW (k:=0) T.q21.F qU λ_ _ _ _ _ _ hr=>(zO bJ J (pY zR<|oX 2 rfl (zK (xU 1 qU.nd)<|zK (xU 2 qU.nd) yD)<|yW<|yW xQ)<|zT (zF 3 qU.nd zW)<|zT (wQ Wi J (zSY J (!4) zP zB) (oX 2 J (zK (xU 4 qU.nd)<|zK (xU 5 qU.nd) yD)<|yW<|yW xQ)<|zU<|zF 3 qU.nd<|zSL yB<|xD (vM (yS 5)<|yS 4) zW)<|zU<|yV yB)
def zNq:FnScope [An,AL,"number"] [An,AL,"number"]<|zV zXi:=yP ja
def bL:Sf:=(xS<|eIf (tB1 eV1) (uT (uT (nV<|yT Al AE eV0) jq) eV2) eV2)
def zWG:jz:=fnF 3 bL
def zN0 (T:!2):OkT P w base T.q22 1 3 zWG :=wW (k:=0) T.q22.F zNq λ_ _ _ _ _ _ hr=>(zU<|yV<|zR0 (wA zP) (vM (vM (mI J (!4)<|yN T.c1 zR) zW) zB) zB)
def zLu:FnScope [Ck,AF] [Ck,AF]<|zV zX2:=yP ja
def zYE:Sf:=(xS<|vP<|eL<|yJ (iT eV0) 2 [1] (gT<|zM (gN 0)<|zM (gN 1) xZ) tOK<|w9<|zY (eIx (eIx eV2 eV0) jp)<|zY (zF2 (eIx (eIx eV2 eV0) jq) eV1) zS)
def zT0:jz:=fnF 2 zYE
def zJE (T:!2):OkT P w base T.q23 1 2 zT0 :=wW (k:=0) T.q23.F zLu λ_ _ _ _ _ _ hr=>(zU<|yV<|vB rfl (!4)<|wL<|iX (zV zX2) [Ck,AF] [CZ,"flip"] [AF] [1] (zRL<|wT (kC 0)<|wT (kC 1) lW) (zIH zR) rfl rfl rfl ja (λ_ _ _ _=>(oX 2 J (zK (xU 0<|show(J0 [CZ,"flip",AF]) from ja)<|zK (xU 1<|show(J0 [CZ,"flip",AF]) from ja) yD)<|yW<|yW xQ)) (λ_ _ _ _=>xX) λ_ _ _ _=>(xV<|zZ (yO (yO zB zR) zW)<|zZ (zKc (yO (yO zB zR) zW) zP) zX))
def zN4:FnScope [AK,Aj] [AK,Aj]<|zV zZx:=yP ja
def bN:Sf:=(xS<|vP<|eL<|yJ (iT eV0) 2 [1] (gT<|zM (gN 0)<|zM (gN 1) xZ) tOK<|zF2 (eIx eV2 eV0) eV1)
def zW1:jz:=fnF 2 bN
def zNx (T:!2):OkT P w base T.q24 1 2 zW1 :=wW (k:=0) T.q24.F zN4 λ_ _ _ _ _ _ hr=>(zU<|yV<|vB rfl (!4)<|wL<|iX (zV zZx) [AK,Aj] [CZ,"flip"] [Aj] [1] (zRL<|wT (kC 0)<|wT (kC 1) lW) (zIH zR) rfl rfl rfl ja (λ_ _ _ _=>(oX 2 J (zK (xU 0<|show(J0 [CZ,"flip",Aj]) from ja)<|zK (xU 1<|show(J0 [CZ,"flip",Aj]) from ja) yD)<|yW<|yW xQ)) (λ_ _ _ _=>xX) λ_ _ _ _=>(zKc (yO zB zR) zP))
def mU:FnScope [An,BP,"digit",AK,AL,"part",Ca] [An,BP,"digit"]<|zV zYG:=yP ja
def zYz:Sf:=(xS<|w9<|zY (yZ 2 zW1<|zY eV3<|zY (yT AW Aj eV5) zS)<|zY eV6 zS)
def fL:Sf:=(zH (aF eV1<|gT<|zM (gN 3)<|zM (gN 4) xZ)<|zH (yI 5<|eIx (yT Al AE eV0)<|yZ 3 zWG<|zY eV0<|zY eV4<|zY eV2 zS)<|zH (yI 6<|w9<|zY (yZ 2 zT0<|zY eV3<|zY (yT AW AK eV5) zS)<|zY (bQ<|eB2 gNe eV4<|yT AW AL eV5) zS)<|zYz)
def zYY:jz:=fnF 7 fL
def zQs (T:!2):OkT P w base T.q25 2 3 zYY :=wW (k:=1) T.q25.F mU λ_ _ _ _ _ _ hr=>(zO fL J (pY zP<|oX 2 rfl (zK (xU 3 mU.nd)<|zK (xU 4 mU.nd) yD)<|yW<|yW xQ)<|zT (zF 5 mU.nd<|yO (yN T.c1 zR)<|xT (zN0 T) hr<|zZ zR<|zZ (yS 4)<|zZ zB zX)<|zT (zF 6 mU.nd<|xV<|zZ (xT (zJE T) hr<|zZ yB<|zZ (yN T.c0<|yS 5) zX)<|zZ (zVY zGM (yS 4)<|yN T.c0<|yS 5) zX)<|zU<|yV<|xV<|zZ (xT (zNx T) hr<|zZ yB<|zZ (yN T.c0<|yS 5) zX)<|zZ (yS 6) zX)
def sK:FnScope [Bv,Aj,Bf,B1,CO,"near","far"] [Bv,Aj]<|zV cU:=yP ja
def fH:Sf:=(zH (aF eV0<|gT<|zM (gN 2)<|zM (gN 3) xZ)<|zH (yI 4<|uL (uB (uT (eIx eV3 jp)<|eIx eV2 jp) jq) jr)<|zH (yI 5<|vP<|eL<|yJ (zWr eV2 eV1) 2 [4] (gT<|zM (gN 0)<|zM (gN 1) xZ) tOK<|uB eV0<|zQN eV2 eV1)<|zH (yI 6<|vP<|eL<|yJ (iT eV5) 1 [4] (gN 0) tOK<|uT (uB eV0 eV1) jq)<|xS<|w9<|zY eV5<|zY eV6 zS)
def zZa:jz:=fnF 7 fH
def zQk (T:!2):OkT P w base T.q26 1 2 zZa :=wW (k:=0) T.q26.F sK λ_ _ _ _ _ _ hr=>(zO fH J (pY zR<|oX 2 rfl (zK (xU 2 sK.nd)<|zK (xU 3 sK.nd) yD)<|yW<|yW xQ)<|zT (zF 4 sK.nd<|vI (xD (vM (yO yB zW)<|yO zB zW) zW) zW)<|zT (zF 5 sK.nd<|vB rfl (!4)<|wL<|iX (zV cU) [Bv,Aj,Bf,B1,CO,"near","far"] [Cb,"bit"] [CO] [4] (zRL<|wT (kC 0)<|wT (kC 1) lW) (zSY J (!4) zB zP) rfl rfl rfl ja (λ_ _ _ _=>(oX 2 J (zK (xU 0<|show(J0 [Cb,"bit",CO]) from ja)<|zK (xU 1<|show(J0 [Cb,"bit",CO]) from ja) yD)<|yW<|yW xQ)) (λ_ _ _ _=>xX) λ_ _ _ _=>(xD zR<|zSL zB zP))<|zT (zF 6 sK.nd<|vB rfl (!4)<|wL<|wM sK Cb [CO] (zIH<|yS 5) (λ_ _ _ _=>xX) λ_ _ _ _=>(vM (xD zR zP) zW))<|zU<|yV<|xV<|zZ (yS 5)<|zZ (yS 6) zX)
def qQ:FnScope [An,A4,BP,Bv,Am,"shared","step","told","digit",Aj,Ca] [An,A4,BP,Bv,Am]<|zV zXm:=yP ja
def zYm (self:kd->ka):Sf:=(zVh 7<|uN 5 self<|zY eV0<|zY eV5<|zY (eV 10)<|zY (yZ 2 zZa<|zY eV3<|zY (eV 9) zS)<|zY (uB eV4<|zQN (eV 8) eV6) zS)
def eD (self:kd->ka):Sf:=(zH (aF (yZ 3 zYY<|zY eV0<|zY eV2<|zY (eV 8) zS)<|gT<|zM (gN 9)<|zM (gN 10) xZ)<|zYm self)
def zPZ (self:kd->ka):Sf:=(zU0 7)
def zWB (self:kd->ka):Sf:=(zH (uG (iR<|nV<|yT Al AE eV0) (gN 8)<|eD self)<|zPZ self)
def zXr (self:kd->ka):Sf:=(zH (pS 7<|xA zS)<|zWB self)
def zWL (self:kd->ka):Sf:=(zH (yI 6<|zGH (yZ 1 eZ<|zY eV3 zS)<|nV<|yT Al AE eV0)<|zXr self)
def zW3 (self:kd->ka):Sf:=(zH (sIf (eB2 zM8 eV5 eV3) (wN<|xA<|zY (w9<|zY eV4<|zY (uT (uB eV4<|yZ 1 eZ<|zY eV3 zS) jq) zS) zS) wC)<|zWL self)
def zWP (self:kd->ka):Sf:=(zH (sIf (eB2 zDE eV5<|eC .non) (wN<|xA zS) wC)<|zW3 self)
def zVS (self:kd->ka):Sf:=(zH (yI 5<|yZ 2 zWE<|zY eV1<|zY eV3 zS)<|zWP self)
def zS6 (self:kd->ka):Sf :=(zVS self)
def jS:Nat->kd->ka
 | 0=>λ_=>none
 | n+1=>fnL 11<|zS6<|jS n
abbrev zR1:kd->ka:=jS 9
def zPM (T:!2)(n:Nat)(self:kd->ka)(IH:FnOk P w K mg base CX0 (3+n) T.q27.f T.q27.fd [An,A4,BP,Bv,Am]<|spL K 5 self):FnOk P w K mg base CX0 (3+n+1) T.q27.f T.q27.fd [An,A4,BP,Bv,Am] (spL K 5<|fnL 11<|zS6 self) :=sI (k:=3+n) T.q27.F qQ λ_ _ _ _ _ _ hr=>(zO (zVS self) J (zF 5 qQ.nd<|xT (zM0 T) hr<|zZ zP<|zZ yB zX)<|zO (zWP self) rfl (yA (yL zEO (yS 5) zT9) (zU<|xC<|xY zX) yQ)<|zO (zW3 self) rfl (yA (yL (zLB hr) (yS 5) yB) (zU<|xC<|xY<|zZ (xV<|zZ (yS 4)<|zZ (vM (xD (yS 4)<|xT (zU2 T) hr<|zZ yB zX) zW) zX) zX) yQ)<|zO (zWL self) rfl (zF 6 qQ.nd<|zHW (xT (zU2 T) hr<|zZ yB zX)<|mI rfl (!4)<|yN T.c1 zR)<|zO (zXr self) rfl (oU 7 qQ.nd<|xY zX)<|zO (zWB self) rfl (wQ Wi J (zXT J (!4)<|mI rfl (!4)<|yN T.c1 zR) (xU 8 qQ.nd)<|zO (eD self) rfl (pY (xT (zQs T) hr<|zZ zR<|zZ zB<|zZ (yS 8) zX)<|oX 2 rfl (zK (xU 9 qQ.nd)<|zK (xU 10 qQ.nd) yD)<|yW<|yW xQ)<|zU<|zP4 7<|pQ Qm Yy Yu zYL (pv 7)<|yX (zWT IH hr<|zZ zR<|zZ (yS 5)<|zZ (yS 10)<|zZ (xT (zQk T) hr<|zZ yB<|zZ (yS 9) zX)<|zZ (xD (yS 4)<|zSL (yS 8)<|yS 6) zX) yK)<|zU<|zXy 7)
theorem zWK (T:!2):∀n:Nat,FnOk P w K mg base CX0 (3+n) T.q27.f T.q27.fd [An,A4,BP,Bv,Am]<|spL K 5<|jS n
 | 0=>zYF
 | n+1=>zPM T n _<|zWK T n
def zMD (T:!2):zQx P w base T.q27 12 5 zR1:=zWK T 9
def zR2:FnScope [Aa] [Aa]<|zV zTz:=yP ja
def zPh:jz:=fnF 1<|xS<|vP<|eL<|yJ (iR eV0) 1 [] (gN 0) tOK<|w9<|zY eV0<|zY jp zS
def zMd (T:!2):OkT P w base T.q28 1 1 zPh :=wW (k:=0) T.q28.F zR2 λ_ _ _ _ _ _ hr=>(zU<|yV<|vB rfl (!4)<|wL<|wM zR2 CZ [] (zXT J (!4) zR) (λ_ _ _ _=>xX) λ_ _ _ _=>(xV<|zZ zR<|zZ zW zX))
def zXt:FnScope [Aa] [Aa]<|zV kU:=yP ja
def kB:jz:=fnF 1<|xS<|w9<|zY (yZ 1 zPh<|zY eV0 zS)<|zY (eC<|.bl false) zS
def zWx (T:!2):OkT P w base T.q29 2 1 kB :=wW (k:=1) T.q29.F zXt λ_ _ _ _ _ _ hr=>(zU<|yV<|xV<|zZ (xT (zMd T) hr<|zZ zR zX)<|zZ rO zX)
def pB:FnScope [An,Ac,A4,"edge","floor"] [An,Ac,A4]<|zV nM:=yP ja
def jM:Sf:=(wN<|uN 2 zWC<|zY (eL<|uN 5 zR1<|zY eV0<|zY eV2<|zY (yZ 1 kB<|zY (yT Al Aa eV0) zS)<|zY eV4<|zY jp zS)<|zY jp zS)
def qJ:Sf:=(zH (yI 4<|w9<|zY (zV2 (w9<|zY jp zS)<|yT Al Aa eV0)<|zY (zV2 (w9<|zY eV3 zS)<|yT Al Aa eV0) zS)<|jM)
def tH:Sf:=(zH (yI 3<|uT (yZ 2 zSP<|zY jq (!11)) jq)<|qJ)
def xJ:kd->ka:=fnL 5 tH
def zXX (T:!2):zQx P w base T.q30 13 3 xJ :=sI (k:=12) T.q30.F pB λ_ _ _ _ _ _ hr=>(zO tH J (zF 3 pB.nd<|vM (xT (zOP T) hr<|zZ zW<|zZ zP zX) zW)<|zO qJ rfl (zF 4 pB.nd<|xV<|zZ (zXA (xV<|zZ zW zX)<|yN T.c1 zR)<|zZ (zXA (xV<|zZ yB zX)<|yN T.c1 zR) zX)<|zU<|xC<|zWT (zNu T) hr<|zZ (wL<|zWT (zMD T) hr<|zZ zR<|zZ zB<|zZ (xT (zWx T) hr<|zZ (yN T.c1 zR) zX)<|zZ (yS 4)<|zZ zW zX)<|zZ zW zX)
def zVn:FnScope [A0,A4] [A0,A4]<|zV iU:=yP ja
def mB:Sf:=(wN<|uN 3 xJ<|zY (yT A1 An eV0)<|zY (yT A1 Ac eV0) (!11))
def vT:kd->ka:=fnL 2 mB
def pU (T:!2):FnOk P w K mg base CX0 14 T.m31.f T.m31.fd [A0,A4] (spL K 2 vT) :=sI (k:=13) T.m31.F zVn λ_ _ _ _ _ _ hr=>(zU<|xC<|zWT (zXX T) hr<|zZ (yN T.c4 zR)<|zZ (yN T.c4 zR)<|zZ zP zX)
def bA:FnScope [Cr,AN] [Cr]<|zV zYJ:=yP ja
def eS:Sf:=(zH (sIf (sD<|zQ8 eV0) (xS<|nC A2 [Ap,A5,AI,Ay] 2 nZ<|zY (eC<|.bl true)<|zY (eL<|xA zS) zS) wC)<|zH (yI 1<|nC A2 [Ap,A5,AI,Ay] 2 nZ<|zY (eC<|.bl false)<|zY eV0 zS)<|zH (kM (bV (sD<|tB1<|yT A2 Ap eV1)<|eB2 gEq (nV<|yT A2 A5 eV1) jq) (yI 1<|eIx (yT A2 A5 eV1) jp) 18)<|xS eV1)
def cQ:jz:=fnF 2 eS
def zW5 (T:!2):OkT P w base T.q32 3 1 cQ :=wW (k:=2) T.q32.F bA λ_ _ _ _ _ _ hr=>(zO eS J (yA (sW<|zZI zR) (zU<|yV<|qG T.c2.ca T.c2.k (jJ T) (!13) T.c2.mc T.c2.t.b rfl<|zZ rO<|zZ (wL<|xY zX) zX) yQ)<|zT (zF 1 bA.nd<|qG T.c2.ca T.c2.k (jJ T) (!13) T.c2.mc T.c2.t.b rfl<|zZ rO<|zZ zR zX)<|zT (zUV 18 Wi (zLS<|zTQ (sW<|wA<|yN T.c2 zP)<|zWX<|yL sZ (mI J (!4)<|yN T.c2 zP) zW)<|zU<|zF 1 bA.nd<|yO (yN T.c2 zP) zW)<|zU<|yV zP)
def zX6:FnScope [A8,Am,AM,A6] [A8]<|zV zQB:=yP ja
def sA:jz:=fnF 4<|zH (aF eV0<|gT<|zM (gN 1)<|zM (gN 2)<|zM (gN 3) xZ)<|xS<|w9<|zY eV1<|zY eV3 zS
def zZt (T:!2):OkT P w base T.q33 1 1 sA :=wW (k:=0) T.q33.F zX6 λ_ _ _ _ _ _ hr=>(zT (pY zR<|oX 3 rfl (zK (xU 1 zX6.nd)<|zK (xU 2 zX6.nd)<|zK (xU 3 zX6.nd) yD)<|yW<|yW<|yW xQ)<|zU<|yV<|xV<|zZ zP<|zZ yB zX)
def zJq:FnScope ["branch",A8,"ahead"] ["branch",A8]<|zV zNN:=yP ja
def zPd:Sf:=(xS<|zI4 (uT (zR5 2) jq) jp)
def zWo:jz:=fnF 3<|zH (pS 2<|yJ (iL<|yT A2 AI eV0) 1 [1] (gN 0) (eB2 zOm (yZ 1 sA<|zY eV0 zS)<|yZ 1 sA (!11)) eV0)<|zPd
def zPK (T:!2):OkT P w base T.q34 2 2 zWo :=wW (k:=1) T.q34.F zJq λ_ _ _ _ _ _ hr=>(zT (nG (zV zNN) ["branch",A8,"ahead"] [Bm] [A8] [1] (kC 0) 2 zJq.nd J J (cG<|yN T.c2 zR) J J J ja (λ_ _ _ _=>(xU 0<|show(J0 [Bm,A8]) from ja)) (λ_ _ _ _=>(qT<|yL (zHL hr) (xT (zZt T) hr<|zZ zR zX)<|xT (zZt T) hr<|zZ zP zX)) λ_ _ _ _=>zR)<|zU<|yV<|zKS rfl rfl (!4) (vM (zOk 2 J (!4)) zW) zW)
def kR:FnScope [Ai,A8,"alike"] [Ai,A8]<|zV nX:=yP ja
def fK:Sf:=(zZA 2<|xS<|eIf (zQ8 eV2) (eIx eV2 jp)<|eC .non)
def tG:jz:=fnF 3<|zH (kM (sD<|tB1<|yT A2 Ap eV0) (yI 0<|eIx (yT A2 A5 eV0)<|yZ 2 zWo<|zY eV0 (!11)) 18)<|zH (pS 2<|yJ (iL<|yT A2 A5 eV0) 1 [1] (gN 0) (eB2 zM8 (yZ 1 sA<|zY eV0 zS)<|yZ 1 sA (!11)) eV0)<|fK
def bX (T:!2):OkT P w base T.q35 3 2 tG :=wW (k:=2) T.q35.F kR λ_ _ _ _ _ _ hr=>(zT (zUV 18 Wi (sW<|wA<|yN T.c2 zR)<|zU<|zF 0 kR.nd<|yO (yN T.c2 zR)<|xT (zPK T) hr<|zZ zR<|zZ zP zX)<|zT (nG (zV nX) [Ai,A8,"alike"] [AF] [A8] [1] (kC 0) 2 kR.nd J J (cG<|yN T.c2 zR) J J J ja (λ_ _ _ _=>(xU 0<|show(J0 [AF,A8]) from ja)) (λ_ _ _ _=>(qT<|yL (zLB hr) (xT (zZt T) hr<|zZ zR zX)<|xT (zZt T) hr<|zZ zP zX)) λ_ _ _ _=>zR)<|zU<|kG 2<|yV<|zR0 (zZI zB) (yO zB zW) zT9)
def zYi:FnScope [Ap,A5,Af,CO] [Ap,A5,Af]<|zV aX:=yP ja
def zZK:Sf:=(xS<|eL<|xA<|zY (nC A2 [Ap,A5,AI,Ay] 2 nZ<|zY eV0<|zY (eL<|vN eV1 oNo<|vX eV3) zS)<|zY (nC A2 [Ap,A5,AI,Ay] 2 nZ<|zY eV0<|zY (eL<|vN eV1 (vX eV3) oNo) zS) zS)
def iA:Sf:=(zH (sIf (sD<|zQ8 eV1) (xS<|eL<|xA zS) wC)<|zH (sIf (eB2 gLe (nV eV1) eV2) (xS<|eL<|xA<|zY (nC A2 [Ap,A5,AI,Ay] 2 nZ<|zY eV0 (!11)) zS) wC)<|zH (yI 3<|uL (nV eV1) jr)<|zZK)
def sP:jz:=fnF 4 iA
def pF (T:!2):OkT P w base T.q36 3 3 sP :=wW (k:=2) T.q36.F zYi λ_ _ _ _ _ _ hr=>(zO iA J (yA (sW<|zZI zP) (zU<|yV<|wL<|xY zX) yQ)<|zT (yA (yL zVZ (mI J (!4) zP) zB) (zU<|yV<|wL<|xY<|zZ (qG T.c2.ca T.c2.k (jJ T) (!13) T.c2.mc T.c2.t.b rfl<|zZ zR<|zZ zP zX) zX) yQ)<|zT (zF 3 zYi.nd<|vI (mI J (!4) zP) zW)<|zU<|yV<|wL<|xY<|zZ (qG T.c2.ca T.c2.k (jJ T) (!13) T.c2.mc T.c2.t.b rfl<|zZ zR<|zZ (wL<|tQ zP mM<|rS yB) zX)<|zZ (qG T.c2.ca T.c2.k (jJ T) (!13) T.c2.mc T.c2.t.b rfl<|zZ zR<|zZ (wL<|tQ zP (rS yB) mM) zX) zX)
def mF:FnScope [Ai,A8,Af,"at",Ca] [Ai,A8,Af]<|zV kO:=yP ja
def gG (self:jz):Sf:=(xS<|yZ 3 sP<|zY (eC<|.bl false)<|zY (eL<|fY (fY (vN (yT A2 A5 eV0) oNo<|vX eV3)<|iL eV4)<|vN (yT A2 A5 eV0) (vX<|uB eV3 jq) oNo)<|zY eV2 zS)
def gL (self:jz):Sf:=(zH (yI 4<|yZ 3 self<|zY (eIx (yT A2 A5 eV0) eV3)<|zY eV1<|zY eV2 zS)<|gG self)
def gF (self:jz):Sf:=(zH (yI 3<|yZ 2 zWo<|zY eV0 (!11))<|gL self)
def oV (self:jz):Sf:=(zH (sIf (tB1<|yT A2 Ap eV0) (xS<|yZ 3 sP<|zY (eC<|.bl true)<|zY (eL<|zSE sA<|fY (iL<|yT A2 A5 eV0)<|xA (!11))<|zY eV2 zS) wC)<|gF self)
def cB (self:jz):Sf :=(oV self)
def rY:Nat->kd->qi
 | 0=>λ_=>none
 | n+1=>fnF 5<|cB<|rY n
abbrev bU:jz:=rY 16
def zXZ (T:!2)(n:Nat)(self:jz)(IH:FnOk P w K mg base CX0 (7+n) T.q37.f T.q37.fd [Ai,A8,Af]<|spF K 3 self):FnOk P w K mg base CX0 (7+n+1) T.q37.f T.q37.fd [Ai,A8,Af] (spF K 3<|fnF 5<|cB self) :=wW (k:=7+n) T.q37.F mF λ_ _ _ _ _ _ hr=>(zO (oV self) J (yA (wA<|yN T.c2 zR) (zU<|yV<|xT (pF T) hr<|zZ rO<|zZ (wL<|zLt (zZt T) hr rfl (!4)<|zYg<|cZ (gP<|yN T.c2 zR)<|zYg<|xY<|zZ zP zX)<|zZ zB zX) yQ)<|zO (gF self) rfl (zF 3 mF.nd<|xT (zPK T) hr<|zZ zR<|zZ zP zX)<|zO (gL self) rfl (zF 4 mF.nd<|xT IH hr<|zZ (yO (yN T.c2 zR) yB)<|zZ zP<|zZ zB zX)<|zU<|yV<|xT (pF T) hr<|zZ rO<|zZ (wL<|zQi (cZ (zYg<|tQ (yN T.c2 zR) mM<|rS yB)<|gP<|yS 4)<|tQ (yN T.c2 zR) (rS<|xD yB zW) mM)<|zZ zB zX)
theorem gC (T:!2):∀n:Nat,FnOk P w K mg base CX0 (7+n) T.q37.f T.q37.fd [Ai,A8,Af]<|spF K 3<|rY n
 | 0=>zQV
 | n+1=>zXZ T n _<|gC T n
def zWf (T:!2):OkT P w base T.q37 23 3 bU:=gC T 16
def zTl:FnScope [A0,A8] [A0,A8]<|zV dI:=yP ja
def pJ:Tf:=(eB2 zQc (yZ 2 tG<|zY (cC 0 Ad AN) (!11))<|eC .non)
def lP:Ef:=(yZ 1 cQ<|zY (yZ 3 bU<|zY (cC 0 Ad AN)<|zY eV1<|zY (cC 0 Ad Af) zS) zS)
def oA:kg->kd->kd->ka:=λns=>fnM 2 Ad ns AN pJ lP
def zVi (T:!2)(ns:kg):FnOk P w K mg base CX0 24 T.m38.f T.m38.fd [A0,A8] (spM K Ad ns 1<|oA ns) :=zKY (N:=[A0,A8]) (ps:=[A8]) (k:=23) (tt:=pJ) (fe:=lP) T.m38.F zTl T.c3.ca T.c3.cl (T.c3.n _ ja) J (λj9 A outer s H E hr=>(yL zJI (xT (bX T) hr<|zZ (cN 0 T.c3.ca T.c3.cl<|T.c3.n _ ja)<|zZ zP zX) zT9)) (λj9 A outer s H E hr=>(xT (zW5 T) hr<|zZ (xT (zWf T) hr<|zZ (cN 0 T.c3.ca T.c3.cl<|T.c3.n _ ja)<|zZ zP<|zZ (cN 0 T.c3.ca T.c3.cl<|T.c3.n _ ja) zX) zX)) rfl<|Or.inl rfl
def dX:FnScope [A0,A6,A4,Am,AM] [A0,A6,A4]<|zV aV:=yP ja
def kY:Sf:=(zPD 0 Ad Ax 1 oA<|zY (w9<|zY eV3<|zY eV4 (!11)) zS)
def aK:Sf:=(zKN 0 eV1 eV2)
def hW:Sf:=(zH (uG (iL<|kW 0 3<|eL<|vK A1 Ah 2 vT eV0<|zY eV2 zS) (gT<|zM (gN 3)<|zM (gN 4) xZ)<|kY)<|aK)
def zV9:Kf:=(kOf<|hW)
def lE:kn->D->kd->qc:=fnW 5 zV9
def zZv (T:!2):FnOk P w K mg base CX0 25 T.m39.f T.m39.fd [A0,A6,A4] (spW K 2 lE) :=zXw (N:=[A0,A6,A4,Am,AM]) (sf:=A0) (ps:=[A6,A4]) (k:=24) (f:=zV9) T.m39.F dX λ_ _ _ _ _ _ hr=>(zTY<|zO hW rfl (wQ Wi J (cG<|jC 0 3<|wL<|rP T.c4.ca T.c4.cl T.m31.me (pU T) (!13) T.m31.b zR<|zZ zB zX) (oX 2 J (zK (xU 3 dX.nd)<|zK (xU 4 dX.nd) yD)<|yW<|yW xQ)<|zU<|zRt 0 T.c4.ca T.c4.cl (T.c4.n _ ja) T.c3.ca T.c3.cl T.m38.me (zVi T) (!13) T.m38.b<|zZ (xV<|zZ yB<|zZ (yS 4)<|zZ zP zX) zX)<|zU<|zIc 0 hr T.c4.ca T.c4.cl (T.c4.n _ ja) zB zP)
def zY1:FnScope [A0,A6,A4] [A0,A6,A4]<|zV bH:=yP ja
def iO:Sf:=(zH (mN<|kW 0 3<|qZ A1 Au 2 wY eV0<|zY eV2 zS)<|oR 0 A1 "lay" 2 lE<|zY eV1<|zY eV2 zS)
def zV4:Kf:=(kOf<|zH (sIf (zQ7 0 3<|zVX true eV1<|yT A1 AZ eV0) (λ_=>none) wC)<|iO)
def sC:kn->D->kd->qc:=fnW 3 zV4
def zTy (T:!2):FnOk P w K mg base CX0 26 T.m40.f T.m40.fd [A0,A6,A4] (spW K 2 sC) :=zXw (N:=[A0,A6,A4]) (sf:=A0) (ps:=[A6,A4]) (k:=25) (f:=zV4) T.m40.F zY1 λ_ _ _ _ _ _ hr=>(zTY<|zT (yA (zKw 0 3<|zJG hr zP<|yN T.c4 zR) (zU zZC) yQ)<|zO iO rfl (mG<|jC 0 3<|nE T.c4.ca T.c4.cl T.m15.me ((vU T).ans) (!13) T.m15.b zR<|zZ zB zX)<|zU<|jQ 0 T.c4.ca T.c4.cl T.m39.me (zZv T) (!13) T.m39.b<|zZ zP<|zZ zB zX)
def zSo:jz:=fnF 3 λ_=>none
def lV:ki->kf:=(zER (zVX true eV1<|yT A1 AZ eV0) (aS AR<|zVz (qC "a thing ")<|zVz (qS eV1)<|zVz (qC " is there") zR3)<|pI A1 Au 2 vG eV0<|zY eV2 zS)
def iN:kd->kf:=fnX 3 lV
def zSD (T:!2):FnOk P w K mg base (CXq P w) 26 T.m40.f T.m40.fd [A0,A6,A4] (spQ K 3 zSo iN) :=dS (N:=[A0,A6,A4]) (ps:=[A0,A6,A4]) (k:=25) (body:=λ_=>none) (xb:=lV) T.m40.F zY1 (λj9 A outer s H E hr=>zZb) λj9 A outer s H E hr=>(zMR (zJG hr zP<|yN T.c4 zR) (uC<|cR T.x1.ca T.x1.xc rfl T.x1.mc T.x1.kc rfl rfl zXB<|zR8 (zJ5 zLJ<|zJ5 (zGP zP)<|zJ5 zLJ zE3) rfl jb)<|uC<|zZr<|fJ T.c4.ca T.c4.cl T.m15.me (vU T) cS (!13) T.m15.b zR<|zZ zB zX)
def zYP:FnScope [A0,A6] [A0,A6]<|zV oP:=yP ja
def rC:Sf:=(sIf (zVX false eV1<|yT A1 AZ eV0) (λ_=>none) wC)
def gJ:Sf :=(rC)
def uS:jz:=fnF 2 gJ
def tI:ki->kf:=(xIf (zVX false eV1<|yT A1 AZ eV0) (aS As<|zVz (qC "no thing ")<|zVz (qS eV1) zR3) zIe)
def sT:kd->kf:=fnX 2 tI
def vF (T:!2):FnOk P w K mg base (CXq P w) 3 T.m41.f T.m41.fd [A0,A6] (spQ K 2 uS sT) :=dS (N:=[A0,A6]) (ps:=[A0,A6]) (k:=2) (body:=gJ) (xb:=tI) T.m41.F zYP (λj9 A outer s H E hr=>(zU<|yA (zVd hr zP<|yN T.c4 zR) (zU zZC) yQ)) λj9 A outer s H E hr=>(uC<|zPt (zVd hr zP<|yN T.c4 zR) (uC<|cR T.x2.ca T.x2.xc rfl T.x2.mc T.x2.kc rfl rfl zXB<|zR8 (zJ5 zLJ<|zJ5 (zGP zP) zE3) rfl jb) zSV)
def zVg:FnScope [A0,A6] [A0,A6]<|zV hU:=yP ja
def eQ:Sf:=(xS<|zVb (yT A1 AZ eV0) eV1)
def rD:Sf:=(zH (mN<|qZ A1 AA 2 uS eV0 (!11))<|eQ)
def zZP:Sf :=(rD)
def rH:jz:=fnF 2 zZP
def kK:ki->kf:=(pI A1 AA 2 sT eV0 (!11))
def nY:kd->kf:=fnX 2 kK
def cF (T:!2):FnOk P w K mg base (CXq P w) 4 T.m42.f T.m42.fd [A0,A6] (spQ K 2 rH nY) :=dS (N:=[A0,A6]) (ps:=[A0,A6]) (k:=3) (body:=zZP) (xb:=kK) T.m42.F zVg (λj9 A outer s H E hr=>(zO rD J (mG<|nE T.c4.ca T.c4.cl T.m41.me ((vF T).ans) (!13) T.m41.b zR<|zZ zP zX)<|zU<|yV<|zOR hr (yN T.c4 zR) zP)) λj9 A outer s H E hr=>(uC<|zZr<|fJ T.c4.ca T.c4.cl T.m41.me (vF T) cS (!13) T.m41.b zR<|zZ zP zX)
def jR:FnScope [Cr,Af,"few","start",A5,Ai] [Cr,Af]<|zV aA:=yP ja
def zYj:Sf:=(zVh 4<|iL<|yT A2 A5 eV5)
def zVF:Sf:=(zZA 4<|xS<|eL<|fY (fY (vN eV0 oNo<|vX eV3)<|iL<|yZ 3 sP<|zY (yT A2 Ap<|eIx eV0 jp)<|zY eV4 (!11))<|vN eV0 (vX<|uB eV3 jr) oNo)
def zXd:jz:=fnF 6<|zH (pS 2<|yJ (zJR<|iL eV0) 2 [1] (gT<|zM (gN 0)<|zM (gN 1) xZ) (eB2 gLt (nV<|yT A2 A5 eV1)<|uL eV2 jr) eV0)<|zH (zZA 2<|sIf (sD<|zQ8 eV2) (xS eV0) wC)<|zH (yI 3<|zI4 (uT (eIx eV2 jp) jq) jp)<|zH (pS 4<|xA zS)<|zH (uG (vN eV0 (vX eV3)<|vX<|uB eV3 jr) (gN 5)<|zYj)<|zVF
def zNG (T:!2):OkT P w base T.q43 4 2 zXd :=wW (k:=3) T.q43.F jR λ_ _ _ _ _ _ hr=>(zT (nG (zV aA) [Cr,Af,"few","start",A5,Ai] ["at",Ai] [Af] [1] (zRL<|wT (kC 0)<|wT (kC 1) lW) 2 jR.nd rfl rfl (zIt J (!4)<|gP zR) rfl rfl rfl ja (λ_ _ _ _=>(oX 2 J (zK (xU 0<|show(J0 ["at",Ai,Af]) from ja)<|zK (xU 1<|show(J0 ["at",Ai,Af]) from ja) yD)<|yW<|yW xQ)) (λ_ _ _ _=>(qT<|yL zL0 (mI J (!4)<|yN T.c2 zP)<|vI zB zW)) λ_ _ _ _=>zR)<|zT (kG 2<|yA (sW<|zZI zB) (zU<|yV zR) yQ)<|zT (zF 3 jR.nd<|zKS rfl rfl (!4) (vM (yO zB zW) zW) zW)<|zT (oU 4 jR.nd<|xY zX)<|zT (wQ Wi J (zJt<|tQ zR (rS yB)<|rS<|xD yB zW) (xU 5 jR.nd)<|zU<|zHH 4<|pQ Qm Yy Yu zIB (pv 4)<|yX (gP<|yN T.c2<|yS 5) yK)<|zU<|kG 4<|yV<|wL<|zQi (cZ (zYg<|tQ zR mM<|rS yB)<|gP<|xT (pF T) hr<|zZ (yN T.c2<|yO zR zW)<|zZ (yS 4)<|zZ zP zX)<|tQ zR (rS<|xD yB zW) mM)
def tN:FnScope [Ai,A8,Af,"at",Ca] [Ai,A8,Af]<|zV oW:=yP ja
def lS (self:jz):Sf:=(xS<|yZ 3 sP<|zY (eC<|.bl false)<|zY (yZ 2 zXd<|zY (eL<|fY (fY (vN (yT A2 A5 eV0) oNo<|vX eV3)<|iL eV4)<|vN (yT A2 A5 eV0) (vX<|uB eV3 jq) oNo)<|zY eV2 zS)<|zY eV2 zS)
def lN (self:jz):Sf:=(zH (yI 4<|yZ 3 self<|zY (eIx (yT A2 A5 eV0) eV3)<|zY eV1<|zY eV2 zS)<|lS self)
def lU (self:jz):Sf:=(zH (yI 3<|yZ 2 zWo<|zY eV0 (!11))<|lN self)
def rJ (self:jz):Sf:=(zH (sIf (tB1<|yT A2 Ap eV0) (xS<|yZ 3 sP<|zY (eC<|.bl true)<|zY (eL<|yJ (iL<|yT A2 A5 eV0) 1 [1] (gN 0) (eB2 bE eV0 eV1) eV0)<|zY eV2 zS) wC)<|lU self)
def gO (self:jz):Sf :=(rJ self)
def uZ:Nat->kd->qi
 | 0=>λ_=>none
 | n+1=>fnF 5<|gO<|uZ n
abbrev gM:jz:=uZ 16
def zZU (T:!2)(n:Nat)(self:jz)(IH:FnOk P w K mg base CX0 (5+n) T.q44.f T.q44.fd [Ai,A8,Af]<|spF K 3 self):FnOk P w K mg base CX0 (5+n+1) T.q44.f T.q44.fd [Ai,A8,Af] (spF K 3<|fnF 5<|gO self) :=wW (k:=5+n) T.q44.F tN λ_ _ _ _ _ _ hr=>(zO (rJ self) J (yA (wA<|yN T.c2 zR) (zU<|yV<|xT (pF T) hr<|zZ rO<|zZ (wL<|wM tN AF [A8] (cG<|yN T.c2 zR) (λ_ _ _ _=>(qT<|yL (zWg hr) zR zP)) λ_ _ _ _=>zR)<|zZ zB zX) yQ)<|zO (lU self) rfl (zF 3 tN.nd<|xT (zPK T) hr<|zZ zR<|zZ zP zX)<|zO (lN self) rfl (zF 4 tN.nd<|xT IH hr<|zZ (yO (yN T.c2 zR) yB)<|zZ zP<|zZ zB zX)<|zU<|yV<|xT (pF T) hr<|zZ rO<|zZ (xT (zNG T) hr<|zZ (wL<|zQi (cZ (zYg<|tQ (yN T.c2 zR) mM<|rS yB)<|gP<|yS 4)<|tQ (yN T.c2 zR) (rS<|xD yB zW) mM)<|zZ zB zX)<|zZ zB zX)
theorem lR (T:!2):∀n:Nat,FnOk P w K mg base CX0 (5+n) T.q44.f T.q44.fd [Ai,A8,Af]<|spF K 3<|uZ n
 | 0=>zQV
 | n+1=>zZU T n _<|lR T n
def zYT (T:!2):OkT P w base T.q44 21 3 gM:=lR T 16
def zVs:FnScope [A0,A8] [A0,A8]<|zV jB:=yP ja
def rN:Tf:=(eB2 bE (yZ 2 tG<|zY (cC 0 Ad AN) (!11)) eV1)
def nU:Ef:=(yZ 1 cQ<|zY (yZ 3 gM<|zY (cC 0 Ad AN)<|zY eV1<|zY (cC 0 Ad Af) zS) zS)
def qB:kg->kd->kd->ka:=λns=>fnM 2 Ad ns AN rN nU
def zWu (T:!2)(ns:kg):FnOk P w K mg base CX0 22 T.m45.f T.m45.fd [A0,A8] (spM K Ad ns 1<|qB ns) :=zKY (N:=[A0,A8]) (ps:=[A8]) (k:=21) (tt:=rN) (fe:=nU) T.m45.F zVs T.c3.ca T.c3.cl (T.c3.n _ ja) J (λj9 A outer s H E hr=>(yL (zWg hr) (xT (bX T) hr<|zZ (cN 0 T.c3.ca T.c3.cl<|T.c3.n _ ja)<|zZ zP zX) zP)) (λj9 A outer s H E hr=>(xT (zW5 T) hr<|zZ (xT (zYT T) hr<|zZ (cN 0 T.c3.ca T.c3.cl<|T.c3.n _ ja)<|zZ zP<|zZ (cN 0 T.c3.ca T.c3.cl<|T.c3.n _ ja) zX) zX)) rfl<|Or.inl rfl
def oF:FnScope [A0,A6,Am,AM] [A0,A6]<|zV dH:=yP ja
def mT:Sf:=(zPD 0 Ad AC 1 qB<|zY (w9<|zY eV2<|zY eV3 (!11)) zS)
def cE:Sf:=(zJl 0 eV1)
def kN:Sf:=(zH (uG (iL<|kW 0 3<|eL<|vK A1 Ah 2 vT eV0<|zY (qZ A1 Bj 2 rH eV0 (!11)) zS) (gT<|zM (gN 2)<|zM (gN 3) xZ)<|mT)<|cE)
def zY2:Kf:=(kOf<|kN)
def tM:kn->D->kd->qc:=fnW 4 zY2
def cD (T:!2):FnOk P w K mg base CX0 23 T.m46.f T.m46.fd [A0,A6] (spW K 1 tM) :=zXw (N:=[A0,A6,Am,AM]) (sf:=A0) (ps:=[A6]) (k:=22) (f:=zY2) T.m46.F oF λ_ _ _ _ _ _ hr=>(zTY<|zO kN rfl (wQ Wi J (cG<|jC 0 3<|wL<|rP T.c4.ca T.c4.cl T.m31.me (pU T) (!13) T.m31.b zR<|zZ (nE T.c4.ca T.c4.cl T.m42.me ((cF T).ans) (!13) T.m42.b zR<|zZ zP zX) zX) (oX 2 J (zK (xU 2 oF.nd)<|zK (xU 3 oF.nd) yD)<|yW<|yW xQ)<|zU<|zRt 0 T.c4.ca T.c4.cl (T.c4.n _ ja) T.c3.ca T.c3.cl T.m45.me (zWu T) (!13) T.m45.b<|zZ (xV<|zZ zB<|zZ yB<|zZ zP zX) zX)<|zU<|zH8 0 T.c4.ca T.c4.cl (T.c4.n _ ja) zP)
def zTc:jz:=fnF 4 λ_=>none
def zZ2:ki->kf:=(zGO A1 Ah eV0<|pI A1 Bj 2 nY eV0 (!11))
def lG:kd->kf:=fnX 4 zZ2
def zVk (T:!2):FnOk P w K mg base (CXq P w) 23 T.m46.f T.m46.fd [A0,A6] (spQ K 2 zTc lG) :=dS (N:=[A0,A6,Am,AM]) (ps:=[A0,A6]) (k:=22) (body:=λ_=>none) (xb:=zZ2) T.m46.F oF (λj9 A outer s H E hr=>zZb) λj9 A outer s H E hr=>(uC<|zIY<|zQd T.c4.ca T.c4.cl T.m31.me (pU T) (!13) T.m31.b zR<|fJ T.c4.ca T.c4.cl T.m42.me (cF T) cS (!13) T.m42.b zR<|zZ zP zX)
def zZq:FnScope [A0,A6,A4] [A0,A6,A4]<|zV fQ:=yP ja
def kP:Sf:=(zH (mN<|kW 0 3<|qZ A1 Au 2 wY eV0<|zY eV2 zS)<|zH (oR 0 A1 AC 1 tM (!11))<|oR 0 A1 "lay" 2 lE<|zY eV1<|zY eV2 zS)
def zYt:Kf:=(kOf<|zH (mN<|kW 0 3<|qZ A1 AA 2 uS eV0 (!11))<|kP)
def sB:kn->D->kd->qc:=fnW 3 zYt
def zVw (T:!2):FnOk P w K mg base CX0 26 T.m47.f T.m47.fd [A0,A6,A4] (spW K 2 sB) :=zXw (N:=[A0,A6,A4]) (sf:=A0) (ps:=[A6,A4]) (k:=25) (f:=zYt) T.m47.F zZq λ_ _ _ _ _ _ hr=>(zTY<|zT (mG<|jC 0 3<|nE T.c4.ca T.c4.cl T.m41.me ((vF T).ans) (!13) T.m41.b zR<|zZ zP zX)<|zO kP rfl (mG<|jC 0 3<|nE T.c4.ca T.c4.cl T.m15.me ((vU T).ans) (!13) T.m15.b zR<|zZ zB zX)<|zT (jQ 0 T.c4.ca T.c4.cl T.m46.me (cD T) (!13) T.m46.b<|zZ zP zX)<|zU<|jQ 0 T.c4.ca T.c4.cl T.m39.me (zZv T) (!13) T.m39.b<|zZ zP<|zZ zB zX)
def zUb:jz:=fnF 3 λ_=>none
def oH:ki->kf:=(zOu (pI A1 AA 2 sT eV0 (!11)) (qZ A1 AA 2 uS eV0 (!11))<|pI A1 Au 2 vG eV0<|zY eV2 zS)
def lT:kd->kf:=fnX 3 oH
def zVv (T:!2):FnOk P w K mg base (CXq P w) 26 T.m47.f T.m47.fd [A0,A6,A4] (spQ K 3 zUb lT) :=dS (N:=[A0,A6,A4]) (ps:=[A0,A6,A4]) (k:=25) (body:=λ_=>none) (xb:=oH) T.m47.F zZq (λj9 A outer s H E hr=>zZb) λj9 A outer s H E hr=>(zRJ (fJ T.c4.ca T.c4.cl T.m41.me (vF T) cS (!13) T.m41.b zR<|zZ zP zX) (nE T.c4.ca T.c4.cl T.m41.me ((vF T).ans) (!13) T.m41.b zR<|zZ zP zX)<|uC<|zZr<|fJ T.c4.ca T.c4.cl T.m15.me (vU T) cS (!13) T.m15.b zR<|zZ zB zX)
def lD:FnScope [B5,AT,BY,CP] [B5,AT]<|zV bP:=yP ja
def zSH:Kf:=(zD9 eV2)
def oB:Kf:=(zLp (kOf<|sOr (zML qA (xIf (eB2 gEq (eIx eV1 jp)<|eC<|.str Ax) (zVK 0<|pI A1 Ax 3 iN eV0 (!36))<|xIf (eB2 gEq (eIx eV1 jp)<|eC<|.str AH) (zVK 0<|pI A1 AH 3 lT eV0 (!36))<|zVK 0<|pI A1 AC 2 lG eV0<|zY (eIx eV1 jq) zS) 3<|yI 2<|yZ 1 sY<|zY eV3 zS)<|sNx<|sIf (eB2 gEq (eIx eV1 jp)<|eC<|.str Ax) (oR 0 A1 Ax 2 sC (!36))<|sIf (eB2 gEq (eIx eV1 jp)<|eC<|.str AH) (oR 0 A1 AH 2 sB (!36))<|oR 0 A1 AC 1 tM<|zY (eIx eV1 jq) zS) zSH)
def aH:Kf:=(zLp (kOf<|yI 2<|eC<|.str "ok") oB)
def zXg:Kf:=aH
def xM:kn->D->kd->qc:=fnW 4 zXg
def aD (T:!2):FnOk P w K mg base CX0 27 T.q48.f T.q48.fd [B5,AT] (spW K 1 xM) :=zXw (N:=[B5,AT,BY,CP]) (sf:=B5) (ps:=[AT]) (k:=26) (f:=zXg) T.q48.F lD λ_ _ _ _ _ _ hr=>(zS3 aH J (zGW<|zF 2 lD.nd wX)<|zS3 oB rfl (zGW<|zEC (zI7 (i:=3) (zVo T) (zOS zJK (yL sZ (yO zP zW) wX) (zYN 0<|zWb<|zY5 zJK T.c4.ca T.c4.cl T.m40.me (zSD T) (!13) T.m40.b zR<|zZ (yO zP zW)<|zZ (yO zP zW) zX)<|zOS zJK (yL sZ (yO zP zW) wX) (zYN 0<|zWb<|zY5 zJK T.c4.ca T.c4.cl T.m47.me (zVv T) (!13) T.m47.b zR<|zZ (yO zP zW)<|zZ (yO zP zW) zX)<|zYN 0<|zWb<|zY5 zJK T.c4.ca T.c4.cl T.m46.me (zVk T) (!13) T.m46.b zR<|zZ (yO zP zW) zX) J J J T.x8.mc lD.nd λ_=>(zU<|zF 2 lD.nd<|zDK (zXN T) hr.uM<|zZ yB zX))<|zIk<|yA (yL sZ (yO zP zW) wX) (zU<|jQ 0 T.c4.ca T.c4.cl T.m40.me (zTy T) (!13) T.m40.b<|zZ (yO zP zW)<|zZ (yO zP zW) zX)<|zU<|yA (yL sZ (yO zP zW) wX) (zU<|jQ 0 T.c4.ca T.c4.cl T.m47.me (zVw T) (!13) T.m47.b<|zZ (yO zP zW)<|zZ (yO zP zW) zX)<|zU<|jQ 0 T.c4.ca T.c4.cl T.m46.me (cD T) (!13) T.m46.b<|zZ (yO zP zW) zX)<|zF1<|zFH zB)
def sR:FnScope [Ai,"entries",Ca] [Ai]<|zV rV:=yP ja
def tY (self:kd->ka):Sf:=(zVh 1<|uN 1 self<|zY eV2 zS)
def cH (self:kd->ka):Sf:=(zU0 1)
def oM (self:kd->ka):Sf:=(zH (uG (iL<|yT A2 A5 eV0) (gN 2)<|tY self)<|cH self)
def oN (self:kd->ka):Sf:=(zH (pS 1<|xA zS)<|oM self)
def vJ (self:kd->ka):Sf:=(zH (sIf (tB1<|yT A2 Ap eV0) (wN<|aG<|yT A2 A5 eV0) wC)<|oN self)
def lC (self:kd->ka):Sf :=(vJ self)
def xO:Nat->kd->ka
 | 0=>λ_=>none
 | n+1=>fnL 3<|lC<|xO n
abbrev lL:kd->ka:=xO 16
def cL (T:!2)(n:Nat)(self:kd->ka)(IH:FnOk P w K mg base CX0 (1+n) T.q49.f T.q49.fd [Ai]<|spL K 1 self):FnOk P w K mg base CX0 (1+n+1) T.q49.f T.q49.fd [Ai] (spL K 1<|fnL 3<|lC self) :=sI (k:=1+n) T.q49.F sR λ_ _ _ _ _ _ hr=>(zO (vJ self) J (yA (wA<|yN T.c2 zR) (zU<|xC<|zZc rfl (!4)<|yN T.c2 zR) yQ)<|zO (oN self) rfl (oU 1 sR.nd<|xY zX)<|zO (oM self) rfl (wQ Wi J (cG<|yN T.c2 zR) (xU 2 sR.nd)<|zU<|zP4 1<|pQ Qm Yy Yu zYL (pv 1)<|yX (zWT IH hr<|zZ zB zX) yK)<|zU<|zXy 1)
theorem oI (T:!2):∀n:Nat,FnOk P w K mg base CX0 (1+n) T.q49.f T.q49.fd [Ai]<|spL K 1<|xO n
 | 0=>zYF
 | n+1=>cL T n _<|oI T n
def bB (T:!2):zQx P w base T.q49 17 1 lL:=oI T 16
def zXY:FnScope [A0] [A0]<|zV lZ:=yP ja
def qW:Sf:=(wN<|uN 1 lL<|zY (yT Ad AN eV0) zS)
def tX:kd->ka:=fnL 1 qW
def gE (T:!2):FnOk P w K mg base CX0 18 T.m50.f T.m50.fd [A0] (spL K 1 tX) :=sI (k:=17) T.m50.F zXY λ_ _ _ _ _ _ hr=>(zU<|xC<|zWT (bB T) hr<|zZ (yN T.c3 zR) zX)
def zVr:FnScope [A0] [A0]<|zV iG:=yP ja
def mO:Sf:=(wN<|eY<|yT A1 AZ eV0)
def zZG:kd->ka:=fnL 1 mO
def zVp (T:!2):FnOk P w K mg base CX0 1 T.m51.f T.m51.fd [A0] (spL K 1 zZG) :=sI (k:=0) T.m51.F zVr λ_ _ _ _ _ _ hr=>(zU<|xC<|zS5 rfl rfl (!4)<|yN T.c4 zR)
def zWN : FnScope [A4, Ar, Bf, B1] [A4, Ar] (zV zT1) := yP ja
def zUf:Sf:=(xS<|zZQ (yZ 2 rG<|zY eV2 (!11))<|yZ 2 rG<|zY eV1<|zY eV3 zS)
def zYV:Sf:=(zH (aF eV0<|gT<|zM (gN 2)<|zM (gN 3) xZ)<|zUf)
def zXx:jz:=fnF 4 zYV
def zSy (T : Txt K mg) : OkT P w base T.q52 2 2 zXx :=wW (k:=1) T.q52.F zWN λ_ _ _ _ _ _ hr=>(zO zYV J (pY zR<|oX 2 rfl (zK (xU 2 zWN.nd)<|zK (xU 3 zWN.nd) yD)<|yW<|yW xQ)<|zU<|yV<|zTq (xT (kI T) hr<|zZ zB<|zZ zP zX)<|zTU<|xT (kI T) hr<|zZ zP<|zZ yB zX)
def zYZ:FnScope [Ck,AF,Bf,B1] [Ck,AF]<|zV zXo:=yP ja
def zWp:Sf:=(xS<|zZQ (yZ 2 zXx<|zY eV1<|zY eV2 zS)<|yZ 2 zXx<|zY eV1<|zY eV3 zS)
def aZ:Sf:=(zH (aF eV0<|gT<|zM (gN 2)<|zM (gN 3) xZ)<|zWp)
def zZu:jz:=fnF 4 aZ
def zNw (T:!2):OkT P w base T.q53 3 2 zZu :=wW (k:=2) T.q53.F zYZ λ_ _ _ _ _ _ hr=>(zO aZ J (pY zR<|oX 2 rfl (zK (xU 2 zYZ.nd)<|zK (xU 3 zYZ.nd) yD)<|yW<|yW xQ)<|zU<|yV<|zTq (xT (zSy T) hr<|zZ zP<|zZ zB zX)<|zTU<|xT (zSy T) hr<|zZ zP<|zZ yB zX)
def wJ:FnScope [Ai,Am,AM,"entries",Bm,Ca] [Ai,Am,AM]<|zV sJ:=yP ja
def uH (self:kd->ka):Sf:=(sIf (bV (eB2 gLe (eIx eV4 jp) eV2)<|eB2 gLe eV1<|yT A2 Ay eV5) (zVh 3<|uN 3 self<|zY eV5<|zY eV1<|zY eV2 zS) wC)
def eB (self:kd->ka):Sf:=(zU0 3)
def pO (self:kd->ka):Sf:=(zH (uG (zPe (yT A2 AI eV0)<|yT A2 A5 eV0) (gT<|zM (gN 4)<|zM (gN 5) xZ)<|uH self)<|eB self)
def pD (self:kd->ka):Sf:=(zH (pS 3<|xA zS)<|pO self)
def tV (self:kd->ka):Sf:=(zH (sIf (tB1<|yT A2 Ap eV0) (wN<|yJ (iL<|yT A2 A5 eV0) 1 [2,1] (gN 0) (bV (eB2 gLe (eIx eV0 jp) eV1)<|eB2 gLe eV2<|eIx eV0 jq) eV0) wC)<|pD self)
def nA (self:kd->ka):Sf :=(tV self)
def wK:Nat->kd->ka
 | 0=>λ_=>none
 | n+1=>fnL 6<|nA<|wK n
abbrev mK:kd->ka:=wK 16
def dF (T:!2)(n:Nat)(self:kd->ka)(IH:FnOk P w K mg base CX0 (1+n) T.q54.f T.q54.fd [Ai,Am,AM]<|spL K 3 self):FnOk P w K mg base CX0 (1+n+1) T.q54.f T.q54.fd [Ai,Am,AM] (spL K 3<|fnL 6<|nA self) :=sI (k:=1+n) T.q54.F wJ λ_ _ _ _ _ _ hr=>(zO (tV self) J (yA (wA<|yN T.c2 zR) (zU<|xC<|wM wJ A8 [AM,Am] (cG<|yN T.c2 zR) (λ_ _ _ _=>(qT<|zLS<|zTQ (yL zVZ (yO zR zW) zP)<|zWX<|yL zVZ zB<|yO zR zW)) λ_ _ _ _=>zR) yQ)<|zO (pD self) rfl (oU 3 wJ.nd<|xY zX)<|zO (pO self) rfl (wQ Wi J (zOE J (!4) (yN T.c2 zR)<|yN T.c2 zR) (oX 2 J (zK (xU 4 wJ.nd)<|zK (xU 5 wJ.nd) yD)<|yW<|yW xQ)<|zU<|yA (zLS<|zTQ (yL zVZ (yO (yS 4) zW) zB)<|zWX<|yL zVZ zP<|yN T.c2<|yS 5) (zU<|zP4 3<|pQ Qm Yy Yu zYL (pv 3)<|yX (zWT IH hr<|zZ (yS 5)<|zZ zP<|zZ zB zX) yK) yQ)<|zU<|zXy 3)
theorem pM (T:!2):∀n:Nat,FnOk P w K mg base CX0 (1+n) T.q54.f T.q54.fd [Ai,Am,AM]<|spL K 3<|wK n
 | 0=>zYF
 | n+1=>dF T n _<|pM T n
def cM (T:!2):zQx P w base T.q54 17 3 mK:=pM T 16
def zZS:FnScope [A0,Am,AM] [A0,Am,AM]<|zV qN:=yP ja
def sO:Sf:=(wN<|uN 3 mK<|zY (yT Ad AN eV0)<|zY eV1<|zY eV2 zS)
def tL:kd->ka:=fnL 3 sO
def lM (T:!2):FnOk P w K mg base CX0 18 T.m55.f T.m55.fd [A0,Am,AM] (spL K 3 tL) :=sI (k:=17) T.m55.F zZS λ_ _ _ _ _ _ hr=>(zU<|xC<|zWT (cM T) hr<|zZ (yN T.c3 zR)<|zZ zP<|zZ zB zX)
def uR:FnScope [A0,A4,"met",Am,AM,A8] [A0,A4]<|zV nJ:=yP ja
def lQ:Sf:=(zGB 2 (eIx eV5 jr)<|eC<|.bl true)
def rZ:Sf:=(uG (iL<|eL<|vK Ad AV 3 tL (yT A1 BR eV0)<|zY eV3<|zY eV4 zS) (gN 5)<|lQ)
def jT:Sf:=(wN<|zPp 2<|eY eV2)
def qM:Sf:=(zH (mN<|qZ A1 Au 2 wY eV0 (!11))<|zH (zKC 2)<|zH (uG (iL<|eL<|vK A1 Ah 2 vT eV0 (!11)) (gT<|zM (gN 3)<|zM (gN 4) xZ)<|rZ)<|jT)
def tR:kd->ka:=fnL 6 qM
def gK (T:!2):FnOk P w K mg base CX0 19 T.m56.f T.m56.fd [A0,A4] (spL K 2 tR) :=sI (k:=18) T.m56.F uR λ_ _ _ _ _ _ hr=>(zO qM J (mG<|nE T.c4.ca T.c4.cl T.m15.me ((vU T).ans) (!13) T.m15.b zR<|zZ zP zX)<|zT (zLn 2 uR.nd)<|zT (wQ Wi J (cG<|wL<|rP T.c4.ca T.c4.cl T.m31.me (pU T) (!13) T.m31.b zR<|zZ zP zX) (oX 2 J (zK (xU 3 uR.nd)<|zK (xU 4 uR.nd) yD)<|yW<|yW xQ)<|zU<|wQ Wi rfl (cG<|wL<|rP T.c3.ca T.c3.cl T.m55.me (lM T) (!13) T.m55.b (yN T.c4 zR)<|zZ yB<|zZ (yS 4) zX) (xU 5 uR.nd)<|zU<|zHI 2 hr rO<|yO (yS 5) zW)<|zU<|xC<|zSb 2<|zS5 rfl rfl (!4) zB)
def eF:FnScope [A0,A4] [A0,A4]<|zV lA:=yP ja
def pA:Sf:=(wN<|yJ (iL<|eL<|vK A1 BN 2 tR eV0 (!11)) 1 [1,0] (gN 0) (tB1<|yZ 2 zZu<|zY (zVb (yT A1 AZ eV2) eV0) (!11)) eV0)
def kA:kd->ka:=fnL 2 pA
def zXu (T:!2):FnOk P w K mg base CX0 20 T.m57.f T.m57.fd [A0,A4] (spL K 2 kA) :=sI (k:=19) T.m57.F eF λ_ _ _ _ _ _ hr=>(zU<|xC<|wM eF A6 [A4,A0] (cG<|wL<|rP T.c4.ca T.c4.cl T.m56.me (gK T) (!13) T.m56.b zR<|zZ zP zX) (λ_ _ _ _=>(qT<|wA<|xT (zNw T) hr<|zZ (zOR hr (yN T.c4 zB) zR)<|zZ zP zX)) λ_ _ _ _=>zR)
def zTv:FnScope [Aa,Ac,Ar] [Aa,Ac,Ar]<|zV dU:=yP ja
def kT:Sf:=(sIf (sD<|tB1<|yZ 3 sF<|zY eV0<|zY eV1<|zY eV2 zS) (λ_=>none) wC)
def zYd:Sf :=(kT)
def dR:jz:=fnF 3 zYd
def aL:ki->kf:=(xIf (sD<|tB1<|yZ 3 sF<|zY eV0<|zY eV1<|zY eV2 zS) (aS Ao zR3) zIe)
def zRu:kd->kf:=fnX 3 aL
def zTD (T:!2):FnOk P w K mg base (CXq P w) 3 T.q58.f T.q58.fd [Aa,Ac,Ar] (spQ K 3 dR zRu) :=dS (N:=[Aa,Ac,Ar]) (ps:=[Aa,Ac,Ar]) (k:=2) (body:=zYd) (xb:=aL) T.q58.F zTv (λj9 A outer s H E hr=>(zU<|yA (sW<|wA<|xT (nW T) hr<|zZ zR<|zZ zP<|zZ zB zX) (zU zZC) yQ)) λj9 A outer s H E hr=>(uC<|zPt (sW<|wA<|xT (nW T) hr<|zZ zR<|zZ zP<|zZ zB zX) (uC<|cR T.x0.ca T.x0.xc rfl T.x0.mc T.x0.kc rfl rfl zXB zHa) zSV)
def zSI:FnScope [Ar,A4,Bf,B1,"gaps"] [Ar,A4]<|zV zPf:=yP ja
def zTf:Sf:=(zH (aF eV1<|gT<|zM (gN 2)<|zM (gN 3) xZ)<|zH (pS 4<|yJ (zKH eV0 eV2 eV3) 3 [] (gT<|zM (gN 0)<|zM (gN 1)<|zM (gN 2) xZ) tOK<|zOq jp (uT eV1 eV0)<|uT eV0 eV2)<|zZA 4<|xS<|zRq<|iL eV4)
def zY0:jz:=fnF 5 zTf
def zFL (T:!2):OkT P w base T.q59 1 2 zY0 :=wW (k:=0) T.q59.F zSI λ_ _ _ _ _ _ hr=>(zO zTf J (pY zP<|oX 2 rfl (zK (xU 2 zSI.nd)<|zK (xU 3 zSI.nd) yD)<|yW<|yW xQ)<|zT (nG (zV zPf) [Ar,A4,Bf,B1,"gaps"] [Cb,Bm,Ay] [] [] (zRL<|wT (kC 0)<|wT (kC 1)<|wT (kC 2) lW) 4 zSI.nd J J (zHT J (!4) zR zB yB) J J J ja (λ_ _ _ _=>(oX 3 J (zK (xU 0<|show(J0 [Cb,Bm,Ay]) from ja)<|zK (xU 1<|show(J0 [Cb,Bm,Ay]) from ja)<|zK (xU 2<|show(J0 [Cb,Bm,Ay]) from ja) yD)<|yW<|yW<|yW xQ)) (λ_ _ _ _=>xX) λ_ _ _ _=>(zHG J J (!4) zW (vM zP zR)<|vM zR zB))<|zU<|kG 4<|yV<|zIT rfl rfl (!4)<|gP<|yS 4)
def zXR:FnScope [A0,Ar,"many"] [A0,Ar,"many"]<|zV rQ:=yP ja
def jX:Sf:=(wN<|vN (eL<|zTP<|yJ (iIt<|yT A1 AZ eV0) 2 [1] (gT<|zM (gN 0)<|zM (gN 1) xZ) tOK<|w9<|zY (yZ 2 zY0<|zY eV2 (!11))<|zY eV0 zS) oNo<|vX eV2)
def qV:Sf:=(zH (mN<|yZ 3 dR<|zY (yT Al Aa<|yT A1 An eV0)<|zY (yT A1 Ac eV0) (!11))<|jX)
def mZ:kd->ka:=fnL 3 qV
def zXU (T:!2):FnOk P w K mg base CX0 4 T.m60.f T.m60.fd [A0,Ar,"many"] (spL K 3 mZ) :=sI (k:=3) T.m60.F zXR λ_ _ _ _ _ _ hr=>(zO qV J (mG<|zRk (zTD T) (!13) T.q58.m T.q58.F.kp T.q58.b rfl<|zZ (yN T.c1<|yN T.c4 zR)<|zZ (yN T.c4 zR)<|zZ zP zX)<|zU<|xC<|tQ (wL<|zJo rfl (!4)<|zYg<|iX (zV rQ) [A0,Ar,"many"] [A6,A4] [Ar] [1] (zRL<|wT (kC 0)<|wT (kC 1) lW) (zDt<|yN T.c4 zR) rfl rfl rfl ja (λ_ _ _ _=>(oX 2 J (zK (xU 0<|show(J0 [A6,A4,Ar]) from ja)<|zK (xU 1<|show(J0 [A6,A4,Ar]) from ja) yD)<|yW<|yW xQ)) (λ_ _ _ _=>xX) λ_ _ _ _=>(xV<|zZ (xT (zFL T) hr<|zZ zB<|zZ zP zX)<|zZ zR zX)) mM<|rS zB)
def vV:FnScope [A0,"pairs",Am,AM,Ck,A8] [A0]<|zV mR:=yP ja
def rW:Sf:=(sIf (eB2 zFV eV4<|eIx eV5 jr) (zGF 1 (zY eV4<|zY (eIx eV5 jr) zS)<|eC<|.bl true) wC)
def rT:Sf:=(uG (iL<|eL<|vK Ad AV 3 tL (yT A1 BR eV0)<|zY eV2<|zY eV3 zS) (gN 5)<|rW)
def jL:Sf:=(wN<|zQn 1)
def qY:Sf:=(zH (zJY 1)<|zH (uG (iL<|eL<|vK Ad Bs 1 tX (yT A1 BR eV0) zS) (gT<|zM (gN 2)<|zM (gN 3)<|zM (gN 4) xZ)<|rT)<|jL)
def mD:kd->ka:=fnL 6 qY
def zXL (T:!2):FnOk P w K mg base CX0 19 T.m61.f T.m61.fd [A0] (spL K 1 mD) :=sI (k:=18) T.m61.F vV λ_ _ _ _ _ _ hr=>(zO qY J (zJ8 1 vV.nd)<|zT (wQ Wi J (cG<|wL<|aB T.c3.ca T.c3.cl T.m50.me (gE T) (!13) T.m50.b<|yN T.c4 zR) (oX 3 J (zK (xU 2 vV.nd)<|zK (xU 3 vV.nd)<|zK (xU 4 vV.nd) yD)<|yW<|yW<|yW xQ)<|zU<|wQ Wi rfl (cG<|wL<|rP T.c3.ca T.c3.cl T.m55.me (lM T) (!13) T.m55.b (yN T.c4 zR)<|zZ zB<|zZ yB zX) (xU 5 vV.nd)<|zU<|yA (yL zF7 (yS 4)<|yO (yS 5) zW) (zU<|zHO 1 hr rO<|zZ (yS 4)<|zZ (yO (yS 5) zW) zX) yQ)<|zU<|xC<|zKs 1 rfl rfl (!4))
def zXM:FnScope [B5,CT,BD] [B5,CT,BD]<|zV nB:=yP ja
def jK:Sf:=(wN<|vK Ad Bs 1 tX (yT A1 BR eV0) zS)
def vA:kd->ka:=fnL 3<|zH (sIf (eB2 gEq eV1 jp) (wN<|vK A1 CG 1 zZG eV0 zS) wC)<|zH (sIf (eB2 gEq eV1 jq) (wN<|vK A1 CM 2 kA eV0<|zY eV2 zS) wC)<|zH (sIf (eB2 gEq eV1 jr) (wN<|vK A1 BN 2 tR eV0<|zY eV2 zS) wC)<|zH (sIf (eB2 gEq eV1 jt) (wN<|vK A1 Cy 3 mZ eV0<|zY (eIx eV2 jq)<|zY jt zS) wC)<|zH (sIf (eB2 gEq eV1 ju) (wN<|vK A1 Cz 1 mD eV0 zS) wC)<|jK
def gB (T:!2):zQx P w base T.q62 21 3 vA :=sI (k:=20) T.q62.F zXM λ_ _ _ _ _ _ hr=>(zT (yA (yL sZ zP zW) (zU<|xC<|aB T.c4.ca T.c4.cl T.m51.me (zVp T) (!13) T.m51.b zR) yQ)<|zT (yA (yL sZ zP zW) (zU<|xC<|rP T.c4.ca T.c4.cl T.m57.me (zXu T) (!13) T.m57.b zR<|zZ zB zX) yQ)<|zT (yA (yL sZ zP zW) (zU<|xC<|rP T.c4.ca T.c4.cl T.m56.me (gK T) (!13) T.m56.b zR<|zZ zB zX) yQ)<|zT (yA (yL sZ zP zW) (zU<|xC<|rP T.c4.ca T.c4.cl T.m60.me (zXU T) (!13) T.m60.b zR<|zZ (yO zB zW)<|zZ zW zX) yQ)<|zT (yA (yL sZ zP zW) (zU<|xC<|aB T.c4.ca T.c4.cl T.m61.me (zXL T) (!13) T.m61.b zR) yQ)<|zU<|xC<|aB T.c3.ca T.c3.cl T.m50.me (gE T) (!13) T.m50.b<|yN T.c4 zR)
def uA:FnScope [B0,Ae,At,Bg,"_law_size","_law_curve_here","_law_yards","_law_kept",A7,AT,BD,"_law_turn_here",CT,BQ,"_law_other","_law_told","_law_copied"] [B0]<|zV zJ7:=yP ja
def zZH:Sf:=(zH (yI 12<|wO (uB (eV 8)<|fW (eV 11)<|uB jq<|fW (wO (uL (eV 8) jw) jr) ju) jw)<|zH (pS 13<|zPp 6<|uN 3 vA<|zY (eIx eV6 jp)<|zY (eV 12)<|zY (eV 10) zS)<|zH (yI 14<|kW 6 5<|eL<|uN 3 vA<|zY (eIx eV6 jq)<|zY (eV 12)<|zY (eV 10) zS)<|zH (sIf (zNP 13<|zIi (sD<|tB1<|zEW zNM<|eV 13)<|eB2 bE (eV 13)<|eV 14) (xS<|eC<|.bl false) wC)<|zH (zZo 7<|w9<|zY (eV 14)<|zY (eL<|aG<|eV 14) zS)<|zH (zZo 13<|eC<|.str "z")<|zFJ 13)
def zZl:Sf:=(zH (yI 9<|yZ 4 jA<|zY (eV 8)<|zY eV1<|zY eV2<|zY eV3 zS)<|zH (yI 10<|yZ 4 jF<|zY (eV 8)<|zY eV1<|zY eV2<|zY (eC<|.int 70) zS)<|zH (zD8 (zTn bE (uO (lnY 6 jp) 1 xM<|zY (eV 9) zS)<|uO (lnY 6 jq) 1 xM<|zY (eV 9) zS) (xS<|eC<|.bl false) wC)<|uG (iR jt) (gN 11)<|zZH)
def zS9:Sf:=(sIf (eB2 bE (eV 15)<|eV 16) (xS<|eC<|.bl false) wC)
def zU6:jz:=fnF 17<|zH (yI 1<|uB jr<|wO (yZ 2 sS<|zY eV0<|zY jp zS) jr)<|zH (yI 2<|yZ 2 dN<|zY (yZ 2 sS<|zY eV0<|zY jp zS) (!11))<|zH (yI 3<|yZ 1 dZ<|zY (yZ 2 sS<|zY eV0<|zY jq zS) zS)<|zH (yI 4<|uB ju<|wO (yZ 3 vH<|zY (yZ 2 sS<|zY eV0<|zY jq zS)<|zY jv<|zY (eC<|.int 1000033) zS)<|eC<|.int 9)<|zH (yI 5<|yZ 2 fM<|zY (uL (yZ 2 sS<|zY eV0<|zY jp zS) jr) (!11))<|zH (zNV 6<|zY (zPu 3 zVR<|zY eV5<|zY eV2<|zY eV4 zS)<|zY (zPu 3 zVR<|zY eV5<|zY eV2<|zY eV4 zS) zS)<|zH (pS 7<|xA zS)<|zH (uG (vN eV0 (vX jr)<|vX<|eC<|.int 12) (gN 8)<|zZl)<|zH (zZA 7<|uG (iL eV7) (gT<|zM (gN 15)<|zM (gN 16) xZ)<|zS9)<|xS<|eC<|.bl true
def zFk (T:!2):OkT P w base T.q63 28 1 zU6 :=wW (k:=27) T.q63.F uA λ_ _ _ _ _ _ hr=>(zT (zF 1 uA.nd<|xD zW<|xK (xT (pG T) hr<|zZ zR<|zZ zW zX) zW)<|zT (zF 2 uA.nd<|xT (zTK T) hr<|zZ (xT (pG T) hr<|zZ zR<|zZ zW zX)<|zZ zP zX)<|zT (zF 3 uA.nd<|xT (zTT T) hr<|zZ (xT (pG T) hr<|zZ zR<|zZ zW zX) zX)<|zT (zF 4 uA.nd<|xD zW<|xK (xT (tU T) hr<|zZ (xT (pG T) hr<|zZ zR<|zZ zW zX)<|zZ zW<|zZ zW zX) zW)<|zT (zF 5 uA.nd<|xT (zTs T) hr<|zZ (vI (xT (pG T) hr<|zZ zR<|zZ zW zX) zW)<|zZ zP zX)<|zT (zNF 6 uA.nd<|zRi (zOe T.c4.k (zUl T) (!13) T.c4.mc T.c4.t.b rfl<|zZ (yS 5)<|zZ zB<|zZ (yS 4) zX)<|zRi (zOe T.c4.k (zUl T) (!13) T.c4.mc T.c4.t.b rfl<|zZ (yS 5)<|zZ zB<|zZ (yS 4) zX) zIy)<|zT (oU 7 uA.nd<|xY zX)<|zT (wQ Wi J (zJt<|tQ zR (rS zW)<|rS zW) (xU 8 uA.nd)<|zO zZl rfl (zF 9 uA.nd<|xT (zRo T) hr<|zZ (yS 8)<|zZ zP<|zZ zB<|zZ yB zX)<|zT (zF 10 uA.nd<|xT (bI T) hr<|zZ (yS 8)<|zZ zP<|zZ zB<|zZ zW zX)<|zT (zEU (zLD (zWg hr) (zNO (aD T) hr (zEw 6 zW)<|zZ (yS 9) zX)<|zNO (aD T) hr (zEw 6 zW)<|zZ (yS 9) zX) (zU<|yV rO) yQ)<|zU<|wQ Wi rfl (zXT J (!4) zW) (xU 11 uA.nd)<|zO zZH rfl (zF 12 uA.nd<|xK (xD (yS 8)<|mE (yS 11)<|xD zW<|mE (xK (vI (yS 8) zW) zW) zW) zW)<|zT (oU 13 uA.nd<|zSb 6<|zWT (gB T) hr<|zZ (yO (yS 6) zW)<|zZ (yS 12)<|zZ (yS 10) zX)<|zT (zF 14 uA.nd<|jC 6 5<|wL<|zWT (gB T) hr<|zZ (yO (yS 6) zW)<|zZ (yS 12)<|zZ (yS 10) zX)<|zT (yA (zIF 13<|zLS<|zLP (sW<|wA<|zES (T:="list") (TT:="list") rfl zFb rfl (!4) rfl (!4)<|yS 13)<|zOi<|yL (zWg hr) (yS 13)<|yS 14) (zU<|yV rO) yQ)<|zT (eT 7<|pQ Qm Ew Ee tJ (pv 7)<|yX (xV<|zZ (yS 14)<|zZ (wL<|zZc rfl (!4)<|yS 14) zX) yK)<|zT (eT 13<|pQ Qm Ew Ee tJ (pv 13)<|yX wX yK)<|zU<|zGl 13)<|zT (kG 7<|wQ Wi rfl (cG<|yS 7) (oX 2 J (zK (xU 15 uA.nd)<|zK (xU 16 uA.nd) yD)<|yW<|yW xQ)<|zU<|yA (yL (zWg hr) (yS 15)<|yS 16) (zU<|yV rO) yQ)<|zU<|yV rO)
end
def zEX {l:OpenLaw}{K:Frag}{fa:qu}{C0 C1 C2 C3 C4 X0 X1 X2 X3 X4 X5 X6 X7 X8:qu} (X:K.In h) (G:h.Ns mainGlobals mg) (hfa:mg "law"=some (.ref fa))(g0:wH K Cd zYA)(g1:wH K BM dB)(g2:wH K BL dL)(g3:wH K BV bC)(g4:wH K BU aO)(g5:wH K BK fT)(g6:wH K BT aT)(g7:wH K Ce zY6)(g8:wH K Cf zZe)(g9:wH K BW aY)(g10:wH K Bi kZ)(g11:wH K Cu zQq)(g12:wH K B3 dQ)(g13:wH K B9 aR)(g14:wH K Bo zYH)(g16:wH K By pT)(g17:wH K Bw lB)(g18:wH K CI zZL)(g19:wH K AX oE)(g20:wH K BI zVL)(g21:wH K BH zW6)(g22:wH K BF zXi)(g23:wH K C8 zX2)(g24:wH K BE zZx)(g25:wH K Bn zYG)(g26:wH K Cw cU)(g27:wH K CH zXm)(g28:wH K C7 zTz)(g29:wH K AO kU)(g30:wH K Bh nM)(g32:wH K Bp zYJ)(g33:wH K Cv zQB)(g34:wH K CU zNN)(g35:wH K AY nX)(g36:wH K Ba aX)(g37:wH K AQ kO)(g43:wH K BJ aA)(g44:wH K AD oW)(g48:wH K BX bP)(g49:wH K Az rV)(g52:wH K C9 zT1)(g53:wH K BG zXo)(g54:wH K Av sJ)(g58:wH K B4 dU)(g59:wH K BA zPf)(g62:wH K Bb nB)(g63:wH K "law" zJ7)(c0:zMZ K AW BB zTr [AL,Aj,AK] C0)(c1:zMZ K Al Bq zWA [Aa,B6,A6,AE] C1)(c2:zMZ K A2 BC zT6 [Ap,AI,Ay,A5] C2)(c3:zMZ K Ad Br zWl [AN,Af] C3)(c4:zMZ K A1 Ci zSQ [AZ,An,Ac,BR] C4)(m15:iV K C4 Au BZ qI)(m31:iV K C4 Ah CN iU)(m38:iV K C3 Ax Ct dI)(m39:iV K C4 "lay" D1 aV)(m40:iV K C4 Ax D0 bH)(m41:iV K C4 AA Cj oP)(m42:iV K C4 Bj CK hU)(m45:iV K C3 AC Ch jB)(m46:iV K C4 AC CW dH)(m47:iV K C4 AH CV fQ)(m50:iV K C3 Bs BO lZ)(m51:iV K C4 CG CL iG)(m55:iV K C3 AV Bt qN)(m56:iV K C4 BN Co nJ)(m57:iV K C4 CM CA lA)(m60:iV K C4 Cy Cp rQ)(m61:iV K C4 Cz Cq mR)(x0:zIP K Ao X0)(x1:zIP K AR X1)(x2:zIP K As X2)(x3:nsIn K mainGlobals Cm=some (some<|.ref X3))(x4:nsIn K mainGlobals C6=some (some<|.ref X4))(x5:nsIn K mainGlobals Bc=some (some<|.ref X5))(x6:nsIn K mainGlobals C5=some (some<|.ref X6))(x7:nsIn K mainGlobals Cn=some (some<|.ref X7))(x8:nsIn K mainGlobals AU=some (some<|.ref X8))(ix_ValueError:fB K (.type AG) [(X0,true),(X1,true),(X2,true)]=true)(ix_OffFloor:fB K (.ref X0) [(X0,true),(X1,false),(X2,false)]=true)(ix_NoThing:fB K (.ref X2) [(X0,false),(X1,false),(X2,true)]=true)(ix_Twice:fB K (.ref X1) [(X0,false),(X1,true),(X2,false)]=true)(iy_0:zSm K (zSd [X3,X4,X5,X6,X7]) [(X0,false),(X1,false),(X2,false)]=true)(em_YardError_OffFloor:exmOne K (.ref X0) (.ref X8)=some true)(em_YardError_Twice:exmOne K (.ref X1) (.ref X8)=some true)(em_YardError_NoThing:exmOne K (.ref X2) (.ref X8)=some true)(zz:zKq K [AG,"all","enumerate","int","isinstance","len","list","max","min","range","sorted","tuple","zip"]=true):∃fd:FuncData,(∀(s:qw) (v:qv),BindsTo s fd ⟨[v],[]⟩ [(B0,v)])/\∀base:qx,K.In base->base.Ns mainGlobals mg->FnOk l.prog w K mg base CX0 28 fa fd [B0] (spF K 1 zU6):=by
 exact zGr _ (be1 λ_ _ _ _ _ _ _=>rfl) hfa λbase=>zFk ({ q0:=wE X G g0,q1:=wE X G g1,q2:=wE X G g2,q3:=wE X G g3,q4:=wE X G g4,q5:=wE X G g5,q6:=wE X G g6,q7:=wE X G g7,q8:=wE X G g8,q9:=wE X G g9,q10:=wE X G g10,q11:=wE X G g11,q12:=wE X G g12,q13:=wE X G g13,q14:=wE X G g14,q16:=wE X G g16,q17:=wE X G g17,q18:=wE X G g18,q19:=wE X G g19,q20:=wE X G g20,q21:=wE X G g21,q22:=wE X G g22,q23:=wE X G g23,q24:=wE X G g24,q25:=wE X G g25,q26:=wE X G g26,q27:=wE X G g27,q28:=wE X G g28,q29:=wE X G g29,q30:=wE X G g30,q32:=wE X G g32,q33:=wE X G g33,q34:=wE X G g34,q35:=wE X G g35,q36:=wE X G g36,q37:=wE X G g37,q43:=wE X G g43,q44:=wE X G g44,q48:=wE X G g48,q49:=wE X G g49,q52:=wE X G g52,q53:=wE X G g53,q54:=wE X G g54,q58:=wE X G g58,q59:=wE X G g59,q62:=wE X G g62,q63:=wE X G g63,C0:=_,c0:=zKo X G (lX c0.2.1) c0,C1:=_,c1:=zKo X G (lX c1.2.1) c1,C2:=_,c2:=zKo X G (lX c2.2.1) c2,C3:=_,c3:=zKo X G (lX c3.2.1) c3,C4:=_,c4:=zKo X G (lX c4.2.1) c4,m15:=lX m15,m31:=lX m31,m38:=lX m38,m39:=lX m39,m40:=lX m40,m41:=lX m41,m42:=lX m42,m45:=lX m45,m46:=lX m46,m47:=lX m47,m50:=lX m50,m51:=lX m51,m55:=lX m55,m56:=lX m56,m57:=lX m57,m60:=lX m60,m61:=lX m61,X0:=_,x0:=zGj X G x0,X1:=_,x1:=zGj X G x1,X2:=_,x2:=zGj X G x2,X3:=_,x3:=zQg X G x3,X4:=_,x4:=zQg X G x4,X5:=_,x5:=zQg X G x5,X6:=_,x6:=zQg X G x6,X7:=_,x7:=zQg X G x7,X8:=_,x8:=zQg X G x8,ix_ValueError:=ix_ValueError,ix_OffFloor:=ix_OffFloor,ix_NoThing:=ix_NoThing,ix_Twice:=ix_Twice,iy_0:=iy_0,em_YardError_OffFloor:=em_YardError_OffFloor,em_YardError_Twice:=em_YardError_Twice,em_YardError_NoThing:=em_YardError_NoThing,zz:=zIQ X G zz }:Txt K mg)
def zGi {K:Frag}{a:qu}{ns:kh}(hS:SqL K H a<|ns.map V.int)(h:zU6 [.lst<|ns.map .int]=some (.bl true)):spF K 1 zU6 [.ref a] H (λv _=>v = .bl true) λ_ _ _=>False:=by
 have rs:∀ns:kh,Reps K H (ns.map .int)<|ns.map V.int:=λns=>by
  induction ns with
  | nil=>exact zD.mpr J
  | cons n r ih=>exact zQ.mpr ⟨_,_,J,zC.mpr J,ih⟩
 exact⟨H,[.lst<|ns.map .int],.bl true,Same.refl _,zQ.mpr ⟨_,_,J,xF.mpr ⟨a,_,J,hS,rs ns⟩,zD.mpr J⟩,J,h,λv H' G' _ r=>wP.mp r⟩
end My
variable{h:Nat}{K:kg}
namespace My
structure Et where
 f:Int
 l:Int
 z:Str
abbrev qm:=List Et
def kE (e:Et):Int×Str:=(e.f,e.z)
abbrev zE:Et:=⟨0,0,⟨#[]⟩⟩
def vS (a e:Et):Bool:=a.f==e.f&&(a.l==e.l&&a.z==e.z)
def qO {a e:Et}:vS a e=true↔a=e:=by obtain⟨f,l⟩:=a;obtain⟨f',l'⟩:=e;unfold vS;simp
def jU (l:qm):qm:=(aM<|l.map kE).map λi=>l.getD i zE
def zGQ {l:qm}(h:i∈aM (l.map kE)):i < l.length:=by have:=(qR _).subset h;simpa using this
def aU (l:qm):(jU l).Perm l:=by refine((qR _).map _).trans ?_;rw[Qy,tS]
def zP0 (l:qm):(jU l).map kE=qX (l.map kE):=by unfold jU qX;rw[Wk];refine Ra λi hi=>?_;simp[(zGQ hi)]
def zYQ (l:qm):(jU l).length=l.length:=(aU l).length_eq
def Srt (es:qm):Prop:=es.Pairwise λa b=>xE (kE a) (kE b)=true
def zOH {a b:Int×Str}(h:xE a b=true):xE b a=false:=by
 cases q:xE b a
 .rfl
 .have:=zSK h q;rw[vC] at this;cases this
def zGR {a b c:Int×Str}(h:xE a b=true)(h2:xE c b=false):xE a c=true:=by
 rcases zRe h with q | q
 .exact q
 .simp_all
def Srt.of {es:qm}(h:(es.map kE).Pairwise λa b=>xE b a=false)(nd:(es.map kE).Nodup):Srt es:=by
 rw[Tz] at h;refine(h.and<|Tz.mp nd).imp λ{a b} z=>?_;cases q:xE _ _
 .exact absurd (zIR q z.1) z.2
 .rfl
def Srt.nd {es:qm}(h:Srt es):(es.map kE).Nodup:=by refine Tz.mpr<|h.imp λ{a b} z e=>?_;rw[e,vC] at z;cases z
def zNg {l:qm}(nd:(l.map kE).Nodup):Srt<|jU l:=by refine Srt.of ?_<|(((aU l).map kE)).nodup_iff.mpr nd;rw[zP0];exact zVm _
def Srt.inj {es:qm}(h:Srt es){a b:Et}(ha:a∈es)(hb:b∈es)(e:kE a=kE b):a=b:=by
 induction es with
 | nil=>cases ha
 | cons x r ih =>
  obtain⟨p,q⟩:=Rq.mp h;rcases v4 ha with ea | ha'<;>rcases v4 hb with eb | hb'
  .simp_all
  .have:=p b hb';rw[<-ea,e,vC] at this;cases this
  .have:=p a ha';rw[<-eb,e,vC] at this;cases this
  .exact ih q ha' hb'
@[reducible] def It:Nat->Type
 | 0=>Et
 | h+1=>List<|It h
def zD1 (f:α->Et):List α->Et
 | []=>zE
 | x::_=>f x
def wZ:(h:Nat)->It h->Et
 | 0,e=>e
 | h+1,xs=>zD1 (wZ h) xs
def most:(h:Nat)->It h->Int
 | 0,e=>e.l
 | h+1,xs=>zZ3<|List.map (most h) xs
def pH:(h:Nat)->It h->qm
 | 0,e=>[e]
 | h+1,xs=>List.flatMap (pH h) xs
abbrev zJ (h:Nat)(xs:!7):qm:=xs.flatMap<|pH h
def tZ (n:Nat)(xs:!10):List (!10):=if xs.length=0 then [] else if xs.length<=n then [xs] else [xs.take<|xs.length / 2,xs.drop<|xs.length / 2]
def zMK (ls:qm)(e:Et):Nat:=(ls.filter λa => !xE (kE e) (kE a)).length - 1
def vR (h:Nat)(xs:List<|It<|h+1)(e:Et):Nat:=zMK (xs.map<|wZ<|h+1) e
def zYf:(h:Nat)->List (It h)->Et->Option Et
 | 0,xs,e=>(List.filter (λa:Et=>decide (kE a=kE e)) xs).head?
 | h+1,xs,e=>zYf h (List.getD xs (vR h xs e) []) e
def iC (n:Nat):(h:Nat)->List (It h)->Et->List (!7)
 | 0,xs,e=>tZ n<|jU<|xs++[e]
 | h+1,xs,e=>tZ n<|List.take (vR h xs e) xs++iC n h (List.getD xs (vR h xs e) []) e++List.drop (vR h xs e+1) xs
def lJ (n:Nat)(ps:List (!10)):List (!10) :=
 match ps.findIdx? (λx=>decide (x.length < n / 2)) with
 | none=>ps
 | some i=>ps.take (i - 1)++tZ n ((ps.drop<|i - 1).take 2).flatten++ps.drop (i - 1+2)
def zXV (n:Nat):(h:Nat)->List (It h)->Et->List (!7)
 | 0,xs,e=>tZ n<|List.filter (λa:Et => !vS a e) xs
 | h+1,xs,e=>tZ n<|lJ n<|List.take (vR h xs e) xs++zXV n h (List.getD xs (vR h xs e) []) e++List.drop (vR h xs e+1) xs
def tW (n:Nat):(h:Nat)->It h->Prop
 | 0,_=>True
 | h+1,xs=>n / 2<=List.length xs/\List.length xs<=n/\∀x∈(xs:!7),tW n h x
def iB {xs:!7}(h1:n / 2<=xs.length)(h2:xs.length<=n)(h3:∀x∈xs,tW n h x):tW n (h+1) xs:=⟨h1,h2,h3⟩
def wR {xs:!7}(H:tW n (h+1) xs):n / 2<=xs.length/\xs.length<=n/\∀x∈xs,tW n h x:=H
def zUL (n:Nat)(xs:!10):(tZ n xs).flatten=xs:=by
 unfold tZ;split
 .simp_all
 .split
  .simp
  .simp
def aC {xs:!10}(h0:0 < xs.length)(h1:xs.length<=n):tZ n xs=[xs]:=by unfold tZ;rw[Qc jc,Qg h1]
def zSq {xs:!10}(h1:n < xs.length):tZ n xs=[xs.take<|xs.length / 2,xs.drop<|xs.length / 2]:=by unfold tZ;rw[Qc jc,Qc jc]
inductive PutOk (n h:Nat)(m:Nat):List (!7)->Prop
 | one {y:!7}:m<=y.length->y.length<=n->(∀x∈y,tW n h x)->PutOk n h m [y]
 | two {y z:!7}:tW n (h+1) y->tW n (h+1) z->PutOk n h m [y,z]
def zU4 {xs:!7}(hn:4<=n)(h0:0 < xs.length)(hm:m<=xs.length)(h1:xs.length<=n+1)(hf:∀x∈xs,tW n h x):PutOk n h m<|tZ n xs:=by
 by_cases h2:xs.length<=n
 .rw[aC h0 h2];exact .one hm h2 hf
 .rw[zSq jc];refine .two (iB ?_ ?_ λx hx=>hf x<|Ek hx)<|iB ?_ ?_ λx hx=>hf x<|El hx
  .grind
  .grind
  .grind
  .grind
def PutOk.all {ys:List (!7)}(H:PutOk n h m ys)(hm:n / 2<=m):(∀y∈ys,tW n (h+1) y)/\(ys.length=1\/ys.length=2):=by
 cases H with
 | one a b c=>exact⟨λy hy=>by rw[Qv] at hy;subst hy;exact iB (Wq hm a) b c,.inl J⟩
 | two a b =>simp_all
def zG2 {ls:qm}{e:Et}(h:0 < ls.length):zMK ls e < ls.length:=by have:=Ed (λa => !xE (kE e) (kE a)) ls;unfold zMK;lia
def zUc {xs:List<|It<|h+1}{e:Et}(h0:0 < xs.length):vR h xs e < xs.length:=by have:=zG2 (ls:=xs.map<|wZ _) (e:=e) (!9);simpa [vR] using this
theorem zQo (n:Nat)(hn:4<=n)(e:Et):∀(h:Nat) (xs:!7),xs.length<=n->(h=0\/0 < xs.length)->(∀x∈xs,tW n h x)->PutOk n h xs.length (iC n h xs e)
 | 0,xs,hl,_,hf=>by
  have hL:(jU<|xs++[e]).length=xs.length+1:=by rw[zYQ];exact Qp
  exact zU4 hn jc jc jc λ_ _=>trivial
 | h+1,xs,hl,h0,hf=>by
  have h0:0 < xs.length:=by rcases h0 with z | z;cases z;exact z
  have hw:=zUc (e:=e) h0;have hc:tW n _<|xs.getD _ []:=hf _ (by
   have:xs.getD (vR h xs e) []=xs[vR h xs e]:=by simp[hw]
   rw[this];exact Rm hw)
  obtain⟨c1,c2,c3⟩:=wR hc;obtain⟨hall,j5⟩:=(zQo n hn e h (xs.getD _ []) c2 (.inr jc) c3).all c1;have hL:(xs.take (vR h xs e)++iC n h (xs.getD (vR h xs e) []) e++xs.drop (vR h xs e+1)).length=xs.length - 1+(iC n h (xs.getD (vR h xs e) []) e).length:=by rw[Qp,Qp,Wx,Ey];lia
  refine zU4 hn jc jc jc λx hx=>?_;rcases v6 hx with hx | hx
  .rcases v6 hx with hx | hx
   .exact hf x (Ek hx)
   .exact hall x hx
  .exact hf x (El hx)
def zS0 {L R:List (!10)}{c:!10}(hL:∀x∈L,n / 2<=x.length)(hR:∀x∈R,n / 2<=x.length):(L++c::R).findIdx? (λx=>decide (x.length < n / 2))=if c.length < n / 2 then some L.length else none:=by grind
def zOx (hn:4<=n){L R:List (!7)}{c:!7}(hL:∀x∈L,tW n (h+1) x)(hR:∀x∈R,tW n (h+1) x)(hc:n / 2<=c.length+1)(hc2:c.length<=n)(hcf:∀x∈c,tW n h x)(h2:1<=L.length+R.length):(∀x∈lJ n (L++c::R),tW n (h+1) x)/\L.length+R.length<=(lJ n<|L++c::R).length/\(lJ n<|L++c::R).length<=L.length+R.length+1/\(lJ n<|L++c::R).flatten=(L++c::R).flatten:=by
 unfold lJ;rw[(zS0 (n:=n) (L:=L) (R:=R) (c:=c) (λx hx=>(wR<|hL x hx).1) λx hx=>(wR<|hR x hx).1)]
 by_cases q:c.length < n / 2
 .rw[Qg q];show(∀x∈(L++c::R).take (_ - 1)++tZ n (((L++c::R).drop<|_ - 1).take 2).flatten++(L++c::R).drop (_ - 1+2),tW n (h+1) x)/\_;have two:∀(A B:List (!7)) (u v:!7),(∀x∈A,tW n (h+1) x)->(∀x∈B,tW n (h+1) x)->(∀x∈u++v,tW n h x)->n / 2*2<=(u++v).length+1->(u++v).length<=n / 2+n->A.length+2+B.length=L.length+1+R.length->A++u::v::B=L++c::R -> (∀x∈A++tZ n (u++v)++B,tW n (h+1) x)/\L.length+R.length<=(A++tZ n (u++v)++B).length/\(A++tZ n (u++v)++B).length<=L.length+R.length+1/\(A++tZ n (u++v)++B).flatten=(L++c::R).flatten:=by
   intro A B u v hA hB huv l1 l2 ll heq;have j5:(∀x∈tZ n (u++v),tW n (h+1) x)/\1<=(tZ n<|u++v).length/\(tZ n<|u++v).length<=2:=by
    by_cases hs:(u++v).length<=n
    .rw[aC jc hs];refine⟨λx hx=>?_,je,je⟩;rw[Qv] at hx;subst hx;exact iB jc hs huv
    .rw[zSq jc];refine⟨λx hx=>?_,je,je⟩;rcases v4 hx with rfl | hx
     .exact iB (by rw[Wx];lia) (by rw[Wx];lia) λx hx=>huv x<|Ek hx
     .rw[Qv] at hx;subst hx;exact iB (by rw[Ey];lia) (by rw[Ey];lia) λx hx=>huv x<|El hx
   refine⟨λx hx=>?_,?_,?_,?_⟩
   .rcases v6 hx with hx | hx
    .rcases v6 hx with hx | hx
     .simp_all
     .simp_all
    .simp_all
   .grind
   .grind
   .rw[<-heq,Os,Os,zUL,Os,Yz,Yz];simp
  rcases List.eq_nil_or_concat L with rfl | ⟨A,u,rfl⟩
  .cases R with
   | nil=>simp at h2
   | cons v B =>obtain⟨v1,v2,v3⟩:=wR<|hR v Ql;have:=two [] B c v (λx hx=>nomatch hx) (λx hx=>hR x<|Qf _ hx) (λx hx=>by rcases v6 hx with z | z;exact hcf x z;exact v3 x z) (by rw[Qp];lia) (by rw[Qp];lia) (by simp;lia) je;simpa using this
  .obtain⟨u1,u2,u3⟩:=wR<|hL u je;have:=two A R u c (λx hx=>hL x<|by simp[hx]) hR (λx hx=>by rcases v6 hx with z | z;exact u3 x z;exact hcf x z) (by rw[Qp];lia) (by rw[Qp];lia) je je;simpa using this
 .rw[Qc q];refine⟨λx hx=>?_,je,by simp;lia,J⟩;rcases v6 hx with hx | hx
  .simp_all
  .rcases v4 hx with rfl | hx
   .exact iB jc hc2 hcf
   .simp_all
theorem rB {α β:Type}{f:α->List β}:∀ {xs:!10} {x:α},x∈xs->(f x).Sublist (xs.flatMap f)
 | y::r,x,h=>by
  rcases v4 h with rfl | h
  .simp
  .exact(rB h).trans (List.sublist_append_right _ _)
theorem zUn {α β:Type}(f:α->List β):∀ys:List (!10),(ys.flatMap λxs=>xs.flatMap f)=ys.flatten.flatMap f
 | []=>rfl
 | y::r=>by rw[Ec,zUn f r,Yz,Ut]
def aN (h:Nat)(ys:List (!7)):zJ (h+1) ys=zJ h ys.flatten:=zUn _ ys
def zZm (n h:Nat)(zs:!7):zJ (h+1) (tZ n zs)=zJ h zs:=by rw[aN,zUL]
def nQ (h:Nat)(xs ys:!7):zJ h (xs++ys)=zJ h xs++zJ h ys:=Ut
def wF (h:Nat)(x:It h)(ys:!7):zJ h (x::ys)=pH h x++zJ h ys:=rfl
def uX (xs:List<|It 0):zJ 0 xs=xs:=by show xs.flatMap (λe=>[e])=xs;simp_all
def zPA {es:qm}(h:Srt es)(e:Et):es.length<=(es.filter λa => !vS a e).length+1:=by
 induction es with
 | nil=>simp
 | cons x r ih =>
  obtain⟨p,q⟩:=Rq.mp h;have ih:=ih q
  by_cases z:x=e
  .subst z;have:r.filter (λa => !vS a x)=r:=Uy.mpr λa ha=>by
    cases y:vS a x
    .rfl
    .have:=p a ha;rw[qO.mp y,vC] at this;cases this
   rw[Rn,this];split<;>simp
  .have:vS x e=false:=by cases y:vS x e;rfl;exact absurd (qO.mp y) z
   simp_all
theorem zYS {n:Nat}(hn:2<=n):∀(h:Nat) (x:It h),tW n h x->∃t,pH h x=wZ h x::t
 | 0,x,_=>⟨[],J⟩
 | h+1,xs,H=>by
  obtain⟨a,b,c⟩:=wR H
  match xs,a,c with
  | [],a,_=>exact absurd a (by simp;lia)
  | x::r,a,c =>obtain⟨t,e⟩:=zYS hn h x<|c x Ql;refine⟨t++r.flatMap (pH h),?_⟩;show List.flatMap _ _=_;rw[Ec,e];rfl
def zY4 (hn:2<=n){xs:List<|It<|h+1}(hf:∀x∈xs,tW n (h+1) x)(hs:Srt<|zJ (h+1) xs)(e:Et)(h0:0 < xs.length):∃L c R,xs=L++c::R/\L.length=vR h xs e/\(∀a∈zJ (h+1) L,xE (kE a) (kE e)=true)/\(∀a∈zJ (h+1) R,xE (kE e) (kE a)=true):=by
 have hd:=λx hx=>zYS hn (h+1) x<|hf x hx;have low:∀x∈xs,∀a∈pH (h+1) x,xE (kE a) (kE<|wZ (h+1) x)=false:=by
  intro x hx a ha;obtain⟨t,et⟩:=hd x hx;have sx:Srt<|pH (h+1) x:=hs.sublist<|rB hx;rw[et] at ha sx;rcases v4 ha with rfl | ha
  .exact vC _
  .exact zOH ((Rq.mp sx).1 a ha)
 let p:It (h+1)->Bool:=λx => !xE (kE e) (kE<|wZ (h+1) x);have cross:∀(A B:List<|It<|h+1),A++B=xs->∀a∈zJ (h+1) A,∀b∈zJ (h+1) B,xE (kE a) (kE b)=true:=by
  intro A B he a ha b hb;have:Srt<|zJ (h+1)<|A++B:=by rw[he];exact hs
  rw[show zJ (h+1) (A++B)=zJ (h+1) A++zJ (h+1) B from Ut] at this;exact(Rl.mp this).2.2 a ha b hb
 have lmem:∀x∈xs,wZ (h+1) x∈pH (h+1) x:=λx hx=>by obtain⟨t,et⟩:=hd x hx;rw[et];exact Ql
 have hfil:∀ys:List<|It<|h+1,(∃A,A++ys=xs)->ys.filter p=ys.takeWhile p/\∀x∈ys.dropWhile p,p x=false:=by
  intro ys;induction ys with
  | nil=>intro _;exact⟨J,λx hx=>by simp at hx⟩
  | cons y r ih =>
   rintro⟨A,hA⟩
   by_cases py:p y=true
   .obtain⟨i1,i2⟩:=ih ⟨A++[y],by rw[<-hA];simp⟩;rw[List.filter_cons_of_pos py,List.takeWhile_cons_of_pos py,i1,List.dropWhile_cons_of_pos py];exact⟨J,i2⟩
   .have py':p y=false:=by simpa using py
    have hy:y∈xs:=by rw[<-hA];simp
    have key:∀x∈r,p x=_:=λx hx=>by
     have hx':x∈xs:=by rw[<-hA];simp[hx]
     have q1:xE (kE e) (kE<|wZ (h+1) y)=true:=by simpa [p] using py'
     have q2:xE (kE<|wZ (h+1) y) (kE<|wZ (h+1) x)=true:=cross (A++[y]) r (by rw[<-hA];simp) _ (Eo.mpr ⟨y,je,lmem y hy⟩) _<|Eo.mpr ⟨x,hx,lmem x hx'⟩;show(!_)=false;rw[zSK q1 q2];rfl
    rw[List.filter_cons_of_neg py,List.takeWhile_cons_of_neg py,List.dropWhile_cons_of_neg py];refine⟨Yj.mpr λx hx=>by rw[key x hx];decide,λx hx=>?_⟩;rcases v4 hx with rfl | hx
    .exact py'
    .exact key x hx
 obtain⟨f1,f2⟩:=hfil xs ⟨[],J⟩;have hw:vR h xs e=(xs.takeWhile p).length - 1:=by unfold vR zMK;rw[Uu,Qy];show(xs.filter p).length - 1=_;rw[f1]
 have hsp:xs=xs.takeWhile p++xs.dropWhile p:=(List.takeWhile_append_dropWhile).symm;have hR:∀x∈xs,p x=false->∀a∈pH (h+1) x,xE (kE e) (kE a)=true:=λx hx px a ha=>by
  have q1:xE (kE e) (kE<|wZ (h+1) x)=true:=by simpa [p] using px
  exact zGR q1<|low x hx a ha
 rcases List.eq_nil_or_concat (xs.takeWhile p) with z | ⟨L,c,z⟩
 .match xs,h0,hw,z,f2,hR,hsp with
  | x::r,_,hw,z,f2,hR,hsp =>rw[z] at hw hsp;rw[Il] at hsp;rw[<-hsp] at f2;refine⟨[],x,r,J,by rw[hw];rfl,λa ha=>by simp at ha,λa ha=>?_⟩;obtain⟨y,hy,ha⟩:=Eo.mp ha;exact hR y (Qf _ hy) (f2 y<|Qf _ hy) a ha
 .have e1:xs=L++c::xs.dropWhile p:=by
   conv=>lhs;rw[hsp,z]
   simp
  have hc:c∈xs:=by rw[e1];simp
  have pc:p c=true:=by
   have:c∈xs.takeWhile p:=by rw[z];simp
   exact Yv.mp List.all_takeWhile c this
  refine⟨L,c,xs.dropWhile p,e1,by rw[hw,z];simp,λa ha=>?_,λa ha=>?_⟩
  .have q1:xE (kE a) (kE<|wZ (h+1) c)=true:=cross L (c::xs.dropWhile p) e1.symm a ha _<|Eo.mpr ⟨c,je,lmem c hc⟩;have q2:xE (kE e) (kE<|wZ (h+1) c)=false:=by simpa [p] using pc
   exact zGR q1 q2
  .obtain⟨y,hy,ha⟩:=Eo.mp ha;exact hR y (by rw[e1];simp[hy]) (f2 y hy) a ha
def zVU {L R:!10}{c d:α}(h:L.length=i):(L++c::R).take i=L/\(L++c::R).getD i d=c/\(L++c::R).drop (i+1)=R:=by subst h;simp
section
variable (hn:4<=n) (e:Et)
include hn
theorem zOC:∀(h:Nat) (xs:!7),(h=0\/0 < xs.length)->(∀x∈xs,tW n h x)->Srt (zJ h xs)->(∀a∈zJ h xs,kE a≠kE e)->(zJ (h+1)<|iC n h xs e).Perm (e::zJ h xs)/\Srt (zJ (h+1)<|iC n h xs e)
 | 0,xs,_,_,hs,hk=>by
  rw[show zJ 1 (iC n 0 xs e)=zJ 1 (tZ n<|jU<|xs++[e]) from rfl,zZm,uX];rw[uX] at hs hk ⊢;refine⟨(aU _).trans List.perm_append_comm,zNg ?_⟩;rw[Wv];refine Uz.mpr ⟨hs.nd,je,λa ha b hb=>?_⟩;obtain⟨q,hq,rfl⟩:=v7 ha;have hb:b=kE e:=by simpa using hb
  rw[hb];exact hk q hq
 | h+1,xs,h0,hf,hs,hk=>by
  have h0:0 < xs.length:=by rcases h0 with z | z;cases z;exact z
  obtain⟨L,c,R,ex,hL,lt1,lt2⟩:=zY4 jc hf hs e h0;obtain⟨t1,t2,t3⟩:=zVU (L:=L) (R:=R) (c:=c) (d:=([]:It<|h+1)) hL;rw[<-ex] at t1 t2 t3;have hc:c∈xs:=by rw[ex];simp
  obtain⟨c1,c2,c3⟩:=wR<|hf c hc;have sc:Srt<|zJ h c:=hs.sublist<|rB (f:=pH<|h+1) hc;obtain⟨i1,i2⟩:=zOC h c (.inr jc) c3 sc λa ha=>hk a<|Eo.mpr ⟨c,hc,ha⟩;have eq:zJ (h+1+1) (iC n (h+1) xs e)=zJ (h+1) L++zJ (h+1) (iC n h c e)++zJ (h+1) R:=by show zJ (h+1+1) (tZ n<|List.take (vR h xs e) xs++iC n h (List.getD xs (vR h xs e) []) e++List.drop (vR h xs e+1) xs)=_;rw[zZm,t1,t2,t3,nQ,nQ]
  rw[eq];have eqx:zJ (h+1) xs=zJ (h+1) L++(zJ h c++zJ (h+1) R):=by
   conv=>lhs;rw[ex]
   rw[nQ,wF];rfl
  rw[eqx] at hs ⊢;obtain⟨s1,s2,s3⟩:=Rl.mp hs;obtain⟨s4,s5,s6⟩:=Rl.mp s2;have mem:∀a∈zJ (h+1) (iC n h c e),a=e\/a∈zJ h c:=λa ha=>by simpa using i1.subset ha
  refine⟨?_,?_⟩
  .refine((i1.append_left<|zJ (h+1) L).append_right<|zJ (h+1) R).trans ?_;rw[Th];exact List.perm_middle
  .rw[Th];refine Rl.mpr ⟨s1,Rl.mpr ⟨i2,s5,λa ha b hb=>?_⟩,λa ha b hb=>?_⟩
   .rcases mem a ha with rfl | ha
    .exact lt2 b hb
    .exact s6 a ha b hb
   .rcases v6 hb with hb | hb
    .grind
    .exact s3 a ha b (Ws _ hb)
theorem zZM:∀(h:Nat) (xs:!7),xs.length<=n->(h=0\/2<=xs.length)->(∀x∈xs,tW n h x)->Srt (zJ h xs) -> zJ (h+1) (zXV n h xs e)=(zJ h xs).filter (λa => !vS a e) /\ ((h=0/\zXV n h xs e=[]/\xs.length<=1)\/∃y,zXV n h xs e=[y]/\xs.length<=y.length+1/\y.length<=n/\0 < y.length/\∀x∈y,tW n h x)
 | 0,xs,hl,_,hf,hs=>by
  rw[uX] at hs ⊢;have hfo:=zPA hs e;have hfl:=Ed (λa => !vS a e) xs;rw[show zJ 1 (zXV n 0 xs e)=zJ 1 (tZ n<|List.filter (λa:Et => !vS a e) xs) from rfl,zZm,uX];refine⟨J,?_⟩;rcases Nat.eq_zero_or_pos (xs.filter λa => !vS a e).length with z | z
  .refine .inl ⟨J,?_,jc⟩;show tZ n (xs.filter λa => !vS a e)=[];unfold tZ;rw[Qg z]
  .exact .inr ⟨List.filter (λa:Et => !vS a e) xs,aC z<|Wq hfl hl,hfo,Wq hfl hl,z,λ_ _=>trivial⟩
 | h+1,xs,hl,h0,hf,hs=>by
  have h0:2<=xs.length:=by rcases h0 with z | z;cases z;exact z
  obtain⟨L,c,R,ex,hL,lt1,lt2⟩:=zY4 jc hf hs e jc;obtain⟨t1,t2,t3⟩:=zVU (L:=L) (R:=R) (c:=c) (d:=([]:It<|h+1)) hL;rw[<-ex] at t1 t2 t3;have hc:c∈xs:=by rw[ex];simp
  obtain⟨c1,c2,c3⟩:=wR<|hf c hc;have sc:Srt<|zJ h c:=hs.sublist<|rB (f:=pH<|h+1) hc;obtain⟨i1,i2⟩:=zZM h c c2 (.inr jc) c3 sc;have hxl:xs.length=L.length+R.length+1:=by rw[ex];simp;lia
  rcases i2 with⟨_,_,z⟩ | ⟨y,ey,y1,y2,y3,y4⟩
  .grind
  .obtain⟨g1,g2,g3,g4⟩:=zOx hn (L:=L) (R:=R) (c:=y) (λx hx=>hf x (by rw[ex];simp[hx])) (λx hx=>hf x (by rw[ex];simp[hx])) jc y2 y4 jc;have eq:zXV n (h+1) xs e=tZ n (lJ n<|L++y::R):=by
    show tZ n (lJ n<|List.take (vR h xs e) xs++zXV n h (List.getD xs (vR h xs e) []) e++List.drop (vR h xs e+1) xs)=_;rw[t1,t2,t3,ey];simp
   rw[eq,zZm];refine⟨?_,.inr ⟨lJ n<|L++y::R,aC jc jc,jc,jc,jc,g1⟩⟩;have eqx:zJ (h+1) xs=zJ (h+1) L++(zJ h c++zJ (h+1) R):=by
    conv=>lhs;rw[ex]
    rw[nQ,wF];rfl
   rw[ey] at i1;have iy:pH (h+1) y=(zJ h c).filter λa => !vS a e:=by rw[<-i1];show _=List.flatMap _ [y];simp
   have keep:∀M:qm,(∀a∈M,kE a≠kE e)->M.filter (λa => !vS a e)=M:=λM hM=>Uy.mpr λa ha=>by
    cases q:vS a e
    .rfl
    .exact absurd (by rw[qO.mp q]) (hM a ha)
   rw[eqx,Ud,Ud,keep _ λa ha z=>by(have:=lt1 a ha;rw[z,vC] at this;cases this),keep (zJ (h+1) R) λa ha z=>by(have:=lt2 a ha;rw[z,vC] at this;cases this)];rw[aN,g4,<-aN,nQ,wF,iy]
theorem like_none:∀(h:Nat) (xs:!7),(h=0\/0 < xs.length)->(∀x∈xs,tW n h x)->(∀a∈zJ h xs,kE a≠kE e)->zYf h xs e=none
 | 0,xs,_,_,hk=>by rw[uX] at hk;show(List.filter _ xs).head?=none;rw[Yj.mpr λa ha=>by simpa using hk a ha];rfl
 | h+1,xs,h0,hf,hk=>by
  have h0:0 < xs.length:=by rcases h0 with z | z;cases z;exact z
  have hw:=zUc (e:=e) h0;have hm:xs.getD (vR h xs e) []∈xs:=by simp_all
  obtain⟨c1,c2,c3⟩:=wR<|hf _ hm;exact like_none h _ (.inr jc) c3 λa ha=>hk a<|Eo.mpr ⟨_,hm,ha⟩
theorem like_some {b:Et}(hb:kE b=kE e):∀(h:Nat) (xs:!7),(h=0\/0 < xs.length)->(∀x∈xs,tW n h x)->Srt (zJ h xs)->b∈zJ h xs->zYf h xs e=some b
 | 0,xs,_,_,hs,hm=>by
  rw[uX] at hs hm;show(List.filter (λa:Et=>decide (kE a=kE e)) xs).head?=some b;have:∃r,xs.filter (λa:Et=>decide (kE a=kE e))=b::r:=by
   have hx:b∈xs.filter (λa:Et=>decide (kE a=kE e)):=Eb.mpr ⟨hm,by simpa using hb⟩
   match hq:xs.filter λa:Et=>decide (kE a=kE e),hx with
   | c::r,_ =>
    have hc:c∈xs.filter (λa:Et=>decide (kE a=kE e)):=by rw[hq];simp
    obtain⟨c1,c2⟩:=Eb.mp hc;have:=hs.inj c1 hm<|(Rx c2).trans hb.symm;exact⟨r,by rw[this]⟩
  obtain⟨r,er⟩:=this;rw[er];rfl
 | h+1,xs,h0,hf,hs,hm=>by
  have h0:0 < xs.length:=by rcases h0 with z | z;cases z;exact z
  obtain⟨L,c,R,ex,hL,lt1,lt2⟩:=zY4 jc hf hs e h0;obtain⟨t1,t2,t3⟩:=zVU (L:=L) (R:=R) (c:=c) (d:=([]:It<|h+1)) hL;rw[<-ex] at t1 t2 t3;have hc:c∈xs:=by rw[ex];simp
  obtain⟨c1,c2,c3⟩:=wR<|hf c hc;have sc:Srt<|zJ h c:=hs.sublist<|rB (f:=pH<|h+1) hc;have eqx:zJ (h+1) xs=zJ (h+1) L++(zJ h c++zJ (h+1) R):=by
   conv=>lhs;rw[ex]
   rw[nQ,wF];rfl
  rw[eqx] at hm;have hbc:b∈zJ h c:=by
   rcases v6 hm with z | z
   .have:=lt1 b z;rw[hb,vC] at this;cases this
   .rcases v6 z with z | z
    .exact z
    .have:=lt2 b z;rw[hb,vC] at this;cases this
  show zYf h (List.getD xs (vR h xs e) []) e=some b;rw[t2];exact like_some hb h c (.inr jc) c3 sc hbc
end
structure RtOk (n h:Nat)(xs:!7):Prop where
 len:xs.length<=n
 two:h=0\/2<=xs.length
 full:∀x∈xs,tW n h x
 srt:Srt<|zJ h xs
abbrev Rt:=(h:Nat)×List (It h)
def zOQ:(h:Nat)->List (It h)->Rt
 | 0,xs=>⟨0,xs⟩
 | h+1,xs=>match xs with
  | [x]=>zOQ h x
  | xs=>⟨h+1,xs⟩
def zY9 {xs:!7}(h2:h=0\/2<=xs.length):zOQ h xs=⟨h,xs⟩:=by
 cases h with
 | zero=>rfl
 | succ h =>
  match xs,h2 with
  | [],_=>rfl
  | [x],h2=>rcases h2 with z | z;cases z;exact absurd z je
  | _::_::_,_=>rfl
def zTJ (h:Nat)(ys:List (!7)):Rt:=if ys.length=0 then⟨0,[]⟩ else zOQ (h+1) ys
def RtOk.nil {n:Nat}:RtOk n 0 []:=⟨Wm _,.inl J,(λ_ h=>nomatch h),List.Pairwise.nil⟩
section
variable (hn:4<=n) (e:Et)
include hn
def RtOk.put {xs:!7}(H:RtOk n h xs)(hk:∀a∈zJ h xs,kE a≠kE e):∃h' xs',zTJ h (iC n h xs e)=⟨h',xs'⟩/\RtOk n h' xs'/\(zJ h' xs').Perm (e::zJ h xs):=by
 have h0:h=0\/0 < xs.length:=by rcases H.two with z | z;exact .inl z;exact .inr jc
 have p1:=zQo n hn e h xs H.len h0 H.full;obtain⟨p2,p3⟩:=zOC hn e h xs h0 H.full H.srt hk;generalize iC n h xs e=ys at p1 p2 p3;cases p1 with
 | @one y a b c =>
  have hy:zJ (h+1) [y]=zJ h y:=by show List.flatMap _ [y]=_;simp[pH]
  rw[hy] at p2 p3;have h2:h=0\/2<=y.length:=by rcases H.two with z | z;exact .inl z;exact .inr jc
  exact⟨h,y,zY9 h2,⟨b,h2,c,p3⟩,p2⟩
 | @two y z a b=>exact⟨h+1,[y,z],J,⟨by simp;lia,.inr je,λx hx=>by
   rcases v4 hx with rfl | hx
   .exact a
   .rw[Qv] at hx;subst hx;exact b,p3⟩,p2⟩
def RtOk.take {xs:!7}(H:RtOk n h xs):∃h' xs',zTJ h (zXV n h xs e)=⟨h',xs'⟩/\RtOk n h' xs'/\zJ h' xs'=(zJ h xs).filter λa => !vS a e:=by
 obtain⟨p1,p2⟩:=zZM hn e h xs H.len H.two H.full H.srt;generalize zXV n h xs e=ys at p1 p2;have hs:Srt<|(zJ h xs).filter λa => !vS a e:=H.srt.sublist List.filter_sublist;rcases p2 with⟨z,rfl,_⟩ | ⟨y,rfl,y1,y2,y3,y4⟩
 .exact⟨0,[],rfl,.nil,p1⟩
 .have hy:zJ (h+1) [y]=zJ h y:=by show List.flatMap _ [y]=_;simp[pH]
  rw[hy] at p1
  by_cases h2:h=0\/2<=y.length
  .exact⟨h,y,zY9 h2,⟨y2,h2,y4,by rw[p1];exact hs⟩,p1⟩
  .cases h with
   | zero=>exact absurd (.inl J) h2
   | succ h =>
    match y,y3,y4,hy,h2,p1 with
    | [c],_,y4,hy,_,p1 =>
     obtain⟨c1,c2,c3⟩:=wR<|y4 c Ql;have hc:zJ _ [c]=zJ h c:=by show List.flatMap _ [c]=_;simp[pH]
     rw[hc] at p1;have h2':h=0\/2<=List.length c:=.inr jc;exact⟨h,c,zY9 h2',⟨c2,h2',c3,by rw[p1];exact hs⟩,p1⟩
    | _::_::_,_,_,_,h2,_=>exact absurd (.inr je) h2
omit e
theorem zWh:∀(h:Nat) (x:It h),tW n h x->2^h<=(pH h x).length
 | 0,_,_=>Qh 1
 | h+1,xs,H=>by
  obtain⟨a,b,c⟩:=wR H;have key:∀ys:List _,(∀y∈ys,tW n h y)->ys.length*2^h<=(zJ h ys).length:=by
   intro ys;induction ys with
   | nil=>intro _;simp
   | cons y r ih =>intro hy;have i1:=ih λz hz=>hy z<|Qf _ hz;have i2:=zWh h y<|hy y Ql;rw[wF,Qp,Qk,Nat.add_mul];lia
  have:=key xs c;show 2^_<=(zJ h xs).length;have h2:2*2^h<=List.length xs*2^h:=Nat.mul_le_mul_right _ jc;rw[Nat.pow_succ];lia
def RtOk.deep {xs:!7}(H:RtOk n h xs)(hl:(zJ h xs).length < 32768):h<=13:=by
 rcases H.two with z | z
 .lia
 .match xs,z with
  | x::y::r,_ =>
   have a:=zWh hn h x<|H.full x je;have b:=zWh hn h y<|H.full y je;rw[wF,wF,Qp,Qp] at hl
   by_cases q:h<=13
   .exact q
   .have:2^14<=2^h:=Nat.pow_le_pow_right je jc;lia
theorem RtOk.like_none {h:Nat}{xs:!7}(H:RtOk n h xs){e:Et}(hk:∀a∈zJ h xs,kE a≠kE e):zYf h xs e=none :=
 My.like_none hn e h xs (by rcases H.two with z | z;exact .inl z;exact .inr jc) H.full hk
theorem RtOk.like_some {h:Nat}{xs:!7}(H:RtOk n h xs){e b:Et}(hb:b∈zJ h xs)(hk:kE b=kE e):zYf h xs e=some b :=
 My.like_some hn e hk h xs (by rcases H.two with z | z;exact .inl z;exact .inr jc) H.full H.srt hb
end
def zZ4 {g:Sf}(h:f O=some d):zH (yI i f) g O=g (O.set i<|.fz d):=xG (by unfold yI;rw[h];rfl)
def yC {g:Sf}(h:f O=some d)(k:(g<|O.set i<|.fz d).bind wG=r):(zH (yI i f) g O).bind wG=r:=yM (by unfold yI;rw[h];rfl) k
def zXl {f g:Sf}(h:t O=some false)(k:(g O).bind wG=r):(zH (sIf t f wC) g O).bind wG=r:=yM (by unfold sIf;rw[h];rfl) k
def nF {f:Sf}{b:Bool}(h:t O=some b):sIf t f wC O=if b then f O else some (.nx O):=by unfold sIf;rw[h];cases b<;>rfl
def zW2 {g:Sf}(h:t O=some true)(k:e O=r):(zH (sIf t (xS e) wC) g O).bind wG=r:=by unfold zH;rw[nF h];unfold xS;rw[k];cases r<;>rfl
def uJ:(xS e O).bind wG=e O:=by unfold xS;cases e O<;>rfl
def zZ7 {f:jz}(h:fa O=some x):yZ 1 f (zY fa zS) O=f [x]:=zZY (zI h J) J
def vY {f:jz}(h1:fa O=some x)(h2:fb O=some y):yZ 2 f (zY fa<|zY fb zS) O=f [x,y]:=zZY (zI h1<|zI h2 rfl) J
def vL {f:jz}{z:D}(h1:fa O=some x)(h2:fb O=some y)(h3:fc O=some z):yZ 3 f (zY fa<|zY fb<|zY fc zS) O=f [x,y,z]:=zZY (zI h1<|zI h2<|zI h3 rfl) J
def yY {C:Int->Int->Bool}{g:Int->Int->Int}{i:Int}(h1:fa O=some (.int i))(h2:fb O=some (.int j))(h:C i j=true):eI C g fa fb O=some (.int<|g i j):=by unfold eI;rw[h1,h2];simp[h]
def bO {x k:Int}(h:f O=some (.int x)):eB2 gEq f (eC<|.int k) O=some (decide (x=k)):=by unfold eB2;rw[h];rfl
def aI {i:Int}(h1:fa O=some (.int i))(h2:fb O=some (.int j)):rA fa fb O=some (.int<|i+j):=by unfold rA;rw[h1,h2];rfl
def zQK {x y:Str}(h1:fa O=some (.str x))(h2:fb O=some (.str y))(h:x.length+y.length<=100000):rA fa fb O=some (.str<|x++y):=by unfold rA;rw[h1,h2];exact zPX h
def lF (h:g O=some ds)(hl:ds.length<=100000):w9 g O=some (.tup ds):=by unfold w9;rw[h,Qt,uV hl];rfl
def dG (h:g O=some ds)(hl:ds.length<=100000):xA g O=some ds:=by unfold xA;rw[h,Qt,uV hl]
def rX (h1:fa O=some x)(h2:fb O=some y):eIx fa fb O=atD x y:=by unfold eIx;rw[h1,h2];rfl
theorem zOM {α:Type}{elt:Ef}{f:α->D}{Q:α->Prop}{rest:ki}:∀(ds:kd) (x0:B) (j7:kd),(∀d∈ds,∃a,elt (.fz d::rest)=some (f a)/\Q a)->∃as:List α,uI (gN 0) tOK elt ds (x0::rest) j7=some (j7++as.map f)/\as.length=ds.length/\∀a∈as,Q a
 | [],_,j7,_=>⟨[],by simp[uI],J,λ_ h=>by cases h⟩
 | d::r,x0,j7,hh=>by
  obtain⟨a,ha,qa⟩:=hh d Ql;obtain⟨as,e,el,hq⟩:=zOM r (.fz d) (j7++[f a]) λq hq=>hh q<|Qf _ hq;refine⟨a::as,?_,by rw[Qk,Qk,el],λb hb=>by
   rcases v4 hb with z | z
   .simp_all
   .exact hq b z⟩
  unfold uI;have e1:gN 0 d (x0::rest)=some _:=rfl;have e2:tOK (.fz d::rest)=some true:=rfl;simp_all
abbrev pgN:kg:=[Ap,A5,AI,Ay]
def dE (e:Et):D:=.tup [.int e.f,.int e.l,.str e.z]
def zQQ (h:Nat)(xs:!7):D:=if (xs.map<|most h).isEmpty=true then .non else .int (zZ3<|xs.map<|most h)
def iD:(h:Nat)->It h->D
 | 0,e=>dE e
 | h+1,xs=>.obj "Page" pgN [.bl<|h==0,.lst<|List.map (iD h) xs,.lst<|List.map (λx=>dE<|wZ h x) xs,zQQ h xs]
abbrev pgD (h:Nat)(xs:!7):D:=iD (h+1) xs
def ne:(h:Nat)->It h->Prop
 | 0,_=>True
 | h+1,xs=>0 < List.length xs
def iZ (hn:4<=n){x:It h}(H:tW n h x):ne h x:=by
 cases h with
 | zero=>trivial
 | succ h=>have:=(wR H).1;show 0 < List.length x;lia
def zSC {a b c:D}(h:fa O=some (.obj A2 pgN [a,b,c,d])):yT A2 Ap fa O=some a/\yT A2 A5 fa O=some b/\yT A2 AI fa O=some c/\yT A2 Ay fa O=some d:=by
 refine⟨?_,?_,?_,?_⟩
 all_goals
  unfold yT;rw[h,Qt];refine(Qg J).trans ?_;kernel_rfl
section
variable{xs:!7}
def zKh (H:fa O=some (pgD h xs)):yT A2 Ap fa O=some (.bl<|h==0):=(zSC H).1
def wB (H:fa O=some (pgD h xs)):yT A2 A5 fa O=some (.lst<|xs.map<|iD h):=(zSC H).2.1
def zWd (H:fa O=some (pgD h xs)):yT A2 AI fa O=some (.lst<|xs.map λx=>dE<|wZ h x):=(zSC H).2.2.1
def zSu (H:fa O=some (pgD h xs)):yT A2 Ay fa O=some (zQQ h xs):=(zSC H).2.2.2
end
theorem zNU {α:Type}{elt:Ef}{f h:α->D}{rest:ki}:∀(l:!10) (x0:B) (j7:kd),(∀a∈l,elt (.fz (f a)::rest)=some (h a))->uI (gN 0) tOK elt (l.map f) (x0::rest) j7=some (j7++l.map h)
 | [],_,j7,_=>by simp[uI]
 | a::r,x0,j7,hh=>by rw[Qx];unfold uI;have e1:gN 0 (f a) (x0::rest)=some (.fz _::rest):=rfl;have e2:tOK (.fz (f a)::rest)=some true:=rfl;rw[e1,Qt,e2,Qt,hh a Ql,Qt,zNU r _ _ λq hq=>hh q<|Qf _ hq];simp
theorem iP {α:Type}{t:Tf}{f:α->D}{p:α->Bool}{rest:ki}:∀(l:!10) (x0:B) (j7:kd),(∀a∈l,t (.fz (f a)::rest)=some (p a))->uI (gN 0) t eV0 (l.map f) (x0::rest) j7=some (j7++(l.filter p).map f)
 | [],_,j7,_=>by simp[uI]
 | a::r,x0,j7,hh=>by
  rw[Qx];unfold uI;have e1:gN 0 (f a) (x0::rest)=some (.fz _::rest):=rfl;have e3:eV0 (.fz (f a)::rest)=some _:=rfl;rw[e1,Qt,hh a Ql,Qt];cases hp:p a with
  | true=>rw[e3,Qt,iP r _ _ λq hq=>hh q<|Qf _ hq,List.filter_cons_of_pos hp];simp
  | false=>rw[Qc je,iP r _ _ λq hq=>hh q<|Qf _ hq,List.filter_cons_of_neg (!9)]
theorem zUG:∀l:kh,zXf (l.map .int)=some l
 | []=>rfl
 | i::r=>by show(zXf _).map _=_;rw[zUG r];rfl
def zHJ (h:g O=some (l.map .int)):zOt g O=some (if l.isEmpty=true then .non else .int (zZ3 l)):=by unfold zOt;rw[h,Qt,zUG,Qt];split<;>rfl
def zS2 {x:!7}(hx:0 < x.length):zQQ h x = .int (most (h+1) x):=by unfold zQQ;rw[Qc (by cases x;simp at hx;simp)];rfl
def zTm (f:α->D){x:α}{r:!10}:atD (.lst<|(x::r).map f) (.int 0)=some (f x):=by show atI _ 0=_;rw[mJ _ 0 .non je je];rfl
def zSB {l:!10}{f g:α->D}(hs:src O=some (.lst<|l.map f))(hl:l.length<=100000)(he:∀a∈l,elt [.fz<|f a]=some (g a)):yJ (iL src) 1 [] (gN 0) tOK elt O=some (l.map g):=by unfold yJ iL;rw[hs,Qt];rw[Qt,uV (!9)];have:=zNU l .no [] he;exact this
def zHP (h:Nat)(xs:!7)(hl:xs.length<=100000)(hne:∀x∈xs,ne h x):nZ [.bl<|h==0,.lst<|xs.map<|iD h]=some [.bl<|h==0,.lst<|xs.map<|iD h,.lst<|xs.map λx=>dE<|wZ h x,zQQ h xs]:=by
 show zSX [.no,.fz _,.fz<|.lst _,.no]=_;have e1:eIf (tB1 eV1) (eL<|yJ (iL eV2) 1 [] (gN 0) tOK<|eIx eV0 jq) (eL<|yJ (iL eV2) 1 [] (gN 0) tOK<|yT A2 Ay eV0) [.no,.fz<|.bl<|h==0,.fz<|.lst<|xs.map<|iD h,.no]=some (.lst<|(xs.map<|most h).map .int):=by
  rw[Wk];cases h with
  | zero=>exact vZ<|zSB rfl hl λe _=>rfl
  | succ h=>exact vZ (zSB J hl λx hx=>by rw[zSu rfl,zS2<|hne x hx];rfl)
 unfold zSX;rw[e1,Qt];refine zI rfl<|zI rfl<|zI ?_<|zI (zHJ J) rfl;cases h with
 | zero=>rfl
 | succ h =>
  exact vZ (zSB (g:=λx=>dE _) rfl hl λx hx=>by
   match x,hne x hx with
   | y::t,_=>exact(rX (zWd (h:=h) J) J).trans (zTm _))
def zZJ {fx:Ef}{xs:!7}(h1:fb O=some (.bl<|h==0))(h2:fx O=some (.lst<|xs.map<|iD h))(hl:xs.length<=100000)(hne:∀x∈xs,ne h x):nC A2 pgN 2 nZ (zY fb<|zY fx zS) O=some (pgD h xs) :=zRW (zI h1<|zI h2 rfl) J (zHP h xs hl hne) J
def zFf (f:α->D)(xs:!10)(k:Nat)(hk:k<=xs.length):jW (xs.map f) none (some (k:Int))=(xs.take k).map f:=by unfold jW;rw[HT.sIx_nat,Qy,Oz,Pd hk];rfl
def zFE (f:α->D)(xs:!10)(k:Nat):jW (xs.map f) (some (k:Int)) none=(xs.drop k).map f:=by unfold jW;rw[HT.sIx_none,HT.sIx_nat,Yh je];simp_all
def zHd (f:α->D)(xs:!10)(k:Nat):jW (xs.map f) (some (k:Int)) (some ((k+2:Nat):Int))=((xs.drop k).take 2).map f:=by
 unfold jW;rw[HT.sIx_nat,HT.sIx_nat,Qy,Oz,List.map_drop]
 by_cases h:k<=xs.length
 .rw[Pd h]
  by_cases h2:k+2<=xs.length
  .simp_all
  .rw[Nat.min_eq_right jc,Yh je,Yh (by simp;lia)]
 .rw[show min k xs.length=xs.length from Nat.min_eq_right jc,List.drop_of_length_le je,List.drop_of_length_le (by simp;lia)];simp
def zWm {f:α->D}{xs:!10}{k:Nat}(h:fa O=some (.lst<|xs.map f))(hk:fk O=some (.int (k:Int)))(hkl:k<=xs.length):vN fa oNo (vX fk) O=some ((xs.take k).map f):=by unfold vN oNo vX;rw[h,hk];exact Wa some<|zFf f xs k hkl
def zVP {f:α->D}{xs:!10}{k:Nat}(h:fa O=some (.lst<|xs.map f))(hk:fk O=some (.int (k:Int))):vN fa (vX fk) oNo O=some ((xs.drop k).map f):=by unfold vN oNo vX;rw[h,hk];exact Wa some<|zFE f xs k
def pR (n h:Nat)(xs:!7)(hl:xs.length<=1000)(hne:∀x∈xs,ne h x):sP [.bl<|h==0,.lst<|xs.map<|iD h,.int (n:Int)]=some (.lst<|(tZ n xs).map<|iD<|h+1):=by
 show(iA [.fz<|.bl<|h==0,.fz<|.lst<|xs.map<|iD h,.fz<|.int (n:Int),.no]).bind wG=_
 by_cases h0:xs.length=0
 .have:=Re.mp h0;subst this;exact zW2 J J
 .have hc0:tZ n xs=if xs.length<=n then [xs] else [xs.take<|xs.length / 2,xs.drop<|xs.length / 2]:=Qc h0;refine zXl (by
   cases xs with
   | nil=>exact absurd J h0
   | cons x r=>rfl) ?_
  have ht:eB2 gLe (nV eV1) eV2 [.fz<|.bl<|h==0,.fz<|.lst<|xs.map<|iD h,.fz<|.int (n:Int),.no]=some (decide (xs.length<=n)):=by show some (decide (((xs.map<|iD h).length:Int)<=(n:Int)))=_;simp_all
  by_cases h1:xs.length<=n
  .rw[hc0,Qg h1];refine zW2 (by rw[ht,Qb h1]) ?_;exact vZ<|dG (zI (zZJ (h:=h) (xs:=xs) J J jc hne) J) je
  .rw[hc0,Qc h1];refine zXl (by rw[ht,Wu h1]) ?_;refine yC (d:=.int ((xs.length / 2:Nat):Int)) (by
    refine(yY (i:=(xs.length:Int)) (j:=2) ?_ J J).trans ?_
    .show some (D.int ((xs.map _).length:Int))=_;rw[Qy]
    .rfl) ?_
   unfold zZK;rw[uJ];refine vZ<|dG (zI (zZJ (xs:=xs.take _) J (vZ<|zWm rfl rfl jc) (by rw[Wx];lia) λx hx=>hne x<|Ek hx)<|zI (zZJ (xs:=xs.drop _) J (vZ<|zVP rfl rfl) (by rw[Ey];lia) λx hx=>hne x<|El hx) rfl) je
def zO6 (e:Et):sA [dE e]=some (dIS<|kE e):=rfl
def zPs (h:Nat)(xs:!7)(e:Et)(hl:xs.length<=1000):zWo [pgD h xs,dE e]=some (.int ((zMK (xs.map<|wZ h) e:Nat):Int)):=by
 refine yM (O':=[.fz<|pgD h xs,.fz<|dE e,.ow<|(xs.filter λx => !xE (kE e) (kE<|wZ h x)).map λx=>dE<|wZ h x]) ?_ ?_
 .unfold pS yJ iL;rw[zWd rfl,Qt];rw[Qt,uV (by rw[Qy];lia)];have:=iP (t:=eB2 zOm (yZ 1 sA<|zY eV0 zS)<|yZ 1 sA (!11)) (f:=λx=>dE<|wZ h x) (p:=λx => !xE (kE e) (kE _)) (rest:=[.fz<|dE e]) xs .no [] λa _=>by
   rfl
  exact(Wa _ this).trans J
 .unfold zPd;have j5:((xs.filter λx => !xE (kE e) (kE<|wZ h x)).map λx=>dE<|wZ h x).length=((xs.map<|wZ h).filter λa => !xE (kE e) (kE a)).length:=by
   rw[Qy,Uu,Qy];rfl
  show some (D.int<|if _ > ((List.map (λx=>dE _)<|xs.filter λx => !xE _ (kE _)).length:Int) - 1 then 0 else((List.map (λx=>dE _)<|xs.filter λx => !xE _ (kE _)).length:Int) - 1)=_;rw[j5];unfold zMK
  grind
def zTa (f:α->D){xs:!10}{k:Nat}{d:α}(h:k < xs.length):atD (.lst<|xs.map f) (.int (k:Int))=some (f<|xs.getD k d):=by show atI _ _=_;rw[mJ _ _ .non jc (!9)];simp[h]
def zDG (p q:Int×Str):zM8 (dIS p) (dIS q)=some (decide (p=q)):=by
 show some (_&&true)=_;obtain⟨a,b⟩:=p;obtain⟨c,d⟩:=q
 by_cases h1:a=c<;>by_cases h2:b=d<;>simp[h1,h2]
def zDV (a e:Et):bE (dE a) (dE e)=some (!vS a e):=by show some (!((a.f==e.f&&_)&&true))=_;unfold vS;simp
def Way (n h:Nat)(xs:!7):Prop:=xs.length<=n/\(h=0\/0 < xs.length)/\∀x∈xs,tW n h x
def Way.down (hn:4<=n){xs:List<|It<|h+1}(H:Way n (h+1) xs)(e:Et):vR h xs e < xs.length/\Way n h (xs.getD (vR h xs e) []):=by
 obtain⟨a,b,c⟩:=H;have h0:0 < xs.length:=by rcases b with z | z;cases z;exact z
 have hw:=zUc (e:=e) h0;have hm:xs.getD (vR h xs e) []∈xs:=by simp_all
 obtain⟨c1,c2,c3⟩:=wR<|c _ hm;exact⟨hw,c2,.inr jc,c3⟩
def Way.ne {n h:Nat}(hn:4<=n){xs:!7}(H:Way n h xs):∀x∈xs,My.ne h x:=λx hx=>iZ hn<|H.2.2 x hx
def zRs:(h:Nat)->List (It h)->Et->qm
 | 0,xs,_=>xs
 | h+1,xs,e=>zRs h (List.getD xs (vR h xs e) []) e
theorem zXp:∀(h:Nat) (xs:!7) (e:Et),zYf h xs e=((zRs h xs e).filter λa=>decide (kE a=kE e)).head?
 | 0,_,_=>rfl
 | h+1,xs,e=>zXp h _ e
theorem zUB {n:Nat}(hn:4<=n):∀(h:Nat) (xs:!7) (e:Et),Way n h xs->(zRs h xs e).length<=n
 | 0,_,_,H=>H.1
 | h+1,xs,e,H=>zUB hn h _ e (H.down hn e).2
def zDk:Option Et->D | none=>.non | some e=>dE e
theorem zOp {n:Nat}(hn:4<=n)(h12:n<=60)(e:Et):∀(h:Nat) (xs:!7) (k:Nat),Way n h xs->h < k -> kM (sD<|tB1<|yT A2 Ap eV0) (yI 0<|eIx (yT A2 A5 eV0)<|yZ 2 zWo<|zY eV0 (!11)) k [.fz<|pgD h xs,.fz<|dE e,.no]=some (.nx [.fz<|pgD 0<|zRs h xs e,.fz<|dE e,.no])
 | 0,xs,k+1,H,hk=>by rfl
 | h+1,xs,k+1,H,hk=>by
  obtain⟨hw,H'⟩:=H.down hn e;have b:yI 0 (eIx (yT A2 A5 eV0)<|yZ 2 zWo<|zY eV0 (!11)) [.fz<|pgD _ xs,.fz<|dE e,.no]=some (.nx [.fz<|pgD h<|xs.getD (vR h xs e) [],.fz<|dE e,.no]):=by unfold yI;rw[(rX (wB J)<|(vY J J).trans<|zPs _ xs e<|Wq H.1 jc).trans<|zTa _ (d:=_) hw];rfl
  rw[kM,b];exact zOp hn h12 e h _ k H' jc
def zPi (hn:4<=n)(h12:n<=60)(e:Et)(h:Nat)(xs:!7)(H:Way n h xs)(hh:h < 18):tG [pgD h xs,dE e]=some (zDk<|zYf h xs e):=by
 have hl:=zUB hn h xs e H;refine yM (zOp hn h12 e h xs 18 H hh) ?_;rw[zXp];generalize zRs h xs e=es at hl;refine yM (O':=[.fz<|pgD 0 es,.fz<|dE e,.ow<|(es.filter λa=>decide (kE a=kE e)).map dE]) ?_ ?_
 .unfold pS yJ iL;rw[wB rfl,Qt];rw[Qt,uV<|by grind];have:=iP (t:=eB2 zM8 (yZ 1 sA<|zY eV0 zS)<|yZ 1 sA (!11)) (f:=dE) (p:=λa=>decide (kE a=kE e)) (rest:=[.fz _]) es .no [] λa _=>by
   unfold eB2;rw[zZ7 rfl,zZ7 rfl,zO6,zO6];exact zDG _ _
  exact(Wa _ this).trans J
 .unfold fK zZA;rw[uJ];cases es.filter λa=>decide (kE a=kE e) with
  | nil=>rfl
  | cons x r=>exact zTm dE
theorem zUD:∀l:qm,zRM sA (l.map dE)=some (l.map kE)
 | []=>rfl
 | e::r=>by show((sA [dE e]).bind zP7).bind _=_;rw[zUD r];rfl
def zJz {l:qm}(h:g O=some (l.map dE))(hl:l.length < 64):zSE sA g O=some ((jU l).map dE):=by unfold zSE;rw[h,Qt,zUD,Qt,Qg (!9)];unfold jU;rw[Wk];congr 1;refine Ra λi hi=>?_;have h:=zGQ hi;simp[h]
def zVB {f:Lf}{d:α->D}{xs ys:!10}(h1:f O=some (xs.map d))(h2:g O=some (ys.map d))(hl:xs.length+ys.length<=100000):fY f g O=some ((xs++ys).map d):=by unfold fY;rw[h1,Qt,h2,Qt,uV (!9),Wv]
def gA (h:f O=some (.lst xs)):iL f O=some xs:=by unfold iL;rw[h];rfl
def zO1 (hn:4<=n)(e:Et)(h:Nat)(xs:!7)(H:Way n h xs):(iC n h xs e).length<=2/\(0 < xs.length\/h=0->∀y∈iC n h xs e,ne (h+1) y):=by
 have p:=zQo n hn e h xs H.1 H.2.1 H.2.2;have q:0 < xs.length\/h=0->∀y∈iC n h xs e,ne (h+1) y:=by
  intro hx y hy
  by_cases h0:h=0
  .subst h0;have hy:y∈tZ n (jU _):=hy;have hL:(jU<|xs++[e]).length=xs.length+1:=by rw[zYQ];exact Qp
   unfold tZ at hy;rw[Qc jc] at hy;split at hy
   .rw[Qv] at hy;subst hy;show 0 < List.length _;lia
   .rcases v4 hy with rfl | hy
    .show 0 < List.length _;rw[Wx];lia
    .rw[Qv] at hy;subst hy;show 0 < List.length _;rw[Ey];lia
  .have hx:0 < xs.length:=by rcases hx with z | z;exact z;exact absurd z h0
   generalize iC n h xs e=ys at p hy;cases p with
   | one a b c=>rw[Qv] at hy;subst hy;show 0 < List.length _;lia
   | two a b =>
    rcases v4 hy with rfl | hy
    .exact iZ hn a
    .rw[Qv] at hy;subst hy;exact iZ hn b
 refine⟨?_,q⟩;generalize iC n h xs e=ys at p;cases p with
 | one a b c=>simp
 | two a b=>simp
def zOw {fx fi:Ef}{xs:List<|It<|h+1}{ys:List (!7)}{k:Nat}(h1:fx O=some (.lst<|xs.map<|iD<|h+1))(h2:fk O=some (.int (k:Int)))(h3:fi O=some (.lst<|ys.map<|iD<|h+1))(hk:k < xs.length)(hl:xs.length<=900)(hy:ys.length<=2):eL (fY (fY (vN fx oNo<|vX fk)<|iL fi)<|vN fx (vX<|uB fk jq) oNo) O=some (.lst<|(xs.take k++ys++xs.drop (k+1)).map<|iD<|h+1):=by have hk2:uB fk jq O=some (.int _):=(yY h2 J J).trans J;exact vZ<|zVB (zVB (zWm h1 h2 jc) (gA h3)<|by grind) (zVP h1 hk2)<|by grind
theorem fN {n:Nat}(hn:4<=n)(h12:n<=50)(e:Et):∀(h:Nat) (xs:!7) (k:Nat),Way n h xs->h < k->rY k [pgD h xs,dE e,.int (n:Int)]=some (.lst<|(iC n h xs e).map<|iD<|h+1)
 | 0,xs,k+1,H,_=>by
  have hl:=H.1;refine zW2 ?_ ?_
  .rfl
  .have hc:fY (iL<|yT A2 A5 eV0) (xA (!11)) [.fz _,.fz _,.fz<|.int<|n,.no,.no]=some (List.map dE<|xs++[e]) :=
    zVB (gA<|wB (h:=0) rfl) (dG (zI J J) je) (by grind)
   refine(vL J (vZ<|zJz hc<|by grind) rfl).trans ?_;exact pR n 0 (jU _) (by rw[zYQ];simp;lia) λ_ _=>trivial
 | h+1,xs,k+1,H,hk=>by
  have hl:=H.1;obtain⟨hw,H'⟩:=H.down hn e;obtain⟨p1,p2⟩:=zO1 hn e h _ H';have ih:=fN hn h12 e h _ k H' jc;show(oV _ [.fz<|pgD _ xs,.fz _,.fz<|.int _,.no,.no]).bind wG=_;refine zXl ?_ ?_
  .rfl
  refine yC ((vY J J).trans<|zPs _ xs e jc) ?_;refine yC ((vL ((rX (wB J) J).trans<|zTa (iD _) (d:=([]:It _)) hw) J J).trans ih) ?_;unfold gG;rw[uJ];refine(vL J (zOw (wB J) J J hw jc p1) J).trans ?_;refine pR n _ _ (by grind) λx hx=>?_;rcases v6 hx with hx | hx
  .rcases v6 hx with hx | hx
   .exact H.ne hn x (Ek hx)
   .exact p2 (by rcases H'.2.1 with z | z;exact .inr z;exact .inl z) x hx
  .exact H.ne hn x (El hx)
def zWv (n:Nat){α:Type}:Nat->List (!10)->ky
 | _,[]=>[]
 | k,p::r=>if p.length < n / 2 then k::zWv n (k+1) r else zWv n (k+1) r
theorem zU5 (n:Nat){α:Type}:∀(k:Nat) (ps:List (!10)),(zWv n k ps).head?=(ps.findIdx? λx=>decide (x.length < n / 2)).map (· + k)
 | _,[]=>rfl
 | k,p::r=>by
  unfold zWv;rw[List.findIdx?_cons]
  by_cases h:p.length < n / 2
  .simp[h]
  .rw[Qc h,zU5 n _ r];simp only[h];cases r.findIdx? λx=>decide (x.length < n / 2) with
   | none=>rfl
   | some i=>show some (i+_)=some (i+1+k);congr 1;lia
theorem zSO {n h:Nat}:∀(ps:List (!7)) (k:Nat) (x0 x1:B) (j7:kd), uI (gT<|zM (gN 0)<|zM (gN 1) xZ) (eB2 gLt (nV<|yT A2 A5 eV1)<|uL eV2 jr) eV0 (((ps.map<|iD<|h+1).zipIdx k).map λq=>D.tup [.int (q.2:Nat),q.1]) [x0,x1,.fz<|.int (n:Int)] j7=some (j7++(zWv n k ps).map λi:Nat=>D.int (i:Int))
 | [],k,x0,x1,j7=>by simp[uI,zWv]
 | p::r,k,x0,x1,j7=>by
  rw[Qx,List.zipIdx_cons,Qx];unfold uI;have e1:gT (zM (gN 0)<|zM (gN 1) xZ) (D.tup [.int (k:Nat),iD (h+1) p]) [x0,x1,.fz<|.int (n:Int)]=some [.fz<|.int (k:Nat),.fz<|iD (h+1) p,.fz<|.int (n:Int)]:=rfl;have e2:eB2 gLt (nV<|yT A2 A5 eV1) (uL eV2 jr) [.fz<|.int (k:Nat),.fz<|iD (h+1) p,.fz<|.int (n:Int)]=some (decide (p.length < n / 2)):=by
   show some (decide (((p.map<|iD h).length:Int) < (n:Int) / 2))=_;rw[Qy];congr 1
   grind
  have e3:eV0 [.fz<|.int<|k,.fz<|iD (h+1) p,.fz<|.int<|n]=some (.int _):=rfl;rw[e1,Qt,e2,Qt];unfold zWv
  by_cases q:p.length < n / 2
  .rw[Qb q,Qg q,e3,Qt,zSO r _];simp
  .rw[Wu q,Qc jb,Qc q,zSO r _]
theorem zOF {h:Nat}{a0 a1 a2 a3:B}:∀(ps:List (!7)) (j7:!7) (x5:B),j7.length+ps.flatten.length<=100000 -> ∃y5,sQ (gN 5) zYj (ps.map<|iD<|h+1) [a0,a1,a2,a3,.ow<|j7.map<|iD h,x5]=some (.nx [a0,a1,a2,a3,.ow<|(j7++ps.flatten).map<|iD h,y5])
 | [],j7,x5,_=>⟨x5,by simp[sQ]⟩
 | p::r,j7,x5,hl=>by obtain⟨y5,e⟩:=zOF r (j7++p) _ (by grind);refine⟨y5,?_⟩;rw[Qx,uE (ρ1:=[a0,a1,a2,a3,.ow _,.fz _]) (ρ2:=[a0,a1,a2,a3,.ow _,.fz _]) rfl ?_,e,Yz,Th];show(if (j7.map _).length+(p.map _).length<=lim then some (Out.nx [a0,a1,a2,a3,.ow _,.fz _]) else none)=_;rw[Qg (by grind),Wv]
def zMG (ps:List (!7))(hl:ps.length<=900)(hn:n<=300)(hp:∀p∈ps,p.length<=n/\∀x∈p,ne h x):zXd [.lst<|ps.map<|iD<|h+1,.int (n:Int)]=some (.lst<|(lJ n ps).map<|iD<|h+1):=by
 refine yM (O':=[.fz<|.lst<|ps.map<|iD<|h+1,.fz<|.int (n:Int),.ow ((zWv n 0 ps).map λi:Nat=>D.int (i:Int)),.no,.no,.no]) ?_ ?_
 .unfold pS yJ zJR;show Option.map _ (((some<|L2.zWj<|ps.map<|iD<|h+1).bind okL).bind _)=_;rw[Qt,uV (by unfold L2.zWj;rw[Qy,List.length_zipIdx,Qy];lia),Qt];have:=zSO (n:=n) ps 0 .no .no [];exact(Wa (Option.map _) this).trans J
 have hh:=zU5 n 0 ps;cases hf:ps.findIdx? λx=>decide (x.length < n / 2) with
 | none =>
  rw[hf] at hh;have hfe:zWv n 0 ps=[]:=List.head?_eq_none_iff.mp hh;rw[hfe];have hI:lJ n ps=ps:=by unfold lJ;rw[hf]
  rw[hI];rfl
 | some i =>
  rw[hf] at hh;obtain⟨t,hfe⟩:∃t,zWv n 0 ps=i::t:=by
   cases hq:zWv n 0 ps with
   | nil=>rw[hq] at hh;cases hh
   | cons a t=>rw[hq] at hh;cases hh;exact⟨t,J⟩
  rw[hfe];have hi:i < ps.length:=(List.findIdx?_eq_some_iff_getElem.mp hf).1;have hI:lJ n ps=ps.take (i - 1)++tZ n ((ps.drop<|i - 1).take 2).flatten++ps.drop (i - 1+2):=by unfold lJ;rw[hf]
  rw[hI];refine yM (O':=[.fz<|.lst<|ps.map<|iD<|h+1,.fz<|.int (n:Int),.fz<|.lst ((i::t).map λi:Nat=>D.int (i:Int)),.no,.no,.no]) rfl ?_;refine yC (d:=.int ((i - 1:Nat):Int)) ?_ ?_
  .have e0:eIx eV2 jp [.fz<|.lst<|ps.map<|iD<|h+1,.fz<|.int (n:Int),.fz<|.lst ((i::t).map λi:Nat=>D.int (i:Int)),.no,.no,.no]=some (.int (i:Int)):=(rX (x:=.lst ((i::t).map λi:Nat=>D.int (i:Int))) rfl rfl).trans (zTm λi:Nat=>D.int (i:Int));unfold zI4;rw[show uT (eIx eV2 jp) jq [.fz<|.lst<|ps.map<|iD<|h+1,.fz<|.int (n:Int),.fz<|.lst ((i::t).map λi:Nat=>D.int (i:Int)),.no,.no,.no]=some (.int<|(i:Int) - 1) from(yY e0 J J).trans rfl];show some (D.int<|if (0:Int) > (i:Int) - 1 then 0 else(i:Int) - 1)=_;congr 2;split<;>lia
  refine yM (O':=[.fz<|.lst<|ps.map<|iD<|h+1,.fz<|.int (n:Int),.fz<|.lst ((i::t).map λi:Nat=>D.int (i:Int)),.fz<|.int ((i - 1:Nat):Int),.ow [],.no]) rfl ?_;have hfl:((ps.drop<|i - 1).take 2).flatten.length<=2*n/\∀x∈((ps.drop<|i - 1).take 2).flatten,ne h x:=by
   have hm:∀p∈(ps.drop<|i - 1).take 2,p.length<=n/\∀x∈p,ne h x:=λp hp'=>hp p<|El<|Ek hp';have h2:((ps.drop<|i - 1).take 2).length<=2:=by rw[Wx];lia
   generalize(ps.drop<|i - 1).take 2=qs at hm h2;refine⟨?_,λx hx=>?_⟩
   .match qs,h2,hm with
    | [],_,_=>simp
    | [a],_,hm=>have:=(hm a je).1;simp;lia
    | [a,b],_,hm=>have:=(hm a je).1;have:=(hm b je).1;simp;lia
    | _::_::_::_,h2,_=>simp at h2
   .obtain⟨p,hp',hx⟩:=List.mem_flatten.mp hx;exact(hm p hp').2 x hx
  obtain⟨y5,ex⟩:=zOF (h:=h) (a0:=.fz<|.lst<|ps.map<|iD<|h+1) (a1:=.fz<|.int (n:Int)) (a2:=.fz<|.lst ((i::t).map λi:Nat=>D.int (i:Int))) (a3:=.fz<|.int ((i - 1:Nat):Int)) ((ps.drop<|i - 1).take 2) [] .no (by simp only[Pj];lia);refine yM (O':=[.fz<|.lst<|ps.map<|iD<|h+1,.fz<|.int (n:Int),.fz<|.lst ((i::t).map λi:Nat=>D.int (i:Int)),.fz<|.int ((i - 1:Nat):Int),.ow<|((ps.drop<|i - 1).take 2).flatten.map<|iD h,y5]) ?_ ?_
  .unfold uG;have src:vN eV0 (vX eV3) (vX<|uB eV3 jr) [.fz<|.lst<|ps.map<|iD<|h+1,.fz<|.int (n:Int),.fz<|.lst ((i::t).map λi:Nat=>D.int (i:Int)),.fz<|.int ((i - 1:Nat):Int),.ow [],.no]=some (((ps.drop<|i - 1).take 2).map<|iD<|h+1):=by
    show some (jW (ps.map<|iD<|h+1) (some ((i - 1:Nat):Int))<|some<|((i - 1:Nat):Int)+2)=_;rw[show((i - 1:Nat):Int)+2=((i - 1+2:Nat):Int) by lia,zHd]
   rw[src,Qt];exact ex
  unfold zVF zZA;have s3:zR4 4 [.fz<|.lst<|ps.map<|iD<|h+1,.fz<|.int (n:Int),.fz<|.lst ((i::t).map λi:Nat=>D.int (i:Int)),.fz<|.int ((i - 1:Nat):Int),.ow<|((ps.drop<|i - 1).take 2).flatten.map<|iD h,y5]=[.fz<|.lst<|ps.map<|iD<|h+1,.fz<|.int (n:Int),.fz<|.lst ((i::t).map λi:Nat=>D.int (i:Int)),.fz<|.int ((i - 1:Nat):Int),.fz<|.lst<|((ps.drop<|i - 1).take 2).flatten.map<|iD h,y5]:=rfl;rw[s3,uJ];have hlf:yT A2 Ap (eIx eV0 jp) [.fz<|.lst<|ps.map<|iD<|h+1,.fz<|.int (n:Int),.fz<|.lst ((i::t).map λi:Nat=>D.int (i:Int)),.fz<|.int ((i - 1:Nat):Int),.fz<|.lst<|((ps.drop<|i - 1).take 2).flatten.map<|iD h,y5]=some (.bl<|h==0):=by
   match ps,hi with
   | p::r,_=>exact zKh (h:=h) (xs:=p)<|(rX J J).trans<|zTm<|iD<|h+1
  have hpg:=pR n h ((ps.drop<|i - 1).take 2).flatten jc hfl.2;have hcl:(tZ n ((ps.drop<|i - 1).take 2).flatten).length<=2:=by unfold tZ;split;simp;split<;>simp
  refine vZ<|zVB (d:=iD<|h+1) (zVB (d:=iD<|h+1) (zWm (f:=iD<|h+1) J J jc) (gA<|(vL hlf J J).trans hpg) (by rw[Wx];lia)) (zVP (f:=iD<|h+1) (k:=i - 1+2) rfl<|(yY (j:=2) J J J).trans rfl) (by rw[Qp,Wx,Ey];lia)
theorem RtOk.way {xs:!7}(H:RtOk n h xs):Way n h xs:=⟨H.len,by rcases H.two with z | z;exact .inl z;exact .inr jc,H.full⟩
theorem zRf {n:Nat}(hn:4<=n)(h12:n<=300)(e:Et):∀(h:Nat) (xs:!7) (k:Nat),RtOk n h xs->h < k->uZ k [pgD h xs,dE e,.int (n:Int)]=some (.lst<|(zXV n h xs e).map<|iD<|h+1)
 | 0,xs,k+1,H,_=>by
  have hl:=H.len;refine zW2 ?_ ?_
  .rfl
  .have hfl:=Ed (λa:Et => !vS a e) xs;refine(vL (y:=.lst<|List.map (iD 0)<|List.filter (λa:Et => !vS a e) xs) rfl (vZ ?_) rfl).trans (pR n 0 (List.filter (λa:Et => !vS a e) xs) (by have:=Wq hfl hl;lia) λ_ _=>trivial);unfold yJ iL;rw[wB (h:=0) (xs:=xs) rfl,Qt];rw[Qt,uV (by rw[Qy];lia),Qt];exact iP (t:=eB2 bE eV0 eV1) (f:=dE) (p:=λa => !vS a e) (rest:=[.fz<|dE e]) xs .no [] λa _=>zDV a e
 | h+1,xs,k+1,H,hk=>by
  have hl:=H.len;have h2:2<=xs.length:=by rcases H.two with z | z;cases z;exact z
  obtain⟨hw,H'⟩:=H.way.down hn e;have hm:xs.getD (vR h xs e) []∈xs:=by simp_all
  obtain⟨c1,c2,c3⟩:=wR<|H.full _ hm;have HB:RtOk n h<|xs.getD (vR h xs e) []:=⟨c2,.inr jc,c3,H.srt.sublist<|rB (f:=pH<|h+1) hm⟩
  have ih:=zRf hn h12 e h _ k HB jc;obtain⟨_,i2⟩:=zZM hn e h _ HB.len HB.two HB.full HB.srt;show(rJ (uZ k) [.fz<|pgD (h+1) xs,.fz<|dE e,.fz<|.int (n:Int),.no,.no]).bind wG=_;rcases i2 with⟨_,_,z⟩ | ⟨y,ey,y1,y2,y3,y4⟩
  .grind
  obtain⟨g1,g2,g3,g4⟩:=zOx hn (L:=xs.take<|vR h xs e) (R:=xs.drop<|vR h xs e+1) (c:=y) (λx hx=>H.full x<|Ek hx) (λx hx=>H.full x<|El hx) jc y2 y4 (by rw[Wx,Ey];lia);have hmid:xs.take (vR h xs e)++zXV n h (xs.getD (vR h xs e) []) e++xs.drop (vR h xs e+1)=xs.take (vR h xs e)++y::xs.drop (vR h xs e+1):=by rw[ey];simp
  have hfill:=zMG (n:=n) (h:=h) (xs.take (vR h xs e)++zXV n h (xs.getD (vR h xs e) []) e++xs.drop (vR h xs e+1)) (by rw[hmid,Qp,Qk,Wx,Ey];lia) h12 (λp hp=>by
   rw[hmid] at hp;rcases v6 hp with z | z
   .obtain⟨a,b,c⟩:=wR<|H.full p<|Ek z;exact⟨b,λx hx=>iZ hn<|c x hx⟩
   .rcases v4 z with z | z
    .rw[z];exact⟨y2,λx hx=>iZ hn<|y4 x hx⟩
    .obtain⟨a,b,c⟩:=wR<|H.full p<|El z;exact⟨b,λx hx=>iZ hn<|c x hx⟩)
  refine zXl ?_ ?_
  .rfl
  refine yC ((vY J J).trans<|zPs (h+1) xs e jc) ?_;refine yC ((vL ((rX (wB (h:=h+1) (xs:=xs) J) J).trans<|zTa (iD<|h+1) (d:=([]:It<|h+1)) hw) J J).trans ih) ?_;unfold lS;rw[uJ];refine(vL J ((vY (zOw (h:=h) (xs:=xs) (k:=vR h xs e) (wB (h:=h+1) (xs:=xs) J) J J hw jc (by rw[ey];simp)) rfl).trans hfill) rfl).trans ?_;refine pR n (h+1) _ ?_ λx hx=>?_
  .grind
  .rw[hmid] at hx;exact iZ hn<|g1 x hx
def rtD (r:Rt):D:=pgD r.1 r.2
theorem zQE {x0:B}:∀(h:Nat) (xs:!7) (k:Nat),h < k -> kM (bV (sD<|tB1<|yT A2 Ap eV1)<|eB2 gEq (nV<|yT A2 A5 eV1) jq) (yI 1<|eIx (yT A2 A5 eV1) jp) k [x0,.fz<|pgD h xs]=some (.nx [x0,.fz<|rtD<|zOQ h xs])
 | 0,xs,k+1,_=>by rfl
 | h+1,xs,k+1,hk=>by
  match xs with
  | []=>rfl
  | [x] =>exact zQE h x k jc
  | x::y::r =>rfl
def zOb (ys:List (!7))(hh:h < 16)(hl:ys.length<=100000)(hne:∀y∈ys,0 < y.length):cQ [.lst<|ys.map<|iD<|h+1]=some (rtD<|zTJ h ys):=by
 show(eS [.fz<|.lst _,.no]).bind wG=_;unfold zTJ
 by_cases h0:ys.length=0
 .have:=Re.mp h0;subst this;exact zW2 rfl<|zZJ (h:=0) (xs:=[]) rfl (vZ<|dG rfl jb) je λ_ _=>trivial
 .rw[Qc h0];refine zXl (by
   cases ys with
   | nil=>exact absurd J h0
   | cons x r=>rfl) ?_
  refine yC (zZJ J J hl hne) ?_;exact yM (zQE (h+1) ys 18 jc) J
theorem bit (x:Int):x % 2=0\/x % 2=1:=jc
abbrev Tn:=List<|Int×Int
def mP (p:Int×Int):D:=.tup [.int p.1,.int p.2]
def zVl (t:Tn):D:=.tup<|t.map mP
def yR (c:kh):D:=.tup<|c.map .int
def zX3 (t:Tn)(c:kh):kh:=t.map λp=>Builtin.bitXor (c.getD p.1.toNat 0) p.2
def zWy (t u:Tn):Tn:=t.map λp=>((u.getD p.1.toNat (0,0)).1,Builtin.bitXor (u.getD p.1.toNat (0,0)).2 p.2)
abbrev Row:=Int×Int
abbrev kl:=List Row
theorem zQL {α:Type}{elt:Ef}{u v h:α->D}{rest:ki}:∀(l:!10) (x0 x1:B) (j7:kd),(∀a∈l,elt (.fz (u a) :: .fz (v a)::rest)=some (h a))->uI (gT<|zM (gN 0)<|zM (gN 1) xZ) tOK elt (l.map λa=>.tup [u a,v a]) (x0::x1::rest) j7=some (j7++l.map h)
 | [],_,_,j7,_=>by simp[uI]
 | a::r,x0,x1,j7,hh=>by rw[Qx];unfold uI;have e1:gT (zM (gN 0)<|zM (gN 1) xZ) (.tup [u a,v a]) (x0::x1::rest)=some (.fz _ :: .fz _::rest):=rfl;have e2:tOK (.fz (u a) :: .fz (v a)::rest)=some true:=rfl;rw[e1,Qt,e2,Qt,hh a Ql,Qt,zQL r _ _ _ λq hq=>hh q<|Qf _ hq];simp
def zQ6 {x:Row}(h:f O=some (mP x)):eIx f jp O=some (.int x.1):=by unfold eIx;rw[h];rfl
def zPG {x:Row}(h:f O=some (mP x)):eIx f jq O=some (.int x.2):=by unfold eIx;rw[h];rfl
def dP {src:Lf}{m:ky}{rest:ki}{u v h:α->D}{l:!10}(h1:src O=some (l.map λa=>.tup [u a,v a]))(hl:l.length<=10000)(hu:upB 2 m O = .no :: .no::rest)(he:∀a∈l,elt (.fz (u a) :: .fz (v a)::rest)=some (h a)):yJ src 2 m (gT<|zM (gN 0)<|zM (gN 1) xZ) tOK elt O=some (l.map h):=by unfold yJ;rw[h1,Qt,uV (by rw[Qy];lia),Qt,hu,zQL l _ _ _ he,Il]
def Wc (n:Nat)(c:kh):Prop:=c.length=n/\∀x∈c,x=0\/x=1
def Wt (n:Nat)(t:Tn):Prop:=t.length=n/\∀p∈t,(0<=p.1/\p.1 < n)/\(p.2=0\/p.2=1)
def zKF {P:α->Prop}{d:α}(hd:P d){l:!10}(h:∀x∈l,P x)(i:Nat):P<|l.getD i d:=by
 rw[Eu];cases e:l[i]? with
 | none=>exact hd
 | some x=>exact h x<|Rw e
def zOr {x y:Int}(hx:x=0\/x=1)(hy:y=0\/y=1):Builtin.bitXor x y=0\/Builtin.bitXor x y=1:=by rcases hx with rfl | rfl<;>rcases hy with rfl | rfl<;>decide
section
variable{t u:Tn}
def zKE (ht:Wt n t)(hc:Wc n c):Wc n<|zX3 t c:=⟨by simp[zX3,ht.1],λx hx=>by obtain⟨p,hp,rfl⟩:=v7 hx;exact zOr (zKF (.inl J) hc.2 _) (ht.2 p hp).2⟩
theorem zHB (h0:0 < n)(ht:Wt n t)(hu:Wt n u):Wt n<|zWy t u:=⟨by simp[zWy,ht.1],λq hq=>by obtain⟨p,hp,rfl⟩:=v7 hq;have g:=zKF (d:=(0,0)) ⟨⟨Pk _,by show(0:Int) < n;lia⟩,.inl J⟩ hu.2 p.1.toNat;exact⟨g.1,zOr g.2 (ht.2 p hp).2⟩⟩
def zN7 (hn:n<=3)(ht:Wt n t)(hc:Wc n c):zW1 [zVl t,yR c]=some (yR<|zX3 t c):=by
 show(bN [.fz _,.fz _]).bind wG=_;unfold bN;rw[uJ];unfold vP;rw[vZ (dP (rest:=[.fz _]) (h:=λp=>.int<|Builtin.bitXor (c.getD p.1.toNat 0) p.2) rfl (by rw[ht.1];lia) rfl λp hp=>by obtain⟨⟨h0,h1⟩,_⟩:=ht.2 p hp;rw[<-hc.1] at h1;simp[eI,eIx,eV,zNC,yR,atD,zX7,mJ c p.1 0 h0 h1])]
 unfold zX3 yR;rw[Wk];rfl
def zMo (hn:n<=3)(ht:Wt n t)(hu:Wt n u):zT0 [zVl t,zVl u]=some (zVl<|zWy t u):=by
 show(zYE [.fz _,.fz _]).bind wG=_;unfold zYE;rw[uJ];unfold vP;rw[vZ (dP (rest:=[.fz _]) J (by rw[ht.1];lia) rfl λp hp=>by
  obtain⟨⟨h0,h1⟩,_⟩:=ht.2 p hp;rw[<-hu.1] at h1;have e:eIx eV2 eV0 [.fz<|.int p.1,.fz<|.int p.2,.fz<|zVl u]=some (mP<|u.getD p.1.toNat (0,0)):=by show atI _ p.1=_;rw[zX7,mJ u p.1 _ h0 h1];rfl
  have e1:=zQ6 e;have e2:=zPG e;exact lF (zI e1<|zI (yY e2 J J) rfl) (Qr J))]
 unfold zWy zVl;rw[Wk];rfl
end
structure Pt where
 c:kh
 t:Tn
 b:Bool
end My
variable{j:Bool}{e:Lf}{g:Sf}{f:kd->ka}{r:ka}{r':My.Rt}{xs:kh}{ps:List My.Pt}
namespace My
def mV (p:Pt):D:=.obj (Str.ofString AW) [Str.ofString Aj,Str.ofString AK,Str.ofString AL] [yR p.c,zVl p.t,.bl p.b]
def zL (nm:Str)(n:Int)(j:Bool)(ps:List Pt):D:=.obj (Str.ofString Al) [Str.ofString A6,Str.ofString Aa,Str.ofString B6,Str.ofString AE] [.str nm,.int n,.bl j,.lst<|ps.map mV]
def zOz (O:ki)(f:Ef){n:Int}(h:f O=some (!28)):yT (Str.ofString Al) (Str.ofString AE) f O=some (.lst<|ps.map mV):=by unfold yT;rw[h];rfl
def zUU {n:Int}(h:eV0 O=some (!28)):nV (yT (Str.ofString Al) (Str.ofString AE) eV0) O=some (.int (ps.length:Nat)):=by unfold nV;rw[zOz O _ h];show some _=_;rw[Qy]
structure PtsOk (n:Nat)(ps:List Pt):Prop where
 len:ps.length=2^n
 w:∀p∈ps,Wc n p.c/\Wt n p.t
def stD (t:Tn)(b:Bool):D:=.tup [zVl t,.bl b]
def zKp {f:Ef}{p:Pt}(h:f O=some (mV p)):yT AW Aj f O=some (yR p.c)/\yT AW AK f O=some (zVl p.t)/\yT AW AL f O=some (.bl p.b):=by unfold yT;rw[h];exact⟨J,J,J⟩
section
variable (hn:n=2\/n=3) (ok:PtsOk n ps){t:Tn} (ht:Wt n t) (b j:Bool){k:Nat}
include hn ok
def zEg:0 < ps.length/\ps.length<=8:=by rw[ok.len];rcases hn with rfl | rfl<;>decide
include ht
def zHc (hk:k < 2^n):∃c t' b',Wc n c/\Wt n t'/\zYY [zL nm n j ps,stD t b,.int k]=some (.tup [yR c,stD t' b']):=by
 rw[<-ok.len] at hk;have w:∃i:Nat,i < ps.length/\zWG [zL nm n j ps,.bl b,.int k]=some (.int (i:Nat)):=by
  cases b with
  | false=>exact⟨k,hk,J⟩
  | true =>refine⟨ps.length - 1 - k,jc,?_⟩;show(bL [.fz (!28),.fz<|.bl true,.fz<|.int k]).bind wG=_;unfold bL;rw[uJ,show((ps.length - 1 - k:Nat):Int)=(ps.length:Nat) - 1 - (k:Nat) by lia];show uT (uT (nV<|yT Al AE eV0) jq) eV2 [.fz (!28),.fz<|.bl true,.fz<|.int k]=_;exact yY (yY (zUU J) J J) J J
 obtain⟨i,hi,w⟩:=w;generalize hp:ps[i]'hi=p;obtain⟨pc,pt⟩:=ok.w p (by rw[<-hp];exact Rm _);have h3:n<=3:=jc;refine⟨_,_,b != p.b,zKE ht pc,zHB jc ht pt,?_⟩;show(fL [.fz (!28),.fz<|stD t b,.fz<|.int k,.no,.no,.no,.no]).bind wG=_;refine yC (d:=mV p) ((rX (zOz _ _ J)<|(vL J J J).trans w).trans ?_) ?_
 .show atI (ps.map mV) _=_;rw[zX7,zII<|Qj hi,hp];rfl
 refine yC (d:=stD (zWy t p.t)<|b != p.b) (lF (zI ((vY J (zKp J).2.1).trans<|zMo h3 ht pt)<|zI ?_ rfl)<|Qr rfl) ?_
 .rfl
 unfold zYz;rw[uJ];exact lF (zI ((vY J (zKp J).1).trans<|zN7 h3 ht pc)<|zI rfl rfl)<|Qr rfl
end
def zNs (xs ys:kh):zZ9 (xs.map D.int) (ys.map D.int)=(xs.zip ys).map mP:=by unfold zZ9;rw[List.zip_map,Wk];rfl
def zXC {f g:Ef}(h1:f O=some (yR xs))(h2:g O=some (yR ys)):zWr f g O=some ((xs.zip ys).map mP):=by unfold zWr;rw[h1,h2];show some _=_;rw[zNs]
def bx (lo hi:kh):D:=.tup [yR lo,yR hi]
def zSJ (h:xs.length<=100):(xs.zip ys).length<=100:=by grind
def zl (h:xs.length<=100):(xs.zip ys).length<=10000:=Wq (zSJ h) je
def okB (lo hi:kh):Bool:=(lo.zip hi).all λp=>decide (p.1<=p.2)
def kJ (h:xs.length<=100):rG [yR xs,yR ys]=some (.bl<|okB xs ys):=by show(mH [.fz _,.fz _]).bind wG=_;unfold mH;rw[uJ];unfold zNd;rw[vZ<|dP (rest:=[]) (h:=λp=>.bl _) (zXC J J) (zl h) rfl λ_ _=>rfl];show(zSf<|(xs.zip ys).map λp=>.bl _).map _=_;rw[zWZ _];unfold okB;simp
def mxL (xs ys:kh):kh:=(xs.zip ys).map λp=>zZd p.1 p.2
def mnL (xs ys:kh):kh:=(xs.zip ys).map λp=>zY3 p.1 p.2
def zVe {g:Int->Int->Int}{f2:Ef}(h1:f1 O=some (yR xs))(h2:f2 O=some (yR ys))(h:xs.length<=100)(he:∀a:Int×Int,elt [.fz<|mP a]=some (.int<|g a.1 a.2)):vP (eL<|yJ (zWr f1 f2) 1 [] (gN 0) tOK elt) O=some (yR<|(xs.zip ys).map λp=>g p.1 p.2):=by
 have e3:yJ (zWr f1 f2) 1 [] (gN 0) tOK elt O=some (((xs.zip ys).map λp=>g p.1 p.2).map D.int):=by
  unfold yJ;rw[zXC h1 h2,Qt,uV (by rw[Qy];have:=zSJ (ys:=ys) h;lia)];have hm:∀(l:List _) (x0) (j7),uI (gN 0) tOK elt (l.map mP) [x0] j7=some (j7++(l.map λp=>g p.1 p.2).map D.int):=by
   intro l;induction l with
   | nil=>intro x0 j7;simp[uI]
   | cons a r ih =>intro x0 j7;unfold uI;have e1:gN 0 (mP a) [x0]=some [.fz _]:=rfl;have e2:tOK [.fz<|mP a]=some true:=rfl;simp_all
  exact(hm _ .no []).trans J
 unfold vP;rw[vZ e3];rfl
def zNf {lo' hi':kh}(h1:lo.length<=100)(h2:hi.length<=100):zWE [bx lo hi,bx lo' hi']=some (if okB (mxL lo lo') (mnL hi hi')=true then bx (mxL lo lo') (mnL hi hi') else .non):=by refine yC (zVe J J h1 λa=>rfl) ?_;refine yC (zVe J J h2 λa=>rfl) ?_;unfold zVA;rw[uJ];have hb:=kJ (xs:=mxL lo lo') (ys:=mnL hi hi') (by unfold mxL;rw[Qy];exact zSJ h1);unfold eIf tB1;rw[vY (x:=yR<|mxL lo lo') (y:=yR<|mnL hi hi') rfl rfl,hb];cases okB _ _<;>rfl
def uQ (low:kh)(s:Int):kh:=low.map λx=>x+s - 1
def zTu (low c:kh)(h:Int):kh:=(low.zip c).map λp=>p.1+h*p.2
def zNr {m:ky}{rest:ki}{g:Int->Int}(h1:f1 O=some (yR xs))(hl:xs.length<=100)(hu:upB 1 m O = .no::rest)(he:∀x∈xs,elt (.fz (.int x)::rest)=some (.int<|g x)):vP (eL<|yJ (iT f1) 1 m (gN 0) tOK elt) O=some (yR<|xs.map g):=by
 have e3:yJ (iT f1) 1 m (gN 0) tOK elt O=some ((xs.map g).map D.int):=by
  unfold yJ iT;rw[h1];show(some _ |>.bind okL).bind _=_;rw[Qt,uV (by grind),Qt,hu,zWn (h:=λd=>match d with | .int x=>.int (g x) | d=>d)]
  .rw[Wk,Wk];rfl
  .intro d hd;obtain⟨x,hx,rfl⟩:=v7 hd;exact he x hx
 unfold vP;rw[vZ e3];rfl
def at0 (x:Int)(r:kh):atD (yR<|x::r) (.int 0)=some (.int x):=by show atI _ 0=_;unfold atI ixN;simp_all
theorem zRj {s:Int}(h0:0<=s)(h1:s<=64)(x0 x1 x2:B):∀(l:kh) (v:Int) (x4 x5:B),∃y4 y5,sQ (gT<|zM (gN 4)<|zM (gN 5) xZ) fE ((l.zip<|uQ l s).map mP) [x0,x1,x2,.fz<|.int v,x4,x5]=some (.nx [x0,x1,x2,.fz<|.int<|v*s^l.length,y4,y5])
 | [],v,x4,x5=>⟨x4,x5,by simp[sQ]⟩
 | a::r,v,x4,x5=>by
  obtain⟨y4,y5,ih⟩:=zRj h0 h1 x0 x1 x2 r _ _<|.fz _;refine⟨y4,y5,?_⟩;show sQ _ _ (mP _::(r.zip<|uQ r s).map mP) _=_;rw[uE (ρ1:=[x0,x1,x2,.fz _,.fz<|.int a,.fz<|.int<|a+s - 1]) (ρ2:=[x0,x1,x2,.fz _,.fz _,.fz _]) rfl ?_,ih,Qk,Int.pow_succ,Pw _ s,Int.mul_assoc];have e:zQN eV3 (uB (uT eV5 eV4) jq) [x0,x1,x2,.fz _,.fz<|.int a,.fz<|.int<|a+s - 1]=some (.int<|v*_):=yY J (yY (!29) J J) (by unfold zU1;rw[zTk jc jc];rfl)
  rw[show a+s - 1 - a+1=s by lia] at e;unfold fE yI;rw[e];rfl
def zDO (h:m<=6):(0:Int) < 2^m/\(2:Int)^m<=64:=by rcases(show m=0\/m=1\/m=2\/m=3\/m=4\/m=5\/m=6 by lia) with rfl | rfl | rfl | rfl | rfl | rfl | rfl<;>decide
def zMA (hm:m<=6):eZ [bx low<|uQ low<|2^m]=some (.int<|2^(low.length*m)):=by obtain⟨p0,p1⟩:=zDO hm;obtain⟨y4,y5,e⟩:=zRj (Int.le_of_lt p0) p1 (.fz<|bx low _) _ (.fz<|yR _) low 1 .no .no;rw[Int.one_mul,<-Int.pow_mul,Nat.mul_comm] at e;show(bJ [.fz<|bx low _,.no,.no,.no,.no,.no]).bind wG=_;refine yM (O':=[.fz<|bx low _,.fz _,.fz<|yR _,.no,.no,.no]) J ?_;refine yC J ?_;refine yM (O':=[.fz<|bx low<|uQ low<|2^m,.fz<|yR low,.fz<|yR<|uQ low<|2^m,.fz<|.int _,y4,y5]) ?_ J;unfold uG;rw[zXC rfl rfl];exact e
def zQA (hn:n=2\/n=3)(hl:low.length=n)(hc:Wc n c)(h:Int):zZa [bx low<|uQ low<|2*h,yR c]=some (bx (zTu low c h)<|uQ (zTu low c h) h):=by
 obtain⟨x0,r,hlow⟩:∃x0 r,low=x0::r:=by
  cases low with
  | nil=>simp at hl;lia
  | cons x r=>exact⟨x,r,J⟩
 show(fH [.fz<|bx low<|uQ low<|2*h,.fz<|yR c,.no,.no,.no,.no,.no]).bind wG=_;refine yC (d:=.int h) ?_ ?_
 .have e1:eIx eV3 jp [.fz<|bx low<|uQ low<|2*h,.fz<|yR c,.fz<|yR low,.fz<|yR<|uQ low<|2*h,.no,.no,.no]=some (.int<|x0+2*h - 1):=by
   rw[hlow];exact at0 _ _
  have e2:eIx eV2 jp [.fz<|bx low<|uQ low<|2*h,.fz<|yR c,.fz<|yR low,.fz<|yR<|uQ low<|2*h,.no,.no,.no]=some (.int x0):=by rw[hlow];exact at0 _ _
  have e3:=yY (C:=zGn) (g:=λi j=>i / j) (yY (C:=λ_ _=>true) (g:=λi j=>i+j) (yY (C:=λ_ _=>true) (g:=λi j=>i - j) e1 e2 rfl) (rfl:eC (.int 1) _=some (.int 1)) rfl) (rfl:eC (.int 2) _=some (.int 2)) rfl;rw[show(x0+2*h - 1 - x0+1) / 2=h by lia] at e3;exact e3
 refine yC (d:=yR<|zTu low c h) ?_ ?_
 .unfold vP;rw[vZ (dP (l:=low.zip c) (rest:=[.fz (.int h)]) (h:=λp=>.int (p.1+h*p.2)) (zXC J J) (zl jc) rfl λa ha=>yY J (yY J J (by
   have hb:=hc.2 a.2 (Uw ha).2;unfold zU1;rw[zTk jc jc];rfl)) rfl)]
  unfold zTu yR;rw[Wk];rfl
 refine yC (d:=yR<|uQ (zTu low c h) h) ?_ J;exact zNr (rest:=[.fz _]) J (by unfold zTu;rw[Qy,Ei];lia) rfl λx _=>yY (!29) J J
theorem zUJ (m:Nat):∀(xs ys:kh),xs.length=ys.length->zXW (eqD<|m+1) (xs.map .int) (ys.map .int)=some (decide (xs=ys))
 | [],[],_=>rfl
 | [],_::_,h=>by simp at h
 | _::_,[],h=>by simp at h
 | x::xs,y::ys,h=>by
  rw[Qx,Qx,zXW,zUJ m xs ys<|by simpa using h];show((some _).bind λa=>(some _).map λb=>a&&b)=_
  by_cases h1:x=y
  .simp_all
  .simp_all
def zKe {c':kh}(k:Nat)(h:c.length=c'.length):eqD (k+2) (yR c) (yR c')=some (decide (c=c')):=by show(zXW _ _ _).map _=_;rw[zUJ k c c' h,Qy,h];simp
def zFo {a b d:kh}(h1:a.length=c.length)(h2:b.length=d.length):zM8 (bx a b) (bx c d)=some (decide (a=c/\b=d)):=by show((eqD 7 _ _).bind λx=>((eqD 7 _ _).bind λy=>(some true).map λz=>y&&z).map λy=>x&&y).map (λz=>z&&true)=_;rw[zKe 5 h1,zKe 5 h2];simp
def zJ0 (h:t O=some true)(k:e O=r):(zH (sIf t (wN e) wC) g O).bind rR=r:=by unfold zH;rw[nF h];unfold wN;rw[k];cases r<;>rfl
def zQy {f:Sf}(h:t O=some false)(k:(g O).bind rR=r):(zH (sIf t f wC) g O).bind rR=r:=by rw[xG (by rw[nF h];rfl)];exact k
def cO {f:Ef}(h:f O=some d)(k:(g<|O.set i<|.fz d).bind rR=r):(zH (yI i f) g O).bind rR=r:=by rw[zZ4 h];exact k
def zS8 {f:Sf}(h:f O=some (.nx O'))(k:(g O').bind rR=r):(zH f g O).bind rR=r:=by rw[xG h];exact k
def zLO (h1:fa O=some x)(h2:fb O=some y):uN 2 f (zY fa<|zY fb zS) O=f [x,y]:=by unfold uN;rw[zI h1<|zI h2 rfl];rfl
def zWs {z:D}(h1:fa O=some x)(h2:fb O=some y)(h3:fc O=some z):uN 3 f (zY fa<|zY fb<|zY fc zS) O=f [x,y,z]:=by unfold uN;rw[zI h1<|zI h2<|zI h3 rfl];rfl
def zL4 {fe:Ef}{z u v:D}(h1:fa O=some x)(h2:fb O=some y)(h3:fc O=some z)(h4:fd O=some u)(h5:fe O=some v):uN 5 f (zY fa<|zY fb<|zY fc<|zY fd<|zY fe zS) O=f [x,y,z,u,v]:=by unfold uN;rw[zI h1<|zI h2<|zI h3<|zI h4<|zI h5 rfl];rfl
def zO8 {f:jz}{z u:D}(h1:fa O=some x)(h2:fb O=some y)(h3:fc O=some z)(h4:fd O=some u):yZ 4 f (zY fa<|zY fb<|zY fc<|zY fd zS) O=f [x,y,z,u]:=zZY (zI h1<|zI h2<|zI h3<|zI h4 rfl) J
def zQz {f:Ef}(e1:f O=some d)(e2:O[i]?=some (.ow ds))(e3:ds.length<=1000):zZo i f O=some (.nx<|O.set i<|.ow<|ds++[d]):=by
 unfold zZo;rw[e1,Qt,e2]
 grind
def zTg {l:!10}(h:l.length=2):∃a b,l=[a,b]:=by
 match l,h with
 | [a,b],_=>exact⟨a,b,J⟩
def zTo {l:!10}(h:l.length=3):∃a b c,l=[a,b,c]:=by
 match l,h with
 | [a,b,c],_=>exact⟨a,b,c,J⟩
def ok0 (hn:n=2\/n=3)(h1:lo.length=n)(h2:hi.length=n)(h3:low.length=n)(hb:okB (mxL lo low) (mnL hi<|uQ low 1)=true):mxL lo low=low/\mnL hi (uQ low 1)=uQ low 1:=by
 have key:∀x y z:Int,zZd x z<=zY3 y (z+1 - 1)->zZd x z=z/\zY3 y (z+1 - 1)=z+1 - 1:=by intro x y z q;unfold zZd zY3 at *;split<;>split<;>lia
 rcases hn with rfl | rfl
 .obtain⟨a,b,rfl⟩:=zTg h1;obtain⟨c,d,rfl⟩:=zTg h2;obtain⟨s,u,rfl⟩:=zTg h3;have hb:(decide (zZd a s<=zY3 c _)&&(decide (zZd b u<=zY3 d _)&&true))=true:=hb;simp only[Bool.and_true,Wy,Wl] at hb;obtain⟨k1,k2⟩:=key a c s hb.1;obtain⟨k3,k4⟩:=key b d u hb.2;exact⟨by show [zZd a s,zZd b u]=_;rw[k1,k3],by show [zY3 c _,zY3 d _]=_;rw[k2,k4];rfl⟩
 .obtain⟨a,b,c,rfl⟩:=zTo h1;obtain⟨d,e,f,rfl⟩:=zTo h2;obtain⟨s,u,v,rfl⟩:=zTo h3;have hb:(decide (zZd a s<=zY3 d _)&&(decide _&&(decide _&&true)))=true:=hb;simp only[Bool.and_true,Wy,Wl] at hb;obtain⟨k1,k2⟩:=key a d s hb.1;obtain⟨k3,k4⟩:=key b e u hb.2.1;obtain⟨k5,k6⟩:=key c f v hb.2.2;exact⟨by show [zZd a s,zZd b u,zZd c v]=_;rw[k1,k3,k5],by show [zY3 d _,zY3 e _,zY3 f _]=_;rw[k2,k4,k6];rfl⟩
def zIn (h:xs.length=ys.length):(mxL xs ys).length=ys.length:=by unfold mxL;rw[Qy,Ei,h,Yr]
def zI5 (h:xs.length=ys.length):(mnL xs ys).length=ys.length:=by unfold mnL;rw[Qy,Ei,h,Yr]
def zWt (xs:kh)(s:Int):(uQ xs s).length=xs.length:=by unfold uQ;rw[Qy]
def zJU {h:Int}(hl:xs.length=ys.length):(zTu xs ys h).length=ys.length:=by unfold zTu;rw[Qy,Ei,hl,Yr]
def zIj (m:Nat):(2:Int)^(m+1)=2*2^m:=by rw[Int.pow_succ,Pw]
def jH (m:Nat):(0:Int) < 2^m:=Int.pow_pos je
def yG (r:kl):kd:=r.map mP
def zFw {f:Ef}(h:f O=some (!17))(hL:L<=1000):iR f O=some (pL 0 L):=by
 unfold iR;rw[h,Qt]
 grind
def zNW {a b:Nat}(h:a<=b):(2:Int)^a<=2^b:=Int.ofNat_le.mpr<|Nat.pow_le_pow_right jb h
def Up (a:Int)(l:kl)(z:Int):Prop:=(l.Pairwise λp q=>p.1 < q.1)/\∀p∈l,a<=p.1/\p.1 < z
def Up.app {a y z:Int}{l l':kl}(h:Up a l y)(h':Up y l' z)(ay:a<=y)(yz:y<=z):Up a (l++l') z:=by
 refine⟨Rl.mpr ⟨h.1,h'.1,λp hp q hq=>Int.lt_of_lt_of_le (h.2 p hp).2 (h'.2 q hq).1⟩,λp hp=>?_⟩;rcases v6 hp with e | e
 .have:=h.2 p e;lia
 .have:=h'.2 p e;lia
theorem Up.len {z:Int}:∀ {l:kl} {a:Int},Up a l z->a<=z->(l.length:Int)<=z - a
 | [],a,_,h=>by show(0)<=z - a;lia
 | p::r,a,⟨h1,h2⟩,h=>by obtain⟨q1,q2⟩:=Rq.mp h1;obtain⟨b1,b2⟩:=h2 p Ql;have:=Up.len ⟨q2,λq hq=>⟨q1 q hq,(h2 q<|Qf _ hq).2⟩⟩ jc;rw[Qk];lia
abbrev fP (cv a s r:D)(f:Int)(x5 x6 x7 x8 x9 x10:B):ki:=[.fz cv,.fz a,.fz s,.fz r,.fz<|.int f,x5,x6,x7,x8,x9,x10]
section
variable (hn:n=2\/n=3) (ok:PtsOk n ps) (j:Bool)
include hn ok
theorem zUW:∀(fuel m:Nat) (lo hi:kh) (t:Tn) (b:Bool) (low:kh) (f:Int),m < fuel->n*m<=12->lo.length=n->hi.length=n->low.length=n->Wt n t -> ∃r,jS fuel [zL nm n j ps,bx lo hi,stD t b,bx low<|uQ low<|2^m,.int f]=some (yG r)/\Up f r (f+2^(n*m))
 | 0,m,_,_,_,_,_,_,hf,_,_,_,_,_=>absurd hf<|Nat.not_lt_zero _
 | fuel+1,m,lo,hi,t,b,low,f,hf,hm,h1,h2,h3,ht=>by
  have hm4:m<=6:=by rcases hn with rfl | rfl<;>lia
  have hc:=zNf (lo:=lo) (hi:=hi) (lo':=low) (hi':=uQ low<|2^m) jc jc;have hv:=zMA (low:=low) hm4;rw[h3] at hv;have pp:=jH<|n*m
  by_cases hb:okB (mxL lo low) (mnL hi<|uQ low<|2^m)=true
  .rw[Qg hb] at hc;have l1:(mxL lo low).length=n:=by rw[zIn jc];exact h3
   have l2:(mnL hi<|uQ low<|2^m).length=n:=by rw[zI5 (by rw[zWt];lia),zWt];exact h3
   have h0:m=0->mxL lo low=low/\mnL hi (uQ low<|2^m)=uQ low (2^m):=λe=>by subst e;exact ok0 hn h1 h2 h3 hb
   have heq:=zFo (a:=mxL lo low) (b:=mnL hi<|uQ low<|2^m) (c:=low) (d:=uQ low<|2^m) jc (by rw[zWt];lia);generalize mxL lo low=slo at *;generalize mnL hi (uQ low<|2^m)=shi at *
   by_cases hfull:slo=low/\shi=uQ low (2^m)
   .refine⟨[(f,f+2^(n*m) - 1)],cO ((vY J J).trans hc)<|zQy rfl<|zJ0 (heq.trans<|by rw[Qb hfull]) ?_,List.pairwise_singleton _ _,λp hp=>?_⟩
    .exact dG (zI (lF (zI rfl<|zI (yY (C:=λ_ _=>true) (g:=λi j=>i - j) (yY (C:=λ_ _=>true) (g:=λi j=>i+j) rfl ((zZ7 J).trans hv) rfl) rfl rfl) rfl)<|Qr rfl) rfl) (Qr J)
    .grind
   .cases m with
    | zero=>exact absurd (h0 J) hfull
    | succ m =>
     have hps:=zEg hn ok;have e2:(2:Int)^(n*(m+1))=((2^n:Nat):Int)*2^(n*m):=by rw[Nat.mul_add,Nat.mul_one,Int.pow_add,Pw,Int.natCast_pow];rfl
     have pv:=jH<|n*m;have hlp:=λ{x y z u v w:B}=>zUU (nm:=nm) (n:=n) (j:=j) (ps:=ps) (O:=fP (!28) (bx lo hi) (stD t b) (bx low<|uQ low<|2^(m+1)) f x y z u v w) J;have hstep:=yY (C:=zO2) (g:=λi j=>i / j) ((zZ7 (f:=eZ) (fa:=eV3) (O:=fP (!28) (bx lo hi) (stD t b) (bx low<|uQ low<|2^(m+1)) f (.fz<|bx slo shi) .no .no .no .no .no) J).trans hv) hlp (by
      unfold zO2;rw[Qb jc,Qb (by rw[Int.natAbs_natCast];have:=(Nat.log2_lt (n:=ps.length) (k:=4) jc).mpr jc;lia)]
      rfl)
     rw[e2,ok.len,Int.mul_ediv_cancel_left _ (by have:=jH n;rw[Int.natCast_pow];show(2:Int)^n≠0;lia)] at hstep;generalize hV:(2:Int)^(n*m)=V at *;obtain⟨O',e,r,y8,y9,y10,hr,rfl⟩:=iW (g:=gN 8) (body:=eD<|jS fuel) (P:=λi O=>∃r y8 y9 y10,Up f r (f+(i:Nat)*V)/\O=fP (!28) (bx lo hi) (stD t b) (bx low<|uQ low<|2^(m+1)) f (.fz<|bx slo shi) (.fz<|.int V) (.ow<|yG r) y8 y9 y10) (pL 0<|2^n) 0 (λi d hd O hO=>by
      obtain⟨hil,rfl⟩:=eU hd;obtain⟨r,y8,y9,y10,hr,rfl⟩:=hO;rw[Yt] at hr ⊢;obtain⟨c,t',b',wc,wt,ep⟩:=zHc hn ok ht b j (nm:=nm) hil;have hq:=zQA hn h3 wc<|2^m;rw[<-zIj] at hq;obtain⟨r',er,ur⟩:=zUW fuel m slo shi t' b' (zTu low c<|2^m) (f+(i:Nat)*V) jc (by rw[Nat.mul_add] at hm;lia) l1 l2 (by rw[zJU (by rw[wc.1];exact h3),wc.1]) wt;rw[hV] at ur;have h8:2^n<=8:=by rw[<-ok.len];exact hps.2
      have ev:(((i+1:Nat):Int))*V=(i:Nat)*V+V:=by rw[Int.natCast_add,Int.add_mul];show _+1*V=_;lia
      have iv:0<=(i:Int)*V:=Int.mul_nonneg jc jc;have ua:=hr.app (by rw[<-Int.add_assoc];exact ur) jc jc (z:=f+((i:Nat)*V+V));refine⟨_,_,J,?_,r++r',.fz<|.int (i:Nat),.fz<|yR c,.fz<|stD t' b',by rw[ev];exact ua,J⟩;have lb:=ua.len jc;have l9:((i+1:Nat):Int)*V<=2^12:=Int.le_trans (by rw[e2];exact Int.mul_le_mul_of_nonneg_right jc<|Int.le_of_lt pv)<|zNW hm;rw[Qp] at lb;rw[Int.zero_add];refine(xG (O':=fP (!28) (bx lo hi) (stD t b) (bx low<|uQ low<|2^(m+1)) f (.fz<|bx slo shi) (.fz<|.int V) (.ow<|yG r) (.fz<|.int (i:Nat)) (.fz<|yR c)<|.fz<|stD t' b') (by unfold aF;rw[(vL J J J).trans ep];rfl)).trans ?_;unfold zYm zVh;rw[zL4 rfl rfl rfl ((vY J J).trans hq)<|yY (C:=λ_ _=>true) (g:=λi j=>i+j) rfl (yY (C:=zU1) (g:=λi j=>i*j) (i:=(i:Nat)) (j:=V) rfl rfl (by unfold zU1;rw[dW jc jc];rfl)) rfl,er,Qt]
      show(if (yG r).length+(yG r').length<=lim then _ else none)=_;unfold yG;rw[Qg (by rw[Qy,Qy];show _<=100000;lia),<-Wv];rfl) (fP (!28) (bx lo hi) (stD t b) (bx low<|uQ low<|2^(m+1)) f (.fz<|bx slo shi) (.fz<|.int V) (.ow<|yG []) .no .no .no) ⟨[],_,_,_,⟨.nil,λ_ h=>by cases h⟩,rfl⟩
     rw[eN,Yt] at hr;refine⟨r,cO ((vY J J).trans hc)<|zQy rfl<|zQy (heq.trans<|by rw[Wu hfull])<|cO hstep<|zS8 rfl<|zS8 (O':=fP (!28) (bx lo hi) (stD t b) (bx low<|uQ low<|2^(m+1)) f (.fz<|bx slo shi) (.fz<|.int V) (.ow<|yG r) y8 y9 y10) ?_ rfl,by rw[e2];exact hr⟩;show uG _ _ _ (fP (!28) (bx lo hi) (stD t b) (bx low<|uQ low<|2^(m+1)) f (.fz<|bx slo shi) (.fz<|.int V) (.ow<|yG []) .no .no .no)=_;unfold uG;rw[zFw hlp jc,Qt,ok.len];exact e
  .rw[Qc hb] at hc;exact⟨[],cO ((vY J J).trans hc)<|zJ0 rfl rfl,.nil,λ_ h=>by cases h⟩
end
def rAt (r:kl)(k:Nat):Row:=r.getD k (0,0)
def zLY (r:kl)(g:Int)(k:Nat):Bool:=decide (g < (rAt r k).1 - (rAt r<|k - 1).2 - 1)
def seg (r:kl):Nat->ky->Nat->kl
 | a,[],n=>[((rAt r a).1,(rAt r<|n - 1).2)]
 | a,s::l,n=>((rAt r a).1,(rAt r<|s - 1).2)::seg r s l n
def zTt (r:kl)(g:Int)(n:Nat):ky:=((List.range n).filter λk=>decide (0 < k)&&zLY r g k)
def zKv {r:kl}{g:Int}{k:Nat}(h:k∈zTt r g n):0 < k/\k < n:=by unfold zTt at h;simp_all
def zFx {r:kl}{k:Nat}(hk:k < r.length):atD (.lst<|yG r) (.int (k:Nat))=some (mP<|rAt r k):=by show atI (r.map mP) _=_;rw[mJ _ _ (mP (0,0)) jc (!9)];unfold rAt;simp[Eu]
def zT4 {r:kl}{k:Nat}{f g:Ef}(h1:f O=some (.lst<|yG r))(h2:g O=some (.int (k:Nat)))(hk:k < r.length):eIx f g O=some (mP<|rAt r k):=by unfold eIx;rw[h1,Qt,h2,Qt,zFx hk]
def zOJ {f:Ef}{k:Nat}(h:f O=some (.int (k:Nat)))(hk:0 < k):uT f jq O=some (.int ((k - 1:Nat):Int)):=by rw[show((k - 1:Nat):Int)=(k) - 1 by lia];exact yY h J J
def zJF {r:kl}{k:Nat}(h0:0 < k)(hk:k < r.length):pZ [.lst<|yG r,.int (k:Nat)]=some (.int<|(rAt r k).1 - (rAt r<|k - 1).2 - 1):=by
 show(oS [.fz _,.fz _]).bind wG=_;unfold oS xS;rw[show uT (uT (eIx _ _) (eIx (eIx _ (uT _ _)) _)) _ [.fz _,.fz _]=some (.int _) from
  yY (yY (zQ6<|zT4 rfl rfl hk) (zPG<|zT4 rfl (zOJ J h0) jc) J) rfl rfl]
 rfl
theorem zUS {t:Tf}{elt:Ef}{p:D->Bool}{h:D->D}{rest:ki}:∀(ds:kd) (x0:B) (j7:kd),(∀d∈ds,t (.fz d::rest)=some (p d)/\elt (.fz d::rest)=some (h d))->uI (gN 0) t elt ds (x0::rest) j7=some (j7++(ds.filter p).map h)
 | [],x0,j7,_=>by simp[uI]
 | d::r,x0,j7,hh=>by
  obtain⟨h1,h2⟩:=hh d Ql;have ih:=λj7=>zUS r (.fz d) j7 λd' hd=>hh d'<|Qf _ hd;unfold uI;rw[show gN 0 d _=some (.fz d::rest) from rfl,Qt,h1]
  grind
def nI (k:Nat):D:=.int (k:Nat)
def zMN {r:kl}(g:Int)(hr:r.length<=10000)(h1:0 < r.length):yJ (iR2 jq<|nV eV0) 1 [1,0] (gN 0) (eB2 gGt (yZ 2 pZ<|zY eV2<|zY eV0 zS) eV1) eV0 [.fz<|.lst<|yG r,.fz<|.int g,.no]=some ((zTt r g r.length).map nI):=by
 obtain⟨m,hm⟩:∃m,r.length=m+1:=⟨r.length - 1,jc⟩
 have hi:iR2 jq (nV eV0) [.fz<|.lst<|yG r,.fz<|.int g,.no]=some (pL 1 m):=by
  show(if decide (_<=1)&&decide (_<=1000000)&&decide (-1000000<=_)&&decide (_<=1000000) then some _ else none)=_;have hl:(yG r).length=m+1:=by simp[yG,hm]
  grind
 unfold yJ;rw[hi,Qt,uV (by rw[eN];lia)];show uI _ _ _ _ [.no,.fz _,.fz<|.lst _] []=_;rw[zUS (p:=λd=>match d with | .int i=>zLY r g i.toNat | _=>false) (h:=id) _ .no [] (λd hd=>by obtain⟨i,hi,rfl⟩:=zQO hd;refine⟨?_,J⟩;unfold eB2;rw[vY rfl rfl,show(1:Int)+_=((i+1:Nat)) by lia,zJF (Nat.succ_pos _) jc];rfl)]
 rw[Il,List.map_id];unfold zTt;rw[hm,Ii,Rn,Qc je,Uu,Wk];unfold pL;rw[Uu,Ra (λi _=>by show D.int _=D.int ((i+1:Nat));congr 1;lia)];congr 2;refine List.filter_congr λi _=>?_;show zLY r g ((1:Int)+_).toNat=_;rw[show((1:Int)+_).toNat=i+1 by lia];simp
def zLC {r:kl}:∀(l:ky) (a:Nat) (x0 x1:B) (j7:kd),a < r.length->(∀k∈l,0 < k/\k < r.length) -> uI (gT<|zM (gN 0)<|zM (gN 1) xZ) tOK (w9<|zY (eIx (eIx eV2 eV0) jp)<|zY (eIx (eIx eV2<|uT eV1 jq) jq) zS) (zZ9 (nI a::l.map nI)<|l.map nI++[nI r.length]) [x0,x1,.fz<|.lst<|yG r] j7=some (j7++yG (seg r a l r.length)):=by
 have stp:∀(a s) (x0 x1) (rest) (j7),a < r.length->0 < s->s<=r.length->uI (gT<|zM (gN 0)<|zM (gN 1) xZ) tOK (w9<|zY (eIx (eIx eV2 eV0) jp)<|zY (eIx (eIx eV2<|uT eV1 jq) jq) zS) (.tup [nI a,nI s]::rest) [x0,x1,.fz<|.lst<|yG r] j7=uI (gT<|zM (gN 0)<|zM (gN 1) xZ) tOK (w9<|zY (eIx (eIx eV2 eV0) jp)<|zY (eIx (eIx eV2<|uT eV1 jq) jq) zS) rest [.fz<|nI a,.fz<|nI s,.fz<|.lst<|yG r] (j7++[mP ((rAt r a).1,(rAt r<|s - 1).2)]):=by
  intro a s x0 x1 rest j7 ha hs hs';show(some [B.fz _,.fz _,.fz<|.lst _]).bind _=_;rw[Qt];show(some true).bind _=_;rw[Qt,Qg rfl];have e:w9 (zY (eIx (eIx eV2 eV0) jp)<|zY (eIx (eIx eV2<|uT eV1 jq) jq) zS) [B.fz<|nI a,.fz<|nI s,.fz<|.lst<|yG r]=some (mP ((rAt r a).1,(rAt r<|s - 1).2)):=by unfold w9;rw[zI (zQ6<|zT4 rfl rfl ha)<|zI (zPG<|zT4 rfl (zOJ J hs) jc) rfl];rfl
  rw[e,Qt]
 intro l;induction l with
 | nil =>intro a x0 x1 j7 ha _;show uI _ _ _ [.tup [nI a,nI r.length]] _ _=_;rw[stp a r.length x0 x1 [] j7 ha jc<|Qh _];rfl
 | cons s l ih =>intro a x0 x1 j7 ha hl;obtain⟨h0,h1⟩:=hl s Ql;show uI _ _ _ (.tup [nI a,nI s]::zZ9 (nI s::l.map nI) (l.map nI++[nI r.length])) _ _=_;rw[stp a s x0 x1 _ j7 ha h0 jc,ih s _ _ _ h1 λk hk=>hl k<|Qf _ hk];simp[yG,seg]
def zMW {r:kl}(hr:r.length<=10000)(h1:0 < r.length){l:ky}(hl:l.length<=10000)(hm:∀k∈l,0 < k/\k < r.length):kH [.lst<|yG r,.lst<|l.map nI]=some (yG<|seg r 0 l r.length):=by
 show(sV [.fz<|.lst _,.fz<|.lst _,.no]).bind rR=_;unfold sV;have t1:sD (zQ8 eV0) [.fz<|.lst<|yG r,.fz<|.lst<|l.map nI,.no]=some false:=by
  cases r with
  | nil=>simp at h1
  | cons x t=>rfl
 rw[xG (O':=[.fz<|.lst _,.fz<|.lst _,.no]) (by unfold sIf;rw[t1];rfl)];unfold oQ;have e1:eL (fY (iL eV1)<|xA<|zY (nV eV0) zS) [.fz<|.lst<|yG r,.fz<|.lst<|l.map nI,.no]=some (.lst<|l.map nI++[nI r.length]):=by show((okL<|l.map nI++[D.int _]).map D.lst)=_;rw[uV (by simp;lia),show(yG r).length=r.length by simp[yG]];rfl
 rw[xG (O':=[.fz<|.lst _,.fz<|.lst _,.fz<|.lst _]) (by unfold yI;rw[e1];rfl)];unfold fZ wN yJ;have e2:zPe (eL<|fY (xA<|zY jp zS)<|iL eV1) eV2 [.fz<|.lst<|yG r,.fz<|.lst<|l.map nI,.fz<|.lst<|l.map nI++[nI r.length]]=some (zZ9 (nI 0::l.map nI)<|l.map nI++[nI r.length]):=by show((okL _).map D.lst).bind _=_;rw[uV (by simp;lia)];rfl
 rw[e2,Qt,uV (by unfold zZ9;rw[Qy,Ei];simp;lia)];show((uI _ _ _ _ [.no,.no,.fz<|.lst _] []).map Out.rl).bind rR=_;rw[zLC l 0 .no .no [] h1 hm];rfl
def zK5 {r:kl}{g:Int}(h:0 < r.length):(0::zTt r g r.length).Sublist<|List.range r.length:=by
 obtain⟨m,hm⟩:∃m,r.length=m+1:=⟨r.length - 1,jc⟩
 unfold zTt;rw[hm,Ii,Rn];exact List.filter_sublist.cons₂ 0
theorem zOo (r:kl):∀(l:ky) (a n:Nat),(seg r a l n).map (·.1)=(a::l).map λk=>(rAt r k).1
 | [],_,_=>rfl
 | s::l,a,n=>Wa _<|zOo r l s n
def zMP {r:kl}{a z:Int}(u:Up a r z)(hr:r.length<=4096):∃q:kl,zWC [.lst<|yG r,.int 0]=some (yG q)/\(q.Pairwise λp q=>p.1≠q.1)/\q.length<=4096:=by
 by_cases h:r.length=0
 .rw[Re.mp h];exact⟨[],J,.nil,jb⟩
 have h0:0 < r.length:=jc;have sub:=zK5 (g:=0) h0;have ln:=sub.length_le;rw[Rc,Qk] at ln;have fs:=zOo r (zTt r 0 r.length) 0 r.length;refine⟨seg r 0 (zTt r 0 r.length) r.length,?_,?_,?_⟩
 .show(iQ [.fz<|.lst<|yG r,.fz<|.int 0,.no]).bind rR=_;unfold iQ;rw[xG (O':=[.fz<|.lst<|yG r,.fz<|.int 0,.ow<|(zTt r 0 r.length).map nI]) (by unfold pS;rw[zMN 0 jc h0];rfl)];unfold zVI zZA wN;rw[zLO rfl rfl,zMW jc h0 jc λk hk=>zKv hk];rfl
 .refine(Tz (f:=λp:Row=>p.1) (R:=(· ≠ ·))).mp ?_;rw[fs,Tz];refine(List.pairwise_lt_range.sublist sub).imp_of_mem λ{i k} hi hk e=>?_;have hi:=Tq.mp<|sub.subset hi;have hk:=Tq.mp<|sub.subset hk;have:=Tb.mp u.1 i k hi hk e;unfold rAt
  grind
 .have:=Wa List.length fs;rw[Qy,Qy,Qk] at this;lia
theorem zUd (x0 x1:B):∀(j6:kd) (p:Int) (x3:B),∃y3,sQ (gN 3) zYO j6 [x0,x1,.fz<|.int p,x3]=some (.nx [x0,x1,.fz<|.int<|p*2^j6.length,y3])
 | [],p,x3=>⟨x3,by simp[sQ]⟩
 | d::r,p,x3=>by obtain⟨y3,ih⟩:=zUd x0 x1 r _ _;refine⟨y3,?_⟩;rw[uE (ρ1:=[x0,x1,.fz _,.fz d]) (ρ2:=[x0,x1,.fz _,.fz d]) rfl ?_,ih,Qk,Int.pow_succ,Pw _ 2,<-Int.mul_assoc];unfold zYO yI;rw[show fW _ _ [x0,x1,.fz _,.fz d]=some _ from yY rfl rfl<|zTk je je];rfl
def zOa (n L:Nat)(hn:n<=3)(hL:L<=100):zSP [.int (n:Nat),.int (L:Nat)]=some (.int<|2^(n*L)):=by
 have hm:n*L<=300:=Wq (Oe hn hL) jb;obtain⟨y3,e⟩:=zUd (.fz<|.int (n:Nat)) (.fz (!17)) (pL 0<|n*L) 1 .no;rw[eN] at e;show(zWR [.fz<|.int (n:Nat),.fz (!17),.no,.no]).bind wG=_;refine yC (d:=.int 1) J ?_;refine yM (O':=[.fz<|.int (n:Nat),.fz (!17),.fz<|.int<|2^(n*L),y3]) ?_ J;unfold uG;have hmul:fW eV0 eV1 [.fz<|.int (n:Nat),.fz (!17),.fz<|.int 1,.no]=some (.int ((n*L:Nat):Nat)):=by rw[Int.natCast_mul];exact yY J rfl<|dW jc jc
 have hir:iR (fW eV0 eV1) [.fz<|.int<|n,.fz<|.int<|L,.fz<|.int 1,.no]=some (pL 0<|n*L):=by
  unfold iR;rw[hmul,Qt];generalize n*L=m at hm
  grind
 simp_all
def zLx {n:Int}(h:eV0 O=some (!28)):yT (Str.ofString Al) (Str.ofString Aa) eV0 O=some (.int n):=by unfold yT;rw[h];rfl
def zs (n:Nat):kh:=(List.range n).map λ_=>(0:Int)
def zSU (n:Nat):Tn:=(List.range n).map λ(i:Nat)=>((i:Int),(0:Int))
def zTZ (hn:n=2\/n=3)(ok:PtsOk n ps)(j:Bool)(hL:n*L<=12)(h1:lo.length=n)(h2:hi.length=n):∃q:kl,xJ [zL nm n j ps,.int (L:Nat),bx lo hi]=some (yG q)/\(q.Pairwise λp q=>p.1≠q.1)/\q.length<=4096:=by
 have hL3:L<=6:=by rcases hn with rfl | rfl<;>lia
 have hst:kB [.int (n:Nat)]=some (stD (zSU n) false):=by rcases hn with rfl | rfl<;>kernel_rfl
 have wst:Wt n<|zSU n:=⟨by simp[zSU],λp hp=>by obtain⟨i,hi,rfl⟩:=v7 hp;have:=Tq.mp hi;exact⟨⟨by show(0:Int)<=i;lia,by show(i:Int) < n;lia⟩,.inl J⟩⟩
 obtain⟨P,hp,up⟩:=zUW hn ok (nm:=nm) j 9 L lo hi (zSU n) false (zs n) 0 jc jc h1 h2 (by simp[zs]) wst;have hl:=up.len (by have:=jH<|n*L;lia);have h6:=zNW hL;obtain⟨q,hcl,q1,q2⟩:=zMP up jc;refine⟨q,?_,q1,q2⟩;have hf:=zOa 1 L jb jc;rw[Nat.one_mul] at hf;have hd:=λ{x y:B}=>zLx (n:=n) (j:=j) (ps:=ps) (nm:=nm) (O:=[.fz (!28),.fz (!17),.fz<|bx lo hi,x,y]) J;show(tH [.fz (!28),.fz (!17),.fz<|bx lo hi,.no,.no]).bind rR=_;unfold tH;refine cO (d:=.int<|2^L - 1) (yY (C:=λ_ _=>true) (g:=λi j=>i - j) ((vY (x:=.int 1) (y:=!17) J J).trans hf) rfl rfl) ?_;unfold qJ;have z:∀(f:Ef) (c:Int),f [.fz (!28),.fz (!17),.fz<|bx lo hi,.fz<|.int<|2^L - 1,.no]=some (.int c)->zV2 (w9<|zY f zS) (yT Al Aa eV0) [.fz (!28),.fz (!17),.fz<|bx lo hi,.fz<|.int<|2^L - 1,.no]=some (yR<|(List.range n).map λ_=>c):=λf c h=>by unfold zV2;rw[hd,lF (zI h J)<|Qr rfl];rcases hn with rfl | rfl<;>rfl
 refine cO (d:=bx (zs n)<|uQ (zs n)<|2^L) ?_ ?_
 .have e:uQ (zs n) (2^L)=(List.range n).map λ_=>(2:Int)^L - 1:=by
   unfold uQ zs;rw[Wk];exact Ra λ_ _=>by show(0:Int)+2^L - 1=_;lia
  rw[e];exact lF (zI (z _ 0 J)<|zI (z _ _ J) rfl)<|Qr rfl
 unfold jM wN;dsimp only[List.set];rw[zLO (x:=.lst<|yG P) (y:=.int 0) (vZ<|(zL4 J J ((zZ7 hd).trans hst) J J).trans hp) rfl,hcl];rfl
def zHz {x:Int}(hx:0<=x):Builtin.bitAnd x 1=0\/Builtin.bitAnd x 1=1:=by
 rw[PyProof.Rows.bitAnd_pp hx je]
 grind
def fG (c k p:Int)(h0:0<=k)(h1:k<=1000)(p0:1000000<=p)(p1:p<=2000000):∃v,0<=v/\vH [.int c,.int k,.int p]=some (.int v):=by
 have m1:zXP 31 k=true:=dW je je;have m2:zXP (31*k) k=true:=dW jc jc;have m3:zXP (c % p+12345+31*k*k+k) 48271=true:=zTk je je;have d0:decide (0 < p)=true:=Qb jc;have hr:=Yf ((c % p+12345+31*k*k+k)*48271) (show p≠0 by lia);have hr':=Tu ((c % p+12345+31*k*k+k)*48271) (show 0 < p by lia);generalize hq:_*48271 % p=q at hr hr';have m4:zXP q q=true:=dW jc jc;refine⟨q*q % 998244353 / 3,jc,?_⟩;refine yC (d:=.int q) ?_ ?_
 .rw[<-hq];exact yY (yY (yY (yY (yY (yY J J d0) J J) (yY (yY J J m1) J m2) J) J J) J m3) J d0
 .unfold zYo xS;rw[show uL (wO _ _) _ _=some _ from yY (yY (yY J J m4) J J) rfl rfl];rfl
def zO0 (ns:kh)(k:Nat):∃c:Int,sS [.lst<|ns.map D.int,.int (k:Nat)]=some (.int c):=by
 have hl:(ns.map D.int).length=ns.length:=je;have t1:eB2 gLt eV1 (nV eV0) [.fz<|.lst<|ns.map D.int,.fz<|.int<|k]=some (decide ((k:Int) < (ns.length))):=by rw[<-hl];rfl
 by_cases h:(k:Int) < (ns.length)
 .refine⟨ns.getD k 0,?_⟩;show(rM [.fz _,.fz _]).bind wG=_;unfold rM;rw[zZn (by
   unfold sIf;rw[t1,Qb h];show((atI _ _)).map Out.rt=_;rw[zX7,mJ ns _ 0 jc h];rfl)]
  rfl
 .refine⟨0,?_⟩;show(rM [.fz _,.fz _]).bind wG=_;exact zXl (!9) J
def zIM (k n:Nat):kh:=(List.range n).map λi=>(((k >>> i) % 2:Nat):Int)
def fO (n:Nat):List kh:=(List.range<|2^n).map λk=>zIM k n
theorem aE {α β:Type}(f:α->β):∀(l:!10) (i:Nat),(l.map f).eraseIdx i=(l.eraseIdx i).map f
 | [],_=>rfl
 | a::r,0=>rfl
 | a::r,i+1=>by rw[Qx,Iq,Iq,Qx,aE f r i]
def zI8 (q:Int)(hq:0<=q)(hn:n=2\/n=3):∃t,Wt n t/\iY [.int q,.int (n:Nat)]=some (zVl t):=by
 have hb:=λk:Nat=>zHz<|Int.ediv_nonneg (Int.ediv_nonneg hq (by decide:(0:Int)<=6))<|Int.le_of_lt<|jH k;have a2:∃l,atD (.lst [yR [0,1],yR [1,0]]) (.int<|q % 2)=some (yR l)/\l.length=2/\∀x∈l,0<=x/\x < 2:=by rcases bit q with h | h<;>rw[h]<;>exact⟨_,J,J,jb⟩
 obtain⟨l,e2,l2,w2⟩:=a2;obtain⟨a,b,rfl⟩:=zTg l2;have go:∀r,(oC [.fz<|.int q,.fz<|.int (n:Nat),.fz<|yR [a,b]]).bind wG=r->iY [.int q,.int (n:Nat)]=r:=λr h=>by exact yC ((rX (x:=.lst [yR [0,1],yR [1,0]]) (y:=.int<|q % 2) J (!29)).trans e2) h
 rcases hn with rfl | rfl
 .refine⟨[(a,Builtin.bitAnd (q / 6 / 2^0) 1),(b,Builtin.bitAnd (q / 6 / 2^1) 1)],⟨rfl,λp hp=>?_⟩,go _<|zXl rfl rfl⟩;simp only[Qz,Ir,or_false] at hp;rcases hp with rfl | rfl
  .exact⟨w2 a je,hb 0⟩
  .exact⟨w2 b je,hb 1⟩
 .have a3:∃l,atD (.lst [yR [0,1,2],yR [0,2,1],yR [1,0,2],yR [1,2,0],yR [2,0,1],yR [2,1,0]]) (.int<|q % 6)=some (yR l)/\l.length=3/\∀x∈l,0<=x/\x < 3:=by
   rcases(show q % 6=0\/q % 6=1\/q % 6=2\/q % 6=3\/q % 6=4\/q % 6=5 by lia) with h | h | h | h | h | h<;>rw[h]<;>exact⟨_,J,J,jb⟩
  obtain⟨l,e3,l3,w3⟩:=a3;obtain⟨a',b',c',rfl⟩:=zTo l3;refine⟨[(a',Builtin.bitAnd (q / 6 / 2^0) 1),(b',Builtin.bitAnd (q / 6 / 2^1) 1),(c',Builtin.bitAnd (q / 6 / 2^2) 1)],⟨J,λp hp=>?_⟩,go _ ?_⟩
  .simp only[Qz,Ir,or_false] at hp;rcases hp with rfl | rfl | rfl
   .exact⟨w3 a' je,hb 0⟩
   .exact⟨w3 b' je,hb 1⟩
   .exact⟨w3 c' je,hb 2⟩
  .unfold oC;refine yM (O':=[.fz<|.int q,.fz<|.int 3,.fz<|yR [a',b',c']]) ((nF (b:=true) J).trans ?_) J;unfold yI;rw[(rX (x:=.lst [yR [0,1,2],yR [0,2,1],yR [1,0,2],yR [1,2,0],yR [2,0,1],yR [2,1,0]]) (y:=.int<|q % 6) J (!29)).trans e3];rfl
def zJH (n:Nat):List Pt:=(if n=2 then [([0,0],[(1,0),(0,0)]),([0,1],[(0,0),(1,0)]),([1,1],[(0,0),(1,0)]),([1,0],[(1,1),(0,1)])] else [([0,0,0],[(1,0),(0,0),(2,0)]),([0,1,0],[(1,0),(2,0),(0,0)]),([0,1,1],[(0,0),(1,0),(2,0)]),([0,0,1],[(1,1),(2,1),(0,0)]),([1,0,1],[(1,0),(2,1),(0,1)]),([1,1,1],[(0,0),(1,0),(2,0)]),([1,1,0],[(1,1),(2,0),(0,1)]),([1,0,0],[(1,1),(0,1),(2,0)])]).map λx=>⟨x.1,x.2,false⟩
def zJ1 (hn:n=2\/n=3):PtsOk n<|zJH n:=by refine⟨by rcases hn with rfl | rfl<;>rfl,?_⟩;unfold Wc Wt;rcases hn with rfl | rfl<;>decide +kernel
def zT5 (hn:n=2\/n=3)(c:Int):∃y4,uG (iR<|zTW jq eV1) (gN 4) dO [.fz<|.int c,.fz<|.int (n:Nat),.no,.ow [],.no,.no,.no,.no,.no]=some (.nx [.fz<|.int c,.fz<|.int (n:Nat),.no,.ow<|(fO n).map yR,y4,.no,.no,.no,.no]):=by
 rcases hn with rfl | rfl
 .exact⟨.fz<|.int 3,jf⟩
 .exact⟨.fz<|.int 7,jf⟩
def zPP (hn:n=2\/n=3)(c:Int)(x2 x4:B)(left:List kh)(j7:List Pt)(k:Int)(hk0:0<=k)(hk:k<=8)(x7 x8:B)(h0:0 < left.length)(hl:left.length<=8)(ha:j7.length<=8):∃(i:Nat) (cc:kh) (t:Tn) (b:Bool) (y7 y8:B),i < left.length/\cc∈left/\Wt n t /\ tT [.fz<|.int c,.fz<|.int (n:Nat),x2,.ow<|left.map yR,x4,.ow<|j7.map mV,.fz<|.int k,x7,x8]=some (.nx [.fz<|.int c,.fz<|.int (n:Nat),x2,.ow<|(left.eraseIdx i).map yR,x4,.ow<|(j7++[(⟨cc,t,b⟩:Pt)]).map mV,.fz<|.int k,y7,y8]):=by
 obtain⟨v,hv,ev⟩:=fG c k 1000033 hk0 jc jb jb;obtain⟨t,htm,et⟩:=zI8 (v / 8) jc hn;have hi0:0<=v % (left.length:Int):=Yf _ jc;have hi1:v % (left.length:Int) < left.length:=Tu _ jc;have hlt:(v % (left.length:Int)).toNat < left.length:=jc;have hg:=Qj hlt;have hm:=Rm hlt;generalize left[(v % (left.length:Int)).toNat]'hlt=cc at hg hm;refine⟨_,cc,t,decide (v / 512 % 2=1),.fz<|.int v,.fz<|yR cc,hlt,hm,htm,?_⟩;unfold tT;rw[zZ4<|(vL J J J).trans ev];unfold nL;rw[xG (O':=[.fz (.int c),.fz (.int (n:Nat)),x2,.ow ((left.eraseIdx (v % (left.length:Int)).toNat).map yR),x4,.ow (j7.map mV),.fz (.int k),.fz (.int v),.fz (yR cc)]) (by
  unfold zFa;have e2:zR5 3 [.fz<|.int c,.fz<|.int<|n,x2,.ow<|left.map yR,x4,.ow<|j7.map mV,.fz<|.int k,.fz<|.int v,x8]=some (.int<|left.length):=by show some (D.int _)=_;rw[Qy]
  dsimp only[List.set];rw[show wO _ _ _=some (.int<|v % _) from yY rfl e2<|Qb jc];show(if (left.map yR).length<=lim then(ixN (left.map yR).length<|v % _).bind λq=>(_[q]?).map λx=>Out.nx (([.fz _,.fz<|.int _,x2,.ow _,x4,.ow _,.fz _,.fz _,x8]:ki).set 8 _) else none)=_;rw[Qy,Qg (by show left.length<=100000;lia)];unfold ixN;rw[Qg hi0,Qg hi1,Qt,Wh,hg,aE];rfl)]
 have hb:bQ (eB2 gEq (wO (uL eV7<|eC<|.int 512) jr) jq) [.fz<|.int c,.fz<|.int<|n,x2,.ow<|(left.eraseIdx (v % (left.length)).toNat).map yR,x4,.ow<|j7.map mV,.fz<|.int k,.fz<|.int v,.fz<|yR cc]=some (.bl (decide (v / 512 % 2=1))):=by rfl
 refine(zQz (f:=nC AW [Aj,AK,AL] 3 zXK _) (zRW (zI rfl<|zI ((vY (!29) J).trans et)<|zI hb rfl) J J J) J (by rw[Qy];lia)).trans ?_;rw[Wv];rfl
def zKV (hn:n=2\/n=3)(c:Int):∃ps,PtsOk n ps/\(kX [.fz<|.int c,.fz<|.int (n:Nat),.no,.no,.no,.no,.no,.no,.no]).bind wG=some (zL "loose" n false ps):=by
 obtain⟨y4,e1⟩:=zT5 hn c;have hcl:(fO n).length=2^n:=by simp[fO]
 have hcw:∀c∈fO n,Wc n c:=by unfold Wc;rcases hn with rfl | rfl<;>decide +kernel
 have h8:2^n<=8:=by rcases hn with rfl | rfl<;>decide
 obtain⟨O',e2,left,j7,y6,y7,y8,q1,q2,q3,q4,rfl⟩:=iW (g:=gN 6) (body:=tT) (P:=λi O=>∃(left:List kh) (j7:List Pt) (y6 y7 y8:B),left.length+i=2^n/\j7.length=i/\(∀c∈left,Wc n c)/\(∀p∈j7,Wc n p.c/\Wt n p.t)/\O=[.fz<|.int c,.fz<|.int (n:Nat),.no,.ow<|left.map yR,y4,.ow<|j7.map mV,y6,y7,y8]) (pL 0<|2^n) 0 (λi d hd O hO=>by
   obtain⟨hi,rfl⟩:=eU hd;obtain⟨left,j7,y6,y7,y8,q1,q2,q3,q4,rfl⟩:=hO;obtain⟨k,cc,t,b,z7,z8,hk,hm,wt,e⟩:=zPP hn c .no y4 left j7 (0+(i)) jc jc y7 y8 jc jc jc;refine⟨_,_,J,e,_,_,_,_,_,by rw[List.length_eraseIdx,Qg hk];lia,by rw[Qp,q2];rfl,λc hc=>q3 c<|List.mem_of_mem_eraseIdx hc,λp hp=>?_,J⟩;rcases v6 hp with z | z
   .exact q4 p z
   .rw[Qv.mp z];exact⟨q3 cc hm,wt⟩) [.fz _,.fz<|.int _,.no,.ow _,y4,.ow<|([]).map mV,.no,.no,.no] ⟨fO n,[],_,_,_,jc,rfl,hcw,(λp hp=>by cases hp),rfl⟩
 rw[eN,Yt] at q1 q2;refine⟨j7,⟨q2,q4⟩,?_⟩;refine yM (O':=[.fz _,.fz<|.int _,.no,.ow [],.no,.no,.no,.no,.no]) J ?_;refine yM e1 ?_;refine yM (O':=[.fz _,.fz<|.int _,.no,.ow _,y4,.ow<|([]).map mV,.no,.no,.no]) J ?_;refine yM (O':=[.fz<|.int c,.fz<|.int<|n,.no,.ow<|left.map yR,y4,.ow<|j7.map mV,y6,y7,y8]) ?_ ?_
 .unfold uG;rw[show iR (zTW (eC _) _) [.fz _,.fz<|.int _,.no,.ow _,y4,.ow<|([]).map mV,.no,.no,.no]=some (pL 0<|2^n) by rcases hn with rfl | rfl<;>rfl];exact e2
 .rfl
def zLN (hn:n=2\/n=3)(c:Int):∃nm j ps,PtsOk n ps/\fM [.int c,.int (n:Nat)]=some (!28):=by
 obtain⟨v,hv,ev⟩:=fG c 40 1000003 jb jb jb jb;have t:eB2 gEq (wO (yZ 3 vH<|zY eV0<|zY (eC<|.int 40)<|zY (eC<|.int 1000003) zS) jt) jp [.fz<|.int c,.fz<|.int (n:Nat),.no,.no,.no,.no,.no,.no,.no]=some (decide (v % 3=0)):=bO<|yY ((vL J J J).trans ev) rfl rfl;show ∃nm j ps,PtsOk n ps/\(pW [.fz<|.int c,.fz<|.int (n:Nat),.no,.no,.no,.no,.no,.no,.no]).bind wG=some (!28);unfold pW
 by_cases h:v % 3=0
 .refine⟨"base",true,zJH n,zJ1 hn,?_⟩;rw[zZn (d:=zL "base" n true (zJH n)) ((nF t).trans (by
   rw[Qb h,Qg rfl];rcases hn with rfl | rfl<;>kernel_rfl))]
  rfl
 .obtain⟨ps,ok,e⟩:=zKV hn c;refine⟨"loose",false,ps,ok,?_⟩;rw[xG (O':=[.fz<|.int c,.fz<|.int (n:Nat),.no,.no,.no,.no,.no,.no,.no])<|(nF t).trans (by rw[Wu h];rfl)];exact e
abbrev stN:kg:=[Af,AN]
def soD (n:Nat)(r:Rt):D:=.obj Ad stN [.int (n:Int),rtD r]
def zEe (n:Nat)(r:Rt)(O:ki):cC 0 Ad AN (.mu none (soD n r)::O)=some (rtD r)/\cC 0 Ad Af (.mu none (soD n r)::O)=some (.int (n:Int)):=by
 refine⟨?_,?_⟩
 all_goals
  refine(Qg rfl:(if (Ad:Str)=Ad then _ else none)=_).trans ?_;kernel_rfl
def zKW {r:Rt}(h:fa O=some (soD n r)):yT Ad AN fa O=some (rtD r):=by unfold yT;rw[h,Qt];refine(Qg rfl:(if (Ad:Str)=Ad then _ else none)=_).trans ?_;kernel_rfl
theorem zSp (n:Nat)(a b:D):setF AN b stN [.int (n:Int),a]=[.int (n:Int),b]:=jf
section
variable (hn:4<=n) (h12:n<=50)
include hn h12
def zMI {xs:!7}(H:RtOk n h xs)(e:Et)(hk:∀a∈zJ h xs,kE a≠kE e)(hl:(zJ h xs).length < 32000):∃h' xs',RtOk n h' xs'/\(zJ h' xs').Perm (e::zJ h xs)/\oA stN [.int (n:Int),rtD ⟨h,xs⟩] [dE e]=some [.int (n:Int),rtD ⟨h',xs'⟩]:=by
 have hd:=H.deep hn jc;obtain⟨h',xs',e1,H',pm⟩:=H.put hn e hk;obtain⟨m1,m2⟩:=zEe n ⟨h,xs⟩ [.fz<|dE e];refine⟨h',xs',H',pm,?_⟩;show fnM 2 Ad stN AN _ _ [.int (n:Int),rtD ⟨h,xs⟩] [dE e]=_;unfold fnM;show(pJ [.mu none<|soD n ⟨h,xs⟩,.fz<|dE e]).bind _=_;have ht:pJ [.mu none<|soD n ⟨h,xs⟩,.fz<|dE e]=some false:=by unfold pJ eB2;rw[vY m1 rfl,show tG [rtD ⟨h,xs⟩,dE e]=_ from zPi hn jc e h xs H.way jc,H.like_none hn hk];rfl
 rw[ht,Qt,Qg ⟨rfl,ja,jb⟩];obtain⟨p1,p2⟩:=zO1 hn e h xs H.way;have he:lP [.mu none<|soD n ⟨h,xs⟩,.fz<|dE e]=some (rtD ⟨h',xs'⟩):=by refine(zZ7<|(vL m1 J m2).trans<|fN hn jc e h xs 16 H.way jc).trans ?_;rw[zOb _ jc jc<|p2 (by rcases H.two with z | z;exact .inr z;exact .inl jc),e1]
 show(lP [.mu none<|soD n ⟨h,xs⟩,.fz<|dE e]).map _=_;rw[he];exact Wa some<|zSp n _ _
def zQl {xs:!7}(H:RtOk n h xs)(e:Et)(he:e∈zJ h xs)(hl:(zJ h xs).length < 32000):∃h' xs',RtOk n h' xs'/\zJ h' xs'=(zJ h xs).filter (λa => !vS a e)/\qB stN [.int (n:Int),rtD ⟨h,xs⟩] [dE e]=some [.int (n:Int),rtD ⟨h',xs'⟩]:=by
 have hd:=H.deep hn jc;obtain⟨h',xs',e1,H',pm⟩:=H.take hn e;obtain⟨m1,m2⟩:=zEe n ⟨h,xs⟩ [.fz<|dE e];refine⟨h',xs',H',pm,?_⟩;show fnM 2 Ad stN AN _ _ [.int (n:Int),rtD ⟨h,xs⟩] [dE e]=_;unfold fnM;show(rN [.mu none<|soD n ⟨h,xs⟩,.fz<|dE e]).bind _=_;have ht:rN [.mu none<|soD n ⟨h,xs⟩,.fz<|dE e]=some false:=by unfold rN eB2;rw[vY m1 rfl,show tG [rtD ⟨h,xs⟩,dE e]=_ from zPi hn jc e h xs H.way jc,H.like_some hn he rfl];show bE (dE e) (dE e)=_;rw[zDV,qO.mpr rfl];rfl
 rw[ht,Qt,Qg ⟨rfl,ja,jb⟩];have hE:nU [.mu none<|soD n ⟨h,xs⟩,.fz<|dE e]=some (rtD ⟨h',xs'⟩):=by
  refine(zZ7<|(vL m1 J m2).trans<|zRf hn jc e h xs 16 H jc).trans ?_;obtain⟨_,i2⟩:=zZM hn e h xs H.len H.two H.full H.srt;rw[zOb _ jc (by rcases i2 with⟨_,z,_⟩ | ⟨y,z,_⟩<;>rw[z]<;>simp) (by
   rcases i2 with⟨_,z,_⟩ | ⟨y,z,_,_,y3,_⟩
   .rw[z];exactλy hy=>nomatch hy
   .rw[z];intro y hy;rw[Qv] at hy;subst hy;exact y3),e1]
 show(nU [.mu none<|soD n ⟨h,xs⟩,.fz<|dE e]).map _=_;rw[hE];exact Wa some<|zSp n _ _
end
theorem zUi (val:Nat->Int):∀k i,i<=k->val i<=tE val k
 | 0,i,h=>by cases (Nat.le_zero.mp h);exact Pk _
 | k+1,i,h=>by
  unfold tE
  by_cases e:i=k+1
  .subst e;split<;>lia
  .have:=zUi val k i jc;split<;>lia
def zMt {x:Int}(h:x∈l):x<=zZ3 l:=by obtain⟨i,hi,rfl⟩:=List.getElem_of_mem h;have:=zUi (λi=>l.getD i 0) (l.length - 1) i jc;simpa [hi,zZ3] using this
theorem zOv:∀(h:Nat) (x:It h),∀e∈pH h x,e.l<=most h x
 | 0,x,e,he=>by have he:e∈[x]:=he;rw[Qv] at he;rw[he];exact Pk _
 | h+1,xs,e,he=>by obtain⟨y,hy,he⟩:=Eo.mp he;exact Int.le_trans (zOv h y e he)<|zMt<|List.mem_map_of_mem hy
def gX (a b:Int)(e:Et):Bool:=decide (e.f<=b)&&decide (a<=e.l)
def uK (a b:Int):(h:Nat)->List (It h)->qm
 | 0,xs=>List.filter (gX a b) xs
 | h+1,xs=>List.flatMap (λx=>if (decide ((wZ (h+1) x).f<=b)&&decide (a<=most (h+1) x))=true then uK a b h x else []) xs
def zK8 {x y:Et}(h:xE (kE y) (kE x)=false):x.f<=y.f:=by
 by_cases q:x.f<=y.f
 .exact q
 .have:xE (kE y) (kE x)=true:=jY.mpr<|.inl (by show y.f < x.f;lia);rw[h] at this;cases this
theorem zSg {n:Nat}(hn:2<=n)(a b:Int):∀(h:Nat) (xs:!7),(∀x∈xs,tW n h x)->Srt (zJ h xs)->uK a b h xs=(zJ h xs).filter (gX a b)
 | 0,xs,_,_=>by rw[uX];rfl
 | h+1,xs,hf,hs=>by
  have key:∀ys:List<|It<|h+1,(∀x∈ys,x∈xs)->ys.flatMap (λx=>if (decide ((wZ (h+1) x).f<=b)&&decide (a<=most (h+1) x))=true then uK a b h x else [])=(zJ (h+1) ys).filter (gX a b):=by
   intro ys;induction ys with
   | nil=>intro _;rfl
   | cons x r ih =>
    intro hy;have hx:=hy x Ql;have sx:Srt<|zJ h x:=hs.sublist<|rB (f:=pH<|h+1) hx;rw[Ec,ih λz hz=>hy z<|Qf _ hz,wF,Ud];congr 1;split
    .exact zSg hn a b h x (wR<|hf x hx).2.2 sx
    .rename_i q;symm;refine Yj.mpr λe he=>?_;obtain⟨t,et⟩:=zYS hn (h+1) x<|hf x hx;have sx:Srt<|pH (h+1) x:=sx;have low:(wZ (h+1) x).f<=e.f:=by
      rw[et] at he sx;rcases v4 he with z | z
      .rw[z];exact Pk _
      .exact zK8 (zOH<|(Rq.mp sx).1 e z)
     have up:=zOv (h+1) x e he;unfold gX;simp only[Wy,Wl] at q ⊢;lia
  exact key xs λ_ h=>h
def zYC {f:Sf}(h:f O=some (.nx O'))(k:(g O').bind rR=r):(zH f g O).bind rR=r:=by rw[xG h];exact k
def zTX {r:kd}(h:t O=some true)(k:e O=some r):(zH (sIf t (wN e) wC) g O).bind rR=some r:=by unfold zH;rw[nF h];unfold wN;rw[k];rfl
def nR:(wN e O).bind rR=e O:=by unfold wN;cases e O<;>rfl
def zKu (h1:fa O=some x):uN 1 f (zY fa zS) O=f [x]:=by unfold uN;rw[zI h1 (rfl),Qt,Qg<|show [x].length=1 from rfl]
def zDH {u:Tf}{a b:Bool}(h1:t O=some a)(h2:u O=some b):bV t u O=some (a&&b):=by unfold bV;rw[h1];cases a<;>simp[h2]
def zOV {f g:Ef}{x y:Int}(h:f O=some (.int x))(h2:g O=some (.int y)):eB2 gLe f g O=some (decide (x<=y)):=by unfold eB2;rw[h,h2];rfl
def zSZ (es:qm)(a b:Int)(hl:es.length<=100000)(hs:src O=some (.lst<|es.map dE))(hj:upB 1 js O=[.no,.fz<|.int b,.fz<|.int a]):yJ (iL src) 1 js (gN 0) (bV (eB2 gLe (eIx eV0 jp) eV1)<|eB2 gLe eV2<|eIx eV0 jq) eV0 O=some ((es.filter<|gX a b).map dE):=by unfold yJ;rw[gA hs,Qt,uV (!9),hj];have:=iP (t:=bV (eB2 gLe (eIx eV0 jp) eV1)<|eB2 gLe eV2<|eIx eV0 jq) (f:=dE) (p:=gX a b) (rest:=[.fz _,.fz _]) es .no [] λe _=>zDH (zOV J J)<|zOV rfl rfl;exact this
theorem zUM {h:Nat}{a b:Int}{pg:B}{self:kd->ka}:∀(xs:List<|It<|h+1) (j7:qm) (x4 x5:B),(∀x∈xs,0 < List.length x/\self [pgD h x,.int a,.int b]=some ((uK a b h x).map dE))->j7.length+(xs.flatMap λx=>uK a b h x).length<=100000 -> ∃y4 y5,sQ (gT<|zM (gN 4)<|zM (gN 5) xZ) (uH self) (zZ9 (xs.map λx=>dE<|wZ (h+1) x)<|xs.map<|iD<|h+1) [pg,.fz<|.int a,.fz<|.int b,.ow<|j7.map dE,x4,x5]=some (.nx [pg,.fz<|.int a,.fz<|.int b,.ow<|(j7++uK a b (h+1) xs).map dE,y4,y5])
 | [],j7,x4,x5,_,_=>⟨x4,x5,by simp[sQ,zZ9,uK]⟩
 | x::r,j7,x4,x5,hx,hl=>by
  obtain⟨hx0,hx1⟩:=hx x Ql;rw[Ec,Qp] at hl;have ht:bV (eB2 gLe (eIx eV4 jp) eV2) (eB2 gLe eV1<|yT A2 Ay eV5) [pg,.fz<|.int a,.fz<|.int b,.ow<|j7.map dE,.fz<|dE<|wZ (h+1) x,.fz<|iD (h+1) x]=some (decide ((wZ (h+1) x).f<=b)&&decide (a<=most (h+1) x)) :=
   zDH (zOV J J) (zOV rfl<|by rw[zSu (h:=h) (xs:=x) rfl,zS2 hx0])
  have step:∃acc',acc'.length<=j7.length+(uK a b h x).length/\j7++uK a b (h+1) (x::r)=acc'++uK a b (h+1) r/\uH self [pg,.fz<|.int a,.fz<|.int b,.ow<|j7.map dE,.fz<|dE<|wZ (h+1) x,.fz<|iD (h+1) x]=some (.nx [pg,.fz<|.int a,.fz<|.int b,.ow<|acc'.map dE,.fz<|dE<|wZ (h+1) x,.fz<|iD (h+1) x]):=by
   cases hc:decide ((wZ (h+1) x).f<=b)&&decide (a<=most (h+1) x) with
   | false =>rw[hc] at ht;refine⟨j7,jc,?_,(nF ht).trans J⟩;show j7++List.flatMap _ (x::r)=_;rw[Ec,hc];rfl
   | true =>
    rw[hc] at ht;refine⟨j7++uK a b h x,by rw[Qp];lia,?_,(nF ht).trans ?_⟩
    .show j7++List.flatMap _ (x::r)=_;rw[Ec,hc,Th];rfl
    .rw[Qg rfl];unfold zVh;have hq:uN 3 self (zY eV5<|zY eV1<|zY eV2 zS) [pg,.fz<|.int a,.fz<|.int b,.ow<|j7.map dE,.fz<|dE<|wZ (h+1) x,.fz<|iD (h+1) x]=some ((uK a b h x).map dE):=(zWs J J J).trans hx1;rw[hq];show(if (j7.map dE).length+((uK a b h x).map dE).length<=lim then some (Out.nx [pg,.fz<|.int a,.fz<|.int b,.ow<|j7.map dE++(uK a b h x).map dE,.fz<|dE<|wZ (h+1) x,.fz<|iD (h+1) x]) else none)=_;rw[Qg (by rw[Qy,Qy];show _<=100000;lia),Wv]
  obtain⟨acc',l1,e1,s1⟩:=step;obtain⟨y4,y5,e2⟩:=zUM (pg:=pg) (self:=self) r acc' (.fz<|dE<|wZ (h+1) x) (.fz<|iD (h+1) x) (λz hz=>hx z<|Qf _ hz) jc;refine⟨y4,y5,?_⟩;show sQ _ _ (D.tup [dE<|wZ _ x,iD _ x]::zZ9 _ _) _=_;rw[uE (ρ1:=[pg,.fz _,.fz _,.ow _,.fz<|dE<|wZ _ x,.fz<|iD _ x]) rfl s1,e2,e1]
theorem zVE (a b:Int):∀(h:Nat) (xs:!7),(uK a b h xs).length<=(zJ h xs).length
 | 0,xs=>by rw[uX];exact Ed _ _
 | h+1,xs=>by
  show(List.flatMap _ xs).length<=(List.flatMap _ xs).length;induction xs with
  | nil=>exact Qh _
  | cons x r ih =>
   have:=zVE a b h x;have:(zJ h x).length=(pH _ x).length:=rfl
   grind
theorem zYc {n:Nat}(hn:4<=n)(h12:n<=300)(a b:Int):∀(h:Nat) (xs:!7) (k:Nat),Way n h xs->(zJ h xs).length<=50000->h < k->wK k [pgD h xs,.int a,.int b]=some ((uK a b h xs).map dE)
 | 0,xs,k+1,H,_,_=>by
  have hl:=H.1;refine zTX ?_ ?_
  .rfl
  .exact zSZ xs a b (Wq hl jc) (wB (h:=0) (xs:=xs) J) J
 | h+1,xs,k+1,H,hl,hk=>by
  show(tV (wK k) [.fz<|pgD (h+1) xs,.fz<|.int a,.fz<|.int b,.no,.no,.no]).bind rR=_;refine zYC (O':=[.fz<|pgD (h+1) xs,.fz<|.int a,.fz<|.int b,.no,.no,.no]) ((nF (b:=false) ?_).trans J) ?_
  .rfl
  refine zYC (O':=[.fz<|pgD _ xs,.fz _,.fz _,.ow [],.no,.no]) J ?_;have hsub:∀ys:List<|It<|h+1,(ys.flatMap λx=>uK a b h x).length<=(zJ _ ys).length:=by
   intro ys;induction ys with
   | nil=>exact Qh _
   | cons x r ih =>rw[Ec,wF,Qp,Qp];have:=zVE a b h x;have:(zJ h x).length=(pH _ x).length:=rfl;lia
  have hs:=hsub xs;obtain⟨y4,y5,e⟩:=zUM (pg:=.fz<|pgD _ xs) xs [] .no .no (λx hx=>by obtain⟨c1,c2,c3⟩:=wR<|H.2.2 x hx;have hxl:(zJ h x).length<=(zJ _ xs).length:=(rB (f:=pH _) hx).length_le;exact⟨jc,zYc hn h12 a b h x k ⟨c2,.inr jc,c3⟩ jc jc⟩) (by simp only[Pj];lia)
  refine zYC (O':=[.fz<|pgD _ xs,.fz<|.int a,.fz<|.int b,.ow<|(uK a b _ xs).map dE,y4,y5]) ?_ J;exact e
def dD (hn:4<=n)(h12:n<=300){xs:!7}(H:RtOk n h xs)(hl:(zJ h xs).length < 32000)(a b:Int):tL [soD n ⟨h,xs⟩,.int a,.int b]=some (((zJ h xs).filter<|gX a b).map dE):=by have hd:=H.deep hn jc;show(sO [.fz _,.fz _,.fz _]).bind rR=_;unfold sO;rw[nR,<-zSg jc a b h xs H.full H.srt];exact(zWs (zKW (r:=⟨h,xs⟩) J) J J).trans (zYc hn h12 a b h xs 16 H.way jc jc)
abbrev Bx:=kh×kh
def bxD (b:Bx):D:=bx b.1 b.2
abbrev Kb:=List<|Str×Bx
end My
variable{c:Str}{t:ki}{g:Lf}{f:Ef}{r:My.Rt}{kb kt:My.Kb}
namespace My
def ksK (kb:Kb):qj:=kb.map λp=>.inr p.1
def kbD (kb:Kb):D:=.dct (ksK kb)<|kb.map λp=>bxD p.2
theorem zZN (z:Str):∀kb:Kb,aQ (ksK kb) (kb.map λp=>bxD p.2) (.inr z)=(kb.lookup z).map bxD
 | []=>rfl
 | (y,b)::r=>by
  have ih:=zZN z r;unfold aQ ksK at ih ⊢;rw[Qx,Qx,Tt,Yp,Wj]
  by_cases e:y=z
  .simp_all
  .have e':¬(Sum.inr y:Key)=Sum.inr z:=λq=>e<|Sum.inr.inj q;have e2:(z==y)=false:=by simpa using λq:z=y=>e q.symm
   simp only[e',decide_false,e2];exact ih
def yv (cv:D)(L n:Nat)(r:Rt)(kb:Kb):D:=ydD cv (!17) (soD n r)<|kbD kb
def pE (h:fa O=some (!22)):yT A1 An fa O=some cv/\yT A1 Ac fa O=some (!17)/\yT A1 BR fa O=some (soD n r)/\yT A1 AZ fa O=some (kbD kb):=by
 refine⟨?_,?_,?_,?_⟩
 all_goals
  unfold yT;rw[h,Qt];refine(Qg rfl:(if (A1:Str)=A1 then _ else none)=_).trans ?_;kernel_rfl
def zPb {y:Bool}(h1:fk O=some (.str z))(h2:fd O=some (kbD kb)):zVX y fk fd O=some ((kb.lookup z).isSome==y):=by unfold zVX;rw[h1,h2];show some _=_;rw[zZN,Uk]
def zLK (h1:fk O=some (.str z))(h2:fd O=some (kbD kb)):zVb fd fk O=(kb.lookup z).map bxD:=by unfold zVb;rw[h2,h1];exact zZN z kb
def zZ0 {m:Str}{xs:kd}{k:Nat}{d:jz}(h1:fa O=some (.obj c ns xs))(h2:g O=some ds)(hk:ds.length+1=k)(hm:m∉ns):qZ c m k d fa g O=d (.obj c ns xs::ds):=by unfold qZ;rw[h1,h2];exact Qg ⟨J,hk,hm⟩
def vD {m:Str}{xs:kd}{k:Nat}{d:kd->ka}(h1:fa O=some (.obj c ns xs))(h2:g O=some ds)(hk:ds.length+1=k)(hm:m∉ns):vK c m k d fa g O=d (.obj c ns xs::ds):=by unfold vK;rw[h1,h2];exact Qg ⟨J,hk,hm⟩
def pN {m:Str}{xs:kd}{k:Nat}{x:kd->kf}(h1:fa O=some (.obj c ns xs))(h2:g O=some ds)(hk:ds.length+1=k)(hm:m∉ns):pI c m k x fa g O=x (.obj c ns xs::ds):=by unfold pI;rw[h1,h2];exact Qg ⟨J,hk,hm⟩
def zHu {e:Ef}{g:Sf}{r:qi}(h:e O=some d)(k:(g O).bind wG=r):(zH (mN e) g O).bind wG=r:=yM (by unfold mN;rw[h];rfl) k
abbrev yv1 (cv:D)(L n:Nat)(r:Rt)(kb:Kb):kd:=[cv,.int (L:Nat),soD n r,kbD kb]
def bG:uS [yv cv L n r kb,.str z]=if (kb.lookup z).isSome then some .non else none:=by show(rC [.fz _,.fz _]).bind wG=_;unfold rC sIf;rw[zPb rfl (pE J).2.2.2];cases (kb.lookup z).isSome<;>rfl
def zXe (hz:z.length<=1000):sT [yv cv L n r kb,.str z]=if (kb.lookup z).isSome then none else some As:=by
 show tI [.fz (!22),.fz<|.str z]=_;unfold tI xIf;rw[zPb rfl (pE J).2.2.2,Qt];cases (kb.lookup z).isSome
 .refine(Qg J).trans ?_;unfold aS;have:zVz (qC "no thing ") (zVz (qS eV1) zR3) [.fz (!22),.fz<|.str z]=true:=by
   show(decide _&&(decide _&&true))=true;rw[Qb hz];decide +kernel
  rw[this];rfl
 .rfl
def zIm:rH [yv cv L n r kb,.str z]=(kb.lookup z).map bxD:=by
 show(rD [.fz _,.fz _]).bind wG=_;unfold rD;have e:=(zZ0 (m:=AA) (k:=2) (fa:=eV0) (g:=!11) (O:=[.fz (!22),.fz<|.str z]) J J J (!6)).trans<|bG;cases h:kb.lookup z with
 | none =>rw[h] at e;unfold zH mN;rw[e];rfl
 | some b =>rw[h] at e;refine zHu e ?_;unfold eQ;rw[uJ,zLK rfl (pE J).2.2.2,h]
def zIb (hz:z.length<=1000):nY [yv cv L n r kb,.str z]=if (kb.lookup z).isSome then none else some As:=by show kK [.fz (!22),.fz _]=_;exact(pN J J J (!6)).trans (zXe hz)
def zSS {b:Bx}:vT [yv cv L n r kb,bxD b]=xJ [cv,.int (L:Nat),bxD b]:=by show(mB [.fz _,.fz _]).bind rR=_;unfold mB;rw[nR];exact zWs (pE J).1 (pE J).2.1 J
def zQH (n L:Nat)(xs:kh):Bool:=decide (xs.length=n)&&xs.all λx=>decide (0<=x)&&decide (x < (2:Int)^L)
def zTV (hL:L<=100)(xs:kh)(hl:xs.length<=100):sF [.int (n:Nat),.int (L:Nat),yR xs]=some (.bl<|zQH n L xs):=by
 have hf:=zOa 1 L jb hL;rw[Nat.one_mul] at hf;unfold zQH;generalize(2:Int)^L=S at hf ⊢;show(kD [.fz<|.int (n:Nat),.fz (!17),.fz<|.tup<|xs.map _,.no]).bind wG=_;refine yC (d:=.int S) ((vY J J).trans hf) ?_;unfold bZ xS;have e1:bQ (eB2 gEq (nV eV2) eV0) [.fz<|.int (n:Nat),.fz (!17),.fz<|.tup<|xs.map D.int,.fz<|.int S]=some (.bl (decide (xs.length=n))):=by show(gEq (.int ((xs.map _).length:Nat))<|.int (n:Nat)).map D.bl=_;rw[Qy];show(some (decide ((_:Int)=n))).map D.bl=_;rw[show decide ((_:Int)=n)=decide _ from Pa.mpr Int.ofNat_inj];rfl
 have e2:zNd (eL<|yJ (iT eV2) 1 [3] (gN 0) tOK<|bQ<|eB3 gLe gLt jp eV0 eV1) [.fz<|.int<|n,.fz<|.int<|L,.fz<|.tup<|xs.map D.int,.fz<|.int S]=some (.bl<|xs.all λx=>decide (0<=x)&&decide (x < S)):=by
  have e3:yJ (iT eV2) 1 [3] (gN 0) tOK (bQ<|eB3 gLe gLt jp eV0 eV1) [.fz<|.int<|n,.fz<|.int<|L,.fz<|.tup<|xs.map D.int,.fz<|.int S]=some ((xs.map D.int).map λd=>match d with | .int x=>.bl (decide (0<=x)&&decide (x < S)) | _=>.bl true):=by
   show(okL _).bind (λds=>uI _ tOK _ ds [.no,.fz _] [])=_;rw[uV (by rw[Qy];lia),Qt];rw[zWn (h:=λd=>match d with | .int x=>.bl _ | _=>.bl true)]
   .rfl
   .intro d hd;obtain⟨a,ha,rfl⟩:=v7 hd
    by_cases h1:0<=a
    .simp[bQ,eB3,gLe,gLt,eC,eV,zNC,h1]
    .simp[bQ,eB3,gLe,gLt,eC,eV,zNC,h1]
  unfold zNd;rw[vZ e3,Wk];show(zSf<|xs.map λx=>.bl (decide _&&decide _)).map _=_;rw[zWZ λx=>decide _&&decide _];simp
 unfold zZQ tB1;dsimp only[List.set];rw[e1];cases decide (_=n) with
 | false=>rfl
 | true=>rw[e2];rfl
def flB (n L:Nat)(b:Bx):Bool:=zQH n L b.1&&zQH n L b.2
def Sm (b:Bx):Prop:=b.1.length<=100/\b.2.length<=100
section
variable (hL:L<=100){b:Bx} (hb:Sm b)
include hL hb
def zZW:gR [bxD b,.int (n:Nat),.int (L:Nat)]=some (.bl<|flB n L b):=by
 show(iI [.fz _,.fz _,.fz _,.no,.no]).bind wG=_;refine yM (O':=[.fz _,.fz _,.fz _,.fz _,.fz _]) J ?_;unfold zZR;rw[uJ];unfold zZQ tB1;rw[vL rfl rfl rfl,zTV hL b.1 hb.1];unfold flB;cases zQH n L b.1 with
 | false=>rfl
 | true=>rw[vL rfl rfl rfl,zTV hL b.2 hb.2];rfl
def zN6:zYR [bxD b,.int (n:Nat),.int (L:Nat)]=if flB n L b then some .non else none:=by show(eG [.fz<|bxD b,.fz<|.int<|n,.fz<|.int<|L]).bind wG=_;unfold eG sIf sD tB1;rw[vL rfl rfl rfl,zZW hL hb];cases flB n L b<;>rfl
def zNb:zYD [bxD b,.int (n:Nat),.int (L:Nat)]=if flB n L b then none else some Ao:=by show gZ [.fz<|bxD b,.fz<|.int<|n,.fz<|.int<|L]=_;unfold gZ xIf sD tB1;rw[vL rfl rfl rfl,zZW hL hb];cases flB n L b<;>rfl
end
section
variable (hL:L<=100){b:Bx} (hb:Sm b)
include hL hb
def zPO (h:fa O=some (yv (!28) L m r kb)):yT Al Aa (yT A1 An fa) O=some (.int (n:Nat)):=by have e:=(pE h).1;unfold yT at e ⊢;rw[e,Qt];refine(Qg rfl:(if (Al:Str)=Al then _ else none)=_).trans ?_;kernel_rfl
def zYe:wY [yv (!28) L m r kb,bxD b]=if flB n L b then some .non else none:=by show(sL [.fz<|yv (!28) L m r kb,.fz<|bxD b]).bind wG=_;unfold sL mN;rw[vL rfl (zPO hL hb J) (pE J).2.1,zN6 hL hb];cases flB n L b<;>rfl
def zYw:vG [yv (!28) L m r kb,bxD b]=if flB n L b then none else some Ao:=by show uF [.fz<|yv (!28) L m r kb,.fz<|bxD b]=_;unfold uF zMl;rw[zI rfl<|zI (zPO hL hb J)<|zI (pE J).2.1 rfl,Qt];exact(Qg J).trans (zNb hL hb)
end
abbrev rOk (n:Nat)(r:Rt):Prop:=RtOk n r.1 r.2
abbrev rE (r:Rt):qm:=zJ r.1 r.2
def en (z:Str)(p:Row):Et:=⟨p.1,p.2,z⟩
def pC (kb:Kb)(z:Str):Kb:=kb.filter λp=>decide (p.1≠z)
def zVf (kb:Kb)(z:Str)(b:Bx):Kb:=kb.map λp=>if p.1=z then(p.1,b) else p
def zVx (kb:Kb)(z:Str)(b:Bx):Kb:=if (kb.lookup z).isSome then zVf kb z b else kb++[(z,b)]
def zLb {y:Str}:((Sum.inr y:Key)=Sum.inr z)↔y=z:=je
theorem zQ1 (z:Str):∀kb:Kb,zYp (ksK kb) (.inr z)=ksK (pC kb z)/\zZ1 (ksK kb) (kb.map λp=>bxD p.2) (.inr z)=(pC kb z).map λp=>bxD p.2
 | []=>⟨J,J⟩
 | _::r=>by
  obtain⟨h1,h2⟩:=zQ1 z r;unfold zYp zZ1 ksK pC at *
  grind
theorem zKn (z:Str)(b:Bx):∀kb:Kb,bT (ksK kb) (kb.map λp=>bxD p.2) (.inr z) (bxD b)=(zVf kb z b).map λp=>bxD p.2
 | []=>rfl
 | (y,c)::r=>by
  have ih:=zKn z b r;unfold bT ksK zVf at *;simp only[Qx,Tt];rw[ih]
  by_cases e:y=z
  .rw[Qg<|zLb.mpr e,Qg e]
  .rw[Qc λq=>e<|zLb.mp q,Qc e]
def zEN (z:Str)(b:Bx)(kb:Kb):ksK (zVf kb z b)=ksK kb:=by unfold ksK zVf;rw[Wk];exact Ra λp _=>by show(Sum.inr (if p.1=z then _ else p).1)=_;split<;>rfl
def zGx (z:Str)(b:Bx)(kb:Kb):zSN (ksK kb) (kb.map λp=>bxD p.2) (.inr z) (bxD b)=kbD (zVx kb z b):=by
 unfold zSN zVx;rw[zZN,Uk];split
 .unfold kbD;rw[zKn,zEN]
 .unfold kbD ksK;simp
theorem aP:∀l:kl,qL (yG l)=true
 | []=>rfl
 | p::r=>by show(lK _&&qL (yG r))=true;rw[aP r];rfl
section
variable (hn:4<=n) (h12:n<=50)
include hn h12
def zKU (H:rOk n r)(p:Row)(hk:∀a∈rE r,kE a≠kE (en z p))(hl:(rE r).length < 32000):∃r',rOk n r'/\(rE r').Perm (en z p::rE r)/\∀(q:Option<|qu×qu×qu) (bd:B),kY [.yd q (!22),.fz<|.str z,bd,.fz<|.int p.1,.fz<|.int p.2]=some (.nx [.yd q<|yv cv L n r' kb,.fz<|.str z,bd,.fz<|.int p.1,.fz<|.int p.2]):=by obtain⟨h',xs',H',pm,e⟩:=zMI hn h12 H _ hk hl;refine⟨⟨h',xs'⟩,H',pm,λq bd=>?_⟩;show(oA stN [.int _,rtD r] [dE<|en z p]).map _=_;rw[e];rfl
theorem zSn:∀(rows:kl) (r:Rt),rOk n r->(rows.Pairwise λa b=>a.1≠b.1)->(∀p∈rows,∀a∈rE r,kE a≠kE (en z p))->(rE r).length+rows.length < 32000 -> ∃r',rOk n r'/\(rE r').Perm (rows.map (en z)++rE r)/\∀(q:Option<|qu×qu×qu) (bd x3 x4:B),∃y3 y4,sQ (gT<|zM (gN 3)<|zM (gN 4) xZ) kY (yG rows) [.yd q (!22),.fz<|.str z,bd,x3,x4]=some (.nx [.yd q<|yv cv L n r' kb,.fz<|.str z,bd,y3,y4])
 | [],r,H,_,_,_=>⟨r,H,.refl _,λq bd x3 x4=>⟨x3,x4,J⟩⟩
 | p::t,r,H,hd,hk,hl=>by
  rw[Qk] at hl;obtain⟨d1,d2⟩:=Rq.mp hd;obtain⟨r1,H1,p1,e1⟩:=zKU hn h12 H p (hk p Ql) jc;have l1:=p1.length_eq;rw[Qk] at l1;obtain⟨r2,H2,p2,e2⟩:=zSn t r1 H1 d2 (λs hs a ha=>by
   rcases v4 (p1.subset ha) with rfl | ha
   .exact λw=>d1 s hs (by have:=Wa Prod.fst w;exact this)
   .exact hk s (Qf _ hs) a ha) jc
  refine⟨r2,H2,p2.trans<|(Ix _ p1).trans List.perm_middle,λq bd x3 x4=>?_⟩
  .obtain⟨y3,y4,e3⟩:=e2 q bd (.fz _)<|.fz _;refine⟨y3,y4,?_⟩;show sQ _ _ (mP p::yG t) _=_;rw[uE (ρ1:=[.yd q _,.fz _,bd,.fz _,.fz _]) rfl<|e1 q bd,e3]
def zLv (H:rOk n r){b:Bx}{rows:kl}(hs:xJ [cv,.int (L:Nat),bxD b]=some (yG rows))(hz:kb.lookup z=none)(hkb:kb.length<=1000)(hd:rows.Pairwise λa b=>a.1≠b.1)(hk:∀p∈rows,∀a∈rE r,kE a≠kE (en z p))(hl:(rE r).length+rows.length < 32000):∃r',rOk n r'/\(rE r').Perm (rows.map (en z)++rE r)/\gW lE 3 (!22) [.str z,bxD b]=some (.non,yv cv L n r'<|kb++[(z,b)]):=by
 obtain⟨r',H',pm,e⟩:=zSn (cv:=cv) (L:=L) (kb:=kb) hn h12 rows r H hd hk hl;refine⟨r',H',pm,cW λS hS=>?_⟩
 match S,hS with
 | [s1,s2,s3],_ =>
  obtain⟨y3,y4,e3⟩:=e (some (s1,s2,s3)) (.fz<|bxD b) .no .no;have e4:hW [.yd (some (s1,s2,s3)) (!22),.fz<|.str z,.fz<|bxD b,.no,.no]=some (.nx [.yd (some (s1,s2,s3))<|yv cv L n r'<|kb++[(z,b)],.fz<|.str z,.fz<|bxD b,y3,y4]):=by
   refine(xG (O':=[.yd (some (s1,s2,s3))<|yv cv L n r' kb,.fz<|.str z,.fz<|bxD b,y3,y4]) ?_).trans ?_
   .unfold uG;have ei:iL (kW 0 3<|eL<|vK A1 Ah 2 vT eV0<|zY eV2 zS) [.yd (some (s1,s2,s3)) (!22),.fz<|.str z,.fz<|bxD b,.no,.no]=some (yG rows):=by
     refine gA ?_;show((eL (vK A1 Ah 2 _ eV0<|zY eV2 zS) [.fz (!22),.fz<|.str z,.fz<|bxD b,.no,.no]).bind _)=_;have em:vK A1 Ah 2 _ eV0 (zY eV2 zS) [.fz (!22),.fz<|.str z,.fz<|bxD b,.no,.no]=some (yG rows):=(vD (xs:=yv1 cv L n r kb) (ns:=ydN) (ds:=[bxD b]) J J J ja).trans<|zSS.trans hs;rw[vZ em,Qt,Qg<|show lK (.lst<|yG rows)=true from aP rows]
    simp_all
   .unfold aK zKN;show(if (ksK kb).length<=lim then some (Out.nx [.yd (some (s1,s2,s3))<|ydD cv (!17) (soD n r')<|zSN (ksK kb) (kb.map λp=>bxD p.2) (.inr z)<|bxD b,.fz<|.str z,.fz<|bxD b,y3,y4]) else none)=_;rw[Qg (by unfold ksK;rw[Qy];exact Wq hkb jb),zGx];unfold zVx;rw[hz];rfl
  show zQh [s1,s2,s3] (kOf _ [.yd (some (s1,s2,s3)) (!22),.fz<|.str z,.fz<|bxD b,.no,.no])=_;unfold kOf;rw[e4];exact Qg J
end
def bY (z:Str)(rows:kl)(a:Et):Bool := !(rows.any λp=>vS a<|en z p)
section
variable (hn:4<=n) (h12:n<=50)
include hn h12
def zN5 (H:rOk n r)(p:Row)(he:en z p∈rE r)(hl:(rE r).length < 32000):∃r',rOk n r'/\rE r'=(rE r).filter (λa => !vS a (en z p))/\∀(q:Option<|qu×qu×qu),mT [.yd q (!22),.fz<|.str z,.fz<|.int p.1,.fz<|.int p.2]=some (.nx [.yd q<|yv cv L n r' kb,.fz<|.str z,.fz<|.int p.1,.fz<|.int p.2]):=by obtain⟨h',xs',H',pm,e⟩:=zQl hn h12 H _ he hl;refine⟨⟨h',xs'⟩,H',pm,λq=>?_⟩;show(qB stN [.int _,rtD r] [dE<|en z p]).map _=_;rw[e];rfl
theorem zUq:∀(rows:kl) (r:Rt),rOk n r->(rows.Pairwise λa b=>a.1≠b.1)->(∀p∈rows,en z p∈rE r)->(rE r).length < 32000 -> ∃r',rOk n r'/\rE r'=(rE r).filter (bY z rows)/\∀(q:Option<|qu×qu×qu) (x2 x3:B),∃y2 y3,sQ (gT<|zM (gN 2)<|zM (gN 3) xZ) mT (yG rows) [.yd q (!22),.fz<|.str z,x2,x3]=some (.nx [.yd q<|yv cv L n r' kb,.fz<|.str z,y2,y3])
 | [],r,H,_,_,_=>⟨r,H,(Uy.mpr λ_ _=>rfl).symm,λq x2 x3=>⟨x2,x3,J⟩⟩
 | p::t,r,H,hd,hk,hl=>by
  obtain⟨d1,d2⟩:=Rq.mp hd;obtain⟨r1,H1,p1,e1⟩:=zN5 hn h12 H p (hk p Ql) hl;have l1:(rE r1).length<=(rE r).length:=by rw[p1];exact Ed _ _
  obtain⟨r2,H2,p2,e2⟩:=zUq t r1 H1 d2 (λs hs=>by
   rw[p1];refine Eb.mpr ⟨hk s<|Qf _ hs,?_⟩;cases h:vS _ _ with
   | false=>rfl
   | true=>exact absurd (Wa Et.f<|qO.mp h) λw=>d1 s hs w.symm) jc
  refine⟨r2,H2,?_,λq x2 x3=>?_⟩
  .rw[p2,p1,List.filter_filter];refine List.filter_congr λa _=>?_;unfold bY;rw[Og,Bool.not_or,Bool.and_comm]
  .obtain⟨y2,y3,e3⟩:=e2 q (.fz _)<|.fz _;refine⟨y2,y3,?_⟩;show sQ _ _ (mP p::yG t) _=_;rw[uE (ρ1:=[.yd q _,.fz _,.fz _,.fz _]) rfl<|e1 q,e3]
def zNX (H:rOk n r){b:Bx}{rows:kl}(hs:xJ [cv,.int (L:Nat),bxD b]=some (yG rows))(hz:kb.lookup z=some b)(hd:rows.Pairwise λa b=>a.1≠b.1)(hk:∀p∈rows,en z p∈rE r)(hl:(rE r).length < 32000):∃r',rOk n r'/\rE r'=(rE r).filter (bY z rows)/\gW tM 3 (!22) [.str z]=some (.non,yv cv L n r'<|pC kb z):=by
 obtain⟨r',H',pm,e⟩:=zUq (cv:=cv) (L:=L) (kb:=kb) hn h12 rows r H hd hk hl;refine⟨r',H',pm,cW λS hS=>?_⟩
 match S,hS with
 | [s1,s2,s3],_ =>
  obtain⟨y2,y3,e3⟩:=e (some (s1,s2,s3)) .no .no;have e4:kN [.yd (some (s1,s2,s3)) (!22),.fz<|.str z,.no,.no]=some (.nx [.yd (some (s1,s2,s3))<|yv cv L n r'<|pC kb z,.fz<|.str z,y2,y3]):=by
   refine(xG (O':=[.yd (some (s1,s2,s3))<|yv cv L n r' kb,.fz<|.str z,y2,y3]) ?_).trans ?_
   .unfold uG;have ew:qZ A1 Bj 2 rH eV0 (!11) [.fz (!22),.fz<|.str z,.no,.no]=some (bxD b):=by
     exact(zIm (kb:=kb)).trans (by rw[hz];rfl)
    have em:vK A1 Ah 2 _ eV0 (zY (qZ A1 Bj 2 _ eV0 (!11)) zS) [.fz (!22),.fz<|.str z,.no,.no]=some (yG rows):=(vD (xs:=yv1 cv L n r kb) (ns:=ydN) (ds:=[bxD b]) J (zI ew J) J ja).trans<|zSS.trans hs;have ei:iL (kW 0 3<|eL<|vK A1 Ah 2 vT eV0<|zY (qZ A1 Bj 2 rH eV0 (!11)) zS) [.yd (some (s1,s2,s3)) (!22),.fz<|.str z,.no,.no]=some (yG rows):=by refine gA ?_;show((eL (vK A1 Ah 2 _ eV0<|zY (qZ A1 Bj 2 _ eV0 (!11)) zS) [.fz (!22),.fz<|.str z,.no,.no]).bind _)=_;rw[vZ em,Qt,Qg<|show lK (.lst<|yG rows)=true from aP rows]
    simp_all
   .unfold cE zJl;show(if (aQ (ksK kb) (kb.map λp=>bxD p.2)<|.inr z).isSome then some (Out.nx [.yd (some (s1,s2,s3))<|ydD cv (!17) (soD n r')<|.dct (zYp (ksK kb)<|.inr z)<|zZ1 (ksK kb) (kb.map λp=>bxD p.2)<|.inr z,.fz<|.str z,y2,y3]) else none)=_;rw[Qg (by rw[zZN,hz];rfl),(zQ1 z kb).1,(zQ1 z kb).2];rfl
  show zQh [s1,s2,s3] (kOf _ [.yd (some (s1,s2,s3)) (!22),.fz<|.str z,.no,.no])=_;unfold kOf;rw[e4];exact Qg J
end
def zEv:Bool->Bool->kf | true,_=>some AR | _,true=>none | _,_=>some Ao
def zD4:Bool->Bool->kf | false,_=>some As | _,true=>none | _,_=>some Ao
def zJk {f:Sf}{s1 s2 s3:qu}(e:f O=some (.nx<|.yd (some (s1,s2,s3)) d::t)):zQh [s1,s2,s3] (kOf f O)=some (.non,d):=by unfold kOf;rw[e];exact Qg J
def jG {m:Str}{k:Nat}{f:kn->D->kd->qc}{u:D}(hg:g (.yd q (!22)::t)=some ds)(hk:ds.length=k)(hm:m∉ydN)(e:gW f 3 (!22) ds=some (u,d')):oR 0 A1 m k f g (.yd q (!22)::t)=some (.nx<|.yd q d'::t):=by unfold oR;rw[hg];show(if (A1:Str)=A1/\_=k/\m∉ydN then(gW f 3 _ ds).map _ else none)=_;rw[Qg ⟨rfl,hk,hm⟩,e];rfl
def zEM (hz:z.length<=1000):lG [yv cv L n r kb,.str z]=if (kb.lookup z).isSome then none else some As:=by show(if (A1)=A1/\(Ah:Str)∉ydN then pI A1 Bj 2 nY eV0 (!11) [.fz (!22),.fz<|.str z,.no,.no] else none)=_;exact(pN J J J (!6)).trans (zIb hz)
section
variable{b:Bx} (hL:L<=100) (hb:Sm b)
include hL hb
def zD3 (hz:z.length<=1000):iN [yv (!14) L n r kb,.str z,bxD b]=zEv (kb.lookup z).isSome (flB dm L b):=by
 show lV [.fz<|yv _ L n r kb,.fz<|.str z,.fz _]=_;unfold lV zER;rw[zPb rfl (pE J).2.2.2,Qt];cases (kb.lookup z).isSome
 .exact(Qc jb).trans ((pN (xs:=yv1 _ L n r kb) J J J (!6)).trans<|(zYw hL hb).trans (by cases flB dm L b<;>rfl))
 .refine(Qg J).trans ?_;unfold aS;have:zVz (qC "a thing ") (zVz (qS eV1)<|zVz (qC " is there") zR3) [.fz (!16),.fz<|.str z,.fz<|bxD b]=true:=by
   show(decide _&&(decide _&&(decide _&&true)))=true;rw[Qb hz];decide +kernel
  rw[this];rfl
def zFD (hz:z.length<=1000):lT [yv (!14) L n r kb,.str z,bxD b]=zD4 (kb.lookup z).isSome (flB dm L b):=by
 show oH [.fz _,.fz _,.fz _]=_;unfold oH zOu;rw[((pN (m:=AA) (k:=2) (fa:=eV0) (g:=!11) (O:=[.fz (!16),.fz _,.fz<|bxD b]) J J J (!6)).trans<|zXe hz),((zZ0 (m:=AA) (k:=2) (fa:=eV0) (g:=!11) (O:=[.fz (!16),.fz<|.str z,.fz<|bxD b]) J J J (!6)).trans<|bG)];cases (kb.lookup z).isSome
 .rfl
 .show pI A1 Au 2 vG eV0 (zY eV2 zS) [.fz<|yv _ L n r kb,.fz<|.str z,.fz _]=_;exact(pN J J J (!6)).trans ((zYw hL hb).trans (by cases flB dm L b<;>rfl))
end
section
variable (hn:4<=n) (h12:n<=50) (Ho:rOk n r){b:Bx}{rows:kl} (hL:L<=100) (hb:Sm b) (hf:flB dm L b=true)
 (hs:xJ [zL nm dm j ps,.int (L:Nat),bxD b]=some (yG rows)) (hd:rows.Pairwise λa b=>a.1≠b.1)
include hn h12 Ho hL hb hf hs hd
def zOg {g:Sf}:zH (mN<|kW 0 3<|qZ A1 Au 2 wY eV0<|zY eV2 zS) g [.yd q (!16),.fz<|.str z,.fz<|bxD b]=g [.yd q (!16),.fz<|.str z,.fz<|bxD b]:=by have e2:=(zZ0 (m:=Au) (k:=2) (fa:=eV0) (g:=zY eV2 zS) (O:=[.fz (!16),.fz<|.str z,.fz _]) J J J (!6)).trans<|zYe hL hb;rw[hf] at e2;refine xG ?_;show(((qZ A1 Au 2 _ _ _ [.fz _,.fz _,.fz _]).bind _).map _)=_;rw[e2];rfl
def zFd (hz:kb.lookup z=none)(hkb:kb.length<=1000)(hk:∀p∈rows,∀a∈rE r,kE a≠kE (en z p))(hl:(rE r).length+rows.length < 32000):∃r',rOk n r'/\(rE r').Perm (rows.map (en z)++rE r)/\gW sC 3 (!16) [.str z,bxD b]=some (.non,yv (!14) L n r'<|kb++[(z,b)]):=by
 obtain⟨r',H',pm,e⟩:=zLv hn h12 Ho hs hz hkb hd hk hl;refine⟨r',H',pm,cW λS hS=>?_⟩
 match S,hS with
 | [s1,s2,s3],_ =>
  refine zJk (t:=[.fz<|.str z,.fz<|bxD b])<|(xG (O':=[.yd (some (s1,s2,s3)) (!16),.fz<|.str z,.fz<|bxD b]) ?_).trans ?_
  .unfold sIf zQ7;show(((zVX true eV1 (yT A1 AZ eV0) [.fz (!16),.fz<|.str z,.fz<|bxD b])).bind _)=_;rw[zPb rfl (pE J).2.2.2,hz];rfl
  .unfold iO;rw[zOg hn h12 Ho hL hb hf hs hd];exact jG J J (!6) e
def zHg {b0:Bx}{rows0:kl}(hs0:xJ [zL nm dm j ps,.int (L:Nat),bxD b0]=some (yG rows0))(hd0:rows0.Pairwise λa b=>a.1≠b.1)(hz:kb.lookup z=some b0)(hkb:kb.length<=1000)(hk0:∀p∈rows0,en z p∈rE r)(hk:∀a∈(rE r).filter (bY z rows0),a.z≠z)(hl0:(rE r).length < 32000)(hl:((rE r).filter<|bY z rows0).length+rows.length < 32000):∃r',rOk n r'/\(rE r').Perm (rows.map (en z)++(rE r).filter (bY z rows0))/\gW sB 3 (!16) [.str z,bxD b]=some (.non,yv (!14) L n r'<|pC kb z++[(z,b)]):=by
 obtain⟨r1,H1,p1,e1⟩:=zNX hn h12 Ho hs0 hz hd0 hk0 hl0;have hz1:(pC kb z).lookup z=none:=by refine List.lookup_eq_none_iff.mpr λp hp=>?_;have:=Rx (Eb.mp hp).2;simpa using λw=>this w.symm
 have hkb1:(pC kb z).length<=1000:=Wq (Ed _ _) hkb;obtain⟨r2,H2,p2,e2⟩:=zLv hn h12 H1 hs hz1 hkb1 hd (λp hp a ha w=>hk a (by rw[<-p1];exact ha)<|Wa Prod.snd w) (!9);rw[p1] at p2;refine⟨r2,H2,p2,cW λS hS=>?_⟩
 match S,hS with
 | [s1,s2,s3],_ =>
  refine zJk (t:=[.fz<|.str z,.fz<|bxD b])<|(xG (O':=[.yd (some (s1,s2,s3)) (!16),.fz<|.str z,.fz<|bxD b]) ?_).trans ?_
  .have e3:=(zZ0 (m:=AA) (k:=2) (fa:=eV0) (g:=!11) (O:=[.fz (!16),.fz<|.str z,.fz<|bxD b]) (xs:=yv1 _ L n r kb) J J J (!6)).trans<|bG;rw[hz] at e3;show(((qZ A1 AA 2 _ _ (zY _ zS) [.fz<|yv _ L n r kb,.fz _,.fz _]).bind _).map _)=_;rw[e3];rfl
  .unfold kP;rw[zOg hn h12 Ho hL hb hf hs hd];exact(xG<|jG rfl rfl (!6) e1).trans (jG J J (!6) e2)
end
inductive Wd | put | move | take
def wS:Wd->Str | .put=>Ax | .move=>AH | .take=>AC
def deD (w:Wd)(z:Str)(b:Bx):D:=.tup [.str<|wS w,.str z,bxD b]
def xW:Wd->Bool->Bool->kf | .put=>zEv | .move=>zD4 | .take=>λc _=>if c then none else some (As:Str)
def wrd:kf->Str | none=>"ok" | some c=>if c=AR then "twice" else if c=As then "thing" else "floor"
def zG6 {w:Wd}{s t:Bool}(h:xW w s t=some c):sY [.exc c [] []]=some (.str<|wrd<|some c)/\qA.contains c=true:=by cases w<;>cases s<;>cases t<;>cases h<;>exact⟨jf,ja⟩
section
variable{b:Bx}{w:Wd}{Y Y':D}
def xB:ki->kf:=xIf (eB2 gEq (eIx eV1 jp)<|eC<|.str Ax) (zVK 0<|pI A1 Ax 3 iN eV0 (!36))<|xIf (eB2 gEq (eIx eV1 jp)<|eC<|.str AH) (zVK 0<|pI A1 AH 3 lT eV0 (!36))<|zVK 0<|pI A1 AC 2 lG eV0<|zY (eIx eV1 jq) zS
def sM:Sf:=sIf (eB2 gEq (eIx eV1 jp)<|eC<|.str Ax) (oR 0 A1 Ax 2 sC (!36))<|sIf (eB2 gEq (eIx eV1 jp)<|eC<|.str AH) (oR 0 A1 AH 2 sB (!36))<|oR 0 A1 AC 1 tM<|zY (eIx eV1 jq) zS
def zK7 (hL:L<=100)(hb:Sm b)(hz:z.length<=1000):xB [.yd q (!16),.fz<|deD w z b,.fz<|.str "ok",.no]=xW w (kb.lookup z).isSome (flB dm L b):=by
 cases w
 .exact(pN (m:=Ax) (fa:=eV0) (g:=!36) (O:=[.fz _,.fz<|deD .put z b,.fz<|.str "ok",.no]) J J J (!6)).trans (zD3 hL hb hz)
 .exact(pN (m:=AH) (fa:=eV0) (g:=!36) (O:=[.fz _,.fz<|deD .move z b,.fz<|.str "ok",.no]) J J J (!6)).trans (zFD hL hb hz)
 .refine(pN (m:=AC) (fa:=eV0) (g:=zY (eIx eV1 jq) zS) (O:=[.fz _,.fz<|deD .take z b,.fz<|.str "ok",.no]) J J J (!6)).trans ((zEM hz).trans ?_);cases (kb.lookup z).isSome<;>rfl
def zRx {s1 s2 s3:qu}{u:Str}(h:sOr (zML qA xB 3<|yI 2<|yZ 1 sY<|zY eV3 zS) (sNx sM) [.yd (some (s1,s2,s3)) Y,.fz<|deD w z b,.fz<|.str "ok",.no]=some (.nx [.yd (some (s1,s2,s3)) Y',.fz<|deD w z b,.fz<|.str u,.no])):xM [s1,s2,s3] Y [deD w z b]=some (.str u,Y'):=by show zQh [s1,s2,s3] (oB [.yd _ Y,.fz _,.fz _,.no])=_;unfold oB zLp kOf;unfold xB sM at h;rw[h];exact Qg J
def zJO (hL:L<=100)(hb:Sm b)(hz:z.length<=1000)(h:xW w (kb.lookup z).isSome (flB dm L b)=some c):gW xM 3 (!16) [deD w z b]=some (.str<|wrd<|some c,yv (!14) L n r kb):=by
 obtain⟨e1,e2⟩:=zG6 h;refine cW λS hS=>?_
 match S,hS with
 | [s1,s2,s3],_ =>
  refine zRx ?_;unfold sOr zML;rw[zK7 hL hb hz,h,Qt,Qg e2];have e3:yI 2 (yZ 1 sY<|zY eV3 zS) [.yd (some (s1,s2,s3)) (!16),.fz<|deD w z b,.fz<|.str "ok",.fz<|.exc c [] []]=some (.nx [.yd (some (s1,s2,s3)) (!16),.fz<|deD w z b,.fz<|.str<|wrd<|some c,.fz<|.exc c [] []]):=by unfold yI;rw[(zZ7 J).trans e1];rfl
  dsimp only[List.set];rw[e3];rfl
def mW:Wd->kn->D->kd->qc | .put=>sC | .move=>sB | .take=>tM
def aW (z:Str)(b:Bx):Wd->kd | .take=>[.str z] | _=>[.str z,bxD b]
def zTE (hL:L<=100)(hb:Sm b)(hz:z.length<=1000)(h:xW w (kb.lookup z).isSome (flB dm L b)=none){kb':Kb}(e:gW (mW w) 3 (!16) (aW z b w)=some (.non,yv (!14) L n r' kb')):gW xM 3 (!16) [deD w z b]=some (.str "ok",yv (!14) L n r' kb'):=by
 refine cW λS hS=>?_
 match S,hS with
 | [s1,s2,s3],_ =>
  refine zRx ?_;unfold sOr zML;rw[zK7 hL hb hz,h];have e3:∀ {f:Sf} {O O':ki},f O=some (.nx O')->((f O).bind λo=>match o with | .nx O'=>some (Out.nx O') | _=>none)=some _:=λh=>by rw[h];rfl
  refine e3 ?_;cases w
  .exact jG (m:=Ax) (g:=!36) (t:=[.fz<|deD .put z b,.fz _,.no]) J J (!6) e
  .exact jG (m:=AH) (g:=!36) (t:=[.fz<|deD _ z b,.fz _,.no]) J J (!6) e
  .exact jG (m:=AC) (g:=zY (eIx eV1 jq) zS) (t:=[.fz<|deD _ z b,.fz _,.no]) J J (!6) e
end
def Bk (m:Nat)(b:Bx):Prop:=(m=2\/m=3)/\b.1.length=m/\b.2.length=m/\∀p∈b.1.zip b.2,p.1<=p.2
theorem Bk.sm {b:Bx}(h:Bk m b):Sm b:=⟨by rcases h.1 with e | e<;>(have:=h.2.1;lia),by rcases h.1 with e | e<;>(have:=h.2.2.1;lia)⟩
def zDi {k:Int}(h:f O=some (.int k)):iR f O=iR (eC<|.int k) []:=by unfold iR;rw[h];rfl
def nxT (kt:Kb)(z:Str)(b:Bx):Wd->Kb | .take=>pC kt z | _=>zVx kt z b
def zO9 (n:Nat)(i:Str):eqD (n+1) (.str i) (.str i)=some true:=Wa some<|Pi i
def gI (p:kh)(b:Bx):Int:=match zY0 [yR p,bxD b] with | some (.int i)=>i | _=>0
def zLh {b:Bx}{is:kh}(h1:zKH eV0 eV2 eV3 [.fz<|yR p,.fz<|bxD b,.fz<|yR b.1,.fz<|yR b.2,.no]=some ds)(hl:ds.length<=100000)(h2:uI (gT<|zM (gN 0)<|zM (gN 1)<|zM (gN 2) xZ) tOK (zOq jp (uT eV1 eV0)<|uT eV0 eV2) ds [.no,.no,.no] []=some (is.map .int))(h3:zRq (iL eV4) [.fz<|yR p,.fz<|bxD b,.fz<|yR b.1,.fz<|yR b.2,.fz<|.lst<|is.map .int]=some (.int<|zUx is)):zY0 [yR p,bxD b]=some (.int<|gI p b):=by
 have e:zY0 [yR p,bxD b]=some (.int<|zUx is):=by
  show(zTf [.fz _,.fz _,.no,.no,.no]).bind wG=_;refine yM (O':=[.fz _,.fz _,.fz _,.fz _,.no]) rfl<|yM (O':=[.fz<|yR p,.fz<|bxD b,.fz<|yR b.1,.fz<|yR b.2,.ow<|is.map .int]) ?_ ?_
  .unfold pS yJ;rw[h1,Qt,uV hl,Qt,show upB 3 [] _=[.no,.no,.no] from rfl,h2];rfl
  .show(xS (zRq _) [.fz _,.fz _,.fz _,.fz _,.fz _]).bind wG=_;rw[uJ,h3]
 unfold gI;rw[e]
def zG3 {b:Bx}(hp:p.length=m)(hb:Bk m b):zY0 [yR p,bxD b]=some (.int<|gI p b):=by
 obtain⟨hm,h1,h2,h3⟩:=hb;obtain⟨lo,hi⟩:=b;dsimp only at h1 h2;rcases hm with rfl | rfl
 .obtain⟨a0,a1,rfl⟩:=zTg hp;obtain⟨l0,l1,rfl⟩:=zTg h1;obtain⟨k0,k1,rfl⟩:=zTg h2;exact zLh (is:=[_,_]) J (Qr J) J J
 .obtain⟨a0,a1,a2,rfl⟩:=zTo hp;obtain⟨l0,l1,l2,rfl⟩:=zTo h1;obtain⟨k0,k1,k2,rfl⟩:=zTo h2;exact zLh (is:=[_,_,_]) J (Qr J) J J
def zFt (hL:L<=100)(hp:p.length<=100){k:Int}(hf:zQH n L p=true)(g:∀q∈kb,Bk n q.2)(hl:kb.length < 64):∃qs:qe,qs.length=kb.length/\mZ [yv (!28) L m r kb,yR p,.int k]=some (jW (qs.map dIS) none<|some k):=by
 have hpn:=Rx (Ej.mp hf).1;have ea:dR [.int (n:Nat),.int (L:Nat),yR p]=some .non:=by show(kT [.fz _,.fz _,.fz _]).bind wG=_;unfold kT sIf sD tB1;rw[vL rfl rfl rfl,zTV hL p hp,hf];rfl
 refine⟨qX<|kb.map λq=>(gI p q.2,q.1),by rw[(zYh _).length_eq,Qy],?_⟩;show(qV [.fz<|yv _ L m r kb,.fz<|yR p,.fz<|.int k]).bind rR=_;refine zYC (O':=[.fz<|yv (!28) L m r kb,.fz<|yR p,.fz<|.int k]) (by unfold mN;rw[(vL (zPO (b:=([],[])) hL ⟨Wm _,Wm _⟩ J) (pE J).2.1 J).trans ea];rfl) ?_;unfold jX;rw[nR];have e1:yJ (iIt<|yT A1 AZ eV0) 2 [1] (gT<|zM (gN 0)<|zM (gN 1) xZ) tOK (w9<|zY (yZ 2 zY0<|zY eV2 (!11))<|zY eV0 zS) [.fz<|yv (!28) L m r kb,.fz<|yR p,.fz<|.int k]=some ((kb.map λq=>(gI p q.2,q.1)).map dIS):=by
  rw[dP (rest:=[.fz _]) ?_ jc rfl λq hq=>lF (zI ((vY J J).trans<|zG3 hpn<|g q hq)<|zI rfl rfl)<|Qr rfl]
  .rw[Wk];rfl
  .unfold iIt;show some _=_;unfold zUe ksK;rw[List.zip_map',Wk];rfl
 have e2:zTP (yJ (iIt<|yT A1 AZ eV0) 2 [1] (gT<|zM (gN 0)<|zM (gN 1) xZ) tOK<|w9<|zY (yZ 2 zY0<|zY eV2 (!11))<|zY eV0 zS) [.fz<|yv (!28) L m r kb,.fz<|yR p,.fz<|.int k]=some ((qX<|kb.map λq=>(gI p q.2,q.1)).map dIS):=by unfold zTP;rw[e1,Qt,zUH,Qt,Qg (by rw[Qy];exact hl)]
 unfold vN;rw[vZ e2];rfl
def keys (kb:Kb):kg:=kb.map (·.1)
def zL6 (hd:dm=2\/dm=3)(c:Int):∃L:Nat,(dm=2/\L<=6\/dm=3/\L<=4)/\dN [.int c,.int (dm:Nat)]=some (!17):=by
 obtain⟨v,hv,ev⟩:=fG c 31 1000033 jb jb jb jb;have a2:∃L:Nat,L<=6/\atD (.lst [.int 0,.int 1,.int 2,.int 2,.int 2]) (.int<|v % 5)=some (!17):=by
  have:v % 5=0\/v % 5=1\/v % 5=2\/v % 5=3\/v % 5=4:=jc;rcases this with e | e | e | e | e<;>rw[e]
  .exact⟨0,jb,rfl⟩
  .exact⟨1,jb,rfl⟩
  .exact⟨2,jb,rfl⟩
  .exact⟨2,jb,rfl⟩
  .exact⟨2,jb,rfl⟩
 have a3:∃L:Nat,L<=4/\atD (.lst [.int 0,.int 1,.int 1,.int 1]) (.int<|v % 4)=some (!17):=by
  have:v % 4=0\/v % 4=1\/v % 4=2\/v % 4=3:=jc;rcases this with e | e | e | e<;>rw[e]
  .exact⟨0,jb,rfl⟩
  .exact⟨1,jb,rfl⟩
  .exact⟨1,jb,rfl⟩
  .exact⟨1,jb,rfl⟩
 rcases hd with rfl | rfl
 .obtain⟨L,h1,h2⟩:=a2;refine⟨L,.inl ⟨J,h1⟩,?_⟩;refine yC (d:=.int v) ((vL J J J).trans ev) ?_;have e:eIx (eL<|xA<|zY jp<|zY jq<|zY jr<|zY jr<|zY jr zS) (wO eV2 jv) [.fz<|.int c,.fz<|.int (2:Nat),.fz<|.int v]=some (!17):=(rX J (!29)).trans h2;show(zH (xS<|eIx (eL<|xA<|zY jp<|zY jq<|zY jr<|zY jr<|zY jr zS)<|wO eV2 jv) kF [.fz<|.int c,.fz<|.int (2:Nat),.fz<|.int v]).bind wG=_;rw[zZn (d:=!17) (by unfold xS;rw[e];rfl)];rfl
 .obtain⟨L,h1,h2⟩:=a3;refine⟨L,.inr ⟨J,h1⟩,?_⟩;refine yC (d:=.int v) ((vL J J J).trans ev) ?_;refine yM (O':=[.fz<|.int c,.fz<|.int (3:Nat),.fz<|.int v]) J ?_;unfold kF;rw[uJ];exact(rX J (!29)).trans h2
def zJ2:Str:=Str.ofString Cs
def zJ9:zJ2.length=26:=jg
theorem zJh {i:Int}(h2:eV1 O=some (.str zJ2))(h:fb O=some (.int i)):∃s:Nat,eIx eV1 (wO fb<|eC<|.int 26) O=some (.str ⟨#[s]⟩) :=
 ⟨_,(rX h2<|yY h rfl rfl).trans<|zH0 jc (by rw[zJ9];lia) (!6)⟩
def zTC {s:Nat}{n:Int}(h1:fa O=some (.str ⟨#[s]⟩))(h2:fb O=some (.int n))(h0:0<=n)(h3:n<=90):∃y:Str,zZp fa fb O=some (.str y)/\y.length<=90:=by
 refine⟨Txt.mul ⟨#[s]⟩ n,?_,?_⟩
 .unfold zZp;rw[h1,h2];show(if decide _&&decide _&&decide _ then some _ else none)=_;rw[Qb h0,Qb jc];rfl
 .have:=PyProof.Rows.len_mul_leN (x:=⟨#[s]⟩) (n:=n) (L:=1) (N:=90) (Qh 1) jc;lia
structure Nms (ns:kg):Prop where
 n7:ns.length=7
 le:∀z∈ns,z.length<=1000
abbrev nmR (c v:Int)(r:ki):ki:=.fz (.int c) :: .fz (.str zJ2) :: .fz (.int v) :: .fz (.int<|1+v % 12) :: .fz (.int<|v / 12 % (1+v % 12))::r
def zLf (c:Int):∃ns:kg,Nms ns/\dZ [.int c]=some (.lst<|ns.map .str):=by
 obtain⟨v,hv,ev⟩:=fG c 30 1000003 jb jb jb jb;obtain⟨s,es⟩:=zJh (fb:=uL eV2<|eC<|.int 150) (O:=nmR c v [.no,.no,.no,.no]) J (!29);have t (k:Int) {x3 x4 x5 x6 x7 x8:B}:eB2 gEq (wO (uL eV2<|eC<|.int 4000) jt) (eC<|.int k) [.fz<|.int c,.fz<|.str zJ2,.fz<|.int v,x3,x4,x5,x6,x7,x8]=some (decide (v / 4000 % 3=k)):=bO<|yY (!29) rfl rfl;have front {R:qi} (h:(qE<|nmR c v [.fz<|.str ⟨#[s]⟩,.no,.no,.no]).bind wG=R):(jZ [.fz<|.int c,.no,.no,.no,.no,.no,.no,.no,.no]).bind wG=R:=by refine yC (d:=.str zJ2) rfl ?_;refine yC (d:=.int v) ((vL J J J).trans ev) ?_;refine yC (d:=.int<|1+v % 12) (aI J (!29)) ?_;refine yC (d:=.int<|v / 12 % (1+v % 12)) (yY (!29) rfl<|Qb jc) ?_;exact yC (d:=.str ⟨#[s]⟩) es h
 by_cases h0:v / 4000 % 3=0
 .obtain⟨as,e,el,hq⟩:=zOM (elt:=zZp eV1<|rA (rA eV0 jq)<|wO eV2 jw) (f:=D.str) (Q:=λz:Str=>z.length<=1000) (rest:=[.fz<|.str ⟨#[s]⟩,.fz<|.int v]) (pL 0 7) .no [] λd hd=>by
   obtain⟨i,hi,rfl⟩:=zQO hd;obtain⟨y,ey,ly⟩:=zTC (fa:=eV1) (fb:=rA (rA eV0 jq)<|wO eV2 jw) (O:=[.fz<|.int<|0+(i:Nat),.fz<|.str ⟨#[s]⟩,.fz<|.int v]) (s:=s) (n:=0+(i:Nat)+1+v % 6) J (aI (aI J J) (!29)) jc jc;exact⟨y,ey,jc⟩
  refine⟨as,⟨el,hq⟩,front ?_⟩;unfold qE;have e2:sIf (eB2 gEq (wO (uL eV2<|eC<|.int 4000) jt) jp) (xS<|eL<|yJ (iR jx) 1 [5,2] (gN 0) tOK<|zZp eV1<|rA (rA eV0 jq)<|wO eV2 jw) wC (nmR c v [.fz<|.str ⟨#[s]⟩,.no,.no,.no])=some (.rt<|.lst<|as.map .str):=by
   unfold sIf;rw[t 0,h0];unfold xS;rw[vZ (ds:=as.map D.str)]
   .rfl
   .assumption
  rw[zZn e2];rfl
 .obtain⟨O',e,ns,x7,x8,rfl,hl,hq⟩:=iW (g:=gN 7) (body:=mS) (P:=λi O=>∃(ns:kg) (x7 x8:B),O=nmR c v [.fz<|.str ⟨#[s]⟩,.ow<|ns.map .str,x7,x8]/\ns.length=i/\∀z∈ns,z.length<=1000) (pL 0 7) 0 (λi d hd O hO=>by
   obtain⟨hi,rfl⟩:=eU hd;obtain⟨ns,x7,x8,rfl,hl,hq⟩:=hO;obtain⟨t1,et⟩:=zJh (fb:=rA (uL eV2<|eC<|.int 12000)<|fW jt eV7) (O:=nmR c v [.fz<|.str ⟨#[s]⟩,.ow<|ns.map .str,.fz<|.int<|0+(i:Nat),x8]) rfl<|aI (!29)<|yY rfl rfl<|dW jc jc;have one:∃y:Str,y.length<=1000/\lY (nmR c v [.fz<|.str ⟨#[s]⟩,.ow<|ns.map .str,.fz<|.int<|0+(i:Nat),.fz<|.str ⟨#[t1]⟩])=some (.nx<|nmR c v [.fz<|.str ⟨#[s]⟩,.ow<|ns.map .str++[.str y],.fz<|.int<|0+(i:Nat),.fz<|.str ⟨#[t1]⟩]):=by
    have hlim:(ns.map D.str).length < lim:=by rw[Qy,hl];exact Nat.lt_trans (by lia:0+i < 7) jb
    obtain⟨y,ey,ly⟩:=zTC (fa:=eV5) (fb:=eV4) (O:=nmR c v [.fz<|.str ⟨#[s]⟩,.ow<|ns.map .str,.fz<|.int<|0+(i:Nat),.fz<|.str ⟨#[t1]⟩]) J J (Yf _ jc) (by have:=Tu (v / 12) (show 0 < 1+v % 12 by lia);lia);obtain⟨u,eu,lu⟩:=zTC (fa:=eV5) (fb:=uT (uT eV3 jq) eV4) (O:=nmR c v [.fz<|.str ⟨#[s]⟩,.ow<|ns.map .str,.fz<|.int<|0+(i:Nat),.fz<|.str ⟨#[t1]⟩]) J (yY (!29) J J) (by have:=Tu (v / 12) (show 0 < 1+v % 12 by lia);lia) (by have:=Yf (v / 12) (show 1+v % 12≠0 by lia);lia);have l1:(⟨#[t1]⟩:Str).length=1:=rfl;have e1:=zQK (x:=y) (y:=⟨#[t1]⟩) (fa:=zZp eV5 eV4) (fb:=eV 8) ey J jc;refine⟨y++⟨#[t1]⟩++u,by rw[Ux,Ux];lia,?_⟩;unfold lY zZo;rw[zQK e1 eu (by rw[Ux];lia)];exact Qg hlim
   obtain⟨y,ly,ey⟩:=one;refine⟨_,_,J,(zZ4 et).trans ey,ns++[y],_,_,by rw[Wv];rfl,by rw[Qp,hl];rfl,λz hz=>?_⟩;rcases v6 hz with h | h
   .simp_all
   .rw[Qv.mp h];exact ly) (nmR c v [.fz<|.str ⟨#[s]⟩,.ow [],.no,.no]) ⟨[],_,_,rfl,rfl,λ_ h=>by cases h⟩
  refine⟨ns,⟨hl,hq⟩,front ?_⟩;refine yM (O':=nmR c v [.fz<|.str ⟨#[s]⟩,.no,.no,.no]) (by unfold sIf;rw[t 0,Wu h0];rfl) ?_;refine yM (O':=nmR c v [.fz<|.str ⟨#[s]⟩,.ow [],.no,.no]) J ?_;exact yM e J
def zJy (h:f O=some (!17))(hL:L<=62):zTW jq f O=some (.int<|2^L):=by
 have e:=yY (C:=zKm) (g:=λi j=>i*2^j.toNat) (i:=1) (fa:=eC _) rfl h (by unfold zKm;rw[Qb jc,Qb jc];rfl)
 simp_all
def zZX:zQH n L xs=true↔xs.length=n/\∀x∈xs,0<=x/\x < 2^L:=by unfold zQH;simp
def zDZ (h1:xs.length=n/\∀x∈xs,0<=x/\x < 2^L)(h2:ys.length=n/\∀x∈ys,0<=x/\x < 2^L):flB n L (xs,ys)=true:=Ej.mpr ⟨zZX.mpr h1,zZX.mpr h2⟩
def zZZ {P:α->Prop}{l:!10}{a:α}(h:∀x∈l,P x)(ha:P a):∀x∈l++[a],P x:=by grind
def zKZ (c n L o S:Int)(ho:0<=o/\o<=100)(hS:0 < S)(k:Nat)(hk:k<=3)(xs ys:kh)(hx:xs.length=k)(hy:ys.length<=10)(x8 x9:B):∃x y y8 y9,((0<=x/\x < S)/\(0<=y/\y < S)/\x<=y)/\oG [.fz<|.int c,.fz<|.int n,.fz<|.int L,.fz<|.int o,.ow<|xs.map D.int,.ow<|ys.map D.int,.fz<|.int S,.fz<|.int<|0+(k:Nat),x8,x9] = some (.nx [.fz<|.int c,.fz<|.int n,.fz<|.int L,.fz<|.int o,.ow<|(xs++[x]).map D.int,.ow<|(ys++[y]).map D.int,.fz<|.int S,.fz<|.int<|0+(k:Nat),y8,y9]):=by
 obtain⟨v,hv,ev⟩:=fG c (o+(0+(k))) 1000037 jc jc jb jb;have h1:0<=v % (1+S / 2):=Yf _ jc;have h2:v % _ < 1+S / 2:=Tu _ jc;generalize hz:1+v % (1+S / 2)=z;have h3:0<=v / 7 % (S - z+1):=Yf _ jc;have h4:v / 7 % _ < S - z+1:=Tu _ jc;refine⟨v / 7 % (S - z+1),v / 7 % (S - z+1)+z - 1,.fz<|.int v,.fz<|.int z,jc,?_⟩;unfold oG;rw[zZ4<|(vL J (!29) J).trans ev];unfold iH;rw[zZ4 (d:=.int z) (by rw[<-hz];exact yY J (yY J (yY J (!29) J)<|Qb jc) J)];unfold hZ;generalize hg:v / 7 % _=x;rw[xG (O':=[.fz _,.fz _,.fz _,.fz _,.ow<|(xs++[x]).map _,.ow _,.fz _,.fz<|.int _,.fz _,.fz _])<|(zQz (d:=.int x) (by rw[<-hg];exact yY (!29) (yY (!29) J J)<|Qb jc) rfl (by rw[Qy];lia)).trans (by rw[Wv];rfl)];have hlo:zHo 4 eV7 [.fz<|.int c,.fz<|.int n,.fz<|.int L,.fz<|.int o,.ow<|(xs++[x]).map D.int,.ow<|ys.map D.int,.fz<|.int S,.fz<|.int<|0+(k),.fz<|.int v,.fz<|.int z]=some (.int x):=by show atI _ _=_;rw[Int.zero_add];unfold atI ixN;rw[Qg jc,Qg (by rw[Qy,Qp,hx];show _ < ((k+1):Int);lia),<-hx];simp
 exact(zQz (yY (yY hlo J J) J J) J (by rw[Qy];lia)).trans (by rw[Wv (l₁:=ys)];rfl)
section
variable (hd:dm=2\/dm=3) (hL:L<=62)
include hd hL
def zPI (c o:Int)(ho:0<=o/\o<=100):∃b,Bk dm b/\flB dm L b=true/\jF [.int c,.int (dm:Nat),.int (L:Nat),.int o]=some (bxD b):=by
 obtain⟨O',e,xs,ys,y7,y8,y9,l1,l2,hp,hx,hy,rfl⟩:=iW (g:=gN 7) (P:=λi O=>∃(xs ys:kh) (y7 y8 y9:B),xs.length=i/\ys.length=i/\(∀p∈xs.zip ys,p.1<=p.2)/\(∀x∈xs,0<=x/\x < 2^L)/\(∀x∈ys,0<=x/\x < 2^L)/\O=[.fz _,.fz<|.int<|dm,.fz<|.int<|L,.fz _,.ow<|xs.map _,.ow<|ys.map _,.fz<|.int _,y7,y8,y9]) (pL 0 dm) 0 (λi d hd' O hO=>by obtain⟨hi,rfl⟩:=eU hd';obtain⟨xs,ys,y7,y8,y9,l1,l2,hp,hx,hy,rfl⟩:=hO;obtain⟨x,y,z8,z9,q,e⟩:=zKZ c _ _ o _ ho (jH L) i jc xs ys jc jc y8 y9;refine⟨_,_,J,e,xs++[x],ys++[y],_,_,_,by rw[Qp,l1];rfl,by rw[Qp,l2];rfl,?_,zZZ hx q.1,zZZ hy q.2.1,J⟩;rw[List.zip_append jc];exact zZZ hp q.2.2) [.fz _,.fz<|.int _,.fz<|.int _,.fz _,.ow<|([]).map _,.ow<|([]).map _,.fz<|.int _,.no,.no,.no] ⟨[],[],_,_,_,rfl,rfl,(λp hp=>by cases hp),(λp hp=>by cases hp),(λp hp=>by cases hp),rfl⟩
 rw[eN,Yt] at l1 l2;refine⟨_,⟨hd,l1,l2,hp⟩,zDZ ⟨l1,hx⟩ ⟨l2,hy⟩,(yC (zJy J hL)<|yM (O':=[.fz<|.int c,.fz<|.int<|dm,.fz<|.int<|L,.fz<|.int o,.ow<|xs.map D.int,.ow<|ys.map D.int,.fz<|.int<|2^L,y7,y8,y9]) ?_ ?_)⟩
 .unfold uG;rw[zDi (k:=_) rfl,show iR (eC _) []=some (pL 0 dm) from by rcases hd with rfl | rfl<;>rfl];exact e
 .rfl
def zFg (c:Int):∃m b,Bk m b/\nP [.int c,.int (dm:Nat),.int (L:Nat)]=some (bxD b):=by
 obtain⟨v,hv,ev⟩:=fG c 32 1000039 jb jb jb jb;obtain⟨⟨lo,hi⟩,hb,_,eb⟩:=zPI hd hL c 60 jb;obtain⟨u,hu⟩:∃u,(eJ [.fz<|.int c,.fz<|.int (dm:Nat),.fz (!17),.fz<|.int v,.fz<|yR lo,.fz<|yR hi,.fz<|.int<|v % (dm:Nat),.no]).bind wG=(pP [.fz<|.int c,.fz<|.int (dm:Nat),.fz (!17),.fz<|.int v,.fz<|yR lo,.fz<|yR hi,.fz<|.int<|v % (dm:Nat),.fz<|.int u]).bind wG:=by
  have e1:uB (zTW jq eV2) (wO (uL eV3 jw) ju) [.fz<|.int c,.fz<|.int (dm:Nat),.fz (!17),.fz<|.int v,.fz<|yR lo,.fz<|yR hi,.fz<|.int<|v % (dm:Nat),.no]=some (.int<|2^L+v / 6 % 4):=yY (zJy J hL) (yY (!29) J J) J;generalize(2:Int)^L+v / 6 % 4=q at e1;refine⟨if v / 3 % 2=1 then -q else q,(yC e1 ?_)⟩;unfold fF;have e2:eB2 gEq (wO (uL eV3 jt) jr) jq [.fz<|.int c,.fz<|.int (dm:Nat),.fz (!17),.fz<|.int v,.fz<|yR lo,.fz<|yR hi,.fz<|.int<|v % (dm:Nat),.fz<|.int q]=some (decide (v / 3 % 2=1)):=bO<|yY (!29) rfl rfl;dsimp only[List.set];unfold sIf
  by_cases h:v / 3 % 2=1
  .rw[Qb h] at e2;rw[Qg h];exact yM (by rw[e2];rfl) rfl
  .rw[Wu h] at e2;rw[Qc h];exact yM (by rw[e2];rfl) rfl
 have front {R:qi} (h:(pP [.fz<|.int c,.fz<|.int (dm:Nat),.fz (!17),.fz<|.int v,.fz<|yR lo,.fz<|yR hi,.fz<|.int<|v % (dm:Nat),.fz<|.int u]).bind wG=R):nP [.int c,.int (dm:Nat),.int (L:Nat)]=R:=by exact yC ((vL J J J).trans ev)<|yM (O':=[.fz<|.int c,.fz<|.int (dm:Nat),.fz (!17),.fz<|.int v,.fz<|yR lo,.fz<|yR hi,.no,.no]) (by unfold aF;rw[(zO8 J J J J).trans eb];rfl)<|yC (d:=.int<|v % (dm:Nat)) (yY J rfl<|Qb jc)<|hu.trans h
 have e5:eB2 gEq (wO (uL eV3<|eC<|.int 24) jv) jp [.fz<|.int c,.fz<|.int (dm:Nat),.fz (!17),.fz<|.int v,.fz<|yR lo,.fz<|yR hi,.fz<|.int<|v % (dm:Nat),.fz<|.int u]=some (decide (v / 24 % 5=0)):=bO<|yY (!29) rfl rfl
 by_cases h:v / 24 % 5=0
 .rw[Qb h] at e5;refine⟨5 - dm,(List.replicate (5 - dm) 0,List.replicate (5 - dm) 0),⟨jc,Ts,Ts,λp hp=>?_⟩,front ?_⟩
  .simp_all
  .unfold pP;rw[zZn (d:=bxD (List.replicate (5 - dm) 0,List.replicate (5 - dm) 0)) (by unfold sIf;rw[e5];rcases hd with rfl | rfl<;>rfl)];rfl
 .rw[Wu h] at e5;have back {R:qi} (h:(eR [.fz<|.int c,.fz<|.int (dm:Nat),.fz (!17),.fz<|.int v,.fz<|yR lo,.fz<|yR hi,.fz<|.int<|v % (dm:Nat),.fz<|.int u]).bind wG=R):nP [.int c,.int (dm:Nat),.int (L:Nat)]=R:=front (by
   exact yM (by unfold sIf;rw[e5];rfl) h)
  obtain⟨hm,h1,h2,h3⟩:=hb;dsimp only at h1 h2 h3;rcases hm with rfl | rfl
  .obtain⟨a0,a1,rfl⟩:=zTg h1;obtain⟨b0,b1,rfl⟩:=zTg h2;have q0:a0<=b0:=h3 (a0,b0) je;have q1:a1<=b1:=h3 (a1,b1) je;have hx:v % (2:Nat)=0\/v % (2:Nat)=1:=jc;rcases hx with e | e<;>rw[e] at back
   .exact⟨2,([a0+u,a1],[b0+u,b1]),⟨.inl rfl,rfl,rfl,by simp;lia⟩,back rfl⟩
   .exact⟨2,([a0,a1+u],[b0,b1+u]),⟨.inl rfl,rfl,rfl,by simp;lia⟩,back rfl⟩
  .obtain⟨a0,a1,a2,rfl⟩:=zTo h1;obtain⟨b0,b1,b2,rfl⟩:=zTo h2;have q0:a0<=b0:=h3 (a0,b0) je;have q1:a1<=b1:=h3 (a1,b1) je;have q2:a2<=b2:=h3 (a2,b2) je;have hx:v % (3:Nat)=0\/v % (3:Nat)=1\/v % (3:Nat)=2:=jc;rcases hx with e | e | e<;>rw[e] at back
   .exact⟨3,([a0+u,a1,a2],[b0+u,b1,b2]),⟨.inr rfl,rfl,rfl,by simp;lia⟩,back rfl⟩
   .exact⟨3,([a0,a1+u,a2],[b0,b1+u,b2]),⟨.inr rfl,rfl,rfl,by simp;lia⟩,back rfl⟩
   .exact⟨3,([a0,a1,a2+u],[b0,b1,b2+u]),⟨.inr rfl,rfl,rfl,by simp;lia⟩,back rfl⟩
def zHD (c:Int)(hn:Nms ns):∃w z m b,z∈ns/\Bk m b/\jA [.int c,.int (dm:Nat),.int (L:Nat),.lst<|ns.map .str]=some (deD w z b):=by
 obtain⟨v,hv,ev⟩:=fG c 33 1000081 jb jb jb jb;obtain⟨b1,hb1,_,eb1⟩:=zPI hd hL c 64 jb;obtain⟨m2,b2,hb2,eb2⟩:=zFg hd hL c;obtain⟨k,hk,ek⟩:∃k:Nat,k < 7/\v / 8 % 7=(k:Int):=⟨(v / 8 % 7).toNat,jc,jc⟩
 obtain⟨z,hz⟩:∃z,ns[k]?=some z:=⟨_,Qj (by rw[hn.n7];exact hk)⟩
 have aw:∃w,atD (.lst [.str Ax,.str Ax,.str Ax,.str Ax,.str AH,.str AH,.str AH,.str AC]) (.int<|v % 8)=some (.str<|wS w):=by
  have:v % 8=0\/v % 8=1\/v % 8=2\/v % 8=3\/v % 8=4\/v % 8=5\/v % 8=6\/v % 8=7:=jc;rcases this with e | e | e | e | e | e | e | e<;>rw[e]
  .exact⟨.put,rfl⟩
  .exact⟨.put,rfl⟩
  .exact⟨.put,rfl⟩
  .exact⟨.put,rfl⟩
  .exact⟨.move,rfl⟩
  .exact⟨.move,rfl⟩
  .exact⟨.move,rfl⟩
  .exact⟨.take,rfl⟩
 obtain⟨w,ew⟩:=aw;have e1:eIx eV3 (wO (uL eV4 jy) jx) [.fz<|.int c,.fz<|.int (dm:Nat),.fz (!17),.fz<|.lst<|ns.map .str,.fz<|.int v,.no,.no]=some (.str z):=by
  have e2:wO (uL eV4 jy) jx [.fz<|.int c,.fz<|.int (dm:Nat),.fz (!17),.fz<|.lst<|ns.map .str,.fz<|.int v,.no,.no]=some (.int (k:Nat)):=by rw[<-ek];exact yY (!29) J J
  rw[rX rfl e2,zTa _ (d:=z) (by rw[hn.n7];exact hk),Eu,hz];rfl
 have t:eB2 gEq (wO (uL eV4<|eC<|.int 56) jy) jp [.fz<|.int c,.fz<|.int (dm:Nat),.fz (!17),.fz<|.lst<|ns.map .str,.fz<|.int v,.fz<|.str z,.fz<|bxD b1]=some (decide (v / 56 % 8=0)):=bO<|yY (!29) rfl rfl;have main (b:Bx) (h:sIf (eB2 gEq (wO (uL eV4<|eC<|.int 56) jy) jp) (yI 6<|yZ 3 nP<|zY eV0<|zY eV1<|zY eV2 zS) wC [.fz<|.int c,.fz<|.int (dm:Nat),.fz (!17),.fz<|.lst<|ns.map .str,.fz<|.int v,.fz<|.str z,.fz<|bxD b1]=some (.nx [.fz<|.int c,.fz<|.int (dm:Nat),.fz (!17),.fz<|.lst<|ns.map .str,.fz<|.int v,.fz<|.str z,.fz<|bxD b])):jA [.int c,.int (dm:Nat),.int (L:Nat),.lst<|ns.map .str]=some (deD w z b):=by refine yC ((vL J J J).trans ev)<|yC e1<|yC ((zO8 J J J J).trans eb1)<|yM h ?_;unfold zZ8;rw[uJ];exact lF (zI ((rX J (!29)).trans ew)<|zI rfl<|zI rfl rfl)<|Qr rfl
 by_cases h:v / 56 % 8=0
 .refine⟨w,z,m2,b2,Rw hz,hb2,main b2 ?_⟩;unfold sIf yI;rw[t,Qb h,(vL J J J).trans eb2];rfl
 .refine⟨w,z,dm,b1,Rw hz,hb1,main b1 ?_⟩;unfold sIf;rw[t,Wu h];rfl
end
def Gd (dm L:Nat)(b:Bx):Prop:=(∃m,Bk m b)/\flB dm L b=true
def Gd.bk {b:Bx}(h:Gd dm L b):Bk dm b:=by obtain⟨⟨m,hb⟩,hf⟩:=h;have:=(zZX.mp (Ej.mp hf).1).1;rw[hb.2.1] at this;exact this ▸ hb
def Lv (dm L:Nat):Prop:=dm=2/\L<=6\/dm=3/\L<=4
def R1 (cv:D)(L:Nat)(b:Bx)(q:kl):Prop:=xJ [cv,.int (L:Nat),bxD b]=some (yG q)/\(q.Pairwise λp q=>p.1≠q.1)/\q.length<=4096
def RO (cv:D)(dm L:Nat)(R:Bx->kl):Prop:=∀b,Gd dm L b->R1 cv L b (R b)
theorem zEc (hv:Lv dm L)(ok:PtsOk dm ps)(nm:Str)(j:Bool):∃R,RO (!14) dm L R :=
 Classical.axiomOfChoice (r:=λb q=>Gd dm L b->R1 _ L b q) λb=>by
  by_cases g:Gd dm L b
  .obtain⟨f1,f2⟩:=Ej.mp g.2;obtain⟨q,h⟩:=zTZ (by rcases hv with h | h<;>lia) ok j (L:=L) (by rcases hv with⟨rfl,h⟩ | ⟨rfl,h⟩<;>lia) (zZX.mp f1).1 (zZX.mp f2).1;exact⟨q,λ_=>h⟩
  .simp_all
def zV8:(kb.lookup z).isSome=true↔z∈keys kb:=by unfold keys;simp_all
def zZj {b:Bx}(h:kb.lookup z=some b):(z,b)∈kb:=by
 induction kb with
 | nil=>cases h
 | cons p r ih =>
  rw[Wj] at h;split at h
  .rename_i e;cases h;rw[eq_of_beq e];exact Ql
  .exact Qf _ (ih h)
def zFz (nd:(keys kb).Nodup){b c:Bx}(h1:(z,b)∈kb)(h2:(z,c)∈kb):b=c:=by
 induction kb with
 | nil=>cases h1
 | cons p r ih =>
  obtain⟨n1,n2⟩:=Ta.mp<|show(p.1::keys r).Nodup from nd;have up {y:Bx} (h:(z,y)∈r):z∈keys r:=Wp.mpr ⟨_,h,J⟩
  grind
theorem dM (z y:Str):∀kb:Kb,(pC kb z).lookup y=if y=z then none else kb.lookup y
 | []=>by simp[pC]
 | p::r=>by
  have ih:=dM z y r;unfold pC at ih ⊢;rw[Rn,Wj]
  by_cases e:p.1=z
  .rw[Wu λh=>h e,Qc je,ih]
   by_cases e2:y=z
   .simp_all
   .have:(y==p.1)=false:=by simpa using λh=>e2<|h.trans e
    rw[Qc e2,Qc e2,this]
  .rw[Qb e,Qg rfl,Wj,ih]
   by_cases e2:y=z
   .have:(y==p.1)=false:=by simpa using λh=>e<|h.symm.trans e2
    rw[Qg e2,Qg e2,this]
   .simp_all
theorem zQR (z y:Str)(b:Bx):∀kb:Kb,(zVf kb z b).lookup y=if y=z then(kb.lookup y).map λ_=>b else kb.lookup y
 | []=>by simp[zVf]
 | p::r=>by
  have ih:=zQR z y b r;unfold zVf at ih ⊢;rw[Qx,Wj (as:=r)]
  by_cases e:p.1=z
  .rw[Qg e,Wj,ih]
   by_cases e2:y=z
   .simp_all
   .have:(y==p.1)=false:=by simpa using λh=>e2<|h.trans e
    rw[Qc e2,Qc e2,this]
  .rw[Qc e,Wj,ih]
   by_cases e2:y=z
   .have:(y==p.1)=false:=by simpa using λh=>e<|h.symm.trans e2
    rw[Qg e2,Qg e2,this]
   .simp_all
def zRh (hz:kb.lookup z=none)(b:Bx)(y:Str):(kb++[(z,b)]).lookup y=if y=z then some b else kb.lookup y:=by
 rw[List.lookup_append]
 by_cases e:y=z
 .rw[e,hz];simp
 .have:(y==z)=false:=by simpa using e
  rw[Qc e,Wj,this];simp
def zLm (z y:Str)(b:Bx)(kb:Kb):(zVx kb z b).lookup y=if y=z then some b else kb.lookup y:=by
 unfold zVx;split
 .rename_i h;rw[zQR]
  by_cases e:y=z
  .rw[Qg e,Qg e,e];cases hk:kb.lookup z with
   | none=>rw[hk] at h;cases h
   | some _=>rfl
  .simp_all
 .rename_i h;exact zRh (Option.not_isSome_iff_eq_none.mp h) b y
def zSz (z:Str)(kb:Kb):keys (pC kb z)=(keys kb).filter λy=>decide (y≠z):=by unfold keys pC;rw[Uu];rfl
def zW4 {l:kg}(h:l.Nodup)(hz:z∉l):(l++[z]).Nodup:=Uz.mpr ⟨h,Ta.mpr ⟨je,.nil⟩,λa ha b hb e=>hz (!9)⟩
def zGm {b:Bx}(h:(keys kb).Nodup):(keys<|zVx kb z b).Nodup:=by
 unfold zVx;split
 .have:keys (zVf kb z b)=keys kb:=by
   unfold keys zVf;rw[Wk];exact Ra λp _=>by show(if p.1=z then _ else p).1=_;split<;>rfl
  rw[this];exact h
 .rename_i q;show((kb++[_]).map _).Nodup;rw[Wv];exact zW4 h λw=>q<|zV8.mpr w
def zJC (h:(keys kb).Nodup):(keys<|pC kb z).Nodup:=by rw[zSz];exact h.filter _
section
variable{R:Bx->kl}
def zWI (R:Bx->kl)(kb:Kb):qm:=kb.flatMap λp=>(R p.2).map<|en p.1
theorem zOc:∀kb:Kb,(∀p∈kb,(R p.2).length<=4096)->(zWI R kb).length<=4096*kb.length
 | [],_=>Qh _
 | p::r,hR=>by have:=zOc r λq hq=>hR q<|Qf _ hq;have h:=hR p Ql;show((R p.2).map _++zWI R r).length<=4096*(_+1);rw[Qp,Qy];lia
def zOY {a:Et}(h:a∈zWI R kb):a.z∈keys kb:=by obtain⟨p,hp,ha⟩:=Eo.mp h;obtain⟨q,_,rfl⟩:=v7 ha;exact Wp.mpr ⟨p,hp,J⟩
theorem zNR {z:Str}{b:Bx}:∀kb:Kb,(∀c,(z,c)∈kb->c=b)->(zWI R kb).filter (bY z<|R b)=zWI R (pC kb z)
 | [],_=>rfl
 | p::r,h=>by
  show((R p.2).map _++zWI R r).filter _=_;rw[Ud,(zNR r λc hc=>h c<|Qf _ hc)];unfold pC;rw[Rn]
  by_cases e:p.1=z
  .rw[Wu λw=>w e,Yj.mpr]
   .rfl
   .intro a ha;obtain⟨q,hq,rfl⟩:=v7 ha;rw[(h p.2 (by rw[<-e];exact Ql))] at hq;unfold bY;rw[List.any_eq_true.mpr ⟨q,hq,by rw[e];exact qO.mpr J⟩];decide
  .rw[Qb e,Uy.mpr]
   .rfl
   .intro a ha;obtain⟨q,hq,rfl⟩:=v7 ha;unfold bY;rw[Bool.not_eq_true',List.any_eq_false];exactλs _ w=>e<|Wa Et.z<|qO.mp w
end
structure Iv (ns:kg)(R:Bx->kl)(dm L n:Nat)(r:Rt)(kb kt:Kb):Prop where
 ok:rOk n r
 pm:(rE r).Perm<|zWI R kb
 gd:∀p∈kb,Gd dm L p.2
 n1:(keys kb).Nodup
 n2:(keys kt).Nodup
 sm:∀z,kb.lookup z=kt.lookup z
 sb:∀z∈keys kb,z∈ns
section
variable (hn:4<=n) (h12:n<=50) (hv:Lv dm L){R:Bx->kl} (hR:RO (!14) dm L R) (hs:Nms ns)
include hs in
def Iv.seven (i:Iv ns R dm L n r kb kt):kb.length<=7:=by have:=i.n1.length_le_of_subset λz hz=>i.sb z hz;unfold keys at this;rw[Qy,hs.n7] at this;exact this
include hR in
theorem zKB (g:∀p∈kb,Gd dm L p.2):(zWI R kb).length<=4096*kb.length:=zOc kb λp hp=>(hR _<|g p hp).2.2
include hR in
def Iv.le (i:Iv ns R dm L n r kb kt):(rE r).length<=4096*kb.length:=by rw[i.pm.length_eq];exact zKB hR i.gd
theorem Iv.has (i:Iv ns R dm L n r kb kt){b:Bx}(h:kb.lookup z=some b):∀p∈R b,en z p∈rE r:=λp hp=>i.pm.symm.subset<|Eo.mpr ⟨_,zZj h,Wp.mpr ⟨p,hp,rfl⟩⟩
def Iv.cut (i:Iv ns R dm L n r kb kt){b:Bx}(h:kb.lookup z=some b):((rE r).filter<|bY z<|R b).Perm<|zWI R<|pC kb z:=by rw[<-zNR kb λc hc=>zFz i.n1 hc<|zZj h];exact i.pm.filter _
theorem zWU (h:kb.lookup z=none):z∉keys kb:=λw=>by have:=zV8.mpr w;rw[h] at this;cases this
def zVC (kb:Kb)(z:Str):(pC kb z).lookup z=none:=by rw[dM,Qg rfl]
def zJv {b:Bx}(hz:kb.lookup z=none)(hb:Gd dm L b)(zn:z∈ns)(ok':rOk n r')(pm:(rE r').Perm<|(R b).map (en z)++zWI R kb)(gd:∀p∈kb,Gd dm L p.2)(n1:(keys kb).Nodup)(sb:∀z∈keys kb,z∈ns)(n2:(keys kt).Nodup)(sm:∀y,y≠z->kb.lookup y=kt.lookup y):Iv ns R dm L n r' (kb++[(z,b)])<|zVx kt z b:=by
 have hk:keys (kb++[(z,b)])=keys kb++[z]:=by unfold keys;rw[Wv];rfl
 refine⟨ok',pm.trans ?_,λp hp=>?_,by rw[hk];exact zW4 n1<|zWU hz,zGm n2,λy=>?_,λy hy=>?_⟩
 .unfold zWI;rw[Ut];refine List.perm_append_comm.trans ?_;rw[Ec,List.flatMap_nil,Wo]
 .rcases v6 hp with h | h
  .exact gd p h
  .rw[Qv.mp h];exact hb
 .rw[zRh hz,zLm];simp_all
 .rw[hk] at hy;rcases v6 hy with h | h
  .simp_all
  .simp_all
def Iv.less (i:Iv ns R dm L n r kb kt)(z:Str):(∀p∈pC kb z,Gd dm L p.2)/\(keys<|pC kb z).Nodup/\(∀y∈keys (pC kb z),y∈ns)/\(∀y,(pC kb z).lookup y=(pC kt z).lookup y)/\(keys<|pC kt z).Nodup:=by refine⟨λp hp=>i.gd p (Eb.mp hp).1,zJC i.n1,λy hy=>i.sb y ?_,λy=>by rw[dM,dM,i.sm y],zJC i.n2⟩;rw[zSz] at hy;exact(Eb.mp hy).1
include hn h12 hv hR hs in
def Iv.put (i:Iv ns R dm L n r kb kt){b:Bx}(zn:z∈ns)(hb:Bk m b)(hk:kb.lookup z=none)(hf:flB dm L b=true):∃r' kb',gW sC 3 (!16) [.str z,bxD b]=some (.non,yv (!14) L n r' kb')/\Iv ns R dm L n r' kb' (zVx kt z b):=by
 have hL:L<=100:=by rcases hv with h | h<;>lia
 have hle:=i.le hR;have g:Gd dm L b:=⟨⟨m,hb⟩,hf⟩
 obtain⟨s1,s2,s3⟩:=hR _ g;have l7:kb.length+1<=7:=by
  have:=(zW4 i.n1<|zWU hk).length_le_of_subset λy hy=>by
   rcases v6 hy with h | h
   .exact i.sb y h
   .simp_all
  unfold keys at this;rw[Qp,Qy,hs.n7] at this;exact this
 obtain⟨r',H',pm,e⟩:=zFd hn h12 i.ok hL hb.sm hf s1 s2 hk jc (λp hp a ha q=>zWU hk (by have:=zOY<|i.pm.subset ha;rw[show a.z=z from Wa Prod.snd q] at this;exact this)) jc;exact⟨r',_,e,zJv hk g zn H' (pm.trans<|Ix _ i.pm) i.gd i.n1 i.sb i.n2 λy _=>i.sm y⟩
include hn h12 hv hR hs in
def zMV (i:Iv ns R dm L n r kb kt){w:Wd}{b:Bx}(zn:z∈ns)(hb:Bk m b):∃r' kb',gW xM 3 (!16) [deD w z b]=some (.str<|wrd<|xW w (kt.lookup z).isSome<|flB dm L b,yv (!14) L n r' kb')/\Iv ns R dm L n r' kb' (if xW w (kt.lookup z).isSome (flB dm L b)=none then nxT kt z b w else kt):=by
 have hz:=hs.le z zn;have hL:L<=100:=by rcases hv with h | h<;>lia
 have h7:=i.seven hs;have hle:=i.le hR;rw[<-i.sm z];cases hx:xW w (kb.lookup z).isSome (flB dm L b) with
 | some c=>exact⟨r,kb,zJO hL hb.sm hz hx,by rw[Qc λh=>by cases h];exact i⟩
 | none =>
  cases w with
  | take =>
   cases hk:kb.lookup z with
   | none=>rw[hk] at hx;cases hx
   | some b0 =>obtain⟨s1,s2,s3⟩:=hR _<|i.gd _<|zZj hk;obtain⟨r',H',pm,e⟩:=zNX (cv:=!14) (L:=L) (kb:=kb) hn h12 i.ok s1 hk s2 (i.has hk) jc;obtain⟨q1,q2,q3,q4,q5⟩:=i.less z;exact⟨r',_,zTE hL hb.sm hz hx e,⟨H',by rw[pm];exact i.cut hk,q1,q2,q5,q4,q3⟩⟩
  | put =>
   cases hk:kb.lookup z with
   | some b0=>rw[hk] at hx;cases hx
   | none =>
    cases hf:flB dm L b with
    | false=>rw[hk,hf] at hx;cases hx
    | true =>obtain⟨r',kb',e,i'⟩:=Iv.put (nm:=nm) (j:=j) hn h12 hv hR hs i zn hb hk hf;exact⟨r',_,zTE hL hb.sm hz hx e,i'⟩
  | move =>
   cases hk:kb.lookup z with
   | none=>rw[hk] at hx;cases hx
   | some b0 =>
    cases hf:flB dm L b with
    | false=>rw[hk,hf] at hx;cases hx
    | true =>
     have g:Gd dm L b:=⟨⟨m,hb⟩,hf⟩
     obtain⟨s1,s2,s3⟩:=hR _ g;obtain⟨t1,t2,t3⟩:=hR _<|i.gd _<|zZj hk;obtain⟨q1,q2,q3,q4⟩:=i.less z;have ct:=i.cut hk;have l6:(pC kb z).length+1<=7:=by
      have:=(zW4 q2<|zWU<|zVC kb z).length_le_of_subset (l₂:=ns) λy hy=>by
       rcases v6 hy with h | h
       .simp_all
       .simp_all
      unfold keys at this;rw[Qp,Qy,hs.n7] at this;exact this
     have le:=zKB hR q1;obtain⟨r',H',pm,e⟩:=zHg hn h12 i.ok hL hb.sm hf s1 s2 t1 t2 hk jc (i.has hk) (λa ha q=>zWU (zVC kb z) (by have:=zOY<|ct.subset ha;rw[q] at this;exact this)) jc (by rw[ct.length_eq];lia);refine⟨r',_,zTE hL hb.sm hz hx e,zJv (zVC kb z) g zn H' (pm.trans<|Ix _ ct) q1 q2 q3 i.n2 λy hy=>?_⟩;rw[dM,Qc hy];exact i.sm y
end
theorem zSA {h:Nat}{pg:B}{self:kd->ka}:∀(xs:List<|It<|h+1) (j7:qm) (x2:B),(∀x∈xs,self [pgD h x]=some ((zJ h x).map dE))->j7.length+(zJ (h+1) xs).length<=100000 -> ∃y2,sQ (gN 2) (tY self) (xs.map<|iD<|h+1) [pg,.ow<|j7.map dE,x2]=some (.nx [pg,.ow<|(j7++zJ (h+1) xs).map dE,y2])
 | [],j7,x2,_,_=>⟨x2,by simp[sQ]⟩
 | x::r,j7,x2,hx,hl=>by
  rw[wF,Qp] at hl;have hL:(zJ h x).length=(pH (h+1) x).length:=rfl;obtain⟨y2,e2⟩:=zSA (pg:=pg) (self:=self) r (j7++zJ h x) (.fz<|iD (h+1) x) (λz hz=>hx z<|Qf _ hz) (by rw[Qp];lia);refine⟨y2,?_⟩;rw[Qx,uE (ρ1:=[pg,.ow<|j7.map dE,.fz<|iD (h+1) x]) (ρ2:=[pg,.ow<|(j7++zJ h x).map dE,.fz<|iD (h+1) x]) rfl ?_,e2,wF,Th]
  .rfl
  .unfold tY zVh;rw[show uN 1 self (zY eV2 zS) [pg,.ow<|j7.map dE,.fz<|iD (h+1) x]=some ((zJ h x).map dE) from(zKu J).trans (hx x Ql),Qt];show(if (j7.map dE).length+((zJ h x).map dE).length<=lim then some (Out.nx [pg,.ow<|j7.map dE++(zJ h x).map dE,.fz<|iD (h+1) x]) else none)=_;rw[Qg (by rw[Qy,Qy];show _<=100000;lia),Wv]
theorem zXn {n:Nat}(hn:4<=n):∀(h:Nat) (xs:!7) (k:Nat),Way n h xs->(zJ h xs).length<=50000->h < k->xO k [pgD h xs]=some ((zJ h xs).map dE)
 | 0,xs,k+1,H,_,_=>by
  show(vJ (xO k) [.fz<|pgD 0 xs,.no,.no]).bind rR=_;refine zTX ?_ ?_
  .rfl
  .rw[uX];unfold aG;rw[wB (h:=0) (xs:=xs) rfl];rfl
 | h+1,xs,k+1,H,hl,hk=>by
  show(vJ (xO k) [.fz<|pgD (h+1) xs,.no,.no]).bind rR=_;refine zYC (O':=[.fz<|pgD (h+1) xs,.no,.no]) ((nF (b:=false) J).trans J)<|zYC (O':=[.fz<|pgD (h+1) xs,.ow [],.no]) rfl ?_;obtain⟨y2,e⟩:=zSA (pg:=.fz<|pgD (h+1) xs) (self:=xO k) xs [] .no (λx hx=>by obtain⟨c1,c2,c3⟩:=wR<|H.2.2 x hx;have hxl:(zJ h x).length<=(zJ (h+1) xs).length:=(rB (f:=pH<|h+1) hx).length_le;exact zXn hn h x k ⟨c2,.inr jc,c3⟩ jc jc) (by simp only[Pj];lia)
  refine zYC (O':=[.fz<|pgD (h+1) xs,.ow<|(zJ (h+1) xs).map dE,y2]) ?_ J;unfold uG;rw[gA<|wB (h:=h+1) (xs:=xs) rfl,Qt];exact e
def zZO (hn:4<=n){xs:!7}(H:RtOk n h xs)(hl:(zJ h xs).length < 32000):tX [soD n ⟨h,xs⟩]=some ((zJ h xs).map dE):=by have hd:=H.deep hn jc;show(qW [.fz _]).bind rR=_;unfold qW;rw[nR];exact(zKu<|zKW (r:=⟨h,xs⟩) rfl).trans (zXn hn h xs 16 H.way jc jc)
def mtK (m:kg):qj:=m.map .inr
def mtD (m:kg):D:=.dct (mtK m)<|m.map λ_=>.bl true
def zHk (m:kg)(z:Str):kg:=if z∈m then m else m++[z]
theorem zGG (z:Str):∀m:kg,(aQ (mtK m) (m.map λ_=>.bl true)<|.inr z).isSome=decide (z∈m)
 | []=>rfl
 | y::r=>by
  have ih:=zGG z r;unfold aQ mtK at ih ⊢;rw[Qx,Qx,Tt,Yp]
  by_cases e:y=z
  .simp[e]
  .have e':¬(Sum.inr y:Key)=Sum.inr z:=λq=>e<|Sum.inr.inj q;simp only[e',decide_false];rw[ih];simp[Ne.symm e]
theorem zGE (z:Str):∀m:kg,bT (mtK m) (m.map λ_=>.bl true) (.inr z) (.bl true)=m.map λ_=>.bl true
 | []=>rfl
 | y::r=>by have ih:=zGE z r;unfold bT mtK at *;simp_all
def zE0 (m:kg)(z:Str):zSN (mtK m) (m.map λ_=>.bl true) (.inr z) (.bl true)=mtD (zHk m z):=by
 unfold zSN zHk;rw[zGG]
 by_cases h:z∈m
 .rw[Qg<|Qb h,Qg h,zGE];rfl
 .rw[Qc (by simpa using h),Qc h];unfold mtD mtK;simp
def Mt (K m:kg):Prop:=m.Nodup/\∀z∈m,z∈K
def Mt.add {m:kg}(h:Mt K m)(hz:z∈K):Mt K<|zHk m z:=by
 unfold zHk;split
 .exact h
 .rename_i q;exact⟨zW4 h.1 q,zZZ h.2 hz⟩
def Mt.len {m:kg}(h:Mt K m):m.length<=K.length:=h.1.length_le_of_subset h.2
section
variable (hK:K.length<=1000){Y x3 x4:B}
include hK
theorem zJB:∀(es:qm) (m:kg) (x5:B),Mt K m->(∀e∈es,e.z∈K)->∃m' y5,Mt K m'/\sQ (gN 5) lQ (es.map dE) [Y,bD,.mu none<|mtD m,x3,x4,x5]=some (.nx [Y,bD,.mu none<|mtD m',x3,x4,y5])
 | [],m,x5,h,_=>⟨m,x5,h,J⟩
 | e::r,m,x5,h,hz=>by obtain⟨m',y5,h1,h3⟩:=zJB r _ _ (h.add<|hz e Ql) λa ha=>hz a<|Qf _ ha;refine⟨m',y5,h1,?_⟩;have hl:=h.len;rw[Qx,uE rfl,h3];show(if (mtK m).length<=lim then some (Out.nx [Y,bD,.mu none _,x3,x4,.fz _]) else none)=_;rw[Qg (by unfold mtK;rw[Qy];show _<=100000;lia),zE0]
end
def Mp (K:kg)(m:List<|Str×Str):Prop:=m.Nodup/\∀p∈m,p.1∈K/\p.2∈K
def zMg {m:List<|Str×Str}{p q:Str×Str}(h:p∈zRA m q):p∈m\/p=q:=by
 unfold zRA at h;split at h
 .exact .inl h
 .simpa using h
def Mp.add {m:List<|Str×Str}{a b:Str}(h:Mp K m)(ha:a∈K)(hb:b∈K):Mp K<|zRA m (a,b):=by
 refine⟨?_,λp hp=>?_⟩
 .unfold zRA;split
  .exact h.1
  .rename_i q;exact Uz.mpr ⟨h.1,Ta.mpr ⟨je,.nil⟩,λa ha b hb e=>q (!9)⟩
 .rcases zMg hp with h' | rfl
  .exact h.2 p h'
  .exact⟨ha,hb⟩
theorem Mp.len {m:List<|Str×Str}(h:Mp K m)(hK:K.length<=7):m.length < 64:=by
 have:=h.1.length_le_of_subset (l₂:=K.flatMap λa=>K.map λb=>(a,b)) λp hp=>by have:=h.2 p hp;exact Eo.mpr ⟨p.1,this.1,Wp.mpr ⟨p.2,this.2,J⟩⟩
 have len:∀l:kg,(l.flatMap λa=>K.map λb=>(a,b)).length=l.length*K.length:=λl=>by
  induction l with
  | nil=>simp
  | cons a r ih=>rw[Ec,Qp,ih,Qy,Qk,Nat.succ_mul];lia
 rw[len] at this;have:=Oe hK hK;lia
section
variable (hK:K.length<=7){Y x2 x3:B} (hz:z∈K)
include hK hz
theorem zMc:∀(es:qm) (m:List<|Str×Str) (x5:B),Mp K m->(∀e∈es,e.z∈K)->∃m' y5,Mp K m'/\sQ (gN 5) rW (es.map dE) [Y,.pt m,x2,x3,.fz<|.str z,x5]=some (.nx [Y,.pt m',x2,x3,.fz<|.str z,y5])
 | [],m,x5,h,_=>⟨m,x5,h,J⟩
 | e::r,m,x5,h,hk=>by
  have hk':∀a∈r,a.z∈K:=λa ha=>hk a<|Qf _ ha;have eb:rW [Y,.pt m,x2,x3,.fz<|.str z,.fz<|dE e]=if ltS z e.z=true then if m.length<=lim then some (.nx [Y,.pt<|zRA m (z,e.z),x2,x3,.fz<|.str z,.fz<|dE e]) else none else some (.nx [Y,.pt m,x2,x3,.fz<|.str z,.fz<|dE e]):=nF J;cases hlt:ltS z e.z with
  | false =>rw[hlt] at eb;obtain⟨m',y5,h1,h3⟩:=zMc r m (.fz<|dE e) h hk';exact⟨m',y5,h1,by rw[Qx,uE rfl eb,h3]⟩
  | true =>rw[hlt] at eb;obtain⟨m',y5,h1,h3⟩:=zMc r _ (.fz<|dE e) (h.add hz<|hk e Ql) hk';have hl:=h.len hK;exact⟨m',y5,h1,by rw[Qx,uE rfl (eb.trans<|Qg<|show m.length<=100000 by lia),h3]⟩
end
section
variable (hn:4<=n) (h12:n<=50) (hO:rOk n r) (hl:(rE r).length < 32000) (hK:K.length<=7) (hz:∀e∈rE r,e.z∈K)
include hn h12 hO hl hK hz
theorem zPg:∀(rows:kl) (m:kg) (x3 x4 x5:B),Mt K m->∃m' y3 y4 y5,Mt K m'/\sQ (gT<|zM (gN 3)<|zM (gN 4) xZ) rZ (yG rows) [.fz (!22),bD,.mu none<|mtD m,x3,x4,x5]=some (.nx [.fz (!22),bD,.mu none<|mtD m',y3,y4,y5])
 | [],m,x3,x4,x5,h=>⟨m,x3,x4,x5,h,J⟩
 | p::t,m,x3,x4,x5,h=>by obtain⟨m1,y5,h1,h3⟩:=zJB (show K.length<=1000 by lia) (Y:=.fz _) (x3:=.fz _) (x4:=.fz _) ((rE r).filter<|gX p.1 p.2) m x5 h λe he=>hz e (Eb.mp he).1;obtain⟨m2,z3,z4,z5,h4,h6⟩:=zPg t m1 (.fz _) (.fz _) y5 h1;refine⟨m2,z3,z4,z5,h4,?_⟩;show sQ _ _ (mP p::yG t) _=_;rw[uE (ρ1:=[.fz _,bD,.mu none _,.fz _,.fz _,x5]) rfl,h6];unfold rZ uG;have em:vK Ad AV 3 _ (yT A1 BR eV0) (zY eV3<|zY eV4 zS) [.fz (!22),bD,.mu none<|mtD m,.fz _,.fz _,x5]=some (((rE r).filter _).map dE):=(vD (pE J).2.2.1 J J (!6)).trans<|dD hn jc hO hl p.1 p.2;rw[gA<|vZ em];exact h3
theorem zLU:∀(as:qm) (m:List<|Str×Str) (x2 x3 x4 x5:B),(∀a∈as,a.z∈K)->Mp K m->∃m' y2 y3 y4 y5,Mp K m'/\sQ (gT<|zM (gN 2)<|zM (gN 3)<|zM (gN 4) xZ) rT (as.map dE) [.fz (!22),.pt m,x2,x3,x4,x5]=some (.nx [.fz (!22),.pt m',y2,y3,y4,y5])
 | [],m,x2,x3,x4,x5,_,h=>⟨m,x2,x3,x4,x5,h,J⟩
 | a::t,m,x2,x3,x4,x5,ha,h=>by obtain⟨m1,y5,h1,h3⟩:=zMc hK (Y:=.fz (!22)) (x2:=.fz _) (x3:=.fz _) (ha a Ql) ((rE r).filter<|gX a.f a.l) m x5 h λe he=>hz e (Eb.mp he).1;obtain⟨m2,z2,z3,z4,z5,h4,h6⟩:=zLU t m1 (.fz _) (.fz _) (.fz _) y5 (λb hb=>ha b<|Qf _ hb) h1;refine⟨m2,z2,z3,z4,z5,h4,?_⟩;rw[Qx,uE (ρ1:=[.fz _,.pt _,.fz _,.fz _,.fz _,x5]) rfl,h6];unfold rT uG;have em:vK Ad AV 3 _ (yT A1 BR eV0) (zY eV2<|zY eV3 zS) [.fz (!22),.pt m,.fz _,.fz _,.fz<|.str a.z,x5]=some (((rE r).filter _).map dE):=(vD (pE J).2.2.1 J J (!6)).trans<|dD hn jc hO hl a.f a.l;rw[gA<|vZ em];exact h3
end
def hoB (b:Bx)(p:kh):Bool:=okB b.1 p&&okB p b.2
def wiB (c b:Bx):Bool:=hoB b c.1&&hoB b c.2
def zS4 {b : Bx}  (hb : Sm b) (hp : p.length <= 100) : zXx [bxD b, yR p] = some (.bl<|hoB b p) := by
 show(zYV [.fz _,.fz _,.no,.no]).bind wG=_;refine yM J ?_;unfold zUf;rw[uJ];unfold zZQ tB1 hoB;rw[vY rfl rfl,kJ hb.1];cases okB b.1 p with
 | false=>rfl
 | true=>rw[vY rfl rfl,kJ hp];rfl
def zNe {b c:Bx}(hb:Sm b)(hc:Sm c):zZu [bxD c,bxD b]=some (.bl<|wiB c b):=by
 show(aZ [.fz _,.fz _,.no,.no]).bind wG=_;refine yM J ?_;unfold zWp;rw[uJ];unfold zZQ tB1 wiB;rw[vY rfl rfl,zS4 hb hc.1];cases hoB b c.1 with
 | false=>rfl
 | true=>rw[vY rfl rfl,zS4 hb hc.2];rfl
def zGf {m:kg}(hf:f O=some (mtD m))(hl:m.length < 64):eY f O=some ((tD m).map .str):=by unfold eY;rw[hf];show(zXO _).bind _=_;rw[show zXO (mtK m)=some m from zW8 m,Qt,Qg hl]
theorem zOh:∀l:kg,qL (l.map .str)=true
 | []=>rfl
 | _::r=>by show(lK _&&qL _)=true;rw[zOh r];rfl
def zXD (l:kg):(tD l).Perm l:=by have:=(zYh<|l.map prS).map (·.2);rw[Wk] at this;exact this.trans<|by rw[show(_ ∘ prS)=id from rfl,List.map_id]
def Pl (ls:kd):Prop:=qL ls=true/\zXW (eqD 7) ls ls=some true/\ls.length<=90000
theorem zRX {α:Type}{f:α->D}(h1:∀a,lK (f a)=true)(h2:∀a,eqD 7 (f a) (f a)=some true):∀l:List α,qL (l.map f)=true/\zXW (eqD 7) (l.map f) (l.map f)=some true
 | []=>⟨J,J⟩
 | a::r=>by obtain⟨q1,q2⟩:=zRX h1 h2 r;rw[Qx];unfold qL zXW;rw[h1,h2,q1,q2];exact⟨J,J⟩
def zFM (l:kg)(h:l.length<=90000):Pl<|l.map .str:=by obtain⟨q1,q2⟩:=zRX (f:=D.str) (λ_=>rfl) (zO9 6) l;exact⟨q1,q2,by rw[Qy];exact h⟩
def zEI (l:qe)(h:l.length<=90000):Pl<|l.map dIS:=by obtain⟨q1,q2⟩:=zRX (f:=dIS) (λ_=>rfl) (λp=>by show some (((p.1==p.1)&&((p.2==p.2)&&true))&&true)=_;simp) l;exact⟨q1,q2,by rw[Qy];exact h⟩
def zEx (l:List<|Str×Str)(h:l.length<=90000):Pl<|l.map dSS:=by obtain⟨q1,q2⟩:=zRX (f:=dSS) (λ_=>rfl) (λp=>by show some (((p.1==p.1)&&((p.2==p.2)&&true))&&true)=_;simp) l;exact⟨q1,q2,by rw[Qy];exact h⟩
def zCQ (l:qm)(h:l.length<=90000):Pl<|l.map dE:=by obtain⟨q1,q2⟩:=zRX (f:=dE) (λ_=>rfl) (λp=>by show some (((p.f==p.f)&&((p.l==p.l)&&((p.z==p.z)&&true)))&&true)=_;simp) l;exact⟨q1,q2,by rw[Qy];exact h⟩
section
variable (hn:4<=n) (h12:n<=50) (hv:Lv dm L){R:Bx->kl} (hR:RO (!14) dm L R) (hs:Nms ns) (hI:Iv ns R dm L n r kb kt)
include hn h12 hv hR hs hI
def zLa {b:Bx}(hb:Gd dm L b):∃m:kg,Mt (keys kb) m/\m.length < 64/\tR [yv (!14) L n r kb,bxD b]=some ((tD m).map .str):=by
 have hL:L<=100:=by rcases hv with h | h<;>lia
 have h7:=hI.seven hs;have hle:=hI.le hR;have hk:(keys kb).length=kb.length:=by unfold keys;rw[Qy]
 obtain⟨s1,s2,s3⟩:=hR b hb;obtain⟨m,y3,y4,y5,h1,h3⟩:=zPg (cv:=!14) (L:=L) (kb:=kb) (bD:=.fz<|bxD b) hn h12 hI.ok jc (K:=keys kb) jc (λe he=>zOY<|hI.pm.subset he) (R b) [] .no .no .no ⟨.nil,λ_ h=>by cases h⟩;have hm:=h1.len;refine⟨m,h1,jc,?_⟩;have ef:=zYe (nm:=nm) (n:=dm) (m:=n) (r:=r) (kb:=kb) (j:=j) (ps:=ps) (L:=L) hL hb.bk.sm;rw[hb.2] at ef;have ef':qZ A1 Au 2 wY eV0 (!11) [.fz (!16),.fz<|bxD b,.no,.no,.no,.no]=some .non:=(zZ0 (xs:=yv1 (!14) L n r kb) (ns:=ydN) (ds:=[bxD b]) J J J ja).trans ef;show(qM [.fz (!16),.fz<|bxD b,.no,.no,.no,.no]).bind rR=_;refine zYC (O':=[.fz (!16),.fz<|bxD b,.no,.no,.no,.no]) (by unfold mN;rw[ef'];rfl)<|zYC (O':=[.fz (!16),.fz<|bxD b,.mu none<|mtD [],.no,.no,.no]) rfl<|zYC (O':=[.fz (!16),.fz<|bxD b,.mu none<|mtD m,y3,y4,y5]) ?_ ?_
 .unfold uG;have em:vK A1 Ah 2 vT eV0 (!11) [.fz (!16),.fz<|bxD b,.mu none<|mtD [],.no,.no,.no]=some (yG<|R b):=(vD (xs:=yv1 (!14) L n r kb) (ns:=ydN) (ds:=[bxD b]) J J J ja).trans<|zSS.trans s1;rw[gA<|vZ em];exact h3
 .unfold jT;rw[nR];show((eY eV2 [.fz (!16),.fz<|bxD b,.fz<|mtD m,y3,y4,y5]).bind _)=_;rw[zGf rfl jc,Qt,Qg<|zOh _]
def zKD {b:Bx}(hb:Gd dm L b):∃m:kg,m.length < 64/\kA [yv (!14) L n r kb,bxD b]=some (m.map .str):=by
 obtain⟨m,m1,m2,m3⟩:=zLa hn h12 hv hR hs hI hb;have hsm:=hb.bk.sm;have hl:=(zXD m).length_eq;refine⟨(tD m).filter λz=>match kb.lookup z with | some c=>wiB c b | none=>false,by have:=Ed (λz=>match kb.lookup z with | some c=>wiB c b | none=>false)<|tD m;lia,?_⟩;show(pA [.fz (!16),.fz<|bxD b]).bind rR=_;unfold pA;rw[nR];unfold yJ;have em:vK A1 BN 2 tR eV0 (!11) [.fz (!16),.fz<|bxD b]=some ((tD m).map .str):=(vD (xs:=yv1 (!14) L n r kb) (ns:=ydN) (ds:=[bxD b]) J J J ja).trans m3;rw[gA<|vZ em,Qt,uV (by rw[Qy];lia)];have:=iP (t:=tB1<|yZ 2 zZu<|zY (zVb (yT A1 AZ eV2) eV0) (!11)) (f:=D.str) (p:=λz=>match kb.lookup z with | some c=>wiB c b | none=>false) (rest:=[.fz<|bxD b,.fz (!16)]) (tD m) .no [] λz hz=>by obtain⟨c,e⟩:=Es.mp<|zV8.mpr<|m1.2 z<|(zXD m).subset hz;unfold tB1;rw[(vY ((zLK (kb:=kb) (z:=z) J (pE J).2.2.2).trans (by rw[e];rfl)) rfl).trans<|zNe hsm (hI.gd _<|zZj e).bk.sm,e];rfl
 exact this
def zMJ:∃m:List<|Str×Str,m.length < 64/\mD [yv (!14) L n r kb]=some (m.map dSS):=by
 have h7:=hI.seven hs;have hle:=hI.le hR;have hk:(keys kb).length=kb.length:=by unfold keys;rw[Qy]
 have hz:∀e∈rE r,e.z∈keys kb:=λe he=>zOY<|hI.pm.subset he;obtain⟨m,y2,y3,y4,y5,h1,h3⟩:=zLU (cv:=!14) (L:=L) (kb:=kb) hn h12 hI.ok jc (K:=keys kb) jc hz (rE r) [] .no .no .no .no hz ⟨.nil,λ_ h=>by cases h⟩;have hl:=h1.len jc;refine⟨zTL m,by rw[(zQU m).length_eq];exact hl,?_⟩;show(qY [.fz (!16),.no,.no,.no,.no,.no]).bind rR=_;refine zYC (O':=[.fz (!16),.pt [],.no,.no,.no,.no]) rfl<|zYC (O':=[.fz (!16),.pt m,y2,y3,y4,y5]) ?_ ?_
 .unfold uG;have em:vK Ad Bs 1 tX (yT A1 BR eV0) zS [.fz (!16),.pt [],.no,.no,.no,.no]=some ((rE r).map dE):=(vD (pE J).2.2.1 J J (!6)).trans<|zZO hn hI.ok jc;rw[gA<|vZ em];exact h3
 .unfold jL;rw[nR];exact Qg hl
def zPo {b:Bx}(hb:Gd dm L b)(hbk:Bk dm b)(w:Int):∃ls,Pl ls/\vA [yv (!14) L n r kb,.int w,bxD b]=some ls:=by
 have hL:L<=100:=by rcases hv with h | h<;>lia
 have h7:=hI.seven hs;have hle:=hI.le hR;have hk:(keys kb).length=kb.length:=by unfold keys;rw[Qy]
 have gk:∀q∈kb,Bk dm q.2:=λq hq=>(hI.gd q hq).bk;have st:∀(k:Int) (e:Lf) (g:Sf),(∃ls,Pl ls/\e [.fz (!16),.fz<|.int w,.fz<|bxD b]=some ls)->(∃ls,Pl ls/\(g [.fz (!16),.fz<|.int w,.fz<|bxD b]).bind rR=some ls)->∃ls,Pl ls/\(zH (sIf (eB2 gEq eV1<|eC<|.int k) (wN e) wC) g [.fz (!16),.fz<|.int w,.fz<|bxD b]).bind rR=some ls:=λk e g ⟨l1,p1,e1⟩ ⟨l2,p2,e2⟩=>by
  by_cases h:w=k
  .exact⟨l1,p1,zTX ((bO J).trans<|by rw[Qb h]) e1⟩
  .exact⟨l2,p2,zYC ((nF<|(bO (x:=w) J).trans<|by rw[Wu h]).trans rfl) e2⟩
 have y1:eV0 [.fz (!16),.fz<|.int w,.fz<|bxD b]=some (.obj A1 ydN<|yv1 (!14) L n r kb):=rfl;refine st 0 _ _ ⟨_,zFM (tD<|keys kb) (by rw[(zXD _).length_eq];lia),(vD (m:=CG) (ds:=[]) y1 J J ja).trans ?_⟩<|st 1 _ _ ?_<|st 2 _ _ ?_<|st 3 _ _ ?_<|st 4 _ _ ?_ ⟨_,zCQ (rE r) jc,?_⟩
 .show(mO [.fz (!16)]).bind rR=_;unfold mO;rw[nR];unfold eY;rw[(pE J).2.2.2];show(zXO _).bind _=_;rw[show zXO _=some (keys kb) from(by have:=zW8<|keys kb;unfold keys at this;rw[Wk] at this;exact this),Qt,Qg jc]
 .obtain⟨m,m1,m2⟩:=zKD hn h12 hv hR hs hI hb;exact⟨_,zFM m jc,(vD y1 (ds:=[bxD b]) J J ja).trans m2⟩
 .obtain⟨m,m1,m2,m3⟩:=zLa hn h12 hv hR hs hI hb;exact⟨_,zFM (tD m) (by rw[(zXD _).length_eq];lia),(vD y1 (ds:=[bxD b]) J J ja).trans m3⟩
 .obtain⟨qs,q1,q2⟩:=zFt (nm:=nm) (j:=j) (ps:=ps) (m:=n) (r:=r) hL (p:=b.2) (by have:=hbk.2.2.1;have:=hbk.1;lia) (k:=3) (Ej.mp hb.2).2 gk jc;obtain⟨qs',ec,lc⟩:∃qs':qe,jW (qs.map dIS) none (some 3)=qs'.map dIS/\qs'.length<=qs.length:=⟨_,by unfold jW;rw[<-List.map_drop,<-Oz],by rw[Wx,Ey];lia⟩
  rw[ec] at q2;exact⟨_,zEI qs' jc,(vD y1 (ds:=[yR b.2,.int 3]) J J ja).trans q2⟩
 .obtain⟨m,m1,m2⟩:=zMJ hn h12 hv hR hs hI;exact⟨_,zEx m jc,(vD y1 (ds:=[]) J J ja).trans m2⟩
 .unfold jK;rw[nR];exact(vD (pE J).2.2.1 J J (!6)).trans (zZO hn hI.ok jc)
end
def zEh (h:Lv dm L):dm=2\/dm=3:=by rcases h with h | h<;>lia
def zGD (h:Lv dm L):L<=62:=by rcases h with h | h<;>lia
def zNS (e1:f O=some d)(e2:O[i]?=some (.ow ds))(e3:ds.length<=90000):zZo i f O=some (.nx<|O.set i<|.ow<|ds++[d]):=by unfold zZo;rw[e1,e2];exact Qg<|show _ < 100000 by lia
def kpD (a:kd):D:=.tup [.lst a,.lst a]
def zDR {a:kd}(h:Pl a):bE (.lst a) (.lst a)=some false:=by
 unfold bE;rw[show eqD 8 (.lst a) (.lst a)=some true from ?_]
 .rfl
 .show(if _=_ then zXW (eqD 7) a a else some false)=_;rw[Qg rfl,h.2.1]
section
variable{A:D}{b:Bx}{w:Wd}{bd:Bx}{c:Int}
abbrev Fr (A:D)(ns:kg)(nm:Str)(j:Bool)(ps:List Pt)(dm L n:Nat)(r:Rt)(kb:Kb)(as:List kd)(x8 x9 x10 x11 x12 x13 x14:B):ki:=[.fz A,.fz<|.int (dm:Nat),.fz (!17),.fz<|.lst<|ns.map .str,.fz<|.int (n:Nat),.fz (!14),.yl [yv (!14) L n r kb,yv (!14) L n r kb],.ow<|as.map kpD,x8,x9,x10,x11,x12,x13,x14,.no,.no]
variable (hn:4<=n) (h12:n<=50) (hv:Lv dm L){R:Bx->kl} (hR:RO (!14) dm L R) (hs:Nms ns)
include hn h12 hv hR hs
def zLH (hI:Iv ns R dm L n r kb kt)(hb:Gd dm L b)(hbk:Bk dm b)(c:Int)(t:Nat)(ht:t < 3)(as:List kd)(ha:as.length<=1000)(x9 x12 x13 x14:B):∃a y12 y13 y14,Pl a/\zZH (Fr A ns nm j ps dm L n r kb as (.fz<|.int c) x9 (.fz<|bxD b) (.fz<|.int<|0+(t:Nat)) x12 x13 x14)=some (.nx<|Fr A ns nm j ps dm L n r kb (as++[a]) (.fz<|.int c) x9 (.fz<|bxD b) (.fz<|.int<|0+(t:Nat)) y12 y13 y14):=by
 obtain⟨q,eq⟩:∃q:Int,wO (uB (eV 8)<|fW (eV 11)<|uB jq<|fW (wO (uL (eV 8) jw) jr) ju) jw (Fr A ns nm j ps dm L n r kb as (.fz<|.int c) x9 (.fz<|bxD b) (.fz<|.int<|0+(t:Nat)) x12 x13 x14)=some (.int q):=⟨_,yY (yY J (yY J (yY J (yY (yY (!29) J J) rfl<|dW jc jc) J)<|dW jc jc) J) J J⟩
 obtain⟨a,pa,ea⟩:=zPo (nm:=nm) (j:=j) (ps:=ps) hn h12 hv hR hs hI hb hbk q;have la:(as.map kpD).length<=90000:=by rw[Qy];lia
 refine⟨a,.fz<|.int q,.ow (a++[D.str "z"]).reverse,.fz<|.lst a,pa,(zZ4 eq).trans<|(xG (O':=Fr A ns nm j ps dm L n r kb as (.fz<|.int c) x9 (.fz<|bxD b) (.fz<|.int<|0+(t:Nat)) (.fz<|.int q) (.ow a) x14) ?_).trans<|(zZ4 (d:=.lst a) ?_).trans<|(xG (O':=Fr A ns nm j ps dm L n r kb as (.fz<|.int c) x9 (.fz<|bxD b) (.fz<|.int<|0+(t:Nat)) (.fz<|.int q) (.ow a)<|.fz<|.lst a) ?_).trans<|(xG<|zNS (i:=7) (d:=kpD a) (ds:=as.map kpD) rfl rfl la).trans<|(xG<|zNS (i:=13) (d:=.str "z") (ds:=a) rfl rfl pa.2.2).trans ?_⟩
 .unfold pS;show(((uN 3 vA (zY (eIx eV6 jp)<|zY (eV 12)<|zY (eV 10) zS) [.fz A,.fz<|.int (dm:Nat),.fz (!17),.fz<|.lst<|ns.map .str,.fz<|.int (n:Nat),.fz (!14),.fz<|.lst [yv (!14) L n r kb,yv (!14) L n r kb],.ow<|as.map kpD,.fz<|.int c,x9,.fz<|bxD b,.fz<|.int<|0+(t:Nat),.fz<|.int q,x13,x14,.no,.no]).bind _).map _)=_;rw[(zWs (x:=!16) J J J).trans ea,Qt,Qg pa.1];rfl
 .show((eL (uN 3 vA<|zY (eIx eV6 jq)<|zY (eV 12)<|zY (eV 10) zS) [.fz A,.fz<|.int (dm:Nat),.fz (!17),.fz<|.lst<|ns.map .str,.fz<|.int (n:Nat),.fz (!14),.fz<|.lst [yv (!14) L n r kb,yv (!14) L n r kb],.ow<|as.map kpD,.fz<|.int c,x9,.fz<|bxD b,.fz<|.int<|0+(t:Nat),.fz<|.int q,.ow a,x14,.no,.no]).bind _)=_;rw[vZ<|(zWs (x:=!16) J J J).trans ea,Qt,Qg<|show lK (.lst a)=true from pa.1]
 .have e:zNP 13 (zIi (sD<|tB1<|zEW zNM<|eV 13)<|eB2 bE (eV 13)<|eV 14) (Fr A ns nm j ps dm L n r kb as (.fz<|.int c) x9 (.fz<|bxD b) (.fz<|.int<|0+(t:Nat)) (.fz<|.int q) (.ow a)<|.fz<|.lst a)=some false:=zDR pa;exact(nF e).trans J
 .show some (Out.nx<|Fr A ns nm j ps dm L n r kb as (.fz<|.int c) x9 (.fz<|bxD b) (.fz<|.int<|0+(t:Nat)) (.fz<|.int q) (.ow (a++[D.str "z"]).reverse) (.fz<|.lst a) |>.set 7 (.ow<|as.map kpD++[kpD a]))=_;unfold Fr;rw[Wv];rfl
def zJg (hI:Iv ns R dm L n r kb kt)(as:List kd)(ha:as.length<=900)(hp:∀a∈as,Pl a)(c:Int)(x9 x10 x11 x12 x13 x14:B):∃r' kb' kt' as' y9 y10 y11 y12 y13 y14,Iv ns R dm L n r' kb' kt'/\as'.length=as.length+3/\(∀a∈as',Pl a)/\zZl (Fr A ns nm j ps dm L n r kb as (.fz<|.int c) x9 x10 x11 x12 x13 x14)=some (.nx<|Fr A ns nm j ps dm L n r' kb' as' (.fz<|.int c) y9 y10 y11 y12 y13 y14):=by
 have hd:=zEh hv;obtain⟨w,z,m,bd,zn,hbd,ed⟩:=zHD hd (zGD hv) c hs;obtain⟨r',kb',e,i'⟩:=zMV (nm:=nm) (j:=j) hn h12 hv hR hs hI (w:=w) zn hbd;generalize(if xW w (kt.lookup z).isSome (flB dm L bd)=none then nxT kt z bd w else kt)=kt' at i';generalize wrd (xW w (kt.lookup z).isSome<|flB dm L bd)=x at e;obtain⟨b,hb2,f2,eb⟩:=zPI hd (zGD hv) c 70 jb;have gb:Gd dm L b:=⟨⟨_,hb2⟩,f2⟩
 obtain⟨O',ef,as',y11,y12,y13,y14,l1,p1,rfl⟩:=iW (g:=gN 11) (body:=zZH) (P:=λi O=>∃as' y11 y12 y13 y14,as'.length=as.length+i/\(∀a∈as',Pl a)/\O=Fr A ns nm j ps dm L n r' kb' as' (.fz<|.int c) (.fz<|deD w z bd) (.fz<|bxD b) y11 y12 y13 y14) (pL 0 3) 0 (λi d hd' O hO=>by
  obtain⟨hi,rfl⟩:=eU hd';obtain⟨as',y11,y12,y13,y14,l1,p1,rfl⟩:=hO;rw[Yt] at l1 ⊢;obtain⟨a,z12,z13,z14,pa,ea⟩:=zLH (A:=A) (nm:=nm) (j:=j) hn h12 hv hR hs i' gb hb2 c i jc as' jc (.fz<|deD w z bd) y12 y13 y14;exact⟨_,_,J,ea,as'++[a],_,_,_,_,by rw[Qp,l1];rfl,λq hq=>by
   rcases v6 hq with h | h
   .exact p1 q h
   .rw[Qv.mp h];exact pa,rfl⟩) (Fr A ns nm j ps dm L n r' kb' as (.fz<|.int c) (.fz<|deD w z bd) (.fz<|bxD b) x11 x12 x13 x14) ⟨as,_,_,_,_,rfl,hp,rfl⟩
 refine⟨r',kb',kt',as',.fz<|deD w z bd,.fz<|bxD b,y11,y12,y13,y14,i',l1,p1,(zZ4<|(zO8 J J J J).trans ed).trans<|(zZ4<|(zO8 J J J J).trans eb).trans<|(xG (O':=Fr A ns nm j ps dm L n r' kb' as (.fz<|.int c) (.fz<|deD w z bd) (.fz<|bxD b) x11 x12 x13 x14) ?_).trans ef⟩;have e2:zTn bE (uO (lnY 6 jp) 1 xM<|zY (eV 9) zS) (uO (lnY 6 jq) 1 xM<|zY (eV 9) zS) (Fr A ns nm j ps dm L n r kb as (.fz<|.int c) (.fz<|deD w z bd) (.fz<|bxD b) x11 x12 x13 x14)=some (false,Fr A ns nm j ps dm L n r' kb' as (.fz<|.int c) (.fz<|deD w z bd) (.fz<|bxD b) x11 x12 x13 x14):=by
  have u1:uO (lnY 6 jp) 1 xM (zY (eV 9) zS) (Fr A ns nm j ps dm L n r kb as (.fz<|.int c) (.fz<|deD w z bd) (.fz<|bxD b) x11 x12 x13 x14)=some (.str x,[.fz A,.fz<|.int (dm:Nat),.fz (!17),.fz<|.lst<|ns.map .str,.fz<|.int (n:Nat),.fz (!14),.yl [yv (!14) L n r' kb',yv (!14) L n r kb],.ow<|as.map kpD,.fz<|.int c,.fz<|deD w z bd,.fz<|bxD b,x11,x12,x13,x14,.no,.no]):=by show(if [deD w z bd].length=1 then(gW xM 3 (!16) [deD w z bd]).map _ else none)=_;rw[e];rfl
  have u2:uO (lnY 6 jq) 1 xM (zY (eV 9) zS) [.fz A,.fz<|.int (dm:Nat),.fz (!17),.fz<|.lst<|ns.map .str,.fz<|.int (n:Nat),.fz (!14),.yl [yv (!14) L n r' kb',yv (!14) L n r kb],.ow<|as.map kpD,.fz<|.int c,.fz<|deD w z bd,.fz<|bxD b,x11,x12,x13,x14,.no,.no]=some (.str x,Fr A ns nm j ps dm L n r' kb' as (.fz<|.int c) (.fz<|deD w z bd) (.fz<|bxD b) x11 x12 x13 x14):=by show(if [deD w z bd].length=1 then(gW xM 3 (!16) [deD w z bd]).map _ else none)=_;rw[e];rfl
  unfold zTn;rw[u1,Qt,u2,Qt];unfold bE;rw[zO9];rfl
 exact(Wa (λo=>Option.bind o λq:Bool×ki=>if q.1=true then xS (eC<|.bl _) q.2 else wC q.2) e2).trans rfl
end
def zJj (cs:kh)(h63:cs.length<=63):zU6 [.lst<|cs.map .int]=some (.bl true):=by
 obtain⟨c0,e0⟩:=zO0 cs 0;obtain⟨c1,e1⟩:=zO0 cs 1;obtain⟨dm,hd,ed⟩:∃dm:Nat,(dm=2\/dm=3)/\2+c0 % 2=(dm:Nat):=⟨(2+c0 % 2).toNat,jc,jc⟩
 obtain⟨L,hv,eL⟩:=zL6 hd c0;obtain⟨ns,hs,es⟩:=zLf c1;obtain⟨v,hv0,ev⟩:=fG c1 5 1000033 jb jb jb jb;obtain⟨n,en,hn,h12⟩:∃n:Nat,4+v % 9=(n:Nat)/\4<=n/\n<=50:=⟨(4+v % 9).toNat,jc,jc,jc⟩
 obtain⟨nm,j,ps,ok,ec⟩:=zLN hd<|c0 / 2;obtain⟨R,hR⟩:=zEc hv ok nm j;obtain⟨ds,hds,hl⟩:∃ds:kh,jW (cs.map .int) (some 2) (some 12)=ds.map D.int/\ds.length<=63:=⟨_,by unfold jW;rw[<-List.map_drop,<-Oz],by rw[Wx,Ey];lia⟩
 generalize hA:D.lst (cs.map .int)=A at e0 e1;obtain⟨O',e,r,kb,kt,as,x8,x9,x10,x11,x12,x13,x14,rfl,i,la,pa⟩:=iW (g:=gN 8) (body:=zZl) (P:=λi O=>∃r kb kt as x8 x9 x10 x11 x12 x13 x14,O=Fr A ns nm j ps dm L n r kb as x8 x9 x10 x11 x12 x13 x14/\Iv ns R dm L n r kb kt/\as.length=3*i/\∀a∈as,Pl a) (ds.map D.int) 0 (λi d hd' O hO=>by
  obtain⟨hi,c,hc,rfl⟩:i < ds.length/\∃c,ds[i]?=some c/\D.int c=d:=by rw[Wh] at hd';obtain⟨c,q1,q2⟩:=k9 hd';exact⟨(v5 q1).1,c,q1,q2⟩
  obtain⟨r,kb,kt,as,x8,x9,x10,x11,x12,x13,x14,rfl,i',la,pa⟩:=hO;rw[Yt] at la ⊢;obtain⟨r',kb',kt',as',y9,y10,y11,y12,y13,y14,j1,j2,j3,e⟩:=zJg (A:=A) (nm:=nm) (j:=j) hn h12 hv hR hs i' as jc pa c x9 x10 x11 x12 x13 x14;exact⟨_,_,J,e,r',kb',kt',as',_,_,_,_,_,_,_,J,j1,jc,j3⟩) (Fr A ns nm j ps dm L n ⟨0,[]⟩ [] [] .no .no .no .no .no .no .no) ⟨⟨0,[]⟩,[],[],[],_,_,_,_,_,_,_,rfl,⟨RtOk.nil,.nil,(λ_ h=>by cases h),.nil,.nil,(λ_=>rfl),λ_ h=>by cases h⟩,rfl,λ_ h=>by cases h⟩
 refine yC (d:=.int (dm:Nat)) (by rw[<-ed];exact yY J (yY ((vY J J).trans e0) J J) J)<|yC ((vY ((vY J J).trans e0) J).trans eL)<|yC ((zZ7<|(vY J J).trans e1).trans es)<|yC (d:=.int (n:Nat)) (by rw[<-en];exact yY J (yY ((vL ((vY J J).trans e1) J J).trans ev) J J) J)<|yC ((vY (yY ((vY J J).trans e0) J J) J).trans ec)<|yM (O':=[.fz A,.fz<|.int (dm:Nat),.fz (!17),.fz<|.lst<|ns.map .str,.fz<|.int (n:Nat),.fz (!14),.yl [yv (!14) L n ⟨0,[]⟩ [],yv (!14) L n ⟨0,[]⟩ []],.no,.no,.no,.no,.no,.no,.no,.no,.no,.no]) rfl<|yM (O':=Fr A ns nm j ps dm L n ⟨0,[]⟩ [] [] .no .no .no .no .no .no .no) rfl<|yM (O':=Fr A ns nm j ps dm L n r kb as x8 x9 x10 x11 x12 x13 x14) ?_ ?_
 .unfold uG;have src:vN eV0 (vX jr) (vX<|eC<|.int 12) (Fr A ns nm j ps dm L n ⟨0,[]⟩ [] [] .no .no .no .no .no .no .no)=some (ds.map D.int):=by
   rw[<-hA];show some (jW _ _ _)=_;rw[hds]
  exact(Wa (λo=>Option.bind o _) src).trans e
 obtain⟨ρ2,e2,y15,y16,rfl⟩:=zQT (g:=gT<|zM (gN 15)<|zM (gN 16) xZ) (body:=zS9) (P:=λO=>∃y15 y16,O=[.fz A,.fz<|.int (dm:Nat),.fz (!17),.fz<|.lst<|ns.map .str,.fz<|.int (n:Nat),.fz (!14),.yl [yv (!14) L n r kb,yv (!14) L n r kb],.fz<|.lst<|as.map kpD,x8,x9,x10,x11,x12,x13,x14,y15,y16]) (as.map kpD) (λd hd' O ⟨y15,y16,hy⟩=>by obtain⟨a,ha,rfl⟩:=v7 hd';subst hy;refine⟨_,_,J,(nF (b:=false)<|zDR<|pa a ha).trans J,_,_,J⟩) [.fz A,.fz<|.int (dm:Nat),.fz (!17),.fz<|.lst<|ns.map .str,.fz<|.int (n:Nat),.fz (!14),.yl [yv (!14) L n r kb,yv (!14) L n r kb],.fz<|.lst<|as.map kpD,x8,x9,x10,x11,x12,x13,x14,.no,.no] ⟨_,_,rfl⟩
 exact yM e2 J
end My
set_option maxRecDepth 100000 in
set_option maxHeartbeats 0 in
theorem PySem.Challenge.cw_curveyard_k41_lists_of_the_asker_holds : PySem.Challenge.rw_curveyard_k41_lists_of_the_asker.Holds := by
 w_on
 refine PySem.W.holds_law My.zIA fun said=>?_;refine PySem.W.holds_open (r:=PySem.Challenge.rw_curveyard_k41_lists_of_the_asker.row) (q:=My.gY) (loose:=My.loose) (XP:=PySem.W.XL My.gY []) (YP:=PySem.W.InK My.zWk) My.zIx (PySem.W.InK.of My.zQY) PySem.W.InK.keeps (fun s e=>PySem.W.xl_of s (Ej.mp e).1) PySem.W.XL.keeps jg jg jg (fun s e=>PySem.W.recFacts_of (Ej.mp e).2) jg (by assumption) ja ⟨rfl,rfl,rfl,rfl,rfl,ja⟩ ?hw ?hc
 case hw=>w_witness2
 k_fill
 refine L2.zIf (l:=PySem.Challenge.rw_curveyard_k41_lists_of_the_asker) (n:=63) (k:=28) (x:="_law_script") (CX:=fun _=>L2.CX0) (sp:=fun w=>L2.spF _ 1 My.zU6) rfl jb rfl ⟨rfl,jb,jb⟩ (fun w h Y=>Y) ?F (fun w H a ns hl hO hS=>My.zGi hS (My.zJj ns hl)) (fun _ _ _ _ _ z=>z)
 case F =>
   intro w mg fa h KX G hmg;refine' My.zEX KX G hmg ?g0 ?g1 ?g2 ?g3 ?g4 ?g5 ?g6 ?g7 ?g8 ?g9 ?g10 ?g11 ?g12 ?g13 ?g14 ?g16 ?g17 ?g18 ?g19 ?g20 ?g21 ?g22 ?g23 ?g24 ?g25 ?g26 ?g27 ?g28 ?g29 ?g30 ?g32 ?g33 ?g34 ?g35 ?g36 ?g37 ?g43 ?g44 ?g48 ?g49 ?g52 ?g53 ?g54 ?g58 ?g59 ?g62 ?g63 ?c0 ?c1 ?c2 ?c3 ?c4 ?m15 ?m31 ?m38 ?m39 ?m40 ?m41 ?m42 ?m45 ?m46 ?m47 ?m50 ?m51 ?m55 ?m56 ?m57 ?m60 ?m61 ?x0 ?x1 ?x2 ?x3 ?x4 ?x5 ?x6 ?x7 ?x8 ?ix_ValueError ?ix_OffFloor ?ix_NoThing ?ix_Twice ?iy_0 ?em_YardError_OffFloor ?em_YardError_Twice ?em_YardError_NoThing ?zz
   all_goals (try exact⟨_,_,_,_,_,_,_,_,_,_,jh,jh,jh,jh⟩)
   (case c0=>exact⟨jh,⟨_,_,_,_,_,_,_,_,_,_,jh,jh,jh,jh,jh⟩,jh,jh,jh,jh,jh,jh,jf⟩)
   (case c1=>exact⟨jh,⟨_,_,_,_,_,_,_,_,_,_,jh,jh,jh,jh,jh⟩,jh,jh,jh,jh,jh,jh,jf⟩)
   (case c2=>exact⟨jh,⟨_,_,_,_,_,_,_,_,_,_,jh,jh,jh,jh,jh⟩,jh,jh,jh,jh,jh,jh,jf⟩)
   (case c3=>exact⟨jh,⟨_,_,_,_,_,_,_,_,_,_,jh,jh,jh,jh,jh⟩,jh,jh,jh,jh,jh,jh,jf⟩)
   (case c4=>exact⟨jh,⟨_,_,_,_,_,_,_,_,_,_,jh,jh,jh,jh,jh⟩,jh,jh,jh,jh,jh,jh,jf⟩)
   all_goals (try exact⟨_,_,_,_,_,_,_,_,_,_,jh,jh,jh,jh,jh⟩)
   all_goals (try exact⟨jh,jf,jh,jf⟩)
   all_goals (try k_is)
   all_goals kernel_rfl

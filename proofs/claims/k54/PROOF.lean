import PyProof.Rows.All
import Wide.All
import OpenK.AllK
import Wide.FinOn
import Lean
import PyProof.EqAt
import PyProof.EqKinds
import PyProof.TupleCall
import KE.KDictLaws
import KE.KDictList
import KE.KDictSum
import KE.KIsAll
import KE.KSortTup
import KE.KUnpack
import KE.KUnpackStar
import PyProof.AttrMissSeq
import PyProof.CallStr
import PyProof.Conv_int_bool
import PyProof.DictItems
import PyProof.DictIter
import PyProof.DictList
import PyProof.EnumFor
import PyProof.EnumMake
import PyProof.EnumStmt
import PyProof.ExcArgsOwn
import PyProof.ExcAttrAll.ValueError
import PyProof.ExcBaseAll.ValueError
import PyProof.FitsInt
import PyProof.NeKinds
import PyProof.NsDelKeeps
import PyProof.Rows.CatchOwn
import PyProof.Rows.CountFlat
import PyProof.Rows.EnumRows
import PyProof.Rows.FStr
import PyProof.Rows.SeqMore
import PyProof.Rows.SortRev
import PyProof.Rows.StrSplitJoin
import PyProof.Rows.StrWeight2
import PyProof.Rows.TupDisplay
import PyProof.RulesTry
import PyProof.SetNew
import PyProof.SetRoads
import PyProof.StationsW
import PyProof.TupleKey
import PyProof.WalkInts
import PyProof.ZipIter
import PySem.Challenge.RW_threewebs_k54_kinds_of_the_other_net
local macro_rules|`(tactic|omega)=>`(tactic|first|lia|omega +splitDisjunctions)
local macro_rules|`(⋯)=>`(by omega)
local macro_rules|`(∅)=>`(by decide)
local macro_rules|`(⇑$x)=>`(some (.ref $x))
local macro_rules|`(↑$x)=>`(($x).heap.objs.size)
local macro_rules|`($x⁻¹)=>`(by simpa using $x)
local macro_rules|`(↥1)=>do let i:=Lean.mkIdent;`($(i `wpAny) ($(i `model) $(i `U) $(i `w)) $(i `A))
local macro_rules|`(↥2)=>do let i:=Lean.mkIdent;`($(i `wpAny) ($(i `model) $(i `X.U) $(i `X.w)) $(i `X.A))
local macro_rules|`(↥3)=>do let i:=Lean.mkIdent;`($(i `Inv) $(i `X) $(i `O) $(i `σ) $(i `H) $(i `s))
local macro_rules|`(↥4)=>do let i:=Lean.mkIdent;`($(i `aE) $(i `P) $(i `w) $(i `K) $(i `mg) $(i `Z) $(i `bK))
local macro_rules|`(↥5)=>do let i:=Lean.mkIdent;`($(i `other) $(i `n) $(i `e))
local macro_rules|`(↥6)=>do let i:=Lean.mkIdent;`($(i `aP) $(i `P) $(i `w) $(i `K) $(i `mg) $(i `Z))
local macro_rules|`(↥7)=>do let i:=Lean.mkIdent;`($(i `aP) $(i `l.prog) $(i `w) $(i `K) $(i `mg) $(i `Z))
local macro_rules|`(↥8)=>do let i:=Lean.mkIdent;`($(i `ts.map) $(i `V.ref))
local macro_rules|`(↥9)=>do let i:=Lean.mkIdent;`($(i `List) $(i `Addr))
local macro_rules|`(↥10)=>do let i:=Lean.mkIdent;`($(i `cQ) $(i `scope.names) $(i `X.env.cells))
local macro_rules|`(↥11)=>do let i:=Lean.mkIdent;`($(i `X.env.cells.lookup) $(i `x))
local macro_rules|`(↥12)=>do let i:=Lean.mkIdent;`($(i `it) ($(i `two) $(i `n)))
local macro_rules|`(↥13)=>do let i:=Lean.mkIdent;`(($(i `fY) $(i `X) $(i `N') $(i `scope) $(i `cl) $(i `C) $(i `æ) $(i `ç) $(i `ex)))
local macro_rules|`(↥14)=>do let i:=Lean.mkIdent;`($(i `it) ($(i `step) $(i `n)))
local macro_rules|`($a≈$b)=>`($a=some $b)
abbrev Í:=PySem.Value->PySem.Shared->Prop
abbrev Î:=List (PySem.Addr×PySem.Addr)
abbrev Ï:=List (PySem.Addr×PySem.Obj)
abbrev Ð:=List PySem.Str
abbrev Ñ:=PySem.Str->Option PySem.Value
abbrev Ò:=List PySem.Value
abbrev Ó:=List PySem.Expr
abbrev Ô:=List PySem.Stmt
abbrev BJ:=@PySem.wpAny_bind
abbrev BK:=@PySem.wpAny_pure
abbrev BL:=@if_neg
abbrev BP:=@if_pos
abbrev BR:=@decide_eq_false
abbrev BW:=@decide_eq_true
abbrev BX:=@of_decide_eq_true
abbrev BZ:=@congrArg
abbrev CG:=@PySem.wpAny_setState_of
abbrev CJ:=@PySem.wpAny_holding
abbrev CK:=@Ne.symm
abbrev CN:=@decide_eq_true_iff
abbrev CP:=@if_false
abbrev CQ:=@Classical.byContradiction
abbrev CT:=@PySem.Heap.SameBut.update
abbrev CV:=@PySem.W.mg_none_of
abbrev CW:=@PySem.wpAny_mono
abbrev CZ:=@if_true
abbrev DG:=@PySem.wpAny_call_entry
abbrev DK:=@PySem.mem_of_lookup
abbrev DN:=@PySem.wpAny_newObj_type
abbrev DQ:=@decide_eq_true_eq
abbrev DR:=@PyProof.Rows.boot_sorted
abbrev DW:=@PySem.wpAny_setField
abbrev DX:=@PySem.sizeLine_eq
abbrev DY:=@PySem.boot_len
abbrev EY:=@PySem.wpAny_truthy_bool
abbrev FJ:=@PySem.W.kia_one
abbrev FN:=@PySem.F.plainAttrs_list
abbrev FP:=@PySem.Around.under_plainId
abbrev FQ:=@PySem.wpAny_storeSet_of
abbrev FT:=@PySem.codeAny_builtin
abbrev FW:=@PySem.tupleKind_room_in1
abbrev FZ:=@beq_self_eq_true
abbrev GJ:=@PyProof.Rows.wpS_bind
abbrev GQ:=@or_false
abbrev GX:=@PySem.wpAny_standAt
abbrev GZ:=@decide_eq_false_iff_not
abbrev HD:=@bne_self_eq_false
abbrev HJ:=@Prod.ext
abbrev HN:=@PySem.wpAny_typeNameOfWhole_itemiter
abbrev HS:=@PySem.F.slot_dict_itemiterator_next
abbrev HW:=@PySem.Calls.callWith_builtin
abbrev HX:=@PySem.wpAny_rule
abbrev HY:=@beq_iff_eq
abbrev IK:=@PyProof.Rows.callWith_type1
abbrev IV:=@PyProof.Rows.F.plain_set_update_loop
abbrev IW:=@of_decide_eq_false
abbrev JB:=@PySem.wpAny_passesOwn
abbrev JC:=@PySem.wpAny_typeNameOf_itemiter
abbrev JD:=@PySem.F.slot_set_contains
abbrev JF:=@PySem.wpAny_of_eq
abbrev JG:=@PySem.wpAny_callSpecial?_slot
abbrev JH:=@PySem.plainId_quiet
abbrev JK:=@PySem.wpAny_setField_rec
abbrev JL:=@PySem.W.cellsFrom_some
abbrev JM:=@PyProof.Rows.wpS_pure
abbrev JN:=@PySem.wpAny_field
abbrev JQ:=@PySem.codeAny_mono
abbrev JR:=@PySem.wpAny_typeOf
abbrev JT:=@PyProof.Rows.boot_set
abbrev JV:=@PyProof.Rows.boot_isinstance
abbrev JW:=@PySem.Calls.evalArgs_plain
abbrev JX:=@PySem.wpAny_askSetting
abbrev JZ:=@PySem.wpAny_isInstance
abbrev KC:=@PySem.wpAny_newList
abbrev KD:=@PySem.wpAny_setEntries_of
abbrev KH:=@PySem.wpAny_specialOf
abbrev KJ:=@PySem.codeAny_of_tree
abbrev KN:=@PySem.W.KasT.kasWp_bind
abbrev KQ:=@PySem.wpAny_Call_Name_kw
abbrev KR:=@PySem.wpAny_comprehension_free
abbrev KY:=@PyProof.Rows.F.entry_set_update_loop
abbrev KZ:=@PySem.wpAny_seqItems
abbrev LC:=@PySem.wpAny_setEpoch_of
abbrev LK:=@PySem.wpAny_pyIter_slot
abbrev LQ:=@Bool.not_eq_true'
abbrev LR:=@PySem.wpAny_Call_method_late
abbrev MF:=@PySem.wpAny_isOneOf_itemiter
abbrev MJ:=@PySem.wpAny_callSpecialUnlessNone?_slot
abbrev MK:=@List.eraseIdx_append_of_lt_length
abbrev MN:=@PyProof.Rows.boot_list
abbrev MP:=@PySem.W.mg_of
abbrev NK:=@PySem.wpAny_attempt
abbrev NQ:=@PyProof.Rows.listUpdate_at
abbrev NZ:=@PySem.wpAny_forIn_list
abbrev OD:=@List.Perm.append_left
abbrev OJ:=@PySem.builtinLookup_eq_fast
abbrev PB:=@PySem.Obj.isFreed_of_fields
abbrev PJ:=@List.eraseIdxIfInBounds_toArray
abbrev PK:=@PySem.F.args_dict_itemiterator_next_1
abbrev PL:=@PySem.call_meets
abbrev PN:=@PySem.PassesOwn.never
abbrev PX:=@PySem.strKind_is
abbrev QB:=@PyProof.Rows.listItems_at
abbrev QC:=@PyProof.Rows.wpS_forRange
abbrev QD:=@PySem.F.entry_dict_itemiterator_next
abbrev QF:=@PySem.F.slot_dict_itemiterator_iter
abbrev QG:=@PySem.entryFor_alias
abbrev QJ:=@PySem.wpAny_fieldsOf
abbrev QK:=@PySem.wpAny_newTuple
abbrev QL:=@PySem.wpAny_alloc
abbrev QM:=@PyProof.Rows.seqEpoch_at
abbrev QS:=@List.lookup_append
abbrev QT:=@Nat.lt_of_le_of_lt
abbrev QV:=@PySem.MeetsSeq2.wpAny_forIn_array
abbrev QW:=@List.zipIdx_append
abbrev QX:=@PySem.F.args_set_contains_2
abbrev QZ:=@PyProof.Rows.callWith_type0
abbrev RB:=@PySem.Obj.data_mapFields
abbrev RD:=@PyProof.Rows.joinParts_cons
abbrev RG:=@Nat.mod_two_eq_zero_or_one
abbrev RJ:=@PySem.wpAny_pyIter_list
abbrev RK:=@Option.isSome_map
abbrev RL:=@List.Pairwise.map
abbrev RM:=@PySem.wpAny_dictEntries
abbrev RN:=@Eq.symm
abbrev RP:=@List.ext_getElem
abbrev RQ:=@Nat.sub_self
abbrev RT:=@PySem.F.slot_list_insert
abbrev RV:=@PySem.F.type_list_insert
abbrev RW:=@List.eraseIdx_cons_succ
abbrev RX:=@List.getElem?_cons_zero
abbrev RZ:=@List.filter_cons_of_pos
abbrev SJ:=@PyProof.Rows.boot_tuple
abbrev SM:=@PySem.wpAny_execs_nil
abbrev SQ:=@List.of_mem_zip
abbrev SX:=@PySem.typeLookup_type
abbrev TF:=@PySem.wpAny_dictEpoch
abbrev TJ:=@List.getElem?_set_self
abbrev TQ:=@Array.toList_filterMap
abbrev TV:=@List.drop_of_length_le
abbrev TX:=@PySem.F.plainAttrs_set
abbrev TY:=@List.Perm.append_right
abbrev UG:=@List.getElem?_toArray
abbrev UJ:=@PyProof.Rows.boot_int
abbrev UL:=@PySem.F.plain_set_new
abbrev UW:=@Iff.rfl
abbrev VB:=@PyProof.Rows.boot_max
abbrev VD:=@PySem.F.slot_list_pop
abbrev VF:=@PySem.F.type_list_pop
abbrev VG:=@List.take_zero
abbrev VH:=@PySem.ofString_length
abbrev VJ:=@Bool.and_true
abbrev VL:=@Nat.lt_trans
abbrev VN:=@Nat.add_zero
abbrev VP:=@Nat.sub_zero
def Z0:0<=PySem.sizeLine:=∅
def Z2:2<=PySem.sizeLine:=∅
def Z1:1<=PySem.sizeLine:=∅
set_option Elab.async false
set_option linter.all false
set_option maxRecDepth 100000
set_option maxHeartbeats 4000000
abbrev Aa:=@List.length_map
abbrev Ab:=@List.getElem?_eq_getElem
abbrev Ac:=@List.getElem?_eq_some_iff
abbrev Ad:=@List.mem_singleton
abbrev Ae:=@List.mem_cons_self
abbrev Af:=@List.mem_cons_of_mem
abbrev Ag:=@List.length_append
abbrev Ah:=@List.getElem?_map
abbrev Ai:=@List.mem_cons
abbrev Aj:=@PySem.Heap.get?_push_of_some
abbrev Ak:=@List.mem_map
abbrev Al:=@List.map_append
abbrev Am:=@List.mem_append
abbrev An:=@Nat.le_refl
abbrev Ao:=@List.mem_of_getElem?
abbrev Ap:=@List.map_congr_left
abbrev Aq:=@Bool.false_eq_true
abbrev Ar:=@List.append_assoc
abbrev As:=@List.length_cons
abbrev At:=@PySem.Heap.get?_push_size
abbrev Au:=@List.mem_append_right
abbrev Av:=@PySem.Heap.lt_size
abbrev Aw:=@Bool.false_ne_true
abbrev Ax:=@List.getElem?_append_left
abbrev Ay:=@List.size_toArray
abbrev Az:=@Option.map_eq_some_iff
abbrev Ba:=@List.map_cons
abbrev Bb:=@List.mem_append_left
abbrev Bc:=@List.pairwise_iff_getElem
abbrev Bd:=@List.getElem?_append_right
abbrev Be:=@List.getElem?_of_mem
abbrev Bf:=@List.mem_filter
abbrev Bg:=@List.getElem?_eq_none
abbrev Bh:=@List.nodup_cons
abbrev Bj:=@Array.getElem?_toList
abbrev Bk:=@Int.toNat_natCast
abbrev Bm:=@List.contains_iff_mem
abbrev Bo:=@List.mem_range
abbrev Bp:=@List.append_nil
abbrev Bq:=@Nat.lt_of_lt_of_le
abbrev Br:=@List.length_take
abbrev Bs:=@List.map_map
abbrev Bt:=@List.getElem_mem
abbrev Bu:=@Array.length_toList
abbrev Bv:=@List.length_eq_zero_iff
abbrev Bw:=@Nat.ne_of_lt
abbrev Bx:=@Nat.zero_le
abbrev By:=@List.nodup_iff_pairwise_ne
abbrev Bz:=@Nat.mod_eq_of_lt
abbrev Ca:=@List.take_length
abbrev Cb:=@Bool.and_eq_true
abbrev Cc:=@List.not_mem_nil
abbrev Cd:=@List.nodup_nil
abbrev Ce:=@Array.getElem?_eq_getElem
abbrev Cf:=@Bool.eq_iff_iff
abbrev Cg:=@Int.emod_nonneg
abbrev Ch:=@Nat.le_trans
abbrev Ci:=@Nat.lt_succ_of_lt
abbrev Cj:=@List.take_add_one
abbrev Ck:=@List.mem_iff_getElem
abbrev Cm:=@PySem.Heap.get?_update_other
abbrev Cn:=@Int.emod_lt_of_pos
abbrev Co:=@List.nodup_append
abbrev Cp:=@List.flatMap_cons
abbrev Cq:=@List.perm_append_comm
abbrev Cr:=@List.flatten_cons
abbrev Cs:=@List.take_of_length_le
abbrev Ct:=@List.pairwise_cons
abbrev Cu:=@List.length_pos_iff
abbrev Cv:=@List.filter_append
abbrev Cw:=@List.take_append_drop
abbrev Cy:=@Nat.le_of_lt
abbrev Cz:=@Nat.ne_of_gt
abbrev Da:=@Nat.lt_or_ge
abbrev Db:=@Array.getD_eq_getD_getElem?
abbrev Dc:=@List.length_singleton
abbrev Dd:=@PySem.Heap.get?_update_self
abbrev De:=@Nat.lt_irrefl
abbrev Dg:=@List.length_eraseIdx
abbrev Dh:=@List.foldl_cons
abbrev Di:=@PySem.Heap.size_push
abbrev Dj:=@Nat.not_lt_zero
abbrev Dk:=@List.range_succ
abbrev Dl:=@List.count_cons
abbrev Dm:=@Bool.not_true
abbrev Do:=@List.filter_cons
abbrev Dp:=@List.flatMap_append
abbrev Dq:=@List.length_range
abbrev Dr:=@List.pairwise_map
abbrev Ds:=@List.count_pos_iff
abbrev Du:=@List.length_drop
abbrev Dv:=@Array.getElem?_eq_none
abbrev Dw:=@List.mem_flatten
abbrev Dx:=@List.getElem?_range
abbrev Dy:=@List.ext_getElem?
abbrev Dz:=@List.length_filter_le
abbrev Eb:=@List.getElem?_take_of_lt
abbrev Ec:=@List.lookup_cons
abbrev Ed:=@List.getElem_map
abbrev Ee:=@List.getElem?_cons_succ
abbrev Ef:=@Nat.mod_self
abbrev Eh:=@List.filterMap_cons
abbrev Ej:=@List.all_eq_true
abbrev Ek:=@Int.zero_add
abbrev El:=@Bool.eq_false_iff
abbrev Em:=@Nat.lt_trichotomy
abbrev Ep:=@Bool.and_false
abbrev Er:=@List.length_nil
abbrev Es:=@Nat.le_succ
abbrev Eu:=@Nat.le_of_succ_le
abbrev Ex:=@Nat.zero_add
abbrev Ey:=@Nat.succ_pos
abbrev Ez:=@List.count_append
abbrev Fa:=@Option.isSome_iff_exists
abbrev Fb:=@List.mem_of_mem_eraseIdx
abbrev Fc:=@List.getElem?_replicate
abbrev Fd:=@List.isEmpty_nil
abbrev Fe:=@Option.getD_some
abbrev Ff:=@Nat.one_pos
abbrev Fg:=@List.count_eq_zero_of_not_mem
abbrev Fh:=@List.find?_eq_none
abbrev Fi:=@List.getElem_range
abbrev Fj:=@List.append_of_mem
abbrev Fk:=@List.append_eq_nil_iff
abbrev Fm:=@List.find?_cons
abbrev Fn:=@Array.getElem?_setIfInBounds
abbrev Fo:=@Bool.and_comm
abbrev Fp:=@List.length_replicate
abbrev Fq:=@List.mem_zipIdx_iff_le_and_getElem?_sub
abbrev Fr:=@List.perm_ext_iff_of_nodup
abbrev Ft:=@List.mem_erase_of_ne
abbrev Fu:=@List.getElem?_modify
abbrev Fv:=@List.pairwise_append
abbrev Fw:=@Bool.false_xor
abbrev Fx:=@Bool.xor_false
abbrev Fy:=@Array.getElem?_eq_some_iff
abbrev Fz:=@List.cons_append
abbrev Ga:=@List.nodup_range
abbrev Gb:=@List.mem_flatMap
abbrev Gc:=@List.exists_mem_of_ne_nil
abbrev Gd:=@List.drop_eq_getElem_cons
abbrev Ge:=@List.flatten_append
abbrev Gf:=@List.any_cons
abbrev Gg:=@Array.getElem?_replicate
abbrev Gh:=@Bool.true_and
abbrev Gi:=@List.length_erase_of_mem
abbrev Gj:=@List.sum_cons
abbrev Gk:=@List.mem_filterMap
abbrev Gm:=@Nat.mod_lt
abbrev Gn:=@List.getElem?_drop
abbrev Go:=@Nat.lt_of_le_of_ne
abbrev Gp:=@List.pairwise_singleton
abbrev Gq:=@Bool.false_and
abbrev Gr:=@Bool.not_false
abbrev Gs:=@List.length_pos_of_mem
abbrev Gu:=@List.getElem?_eraseIdx
abbrev Gv:=@List.lt_irrefl
abbrev Gw:=@List.filter_eq_nil_iff
abbrev Gx:=@Nat.zero_lt_of_lt
abbrev Gy:=@List.getElem_inj
abbrev Gz:=@Nat.lt_succ_self
abbrev Hc:=@List.lt_trans
abbrev He:=@PySem.Heap.get?_push_cases
abbrev Hf:=@List.le_iff_lt_or_eq
abbrev Hg:=@List.nodup_iff_count
abbrev Hh:=@Option.map_some
abbrev Hi:=@List.forIn_cons
abbrev Hj:=@List.find?_some
abbrev Hk:=@List.nil_append
abbrev Hl:=@List.filter_sublist
abbrev Hm:=@List.all_cons
abbrev Hn:=@List.map_take
abbrev Ho:=@List.map_drop
namespace L2
open PySem PySem.Spec PyProof.Rows
abbrev Key:=Sum Int Str
def sQ:Key->Value->Bool
 | .inl k,v=>Value.isInt k v
 | .inr x,v=>Value.isStrOf x v
def DM(w:World):Key->Int
 | .inl k=>hashInt k
 | .inr x=>hashStr w x
theorem lR:∀{k}{v},sQ k v=true->(∃ i t,k=Sum.inl i/\v=Value.int i t)\/(∃ x t,k=Sum.inr x/\v=Value.str x t)
 | .inl i,v,h=>by
  obtain⟨t,e⟩:=Value.isInt_shape h;exact .inl ⟨i,t,rfl,e⟩
 | .inr x,v,h=>by
  obtain⟨t,e⟩:=Value.isStrOf_shape h;exact .inr ⟨x,t,rfl,e⟩
def XA(i:Int)(t:Tok):sQ (.inl i) (.int i t)=true:=by simp[sQ,Value.isInt]
def XB(x:Str)(t:Tok):sQ (.inr x) (.str x t)=true:=by simp[sQ,Value.isStrOf]
def XD(a b:Int):decide ((Sum.inl a:Key)=Sum.inl b)=(a == b):=by
 by_cases e:a=b
 ·subst e;simp
 ·have h:¬(Sum.inl a:Key)=Sum.inl b:=λq=>e<|Sum.inl.inj q;rw[BR h];exact(beq_eq_false_iff_ne.mpr e).symm
def XE(a b:Str):decide ((Sum.inr a:Key)=Sum.inr b)=decide (a=b):=by
 by_cases e:a=b
 ·subst e;simp
 ·have h:¬(Sum.inr a:Key)=Sum.inr b:=λq=>e<|Sum.inr.inj q;rw[BR h,BR e]
def XG(a:Int)(b:Str):decide ((Sum.inl a:Key)=Sum.inr b)=false:=BR λq=>nomatch q
def XH(a:Str)(b:Int):decide ((Sum.inr a:Key)=Sum.inl b)=false:=BR λq=>nomatch q
def bX(U:Program)(w:World):PySem.KeyKind U w Key where
 is:=sQ
 hash:=DM w
 inj:=λv a b ha hb=>by
  rcases lR ha with ⟨i,t,rfl,rfl⟩ | ⟨x,t,rfl,rfl⟩
  ·rcases lR hb with ⟨j,u,rfl,e⟩ | ⟨y,u,rfl,e⟩
   ·injection e with e1 _;rw[e1]
   ·exact nomatch e
  ·rcases lR hb with ⟨j,u,rfl,e⟩ | ⟨y,u,rfl,e⟩
   ·exact nomatch e
   ·injection e with e1 _;rw[e1]
 byValue:=λk v h=>by
  rcases lR h with ⟨i,t,rfl,rfl⟩ | ⟨x,t,rfl,rfl⟩ <;> rfl
 pyHash:=λhv h=>by
  rcases lR hv with ⟨i,t,rfl,rfl⟩ | ⟨x,t,rfl,rfl⟩
  ·exact wpAny_pyHash_int h
  ·exact wpAny_pyHash_str h
 eqBool:=λhu hv h=>by
  rcases lR hu with ⟨i,t,rfl,rfl⟩ | ⟨x,t,rfl,rfl⟩
  ·rcases lR hv with ⟨j,u,rfl,rfl⟩ | ⟨y,u,rfl,rfl⟩
   ·rw[XD]at h;exact wpAny_eqBool_int h
   ·rw[XG]at h;exact SeqAt.EqAt.int_str i t y u _ _ _ _ h
  ·rcases lR hv with ⟨j,u,rfl,rfl⟩ | ⟨y,u,rfl,rfl⟩
   ·rw[XH]at h;exact SeqAt.EqAt.str_int x t j u _ _ _ _ h
   ·rw[XE]at h;exact wpAny_eqBool_str h
 «strs»:=λk x t v h=>by
  rcases lR h with ⟨i,u,rfl,e⟩ | ⟨y,u,rfl,e⟩
  ·exact nomatch e
  ·injection e with e1 _
   subst e1;cases v <;> rfl
def XI(U:Program)(w:World)(i:Int)(t:Tok):(bX U w).is (.inl i) (.int i t)=true:=XA i t
def XJ(U:Program)(w:World)(x:Str)(t:Tok):(bX U w).is (.inr x) (.str x t)=true:=XB x t
inductive V where
 | non | bl (b:Bool) | int (i:Int) | str (x:Str) | jy (b:Array UInt8) | sR (b:UInt64) | ref (a:Addr) | ty (n:String)
 deriving DecidableEq
def RelV:V->Value->Prop
 | .non,u=>u=Value.none
 | .bl b,u=>u=Value.bool b
 | .int i,u=>∃ t,u=Value.int i t
 | .str x,u=>∃ t,u=Value.str x t
 | .jy b,u=>∃ t,u=Value.bytes b t
 | .sR b,u=>∃ t,u=Value.float b t
 | .ref a,u=>u=Value.ref a
 | .ty n,u=>u=Value.type n
abbrev ay:List V->Ò->Prop:=Paired RelV
def ay.length{xs:List V}{us:Ò}(r:ay xs us):xs.length=us.length:=Paired.length r
theorem ay.get:∀{xs:List V} {us:Ò} {i:Nat} {x:V},ay xs us->xs[i]?≈x->∃ u,us[i]?≈u/\RelV x u
 | _,_,_,_,.nil,e=>by simp at e
 | _,_,0,_,.cons r _,e=>by simp at e;subst e;exact⟨_,rfl,r⟩
 | _,_,i+1,x,.cons _ t,e=>by
  obtain⟨u,h1,h2⟩:=ay.get t e⁻¹;exact⟨u,h1⁻¹,h2⟩
theorem ay.set{x:V}{u:Value}(r:RelV x u):∀{xs}{us}i,ay xs us->ay (xs.set i x) (us.set i u)
 | _,_,_,.nil=> .nil
 | _,_,0,.cons _ t=> .cons r t
 | _,_,i+1,.cons q t=> .cons q<|ay.set r i t
theorem ay.append:∀{xs ys}{us ws},ay xs us->ay ys ws->ay (xs++ys) (us++ws)
 | _,_,_,_,.nil,s=>s
 | _,_,_,_,.cons r t,s=> .cons r<|ay.append t s
theorem ay.take:∀{xs}{us}n,ay xs us->ay (xs.take n) (us.take n)
 | _,_,0,_=> .nil
 | _,_,_+1,.nil=> .nil
 | _,_,n+1,.cons r t=> .cons r<|ay.take n t
theorem ay.drop:∀{xs}{us}n,ay xs us->ay (xs.drop n) (us.drop n)
 | _,_,0,r=>r
 | _,_,_+1,.nil=> .nil
 | _,_,n+1,.cons _ t=>ay.drop n t
def d3:Option V->Option Value->Prop
 | some v,some u=>RelV v u
 | none,none=>True
 | _,_=>False
def KV{κ:Type}:List (κ×V)->List (κ×Value)->Prop:=Paired λp q=>p.1=q.1/\RelV p.2 q.2
def kV:Key->V
 | .inl i=> .int i
 | .inr x=> .str x
inductive HO where
 | lst (xs:List V)
 | tup (xs:List V)
 | dK (Y:List<|Key×V) | dT (Y:List<|List Key×V)
 | set (S:Int->Bool) (n:Nat)
 | ins (C dx:Addr) (fs:List<|Str×V)
 | own (x:Addr)
 | xd (fs:List<|Str×V)
 | met (f x:Addr)
 | yL (lo hi:Int)
 | b7 (o:Obj) (u:HO)
 | oz (ps:Array Value)
 | ext (φ:Heap->Prop)
abbrev Hp:=Addr->Option HO
def upd(H:Hp)(a:Addr)(o:HO):Hp:=λb=>if b=a then some o else H b
variable{a:Addr}{H:Hp}
def az{o:HO}:upd H a o a≈o:=by unfold upd;rw[BP rfl]
variable{b:Addr}
def aw{o:HO}(h:b≠a):upd H a o b=H b:=by unfold upd;rw[BL h]
def uN{o u:HO}:upd (upd H a o) a u=upd H a u:=by
 funext b;unfold upd;split <;> rfl
def cf{o u:HO}(h:H a≈o)(h':H b≈u)(d:o≠u):a≠b:=by
 intro e;subst e;rw[h]at h';exact d<|Option.some.inj h'
def bz{o:HO}(h:H a≈o)(h':H b=none):a≠b:=by
 intro e;subst e;rw[h]at h';cases h'
section
variable(P:Program)(w:World)
def aB(H:Hp)(h:Heap)(a:Addr):HO->Prop
 | .lst xs=>xs.length<=sizeLine/\∃è n,ay xs è/\h.get? a=some {cls:= .type "list",data:= .seq è.toArray n}
 | .tup xs=>xs.length<=sizeLine/\∃ è:Ò,ay xs è/\IsTup h a è.toArray
 | .dK Y=>Y.length<=sizeLine/\(a == sysModules)=false/\∃ vs,KV Y vs/\h.DictOf (bX P w) a vs
 | .dT Y=>Y.length<=sizeLine/\(a == sysModules)=false/\∃ xs:List<|List Key×Addr×Value,
   Paired (λp q=>p.1=q.1/\H q.2.1=some (.tup<|p.1.map kV)/\RelV p.2 q.2.2) Y xs /\
   ∃ o es ep,h.get? a≈o/\o.ExactDict/\o.data = .dict es ep/\es.toList=xs.map (entryOfKey<|tupleKind<|bX P w)/\(xs.map (·.1)).Nodup
 | .set S n=>h.SetOf (intKind P w) a S n
 | .ins C dx fs=>H dx≈.own a/\fs.length<=1000/\dx≠a/\h.get? a=some (PySem.W.instObj C dx) /\
   ∃ mA,h.Ns1 dx mA/\(∀ f,d3 (fs.lookup f)<|mA f)/\PySem.Within mA (fs.map (·.1))
 | .own _=>∃ o,h.get? a≈o
 | .xd fs=>∃ mA,h.Ns1 a mA/\∀ f,d3 (fs.lookup f)<|mA f
 | .yL lo hi=>∃ t u v,h.get? a=some {cls:= .type "range",data:= .fields #[.int lo t,.int hi u,.int 1 v]}
 | .b7 o u=>h.get? a≈o/\aB H h a u
 | .oz ps=>h.get? a=some {cls:= .none,data:= .fields ps}
 | .met f x=>h.get? a=some (PySem.W.methodObj (.ref f)<|.ref x)
 | .ext φ=>φ h/\(∃ o,h.get? a≈o)/\∀ h1 h2:Heap,φ h1->(∀ o,h1.get? a≈o->h2.get? a≈o)->φ h2
def cn(H:Hp)(h:Heap):Prop:=∀ a o,H a≈o->aB P w H h a o
end
variable{h h':Heap}{H':Hp}{w:World}{P:Program}
section
variable{o:HO}
theorem aB.lt(x:aB P w H h a o):a < h.objs.size:=by
 cases o with
 | lst xs=>obtain⟨_,_,_,_,e⟩:=x;exact Av e
 | tup xs=>obtain⟨_,_,_,p⟩:=x;exact p.lt
 | dK Y=>obtain⟨_,_,_,_,o,_,_,e,_⟩:=x;exact Av e
 | dT Y=>obtain⟨_,_,_,_,o,_,_,e,_⟩:=x;exact Av e
 | set S n=>obtain⟨o,_,_,_,e,_⟩:=x;exact Av e
 | ins C dx fs=>obtain⟨_,_,_,e,_⟩:=x;exact Av e
 | own y=>obtain⟨_,e⟩:=x;exact Av e
 | xd fs=>obtain⟨_,⟨_,_,_,e,_⟩,_⟩:=x;exact Av e
 | yL lo hi=>obtain⟨_,_,_,e⟩:=x;exact Av e
 | b7 ob u=>obtain⟨e,_⟩:=x;exact Av e
 | oz ps=>exact Av (show h.get? a=some _ from x)
 | met f y=>exact Av (show h.get? a=some _ from x)
 | ext φ=>obtain⟨_,⟨_,e⟩,_⟩:=x;exact Av e
theorem Paired.pU{α β:Type}{F G:α->β->Prop}:∀{l₁}{l₂},Paired F l₁ l₂->(∀ a b,F a b->G a b)->Paired G l₁ l₂
 | _,_,.nil,_=> .nil
 | _,_,.cons r t,f=> .cons (f _ _ r)<|Paired.pU t f
theorem aB.iE(x:aB P w H h a o)(k:∀ b u,(b=a\/H b≈.own a)->h.get? b≈u->h'.get? b≈u)
  (ho:∀ b,H b≈.own a->H' b≈.own a) (ht:∀ b xs,H b≈.tup xs->H' b≈.tup xs):aB P w H' h' a o:=by
 induction o with
 | lst xs=>obtain⟨z,è,n,r,e⟩:=x;exact⟨z,è,n,r,k _ _ (.inl rfl) e⟩
 | tup xs=>obtain⟨z,è,r,ob,e,c⟩:=x;exact⟨z,è,r,ob,k _ _ (.inl rfl) e,c⟩
 | dK Y=>obtain⟨z,y,vs,r,ob,es,ep,e,c⟩:=x;exact⟨z,y,vs,r,ob,es,ep,k _ _ (.inl rfl) e,c⟩
 | dT Y=>
  obtain⟨z,y,xs,r,ob,es,ep,e,c⟩:=x;exact⟨z,y,xs,Paired.pU r λp q z=>⟨z.1,ht _ _ z.2.1,z.2.2⟩,ob,es,ep,k _ _ (.inl rfl) e,c⟩
 | set S n=>obtain⟨ob,es,ep,t,e,c⟩:=x;exact⟨ob,es,ep,t,k _ _ (.inl rfl) e,c⟩
 | ins C dx fs=>
  obtain⟨d,z,ne,e,mA,⟨od,es,ep,e2,c⟩,r⟩:=x;exact⟨ho _ d,z,ne,k _ _ (.inl rfl) e,mA,⟨od,es,ep,k _ _ (.inr d) e2,c⟩,r⟩
 | own y=>obtain⟨ob,e⟩:=x;exact⟨ob,k _ _ (.inl rfl) e⟩
 | xd fs=>obtain⟨mA,⟨od,es,ep,e,c⟩,r⟩:=x;exact⟨mA,⟨od,es,ep,k _ _ (.inl rfl) e,c⟩,r⟩
 | yL lo hi=>obtain⟨t,u,v,e⟩:=x;exact⟨t,u,v,k _ _ (.inl rfl) e⟩
 | b7 ob u ih=>obtain⟨e,q⟩:=x;exact⟨k _ _ (.inl rfl) e,ih q⟩
 | oz ps=>
  have e:=x;show h'.get? a=some {cls:= .none,data:= .fields ps};exact k a _ (.inl rfl) e
 | met f y=>
  have e:=x;show h'.get? a=some (PySem.W.methodObj (.ref f)<|.ref y);exact k a _ (.inl rfl) e
 | ext φ=>obtain⟨p,⟨o,e⟩,st⟩:=x;exact⟨st _ _ p λo q=>k _ _ (.inl rfl) q,⟨o,k _ _ (.inl rfl) e⟩,st⟩
def cn.lt(x:cn P w H h)(e:H a≈o):a < h.objs.size:=(x a o e).lt
theorem cn.fresh(x:cn P w H h)(e:h.objs.size<=a):H a=none:=by
 cases q:H a with
 | none=>rfl
 | some u=>exact absurd (Bq (x.lt q) e)<|De _
def cn.kept(x:cn P w H h)(k:∀ b u,h.get? b≈u->h'.get? b≈u):cn P w H h':=λa o e=>
 (x a o e).iE (λb u _ q=>k b u q) (λ_ q=>q) λ_ _ q=>q
def cn.laid(x:cn P w H h)(k:∀ b u,h.get? b≈u->h'.get? b≈u)(hp:h.objs.size<=a)(new:aB P w (upd H a o) h' a o):cn P w (upd H a o) h':=λb u e=>by
 have hn:=x.fresh hp
 by_cases hb:b=a
 ·subst hb;rw[az]at e;cases e;exact new
 ·rw[aw hb]at e;exact(x b u e).iE (λc v _ q=>k c v q) (λc q=>by rwa[aw<|bz q hn]) λc xs q=>by rwa[aw<|bz q hn]
end
def Rd(H:Hp)(a:Addr)(u:HO):Prop:=H a≈u\/∃ o,H a≈.b7 o u
def Rd.ok{u:HO}(r:Rd H a u)(x:cn P w H h):aB P w H h a u:=by
 rcases r with r | ⟨o,r⟩
 ·exact x a u r
 ·obtain⟨_,q⟩:=x a _ r;exact q
def uO:Option HO->Prop
 | some (.lst _)=>True
 | some (.dK _)=>True
 | some (.dT _)=>True
 | some (.set _ _)=>True
 | some (.ins _ _ _)=>True
 | some (.ext _)=>True
 | _=>False
section
variable{x e:Addr}{o':HO}
def cn.write(ok:cn P w H h)(mu:uO<|H x)(he:e=x\/H e≈.own x)(k:∀ b u,b≠e->h.get? b≈u->h'.get? b≈u)(sS:∃ u,h'.get? e≈u)
  (new:aB P w (upd H x o') h' x o'):cn P w (upd H x o') h':=λb u q=>by
 have uP:∀ c y,H c≈.own y->c≠x:=λc y r z=>by subst z;rwa[r]at mu
 have DS:∀ c xs,H c≈.tup xs->c≠x:=λc xs r z=>by subst z;rwa[r]at mu
 by_cases hb:b=x
 ·subst hb;rw[az]at q;cases q;exact new
 ·rw[aw hb]at q
  by_cases mK:b=e
  ·have q':H b≈.own x:=by
    rcases he with z | z
    ·exact absurd (mK.trans z) hb
    ·rwa[mK]
   rw[q]at q';cases q';obtain⟨v,hv⟩:=sS;exact⟨v,by rwa[mK]⟩
  ·refine(ok b u q).iE (λc v hc r=>k c v ?_ r) (λc r=>by rwa[aw<|uP c b r]) λc xs r=>by rwa[aw<|DS c xs r]
   rcases hc with rfl | hc
   ·exact mK
   ·rintro rfl
    rcases he with z | z
    ·exact uP c b hc z
    ·rw[hc]at z;cases z;exact hb rfl
end
structure Un(fs ex:↥9)(H H':Hp)(h h':Heap):Prop where
 keep:∀ b o,h.get? b≈o->H b=none->b∉fs->b∉ex->h'.get? b≈o
 slot:∀ b o,h.get? b≈o->H b=none->b∈fs->b∉ex->∃ sl,h'.get? b=some {o with slots:=sl}
 free:∀ b o,h.get? b≈o->H b=none->b∉ex->H' b=none
 there:∀ b o,h.get? b≈o->b∉ex->∃ o',h'.get? b≈o'
 fP:∀ b xs,H b≈.tup xs->H' b≈.tup xs
 fc:∀ b o u,H b≈.b7 o u->H' b≈.b7 o u
 fQ:∀ b ps,H b≈.oz ps->∃ more,H' b=some (.oz<|ps++more)
section
variable{fs XM ex Om:↥9}{H1 H2:Hp}{h1 h2:Heap}{x e:Addr}{o:HO}
def Un.any(u:Un fs ex H H1 h h1){ob:Obj}(q:h.get? b≈ob)(n:H b=none)(hx:b∉ex):∃ sl,h1.get? b=some {ob with slots:=sl}:=by
 by_cases hb:b∈fs
 ·exact u.slot b ob q n hb hx
 ·exact⟨ob.slots,u.keep b ob q n hb hx⟩
def Un.kept(k:∀ b u,h.get? b≈u->h'.get? b≈u):Un fs ex H H h h':=
 ⟨λb ob q _ _ _=>k b ob q,λb ob q _ _ _=>⟨ob.slots,k b ob q⟩,λ_ _ _ n _=>n,λb ob q _=>⟨ob,k b ob q⟩,λ_ _ q=>q,λ_ _ _ q=>q,λ_ ps q=>⟨#[],by rw[q];simp⟩⟩
def Un.refl:Un fs ex H H h h:=Un.kept λ_ _ q=>q
def Un.laid(k:∀ b u,h.get? b≈u->h'.get? b≈u)(hp:h.objs.size<=a)(hn:H a=none):Un fs ex H (upd H a o) h h' where
 keep:=λb u q _ _ _=>k b u q
 slot:=λb u q _ _ _=>⟨u.slots,k b u q⟩
 free:=λb u q n _=>by rwa[aw<|Bw<|Bq (Av q) hp]
 there:=λb u q _=>⟨u,k b u q⟩
 fP:=λb xs q=>by rwa[aw<|bz q hn]
 fc:=λb u xs q=>by rwa[aw<|bz q hn]
 fQ:=λb ps q=>⟨#[],by rw[aw<|bz q hn,q];simp⟩
def Un.write(mu:uO<|H x)(he:e=x\/H e≈.own x)(k:∀ b u,b≠e->h.get? b≈u->h'.get? b≈u)(sS:∃ u,h'.get? e≈u):Un fs ex H (upd H x o) h h':=by
 have hx:∀ b,H b=none->b≠x:=λb n z=>by subst z;rwa[n]at mu
 have hb:∀ b,H b=none->b≠e:=λb n z=>by
  subst z
  rcases he with r | r
  ·exact hx b n r
  ·rw[n]at r;cases r
 have hm:∀ b u,H b≈u->¬ uO (some u)->b≠x:=λb u q nm z=>by subst z;rw[q]at mu;exact nm mu
 refine⟨λb u q n _ _=>k b u (hb b n) q,λb u q n _ _=>⟨u.slots,k b u (hb b n) q⟩,λb u q n _=>by rwa[aw<|hx b n],λb u q _=>?_,
  λb xs q=>by rwa[aw<|hm b _ q λz=>z],λb u xs q=>by rwa[aw<|hm b _ q λz=>z],λb ps q=>⟨#[],by rw[aw<|hm b _ q λz=>z,q];simp⟩⟩
 by_cases mK:b=e
 ·subst mK;exact sS
 ·exact⟨u,k b u mK q⟩
end
def yM(h:Heap)(H:Hp):↥9:=(List.range h.objs.size).filter λa=>(H a).isSome
def fU(h:Heap)(H:Hp):Heap:=PySem.W.hideAll h<|yM h H
def XN(h:Heap)(H:Hp):(fU h H).objs.size=h.objs.size:=PySem.W.hideAll_size _ _
variable{o:Obj}
def XO(e:h.get? b≈o)(n:H b=none):(fU h H).get? b≈o:=
 PySem.W.hideAll_get _ e λhm=>by
  have q:=(Bf.mp hm).2;rw[n]at q;simp at q
theorem XQ(e:(fU h H).get? b≈o):h.get? b≈o/\H b=none:=by
 have e':=PySem.W.of_hideAll (yM h H) e;refine⟨e',?_⟩;cases q:H b with
 | none=>rfl
 | some x=>
  have hm:b∈yM h H:=Bf.mpr ⟨Bo.mpr<|Av e',by simp[q]⟩;have z:(fU h H).get? b=none:=PySem.W.hideAll_none (yM h H) hm;rw[z]at e;cases e
structure Mod(K:PySem.W.Frag)(mg:Ñ)(Z:Heap):Prop where
 uQ:K.In Z
 glob:Z.Ns mainGlobals mg
 blt:∃ mb,Z.Ns builtinsNs mb/\∀ x:Str,x ≠ "__name__"->mb x=bootBuiltins x
 nolimit:Z.NoLimit
structure Cx where
 U:Program
 w:World
 K:PySem.W.Frag
 mg:Ñ
 Z:Heap
 A:Around
 N:Ð
 æ:Shared
 ç:Hp
 env:Env
 outer:List Env
 stack:List Env
 ex:↥9
 fn:Str->Bool
 calm:Bool
 pn:List<|Addr×Obj
 xe:Í
def fe(l:List Env):↥9:=l.filterMap (·.frame)
abbrev Cx.fs(X:Cx):↥9:=fe X.outer
def DT(sc:Scope)(x:Str):Prop:=sc.names.lookup x=some .local\/sc.names.lookup x=some .cell\/sc.names.lookup x=some .free
def Loc(sc:Scope)(x:Str):Prop:=sc.names.lookup x=some .local\/sc.names.lookup x=some .cell
def Look(env:Env)(h:Heap)(m:Ñ)(x:Str)(u:Value):Prop:=
 (env.kindOf x=some .local/\m x≈u)\/((env.kindOf x=some .cell\/env.kindOf x=some .free)/\∃ c,env.cells.lookup x≈c/\h.IsCell c (some u))
structure Cx.Ok(X:Cx):Prop where
 mod:Mod X.K X.mg X.Z
 kind:X.env.scope.kind = .function
 glob:X.env.globals=mainGlobals
 blt:X.env.builtins=builtinsNs
 above:X.æ.heap.objs.size<=X.env.locals
 inj:∀ x y c,↥11≈c->X.env.cells.lookup y≈c->x=y
 has:∀ x,(X.env.kindOf x=some .cell\/X.env.kindOf x=some .free)->∃ c,↥11≈c
 uR:∀ x c,X.fn x=true->↥11≈c->X.æ.heap.objs.size<=c
 hd:X.calm=true->X.A.handled=none
 frames:X.A.frames≈X.stack
 yN:X.stack=X.outer\/(X.stack=X.env :: X.outer/\X.env.frame≈X.env.locals)
 Oo:∀ b∈X.ex,b≠X.env.locals/\∀ x c,↥11≈c->c≠b
 bs:∀ b o,X.Z.get? b≈o->X.æ.heap.get? b≈o/\X.ç b=none
 oA:X.Z.objs.size<=X.æ.heap.objs.size
 kA:∀ b o,X.Z.get? b≈o->b∉X.ex
 mO:∀ b∈X.ex,b∉X.fs
 d6:X.æ.heap.FunFrames X.Z X.outer
 sV:∀ b∈X.fs,X.ç b=none
structure Inv(X:Cx)(O:Ï)(σ:List<|Option V)(H:Hp)(s:Shared):Prop where
 ok:X.Ok
 os:s.os=X.æ.os
 bare:AllBare s.gens
 Z:Un X.fs X.ex X.ç H X.æ.heap s.heap
 loc:∃ m,s.heap.Ns X.env.locals m/\∀(i:Nat) (x:Str) (v:V),X.N[i]?≈x->σ[i]?≈some v->DT X.env.scope x->∃ u,RelV v u/\Look X.env s.heap m x u
 cell:∀ x c,↥11≈c->∃ v,s.heap.IsCell c v
 free:H X.env.locals=none
 cD:∀ x c,↥11≈c->H c=none
 pin:∀ p∈X.pn++O,s.heap.get? p.1≈p.2/\H p.1=none/\p.1≠X.env.locals/\p.1∉X.fs/\∀ v,p.2.data ≠ .cell v
 aH:cn X.U X.w H s.heap
 len:σ.length=X.N.length
variable{s s':Shared}{O oB:Ï}{X:Cx}{ch:↥9}{d':Drawn}{t' i:Nat}{g':Array GenState}{x:Str}{N:Ð}{u:Value}{v:V}{E:Í}{A:Around}{M:Model}
section
variable{σ:List (Option V)}
def Cx.Ok.DU(ok:X.Ok)(e:X.Z.get? b≈o):b∉X.fs:=λhb=>by
 have:=(ok.d6.mem hb).1;rw[e]at this;cases this
def Inv.bs(I:↥3):∀ b o,X.Z.get? b≈o->s.heap.get? b≈o/\H b=none:=λb o e=>
 ⟨I.Z.keep b o (I.ok.bs b o e).1 (I.ok.bs b o e).2 (I.ok.DU e)<|I.ok.kA b o e,I.Z.free b o (I.ok.bs b o e).1 (I.ok.bs b o e).2<|I.ok.kA b o e⟩
def Inv.bk(I:↥3):∀ b o,X.Z.get? b≈o->s.heap.get? b≈o:=λb o e=>(I.bs b o e).1
def Inv.mod(I:↥3):Mod X.K X.mg X.Z:=I.ok.mod
def Inv.gQ(I:↥3):X.K.In s.heap:=I.ok.mod.uQ.keeps I.bk
def Inv.lt(I:↥3):X.env.locals < ↑s:=let ⟨_,hn,_⟩:=I.loc;hn.lt
def Inv.sz(I:↥3):X.æ.heap.objs.size<=↑s:=Ch I.ok.above<|Cy I.lt
def Inv.DV(I:↥3)(h:↑s<=a):a∉X.fs:=λhb=>by
 obtain⟨_,o,ho,_⟩:=I.ok.d6.mem hb;exact absurd (Bq (Av ho)<|Ch I.sz h)<|De _
def Inv.mP(I:↥3):∀ x c,↥11≈c->c≠X.env.locals:=λx c e z=>by
 obtain⟨v,o,ho,hd⟩:=I.cell x c e;obtain⟨m,⟨o',es,ep,dU,pV,_⟩,_⟩:=I.loc;rw[z,dU]at ho;cases ho;rw[pV]at hd;cases hd
def Inv.d6(I:↥3):s.heap.FunFrames X.Z X.outer:=by
 have all:∀l,(∀ b∈fe l,b∈X.fs)->X.æ.heap.FunFrames X.Z l->s.heap.FunFrames X.Z l:=by
  intro l
  induction l with
  | nil=>intro _ _;trivial
  | cons env r ih=>
   intro hs hl;obtain⟨hk,⟨L,o,hf,hn,ho,hd⟩,hr⟩:=hl;have hL:=hs L (by unfold fe;rw[Eh,hf];exact Ae);obtain⟨sl,e⟩:=I.Z.slot L o ho (I.ok.sV L hL) hL λz=>I.ok.mO L z hL;exact⟨hk,⟨L,_,hf,hn,e,hd⟩,ih (λb hb=>hs b<|by unfold fe;rw[Eh,hf];exact Af _ hb) hr⟩
 exact all X.outer (λ_ hb=>hb) I.ok.d6
def Inv.stack(I:↥3):s.heap.FunFrames X.Z X.stack:=by
 rcases I.ok.yN with e | ⟨e,hf⟩
 ·rw[e];exact I.d6
 ·rw[e];obtain⟨m,hn,_⟩:=I.loc;refine .cons (by rw[I.ok.kind];decide) hf hn ?_ I.d6;exact Heap.get?_none_of_le<|Ch I.ok.oA I.ok.above
def Inv.fV(I:↥3):∀ b∈fe X.stack,b∈X.env.locals :: X.fs:=λb hb=>by
 rcases I.ok.yN with e | ⟨e,hf⟩
 ·rw[e]at hb;exact Af _ hb
 ·rw[e]at hb;unfold fe at hb;rwa[Eh,hf]at hb
def Inv.dW(I:↥3):∀ b∈fe X.stack,H b=none:=λb hb=>by
 rcases Ai.mp (I.fV b hb)with e | hb
 ·rw[e];exact I.free
 ·obtain⟨_,o,ho,_⟩:=I.ok.d6.mem hb;exact I.Z.free b o ho (I.ok.sV b hb) λz=>I.ok.mO b z hb
def Inv.step(I:↥3)
  (lS:∀ b∈ch,(b∈X.ex\/X.æ.heap.objs.size<=b)/\b≠X.env.locals/\(∀ x c,↥11≈c->c≠b)/\∀ p∈X.pn++O,p.1≠b)
  (keep:∀ b o,b≠X.env.locals->b∉X.fs->b∉ch->s.heap.get? b≈o->H b=none->h'.get? b≈o)
  (slot:∀ b o,b≠X.env.locals->b∈X.fs->b∉ch->s.heap.get? b≈o->H b=none->∃ sl,h'.get? b=some {o with slots:=sl}) (free:∀ b o,b∉ch->s.heap.get? b≈o->H b=none->H' b=none)
  (there:∀ b o,b∉ch->s.heap.get? b≈o->∃ o',h'.get? b≈o')
  (fP:∀ b xs,H b≈.tup xs->H' b≈.tup xs) (fc:∀ b o u,H b≈.b7 o u->H' b≈.b7 o u) (fQ:∀ b ps,H b≈.oz ps->∃ more,H' b=some (.oz<|ps++more))
  (ns:∀ m,s.heap.Ns X.env.locals m->h'.Ns X.env.locals m) (aH:cn X.U X.w H' h') (hg:AllBare g') :
  Inv X O σ H' {s with heap:=h',gens:=g',drawn:=d',toks:=t'}:=by
 have Oq:∀ b o,X.æ.heap.get? b≈o->b≠X.env.locals:=λb o e=>Bw<|Bq (Av e) I.ok.above;have yO:∀ b o,X.æ.heap.get? b≈o->b∉X.ex->b∉ch:=λb o e hx hb=>by
  rcases (lS b hb).1 with z | z
  ·exact hx z
  ·exact absurd (Bq (Av e) z)<|De _
 have cellK:∀ x c,↥11≈c->∀ v,s.heap.IsCell c v->h'.IsCell c v:=λx c e v ⟨o,ho,hd⟩=>by
  have uS:=λz=>(lS c z).2.2.1 x c e rfl
  by_cases hc:c∈X.fs
  ·obtain⟨sl,q⟩:=slot c o (I.mP x c e) hc uS ho<|I.cD x c e;exact⟨_,q,hd⟩
  ·exact⟨o,keep c o (I.mP x c e) hc uS ho<|I.cD x c e,hd⟩
 refine⟨I.ok,I.os,hg,⟨λb o e n hb hx=>?_,λb o e n hb hx=>?_,λb o e n hx=>?_,λb o e hx=>?_,λb xs e=>fP b xs<|I.Z.fP b xs e,λb o xs e=>fc b o xs<|I.Z.fc b o xs e,λb ps e=>?_⟩,?_,λx c e=>?_,?_,λx c e=>?_,λp hp=>?_,aH,I.len⟩
 ·exact keep b o (Oq b o e) hb (yO b o e hx) (I.Z.keep b o e n hb hx)<|I.Z.free b o e n hx
 ·obtain⟨sl,e1⟩:=I.Z.slot b o e n hb hx;obtain⟨yP,e2⟩:=slot b _ (Oq b o e) hb (yO b o e hx) e1<|I.Z.free b o e n hx;exact⟨yP,e2⟩
 ·obtain⟨o',e1⟩:=I.Z.there b o e hx;exact free b o' (yO b o e hx) e1<|I.Z.free b o e n hx
 ·obtain⟨o',e1⟩:=I.Z.there b o e hx;exact there b o' (yO b o e hx) e1
 ·obtain⟨m1,e1⟩:=I.Z.fQ b ps e;obtain⟨m2,e2⟩:=fQ b _ e1;exact⟨m1++m2,by rw[e2,Array.append_assoc]⟩
 ·obtain⟨m,hn,hl⟩:=I.loc;refine⟨m,ns m hn,λi x v e1 e2 e3=>?_⟩;obtain⟨u,r,l⟩:=hl i x v e1 e2 e3;refine⟨u,r,?_⟩
  rcases l with l | ⟨k,c,e,z⟩
  ·exact .inl l
  ·exact .inr ⟨k,c,e,cellK x c e _ z⟩
 ·obtain⟨v,z⟩:=I.cell x c e;exact⟨v,cellK x c e v z⟩
 ·obtain⟨m,⟨o,_,_,ho,_⟩,_⟩:=I.loc;exact free _ o (λz=>(lS _ z).2.1 rfl) ho I.free
 ·obtain⟨v,o,ho,hd⟩:=I.cell x c e;exact free c o (λz=>(lS c z).2.2.1 x c e rfl) ho<|I.cD x c e
 ·obtain⟨e,n,ne,nf,d⟩:=I.pin p hp;have uS:=λz=>(lS p.1 z).2.2.2 p hp rfl;exact⟨keep p.1 p.2 ne nf uS e n,free p.1 p.2 uS e n,ne,nf,d⟩
def Inv.un(I:↥3)(u:Un X.fs [] H H' s.heap h')(aH:cn X.U X.w H' h'):Inv X O σ H' {s with heap:=h',toks:=t'}:=by
 obtain⟨m,⟨o,es,ep,ho,r⟩,_⟩:=id I.loc;obtain⟨sl,hL⟩:=u.any ho I.free (by simp);exact I.step (ch:=[]) (λ_ z=>nomatch z) (λb o _ hb _ e n=>u.keep b o e n hb<|by simp) (λb o _ hb _ e n=>u.slot b o e n hb<|by simp) (λb o _ e n=>u.free b o e n<|by simp) (λb o _ e=>u.there b o e<|by simp) u.fP u.fc u.fQ (λm' hm=>by
  obtain⟨o',dM,oD,dU,r'⟩:=hm;rw[ho]at dU;cases dU;exact⟨_,dM,oD,hL,r'⟩) aH I.bare
def Inv.call(I:↥3)(u:Un (fe X.stack) ch H H' s.heap h')(aH:cn X.U X.w H' h')(hg:AllBare g')
  (lS:∀ b∈ch,(b∈X.ex\/X.æ.heap.objs.size<=b)/\b≠X.env.locals/\(∀ x c,↥11≈c->c≠b)/\∀ p∈X.pn++O,p.1≠b) :
  Inv X O σ H' {s with heap:=h',gens:=g',drawn:=d',toks:=t'}:=by
 obtain⟨m,⟨o,es,ep,ho,r⟩,_⟩:=id I.loc;obtain⟨sl,hL⟩:=u.any ho I.free λz=>(lS _ z).2.1 rfl;exact I.step lS (λb o hL hb hc e n=>u.keep b o e n (λz=>(Ai.mp<|I.fV b z).elim hL hb) hc) (λb o _ _ hc e n=>u.any e n hc) (λb o hc e n=>u.free b o e n hc) (λb o hc e=>u.there b o e hc) u.fP u.fc u.fQ (λm' hm=>by
  obtain⟨o',dM,oD,dU,r'⟩:=hm;rw[ho]at dU;cases dU;exact⟨_,dM,oD,hL,r'⟩) aH hg
def Inv.turned{it:Addr}(I:↥3)(k:∀ b o,b≠it->s.heap.get? b≈o->h'.get? b≈o)(hn:H it=none)(hL:it≠X.env.locals)
  (h1:it∈X.ex\/X.æ.heap.objs.size<=it) (h2:∀ x c,↥11≈c->c≠it) (h3:∀ p∈X.pn++O,p.1≠it):Inv X O σ H {s with heap:=h',toks:=t'}:=by
 have uT:∀ b u,H b≈u->b≠it:=λb u e z=>by rw[z,hn]at e;cases e
 refine I.step (ch:=[it]) (λb hb=>?_) (λb o _ _ hc e _=>k b o (λz=>hc<|by simp[z]) e) (λb o _ _ hc e _=>⟨o.slots,k b o (λz=>hc<|by simp[z]) e⟩) (λ_ _ _ _ n=>n)
  (λb o hc e=>⟨o,k b o (λz=>hc<|by simp[z]) e⟩) (λ_ _ e=>e) (λ_ _ _ e=>e) (λb ps e=>⟨#[],by rw[e];simp⟩) (λm hm=>?_) (λb u e=>?_) I.bare
 ·have e:b=it:=by simpa using hb
  subst e;exact⟨h1,hL,h2,h3⟩
 ·obtain⟨o,es,ep,ho,r⟩:=hm;exact⟨o,es,ep,k _ o (CK hL) ho,r⟩
 ·refine(I.aH b u e).iE (λc v hc q=>k c v ?_ q) (λ_ q=>q) λ_ _ q=>q
  rcases hc with z | z
  ·rw[z];exact uT b u e
  ·exact uT c _ z
def Inv.tok(I:↥3)(t:Nat):Inv X O σ H {s with toks:=t}:=I.un Un.refl I.aH
def Inv.kept{t':Nat}(I:↥3)(k:∀ b u,s.heap.get? b≈u->h'.get? b≈u):Inv X O σ H {s with heap:=h',toks:=t'}:=I.un (Un.kept k)<|I.aH.kept k
def Inv.laid{a:Addr}{o:HO}{t':Nat}(I:↥3)(k:∀ b u,s.heap.get? b≈u->h'.get? b≈u)(hp:↑s<=a)(new:aB X.U X.w (upd H a o) h' a o) :
  Inv X O σ (upd H a o) {s with heap:=h',toks:=t'}:=I.un (Un.laid k hp<|I.aH.fresh hp)<|I.aH.laid k hp new
def Inv.write{x e:Addr}{o:HO}{t':Nat}(I:↥3)(mu:uO<|H x)(he:e=x\/H e≈.own x)(k:∀ b u,b≠e->s.heap.get? b≈u->h'.get? b≈u)(sS:∃ u,h'.get? e≈u)
  (new:aB X.U X.w (upd H x o) h' x o):Inv X O σ (upd H x o) {s with heap:=h',toks:=t'}:=I.un (Un.write mu he k sS)<|I.aH.write mu he k sS new
def Inv.iZ(I:↥3)(h:∀ p∈oB,s.heap.get? p.1≈p.2/\H p.1=none/\p.1≠X.env.locals/\p.1∉X.fs/\∀ v,p.2.data ≠ .cell v):Inv X oB σ H s:=
 ⟨I.ok,I.os,I.bare,I.Z,I.loc,I.cell,I.free,I.cD,λp hp=>(Am.mp hp).elim (λz=>I.pin p<|Bb _ z)<|h p,I.aH,I.len⟩
def Ot(hN:N.Nodup){j:Nat}(a:N[i]?≈x)(b:N[j]?≈x):i=j:=by
 obtain⟨h1,e1⟩:=Ac.mp a;obtain⟨h2,e2⟩:=Ac.mp b;exact(Gy hN).mp<|e1.trans e2.symm
def Ou{Q:Unit->Shared->Prop}(I:↥3)(hN:X.N.Nodup)(hi:X.N[i]?≈x)(hx:Loc X.env.scope x)(r:RelV v u)
  (h:∀ s',Inv X O (σ.set i<|some v) H s'->(∃ a,Heap.SameBut a s.heap s'.heap/\(a=X.env.locals\/↥11≈a))->Q () s') (hf:X.fn x=true\/X.env.scope.names.lookup x=some .local:=by first | exact .inl rfl | exact .inr rfl | assumption):wpAny M A (storeName X.env x u) Q E s:=by
 obtain⟨m,hn,hl⟩:=id I.loc;have DZ:(X.env.scope.kind == .class || (X.env.scope.kind == .module && X.env.locals != X.env.globals))=false:=by rw[I.ok.kind];rfl
 have hiσ:i < σ.length:=by rw[I.len];exact(Ac.mp hi).1
 have mP:=I.mP;have tracked:∀{a:Addr} {h':Heap},(∃ o,s.heap.get? a≈o/\H a=none)->Heap.SameBut a s.heap h'->cn X.U X.w H h':=λ{a h'} ha hs b ob e=>by
  obtain⟨_,_,oE⟩:=ha;refine(I.aH b ob e).iE (λc w' hc q=>(hs.2 c ?_).trans q) (λ_ q=>q) λ_ _ q=>q;rintro rfl
  rcases hc with rfl | hc
  ·rw[oE]at e;cases e
  ·rw[oE]at hc;cases hc
 rcases hx with hk | hk
 ·refine wpAny_storeName_local hk hn (λh' yQ hs=>?_) DZ;obtain⟨oL,_,_,kC,_⟩:=id hn;refine h _ ⟨I.ok,I.os,I.bare,⟨λb o e n hb hx=>?_,λb o e n hb hx=>?_,I.Z.free,λb o e hx=>?_,I.Z.fP,I.Z.fc,I.Z.fQ⟩,⟨_,yQ,λj y v' e1 e2 e3=>?_⟩,λy c e=>?_,I.free,I.cD,λp hp=>?_,tracked ⟨oL,kC,I.free⟩ hs,by simpa using I.len⟩ ⟨_,hs,.inl rfl⟩
  ·exact(hs.2 b<|Bw<|Bq (Av e) I.ok.above).trans<|I.Z.keep b o e n hb hx
  ·obtain⟨sl,e1⟩:=I.Z.slot b o e n hb hx;exact⟨sl,(hs.2 b<|Bw<|Bq (Av e) I.ok.above).trans e1⟩
  ·obtain⟨o',e1⟩:=I.Z.there b o e hx;exact⟨o',(hs.2 b<|Bw<|Bq (Av e) I.ok.above).trans e1⟩
  ·by_cases hj:j=i
   ·subst hj;rw[hi]at e1;cases e1;rw[TJ hiσ]at e2;cases e2;exact⟨u,r,.inl ⟨hk,by simp⟩⟩
   ·rw[List.getElem?_set_ne<|CK hj]at e2;obtain⟨u',r',q⟩:=hl j y v' e1 e2 e3;refine⟨u',r',?_⟩
    rcases q with ⟨k,e⟩ | ⟨k,c,e,z⟩
    ·refine .inl ⟨k,?_⟩;have:y≠x:=λe=>hj<|Ot hN e1<|e ▸ hi;simp[this,e]
    ·exact .inr ⟨k,c,e,z.sameBut hs<|mP y c e⟩
  ·obtain⟨w',z⟩:=I.cell y c e;exact⟨w',z.sameBut hs<|mP y c e⟩
  ·obtain⟨e,n,ne,nf,d⟩:=I.pin p hp;exact⟨(hs.2 p.1 ne).trans e,n,ne,nf,d⟩
 ·have D0:X.fn x=true:=by
   rcases hf with z | z
   ·exact z
   ·rw[z]at hk;cases hk
  obtain⟨c,hc⟩:=I.ok.has x<|.inl hk;obtain⟨w',z⟩:=I.cell x c hc;refine wpAny_storeName_cell I.ok.kind hk hc z λh' bj hs=>?_;obtain⟨oc,Ov,XR⟩:=id z;refine h {s with heap:=h'} ⟨I.ok,I.os,I.bare,⟨λb o e n hb hx=>?_,λb o e n hb hx=>?_,I.Z.free,λb o e hx=>?_,I.Z.fP,I.Z.fc,I.Z.fQ⟩,⟨m,hn.sameBut hs<|CK<|mP x c hc,λj y v' e1 e2 e3=>?_⟩,λy c' e=>?_,I.free,I.cD,λp hp=>?_,tracked ⟨oc,Ov,I.cD x c hc⟩ hs,by simpa using I.len⟩ ⟨c,hs,.inr hc⟩
  ·exact(hs.2 b<|Bw<|Bq (Av e)<|I.ok.uR x c D0 hc).trans<|I.Z.keep b o e n hb hx
  ·obtain⟨sl,e1⟩:=I.Z.slot b o e n hb hx;exact⟨sl,(hs.2 b<|Bw<|Bq (Av e)<|I.ok.uR x c D0 hc).trans e1⟩
  ·obtain⟨o',e1⟩:=I.Z.there b o e hx;exact⟨o',(hs.2 b<|Bw<|Bq (Av e)<|I.ok.uR x c D0 hc).trans e1⟩
  ·by_cases hj:j=i
   ·subst hj;rw[hi]at e1;cases e1;rw[TJ hiσ]at e2;cases e2;exact⟨u,r,.inr ⟨.inl hk,c,hc,bj⟩⟩
   ·rw[List.getElem?_set_ne<|CK hj]at e2;obtain⟨u',r',q⟩:=hl j y v' e1 e2 e3;refine⟨u',r',?_⟩
    rcases q with q | ⟨k,c',e,z'⟩
    ·exact .inl q
    ·refine .inr ⟨k,c',e,z'.sameBut hs ?_⟩;rintro rfl;exact hj<|Ot hN e1<|I.ok.inj _ _ _ e hc ▸ hi
  ·by_cases i0:c'=c
   ·subst i0;exact⟨_,bj⟩
   ·obtain⟨w2,z2⟩:=I.cell y c' e;exact⟨w2,z2.sameBut hs i0⟩
  ·obtain⟨e,n,ne,nf,d⟩:=I.pin p hp;refine⟨(hs.2 p.1 ?_).trans e,n,ne,nf,d⟩;intro q;rw[q,Ov]at e;have q':=Option.some.inj e;exact d w'<|by rwa[<- q']
def Ow{Q:Unit->Shared->Prop}(I:↥3)(hN:X.N.Nodup)(hi:X.N[i]?≈x)(hx:Loc X.env.scope x)(r:RelV v u)
  (h:∀ s',Inv X O (σ.set i<|some v) H s'->Q () s') (hf:X.fn x=true\/X.env.scope.names.lookup x=some .local:=by first | exact .inl rfl | exact .inr rfl | assumption):wpAny M A (storeName X.env x u) Q E s:=
 Ou I hN hi hx r (λs' I' _=>h s' I') hf
def Inv.call'(I:↥3)(ho:s'.os=s.os)(u:Un (fe X.stack) ch H H' s.heap s'.heap)(aH:cn X.U X.w H' s'.heap)(hg:AllBare s'.gens)
  (lS:∀ b∈ch,(b∈X.ex\/X.æ.heap.objs.size<=b)/\b≠X.env.locals/\(∀ x c,↥11≈c->c≠b)/\∀ p∈X.pn++O,p.1≠b):Inv X O σ H' s':=by
 obtain⟨h',g',d',t',o'⟩:=s';have e:=ho;subst e;exact I.call u aH hg lS
end
abbrev XK:=Value->Option Addr->Hp->Prop
abbrev St:=List<|Option V
abbrev VK:=V->Hp->Prop
abbrev TE:=St->Hp->VK->Prop
abbrev TT:=St->Hp->(Bool->Hp->Prop)->Prop
abbrev TA:=St->Hp->(List V->Hp->Prop)->Prop
structure Ends where
 nx:St->Hp->Prop
 rt:VK
 bk:St->Hp->Prop:=λ_ _=>False
 ct:St->Hp->Prop:=λ_ _=>False
abbrev TS:=Ends->St->Hp->Prop
def EP(X:Cx)(O:Ï)(σ:St)(Q:VK)(u:Value)(s':Shared):Prop:=∃ v H',Inv X O σ H' s'/\RelV v u/\Q v H'
def TP(X:Cx)(O:Ï)(σ:St)(Q:Bool->Hp->Prop)(b:Bool)(s':Shared):Prop:=∃ H',Inv X O σ H' s'/\Q b H'
def AP(X:Cx)(O:Ï)(σ:St)(Q:List V->Hp->Prop)(us:Ò)(s':Shared):Prop:=∃ vs H',Inv X O σ H' s'/\ay vs us/\Q vs H'
def SP(X:Cx)(O:Ï)(D:Ends)(f:Flow)(s':Shared):Prop:=
 match f with
 | .next=>∃ σ' H',Inv X O σ' H' s'/\D.nx σ' H'
 | .brk=>∃ σ' H',Inv X O σ' H' s'/\D.bk σ' H'
 | .cont=>∃ σ' H',Inv X O σ' H' s'/\D.ct σ' H'
 | .ret u=>∃ v σ' H',Inv X O σ' H' s'/\RelV v u/\D.rt v H'
def PE(X:Cx)(e:Expr)(t:TE):Prop:=
 ∀O s σ H Q,↥3->t σ H Q->↥2 (eval e X.env) (EP X O σ Q) X.xe s
def PT(X:Cx)(e:Expr)(t:TT):Prop:=
 ∀O s σ H Q,↥3->t σ H Q->↥2 (isTrue e X.env<|eval e X.env) (TP X O σ Q) X.xe s
def PW(X:Cx)(e:Expr)(t:TT):Prop:=
 ∀whole O s σ H Q,↥3->t σ H Q->↥2 (isTrue e X.env whole) (TP X O σ Q) X.xe s
def PA(X:Cx)(es:Ó)(t:TA):Prop:=
 ∀pos O s σ H Q,↥3->t σ H Q->↥2 (spliced<|backTo pos<|starEach es X.env) (AP X O σ Q) X.xe s
def PS(X:Cx)(st:Stmt)(t:TS):Prop:=
 ∀O s σ H D,↥3->t D σ H->↥2 (exec st X.env) (SP X O D) X.xe s
def jz(X:Cx)(st:Ô)(t:TS):Prop:=
 ∀O s σ H D,↥3->t D σ H->↥2 (execs st X.env) (SP X O D) X.xe s
def aO{α:Type}{t:Sem α}{Q Q':α->Shared->Prop}(h:wpAny M A t Q E s)(hQ:∀ a s,Q a s->Q' a s):wpAny M A t Q' E s:=CW h hQ λ_ _ x=>x
variable{R:V->V->Hp->Prop}{σ:St}{ta:TE}{Q:Í}{op:CmpOp}{e c:Expr}
section
def bin{a b:Expr}{tb:TE}(ha:PE X a ta)(hb:PE X b tb)(I:↥3)(h:ta σ H λx H1=>tb σ H1 λy H2=>R x y H2)
  {α:Type} {Q:α->Shared->Prop} {f:Value->Value->Sem α}
  (hf:∀ v u s2 x y H2,Inv X O σ H2 s2->RelV x v->RelV y u->R x y H2->↥2 (f v u) Q X.xe s2) :
  ↥2 (eval a X.env) (λv À=>↥2 (eval b X.env) (λu Á=>↥2 (f v u) Q X.xe Á) X.xe À) X.xe s:=by
 refine aO (ha O s σ H _ I h) λv s1 ⟨x,H1,I1,r1,q1⟩=>?_;refine aO (hb O s1 σ H1 _ I1 q1) λu s2 ⟨y,H2,I2,r2,q2⟩=>?_;exact hf v u s2 x y H2 I2 r1 r2 q2
def D1(i:Nat):TE:=λσ H Q=>∃ v,σ[i]?≈some v/\Q v H
def tC(v:V):TE:=λ_ H Q=>Q v H
def XS{pos:Pos}(hN:X.N[i]?≈x)(hv:DT X.env.scope x)(hd:(x == ("__debug__" : Str))=false:=by decide)(i4:(x == ("__classdict__" : Str))=false:=by decide):PE X (.Name x pos) (D1 i):=by
 intro O s σ H Q I h;obtain⟨v,e,h⟩:=h;obtain⟨m,hn,hl⟩:=I.loc;obtain⟨u,r,l⟩:=hl i x v hN e hv;have fin:EP X O σ Q u s:=⟨v,H,I,r,h⟩
 rcases l with ⟨hk,hm⟩ | ⟨hk,c,hc,i5⟩
 ·exact wpAny_Name (wpAny_loadName_local I.ok.kind hk hn hm fin) hd
 ·rcases hk with hk | hk
  ·exact wpAny_Name (wpAny_loadName_cell I.ok.kind hk hc i5 fin) hd
  ·exact wpAny_Name (wpAny_loadName_free I.ok.kind hk hc i5 fin i4) hd
def XT{i j pos}:PE X (.Constant (.int i) j pos) (tC<|.int i):=λ_ _ _ H _ I h=>wpAny_Constant_int ⟨.int i,H,I.tok _,⟨_,rfl⟩,h⟩
def XU{b j pos}:PE X (.Constant (.bool b) j pos) (tC<|.bl b):=λ_ _ _ H _ I h=>Constant_bool ⟨.bl b,H,I,rfl,h⟩
def XW{j pos}:PE X (.Constant .none j pos) (tC .non):=λ_ _ _ H _ I h=>Constant_none ⟨.non,H,I,rfl,h⟩
def XX{x j pos}:PE X (.Constant (.str x) j pos) (tC<|.str x):=λ_ _ _ H _ I h=>Calls.Constant_str ⟨.str x,H,I.tok _,⟨_,rfl⟩,h⟩
def Gl(X:Cx)(x:Str):Prop:=X.env.kindOf x=some .globalImplicit
def Ox{pos:Pos}(I:↥3)(hg:Gl X x)(hm:X.mg x≈u)(h:Q u s)
  (hd:(x == ("__debug__" : Str))=false:=by decide):↥2 (eval (.Name x pos) X.env) Q E s:=
 Calls.Name_function_global I.ok.kind hg (Calls.loadGlobal_global (by rw[I.ok.glob];exact I.mod.glob.keeps I.bk) hm h) hd
def mQ{pos:Pos}(I:↥3)(hg:Gl X x)(hm:X.mg x=none)(hv:bootBuiltins x≈u)(h:Q u s)
  (hn:x ≠ "__name__":=by decide) (hd:(x == ("__debug__" : Str))=false:=by decide):↥2 (eval (.Name x pos) X.env) Q E s:=by
 obtain⟨mb,h1,h2⟩:=I.mod.blt;exact Calls.Name_function_global I.ok.kind hg (Calls.loadGlobal_builtin (by rw[I.ok.glob];exact I.mod.glob.keeps I.bk) hm (by rw[I.ok.blt];exact h1.keeps I.bk) ((h2 x hn).trans hv) h) hd
def XY{pos:Pos}(hg:Gl X x)(hm:X.mg x=none)(hv:bootBuiltins x≈u)(r:RelV v u)(hn:x ≠ "__name__":=by decide)(hd:(x == ("__debug__" : Str))=false:=by decide):PE X (.Name x pos) (tC v):=
 λ_ _ _ H _ I h=>mQ I hg hm hv ⟨v,H,I,r,h⟩ hn hd
variable{a b:Expr}{tb:TE}{pos:Pos}
def PC(X:Cx)(op:CmpOp)(a b:Expr)(t:TE):Prop:=
 ∀O s σ H Q,↥3->t σ H Q ->
  ↥2 (eval a X.env) (λv À=>↥2 (eval b X.env) (λu Á=>↥2 (compareOp op v u) (EP X O σ Q) X.xe Á) X.xe À) X.xe s
def tB(t:TE):TT:=λσ H Q=>t σ H λx H1=>∃ c,x = .bl c/\Q c H1
def Oy{t:TE}(h:PC X op a b t)(h1:behindInMarks op b=false:=by first | exact uU _ ∅ ∅ | rfl):PT X (.Compare a [op] [b] pos) (tB t):=by
 intro O s σ H Q I hw;refine wpAny_isTrue_Compare1 (aO (h O s σ H _ I hw) λv s1 h1=>aO h1 λu s2 h2=>aO h2 λc s3 ⟨x,H1,I1,r1,q1⟩=>?_) h1;obtain⟨d,rfl,q⟩:=q1;cases r1;exact EY ⟨H1,I1,q⟩
def XZ{t:TE}(h:PE X e t)(he:∀ whole,isTrue e X.env whole=(do let v <- whole;standAt e.pos;holding [v] (truthy v)):=by intro _;rfl):PT X e (tB t):=by
 intro O s σ H Q I hw;refine isTrue_plain (aO (h O s σ H _ I hw) λv s1 ⟨x,H1,I1,r1,q1⟩=>?_)<|he _;obtain⟨d,rfl,q⟩:=q1;cases r1;exact EY ⟨H1,I1,q⟩
variable{tA yR:TT}{rest:Ó}
def D4(t u:TT):TT:=λσ H Q=>t σ H λc H1=>if c=true then u σ H1 Q else Q false H1
def X0(t u:TT):TT:=λσ H Q=>t σ H λc H1=>if c=true then Q true H1 else u σ H1 Q
def D5(t:TT):TT:=λσ H Q=>t σ H λc H1=>Q (!c) H1
theorem X1(ha:PT X a tA):PW X (.BoolOp .And [a] pos) tA:=by
 intro wh O s σ H Q I h;refine isTrue_and<|aO (ha O s σ H Q I h) λc s1 e=>?_;cases c with
 | true=>exact isTrue_and_nil e
 | false=>exact e
theorem X2(ha:PT X a tA):PW X (.BoolOp .Or [a] pos) tA:=by
 intro wh O s σ H Q I h;refine isTrue_or<|aO (ha O s σ H Q I h) λc s1 e=>?_;cases c with
 | false=>exact isTrue_or_nil e
 | true=>exact e
theorem X3(ha:PT X a tA)(hb:PW X (.BoolOp .And (b :: rest) pos) yR):PW X (.BoolOp .And (a :: b :: rest) pos) (D4 tA yR):=by
 intro wh O s σ H Q I h;refine isTrue_and<|aO (ha O s σ H _ I h) λc s1 ⟨H1,I1,q1⟩=>?_;cases c with
 | true=>exact hb wh O s1 σ H1 Q I1 q1
 | false=>exact⟨H1,I1,q1⟩
theorem X4(ha:PT X a tA)(hb:PW X (.BoolOp .Or (b :: rest) pos) yR):PW X (.BoolOp .Or (a :: b :: rest) pos) (X0 tA yR):=by
 intro wh O s σ H Q I h;refine isTrue_or<|aO (ha O s σ H _ I h) λc s1 ⟨H1,I1,q1⟩=>?_;cases c with
 | true=>exact⟨H1,I1,q1⟩
 | false=>exact hb wh O s1 σ H1 Q I1 q1
def X5(ha:PT X a tA):PT X (.UnaryOp .Not a pos) (D5 tA):=by
 intro O s σ H Q I h;exact isTrue_not<|ha O s σ H (λc H1=>Q (!c) H1) I h
def X6(ta tb:TE):TE:=λσ H Q=>ta σ H λx H1=>∃ c,x = .bl c/\if c=true then tb σ H1 Q else Q (.bl false) H1
def X7{op}{t:TE}(h:PE X a t):PE X (.BoolOp op [a] pos) t:=λO s σ H Q I hw=>BoolOp_one<|h O s σ H Q I hw
theorem X8(ha:PE X a ta)(hb:PE X (.BoolOp .And (b :: rest) pos) tb):PE X (.BoolOp .And (a :: b :: rest) pos) (X6 ta tb):=by
 intro O s σ H Q I h;refine BoolOp_and<|aO (ha O s σ H _ I h) λv s1 ⟨x,H1,I1,r1,q1⟩=>?_;obtain⟨c,rfl,q1⟩:=q1;cases r1;refine EY ?_;cases c with
 | true=>exact hb O s1 σ H1 Q I1 q1
 | false=>exact⟨.bl false,H1,I1,rfl,q1⟩
def X9(t:TT)(ta tb:TE):TE:=λσ H Q=>t σ H λc H1=>if c=true then ta σ H1 Q else tb σ H1 Q
theorem Ya(hc:PT X c tA)(ha:PE X a ta)(hb:PE X b tb):PE X (.IfExp c a b pos) (X9 tA ta tb):=by
 intro O s σ H Q I h;refine wpAny_IfExp<|aO (hc O s σ H _ I h) λd s1 ⟨H1,I1,q1⟩=>?_;cases d with
 | true=>exact ha O s1 σ H1 Q I1 q1
 | false=>exact hb O s1 σ H1 Q I1 q1
end
def au(K:PySem.W.Frag)(H:Hp)(a:Addr)(xs:List V):Prop:=
 Rd H a (.lst xs) \/
  ∃o è n,K.lookup a≈o/\o.cls = .type "list"/\o.dict=none/\o.data = .seq è n/\è.size<=sizeLine/\ay xs è.toList
def aQ(K:PySem.W.Frag)(H:Hp)(a:Addr)(xs:List V):Prop:=
 Rd H a (.tup xs) \/
  ∃o è n,K.lookup a≈o/\o.cls = .type "tuple"/\o.data = .seq è n/\è.size<=sizeLine/\ay xs è.toList
def D6:Value->Option V
 | .none=>some .non
 | .bool b=>some<|.bl b
 | .int i _=>some<|.int i
 | .str x _=>some<|.str x
 | .bytes b _=>some<|.jy b
 | .float b _=>some<|.sR b
 | .ref a=>some<|.ref a
 | .type n=>some<|.ty n
 | _=>none
theorem RelV.abs{x:V}(r:RelV x u):D6 u≈x:=by
 cases x with
 | non=>cases r;rfl
 | bl _=>cases r;rfl
 | int _=>obtain⟨t,rfl⟩:=r;rfl
 | str _=>obtain⟨t,rfl⟩:=r;rfl
 | jy _=>obtain⟨t,rfl⟩:=r;rfl
 | sR _=>obtain⟨t,rfl⟩:=r;rfl
 | ref _=>cases r;rfl
 | ty _=>cases r;rfl
def RelV.inj{x y:V}{u:Value}(r:RelV x u)(q:RelV y u):x=y:=Option.some.inj<|r.abs.symm.trans q.abs
theorem ay.inj:∀{xs ys}{us},ay xs us->ay ys us->xs=ys
 | _,_,_,.nil,.nil=>rfl
 | _,_,_,.cons r t,.cons r' t'=>by rw[r.inj r',ay.inj t t']
variable{xs:List V}{K:PySem.W.Frag}
section
variable{ys:List V}
def au.of(h:H a≈.lst xs):au K H a xs:= .inl<|.inl h
def aQ.of(h:H a≈.tup xs):aQ K H a xs:= .inl<|.inl h
theorem Inv.list(I:↥3)(h:au X.K H a xs):∃ è:Ò,ay xs è/\PlainL s.heap a è.toArray/\xs.length<=sizeLine:=by
 rcases h with h | ⟨o,è,n,hk,hc,hd,hs,hz,r⟩
 ·obtain⟨z,è,n,r,e⟩:=h.ok I.aH;exact⟨è,r,⟨_,n,e,rfl,rfl,rfl⟩,z⟩
 ·refine⟨è.toList,r,⟨o,n,I.gQ a o hk,hc,hd,hs⁻¹⟩,?_⟩;have e:=r.length;simp only[Bu]at e;omega
theorem Inv.tuple(I:↥3)(h:aQ X.K H a xs):∃ è:Ò,ay xs è/\IsTup s.heap a è.toArray/\xs.length<=sizeLine:=by
 rcases h with h | ⟨o,è,n,hk,hc,hs,hz,r⟩
 ·obtain⟨z,è,r,p⟩:=h.ok I.aH;exact⟨è,r,p,z⟩
 ·refine⟨è.toList,r,⟨o,I.gQ a o hk,hc,n,hs⁻¹⟩,?_⟩;have e:=r.length;simp only[Bu]at e;omega
def Inv.cY(I:↥3)(h:au X.K H a xs)(h':au X.K H a ys):xs=ys:=by
 obtain⟨è,r,⟨o,n,e,_,_,d⟩,_⟩:=I.list h;obtain⟨its',r',⟨o',n',e',_,_,d'⟩,_⟩:=I.list h';rw[e]at e';cases e';rw[d]at d'
 injection d' with d1 _
 have:è=its':=by simpa using BZ Array.toList d1
 subst this;exact r.inj r'
end
abbrev Cx.fh(X:Cx)(E:Í):Cx:={X with xe:=E}
abbrev Cx.sW(X:Cx):Cx:=X.fh λ_ _=>False
def Cx.Ok.fh{X:Cx}(ok:X.Ok)(E:Í):(X.fh E).Ok:=
 ⟨ok.mod,ok.kind,ok.glob,ok.blt,ok.above,ok.inj,ok.has,ok.uR,ok.hd,ok.frames,ok.yN,ok.Oo,ok.bs,ok.oA,ok.kA,ok.mO,ok.d6,ok.sV⟩
def Cx.Ok.cE(ok:(X.fh E).Ok):X.Ok:=
 ⟨ok.mod,ok.kind,ok.glob,ok.blt,ok.above,ok.inj,ok.has,ok.uR,ok.hd,ok.frames,ok.yN,ok.Oo,ok.bs,ok.oA,ok.kA,ok.mO,ok.d6,ok.sV⟩
def Inv.fh(I:↥3)(E:Í):Inv (X.fh E) O σ H s:=⟨I.ok.fh E,I.os,I.bare,I.Z,I.loc,I.cell,I.free,I.cD,I.pin,I.aH,I.len⟩
def Inv.cE(I:Inv (X.fh E) O σ H s):↥3:=⟨I.ok.cE,I.os,I.bare,I.Z,I.loc,I.cell,I.free,I.cD,I.pin,I.aH,I.len⟩
theorem SP.cE{D:Ends}{f:Flow}{s':Shared}(h:SP (X.fh E) O D f s'):SP X O D f s':=by
 cases f with
 | next=>obtain⟨σ',H',I,q⟩:=h;exact⟨σ',H',I.cE,q⟩
 | brk=>obtain⟨σ',H',I,q⟩:=h;exact⟨σ',H',I.cE,q⟩
 | cont=>obtain⟨σ',H',I,q⟩:=h;exact⟨σ',H',I.cE,q⟩
 | ret u=>obtain⟨v,σ',H',I,r,q⟩:=h;exact⟨v,σ',H',I.cE,r,q⟩
def jz.sW{st:Ô}{t:TS}(h:jz X.sW st t):jz X st t:=λO s σ H D I hw=>
 CW (h O s σ H D (I.fh _) hw) (λ_ _ q=>q.cE) λ_ _ z=>False.elim z
variable{te:TE}{tc:TT}
section
variable{st:Stmt}{rest:Ô}{t u:TS}{pos:Pos}
def Yb:TS:=λD σ H=>D.nx σ H
def D7(t u:TS):TS:=λD σ H=>t {D with nx:=u D} σ H
def Yc:jz X [] Yb:=λ_ _ σ H _ I h=>SM ⟨σ,H,I,h⟩
theorem Yd(h1:PS X st t)(h2:jz X rest u):jz X (st :: rest) (D7 t u):=by
 intro O s σ H D I h;refine wpAny_execs_cons<|aO (h1 O s σ H {D with nx:=u D} I h) λf s1 q=>?_;cases f with
 | next=>
  obtain⟨σ',H',I',q⟩:=q;exact h2 O s1 σ' H' D I' q
 | ret v=>exact q
 | brk=>exact q
 | cont=>exact q
def Inv.quiet(I:↥3):interactive X.env=false:=by simp[interactive,I.ok.kind]
def Ye(te:TE):TS:=λD σ H=>te σ H λ_ H1=>D.nx σ H1
def Yf(he:PE X e te)(hs:swapsWith e none pos.line X.env=pure false:=by rfl):PS X (.Expr e pos) (Ye te):=by
 intro O s σ H D I h;exact wpAny_Expr_any (aO (he O s σ H _ I h) λv s1 ⟨x,H1,I1,r1,q1⟩=>⟨σ,H1,I1,q1⟩) I.quiet hs
def D8(te:TE):TS:=λD σ H=>te σ H D.rt
def Yg(he:PE X e te):PS X (.Return (some e) pos) (D8 te):=by
 intro O s σ H D I h;exact wpAny_Return_some<|aO (he O s σ H _ I h) λv s1 ⟨x,H1,I1,r1,q1⟩=>⟨x,σ,H1,I1,r1,q1⟩
def D9(c:TT)(t u:TS):TS:=λD σ H=>c σ H λb H1=>if b=true then t D σ H1 else u D σ H1
theorem Yh{a b:Ô}(hc:PT X c tc)(ha:jz X a t)(hb:jz X b u):PS X (.If c a b pos) (D9 tc t u):=by
 intro O s σ H D I h;refine wpAny_If<|aO (hc O s σ H _ I h) λd s1 ⟨H1,I1,q1⟩=>?_;cases d with
 | true=>exact ha O s1 σ H1 D I1 q1
 | false=>exact hb O s1 σ H1 D I1 q1
end
abbrev TG:=V->St->Hp->(St->Hp->Prop)->Prop
abbrev pW:=List V->St->Hp->(St->Hp->Prop)->Prop
def PG(X:Cx)(target:Expr)(t:TG):Prop:=
 ∀O s σ H v u Q,↥3->RelV v u->t v σ H Q ->
  ↥2 (assign target X.env u) (λ_ s'=>∃ σ' H',Inv X O σ' H' s'/\Q σ' H') X.xe s
def yS(X:Cx)(ts:Ó)(t:pW):Prop:=
 ∀O s σ H vs us Q,↥3->ay vs us->t vs σ H Q ->
  ↥2 (assignInOrder ((assignEach ts X.env).map (·.2)) us) (λ_ s'=>∃ σ' H',Inv X O σ' H' s'/\Q σ' H') X.xe s
variable{es:Ó}{n:Nat}{tg:Expr}{pos':Pos}{tb:TS}{body:Ô}
section
variable{pos:Pos}
def Oz(i:Nat):TG:=λv σ H Q=>Q (σ.set i<|some v) H
def Yi(hN:X.N.Nodup)(hi:X.N[i]?≈x)(hx:Loc X.env.scope x)(hf:X.fn x=true\/X.env.scope.names.lookup x=some .local:=by first | exact .inl rfl | exact .inr rfl | assumption):PG X (.Name x pos) (Oz i):=by
 intro O s σ H v u Q I r h;exact wpAny_assign_Name<|Ow I hN hi hx r (λs' I'=>⟨_,H,I',h⟩) hf
def pX:pW:=λvs σ H Q=>vs=[]/\Q σ H
def sX(t:TG)(u:pW):pW:=λvs σ H Q=>∃ v r,vs=v :: r/\t v σ H λσ' H'=>u r σ' H' Q
def OA:yS X [] pX:=by
 intro O s σ H vs us Q I r h;obtain⟨e,h⟩:=h;subst e;cases r;exact assignInOrder_nil ⟨σ,H,I,h⟩
theorem uV{t:TG}{u:pW}(h1:PG X e t)(h2:yS X es u)
  (hs:(assignEach (e :: es) X.env).map (·.2)=assign e X.env :: (assignEach es X.env).map (·.2):=by rfl):yS X (e :: es) (sX t u):=by
 intro O s σ H vs us Q I r h;obtain⟨v,vr,e1,h⟩:=h;subst e1;cases r with
 | cons r rr=>
  rw[hs];refine assignInOrder_cons<|aO (h1 O s σ H _ _ _ I r h) λ_ s1 ⟨σ1,H1,I1,q1⟩=>?_;exact h2 O s1 σ1 H1 _ _ Q I1 rr q1
def EA(K:PySem.W.Frag)(n:Nat)(t:pW):TG:=λv σ H Q=>∃ a xs,v = .ref a/\aQ K H a xs/\xs.length=n/\t xs σ H Q
def OB{k:Nat}{t:pW}(hc:X.calm=true)(h:yS X es t)
  (hn:(assignEach es X.env).length=n:=by rfl) (cW:(assignEach es X.env).findIdx? (·.1)=none:=by rfl):PG X (.Tuple es k pos) (EA X.K n t):=by
 intro O s σ H v u Q I r hw;obtain⟨a,xs,e1,hq,hl,hw⟩:=hw;subst e1;cases r;obtain⟨è,rv,ht,hz⟩:=I.tuple hq;refine assign_Tuple_tuple (I.ok.hd hc) ht (by simp[hn,<- hl,rv.length]) cW λh' hx=>?_;have I1:=I.kept (t':=s.toks) λb o e=>hx b o (Bw<|Av e) e;exact h O _ σ H xs _ Q I1 rv⁻¹ hw
def uW(te:TE)(g:TG):TS:=λD σ H=>te σ H λx H1=>g x σ H1 D.nx
def Yj{g:TG}(he:PE X e te)(hg:PG X tg g)(hs:swapsWithSole [tg] e pos.line X.env=pure false:=by rfl)(hw:swappedStores [tg] e X.env=pure none:=by rfl)
  (h1:(assignEach [tg] X.env).map (·.2)=[assign tg X.env]:=by rfl):PS X (.Assign [tg] e pos) (uW te g):=by
 intro O s σ H D I h;refine wpAny_Assign_stores (aO (he O s σ H _ I h) λv s1 ⟨x,H1,I1,r1,q1⟩=>?_) hs hw;rw[h1];exact aO (hg O s1 σ H1 x v _ I1 r1 q1) λ_ s2 q=>q
def Yk(hN:X.N.Nodup)(hi:X.N[i]?≈x)(hx:Loc X.env.scope x)(he:PE X e te)(hs:swapsWith e (some<|.Name x pos') pos.line X.env=pure false:=by rfl)(hf:X.fn x=true\/X.env.scope.names.lookup x=some .local:=by first | exact .inl rfl | exact .inr rfl | assumption) :
  PS X (.Assign [.Name x pos'] e pos) (uW te<|Oz i):=by
 intro O s σ H D I h;refine wpAny_Assign_Name (aO (he O s σ H _ I h) λv s1 ⟨y,H1,I1,r1,q1⟩=>?_) hs;exact Ow I1 hN hi hx r1 (λs2 I2=>⟨_,H1,I2,q1⟩) hf
def Yl(c:TT)(tb:TS):TS:=λD σ H=>∃ W:Nat->St->Hp->Prop,(∃ m,W m σ H)/\∀ m σ H,W m σ H ->
 c σ H λb H1=>if b=true then ∃ N:St->Hp->Prop,(∀ σ' H',N σ' H'->∃ m',m' < m/\W m' σ' H')/\tb {D with nx:=N,ct:=N,bk:=D.nx} σ H1 else D.nx σ H1
theorem Ym(hp:PassesOwn (model X.U X.w) X.A X.env X.xe)(hc:PT X c tc)(hb:jz X body tb):PS X (.While c body [] pos) (Yl tc tb):=by
 intro O s σ H D I h;obtain⟨W,⟨m0,w0⟩,turn⟩:=h;refine wpAny_While<|codeAny_whileLoop (λn s'=>∃ σ' H',Inv X O σ' H' s'/\W n σ' H') ?_ m0 ⟨σ,H,I,w0⟩;rintro n s1 ⟨σ1,H1,I1,w1⟩;refine JB hp<|aO (hc O s1 σ1 H1 _ I1<|turn n σ1 H1 w1) λb s2 ⟨H2,I2,q2⟩=>?_;cases b with
 | true=>
  obtain⟨N,hN,q2⟩:=q2;rw[BP rfl];refine JB hp<|aO (hb O s2 σ1 H2 _ I2 q2) λf s3 q3=>?_;cases f with
  | next=>
   obtain⟨σ3,H3,I3,n3⟩:=q3;obtain⟨m',hm,w3⟩:=hN σ3 H3 n3;exact⟨m',hm,σ3,H3,I3,w3⟩
  | cont=>
   obtain⟨σ3,H3,I3,n3⟩:=q3;obtain⟨m',hm,w3⟩:=hN σ3 H3 n3;exact⟨m',hm,σ3,H3,I3,w3⟩
  | brk=>exact q3
  | ret v=>exact q3
 | false=>
  rw[BL Aw];exact SM ⟨σ1,H2,I2,q2⟩
end
structure It where
 go:Nat->Hp->Prop
 uX:Nat->Hp->V->Hp->Prop
 stop:Nat->Hp->Prop
def cr(X:Cx)(O:Ï)(H:Hp)(b:Addr):Prop:=
 H b=none/\b≠X.env.locals/\b∉X.fs/\(b∈X.ex\/X.æ.heap.objs.size<=b)/\(∀ x c,↥11≈c->c≠b)/\∀ p∈X.pn++O,p.1≠b
def Inv.jA(I:↥3)(hb:↑s<=b)(hn:H' b=none):cr X O H' b:=by
 refine⟨hn,Cz<|Bq I.lt hb,I.DV hb,.inr<|Ch I.sz hb,λx c e z=>?_,λp hp z=>?_⟩
 ·obtain⟨v,q⟩:=I.cell x c e;exact absurd (Bq q.lt<|by rwa[z])<|De _
 ·exact absurd (Bq (Av (I.pin p hp).1)<|by rwa[z])<|De _
structure Turn(P:Program)(w:World)(K:PySem.W.Frag)(tg:Expr)(J:It)(fp:↥9)(it:Addr)(tn:Nat->Heap->Prop):Prop where
 mem:it∈fp
 obj:∀ i h,tn i h->∀ b∈fp,∃ o,h.get? b≈o/\∀ v,o.data ≠ .cell v
 keep:∀ i h h',tn i h->(∀ b∈fp,∀ o,h.get? b≈o->h'.get? b≈o)->tn i h'
 item:∀X,X.U=P->X.w=w->X.K=K->X.calm=true->∀i O s σ H E,↥3->(∀ b∈fp,cr X O H b)->tn i s.heap->J.go i H ->
  wpAny (model P w) X.A (pyNext<|.ref it) (λr s1=>∃ u,r=some u /\
   wpAny (model P w) X.A (letOwnedTupleGo tg (.ref it) u) (λ_ s2=>∃ x H',Inv X O σ H' s2/\RelV x u/\J.uX i H x H'/\tn (i+1) s2.heap/\∀ b∈fp,H' b=none) E s1) E s
 done:∀X,X.U=P->X.w=w->X.K=K->X.calm=true->∀i O s σ H E,↥3->(∀ b∈fp,cr X O H b)->tn i s.heap->J.stop i H ->
  wpAny (model P w) X.A (pyNext<|.ref it) (λr s1=>r=none/\Inv X O σ H s1) E s
 self:∀A i s Q E,tn i s.heap->Q (.ref it) s->wpAny (model P w) A (pyIter<|.ref it) Q E s
abbrev TI:=St->Hp->(It->Hp->Prop)->Prop
def OC(X:Cx)(O:Ï)(σ:St)(tg:Expr)(R:It->Hp->Prop)(oF:Value)(s2:Shared):Prop:=
 ∃it fp tn J H',oF = .ref it/\Inv X O σ H' s2/\Turn X.U X.w X.K tg J fp it tn/\tn 0 s2.heap/\(∀ b∈fp,cr X O H' b)/\R J H'
def PI(X:Cx)(tg iter:Expr)(wi:TI):Prop:=
 ∀O s σ H R,↥3->wi σ H R ->
  ↥2 (eval iter X.env) (λv s1=>↥2 (pyIter v) (OC X O σ tg R) X.xe s1) X.xe s
def EB{it:Addr}{n:String}{vs:Array Value}{Q:Unit->Shared->Prop}(ho:s.heap.get? it≈o)(hc:o.cls = .type n)(hd:o.data = .fields vs)
    (hn:["enumerate","zip","dict_itemiterator","dict_reverseitemiterator","odict_iterator","itertools.zip_longest","itertools.pairwise"].contains n=false) (hQ:Q () s):wpAny M A (letOwnedTupleGo tg (.ref it) u) Q E s:=by
  unfold letOwnedTupleGo;cases tg <;> first
    | exact BK hQ
    | (cases u <;> first
        | exact BK hQ
        | (refine BJ<|wpAny_load ho ?_
           rw[hc,hd];show wpAny M A (if(["enumerate","zip","dict_itemiterator","dict_reverseitemiterator","odict_iterator","itertools.zip_longest","itertools.pairwise"].contains n && vs[0]? == some (rawInt _))=true then _ else _) Q E s;rw[BL<|by intro h;rw[hn,Gq]at h;cases h];exact BK hQ))
def pY(K:PySem.W.Frag)(a:Addr):It:=
 ⟨λi H=>∃ xs x,au K H a xs/\xs[i]?≈x,λi H x H'=>H'=H/\∀ xs,au K H a xs->xs[i]?≈x,λi H=>∃ xs,au K H a xs/\xs.length<=i⟩
def Yn(K:PySem.W.Frag)(a:Addr):It:=
 ⟨λi H=>∃ xs x,aQ K H a xs/\xs[i]?≈x,λi H x H'=>H'=H/\∀ xs,aQ K H a xs->xs[i]?≈x,λi H=>∃ xs,aQ K H a xs/\xs.length<=i⟩
def sY(lo:Int)(n:Nat):It:=⟨λi _=>i < n,λi H x H'=>H'=H/\x = .int (lo+i),λi _=>n<=i⟩
theorem Yo(a it:Addr):Turn P w K tg (pY K a) [it] it (λi h=>h.IsListIter it a i) where
 mem:=by simp
 obj:=λi h st b hb=>by
  have e:b=it:=by simpa using hb
  subst e;obtain⟨o,e,c,d⟩:=st;exact⟨o,e,λv z=>by rw[d]at z;cases z⟩
 keep:=λi h h' st k=>st.at λo e=>k it (by simp) o e
 item:=by
  intro X hP hw hK hc i O s σ H E I hf st hg;subst hP hw hK;obtain⟨xs,x,hq,hx⟩:=hg;obtain⟨è,rv,p,hz⟩:=I.list hq;obtain⟨u,hu,ru⟩:=rv.get hx;obtain⟨f0,f1,f2,f3,f4,f5⟩:=hf it (by simp);refine wpAny_pyNext_list_item st p.isList hu⁻¹ λh' dX sb=>?_;have I1:=I.turned (t':=s.toks) (λb o hb e=>(sb.2 b hb).trans e) f0 f1 f3 f4 f5;obtain⟨o,e,c,d⟩:=id dX;exact⟨u,rfl,EB e c d ∅ ⟨x,H,I1,ru,⟨rfl,λys hy=>by rw[I.cY hy hq];exact hx⟩,dX,λb hb=>(hf b hb).1⟩⟩
 done:=by
  intro X hP hw hK hc i O s σ H E I hf st hg;subst hP hw hK;obtain⟨xs,hq,hx⟩:=hg;obtain⟨è,rv,p,hz⟩:=I.list hq;obtain⟨f0,f1,f2,f3,f4,f5⟩:=hf it (by simp);have hl:=rv.length;exact wpAny_pyNext_list_end (I.ok.hd hc) st p.isList (by simp;omega) λh' eb=>⟨rfl,I.turned (t':=s.toks) (λb o hb e=>eb b o hb e) f0 f1 f3 f4 f5⟩
 self:=λ_ _ _ _ _ st h=>wpAny_pyIter_listiter st h
theorem Yp(it:Addr)(lo:Int)(n:Nat):Turn P w K tg (sY lo n) [it] it (λi h=>IsRangeIter h it (lo+(i:Nat) * 1) ((n:Int) - (i:Nat)) 1) where
 mem:=by simp
 obj:=λi h st b hb=>by
  have e:b=it:=by simpa using hb
  subst e;exact⟨_,st,λv z=>by
   have z':=z;cases z'⟩
 keep:=λi h h' st k=>k it (by simp) _ st
 item:=by
  intro X hP hw hK hc i O s σ H E I hf st hg;subst hP hw hK;obtain⟨f0,f1,f2,f3,f4,f5⟩:=hf it (by simp);have W:=Walks.range (prog:=X.U) (w:=X.w) (I.ok.hd hc) it lo 1 n;refine W.item i s _ _ hg st λv h' tk hv dX kk=>?_;obtain⟨t,rfl⟩:=hv;have I1:Inv X O σ H {s with heap:=h',toks:=tk}:=I.turned (λb o hb e=>kk b o hb⁻¹ e) f0 f1 f3 f4 f5;refine⟨_,rfl,EB (s:={s with heap:=h',toks:=tk}) (n:= "range_iterator") dX rfl rfl ∅ ⟨.int<|lo+i,H,I1,⟨t,?_⟩,⟨rfl,rfl⟩,dX,λb hb=>(hf b hb).1⟩⟩;rw[Int.mul_one]
 done:=by
  intro X hP hw hK hc i O s σ H E I hf st hg;subst hP hw hK;obtain⟨f0,f1,f2,f3,f4,f5⟩:=hf it (by simp);exact wpAny_pyNext_range_end (I.ok.hd hc) st (by have:n<=i:=hg;omega) λh' eb=>⟨rfl,I.turned (t':=s.toks) (λb o hb e=>eb b o hb e) f0 f1 f3 f4 f5⟩
 self:=λ_ _ _ _ _ st h=>wpAny_pyIter_rangeiter st h
variable{fp:↥9}{p:Addr×Obj}{iter:Expr}
def Yq(K:PySem.W.Frag)(tl:TE):TI:=λσ H R=>tl σ H λx H1=>∃ a,x = .ref a/\(∃ xs,au K H1 a xs)/\R (pY K a) H1
def gD{l:Expr}{tl:TE}(hl:PE X l tl):PI X tg l (Yq X.K tl):=by
 intro O s σ H R I h;refine aO (hl O s σ H _ I h) λv s1 ⟨x,H1,I1,r1,q1⟩=>?_;obtain⟨a,e,⟨xs,hq⟩,q⟩:=q1;subst e;cases r1;obtain⟨è,rv,p,hz⟩:=I1.list hq;refine RJ p.isList<|⟨↑s1,[↑s1],_,_,H1,rfl,I1.kept λb o e=>Aj _ e,Yo a _,⟨_,At _ rfl,rfl,rfl⟩,λb hb=>?_,q⟩;have e:b=↑s1:=by simpa using hb
 subst e;exact I1.jA (An _)<|I1.aH.fresh<|An _
theorem Yr{R:It->Hp->Prop}{lo hi:Int}{t u v:Tok}{tk:Nat}(I:↥3)(h1:-(2 ^ 62)<=lo)(h2:lo < 2 ^ 62)(h3:-(2 ^ 62)<=hi)(h4:hi < 2 ^ 62)
  (q:R (sY lo (hi - lo).toNat) H):↥2 (pyIter<|.ref ↑s) (OC X O σ tg R) E {s with heap:=s.heap.push {cls:= .type "range",data:= .fields #[.int lo t,.int hi u,.int 1 v]},toks:=tk}:=by
 refine wpAny_pyIter_range (IsRange.new ..) (small_one h1 h2 h3 h4) ?_;have I1:Inv X O σ H {s with heap:=s.heap.push {cls:= .type "range",data:= .fields #[.int lo t,.int hi u,.int 1 v]},toks:=tk}:=I.kept λb o e=>Aj _ e;refine⟨(s.heap.push {cls:= .type "range",data:= .fields #[.int lo t,.int hi u,.int 1 v]}).objs.size,[(s.heap.push {cls:= .type "range",data:= .fields #[.int lo t,.int hi u,.int 1 v]}).objs.size],_,_,H,rfl,
  I1.kept λb o e=>Aj _ e,Yp _ lo (hi - lo).toNat,?_,λb hb=>?_,q⟩
 ·have e1:lo+((0:Nat):Int) * 1=lo:=by simp
  have e2:(((hi - lo).toNat:Nat):Int) - ((0:Nat):Int)=Builtin.Range.rangeSize lo hi 1:=by rw[rangeSize_one];split <;> omega
  show IsRangeIter _ _ (lo+((0:Nat):Int) * 1) ((((hi - lo).toNat:Nat):Int) - ((0:Nat):Int)) 1;rw[e1,e2];exact At _ rfl
 ·have e:b=(s.heap.push {cls:= .type "range",data:= .fields #[.int lo t,.int hi u,.int 1 v]}).objs.size:=by simpa using hb
  subst e;exact I1.jA (An _)<|I1.aH.fresh<|An _
def OG(ta:TA):TI:=λσ H R=>ta σ H λvs H1=>∃ j:Int,vs=[.int j]/\-(2 ^ 62)<=j/\j < 2 ^ 62/\R (sY 0 j.toNat) H1
theorem OH{a:Expr}{ta:TA}{p pos:Pos}(hg:Gl X "range")(hm:X.mg "range" = none)(ha:PA X [a] ta)(hs:starEach [a] X.env=[(false,eval a X.env)]:=by rfl):PI X tg (.Call (.Name "range" p) [a] [] pos) (OG ta):=by
 intro O s σ H R I h;refine Call_<|mQ I hg hm boot_range<|IK (aO (ha pos O s σ H _ I h) λus s1 ⟨vs,H1,I1,r1,q1⟩=>?_) hs rfl;obtain⟨j,e,q1,q2,q⟩:=q1;subst e;cases r1 with
 | cons r rr=>
  cases rr;obtain⟨t,rfl⟩:=r;exact call_range_1<|Yr I1 ⋯ ⋯ q1 q2<|q⁻¹
def EC(wi:TI)(g:TG)(tb:TS):TS:=λD σ H=>wi σ H λJ H1=>∃ W:Nat->Nat->St->Hp->Prop,(∃ m,W 0 m σ H1)/\∀ i m σ H,W i m σ H ->
 (J.stop i H/\D.nx σ H)\/(J.go i H/\∃ N:St->Hp->Prop,(∀ σ' H',N σ' H'->∃ m',m' < m/\W (i+1) m' σ' H')/\∀ x H',J.uX i H x H'->g x σ H' λσ2 H2=>tb {D with nx:=N,ct:=N,bk:=D.nx} σ2 H2)
def uY(fp:↥9)(h:Heap):Ï:=fp.filterMap λb=>(h.get? b).map λo=>(b,o)
def yT(hb:b∈fp)(e:h.get? b≈o):(b,o)∈uY fp h:=Gk.mpr ⟨b,hb,by rw[e];rfl⟩
theorem Ys(hp:p∈uY fp h):p.1∈fp/\h.get? p.1≈p.2:=by
 obtain⟨b,hb,e⟩:=Gk.mp hp;cases q:h.get? b with
 | none=>rw[q]at e;cases e
 | some o=>
  rw[q]at e;have e':=Option.some.inj e;subst e';exact⟨hb,q⟩
def Inv.pinned(I:↥3)(hf:∀ b∈fp,cr X O H b)(ho:∀ b∈fp,∃ o,s.heap.get? b≈o/\∀ v,o.data ≠ .cell v):Inv X (O++uY fp s.heap) σ H s:=
 I.iZ λp hp=>(Am.mp hp).elim (λz=>I.pin p<|Au _ z) λz=>by
  obtain⟨hb,e⟩:=Ys z;obtain⟨f0,f1,f2,_⟩:=hf p.1 hb;obtain⟨o,e',d⟩:=ho p.1 hb;rw[e]at e';cases e';exact⟨e,f0,f1,f2,d⟩
def Inv.cZ{pl:Ï}(I:Inv X (O++pl) σ H s):↥3:=I.iZ λp hp=>I.pin p<|Au _<|Bb _ hp
def Yu{wi:TI}{g:TG}{pos:Pos}(hp:PassesOwn (model X.U X.w) X.A X.env X.xe)(hc:X.calm=true)(hi:PI X tg iter wi)(hg:PG X tg g)(hb:jz X body tb)
  (hs:∀ x,foldedSetIterable iter X.env x=pure x:=by intro _;rfl):PS X (.For tg iter body [] pos) (EC wi g tb):=by
 intro O s σ H D I h;refine wpAny_For (aO (hi O s σ H _ I h) λv s1 h1=>aO h1 λoF s2 h2=>?_) hs;obtain⟨it,fp,tn,J,H2,e,I2,T,gE,f2,W,⟨m0,w0⟩,turn⟩:=h2;subst e;have stat:∀{H':Hp},(∀ b∈fp,H' b=none)->∀ b∈fp,cr X O H' b:=λhn b hb=>⟨hn b hb,(f2 b hb).2⟩;refine codeAny_forLoop_any (λn s'=>∃ i σ' H',Inv X O σ' H' s'/\tn i s'.heap/\(∀ b∈fp,H' b=none)/\W i n σ' H') ?_ m0 ⟨0,σ,H2,I2,gE,λb hb=>(f2 b hb).1,w0⟩;rintro n s3 ⟨i,σ3,H3,I3,OI,OL,w3⟩
 rcases turn i n σ3 H3 w3 with ⟨stop,qn⟩ | ⟨go,N,hN,step⟩
 ·refine JB hp<|aO (T.done X rfl rfl rfl hc i O s3 σ3 H3 X.xe I3 (stat OL) OI stop) λr s4 ⟨hr,I4⟩=>?_;subst hr;exact SM ⟨σ3,H3,I4,qn⟩
 ·refine JB hp<|aO (T.item X rfl rfl rfl hc i O s3 σ3 H3 X.xe I3 (stat OL) OI go) λr s4 ⟨u,hr,h4⟩=>?_;subst hr;refine JB hp<|aO h4 λ_ s5 ⟨x,H5,I5,r5,y5,ED,Yv⟩=>?_;have Yw:=I5.pinned (stat Yv)<|T.obj _ _ ED;refine JB hp<|aO (hg _ s5 σ3 H5 x u _ Yw r5<|step x H5 y5) λ_ s6 ⟨σ6,H6,I6,q6⟩=>?_;refine JB hp<|aO (hb _ s6 σ6 H6 _ I6 q6) λf s7 q7=>?_;have again:∀{σ7:St} {H7:Hp},Inv X (O++uY fp s5.heap) σ7 H7 s7->N σ7 H7->∃ m,m < n/\∃ i σ' H',Inv X O σ' H' s7/\tn i s7.heap/\(∀ b∈fp,H' b=none)/\W i m σ' H':=λ{σ7 H7} I7 n7=>by
   obtain⟨m',hm,w7⟩:=hN σ7 H7 n7;refine⟨m',hm,i+1,σ7,H7,I7.cZ,T.keep _ _ _ ED λb hb o e=>(I7.pin (b,o)<|Au _<|Au _<|yT hb e).1,λb hb=>?_,w7⟩;obtain⟨o,e,d⟩:=T.obj _ _ ED b hb;exact(I7.pin (b,o)<|Au _<|Au _<|yT hb e).2.1
  cases f with
  | next=>obtain⟨σ7,H7,I7,n7⟩:=q7;exact again I7 n7
  | cont=>obtain⟨σ7,H7,I7,n7⟩:=q7;exact again I7 n7
  | brk=>obtain⟨σ7,H7,I7,q7⟩:=q7;exact⟨σ7,H7,I7.cZ,q7⟩
  | ret v=>obtain⟨x7,σ7,H7,I7,r7,q7⟩:=q7;exact⟨x7,σ7,H7,I7.cZ,r7,q7⟩
abbrev R2:=V->V->Hp->VK->Prop
def cX(X:Cx)(f:Value->Value->Sem Value)(r:R2):Prop:=
 ∀O s σ H x y v u Q,↥3->RelV x v->RelV y u->r x y H Q ->
  ↥2 (f v u) (EP X O σ Q) X.xe s
def yU(X:Cx)(f:Value->Sem Value)(r:V->Hp->VK->Prop):Prop:=
 ∀O s σ H x v Q,↥3->RelV x v->r x H Q ->
  ↥2 (f v) (EP X O σ Q) X.xe s
def gR(X:Cx)(f:Value)(r:List V->Hp->VK->Prop):Prop:=
 ∀O s σ H xs us Q,↥3->ay xs us->r xs H Q ->
  ↥2 (call f us) (EP X O σ Q) X.xe s
def EE(X:Cx)(r:V->Hp->(Bool->Hp->Prop)->Prop):Prop:=
 ∀O s σ H x v Q,↥3->RelV x v->r x H Q ->
  ↥2 (truthy v) (TP X O σ Q) X.xe s
def yV(r:R2)(ta tb:TE):TE:=λσ H Q=>ta σ H λx H1=>tb σ H1 λy H2=>r x y H2 Q
def Yx(r:V->Hp->VK->Prop)(ta:TE):TE:=λσ H Q=>ta σ H λx H1=>r x H1 Q
def rI(C:Int->Int->Prop)(g:Int->Int->V):R2:=λx y H Q=>∃ i j,x = .int i/\y = .int j/\C i j/\Q (g i j) H
def sZ(g:Int->Int->V):R2:=λx y H Q=>∃ i j,x = .int i/\y = .int j/\Q (g i j) H
def rU(g:Int->V):V->Hp->VK->Prop:=λx H Q=>∃ i,x = .int i/\Q (g i) H
variable{f:Value->Value->Sem Value}{C:Int->Int->Prop}{è us:Ò}
section
variable{a b:Expr}{tb tc:TE}{pos:Pos}
def p7(ha:PE X a ta)(hb:PE X b tb)(I:↥3)
  (h:ta σ H λx H1=>tb σ H1 λy H2=>R x y H2)  
  (hf:∀ v u s2 x y H2,Inv X O σ H2 s2->RelV x v->RelV y u->R x y H2->↥2 (f v u) Q X.xe s2) :
  ↥2 (eval a X.env) (λv À=>↥2 (eval b X.env) (λu Á=>↥2 (f v u) Q X.xe Á) X.xe À) X.xe s:=by
 refine aO (ha O s σ H _ I h) λv s1 ⟨x,H1,I1,r1,q1⟩=>?_;refine aO (hb O s1 σ H1 _ I1 q1) λu s2 ⟨y,H2,I2,r2,q2⟩=>?_;exact hf v u s2 x y H2 I2 r1 r2 q2
def Yy{op:Operator}{r:R2}(ho:cX X (binaryOp op) r)(ha:PE X a ta)(hb:PE X b tb):PE X (.BinOp a op b pos) (yV r ta tb):=by
 intro O s σ H Q I h;exact wpAny_BinOp<|p7 ha hb I h λv u s2 x y H2 I2 rx ry q=>ho O s2 σ H2 x y v u Q I2 rx ry q
def Yz{op:UnaryOp}{r:V->Hp->VK->Prop}(ho:yU X (unaryOp op) r)(ha:PE X a ta):PE X (.UnaryOp op a pos) (Yx r ta):=by
 intro O s σ H Q I h;exact UnaryOp_<|aO (ha O s σ H _ I h) λv s1 ⟨x,H1,I1,r1,q1⟩=>ho O s1 σ H1 x v Q I1 r1 q1
def yW{g:Int->Int->Int}
  (rule:∀i j t u s Q E,C i j->Q (.int (g i j) s.toks) {s with toks:=s.toks+1}->↥2 (f (.int i t)<|.int j u) Q E s) :
  cX X f (rI C λi j=> .int<|g i j):=by
 intro O s σ H x y v u Q I rx ry h;obtain⟨i,j,rfl,rfl,hc,q⟩:=h;obtain⟨t,rfl⟩:=rx;obtain⟨t',rfl⟩:=ry;exact rule i j t t' s _ _ hc ⟨.int<|g i j,H,I.tok _,⟨_,rfl⟩,q⟩
def uZ{g:Int->Int->Int}
  (rule:∀i j t u s Q E,Q (.int (g i j) s.toks) {s with toks:=s.toks+1}->↥2 (f (.int i t)<|.int j u) Q E s) :
  cX X f (sZ λi j=> .int<|g i j):=by
 intro O s σ H x y v u Q I rx ry h;obtain⟨i,j,rfl,rfl,q⟩:=h;obtain⟨t,rfl⟩:=rx;obtain⟨t',rfl⟩:=ry;exact rule i j t t' s _ _ ⟨.int<|g i j,H,I.tok _,⟨_,rfl⟩,q⟩
def va{g:Int->Int->Bool}
  (rule:∀i j t u s Q E,Q (.bool<|g i j) s->↥2 (f (.int i t)<|.int j u) Q E s) :
  cX X f (sZ λi j=> .bl<|g i j):=by
 intro O s σ H x y v u Q I rx ry h;obtain⟨i,j,rfl,rfl,q⟩:=h;obtain⟨t,rfl⟩:=rx;obtain⟨t',rfl⟩:=ry;exact rule i j t t' s _ _ ⟨.bl<|g i j,H,I,rfl,q⟩
def vb(i j:Int):Prop:=0 < j/\j < 1073741824
def EF(i j:Int):Prop:=0<=j/\j<=1000000/\i.natAbs < 2 ^ 64
def p8(i j:Int):Prop:=(-(2 ^ 64) < i/\i < 2 ^ 64)\/(-(2 ^ 64) < j/\j < 2 ^ 64)
def p8.ok{i j:Int}(h:p8 i j):IntMulOk i j:=by
 rcases h with ⟨h1,h2⟩ | ⟨h1,h2⟩
 ·exact .of_left<|intBits_le_64 h1 h2
 ·exact .of_right<|intBits_le_64 h1 h2
def iu:cX X (binaryOp .Add) (sZ λi j=> .int<|i+j):=uZ λ_ _ _ _ _ _ _ q=>add_int q
def YB:cX X (binaryOp .Sub) (sZ λi j=> .int<|i - j):=uZ λ_ _ _ _ _ _ _ q=>sub_int q
def yX:cX X (binaryOp .Mult) (rI p8 λi j=> .int<|i * j):=yW λ_ _ _ _ _ _ _ hc q=>mul_int q hc.ok
theorem jB:cX X (binaryOp .FloorDiv) (rI vb λi j=> .int<|i / j):=yW λi j _ _ _ _ _ hc q=>by
 have h1:(0:Int) < j:=hc.1;have h2:j < 1073741824:=hc.2;exact floordiv_int ⋯ (by rwa[Int.fdiv_eq_ediv_of_nonneg i<|⋯])<|.inl<|PyProof.noPylong_small<|⋯
theorem dh:cX X (binaryOp .Mod) (rI (λ_ j=>0 < j) λi j=> .int<|i % j):=yW λi j _ _ _ _ _ hc q=>by
 exact mod_int' ⋯<|by rwa[Int.fmod_eq_emod_of_nonneg i<|⋯]
def OM:cX X (binaryOp .Pow) (rI EF λi j=> .int<|i ^ j.toNat):=yW λ_ _ _ _ _ _ _ hc q=>pow_int_small hc.1 hc.2.1 hc.2.2 q
def YC{f:Value->Sem Value}{g:Int->Int}
  (rule:∀i t s Q E,Q (.int (g i) s.toks) {s with toks:=s.toks+1}->↥2 (f<|.int i t) Q E s) :
  yU X f (rU λi=> .int<|g i):=by
 intro O s σ H x v Q I rx h;obtain⟨i,rfl,q⟩:=h;obtain⟨t,rfl⟩:=rx;exact rule i t s _ _ ⟨.int<|g i,H,I.tok _,⟨_,rfl⟩,q⟩
def OO:yU X (unaryOp .USub) (rU λi=> .int (-i)):=YC λ_ _ _ _ _ q=>neg_int q
def vd:V->V->Bool
 | .non,.non=>true | .non,.int _=>true | .int _,.non=>true | .non,.bl _=>true | .bl _,.non=>true | .non,.str _=>true | .str _,.non=>true
 | .int _,.int _=>true | .bl _,.bl _=>true | .str _,.str _=>true | .jy _,.jy _=>true
 | .int _,.str _=>true | .str _,.int _=>true | .bl _,.str _=>true | .str _,.bl _=>true
 | _,_=>false
def YD:R2:=λx y H Q=>vd x y=true/\Q (.bl<|decide (x=y)) H
def YF:R2:=λx y H Q=>vd x y=true/\Q (.bl (!decide (x=y))) H
def OQ{i j:Int}:decide (V.int i=V.int j)=(i == j):=by
 rw[Cf];simp
def yY{i j:Bool}:decide (V.bl i=V.bl j)=(i == j):=by
 rw[Cf];simp
def OS{i j:Str}:decide (V.str i=V.str j)=(i == j):=by
 rw[Cf];simp
def OT{i j:Array UInt8}:decide (V.jy i=V.jy j)=(i.toList == j.toList):=by
 rw[Cf];cases i;cases j;simp
def cT{Q:VK}{k k':Bool}(I:↥3)(q:Q (.bl k) H)(e:k=k'):EP X O σ Q (.bool k') s:=by
 subst e;exact⟨.bl k,H,I,rfl,q⟩
theorem fX:cX X (compareOp .Eq) YD:=by
 intro O s σ H x y v u Q I rx ry h;obtain⟨hs,q⟩:=h;cases x with
 | non=>
  cases rx;cases y with
  | non=>cases ry;exact PySem.EqNone.eq_none_none<|cT I q<|by simp
  | bl j=>cases ry;exact PySem.EqNone.eq_none_bool<|cT I q<|by simp
  | int j=>obtain⟨t',rfl⟩:=ry;exact PySem.EqNone.eq_none_int<|cT I q<|by simp
  | str j=>obtain⟨t',rfl⟩:=ry;exact PySem.EqNone.eq_none_str<|cT I q<|by simp
  | _=>exact absurd (show false=true from hs) Aw
 | bl i=>
  cases rx;cases y with
  | non=>cases ry;exact PySem.EqNone.eq_bool_none<|cT I q<|by simp
  | bl j=>cases ry;exact eq_bool<|cT I q yY
  | str j=>obtain⟨t',rfl⟩:=ry;exact PySem.EqMixed.eq_bool_str<|cT I q<|by simp
  | _=>exact absurd (show false=true from hs) Aw
 | int i=>
  obtain⟨t,rfl⟩:=rx;cases y with
  | non=>cases ry;exact PySem.EqNone.eq_int_none<|cT I q<|by simp
  | int j=>obtain⟨t',rfl⟩:=ry;exact eq_int<|cT I q OQ
  | str j=>obtain⟨t',rfl⟩:=ry;exact PySem.EqMixed.eq_int_str<|cT I q<|by simp
  | _=>exact absurd (show false=true from hs) Aw
 | str i=>
  obtain⟨t,rfl⟩:=rx;cases y with
  | non=>cases ry;exact PySem.EqNone.eq_str_none<|cT I q<|by simp
  | bl j=>cases ry;exact PySem.EqMixed.eq_str_bool<|cT I q<|by simp
  | int j=>obtain⟨t',rfl⟩:=ry;exact PySem.EqMixed.eq_str_int<|cT I q<|by simp
  | str j=>obtain⟨t',rfl⟩:=ry;exact eq_str<|cT I q OS
  | _=>exact absurd (show false=true from hs) Aw
 | jy i=>
  obtain⟨t,rfl⟩:=rx;cases y with
  | jy j=>obtain⟨t',rfl⟩:=ry;exact PySem.W.eq_bytes<|cT I q OT
  | _=>exact absurd (show false=true from hs) Aw
 | _=>cases y <;> exact absurd (show false=true from hs) Aw
theorem tj:cX X (compareOp .NotEq) YF:=by
 intro O s σ H x y v u Q I rx ry h;obtain⟨hs,q⟩:=h;cases x with
 | non=>
  cases rx;cases y with
  | non=>cases ry;exact PySem.EqNone.ne_none_none<|cT I q<|by simp
  | bl j=>cases ry;exact PySem.EqNone.ne_none_bool<|cT I q<|by simp
  | int j=>obtain⟨t',rfl⟩:=ry;exact PySem.EqNone.ne_none_int<|cT I q<|by simp
  | str j=>obtain⟨t',rfl⟩:=ry;exact PySem.EqNone.ne_none_str<|cT I q<|by simp
  | _=>exact absurd (show false=true from hs) Aw
 | bl i=>
  cases rx;cases y with
  | non=>cases ry;exact PySem.EqNone.ne_bool_none<|cT I q<|by simp
  | bl j=>cases ry;exact ne_bool<|cT I q<|BZ not yY
  | str j=>obtain⟨t',rfl⟩:=ry;exact PySem.EqMixed.ne_bool_str<|cT I q<|by simp
  | _=>exact absurd (show false=true from hs) Aw
 | int i=>
  obtain⟨t,rfl⟩:=rx;cases y with
  | non=>cases ry;exact PySem.EqNone.ne_int_none<|cT I q<|by simp
  | int j=>obtain⟨t',rfl⟩:=ry;exact ne_int<|cT I q<|BZ not OQ
  | str j=>obtain⟨t',rfl⟩:=ry;exact PySem.EqMixed.ne_int_str<|cT I q<|by simp
  | _=>exact absurd (show false=true from hs) Aw
 | str i=>
  obtain⟨t,rfl⟩:=rx;cases y with
  | non=>cases ry;exact PySem.EqNone.ne_str_none<|cT I q<|by simp
  | bl j=>cases ry;exact PySem.EqMixed.ne_str_bool<|cT I q<|by simp
  | int j=>obtain⟨t',rfl⟩:=ry;exact PySem.EqMixed.ne_str_int<|cT I q<|by simp
  | str j=>obtain⟨t',rfl⟩:=ry;exact ne_str<|cT I q<|BZ not OS
  | _=>exact absurd (show false=true from hs) Aw
 | jy i=>
  obtain⟨t,rfl⟩:=rx;cases y with
  | jy j=>obtain⟨t',rfl⟩:=ry;exact PySem.W.ne_bytes<|cT I q<|BZ not OT
  | _=>exact absurd (show false=true from hs) Aw
 | _=>cases y <;> exact absurd (show false=true from hs) Aw
def YG:cX X (compareOp .Lt) (sZ λi j=> .bl<|decide (i < j)):=va λ_ _ _ _ _ _ _ q=>lt_int q
def YH:cX X (compareOp .Gt) (sZ λi j=> .bl<|decide (j < i)):=va λ_ _ _ _ _ _ _ q=>gt_int q
def EG:cX X (compareOp .IsNot) (λx y H Q=>y = .non/\Q (.bl (!decide (x = .non))) H):=by
 intro O s σ H x y v u Q I rx ry h;obtain⟨rfl,q⟩:=h;cases ry;refine isnot_none_gen<|cT I q ?_;cases x <;> first
  | (cases rx;rfl)
  | (obtain⟨t,rfl⟩:=rx;rfl)
def YJ{r:R2}(ho:cX X (compareOp op) r)(ha:PE X a ta)(hb:PE X b tb)(hm:behindInMarks op b=false):PE X (.Compare a [op] [b] pos) (yV r ta tb):=by
 intro O s σ H Q I h;exact wpAny_Compare1 (p7 ha hb I h λv u s2 x y H2 I2 rx ry q=>ho O s2 σ H2 x y v u Q I2 rx ry q) hm
def YK(t:TE):TT:=λσ H Q=>t σ H λx H'=>∃ k,x = .bl k/\Q k H'
def YL{r:R2}(ho:cX X (compareOp op) r)(ha:PE X a ta)(hb:PE X b tb)(hm:behindInMarks op b=false):PT X (.Compare a [op] [b] pos) (YK<|yV r ta tb):=by
 intro O s σ H Q I h;refine wpAny_isTrue_Compare1 (aO (ha O s σ H _ I h) λv s1 ⟨x,H1,I1,r1,q1⟩=>aO (hb O s1 σ H1 _ I1 q1) λu s2 ⟨y,H2,I2,r2,q2⟩=>
  aO (ho O s2 σ H2 x y v u _ I2 r1 r2 q2) λc s3 ⟨z,H3,I3,r3,k,e,q3⟩=>?_) hm
 subst e;cases r3;exact EY ⟨H3,I3,q3⟩
def p9(K:PySem.W.Frag)(x:V)(H:Hp)(k:Bool):Prop:=
 match x with
 | .non=>k=false
 | .bl b=>k=b
 | .int i=>k=(i != 0)
 | .str y=>y.length<=sizeLine/\k=((y.length:Int) != 0)
 | .jy y=>y.size<=sizeLine/\k=((y.size:Int) != 0)
 | .ref p=>(∃ xs,au K H p xs/\k = !xs.isEmpty)\/(∃ xs,aQ K H p xs/\k = !xs.isEmpty)\/∃ Y,H p≈.dK Y/\k = !Y.isEmpty
 | _=>False
def YM{κ:Type}{Y:List (κ×V)}{vs:List (κ×Value)}(r:KV Y vs):(!vs.isEmpty) = !Y.isEmpty:=by
 cases r <;> rfl
def OU(r:ay xs è):(!è.toArray.isEmpty) = !xs.isEmpty:=by
 cases r <;> simp
def ve:(sizeLine:Nat) < 2 ^ 63:=by rw[DX];decide
theorem YN:EE X (λx H Q=>∃ k,p9 X.K x H k/\Q k H):=by
 intro O s σ H x v Q I rx h;obtain⟨k,e,q⟩:=h;have hs:sizeLine=16777216:=DX;cases x with
 | non=>
  cases rx;have e':=e;subst e';exact truthy_none ⟨H,I,q⟩
 | bl b=>
  cases rx;have e':=e;subst e';exact EY ⟨H,I,q⟩
 | int i=>
  obtain⟨t,rfl⟩:=rx;have e':=e;subst e';exact PySem.P.truthy_int ⟨H,I,q⟩
 | str y=>
  obtain⟨t,rfl⟩:=rx;obtain⟨hy,e'⟩:y.length<=sizeLine/\k=((y.length:Int) != 0):=e;subst e';exact PySem.P.truthy_str ⋯ ⟨H,I.tok _,q⟩
 | jy y=>
  obtain⟨t,rfl⟩:=rx;obtain⟨hy,e'⟩:y.size<=sizeLine/\k=((y.size:Int) != 0):=e;subst e';exact PySem.W.truthy_bytes ⋯ ⟨H,I.tok _,q⟩
 | ref p=>
  cases rx;have e':(∃ xs,au X.K H p xs/\k = !xs.isEmpty)\/(∃ xs,aQ X.K H p xs/\k = !xs.isEmpty)\/∃ Y,H p≈.dK Y/\k = !Y.isEmpty:=e
  rcases e' with ⟨xs,hx,e'⟩ | ⟨xs,hx,e'⟩ | ⟨Y,hx,e'⟩
  ·subst e';obtain⟨è,r,pl,hz⟩:=I.list hx;have hlen:=r.length;exact wpAny_truthy_list pl.isList (by simp only[Ay];omega) ⟨H,I.tok _,by rwa[OU r]⟩
  ·subst e';obtain⟨è,r,pl,hz⟩:=I.tuple hx;have hlen:=r.length;exact truthy_tuple pl (by simp only[Ay];omega) ⟨H,I.tok _,by rwa[OU r]⟩
  ·subst e';obtain⟨hz,hS,vs,r,m⟩:Y.length<=sizeLine/\(p == sysModules)=false/\∃ vs,KV Y vs/\s.heap.DictOf (bX X.U X.w) p vs:=I.aH p _ hx;have hlen:Y.length=vs.length:=Paired.length r;exact wpAny_truthy_dict hS m ⋯ ⟨H,I.tok _,by rwa[YM r]⟩
 | _=>exact(show False from e).elim
def YQ(ha:PE X a ta)(he:∀ whole,isTrue a X.env whole=(do let v <- whole;standAt a.pos;holding [v] (truthy v))) :
  PT X a (λσ H Q=>ta σ H λx H'=>∃ k,p9 X.K x H' k/\Q k H'):=by
 intro O s σ H Q I h;exact isTrue_plain (aO (ha O s σ H _ I h) λv s1 ⟨x,H1,I1,r1,q1⟩=>YN O s1 σ H1 x v Q I1 r1 q1)<|he _
def YR:cX X (binaryOp .Add) (λx y H Q=>∃ i j,x = .str i/\y = .str j/\i.length+j.length<=sizeLine/\Q (.str<|i++j) H):=by
 intro O s σ H x y v u Q I rx ry h;obtain⟨i,j,rfl,rfl,hz,q⟩:=h;obtain⟨t,rfl⟩:=rx;obtain⟨t',rfl⟩:=ry;exact add_str (λt' tk=>⟨.str<|i++j,H,I.tok _,⟨_,rfl⟩,q⟩) hz
theorem vals1{x:V}(r:ay [x] us):∃ u,us=[u]/\RelV x u:=by
 cases r with
 | cons r1 r2=>cases r2;exact⟨_,rfl,r1⟩
theorem vals2{x y:V}(r:ay [x,y] us):∃ u w',us=[u,w']/\RelV x u/\RelV y w':=by
 cases r with
 | cons r1 r2=>
  cases r2 with
  | cons r3 r4=>cases r4;exact⟨_,_,rfl,r1,r3⟩
def OV(hc:X.calm=true):gR X (.builtin "max") (λxs H Q=>∃ i j,xs=[.int i,.int j]/\Q (.int (if j > i then j else i)) H):=by
 intro O s σ H xs us Q I r h;obtain⟨i,j,rfl,q⟩:=h;obtain⟨u,w',rfl,⟨t,rfl⟩,⟨t',rfl⟩⟩:=vals2 r;refine max_two_ints (I.ok.hd hc) λh' tk k=>⟨_,H,I.kept k,?_,q⟩
 by_cases hj:j > i
 ·rw[BP hj,BP hj];exact⟨_,rfl⟩
 ·rw[BL hj,BL hj];exact⟨_,rfl⟩
end
structure qb(h:Heap)(x dx C:Addr)(mA:Ñ):Prop where
 obj:h.get? x≈PySem.W.instObj C dx
 ns:h.Ns1 dx mA
 ne:dx≠x
variable{mA:Ñ}{dx:Addr}
def YS(n:h.Ns1 dx mA):∃ od,h.get? dx≈od/\∀ name,PySem.W.lookIn name od≈mA name:=by
 obtain⟨o,es,ep,ho,hd,hk,_,hm⟩:=n;refine⟨o,ho,λname=>?_⟩;have e:=hm name;unfold nsFind findBy at e;rw[<- Array.find?_toList]at e;unfold PySem.W.lookIn;rw[hd]
 dsimp only
 split
 ·rename_i y q;rw[q]at e;exact BZ some e
 ·rename_i q;rw[q]at e;have a:es.toList.any (·.refKey)=false:=by
   rw[List.any_eq_false];intro y hy;obtain⟨z,t,EH⟩:=hk y<|Array.mem_toList_iff.mp hy;simp[DictEntry.refKey,EH]
  have a':¬ es.toList.any (·.refKey)=true:=by rw[a];exact Aw
  rw[BL a'];exact BZ some e
def qb.look{x C:Addr}(I:qb h x dx C mA):∃ od,PySem.W.InstAt h x (PySem.W.instObj C dx) C (some od)/\∀ name,PySem.W.lookIn name od≈mA name:=
 let ⟨od,ho,hl⟩:=YS I.ns
 ⟨od,⟨I.obj,rfl,rfl,ho⟩,hl⟩
variable{name:Str}{U:Program}
theorem d3.some_of{o:Option Value}(r:d3 (some v) o):∃ u,o≈u/\RelV v u:=by
 cases o with
 | none=>exact(show False from r).elim
 | some u=>exact⟨u,rfl,r⟩
section
variable{C:Addr}{fs XM:List (Str×V)}
def YT(aH:cn P w H h)(e:H a≈.ins C dx fs):∃ mA,qb h a dx C mA/\(∀ f,d3 (fs.lookup f)<|mA f)/\PySem.Within mA (fs.map (·.1))/\fs.length<=1000/\H dx≈.own a:=by
 obtain⟨d,z,ne,ob,mA,n,r,q⟩:=(show aB P w H h a (.ins C dx fs)from aH a _ e);exact⟨mA,⟨ob,n,ne⟩,r,q,z,d⟩
end
structure EI(K:PySem.W.Frag)(C:Addr):Prop where
 pg:PySem.W.plainGet K C Str.empty=true
 hd:PySem.W.hasDictIn K C=true
 po:PySem.W.plainOver K C=true
 sa:PySem.W.findIn K (.ref C) "__setattr__" = some (some<|.builtin "object.__setattr__")
def EI.get{K:PySem.W.Frag}{C:Addr}(c:EI K C)(f:Str):PySem.W.plainGet K C f=true:=c.pg
section
variable{c:Value}{b:Bool}
inductive du (K:PySem.W.Frag) (H:Hp):V->Value->Prop where
 | non:du K H .non<|.type "NoneType"
 | bl (x:Bool):du K H (.bl x)<|.type "bool"
 | int (i:Int):du K H (.int i)<|.type "int"
 | str (x:Str):du K H (.str x)<|.type "str"
 | sR (x:UInt64):du K H (.sR x)<|.type "float"
 | lst {a:Addr} {xs:List V} (e:H a≈.lst xs):du K H (.ref a)<|.type "list"
 | b7 {a:Addr} {o:Obj} {xs:List V} (e:H a=some (.b7 o<|.lst xs)):du K H (.ref a)<|.type "list"
 | tup {a:Addr} {xs:List V} (e:H a≈.tup xs):du K H (.ref a)<|.type "tuple"
 | dK {a:Addr} {Y:List (Key×V)} (e:H a≈.dK Y):du K H (.ref a)<|.type "dict"
 | dT {a:Addr} {Y:List (List Key×V)} (e:H a≈.dT Y):du K H (.ref a)<|.type "dict"
 | ins {a C dx:Addr} {fs:List (Str×V)} (e:H a≈.ins C dx fs) (cl:EI K C) (ha:PySem.W.findIn K (.ref C) "__class__" = some (some<|.builtin "object.__class__"))
   (hn:PySem.W.specialIn K (.builtin "object.__class__") "__get__" = some (some<|.builtin "getset_descriptor.__get__")) (OW:PySem.W.takesIn K (.builtin "object.__class__")≈true)
   (hm:PySem.W.mroIn K C (.type "object")≈true):du K H (.ref a)<|.ref C
theorem YV{x:V}{t:Value}(I:↥3)(rx:RelV x u)(ty:du X.K H x t)(e:PySem.W.kitOne X.K t c≈b)(h:∀ tk,Q (.bool b) {s with toks:=tk}) :
  wpAny (model X.U X.w) A (call (.builtin "isinstance") [u,c]) Q E s:=by
 cases ty with
 | non=>cases (show u=Value.none from rx);exact FJ PySem.W.kitx_none I.gQ True.intro e (λz=>nomatch z) h
 | bl y=>cases (show u=Value.bool y from rx);exact FJ PySem.W.kitx_bool I.gQ True.intro e (λz=>nomatch z) h
 | int i=>obtain⟨t,q⟩:=(show ∃ t,u=Value.int i t from rx);cases q;exact FJ PySem.W.kitx_int I.gQ True.intro e (λz=>nomatch z) h
 | str y=>obtain⟨t,q⟩:=(show ∃ t,u=Value.str y t from rx);cases q;exact FJ PySem.W.kitx_str I.gQ True.intro e (λz=>nomatch z) h
 | sR y=>obtain⟨t,q⟩:=(show ∃ t,u=Value.float y t from rx);cases q;exact FJ PySem.W.kitx_float I.gQ True.intro e (λz=>nomatch z) h
 | @lst a xs ea=>
  cases (show u=Value.ref a from rx);obtain⟨_,_,n,_,h1⟩:=(show aB X.U X.w H s.heap a (.lst xs)from I.aH a _ ea);exact FJ PySem.W.kitx_list I.gQ ⟨_,h1,rfl⟩ e (λz=>nomatch z) h
 | @b7 a ob xs ea=>
  cases (show u=Value.ref a from rx);obtain⟨_,_,_,n,_,h1⟩:=(show aB X.U X.w H s.heap a (.b7 ob<|.lst xs)from I.aH a _ ea);exact FJ PySem.W.kitx_list I.gQ ⟨_,h1,rfl⟩ e (λz=>nomatch z) h
 | @tup a xs ea=>
  cases (show u=Value.ref a from rx);obtain⟨_,_,_,p⟩:=(show aB X.U X.w H s.heap a (.tup xs)from I.aH a _ ea);obtain⟨o,h1,h2,_⟩:=p;exact FJ PySem.W.kitx_tuple I.gQ ⟨o,h1,h2⟩ e (λz=>nomatch z) h
 | @dK a Y ea=>
  cases (show u=Value.ref a from rx);obtain⟨_,_,vs,_,p⟩:=(show aB X.U X.w H s.heap a (.dK Y)from I.aH a _ ea);obtain⟨o,es,ep,h1,h2,_⟩:=p;exact FJ PySem.W.kitx_dict I.gQ ⟨o,h1,h2.1⟩ e (λz=>nomatch z) h
 | @dT a Y ea=>
  cases (show u=Value.ref a from rx);obtain⟨_,_,xs,_,o,es,ep,h1,h2,_⟩:=(show aB X.U X.w H s.heap a (.dT Y)from I.aH a _ ea);exact FJ PySem.W.kitx_dict I.gQ ⟨o,h1,h2.1⟩ e (λz=>nomatch z) h
 | @ins a C dx fs ea cl ha hn OW hm=>
  cases (show u=Value.ref a from rx);obtain⟨mA,ò,_⟩:=YT I.aH ea;obtain⟨od,J,_⟩:=ò.look;exact FJ (PySem.W.kitx_own (cl.get _) cl.hd ha hn OW hm) I.gQ J e (λz=>nomatch z) h
end
structure bH(k:Nat)(A:Around):Prop where
 hd:A.handled=none
 dp:A.depth+3 * k+5 < recursionLimit
 un:A.units+16 * k+200 < cLine
theorem bH.mono{j k:Nat}(r:bH k A)(h:j<=k):bH j A:=⟨r.hd,by have:=r.dp;omega,by have:=r.un;omega⟩
theorem bH.deeper{k:Nat}{A:Around}(r:bH (k+1) A)(env:Env):bH k (A.deeper env):=
 ⟨r.hd,by have:=r.dp;show A.depth+1+3 * k+5 < _;omega,by have:=r.un;show A.units+3+16 * k+200 < _;omega⟩
theorem bH.depth{k:Nat}{A:Around}(r:bH k A):A.depth < recursionLimit:=by have:=r.dp;omega
def EJ:TA:=λ_ H Q=>Q [] H
def OX(ta:TE)(tr:TA):TA:=λσ H Q=>ta σ H λx H1=>tr σ H1 λxs H2=>Q (x :: xs) H2
section
variable{t:TA}{pos:Pos}
def YW:PA X [] EJ:=λ_ _ _ _ H Q I h=>Calls.spliced_nil ⟨[],H,I,.nil,h⟩
def YX(ha:PE X e te)(hr:PA X es t)(hs:starEach (e :: es) X.env=(false,eval e X.env) :: starEach es X.env:=by rfl):PA X (e :: es) (OX te t):=by
 intro pos O s σ H Q I h;rw[hs];show wpAny _ _ (spliced<|(false,eval e X.env) :: backTo pos (starEach es X.env)) _ _ s;refine Calls.spliced_cons<|aO (ha O s σ H _ I h) λu s1 ⟨x,H1,I1,r1,q1⟩=>?_;exact aO (hr pos O s1 σ H1 _ I1 q1) λus s2 ⟨xs,H2,I2,r2,q2⟩=>⟨x :: xs,H2,I2,.cons r1 r2,q2⟩
def EK(t:TA):TE:=λσ H Q=>t σ H λxs H1=>xs.length<=sizeLine/\∀ p,H1 p=none->Q (.ref p) (upd H1 p<|.tup xs)
def EL(t:TA):TE:=λσ H Q=>t σ H λxs H1=>xs.length<=sizeLine/\∀ p,H1 p=none->Q (.ref p) (upd H1 p<|.lst xs)
def YY{x1}(h:PA X es t):PE X (.Tuple es x1 pos) (EK t):=by
 intro O s σ H Q I hq;refine wpAny_Tuple_spliced (aO (h pos O s σ H _ I hq) λus s1 ⟨xs,H1,I1,r,z,q⟩=>⟨by rwa[<- r.length],?_⟩);have hf:=I1.aH.fresh<|An _;refine⟨.ref ↑s1,upd H1 ↑s1<|.tup xs,I1.laid (λb u e=>Aj _ e) (An _) ?_,rfl,q _ hf⟩;exact⟨z,us,r,⟨_,At _ rfl,rfl,_,rfl⟩⟩
def YZ(h:PA X es t):PE X (.List es pos) (EL t):=by
 intro O s σ H Q I hq;refine wpAny_List_spliced (aO (h pos O s σ H _ I hq) λus s1 ⟨xs,H1,I1,r,z,q⟩=>⟨by rwa[<- r.length],?_⟩);have hf:=I1.aH.fresh<|An _;refine⟨.ref ↑s1,upd H1 ↑s1<|.lst xs,I1.laid (λb u e=>Aj _ e) (An _) ?_,rfl,q _ hf⟩;exact⟨z,us,0,r,At _ rfl⟩
end
abbrev Sp:=List V->Hp->VK->XK->Prop
abbrev lT:=List Env->Hp->Shared->XK->Í
structure mR(P:Program)(w:World)(K:PySem.W.Frag)(mg:Ñ)(Z:Heap)(A:Around)(outer:List Env)(s:Shared)(H:Hp):Prop where
 frames:A.frames≈outer
 mod:Mod K mg Z
 bs:∀ b o,Z.get? b≈o->s.heap.get? b≈o/\H b=none
 oA:Z.objs.size<=↑s
 d6:s.heap.FunFrames Z outer
 sV:∀ b∈fe outer,H b=none
 aH:cn P w H s.heap
 bare:AllBare s.gens
def CE(outer:List Env)(P:Program)(w:World)(H:Hp)(s:Shared)(Q:VK)(u:Value)(s':Shared):Prop:=
 ∃ v H',s'.os=s.os/\AllBare s'.gens/\Un (fe outer) [] H H' s.heap s'.heap/\cn P w H' s'.heap/\RelV v u/\Q v H'
def CR(CX:lT)(outer:List Env)(P:Program)(w:World)(H:Hp)(s:Shared)(Q:VK)(E:XK)(r:Result)(s':Shared):Prop:=
 match r with
 | .ok (.ret u)=>CE outer P w H s Q u s'
 | .ok _=>False
 | .error e=>CX outer H s E e s'
structure aE(P:Program)(w:World)(K:PySem.W.Frag)(mg:Ñ)(Z:Heap)(CX:lT)(k:Nat)(f:Addr)(fd:FuncData)(ps:Ð)(sp:Sp):Prop where
 len:∀ vs H Q E,sp vs H Q E->vs.length=ps.length
 run:∀(A:Around) (outer:List Env) (s:Shared) (H:Hp) (args:Args) (us:Ò) (vs:List V) (Q:VK) (E:XK),bH k A->mR P w K mg Z A outer s H->BindsTo s fd args (ps.zip us)->ay vs us->sp vs H Q E ->
  codeAny (model P w) A (.call (.ref f) args) (CR CX outer P w H s Q E) s
def aE.mono{P:Program}{w:World}{K:PySem.W.Frag}{mg:Ñ}{Z:Heap}{CX:lT}{j k:Nat}{f:Addr}{fd:FuncData}{ps:Ð}{sp:Sp}(F:aE P w K mg Z CX j f fd ps sp)(h:j<=k) :
  aE P w K mg Z CX k f fd ps sp:=⟨F.len,λA outer s H args us vs Q E hr=>F.run A outer s H args us vs Q E<|hr.mono h⟩
def Inv.ER(I:↥3):mR X.U X.w X.K X.mg X.Z X.A X.stack s H:=
 ⟨I.ok.frames,I.ok.mod,I.bs,Ch I.ok.oA I.sz,I.stack,I.dW,I.aH,I.bare⟩
def Inv.after{Q:VK}(I:↥3)(h:CE X.stack X.U X.w H s Q u s'):EP X O σ Q u s':=by
 obtain⟨v,H',os,bare,un,aH,r,q⟩:=h;obtain⟨hh,g,d,t,cA⟩:=s';obtain rfl:cA=s.os:=os;exact⟨v,H',I.call un aH bare (λb z=>absurd z<|by simp),r,q⟩
def OY(sp:Sp)(mS:List V)(E:XK)(t:TA):TE:=λσ H Q=>t σ H λvs H1=>sp (vs++mS) H1 Q E
def Binds(K:PySem.W.Frag)(fd:FuncData)(ps:Ð)(ds:Ò):Prop:=
 ∀(s:Shared) (us:Ò),K.In s.heap->(us++ds).length=ps.length->BindsTo s fd ⟨us,[]⟩ (ps.zip<|us++ds)
variable{ps:Ð}{fd:FuncData}
def Binds.all(h:∀ us:Ò,us.length=ps.length->bindArgs fd ⟨us,[]⟩=pure (ps.zip us)):Binds K fd ps []:=λs us _ hl=>by
 rw[Bp]at hl ⊢;exact .of_eq<|h us hl
def mU(CX:lT)(X:Cx)(E:XK):Prop:=∀(O:Ï) (σ:St) (H:Hp) (s:Shared) (e:Value) (s':Shared),↥3->CX X.stack H s E e s'->X.xe e s'
variable{apos:Pos}{ds:Ò}{mS vs:List V}{sp:Sp}{CX:lT}
section
variable{k:Nat}{f C:Addr}{E:XK}{m:Str}{p pos:Pos}{o:Expr}{t:TA}
theorem Y1{Q:VK}(F:aE X.U X.w X.K X.mg X.Z CX k f fd ps sp)(hr:bH k X.A)(hb:Binds X.K fd ps ds)(hd:ay mS ds)(hx:mU CX X E)
  (I:↥3) (r:ay vs us) (h:sp (vs++mS) H Q E):↥2 (call (.ref f) us) (EP X O σ Q) X.xe s:=by
 have r2:ay (vs++mS) (us++ds):=r.append hd;have hl:(us++ds).length=ps.length:=by rw[<- r2.length];exact F.len _ _ _ _ h
 refine wpAny_call<|JQ (F.run X.A X.stack s H ⟨us,[]⟩ (us++ds) (vs++mS) Q E hr I.ER (hb s us I.gQ hl) r2 h) λr s' hq=>?_;cases r with
 | error e=>exact hx O σ H s e s' I hq
 | ok fl=>
  cases fl with
  | ret u=>exact I.after hq
  | next=>exact False.elim hq
  | brk=>exact False.elim hq
  | cont=>exact False.elim hq
def Y6(F:aE X.U X.w X.K X.mg X.Z CX k f fd ps sp)(hr:bH k X.A)(hg:Gl X x)(hm:X.mg x≈.ref f)(hk:PySem.W.keepIn X.K (.ref f)=true)(hb:Binds X.K fd ps ds)(hd:ay mS ds)(hx:mU CX X E)
  (ha:PA X (e :: es) t) (dN:(x == ("__debug__" : Str))=false:=by decide) (he:starEach (e :: es) X.env=(false,eval e X.env) :: starEach es X.env:=by rfl) (qd:(backTo pos<|starEach es X.env).any (·.1)=false:=by rfl) :
  PE X (.Call (.Name x p) (e :: es) [] pos) (OY sp mS E t):=by
 intro O s σ H Q I h;refine KQ<|Ox I hg hm ?_ dN;refine PySem.W.callWith_K (h₀:=X.Z) I.ok.mod.uQ hk (aO (ha pos O s σ H _ I h) λus s1 ⟨vs,H1,I1,r,q⟩=>⟨I1.gQ,?_⟩) he qd;exact Y1 F hr hb hd hx I1 r q
end
variable{kws:List Keyword}{gV:List V->List V->List V}
structure ak(N P:Ð)(sc:Scope):Prop where
 kind:sc.kind = .function
 co:sc.isCoroutine=false
 gen:sc.isGenerator=false
 nd:N.Nodup
 pre:N.take P.length=P
 par:∀ x∈P,sc.names.lookup x=some .local\/sc.names.lookup x=some .cell
 iF:∀ y∈sc.names,y.2 ≠ .free
theorem OZ{kindOf:Str->Option NameKind}{x:Str}:∀{binds:List (Str×Value)} {m:Ñ},(∀ v,(x,v)∉binds)->bindL kindOf binds m x=m x
 | [],_,_=>rfl
 | (n,v) :: r,m,h=>by
  unfold bindL;rw[OZ λw hw=>h w<|Af _ hw]
  split
  ·have:x≠n:=by rintro rfl;exact h v Ae
   simp[this]
  ·rfl
theorem O0{kindOf:Str->Option NameKind}{x:Str}:∀{binds:List (Str×Value)} {m:Ñ},(∀ v,(x,v)∉binds)->bindC kindOf binds m x=m x
 | [],_,_=>rfl
 | (n,v) :: r,m,h=>by
  unfold bindC;rw[O0 λw hw=>h w<|Af _ hw]
  split
  ·rfl
  ·have:x≠n:=by rintro rfl;exact h v Ae
   simp[this]
theorem O1{kindOf:Str->Option NameKind}{x:Str}{v:Value}:∀{P:Ð} {vs:Ò} {i:Nat} {m:Ñ},P.Nodup->P[i]?≈x->vs[i]?≈v->kindOf x=some .local ->
  bindL kindOf (P.zip vs) m x≈v
 | [],_,_,_,_,h,_,_=>by simp at h
 | _ :: _,[],_,_,_,_,h,_=>by simp at h
 | p :: P,w :: vs,0,m,nd,h1,h2,hk=>by
  simp at h1 h2;subst h1;subst h2;show bindL kindOf ((p,w) :: P.zip vs) m p=_;unfold bindL;rw[OZ λv hv=>(Bh.mp nd).1 (SQ hv).1,BP hk];simp
 | p :: P,w :: vs,i+1,m,nd,h1,h2,hk=>by
  show bindL kindOf ((p,w) :: P.zip vs) m x=_;unfold bindL;exact O1 (i:=i) (Bh.mp nd).2 h1⁻¹ h2⁻¹ hk
theorem O2{kindOf:Str->Option NameKind}{x:Str}{v:Value}:∀{P:Ð} {vs:Ò} {i:Nat} {m:Ñ},P.Nodup->P[i]?≈x->vs[i]?≈v->kindOf x≠some .local ->
  bindC kindOf (P.zip vs) m x≈v
 | [],_,_,_,_,h,_,_=>by simp at h
 | _ :: _,[],_,_,_,_,h,_=>by simp at h
 | p :: P,w :: vs,0,m,nd,h1,h2,hk=>by
  simp at h1 h2;subst h1;subst h2;show bindC kindOf ((p,w) :: P.zip vs) m p=_;unfold bindC;rw[O0 λv hv=>(Bh.mp nd).1 (SQ hv).1,BL hk];simp
 | p :: P,w :: vs,i+1,m,nd,h1,h2,hk=>by
  show bindC kindOf ((p,w) :: P.zip vs) m x=_;unfold bindC;exact O2 (i:=i) (Bh.mp nd).2 h1⁻¹ h2⁻¹ hk
def start(N:Ð)(vs:List V):St:=vs.map some++List.replicate (N.length - vs.length) none
def dv(CX:lT)(P:Program)(w:World)(K:PySem.W.Frag)(mg:Ñ)(Z:Heap)(N:Ð)(qual:Str)(scope:Scope)(f:Addr)(cd:Value)(A:Around)(outer:List Env)(s:Shared)(H:Hp)(E:XK):Cx where
 U:=P
 w:=w
 K:=K
 mg:=mg
 Z:=Z
 A:=A.deeper<|envOfC qual scope ↑s f cd
 N:=N
 æ:=s
 ç:=H
 env:=envOfC qual scope ↑s f cd
 outer:=outer
 stack:=envOfC qual scope ↑s f cd :: outer
 ex:=[]
 calm:=true
 fn:=λ_=>true
 pn:=[]
 xe:=λe s'=>wpAny (model P w) (A.deeper<|envOfC qual scope ↑s f cd) (leaving (envOfC qual scope ↑s f cd) e) (λ_ qe=>CX outer H s E e qe) (λe' qe=>CX outer H s E e' qe) s'
def O3{sc:Scope}(h:sc.names.lookup x=some .cell):∃ c,(cellsFrom n sc.names []).lookup x≈c:=by
 have q:=JL sc.names n []<|.inl h;exact Fa.mp q
variable{outer:List Env}{scope:Scope}{qual:Str}{Z:Heap}{mg:Ñ}
theorem Y7{f:Addr}{cd:Value}{s1:Shared}{E:XK}
  (S:ak N ps scope) (hd:A.handled=none) (e0:mR P w K mg Z A outer s H) (hl:vs.length=ps.length) (r:ay vs us)
  (x:InCallC s ↑s (bindL (envOfC qual scope ↑s f cd).kindOf (ps.zip us) λ_=>none) (cellsFrom (↑s+1) scope.names []) (bindC (envOfC qual scope ↑s f cd).kindOf (ps.zip us) λ_=>none) s1) :
  Inv (dv CX P w K mg Z N qual scope f cd A outer s H E) [] (start N vs) H s1:=by
 have qd:ps.length<=N.length:=by have:=BZ List.length S.pre;rw[Br]at this;omega
 obtain⟨h1,tk,rfl,hk⟩:=x.done;have vf:∀ b:Addr,b∉(dv CX P w K mg Z N qual scope f cd A outer s H E).ex:=λb z=>absurd (show b∈([]:↥9)from z) (by simp);refine⟨⟨e0.mod,S.kind,rfl,rfl,An _,λy z c h1 h2=>?_,λy hy=>?_,λy c _ h=>?_,λ_=>hd,Around.frames_deeper e0.frames,.inr ⟨rfl,rfl⟩,λb z=>absurd z<|vf b,e0.bs,e0.oA,λb _ _=>vf b,λb z=>absurd z<|vf b,e0.d6,e0.sV⟩,
  rfl,e0.bare,Un.kept hk,⟨_,x.toInCall.ns,λi y v h1 h2 h3=>?_⟩,λy c h=>⟨_,x.cell y c h⟩,e0.aH.fresh<|An _,λy c h=>?_,λp hp=>absurd (show p∈([]:Ï)from hp) (by simp),e0.aH.kept hk,?_⟩
 ·exact name_of_addr x.apart (DK h1)<|DK h2
 ·have hy:scope.names.lookup y=some .cell\/scope.names.lookup y=some .free:=hy
  rcases hy with hy | hy
  ·exact O3 hy
  ·exact absurd rfl (S.iF _<|DK hy)
 ·exact Cy<|x.above y c<|DK h
 ·have hi:i < vs.length:=by
   unfold start at h2
   by_cases hi:i < vs.length
   ·exact hi
   ·rw[Bd<|hi⁻¹]at h2;rw[Fc]at h2
    split at h2 <;> cases h2
  have ha:vs[i]?≈v:=by
   unfold start at h2;rw[Ax hi⁻¹,Ah]at h2;cases e:vs[i]? with
   | none=>rw[e]at h2;cases h2
   | some a=>rw[e]at h2;cases h2;rfl
  obtain⟨u,hu,rv⟩:=r.get ha;have hp:ps[i]?≈y:=by
   rwa[<- S.pre,Eb<|⋯]
  have O4:ps.Nodup:=by rw[<- S.pre];exact S.nd.sublist<|List.take_sublist _ _
  refine⟨u,rv,?_⟩
  rcases S.par y (Ao hp)with k | k
  ·exact .inl ⟨k,O1 O4 hp hu k⟩
  ·obtain⟨c,e⟩:=O3 (n:=↑s+1) k;refine .inr ⟨.inl k,c,e,?_⟩;have q:=x.cell y c e;rwa[O2 O4 hp hu<|by show scope.names.lookup y≠_;rw[k];decide]at q
 ·exact e0.aH.fresh<|Cy<|x.above y c<|DK h
 ·unfold start;show _=N.length;rw[Ag,Aa,Fp];omega
variable{lU:Array (Option Value)}{params:Arguments}
theorem O5{k:Nat}{f:Addr}{dV kV doc pm bL ct oc:Value}{an od:Option Addr}
     (lk:K.lookup f=some ⟨oc,od,.func<|PySem.W.fnOf name qual params body scope dV kV doc pm an bL ct,lU⟩) (i4:PySem.W.codeIn K bL qual=true) (S:ak N ps scope)
  (len:∀ vs H Q E,sp vs H Q E->vs.length=ps.length)
  (cF : ∀A outer s H vs Q E, bH k (A.deeper<|envOfC qual scope ↑s f bL) → sp vs H Q E →
   ∃ t,jz (dv CX P w K mg Z N qual scope f bL A outer s H E) body t/\t {nx:=λ_ H'=>Q .non H',rt:=Q} (start N vs) H) :
  aE P w K mg Z CX (k+1) f (PySem.W.fnOf name qual params body scope dV kV doc pm an bL ct) ps sp:=by
 refine⟨len,λA outer s H args us vs Q E hr e0 hb r eS=>?_⟩;have hl:=len _ _ _ _ eS;have KX:=e0.mod.uQ.keeps λb o e=>(e0.bs b o e).1;have lim:=e0.mod.nolimit.keeps λb o e=>(e0.bs b o e).1;have vg:∀ y∈ps.zip us,scope.names.lookup y.1=some .local\/(scope.names.lookup y.1=some .cell/\((cellsFrom (↑s+1) scope.names []).lookup y.1).isSome=true):=λ⟨n,v⟩ hy=>by
  rcases S.par n (SQ hy).1 with q | q
  ·exact .inl q
  ·exact .inr ⟨q,JL _ _ _<|.inl q⟩
 refine codeAny_call_function hr.depth (KX _ _ lk) rfl S.co S.gen rfl (PySem.W.codeRec_of KX i4) (hb _ _ _ _ ?_);refine wpAny_newFunctionEnv_cells S.kind vg λenv he s1 x=>?_;subst he;refine⟨lim.keeps x.toInCall.keep,codeAny_func ?_⟩;obtain⟨t,ht,hq⟩:=cF A outer s H vs Q E (hr.deeper _) eS;have I:Inv (dv CX P w K mg Z N qual scope f bL A outer s H E) [] (start N vs) H s1:=Y7 S hr.hd e0 hl r x;refine CW (ht [] s1 (start N vs) H _ I hq) (λfl s' hs=>?_) λe s' hs=>hs;have fin:∀{σ':St} {H':Hp} {v:V} {u:Value},Inv (dv CX P w K mg Z N qual scope f bL A outer s H E) [] σ' H' s'->RelV v u->Q v H'->CE outer P w H s Q u s':=
  λ{σ' H' v u} J rv q=>⟨v,H',J.os,J.bare,J.Z,J.aH,rv,q⟩
 cases fl with
 | ret u=>
  obtain⟨v,σ',H',J,rv,q⟩:=hs;exact fin J rv q
 | next=>
  obtain⟨σ',H',J,q⟩:=hs;exact fin (v:=V.non) (u:=Value.none) J rfl q
 | brk=>
  obtain⟨_,_,_,q⟩:=hs;exact False.elim q
 | cont=>
  obtain⟨_,_,_,q⟩:=hs;exact False.elim q
variable{r:List V->Hp->VK->Prop}
section
variable{p pos:Pos}{t:TA}{id T:String}
def yZ(r:List V->Hp->VK->Prop)(t:TA):TE:=λσ H Q=>t σ H λvs H1=>r vs H1 Q
def Y8(hc:gR X (.builtin id) r)(hg:Gl X x)(hm:X.mg x=none)(hv:bootBuiltins x≈.builtin id)(ha:PA X (e :: es) t)(hn:x ≠ "__name__":=by decide)(dN:(x == ("__debug__" : Str))=false:=by decide)
  (he:starEach (e :: es) X.env=(false,eval e X.env) :: starEach es X.env:=by rfl) (qd:(backTo pos<|starEach es X.env).any (·.1)=false:=by rfl):PE X (.Call (.Name x p) (e :: es) [] pos) (yZ r t):=by
 intro O s σ H Q I h;refine KQ<|mQ I hg hm hv ?_ hn dN;exact PyProof.Rows.callWith_builtin1 (aO (ha pos O s σ H _ I h) λus s1 ⟨vs,H1,I1,r1,q1⟩=>hc O s1 σ H1 vs us Q I1 r1 q1) he qd
def Y9(hc:gR X (.type T) r)(hg:Gl X x)(hm:X.mg x=none)(hv:bootBuiltins x≈.type T)(ha:PA X (e :: es) t)(hn:x ≠ "__name__":=by decide)(dN:(x == ("__debug__" : Str))=false:=by decide)
  (he:starEach (e :: es) X.env=(false,eval e X.env) :: starEach es X.env:=by rfl) (qd:(backTo pos<|starEach es X.env).any (·.1)=false:=by rfl):PE X (.Call (.Name x p) (e :: es) [] pos) (yZ r t):=by
 intro O s σ H Q I h;refine KQ<|mQ I hg hm hv ?_ hn dN;exact IK (aO (ha pos O s σ H _ I h) λus s1 ⟨vs,H1,I1,r1,q1⟩=>hc O s1 σ H1 vs us Q I1 r1 q1) he qd
end
end L2
namespace HT
open PySem PyProof.Rows
variable{E:Í}{U:Program}
section
variable{w:World}{A:Around}{s:Shared}
def gS(n d:Nat):Option Int->Nat
 | none=>d
 | some v=>if v < 0 then(v+(n:Int)).toNat else min v.toNat n
def gT(n d:Nat):gS n d none=d:=rfl
theorem i6(n d k:Nat):gS n d (some (k:Int))=min k n:=by
 show(if(k:Int) < 0 then((k:Int)+(n:Int)).toNat else min (k:Int).toNat n)=min k n;rw[BL ⋯,Bk]
end
end HT
namespace L2
open PySem PySem.Spec PyProof.Rows
abbrev TO:=St->Hp->(Option Int->Hp->Prop)->Prop
def PO(X:Cx)(e:Option Expr)(t:TO):Prop:=
 ∀O s σ H Q,↥3->t σ H Q ->
  ↥2 (evalPart e X.env) (λu s'=>∃ o H',Inv X O σ H' s'/\IsPart u o/\Q o H') X.xe s
def Za:TO:=λ_ H Q=>Q none H
def Zb(t:TE):TO:=λσ H Q=>t σ H λx H1=>∃ i,x = .int i/\Q (some i) H1
variable{X:Cx}{r:V->Option Int->Option Int->Hp->VK->Prop}
section
variable{e:Expr}{te:TE}{lo hi:Option Expr}{tl th:TO}{pos p2:Pos}
def Zc:PO X none Za:=by
 intro O s σ H Q I h;rw[evalPart_none];exact BK ⟨none,H,I,.none,h⟩
def Zd(h:PE X e te):PO X (some e) (Zb te):=by
 intro O s σ H Q I hw;rw[evalPart_some];refine aO (h O s σ H _ I hw) λu s1 ⟨x,H1,I1,r1,q1⟩=>?_;obtain⟨i,rfl,q⟩:=q1;obtain⟨t,rfl⟩:=r1;exact⟨some i,H1,I1,.int i t,q⟩
def EV(X:Cx)(r:V->Option Int->Option Int->Hp->VK->Prop):Prop:=
 ∀O s σ H x v vl vu lo hi sl Q,↥3->RelV x v->s.heap.IsSliceOf sl vl vu .none->IsPart vl lo->IsPart vu hi->r x lo hi H Q ->
  ∃ T id,typeLookup (.type T) "__getitem__" = pure (some<|.builtin id)/\s.TypeIs v T/\↥2 (getItem v<|.ref sl) (EP X O σ Q) X.xe s
def Zf(r:V->Option Int->Option Int->Hp->VK->Prop)(te:TE)(tl th:TO):TE:=λσ H Q=>te σ H λx H1=>tl σ H1 λl H2=>th σ H2 λu H3=>r x l u H3 Q
def Zg(hr:EV X r)(he:PE X e te)(hl:PO X lo tl)(hu:PO X hi th):PE X (.Subscript e (.Slice lo hi none p2) pos) (Zf r te tl th):=by
 intro O s σ H Q I h;refine Subscript_<|aO (he O s σ H _ I h) λv s1 ⟨x,H1,I1,r1,q1⟩=>?_;refine wpAny_Slice<|aO (hl O s1 σ H1 _ I1 q1) λvl s2 ⟨l,H2,I2,pl,q2⟩=>aO (hu O s2 σ H2 _ I2 q2) λvu s3 ⟨u,H3,I3,pu,q3⟩=>?_;rw[evalPart_none];refine BK ?_;have I4:Inv X O σ H3 {s3 with heap:=s3.heap.push {cls:= .type "slice",data:= .fields #[vl,vu,.none]}}:=I3.kept λb ob q=>Aj _ q;obtain⟨T,id,hT,ht,hg⟩:=hr O {s3 with heap:=s3.heap.push {cls:= .type "slice",data:= .fields #[vl,vu,.none]}} σ H3 x v vl vu l u ↑s3 Q I4 r1 (Heap.IsSliceOf.new ..) pl pu q3;show ↥2 (subscriptTail e (.Slice lo hi none p2) v<|.ref ↑s3) (EP X O σ Q) X.xe {s3 with heap:=s3.heap.push {cls:= .type "slice",data:= .fields #[vl,vu,.none]}};exact tail_any ht hT hg<|by with_unfolding_all rfl
def gU(xs:List V)(lo hi:Option Int):List V:=(xs.drop<|HT.gS xs.length 0 lo).take<|HT.gS xs.length xs.length hi - HT.gS xs.length 0 lo
theorem Zh(xs:List V)(lo hi:Option Int):(gU xs lo hi).length<=xs.length:=by
 unfold gU;rw[Br,Du];omega
end
def oG(n:Nat)(i:Int):Option Nat:=if 0<=i then(if i < n then some i.toNat else none)else if -(n:Int)<=i then some (i+n).toNat else none
def fj{α:Type}(xs:List α)(i:Int):Option α:=(oG xs.length i).bind λj=>xs[j]?
variable{j n:Nat}{i:Int}
theorem Zi(h:oG n i≈j):seqIndex? i n≈j/\j < n/\-(n:Int)<=i/\i < n:=by
 unfold oG at h
 by_cases h0:0<=i
 ·rw[BP h0]at h
  by_cases h1:i < n
  ·rw[BP h1]at h;have e:=Option.some.inj h;exact⟨by rw[seqIndex_of h0 h1,e],⋯,⋯,h1⟩
  ·rw[BL h1]at h;cases h
 ·rw[BL h0]at h
  by_cases h1:-(n:Int)<=i
  ·rw[BP h1]at h;have e:=Option.some.inj h;exact⟨by rw[seqIndex_neg ⋯ h1,e],⋯,h1,⋯⟩
  ·rw[BL h1]at h;cases h
theorem EW{α:Type}{xs:List α}{v:α}(h:fj xs i≈v):∃ j,seqIndex? i xs.length≈j/\xs[j]?≈v/\j < xs.length/\-(xs.length:Int)<=i/\i < xs.length:=by
 unfold fj at h;cases e:oG xs.length i with
 | none=>rw[e]at h;cases h
 | some j=>
  rw[e]at h;obtain⟨h1,h2,h3,h4⟩:=Zi e;exact⟨j,h1,h,h2,h3,h4⟩
theorem tq{α:Type}{xs:List α}{v:α}(h:xs[j]?≈v):fj xs (j:Int)≈v:=by
 have hj:j < xs.length:=(Ac.mp h).1;have e:oG xs.length (j:Int)≈j:=by
  unfold oG;rw[BP ⋯,BP<|⋯];simp
 unfold fj;rwa[e]
theorem Zj{α:Type}(xs:List α)(v:α):fj (xs++[v]) (-1)≈v:=by
 have hl:(xs++[v]).length=xs.length+1:=by simp
 have e:oG (xs++[v]).length (-1)≈xs.length:=by
  unfold oG;rw[hl,BL ∅,BP<|⋯]
  congr 1
  omega
 unfold fj;rw[e];show(xs++[v])[xs.length]?≈v;simp
def O6(b:Expr):Prop:=∀ o i,subscripted b false o i=operate [o,i] (getItem o i)
def vh(X:Cx)(r:R2):Prop:=
 ∀value slice O s σ H x y v u Q,↥3->RelV x v->RelV y u->r x y H Q ->
  subscripted slice false v u=operate [v,u] (getItem v u)->↥2 (subscriptTail value slice v u) (EP X O σ Q) X.xe s
def vi(X:Cx)(id:String)(r:V->List V->Hp->VK->Prop):Prop:=
 ∀O s σ H x xs v us Q,↥3->RelV x v->ay xs us->r x xs H Q ->
  ↥2 (call (.builtin id)<|v :: us) (EP X O σ Q) X.xe s
variable{u v:Value}{x:V}{s:Shared}{A:Around}{T:String}{H:Hp}{σ:St}{O:Ï}{name:Str}{es:Ó}
section
variable{a b:Expr}{ta tb:TE}{pos:Pos}
def Zk{r:R2}(hr:vh X r)(ha:PE X a ta)(hb:PE X b tb)(hs:O6 b):PE X (.Subscript a b pos) (yV r ta tb):=by
 intro O s σ H Q I h;exact Subscript_<|p7 ha hb I h λv u s2 x y H2 I2 rx ry q=>hr a b O s2 σ H2 x y v u Q I2 rx ry q<|hs _ _
def EX(K:PySem.W.Frag):R2:=λx y H Q=>∃ p xs i v,x = .ref p/\y = .int i/\au K H p xs/\fj xs i≈v/\Q v H
def EZ(K:PySem.W.Frag):R2:=λx y H Q=>∃ p xs i v,x = .ref p/\y = .int i/\aQ K H p xs/\fj xs i≈v/\Q v H
def E1:R2:=λx y H Q=>∃ z i c,x = .str z/\y = .int i/\z.length<=sizeLine/\fj z.cps.toList i≈c/\Q (.str ⟨#[c]⟩) H
theorem dF:vh X (EX X.K):=by
 intro value slice O s σ H x y v u Q I rx ry h hs;obtain⟨p,xs,i,z,rfl,rfl,hq,he,q⟩:=h;cases rx;obtain⟨t,rfl⟩:=ry;obtain⟨è,r,pl,hz⟩:=I.list hq;obtain⟨j,h1,h2,h3,h4,h5⟩:=EW he;obtain⟨w,ew,gF⟩:=r.get h2;have hl:=r.length;have hn:=ve;have fin:EP X O σ Q w s:=⟨z,H,I,gF,q⟩
 by_cases h0:0<=i
 ·have hj:i.toNat=j:=by
   rw[seqIndex_of h0 h5]at h1;exact Option.some.inj h1
  exact item_listR pl.isList h0 ⋯ (by rw[hj];simpa using ew) fin hs
 ·have hj:(i+(è.toArray.size:Int)).toNat=j:=by
   rw[seqIndex_neg ⋯ h4]at h1;rw[Ay,<- hl];exact Option.some.inj h1
  exact subscriptTail_builtinR pl.isList.typeIs slot_list_getitem.lookup
   (wpAny_getItem_list_neg pl.isList ⋯ (by rw[Ay] <;> omega) ⋯ (by rw[hj];simpa using ew) ⟨rfl,fin⟩) hs
theorem bQ:vh X (EZ X.K):=by
 intro value slice O s σ H x y v u Q I rx ry h hs;obtain⟨p,xs,i,z,rfl,rfl,hq,he,q⟩:=h;cases rx;obtain⟨t,rfl⟩:=ry;obtain⟨è,r,pl,hz⟩:=I.tuple hq;obtain⟨j,h1,h2,h3,h4,h5⟩:=EW he;obtain⟨w,ew,gF⟩:=r.get h2;have hl:=r.length;have hn:=ve;have fin:EP X O σ Q w s:=⟨z,H,I,gF,q⟩;exact subscriptTail_builtinR pl.typeIs slot_tuple_getitem.lookup
  (getItem_tuple pl ⋯ ⋯ (by rwa[Ay,<- hl]) ew⁻¹ ⟨rfl,fin⟩) hs
theorem O7:vh X E1:=by
 intro value slice O s σ H x y v u Q I rx ry h hs;obtain⟨z,i,c,rfl,rfl,hz,he,q⟩:=h;obtain⟨t,rfl⟩:=rx;obtain⟨t',rfl⟩:=ry;obtain⟨j,h1,h2,h3,h4,h5⟩:=EW he;have hl:z.cps.toList.length=z.length:=by simp[Str.length]
 rw[hl]at h1 h4 h5;have hn:=ve;exact tail_any (typeIs_str s z t) slot_str_getitem.lookup (getItem_str (by
  have e1:decide (i < -(2 ^ 63:Int))=false:=BR ⋯;have e2:decide (i>=2 ^ 63)=false:=BR ⋯;rw[e1,e2,Bool.or_false]) (by rw[h1];simpa using h2) ⟨.str ⟨#[c]⟩,H,I.tok _,⟨_,rfl⟩,q⟩) hs
theorem Zm(lo hi:Option Int)(n:Nat):(sliceBounds lo hi none n).1=((HT.gS n 0 lo:Nat):Int)/\(sliceBounds lo hi none n).2.1=((HT.gS n n hi:Nat):Int)/\(sliceBounds lo hi none n).2.2=1:=by
 refine⟨?_,?_,rfl⟩
 ·cases lo with
  | none=>simp[sliceBounds,HT.gS]
  | some i=>
   simp only[sliceBounds,HT.gS,Option.getD_none,show(1:Int) > 0 by decide,CZ]
   by_cases h:i < 0
   ·simp only[h,CZ] <;> omega
   ·simp only[h,CP] <;> omega
 ·cases hi with
  | none=>simp[sliceBounds,HT.gS]
  | some i=>
   simp only[sliceBounds,HT.gS,Option.getD_none,show(1:Int) > 0 by decide,CZ]
   by_cases h:i < 0
   ·simp only[h,CZ] <;> omega
   ·simp only[h,CP] <;> omega
def Zn(è:Ò)(lo hi:Option Int):slicePick è.toArray lo hi none=((è.drop<|HT.gS è.length 0 lo).take<|HT.gS è.length è.length hi - HT.gS è.length 0 lo).toArray:=by
 obtain⟨h1,h2,h3⟩:=Zm lo hi è.toArray.size;unfold slicePick;rw[h1,h2,h3];simp only[sliceRange_one,pick_run,Ay] <;> rfl
def E3(K:PySem.W.Frag):V->Option Int->Option Int->Hp->VK->Prop:=λx lo hi H Q=>∃ a xs,x = .ref a/\au K H a xs/\∀ p,H p=none->Q (.ref p) (upd H p<|.lst<|gU xs lo hi)
theorem O8:EV X (E3 X.K):=by
 intro O s σ H x v vl vu lo hi sl Q I rx hs pl pu h;obtain⟨a,xs,rfl,hx,q⟩:=h;cases rx;obtain⟨è,r,ht,hz⟩:=I.list hx;have hlen:=r.length;refine⟨"list",_,slot_list_getitem.lookup,ht.isList.typeIs,?_⟩;refine wpAny_getItem_list_slice ht.isList hs pl pu .none (by simp) ?_ (by rw[Ay] <;> omega);rw[Zn,<- hlen];refine⟨.ref ↑s,_,I.laid (λb ob q=>Aj _ q) (An _) ?_,rfl,q _<|I.aH.fresh<|An _⟩;exact⟨Ch (Zh xs lo hi) hz,_,0,(r.drop<|HT.gS xs.length 0 lo).take<|HT.gS xs.length xs.length hi - HT.gS xs.length 0 lo,At _ rfl⟩
def kD:V->Bool
 | .non=>true
 | .bl _=>true
 | .int _=>true
 | .str _=>true
 | _=>false
def c6:V->V->Bool
 | .non,.non=>true
 | .bl a,.bl b=>a == b
 | .bl a,.int b=>(if a then 1 else 0) == b
 | .int a,.bl b=>a == (if b then 1 else 0)
 | .int a,.int b=>a == b
 | .str a,.str b=>a == b
 | _,_=>false
theorem O9{y:V}(ry:RelV y u)(rx:RelV x v)(fy:kD y=true)(fx:kD x=true):SeqAt.EqAt A s u v (c6 y x):=by
 cases y with
 | non=>
  cases ry;cases x with
  | non=>cases rx;exact SeqAt.EqAt.same _
  | bl b=>cases rx;exact SeqAt.EqAt.none_bool b
  | int b=>obtain⟨t,rfl⟩:=rx;exact SeqAt.EqAt.none_int b t
  | str b=>obtain⟨t,rfl⟩:=rx;exact SeqAt.EqAt.none_str b t
  | _=>exact absurd (show false=true from fx) Aw
 | bl a=>
  cases ry;cases x with
  | non=>cases rx;exact SeqAt.EqAt.bool_none a
  | bl b=>cases rx;exact SeqAt.EqAt.bool_bool a b
  | int b=>obtain⟨t,rfl⟩:=rx;exact SeqAt.EqAt.bool_int a b t
  | str b=>obtain⟨t,rfl⟩:=rx;exact SeqAt.EqAt.bool_str a b t
  | _=>exact absurd (show false=true from fx) Aw
 | int a=>
  obtain⟨t',rfl⟩:=ry;cases x with
  | non=>cases rx;exact SeqAt.EqAt.int_none a t'
  | bl b=>cases rx;exact SeqAt.EqAt.int_bool a t' b
  | int b=>obtain⟨t,rfl⟩:=rx;exact SeqAt.EqAt.int_int a t' b t
  | str b=>obtain⟨t,rfl⟩:=rx;exact SeqAt.EqAt.int_str a t' b t
  | _=>exact absurd (show false=true from fx) Aw
 | str a=>
  obtain⟨t',rfl⟩:=ry;cases x with
  | non=>cases rx;exact SeqAt.EqAt.str_none a t'
  | bl b=>cases rx;exact SeqAt.EqAt.str_bool a t' b
  | int b=>obtain⟨t,rfl⟩:=rx;exact SeqAt.EqAt.str_int a t' b t
  | str b=>obtain⟨t,rfl⟩:=rx;exact SeqAt.EqAt.str_str a t' b t
  | _=>exact absurd (show false=true from fx) Aw
 | _=>exact absurd (show false=true from fy) Aw
def iG(x:V)(u:Value):Bool:=match u with
 | .none=>c6 .non x
 | .bool b=>c6 (.bl b) x
 | .int i _=>c6 (.int i) x
 | .str z _=>c6 (.str z) x
 | _=>false
theorem O'{y:V}(r:RelV y u)(f:kD y=true):iG x u=c6 y x:=by
 cases y with
 | non=>cases r;rfl
 | bl b=>cases r;rfl
 | int i=>obtain⟨t,rfl⟩:=r;rfl
 | str z=>obtain⟨t,rfl⟩:=r;rfl
 | _=>exact absurd (show false=true from f) Aw
theorem vj{x:V}:∀{xs}{us},ay xs us->xs.all kD=true->us.any (iG x)=xs.any λy=>c6 y x
 | _,_,.nil,_=>rfl
 | y :: xs,u :: us,.cons r t,f=>by
  rw[Hm,Cb]at f;rw[Gf,Gf,O' r f.1,vj t f.2]
theorem vk{A:Around}{s:Shared}{x:V}{v:Value}(rx:RelV x v)(fx:kD x=true):∀{xs}{us},ay xs us->xs.all kD=true->∀ u∈us,SeqAt.EqAt A s u v<|iG x u
 | _,_,.nil,_=>λu hu=>by cases hu
 | y :: xs,u :: us,.cons r t,f=>λu' hu=>by
  rw[Hm,Cb]at f
  rcases Ai.mp hu with rfl | hu
  ·rw[O' r f.1];exact O9 r rx f.1 fx
  ·exact vk rx fx t f.2 u' hu
def tu(x:V)(xs:List V):Bool:=xs.any λy=>c6 y x
def Pa(K:PySem.W.Frag)(neg:Bool):R2:=λx y H Q=>∃ p xs,y = .ref p/\(au K H p xs\/aQ K H p xs)/\kD x=true/\xs.all kD=true/\Q (.bl (if neg then !tu x xs else tu x xs)) H
def oH:cX X (compareOp .In) (Pa X.K false):=by
 intro O s σ H x y v u Q I rx ry h;obtain⟨p,xs,rfl,hq,fx,fs,q⟩:=h;cases ry
 rcases hq with hq | hq
 ·obtain⟨è,r,pl,hz⟩:=I.list hq;refine SeqAt.in_listAt (iG x) pl.isList (λw hw=>vk rx fx r fs w<|hw⁻¹) ⟨.bl _,H,I,rfl,?_⟩;rwa[show è.toArray.any (iG x)=è.any (iG x) by simp,vj r fs]
 ·obtain⟨è,r,pl,hz⟩:=I.tuple hq;refine SeqAt.in_tupleAt (iG x) pl (λw hw=>vk rx fx r fs w<|hw⁻¹) ⟨.bl _,H,I,rfl,?_⟩;rwa[show è.toArray.any (iG x)=è.any (iG x) by simp,vj r fs]
def Pb:cX X (compareOp .NotIn) (Pa X.K true):=by
 intro O s σ H x y v u Q I rx ry h;obtain⟨p,xs,rfl,hq,fx,fs,q⟩:=h;cases ry
 rcases hq with hq | hq
 ·obtain⟨è,r,pl,hz⟩:=I.list hq;refine SeqAt.notIn_listAt (iG x) pl.isList (λw hw=>vk rx fx r fs w<|hw⁻¹) ⟨.bl _,H,I,rfl,?_⟩;rwa[show è.toArray.any (iG x)=è.any (iG x) by simp,vj r fs]
 ·obtain⟨è,r,pl,hz⟩:=I.tuple hq;refine SeqAt.notIn_tupleAt (iG x) pl (λw hw=>vk rx fx r fs w<|hw⁻¹) ⟨.bl _,H,I,rfl,?_⟩;rwa[show è.toArray.any (iG x)=è.any (iG x) by simp,vj r fs]
theorem eU:gR X (.builtin "len") (λxs H Q=>∃ p ys,xs=[.ref p]/\(au X.K H p ys\/aQ X.K H p ys)/\Q (.int ys.length) H):=by
 intro O s σ H xs us Q I r h;obtain⟨p,ys,rfl,hq,q⟩:=h;obtain⟨u,rfl,rx⟩:=vals1 r;cases rx;have hn:=ve
 rcases hq with hq | hq
 ·obtain⟨è,r',pl,hz⟩:=I.list hq;have hlen:=r'.length;exact Calls.call_len_list pl.isList (by simp only[Ay] <;> omega) ⟨.int ys.length,H,I.tok _,⟨s.toks+1,by rw[Ay,hlen]⟩,q⟩
 ·obtain⟨è,r',pl,hz⟩:=I.tuple hq;have hlen:=r'.length;exact len_tuple pl (by simp only[Ay] <;> omega) ⟨.int ys.length,H,I.tok _,⟨s.toks+1,by rw[Ay,hlen]⟩,q⟩
theorem Zo:gR X (.type "list") (λxs H Q=>∃ p ys,xs=[.ref p]/\(au X.K H p ys\/aQ X.K H p ys)/\∀ l,H l=none->Q (.ref l) (upd H l<|.lst ys)):=by
 intro O s σ H xs us Q I r h;obtain⟨p,ys,rfl,hq,q⟩:=h;obtain⟨u,rfl,rx⟩:=vals1 r;cases rx;have fin:∀(è:Ò),ay ys è->ys.length<=sizeLine->∀(h':Heap) (c':Nat),(∀ b o',s.heap.get? b≈o'->h'.get? b≈o') ->
   h'.get? ↑s=some {cls:= .type "list",dict:=none,data:= .seq è.toArray c',slots:=#[]}->EP X O σ Q (.ref ↑s) {s with heap:=h'}:=λè r' hz h' c' kp e=>
  ⟨.ref ↑s,_,I.laid kp (An _) (show aB X.U X.w _ h' _ (.lst ys) from⟨hz,è,c',r',e⟩),rfl,q _<|I.aH.fresh<|An _⟩
 rcases hq with hq | hq
 ·obtain⟨è,r',pl,hz⟩:=I.list hq;have hlen:=r'.length;obtain⟨o,ho,hc,n,hd⟩:=pl.isList;exact call_list_seq p (.inl rfl) ho hc hd (λh' c' kp e=>fin è r' hz h' c' kp e)<|by simp only[Ay] <;> omega
 ·obtain⟨è,r',pl,hz⟩:=I.tuple hq;have hlen:=r'.length;obtain⟨o,ho,hc,n,hd⟩:=pl;exact call_list_seq p (.inr rfl) ho hc hd (λh' c' kp e=>fin è r' hz h' c' kp e)<|by simp only[Ay] <;> omega
def mV(K:PySem.W.Frag)(T:String)(x:V)(H:Hp):Prop:=match x with
 | .str _=>T = "str"
 | .int _=>T = "int"
 | .ref p=>(T = "list"/\∃ xs,au K H p xs)\/(T = "tuple"/\∃ o,K.lookup p≈o/\o.cls = .type "tuple"/\o.dict=none) \/
   (T = "dict"/\((∃ Y,H p≈.dK Y)\/∃ Y,H p≈.dT Y))\/(T = "set"/\∃ S n,H p≈.set S n)
 | _=>False
theorem Pg(I:↥3)(r:RelV x v)(ty:mV X.K T x H) :
  s.TypeIs v T/\∀ a,v = .ref a->∃ ob,s.heap.get? a≈ob/\ob.dict=none:=by
 cases x with
 | str z=>
  obtain⟨t,rfl⟩:=r;cases (show T = "str" from ty);exact⟨typeIs_str s z t,λ_ e=>nomatch e⟩
 | int i=>
  obtain⟨t,rfl⟩:=r;cases (show T = "int" from ty);exact⟨typeIs_int s i t,λ_ e=>nomatch e⟩
 | ref p=>
  cases r
  rcases ty with ⟨rfl,xs,hq⟩ | ⟨rfl,o,hk,hc,hd⟩ | ⟨rfl,hk⟩ | ⟨rfl,S,n,hk⟩
  ·obtain⟨è,_,pl,_⟩:=I.list hq;refine⟨pl.isList.typeIs,λa e=>?_⟩;cases e;obtain⟨o,n,e,c,hd,_⟩:=pl;exact⟨o,e,hd⟩
  ·refine⟨⟨o,I.gQ p o hk,hc⟩,λa e=>?_⟩;cases e;exact⟨o,I.gQ _ o hk,hd⟩
  ·have z:∃ o,s.heap.get? p≈o/\o.ExactDict:=by
    rcases hk with ⟨Y,hk⟩ | ⟨Y,hk⟩
    ·obtain⟨_,_,_,_,o,_,_,e,ex,_⟩:=I.aH p _ hk;exact⟨o,e,ex⟩
    ·obtain⟨_,_,_,_,o,_,_,e,ex,_⟩:=I.aH p _ hk;exact⟨o,e,ex⟩
   obtain⟨o,e,ex⟩:=z;refine⟨⟨o,e,ex.1⟩,λa e2=>?_⟩;cases e2;exact⟨o,e,ex.2.1⟩
  ·obtain⟨o,_,_,_,e,ex,_⟩:=I.aH p _ hk;refine⟨⟨o,e,ex.1⟩,λa e2=>?_⟩;cases e2;exact⟨o,e,ex.2.1⟩
 | _=>exact False.elim ty
def E4(K:PySem.W.Frag)(T:String)(r:V->List V->Hp->VK->Prop)(to:TE):TE:=λσ H Q=>to σ H λx H1=>mV K T x H1/\r x [] H1 Q
def Zq(K:PySem.W.Frag)(T:String)(r:V->List V->Hp->VK->Prop)(to:TE)(t:TA):TE:=λσ H Q=>to σ H λx H1=>mV K T x H1/\t σ H1 λxs H2=>r x xs H2 Q
variable{o e:Expr}{to:TE}{t:TA}{apos fk:Pos}{id:String}{r:V->List V->Hp->VK->Prop}
def Zr(pa:PlainAttrs T)(slot:Slot T name id)(mW:typeOf (.builtin id)=pure (.type "method_descriptor"))(hm:vi X id r)(ho:PE X o to)
  (bO:attributeBase o name X.env (eval o X.env)=eval o X.env:=by rfl) (hline:(apos.endLine == fk.line)=true:=by rfl):PE X (.Call (.Attribute o name apos) [] [] fk) (E4 X.K T r to):=by
 intro O s σ H Q I h;refine wpAny_Call_method0_late bO hline<|aO (ho O s σ H _ I h) λv s1 ⟨x,H1,I1,r1,ty,q1⟩=>?_;obtain⟨h1,h2⟩:=Pg I1 r1 ty;exact⟨T,id,pa,slot,mW,h1,h2,HW rfl (PySem.evalArgs_none<|hm O s1 σ H1 x [] v [] Q I1 r1 .nil q1)⟩
def E5(pa:PlainAttrs T)(slot:Slot T name id)(mW:typeOf (.builtin id)=pure (.type "method_descriptor"))(hm:vi X id r)(ho:PE X o to)(ha:PA X (e :: es) t)
  (bO:attributeBase o name X.env (eval o X.env)=eval o X.env:=by rfl)
  (cG : ((backTo fk<|starEach (e :: es) X.env).all (λx => !x.1) && (backToKw fk<|keywordEach [] X.env).all (λx => x.1.isSome)
   && decide ((e :: es).length+([]:List Keyword).length+(if([]:List Keyword).isEmpty then 0 else 1) < 30))=true:=by rfl)
  (hline:(apos.endLine == fk.line)=true:=by rfl) (hs:starEach (e :: es) X.env=(false,eval e X.env) :: starEach es X.env:=by rfl) (cj:(backTo fk<|starEach es X.env).any (·.1)=false:=by rfl) :
  PE X (.Call (.Attribute o name apos) (e :: es) [] fk) (Zq X.K T r to t):=by
 intro O s σ H Q I h;refine LR bO cG hline rfl (aO (ho O s σ H _ I h) λv s1 ⟨x,H1,I1,r1,ty,q1⟩=>?_);obtain⟨h1,h2⟩:=Pg I1 r1 ty;refine⟨T,id,pa,slot,mW,h1,h2,?_⟩;have hA:=ha fk O s1 σ H1 _ I1 q1;rw[hs]at hA ⊢;refine HW (by show(false || (backTo fk<|starEach es X.env).any (·.1))=false;rw[cj] <;> rfl)<|JW ?_;exact aO hA λus s2 ⟨vs,H2,I2,r2,q2⟩=>hm O s2 σ H2 x vs v us Q I2 r1 r2 q2
end
def qf(X:Cx)(id:String)(r:V->List V->Hp->VK->Prop):Prop:=
 ∀O s σ H x xs v us Q,↥3->RelV x v->ay xs us->r x xs H Q ->
  ↥2 (call (.builtin id)<|v :: us) (EP X O σ Q) X.xe s
variable{us:Ò}{xs:List V}
theorem ay.hd(h:ay (x :: xs) us):∃ u vs,us=u :: vs/\RelV x u/\ay xs vs:=by
 cases h with
 | cons r t=>exact⟨_,_,rfl,r,t⟩
def ay.nl(h:ay [] us):us=[]:=by
 cases h;rfl
def ay.one(h:ay [x] us):∃ u,us=[u]/\RelV x u:=by
 obtain⟨u,vs,rfl,r,t⟩:=h.hd;rw[t.nl];exact⟨u,rfl,r⟩
def ay.two{y:V}(h:ay [x,y] us):∃ u v,us=[u,v]/\RelV x u/\RelV y v:=by
 obtain⟨u,vs,rfl,r,t⟩:=h.hd;obtain⟨v,ws,rfl,q,t⟩:=t.hd;rw[t.nl];exact⟨u,v,rfl,r,q⟩
theorem ay.zero:∀{us},ay [] us->us=[]
 | _,.nil=>rfl
theorem ay.dropLast{xs:List V}{us:Ò}(h:ay xs us):ay xs.dropLast us.dropLast:=by
 induction h with
 | nil=>exact .nil
 | cons r t ih=>
  cases t with
  | nil=>exact .nil
  | cons q t'=>exact .cons r ih
theorem ay.eraseIdx:∀{xs}{us}i,ay xs us->ay (xs.eraseIdx i) (us.eraseIdx i)
 | _,_,_,.nil=> .nil
 | _,_,0,.cons _ t=>t
 | _,_,i+1,.cons r t=> .cons r<|ay.eraseIdx i t
theorem Zt{α:Type}(l:List α):l.eraseIdx (l.length - 1)=l.dropLast:=by
 induction l with
 | nil=>rfl
 | cons a r ih=>
  cases r with
  | nil=>rfl
  | cons b r=>
   have e:(a :: b :: r).length - 1=((b :: r).length - 1)+1:=by
    have h1:(a :: b :: r).length=r.length+2:=rfl;have h2:(b :: r).length=r.length+1:=rfl;omega
   rw[e,RW,ih]
   all_goals rfl
theorem Ph{α:Type}:∀(l:List α) (i:Nat),(l.eraseIdx i).length<=l.length
 | [],_=>An _
 | _ :: _,0=>Es _
 | _ :: r,i+1=>Nat.succ_le_succ<|Ph r i
variable{t':Nat}{f:Array Value->Array Value}{è:Ò}
section
variable{l b:Addr}{ys zs:List V}
def Inv.kE{its':Ò}(I:↥3)(hH:H l≈.lst xs)
  (e:s.heap.get? l=some {cls:= .type "list",data:= .seq è.toArray n}) (hf:f è.toArray=its'.toArray) (hv:ay ys its') (hz:ys.length<=sizeLine) :
  Inv X O σ (upd H l<|.lst ys) {s with heap:=s.heap.update l<|Obj.mapSeq f,toks:=t'}:=by
 have q:=PySem.IsL.update e f;rw[hf]at q;refine I.write (by rw[hH];exact trivial) (.inl rfl) (λb' u hb hu=>(Cm s.heap (Obj.mapSeq f)<|CK hb).trans hu) ⟨_,q⟩ ?_;exact⟨hz,its',_,hv,q⟩
def Inv.vp(I:↥3)(hv:ay ys è)(hz:ys.length<=sizeLine) :
  Inv X O σ (upd H ↑s<|.lst ys) {s with heap:=s.heap.push {cls:= .type "list",data:= .seq è.toArray},toks:=t'}:=
 I.laid (λ_ _ q=>Aj _ q) (An _) ⟨hz,è,0,hv,At _ rfl⟩
def Inv.fresh(I:↥3):H ↑s=none:=I.aH.fresh<|An _
def Inv.gW(I:↥3)(hH:H l≈.lst xs):xs.length<=sizeLine/\∃è n,ay xs è/\xs.length=è.length/\s.heap.get? l=some {cls:= .type "list",data:= .seq è.toArray n}:=by
 obtain⟨z,è,n,r,e⟩:=I.aH l _ hH;exact⟨z,è,n,r,r.length,e⟩
theorem Zu(h:n<=sizeLine):Builtin.List.listTooLong n=false:=by
 unfold Builtin.List.listTooLong;exact BR<|⋯
end
def Zv:V->List V->Hp->VK->Prop:=λx vs H Q=>∃ l xs y,x = .ref l/\vs=[y]/\H l≈.lst xs/\xs.length < sizeLine/\Q .non (upd H l<|.lst<|xs++[y])
theorem Pj:qf X "list.append" Zv:=by
 intro O s σ H x vs v us Q I rx rv h;obtain⟨l,xs,y,rfl,rfl,hH,hz,q⟩:=h;cases rx;obtain⟨u,rfl,ru⟩:=rv.one;obtain⟨z,è,n,r,hl,e⟩:=I.gW hH;refine PL F.slot_list_append ⟨_,e,rfl⟩ F.entry_list_append (F.args_list_append_2 _ _) (PySem.list_append l è.toArray n u<|by rw[Ay];omega) ⟨e,?_⟩;refine⟨.non,_,I.kE hH e (by simp) (r.append<|.cons ru .nil) ?_,rfl,q⟩;rw[Ag,Dc];omega
def Zw:V->List V->Hp->VK->Prop:=λx vs H Q=>∃ l b xs zs,x = .ref l/\vs=[.ref b]/\H l≈.lst xs/\H b≈.lst zs/\xs.length+zs.length<=sizeLine/\Q .non (upd H l<|.lst<|xs++zs)
theorem Zx:qf X "list.extend" Zw:=by
 intro O s σ H x vs v us Q I rx rv h;obtain⟨l,b,xs,zs,rfl,rfl,hH,hB,hz,q⟩:=h;cases rx;obtain⟨u,rfl,ru⟩:=rv.one;cases ru;obtain⟨z,è,n,r,hl,e⟩:=I.gW hH;obtain⟨z2,d7,n2,r2,kF,e2⟩:=I.gW hB;have hsz:è.toArray.size+d7.toArray.size<=sizeLine:=by rw[Ay,Ay];omega
 have vq:¬(!è.toArray.isEmpty && Builtin.List.listTooLong (è.toArray.size+d7.toArray.size))=true:=by
  rw[Zu hsz,Ep];exact Aw
 refine PL F.slot_list_extend ⟨_,e,rfl⟩ F.entry_list_extend (F.args_list_extend_2 _ _)
  (AutoSeq1.list_extend_list_list_0 l è.toArray n b d7.toArray n2 vq (by rw[Ay];omega)<|⋯) ⟨e,e2,?_⟩
 refine⟨.non,_,I.kE hH e (by simp) (r.append r2) ?_,rfl,q⟩;rw[Ag];omega
def E6:V->List V->Hp->VK->Prop:=λx vs H Q=>∃ l xs y,x = .ref l/\vs=[]/\H l≈.lst xs/\xs[xs.length - 1]?≈y/\Q y (upd H l<|.lst xs.dropLast)
theorem Zy:qf X "list.pop" E6:=by
 intro O s σ H x vs v us Q I rx rv h;obtain⟨l,xs,y,rfl,rfl,hH,hy,q⟩:=h;cases rx;have E7:=rv.zero;subst E7;obtain⟨z,è,n,r,hl,e⟩:=I.gW hH;obtain⟨u,hu,ru⟩:=r.get hy;have oI:è.toArray[è.toArray.size - 1]?≈u:=by
  show è.toArray[è.length - 1]?≈u;rwa[<- Bj,<- hl]
 refine PL F.slot_list_pop ⟨_,e,rfl⟩ F.entry_list_pop (F.args_list_pop_1 _) (MeetsSeq.list_pop_last l è.toArray n u oI<|by rw[Ay];omega) ⟨e,?_⟩;refine⟨y,_,I.kE hH e ?_ r.dropLast ?_,ru,q⟩
 ·show è.toArray.eraseIdxIfInBounds (è.toArray.size - 1)=è.dropLast.toArray;rw[Ay,PJ,Zt]
 ·rw[List.length_dropLast];omega
def Zz:V->List V->Hp->VK->Prop:=λx vs H Q=>∃ l xs i k y,x = .ref l/\vs=[.int i]/\H l≈.lst xs/\-(2 ^ 63)<=i/\i < 2 ^ 63/\seqIndex? i xs.length≈k/\xs[k]?≈y/\Q y (upd H l<|.lst<|xs.eraseIdx k)
theorem ZA:qf X "list.pop" Zz:=by
 intro O s σ H x vs v us Q I rx rv h;obtain⟨l,xs,i,k,y,rfl,rfl,hH,h1,h2,hk,hy,q⟩:=h;cases rx;obtain⟨u,rfl,ru⟩:=rv.one;obtain⟨t,rfl⟩:=ru;obtain⟨z,è,n,r,hl,e⟩:=I.gW hH;obtain⟨w,hw,gF⟩:=r.get hy;refine PL F.slot_list_pop ⟨_,e,rfl⟩ F.entry_list_pop (F.args_list_pop_2 _ _)
  (MeetsSeq.list_pop_at l è.toArray n i t k w (fitsIndex_both h1 h2) (by rwa[Ay,<- hl]) (by rwa[<- Bj])<|by rw[Ay];omega) ⟨e,?_⟩
 refine⟨y,_,I.kE hH e ?_ (r.eraseIdx k) ?_,gF,q⟩
 ·show è.toArray.eraseIdxIfInBounds k=(è.eraseIdx k).toArray;rw[PJ]
 ·have:=Ph xs k;omega
def E8:R2:=λx y H Q=>∃ l b xs zs,x = .ref l/\y = .ref b/\H l≈.lst xs/\H b≈.lst zs/\xs.length+zs.length<=sizeLine/\∀ p,H p=none->Q (.ref p) (upd H p<|.lst<|xs++zs)
theorem ZC:cX X (binaryOp .Add) E8:=by
 intro O s σ H x y v u Q I rx ry h;obtain⟨l,b,xs,zs,rfl,rfl,hH,hB,hz,q⟩:=h;cases rx;cases ry;obtain⟨z,è,n,r,hl,e⟩:=I.gW hH;obtain⟨z2,d7,n2,r2,kF,e2⟩:=I.gW hB;refine PySem.P.add_list e e2 ?_ (by rw[Ay,Ay];omega);have ea:è.toArray++d7.toArray=(è++d7).toArray:=by simp
 rw[ea];exact⟨.ref _,_,I.vp (r.append r2) (by rw[Ag];omega),rfl,q _ I.fresh⟩
variable{E:Í}{U:Program}
end L2
namespace Pk
open PySem PySem.W PySem.Calls PyProof.Rows
variable{h:Heap}{P:Params}
theorem ZD:∀ns vs,WellAll P h vs (ns.map WData.int)->IntsAre vs ns:=by
 intro ns
 induction ns with
 | nil=>
  intro vs w;rw[List.map_nil]at w;cases w;exact .nil
 | cons n ns ih=>
  intro vs w;rw[Ba]at w;cases w with
  | cons a b=>
   cases a;exact .cons _ _<|ih _ b
variable{vals:Ò}{args:List WData}{n:Nat}{l:OpenLaw}
theorem ZE(hn:l.most≈n)
  (mX:l.row.toRowW.claim.pre args=true) (vt:WellAll P h vals args) :
  ∃ a vs ns,vals=[Value.ref a]/\args=[WData.list<|ns.map WData.int]/\h.get? a=some {cls:= .type "list",data:= .seq vs.toArray}/\IntsAre vs ns/\ns.length<=n:=by
 have ZF:=(pre_splitW mX).1;have hc:l.pre.holds [] {args:=args}=true:=(pre_splitW mX).2;obtain⟨d,r,rfl,h1,h2⟩:=hasAllW_cons ZF;obtain rfl:=hasAllW_nil h2;obtain⟨xs,rfl,h3⟩:=hasW_list h1;obtain⟨ns,rfl⟩:=items_int h3;have hlen:ns.length<=n:=by
  unfold OpenLaw.pre at hc;have h4:(WTm.not<|.lt (.lit<|.int (n:Int))<|.len<|.arg 0).holds [] {args:=[.list<|ns.map .int]}=true:=by
   have h4:=(holds_andW hc).1;rwa[hn]at h4
  have h5:=condW_of h4<|w_not<|w_lt w_lit<|w_len_list<|w_arg rfl;rw[Aa]at h5;refine Nat.le_of_not_lt λq=>?_;have q':(n:Int) < ((ns.length:Nat):Int):=⋯
  first
   | (rw[BW q']at h5;exact absurd h5<|∅)
   | (simp at h5;omega)
 cases vt with
 | cons w1 w2=>
  cases w2;cases w1 with
  | list ho iH=>exact⟨_,_,ns,rfl,rfl,ho,ZD ns _ iH,hlen⟩
def ZG(l:OpenLaw)(args:List WData):l.row.toRowW.claim.post args (.bool true) args=true:=
 postW_of
  (show WShape.has [] (.bool true) .bool=true by first | rfl | decide | simp[WShape.has,WShape.arms,WShape.armsAll])
  (show(WTm.eq .res<|.lit<|.bool true).value [] {args:=args,res:=some<|.bool true,after:=args}=some (.bool<|true == true)from w_eq_bool (w_res rfl) w_lit) rfl
variable{YP:World->Heap->Prop}{XP:Ñ->Heap->Prop}{loose:Ð}
def gX{q:Program}{d:DefRec}
  (hn:l.most≈n) (mY:d.params.defaults=[])
  (call : ∀ (w : World) (æ À : Shared) (mg mb : Str → Option Value) (fa : Addr) (o : Obj) (pm cd doc : Value) (a : Addr) (vs : List Value) (ns : List Int),
   Ground q loose [] XP w æ mg mb À.heap->YP w À.heap ->
   À.heap.get? fa≈o->o.data = .func (docDef d.name d.params d.body d.scope pm cd doc)->À.heap.CodeRec cd d.name->mg d.name=some (.ref fa) ->
   À.heap.get? a=some {cls:= .type "list",data:= .seq vs.toArray}->IntsAre vs ns->ns.length<=n->À.gens=#[] ->
   codeAny (model l.prog w) callerA (.call (.ref fa) ⟨[.ref a],[]⟩) (λr s'=>r = .ok (.ret<|.bool true)/\OldK À.heap s'.heap/\s'.os=À.os/\AllBare s'.gens) À) :
  WalkO q loose XP YP l.row.toRowW d [] (λf vs=>PySem.call f vs):=by
 intro w æ À mg mb G ý fa o pm cd doc dV kV ho hd i4 hD vw hg args vals as mX hlay hrd vt hlo;obtain rfl:dV = .none:=Dflts.none hD mY;obtain rfl:kV = .none:=Dflts.noKw hD;obtain⟨a,vs,ns,rfl,rfl,iI,hints,hlen⟩:=ZE hn mX vt;refine enter_call<|JQ (call w æ À mg mb fa o pm cd doc a vs ns G ý ho (fd_plain hd) i4 vw iI hints hlen hg) λr s' hq=>?_;obtain⟨rfl,h2,h3,h4⟩:=hq;exact⟨.inl ⟨.bool true,.bool true,[],rfl,λ_=>rfl,.bool true,ZG l _,λ_=>⟨List.Pairwise.nil,λ_ hm=>(nomatch hm)⟩⟩,h2,h3,h4⟩
variable{E:Í}{U:Program}
end Pk
namespace L2
open PySem PySem.Spec PyProof.Rows
theorem Pn:∀{vs}{ns},IntsAre vs ns->ay (ns.map V.int) vs
 | _,_,.nil=> .nil
 | _,_,.cons n t h=> .cons ⟨t,rfl⟩<|Pn h
def Only(H:Hp):Prop:=∀ b,H b=none\/∃ o xs,H b=some (.b7 o<|.lst xs)
variable{ns:List Int}{À:Shared}{sp:Sp}{x:Str}{fd:FuncData}{fa a:Addr}{CX:lT}{mg:Ñ}{K:PySem.W.Frag}{w:World}{P:Program}
theorem ZH{mb:Ñ}{k:Nat}{vs:Ò}
  (KX:K.In À.heap) (y4:À.heap.Ns mainGlobals mg) (hb:À.heap.Ns builtinsNs mb) (ZI:∀ x:Str,x ≠ "__name__"->mb x=bootBuiltins x) (E':À.heap.NoLimit) (hg:À.gens=#[])
  (ha:À.heap.get? a=some {cls:= .type "list",data:= .seq vs.toArray}) (hi:IntsAre vs ns) (hl:ns.length<=sizeLine) (hr:bH k callerA)
  (F:∀ Z:Heap,K.In Z->Z.Ns mainGlobals mg->aE P w K mg Z CX k fa fd [x] sp) (vx:∀(s:Shared) (u:Value),BindsTo s fd ⟨[u],[]⟩ [(x,u)])
  (eS:∀ H:Hp,Only H->au K H a (ns.map V.int)->sp [.ref a] H (λv _=>v = .bl true) λ_ _ _=>False)
  (FA:∀ H e s',CX [] H À (λ_ _ _=>False) e s'->False) :
  codeAny (model P w) callerA (.call (.ref fa) ⟨[.ref a],[]⟩) (λr s'=>r = .ok (.ret<|.bool true)/\OldK À.heap s'.heap/\s'.os=À.os/\AllBare s'.gens) À:=by
 have rv:=Pn hi;have FC:=hi.length;have core:∀ H:Hp,Only H->au K H a (ns.map V.int)->cn P w H À.heap->(∀ b,H b≠none->b=a)->(H a≠none->K.lookup a=none) ->
   codeAny (model P w) callerA (.call (.ref fa) ⟨[.ref a],[]⟩) (λr s'=>r = .ok (.ret<|.bool true)/\OldK À.heap s'.heap/\s'.os=À.os/\AllBare s'.gens) À:=by
  intro H hO hS aH hA hK;have i7:∀{b:Addr} {o:Obj},À.heap.get? b≈o->H b=none->(fU À.heap H).get? b≈o:=λe n=>XO e n;have vf:∀{b:Addr} {o:Obj} {es:Array DictEntry} {ep:Nat},À.heap.get? b≈o->o.data = .dict es ep->H b=none:=λ{b o es ep} e d=>by
   cases q:H b with
   | none=>rfl
   | some u=>
    have e':b=a:=hA b (by rw[q];simp);subst e';rw[ha]at e;cases e;have d':Data.seq vs.toArray _=Data.dict es ep:=d;cases d'
  have y7:∀{b:Addr} {m:Ñ},À.heap.Ns b m->(fU À.heap H).Ns b m:=λ{b m} ⟨o,es,ep,e,d,r⟩=>⟨o,es,ep,i7 e<|vf e d,d,r⟩;have Pp:K.In (fU À.heap H):=λb o e=>i7 (KX b o e)<|by
   cases q:H b with
   | none=>rfl
   | some u=>
    have e':b=a:=hA b (by rw[q];simp);subst e';rw[hK<|by rw[q];simp]at e;cases e
  have hM:Mod K mg (fU À.heap H):=⟨Pp,y7 y4,⟨mb,y7 hb,ZI⟩,let ⟨mc,h1,h2⟩:=E';⟨mc,y7 h1,h2⟩⟩;have e0:mR P w K mg (fU À.heap H) callerA [] À H:=⟨rfl,hM,λb o e=>XQ e,Nat.le_of_eq<|XN _ _,trivial,λb hb=>absurd (show b∈([]:↥9)from hb) (by simp),aH,.of_eq hg⟩;refine JQ ((F _ Pp<|y7 y4).run callerA [] À H ⟨[.ref a],[]⟩ [.ref a] [.ref a] _ _ hr e0 (vx À<|.ref a) (.cons rfl .nil)<|eS H hO hS) λr s' h=>?_;cases r with
  | error e=>exact(FA H e s' h).elim
  | ok fl=>
   cases fl with
   | next=>exact False.elim h
   | brk=>exact False.elim h
   | cont=>exact False.elim h
   | ret u=>
    obtain⟨v,H',os,bare,un,FD,r',q⟩:=h;have q':v = .bl true:=q;subst q';obtain rfl:u=Value.bool true:=r';refine⟨rfl,OldK.of_keep λb o e=>?_,os,bare⟩;cases q:H b with
    | none=>exact un.keep b o e q (by intro z;exact absurd (show b∈([]:↥9)from z)<|by simp)<|by simp
    | some u=>
     rcases hO b with z | ⟨ob,xs,z⟩
     ·rw[q]at z;cases z
     ·have z2:=un.fc b ob _ z;obtain⟨e1,_⟩:=aH b _ z;obtain⟨e2,_⟩:=FD b _ z2;rw[e]at e1;cases e1;exact e2
 cases hk:K.lookup a with
 | some o=>
  have e:=KX a o hk;rw[ha]at e;cases e;refine core (λ_=>none) (λ_=> .inl rfl) (.inr ⟨_,vs.toArray,_,hk,rfl,rfl,rfl,by rwa[Ay,FC],rv⁻¹⟩) (λb u z=>by have z':(none:Option HO)≈u:=z;cases z') (λb z=>absurd rfl z) λz=>absurd rfl z
 | none=>
  refine core (λb=>if b=a then some (.b7 {cls:= .type "list",data:= .seq vs.toArray}<|.lst<|ns.map V.int)else none) (λb=>?_) (.inl<|.inr ⟨{cls:= .type "list",data:= .seq vs.toArray},BP rfl⟩) (λb u z=>?_) (λb z=>?_) λ_=>hk
  ·by_cases hb:b=a
   ·exact .inr ⟨_,_,BP hb⟩
   ·exact .inl<|BL hb
  ·by_cases hb:b=a
   ·have z':=(BP hb).symm.trans z;cases z';subst hb;exact⟨ha,by rwa[Aa],vs,_,rv,ha⟩
   ·have z':=(BL hb).symm.trans z;cases z'
  ·by_cases hb:b=a
   ·exact hb
   ·exact absurd (BL hb) z
variable{YP:World->Heap->Prop}{XP:Ñ->Heap->Prop}{loose:Ð}{n:Nat}{l:PySem.W.OpenLaw}
def mZ{k:Nat}{q:Program}{d:DefRec}{K:Params->PySem.W.Frag}{CX:World->lT}{sp:World->Sp}
  (hn:l.most≈n) (FE:n<=sizeLine) (mY:d.params.defaults=[]) (hr:bH k callerA)
  (hY:∀(w:World) (h:Heap),YP w h->(K w.params).In h)
  (F : ∀ (w : World) (mg : Str → Option Value) (fa : Addr) (h : Heap), (K w.params).In h → h.Ns mainGlobals mg → mg d.name = some (.ref fa) →
   ∃ fd:FuncData,(∀(s:Shared) (u:Value),BindsTo s fd ⟨[u],[]⟩ [(x,u)]) /\
    ∀ Z:Heap,(K w.params).In Z->Z.Ns mainGlobals mg->aE l.prog w (K w.params) mg Z (CX w) k fa fd [x] (sp w))
  (eS:∀(w:World) (H:Hp) (a:Addr) (ns:List Int),ns.length<=n->Only H->au (K w.params) H a (ns.map V.int)->sp w [.ref a] H (λv _=>v = .bl true) λ_ _ _=>False)
  (FA:∀(w:World) (H:Hp) (s:Shared) (e:Value) (s':Shared),CX w [] H s (λ_ _ _=>False) e s'->False) :
  PySem.W.WalkO q loose XP YP l.row.toRowW d [] (λf vs=>PySem.call f vs):=by
 refine Pk.gX hn mY λw æ À mg mb fa o pm cd doc a vs ns G ý ho hd i4 vw iI hints hlen hg=>?_;have KX:=hY w _ ý;obtain⟨fd,hb,hF⟩:=F w mg fa _ KX G.T.g vw;exact ZH KX G.T.g G.T.b G.T.builtins G.T.nolimit hg iI hints (Ch hlen FE) hr hF hb (λH hO hS=>eS w H a ns hlen hO hS) λH e s'=>FA w H À e s'
def lV(s:Stmt):Arguments:=match s with
 | .FunctionDef _ a _ _ _ _ _ _ _ _=>a
 | _=>{posonlyargs:=[],args:=[],vararg:=none,kwonlyargs:=[],kw_defaults:=[],kwarg:=none,defaults:=[]}
def gY(s:Stmt):Ô:=match s with
 | .FunctionDef _ _ b _ _ _ _ _ _ _=>b
 | _=>[]
def aW(s:Stmt):Scope:=match s with
 | .FunctionDef _ _ _ _ _ _ sc _ _ _=>sc
 | _=>{kind:= .function,names:=[],isGenerator:=false,isCoroutine:=false}
abbrev bK:lT:=λ_ _ _ _ _ _=>False
abbrev E0:XK:=λ_ _ _=>False
variable{X:Cx}
def kG:mU bK X E0:=λ_ _ _ _ _ _ _ h=>h.elim
structure bB(K:PySem.W.Frag)(x qual:Str)(st:Stmt)(f:Addr)(fd:FuncData):Prop where
 ex:∃oc od kV doc pm an bL ct lU,
  fd=PySem.W.fnOf x qual (lV st) (gY st) (aW st) .none kV doc pm an bL ct/\K.lookup f=some ⟨oc,od,.func fd,lU⟩/\PySem.W.codeIn K bL qual=true
 kp:PySem.W.keepIn K (.ref f)=true
variable{Z:Heap}{ps:Ð}{f:Addr}{st:Stmt}{qual:Str}{lU:Array (Option Value)}{oc:Value}
def bB.ok{N:Ð}{k:Nat}(F:bB K x qual st f fd)(S:ak N ps<|aW st)(len:∀ vs H Q E,sp vs H Q E->vs.length=ps.length)
  (cF : ∀bL A outer s H vs Q E, bH k (A.deeper<|envOfC qual (aW st) ↑s f bL) → sp vs H Q E →
   ∃ t,jz (dv bK P w K mg Z N qual (aW st) f bL A outer s H E).sW (gY st) t/\t {nx:=λ_ H'=>Q .non H',rt:=Q} (start N vs) H):↥4 (k+1) f fd ps sp:=by
 obtain⟨oc,od,kV,doc,pm,an,bL,ct,lU,rfl,lk,i4⟩:=F.ex;refine O5 lk i4 S len λA outer s H vs Q E hr eS=>?_;obtain⟨t,h,q⟩:=cF bL A outer s H vs Q E hr eS;exact⟨t,h.sW,q⟩
def bB.binds(F:bB K x qual st f fd)
  (h:∀kV doc pm an bL ct us,us.length=ps.length->bindArgs (PySem.W.fnOf x qual (lV st) (gY st) (aW st) .none kV doc pm an bL ct) ⟨us,[]⟩=pure (ps.zip us)):Binds K fd ps []:=by
 obtain⟨oc,od,kV,doc,pm,an,bL,ct,lU,rfl,lk,i4⟩:=F.ex;exact .all<|h kV doc pm an bL ct
def ZJ{od an:Option Addr}{kV doc pm bL ct:Value}(l:K.lookup f=some ⟨oc,od,.func<|PySem.W.fnOf x qual (lV st) (gY st) (aW st) .none kV doc pm an bL ct,lU⟩)
  (c:PySem.W.codeIn K bL qual=true) (k:PySem.W.keepIn K (.ref f)=true):bB K x qual st f (PySem.W.fnOf x qual (lV st) (gY st) (aW st) .none kV doc pm an bL ct):=⟨⟨oc,od,kV,doc,pm,an,bL,ct,lU,rfl,l,c⟩,k⟩
def bR{A B:Prop}(h:B):if false=true then A else B:=by
 rwa[BL Aw]
def cv{A B:Prop}(h:A):if true=true then A else B:=by
 rwa[BP rfl]
def jC{c A B:Prop} [Decidable c] (h1:c->A) (h2:¬ c->B):if c then A else B:=by
 by_cases h:c
 ·rw[BP h];exact h1 h
 ·rw[BL h];exact h2 h
def aj(H H':Hp):Prop:=∀ b o,H b≈o->H' b≈o
def aj.refl(H:Hp):aj H H:=λ_ _ h=>h
variable{H H2:Hp}
def aj.trans{H1:Hp}(a:aj H H1)(b:aj H1 H2):aj H H2:=λc o h=>b c o<|a c o h
variable{H':Hp}
theorem aj.free(e:aj H H'){l:Addr}(h:H' l=Option.none):H l=Option.none:=by
 cases q:H l with
 | none=>rfl
 | some o=>
  rw[e l o q]at h;cases h
def aj.seq{xs:List V}(e:aj H H')(h:au K H a xs):au K H' a xs:=by
 rcases h with (h | ⟨o,h⟩) | h
 ·exact .inl<|.inl<|e _ _ h
 ·exact .inl<|.inr ⟨o,e _ _ h⟩
 ·exact .inr h
variable{o:Option V}{u:Value}{y:V}
section
variable{κ:Type} [DecidableEq κ]
def aF(Y:List<|κ×V)(k:κ):Option V:=(Y.find? λkv=>decide (kv.1=k)).map (·.2)
def putK(Y:List<|κ×V)(k:κ)(v:V):List (κ×V):=
 if(Y.any λkv=>decide (kv.1=k))=true then Y.map (λkv=>if kv.1=k then(kv.1,v)else kv)else Y++[(k,v)]
def iJ{p:κ×V}{r:List (κ×V)}{k:κ}(e:p.1=k):aF (p :: r) k≈p.2:=by simp[aF,Fm,e]
def iw{p:κ×V}{r:List (κ×V)}{k:κ}(e:¬ p.1=k):aF (p :: r) k=aF r k:=by simp[aF,Fm,e]
theorem tE(k:κ):∀ Y:List<|κ×V,(Y.any λkv=>decide (kv.1=k))=(aF Y k).isSome
 | []=>rfl
 | p :: r=>by
  rw[Gf]
  by_cases e:p.1=k
  ·simp only[iJ e,BW e,Bool.true_or,Option.isSome_some]
  ·rw[iw e,BR e,Bool.false_or];exact tE k r
theorem Pq(k j:κ)(y:V):∀ Y:List<|κ×V,aF (Y.map λkv=>if kv.1=k then(kv.1,y)else kv) j=(aF Y j).map λx=>if j=k then y else x
 | []=>rfl
 | p :: r=>by
  have ih:=Pq k j y r;rw[Ba]
  by_cases h:p.1=k
  ·rw[BP h]
   by_cases e:p.1=j
   ·rw[iJ (p:=(p.1,y)) e,iJ e,Hh,BP<|e.symm.trans h]
   ·rw[iw (p:=(p.1,y)) e,iw e,ih]
  ·rw[BL h]
   by_cases e:p.1=j
   ·rw[iJ e,iJ e,Hh,BL λz=>h<|e.trans z]
   ·rw[iw e,iw e,ih]
theorem Pt(k j:κ)(y:V):∀ Y:List<|κ×V,aF Y k=none->aF (Y++[(k,y)]) j=if j=k then some y else aF Y j
 | [],_=>by
  by_cases e:k=j
  ·rw[BP e.symm];exact iJ (p:=(k,y)) e
  ·rw[BL λz=>e z.symm];exact iw (p:=(k,y)) e
 | p :: r,hn=>by
  rw[Fz];have hk:¬ p.1=k:=λz=>by rw[iJ z]at hn;cases hn
  rw[iw hk]at hn;have ih:=Pt k j y r hn
  by_cases e:p.1=j
  ·rw[iJ e,iJ e,BL λz=>hk<|e.trans z]
  ·rw[iw e,iw e,ih]
def d8(Y:List<|κ×V)(k j:κ)(y:V):aF (putK Y k y) j=if j=k then some y else aF Y j:=by
 unfold putK
 by_cases a:(Y.any λkv=>decide (kv.1=k))=true
 ·rw[BP a,Pq];rw[tE]at a
  by_cases e:j=k
  ·obtain⟨x,hx⟩:=Fa.mp a;rw[BP e,e,hx,Hh,BP rfl]
  ·rw[BL e];cases aF Y j with
   | none=>rfl
   | some x=>rw[Hh,BL e]
 ·rw[BL a];refine Pt k j y Y ?_;rw[tE]at a;cases q:aF Y k with
  | none=>rfl
  | some x=>rw[q]at a;exact(a rfl).elim
theorem jD(Y:List<|κ×V)(k:κ)(v:V):(putK Y k v).length<=Y.length+1:=by
 unfold putK
 split
 ·rw[Aa];omega
 ·rw[Ag,As,Er];omega
def Pu{Y:List (κ×V)}{k:κ}(v:V)(h:aF Y k=none):putK Y k v=Y++[(k,v)]:=by
 unfold putK;rw[tE,h];exact BL<|∅
theorem d3.b9{u:Option Value}(r:d3 o u):o.isSome=u.isSome:=by
 cases o with
 | none=>cases u with
  | none=>rfl
  | some _=>exact(show False from r).elim
 | some _=>cases u with
  | none=>exact(show False from r).elim
  | some _=>rfl
theorem KV.val{Y:List (κ×V)}{vs:List (κ×Value)}(r:KV Y vs)(k:κ):d3 (aF Y k) (valueAt vs k):=by
 unfold KV at r
 induction r with
 | nil=>exact True.intro
 | @cons p q ps qs h t ih=>
  obtain⟨h1,h2⟩:=h
  by_cases e:p.1=k
  ·have e':=h1.symm.trans e;have b:valueAt (q :: qs) k≈q.2:=by simp[valueAt,Fm,e']
   rwa[iJ e,b]
  ·have e':¬ q.1=k:=λz=>e<|h1.trans z;have b:valueAt (q :: qs) k=valueAt qs k:=by simp[valueAt,Fm,e']
   rwa[iw e,b]
theorem KV.any{Y:List (κ×V)}{vs:List (κ×Value)}(r:KV Y vs)(k:κ):(Y.any λkv=>decide (kv.1=k))=vs.any λkv=>decide (kv.1=k):=by
 unfold KV at r
 induction r with
 | nil=>rfl
 | cons h t ih=>rw[Gf,Gf,ih,h.1]
theorem KV.repl{Y:List (κ×V)}{vs:List (κ×Value)}(r:KV Y vs)(k:κ)(ry:RelV y u) :
  KV (Y.map λkv=>if kv.1=k then(kv.1,y)else kv) (vs.map λkv=>if kv.1=k then(kv.1,u)else kv):=by
 unfold KV at r ⊢
 induction r with
 | nil=>exact .nil
 | @cons p q ps qs h t ih=>
  rw[Ba,Ba];refine .cons ?_ ih;obtain⟨h1,h2⟩:=h
  by_cases e:p.1=k
  ·rw[BP e,BP<|h1.symm.trans e];exact⟨h1,ry⟩
  ·rw[BL e,BL λz=>e<|h1.trans z];exact⟨h1,h2⟩
def KV.put{Y:List (κ×V)}{vs:List (κ×Value)}(r:KV Y vs)(k:κ)(ry:RelV y u):KV (putK Y k y) (stored vs k u):=by
 unfold putK stored;rw[r.any k]
 by_cases e:(vs.any λkv=>decide (kv.1=k))=true
 ·rw[BP e,BP e];exact r.repl k ry
 ·rw[BL e,BL e];exact Paired.snoc r ⟨rfl,ry⟩
theorem KV.keys{Y:List (κ×V)}{vs:List (κ×Value)}(r:KV Y vs):Y.map (·.1)=vs.map (·.1):=by
 unfold KV at r
 induction r with
 | nil=>rfl
 | cons h t ih=>rw[Ba,Ba,ih,h.1]
def KV.length{Y:List (κ×V)}{vs:List (κ×Value)}(r:KV Y vs):Y.length=vs.length:=Paired.length r
end
theorem oJ{k:Key}(r:RelV (kV k) u):(bX P w).is k u=true:=by
 cases k with
 | inl i=>obtain⟨t,e⟩:=(show ∃ t,u=Value.int i t from r);subst e;exact XI P w i t
 | inr x=>obtain⟨t,e⟩:=(show ∃ t,u=Value.str x t from r);subst e;exact XJ P w x t
theorem Pw{P:Program}{w:World}:∀{ks}{us},ay (ks.map kV) us->ItemsAre (bX P w) ks us
 | [],_,r=>by rw[List.map_nil]at r;cases r;exact .nil
 | k :: ks,_,r=>by
  rw[Ba]at r;cases r with
  | cons h t=>exact .cons (oJ h)<|Pw t
abbrev KT(H:Hp):List (List Key×V)->List (List Key×Addr×Value)->Prop:=Paired λp q=>p.1=q.1/\H q.2.1=some (.tup<|p.1.map kV)/\RelV p.2 q.2.2
variable{xs:List (List Key×Addr×Value)}{Y:List (List Key×V)}
theorem KT.val(r:KT H Y xs)(k:List Key):d3 (aF Y k) ((atKey xs k).map (·.2)):=by
 induction r with
 | nil=>exact True.intro
 | @cons p q ps qs h t ih=>
  obtain⟨h1,_,h2⟩:=h
  by_cases e:p.1=k
  ·have e':=h1.symm.trans e;have b:atKey (q :: qs) k≈q.2:=by simp[atKey,Fm,e']
   rwa[iJ e,b]
  ·have e':¬ q.1=k:=λz=>e<|h1.trans z;have b:atKey (q :: qs) k=atKey qs k:=by simp[atKey,Fm,e']
   rwa[iw e,b]
theorem KT.repl(r:KT H Y xs)(k:List Key)(ry:RelV y u) :
  KT H (Y.map λkv=>if kv.1=k then(kv.1,y)else kv) (xs.map<|putAt k u):=by
 induction r with
 | nil=>exact .nil
 | @cons p q ps qs h t ih=>
  rw[Ba,Ba];refine .cons ?_ ih;obtain⟨h1,h2,h3⟩:=h;unfold putAt
  by_cases e:p.1=k
  ·rw[BP e,BP<|h1.symm.trans e];exact⟨h1,h2,ry⟩
  ·rw[BL e,BL λz=>e<|h1.trans z];exact⟨h1,h2,h3⟩
variable{b:Addr}
def KT.put(r:KT H Y xs)(k:List Key)(hb:H b=some (.tup<|k.map kV))(ry:RelV y u) :
  KT H (putK Y k y) (storedH xs k b u):=by
 have e:(Y.any λkv=>decide (kv.1=k))=(atKey xs k).isSome:=by
  rw[tE,(r.val k).b9,RK]
 unfold putK storedH;rw[e]
 by_cases q:(atKey xs k).isSome=true
 ·rw[BP q,BP q];exact r.repl k ry
 ·rw[BL q,BL q];exact Paired.snoc r ⟨rfl,hb,ry⟩
def KT.keeps(r:KT H Y xs)(ht:∀ b ys,H b≈.tup ys->H' b≈.tup ys):KT H' Y xs:=
 Paired.pU r λ_ _ z=>⟨z.1,ht _ _ z.2.1,z.2.2⟩
variable{h:Heap}{ks:List Key}
def Px{u:HO}(ok:cn P w H h)(e:Rd H a u):aB P w H h a u:=e.ok ok
def tF{Y:List (Key×V)}(ok:cn P w H h)(e:Rd H a<|.dK Y):Y.length<=sizeLine/\(a == sysModules)=false/\∃ vs,KV Y vs/\h.DictOf (bX P w) a vs:=
 show aB P w H h a (.dK Y)from Px ok e
def vy{Y:List (Key×V)}(ok:cn P w H h)(e:H a≈.dK Y):Y.length<=sizeLine/\(a == sysModules)=false/\∃ vs,KV Y vs/\h.DictOf (bX P w) a vs:=tF ok<|.inl e
def lW(ok:cn P w H h)(e:H a=some (.tup<|ks.map kV)):(tupleKind<|bX P w).is h ks a:=by
 obtain⟨_,è,r,o,h1,h2,n,h3⟩:=(show aB P w H h a (.tup<|ks.map kV)from ok a _ e);exact⟨o,è.toArray,n,h1,h2,h3,by simpa using Pw r⟩
def vz(ok:cn P w H h)(e:Rd H a<|.dT Y):Y.length<=sizeLine/\(a == sysModules)=false /\
  ∃ xs,KT H Y xs/\h.DictOfH (tupleKind<|bX P w) a xs:=by
 obtain⟨z,y,xs,r,o,es,ep,h1,h2,h3,h4,h5⟩:=(show aB P w H h a (.dT Y)from Px ok e);refine⟨z,y,xs,r,o,es,ep,h1,h2,h3,h4,λx hx=>?_,h5⟩;have all:∀{l}{m},KT H l m->∀ x∈m,(tupleKind<|bX P w).is h x.1 x.2.1:=by
  intro l m q
  induction q with
  | nil=>intro x hx;exact nomatch hx
  | @cons p q ps qs hq t ih=>
   intro x hx
   rcases Ai.mp hx with e | hx
   ·subst e;exact lW ok<|by rw[<- hq.1];exact hq.2.1
   ·exact ih x hx
 exact all r x hx
def Py(ok:cn P w H h)(e:H a≈.dT Y):Y.length<=sizeLine/\(a == sysModules)=false /\
  ∃ xs,KT H Y xs/\h.DictOfH (tupleKind<|bX P w) a xs:=vz ok<|.inl e
def bb(H:Hp)(a:Addr)(y:V)(r:Option V):Prop:=
 (∃ Y k,Rd H a (.dK Y)/\y=kV k/\r=aF Y k)\/∃ Y k b,Rd H a (.dT Y)/\y = .ref b/\H b=some (.tup<|k.map kV)/\r=aF Y k
def cw(H:Hp)(a:Addr)(y v:V)(H':Hp):Prop:=
 (∃ Y k,H a≈.dK Y/\y=kV k/\Y.length < sizeLine/\H'=upd H a (.dK<|putK Y k v)) \/
 ∃ Y k b,H a≈.dT Y/\y = .ref b/\H b=some (.tup<|k.map kV)/\Y.length < sizeLine/\H'=upd H a (.dT<|putK Y k v)
def bb.k{H:Hp}{a:Addr}{Y:List (Key×V)}{k:Key}(e:H a≈.dK Y):bb H a (kV k) (aF Y k):= .inl ⟨Y,k,.inl e,rfl,rfl⟩
def bb.t{k:List Key}(e:H a≈.dT Y)(eb:H b=some (.tup<|k.map kV)):bb H a (.ref b) (aF Y k):= .inr ⟨Y,k,b,.inl e,rfl,eb,rfl⟩
def cw.k{H:Hp}{a:Addr}{Y:List (Key×V)}{k:Key}{v:V}(e:H a≈.dK Y)(hl:Y.length < sizeLine):cw H a (kV k) v (upd H a<|.dK<|putK Y k v):= .inl ⟨Y,k,e,rfl,hl,rfl⟩
variable{v:V}
def cw.t{k:List Key}(e:H a≈.dT Y)(eb:H b=some (.tup<|k.map kV))(hl:Y.length < sizeLine) :
  cw H a (.ref b) v (upd H a<|.dT<|putK Y k v):= .inr ⟨Y,k,b,e,rfl,eb,hl,rfl⟩
variable{E Q:Í}{A:Around}{s:Shared}{σ:St}{O:Ï}{t':Nat}{h':Heap}{vs:List (Key×Value)}
section
variable{r:Value}
def Inv.big(I:↥3):sysModules < ↑s:=by
 have h:=(I.mod.glob.keeps I.bk).lt;exact VL ∅ h
def ZK(hu:A.units+1 < cLine)(I:↥3)(g:bb H a y<|some v)(ry:RelV y u)(h:∀ w' s',Inv X O σ H s'->RelV v w'->Q w' s') :
  wpAny (model X.U X.w) A (getItem (.ref a) u) Q E s:=by
 rcases g with ⟨Y,k,e,ey,l⟩ | ⟨Y,k,b,e,ey,eb,l⟩
 ·subst ey;obtain⟨z,hd,vs,rel,dd⟩:=tF I.aH e;obtain⟨w',hw,gF⟩:=d3.some_of (by rw[l];exact rel.val k);exact wpAny_getItem_of (oJ ry) dd.mapOf hw<|h w' _ (I.tok _) gF
 ·subst ey;cases (show u=Value.ref b from ry);obtain⟨z,hd,xs,rel,dd⟩:=vz I.aH e;obtain⟨w',hw,gF⟩:=d3.some_of (by rw[l];exact rel.val k);obtain⟨p,hp,m4⟩:=Az.mp hw;refine wpAny_getItem_heap (FW hu) (lW I.aH eb) dd hp ?_;rw[m4];exact h w' _ (I.tok _) gF
def FG(hu:A.units+1 < cLine)(I:↥3)(g:bb H a y o)(ry:RelV y u)(h:∀ s',Inv X O σ H s'->Q (.bool o.isSome) s') :
  wpAny (model X.U X.w) A (compareOp .In u<|.ref a) Q E s:=by
 rcases g with ⟨Y,k,e,ey,l⟩ | ⟨Y,k,b,e,ey,eb,l⟩
 ·subst ey;obtain⟨z,hd,vs,rel,dd⟩:=tF I.aH e;refine wpAny_in_of (oJ ry) hd dd.mapOf ?_;rw[<- (rel.val k).b9,<- l];exact h _<|I.tok _
 ·subst ey;cases (show u=Value.ref b from ry);obtain⟨z,hd,xs,rel,dd⟩:=vz I.aH e;refine wpAny_in_heap (FW hu) (lW I.aH eb) hd dd ?_;have q:=(rel.val k).b9;rw[RK]at q;rw[<- q,<- l];exact h _<|I.tok _
def ZL(hu:A.units+1 < cLine)(I:↥3)(g:bb H a y o)(ry:RelV y u)(h:∀ s',Inv X O σ H s'->Q (.bool (!o.isSome)) s') :
  wpAny (model X.U X.w) A (compareOp .NotIn u<|.ref a) Q E s:=by
 rcases g with ⟨Y,k,e,ey,l⟩ | ⟨Y,k,b,e,ey,eb,l⟩
 ·subst ey;obtain⟨z,hd,vs,rel,dd⟩:=tF I.aH e;refine wpAny_notIn_of (oJ ry) hd dd.mapOf ?_;rw[<- (rel.val k).b9,<- l];exact h _<|I.tok _
 ·subst ey;cases (show u=Value.ref b from ry);obtain⟨z,hd,xs,rel,dd⟩:=vz I.aH e;refine wpAny_notIn_heap (FW hu) (lW I.aH eb) hd dd ?_;have q:=(rel.val k).b9;rw[RK]at q;rw[<- q,<- l];exact h _<|I.tok _
def lX{ob:HO}(I:↥3)(mu:uO<|H a)(hs:Heap.SameBut a s.heap h')(he:∃ q,h'.get? a≈q)(new:aB X.U X.w (upd H a ob) h' a ob) :
  Inv X O σ (upd H a ob) {s with heap:=h',toks:=t'}:=
 I.write mu (.inl rfl) (λb q hb z=>(hs.2 b hb).trans z) he new
def FH{Y:List (Key×V)}(z:Y.length<=sizeLine)(hd:(a == sysModules)=false)(rel:KV Y vs)(dd:h'.DictOf (bX P w) a vs) :
  aB P w H' h' a (.dK Y):=⟨z,hd,vs,rel,dd⟩
theorem ZM{Q:Unit->Shared->Prop}(hu:A.units+1 < cLine)(I:↥3)(g:cw H a y v H')(ry:RelV y u)(rv:RelV v r)(h:∀ s',Inv X O σ H' s'->Q () s') :
  wpAny (model X.U X.w) A (setItem (.ref a) u r) Q E s:=by
 rcases g with ⟨Y,k,e,ey,l,eH⟩ | ⟨Y,k,b,e,ey,eb,l,eH⟩
 ·subst ey eH;obtain⟨z,hd,vs,rel,dd⟩:=vy I.aH e;have hz:vs.length<=sizeLine:=by rwa[<- rel.length]
  have hl:(putK Y k v).length<=sizeLine:=by have:=jD Y k v;omega
  refine wpAny_setItem_pairs (oJ ry) dd λh' j5 hs=>h _ ?_;have he:∃ q,h'.get? a≈q:=let ⟨q,_,_,hq,_⟩:=j5;⟨q,hq⟩
  exact lX I (by rw[e];exact True.intro) hs he<|FH hl hd (rel.put k rv) j5
 ·subst ey eH;cases (show u=Value.ref b from ry);obtain⟨z,hd,xs,rel,dd⟩:=Py I.aH e;have hz:xs.length<=sizeLine:=by rwa[<- Paired.length rel]
  have hl:(putK Y k v).length<=sizeLine:=by have:=jD Y k v;omega
  refine wpAny_setItem_heap (FW hu) (lW I.aH eb) dd λh' j5 hs=>h _ ?_;obtain⟨q,es,ep,hq,h2,h3,h4,_,h5⟩:=j5;refine lX I (by rw[e];exact True.intro) hs ⟨q,hq⟩ ⟨hl,hd,_,(rel.put k eb rv).keeps λc ys ec=>?_,q,es,ep,hq,h2,h3,h4,h5⟩;rwa[aw<|cf ec e λz=>nomatch z]
end
def qg(i:Expr):Prop:=∀ ov iv,subscripted i false ov iv=operate [ov,iv] (getItem ov iv)
variable{value:Expr}{env:Env}{U:Program}
def ZN{slice:Expr}{pos:Pos}{T id:String}
  (hl:typeLookup (.type T) "__getitem__" = pure (some<|.builtin id)) (hs:qg slice)
  (h:↥1 (eval value env) (λo À=>↥1 (eval slice env) (λi Á=>Á.TypeIs o T/\↥1 (getItem o i) Q E Á) E À) E s) :
  ↥1 (eval (.Subscript value slice pos) env) Q E s:=by
 refine Subscript_<|CW h (λo À h₁=>CW h₁ (λi Á Ä=>?_) λ_ _ x=>x) λ_ _ x=>x;obtain⟨hT,Ä⟩:=Ä;unfold subscriptTail;refine BJ ?_;rw[getitemInPython_of_ne hT.not_modules];refine BJ<|KH hT hl ?_;have fin:↥1 (subscripted slice false o i) (λr Â=>↥1 (letTemporaryGo value o r >>= λ_=>pure r) Q E Â) E Á:=by
  rw[hs o i];exact wpAny_operating<|CW Ä (λr Â Å=>BJ<|wpAny_letTemporaryGo<|BK Å) λ_ _ x=>x
 first
  | exact BK<|BJ fin
  | exact BJ<|BK<|BJ fin
  | exact BJ fin
def ZO(I:↥3)(g:bb H a y o):s.TypeIs (.ref a) "dict":=by
 rcases g with ⟨Y,k,e,_,_⟩ | ⟨Y,k,b,e,_,_,_⟩
 ·obtain⟨_,_,vs,_,dd⟩:=tF I.aH e;exact dd.typeIs
 ·obtain⟨_,_,xs,_,dd⟩:=vz I.aH e;exact dd.typeIs
def ZP(td ty:TE):TE:=λσ H Q=>td σ H λx H1=>ty σ H1 λy H2=>∃ a v,x = .ref a/\bb H2 a y (some v)/\Q v H2
def FI(ty td:TE):TE:=λσ H Q=>ty σ H λy H1=>td σ H1 λx H2=>∃ a o,x = .ref a/\bb H2 a y o/\Q (.bl o.isSome) H2
def ZQ(ty td:TE):TE:=λσ H Q=>ty σ H λy H1=>td σ H1 λx H2=>∃ a o,x = .ref a/\bb H2 a y o/\Q (.bl (!o.isSome)) H2
def ZR(td ty tv:TE):TS:=λD σ H=>tv σ H λv H1=>td σ H1 λx H2=>ty σ H2 λy H3=>∃ a H4,x = .ref a/\cw H3 a y v H4/\D.nx σ H4
variable{pos':Pos}{e:Expr}
section
variable{o i:Expr}{pos ZS:Pos}{td ty tv:TE}
def ZT(hu:X.A.units+1 < cLine)(ho:PE X o td)(hi:PE X i ty)(hs:qg i):PE X (.Subscript o i pos) (ZP td ty):=by
 intro O s σ H Q I h;refine ZN PySem.F.slot_dict_getitem.lookup hs<|aO (ho O s σ H _ I h) λu s1 ⟨x,H1,I1,rx,q1⟩=>aO (hi O s1 σ H1 _ I1 q1) λiv s2 ⟨y,H2,I2,ry,a,v,ex,g,q2⟩=>?_;subst ex;obtain rfl:u=Value.ref a:=rx;exact⟨ZO I2 g,ZK hu I2 g ry λw' s3 I3 gF=>⟨v,H2,I3,gF,q2⟩⟩
def ZU(hu:X.A.units+1 < cLine)(hi:PE X i ty)(ho:PE X o td):PC X .In i o (FI ty td):=by
 intro O s σ H Q I h;refine aO (hi O s σ H _ I h) λiv s1 ⟨y,H1,I1,ry,q1⟩=>aO (ho O s1 σ H1 _ I1 q1) λu s2 ⟨x,H2,I2,rx,a,ov,ex,g,q2⟩=>?_;subst ex;obtain rfl:u=Value.ref a:=rx;exact FG hu I2 g ry λs3 I3=>⟨.bl ov.isSome,H2,I3,rfl,q2⟩
def ZV(hu:X.A.units+1 < cLine)(hi:PE X i ty)(ho:PE X o td):PC X .NotIn i o (ZQ ty td):=by
 intro O s σ H Q I h;refine aO (hi O s σ H _ I h) λiv s1 ⟨y,H1,I1,ry,q1⟩=>aO (ho O s1 σ H1 _ I1 q1) λu s2 ⟨x,H2,I2,rx,a,ov,ex,g,q2⟩=>?_;subst ex;obtain rfl:u=Value.ref a:=rx;exact ZL hu I2 g ry λs3 I3=>⟨.bl (!ov.isSome),H2,I3,rfl,q2⟩
def ZW(hu:X.A.units+1 < cLine)(ho:PE X o td)(hi:PE X i ty)(hv:PE X value tv)(hs:swapsWith value (some<|.Subscript o i pos') pos.line X.env=pure false) :
  PS X (.Assign [.Subscript o i pos'] value pos) (ZR td ty tv):=by
 intro O s σ H D I h;refine wpAny_Assign_Subscript (aO (hv O s σ H _ I h) λr s1 ⟨v,H1,I1,rv,q1⟩=>aO (ho O s1 σ H1 _ I1 q1) λu s2 ⟨x,H2,I2,rx,q2⟩=>aO (hi O s2 σ H2 _ I2 q2) λiv s3 ⟨y,H3,I3,ry,a,H4,ex,g,q3⟩=>?_) hs;subst ex;obtain rfl:u=Value.ref a:=rx;exact ZM hu I3 g ry rv λs4 I4=>⟨σ,H4,I4,q3⟩
end
def Pz(h:Heap)(hb:sysModules < h.objs.size):aB P w H (h.push {cls:= .type "dict",data:= .dict #[]}) h.objs.size (.dK []):=
 ⟨Bx _,beq_eq_false_iff_ne.mpr<|CK<|Bw hb,[],.nil,Heap.DictOf.new h⟩
def FK(h:Heap)(hb:sysModules < h.objs.size):aB P w H (h.push {cls:= .type "dict",data:= .dict #[]}) h.objs.size (.dT []):=
 ⟨Bx _,beq_eq_false_iff_ne.mpr<|CK<|Bw hb,[],.nil,_,#[],0,At _ rfl,⟨rfl,rfl,rfl⟩,rfl,rfl,Cd⟩
def ZX:TE:=λ_ H Q=>∀ p,H p=none->Q (.ref p) (upd H p<|.dK [])
def ZY:TE:=λ_ H Q=>∀ p,H p=none->Q (.ref p) (upd H p<|.dT [])
section
variable{pos:Pos}
def ZZ:PE X (.Dict [] [] pos) ZX:=λO s σ H Q I h=>
 wpAny_Dict_empty ⟨.ref ↑s,_,I.laid (λ_ _ q=>Aj _ q) (An _)<|Pz s.heap I.big,rfl,h _<|I.aH.fresh<|An _⟩
def Z4:PE X (.Dict [] [] pos) ZY:=λO s σ H Q I h=>
 wpAny_Dict_empty ⟨.ref ↑s,_,I.laid (λ_ _ q=>Aj _ q) (An _)<|FK s.heap I.big,rfl,h _<|I.aH.fresh<|An _⟩
end
variable{apos:Pos}
section
variable{κ:Type} [DecidableEq κ]
def PD{Y:List (κ×V)}{k:κ}(h:aF Y k≈v):k∈Y.map (·.1):=by
 have q:(Y.any λkv=>decide (kv.1=k))=true:=by
  rw[tE,h]
  all_goals rfl
 obtain⟨p,hp,e⟩:=List.any_eq_true.mp q;exact Ak.mpr ⟨p,hp,BX e⟩
theorem oK:∀{l:List κ} {k:κ},l.Nodup->¬ k∈l->(l++[k]).Nodup
 | [],k,_,_=>by simp
 | a :: r,k,h,hk=>by
  obtain⟨h1,h2⟩:=Bh.mp h;show(a :: (r++[k])).Nodup;refine Bh.mpr ⟨λm=>?_,oK h2 λm=>hk<|Ai.mpr<|Or.inr m⟩
  rcases Am.mp m with q | q
  ·exact h1 q
  ·exact hk<|Ai.mpr<|Or.inl (Ad.mp q).symm
end
variable{tg:Expr}
theorem PF{env:Env}:∀{names:List (Str×NameKind)} {x:Str} {k':NameKind},
  (names.map λ(n,k)=>if(k == NameKind.free && env.scope.kind == .function && env.kindOf n == some .cell) then(n,NameKind.cell) else(n,k)).lookup x=some k' ->
  ∃ k,names.lookup x≈k/\(k'=k\/(k = .free/\k' = .cell))
 | [],_,_,h=>by simp at h
 | (n,k) :: r,x,k',h=>by
  have ih:=@PF env r x k'
  change List.lookup x ((if(k == NameKind.free && env.scope.kind == .function && env.kindOf n == some .cell)=true then(n,NameKind.cell) else(n,k)) :: _)=_ at h
  cases hx:x == n with
  | true=>
   by_cases hc:(k == NameKind.free && env.scope.kind == .function && env.kindOf n == some .cell)=true
   ·rw[BP hc]at h;simp only[Ec,hx]at h;cases h;have hk:k = .free:=by
     have:=(Cb _ _ ▸ (Cb _ _ ▸ hc).1).1;cases k <;> first | rfl | (exact absurd this<|∅)
    exact⟨k,by simp[Ec,hx],.inr ⟨hk,rfl⟩⟩
   ·rw[BL hc]at h;simp only[Ec,hx]at h;cases h;exact⟨k,by simp[Ec,hx],.inl rfl⟩
  | false=>
   have h2:∃ k,r.lookup x≈k/\(k'=k\/(k = .free/\k' = .cell)):=by
    by_cases hc:(k == NameKind.free && env.scope.kind == .function && env.kindOf n == some .cell)=true
    ·rw[BP hc]at h;simp only[Ec,hx]at h;exact ih h
    ·rw[BL hc]at h;simp only[Ec,hx]at h;exact ih h
   obtain⟨k2,e2,r2⟩:=h2;exact⟨k2,by simp[Ec,hx,e2],r2⟩
def cQ(names:List<|Str×NameKind)(cells:List<|Str×Addr)(acc:List<|Str×Addr):List (Str×Addr):=
 names.foldl (λa x=>if x.2 == .free then(match cells.lookup x.1 with | some c=>(x.1,c) :: a | none=>a)else a) acc
variable{scope:Scope}
def FL(h:∀ x∈scope.names,x.2 = .free->∃ c,env.cells.lookup x.1≈c):closureFor scope env=pure (cQ scope.names env.cells []):=by
 have all:∀l acc,(∀ x∈l,x.2 = .free->∃ c,env.cells.lookup x.1≈c) ->
   (forIn l acc λx cs=>(if x.2 == .free then(do let c <- cellOf env x.1;pure (ForInStep.yield<|(x.1,c) :: cs))else pure (ForInStep.yield cs):Sem _))=pure (cQ l env.cells acc):=by
  intro l
  induction l with
  | nil=>intro acc _;rfl
  | cons x r ih=>
   intro acc hl;rw[Hi];have hr:=λy hy=>hl y<|Af _ hy;cases hk:x.2 == .free with
   | true=>
    have Z5:x.2 = .free:=by
     revert hk
     cases x.2 <;> intro hk <;> first | rfl | (exact absurd hk<|∅)
    obtain⟨c,hc⟩:=hl x Ae Z5;simp only[CZ,cellOf,hc];rw[show cQ (x :: r) env.cells acc=cQ r env.cells ((x.1,c) :: acc) by unfold cQ;rw[Dh];simp[hk,hc]];exact ih _ hr
   | false=>
    simp only[Aq,CP];rw[show cQ (x :: r) env.cells acc=cQ r env.cells acc by unfold cQ;rw[Dh];simp[hk]];exact ih _ hr
 have q:=all scope.names [] h;simp only[closureFor];exact(BZ (· >>= λr=>pure r) q).trans rfl
theorem FO:∀names cells acc,(∀ x c,(x,c)∈acc->cells.lookup x≈c)->∀ x c,(x,c)∈cQ names cells acc->cells.lookup x≈c
 | [],_,_,h=>h
 | y :: r,cells,acc,h=>by
  have e:cQ (y :: r) cells acc=cQ r cells (if y.2 == .free then(match cells.lookup y.1 with | some c=>(y.1,c) :: acc | none=>acc)else acc):=rfl;rw[e];refine FO r cells _ ?_;cases hk:y.2 == .free with
  | false=>simpa using h
  | true=>
   cases hc:cells.lookup y.1 with
   | none=>simpa using h
   | some c=>
    intro x d hx;simp only[CZ]at hx
    rcases Ai.mp hx with e | hx
    ·cases e;exact hc
    ·exact h x d hx
theorem PH:∀names cells acc x c,(x,c)∈acc->(x,c)∈cQ names cells acc
 | [],_,_,_,_,h=>h
 | y :: r,cells,acc,x,c,h=>by
  have e:cQ (y :: r) cells acc=cQ r cells (if y.2 == .free then(match cells.lookup y.1 with | some c=>(y.1,c) :: acc | none=>acc)else acc):=rfl;rw[e];refine PH r cells _ x c ?_;cases hk:y.2 == .free with
  | false=>simpa using h
  | true=>
   cases hc:cells.lookup y.1 with
   | none=>simpa using h
   | some d=>simp only[CZ];exact Af _ h
theorem FR:∀names cells acc x c,(x,NameKind.free)∈names->cells.lookup x≈c->(x,c)∈cQ names cells acc
 | [],_,_,_,_,h,_=>by cases h
 | y :: r,cells,acc,x,c,h,hc=>by
  have e:cQ (y :: r) cells acc=cQ r cells (if y.2 == .free then(match cells.lookup y.1 with | some c=>(y.1,c) :: acc | none=>acc)else acc):=rfl;rw[e]
  rcases Ai.mp h with e2 | h
  ·subst e2;refine PH r cells _ x c ?_;have:(NameKind.free == NameKind.free)=true:=rfl;simp only[hc,this,CZ];exact Ae
  ·exact FR r cells _ x c h hc
theorem FU{α:Type}:∀{l:List (Str×α)} {x:Str} {c:α},(x,c)∈l->∃ d,l.lookup x≈d
 | [],_,_,h=>by cases h
 | (n,d) :: r,x,c,h=>by
  cases hx:x == n with
  | true=>exact⟨d,by simp[Ec,hx]⟩
  | false=>
   rcases Ai.mp h with e | h
   ·cases e;simp at hx
   ·obtain⟨d',e⟩:=FU h;exact⟨d',by simp[Ec,hx,e]⟩
variable{R:Result->Shared->Prop}{acc:Value}{ifs:Ó}{elt iter:Expr}
theorem k2x{target:Expr}{pos:Pos}{it:Value}(I:Nat->Shared->Prop)
  (turn : ∀ n s, I n s → ↥1 (pyNext it) (λr À => match r with
   | none=>R (.ok .next) À
   | some v=>↥1 (letOwnedTupleGo target it v) (λ_ s₁'=>↥1 (assign target env v) (λ_ Á=>
     ↥1 (forIn ifs true λc r=>if r=true then do let ok <- isTrue c env<|eval c env;pure (ForInStep.yield ok)else pure (ForInStep.yield r)) (λok Â=>
      if ok=true then ↥1 (eval elt env) (λx Ã=>
       ↥1 (call (.builtin "list.append") [acc,x]) (λ_ Ç=>∃ m,m < n/\I m Ç) (notedBy (model U w) A env λe s'=>R (.error e) s') Ã) (notedBy (model U w) A env λe s'=>R (.error e) s') Â
      else ∃ m,m < n/\I m Â) (notedBy (model U w) A env λe s'=>R (.error e) s') Á) (notedBy (model U w) A env λe s'=>R (.error e) s') s₁') (notedBy (model U w) A env λe s'=>R (.error e) s') À) (notedBy (model U w) A env λe s'=>R (.error e) s') s)
  (n:Nat) (h:I n s) :
  codeAny (model U w) A (.compLoop (.ListComp elt [⟨target,iter,ifs,0⟩] scope pos) 0 it acc env) R s:=by
 refine codeAny_loop rfl I (λn s hI=>?_) n h;show wpAny _ A ((compTurn (.ListComp elt [⟨target,iter,ifs,0⟩] scope pos) 0 it acc env).onRaise λx=>do noteFrame x env;theTreesLotGoes x) _ _ s;refine wpAny_noted ?_;rw[compTurn_list];refine BJ<|GX<|BJ<|CW (turn n s hI) (λr À h₁=>?_) λ_ _ h'=>h';cases r with
 | none=>exact BK h₁
 | some v=>
  refine BJ<|CW h₁ (λ_ s₁' h₁'=>?_) λ_ _ h'=>h';refine BJ<|CW h₁' (λ_ Á Ä=>BJ<|CW Ä (λok Â Å=>?_) λ_ _ h'=>h') λ_ _ h'=>h';cases ok with
  | false=>exact BK ⟨rfl,Å⟩
  | true=>
   exact BJ<|BJ<|CW Å (λx Ã Æ=>BJ<|CW Æ (λ_ Ç Ë=>BK<|BK ⟨rfl,Ë⟩) λ_ _ h'=>h') λ_ _ h'=>h'
def PQ(X:Cx)(ifs:Ó)(t:TT):Prop:=
 ∀O s σ H Q,↥3->t σ H Q ->
  ↥2 (forIn ifs true λc r=>if r=true then do let ok <- isTrue c X.env<|eval c X.env;pure (ForInStep.yield ok)else pure (ForInStep.yield r)) (TP X O σ Q) X.xe s
def FV:TT:=λ_ H Q=>Q true H
def Z6:PQ X [] FV:=λ_ _ _ H _ I h=>wpAny_tests_nil ⟨H,I,h⟩
variable{c:Expr}
def Z7{t:TT}(h:PT X c t):PQ X [c] t:=λO s σ H Q I hq=>wpAny_tests_one<|h O s σ H Q I hq
def fY(X:Cx)(N':Ð)(scope:Scope)(cl:List<|Str×Addr)(C:Addr)(æ:Shared)(ç:Hp)(ex:↥9):Cx:=
 {U:=X.U,w:=X.w,K:=X.K,mg:=X.mg,Z:=X.Z,A:=X.A,N:=N',æ:=æ,ç:=ç,env:=compEnvC scope cl C X.env,outer:=X.stack,stack:=X.stack,ex:=ex,fn:=λx=>match scope.names.lookup x with | some .cell=>true | _=>false,calm:=X.calm,pn:=[],xe:=λ_ _=>False}
variable{M:Model}
def jE{α:Type}{t:Sem α}{Q Q':α->Shared->Prop}(h:wpAny M A t Q (λ_ _=>False) s)(hQ:∀ a s,Q a s->Q' a s):wpAny M A t Q' E s:=CW h hQ λ_ _ z=>z.elim
def FX:gR X (.builtin "isinstance") (λxs H Q=>∃ x t T b,xs=[x,.ty T]/\du X.K H x t/\PySem.W.kitOne X.K t (.type T)≈b/\Q (.bl b) H):=by
 intro O s σ H xs us Q I r h;obtain⟨x,t,T,b,rfl,ty,e,q⟩:=h;obtain⟨u,w',rfl,ru,gF⟩:=vals2 r;cases (show w'=Value.type T from gF);exact YV I ru ty e λtk=>⟨.bl b,H,I.tok tk,rfl,q⟩
theorem Z8:cX X (binaryOp .Mult) (λx y H Q=>∃ z i,x = .str z/\y = .int i/\0<=i/\i<=100000/\z.length * i.toNat<=100000/\Q (.str<|Txt.mul z i) H):=by
 intro O s σ H x y v u Q I rx ry h;obtain⟨z,i,rfl,rfl,h0,h1,h2,q⟩:=h;obtain⟨t,rfl⟩:=rx;obtain⟨t',rfl⟩:=ry;have hsz:=DX;refine SB.mul ⟨?_,λh3 h4=>?_,λh3 h4=>?_⟩ λt' k=>⟨.str _,H,I.tok k,⟨_,rfl⟩,q⟩
 ·rw[BR ⋯,BR<|⋯];rfl
 ·have h5:(z.length:Int)<=100000:=by
   have h6:z.length * 1<=z.length * i.toNat:=Nat.mul_le_mul_left _ ⋯;omega
  have h7:(100000:Int)<=(2 ^ 63 - 1) / i:=by
   rw[Int.le_ediv_iff_mul_le<|⋯];have:(100000:Int) * i<=100000 * 100000:=Int.mul_le_mul_of_nonneg_left h1 ∅;have e:(2:Int) ^ 63 - 1=9223372036854775807:=∅
   omega
  omega
 ·unfold Builtin.Str.tooLong;rw[hsz];exact BR<|⋯
def isStar:Expr->Bool
 | .Starred _ _=>true
 | _=>false
def noStar(es:Ó):Bool:=es.all λe=>!isStar e
def qh(e:Expr)(es:Ó)(env:Env)(h:isStar e=false):starEach (e :: es) env=(false,eval e env) :: starEach es env:=by
 cases e <;> first | rfl | (exact absurd h<|by simp[isStar])
theorem y8(pos:Pos)(env:Env):∀ es:Ó,noStar es=true->(backTo pos<|starEach es env).any (·.1)=false
 | [],_=>rfl
 | e :: es,h=>by
  have h':(!isStar e)=true/\noStar es=true:=by
   have:=h;unfold noStar at this ⊢;rwa[Hm,Cb]at this
  have hs:isStar e=false:=by
   have:=h'.1;cases q:isStar e with
   | true=>rw[q]at this;cases this
   | false=>rfl
  rw[qh e es env hs];show(false || (backTo pos<|starEach es env).any (·.1))=false;rw[y8 pos env es h'.2];rfl
variable{es:Ó}
theorem tG(h:noStar (e :: es)=true):isStar e=false/\noStar es=true:=by
 unfold noStar at h ⊢;rw[Hm,Cb]at h;refine⟨?_,h.2⟩;cases q:isStar e with
 | true=>rw[q]at h;cases h.1
 | false=>rfl
variable{r:List V->Hp->VK->Prop}{ds:Ò}{mS:List V}
section
variable{k:Nat}{C:Addr}{E:XK}{m:Str}{p pos:Pos}{o:Expr}{ta te:TE}{t:TA}{id T:String}
def Z9(ha:PE X e te)(hr:PA X es t)(hs:isStar e=false:=by rfl):PA X (e :: es) (OX te t):=YX ha hr<|qh _ _ _ hs
def x4q(F:aE X.U X.w X.K X.mg X.Z CX k f fd ps sp)(hr:bH k X.A)(hm:X.mg x≈.ref f)(hk:PySem.W.keepIn X.K (.ref f)=true)(hb:Binds X.K fd ps [])(hx:mU CX X E)
  (ha:PA X (e :: es) t) (hg:Gl X x:=by rfl) (dN:(x == ("__debug__" : Str))=false:=by decide) (hs:noStar (e :: es)=true:=by rfl):PE X (.Call (.Name x p) (e :: es) [] pos) (OY sp [] E t):=
 Y6 F hr hg hm hk hb .nil hx ha dN (qh _ _ _ (tG hs).1) (y8 _ _ _ (tG hs).2)
def FY(hc:gR X (.builtin id) r)(hm:X.mg x=none)(hv:bootBuiltins x≈.builtin id)(ha:PA X (e :: es) t)(hg:Gl X x:=by rfl)(hn:x ≠ "__name__":=by decide)(dN:(x == ("__debug__" : Str))=false:=by decide)
  (hs:noStar (e :: es)=true:=by rfl):PE X (.Call (.Name x p) (e :: es) [] pos) (yZ r t):=
 Y8 hc hg hm hv ha hn dN (qh _ _ _ (tG hs).1) (y8 _ _ _ (tG hs).2)
def F0(hc:gR X (.type T) r)(hm:X.mg x=none)(hv:bootBuiltins x≈.type T)(ha:PA X (e :: es) t)(hg:Gl X x:=by rfl)(hn:x ≠ "__name__":=by decide)(dN:(x == ("__debug__" : Str))=false:=by decide)
  (hs:noStar (e :: es)=true:=by rfl):PE X (.Call (.Name x p) (e :: es) [] pos) (yZ r t):=
 Y9 hc hg hm hv ha hn dN (qh _ _ _ (tG hs).1) (y8 _ _ _ (tG hs).2)
end
structure Ev(X:Cx)(e:Expr)(σ:St)(H:Hp)(Q:VK):Prop where
 run:∀O s,↥3->↥2 (eval e X.env) (EP X O σ Q) X.xe s
structure Et(X:Cx)(e:Expr)(σ:St)(H:Hp)(Q:Bool->Hp->Prop):Prop where
 run:∀O s,↥3->↥2 (isTrue e X.env<|eval e X.env) (TP X O σ Q) X.xe s
structure Ew(X:Cx)(e:Expr)(σ:St)(H:Hp)(Q:Bool->Hp->Prop):Prop where
 run:∀whole O s,↥3->↥2 (isTrue e X.env whole) (TP X O σ Q) X.xe s
structure Ea(X:Cx)(es:Ó)(σ:St)(H:Hp)(Q:List V->Hp->Prop):Prop where
 run:∀pos O s,↥3->↥2 (spliced<|backTo pos<|starEach es X.env) (AP X O σ Q) X.xe s
structure Eo(X:Cx)(e:Option Expr)(σ:St)(H:Hp)(Q:Option Int->Hp->Prop):Prop where
 run:∀O s,↥3->↥2 (evalPart e X.env) (λu s'=>∃ o H',Inv X O σ H' s'/\IsPart u o/\Q o H') X.xe s
structure Eg(X:Cx)(e:Expr)(v:V)(σ:St)(H:Hp)(Q:St->Hp->Prop):Prop where
 run:∀O s u,↥3->RelV v u->↥2 (assign e X.env u) (λ_ s'=>∃ σ' H',Inv X O σ' H' s'/\Q σ' H') X.xe s
structure Run(X:Cx)(l:Ô)(D:Ends)(σ:St)(H:Hp):Prop where
 run:∀O s,↥3->↥2 (execs l X.env) (SP X O D) X.xe s
def tEv(X:Cx)(e:Expr):TE:=λσ H Q=>Ev X e σ H Q
def tEt(X:Cx)(e:Expr):TT:=λσ H Q=>Et X e σ H Q
def tEw(X:Cx)(e:Expr):TT:=λσ H Q=>Ew X e σ H Q
def vA(X:Cx)(es:Ó):TA:=λσ H Q=>Ea X es σ H Q
def tEo(X:Cx)(e:Option Expr):TO:=λσ H Q=>Eo X e σ H Q
def tEg(X:Cx)(e:Expr):TG:=λv σ H Q=>Eg X e v σ H Q
def F1(X:Cx)(l:Ô):TS:=λD σ H=>Run X l D σ H
variable{D:Ends}{L L':List V->Hp->Prop}{T T':Bool->Hp->Prop}{j:Nat}{op:CmpOp}{wi:TI}{at_:Addr}
section
variable{a b o:Expr}{rest body m6:Ô}{Q:VK}{pos p p2:Pos}
def bI:PE X e (tEv X e):=λO s _ _ _ I h=>h.run O s I
def m7:PT X e (tEt X e):=λO s _ _ _ I h=>h.run O s I
def PR:PW X e (tEw X e):=λwh O s _ _ _ I h=>h.run wh O s I
def i8:PA X es (vA X es):=λpos O s _ _ _ I h=>h.run pos O s I
def PU{e:Option Expr}:PO X e (tEo X e):=λO s _ _ _ I h=>h.run O s I
def qi:PG X e (tEg X e):=λO s _ _ _ u _ I r h=>h.run O s u I r
def qj{l:Ô}:jz X l (F1 X l):=λO s _ _ _ I h=>h.run O s I
def dG{t:TE}(h1:PE X e t)(h2:t σ H Q):Ev X e σ H Q:=⟨λO s I=>h1 O s σ H Q I h2⟩
def tH{t:TT}(h1:PT X e t)(h2:t σ H T):Et X e σ H T:=⟨λO s I=>h1 O s σ H T I h2⟩
def y9{t:TT}(h1:PW X e t)(h2:t σ H T):Ew X e σ H T:=⟨λwh O s I=>h1 wh O s σ H T I h2⟩
def PV{t:TA}(h1:PA X es t)(h2:t σ H L):Ea X es σ H L:=⟨λpos O s I=>h1 pos O s σ H L I h2⟩
def PY{e:Option Expr}{t:TO}{R:Option Int->Hp->Prop}(h1:PO X e t)(h2:t σ H R):Eo X e σ H R:=⟨λO s I=>h1 O s σ H R I h2⟩
def F3{t:TG}{R:St->Hp->Prop}(h1:PG X e t)(h2:t v σ H R):Eg X e v σ H R:=⟨λO s u I r=>h1 O s σ H v u R I r h2⟩
def lY{t:TS}(h1:PS X st t)(h2:t {D with nx:=λσ' H'=>Run X rest D σ' H'} σ H):Run X (st :: rest) D σ H:=⟨λO s I=>Yd h1 qj O s σ H D I h2⟩
def a9(h:D.nx σ H):Run X [] D σ H:=⟨λO s I=>Yc O s σ H D I h⟩
def Ev.mono{Q':VK}(h:Ev X e σ H Q)(f:∀ v H',Q v H'->Q' v H'):Ev X e σ H Q':=⟨λO s I=>aO (h.run O s I) λ_ _ ⟨v,H',I',r,q⟩=>⟨v,H',I',r,f v H' q⟩⟩
def Et.mono(h:Et X e σ H T)(f:∀ v H',T v H'->T' v H'):Et X e σ H T':=⟨λO s I=>aO (h.run O s I) λv _ ⟨H',I',q⟩=>⟨H',I',f v H' q⟩⟩
def Ea.mono(h:Ea X es σ H L)(f:∀ v H',L v H'->L' v H'):Ea X es σ H L':=⟨λpos O s I=>aO (h.run pos O s I) λ_ _ ⟨v,H',I',r,q⟩=>⟨v,H',I',r,f v H' q⟩⟩
def ae(i:Nat)(h:Q v H)(hv:σ[i]?≈some v:=by rfl)(hN:X.N[i]?≈x:=by rfl)(hs:DT X.env.scope x:=by first | exact Or.inl rfl | exact Or.inr (Or.inl rfl) | exact Or.inr<|Or.inr rfl)(hd:(x == ("__debug__" : Str))=false:=by decide)
  (i4:(x == ("__classdict__" : Str))=false:=by decide):Ev X (.Name x p) σ H Q:=dG (XS hN hs hd i4) ⟨v,hv,h⟩
def aG{i:Int}(h:Q (.int i) H):Ev X (.Constant (.int i) j p) σ H Q:=dG (XT) h
def zg{i:Bool}(h:Q (.bl i) H):Ev X (.Constant (.bool i) j p) σ H Q:=dG (XU) h
def zh(h:Q .non H):Ev X (.Constant .none j p) σ H Q:=dG (XW) h
def fZ{i:Str}(h:Q (.str i) H):Ev X (.Constant (.str i) j p) σ H Q:=dG (XX) h
def F4(v:V)(hm:X.mg x=none)(hv:bootBuiltins x≈u)(r:RelV v u)(h:Q v H)(hg:Gl X x:=by rfl)(hn:x ≠ "__name__":=by decide)(hd:(x == ("__debug__" : Str))=false:=by decide):Ev X (.Name x p) σ H Q:=dG (XY hg hm hv r hn hd) h
def bh{op:Operator}{r:R2}(ho:cX X (binaryOp op) r)(h:Ev X a σ H λx H1=>Ev X b σ H1 λy H2=>r x y H2 Q):Ev X (.BinOp a op b pos) σ H Q:=dG (Yy ho bI bI) h
def PZ{op:UnaryOp}{r:V->Hp->VK->Prop}(ho:yU X (unaryOp op) r)(h:Ev X a σ H λx H1=>r x H1 Q):Ev X (.UnaryOp op a pos) σ H Q:=dG (Yz ho bI) h
def j6{r:R2}(ho:cX X (compareOp op) r)(h:Ev X a σ H λx H1=>Ev X b σ H1 λy H2=>r x y H2 Q)(hm:behindInMarks op b=false:=by with_unfolding_all rfl):Ev X (.Compare a [op] [b] pos) σ H Q:=dG (YJ ho bI bI hm) h
def tI(h:Ev X a σ H λx H1=>∃ k,x = .bl k/\if k=true then Ev X (.BoolOp .And (b :: es) pos) σ H1 Q else Q (.bl false) H1):Ev X (.BoolOp .And (a :: b :: es) pos) σ H Q:=dG (X8 bI bI) h
def F5{op:BoolOp}(h:Ev X a σ H Q):Ev X (.BoolOp op [a] pos) σ H Q:=dG (X7 bI) h
def q3o(h:Et X c σ H λk H1=>if k=true then Ev X a σ H1 Q else Ev X b σ H1 Q):Ev X (.IfExp c a b pos) σ H Q:=dG (Ya m7 bI bI) h
def a8{r:R2}(hr:vh X r)(h:Ev X a σ H λx H1=>Ev X b σ H1 λy H2=>r x y H2 Q)(hs:O6 b:=by intro _ _;rfl):Ev X (.Subscript a b pos) σ H Q:=dG (Zk hr bI bI hs) h
def P1{r:V->Option Int->Option Int->Hp->VK->Prop}{lo hi:Option Expr}(hr:EV X r)(h:Ev X a σ H λx H1=>Eo X lo σ H1 λl H2=>Eo X hi σ H2 λu H3=>r x l u H3 Q):Ev X (.Subscript a (.Slice lo hi none p2) pos) σ H Q:=dG (Zg hr bI PU PU) h
def P2{R:Option Int->Hp->Prop}(h:R none H):Eo X none σ H R:=PY (Zc) h
def P4{R:Option Int->Hp->Prop}(h:Ev X a σ H λx H1=>∃ i,x = .int i/\R (some i) H1):Eo X (some a) σ H R:=PY (Zd bI) h
def ax(h:L [] H):Ea X [] σ H L:=PV (YW) h
def ah(h:Ev X e σ H λx H1=>Ea X es σ H1 λxs H2=>L (x :: xs) H2)(hs:isStar e=false:=by rfl):Ea X (e :: es) σ H L:=PV (Z9 bI i8 hs) h
def d9{k:Nat}(h:Ea X es σ H λxs H1=>xs.length<=sizeLine/\∀ p,H1 p=none->Q (.ref p) (upd H1 p<|.tup xs)):Ev X (.Tuple es k pos) σ H Q:=dG (YY i8) h
def di(h:Ea X es σ H λxs H1=>xs.length<=sizeLine/\∀ p,H1 p=none->Q (.ref p) (upd H1 p<|.lst xs)):Ev X (.List es pos) σ H Q:=dG (YZ i8) h
def P5{k:Nat}{E:XK}(F:aE X.U X.w X.K X.mg X.Z CX k f fd ps sp)(hr:bH k X.A)(hm:X.mg x≈.ref f)(hk:PySem.W.keepIn X.K (.ref f)=true)(hb:Binds X.K fd ps [])(hx:mU CX X E)
  (h:Ea X (e :: es) σ H λvs H1=>sp vs H1 Q E) (hg:Gl X x:=by rfl) (dN:(x == ("__debug__" : Str))=false:=by decide) (hs:noStar (e :: es)=true:=by rfl):Ev X (.Call (.Name x p) (e :: es) [] pos) σ H Q:=
 dG (x4q F hr hm hk hb hx i8 hg dN hs) (show Ea X (e :: es) σ H _ from h.mono λvs H1 q=>by rwa[Bp])
def cM{id:String}(hc:gR X (.builtin id) r)(hm:X.mg x=none)(hv:bootBuiltins x≈.builtin id)(h:Ea X (e :: es) σ H λvs H1=>r vs H1 Q)(hg:Gl X x:=by rfl)(hn:x ≠ "__name__":=by decide)(dN:(x == ("__debug__" : Str))=false:=by decide)
  (hs:noStar (e :: es)=true:=by rfl):Ev X (.Call (.Name x p) (e :: es) [] pos) σ H Q:=dG (FY hc hm hv i8 hg hn dN hs) h
def qk{T:String}(hc:gR X (.type T) r)(hm:X.mg x=none)(hv:bootBuiltins x≈.type T)(h:Ea X (e :: es) σ H λvs H1=>r vs H1 Q)(hg:Gl X x:=by rfl)(hn:x ≠ "__name__":=by decide)(dN:(x == ("__debug__" : Str))=false:=by decide)
  (hs:noStar (e :: es)=true:=by rfl):Ev X (.Call (.Name x p) (e :: es) [] pos) σ H Q:=dG (F0 hc hm hv i8 hg hn dN hs) h
def cz{r:R2}(ho:cX X (compareOp op) r)(h:Ev X a σ H λx H1=>Ev X b σ H1 λy H2=>r x y H2 λz H3=>∃ k,z = .bl k/\T k H3)(hm:behindInMarks op b=false:=by with_unfolding_all rfl):Et X (.Compare a [op] [b] pos) σ H T:=tH (YL ho bI bI hm) h
def vB(h:Et X a σ H λk H1=>T (!k) H1):Et X (.UnaryOp .Not a pos) σ H T:=tH (X5 m7) h
def vC(h:Ev X e σ H λx H1=>∃ k,x = .bl k/\T k H1)(he:∀ whole,isTrue e X.env whole=(do let v <- whole;standAt e.pos;holding [v] (truthy v)):=by intro _;rfl):Et X e σ H T:=tH (XZ bI he) h
def P6(h:Ev X e σ H λx H1=>∃ k,p9 X.K x H1 k/\T k H1)(he:∀ whole,isTrue e X.env whole=(do let v <- whole;standAt e.pos;holding [v] (truthy v)):=by intro _;rfl):Et X e σ H T:=tH (YQ bI he) h
def F6(h:Ew X e σ H T):Et X e σ H T:=⟨λO s I=>h.run _ O s I⟩
def x2x(h:Et X a σ H λk H1=>if k=true then Ew X (.BoolOp .And (b :: es) pos) σ H1 T else T false H1):Ew X (.BoolOp .And (a :: b :: es) pos) σ H T:=y9 (X3 m7 PR) h
def zi(h:Et X a σ H λk H1=>if k=true then T true H1 else Ew X (.BoolOp .Or (b :: es) pos) σ H1 T):Ew X (.BoolOp .Or (a :: b :: es) pos) σ H T:=y9 (X4 m7 PR) h
def q7q(h:Et X a σ H T):Ew X (.BoolOp .And [a] pos) σ H T:=y9 (X1 m7) h
def P7(h:Et X a σ H T):Ew X (.BoolOp .Or [a] pos) σ H T:=y9 (X2 m7) h
def bw(i:Nat){R:St->Hp->Prop}(hN:X.N.Nodup)(h:R (σ.set i<|some v) H)(hi:X.N[i]?≈x:=by rfl)(hx:Loc X.env.scope x:=by first | exact Or.inl rfl | exact Or.inr rfl)(hf:X.fn x=true\/X.env.scope.names.lookup x=some .local:=by first | exact .inl rfl | exact .inr rfl | assumption):Eg X (.Name x p) v σ H R:=F3 (Yi hN hi hx hf) h
def aZ(i:Nat)(hN:X.N.Nodup)(h:Ev X e σ H λv H1=>Run X rest D (σ.set i<|some v) H1)(hi:X.N[i]?≈x:=by rfl)(hx:Loc X.env.scope x:=by first | exact Or.inl rfl | exact Or.inr rfl)(hs:swapsWith e (some<|.Name x pos') pos.line X.env=pure false:=by rfl)
  (hf:X.fn x=true\/X.env.scope.names.lookup x=some .local:=by first | exact .inl rfl | exact .inr rfl | assumption):Run X (.Assign [.Name x pos'] e pos :: rest) D σ H:=lY (Yk hN hi hx bI hs hf) h
def dP(h:Et X c σ H λk H1=>if k=true then Run X body {D with nx:=λσ' H'=>Run X rest D σ' H'} σ H1 else Run X m6 {D with nx:=λσ' H'=>Run X rest D σ' H'} σ H1):Run X (.If c body m6 pos :: rest) D σ H:=lY (Yh m7 qj qj) h
def P8(φ ψ:Prop)(hc:∀ T:Bool->Hp->Prop,(∀ k:Bool,(k=true->φ)->(k=false->ψ)->T k H)->Et X c σ H T)(ht:φ->Run X body {D with nx:=λσ' H'=>Run X rest D σ' H'} σ H)(hu:ψ->Run X m6 {D with nx:=λσ' H'=>Run X rest D σ' H'} σ H):Run X (.If c body m6 pos :: rest) D σ H:=
 dP (hc _ λk p q=>by
  cases k with
  | true=>rw[BP rfl];exact ht<|p rfl
  | false=>rw[BL Aw];exact hu<|q rfl)
def bS(h:Ev X e σ H D.rt):Run X (.Return (some e) pos :: rest) D σ H:=lY (Yg bI) h
def gG(h:Ev X e σ H λ_ H1=>Run X rest D σ H1)(hs:swapsWith e none pos.line X.env=pure false:=by rfl):Run X (.Expr e pos :: rest) D σ H:=lY (Yf bI hs) h
def zp(h:Ev X e σ H λv H1=>Eg X tg v σ H1 λσ' H'=>Run X rest D σ' H')(hs:swapsWithSole [tg] e pos.line X.env=pure false:=by rfl)(hw:swappedStores [tg] e X.env=pure none:=by rfl)
  (h1:(assignEach [tg] X.env).map (·.2)=[assign tg X.env]:=by rfl):Run X (.Assign [tg] e pos :: rest) D σ H:=lY (Yj bI qi hs hw h1) h
def Loop(X:Cx)(tg:Expr)(body:Ô)(J:It)(D:Ends)(after:St->Hp->Prop)(σ:St)(H:Hp):Prop:=
 ∃ W:Nat->Nat->St->Hp->Prop,(∃ m,W 0 m σ H)/\∀ i m σ H,W i m σ H->(J.stop i H/\after σ H)\/(J.go i H/\∃ N:St->Hp->Prop,(∀ σ' H',N σ' H'->∃ m',m' < m/\W (i+1) m' σ' H') /\
  ∀ x H',J.uX i H x H'->Eg X tg x σ H' λσ2 H2=>Run X body {D with nx:=N,ct:=N,bk:=after} σ2 H2)
def F7(hi:PI X tg iter wi)(h:wi σ H λJ H1=>Loop X tg body J D (λσ' H'=>Run X rest D σ' H') σ H1)(hp:PassesOwn (model X.U X.w) X.A X.env X.xe:=by exact PN)(hc:X.calm=true:=by rfl)
  (hs:∀ x,foldedSetIterable iter X.env x=pure x:=by intro _;rfl):Run X (.For tg iter body [] pos :: rest) D σ H:=lY (Yu hp hc hi qi qj hs) h
def m8{q:Pos}(hm:X.mg "range" = none)(h:Ev X a σ H λx H1=>∃ j:Int,x = .int j/\-(2 ^ 62)<=j/\j < 2 ^ 62/\Loop X tg body (sY 0 j.toNat) D (λσ' H'=>Run X rest D σ' H') σ H1)(hg:Gl X "range":=by rfl)(hp:PassesOwn (model X.U X.w) X.A X.env X.xe:=by exact PN)(hc:X.calm=true:=by rfl)(hs:isStar a=false:=by rfl) :
  Run X (.For tg (.Call (.Name "range" q) [a] [] p) body [] pos :: rest) D σ H:=
 F7 (OH hg hm i8<|qh a [] _ hs) (show Ea X [a] σ H _ from ah (h.mono λx H1 ⟨j,e,h1,h2,h3⟩=>ax ⟨j,by rw[e],h1,h2,h3⟩) hs) hp hc (by intro _;rfl)
def jF(h:Ev X iter σ H λx H1=>∃ a,x = .ref a/\(∃ xs,au X.K H1 a xs)/\Loop X tg body (pY X.K a) D (λσ' H'=>Run X rest D σ' H') σ H1)(hp:PassesOwn (model X.U X.w) X.A X.env X.xe:=by exact PN)(hc:X.calm=true:=by rfl)
  (hs:∀ x,foldedSetIterable iter X.env x=pure x:=by intro _;rfl):Run X (.For tg iter body [] pos :: rest) D σ H:=F7 (gD bI) h hp hc hs
theorem m9{lo:Int}{after:St->Hp->Prop}(Pv:Nat->St->Hp->Prop)(h0:Pv 0 σ H)
  (hs:∀ i σ H,i < n->Pv i σ H->Eg X tg (.int<|lo+i) σ H λσ2 H2=>Run X body {D with nx:=Pv<|i+1,ct:=Pv<|i+1,bk:=after} σ2 H2) (hd:∀ σ H,Pv n σ H->after σ H):Loop X tg body (sY lo n) D after σ H:=by
 refine⟨λi m σ H=>m=n - i/\i<=n/\Pv i σ H,⟨n,by simp,Bx _,h0⟩,?_⟩;rintro i m σ H ⟨rfl,hi,p⟩
 by_cases aX:i < n
 ·refine .inr ⟨aX,Pv<|i+1,λσ' H' p'=>⟨n - (i+1),⋯,rfl,aX,p'⟩,λx H' y=>?_⟩;obtain⟨e,y⟩:=y;subst e y;exact hs i σ _ aX p
 ·have e:i=n:=⋯
  subst e;exact .inl ⟨An _,hd σ H p⟩
theorem x4b{xs:List V}{after:St->Hp->Prop}(Pv:Nat->St->Hp->Prop)(h0:Pv 0 σ H)(hl:∀ i σ H,i<=xs.length->Pv i σ H->aQ X.K H at_ xs)
  (hs:∀ i x σ H,xs[i]?≈x->Pv i σ H->Eg X tg x σ H λσ2 H2=>Run X body {D with nx:=Pv<|i+1,ct:=Pv<|i+1,bk:=after} σ2 H2) (hd:∀ σ H,Pv xs.length σ H->after σ H):Loop X tg body (Yn X.K at_) D after σ H:=by
 refine⟨λi m σ H=>m=xs.length - i/\i<=xs.length/\Pv i σ H,⟨xs.length,by simp,Bx _,h0⟩,?_⟩;rintro i m σ H ⟨rfl,hi,p⟩;have q:=hl i σ H hi p
 by_cases aX:i < xs.length
 ·refine .inr ⟨⟨xs,xs[i],q,by simp[aX]⟩,Pv<|i+1,λσ' H' p'=>⟨xs.length - (i+1),⋯,rfl,aX,p'⟩,λx H' y=>?_⟩;obtain⟨e,y⟩:=y;subst e;exact hs i x σ _ (y xs q) p
 ·have e:i=xs.length:=⋯
  subst e;exact .inl ⟨⟨xs,q,An _⟩,hd σ H p⟩
theorem jG{xs:List V}{after:St->Hp->Prop}(Pv:Nat->St->Hp->Prop)(h0:Pv 0 σ H)(hl:∀ i σ H,i<=xs.length->Pv i σ H->au X.K H at_ xs)
  (hs:∀ i x σ H,xs[i]?≈x->Pv i σ H->Eg X tg x σ H λσ2 H2=>Run X body {D with nx:=Pv<|i+1,ct:=Pv<|i+1,bk:=after} σ2 H2) (hd:∀ σ H,Pv xs.length σ H->after σ H):Loop X tg body (pY X.K at_) D after σ H:=by
 refine⟨λi m σ H=>m=xs.length - i/\i<=xs.length/\Pv i σ H,⟨xs.length,by simp,Bx _,h0⟩,?_⟩;rintro i m σ H ⟨rfl,hi,p⟩;have q:=hl i σ H hi p
 by_cases aX:i < xs.length
 ·refine .inr ⟨⟨xs,xs[i],q,by simp[aX]⟩,Pv<|i+1,λσ' H' p'=>⟨xs.length - (i+1),⋯,rfl,aX,p'⟩,λx H' y=>?_⟩;obtain⟨e,y⟩:=y;subst e;exact hs i x σ _ (y xs q) p
 ·have e:i=xs.length:=⋯
  subst e;exact .inl ⟨⟨xs,q,An _⟩,hd σ H p⟩
def bB.go{N:Ð}{k:Nat}(F:bB K x qual st f fd)(S:ak N ps<|aW st)(len:∀ vs H Q E,sp vs H Q E->vs.length=ps.length)
  (cF : ∀bL A outer s H vs Q E, bH k (A.deeper<|envOfC qual (aW st) ↑s f bL) → sp vs H Q E →
   Run (dv bK P w K mg Z N qual (aW st) f bL A outer s H E).sW (gY st) {nx:=λ_ H'=>Q .non H',rt:=Q} (start N vs) H):↥4 (k+1) f fd ps sp:=
 F.ok S len λbL A outer s H vs Q E hr eS=>⟨_,qj,cF bL A outer s H vs Q E hr eS⟩
end
structure Ei(X:Cx)(ifs:Ó)(σ:St)(H:Hp)(Q:Bool->Hp->Prop):Prop where
 run:∀O s,↥3 ->
  ↥2 (forIn ifs true λc r=>if r=true then do let ok <- isTrue c X.env<|eval c X.env;pure (ForInStep.yield ok)else pure (ForInStep.yield r)) (TP X O σ Q) X.xe s
def vD(X:Cx)(N':Ð)(scope:Scope)(e:Expr)(σ:St)(H:Hp)(Q:VK):Prop:=∀ cl C æ ç ex,Ev ↥13 e σ H Q
def vE(X:Cx)(N':Ð)(scope:Scope)(e:Expr)(v:V)(σ:St)(H:Hp)(Q:St->Hp->Prop):Prop:=∀ cl C æ ç ex,Eg ↥13 e v σ H Q
def vF(X:Cx)(N':Ð)(scope:Scope)(ifs:Ó)(σ:St)(H:Hp)(Q:Bool->Hp->Prop):Prop:=∀ cl C æ ç ex,Ei ↥13 ifs σ H Q
def lZ(X:Cx)(N':Ð)(scope:Scope)(tg:Expr)(ifs:Ó)(elt:Expr)(J:It)(D:Addr)(after:Hp->Prop)(σ:St)(H:Hp):Prop:=
 ∃ W:Nat->Nat->St->Hp->Prop,(∃ m,W 0 m σ H)/\∀ i m σ' H',W i m σ' H' ->
  (J.stop i H' ∧ after H') ∨ (J.go i H' ∧ ∃ N : St → Hp → Prop, (∀ σ' H', N σ' H' → ∃ m', m' < m ∧ W (i + 1) m' σ' H') ∧ ∀ x H2, J.uX i H' x H2 → vE X N' scope tg x σ' H2 λσ2 H3 => vF X N' scope ifs σ2 H3 λb H4 =>
   if b=true then vD X N' scope elt σ2 H4 λv H5=>∃ ys,H5 D≈.lst ys/\ys.length < sizeLine/\N σ2 (upd H5 D<|.lst<|ys++[v])else N σ2 H4)
theorem ql:∀names n acc,cellsFrom n names acc=cellsFrom n names []++acc
 | [],_,_=>rfl
 | (y,k) :: r,n,acc=>by
  unfold cellsFrom
  split
  ·rw[ql r (n+1)<|(y,n) :: acc,ql r (n+1) [(y,n)],Ar];rfl
  ·exact ql r n acc
theorem vG:∀names n{x}{c},(x,c)∈cellsFrom n names []->(x,NameKind.cell)∈names/\n<=c
 | [],_,_,_,h=>by cases h
 | (y,k) :: r,n,x,c,h=>by
  unfold cellsFrom at h
  split at h
  ·rename_i hk;rw[ql,Am]at h
   rcases h with h | h
   ·obtain⟨a,b⟩:=vG r (n+1) h;exact⟨Af _ a,⋯⟩
   ·cases Ad.mp h;have:k = .cell:=by cases k <;> first | rfl | exact absurd hk<|∅
    subst this;exact⟨Ae,An _⟩
  ·obtain⟨a,b⟩:=vG r n h;exact⟨Af _ a,b⟩
variable{cl:List (Str×Addr)}{names:List (Str×NameKind)}
theorem P9{c:Addr}(h:(cellsFrom n names cl).lookup x≈c):((x,c)∈cellsFrom n names []/\n<=c)\/cl.lookup x≈c:=by
 rw[ql,QS]at h;cases e:(cellsFrom n names []).lookup x with
 | some d=>
  rw[e]at h;cases h;have hm:=DK e;exact .inl ⟨hm,(vG _ _ hm).2⟩
 | none=>
  rw[e]at h;exact .inr h
theorem k9v(h:(x,NameKind.cell)∉names):(cellsFrom n names cl).lookup x=cl.lookup x:=by
 rw[ql,QS];cases e:(cellsFrom n names []).lookup x with
 | some d=>exact absurd (vG _ _<|DK e).1 h
 | none=>rfl
variable{builtins globals:Addr}{outer:Env}{code:Value}{func:Option Addr}{closure:List (Str×Addr)}
def k1k{Q:Env->Shared->Prop}
  (hQ : ∀ h', h'.Ns ↑s (λ_ => none) → (∀ b o, s.heap.get? b = some o → h'.get? b = some o) → CellsOk h' (↑s + 1) (cellsFrom (↑s + 1) scope.names []) →
   Q (newEnv scope ↑s globals (cellsFrom (↑s+1) scope.names closure) qual func code (some outer) builtins) {s with heap:=h'}) :
  wpAny M A (newFunctionEnv scope globals closure [] qual func code (some outer) builtins) Q E s:=by
 simp only[newFunctionEnv,Option.isSome_some,CZ];refine BJ<|QL<|BJ (wpAny_layCells _ (λname kind cells=>by cases hkc:kind == NameKind.cell <;> simp[hkc]) _ _ _ _ ?_);have ok:=cellsFrom_ok scope.names (s.heap.push {cls:= .type "dict",data:= .dict #[]}) (↑s+1) [] ⟨λ_ _ hm=>(nomatch hm),List.Pairwise.nil⟩ (by rw[Di];exact An _);rw[Di]at ok;rw[show({s with heap:=s.heap.push {cls:= .type "dict",data:= .dict #[]}}:Shared).heap.objs.size=↑s+1 from Di ..];rw[List.forIn_nil];exact BJ<|BK<|BK<|hQ _ ((Heap.Ns.new s.heap<|.type "dict").keeps<|pushCells_keeps _ _) (λb o e=>pushCells_keeps _ _ b o<|Aj _ e) ok
def ng(sc scope:Scope)(N N':Ð):Bool:=
 (match scope.kind with | .function=>true | _=>false) &&
 scope.names.all (λy=>match y.2 with
  | .cell=>(match scope.names.lookup y.1 with | some .cell=>true | _=>false)
  | .local=>(match scope.names.lookup y.1 with | some .local=>true | _=>false)
  | .free=>(match sc.names.lookup y.1 with | some .cell=>true | some .free=>true | _=>false) && (match scope.names.lookup y.1 with | some .free=>true | _=>false)
  | _=>true) &&
 (List.range N'.length).all λi => match N'[i]? with
  | none=>true
  | some x=>match scope.names.lookup x with
   | some .local=>decide (N.length<=i)
   | some .cell=>decide (N.length<=i)
   | some .free=>decide (N[i]?≈x)
   | _=>true
structure cH(sc scope:Scope)(N N':Ð):Prop where
 kind:scope.kind = .function
 cell:∀ y∈scope.names,y.2 = .cell->scope.names.lookup y.1=some .cell
 names:∀ y∈scope.names,y.2 = .local->scope.names.lookup y.1=some .local
 free:∀ y∈scope.names,y.2 = .free->sc.names.lookup y.1=some .cell\/sc.names.lookup y.1=some .free
 P':∀ y∈scope.names,y.2 = .free->scope.names.lookup y.1=some .free
 own:∀i x,N'[i]?≈x->scope.names.lookup x=some .local->N.length<=i
 F8:∀i x,N'[i]?≈x->scope.names.lookup x=some .cell->N.length<=i
 out:∀(i:Nat) x,N'[i]?≈x->scope.names.lookup x=some .free->N[i]?≈x
variable{N':Ð}{sc:Scope}
def cH.of{N:Ð}(h:ng sc scope N N'=true):cH sc scope N N':=by
 unfold ng at h;rw[Cb,Cb]at h;obtain⟨⟨h1,h2⟩,h3⟩:=h;have qm:=Ej.mp h2;have F9:=Ej.mp h3;refine⟨?_,λy hy e=>?_,λy hy e=>?_,λy hy e=>?_,λy hy e=>?_,λi x hi e=>?_,λi x hi e=>?_,λi x hi e=>?_⟩
 ·revert h1;cases scope.kind <;> intro h1 <;> first | rfl | cases h1
 ·have q:=qm y hy;rw[e]at q;simp only at q
  split at q
  ·assumption
  ·cases q
 ·have q:=qm y hy;rw[e]at q;simp only at q
  split at q
  ·assumption
  ·cases q
 ·have q:=qm y hy;rw[e]at q;simp only at q;rw[Cb]at q;have q:=q.1
  split at q
  ·exact .inl<|by assumption
  ·exact .inr<|by assumption
  ·cases q
 ·have q:=qm y hy;rw[e]at q;simp only at q;rw[Cb]at q;have q:=q.2
  split at q
  ·assumption
  ·cases q
 ·have q:=F9 i<|Bo.mpr (Ac.mp hi).1;rw[hi]at q;simp only[e]at q;exact BX q
 ·have q:=F9 i<|Bo.mpr (Ac.mp hi).1;rw[hi]at q;simp only[e]at q;exact BX q
 ·have q:=F9 i<|Bo.mpr (Ac.mp hi).1;rw[hi]at q;simp only[e]at q;exact BX q
variable{m:Ñ}{h₁:Heap}{fp:↥9}
theorem q2g(I:↥3)(ck:cH X.env.scope scope X.N N')(hl:N'.length=X.N.length+n)
  (y4:h₁.Ns ↑s m) (old:∀ b o,s.heap.get? b≈o->h₁.get? b≈o) (oM:CellsOk h₁ (↑s+1)<|cellsFrom (↑s+1) scope.names [])
  (oO:∀ b∈fp,cr X O H b/\b < ↑s) :
  Inv (fY X N' scope (cellsFrom (↑s+1) scope.names<|↥10 []) ↑s s H fp) [] (σ++List.replicate n none) H {s with heap:=h₁,toks:=t'}:=by
 have sub:∀ x c,(↥10 []).lookup x≈c->↥11≈c:=λx c e=>FO _ _ _ (λ_ _ z=>by simp at z) x c<|DK e;have both:∀ x c,(cellsFrom (↑s+1) scope.names<|↥10 []).lookup x≈c->((x,c)∈cellsFrom (↑s+1) scope.names []/\↑s+1<=c)\/↥11≈c:=λx c e=>by
  rcases P9 e with z | z
  ·exact .inl z
  ·exact .inr<|sub x c z
 have oP:∀ x c,↥11≈c->c < ↑s:=λx c e=>by
  obtain⟨v,o,ho,_⟩:=I.cell x c e;exact Av ho
 have fre:H ↑s=none:=I.aH.fresh<|An _;have kindOf:∀{x:Str} {k':NameKind},(relabel scope X.env).names.lookup x≈k'->∃ k,scope.names.lookup x≈k/\(k'=k\/(k = .free/\k' = .cell)):=λz=>PF z;have Qa:∀ x,scope.names.lookup x=some .free->(cellsFrom (↑s+1) scope.names<|↥10 []).lookup x=(↥10 []).lookup x:=λx e=>k9v λhm=>by
  have:=ck.cell _ hm rfl;rw[e]at this;cases this
 have F':∀ x,scope.names.lookup x=some .cell->∃ c,(cellsFrom (↑s+1) scope.names<|↥10 []).lookup x≈c:=λx e=>Fa.mp<|JL _ _ _<|.inl e;have ok':(fY X N' scope (cellsFrom (↑s+1) scope.names<|↥10 []) ↑s s H fp).Ok:=by
  refine⟨I.ok.mod,ck.kind,I.ok.glob,I.ok.blt,An _,λx y c e1 e2=>?_,λx hx=>?_,λx c hf e=>?_,I.ok.hd,I.ok.frames,.inl rfl,λb hb=>⟨Bw (oO b hb).2,λx c e=>?_⟩,
   I.bs,Ch I.ok.oA I.sz,λb o e hb=>?_,λb hb hf=>?_,I.stack,I.dW⟩
  ·rcases both x c e1 with z1 | z1
   ·rcases both y c e2 with z2 | z2
    ·exact name_of_addr oM.apart z1.1 z2.1
    ·exact absurd (oP y c z2)<|Nat.not_lt.mpr<|Eu z1.2
   ·rcases both y c e2 with z2 | z2
    ·exact absurd (oP x c z1)<|Nat.not_lt.mpr<|Eu z2.2
    ·exact I.ok.inj x y c z1 z2
  ·have j7:(relabel scope X.env).names.lookup x=some .cell\/(relabel scope X.env).names.lookup x=some .free:=hx;have:∃ k,scope.names.lookup x≈k/\(k = .free\/k = .cell):=by
    rcases j7 with z | z
    ·obtain⟨k,e,r⟩:=kindOf z
     rcases r with r | ⟨r,_⟩
     ·exact⟨k,e,.inr r.symm⟩
     ·exact⟨k,e,.inl r⟩
    ·obtain⟨k,e,r⟩:=kindOf z
     rcases r with r | ⟨r,_⟩
     ·exact⟨k,e,.inl r.symm⟩
     ·exact⟨k,e,.inl r⟩
   obtain⟨k,e,rfl | rfl⟩:=this
   ·have hm:=DK e;obtain⟨c,hc⟩:=I.ok.has x<|ck.free _ hm rfl;obtain⟨d,hd⟩:=FU<|FR scope.names X.env.cells [] x c hm hc;exact⟨d,(Qa x e).trans hd⟩
   ·exact F' x e
  ·have hx:scope.names.lookup x=some .cell:=by
    have zq:(match scope.names.lookup x with | some .cell=>true | _=>false)=true:=hf
    split at zq
    ·assumption
    ·cases zq
   have e':(cellsFrom (↑s+1) scope.names<|↥10 []).lookup x≈c:=e;have q1:=Fa.mp<|JL scope.names (↑s+1) []<|.inl hx;obtain⟨d,hd⟩:=q1;rw[ql,QS,hd]at e';have e2:d=c:=Option.some.inj e';have:=(vG _ _<|DK hd).2;rw[<- e2];exact Eu this
  ·have e':(cellsFrom (↑s+1) scope.names<|↥10 []).lookup x≈c:=e
   rcases both x c e' with z | z
   ·have h1:=(oO b hb).2;have h2:=z.2;exact λk=>absurd h1<|Nat.not_lt.mpr<|by rw[<- k];exact Eu h2
   ·exact(oO b hb).1.2.2.2.2.1 x c z
  ·have:=(oO b hb).1.2.2.2.1
   rcases this with z | z
   ·exact I.ok.kA b o e z
   ·exact absurd (Bq (Av e)<|Ch I.ok.oA z)<|De _
  ·rcases Ai.mp (I.fV b hf)with z | z
   ·exact(oO b hb).1.2.1 z
   ·exact(oO b hb).1.2.2.1 z
 refine⟨ok',rfl,I.bare,Un.kept old,⟨m,y4,λi x v e1 e2 e3=>?_⟩,λx c e=>?_,fre,λx c e=>?_,λp hp=>absurd hp (by simp[fY]),I.aH.kept old,?_⟩
 ·have hi:i < σ.length:=by
   by_cases hi:i < σ.length
   ·exact hi
   ·rw[Bd ⋯,Fc]at e2
    split at e2 <;> cases e2
  rw[Ax hi]at e2;have qo:N'[i]?≈x:=e1;have vis:∃ k',(relabel scope X.env).names.lookup x≈k'/\(k' = .local\/k' = .cell\/k' = .free):=by
   rcases e3 with z | z | z
   ·exact⟨_,z,.inl rfl⟩
   ·exact⟨_,z,.inr<|.inl rfl⟩
   ·exact⟨_,z,.inr<|.inr rfl⟩
  obtain⟨k',GA,qp⟩:=vis;obtain⟨k,ek,r⟩:=kindOf GA;have kf:k = .free:=by
   rcases r with r | ⟨r,_⟩
   ·subst r
    rcases qp with z | z | z
    ·subst z;have:=ck.own i x qo ek;rw[I.len]at hi;omega
    ·subst z;have:=ck.F8 i x qo ek;rw[I.len]at hi;omega
    ·exact z
   ·exact r
  subst kf;have hm:=DK ek;have hxN:=ck.out i x qo ek;obtain⟨m0,GH,nh⟩:=I.loc;have kx:=ck.free _ hm rfl;obtain⟨u,ru,lk⟩:=nh i x v hxN e2 (by rcases kx with z | z;exact .inr<|.inl z;exact .inr<|.inr z);refine⟨u,ru,.inr ⟨?_,?_⟩⟩
  ·rcases r with r | ⟨_,r⟩
   ·subst r;exact .inr GA
   ·subst r;exact .inl GA
  ·rcases lk with ⟨k1,_⟩ | ⟨_,c,hc,i5⟩
   ·have Qb:X.env.scope.names.lookup x=some .local:=k1
    rcases kx with z | z
    ·rw[Qb]at z;cases z
    ·rw[Qb]at z;cases z
   ·have qt:=FR scope.names X.env.cells [] x c hm hc;obtain⟨d,hd⟩:=FU qt;have:d=c:=Option.some.inj<|(sub x d hd).symm.trans hc;subst this;obtain⟨o,ho,jH⟩:=i5;exact⟨d,(Qa x ek).trans hd,o,old _ _ ho,jH⟩
 ·have e':(cellsFrom (↑s+1) scope.names<|↥10 []).lookup x≈c:=e
  rcases both x c e' with z | z
  ·exact⟨none,(oM.empty x c z.1).1⟩
  ·obtain⟨v,o,ho,jH⟩:=I.cell x c z;exact⟨v,o,old _ _ ho,jH⟩
 ·have e':(cellsFrom (↑s+1) scope.names<|↥10 []).lookup x≈c:=e
  rcases both x c e' with z | z
  ·exact I.aH.fresh<|Eu z.2
  ·exact I.cD x c z
 ·rw[Ag,Fp,I.len];exact hl.symm
structure Clause(e:Expr)(d:Nat)(tg iter:Expr)(ifs:Ó)(acc:Value)(env:Env)(inner:Sem Unit):Prop where
 at':(clausesOf e)[d]?=some ⟨tg,iter,ifs,0⟩
 quiet:∀ it,(Code.compLoop e d it acc env).quiet=true
 den:∀(U:Program) (w:World) it,(model U w).den (.compLoop e d it acc env)=(compTurn e d it acc env).onRaise (λx=>do noteFrame x env;theTreesLotGoes x)
 und:∀(A:Around) it,A.under (.compLoop e d it acc env)=A
 GI:∀(U:Program) (w:World) it,(model U w).den (.compStart e d it acc env)=(compStart e d it acc env).onRaise (λx=>do noteFrame x env;standAt theWindowsPlace)
 GU:∀(A:Around) it,A.under (.compStart e d it acc env)=A
 turn:∀ it,compTurn e d it acc env=(do
   standAt iter.pos
   match <- pyNext it with
   | none=>pure<|.done .next
   | some v=>
    letOwnedTupleGo tg it v
    assign tg env v
    let mut ok:=true
    for c in ifs do
     if ok then ok <- isTrue c env<|eval c env
    if ok then
     inner
    again (.compLoop e d it acc env))
variable{inner:Sem Unit}{d:Nat}
theorem j47{it:Value}(C:Clause e d tg iter ifs acc env inner)(I:Nat->Shared->Prop)
  (turn : ∀ n s, I n s → ↥1 (pyNext it) (λr À => match r with
   | none=>R (.ok .next) À
   | some v=>↥1 (letOwnedTupleGo tg it v) (λ_ s₁'=>↥1 (assign tg env v) (λ_ Á=>
     ↥1 (forIn ifs true λc r=>if r=true then do let ok <- isTrue c env<|eval c env;pure (ForInStep.yield ok)else pure (ForInStep.yield r)) (λok Â=>
      if ok=true then ↥1 inner (λ_ Ã=>∃ m,m < n/\I m Ã) (notedBy (model U w) A env λe s'=>R (.error e) s') Â
      else ∃ m,m < n/\I m Â) (notedBy (model U w) A env λe s'=>R (.error e) s') Á) (notedBy (model U w) A env λe s'=>R (.error e) s') s₁') (notedBy (model U w) A env λe s'=>R (.error e) s') À) (notedBy (model U w) A env λe s'=>R (.error e) s') s)
  (n:Nat) (h:I n s) :
  codeAny (model U w) A (.compLoop e d it acc env) R s:=by
 refine codeAny_loop (C.quiet it) I (λn s hI=>?_) n h;rw[C.und,C.den];refine wpAny_noted ?_;rw[C.turn];refine BJ<|GX<|BJ<|CW (turn n s hI) (λr À h₁=>?_) λ_ _ h'=>h';cases r with
 | none=>exact BK h₁
 | some v=>
  refine BJ<|CW h₁ (λ_ s₁' h₁'=>?_) λ_ _ h'=>h';refine BJ<|CW h₁' (λ_ Á Ä=>BJ<|CW Ä (λok Â Å=>?_) λ_ _ h'=>h') λ_ _ h'=>h';cases ok with
  | false=>exact BK ⟨rfl,Å⟩
  | true=>exact BJ<|CW Å (λ_ Ã Æ=>BK ⟨rfl,Æ⟩) λ_ _ h'=>h'
def j4m{it:Value}(C:Clause e d tg iter ifs acc env inner)
  (h0:codeAny (model U w) A (.compLoop e d it acc env) R s)
  (h:↥1 (pyIter it) (λGV s'=>codeAny (model U w) A (.compLoop e d GV acc env) R s') (notedBy (model U w) A env λx s'=>R (.error x) s') s) :
  codeAny (model U w) A (.compStart e d it acc env) R s:=by
 refine KJ ?_;rw[C.GU,C.GI];refine wpAny_notedAt ?_;unfold compStart;rw[C.at'];show wpAny _ _ (ask >>= _) _ _ s;refine BJ<|JX<|wpAny_ite ?_
 split
 ·first
   | exact BJ<|BK<|BK<|And.intro (C.quiet _) h0
   | exact BK<|And.intro (C.quiet _) h0
 ·first
   | exact BJ<|HX<|BJ<|GX<|BJ<|CW h (λGV s' h'=>BK<|And.intro (C.quiet _) h') λ_ _ x=>x
   | (refine BJ<|HX ?_;show wpAny _ _ (standAt iter.pos >>= _) _ _ s;exact BJ<|GX<|BJ<|CW h (λGV s' h'=>BK<|And.intro (C.quiet _) h') λ_ _ x=>x)
structure l7(X:Cx)(m:Sem Unit)(σ:St)(H:Hp)(Q:St->Hp->Prop):Prop where
 run:∀(O:Ï) (s:Shared),↥3->↥2 m (λ_ s'=>∃ σ' H',Inv X O σ' H' s'/\Q σ' H') X.xe s
def iK(X:Cx)(tg:Expr)(ifs:Ó)(inner:Sem Unit)(J:It)(after:St->Hp->Prop)(σ:St)(H:Hp):Prop:=
 ∃ W:Nat->Nat->St->Hp->Prop,(∃ m,W 0 m σ H)/\∀ i m σ' H',W i m σ' H' ->
  (J.stop i H' ∧ after σ' H') ∨ (J.go i H' ∧ ∃ N : St → Hp → Prop, (∀ σ' H', N σ' H' → ∃ m', m' < m ∧ W (i + 1) m' σ' H') ∧ ∀ x H2, J.uX i H' x H2 → Eg X tg x σ' H2 λσ2 H3 => Ei X ifs σ2 H3 λb H4 =>
   if b=true then l7 X inner σ2 H4 N else N σ2 H4)
variable{J:It}{tn:Nat->Heap->Prop}
def zu(gH:X.xe=λ_ _=>False)(hc:X.calm=true)(C:Clause e d tg iter ifs acc X.env inner)
  {it:Addr}    {after:St->Hp->Prop}  (I:↥3) (T:Turn X.U X.w X.K tg J fp it tn) (st:tn 0 s.heap) (hf:∀ b∈fp,cr X O H b) (h:iK X tg ifs inner J after σ H)
  (hR:∀ σ' H' s',Inv X O σ' H' s'->after σ' H'->R (.ok .next) s') :
  codeAny (model X.U X.w) X.A (.compStart e d (.ref it) acc X.env) R s:=by
 obtain⟨W,⟨m0,w0⟩,turn⟩:=h;have stat:∀{H':Hp},(∀ b∈fp,H' b=none)->∀ b∈fp,cr X O H' b:=λhn b hb=>⟨hn b hb,(hf b hb).2⟩;have loop:codeAny (model X.U X.w) X.A (.compLoop e d (.ref it) acc X.env) R s:=by
  refine j47 C (λk s'=>∃ i σ' H',Inv X O σ' H' s'/\tn i s'.heap/\(∀ b∈fp,H' b=none)/\W i k σ' H') ?_ m0 ⟨0,σ,H,I,st,λb hb=>(hf b hb).1,w0⟩;rintro k s4 ⟨i,σ4,H4,J4,Qc,Qd,w4⟩
  rcases turn i k σ4 H4 w4 with ⟨stop,qn⟩ | ⟨go,N,hN,step⟩
  ·have d1:=T.done X rfl rfl rfl hc i O s4 σ4 H4 (λ_ _=>False) J4 (stat Qd) Qc stop;refine jE d1 λr s5 ⟨hr,I5⟩=>?_;subst hr;exact hR _ _ _ I5 qn
  ·have d1:=T.item X rfl rfl rfl hc i O s4 σ4 H4 (λ_ _=>False) J4 (stat Qd) Qc go;refine jE d1 λr s5 ⟨u,hr,h5⟩=>?_;subst hr;refine jE h5 λ_ s6 ⟨x,H6,I6,r6,y6,G0,fr6⟩=>?_;have I6':=I6.pinned (stat fr6)<|T.obj _ _ G0;have again:∀{σ7:St} {H7:Hp} {s7:Shared},Inv X (O++uY fp s6.heap) σ7 H7 s7->N σ7 H7->∃ m,m < k/\∃ i σ' H',Inv X O σ' H' s7/\tn i s7.heap/\(∀ b∈fp,H' b=none)/\W i m σ' H':=λ{σ7 H7 s7} I7 n7=>by
    obtain⟨m',hm,w7⟩:=hN σ7 H7 n7;refine⟨m',hm,i+1,σ7,H7,I7.cZ,T.keep _ _ _ G0 λb hb o e=>(I7.pin (b,o)<|Au _<|Au _<|yT hb e).1,λb hb=>?_,w7⟩;obtain⟨o,e,d⟩:=T.obj _ _ G0 b hb;exact(I7.pin (b,o)<|Au _<|Au _<|yT hb e).2.1
   have a1:=(step x H6 y6).run _ s6 u I6' r6;rw[gH]at a1;refine jE a1 λ_ s7 ⟨σ7,H7,I7,q7⟩=>?_;have a2:=q7.run _ s7 I7;rw[gH]at a2;refine jE a2 λok s8 ⟨H8,I8,q8⟩=>?_;cases ok with
   | false=>
    rw[BL Aw]at q8 ⊢;exact again I8 q8
   | true=>
    rw[BP rfl]at q8 ⊢;have a3:=q8.run _ s8 I8;rw[gH]at a3;exact jE a3 λ_ s9 ⟨σ9,H9,I9,q9⟩=>again I9 q9
 exact j4m C loop<|T.self _ 0 _ _ _ st loop
variable{RR:Value->Addr->Result->Shared->Prop}{s2:Shared}{u0:Addr->HO}{newAcc:Sem Value}
def Qe{o0:Obj}{inner:Value->Env->Sem Unit}{it:Addr}{Q:VK}
  (fm:∀(Q:Í) (E:Í) (s:Shared),Q (.ref ↑s) {s with heap:=s.heap.push o0}->↥2 newAcc Q E s) (iI:∀(H:Hp) (h:Heap),sysModules < h.objs.size->aB X.U X.w H (h.push o0) h.objs.size (u0 h.objs.size))
  (hc:X.calm=true) (ck:cH X.env.scope scope X.N N') (hl:N'.length=X.N.length+n) (hC:∀ acc env,Clause e 0 tg iter ifs acc env<|inner acc env)
  (I2:Inv X O σ H2 s2) (T:Turn X.U X.w X.K tg J fp it tn) (gE:tn 0 s2.heap) (f2:∀ b∈fp,cr X O H2 b)
  (q:∀ D,H2 D=none->∀ cl C æ ç ex,iK ↥13 tg ifs (inner (.ref D)<|compEnvC scope cl C X.env) J (λ_ H'=>Q (.ref D) H') (σ++List.replicate n none)<|upd H2 D<|u0 D)
  (G':∀ D C H' s' m,Inv X O σ H' s'->s'.heap.Ns C m->H' C=none->C≠X.env.locals->X.æ.heap.objs.size<=C->(∀ x c,↥11≈c->c≠C)->(∀ p∈X.pn++O,p.1≠C)->Q (.ref D) H'->RR (.ref D) C (.ok .next) s') :
  ↥2 newAcc (λacc Â=>↥2 (newFunctionEnv scope X.env.globals (↥10 []) [] X.env.qual none .none<|some X.env) (λkH Ã=>
   codeAny (model X.U X.w) X.A (.compStart e 0 (.ref it) acc {kH with scope:=relabel scope X.env}) (RR acc kH.locals) Ã) E Â) E s2:=by
 refine fm _ _ _<|k1k λh₁ È É Ê=>?_;have hD:H2 ↑s2=none:=I2.aH.fresh<|An _;have q0:=q ↑s2 hD;have fl:∀ b∈fp,b < ↑s2:=λb hb=>by
  obtain⟨o,e,_⟩:=T.obj 0 _ gE b hb;exact Av e
 have I3:Inv X O σ (upd H2 ↑s2<|u0 ↑s2) {s2 with heap:=s2.heap.push o0}:=
  I2.laid (t':=s2.toks) (λb o e=>Aj _ e) (An _) (iI _ _ I2.big)
 generalize zv:({s2 with heap:=s2.heap.push o0}:Shared)=s3 at I3 È É Ê ⊢;have hz3:↑s3=↑s2+1:=by rw[<- zv];exact Di ..
 have Hq:∀ b o,s2.heap.get? b≈o->s3.heap.get? b≈o:=λb o e=>by rw[<- zv];exact Aj _ e
 have old:∀ b o,s3.heap.get? b≈o->h₁.get? b≈o:=É;have f3:∀ b∈fp,cr X O (upd H2 ↑s2<|u0 ↑s2) b/\b < ↑s3:=λb hb=>by
  refine⟨⟨?_,(f2 b hb).2⟩,by rw[hz3];exact Ci<|fl b hb⟩;rw[aw<|Bw<|fl b hb];exact(f2 b hb).1
 have I4:=λ(t':Nat)=>q2g (N':=N') (scope:=scope) (n:=n) (fp:=fp) (h₁:=h₁) (t':=t') I3 ck hl È old Ê f3;generalize hX:fY X N' scope (cellsFrom (↑s3+1) scope.names<|↥10 []) ↑s3 s3 (upd H2 ↑s2<|u0 ↑s2) fp=X' at I4;have eP:X'.U=X.U:=by rw[<- hX];rfl
 have ew:X'.w=X.w:=by rw[<- hX];rfl
 have eK:X'.K=X.K:=by rw[<- hX];rfl
 have eA:X'.A=X.A:=by rw[<- hX];rfl
 have eE:X'.env=compEnvC scope (cellsFrom (↑s3+1) scope.names<|↥10 []) ↑s3 X.env:=by rw[<- hX];rfl
 have ec:X'.calm=true:=by rwa[<- hX]
 have Om:X'.xe=λ_ _=>False:=by rw[<- hX];rfl
 have stat:∀{H':Hp},(∀ b∈fp,H' b=none)->∀ b∈fp,cr X' [] H' b:=λhn b hb=>by
  refine⟨hn b hb,?_,?_,?_,?_,?_⟩
  ·rw[eE];exact Bw (f3 b hb).2
  ·rw[<- hX];intro hf
   rcases Ai.mp (I3.fV b hf)with z | z
   ·exact(f3 b hb).1.2.1 z
   ·exact(f3 b hb).1.2.2.1 z
  ·rw[<- hX];exact .inl hb
  ·rw[eE];intro x c e
   rcases P9 e with z | z
   ·exact λk=>absurd (f3 b hb).2<|Nat.not_lt.mpr<|by rw[<- k];exact Eu z.2
   ·exact(f3 b hb).1.2.2.2.2.1 x c<|FO _ _ _ (λ_ _ z=>by simp at z) x c<|DK z
  ·rw[<- hX];intro p hp;exact absurd hp<|by simp[fY]
 have fin:∀{σ':St} {H':Hp} {s':Shared},Inv X' [] σ' H' s'->Q (.ref ↑s2) H'->RR (.ref ↑s2) ↑s3 (.ok .next) s':=λ{σ' H' s'} I' q'=>by
  obtain⟨m',yQ,_⟩:=id I'.loc;rw[eE]at yQ;have hos:s'.os=s3.os:=by have:=I'.os;rwa[<- hX]at this
  have hun:Un (fe X.stack) fp (upd H2 ↑s2<|u0 ↑s2) H' s3.heap s'.heap:=by have:=I'.Z;rwa[<- hX]at this
  have aH:cn X.U X.w H' s'.heap:=by have:=I'.aH;rwa[eP,ew]at this
  have IX:Inv X O σ H' s':=I3.call' (ch:=fp) hos hun aH I'.bare λb hb=>⟨(f3 b hb).1.2.2.2.1,(f3 b hb).1.2.1,(f3 b hb).1.2.2.2.2.1,(f3 b hb).1.2.2.2.2.2⟩;have j8:=I'.free;rw[eE]at j8;refine G' _ _ H' s' m' IX yQ j8 (Cz I3.lt) I3.sz (λx c e z=>?_) (λp hp z=>?_) q'
  ·obtain⟨v,o,ho,_⟩:=I3.cell x c e;exact absurd (Av ho)<|by rw[z];exact De _
  ·exact absurd (Av (I3.pin p hp).1)<|by rw[z];exact De _
 have fs0:∀ b∈fp,cr X' [] (upd H2 ↑s2<|u0 ↑s2) b:=stat λb hb=>(f3 b hb).1.1;have q1:iK X' tg ifs (inner (.ref ↑s2) X'.env) J (λ_ H'=>Q (.ref ↑s2) H') (σ++List.replicate n none) (upd H2 ↑s2<|u0 ↑s2):=by
  rw[eE,<- hX];exact q0 _ _ _ _ _
 have T':Turn X'.U X'.w X'.K tg J fp it tn:=by rwa[eP,ew,eK]
 have fin2:=zu (s:={s3 with heap:=h₁,toks:=s3.toks}) Om ec (hC (.ref ↑s2) X'.env) (I4 s3.toks) T' (T.keep 0 _ _ gE λb _ o e=>old b o<|Hq b o e) fs0 q1 (R:=RR (.ref ↑s2) ↑s3) λσ' H' s' I' a'=>fin I' a';rwa[eP,ew,eA,eE]at fin2
def emit(elt:Expr)(acc:Value)(env:Env):Sem Unit:=do let _ <- call (.builtin "list.append") [acc,<- eval elt env]
section
variable{pos:Pos}
def q4k:Clause (.ListComp elt [⟨tg,iter,ifs,0⟩] scope pos) 0 tg iter ifs acc env (emit elt acc env):=⟨rfl,λ_=>rfl,λ_ _ _=>rfl,λ_ _=>rfl,λ_ _ _=>rfl,λ_ _=>rfl,λ_=>rfl⟩
def Qf{D:Addr}{Q:St->Hp->Prop} (h:Ev X elt σ H λv H1=>∃ ys,H1 D≈.lst ys/\ys.length < sizeLine/\Q σ (upd H1 D<|.lst<|ys++[v])):l7 X (emit elt (.ref D) X.env) σ H Q:=by
 refine⟨λO s I=>?_⟩;unfold emit;refine BJ<|aO (h.run O s I) λv s1 ⟨x,H1,I1,r1,ys,hy,hz,q⟩=>?_;refine BJ<|aO (Pj (X:=X) _ s1 σ H1 (.ref D) [x] (.ref D) [v] (λ_ H'=>Q σ H') I1 rfl (.cons r1 .nil) ⟨_,ys,x,rfl,rfl,hy,hz,q⟩) λ_ s2 ⟨_,H2,I2,_,q2⟩=>BK ⟨σ,H2,I2,q2⟩
def Eg.mono{R R':St->Hp->Prop}(h:Eg X elt v σ H R)(f:∀ σ' H',R σ' H'->R' σ' H'):Eg X elt v σ H R':=⟨λO s u I r=>aO (h.run O s u I r) λ_ _ ⟨σ',H',I',q⟩=>⟨σ',H',I',f _ _ q⟩⟩
def Ei.mono(h:Ei X ifs σ H T)(f:∀ b H',T b H'->T' b H'):Ei X ifs σ H T':=⟨λO s I=>aO (h.run O s I) λ_ _ ⟨H',I',q⟩=>⟨H',I',f _ _ q⟩⟩
theorem q6g{D:Addr}{after:Hp->Prop}(h:lZ X N' scope tg ifs elt J D after σ H)(cl:List<|Str×Addr)(C:Addr)(æ:Shared)(ç:Hp)(ex:↥9):iK ↥13 tg ifs (emit elt (.ref D)<|compEnvC scope cl C X.env) J (λ_ H'=>after H') σ H:=by
 obtain⟨W,w0,t⟩:=h;refine⟨W,w0,λi m σ' H' w=>(t i m σ' H' w).imp id λ⟨g,N,hN,st⟩=>⟨g,N,hN,λx H2 y=>(st x H2 y cl C æ ç ex).mono λσ2 H3 h3=>(h3 cl C æ ç ex).mono λb H4 h4=>?_⟩⟩;cases b with
 | true=>
  rw[BP rfl]at h4 ⊢;exact Qf (X:=fY X N' scope cl C æ ç ex)<|h4 cl C æ ç ex
 | false=>
  rw[BL Aw]at h4 ⊢;exact h4
def Qg{it:Addr}{Q:VK}
  (hc:X.calm=true) (ck:cH X.env.scope scope X.N N') (hl:N'.length=X.N.length+n) (I2:Inv X O σ H2 s2) (T:Turn X.U X.w X.K tg J fp it tn) (gE:tn 0 s2.heap) (f2:∀ b∈fp,cr X O H2 b)
  (q:∀ D,H2 D=none->lZ X N' scope tg ifs elt J D (λH'=>Q (.ref D) H') (σ++List.replicate n none) (upd H2 D<|.lst []))
  (G':∀ D C H' s' m,Inv X O σ H' s'->s'.heap.Ns C m->H' C=none->C≠X.env.locals->X.æ.heap.objs.size<=C->(∀ x c,↥11≈c->c≠C)->(∀ p∈X.pn++O,p.1≠C)->Q (.ref D) H'->RR (.ref D) C (.ok .next) s') :
  ↥2 (newList []) (λacc Â=>↥2 (newFunctionEnv scope X.env.globals (↥10 []) [] X.env.qual none .none<|some X.env) (λkH Ã=>
   codeAny (model X.U X.w) X.A (.compStart (.ListComp elt [⟨tg,iter,ifs,0⟩] scope pos) 0 (.ref it) acc {kH with scope:=relabel scope X.env}) (RR acc kH.locals) Ã) E Â) E s2:=
 Qe (newAcc:=newList []) (o0:={cls:= .type "list",dict:=none,data:= .seq ([]:Ò).toArray}) (u0:=λ_=> .lst []) (λ_ _ _ h=>DN h<|by show(0:Nat)<=sizeLine;exact Bx _) (λ_ _ _=>⟨Bx _,[],0,.nil,At _ rfl⟩) hc ck hl (λ_ _=>q4k) I2 T gE f2 (λD hD=>q6g<|q D hD) G'
end
section
variable{pos p:Pos}{Q:VK}{rest:Ô}
def ja(h:T true H):Ei X [] σ H T:=⟨λO s I=>Z6 O s σ H T I h⟩
def oQ(h:Et X c σ H T):Ei X [c] σ H T:=⟨λO s I=>Z7 m7 O s σ H T I h⟩
def jb(sc:Scope)(N N':Ð)(n:Nat)(hi:PI X tg iter wi)
  (h:wi σ H λJ H1=>∀ D,H1 D=none->lZ X N' scope tg ifs elt J D (λH'=>Q (.ref D) H') (σ++List.replicate n none) (upd H1 D<|.lst []))
  (hc:X.calm=true:=by rfl) (jI:X.env.scope=sc:=by rfl) (hN:X.N=N:=by rfl) (hk:ng sc scope N N'=true:=by decide +kernel) (hl:N'.length=N.length+n:=by rfl)
  (hs:∀ x,foldedSetIterable iter X.env x=pure x:=by intro _;rfl):Ev X (.ListComp elt [⟨tg,iter,ifs,0⟩] scope pos) σ H Q:=by
 refine⟨λO s I=>?_⟩;subst jI hN;have ck:=cH.of hk;rw[eval_ListComp];refine KR rfl hs (FL λx hx hf=>I.ok.has x.1<|ck.free x hx hf) ck.kind ck.names (aO (hi O s σ H _ I h) λv s1 h1=>aO h1 λoF s2 h2=>?_);obtain⟨it,fp,tn,J,H2,e,I2,T,gE,f2,q⟩:=h2;subst e;refine Qg hc ck hl I2 T gE f2 q ?_;intro D C H' s' m IX hn hC c1 c2 c3 c4 qq;exact⟨m,hn,λh' gZ=>⟨.ref D,H',IX.turned (λb o hb e=>gZ.extBut b o hb e) hC (CK<|CK c1) (.inr c2) c3 c4,rfl,qq⟩⟩
def q25(i:Nat){y:Str}{py vH:Pos}(sc:Scope)(N N':Ð)(n:Nat)(ni:X.N.Nodup)(hi:PI X tg iter wi)
  (h:wi σ H λJ H1=>∀ A,H1 A=none->lZ X N' scope tg ifs elt J A (λH'=>Run X rest D (σ.set i<|some<|.ref A) H') (σ++List.replicate n none) (upd H1 A<|.lst []))
  (hiN:X.N[i]?≈y:=by rfl) (hy:Loc X.env.scope y:=by first | exact Or.inl rfl | exact Or.inr rfl)
  (hsw:swapsWith (.ListComp elt [⟨tg,iter,ifs,0⟩] scope pos) (some<|.Name y py) vH.line X.env=pure true:=by rfl)
  (hc:X.calm=true:=by rfl) (jI:X.env.scope=sc:=by rfl) (hN:X.N=N:=by rfl) (hk:ng sc scope N N'=true:=by decide +kernel) (hl:N'.length=N.length+n:=by rfl)
  (hs:∀ x,foldedSetIterable iter X.env x=pure x:=by intro _;rfl) (hf:X.fn y=true\/X.env.scope.names.lookup y=some .local:=by first | exact .inl rfl | exact .inr rfl | assumption) :
  Run X (.Assign [.Name y py] (.ListComp elt [⟨tg,iter,ifs,0⟩] scope pos) vH :: rest) D σ H:=by
 refine lY (t:=λD' σ H=>wi σ H λJ H1=>∀ A,H1 A=none->lZ X N' scope tg ifs elt J A (λH'=>D'.nx (σ.set i<|some<|.ref A) H') (σ++List.replicate n none) (upd H1 A<|.lst [])) ?_ h;intro O s σ H D I h;subst jI hN;have ck:=cH.of hk;rw[exec_Assign_Name_used _ _ _ _ hsw];refine BJ<|GX<|BJ ?_;show wpAny _ X.A (do let _ <- comprehension (.ListComp elt [⟨tg,iter,ifs,0⟩] scope pos) scope X.env _ (newList []) false (eval iter X.env)<|some<|assign (.Name y py) X.env) _ _ s;refine BJ<|CW (KR rfl hs (FL λx hx hf=>I.ok.has x.1<|ck.free x hx hf) ck.kind ck.names
  (aO (hi O s σ H _ I h) λv s1 h1=>aO h1 λoF s2 h2=>?_)) (λ_ s' hq=>BK<|BK hq) λ_ _ e=>e
 obtain⟨it,fp,tn,J,H2,e,I2,T,gE,f2,q⟩:=h2;subst e;refine Qg (Q:=λx H1=>D.nx (σ.set i<|some x) H1) hc ck hl I2 T gE f2 q ?_;intro D' C H' s' m IX hn hC c1 c2 c3 c4 qq;show wpAny _ X.A (assign (.Name y py) X.env<|.ref D') _ _ _;refine wpAny_assign_Name<|Ou IX ni hiN hy (v:= .ref D') rfl (λqe I'' Hr=>?_) hf;obtain⟨a,Hr,ha⟩:=Hr;have hCa:C≠a:=by
  rcases ha with ha | ha
  ·rwa[ha]
  ·exact CK<|c3 _ _ ha
 refine⟨m,hn.sameBut Hr hCa,λh' gZ=>⟨_,H',I''.turned (t':=qe.toks) (λb o hb e=>gZ.extBut b o hb e) hC c1 (.inr c2) c3 c4,qq⟩⟩
end
structure aP(P:Program)(w:World)(K:PySem.W.Frag)(mg:Ñ)(Z:Heap)(k:Nat)(x:Str)(ps:Ð)(sp:Sp):Prop where
 ex:∃ f fd,↥4 k f fd ps sp/\Binds K fd ps []/\PySem.W.keepIn K (.ref f)=true/\mg x≈.ref f
def aP.mono{P:Program}{w:World}{K:PySem.W.Frag}{mg:Ñ}{Z:Heap}{j k:Nat}{x:Str}{ps:Ð}{sp:Sp}(h:↥6 j x ps sp)(le:j<=k):↥6 k x ps sp:=
 let ⟨f,fd,F,r⟩:=h.ex;⟨f,fd,F.mono le,r⟩
def bC{k:Nat}{Q:VK}{p pos:Pos}(G:aP X.U X.w X.K X.mg X.Z k x ps sp)(hr:bH k X.A)
  (h:Ea X (e :: es) σ H λvs H1=>sp vs H1 Q E0) (hg:Gl X x:=by rfl) (dN:(x == ("__debug__" : Str))=false:=by decide) (hs:noStar (e :: es)=true:=by rfl):Ev X (.Call (.Name x p) (e :: es) [] pos) σ H Q:=
 let ⟨_,_,F,b,kp,m⟩:=G.ex;P5 F hr m kp b kG h hg dN hs
theorem _root_.L2.bH.iL{k:Nat}(hr:bH k A):A.units+100 < cLine:=by have:=hr.un;omega
theorem _root_.L2.bH.u1{k:Nat}(hr:bH k A):A.units+1 < cLine:=by have:=hr.un;omega
def Df(K:PySem.W.Frag)(x:Str)(st:Stmt):Prop:=∃f fd,PySem.W.nsIn K mainGlobals x=some (⇑f)/\bB K x x st f fd
variable{sl:Array (Option Value)}
def vI{kV doc pm bL ct:Value}{od an:Option Addr}(a:PySem.W.nsIn K mainGlobals x=some (⇑f))
  (l:K.lookup f=some ⟨oc,od,.func<|PySem.W.fnOf x x (lV st) (gY st) (aW st) .none kV doc pm an bL ct,sl⟩) (c:PySem.W.codeIn K bL x=true) (k:PySem.W.keepIn K (.ref f)=true):Df K x st:=⟨f,_,a,ZJ l c k⟩
structure qu where
 f:Addr
 bL:Value
 A:Around
 outer:List Env
 s:Shared
 H:Hp
 E:XK
def Qh(N:Ð)(qual:Str)(scope:Scope)(P:Program)(w:World)(K:PySem.W.Frag)(mg:Ñ)(Z:Heap)(b:qu):Cx:=(dv bK P w K mg Z N qual scope b.f b.bL b.A b.outer b.s b.H b.E).sW
def En(Q:VK):Ends:={nx:=λ_ H'=>Q .non H',rt:=Q}
def bB.gb{N:Ð}{k:Nat}(F:bB K x qual st f fd)(S:ak N ps<|aW st)(len:∀ vs H Q E,sp vs H Q E->vs.length=ps.length)
  (cF:∀b H vs Q E,bH k (b.A.deeper<|envOfC qual (aW st) b.s.heap.objs.size b.f b.bL)->sp vs H Q E->Run (Qh N qual (aW st) P w K mg Z b) (gY st) (En Q) (start N vs) H):↥4 (k+1) f fd ps sp:=
 F.go S len λbL A outer s H vs Q E hr eS=>cF ⟨f,bL,A,outer,s,H,E⟩ H vs Q E hr eS
def Df.has{k:Nat}(d:Df K x st)(X:K.In h)(G:h.Ns mainGlobals mg)
  (hb:∀kV doc pm an bL ct us,us.length=ps.length->bindArgs (PySem.W.fnOf x x (lV st) (gY st) (aW st) .none kV doc pm an bL ct) ⟨us,[]⟩=pure (ps.zip us))
  (ok:∀{f}{fd},bB K x x st f fd->↥4 k f fd ps sp):↥6 k x ps sp:=
 let ⟨f,fd,a,F⟩:=d;⟨f,fd,ok F,F.binds hb,F.kp,MP X G a⟩
def Df.law{k:Nat}{y:Str}(d:Df K x st)(X:K.In h)(G:h.Ns mainGlobals mg)(Hs:mg x≈.ref fa)
  (hb:∀kV doc pm an bL ct s v,BindsTo s (PySem.W.fnOf x x (lV st) (gY st) (aW st) .none kV doc pm an bL ct) ⟨[v],[]⟩ [(y,v)])
  (ok:∀Z{f}{fd},bB K x x st f fd->↥4 k f fd [y] sp) :
  ∃ fd:FuncData,(∀s v,BindsTo s fd ⟨[v],[]⟩ [(y,v)])/\∀ Z:Heap,K.In Z->Z.Ns mainGlobals mg->↥4 k fa fd [y] sp:=by
 obtain⟨f,fd,a,F⟩:=d;have e:=Hs.symm.trans<|MP X G a;cases e;obtain⟨oc,od,kV,doc,pm,an,bL,ct,lU,rfl,lk,i4⟩:=id F.ex;exact⟨_,hb kV doc pm an bL ct,λZ _ _=>ok Z F⟩
variable{p:Ò->Prop}
theorem vJ{k:Nat}(f:∀a r,r.length=k->p (a :: r)):∀ us:Ò,us.length=k+1->p us
 | a :: r,h=>f a r<|Nat.succ.inj h
theorem vK(f:p []):∀ us:Ò,us.length=0->p us
 | [],_=>f
def cm{N P:Ð}(nd:N.Nodup:=by decide +kernel)(par:∀ x∈P,sc.names.lookup x=some .local\/sc.names.lookup x=some .cell:=by decide +kernel)(iF:∀ y∈sc.names,y.2 ≠ .free:=by decide +kernel)
  (kind:sc.kind = .function:=by rfl) (co:sc.isCoroutine=false:=by rfl) (gen:sc.isGenerator=false:=by rfl) (pre:N.take P.length=P:=by rfl):ak N P sc:=⟨kind,co,gen,nd,pre,par,iF⟩
def bB.gc{N:Ð}{k:Nat}(F:bB K x qual st f fd)(S:ak N ps<|aW st)
  (cF:∀b H vs Q E,bH k (b.A.deeper<|envOfC qual (aW st) b.s.heap.objs.size b.f b.bL)->sp vs H Q E->Run (Qh N qual (aW st) P w K mg Z b) (gY st) (En Q) (start N vs) H)
  (len:∀ vs H Q E,sp vs H Q E->vs.length=ps.length:=by intro vs H Q E h;repeat (first | (obtain⟨rfl,_⟩:=h;rfl) | obtain⟨_,h⟩:=h)):↥4 (k+1) f fd ps sp:=F.gb S len cF
def Df.hs{k:Nat}(d:Df K x st)(X:K.In h)(G:h.Ns mainGlobals mg)
  (ok:∀{f}{fd},bB K x x st f fd->↥4 k f fd ps sp)
  (hb:∀kV doc pm an bL ct us,us.length=ps.length->bindArgs (PySem.W.fnOf x x (lV st) (gY st) (aW st) .none kV doc pm an bL ct) ⟨us,[]⟩=pure (ps.zip us):=by intro _ _ _ _ _ _;(repeat (refine L2.vJ λ_=>?_));exact L2.vK rfl):↥6 k x ps sp:=d.has X G hb ok
end L2
namespace bP
open PySem
def tJ(m i:Nat):Nat:=(i * 5+1) % m
def g5(m:Nat):Nat->Nat->List Nat
 | 0,_=>[]
 | n+1,i=>i :: g5 m n (tJ m i)
def nj(m:Nat):Nat->Nat->Nat
 | 0,i=>i
 | n+1,i=>nj m n<|tJ m i
theorem zx(m:Nat):∀ a b i,nj m (a+b) i=nj m b (nj m a i)
 | 0,b,i=>by rw[Ex];rfl
 | a+1,b,i=>by
  rw[show a+1+b=(a+b)+1 by omega];exact zx m a b<|tJ m i
theorem Ht(m:Nat):∀ n t i,t < n->nj m t i∈g5 m n i
 | 0,_,_,h=>⋯
 | n+1,0,i,_=>Ae
 | n+1,t+1,i,h=>Af _<|Ht m n t (tJ m i)<|⋯
theorem Hu(m:Nat):∀ n i j,j∈g5 m n i->∃ t,t < n/\nj m t i=j
 | 0,_,_,h=>by cases h
 | n+1,i,j,h=>by
  rcases Ai.mp h with rfl | h
  ·exact⟨0,Ey _,rfl⟩
  ·obtain⟨t,ht,e⟩:=Hu m n (tJ m i) j h;exact⟨t+1,Nat.succ_lt_succ ht,e⟩
def covers(m:Nat):Bool:=nj m m 0 == 0 && (List.range m).all λj=>(g5 m m 0).contains j
def q7a:covers 8=true:=by decide +kernel
def q29:covers 16=true:=by decide +kernel
def q2c:covers 32=true:=by decide +kernel
def q18:covers 64=true:=by decide +kernel
def q1f:covers 128=true:=by decide +kernel
def q0w:covers 512=true:=by decide +kernel
def Pow(m:Nat):Prop:=m=8\/m=16\/m=32\/m=64\/m=128\/m=512
def Pow.covers{m:Nat}(h:Pow m):bP.covers m=true:=by
 rcases h with rfl | rfl | rfl | rfl | rfl | rfl
 ·exact q7a
 ·exact q29
 ·exact q2c
 ·exact q18
 ·exact q1f
 ·exact q0w
variable{m:Nat}
def Pow.pos(h:Pow m):8<=m/\m<=512:=by rcases h with rfl | rfl | rfl | rfl | rfl | rfl <;> decide
variable{i j:Nat}
theorem Pow.mem(h:Pow m)(hi:i < m)(hj:j < m):j∈g5 m m i:=by
 have q:=h.covers;unfold bP.covers at q;rw[Cb,Ej,HY]at q;obtain⟨z,q⟩:=q;obtain⟨a,ha,ea⟩:=Hu m m 0 i<|Bm.mp<|q i<|Bo.mpr hi;obtain⟨b,hb,eb⟩:=Hu m m 0 j<|Bm.mp<|q j<|Bo.mpr hj
 rcases Da b a with c | c
 ·have e:nj m (b+m - a) i=j:=by
   rw[<- ea,<- zx,show a+(b+m - a)=m+b by omega,zx,z,eb]
  rw[<- e];exact Ht m m _ i<|⋯
 ·have e:nj m (b - a) i=j:=by
   rw[<- ea,<- zx,show a+(b - a)=b by omega,eb]
  rw[<- e];exact Ht m m _ i<|⋯
def qv(mask:Nat):Nat->Nat->Nat->List Nat
 | 0,_,_=>[]
 | n+1,i,p=>i :: qv mask n (SetTable.leap mask i p).1 (SetTable.leap mask i p).2
theorem Qi(mask:Nat):∀ n i,qv mask n i 0=g5 (mask+1) n i
 | 0,_=>rfl
 | n+1,i=>by
  show i :: qv mask n ((i * 5+1+0 / 32) % (mask+1)) (0 / 32)=i :: g5 (mask+1) n (tJ (mask+1) i);rw[show(0 / 32:Nat)=0 by decide,VN,Qi mask n];rfl
variable{mask:Nat}
def Qj{p:Nat}:(SetTable.leap mask i p).1 < mask+1:=Gm _<|Ey _
theorem Qk{mask:Nat}:∀t n i p,i < mask+1->p < 32 ^ t->∃ i',i' < mask+1/\∀ j∈g5 (mask+1) n i',j∈qv mask (t+n) i p
 | 0,n,i,p,hi,hp=>by
  have e:p=0:=by simpa using hp
  subst e;refine⟨i,hi,λj hj=>?_⟩;rwa[Ex,Qi]
 | t+1,n,i,p,hi,hp=>by
  have h2:p / 32 < 32 ^ t:=by
   rw[Nat.div_lt_iff_lt_mul<|∅];rwa[Nat.pow_succ]at hp
  obtain⟨i',h',q⟩:=Qk t n (SetTable.leap mask i p).1 (p / 32) Qj h2;refine⟨i',h',λj hj=>?_⟩;rw[show t+1+n=(t+n)+1 by omega];exact Af _<|q j hj
theorem Ql{p:Nat}(hm:Pow<|mask+1)(hi:i < mask+1)(hp:p < 2 ^ 64)(hj:j < mask+1):j∈qv mask (mask+15) i p:=by
 obtain⟨i',h',q⟩:=Qk 14 (mask+1) i p hi (Bq hp<|∅);have:=q j<|hm.mem h' hj;rwa[show 14+(mask+1)=mask+15 by omega]at this
abbrev g6:=Array<|Option Nat
def nil?(owner:g6)(j:Nat):Bool:=(owner.getD j<|some 0).isNone
theorem Hv(mask i:Nat):i<=SetTable.runEnd mask i:=by unfold SetTable.runEnd;split <;> omega
theorem Qm{mask:Nat}{owner:g6}:∀{fuel i p},SetTable.layClean.free mask owner fuel i p=none->∀ j∈qv mask fuel i p,nil? owner j=false
 | 0,_,_,_,j,hj=>by cases hj
 | fuel+1,i,p,h,j,hj=>by
  unfold SetTable.layClean.free at h
  split at h
  ·cases h
  ·rename_i hf
   rcases Ai.mp hj with rfl | hj
   ·have:=Fh.mp hf 0 (Bo.mpr<|by have:=Hv mask j;omega);rw[VN]at this;exact El.mpr this
   ·exact Qm h j hj
theorem Qn{mask:Nat}{owner:g6}:∀{fuel i p j},SetTable.layClean.free mask owner fuel i p≈j->nil? owner j=true
 | 0,_,_,_,h=>by cases h
 | fuel+1,i,p,j,h=>by
  unfold SetTable.layClean.free at h
  split at h
  ·rename_i k hf;cases h;have:=Hj hf;exact this
  ·exact Qn h
variable{owner:g6}
theorem nil?_iff:nil? owner j=true↔owner[j]?≈none:=by
 unfold nil?;rw[Db];cases h:owner[j]? with
 | none=>simp
 | some v=>cases v <;> simp
structure Lies(m:Nat)(owner:g6)(k:Nat):Prop where
 size:owner.size=m
 lt:∀(j v:Nat),owner[j]?≈some v->v < k
 has:∀ v:Nat,v < k->∃ j:Nat,owner[j]?≈some v
 inj:∀(i j v:Nat),owner[i]?≈some v->owner[j]?≈some v->i=j
theorem Lies.start(m:Nat):Lies m (Array.replicate m none) 0 where
 size:=by simp
 lt:=λj v h=>by
  rw[Gg]at h
  split at h <;> cases h
 has:=λv h=>⋯
 inj:=λi j v h=>by
  rw[Gg]at h
  split at h <;> cases h
theorem Lies.put{k:Nat}(L:Lies m owner k)(hj:owner[j]?≈none):Lies m (owner.setIfInBounds j<|some k) (k+1):=by
 have aX:j < owner.size:=by
  rcases Da j owner.size with h | h
  ·exact h
  ·rw[Dv h]at hj;cases hj
 have at':∀ i:Nat,(owner.setIfInBounds j<|some k)[i]?=if j=i then some (some k)else owner[i]?:=by
  intro i;rw[Fn]
  split
  ·rename_i e;subst e;first | rfl | rw[BP aX]
  ·rfl
 refine⟨by rw[Array.size_setIfInBounds];exact L.size,λi v h=>?_,λv h=>?_,λa b v ha hb=>?_⟩
 ·rw[at']at h
  split at h
  ·cases h;exact Gz _
  ·exact Ci<|L.lt i v h
 ·rcases Nat.lt_succ_iff_lt_or_eq.mp h with h | rfl
  ·obtain⟨i,hi⟩:=L.has v h;refine⟨i,?_⟩;rwa[at',BL λe=>by subst e;rw[hj]at hi;cases hi]
  ·exact⟨j,by rw[at',BP rfl]⟩
 ·rw[at']at ha hb
  split at ha
  ·rename_i e;cases ha
   split at hb
   ·rename_i e2;exact e.symm.trans e2
   ·have:=L.lt b k hb;omega
  ·split at hb
   ·cases hb;have:=L.lt a k ha;omega
   ·exact L.inj a b v ha hb
def live(m:Nat)(owner:g6):List (Nat×Nat):=(List.range m).filterMap λj=>(owner.getD j none).map (j,·)
theorem getD_some{owner:g6}{j v:Nat}:owner.getD j none=some v↔owner[j]?≈some v:=by
 rw[Db];cases h:owner[j]? with
 | none=>simp
 | some x=>simp
def c7{p:Nat×Nat}:p∈live m owner↔p.1 < m/\owner[p.1]?≈some p.2:=by
 unfold live;rw[Gk]
 constructor
 ·rintro ⟨j,hj,e⟩;cases hv:owner.getD j none with
  | none=>rw[hv]at e;cases e
  | some v=>
   rw[hv]at e;cases e;exact⟨Bo.mp hj,getD_some.mp hv⟩
 ·rintro ⟨h1,h2⟩;exact⟨p.1,Bo.mpr h1,by rw[getD_some.mpr h2];rfl⟩
def Lies.nodup{k:Nat}(L:Lies m owner k):((live m owner).map (·.2)).Nodup:=by
 have q:∀ l:List Nat,l.Nodup->((l.filterMap λj=>(owner.getD j none).map (j,·)).map (·.2)).Nodup:=by
  intro l
  induction l with
  | nil=>intro _;exact Cd
  | cons a r ih=>
   intro hn;rw[Bh]at hn;rw[Eh];cases hv:owner.getD a none with
   | none=>exact ih hn.2
   | some v=>
    show(v :: (r.filterMap λj=>(owner.getD j none).map (j,·)).map (·.2)).Nodup;rw[Bh];refine⟨λh=>?_,ih hn.2⟩;obtain⟨p,hp,e⟩:=Ak.mp h;obtain⟨j,hj,e2⟩:=Gk.mp hp;cases hw:owner.getD j none with
    | none=>rw[hw]at e2;cases e2
    | some u=>
     rw[hw]at e2;cases e2;have e3:=e;subst e3;have:=L.inj a j u (getD_some.mp hv)<|getD_some.mp hw;subst this;exact hn.1 hj
 exact q _ Ga
def Lies.perm{k:Nat}(L:Lies m owner k):((live m owner).map (·.2)).Perm (List.range k):=by
 rw[Fr L.nodup Ga];intro v;rw[Bo,Ak]
 constructor
 ·rintro ⟨p,hp,rfl⟩;exact L.lt _ _ (c7.mp hp).2
 ·intro h;obtain⟨j,hj⟩:=L.has v h;have aX:j < m:=by
   rw[<- L.size]
   rcases Da j owner.size with h | h
   ·exact h
   ·rw[Dv h]at hj;cases hj
  exact⟨(j,v),c7.mpr ⟨aX,hj⟩,rfl⟩
def Lies.length{m k:Nat}{owner:g6}(L:Lies m owner k):(live m owner).length=k:=by
 have:=L.perm.length_eq;rwa[Aa,Dq]at this
theorem Lies.room{k:Nat}(L:Lies m owner k)(h:k < m):∃ j,j < m/\nil? owner j=true:=by
 refine CQ λhn=>?_;have all:∀ j,j < m->∃ v,owner.getD j none≈v:=by
  intro j hj;have hs:j < owner.size:=by rwa[L.size]
  cases hv:owner[j] with
  | none=>exact absurd ⟨j,hj,nil?_iff.mpr<|by rw[Ce hs,hv]⟩ hn
  | some v=>exact⟨v,getD_some.mpr<|by rw[Ce hs,hv]⟩
 have len:∀ l:List Nat,(∀ j∈l,j < m)->(l.filterMap λj=>(owner.getD j none).map (j,·)).length=l.length:=by
  intro l
  induction l with
  | nil=>intro _;rfl
  | cons a r ih=>
   intro hl;obtain⟨v,hv⟩:=all a<|hl a Ae;rw[Eh,hv];show(_ :: _).length=_;rw[As,As,ih λj hj=>hl j<|Af _ hj]
 have e:=len (List.range m) λj hj=>Bo.mp hj;have e2:=L.length;unfold live at e2;rw[e,Dq]at e2;omega
theorem Qo(h:Int):SetTable.bits h < 2 ^ 64:=by
 unfold SetTable.bits;omega
theorem Lies.free{mask k:Nat}{owner:g6}(L:Lies (mask+1) owner k)(hm:Pow<|mask+1)(h:k < mask+1)(x:Int) :
  ∃ j,SetTable.layClean.free mask owner (SetTable.turns mask) (SetTable.bits x % (mask+1)) (SetTable.bits x)≈j/\owner[j]?≈none:=by
 cases e:SetTable.layClean.free mask owner (SetTable.turns mask) (SetTable.bits x % (mask+1)) (SetTable.bits x) with
 | some j=>exact⟨j,rfl,nil?_iff.mp<|Qn e⟩
 | none=>
  obtain⟨j,hj,q⟩:=L.room h;have:=Qm e j<|Ql hm (Gm _<|Ey _) (Qo x) hj;rw[q]at this;cases this
def oR(mask:Nat)(acc:Option<|g6×Nat)(h:Int):Option (g6×Nat):=do
 let (owner,k) <- acc
 let j <- SetTable.layClean.free mask owner (SetTable.turns mask) (SetTable.bits h % (mask+1))<|SetTable.bits h
 pure (owner.setIfInBounds j<|some k,k+1)
theorem Qp{mask:Nat}(hm:Pow<|mask+1):∀(hs:List Int) (owner:g6) (k:Nat),Lies (mask+1) owner k->k+hs.length < mask+1+1 ->
  ∃ dw,hs.foldl (oR mask) (some (owner,k))=some (dw,k+hs.length)/\Lies (mask+1) dw (k+hs.length)
 | [],owner,k,L,_=>⟨owner,rfl,L⟩
 | h :: r,owner,k,L,hk=>by
  rw[As]at hk ⊢;obtain⟨j,e,hj⟩:=L.free hm ⋯ h;obtain⟨o',e',L'⟩:=Qp hm r _ (k+1) (L.put hj) ⋯;refine⟨o',?_,?_⟩
  ·rw[Dh,show oR mask (some (owner,k)) h=some (owner.setIfInBounds j<|some k,k+1) by unfold oR;simp[e],e']
   congr 2
   omega
  ·rw[show k+(r.length+1)=k+1+r.length by omega];exact L'
def k2y(hm:Pow<|mask+1)(hs:Array Int)(hl:hs.size < mask+1+1):∃ owner,SetTable.layClean mask hs≈owner/\Lies (mask+1) owner hs.size:=by
 obtain⟨o',e,L⟩:=Qp hm hs.toList _ 0 (Lies.start<|mask+1) hl⁻¹;refine⟨o',?_,L⁻¹⟩;have e2:SetTable.layClean mask hs=(hs.foldl (oR mask)<|some (Array.replicate (mask+1) none,0)).map (·.1):=rfl;rw[e2,<- Array.foldl_toList,e];rfl
theorem Qq{finger moves:Nat}{led plain:Bool}(hm:Pow<|mask+1)(hs:Array Int)(hl:hs.size<=mask) :
  ∃ t order,SetTable.laid mask finger moves led plain hs=some (t,order)/\order.toList.Perm (List.range hs.size)/\t.fits hs.size=true/\t.led=led/\t.plain=plain/\t.mask=mask/\t.dummies=#[]/\t.place.size=hs.size:=by
 obtain⟨o,e,L⟩:=k2y hm hs ⋯;have hp:((live (mask+1) o).map (·.1)).toArray.size=hs.size:=by
  rw[Ay,Aa,L.length]
 refine⟨_,_,by unfold SetTable.laid;rw[e];rfl,?_,?_,rfl,rfl,rfl,rfl,hp⟩
 ·show((live (mask+1) o).map (·.2)).Perm _;exact L.perm
 ·unfold SetTable.fits SetTable.fill;show(((live (mask+1) o).map (·.1)).toArray.size == hs.size && decide (((live (mask+1) o).map (·.1)).toArray.size+0<=mask))=true;rw[hp];simp only[FZ,Gh,VN,DQ];exact hl
def cU(w:World):Bool:=w.params.followText "set-order"
def keyOf(e:Int×Value):Str:=match e.2 with
 | .str x _=>x
 | _=>⟨#[]⟩
section
variable(U:Program)(w:World)
def oS(e:Int×Value):Prop:=∃ z t,e=((strKind U w).hash z,Value.str z t)
structure Tab(es:Array<|Int×Value)(t:SetTable)(zs:Ð):Prop where
 elts:∀ e∈es.toList,oS U w e
 keys:(es.toList.map keyOf).Perm zs
 nodup:zs.Nodup
 few:zs.length < 1000
 fits:t.fits es.size=true
 led:t.led = !cU w
 plain:es=#[]\/t.plain=false
def aA(h:Heap)(a:Addr)(zs:Ð):Prop:=∃ o es ep t,h.get? a≈o/\o.ExactSet/\o.data = .set es ep t/\Tab U w es t zs
end
variable{a:Addr}{h:Heap}{zs jc:Ð}{es dM:Array (Int×Value)}{w:World}{U:Program}{t':SetTable}{s:Shared}{ep:Nat}{o:Obj}{e:Int×Value}{z:Str}
section
variable{t:SetTable}{h':Heap}
def Tab.elems(T:Tab U w es t zs):ElemsOf (strKind U w) es.toList:=λe he=>by
 obtain⟨z,u,rfl⟩:=T.elts e he;exact⟨⟨z,PX _ _ _ _,rfl⟩,rfl⟩
def Tab.size(T:Tab U w es t zs):es.size=zs.length:=by
 have:=T.keys.length_eq;rwa[Aa,Bu]at this
def Tab.ga(T:Tab U w es t zs):es.size < 1000:=by rw[T.size];exact T.few
theorem Tab.scan(T:Tab U w es t zs):es.size < scanBound:=by have:=T.ga;unfold scanBound;omega
def Tab.perm(T:Tab U w es t zs)(p:dM.toList.Perm es.toList)(hf:t'.fits dM.size=true)(hl:t'.led=t.led)(hp:dM=#[]\/t'.plain=false):Tab U w dM t' zs:=
 ⟨λe he=>T.elts e<|p.mem_iff.mp he,(p.map keyOf).trans T.keys,T.nodup,T.few,hf,hl.trans T.led,hp⟩
def aA.keep(S:aA U w h a zs)(k:∀ o,h.get? a≈o->h'.get? a≈o):aA U w h' a zs:=let ⟨o,es,ep,t,h1,h2⟩:=S;⟨o,es,ep,t,k o h1,h2⟩
def aA.typeIs(S:aA U w s.heap a zs):s.TypeIs (.ref a) "set":=let ⟨o,_,_,_,h1,h2,_⟩:=S;⟨o,h1,h2.1⟩
def aA.lt(S:aA U w h a zs):a < h.objs.size:=let ⟨_,_,_,_,h1,_⟩:=S;Av h1
def aA.few(S:aA U w h a zs):zs.length < 1000:=let ⟨_,_,_,_,_,_,_,T⟩:=S;T.few
def aA.nodup(S:aA U w h a zs):zs.Nodup:=let ⟨_,_,_,_,_,_,_,T⟩:=S;T.nodup
def qw(ho:h.get? a≈o)(hx:o.ExactSet)(hd:o.data = .set es ep t)(T':Tab U w dM t' jc) :
  (h.update a<|Obj.putSet dM t').get? a=some {o with data:= .set dM (ep+1) t'}/\aA U w (h.update a<|Obj.putSet dM t') a jc:=by
 have q:=Dd (Obj.putSet dM t') ho (by rw[putSet_of dM t' hd];rfl);rw[putSet_of dM t' hd]at q;exact⟨q,_,dM,ep+1,t',q,hx,rfl,T'⟩
def Hw(he:oS U w e)(z:Str):(strKind U w).is z e.2=decide (z=keyOf e):=by
 obtain⟨y,u,rfl⟩:=he;exact KeyKind.is_eq_decide (PX U w y u) z
def find_none(T:Tab U w es t zs)(hz:z∉zs):es.toList.findIdx? (λe=>(strKind U w).is z e.2)=none:=by
 rw[List.findIdx?_eq_none_iff];intro e he;rw[Hw<|T.elts e he,GZ];rintro rfl;exact hz<|T.keys.mem_iff.mp<|List.mem_map_of_mem he
theorem find_some(T:Tab U w es t zs)(hz:z∈zs):∃ j,∃ hj:j < es.toList.length,es.toList.findIdx? (λe=>(strKind U w).is z e.2)≈j/\keyOf es.toList[j]=z:=by
 obtain⟨e,he,e2⟩:=Ak.mp<|T.keys.mem_iff.mpr hz;cases q:es.toList.findIdx? (λe=>(strKind U w).is z e.2) with
 | none=>
  have:=List.findIdx?_eq_none_iff.mp q e he;rw[Hw<|T.elts e he,GZ]at this;exact absurd e2.symm this
 | some j=>
  obtain⟨hj,p,_⟩:=List.findIdx?_eq_some_iff_getElem.mp q;rw[Hw<|T.elts _<|Bt hj,DQ]at p;exact⟨j,hj,rfl,p.symm⟩
def q4s(t:SetTable)(n:Nat):(t.orStandIn n).led=t.led/\((t.orStandIn n).plain=true->t.plain=true):=by
 unfold SetTable.orStandIn
 split
 ·exact⟨rfl,id⟩
 ·exact⟨rfl,λh=>by cases h⟩
def k6y(t:SetTable)(es:Array<|Int×Value)(x:Int)(v:Value):(layNew t es x v).2.1.led=t.led:=by
 unfold layNew
 split
 ·exact(q4s _ _).1
 ·rfl
theorem q31{f:Nat}{l p:Bool}{hs:Array Int}{o:Array Nat}(e:SetTable.laid mask f m l p hs=some (t',o)):t'.led=l/\t'.plain=p:=by
 unfold SetTable.laid at e;cases c:SetTable.layClean mask hs with
 | none=>rw[c]at e;cases e
 | some ow=>rw[c]at e;cases e;exact⟨rfl,rfl⟩
def Qr(t:SetTable)(es:Array<|Int×Value)(n:Nat)(hp:t.plain=false):(relayAll t es n).2.1.led=t.led/\(relayAll t es n).2.1.plain=false:=by
 unfold relayAll
 split
 ·rename_i t' o e;have q:=q31 e
  dsimp only
  split
  ·exact⟨q.1,q.2.trans hp⟩
  ·exact⟨rfl,rfl⟩
 ·exact⟨rfl,rfl⟩
end
variable{E:Í}{A:Around}{n:Nat}{R:Option Bool->Shared->Prop}{t2:SetTable}{c8:Array (Int×Value)}{tk:Tok}{src:Source}{zf:Ð}
section
theorem jJ(h:n < 1001):n<=sizeLine:=by rw[DX];omega
theorem Qs{g:Bool->Sem Unit}(hg:∀(b:Bool) (À:Shared) (Q':Unit->Shared->Prop),Q' () À->↥1 (g b) Q' E À)
     {t:SetTable} (ho:s.heap.get? a≈o) (hx:o.ExactSet) (hd:o.data = .set es ep t)
    (T:Tab U w c8 t2 zs) (hp:t2.plain=false) {c:Bool} 
  (k:∀ h',Heap.SameBut a s.heap h'->aA U w h' a zs->R (some true) {s with heap:=h'}) :
  ↥1 (do
   storeSet a c8 t2
   if c=true then do
     g (relayAll t2 c8<|SetTable.grown c8.size).2.2
     storeSet a (relayAll t2 c8<|SetTable.grown c8.size).1 (relayAll t2 c8<|SetTable.grown c8.size).2.1
     pure (some true)
    else pure (some true)) R E s:=by
 refine BJ<|FQ ho hd ?_<|jJ<|Ci T.ga;obtain⟨q1,q2⟩:=qw ho hx hd T;have sb:=CT s.heap a<|Obj.putSet c8 t2;cases c with
 | false=>exact BK<|k _ sb q2
 | true=>
  have p:=relayAll_perm t2 c8<|SetTable.grown c8.size;have T3:=T.perm p (relayAll_fits t2 c8<|SetTable.grown c8.size) (Qr t2 c8 _ hp).1<|.inr (Qr t2 c8 _ hp).2;refine BJ<|hg _ _ _<|BJ<|FQ q1 rfl ?_ (jJ<|Ci T3.ga);exact BK<|k _ (sb.trans<|CT _ a _) (qw q1 hx rfl T3).2
def added(zs:Ð)(z:Str):Ð:=if z∈zs then zs else zs++[z]
def Hx{Q:Bool->Shared->Prop}(S:aA U w s.heap a zs)(hb:zs.length+1 < 1000)
  (k:∀(b:Bool) h',Heap.SameBut a s.heap h'->aA U w h' a (added zs z)->Q b {s with heap:=h'}) :
  ↥1 (setAddHashed a (.str z tk)<|(strKind U w).hash z) Q E s:=by
 obtain⟨o,es,ep,t,ho,hx,hd,T⟩:=S;unfold setAddHashed setAddHashedIn;refine CJ<|BJ<|CG ho hd T.fits ?_
 dsimp only
 rw[byScan_of (knd:=strKind U w) (x:= .str z tk) rfl T.scan T.elems];simp only[↓reduceIte];unfold setAddByScan;refine BJ<|BJ<|HX<|BJ<|wpAny_setScan_of (knd:=strKind U w) (k:=z) (PX _ _ _ _) ho hd T.fits T.elems ?_
 by_cases hz:z∈zs
 ·obtain⟨j,hj,e,_⟩:=find_some T hz;rw[e]
  dsimp only
  refine BK<|BK<|k false s.heap (Heap.SameBut.refl a s.heap) ?_;unfold added;rw[BP hz];exact⟨o,es,ep,t,ho,hx,hd,T⟩
 ·rw[find_none T hz]
  dsimp only
  have gw:∀(b:Bool) (À:Shared) (Q':Unit->Shared->Prop),Q' () À->↥1 (match b with | true=>rule "set.scan.the-table-gave-way" | false=>pure ()) Q' E À:=
   λb À Q' q=>by cases b <;> first | exact BK q | exact HX q
  have p:=layNew_perm t es ((strKind U w).hash z)<|.str z tk;have f:=layNew_fits t es ((strKind U w).hash z)<|.str z tk;have l:=k6y t es ((strKind U w).hash z)<|.str z tk;generalize layNew t es ((strKind U w).hash z) (.str z tk)=L at p f l ⊢;obtain⟨c8,t1,wd,gv⟩:=L
  dsimp only at p f l ⊢
  rw[Array.toList_push]at p;have tab:∀ t2:SetTable,t2.fits c8.size=true->t2.led=t1.led->t2.plain=false->Tab U w c8 t2 (zs++[z]):=λt2 h1 h2 h3=>{
   elts:=λe he=>by
    rcases Am.mp (p.mem_iff.mp he)with he | he
    ·exact T.elts e he
    ·exact⟨z,tk,Ad.mp he⟩
   keys:=by
    refine(p.map keyOf).trans ?_;rw[Al];exact T.keys.append<|List.Perm.refl _
   nodup:=by
    rw[Co];refine⟨T.nodup,by simp,λx hx y hy e=>?_⟩;rw[Ad]at hy;subst hy e;exact hz hx
   few:=by rwa[Ag]
   fits:=h1
   led:=h2.trans<|l.trans T.led
   plain:= .inr h3}
  have fin:∀ h',Heap.SameBut a s.heap h'->aA U w h' a (zs++[z])->Q true {s with heap:=h'}:=λh' q1 q2=>k true h' q1 (by unfold added;rwa[BL hz]);refine BJ<|gw _ _ _ ?_
  split
  ·rename_i hp;refine BJ ?_;rw[hashByValue_scannable 8 rfl];refine BK ?_;refine Qs gw ho hx hd (tab {t1 with plain:=false} (SetTable.fits_plain_off f) rfl rfl) rfl λh' q1 q2=>?_
   dsimp only
   exact BK<|fin h' q1 q2
  ·rename_i hp;refine BJ<|BK ?_;simp only[↓reduceIte];refine Qs gw ho hx hd (tab t1 f rfl (El.mpr hp)) (El.mpr hp) λh' q1 q2=>?_
   dsimp only
   exact BK<|fin h' q1 q2
def Qt{Q:Option Nat->Shared->Prop}{t:SetTable}(ho:s.heap.get? a≈o)(hd:o.data = .set es ep t)(T:Tab U w es t zs)
  (k0:z∉zs->Q none s) (k1:∀ j,(hj:j < es.toList.length)->keyOf es.toList[j]=z->Q (some j) s):↥1 (setFind a (.str z tk)<|(strKind U w).hash z) Q E s:=by
 unfold setFind setFindIn;refine BJ<|CG ho hd T.fits ?_
 dsimp only
 rw[byScan_of rfl T.scan T.elems];simp only[↓reduceIte];refine BJ<|HX<|BJ<|wpAny_setScan_of (PX _ _ _ _) ho hd T.fits T.elems ?_
 by_cases hz:z∈zs
 ·obtain⟨j,hj,e,q⟩:=find_some T hz;rw[e]
  dsimp only
  rw[Ex];exact BK<|k1 j hj q
 ·rw[find_none T hz];exact BK<|k0 hz
def zy{α:Type}(xs:Array α)(i:Nat):(SetTable.eraseAt xs i).toList=xs.toList.eraseIdx i:=by
 unfold SetTable.eraseAt;rw[Array.toList_append,Array.toList_extract,Array.toList_extract,List.eraseIdx_eq_take_drop_succ];simp[List.extract_eq_drop_take];exact Cs<|by simp
theorem bW{α:Type}:∀(l:List α) (j:Nat) (hj:j < l.length),(l[j] :: l.eraseIdx j).Perm l
 | [],_,h=>by simp at h
 | x :: r,0,_=>List.Perm.refl _
 | x :: r,j+1,h=>(List.Perm.swap x _ _).trans<|(bW r j<|Nat.lt_of_succ_lt_succ h).cons x
theorem q1m{t:SetTable}(h:t.fits n=true)(hi:i < n):(t.drop i).fits (n - 1)=true/\(t.drop i).led=t.led/\(t.drop i).plain=t.plain:=by
 unfold SetTable.fits at h;rw[Cb,HY,DQ]at h;have jK:i < t.place.size:=by rwa[h.1]
 unfold SetTable.drop;rw[Ce jK]
 dsimp only
 refine⟨?_,rfl,rfl⟩;have e1:(SetTable.eraseAt t.place i).size=n - 1:=by
  rw[<- Bu,zy,Dg,Bu,BP jK,h.1]
 have e2:=λj=>by
  have:=(SetTable.insertAt_perm t.dummies (SetTable.below t.dummies j) j).length_eq
  simpa using this
 have h2:=h.2;unfold SetTable.fill at h2;unfold SetTable.fits SetTable.fill
 dsimp only
 rw[e1,e2];simp only[FZ,Gh,DQ];omega
def k62{Q:Bool->Shared->Prop}(S:aA U w s.heap a zs)
  (k0:z∉zs->Q false s) (k1:∀ h',z∈zs->Heap.SameBut a s.heap h'->aA U w h' a (zs.erase z)->Q true {s with heap:=h'}) :
  ↥1 (setDiscardHashed a (.str z tk)<|(strKind U w).hash z) Q E s:=by
 obtain⟨o,es,ep,t,ho,hx,hd,T⟩:=S;unfold setDiscardHashed;refine BJ<|Qt ho hd T (λhz=>?_) λj hj e=>?_
 ·exact BK<|k0 hz
 ·dsimp only
  have qz:j < es.size:=by simpa using hj
  have hz:=T.keys.mem_iff.mp<|Ak.mpr ⟨_,Bt hj,e⟩;obtain⟨f1,f2,f3⟩:=q1m T.fits qz;have pz:(keyOf es.toList[j] :: (es.toList.eraseIdx j).map keyOf).Perm zs:=by
   refine List.Perm.trans ?_ T.keys;rw[<- Ba];exact(bW _ j hj).map keyOf
  rw[e]at pz;have T':Tab U w (SetTable.eraseAt es j) (t.drop j) (zs.erase z):={
   elts:=λx hx=>by
    rw[zy]at hx;exact T.elts x<|Fb hx
   keys:=by
    rw[zy];refine List.Perm.cons_inv<|pz.trans ?_;exact List.perm_cons_erase hz
   nodup:=T.nodup.erase z
   few:=QT (List.length_erase_le) T.few
   fits:=by
    have:(SetTable.eraseAt es j).size=es.size - 1:=by
     rw[<- Bu,zy,Dg,Bu,BP qz]
    rwa[this]
   led:=f2.trans T.led
   plain:=by
    rcases T.plain with q | q
    ·subst q;simp at qz
    ·exact .inr (f3.trans q)}
  refine BJ<|CG ho hd T.fits ?_
  dsimp only
  refine BJ<|FQ ho hd ?_<|jJ<|Ci T'.ga;refine BJ<|wpAny_point<|BK<|k1 _ hz (CT _ a _) (qw ho hx hd T').2
theorem Qu{α:Type}(next:Nat->Nat):∀(fuel k:Nat) (left:List α) (out:Array α),left.length<=fuel->(pickOrder.go next fuel k left out).toList.Perm (out.toList++left)
 | 0,k,left,out,h=>by
  have:left=[]:=Bv.mp ⋯;subst this;unfold pickOrder.go;simp
 | fuel+1,k,left,out,h=>by
  unfold pickOrder.go;cases e:left[next k % left.length]? with
  | none=>
   have:left=[]:=by
    cases left with
    | nil=>rfl
    | cons x r=>
     have hl:next k % (x :: r).length < (x :: r).length:=Gm _ (by simp);rw[Ab hl]at e;cases e
   subst this;simp
  | some x=>
   dsimp only
   obtain⟨hl,e2⟩:=Ac.mp e;refine(Qu next fuel (k+1) _ _ (by rw[Dg,BP hl];omega)).trans ?_;rw[Array.toList_push,Ar];refine OD _ ?_;have:=bW left _ hl;rwa[e2]at this
def Qv{α:Type}(next:Nat->Nat)(xs:Array α):(pickOrder next xs).toList.Perm xs.toList:=by
 have:=Qu next xs.size 0 xs.toList #[] (by simp)
 simpa[pickOrder]using this
def wp_choose{Q:Nat->Shared->Prop}(hn:n≠0)(h:∀ i d,i < n->Q i {s with drawn:=d}):↥1 (choose src n) Q E s:=
 λΓ p _=>⟨hn,h _ _<|Gm _<|Nat.pos_of_ne_zero hn⟩
theorem Hy{α:Type}:∀(n:Nat) (xs:List α) (s:Shared) (Q:List α->Shared->Prop),xs.length<=n->(∀ ys d,ys.Perm xs->Q ys {s with drawn:=d})->↥1 (drawOrder n xs) Q E s
 | 0,xs,s,Q,h,k=>by
  have:xs=[]:=Bv.mp ⋯;subst this;unfold drawOrder;exact BK<|k [] s.drawn<|List.Perm.refl _
 | n+1,[],s,Q,h,k=>by
  unfold drawOrder;exact BK<|k [] s.drawn<|List.Perm.refl _
 | n+1,x :: r,s,Q,h,k=>by
  unfold drawOrder;refine BJ (wp_choose (by simp) λi d hi=>?_);rw[Ab hi]
  dsimp only
  refine BJ (Hy n _ _ _ (by rw[Dg,BP hi];omega) λys d2 p=>?_);exact BK<|k _ d2<|(p.cons _).trans<|bW _ i hi
def wp_text{Q:Bool->Shared->Prop}(k:Q (cU w) s):↥1 setsByText Q E s:=by
 unfold setsByText;exact BJ<|JX<|BK k
variable{t:SetTable}
theorem k58{Q:Array (Int×Value)->Shared->Prop}(ho:s.heap.get? a≈o)(hd:o.data = .set es ep t)(T:Tab U w es t zs)
  (k:∀ ws d,ws.toList.Perm es.toList->Q ws {s with drawn:=d}):↥1 (setWalk a) Q E s:=by
 unfold setWalk;refine BJ<|CG ho hd T.fits ?_
 dsimp only
 refine BJ<|wp_text ?_;cases hb:cU w with
 | true=>
  simp only[CZ];refine BJ<|JX ?_;exact BK<|k _ s.drawn<|Qv _ _
 | false=>
  simp only[Aq,CP];show wpAny _ _ (if(!t.plain && decide (es.size > 1))=true then _ else _) _ _ _
  split
  ·refine BJ (Hy _ _ _ _ (by simp) λys d p=>?_);exact BK<|k _ d<|p⁻¹
  ·refine BJ ?_;show wpAny _ _ (if(!t.led && decide (es.size > 1))=true then _ else _) _ _ _;rw[BL<|by rw[T.led,hb];simp];exact BK<|BK<|k _ s.drawn<|List.Perm.refl _
def q3h{Q:Bool->Shared->Prop}(l:↥9)(hl:∀ b∈l,∃ ys,aA U w s.heap b ys)(k:Q true s):↥1 (setsQuiet l) Q E s:=by
 unfold setsQuiet;refine BJ<|NZ _ (λrest b s'=>b.1=none/\s'=s/\∀ c∈rest,∃ ys,aA U w s.heap c ys) _ ?_ ?_ l _ ⟨rfl,rfl,hl⟩
 ·rintro x rest b s' ⟨hb,rfl,hr⟩;obtain⟨ys,o,es,ep,t,ho,hx,hd,T⟩:=hr x Ae;refine BJ<|KD ho hd T.fits<|BJ<|QV _ (λrest b qe=>b.1=none/\qe=s'/\∀ e∈rest,oS U w e) _ ?_ ?_ es _ ⟨rfl,rfl,T.elts⟩
  ·rintro e r2 b2 s2 ⟨oU,rfl,he⟩;obtain⟨z,u,rfl⟩:=he _ Ae;exact BK ⟨rfl,rfl,λe h=>he e<|Af _ h⟩
  ·rintro ⟨_,_⟩ s2 ⟨rfl,rfl,_⟩;exact BK ⟨rfl,rfl,λc h=>hr c<|Af _ h⟩
 ·rintro ⟨_,_⟩ s' ⟨rfl,rfl,_⟩;exact BK k
def k8z{f:Addr}{Q:Array (Int×Value)->Shared->Prop}(ho:s.heap.get? a≈o)(hx:o.ExactSet)(hd:o.data = .set es ep t)(T:Tab U w es t zs)(Sf:aA U w s.heap f zf)
  (k:∀ ws h' d,ws.toList.Perm es.toList->Heap.SameBut f s.heap h'->aA U w h' f zf->Q ws {s with heap:=h',drawn:=d}):↥1 (setWalkUnseen a [f]<|some f) Q E s:=by
 unfold setWalkUnseen;refine BJ<|CG ho hd T.fits ?_
 dsimp only
 refine BJ<|wp_text ?_
 split
 ·exact k58 ho hd T λws d p=>k ws s.heap d p (Heap.SameBut.refl _ _) Sf
 ·rename_i hn;have hb:cU w=false:=by
   cases e:cU w with
   | false=>rfl
   | true=>rw[e]at hn;simp at hn
  refine BJ<|q3h [a,f] (λb hb=>?_) ?_
  ·rcases Ai.mp hb with rfl | hb
   ·exact⟨zs,o,es,ep,t,ho,hx,hd,T⟩
   ·rw[Ad]at hb;subst hb;exact⟨zf,Sf⟩
  ·simp only[Dm,Aq,CP];refine BJ<|HX ?_;obtain⟨of,ef,Hz,tf,HE,hxf,mY,Tf⟩:=id Sf;refine BJ<|CG HE mY Tf.fits ?_
   dsimp only
   have T2:Tab U w ef {tf with led:=tf.led && t.led,plain:=tf.plain && t.plain} zf:=
    ⟨Tf.elts, Tf.keys, Tf.nodup, Tf.few, Tf.fits, by show (tf.led && t.led) = _; rw[Tf.led, T.led]; simp, by
     rcases Tf.plain with q | q
     ·exact .inl q
     ·exact .inr<|by show(tf.plain && t.plain)=false;rw[q];rfl⟩
   split
   ·refine BJ<|FQ HE mY ?_<|jJ<|Ci Tf.ga;exact BK<|k es _ s.drawn (List.Perm.refl _) (CT _ f _) (qw HE hxf mY T2).2
   ·exact BK<|k es s.heap s.drawn (List.Perm.refl _) (Heap.SameBut.refl _ _) Sf
end
open Builtin.Frozenset
def qA(m:Nat):Bool:=m == 8 || m == 16 || m == 32 || m == 64 || m == 128
theorem q62(h:qA m=true):Pow m:=by
 unfold qA at h;simp only[Bool.or_eq_true,HY]at h;unfold Pow;omega
def k85:((List.range 64).all λn=>qA (SetTable.sizeAbove<|n * 2) && decide (n < SetTable.sizeAbove (n * 2)))=true:=by decide +kernel
def q26(h:n < 64):Pow (SetTable.sizeAbove<|n * 2)/\n < SetTable.sizeAbove (n * 2):=by
 have q:=k85;rw[Ej]at q;have:=q n<|Bo.mpr h;rw[Cb,DQ]at this;exact⟨q62 this.1,this.2⟩
variable{order:Array Nat}
def k6x(p:order.toList.Perm<|List.range es.size):(order.filterMap (es[·]?)).toList.Perm es.toList:=by
 rw[TQ];have:=p.filterMap λi=>es[i]?;rwa[filterMap_getElem?_range]at this
variable{Q:Í}{each:Sem Unit}{b:Addr}
section
structure fq(w:World)(t:SetTable):Prop where
 place:t.place=#[]
 dummies:t.dummies=#[]
 led:t.led = !cU w
 plain:t.plain=true
def fq.tab{t:SetTable}(B:fq w t):Tab U w #[] t []:=
 ⟨λe he=>by simp at he,by simp,Cd,∅,by unfold SetTable.fits SetTable.fill;rw[B.place,B.dummies];simp,B.led,.inl rfl⟩
def fq.fill{t:SetTable}(B:fq w t):t.fill=0:=by unfold SetTable.fill;rw[B.place,B.dummies];rfl
def q0n
  (k:∀ o,o.ExactSet->(∃ t,o.data = .set #[] 0 t/\fq w t/\t.mask=7)->o.isFreed=false->Q (.ref ↑s) {s with heap:=s.heap.push o}):↥1 (newSet<|.type "set") Q E s:=by
 unfold newSet;refine BJ<|wp_text ?_
 dsimp only
 simp only[newObj];exact BJ<|QL<|BK<|k _ ⟨rfl,rfl,rfl⟩ ⟨_,rfl,⟨rfl,rfl,rfl,rfl⟩,rfl⟩ rfl
variable{t:SetTable}
theorem q7c{Q:Unit->Shared->Prop}(ho:s.heap.get? a≈o)(hx:o.ExactSet)(hd:o.data = .set #[] ep t)(B:fq w t)(hm:t.mask=7)(hn:n < 64)
  (k:∀ h' o' oD t',Heap.SameBut a s.heap h'->h'.get? a≈o'->o'.ExactSet->o'.data = .set #[] oD t'->fq w t'->Pow (t'.mask+1)->n<=t'.mask->Q () {s with heap:=h'}) :
  ↥1 (setRoomFor a n) Q E s:=by
 have T:Tab U w #[] t []:=B.tab;unfold setRoomFor;refine BJ<|CG ho hd T.fits ?_
 dsimp only
 unfold SetTable.roomFor;rw[B.fill,hm]
 by_cases c:(0+n) * 5>=7 * 3
 ·rw[BP c]
  dsimp only
  have e0:(t.place.size+n) * 2=n * 2:=by rw[B.place];simp
  rw[e0];obtain⟨hp,hl⟩:=q26 hn;unfold setRelay;refine BJ<|CG ho hd T.fits ?_
  dsimp only
  have hle:SetTable.sizeAbove (n * 2)<=512:=hp.pos.2;rw[BL<|by rw[DX];omega];have em:SetTable.sizeAbove (n * 2) - 1+1=SetTable.sizeAbove (n * 2):=⋯
  obtain⟨t',order,e,p,f,l1,l2,l3,l4,l5⟩:=Qq (plain:=t.plain) (by rwa[em]) (#[]:Array Int) (by simp);have er:t.relaid ((#[]:Array<|Int×Value).map (·.1)) (n * 2)=some (t',order):=by
   unfold SetTable.relaid;rwa[show((#[]:Array<|Int×Value).map (·.1))=#[] by simp]
  rw[er];have eo:order=#[]:=by
   have:=p.length_eq;simp at this;exact this
  subst eo;refine BJ ?_;show wpAny _ _ (if(((#[]:Array Nat).filterMap ((#[]:Array<|Int×Value)[·]?)).size != (#[]:Array<|Int×Value).size)=true then(unsupported "internal:set-table-lost-an-element" : Sem<|Array (Int×Value)×SetTable)else pure ((#[]:Array Nat).filterMap ((#[]:Array<|Int×Value)[·]?),t')) _ _ _;rw[BL<|by simp];refine BK ?_
  dsimp only
  have ee:((#[]:Array Nat).filterMap ((#[]:Array<|Int×Value)[·]?))=#[]:=by simp
  rw[ee];have B':fq w t':=⟨by
   have:=l5
   simpa using this,l4,l1.trans B.led,l2.trans B.plain⟩
  refine FQ ho hd ?_ (by simp);have q:=(qw ho hx hd<|B'.tab (U:=U)).1;exact k _ _ _ _ (CT _ a _) q hx rfl B' (by rwa[l3,em]) (by rw[l3];omega)
 ·rw[BL c];exact BK<|k s.heap o ep t (Heap.SameBut.refl _ _) ho hx hd B (by rw[hm];exact .inl rfl)<|by rw[hm];omega
def q2i{Q:Unit->Shared->Prop}(ho:s.heap.get? a≈o)(hx:o.ExactSet)(hd:o.data = .set #[] ep t)(B:fq w t)(hm:t.mask=7)(gd:a≠b)(S:aA U w s.heap b zs)(hz:zs.length < 64)
  (k:∀ h',Heap.SameBut a s.heap h'->aA U w h' a zs->Q () {s with heap:=h'}):↥1 (setMerge a b each) Q E s:=by
 obtain⟨ob,eo,epb,tb,zA,hxb,dN,Tb⟩:=S;unfold setMerge;have e1:(a == b)=false:=by simpa using gd
 rw[e1];simp only[Aq,CP];refine BJ<|CG zA dN Tb.fits ?_
 dsimp only
 by_cases c:eo.isEmpty=true
 ·rw[BP c];have:eo=#[]:=by simpa using c
  subst this;have ez:zs=[]:=by
   have:=Tb.size;exact Bv.mp<|by simpa using this.symm
  subst ez;exact BK<|k s.heap (Heap.SameBut.refl _ _) ⟨o,#[],ep,t,ho,hx,hd,B.tab⟩
 ·rw[BL c];have hsz:eo.size < 64:=by rwa[Tb.size]
  refine BJ<|q7c ho hx hd B hm hsz λh' o' oD t' sb dU j7 pV B' hp hl=>?_;refine BJ<|CG dU pV (B'.tab (U:=U)).fits ?_
  dsimp only
  have ld:(t'.led && tb.led) = !cU w:=by rw[B'.led,Tb.led];simp
  have pl:tb.plain=false:=by
   rcases Tb.plain with q | q
   ·rw[q]at c;simp at c
   ·exact q
  unfold SetTable.road;rw[B'.fill];simp only[HD,Aq,CP]
  by_cases c2:(t'.mask == tb.mask && tb.dummies.isEmpty)=true
  ·rw[BP c2]
   dsimp only
   have T2:Tab U w eo {tb with finger:=t'.finger,led:=t'.led && tb.led,moves:=t'.moves,plain:=t'.plain && tb.plain} zs:=
    ⟨Tb.elts,Tb.keys,Tb.nodup,Tb.few,Tb.fits,ld,.inr<|by show(t'.plain && tb.plain)=false;rw[pl];simp⟩
   refine FQ dU pV ?_<|jJ<|Ci Tb.ga;exact k _ (sb.trans<|CT _ a _) (qw dU j7 pV T2).2
  ·rw[BL c2]
   dsimp only
   obtain⟨t2,order,e,p,f,l1,l2,l3,l4,l5⟩:=Qq hp (eo.map (·.1)) hl⁻¹;rw[e];have p2:order.toList.Perm (List.range eo.size):=by simpa using p
   have pp:=k6x p2;have ps:(order.filterMap (eo[·]?)).size=eo.size:=by
    have:=pp.length_eq;rwa[Bu,Bu]at this
   refine BJ ?_;show wpAny _ _ (if((order.filterMap (eo[·]?)).size != eo.size)=true then _ else pure (order.filterMap (eo[·]?),t2)) _ _ _;rw[BL<|by rw[ps];simp];refine BK ?_
   dsimp only
   have T2:Tab U w (order.filterMap (eo[·]?)) t2 zs:=⟨λx hx=>Tb.elts x<|pp.mem_iff.mp hx,(pp.map keyOf).trans Tb.keys,Tb.nodup,Tb.few,by rw[ps];simpa using f,l1.trans ld,.inr<|l2.trans<|by rw[pl];simp⟩;refine FQ dU pV ?_<|jJ<|Ci T2.ga;exact k _ (sb.trans<|CT _ a _) (qw dU j7 pV T2).2
def zB{Q:Bool->Shared->Prop}(S:aA U w s.heap a zs)(k:Q true s):↥1 (isAnySet<|.ref a) Q E s:=by
 unfold isAnySet;exact BJ<|JZ S.typeIs sub_set_self<|BK k
def q8k(S:aA U w s.heap a zs)(k:Q (.type "set") s):↥1 (baseOf a) Q E s:=by
 unfold baseOf;exact BJ<|JZ S.typeIs sub_set_self<|BK k
def Qw{Q:Nat->Shared->Prop}(S:aA U w s.heap a zs)(k:∀ n,(∀ s':Shared,s'.heap.get? a=s.heap.get? a->∀ Q':Nat->Shared->Prop,Q' n s'->↥1 (setEpoch a) Q' E s')->Q n s):↥1 (setEpoch a) Q E s:=by
 obtain⟨o,es,ep,t,ho,hx,hd,T⟩:=S;exact LC ho hd T.fits<|k ep λs' e Q' q=>LC (e.trans ho) hd T.fits q
def q8t{id:String}(S:aA U w s.heap b zs)(hz:zs.length < 64)
  (k:∀ h',(∀ c o,s.heap.get? c≈o->h'.get? c≈o)->aA U w h' ↑s zs->Q (.ref ↑s) {s with heap:=h'}):↥1 (newFrom id (.type "set")<|.ref b) Q E s:=by
 unfold newFrom;refine BJ<|q0n λo hx ⟨t,hd,B,hm⟩ hf=>?_;have ho:(s.heap.push o).get? ↑s≈o:=At _ hf;have aX:=S.lt;have S':aA U w (s.heap.push o) b zs:=S.keep λo' e=>Aj _ e;unfold addrOf;refine BJ<|BK<|BJ<|CJ ?_;unfold updateFrom;refine BJ<|zB S' ?_;simp only[CZ];refine BJ<|BK ?_;unfold merge;refine BJ<|Qw S' λn _=>?_;refine q2i ho hx hd B hm (Cz aX) S' hz λh' sb S2=>?_;refine BK<|k h' (λc u e=>?_) S2;have hc:=Bw<|Av e;rw[sb.2 c hc];exact Aj _ e
def flipped(zs:Ð)(z:Str):Ð:=if z∈zs then zs.erase z else zs++[z]
def HG(hn:zs.Nodup)(z y:Str):y∈flipped zs z↔(if y=z then y∉zs else y∈zs):=by
 unfold flipped
 by_cases c:z∈zs
 ·rw[BP c,hn.mem_erase_iff]
  by_cases e:y=z
  ·subst e;simp[c]
  ·simp[e]
 ·rw[BL c,Am,Ad]
  by_cases e:y=z
  ·subst e;simp[c]
  ·simp[e]
def k3z(zs:Ð)(z:Str):(flipped zs z).length<=zs.length+1:=by
 unfold flipped
 split
 ·exact Nat.le_succ_of_le<|List.length_erase_le
 ·simp
theorem Qx:∀(ps zs:Ð),zs.Nodup->ps.Nodup->∀ y,y∈ps.foldl flipped zs↔(if y∈ps then y∉zs else y∈zs)
 | [],zs,_,_,y=>by simp
 | p :: r,zs,hn,hp,y=>by
  rw[Bh]at hp;have FE:(flipped zs p).Nodup:=by
   unfold flipped
   split
   ·exact hn.erase p
   ·rename_i c;rw[Co];exact⟨hn,by simp,λx hx y hy e=>by rw[Ad]at hy;subst hy e;exact c hx⟩
  rw[Dh,Qx r _ FE hp.2 y]
  by_cases e:y=p
  ·subst e;rw[BL hp.1,HG hn,BP rfl,BP Ae]
  ·by_cases c:y∈r
   ·rw[BP c,BP<|Af _ c,HG hn,BL e]
   ·rw[BL c,BL (λh=>by rcases Ai.mp h with h | h;exact e h;exact c h),HG hn,BL e]
end
def k9q:entryFor table "set.__xor__" = some Builtin.«frozenset.__xor__»:=
 QG (id':= "frozenset.__xor__") (by kernel_rfl) rfl (by decide +kernel) (by kernel_rfl)
variable{zb:Ð}
section
variable{r:Addr}{za zr:Ð}
theorem q0r{nm:String}{Q:Unit->Shared->Prop}(Sa:aA U w s.heap a za)(Sr:aA U w s.heap r zr)(zC:a≠r)(hl:za.length+zr.length < 900)
  (k:∀ h' d (ws:Ð),ws.Perm za->Heap.SameBut r s.heap h'->aA U w h' r (ws.foldl flipped zr)->Q () {s with heap:=h',drawn:=d}):↥1 (symmetricDifferenceUpdate nm r<|.ref a) Q E s:=by
 unfold symmetricDifferenceUpdate;have e1:(Value.ref a == Value.ref r)=false:=by
  refine El.mpr λh=>zC ?_;have:=eq_of_beq h;exact Value.ref.inj this
 rw[e1];simp only[Aq,CP];refine BJ<|JR Sa.typeIs ?_;rw[show(Value.type "set" == Value.type "dict")=false by decide];simp only[Aq,CP];refine BJ<|zB Sa ?_;simp only[CZ];refine BJ<|BK ?_;unfold addrOf;refine BJ<|BK ?_;refine BJ<|Qw Sa λn hn=>?_;refine CJ ?_;obtain⟨o,es,ep,t,ho,hx,hd,T⟩:=id Sa;refine BJ<|k8z ho hx hd T Sr λws h1 d1 p sb S1=>?_;have pw:(ws.toList.map keyOf).Perm za:=(p.map keyOf).trans T.keys;have el:∀ e∈ws.toList,oS U w e:=λe he=>T.elts e<|p.mem_iff.mp he;refine BJ<|QV _ (λrest _ s'=>∃ h' zz,s'={s with heap:=h',drawn:=d1}/\Heap.SameBut r s.heap h'/\aA U w h' r zz/\zz.length+rest.length < 900/\(∀ e∈rest,oS U w e) /\
   (rest.map keyOf).foldl flipped zz=(ws.toList.map keyOf).foldl flipped zr) _ ?_ ?_ ws _ ⟨h1,zr,rfl,sb,S1,?_,el,rfl⟩
 ·rintro e rest b s' ⟨h',zz,rfl,tK,S',iM,he,hf⟩;obtain⟨z,tk,rfl⟩:=he _ Ae;have zD:∀ e∈rest,oS U w e:=λe h=>he e<|Af _ h;rw[As]at iM;have Qy:∀(h2:Heap) (Q':Nat->Shared->Prop),Heap.SameBut r s.heap h2->Q' n {s with heap:=h2,drawn:=d1}->↥1 (setEpoch a) Q' E {s with heap:=h2,drawn:=d1}:=
   λh2 Q' q1 q2=>hn _ (q1.2 a zC) Q' q2
  have fin:∀ h2 HH,Heap.SameBut r s.heap h2->aA U w h2 r HH->HH=flipped zz z->∃ h' HI,({s with heap:=h2,drawn:=d1}:Shared)={s with heap:=h',drawn:=d1}/\Heap.SameBut r s.heap h'/\aA U w h' r HI/\HI.length+rest.length < 900/\(∀ e∈rest,oS U w e) /\
    (rest.map keyOf).foldl flipped HI=(ws.toList.map keyOf).foldl flipped zr:=by
   rintro h2 HH q1 q2 rfl;refine⟨h2,_,rfl,q1,q2,?_,zD,hf⟩;have:=k3z zz z;omega
  dsimp only
  refine BJ<|CJ<|BJ<|k62 (s:={s with heap:=h',drawn:=d1}) S' (λhz=>?_) λh2 hz q1 q2=>?_
  ·simp only[Gr,CZ];refine BJ (Hx (s:={s with heap:=h',drawn:=d1}) S' ⋯ λb h2 q1 q2=>BK ?_);unfold unchanged;refine BJ<|BJ<|Qy h2 _ (tK.trans q1) ?_;simp only[HD,Aq,CP];refine BK<|BK<|fin h2 _ (tK.trans q1) q2 ?_;unfold added flipped;rw[BL hz,BL hz]
  ·simp only[Dm,Aq,CP];refine BK ?_;unfold unchanged;refine BJ<|BJ<|Qy h2 _ (tK.trans q1) ?_;simp only[HD,Aq,CP];refine BK<|BK<|fin h2 _ (tK.trans q1) q2 ?_;unfold flipped;rw[BP hz]
 ·rintro b s' ⟨h',zz,rfl,tK,S',_,_,hf⟩;have zq:zz=(ws.toList.map keyOf).foldl flipped zr:=hf;subst zq;exact BK<|k h' d1 _ pw tK S'
 ·have:=pw.length_eq;rw[Aa]at this;omega
theorem x3h(Sa:aA U w s.heap a za)(Sb:aA U w s.heap b zb)(ha:za.length < 64)(hb:zb.length < 64)
  (k:∀ h' d zc,(∀ c o,s.heap.get? c≈o->h'.get? c≈o)->aA U w h' ↑s zc->(∀ y,y∈zc↔(if y∈za then y∉zb else y∈zb))->Q (.ref ↑s) {s with heap:=h',drawn:=d}) :
  ↥1 (binaryOp .BitXor (.ref a)<|.ref b) Q E s:=by
 refine wpAny_binaryOp_same (op:= .BitXor) (T:= "set") Sa.typeIs Sb.typeIs F.fills_set_xor F.slot_set_xor<|DG F.slot_set_xor Sa.typeIs k9q ?_<|F.args_set_xor_2 _ _;show wpAny _ _ (slot1 "__xor__" ⟨[.ref a,.ref b],[]⟩ >>= _) _ _ _;unfold slot1 slotArgs;simp only[Fd,Dm,Aq,↓reduceIte,bind_assoc,As,Er,HD];refine BJ<|BK ?_
 dsimp only
 refine BJ<|BK ?_
 dsimp only
 refine BJ<|BJ<|zB Sa ?_;refine zB Sb ?_;simp only[Dm,Aq,CP];unfold addrOf;refine BJ<|BK ?_;refine BJ ?_;show wpAny _ _ (baseOf a >>= λc=>newFrom (toString "frozenset."++toString "__xor__") c (.ref b) >>= λres=>addrOf res >>= λq=>holding [res] (symmetricDifferenceUpdate (toString "frozenset."++toString "__xor__") q<|.ref a) >>= λ_=>pure res) _ _ _;refine BJ<|q8k Sa ?_;refine BJ<|q8t Sb hb λh1 k1 S1=>?_;unfold addrOf;refine BJ<|BK<|BJ<|CJ ?_;have Sa1:aA U w h1 a za:=Sa.keep<|k1 a;refine q0r (s:={s with heap:=h1}) Sa1 S1 (Bw Sa.lt) ⋯ λh2 d ws p sb S2=>?_;refine BK<|BK ⟨_,rfl,by simp,k h2 d _ (λc o e=>?_) S2 λy=>?_⟩
 ·rw[sb.2 c<|Bw<|Av e];exact k1 c o e
 ·rw[Qx ws zb Sb.nodup (p.nodup_iff.mpr Sa.nodup) y];simp only[p.mem_iff]
end
def made(zs:Ð):Ð:=zs.foldl added []
def HK(zs:Ð)(z y:Str):y∈added zs z↔y∈zs\/y=z:=by
 unfold added
 split
 ·rename_i h;exact⟨.inl,λq=>q.elim id λe=>e ▸ h⟩
 ·rw[Am,Ad]
def k8l(zs:Ð)(z:Str):(added zs z).length<=zs.length+1:=by
 unfold added
 split <;> simp
theorem Qz:∀(ps zs:Ð) (y:Str),y∈ps.foldl added zs↔y∈zs\/y∈ps
 | [],zs,y=>by simp
 | p :: r,zs,y=>by
  rw[Dh,Qz r,HK,Ai]
  constructor
  ·rintro ((h | h) | h)
   ·exact .inl h
   ·exact .inr<|.inl h
   ·exact .inr<|.inr h
  ·rintro (h | h | h)
   ·exact .inl<|.inl h
   ·exact .inl<|.inr h
   ·exact .inr h
theorem QA:∀(ps zs:Ð),(ps.foldl added zs).length<=zs.length+ps.length
 | [],zs=>by simp
 | p :: r,zs=>by
  rw[Dh,As];have h1:=QA r<|added zs p;have h2:=k8l zs p;omega
def q4o(zs:Ð)(y:Str):y∈made zs↔y∈zs:=by
 unfold made;rw[Qz];simp
def HL(zs:Ð):(made zs).length<=zs.length:=by
 have:=QA zs []
 simpa[made]using this
variable{P:Nat->Value->Prop}{G:Array GenState->Array GenState->Prop}{items:Array Value}
section
def gI(w:World):Obj:={cls:= .type "set",dict:=none,data:= .set #[] 0 (.fresh 0 0 (!cU w))}
def HM(e:h.get? a≈gI w):aA U w h a []:=⟨_,_,_,_,e,⟨rfl,rfl,rfl⟩,rfl,fq.tab ⟨rfl,rfl,rfl,rfl⟩⟩
def k9h(v:Value)(k:Q (.ref ↑s) {s with heap:=s.heap.push (gI w)}) :
  codeAny (model U w) A (.call (.builtin "set.__new__") ⟨[.type "set",v],[]⟩) (wants Q E) s:=by
 refine KJ ?_;show wpAny _ A.in1 (checkBuiltinCall "set.__new__" ⟨[.type "set",v],[]⟩ >>= λ_=>again<|.builtin "set.__new__" ⟨[.type "set",v],[]⟩) _ _ s;refine BJ<|JF (F.newCall_set_1 v)<|BK ⟨JH F.plain_set_new _,FT F.entry_set_new ?_⟩;rw[FP F.plain_set_new _];unfold Builtin.«set.__new__» newClass
 dsimp only
 refine BJ<|BJ<|JF (show isType (.type "set")=pure true from rfl)<|BK ?_;simp only[Dm,Aq,CP];unfold newSet;refine BJ<|BJ<|wp_text ?_
 dsimp only
 simp only[newObj];exact BJ<|QL<|BK<|BK k
variable{R:Result->Shared->Prop}{I:Addr}{fp wr:↥9}{St:Nat->Shared->Prop}
theorem k1g(W:WalksS U w A.in1 I fp wr G n P St)(a:Addr)(ha:a∉fp)(zs:Ð)(hn:zs.length=n)(qB:∀ i v,P i v->∃ z t,zs[i]?≈z/\v=Value.str z t)(hb:n < 900) :
  ∀k i s,n - i=k->i<=n->St i s->aA U w s.heap a (made<|zs.take i)->(∀ s',Moved (a :: wr) G s s'->aA U w s'.heap a (made zs)->R (.ok<|.ret .none) s') ->
   codeAny (model U w) A (.builtin "set.update.loop" ⟨[.ref a,.ref I],[]⟩) R s:=by
 have QE:=λh=>ha<|W.sub _ h;have nn:∀ b∈wr,b∈a :: wr:=λb hb=>Af _ hb;intro k
 induction k with
 | zero=>
  intro i s hk hi st S k2;have e:i=n:=⋯
  subst e;refine FT KY ?_;rw[FP IV _];show wpAny _ A.in1 (pyNext (.ref I) >>= _) _ _ s;refine BJ<|W.done s _ _ st λs' m=>?_;show wpAny _ A.in1 (ret Value.none) _ _ s';rw[Cs<|⋯]at S;exact BK<|k2 s' (m.mono nn)<|S.keep λo e=>m.heap a o QE e
 | succ k ih=>
  intro i s hk hi st S k2;have aX:i < n:=⋯
  refine FT KY ?_;rw[FP IV _];show wpAny _ A.in1 (pyNext (.ref I) >>= _) _ _ s;refine BJ<|W.item i s _ _ aX st λv s' hP dX m=>?_;obtain⟨z,t,hz,rfl⟩:=qB i v hP;have S':=S.keep λo e=>m.heap a o QE e;show wpAny _ A.in1 (holding [Value.str z t] (setAdd a<|.str z t) >>= _) _ _ s';refine BJ<|CJ ?_;unfold setAdd;refine CJ<|BJ<|(strKind U w).pyHash (PX _ _ _ _) ?_;have hl:(made<|zs.take i).length<=i:=Ch (HL _) (by rw[Br];omega);refine Hx (s:={s' with toks:=s'.toks+1}) S' ⋯ λb h' sb S2=>?_;have S3:aA U w h' a (made<|zs.take<|i+1):=by
   rw[Cj,hz];unfold made;rwa[List.foldl_append]
  refine BK ⟨JH IV _,ih (i+1) _ ⋯ aX (W.frame _ s' _ _ dX (Es _) λc hc o e=>?_) S3 λs2 m2 S4=>?_⟩
  ·rwa[sb.2 c λh=>ha<|h ▸ hc]
  ·refine k2 s2 (Moved.trans W.gtrans ((m.mono nn).then_heap (Es _) λc o hc e=>?_) m2) S4;rwa[sb.2 c λh=>hc<|h ▸ Ae]
theorem q28{l:Addr}(hh:A.handled=none)(hl:s.heap.IsList l items)(hi:∀(i:Nat) v,items[i]?≈v->∃ z t,zs[i]?≈z/\v=Value.str z t)(hz:zs.length=items.size)(hb:items.size < 900)
  (k:∀ h' tk,(∀ b o,s.heap.get? b≈o->h'.get? b≈o)->aA U w h' ↑s (made zs)->Q (.ref ↑s) {s with heap:=h',toks:=tk}):↥1 (call (.type "set") [.ref l]) Q E s:=by
 obtain⟨c,tl,HP⟩:=F.called_set.mro;have vL:=F.called_set.made;have nn:=F.called_set.sub;refine wpAny_call<|KJ ?_;show wpAny _ _ (callAny (.type "set") _) _ _ _;refine BK ⟨Code.quiet_builtin _ (by decide +kernel),FT F.entry_type_call ?_⟩;rw[Around.under_plain (weight_type_call_type "set" [.ref l] []) rfl];have h1:=F.called_set.notType;have h2:=F.called_set.canCreate;have h3:=F.typeCall_set_1<|.ref l
 repeat (any_goals (first | assumption | wp_step))
 refine JQ (k9h (.ref l) (E:=E) (Q:=λv À=>v = .ref ↑s/\À={s with heap:=s.heap.push (gI w)}) ⟨rfl,rfl⟩) λr À hr=>?_;cases r with
 | error e=>exact hr
 | ok fl=>
  cases fl with
  | ret v=>
   obtain⟨rfl,rfl⟩:=hr;have hS:(s.heap.push<|gI w).get? ↑s≈gI w:=At _ rfl;have hT:Shared.TypeIs {s with heap:=s.heap.push (gI w)} (.ref ↑s) "set":=⟨_,hS,rfl⟩;have oV:=F.called_set.init.lookup;have HQ:=F.called_set.init.bind<|.ref ↑s
   repeat (any_goals (first | assumption | wp_step))
   refine JQ (codeAny_call_builtin (R:=wants (λr Á=>r = .none/\∃ h' tk,Á={s with heap:=h',toks:=tk}/\(∀ b o,s.heap.get? b≈o->h'.get? b≈o)/\aA U w h' ↑s (made zs)) E) F.called_set.init.plain F.entry_set_init<|check_set_init_1 hT ?_) λr2 s2 qC=>?_
   ·obtain⟨ol,vM,jL,nl,jd⟩:=hl;obtain⟨x0B,vN,QH,qD⟩:=ol;simp only at jL jd;subst jL jd;have HR:(s.heap.push<|gI w).get? l=some {cls:= .type "list",dict:=vN,data:= .seq items nl,slots:=qD}:=Aj _ vM;have n1:=F.sub_list_set;have n2:=F.sub_list_frozenset;have n3:(Value.type "list" == Value.type "dict")=false:=∅
    have ix:(s.heap.push<|gI w).IsList l items:=⟨_,HR,rfl,nl,rfl⟩;have HU:(s.heap.push<|gI w).get? ↑s=some {cls:= .type "set",dict:=none,data:= .set #[] 0 (.fresh 0 0 (!cU w))}:=hS;unfold Builtin.«set.__init__» noKeywords updateFrom;generalize hPI:pyIter=PI
    wp_walk
    subst hPI;refine RJ ix ?_;refine BJ<|wpAny_runValue ?_;have aX:l < ↑s:=Av vM;have bD:l≠(s.heap.push<|gI w).objs.size:=by
     rw[Di];exact Bw<|Ci aX
    have hSf:↑s∉[(s.heap.push<|gI w).objs.size,l]:=by
     rw[Di];intro h
     rcases Ai.mp h with h | h
     ·exact absurd h<|Bw<|Gz _
     ·rw[Ad]at h;exact absurd h<|Cz aX
    refine k1g ((Walks.list (by simp[hh]) _ l bD items).toS) ↑s hSf zs hz (λi v hv=>hi i v hv) hb (items.size - 0) 0 _ ⋯ (Bx _)
     ⟨⟨_,At _ rfl,rfl,rfl⟩,(ix.push _)⟩ ?_ λs' m S'=>?_
    ·exact HM<|Aj _ hS
    ·obtain⟨h',g',d',zE,cA⟩:=s';have eg:g'=s.gens:=m.gens;have ed:d'=s.drawn:=m.drawn;have eo:cA=s.os:=m.os;subst eg ed eo;refine BK ?_;refine BK ⟨rfl,h',zE,rfl,λb o e=>?_,S'⟩;have hb:=Av e;refine m.heap b o (λh=>?_)<|Aj _<|Aj _ e;rw[Di]at h
     rcases Ai.mp h with h | h
     ·exact absurd h<|Bw hb
     ·rw[Ad]at h;exact absurd h<|Bw<|Ci hb
   ·cases r2 with
    | error e=>exact qC
    | ok fl2=>
     cases fl2 with
     | ret r=>
      obtain⟨rfl,h',tk,rfl,q1,q2⟩:=qC
      repeat (any_goals (first | assumption | wp_step))
      exact k _ _ q1 q2
     | _=>exact qC.elim
  | _=>exact hr.elim
end
def slot_next:Slot "set_iterator" "__next__" "set_iterator.__next__":=
 .of (owner:= "set_iterator") (n:= "__next__") (by rw[SX,OJ];kernel_rfl) (by decide +kernel) (by decide +kernel) (by decide +kernel)
  (by first | exact .inl (by decide +kernel) | exact .inr<|by decide +kernel) (by rw[isSubtype_type];kernel_rfl)
def entry_next:entryFor table "set_iterator.__next__" = some Builtin.«set_iterator.__next__»:=entryFor_of_fast<|by kernel_rfl
def args_next(a:Value):argsOk "set_iterator.__next__" ⟨[a],[]⟩:=by unfold argsOk;kernel_rfl
def k67:entryFor table "set.__iter__" = some Builtin.«frozenset.__iter__»:=
 QG (id':= "frozenset.__iter__") (by kernel_rfl) rfl (by decide +kernel) (by kernel_rfl)
def l9(first:Value)(i:Nat)(a:Addr)(n ep:Nat):Obj:={cls:= .type "set_iterator",data:= .fields #[first,.int i 0,.ref a,.int n 0,.int ep 0]}
def gg(ys:List Nat):Obj:={cls:= .type "tuple",data:= .seq (ys.map λ(i:Nat)=>rawInt i).toArray}
inductive Way (w:World) (h:Heap) (a tp:Addr) (es:Array<|Int×Value) (ep:Nat) (t:SetTable) (ws:List<|Int×Value) (i:Nat):Value->Prop where
 | drawn (ys:List Nat) (ht:h.get? tp≈gg ys) (hl:ys.length=es.size) (hw:∀ j:Nat,∀ y,ys[j]?≈y->es[y]?=ws[j]?):Way w h a tp es ep t ws i<|.ref tp
 | text (c:Int) (hb:cU w=true) (hw:ws=(pickOrder (w.params.setOrder a ep) es).toList):Way w h a tp es ep t ws i<|.int c 0
 | one (c:Nat) (hb:cU w=false) (hs:es.size<=1) (hw:ws=es.toList) (hc:SetTable.below t.place c=i):Way w h a tp es ep t ws i<|.int c 0
variable{first:Value}{ws:List (Int×Value)}{p:Array Nat}
section
variable{tp it:Addr}{t:SetTable}
def QI(j c:Nat):SetTable.below #[j] c=if j < c then 1 else 0:=by
 unfold SetTable.below;show SetTable.below.go #[j] c 1 0 1=_;unfold SetTable.below.go;simp only[Nat.zero_lt_one,CZ];show(if(#[j]:Array Nat).getD 0 c < c then SetTable.below.go #[j] c 0 1 1 else SetTable.below.go #[j] c 0 0 0)=_;rw[show(#[j]:Array Nat).getD 0 c=j by rfl]
 split <;> rfl
theorem Way.keep{h':Heap}(W:Way w h a tp es ep t ws i first)(k:∀ o,h.get? tp≈o->h'.get? tp≈o):Way w h' a tp es ep t ws i first:=by
 cases W with
 | drawn ys ht hl hw=>exact .drawn ys (k _ ht) hl hw
 | text c hb hw=>exact .text c hb hw
 | one c hb hs hw hc=>exact .one c hb hs hw hc
def vO(x:Value)(e:h.get? it≈l9 first i a n ep):(h.update it (Obj.mapFields (·.setIfInBounds 0 x))).get? it≈l9 x i a n ep:=Dd _ e rfl
def up1(e:h.get? it≈l9 first i a n ep):(h.update it (Obj.mapFields (·.setIfInBounds 1 (rawInt<|(i:Int)+1)))).get? it≈l9 first (i+1) a n ep:=Dd _ e rfl
theorem QN(h:p.size=1):∃ j,p=#[j]:=by
 obtain⟨l⟩:=p
 match l,h with
 | [j],_=>exact⟨j,rfl⟩
def QO(T:Tab U w es t zs):t.place.size=es.size:=by
 have:=T.fits;unfold SetTable.fits at this;rw[Cb,HY]at this;exact this.1
theorem k1r{Q:Option Value->Shared->Prop}(hi:s.heap.get? it≈l9 first i a es.size ep)(ho:s.heap.get? a≈o)(hd:o.data = .set es ep t)(T:Tab U w es t zs)(hW:Way w s.heap a tp es ep t ws i first)
  (bD:tp≠it) (hp:ws.Perm es.toList)  (he:ws[i]?≈e) (k:∀ h' kI,Heap.SameBut it s.heap h'->h'.get? it≈l9 kI (i+1) a es.size ep->Way w h' a tp es ep t ws (i+1) kI->Q (some e.2) {s with heap:=h'}) :
  ↥1 (pyNext<|.ref it) Q E s:=by
 have hT:s.TypeIs (.ref it) "set_iterator":=⟨_,hi,rfl⟩;unfold pyNext;refine BJ<|NK<|JG (name:=Str.ofString "__next__") hT slot_next<|DG slot_next hT entry_next ?_<|args_next _;unfold Builtin.«set_iterator.__next__»;refine BJ<|BK<|BJ<|QJ hi rfl ?_
 dsimp only
 refine BJ<|KD ho hd T.fits ?_;rw[BL<|by simp];have QP:∀ x,Heap.SameBut it s.heap ((s.heap.update it (Obj.mapFields (·.setIfInBounds 0 x))).update it (Obj.mapFields (·.setIfInBounds 1 (rawInt<|(i:Int)+1)))):=λx=>(CT ..).trans<|CT ..;have me:i < es.size:=by
  have h1:ws.length=es.size:=by simpa using hp.length_eq
  rcases Da i ws.length with h | h
  ·omega
  ·rw[Bg h]at he;cases he
 have QQ:Heap.SameBut it s.heap (s.heap.update it (Obj.mapFields (·.setIfInBounds 1 (rawInt<|(i:Int)+1)))):=CT ..;cases hW with
 | drawn ys ht hl hw=>
  dsimp only
  have hy:ys[i]?=some (ys[i]'⋯):=Ab _;generalize ys[i]'⋯=y at hy;refine BJ<|KZ ht rfl ?_
  dsimp only
  have e1:(ys.map λ(i:Nat)=>rawInt i).toArray[(i:Int).toNat]?≈.int y 0:=by
   rw[Bk,UG,Ah,hy];rfl
  rw[e1]
  dsimp only
  unfold setNextDrawn;refine BJ<|BJ<|CG ho hd T.fits ?_
  dsimp only
  rw[BL<|by simp];have e2:es[(y:Int).toNat]?≈e:=by
   rwa[Bk,hw i y hy]
  rw[e2]
  dsimp only
  refine BK (BJ<|DW hi rfl (by simp) ?_);refine BK ⟨_,rfl,BK<|k _ _ QQ (up1 hi)<|.drawn ys ?_ hl hw⟩;rwa[QQ.2 tp bD]
 | text c hb hw=>
  dsimp only
  unfold setNext;refine BJ<|BJ<|CG ho hd T.fits ?_
  dsimp only
  refine BJ<|wp_text ?_;rw[hb];simp only[CZ];rw[BL<|by simp];unfold setWalk;refine BJ<|BJ<|CG ho hd T.fits ?_
  dsimp only
  refine BJ<|wp_text ?_;rw[hb];simp only[CZ];refine BJ<|JX ?_;refine BK ?_;have e1:(pickOrder ((model U w).w.params.setOrder a ep) es)[(i:Int).toNat]?≈e:=by
   rw[Bk,<- Bj];show(pickOrder (w.params.setOrder a ep) es).toList[i]?=_;rwa[<- hw]
  rw[e1];refine BK ?_
  dsimp only[Option.map]
  refine BJ (DW hi rfl (by simp) ?_);refine BJ (DW (vO _ hi) rfl (by simp) ?_);exact BK ⟨_,rfl,BK<|k _ _ (QP _) (up1<|vO _ hi)<|.text _ hb hw⟩
 | one c hb hs hw hc=>
  have hi0:i=0:=⋯
  have j9:es.size=1:=⋯
  subst hi0;have zF:t.place.size=1:=(QO T).trans j9;obtain⟨j,hj⟩:=QN zF
  dsimp only
  unfold setNext;refine BJ<|BJ<|CG ho hd T.fits ?_
  dsimp only
  refine BJ<|wp_text ?_;rw[hb];simp only[Aq,CP];show wpAny _ _ (if(!t.plain && decide (es.size > 1))=true then _ else _) _ _ _;rw[BL<|by rw[j9];simp];refine BJ ?_;show wpAny _ _ (if(!t.led && !es.isEmpty)=true then _ else _) _ _ _;rw[BL<|by rw[T.led,hb];simp];refine BK ?_;rw[Bk,hc];have e1:es[0]?≈e:=by
   rwa[<- Bj,<- hw]
  have e2:t.place[0]?≈j:=by rw[hj];rfl
  rw[e1,e2];refine BK ?_
  dsimp only
  refine BJ (DW hi rfl (by simp) ?_);refine BJ (DW (vO _ hi) rfl (by simp) ?_);refine BK ⟨_,rfl,BK<|k _ _ (QP _) (up1<|vO _ hi)<|.one (j+1) hb hs hw ?_⟩;rw[hj,QI,BP<|Gz _]
theorem k20{Q:Option Value->Shared->Prop}(hh:A.handled=none)(hi:s.heap.get? it≈l9 first i a es.size ep)(ho:s.heap.get? a≈o)(hd:o.data = .set es ep t)(T:Tab U w es t zs)(hW:Way w s.heap a tp es ep t ws i first)
  (hp:ws.Perm es.toList) (he:i=es.size) (k:∀ h',Heap.ExtBut it s.heap h'->Q none {s with heap:=h'}) :
  ↥1 (pyNext<|.ref it) Q E s:=by
 have hT:s.TypeIs (.ref it) "set_iterator":=⟨_,hi,rfl⟩;have wl:ws.length=es.size:=by simpa using hp.length_eq
 unfold pyNext;refine BJ<|NK<|JG (name:=Str.ofString "__next__") hT slot_next<|DG slot_next hT entry_next ?_<|args_next _;unfold Builtin.«set_iterator.__next__»;refine BJ<|BK<|BJ<|QJ hi rfl ?_
 dsimp only
 refine BJ<|KD ho hd T.fits ?_;rw[BL<|by simp];have fin:∀ h2:Heap,Heap.SameBut it s.heap h2->wpAny (model U w) A.in1 (newExc (Value.type "StopIteration") [] >>= λx=>(raiseNew x:Sem Fin)) (λfin s'=>∃ v,fin=Fin.done (Flow.ret v)/\↥1 (pure<|some v) Q E s')
   (λe s'=>↥1 (isInstance e (Value.type "StopIteration") >>= λb=>if b=true then pure none else throw e) Q E s') {s with heap:=h2}:=by
  intro h2 sb;refine BJ ?_;simp only[newExc,newTuple];refine BJ (DN ?_<|by size_fits);refine BJ (JF (by first | rfl | (simp only[firstArgMember];rfl)) ?_);refine DN ?_ (by size_fits);simp only[raiseNew];refine BJ<|wpAny_handled ?_;rw[show A.in1.handled=none from hh];refine BJ<|BK<|wpAny_throw ?_;refine BJ<|JZ (T:= "StopIteration") (b:=true) ⟨_,At _ rfl,rfl⟩ isSubtype_stop ?_;exact BK<|k _<|(sb.extBut.push _).push _
 cases hW with
 | drawn ys ht hl hw=>
  dsimp only
  refine BJ<|KZ ht rfl ?_
  dsimp only
  have e1:(ys.map λ(i:Nat)=>rawInt i).toArray[(i:Int).toNat]?=none:=by
   rw[Bk,UG,Bg];rw[Aa];omega
  rw[e1]
  dsimp only
  refine BJ (DW hi rfl (by simp) ?_);refine BJ (DW (vO _ hi) rfl (by simp) ?_);exact fin _<|(CT ..).trans<|CT ..
 | text c hb hw=>
  dsimp only
  unfold setNext;refine BJ<|BJ<|CG ho hd T.fits ?_
  dsimp only
  refine BJ<|wp_text ?_;rw[hb];simp only[CZ];rw[BL<|by simp];unfold setWalk;refine BJ<|BJ<|CG ho hd T.fits ?_
  dsimp only
  refine BJ<|wp_text ?_;rw[hb];simp only[CZ];refine BJ<|JX ?_;refine BK ?_;have e1:(pickOrder ((model U w).w.params.setOrder a ep) es)[(i:Int).toNat]?=none:=by
   rw[Bk,<- Bj];show(pickOrder (w.params.setOrder a ep) es).toList[i]?=_;rw[<- hw,Bg];omega
  rw[e1];refine BK ?_
  dsimp only[Option.map]
  refine BJ (DW hi rfl (by simp) ?_);exact fin _<|CT ..
 | one c hb hs hw hc=>
  dsimp only
  unfold setNext;refine BJ<|BJ<|CG ho hd T.fits ?_
  dsimp only
  refine BJ<|wp_text ?_;rw[hb];simp only[Aq,CP];show wpAny _ _ (if(!t.plain && decide (es.size > 1))=true then _ else _) _ _ _;rw[BL<|by rw[BR<|⋯];simp];refine BJ ?_;show wpAny _ _ (if(!t.led && !es.isEmpty)=true then _ else _) _ _ _;rw[BL<|by rw[T.led,hb];simp];refine BK ?_;rw[Bk,hc];have e1:es[i]?=none:=Dv ⋯;rw[e1];refine BK ?_
  dsimp only
  refine BJ (DW hi rfl (by simp) ?_);exact fin _<|CT ..
open PySem.Spec
def QR:Slot "set_iterator" "__iter__" "set_iterator.__iter__":=
 .of (owner:= "set_iterator") (n:= "__iter__") (by rw[SX,OJ];kernel_rfl) (by decide +kernel) (by decide +kernel) (by decide +kernel)
  (by first | exact .inl (by decide +kernel) | exact .inr<|by decide +kernel) (by rw[isSubtype_type];kernel_rfl)
def k4h:entryFor table "set_iterator.__iter__" = some Builtin.«dict_keyiterator.__iter__»:=
 QG (id':= "dict_keyiterator.__iter__") (by kernel_rfl) rfl (by decide +kernel) (by kernel_rfl)
def k63(a:Value):argsOk "set_iterator.__iter__" ⟨[a],[]⟩:=by unfold argsOk;kernel_rfl
theorem q1n(hh:A.handled=none)(h1:a≠it)(h2:tp≠it)(hd:o.data = .set es ep t)(T:Tab U w es t zs)(hp:ws.Perm es.toList) :
  Walks U w A it [it,a,tp] [it] es.size (λi v=>∃ e,ws[i]?≈e/\v=e.2) (λi h=>∃ first,h.get? it≈l9 first i a es.size ep/\h.get? a≈o/\Way w h a tp es ep t ws i first) where
 sub:=λb hb=>by simp at hb;simp[hb]
 frame:=λi h h' ⟨first,q1,q2,q3⟩ k=>⟨first,k it (by simp) _ q1,k a (by simp) _ q2,q3.keep<|k tp<|by simp⟩
 item:=λi s Q E hi ⟨first,q1,q2,q3⟩ k=>by
  have wl:ws.length=es.size:=by simpa using hp.length_eq
  obtain⟨e,he⟩:∃ e,ws[i]?≈e:=⟨ws[i]'⋯,Ab _⟩;refine k1r q1 q2 hd T q3 h2 hp he λh' f' sb g1 g2=>?_;exact k _ h' s.toks ⟨e,he,rfl⟩ ⟨f',g1,by rwa[sb.2 a h1],g2⟩ λb o hb e=>by rwa[sb.2 b λh=>hb<|by simp[h]]
 done:=λs Q E ⟨first,q1,q2,q3⟩ k=>k20 hh q1 q2 hd T q3 hp rfl λh' e=>k h' s.toks λb o hb e2=>e b o (λh=>hb<|by simp[h]) e2
 self:=λi s Q E ⟨first,q1,q2,q3⟩ k=>by
  have hT:s.TypeIs (.ref it) "set_iterator":=⟨_,q1,rfl⟩;refine LK hT QR<|DG QR hT k4h ?_<|k63 _;show wpAny _ _ (ret<|.ref it) _ _ s;exact BK ⟨_,rfl,"set_iterator",_,hT,slot_next.lookup,k⟩
def k98(es:Array<|Int×Value):(List.range es.size).map (λy=>(es[y]?).getD (0,Value.none))=es.toList:=by
 refine RP (by simp) λj h1 h2=>?_;rw[Ed,Fi];have:j < es.size:=by simpa using h2
 rw[Ce this];simp
theorem q9f(ho:s.heap.get? a≈o)(hx:o.ExactSet)(hd:o.data = .set es ep t)(T:Tab U w es t zs)
  (k:∀ h' d it tp ws first,(∀ b u,s.heap.get? b≈u->h'.get? b≈u)->↑s<=it->it < h'.objs.size->tp < h'.objs.size->(tp=a\/↑s<=tp)->tp≠it->h'.get? it≈l9 first 0 a es.size ep->Way w h' a tp es ep t ws 0 first->ws.Perm es.toList->Q (.ref it) {s with heap:=h',drawn:=d}) :
  ↥1 (pyIter<|.ref a) Q E s:=by
 have hT:s.TypeIs (.ref a) "set":=⟨o,ho,hx.1⟩;have aX:a < ↑s:=Av ho;refine LK hT F.slot_set_iter<|DG F.slot_set_iter hT k67 ?_<|F.args_set_iter_1 _;unfold Builtin.«frozenset.__iter__» slot0 slotArgs;simp only[Fd,Dm,Aq,↓reduceIte,bind_assoc,Er,HD];unfold addrOf Builtin.Frozenset.sizeOf;refine BJ<|BK<|BJ<|BK ?_;refine BJ<|BJ<|KD ho hd T.fits<|BK ?_;unfold setDrawn;refine BJ<|BJ<|CG ho hd T.fits ?_
 dsimp only
 refine BJ<|wp_text<|BK ?_
 by_cases c:(!cU w && (!t.plain && decide (es.size > 1)))=true
 ·show wpAny _ _ (if(!cU w && (!t.plain && decide (es.size > 1)))=true then _ else _) _ _ _;rw[BP c];refine BJ (Hy _ _ _ _ (by simp) λys d p=>?_);have vP:ys.length=es.size:=by simpa using p.length_eq
  refine BJ (QK ?_<|by rw[Aa,vP];exact jJ<|Ci T.ga);have o1:(s.heap.push<|gg ys).get? a≈o:=Aj _ ho;refine BJ<|LC (s:={s with heap:=s.heap.push<|gg ys,drawn:=d}) o1 hd T.fits ?_;refine BJ<|DN<|BK ⟨_,rfl,"set_iterator",_,⟨_,At _ rfl,rfl⟩,slot_next.lookup,?_⟩;have j9:(s.heap.push<|gg ys).objs.size=↑s+1:=Di ..;refine k _ d _ ↑s (ys.map λy=>(es[y]?).getD (0,Value.none)) (.ref ↑s) (λb u e=>Aj _<|Aj _ e) (by show ↑s<=(s.heap.push<|gg ys).objs.size;omega) ?_ ?_ (.inr<|An _) ?_ (At _ rfl) ?_ ?_
  ·show(s.heap.push<|gg ys).objs.size < ((s.heap.push<|gg ys).push _).objs.size;simp only[Di];omega
  ·show ↑s < ((s.heap.push<|gg ys).push _).objs.size;rw[Di,j9];omega
  ·show ↑s≠(s.heap.push<|gg ys).objs.size;omega
  ·refine .drawn ys (Aj _<|At _ rfl) vP λj y hy=>?_;have hm:y < es.size:=by
    have:=p.mem_iff.mp<|Ao hy
    simpa using this
   rw[Ah,hy];show _=some ((es[y]?).getD (0,Value.none));rw[Ce hm];rfl
  ·have:=p.map λy=>(es[y]?).getD (0,Value.none);rwa[k98]at this
 ·show wpAny _ _ (if(!cU w && (!t.plain && decide (es.size > 1)))=true then _ else _) _ _ _;rw[BL c];refine BJ<|BK ?_;refine BJ<|LC ho hd T.fits ?_;refine BJ<|DN<|BK ⟨_,rfl,"set_iterator",_,⟨_,At _ rfl,rfl⟩,slot_next.lookup,?_⟩;have kk:=λws hW hp=>k (s.heap.push<|l9 (.int 0 0) 0 a es.size ep) s.drawn ↑s a ws (.int 0 0) (λb u e=>Aj _ e) (An _) (by rw[Di];exact Gz _) (by rw[Di];exact Ci aX) (.inl rfl) (Bw aX) (At _ rfl) hW hp;cases hb:cU w with
  | true=>exact kk _ (.text 0 hb rfl)<|Qv _ _
  | false=>
   have h1:es.size<=1:=by
    rcases T.plain with q | q
    ·rw[q];simp
    ·rw[hb,q]at c;simp at c;exact c
   refine kk es.toList (.one 0 hb h1 rfl ?_)<|List.Perm.refl _;have zF:=QO T
   rcases Da es.size 1 with h | h
   ·have:t.place=#[]:=Array.eq_empty_of_size_eq_zero ⋯;rw[this];rfl
   ·obtain⟨j,hj⟩:=QN (p:=t.place) ⋯;rw[hj,QI,BL<|Dj _]
def q6o:typeLookup (.type "set") "__len__" = pure (some<|.builtin "set.__len__"):=F.slot_set_len.lookup
def q87{Q:Bool->Shared->Prop}(hT:s.TypeIs (.ref a) "set")(k:Q false s):↥1 (Builtin.List.listLengthHint<|.ref a) Q E s:=by
 unfold Builtin.List.listLengthHint;refine BJ<|KH hT q6o ?_
 dsimp only
 have e1:splitId "set.__len__" = some ("set","__len__"):=by kernel_rfl
 rw[e1]
 dsimp only
 refine BJ<|JZ hT sub_set_self ?_;simp only[Dm,Aq,CP];rw[BP]
 ·exact BJ<|JR hT<|BK k
 ·decide +kernel
def k6a{Q:Ò->Shared->Prop}(hh:A.handled=none)(ho:s.heap.get? a≈o)(hx:o.ExactSet)(hd:o.data = .set es ep t)(T:Tab U w es t zs)
  (k:∀ s' (acc:List<|Int×Value),(∀ b u,s.heap.get? b≈u->s'.heap.get? b≈u)->s'.gens=s.gens->s'.os=s.os->↑s < ↑s'->acc.Perm es.toList->Q (acc.map (·.2)) s'):↥1 (collect<|.ref a) Q E s:=by
 have aX:a < ↑s:=Av ho;unfold collect;refine BJ<|wpAny_runValue<|FT F.entry_proto_collect ?_;rw[FP F.plain_proto_collect _];show wpAny _ A.in1 (newList [] >>= λl=>again<|.builtin "list.__iadd__" ⟨[l,.ref a],[]⟩) _ _ s;refine BJ<|KC ?_;refine BK ⟨JH F.plain_list_iadd _,FT F.entry_list_iadd ?_⟩;rw[FP F.plain_list_iadd _];generalize hL:↑s=L;have nq:(s.heap.push {cls:= .type "list",data:= .seq ([]:Ò).toArray}).get? a≈o:=Aj _ ho;have hS1:(s.heap.push {cls:= .type "list",data:= .seq ([]:Ò).toArray}).get? L=some {cls:= .type "list",data:= .seq ([]:Ò).toArray}:=by rw[<- hL];exact At _ rfl
 have hT:Shared.TypeIs {s with heap:=s.heap.push {cls:= .type "list",data:= .seq ([]:Ò).toArray}} (.ref a) "set":=⟨o,nq,hx.1⟩;show wpAny _ A.in1 (Builtin.List.listExtendWith (.ref L) (.ref a)<|.ref L) _ _ _;unfold Builtin.List.listExtendWith;refine BJ<|JR hT ?_;have n1:Builtin.List.listSameRef (.ref L) (.ref a)=false:=by
  have:L≠a:=by rw[<- hL];exact Cz aX
  simp[Builtin.List.listSameRef,this]
 have n2:(Value.type "set" == Value.type "list")=false:=∅
 have n3:(Value.type "set" == Value.type "tuple")=false:=∅
 simp only[n1,n2,n3,Bool.or_false,Aq,CP];refine BJ<|q9f nq hx hd T λh2 d it tp ws first qF HV hi2 mh tL bD gi W p=>?_;have QU:=qF a o nq;have HU:=qF L _ hS1;have nr:(s.heap.push {cls:= .type "list",data:= .seq ([]:Ò).toArray}).objs.size=L+1:=by rw[Di,hL]
 refine BJ<|CJ<|q87 (a:=a) (s:={s with heap:=h2,drawn:=d}) ⟨o,QU,hx.1⟩ ?_;show wpAny _ A.in1 (rule "list.extend.makes-room" >>= λ_=>Builtin.List.listTouch (.ref L) >>= λ_=>again<|.builtin "list.extend.loop" ⟨[.ref L,.ref it,.ref L],[]⟩) _ _ _;refine BJ<|HX ?_;refine BJ ?_;show wpAny _ A.in1 (updateSeq L (·.push .none) >>= λ_=>updateSeq L (·.pop)) _ _ _;refine BJ<|wpAny_updateSeq HU rfl ?_;have QY:=Dd (Obj.mapSeq (·.push Value.none)) HU rfl;refine wpAny_updateSeq QY rfl ?_;have hS4:=Dd (Obj.mapSeq (·.pop)) QY rfl;have aI:∀ b u,b≠L->h2.get? b≈u->((h2.update L (Obj.mapSeq (·.push Value.none))).update L (Obj.mapSeq (·.pop))).get? b≈u:=
  λb u hb e=>(Cm _ _<|CK hb).trans<|(Cm _ _<|CK hb).trans e
 have vQ:it≠L:=by
  have iN:L+1<=it:=by rwa[<- nr]
  exact Cz iN
 have Q0:a≠L:=by rw[<- hL];exact Bw aX
 have hai:a≠it:=by
  have iN:L+1<=it:=by rwa[<- nr]
  intro e;rw[<- hL,<- e]at iN;exact absurd iN<|Nat.not_le.mpr<|Ci aX
 have Q1:tp≠L:=by
  rcases tL with h | h
  ·rwa[h]
  ·have h':L+1<=tp:=by rwa[<- nr]
   exact Cz h'
 have oO:L∉[it,a,tp]:=by
  intro h
  rcases Ai.mp h with h | h
  ·exact vQ h.symm
  ·rcases Ai.mp h with h | h
   ·exact Q0 h.symm
   ·exact Q1 (Ad.mp h).symm
 refine BK ⟨JH F.plain_extend_loop _,codeAny_extend_loopS ((q1n (by simp[hh]) hai bD hd T p).toS) (jJ<|Ci T.ga) L oO (.ref L) es.size 0 _ _ _ rfl (Bx _) ⟨first,aI it _ vQ gi,aI a _ Q0 QU,W.keep λu e=>aI tp u Q1 e⟩ hS4 (ItemsOf.nil _) λs' acc c m Q2 hI=>?_⟩;show wpAny _ A (load L >>= _) _ _ s';refine BJ<|wpAny_load Q2 ?_;have wl:ws.length=es.size:=by simpa using p.length_eq
 have el:acc.toList=ws.map (·.2):=by
  refine Dy λj=>?_;rw[Bj,Ah];cases hj:acc[j]? with
  | none=>
   have:ws[j]?=none:=by
    rw[Bg];rw[wl,<- hI.1];exact Array.getElem?_eq_none_iff.mp hj
   rw[this];rfl
  | some v=>
   obtain⟨e,h1,h2⟩:=hI.2 j v hj;rw[h1,h2];rfl
 refine BK ?_;rw[el];refine k s' ws (λb u e=>?_) m.gens m.os (by rw[hL];exact Av Q2) p;have hb:b < ↑s:=Av e;have Q3:b≠L:=by rw[<- hL];exact Bw hb
 have HQ:b≠it:=by
  intro q;have iN:L+1<=it:=by rwa[<- nr]
  rw[<- hL,<- q]at iN;exact absurd iN<|Nat.not_le.mpr<|Ci hb
 refine m.heap b u (λh=>?_)<|aI b u Q3<|qF b u<|Aj _ e
 rcases Ai.mp h with h | h
 ·exact Q3 h
 ·exact HQ<|Ad.mp h
end
end bP
namespace bP
open PySem PySem.Spec PyProof.Rows
def x2d(a b:List Nat):ltCps a b=decide (a < b):=ltCps_eq a b
theorem eF:∀l p,risingS p l=true->∀ x∈l,p.cps.toList<=x.cps.toList
 | [],_,_,x,hx=>by cases hx
 | y :: r,p,h,x,hx=>by
  unfold risingS at h;rw[Cb,LQ,x2d,GZ]at h;have h1:=h.1
  rcases Ai.mp hx with rfl | hx
  ·exact h1
  ·exact List.le_trans h1<|eF r y h.2 x hx
theorem ft{p:Str}:∀{l},risingS p l=true->sortedS l=true
 | [],_=>rfl
 | y :: r,h=>by
  unfold risingS at h;rw[Cb]at h;exact h.2
def gj{a b:Str}(h:a.cps.toList=b.cps.toList):a=b:=by
 cases a;cases b;simp only at h;have:=Array.toList_inj.mp h;rw[this]
theorem Q4{U:Program}{w:World}:∀(l:List<|Int×Value),(∀ e∈l,oS U w e)->StrsAre (l.map (·.2)) (l.map keyOf)
 | [],_=> .nil
 | e :: r,h=>by
  obtain⟨z,t,rfl⟩:=h e Ae;exact .cons z t<|Q4 r λx hx=>h x<|Af _ hx
variable{zs:Ð}{E Q:Í}{U:Program}
section
variable{w:World}{A:Around}{s:Shared}{a:Addr}
theorem k6t(hh:A.handled=none)(S:aA U w s.heap a zs)(vR:zs.length < 64)
  (k:∀s' l out e ss,(∀ b u,s.heap.get? b≈u->s'.heap.get? b≈u)->s'.gens=s.gens->s'.os=s.os->↑s<=l->s'.heap.get? l=some (seqObj "list" out e)->StrsAre out.toList ss->ss.Perm zs->sortedS ss=true->Q (.ref l) s') :
  ↥1 (call (.builtin "sorted") [.ref a]) Q E s:=by
 obtain⟨o,es,ep,t,ho,hx,hd,T⟩:=S;refine Calls.call_function_entry kind_sorted plain_sorted entry_sorted (args_sorted1 _) ?_;unfold Builtin.«sorted»;refine BJ<|BK ?_;refine BJ (k6a (by simp[hh]) ho hx hd T λs1 acc kp g1 o1 z1 p=>?_);have hS:=Q4 (w:=w) acc λe he=>T.elts e<|p.mem_iff.mp he;have hlen:(acc.map (·.2)).length=zs.length:=by
  rw[Aa,p.length_eq,Bu,T.size]
 refine BJ (KC ?_<|by rw[hlen];exact jJ<|⋯);have kC:(s1.heap.push (seqObj "list" (acc.map (·.2)).toArray 0)).get? ↑s1=some (seqObj "list" (acc.map (·.2)).toArray 0):=At _ rfl;have hsz:↑s<=↑s1:=Cy z1;refine BJ (CJ<|DG slot_list_sort ⟨_,kC,rfl⟩ entry_list_sort (list_sort_treeK strKind_oneLt kC hS.keysOf (λv₁ Ì rest e=>keyKind_strs<|by rwa[<- e]) (by rwa[hlen]) λdX a1 a2=>⟨_,rfl,?_⟩)<|args_list_sort _);obtain⟨ss,q1,q2,q3⟩:=sorted_out_str hS a1 a2;obtain⟨e,he⟩:=sortedHeap_at (out:=(arrOf dX).map (·.2)) kC;refine BK ⟨_,rfl,k _ _ _ e ss (λb u hb=>?_) g1 o1 hsz he q1 (q2.trans<|(p.map keyOf).trans T.keys) q3⟩;have tM:=kp b u hb;have aX:=Av tM;show(sortedHeap (s1.heap.push _) ↑s1 _ _).get? b≈u;rw[sortedHeap_old (Bw aX)<|by rw[size_push'];exact Ci aX];exact Aj _ tM
end
end bP
namespace L2
open PySem PySem.Spec PyProof.Rows bP
def bq(U:Program)(w:World)(a:Addr)(zs:Ð):HO:= .ext λh=>aA U w h a zs
variable{zs:Ð}{O:Ï}
section
variable{X:Cx}{σ:St}{H:Hp}{s s':Shared}{a:Addr}
def Inv.like(I:↥3)(e1:s'.heap=s.heap)(e2:s'.gens=s.gens)(e3:s'.os=s.os):Inv X O σ H s':=by
 obtain⟨h,g,d,t,o⟩:=s;obtain⟨h',g',d',t',o'⟩:=s';simp only at e1 e2 e3;subst e1 e2 e3;exact⟨I.ok,I.os,I.bare,I.Z,I.loc,I.cell,I.free,I.cD,I.pin,I.aH,I.len⟩
def Inv.fH{o:HO}(I:↥3)(k:∀ b u,s.heap.get? b≈u->s'.heap.get? b≈u)(e2:s'.gens=s.gens)(e3:s'.os=s.os)(hp:↑s<=a)(new:aB X.U X.w (upd H a o) s'.heap a o):Inv X O σ (upd H a o) s':=
 (I.laid (t':=s.toks) k hp new).like rfl e2 e3
def tN{h:Heap}(S:aA X.U X.w h a zs):aB X.U X.w H h a (bq X.U X.w a zs):=by
 refine⟨S,?_,λh1 h2 q k=>q.keep k⟩;obtain⟨o,_,_,_,ho,_⟩:=S;exact⟨o,ho⟩
def Inv.set(I:↥3)(h:H a≈bq X.U X.w a zs):aA X.U X.w s.heap a zs:=(I.aH a _ h).1
theorem Q5:∀{zs:Ð} {us:Ò},ay (zs.map V.str) us->∀(i:Nat) v,us[i]?≈v->∃ z t,zs[i]?≈z/\v=Value.str z t
 | [],_,.nil,i,v,h=>by simp at h
 | z :: r,_,.cons q qs,0,v,h=>by
  obtain⟨t,e⟩:=q;simp at h;exact⟨z,t,rfl,h ▸ e⟩
 | z :: r,_,.cons q qs,i+1,v,h=>by
  simp only[Ee]at h ⊢;exact Q5 qs i v h
theorem HZ:∀{zs}{us},ay (zs.map V.str) us->StrsAre us zs
 | [],_,.nil=> .nil
 | z :: r,_,.cons q qs=>by
  obtain⟨t,rfl⟩:=q;exact .cons z t<|HZ qs
theorem Ia:∀{us}{zs},StrsAre us zs->ay (zs.map V.str) us
 | _,_,.nil=> .nil
 | _,_,.cons z t q=> .cons ⟨t,rfl⟩<|Ia q
theorem Q6(hc:X.calm=true):gR X (.type "set") (λxs H Q=>∃ p zs,xs=[.ref p]/\au X.K H p (zs.map V.str)/\zs.length < 900/\∀ a,H a=none->Q (.ref a) (upd H a<|bq X.U X.w a<|made zs)):=by
 intro O s σ H xs us Q I r h;obtain⟨p,zs,rfl,hp,hl,q⟩:=h;obtain⟨u,rfl,ru⟩:=vals1 r;cases (show u=Value.ref p from ru);obtain⟨è,rv,pl,hz⟩:=I.list hp;have e1:=rv.length;rw[Aa]at e1;refine q28 (I.ok.hd hc) pl.isList (λi v hv=>Q5 rv i v<|hv⁻¹) e1⁻¹ (by simp;omega) λh' tk kp S=>?_;exact⟨.ref _,_,I.fH (s':={s with heap:=h',toks:=tk}) kp rfl rfl (An _) (tN S),rfl,q _<|I.aH.fresh<|An _⟩
def k6r:cX X (binaryOp .BitXor) (λx y H Q=>∃ a b za zb,x = .ref a/\y = .ref b/\H a≈bq X.U X.w a za/\H b≈bq X.U X.w b zb/\za.length < 64/\zb.length < 64 /\
  ∀ c zc,H c=none->zc.Nodup->(∀ y,y∈zc↔(if y∈za then y∉zb else y∈zb))->Q (.ref c) (upd H c<|bq X.U X.w c zc)):=by
 intro O s σ H x y v u Q I rx ry h;obtain⟨a,b,za,zb,rfl,rfl,ha,hb,la,lb,q⟩:=h;cases rx;cases ry;refine x3h (I.set ha) (I.set hb) la lb λh' d zc kp S m=>?_;exact⟨.ref _,_,I.fH kp rfl rfl (An _) (tN S),rfl,q _ zc (I.aH.fresh<|An _) S.nodup m⟩
theorem Q7(hc:X.calm=true):gR X (.builtin "sorted") (λxs H Q=>∃ p zs,xs=[.ref p]/\H p≈bq X.U X.w p zs/\zs.length < 64/\∀ l ss,H l=none->ss.Perm zs->sortedS ss=true->Q (.ref l) (upd H l<|.lst<|ss.map V.str)):=by
 intro O s σ H xs us Q I r h;obtain⟨p,zs,rfl,hp,hl,q⟩:=h;obtain⟨u,rfl,ru⟩:=vals1 r;cases (show u=Value.ref p from ru);refine k6t (I.ok.hd hc) (I.set hp) hl λs' l out e ss kp e2 e3 HV he hS jM nw=>?_;have hlen:ss.length<=sizeLine:=by rw[jM.length_eq];exact jJ<|⋯
 refine⟨.ref _,_,I.fH kp e2 e3 HV (show aB X.U X.w _ s'.heap l (.lst<|ss.map V.str) from⟨by rwa[Aa],out.toList,e,Ia hS,he⟩),rfl,q _ ss (I.aH.fresh HV) jM nw⟩
theorem zG:gR X (.builtin "sorted") (λxs H Q=>∃ p zs,xs=[.ref p]/\au X.K H p (zs.map V.str)/\zs.length < 64/\∀ l ss,H l=none->ss.Perm zs->sortedS ss=true->Q (.ref l) (upd H l<|.lst<|ss.map V.str)):=by
 intro O s σ H xs us Q I r h;obtain⟨p,zs,rfl,hp,hl,q⟩:=h;obtain⟨u,rfl,ru⟩:=vals1 r;cases (show u=Value.ref p from ru);obtain⟨è,rv,pl,hz⟩:=I.list hp;have e1:=rv.length;rw[Aa]at e1;refine PyProof.Rows.sorted_strs pl.isList (HZ rv) ⋯ λout ss hS jM nw=>?_;obtain⟨e,he⟩:=sortedAll_at s.heap è out;have hlen:ss.length<=sizeLine:=by rw[jM.length_eq];exact jJ<|⋯
 refine⟨.ref _,_,I.fH (λb u hb=>sortedAll_old hb) rfl rfl (Es _) (show aB X.U X.w _ _ _ (.lst<|ss.map V.str) from⟨by rwa[Aa],out.toList,e,Ia hS,he⟩),rfl,q _ ss (I.aH.fresh<|Es _) jM nw⟩
end
end L2
namespace L2
open PySem PySem.Spec PyProof.Rows
variable{Q:VK}{H:Hp}{σ:St}{X:Cx}
section
variable{o e:Expr}{ap cp:Pos}
def ka (h:Ev X o σ H λx H1=>∃ l,x = .ref l/\(∃ xs,H1 l≈.lst xs)/\Ev X e σ H1 λy H2=>∃ xs,H2 l≈.lst xs/\xs.length < sizeLine/\Q .non (upd H2 l<|.lst<|xs++[y]))
  (bO:attributeBase o "append" X.env (eval o X.env)=eval o X.env:=by rfl)
  (cG:((backTo cp<|starEach [e] X.env).all (λx=>!x.1) && (backToKw cp<|keywordEach [] X.env).all (λx=>x.1.isSome) && decide ([e].length+([]:List Keyword).length+(if([]:List Keyword).isEmpty then 0 else 1) < 30))=true:=by rfl)
  (hline:(ap.endLine == cp.line)=true:=by rfl) (hs:starEach [e] X.env=(false,eval e X.env) :: starEach [] X.env:=by rfl) (cj:(backTo cp<|starEach [] X.env).any (·.1)=false:=by rfl) (cW:isStar e=false:=by rfl) :
  Ev X (.Call (.Attribute o "append" ap) [e] [] cp) σ H Q:=by
 refine dG (E5 FN PySem.F.slot_list_append PySem.F.type_list_append Pj bI (i8) bO cG hline hs cj)<|h.mono λx H1 ⟨l,ex,⟨xs,hl⟩,h2⟩=>?_;subst ex;refine⟨.inl ⟨rfl,xs,au.of hl⟩,?_⟩;exact ah (h2.mono λy H2 ⟨ys,hy,hz,q⟩=>ax ⟨l,ys,y,rfl,rfl,hy,hz,q⟩) cW
end
variable{D:Ends}{m6:Ô}
section
variable{c:Expr}{body rest:Ô}{pos:Pos}
def Run.nx{M M':St->Hp->Prop}{l:Ô}(h:Run X l {D with nx:=M} σ H)(f:∀ σ' H',M σ' H'->M' σ' H'):Run X l {D with nx:=M'} σ H:=
 ⟨λO s I => aO (h.run O s I) λfl s' q => by
  cases fl with
  | next=>
   obtain⟨σ',H',I',m⟩:=q;exact⟨σ',H',I',f σ' H' m⟩
  | _=>exact q⟩
def Q8(φ ψ:Prop)(M:St->Hp->Prop)(hc:∀ T:Bool->Hp->Prop,(∀ k:Bool,(k=true->φ)->(k=false->ψ)->T k H)->Et X c σ H T)(ht:φ->Run X body {D with nx:=M} σ H)(hu:ψ->Run X m6 {D with nx:=M} σ H)
  (hr:∀ σ' H',M σ' H'->Run X rest D σ' H'):Run X (.If c body m6 pos :: rest) D σ H:=
 P8 φ ψ hc (λp=>(ht p).nx hr) (λp=>(hu p).nx hr)
end
def qG(X:Cx)(H:Hp)(k:Nat)(x y:V)(b:Bool):Prop:=∀O σ s A u v,↥3->A.units+k < cLine->RelV x u->RelV y v->SeqAt.EqAt A s u v b
def vS(X:Cx)(H:Hp)(k:Nat)(x y:V)(b:Bool):Prop:=∀O σ s A u v,↥3->A.units+k < cLine->RelV x u->RelV y v->SeqAt.RcAt A s u v b
def tO(X:Cx)(H:Hp)(k:Nat)(x y:V)(b:Bool):Prop:=∀O σ s A u v,↥3->A.units+k < cLine->RelV x u->RelV y v->SeqAt.RcNeAt A s u v (!b)
variable{us:Ò}
section
variable{k:Nat}{a b:Addr}{xs ys:List V}
def zH{x y:V}(fx:kD x=true)(fy:kD y=true):qG X H k x y (c6 x y):=λ_ _ _ _ _ _ _ _ rx ry=>O9 rx ry fx fy
theorem oW(r:ay xs us){j:Nat}(h:j < us.length):∃ x,xs[j]?≈x/\RelV x us[j]:=by
 have hl:=r.length;have hj:j < xs.length:=⋯
 obtain⟨u,e,q⟩:=r.get<|Ab hj;rw[Ab h]at e;cases e;exact⟨_,Ab hj,q⟩
theorem x4a(e:Nat->Bool)(ha:au X.K H a xs)(hb:au X.K H b ys)(hl:xs.length=ys.length)(he:∀ j x y,xs[j]?≈x->ys[j]?≈y->qG X H k x y (e j)):vS X H (k+1) (.ref a) (.ref b) ((List.range xs.length).all e):=λO σ s A u v I hu rx ry=>by
 cases rx;cases ry;obtain⟨i1,r1,p1,_⟩:=I.list ha;obtain⟨i2,r2,p2,_⟩:=I.list hb;have l1:=r1.length;have l2:=r2.length;have q:=SeqAt.RcAt.lists (A:=A) p1.isList p2.isList (by simp;omega) ⋯ λj h1 h2=>by
  obtain⟨x,ex,qx⟩:=oW r1 (j:=j) h1⁻¹;obtain⟨y,ey,qy⟩:=oW r2 (j:=j) h2⁻¹;exact he j x y ex ey O σ s A.in1 _ _ I (by show A.units+1+k < cLine;omega) qx⁻¹<|qy⁻¹
 rwa[Ay,<- l1]at q
theorem Ib(e:Nat->Bool)(ha:au X.K H a xs)(hb:au X.K H b ys)(hl:xs.length=ys.length)(he:∀ j x y,xs[j]?≈x->ys[j]?≈y->qG X H k x y (e j)):tO X H (k+1) (.ref a) (.ref b) ((List.range xs.length).all e):=λO σ s A u v I hu rx ry=>by
 cases rx;cases ry;obtain⟨i1,r1,p1,_⟩:=I.list ha;obtain⟨i2,r2,p2,_⟩:=I.list hb;have l1:=r1.length;have l2:=r2.length;have q:=SeqAt.RcNeAt.lists (A:=A) p1.isList p2.isList (by simp;omega) ⋯ λj h1 h2=>by
  obtain⟨x,ex,qx⟩:=oW r1 (j:=j) h1⁻¹;obtain⟨y,ey,qy⟩:=oW r2 (j:=j) h2⁻¹;exact he j x y ex ey O σ s A.in1 _ _ I (by show A.units+1+k < cLine;omega) qx⁻¹<|qy⁻¹
 rwa[Ay,<- l1]at q
theorem x4c(ha:au X.K H a xs)(hb:au X.K H b ys)(hl:xs.length≠ys.length):vS X H k (.ref a) (.ref b) false:=λO σ s A u v I hu rx ry=>by
 cases rx;cases ry;obtain⟨i1,r1,p1,_⟩:=I.list ha;obtain⟨i2,r2,p2,_⟩:=I.list hb;have l1:=r1.length;have l2:=r2.length;exact SeqAt.RcAt.lists_lengths p1.isList p2.isList (by simp;omega)<|⋯
theorem Ic(ha:au X.K H a xs)(hb:au X.K H b ys)(hl:xs.length≠ys.length):tO X H k (.ref a) (.ref b) false:=λO σ s A u v I hu rx ry=>by
 cases rx;cases ry;obtain⟨i1,r1,p1,_⟩:=I.list ha;obtain⟨i2,r2,p2,_⟩:=I.list hb;have l1:=r1.length;have l2:=r2.length;exact SeqAt.RcNeAt.lists_lengths p1.isList p2.isList (by simp;omega)<|⋯
theorem q64(e:Nat->Bool)(ha:aQ X.K H a xs)(hb:aQ X.K H b ys)(hl:xs.length=ys.length)(he:∀ j x y,xs[j]?≈x->ys[j]?≈y->qG X H k x y (e j)):vS X H (k+1) (.ref a) (.ref b) ((List.range xs.length).all e):=λO σ s A u v I hu rx ry=>by
 cases rx;cases ry;obtain⟨i1,r1,p1,_⟩:=I.tuple ha;obtain⟨i2,r2,p2,_⟩:=I.tuple hb;have l1:=r1.length;have l2:=r2.length;have q:=SeqAt.RcAt.tuples (A:=A) p1 p2 ⋯ λj h1 h2=>by
  obtain⟨x,ex,qx⟩:=oW r1 h1⁻¹;obtain⟨y,ey,qy⟩:=oW r2 (j:=j) h2⁻¹;exact he j x y ex ey O σ s A.in1 _ _ I (by show A.units+1+k < cLine;omega) qx⁻¹<|qy⁻¹
 rw[Ay,Ay,<- l1,<- l2,hl,Nat.min_self,<- hl]at q
 simpa using q
theorem x2c(hu:X.A.units+100 < cLine):cX X (compareOp .Eq) (λx y H Q=>∃ k c,k<=100/\vS X H k x y c/\Q (.bl c) H):=by
 intro O s σ H x y v u Q I rx ry h;obtain⟨k,c,hk,hc,q⟩:=h;exact hc O σ s X.A v u I ⋯ rx ry X.U X.w X.xe _ ⟨.bl c,H,I,rfl,q⟩
theorem tP(hu:X.A.units+100 < cLine):cX X (compareOp .NotEq) (λx y H Q=>∃ k c,k<=100/\tO X H k x y c/\Q (.bl (!c)) H):=by
 intro O s σ H x y v u Q I rx ry h;obtain⟨k,c,hk,hc,q⟩:=h;exact hc O σ s X.A v u I ⋯ rx ry X.U X.w X.xe _ ⟨.bl (!c),H,I,rfl,q⟩
theorem Q9(e:Nat->Bool)(ha:aQ X.K H a xs)(hb:aQ X.K H b ys)(hl:xs.length=ys.length)(he:∀ j x y,xs[j]?≈x->ys[j]?≈y->qG X H k x y (e j)):tO X H (k+1) (.ref a) (.ref b) ((List.range xs.length).all e):=λO σ s A u v I hu rx ry=>by
 cases rx;cases ry;obtain⟨i1,r1,p1,_⟩:=I.tuple ha;obtain⟨i2,r2,p2,_⟩:=I.tuple hb;have l1:=r1.length;have l2:=r2.length;have q:=SeqAt.RcNeAt.tuples (A:=A) p1 p2 ⋯ λj h1 h2=>by
  obtain⟨x,ex,qx⟩:=oW r1 h1⁻¹;obtain⟨y,ey,qy⟩:=oW r2 (j:=j) h2⁻¹;exact he j x y ex ey O σ s A.in1 _ _ I (by show A.units+1+k < cLine;omega) qx⁻¹<|qy⁻¹
 rw[Ay,Ay,<- l1,<- l2,hl,Nat.min_self,<- hl]at q
 simpa using q
end
variable{T:Bool->Hp->Prop}{r:V->List V->Hp->VK->Prop}{name:Str}
section
variable{o e f c:Expr}{ap cp pos:Pos}{body rest:Ô}
def x4u{Ty id:String}(pa:PlainAttrs Ty)(slot:Slot Ty name id)(mW:typeOf (.builtin id)=pure (.type "method_descriptor"))(hm:vi X id r)
  (h:Ev X o σ H λx H1=>mV X.K Ty x H1/\r x [] H1 Q) (bO:attributeBase o name X.env (eval o X.env)=eval o X.env:=by rfl) (hline:(ap.endLine == cp.line)=true:=by rfl):Ev X (.Call (.Attribute o name ap) [] [] cp) σ H Q:=
 dG (Zr pa slot mW hm bI bO hline) h
def Ie{Ty id:String}(pa:PlainAttrs Ty)(slot:Slot Ty name id)(mW:typeOf (.builtin id)=pure (.type "method_descriptor"))(hm:vi X id r)
  (h:Ev X o σ H λx H1=>mV X.K Ty x H1/\Ev X e σ H1 λy H2=>r x [y] H2 Q) (bO:attributeBase o name X.env (eval o X.env)=eval o X.env:=by rfl)
  (cG:((backTo cp<|starEach [e] X.env).all (λx=>!x.1) && (backToKw cp<|keywordEach [] X.env).all (λx=>x.1.isSome) && decide ([e].length+([]:List Keyword).length+(if([]:List Keyword).isEmpty then 0 else 1) < 30))=true:=by rfl)
  (hline:(ap.endLine == cp.line)=true:=by rfl) (hs:starEach [e] X.env=(false,eval e X.env) :: starEach [] X.env:=by rfl) (cj:(backTo cp<|starEach [] X.env).any (·.1)=false:=by rfl) (cW:isStar e=false:=by rfl):Ev X (.Call (.Attribute o name ap) [e] [] cp) σ H Q:=
 dG (E5 pa slot mW hm bI (i8) bO cG hline hs cj) (h.mono λx H1 ⟨t,h2⟩=>⟨t,ah (h2.mono λy H2 q=>ax q) cW⟩)
def Ig{Ty id:String}(pa:PlainAttrs Ty)(slot:Slot Ty name id)(mW:typeOf (.builtin id)=pure (.type "method_descriptor"))(hm:vi X id r)
  (h:Ev X o σ H λx H1=>mV X.K Ty x H1/\Ev X e σ H1 λy H2=>Ev X f σ H2 λz H3=>r x [y,z] H3 Q) (bO:attributeBase o name X.env (eval o X.env)=eval o X.env:=by rfl)
  (cG:((backTo cp<|starEach [e,f] X.env).all (λx=>!x.1) && (backToKw cp<|keywordEach [] X.env).all (λx=>x.1.isSome) && decide ([e,f].length+([]:List Keyword).length+(if([]:List Keyword).isEmpty then 0 else 1) < 30))=true:=by rfl)
  (hline:(ap.endLine == cp.line)=true:=by rfl) (hs:starEach [e,f] X.env=(false,eval e X.env) :: starEach [f] X.env:=by rfl) (cj:(backTo cp<|starEach [f] X.env).any (·.1)=false:=by rfl) (cW:isStar e=false:=by rfl) (hsf:isStar f=false:=by rfl):Ev X (.Call (.Attribute o name ap) [e,f] [] cp) σ H Q:=
 dG (E5 pa slot mW hm bI (i8) bO cG hline hs cj) (h.mono λx H1 ⟨t,h2⟩=>⟨t,ah (h2.mono λy H2 h3=>ah (h3.mono λz H3 q=>ax q) hsf) cW⟩)
def insertAt(xs:List V)(i:Nat)(y:V):List V:=xs.take i++y :: xs.drop i
def q59:V->List V->Hp->VK->Prop:=λx vs H Q=>∃ l xs i y,x = .ref l/\vs=[.int i,y]/\H l≈.lst xs/\0<=i/\i.toNat<=xs.length/\xs.length < sizeLine/\Q .non (upd H l<|.lst<|insertAt xs i.toNat y)
theorem q65{i:Int}(h0:0<=i)(h:i<=16777216):¬(!Builtin.List.listFitsIndex i)=true:=by
 have e:Builtin.List.listFitsIndex i=true:=by
  unfold Builtin.List.listFitsIndex;rw[Cb,DQ,DQ];omega
 rw[e];exact Aw
theorem Ra:qf X "list.insert" q59:=by
 intro O s σ H x vs v us Q I rx rv h;obtain⟨l,xs,i,y,rfl,rfl,hH,h0,hi,hz,q⟩:=h;cases rx;obtain⟨u,w',rfl,ru,gF⟩:=rv.two;obtain⟨tk,rfl⟩:=ru;obtain⟨z,è,n,r,hl,e⟩:=I.gW hH;have hs:sizeLine=16777216:=DX;have z2:è.toArray.size<=sizeLine:=by rwa[Ay,<- hl]
 have mm:=AutoSeq1.list_insert_list_int_val_1 l è.toArray n i tk w' (q65 h0<|⋯) z2;refine PL F.slot_list_insert ⟨_,e,rfl⟩ F.entry_list_insert (F.args_list_insert_3 _ _ _) mm ⟨e,?_⟩;have ef:(λxs:Array Value=>have k:=if i < 0 then(i+(xs.size:Int)).toNat else min i.toNat xs.size;(xs.extract 0 k).push w'++xs.extract k) è.toArray=(è.take i.toNat++w' :: è.drop i.toNat).toArray:=by
  have hn:¬ i < 0:=⋯
  have hm:min i.toNat è.length=i.toNat:=⋯
  simp only[hn,CP,Ay,hm];apply Array.ext';simp;exact Cs<|by simp
 refine⟨.non,_,I.kE hH e ef ((r.take i.toNat).append<|.cons gF<|r.drop i.toNat) ?_,rfl,q⟩;rw[Ag,As,Br,Du];omega
def q6r:V->List V->Hp->VK->Prop:=λx vs H Q=>∃ a Y k y,x = .ref a/\vs=[kV k,y]/\H a≈.dK Y/\Y.length < sizeLine /\
 ((∃ v,aF Y k≈v/\Q v H)\/(aF Y k=none/\Q y (upd H a<|.dK<|putK Y k y)))
theorem k9p:qf X "dict.setdefault" q6r:=by
 intro O s σ H x vs v us Q I rx rv h;obtain⟨a,Y,k,y,rfl,rfl,hH,hz,q⟩:=h;cases rx;obtain⟨u,w',rfl,ru,gF⟩:=rv.two;obtain⟨z,hd,rs,rel,dd⟩:=vy I.aH hH;have hl:=rel.length;refine call_meetsIn F.slot_dict_setdefault dd.typeIs F.entry_dict_setdefault (F.args_dict_setdefault_3 _ _ _) (kt_meets_setdefault (bX X.U X.w) a (oJ ru) hd w') ⟨rs,dd,⋯,λv hv=>?_,λhn h' j5 hs=>?_⟩
 ·have iy:=rel.val k;rw[hv]at iy
  rcases q with ⟨v',e',q⟩ | ⟨e',_⟩
  ·rw[e']at iy;exact⟨v',H,I.tok _,iy,q⟩
  ·rw[e']at iy;exact iy.elim
 ·have iy:=rel.val k;rw[hn]at iy
  rcases q with ⟨v',e',_⟩ | ⟨e',q⟩
  ·rw[e']at iy;exact iy.elim
  ·have he:∃ q,h'.get? a≈q:=let ⟨q,_,_,hq,_⟩:=j5;⟨q,hq⟩
   have kF:(putK Y k y).length<=sizeLine:=by have:=jD Y k y;omega
   exact⟨y,_,lX I (by rw[hH];exact True.intro) hs he<|FH kF hd (rel.put k gF) j5,gF,q⟩
def Rb:gR X (.type "int") (λxs H Q=>∃ b:Bool,xs=[.bl b]/\Q (.int (if b then 1 else 0)) H):=by
 intro O s σ H xs us Q I r h;obtain⟨b,rfl,q⟩:=h;obtain⟨u,rfl,ru⟩:=vals1 r;cases (show u=Value.bool b from ru);exact call_int_bool ⟨.int (if b then 1 else 0),H,I.tok _,⟨_,rfl⟩,q⟩
def Rc(Φ:Bool->Hp->Prop)(M:St->Hp->Prop)(hc:Et X c σ H Φ)(ht:∀ H1,Φ true H1->Run X body {D with nx:=M} σ H1)(hu:∀ H1,Φ false H1->Run X m6 {D with nx:=M} σ H1)
  (hr:∀ σ' H',M σ' H'->Run X rest D σ' H'):Run X (.If c body m6 pos :: rest) D σ H:=
 dP (hc.mono λk H1 p=>by
  cases k with
  | true=>rw[BP rfl];exact(ht H1 p).nx hr
  | false=>rw[BL Aw];exact(hu H1 p).nx hr)
theorem vT(W:Nat->St->Hp->Prop){m0:Nat}(h0:W m0 σ H)
  (turn:∀ m σ H,W m σ H->Et X c σ H λb H1=>if b=true then Run X body {D with nx:=λσ' H'=>∃ m',m' < m/\W m' σ' H',ct:=λσ' H'=>∃ m',m' < m/\W m' σ' H',bk:=λσ' H'=>Run X rest D σ' H'} σ H1 else Run X rest D σ H1)
  (hp:PassesOwn (model X.U X.w) X.A X.env X.xe:=by exact PN):Run X (.While c body [] pos :: rest) D σ H:=by
 refine lY (Ym hp m7 qj) ⟨W,⟨m0,h0⟩,λm σ1 H1 w1=>(turn m σ1 H1 w1).mono λb H2 q=>?_⟩;cases b with
 | true=>
  rw[BP rfl]at q;exact⟨λσ' H'=>∃ m',m' < m/\W m' σ' H',λ_ _ h=>h,q⟩
 | false=>
  rwa[BL Aw]at q
def Ih(h:∀ p,H p=none->Q (.ref p) (upd H p<|.dK [])):Ev X (.Dict [] [] pos) σ H Q:=dG ZZ h
def q15(h:∀ p,H p=none->Q (.ref p) (upd H p<|.dT [])):Ev X (.Dict [] [] pos) σ H Q:=dG Z4 h
def gJ(hu:X.A.units+1 < cLine)(h:Ev X o σ H λx H1=>Ev X e σ H1 λy H2=>∃ a v,x = .ref a/\bb H2 a y (some v)/\Q v H2)(hs:qg e:=by intro _ _;rfl):Ev X (.Subscript o e pos) σ H Q:=dG (ZT hu bI bI hs) h
def Rf(hu:X.A.units+1 < cLine)(h:Ev X e σ H λy H1=>Ev X o σ H1 λx H2=>∃ a r,x = .ref a/\bb H2 a y r/\T r.isSome H2)(hm:behindInMarks .In o=false:=by with_unfolding_all rfl):Et X (.Compare e [.In] [o] pos) σ H T:=
 tH (Oy (ZU hu bI bI) hm) (h.mono λy H1 h2=>h2.mono λx H2 ⟨a,r,h3,h4,h5⟩=>⟨a,r,h3,h4,_,rfl,h5⟩)
def k7x(hu:X.A.units+1 < cLine)(h:Ev X e σ H λy H1=>Ev X o σ H1 λx H2=>∃ a r,x = .ref a/\bb H2 a y r/\T (!r.isSome) H2)(hm:behindInMarks .NotIn o=false:=by with_unfolding_all rfl):Et X (.Compare e [.NotIn] [o] pos) σ H T:=
 tH (Oy (ZV hu bI bI) hm) (h.mono λy H1 h2=>h2.mono λx H2 ⟨a,r,h3,h4,h5⟩=>⟨a,r,h3,h4,_,rfl,h5⟩)
def vU{p2:Pos}(hu:X.A.units+1 < cLine)(h:Ev X f σ H λv H1=>Ev X o σ H1 λx H2=>Ev X e σ H2 λy H3=>∃ a H4,x = .ref a/\cw H3 a y v H4/\Run X rest D σ H4)(hs:swapsWith f (some<|.Subscript o e p2) pos.line X.env=pure false:=by rfl) :
  Run X (.Assign [.Subscript o e p2] f pos :: rest) D σ H:=lY (ZW hu bI bI bI hs) h
end
end L2
namespace bE
open PySem PySem.Spec PyProof.Rows
def lexLt(a b:Int×Int):Bool:=if a.1=b.1 then decide (a.2 < b.2)else decide (a.1 < b.1)
def k02(b:Bool)(x y:Value):keyLt' (tuples' b) x y=(do
  let xs <- Builtin.List.listItems x
  let ys <- Builtin.List.listItems y
  for ((p,q),i) in (xs.toList.zip ys.toList).zipIdx do
   if !(<- eqBool p q)then return <- oneLt' (b && i == 0) p q
  return xs.size < ys.size):=rfl
variable{E:Í}{U:Program}{Q:Bool->Shared->Prop}{p q:Int×Int}{x y:Addr}{P:Fin->Shared->Prop}
section
variable{w:World}{A:Around}{s:Shared}
def Pr(h:Heap)(a:Addr)(p:Int×Int):Prop:=∃ o n t u,h.get? a≈o/\o.cls = .type "tuple"/\o.data = .seq #[.int p.1 t,.int p.2 u] n
def Rg{a b:Int}{t u:Tok}(h:Q (decide (a=b)) s):↥1 (eqBool (.int a t)<|.int b u) Q E s:=by
 refine SeqAt.EqAt.int_int a t b u U w E Q ?_;have e:(a == b)=decide (a=b):=rfl;rwa[e]
def x2i{a b:Int}{t u:Tok}(h:Q (decide (a < b)) s):↥1 (oneLt' false (.int a t)<|.int b u) Q E s:=by
 rw[oneLt'_eq];simp only[Aq,CP];refine BJ ?_;show wpAny _ _ (compareOp .Lt (.int a t)<|.int b u) _ _ _;exact lt_int<|EY h
def q2p(hx:Pr s.heap x p)(hy:Pr s.heap y q)(h:Q (lexLt p q) s):↥1 (keyLt' (tuples' true) (.ref x)<|.ref y) Q E s:=by
 obtain⟨ox,nx,tx,ux,zI,cx,dx⟩:=hx;obtain⟨oy,ny,ty,uy,hoy,cy,dy⟩:=hy;rw[k02];refine BJ<|QB zI dx<|BJ<|QB hoy dy ?_;show wpAny _ _ (forIn [((Value.int p.1 tx,Value.int q.1 ty),0),((Value.int p.2 ux,Value.int q.2 uy),1)] _ _ >>= _) _ _ _;rw[Hi];refine BJ<|BJ ?_
 dsimp only
 refine BJ<|Rg ?_
 by_cases c:p.1=q.1
 ·rw[BW c];simp only[Dm,Aq,CP];refine BK ?_
  dsimp only
  rw[Hi];refine BJ ?_
  dsimp only
  refine BJ<|Rg ?_
  by_cases c2:p.2=q.2
  ·rw[BW c2];simp only[Dm,Aq,CP];refine BK ?_
   dsimp only
   rw[List.forIn_nil];refine BK<|BK ?_;have e:lexLt p q=false:=by unfold lexLt;rw[BP c,c2];simp
   rw[e]at h
   simpa using h
  ·rw[BR c2];simp only[Gr,CZ];refine BJ<|x2i<|BK ?_
   dsimp only
   refine BK<|BK ?_;have e:lexLt p q=decide (p.2 < q.2):=by unfold lexLt;rw[BP c]
   rwa[e]at h
 ·rw[BR c];simp only[Gr,CZ];refine BJ<|oneLt_int<|BK ?_
  dsimp only
  refine BK<|BK ?_;have e:lexLt p q=decide (p.1 < q.1):=by unfold lexLt;rw[BL c]
  rwa[e]at h
def sz2{x y:Value}:(#[x,y]:Array Value).size<=sizeLine+1:=by
 rw[DX];show 2<=_;decide
def q12(v:Value):firstOfTuple' v=(do
  if(<- typeOf v) != .type "tuple" then return none
  return (<- Builtin.List.listItems v)[0]?):=rfl
def Rh{Q:Option Value->Shared->Prop}(hx:Pr s.heap x p)(h:∀ t,Q (some<|.int p.1 t) s):↥1 (firstOfTuple'<|.ref x) Q E s:=by
 obtain⟨ox,nx,tx,ux,zI,cx,dx⟩:=hx;rw[q12];refine BJ<|JR ⟨ox,zI,cx⟩ ?_;rw[show(Value.type "tuple" != Value.type "tuple")=false by decide];simp only[Aq,CP];exact BJ<|QB zI dx<|BK<|h tx
def q8e{Q:SortKind->Shared->Prop}(hx:Pr s.heap x p)(hy:Pr s.heap y q)(h:Q (tuples' true) s):↥1 (keyKind' #[.ref x,.ref y]) Q E s:=by
 rw[keyKind'_eq,show(#[.ref x,.ref y]:Array Value)=[.ref x,.ref y].toArray from rfl,List.mapM_toArray];refine BJ<|wpAny_map ?_;rw[List.mapM_cons];refine BJ<|Rh hx λt=>?_;rw[List.mapM_cons];refine BJ<|BJ<|Rh hy λu=>?_;rw[List.mapM_nil];refine BJ<|BK<|BK<|BK ?_;rw[BP<|by simp];refine BJ<|HX ?_;rw[oneTypeOnly'_eq];show wpAny _ _ ((Array.mapM typeOf [Value.int p.1 t,Value.int q.1 u].toArray >>= _) >>= _) _ _ _;rw[List.mapM_toArray];have e1:[Value.int p.1 t,Value.int q.1 u].mapM typeOf=(pure [Value.type "int",Value.type "int"]:Sem _):=rfl;rw[e1];refine BK ?_;have e2:(if((#[Value.type "int",Value.type "int"]:Array Value).all λx=>x == (#[Value.type "int",Value.type "int"]:Array Value)[0])=true then some (#[Value.type "int",Value.type "int"]:Array Value)[0]else none)=some (Value.type "int"):=by
  rw[BP]
  ·rfl
  ·simp
 show Q (tuples'<|Option.any (λx=>x != Value.type "tuple") _) s;rwa[e2]
def wp_at{st:SortSt}{i j:Nat}{Q:Option Bool->SortSt->Prop}(hk:kindOf st=tuples' true)(hi:(arrOf st)[i]?=some (.ref x,.ref x))(hj:(arrOf st)[j]?=some (.ref y,.ref y))(hx:Pr s.heap x p)(hy:Pr s.heap y q)(h:Q (some<|lexLt p q) st) :
  wpS (model U w) A E s (ltAt' i j) Q st:=by
 rw[ltAt'_eq];refine GJ<|wpS_get ?_;show wpS _ _ _ _ (elem' (arrOf st) i >>= λa=>elem' (arrOf st) j >>= λb=>lt' a b) Q st;rw[elem'_eq,elem'_eq,hi,hj];refine GJ<|JM<|GJ<|JM ?_;rw[lt'_eq];refine GJ<|wpS_get ?_;rw[hk];refine GJ<|wpS_lift<|NK<|q2p hx hy ⟨rfl,?_⟩;exact JM h
def mj(x y:Addr)(p q:Int×Int):Array Keyed:=if lexLt q p then #[(.ref y,.ref y),(.ref x,.ref x)]else #[(.ref x,.ref x),(.ref y,.ref y)]
theorem q2v{Q:Option Nat->SortSt->Prop}(hx:Pr s.heap x p)(hy:Pr s.heap y q)
  (h:Q (some 2)<|SortSt.mk' (tuples' true) (mj x y p q) #[] 7 none):wpS (model U w) A E s (countRun' 0 2) Q (SortSt.mk' (tuples' true) #[(.ref x,.ref x),(.ref y,.ref y)] #[] 7 none):=by
 rw[countRun0_eq];refine GJ ?_;unfold ascLoop;refine wpS_mono (QC (I:=λi c st=>st=SortSt.mk' (tuples' true) #[(.ref x,.ref x),(.ref y,.ref y)] #[] 7 none/\c=(none,i)/\(i=2->lexLt q p=false))
  (Q:=λc st=>st=SortSt.mk' (tuples' true) #[(.ref x,.ref x),(.ref y,.ref y)] #[] 7 none/\((c=(none,1)/\lexLt q p=true)\/(c=(none,2)/\lexLt q p=false))) ?_ ?_ ⟨rfl,rfl,λh=>by cases h⟩) ?_
 ·rintro i c st h1 h2 ⟨rfl,rfl,hI⟩;have e:i=1:=⋯
  subst e;refine GJ<|wp_at rfl rfl rfl hy hx ?_
  dsimp only
  cases hb:lexLt q p with
  | true=>
   rw[BP rfl];exact JM ⟨rfl,.inl ⟨rfl,rfl⟩⟩
  | false=>
   rw[BL Aw];exact JM ⟨rfl,rfl,λ_=>rfl⟩
 ·rintro c st ⟨rfl,rfl,hI⟩;exact⟨rfl,.inr ⟨rfl,hI rfl⟩⟩
 ·rintro c st ⟨rfl,⟨rfl,hb⟩ | ⟨rfl,hb⟩⟩
  ·dsimp only
   rw[BL ∅,BL<|∅];unfold descPart;refine GJ<|wpS_lift<|HX ⟨rfl,?_⟩;unfold descLoop;refine GJ (wpS_mono (QC (I:=λi c st=>c=(none,2,0)/\st=SortSt.mk' (tuples' true) #[(.ref x,.ref x),(.ref y,.ref y)] #[] 7 none) (λi c st h1 h2 _=>⋯) (λc st h=>h) ⟨rfl,rfl⟩) ?_);rintro c st ⟨rfl,rfl⟩
   dsimp only
   rw[BL<|∅];unfold tail3;refine GJ<|wpS_reverse ?_;unfold ascLoop;refine GJ (wpS_mono (QC (I:=λi c st=>c=(none,2)/\st=SortSt.mk' (tuples' true) #[(.ref y,.ref y),(.ref x,.ref x)] #[] 7 none) (Q:=λc st=>c=(none,2)/\st=SortSt.mk' (tuples' true) #[(.ref y,.ref y),(.ref x,.ref x)] #[] 7 none) (λi c st h1 h2 _=>⋯) (λc st h=>h) ⟨rfl,rfl⟩) ?_);rintro c st ⟨rfl,rfl⟩
   dsimp only
   refine JM ?_;unfold mj at h;rwa[BP hb]at h
  ·dsimp only
   rw[BP<|∅];refine JM ?_;unfold mj at h;rwa[BL<|by rw[hb];exact Aw]at h
def q69{Q:Unit->SortSt->Prop}(hx:Pr s.heap x p)(hy:Pr s.heap y q)(h:∀ st,arrOf st=mj x y p q->failedOf st=none->Q () st) :
  wpS (model U w) A E s sortRuns' Q (SortSt.mk' (tuples' true) #[(.ref x,.ref x),(.ref y,.ref y)] #[] 7 none):=by
 rw[sortRuns'_eq];refine GJ<|wpS_get ?_
 dsimp only
 have hmr:minRun' 2 2 0=2:=by rw[minRun'_succ,BP<|∅]
 show wpS _ _ _ _ ((forIn [0:2] _ _) >>= _) _ _;refine GJ<|wpS_mono (QC (I:=λi c st=>(i=0/\c=(none,0)/\st=SortSt.mk' (tuples' true) #[(.ref x,.ref x),(.ref y,.ref y)] #[] 7 none)\/(1<=i/\c=(none,2)/\st=SortSt.mk' (tuples' true) (mj x y p q) #[(0,2,0)] 7 none))
  (Q:=λc st=>c=(none,2)/\st=SortSt.mk' (tuples' true) (mj x y p q) #[(0,2,0)] 7 none) ?_ ?_ (.inl ⟨rfl,rfl,rfl⟩)) ?_
 ·rintro i c st h1 h2 (⟨rfl,rfl,rfl⟩ | ⟨hi,rfl,rfl⟩)
  ·dsimp only
   rw[BL<|by show ¬(0>=2);decide];refine GJ ?_;show wpS _ _ _ _ (countRun' 0 2) _ _;refine q2v hx hy ?_
   dsimp only
   rw[BL<|by show ¬(2 < minRun' 2 2 0);rw[hmr];decide];refine GJ<|wpS_get ?_;show wpS _ _ _ _ (modify _ >>= _) _ _;exact GJ<|wpS_modify<|JM<|.inr ⟨An _,rfl,rfl⟩
  ·dsimp only
   rw[BP<|by show 2>=2;decide];exact JM ⟨rfl,rfl⟩
 ·rintro c st (⟨h1,_,_⟩ | ⟨_,hc,hs⟩)
  ·exact absurd h1<|∅
  ·exact⟨hc,hs⟩
 ·rintro c st ⟨rfl,rfl⟩
  dsimp only
  refine GJ<|wpS_mono (QC (I:=λ_ c st=>st=SortSt.mk' (tuples' true) (mj x y p q) #[(0,2,0)] 7 none/\c=(none,())) ?_ (λ_ _ hh=>hh) ⟨rfl,rfl⟩) ?_
  ·rintro i c st _ _ ⟨rfl,rfl⟩;refine GJ<|wpS_get ?_;rw[BP<|by show 1<=1;decide];exact JM ⟨rfl,rfl⟩
  ·rintro c st ⟨rfl,rfl⟩;exact JM<|h _ rfl rfl
def q2d{a:Addr}{n:Nat}(ho:s.heap.get? a=some (seqObj "list" #[.ref x,.ref y] n))(hax:a≠x)(hay:a≠y)(hx:Pr s.heap x p)(hy:Pr s.heap y q)
  (h:P (.done<|.ret .none) {s with heap:=sortedHeap s.heap a [.ref x,.ref y] (if lexLt p q then #[.ref y,.ref x]else #[.ref x,.ref y])}) :
  ↥1 (Builtin.«list.sort» ⟨[.ref a],[(Str.ofString "reverse",.bool true)]⟩) P E s:=by
 rw[list_sort_rev];refine BJ<|QB ho rfl<|BJ<|NQ ho rfl ?_;obtain⟨e1,nq⟩:∃ e1,(s.heap.update a<|Obj.mapSeq λ_=>#[]).get? a=some (seqObj "list" #[] e1):=⟨_,get?_update_seq ho λ_=>#[]⟩;refine BJ<|QM nq rfl<|BJ<|QK ?_;refine BJ<|KC<|CJ ?_;have qH:(((s.heap.update a<|Obj.mapSeq λ_=>#[]).push<|seqObj "tuple" [Value.ref x,Value.ref y].toArray 0).push<|seqObj "list" #[] 0).get? a=some (seqObj "list" #[] e1):=
  Aj _ (Aj _ nq)
 show ↥1 _ P E {s with heap:=((s.heap.update a<|Obj.mapSeq λ_=>#[]).push<|seqObj "tuple" [Value.ref x,Value.ref y].toArray 0).push (seqObj "list" #[] 0)};have keep:∀ z r,a≠z->Pr s.heap z r->Pr (((s.heap.update a<|Obj.mapSeq λ_=>#[]).push<|seqObj "tuple" [Value.ref x,Value.ref y].toArray 0).push<|seqObj "list" #[] 0) z r:=by
  rintro z r hz ⟨o,m,t,u,q1,q2⟩;exact⟨o,m,t,u,Aj _<|Aj _<|(Cm _ _ hz).trans q1,q2⟩
 have kx:=keep x p hax hx;have ky:=keep y q hay hy
 dsimp only
 rw[BP rfl];refine BJ<|HX ?_;rw[BL<|by show ¬(2 < 2);decide];refine BJ<|q8e kx ky ?_;rw[BL<|by show ¬(2 < 2);decide];have e2:(if true=true then((#[Value.ref x,Value.ref y]:Array Value).zip #[Value.ref x,Value.ref y]).reverse else(#[Value.ref x,Value.ref y]:Array Value).zip #[Value.ref x,Value.ref y])=#[(Value.ref y,Value.ref y),(Value.ref x,Value.ref x)]:=by
  rw[BP rfl];simp
 rw[e2];refine BJ<|CW (q69 (Q:=λ_ st=>arrOf st=mj y x q p/\failedOf st=none) ky kx λst h1 h2=>⟨h1,h2⟩) ?_ λ_ _ e=>e;rintro ⟨⟨⟩,dX⟩ s' ⟨rfl,hs,hf⟩
 dsimp only
 have e3:(if true=true then((arrOf dX).map (·.2)).reverse else(arrOf dX).map (·.2))=(if lexLt p q then #[.ref y,.ref x]else #[.ref x,.ref y]):=by
  rw[BP rfl,hs];unfold mj
  split <;> simp
 refine BJ<|QM qH rfl<|BJ (NQ qH rfl ?_ (hsz2:=by rw[e3];split <;> exact sz2));rw[hf];simp only[HD,Aq,CP];refine BK ?_;have e4:(λ_:Array Value=>if True then((arrOf dX).map (·.2)).reverse else(arrOf dX).map (·.2))=λ_=>(if lexLt p q then #[.ref y,.ref x]else #[.ref x,.ref y]):=by
  funext _
  rw[BP trivial];rwa[BP rfl]at e3
 rwa[e4]
def k3b{l:Addr}{Q:Í}(hl:s.heap.IsList l #[.ref x,.ref y])(hx:Pr s.heap x p)(hy:Pr s.heap y q)
  (h:∀h' e,(∀ b u,s.heap.get? b≈u->h'.get? b≈u)->h'.get? (↑s+1)=some (seqObj "list" (if lexLt p q then #[.ref y,.ref x]else #[.ref x,.ref y]) e)->Q (.ref<|↑s+1) {s with heap:=h'}) :
  ↥1 (call (.builtin "sorted") [.ref l] [(Str.ofString "reverse",.bool true)]) Q E s:=by
 refine call_function_entry_kw kind_sorted plain_sorted entry_sorted (args_sorted_rev _ _) ?_;unfold Builtin.«sorted»;refine BJ<|BK ?_;refine BJ<|collect_list hl ?_;refine BJ<|KC ?_;have hsz:((s.heap.push<|seqObj "list" #[] 0).update ↑s (Obj.mapSeq (·++[Value.ref x,Value.ref y].toArray))).objs.size=↑s+1:=by
  rw[Heap.size_update,size_push']
 have kC:(((s.heap.push<|seqObj "list" #[] 0).update ↑s (Obj.mapSeq (·++[Value.ref x,Value.ref y].toArray))).push<|seqObj "list" [Value.ref x,Value.ref y].toArray 0).get? (↑s+1)=some (seqObj "list" [Value.ref x,Value.ref y].toArray 0):=by
  rw[<- hsz];exact At _ rfl
 have lx:=let ⟨_,_,_,_,e,_⟩:=hx;Av e
 have ly:=let ⟨_,_,_,_,e,_⟩:=hy;Av e
 have keep:∀ z r,Pr s.heap z r->Pr (((s.heap.push<|seqObj "list" #[] 0).update ↑s (Obj.mapSeq (·++[Value.ref x,Value.ref y].toArray))).push<|seqObj "list" [Value.ref x,Value.ref y].toArray 0) z r:=by
  rintro z r ⟨o,m,t,u,q1,q2⟩;have hz:=Av q1;exact⟨o,m,t,u,Aj _<|(Cm _ _<|Cz hz).trans<|Aj _ q1,q2⟩
 show wpAny _ _ _ _ _ {s with heap:=((s.heap.push<|seqObj "list" #[] 0).update ↑s (Obj.mapSeq (·++[Value.ref x,Value.ref y].toArray))).push (seqObj "list" [Value.ref x,Value.ref y].toArray 0)};rw[hsz];refine BJ<|CJ<|wpAny_call_entry_kw slot_list_sort ⟨_,kC,rfl⟩ entry_list_sort (q2d kC (Cz<|Ci lx) (Cz<|Ci ly) (keep x p hx) (keep y q hy) ⟨_,rfl,?_⟩)<|args_list_sort_rev _ _;obtain⟨e,he⟩:=sortedAll_at s.heap [Value.ref x,Value.ref y] (if lexLt p q then #[.ref y,.ref x]else #[.ref x,.ref y]);exact BK ⟨_,rfl,h _ e (λb u hb=>sortedAll_old hb) he⟩
end
end bE
namespace L2
open PySem PySem.Spec PyProof.Rows bE
variable{O:Ï}
section
variable{X:Cx}{e:Expr}{σ:St}{H:Hp}{Q:VK}{pos p kp cp:Pos}{j:Nat}
def Ri{s:Shared}{a:Addr}{i j:Int}(I:↥3)(h:H a≈.tup [.int i,.int j]):Pr s.heap a (i,j):=by
 obtain⟨è,r,pl,_⟩:=I.tuple<|aQ.of h;obtain⟨u,v,rfl,⟨t,rfl⟩,⟨t',rfl⟩⟩:=vals2 r;obtain⟨o,ho,hc,n,hd⟩:=pl;exact⟨o,n,t,t',ho,hc,hd⟩
def k6g(hm:X.mg "sorted" = none) (h:Ev X e σ H λv H1=>∃ l x y a b c d,v = .ref l/\H1 l≈.lst [.ref x,.ref y]/\H1 x≈.tup [.int a,.int b]/\H1 y=some (.tup [.int c,.int d]) /\
   ∀ r,H1 r=none->Q (.ref r) (upd H1 r<|.lst (if lexLt (a,b) (c,d)then [.ref y,.ref x]else [.ref x,.ref y]))) (hg:Gl X "sorted":=by rfl)
  (he:backTo pos (starEach [e] X.env)=(false,eval e X.env) :: backTo pos (starEach [] X.env):=by rfl) (cj:(backTo pos<|starEach [e] X.env).any (·.1)=false:=by rfl) (cW:isStar e=false:=by rfl) :
  Ev X (.Call (.Name "sorted" p) [e] [⟨some "reverse",.Constant (.bool true) j cp,kp⟩] pos) σ H Q:=by
 refine⟨λO s I=>?_⟩;refine KQ<|mQ I hg hm DR ?_;have hE:Ea X [e] σ H λvs H1=>∃ l x y a b c d,vs=[.ref l]/\H1 l≈.lst [.ref x,.ref y]/\H1 x≈.tup [.int a,.int b]/\H1 y=some (.tup [.int c,.int d]) /\
   ∀ r,H1 r=none->Q (.ref r) (upd H1 r<|.lst (if lexLt (a,b) (c,d)then [.ref y,.ref x]else [.ref x,.ref y])):=
  ah (h.mono λv H1 ⟨l,x,y,a,b,c,d,e1,r1⟩=>ax ⟨l,x,y,a,b,c,d,by rw[e1],r1⟩) cW
 refine callWith_kw (aO (hE.run pos O s I) λus s1 ⟨vs,H1,I1,r1,l,x,y,a,b,c,d,ev,hl,hx,hy,q⟩=>?_) he cj;subst ev;obtain⟨u,rfl,ru⟩:=vals1 r1;cases (show u=Value.ref l from ru);refine kws_cons<|BK<|kws_nil ?_;obtain⟨è,r2,pl,_⟩:=I1.list<|au.of hl;obtain⟨u,v,rfl,ru,rv⟩:=vals2 r2;cases (show u=Value.ref x from ru);cases (show v=Value.ref y from rv);refine k3b pl.isList (Ri I1 hx) (Ri I1 hy) λh' e kp he=>?_;refine⟨.ref _,_,I1.fH kp rfl rfl (Es _) (show aB X.U X.w _ h' _ (.lst (if lexLt (a,b) (c,d)then [.ref y,.ref x]else [.ref x,.ref y]))from ?_),rfl,q _<|I1.aH.fresh<|Es _⟩
 split at he
 ·rename_i hb;rw[BP hb];exact⟨by show 2<=sizeLine;rw[DX];decide,[.ref y,.ref x],e,.cons rfl (.cons rfl .nil),he⟩
 ·rename_i hb;rw[BL hb];exact⟨by show 2<=sizeLine;rw[DX];decide,[.ref x,.ref y],e,.cons rfl (.cons rfl .nil),he⟩
end
end L2
namespace Nt
open PySem
abbrev Net:=List<|Str×List Str
abbrev End:=Nat×Nat
def row(n:Net)(r:Nat):Ð:=((n[r]?).map (·.2)).getD []
def aJ(n:Net)(e:End):Option Str:=(row n e.1)[e.2]?
def bF(r:Nat)(ts:Ð)(p:Nat):List (Str×End):=(ts.zipIdx p).map λx=>(x.1,(r,x.2))
def fv(r:Nat):Net->List (Str×End)
 | []=>[]
 | a :: n=>bF r a.2 0++fv (r+1) n
def bn(n:Net):List (Str×End):=fv 0 n
def ends(n:Net):List End:=(bn n).map (·.2)
def ag(n:Net):Ð:=n.flatMap (·.2)
def pos(n:Net)(z:Str):List End:=((bn n).filter λx=>decide (x.1=z)).map (·.2)
variable{e:End}{z:Str}{p r:Nat}
def bf{ts:Ð}:(z,e)∈bF r ts p↔e.1=r/\p<=e.2/\ts[e.2 - p]?≈z:=by
 unfold bF;rw[Ak]
 constructor
 ·rintro ⟨⟨y,k⟩,hm,he⟩;cases he;have:=Fq.mp hm;exact⟨rfl,this.1,this.2⟩
 ·rintro ⟨h1,h2,h3⟩;refine⟨(z,e.2),Fq.mpr ⟨h2,h3⟩,?_⟩;rw[<- h1]
theorem bM:∀{n}{k}{z}{e},(z,e)∈fv k n↔k<=e.1/\(row n<|e.1 - k)[e.2]?≈z
 | [],k,z,e=>by
  constructor
  ·intro h;cases h
  ·rintro ⟨_,h⟩;simp[row]at h
 | a :: n,k,z,e=>by
  unfold fv;rw[Am,bf,bM]
  constructor
  ·rintro (⟨h1,_,h3⟩ | ⟨h1,h2⟩)
   ·refine⟨⋯,?_⟩;rw[show e.1 - k=0 by omega]
    simpa[row]using h3
   ·refine⟨⋯,?_⟩;rw[show e.1 - k=(e.1 - (k+1))+1 by omega]
    simpa[row]using h2
  ·rintro ⟨h1,h2⟩
   rcases Da k e.1 with h | h
   ·refine .inr ⟨h,?_⟩;rw[show e.1 - k=(e.1 - (k+1))+1 by omega]at h2
    simpa[row]using h2
   ·refine .inl ⟨⋯,Bx _,?_⟩;rw[show e.1 - k=0 by omega]at h2
    simpa[row]using h2
variable{n:Net}
def aT:(z,e)∈bn n↔aJ n e≈z:=by
 unfold bn aJ;rw[bM];simp
def af:e∈ends n↔∃ z,aJ n e≈z:=by
 unfold ends;rw[Ak]
 constructor
 ·rintro ⟨⟨z,e'⟩,h,rfl⟩;exact⟨z,aT.mp h⟩
 ·rintro ⟨z,h⟩;exact⟨(z,e),aT.mpr h,rfl⟩
def aK:e∈pos n z↔aJ n e≈z:=by
 unfold pos;rw[Ak]
 constructor
 ·rintro ⟨⟨y,e'⟩,h,rfl⟩;rw[Bf,DQ]at h;obtain⟨h1,h2⟩:=h;subst h2;exact aT.mp h1
 ·intro h;exact⟨(z,e),Bf.mpr ⟨aT.mpr h,by simp⟩,rfl⟩
def j7p(r:Nat):∀ts p,(bF r ts p).map (·.1)=ts:=by
 intro ts p;unfold bF;rw[Bs];have:((λx:Str×End=>x.1) ∘ λx:Str×Nat=>(x.1,(r,x.2)))=Prod.fst:=rfl;rw[this,List.zipIdx_map_fst]
theorem kJ:∀n k,(fv k n).map (·.1)=ag n
 | [],_=>rfl
 | a :: n,k=>by
  unfold fv ag;rw[Al,j7p,kJ n<|k+1,Cp];rfl
def j8j(r:Nat)(ts:Ð)(p:Nat):((bF r ts p).map (·.2)).Nodup:=by
 unfold bF;rw[Bs];have e:((λx:Str×End=>x.2) ∘ λx:Str×Nat=>(x.1,(r,x.2)))=(λk:Nat=>(r,k)) ∘ Prod.snd:=rfl;rw[e,<- Bs,List.zipIdx_map_snd];refine RL _ ?_ List.nodup_range';intro a b h gd;exact h (Prod.mk.inj gd).2
theorem Rj:∀n k,((fv k n).map (·.2)).Nodup
 | [],_=>Cd
 | a :: n,k=>by
  unfold fv;rw[Al,Co];refine⟨j8j _ _ _,Rj n<|k+1,?_⟩;intro x hx y hy e;subst e;obtain⟨⟨z,e1⟩,h1,rfl⟩:=Ak.mp hx;obtain⟨⟨z2,e2⟩,h2,he⟩:=Ak.mp hy;simp only at he;subst he;have q1:=(bf.mp h1).1;have q2:=(bM.mp h2).1;omega
def kc(n:Net):(ends n).Nodup:=Rj n 0
def Rk(n:Net)(z:Str):(pos n z).Nodup:=by
 unfold pos;exact(kc n).sublist<|List.Sublist.map _<|Hl
def qI(n:Net)(z:Str):(pos n z).length=(ag n).count z:=by
 unfold pos;rw[Aa,<- kJ n 0,<- List.countP_eq_length_filter,List.count,List.countP_map];rfl
def aq(n:Net):Prop:=∀ z∈ag n,(ag n).count z=2
def eV(h:aJ n e≈z):z∈ag n:=by
 have:=aT.mpr h;rw[<- kJ n 0];exact Ak.mpr ⟨_,this,rfl⟩
def other(n:Net)(e:End):End:=match aJ n e with
 | some z=>(match pos n z with
  | [a,b]=>if a=e then b else a
  | _=>e)
 | none=>e
theorem qJ(T:aq n)(h:aJ n e≈z):∃ a b,pos n z=[a,b]/\a≠b/\(e=a\/e=b):=by
 have hl:=qI n z;rw[T z<|eV h]at hl;have hn:=Rk n z;have hm:=aK.mpr h
 match hp:pos n z,hl with
 | [a,b],_=>
  rw[hp]at hn hm;refine⟨a,b,rfl,?_,?_⟩
  ·intro e;subst e;simp at hn
  ·simpa using hm
def dH(T:aq n)(h:aJ n e≈z):aJ n (↥5)≈z/\other n (↥5)=e/\↥5≠e:=by
 obtain⟨a,b,hp,gd,he⟩:=qJ T h;have ha:aJ n a≈z:=aK.mp (by rw[hp];simp);have hb:aJ n b≈z:=aK.mp<|by rw[hp];simp
 rcases he with rfl | rfl
 ·have e1:↥5=b:=by unfold other;simp only[h,hp];simp
  have e2:other n b=e:=by unfold other;simp only[hb,hp];simp[gd]
  rw[e1];exact⟨hb,e2,gd.symm⟩
 ·have e1:↥5=a:=by unfold other;simp only[h,hp];simp[gd]
  have e2:other n a=e:=by unfold other;simp only[ha,hp];simp
  rw[e1];exact⟨ha,e2,gd⟩
def left(n:Net)(e:End):End:=(e.1,(e.2+1) % (row n e.1).length)
def step(n:Net)(e:End):End:=left n (↥5)
def gk(h:aJ n e≈z):e.2 < (row n e.1).length:=(Ac.mp h).1
def cB(h:aJ n e≈z):e.1 < n.length:=by
 rcases Da e.1 n.length with c | c
 ·exact c
 ·have:=gk h;unfold row at this;rw[Bg c]at this;simp at this
def vV(h:e.2 < (row n e.1).length):∃ z,aJ n e≈z:=⟨_,Ab h⟩
theorem Ii(h:e∈ends n):left n e∈ends n:=by
 obtain⟨z,h⟩:=af.mp h;have:=gk h;exact af.mpr<|vV (show(e.2+1) % (row n e.1).length < (row n e.1).length from Gm _<|⋯)
def cR(T:aq n)(h:e∈ends n):↥5∈ends n:=by
 obtain⟨z,h⟩:=af.mp h;exact af.mpr ⟨z,(dH T h).1⟩
def mq(T:aq n)(h:e∈ends n):step n e∈ends n:=Ii<|cR T h
theorem q4h{a b:End}(ha:a∈ends n)(hb:b∈ends n)(h:left n a=left n b):a=b:=by
 obtain⟨z,ha⟩:=af.mp ha;obtain⟨y,hb⟩:=af.mp hb;have la:=gk ha;have lb:=gk hb;unfold left at h;obtain⟨h1,h2⟩:=Prod.mk.inj h;rw[h1]at la h2;have:a.2=b.2:=by
  rcases Da (a.2+1) (row n b.1).length with c | c <;> rcases Da (b.2+1) (row n b.1).length with d | d
  ·rw[Bz c,Bz d]at h2;omega
  ·have e:b.2+1=(row n b.1).length:=⋯
   rw[Bz c,e,Ef]at h2;omega
  ·have e:a.2+1=(row n b.1).length:=⋯
   rw[Bz d,e,Ef]at h2;omega
  ·omega
 exact HJ h1 this
def Rl(T:aq n){a b:End}(ha:a∈ends n)(hb:b∈ends n)(h:other n a=other n b):a=b:=by
 obtain⟨z,ha⟩:=af.mp ha;obtain⟨y,hb⟩:=af.mp hb;rw[<- (dH T ha).2.1,h,(dH T hb).2.1]
def zJ(T:aq n){a b:End}(ha:a∈ends n)(hb:b∈ends n)(h:step n a=step n b):a=b:=
 Rl T ha hb (q4h (cR T ha) (cR T hb) h)
theorem aU{α:Type} [DecidableEq α]:∀{a b:List α},a.Nodup->(∀ z∈a,z∈b)->a.length<=b.length
 | [],b,_,_=>Bx _
 | x :: r,b,hn,hs=>by
  rw[Bh]at hn;have hx:=hs x Ae;have:=aU hn.2 λz hz=>by
   have bD:z≠x:=λe=>hn.1<|e ▸ hz;exact(Ft bD).mpr<|hs z<|Af _ hz
  rw[Gi hx]at this;have hp:0 < b.length:=Gs hx;rw[As];omega
def it{α:Type}(f:α->α):Nat->α->α
 | 0,a=>a
 | k+1,a=>f<|it f k a
theorem je{α:Type}{f:α->α}{S:List α}(hf:∀ a∈S,f a∈S){a:α}(h:a∈S):∀ k,it f k a∈S
 | 0=>h
 | k+1=>hf _<|je hf h k
theorem zK{α:Type} [DecidableEq α] {f:α->α} {S:List α} (hf:∀ a∈S,f a∈S) (inj:∀ a∈S,∀ b∈S,f a=f b->a=b) {a:α} (h:a∈S):∃ k,0 < k/\k<=S.length/\it f k a=a:=by
 have cancel:∀ i j,it f i a=it f (i+j) a->it f j a=a:=by
  intro i
  induction i with
  | zero=>intro j e;rw[Ex]at e;exact e.symm
  | succ i ih=>
   intro j e;refine ih j ?_;rw[show i+1+j=(i+j)+1 by omega]at e;exact inj _ (je hf h i) _ (je hf h<|i+j) e
 refine CQ λhn=>?_;have nd:((List.range<|S.length+1).map λi=>it f i a).Nodup:=by
  refine RL _ (R:=λi j=>i < j/\j < S.length+1) ?_ ?_
  ·rintro i j ⟨h1,h2⟩ e;refine hn ⟨j - i,⋯,⋯,cancel i (j - i) ?_⟩;rwa[show i+(j - i)=j by omega]
  ·rw[Bc];intro i j hi hj eW;simp only[Fi];simp at hj;exact⟨eW,hj⟩
 have:=aU nd λz hz=>by
  obtain⟨i,_,rfl⟩:=Ak.mp hz;exact je hf h i
 simp at this;omega
theorem jf:∀n r,(row n r).length<=(ag n).length
 | [],r=>by simp[row,ag]
 | a :: n,0=>by simp[row,ag]
 | a :: n,r+1=>by
  have:=jf n r;simp[row,ag]at this ⊢;omega
theorem Rm:∀n r,(ag<|n.take r).length<=(ag n).length
 | [],r=>by simp[ag]
 | a :: n,0=>by simp[ag]
 | a :: n,r+1=>by
  have:=Rm n r;simp[ag]at this ⊢;omega
structure dz(n:Net)(e:Nt.End)(fs:List End):Prop where
 pos:0 < fs.length
 len:fs.length<=(ends n).length
 at':∀ i,i < fs.length->fs[i]?=some (↥14 i e)
 back:↥14 fs.length e=e
 first:∀ i,0 < i->i < fs.length->↥14 i e≠e
open L2
abbrev Ls(zs:Ð):HO:= .lst<|zs.map V.str
abbrev Tp(e:End):HO:= .tup [.int e.1,.int e.2]
structure ai(H:Hp)(R:Addr)(as:Î)(n:Net):Prop where
 len:as.length=n.length
 lst:H R=some (.lst<|as.map λa=> .ref a.1)
 tup:∀(i:Nat) a r,as[i]?≈a->n[i]?≈r->H a.1≈.tup [.str r.1,.ref a.2]/\H a.2≈Ls r.2
 inj:(as.map (·.2)).Nodup
variable{as:Î}{R:Addr}{H:Hp}
def ai.same{H':Hp}(h:ai H R as n)(s:aj H H'):ai H' R as n:=
 ⟨h.len,s _ _ h.lst,λi a r h1 h2=>⟨s _ _ (h.tup i a r h1 h2).1,s _ _ (h.tup i a r h1 h2).2⟩,h.inj⟩
theorem ai.at(h:ai H R as n){i:Nat}(hi:i < n.length) :
  ∃ a,as[i]?≈a/\fj (as.map λa=>V.ref a.1) (i:Int)≈.ref a.1/\H a.1≈.tup [.str n[i].1,.ref a.2]/\H a.2=some (Ls<|row n i)/\row n i=n[i].2:=by
 have hl:=h.len;have e:as[i]?=some as[i]:=Ab ⋯;have er:row n i=n[i].2:=by unfold row;rw[Ab hi];rfl
 have q:=h.tup i as[i] n[i] e<|Ab hi;refine⟨as[i],e,tq (by rw[Ah,e];rfl),q.1,?_,er⟩;rw[er];exact q.2
variable{zs:Ð}
def vW{j:Nat}(h:zs[j]?≈z):fj (zs.map V.str) (j:Int)≈.str z:=tq<|by rw[Ah,h];rfl
inductive Pd (H:Hp):↥9->List End->Prop where
 | nil:Pd H [] []
 | cons {t:Addr} {e:End} {ts:↥9} {es:List End}:H t≈Tp e->Pd H ts es->Pd H (t :: ts) (e :: es)
variable{es:List End}{ts:↥9}
theorem Pd.append{us:↥9}{fs:List End}(h:Pd H ts es)(g:Pd H us fs):Pd H (ts++us) (es++fs):=by
 induction h with
 | nil=>exact g
 | cons h1 _ ih=>exact .cons h1 ih
theorem Pd.keep{H':Hp}(h:Pd H ts es)(k:∀ t e,H t≈Tp e->H' t≈Tp e):Pd H' ts es:=by
 induction h with
 | nil=>exact .nil
 | cons h1 _ ih=>exact .cons (k _ _ h1) ih
theorem Pd.length{H:Hp}{ts:↥9}{es:List End}(h:Pd H ts es):ts.length=es.length:=by
 induction h with
 | nil=>rfl
 | cons _ _ ih=>rw[As,As,ih]
theorem Pd.at{H:Hp}{ts:↥9}{es:List End}(h:Pd H ts es):∀{i:Nat} {e:End},es[i]?≈e->∃ t,ts[i]?≈t/\H t≈Tp e:=by
 induction h with
 | nil=>intro i e h;simp at h
 | cons h1 _ ih=>
  intro i e h;cases i with
  | zero=>simp at h;subst h;exact⟨_,rfl,h1⟩
  | succ i=>simp only[Ee]at h ⊢;exact ih h
def bT(done:List<|Str×End)(z:Str):List End:=(done.filter λx=>decide (x.1=z)).map (·.2)
def dI(done:List<|Str×End)(y z:Str)(e:End):bT (done++[(y,e)]) z=bT done z++(if y=z then [e]else []):=by
 unfold bT;rw[Cv,Al]
 congr 1
 by_cases h:y=z
 ·rw[BP h];simp[h]
 ·rw[BL h];simp[h]
structure bg(H0 H:Hp)(d:Addr)(done:List<|Str×End)(Y:List<|Key×V)(ks:Ð)(A:Str->Option (Addr×List Addr)):Prop where
 same:aj H0 H
 free:H0 d=none
 dict:H d≈.dK Y
 keys:Y.map (·.1)=ks.map Sum.inr
 nodup:ks.Nodup
 mem:∀ z,z∈ks↔(A z).isSome=true
 val:∀ z,aF Y (Sum.inr z)=(A z).map λa=> .ref a.1
 at':∀ z a ts,A z=some (a,ts)->H0 a=none/\a≠d/\H a=some (.lst<|↥8)/\Pd H ts (bT done z)
 inj:∀ z y a ts us,A z=some (a,ts)->A y=some (a,us)->z=y
 g7:∀ z,A z=none->bT done z=[]
 some':∀ z a ts,A z=some (a,ts)->bT done z≠[]
variable{d:Addr}
def bg.start(h:H d=none):bg H (upd H d<|.dK []) d [] [] [] (λ_=>none) where
 same:=λb u q=>by rwa[aw<|bz q h]
 free:=h
 dict:=az
 keys:=rfl
 nodup:=Cd
 mem:=λz=>by simp
 val:=λz=>rfl
 at':=λz a ts h=>by cases h
 inj:=λz y a ts us h=>by cases h
 g7:=λz _=>rfl
 some':=λz a ts h=>by cases h
def vX{t a:Addr}{xs:List V}(h:H t≈Tp e)(g:H a≈.lst xs):t≠a:=cf h g λz=>nomatch z
variable{A:Str->Option (Addr×List Addr)}{ks:Ð}{Y:List (Key×V)}{done:List (Str×End)}
def bg.old{H0:Hp}(S:bg H0 H d done Y ks A){a l0 t:Addr}
  (hA:A z=some (a,ts)) (hl:H l0=none) (ht:(upd H l0<|.lst []) t=none) :
  bg H0 (upd (upd (upd H l0<|.lst []) t<|Tp e) a<|.lst<|↥8++[.ref t]) d (done++[(z,e)]) Y ks (λy=>if y=z then some (a,ts++[t])else A y):=by
 obtain⟨q1,q2,q3,q4⟩:=S.at' z a ts hA;have zL:H t=none:=by
  by_cases c:t=l0
  ·rw[c,az]at ht;cases ht
  ·rwa[aw c]at ht
 have zN:=(bz q3 zL).symm;have keep:∀ b u,b≠a->H b≈u->(upd (upd (upd H l0<|.lst []) t<|Tp e) a<|.lst<|↥8++[.ref t]) b≈u:=λb u h1 h2=>by
  rwa[aw h1,aw<|bz h2 zL,aw<|bz h2 hl]
 have kt:∀ b f,H b≈Tp f->(upd (upd (upd H l0<|.lst []) t<|Tp e) a<|.lst<|↥8++[.ref t]) b≈Tp f:=λb f h=>keep b _ (vX h q3) h;have et:(upd (upd (upd H l0<|.lst []) t<|Tp e) a<|.lst<|↥8++[.ref t]) t≈Tp e:=by rw[aw zN,az]
 refine⟨λb u h=>?_,S.free,keep d _ (CK q2) S.dict,S.keys,S.nodup,λy=>?_,λy=>?_,λy a' jg h=>?_,λy y' a' jg us h1 h2=>?_,λy h=>?_,λy a' jg h=>?_⟩
 ·exact keep b u (bz h q1)<|S.same _ _ h
 ·rw[S.mem y]
  by_cases c:y=z
  ·rw[BP c,c,hA];simp
  ·rw[BL c]
 ·rw[S.val y]
  by_cases c:y=z
  ·rw[BP c,c,hA];rfl
  ·rw[BL c]
 ·by_cases c:y=z
  ·rw[BP c]at h;cases h;refine⟨q1,q2,by rw[az,Al];rfl,?_⟩;rw[dI,c,BP rfl];exact(q4.keep kt).append<|.cons et .nil
  ·rw[BL c]at h;obtain⟨r1,r2,r3,r4⟩:=S.at' y a' jg h;have bD:a'≠a:=λe2=>c<|S.inj y z a jg ts (e2 ▸ h) hA;refine⟨r1,r2,keep _ _ bD r3,?_⟩;rw[dI,BL λh=>c h.symm,Bp];exact r4.keep kt
 ·by_cases c:y=z <;> by_cases c':y'=z
  ·rw[c,c']
  ·rw[BP c]at h1;rw[BL c']at h2;cases h1;exact absurd (S.inj y' z a us ts h2 hA) c'
  ·rw[BL c]at h1;rw[BP c']at h2;cases h2;exact absurd (S.inj y z a jg ts h1 hA) c
  ·rw[BL c]at h1;rw[BL c']at h2;exact S.inj y y' a' jg us h1 h2
 ·by_cases c:y=z
  ·rw[BP c]at h;cases h
  ·rw[BL c]at h;rw[dI,BL λh=>c h.symm,Bp];exact S.g7 y h
 ·by_cases c:y=z
  ·rw[dI,BP c.symm];simp
  ·rw[BL c]at h;rw[dI,BL λh=>c h.symm,Bp];exact S.some' y a' jg h
def bg.new{H0:Hp}(S:bg H0 H d done Y ks A){l0 t:Addr}
  (hA:A z=none) (hl:H l0=none) (ht:(upd (upd H l0<|.lst []) d<|.dK<|putK Y (Sum.inr z)<|.ref l0) t=none) :
  bg H0 (upd (upd (upd (upd H l0<|.lst []) d<|.dK<|putK Y (Sum.inr z)<|.ref l0) t<|Tp e) l0<|.lst [.ref t]) d (done++[(z,e)]) (putK Y (Sum.inr z)<|.ref l0) (ks++[z]) (λy=>if y=z then some (l0,[t])else A y):=by
 have jd:=bz S.dict hl;have Ij:t≠d:=λc=>by rw[c,az]at ht;cases ht
 have nA:t≠l0:=λc=>by rw[aw Ij,c,az]at ht;cases ht
 have zL:H t=none:=by rwa[aw Ij,aw nA]at ht
 have vn:aF Y (Sum.inr z)=none:=by rw[S.val z,hA];rfl
 have keep:∀ b u,b≠d->H b≈u->(upd (upd (upd (upd H l0<|.lst []) d<|.dK<|putK Y (Sum.inr z)<|.ref l0) t<|Tp e) l0<|.lst [.ref t]) b≈u:=λb u h1 h2=>by
  rwa[aw<|bz h2 hl,aw<|bz h2 zL,aw h1,aw<|bz h2 hl]
 have kt:∀ b f,H b≈Tp f->(upd (upd (upd (upd H l0<|.lst []) d<|.dK<|putK Y (Sum.inr z)<|.ref l0) t<|Tp e) l0<|.lst [.ref t]) b≈Tp f:=λb f h=>keep b _ (cf h S.dict λz=>nomatch z) h;have h0l:H0 l0=none:=S.same.free hl;have zk:z∉ks:=λh=>by
  have:=(S.mem z).mp h;rw[hA]at this;cases this
 refine⟨λb u h=>?_,S.free,?_,?_,?_,λy=>?_,λy=>?_,λy a' jg h=>?_,λy y' a' jg us h1 h2=>?_,λy h=>?_,λy a' jg h=>?_⟩
 ·exact keep b u (bz h S.free)<|S.same _ _ h
 ·rw[aw jd,aw Ij.symm,az]
 ·rw[Pu _ vn,Al,S.keys,Al];rfl
 ·rw[Co];exact⟨S.nodup,by simp,λx hx y hy e=>by rw[Ad]at hy;subst hy e;exact zk hx⟩
 ·rw[Am,Ad,S.mem y]
  by_cases c:y=z
  ·rw[BP c];simp[c]
  ·rw[BL c];simp[c]
 ·rw[d8]
  by_cases c:y=z
  ·rw[BP (by rw[c]),BP c];rfl
  ·rw[BL λh=>c<|Sum.inr.inj h,BL c,S.val y]
 ·by_cases c:y=z
  ·rw[BP c]at h;cases h;refine⟨h0l,jd.symm,by rw[az];rfl,?_⟩;rw[dI,c,BP rfl,S.g7 z hA];exact .cons (by rw[aw nA,az]) .nil
  ·rw[BL c]at h;obtain⟨r1,r2,r3,r4⟩:=S.at' y a' jg h;refine⟨r1,r2,keep _ _ r2 r3,?_⟩;rw[dI,BL λh=>c h.symm,Bp];exact r4.keep kt
 ·by_cases c:y=z <;> by_cases c':y'=z
  ·rw[c,c']
  ·rw[BP c]at h1;rw[BL c']at h2;cases h1;exact absurd hl<|by rw[(S.at' y' l0 us h2).2.2.1];exact λh=>nomatch h
  ·rw[BL c]at h1;rw[BP c']at h2;cases h2;exact absurd hl<|by rw[(S.at' y l0 jg h1).2.2.1];exact λh=>nomatch h
  ·rw[BL c]at h1;rw[BL c']at h2;exact S.inj y y' a' jg us h1 h2
 ·by_cases c:y=z
  ·rw[BP c]at h;cases h
  ·rw[BL c]at h;rw[dI,BL λh=>c h.symm,Bp];exact S.g7 y h
 ·by_cases c:y=z
  ·rw[dI,BP c.symm];simp
  ·rw[BL c]at h;rw[dI,BL λh=>c h.symm,Bp];exact S.some' y a' jg h
theorem Ik:∀n m k,fv k (n++m)=fv k n++fv (k+n.length) m
 | [],m,k=>rfl
 | a :: n,m,k=>by
  show bF k a.2 0++fv (k+1) (n++m)=(bF k a.2 0++fv (k+1) n)++fv (k+(n.length+1)) m;rw[Ik n m<|k+1,Ar,show k+1+n.length=k+(n.length+1) by omega]
theorem tQ(h:r < n.length):bn (n.take<|r+1)=bn (n.take r)++bF r (row n r) 0:=by
 unfold bn;rw[Cj,Ab h,Ik];have e:(n.take r).length=r:=by rw[Br];omega
 rw[e,Ex];have er:row n r=n[r].2:=by unfold row;rw[Ab h];rfl
 rw[er];show _++(bF r n[r].2 0++[])=_;rw[Bp]
theorem qK{ts:Ð}(h:ts[p]?≈z):bF r (ts.take<|p+1) 0=bF r (ts.take p) 0++[(z,(r,p))]:=by
 unfold bF;have hp:=(Ac.mp h).1;rw[Cj,h,QW,Al];have e:(ts.take p).length=p:=by rw[Br];omega
 rw[e,Ex];rfl
structure bY(H:Hp)(d:Addr)(n:Net)(ks:Ð):Prop where
 dict:∃ Y,H d≈.dK Y/\Y.map (·.1)=ks.map Sum.inr/\∀ z∈ag n,∃ a ts,aF Y (Sum.inr z)≈.ref a/\H a=some (.lst<|↥8)/\Pd H ts (pos n z)
 nodup:ks.Nodup
 mem:∀ z,z∈ks↔z∈ag n
def bY.same{H':Hp}(S:bY H d n ks)(s:aj H H'):bY H' d n ks:=by
 obtain⟨Y,h1,h2,h3⟩:=S.dict;refine⟨⟨Y,s _ _ h1,h2,λz hz=>?_⟩,S.nodup,S.mem⟩;obtain⟨a,ts,q1,q2,q3⟩:=h3 z hz;exact⟨a,ts,q1,s _ _ q2,q3.keep λt e h=>s _ _ h⟩
def cI:z∈ag n↔pos n z≠[]:=by
 rw[<- Ds,<- qI,Cu]
theorem bg.whole{H0:Hp}(S:bg H0 H d (bn n) Y ks A):bY H d n ks:=by
 have mem:∀ z,z∈ks↔z∈ag n:=λz=>by
  rw[S.mem z,cI];cases h:A z with
  | none=>simp;exact S.g7 z h
  | some p=>
   obtain⟨a,ts⟩:=p;simp;exact S.some' z a ts h
 refine⟨⟨Y,S.dict,S.keys,λz hz=>?_⟩,S.nodup,mem⟩;have:=(S.mem z).mp<|(mem z).mpr hz;cases h:A z with
 | none=>rw[h]at this;cases this
 | some p=>
  obtain⟨a,ts⟩:=p;obtain⟨q1,q2,q3,q4⟩:=S.at' z a ts h;exact⟨a,ts,by rw[S.val z,h];rfl,q3,q4⟩
def all2(e:Nat->Bool):(List.range 2).all e=(e 0 && e 1):=by
 show(([0,1]:List Nat).all e)=_;simp
theorem Rn(x y:End):(c6 (.int x.1) (.int y.1) && c6 (.int x.2) (.int y.2))=decide (x=y):=by
 obtain⟨a,b⟩:=x;obtain⟨c,d⟩:=y
 by_cases h:a=c <;> by_cases h2:b=d
 ·subst h h2;simp[c6]
 ·have:¬(b:Int)=(d:Int):=λe=>h2 ⋯;simp[c6,h2,this]
 ·have:¬(a:Int)=(c:Int):=λe=>h ⋯;simp[c6,h,this]
 ·have:¬(a:Int)=(c:Int):=λe=>h ⋯;simp[c6,h,this]
section
variable{X:Cx}{s t:Addr}{x y:End}
theorem Ro:∀j u v,[V.int x.1,.int x.2][j]?≈u->[V.int y.1,.int y.2][j]?≈v->qG X H 0 u v (if j=0 then c6 (.int x.1) (.int y.1)else c6 (.int x.2) (.int y.2))
 | 0,u,v,h1,h2=>by
  cases h1;cases h2;exact zH rfl rfl
 | 1,u,v,h1,h2=>by
  cases h1;cases h2;exact zH rfl rfl
 | j+2,u,v,h1,h2=>by simp at h1
def x0l(hs:H s≈Tp x)(ht:H t≈Tp y):vS X H 1 (.ref s) (.ref t) (decide (x=y)):=by
 have:=q64 (X:=X) (λj=>if j=0 then c6 (.int x.1) (.int y.1)else c6 (.int x.2) (.int y.2)) (aQ.of hs) (aQ.of ht) rfl Ro;rw[show([V.int (x.1:Int),.int x.2].length)=2 from rfl,all2]at this;have e:=Rn x y;simp only[CZ]at this;rwa[BL ∅,e]at this
def x2p(hs:H s≈Tp x)(ht:H t≈Tp y):tO X H 1 (.ref s) (.ref t) (decide (x=y)):=by
 have:=Q9 (X:=X) (λj=>if j=0 then c6 (.int x.1) (.int y.1)else c6 (.int x.2) (.int y.2)) (aQ.of hs) (aQ.of ht) rfl Ro;rw[show([V.int (x.1:Int),.int x.2].length)=2 from rfl,all2]at this;have e:=Rn x y;simp only[CZ]at this;rwa[BL ∅,e]at this
end
abbrev lets:Str:= "abcdefghijklmnopqrstuvwxyz0123456789"
def Rq:lets.cps.toList.length=36:=by decide +kernel
def k6w:lets.cps.toList.Nodup:=by decide +kernel
def sgn(i:Int):Nat:=(fj lets.cps.toList<|i % 36).getD 0
theorem Il(i:Int):fj lets.cps.toList (i % 36)≈sgn i:=by
 have hj:(i % 36).toNat < lets.cps.toList.length:=by rw[Rq];omega
 have q:=tq (xs:=lets.cps.toList) (j:=(i % 36).toNat) (v:=lets.cps.toList[(i % 36).toNat]) (by simp[hj]);rw[show(((i % 36).toNat:Nat):Int)=i % 36 by omega]at q;unfold sgn;rw[q];rfl
theorem Rr{i j:Int}(h:sgn i=sgn j):i % 36=j % 36:=by
 have key:∀ k:Int,lets.cps.toList[(k % 36).toNat]?≈sgn k:=λk=>by
  have h0:0<=k % 36:=Cg _ ∅;have h1:k % 36 < 36:=Cn _ ∅;have hj:(k % 36).toNat < lets.cps.toList.length:=by rw[Rq];omega
  have q:=tq (xs:=lets.cps.toList) (j:=(k % 36).toNat) (v:=lets.cps.toList[(k % 36).toNat]) (by simp[hj]);rw[show(((k % 36).toNat:Nat):Int)=k % 36 by omega,Il]at q;rw[Ab hj,Option.some.inj q]
 have hi:=key i;have hj:=key j;rw[h]at hi;obtain⟨l1,e1⟩:=Ac.mp hi;obtain⟨l2,e2⟩:=Ac.mp hj;have:=(Gy (xs:=lets.cps.toList) (h₀:=l1) (h₁:=l2) k6w).mp<|e1.trans e2.symm;have a0:0<=i % 36:=Cg _ ∅;have b0:0<=j % 36:=Cg _ ∅;omega
def turn(b:Int)(sp:Int)(v k:Nat):Int:=b / 64+(k:Int) * (b / 7 % 5)+(if(k:Int)=sp then(v:Int)else 0)
def nm(b sp:Int)(v:Nat):Nat->Str
 | 0=>⟨#[]⟩
 | k+1=>nm b sp v k++⟨#[sgn<|turn b sp v k]⟩
def app_list(x y:Str):(x++y).cps.toList=x.cps.toList++y.cps.toList:=by
 show(x.cps++y.cps).toList=_;simp
theorem zO(b sp:Int)(v:Nat):∀ k,(nm b sp v k).cps.toList=(List.range k).map λj=>sgn<|turn b sp v j
 | 0=>rfl
 | k+1=>by
  show(nm b sp v k++⟨#[sgn<|turn b sp v k]⟩).cps.toList=_;rw[app_list,zO b sp v k,Dk,Al];rfl
variable{b:Int}
theorem x1w{sp:Int}{u v k:Nat}(hu:u < 36)(hv:v < 36)(h0:0<=sp)(h1:sp < (k:Int))(h:nm b sp u k=nm b sp v k):u=v:=by
 have e:(nm b sp u k).cps.toList=(nm b sp v k).cps.toList:=by rw[h]
 rw[zO,zO]at e;have hk:sp.toNat < k:=⋯
 have q:((List.range k).map λj=>sgn<|turn b sp u j)[sp.toNat]?=((List.range k).map λj=>sgn<|turn b sp v j)[sp.toNat]?:=by rw[e]
 rw[Ah,Ah,Dx hk]at q;have q2:=Option.some.inj q;have q3:=Rr q2;unfold turn at q3;rw[show((sp.toNat:Nat):Int)=sp by omega,BP rfl,BP rfl]at q3;omega
theorem fold_list(c:Nat):∀k acc,((List.replicate k (#[c]:Array Nat)).foldl (·++·) acc).toList=acc.toList++List.replicate k c
 | 0,acc=>by simp
 | k+1,acc=>by
  rw[List.replicate_succ,Dh,fold_list c k,List.replicate_succ];simp
theorem mul_list(c:Nat){i:Int}(h:1<=i):(Txt.mul ⟨#[c]⟩ i).cps.toList=List.replicate i.toNat c:=by
 unfold Txt.mul;rw[BL<|⋯]
 by_cases e:i=1
 ·subst e;rfl
 ·have e1:(i == 1 || (⟨#[c]⟩:Str).length == 0)=false:=by
   have:(i == 1)=false:=by simpa using e
   rw[this];rfl
  rw[e1];simp only[Aq,CP];have:=fold_list c i.toNat #[]
  simpa using this
def aV(b:Int)(v:Nat):Str:=if b % 3=2 then Txt.mul ⟨#[sgn<|b / 64+(v:Int) / 8]⟩ (1+(v:Int) % 8)else nm b (b / 8 % (1+b % 8)) v (1+b % 8).toNat
theorem k6m{u v:Nat}(hu:u < 36)(hv:v < 36)(h:aV b u=aV b v):u=v:=by
 have s0:0<=b % 8:=Cg _ ∅;unfold aV at h
 by_cases c:b % 3=2
 ·rw[BP c,BP c]at h;have u0:0<=(u:Int) % 8:=Cg _ ∅;have v0:0<=(v:Int) % 8:=Cg _ ∅;have e:(Txt.mul ⟨#[sgn<|b / 64+(u:Int) / 8]⟩<|1+(u:Int) % 8).cps.toList=(Txt.mul ⟨#[sgn<|b / 64+(v:Int) / 8]⟩<|1+(v:Int) % 8).cps.toList:=by rw[h]
  rw[mul_list _ ⋯,mul_list _<|⋯]at e;have l:=BZ List.length e;rw[Fp,Fp]at l;have hd:(List.replicate (1+(u:Int) % 8).toNat<|sgn<|b / 64+(u:Int) / 8)[0]?=(List.replicate (1+(v:Int) % 8).toNat<|sgn<|b / 64+(v:Int) / 8)[0]?:=by rw[e]
  rw[Fc,Fc,BP ⋯,BP<|⋯]at hd;have q:=Rr<|Option.some.inj hd;omega
 ·rw[BL c,BL c]at h;refine x1w hu hv (Cg _<|⋯) ?_ h;have:=Cn (b / 8) (show 0 < 1+b % 8 by omega);omega
def namesOf(b:Int)(m:Nat):Ð:=(List.range m).map<|aV b
theorem zP{m:Nat}(h:m<=36):(namesOf b m).Nodup:=by
 unfold namesOf;refine RL _ (R:=λi j=>i < j/\j < m) ?_ ?_
 ·rintro i j ⟨h1,h2⟩ e;have:=k6m ⋯ ⋯ e;omega
 ·rw[Bc];intro i j hi hj eW;simp only[Fi];simp at hj;exact⟨eW,hj⟩
def zQ(b:Int)(m:Nat):namesOf b (m+1)=namesOf b m++[aV b m]:=by
 unfold namesOf;rw[Dk,Al];rfl
def Im(b:Int)(m:Nat):(namesOf b m).length=m:=by unfold namesOf;simp
def k7a{m i:Nat}(h:i < m):(namesOf b m)[i]?≈aV b i:=by
 unfold namesOf;rw[Ah,Dx h];rfl
end Nt
namespace E9
open PySem L2
def top(i:Nat):Stmt:=PySem.Challenge.pw_threewebs_k54_kinds_of_the_other_net.main.body.getD i<|.Pass ⟨0,0,0,0⟩
abbrev zR:Stmt:=top 1
abbrev zS:Stmt:=top 2
abbrev Io:Stmt:=top 3
abbrev Ip:Stmt:=top 4
abbrev Iq:Stmt:=top 5
abbrev zT:Stmt:=top 6
abbrev zU:Stmt:=top 7
abbrev zV:Stmt:=top 8
abbrev Ir:Stmt:=top 10
abbrev Iu:Stmt:=top 11
abbrev qL:Stmt:=top 13
abbrev zW:Stmt:=top 18
abbrev zX:Stmt:=top 19
abbrev Iv:Stmt:=top 20
abbrev Iw:Stmt:=top 21
abbrev Iy:Stmt:=top 23
abbrev iP:Stmt:=top 24
abbrev zY:Stmt:=top 25
abbrev qM:Stmt:=top 27
abbrev qN:Stmt:=top 28
abbrev vY:Stmt:=top 29
abbrev zZ:Stmt:=top 31
abbrev z6:Stmt:=top 33
abbrev Iz:Stmt:=top 34
abbrev IA:Stmt:=top 35
abbrev IB:Stmt:=top 37
abbrev IC:Stmt:=top 39
abbrev qO:Stmt:=top 40
abbrev IE:Stmt:=top 41
abbrev IG:Stmt:=top 42
abbrev IH:Stmt:=top 43
abbrev II:Stmt:=top 44
abbrev IJ:Stmt:=top 45
abbrev qP:Stmt:=top 46
abbrev qR:Stmt:=top 47
abbrev z7:Stmt:=top 48
abbrev z8:Stmt:=top 49
abbrev z9:Stmt:=top 51
abbrev AA:Stmt:=top 52
abbrev qS:Stmt:=top 53
structure Txt(mg:Ñ):Prop where
 IL:mg "isinstance" = none
 kK:mg "tuple" = none
 x0C:mg "str" = none
 vZ:mg "int" = none
 Rt:mg "bool" = none
 kL:mg "list" = none
 v5:mg "dict" = none
 nC:mg "set" = none
 enum:mg "enumerate" = none
 zip:mg "zip" = none
 len:mg "len" = none
 range:mg "range" = none
 sorted:mg "sorted" = none
 max:mg "max" = none
 all:mg "all" = none
 x0D:mg "ValueError" = none
open Nt bE
variable{n:Nat}
theorem small(h:n<=100000):n<=sizeLine:=by rw[DX];omega
theorem cg(h:n<=100000):n < sizeLine:=by rw[DX];omega
variable{H:Hp}
def aS{p:Addr}(h:H p=none)(o:HO):aj H (upd H p o):=λb u q=>by rwa[aw<|bz q h]
def fI{H1 H2:Hp}{r:Addr}{o:HO}(s:aj H1 H2)(h:H1 r=none):aj H1 (upd H2 r o):=λb u q=>by
 rw[aw<|bz q h];exact s _ _ q
variable{zs:Ð}
def IM{l:Addr}{y:Str}:upd H l (.lst<|zs.map V.str++[V.str y])=upd H l (Ls<|zs++[y]):=by
 show _=upd H l (.lst<|(zs++[y]).map V.str);rw[Al];rfl
def AB(K:PySem.W.Frag):Sp:=λvs H Q _=>∃(a:Addr) (ns:List Int) (k:Int),vs=[.ref a,.int k]/\au K H a (ns.map V.int)/\0<=k/\∀ i,Q (.int i) H
def IP(K:PySem.W.Frag):Sp:=λvs H Q _=>∃(a:Addr) (ns:List Int) (k:Int),vs=[.ref a,.int k]/\au K H a (ns.map V.int)/\0<=k/\∀ i H',aj H H'->Q (.int i) H'
def IQ:Sp:=λvs H Q _=>∃b m,vs=[.int b,.int m]/\0<=m/\m<=36/\∀ l H',aj H H'->H l=none->H' l=some (Ls<|namesOf b m.toNat)->Q (.ref l) H'
def tR:Sp:=λvs H Q _=>∃R as n,vs=[.ref R]/\ai H R as n/\n.length<=1000/\(ag n).length<=1000/\∀ d ks H',aj H H'->H d=none->bY H' d n ks->Q (.ref d) H'
def AF:Sp:=λvs H Q _=>∃R d t as n ks e,vs=[.ref R,.ref d,.ref t]/\ai H R as n/\bY H d n ks/\aq n/\H t≈Tp e/\e∈ends n/\∀ u,H u=some (Tp<|↥5)->Q (.ref u) H
def IT:Sp:=λvs H Q _=>∃R d t as n ks e,vs=[.ref R,.ref d,.ref t,.int 1]/\ai H R as n/\bY H d n ks/\aq n/\H t≈Tp e/\e∈ends n/\∀ u H',aj H H'->H u=none->H' u=some (Tp<|step n e)->Q (.ref u) H'
def IU:Sp:=λvs H Q _=>∃R d t as n ks e,vs=[.ref R,.ref d,.ref t]/\ai H R as n/\bY H d n ks/\aq n/\H t≈Tp e/\e∈ends n/\(ends n).length<=1000 /\
 ∀ l ts fs H',aj H H'->H l=none->H' l=some (.lst<|↥8)->Pd H' ts fs->dz n e fs->Q (.ref l) H'
variable{Z:Heap}{mg:Ñ}{K:PySem.W.Frag}{ns:List Int}{fd:FuncData}{f:Addr}{i:Int}{Y:List (Key×V)}
section
variable{P:Program}{w:World}
def q94:ak ["_law_script","_law_k"] ["_law_script","_law_k"] (aW IC):=cm
theorem q6w{k:Int}(h0:0<=k)(h1:k < (ns.length:Int)):∃ v:Int,fj (ns.map V.int) k≈.int v:=by
 have hj:k.toNat < ns.length:=⋯
 have q:=tq (xs:=ns.map V.int) (j:=k.toNat) (v:= .int ns[k.toNat]) (by simp[hj]);rw[show((k.toNat:Nat):Int)=k by omega]at q;exact⟨_,q⟩
def q79(F:bB K "_law_cell_at" "_law_cell_at" IC f fd)(T:Txt mg):↥4 1 f fd ["_law_script","_law_k"] (AB K):=by
 refine F.gc q94 λb0 H vs Q E hr h=>?_;obtain⟨a,ns,k,rfl,hS,h0,q⟩:=h;refine dP<|cz YG<|ae 1<|cM eU T.len DY<|ah<|ae 0<|ax ⟨a,_,rfl,.inl hS,_,_,rfl,rfl,_,rfl,?_⟩;refine jC (λc=>?_) λc=>?_
 ·have c':=BX c;obtain⟨v,hv⟩:=q6w (ns:=ns) h0 (by rw[Aa]at c';exact c');exact bS<|a8 dF<|ae 0<|ae 1 ⟨a,_,_,.int v,rfl,rfl,hS,hv,q v⟩
 ·exact a9<|bS<|aG<|q 0
abbrev qT:List V:=[.int 48271,.int 69621,.int 16807,.int 39373,.int 21401,.int 60493,.int 87721,.int 31337]
abbrev g8:List V:=[.int 99991,.int 99989,.int 99971,.int 99961,.int 99929,.int 99923,.int 99907,.int 99901]
def eight(h0:0<=i)(h1:i < 8):i=0\/i=1\/i=2\/i=3\/i=4\/i=5\/i=6\/i=7:=by
 obtain⟨k,rfl⟩:=Int.eq_ofNat_of_zero_le h0;exact(by decide:∀ k:Fin 8,(k.1:Int)=0\/(k.1:Int)=1\/(k.1:Int)=2\/(k.1:Int)=3\/(k.1:Int)=4\/(k.1:Int)=5\/(k.1:Int)=6\/(k.1:Int)=7) ⟨k,Int.ofNat_lt.mp h1⟩
def x0q(h0:0<=i)(h1:i < 8):∃ m:Int,fj qT i≈.int m/\0 < m/\m < 100000:=by
 rcases eight h0 h1 with rfl | rfl | rfl | rfl | rfl | rfl | rfl | rfl <;> exact⟨_,rfl,∅,∅⟩
def x2m(h0:0<=i)(h1:i < 8):∃ m:Int,fj g8 i≈.int m/\0 < m/\m < 100000:=by
 rcases eight h0 h1 with rfl | rfl | rfl | rfl | rfl | rfl | rfl | rfl <;> exact⟨_,rfl,∅,∅⟩
def oX:ak ["_law_script","_law_at","_law_by","_law_prime","_law_cell","_law_big_here","_law_k","_law_one"] ["_law_script","_law_at"] (aW qO):=cm
theorem x0v(F:bB K "_law_big" "_law_big" qO f fd)(T:Txt mg)(G:↥6 1 "_law_cell_at" ["_law_script","_law_k"]<|AB K) :
  ↥4 2 f fd ["_law_script","_law_at"] (IP K):=by
 refine F.gc oX λb0 H vs Q E hr h=>?_;obtain⟨a,ns,k,rfl,hS,h0,q⟩:=h;have nd:=oX.nd;refine aZ 2 nd (d9<|ah<|aG<|ah<|aG<|ah<|aG<|ah<|aG<|ah<|aG<|ah<|aG<|ah<|aG<|ah<|aG<|ax ⟨(by show 8<=sizeLine;decide),λp hp=>?_⟩);refine aZ 3 nd (d9<|ah<|aG<|ah<|aG<|ah<|aG<|ah<|aG<|ah<|aG<|ah<|aG<|ah<|aG<|ah<|aG<|ax ⟨(by show 8<=sizeLine;decide),λp2 m4=>?_⟩);have npp:p≠p2:=by
  intro e;rw[<- e,az]at m4;cases m4
 have s1:aj H (upd H p<|.tup qT):=aS hp _;have s2:aj H (upd (upd H p<|.tup qT) p2<|.tup g8):=s1.trans<|aS m4 _;have e1:(upd (upd H p<|.tup qT) p2<|.tup g8) p≈.tup qT:=by rw[aw npp,az]
 have e2:(upd (upd H p<|.tup qT) p2<|.tup g8) p2≈.tup g8:=az;generalize upd (upd H p<|.tup qT) p2 (.tup g8)=H2 at s2 e1 e2 ⊢;refine aZ 4 nd<|bC G hr<|ah<|ae 0<|ah<|ae 1<|ax ⟨a,ns,k,rfl,s2.seq hS,h0,λb=>?_⟩;refine P8 True True (λR qq=>?_) (λ_=>?_) λ_=>a9 ?_
 ·refine F6 (x2x<|cz fX<|bh dh<|ae 4<|aG ⟨_,_,rfl,rfl,(by show(0:Int) < 2;decide),aG ⟨rfl,_,rfl,?_⟩⟩);refine jC (λc=>?_) (λc=>qq false (λz=>nomatch z) λ_=>trivial);exact q7q<|cz YH<|ae 4<|bh OM<|aG<|aG ⟨_,_,rfl,rfl,⟨∅,∅,∅⟩,_,_,rfl,rfl,_,rfl,qq _ (λ_=>trivial) λ_=>trivial⟩
 ·exact bS<|bh jB<|ae 4<|aG ⟨_,_,rfl,rfl,⟨∅,∅⟩,q _ _ s2⟩
 refine aZ 5 nd<|aG ?_;refine m8 T.range<|aG ⟨60,rfl,∅,∅,m9 (n:=60) (λ_ σ H3=>H3=H2/\∃(x:Int) (u v:Option V),σ=[⇑a,some<|.int k,⇑p,⇑p2,some<|.int b,some<|.int x,u,v]) ⟨rfl,0,_,_,rfl⟩ ?_ ?_⟩
 ·rintro i σ H3 hi ⟨rfl,x,u,v,rfl⟩;have i9:0<=(0+(i:Int)) % 9:=Cg _ ∅;obtain⟨m1,f1,g1,g2⟩:=x0q (i:=(0+(i:Int)) % 8) (Cg _<|∅) (Cn _<|∅);obtain⟨m2,f2,g3,g4⟩:=x2m (i:=(0+(i:Int)) % 8) (Cg _<|∅) (Cn _<|∅);refine bw 6 nd ?_;refine aZ 7 nd<|bh iu<|bh iu<|bh dh<|bC G hr<|ah<|ae 0<|ah<|bh iu<|ae 1<|bh dh<|ae 6<|aG ?_;refine⟨_,_,rfl,rfl,(by show(0:Int) < 9;decide),_,_,rfl,rfl,ax ⟨a,ns,_,rfl,s2.seq hS,?_,λc=>?_⟩⟩
  ·show 0<=k+(0+(i:Int)) % 9;omega
  refine bh OM (aG<|aG ⟨_,_,rfl,rfl,⟨∅,∅,∅⟩,_,_,rfl,rfl,(by show(0:Int) < 10 ^ (18:Int).toNat;decide),aG ⟨_,_,rfl,rfl,?_⟩⟩);refine bh yX<|ae 6<|ae 6 ?_;refine⟨_,_,rfl,rfl,.inl ⟨⋯,⋯⟩,_,_,rfl,rfl,?_⟩;refine aZ 5 nd (bh iu<|bh yX<|ae 5<|aG ⟨_,_,rfl,rfl,.inr ⟨∅,∅⟩,?_⟩);refine bh dh (bh dh<|bh yX<|ae 7<|a8 bQ<|ae 2<|bh dh<|ae 6<|aG ⟨_,_,rfl,rfl,(by show(0:Int) < 8;decide),p,_,_,_,rfl,rfl,aQ.of e1,f1,_,_,rfl,rfl,.inr ⟨⋯,⋯⟩,?_⟩);refine a8 bQ (ae 3<|bh dh<|ae 6<|aG ⟨_,_,rfl,rfl,(by show(0:Int) < 8;decide),p2,_,_,_,rfl,rfl,aQ.of e2,f2,_,_,rfl,rfl,g3,aG ⟨_,_,rfl,rfl,(by show(0:Int) < 7919;decide),_,_,rfl,rfl,?_⟩⟩);exact a9 ⟨rfl,_,_,_,rfl⟩
 ·rintro σ H3 ⟨rfl,x,u,v,rfl⟩;exact bS<|ae 5<|q x _ s2
abbrev NN:Ð:=["_law_stem","_law_many","_law_signs","_law_size","_law_spot","_law_names_here","_law_v","_law_name","_law_k","_law_turn"]
def jh:ak NN ["_law_stem","_law_many"] (aW IE):=cm
theorem q4z(F:bB K "_law_names" "_law_names" IE f fd)(T:Txt mg):↥4 1 f fd ["_law_stem","_law_many"] IQ:=by
 refine F.gc jh λb0 H vs Q E hr h=>?_;obtain⟨b,m,rfl,m0,m1,q⟩:=h;have nd:=jh.nd;have s0:0<=b % 8:=Cg _ ∅;have s1:b % 8 < 8:=Cn _ ∅;refine aZ 2 nd<|fZ ?_;refine aZ 3 nd (bh iu<|aG<|bh dh<|ae 0<|aG ⟨_,_,rfl,rfl,(by show(0:Int) < 8;decide),_,_,rfl,rfl,?_⟩);refine aZ 4 nd (bh dh<|bh jB<|ae 0<|aG ⟨_,_,rfl,rfl,⟨∅,∅⟩,ae 3 ⟨_,_,rfl,rfl,(by show 0 < 1+b % 8;omega),?_⟩⟩);refine aZ 5 nd<|di<|ax ⟨Z0,λl hl=>?_⟩;have spE:b / 8 % (1+b % 8)=b / 8 % (1+b % 8):=rfl;refine m8 T.range<|ae 1 ⟨m,rfl,⋯,⋯,m9 (n:=m.toNat) (λi σ H3=>H3=upd H l (Ls<|namesOf b i)/\∃ u1 u2 u3 u4,σ=[some<|.int b,some<|.int m,some<|.str lets,some<|.int<|1+b % 8,some<|.int<|b / 8 % (1+b % 8),⇑l,u1,u2,u3,u4]) ⟨rfl,_,_,_,_,rfl⟩ ?_ ?_⟩
 ·rintro i σ H3 hi ⟨rfl,u1,u2,u3,u4,rfl⟩;refine bw 6 nd ?_;refine aZ 7 nd<|fZ ?_;refine m8 T.range<|ae 3 ⟨_,rfl,⋯,⋯,m9 (n:=(1+b % 8).toNat) (λj σ H4=>H4=upd H l (Ls<|namesOf b i)/\∃(u3 u4:Option V),σ=[some<|.int b,some<|.int m,some<|.str lets,some<|.int<|1+b % 8,some<|.int<|b / 8 % (1+b % 8),⇑l,some<|.int<|0+(i:Int),some<|.str<|nm b (b / 8 % (1+b % 8)) i j,u3,u4]) ⟨rfl,_,_,rfl⟩ ?_ ?_⟩
  ·rintro j σ H4 hj ⟨rfl,v3,v4,rfl⟩;have t0:0<=b / 7 % 5:=Cg _ ∅;have t1:b / 7 % 5 < 5:=Cn _ ∅;have nl:(nm b (b / 8 % (1+b % 8)) i j).length=j:=by
    have:=BZ List.length<|zO b (b / 8 % (1+b % 8)) i j;show(nm b (b / 8 % (1+b % 8)) i j).cps.size=j
    simpa using this
   refine bw 8 nd ?_;refine aZ 9 nd (bh iu<|bh jB<|ae 0<|aG ⟨_,_,rfl,rfl,⟨∅,∅⟩,bh yX<|ae 8<|bh dh<|bh jB<|ae 0<|aG ⟨_,_,rfl,rfl,⟨∅,∅⟩,aG ⟨_,_,rfl,rfl,(by show(0:Int) < 5;decide),?_⟩⟩⟩);refine⟨_,_,rfl,rfl,.inr ⟨⋯,⋯⟩,_,_,rfl,rfl,?_⟩;refine Q8 ((0+(j:Int))=b / 8 % (1+b % 8)) (¬(0+(j:Int))=b / 8 % (1+b % 8)) (λσ' H'=>H'=upd H l (Ls<|namesOf b i)/\σ'=[some<|.int b,some<|.int m,some<|.str lets,some<|.int<|1+b % 8,some<|.int<|b / 8 % (1+b % 8),⇑l,some<|.int<|0+(i:Int),some<|.str<|nm b (b / 8 % (1+b % 8)) i j,some<|.int<|0+(j:Int),some<|.int<|turn b (b / 8 % (1+b % 8)) i j]) (λR qq=>?_) (λhc=>?_) (λhc=>a9 ⟨rfl,?_⟩) ?_
   ·refine cz fX<|ae 8<|ae 4 ⟨rfl,_,rfl,?_⟩
    by_cases hc:(0+(j:Int))=b / 8 % (1+b % 8)
    ·rw[BW (show V.int (0+(j:Int))=V.int (b / 8 % (1+b % 8)) by rw[hc])];exact qq true (λ_=>hc) λh=>by cases h
    ·rw[BR λh=>hc<|V.int.inj h];exact qq false (λh=>by cases h) λ_=>hc
   ·refine aZ 9 nd<|bh iu<|ae 9<|ae 6 ⟨_,_,rfl,rfl,a9 ⟨rfl,?_⟩⟩;have e:b / 64+(0+(j:Int)) * (b / 7 % 5)+(0+(i:Int))=turn b (b / 8 % (1+b % 8)) i j:=by
     unfold turn;rw[BP ⋯,Ek,Ek]
    rw[<- e];rfl
   ·have e:b / 64+(0+(j:Int)) * (b / 7 % 5)=turn b (b / 8 % (1+b % 8)) i j:=by
     unfold turn;rw[BL ⋯,Ek,Int.add_zero]
    rw[<- e];rfl
   ·rintro σ' H' ⟨rfl,rfl⟩;refine aZ 7 nd<|bh YR<|ae 7<|a8 O7<|ae 2<|bh dh<|ae 9<|aG ⟨_,_,rfl,rfl,(by show(0:Int) < 36;decide),lets,_,sgn<|turn b (b / 8 % (1+b % 8)) i j,rfl,rfl,by decide +kernel,Il _,_,_,rfl,rfl,small (by show(nm b (b / 8 % (1+b % 8)) i j).length+1<=100000;omega),a9 ⟨rfl,_,_,rfl⟩⟩
  ·rintro σ H4 ⟨rfl,v3,v4,rfl⟩;refine Q8 (b % 3=2) (¬ b % 3=2) (λσ' H'=>H'=upd H l (Ls<|namesOf b i)/\σ'=[some<|.int b,some<|.int m,some<|.str lets,some<|.int<|1+b % 8,some<|.int<|b / 8 % (1+b % 8),⇑l,some<|.int<|0+(i:Int),some<|.str<|aV b i,v3,v4]) (λR qq=>?_) (λhc=>?_) (λhc=>a9 ⟨rfl,?_⟩) ?_
   ·refine cz fX<|bh dh<|ae 0<|aG ⟨_,_,rfl,rfl,(by show(0:Int) < 3;decide),aG ⟨rfl,_,rfl,?_⟩⟩
    by_cases hc:b % 3=2
    ·rw[BW (show V.int (b % 3)=V.int 2 by rw[hc])];exact qq true (λ_=>hc) λh=>by cases h
    ·rw[BR λh=>hc<|V.int.inj h];exact qq false (λh=>by cases h) λ_=>hc
   ·have e0:0<=(0+(i:Int)) % 8:=Cg _ ∅;have e1:(0+(i:Int)) % 8 < 8:=Cn _ ∅;refine aZ 7 nd (bh Z8<|a8 O7<|ae 2<|bh dh<|bh iu<|bh jB<|ae 0<|aG ⟨_,_,rfl,rfl,⟨∅,∅⟩,bh jB<|ae 6<|aG ⟨_,_,rfl,rfl,⟨∅,∅⟩,_,_,rfl,rfl,aG ⟨_,_,rfl,rfl,(by show(0:Int) < 36;decide),lets,_,sgn<|b / 64+(0+(i:Int)) / 8,rfl,rfl,by decide +kernel,Il _,?_⟩⟩⟩);refine bh iu (aG<|bh dh<|ae 6<|aG ⟨_,_,rfl,rfl,(by show(0:Int) < 8;decide),_,_,rfl,rfl,?_⟩);refine⟨_,_,rfl,rfl,⋯,⋯,?_,a9 ⟨rfl,?_⟩⟩
    ·show 1 * _<=_;omega
    ·have e:Txt.mul ⟨#[sgn<|b / 64+(0+(i:Int)) / 8]⟩ (1+(0+(i:Int)) % 8)=aV b i:=by
      unfold aV;rw[BP hc,Ek]
     rw[<- e];rfl
   ·have e:nm b (b / 8 % (1+b % 8)) i (1+b % 8).toNat=aV b i:=by
     unfold aV;rw[BL hc]
    rw[<- e]
   ·rintro σ' H' ⟨rfl,rfl⟩;refine gG<|ka<|ae 5 ⟨l,rfl,⟨_,az⟩,ae 7 ⟨_,az,?_,?_⟩⟩
    ·rw[Aa,Im];exact cg<|⋯
    ·rw[uN];refine a9 ⟨?_,_,_,_,_,rfl⟩;rw[zQ];exact IM
 ·rintro σ H3 ⟨rfl,u1,u2,u3,u4,rfl⟩;exact bS<|ae 5<|q l _ (aS hl _) hl az
def x5j{d:Addr}(h:H d≈.dK Y):mV K "dict" (.ref d) H:=Or.inr<|Or.inr<|Or.inl ⟨rfl,Or.inl ⟨Y,h⟩⟩
abbrev NS:Ð:=["_law_rows","_law_seats_here","_law_r","_law_place"]
def ji:ak NS ["_law_rows"] (aW IG):=cm
theorem q3j(F:bB K "_law_seats" "_law_seats" IG f fd)(T:Txt mg):↥4 1 f fd ["_law_rows"] tR:=by
 refine F.gc ji λb0 H vs Q E hr h=>?_;obtain⟨R,as,n,rfl,hR,hn,ht,q⟩:=h;have nd:=ji.nd;have cq:=hR.len;refine aZ 1 nd<|Ih λd hd=>?_;refine m8 T.range (cM eU T.len DY<|ah<|ae 0<|ax ⟨R,_,rfl,.inl<|au.of<|aS hd _ _ _ hR.lst,_,rfl,⋯,by rw[Aa];omega,?_⟩);rw[Aa,cq,Bk];refine m9 (λr σ H3=>∃ Y ks A u1 u2,bg H H3 d (bn<|n.take r) Y ks A/\σ=[⇑R,⇑d,u1,u2]) ⟨_,_,_,_,_,bg.start hd,rfl⟩ ?_ ?_
 ·rintro r σ H3 hi ⟨Y,ks,A',u1,u2,S,rfl⟩;rw[Ek];refine bw 2 nd ?_;obtain⟨a,ea,dJ,et,el,er⟩:=(hR.same S.same).at hi;refine m8 T.range<|cM eU T.len DY<|ah<|a8 bQ<|a8 dF<|ae 0<|ae 2 ⟨R,_,_,.ref a.1,rfl,rfl,au.of<|S.same _ _ hR.lst,dJ,aG ⟨a.1,_,_,.ref a.2,rfl,rfl,aQ.of et,rfl,ax ⟨a.2,_,rfl,.inl<|au.of el,_,rfl,⋯,?_,?_⟩⟩⟩
  ·have:(row n r).length<=1000:=by
    have h1:(row n r).length<=(ag n).length:=by
     exact jf n r
    omega
   rw[Aa];omega
  rw[Aa,Bk];refine m9 (λp σ H4=>∃ Y ks A u2,bg H H4 d (bn (n.take r)++bF r ((row n r).take p) 0) Y ks A/\σ=[⇑R,⇑d,some<|.int (r:Int),u2]) ⟨Y,ks,A',_,by simpa[bF]using S,rfl⟩ ?_ ?_
  ·rintro p σ H4 hp ⟨Y,ks,A',u2,S,rfl⟩;rw[Ek];refine bw 3 nd ?_;obtain⟨a,ea,dJ,et,el,er⟩:=(hR.same S.same).at hi;have hz:(row n r)[p]?=some (row n r)[p]:=Ab hp;generalize (row n r)[p]=z at hz;have next:bn (n.take r)++bF r ((row n r).take<|p+1) 0=(bn (n.take r)++bF r ((row n r).take p) 0)++[(z,(r,p))]:=by
    rw[qK hz,Ar]
   have hlen:Y.length < sizeLine:=by
    have h1:ks.length<=1000:=by
     refine Ch (aU (b:=ag n) S.nodup λy hy=>?_) ht;have h2:=(S.mem y).mp hy;cases hA:A' y with
     | none=>rw[hA]at h2;cases h2
     | some pr=>
      obtain⟨a2,mr⟩:=pr;have h3:=S.some' y a2 mr hA;unfold bT at h3;obtain⟨x,hx⟩:=Gc _ h3;obtain⟨⟨y2,e2⟩,hm,_⟩:=Ak.mp hx;rw[Bf,DQ]at hm;obtain⟨hm,rfl⟩:=hm;have:(y2,e2)∈bn n:=by
       rcases Am.mp hm with hm | hm
       ·have q1:=aT.mp hm;refine aT.mpr ?_;have q2:=cB q1;unfold aJ row at q1 ⊢;rw[Br]at q2;rwa[Eb<|⋯]at q1
       ·have q1:=bf.mp hm;refine aT.mpr ?_;unfold aJ;rw[q1.1];have q3:=q1.2.2;rw[VP]at q3;have q4:=(Ac.mp q3).1;rw[Br]at q4;rwa[Eb<|⋯]at q3
      exact eV<|aT.mp this
    have h2:=BZ List.length S.keys;rw[Aa,Aa]at h2;exact cg<|⋯
   refine gG<|ka<|Ig PySem.F.plainAttrs_dict PySem.F.slot_dict_setdefault PySem.F.type_dict_setdefault k9p<|ae 1 ⟨x5j S.dict,a8 dF<|a8 bQ<|a8 dF<|ae 0<|ae 2 ⟨R,_,_,.ref a.1,rfl,rfl,au.of<|S.same _ _ hR.lst,dJ,aG ⟨a.1,_,_,.ref a.2,rfl,rfl,aQ.of et,rfl,ae 3 ⟨a.2,_,_,.str z,rfl,rfl,au.of el,vW hz,?_⟩⟩⟩⟩;refine di<|ax ⟨Z0,λl0 nh=>?_⟩;have jd:=bz S.dict nh;refine⟨d,Y,Sum.inr z,.ref l0,rfl,rfl,by rw[aw jd];exact S.dict,hlen,?_⟩;cases hA:A' z with
   | some pr=>
    obtain⟨a2,mr⟩:=pr;obtain⟨q1,q2,q3,q4⟩:=S.at' z a2 mr hA;have zM:=bz q3 nh;refine .inl ⟨.ref a2,by rw[S.val z,hA];rfl,a2,rfl,⟨_,by rwa[aw zM]⟩,?_⟩;refine d9<|ah<|ae 2<|ah<|ae 3<|ax ⟨Z2,λt mh=>?_⟩;have zN:a2≠t:=λe=>by rw[<- e,aw zM,q3]at mh;cases mh
    refine⟨mr.map V.ref,by rwa[aw zN,aw zM],?_,?_⟩
    ·rw[Aa,q4.length];have h1:(bT (bn (n.take r)++bF r ((row n r).take p) 0) z).length<=100000:=by
      unfold bT;rw[Aa];refine Ch (Dz _ _) ?_;rw[Ag];have h2:(bn<|n.take r).length<=1000:=by
       have:=BZ List.length<|kJ (n.take r) 0;rw[Aa]at this;unfold bn;rw[this];exact Ch (Rm n r) ht
      have h3:(bF r ((row n r).take p) 0).length<=1000:=by
       unfold bF;rw[Aa,List.length_zipIdx,Br];have h1:(row n r).length<=(ag n).length:=by
        exact jf n r
       omega
      omega
     exact cg h1
    ·refine a9 ⟨Y,ks,(λy=>if y=z then some (a2,mr++[t])else A' y),_,?_,rfl⟩;rw[next];exact S.old (e:=(r,p)) hA nh mh
   | none=>
    refine .inr ⟨by rw[S.val z,hA];rfl,l0,rfl,⟨_,by rw[aw jd.symm];exact az⟩,?_⟩;refine d9<|ah<|ae 2<|ah<|ae 3<|ax ⟨Z2,λt mh=>?_⟩;have nA:l0≠t:=λe=>by rw[<- e,aw jd.symm,az]at mh;cases mh
    refine⟨[],by rw[aw nA,aw jd.symm,az],by show 0 < sizeLine;decide,?_⟩;refine a9 ⟨putK Y (Sum.inr z)<|.ref l0,ks++[z],(λy=>if y=z then some (l0,[t])else A' y),_,?_,rfl⟩;rw[next];exact S.new (e:=(r,p)) hA nh mh
  ·rintro σ H4 ⟨Y,ks,A',u2,S,rfl⟩;refine a9 ⟨Y,ks,A',_,_,?_,rfl⟩;rw[tQ hi];rwa[Ca]at S
 ·rintro σ H3 ⟨Y,ks,A',u1,u2,S,rfl⟩;rw[Ca]at S;exact bS<|ae 1<|q d ks H3 S.same S.free S.whole
abbrev NO:Ð:=["_law_rows","_law_seats_here","_law_end","_law_pair"]
def jj:ak NO ["_law_rows","_law_seats_here","_law_end"] (aW IH):=cm
theorem q48(F:bB K "_law_other" "_law_other" IH f fd)(T:Txt mg):↥4 1 f fd ["_law_rows","_law_seats_here","_law_end"] AF:=by
 refine F.gc jj λb0 H vs Q E hr h=>?_;obtain⟨R,d,t,as,n,ks,e,rfl,hR,hS,hT,ht,he,q⟩:=h;have nd:=jj.nd;have hu:=hr.iL;obtain⟨z,hz⟩:=af.mp he;have aX:=cB hz;obtain⟨a,ea,dJ,et,el,er⟩:=hR.at aX;obtain⟨Y,h1,h2,h3⟩:=hS.dict;obtain⟨pa,ts,v1,v2,v3⟩:=h3 z<|eV hz;obtain⟨x,y,hp,IY,tL⟩:=qJ hT hz;rw[hp]at v3;cases v3 with
 | cons x1 v3=>
 cases v3 with
 | cons y1 v3=>
 cases v3;rename_i tx ty;have eX:=hr.u1;refine aZ 3 nd<|gJ eX<|ae 1<|a8 dF<|a8 bQ<|a8 dF<|ae 0<|a8 bQ<|ae 2<|aG ⟨t,_,_,.int (e.1:Int),rfl,rfl,aQ.of ht,rfl,R,_,_,.ref a.1,rfl,rfl,au.of hR.lst,dJ,aG ⟨a.1,_,_,.ref a.2,rfl,rfl,aQ.of et,rfl,?_⟩⟩;refine a8 bQ (ae 2<|aG ⟨t,_,_,.int (e.2:Int),rfl,rfl,aQ.of ht,rfl,a.2,_,_,.str z,rfl,rfl,au.of el,vW hz,d,.ref pa,rfl,by rw[<- v1];exact bb.k (k:=Sum.inr z) h1,?_⟩);refine bS<|a8 dF<|ae 3<|qk Rb T.vZ UJ<|ah<|j6 (x2c hu)<|a8 dF<|ae 3<|aG ⟨pa,_,_,.ref tx,rfl,rfl,au.of v2,rfl,ae 2 ⟨1,_,∅,x0l x1 ht,?_⟩⟩
 by_cases c:x=e
 ·rw[BW c];refine ax ⟨_,rfl,pa,[.ref tx,.ref ty],1,.ref ty,rfl,rfl,au.of v2,rfl,q ty ?_⟩;have e1:↥5=y:=by unfold other;simp only[hz,hp];simp[c]
  rwa[e1]
 ·rw[BR c];refine ax ⟨_,rfl,pa,[.ref tx,.ref ty],0,.ref tx,rfl,rfl,au.of v2,rfl,q tx ?_⟩;have e1:↥5=x:=by unfold other;simp only[hz,hp];simp[c]
  rwa[e1]
abbrev NT:Ð:=["_law_rows","_law_seats_here","_law_end","_law_turn","_law_other_here"]
def kN:ak NT ["_law_rows","_law_seats_here","_law_end","_law_turn"] (aW II):=cm
theorem q6j(F:bB K "_law_step" "_law_step" II f fd)(T:Txt mg)(G:↥6 1 "_law_other" ["_law_rows","_law_seats_here","_law_end"] AF) :
  ↥4 2 f fd ["_law_rows","_law_seats_here","_law_end","_law_turn"] IT:=by
 refine F.gc kN λb0 H vs Q E hr h=>?_;obtain⟨R,d,t,as,n,ks,e,rfl,hR,hS,hT,ht,he,q⟩:=h;have nd:=kN.nd;have ho:=cR hT he;obtain⟨z,hz⟩:=af.mp ho;have aX:=cB hz;have qd:=gk hz;obtain⟨a,ea,dJ,et,el,er⟩:=hR.at aX;refine aZ 4 nd<|bC G hr<|ah<|ae 0<|ah<|ae 1<|ah<|ae 2<|ax ⟨R,d,t,as,n,ks,e,rfl,hR,hS,hT,ht,he,λu hu=>?_⟩;refine bS<|d9<|ah<|a8 bQ<|ae 4<|aG ⟨u,_,_,.int ((↥5).1:Int),rfl,rfl,aQ.of hu,rfl,?_⟩;refine ah<|bh dh<|bh iu<|a8 bQ<|ae 4<|aG ⟨u,_,_,.int ((↥5).2:Int),rfl,rfl,aQ.of hu,rfl,ae 3 ⟨_,_,rfl,rfl,?_⟩⟩;refine cM eU T.len DY<|ah<|a8 bQ<|a8 dF<|ae 0<|a8 bQ<|ae 4<|aG ⟨u,_,_,.int ((↥5).1:Int),rfl,rfl,aQ.of hu,rfl,R,_,_,.ref a.1,rfl,rfl,au.of hR.lst,dJ,aG ⟨a.1,_,_,.ref a.2,rfl,rfl,aQ.of et,rfl,ax ⟨a.2,_,rfl,.inl<|au.of el,?_⟩⟩⟩;rw[Aa];refine⟨_,_,rfl,rfl,⋯,ax ⟨Z2,λp hp=>?_⟩⟩;refine q p _ (aS hp _) hp ?_;rw[az];unfold Nt.step Nt.left;show some (HO.tup [.int ((↥5).1:Int),.int<|(((↥5).2:Int)+1) % ((row n (↥5).1).length:Int)])≈HO.tup [.int ((↥5).1:Int),.int ((((↥5).2+1) % (row n (↥5).1).length:Nat):Int)];rw[Int.natCast_emod];rfl
abbrev NF:Ð:=["_law_rows","_law_seats_here","_law_end","_law_face_here","_law_here"]
def kP:ak NF ["_law_rows","_law_seats_here","_law_end"] (aW IJ):=cm
def g5(n:Net)(e:Nt.End)(j:Nat):List Nt.End:=(List.range j).map λi=>↥14 i e
def q3c(n:Net)(e:Nt.End)(j:Nat):g5 n e (j+1)=g5 n e j++[↥14 j e]:=by
 unfold g5;rw[Dk,Al];rfl
theorem q8h(F:bB K "_law_face" "_law_face" IJ f fd)(T:Txt mg)(G:↥6 2 "_law_step" ["_law_rows","_law_seats_here","_law_end","_law_turn"] IT) :
  ↥4 3 f fd ["_law_rows","_law_seats_here","_law_end"] IU:=by
 refine F.gc kP λb0 H vs Q E hr h=>?_;obtain⟨R,d,t,as,n,ks,e,rfl,hR,hS,hT,ht,he,hb,q⟩:=h;have nd:=kP.nd;have hu:=hr.iL;obtain⟨k,k0,k1,k2⟩:=zK (f:=step n) (S:=ends n) (λa ha=>mq hT ha) (λa ha b hb=>zJ hT ha hb) he;refine aZ 3 nd<|di<|ah<|ae 2<|ax ⟨Z1,λl hl=>?_⟩;have g1:=aS hl<|.lst [.ref t];refine aZ 4 nd<|bC G hr<|ah<|ae 0<|ah<|ae 1<|ah<|ae 2<|ah<|aG<|ax ⟨R,d,t,as,n,ks,e,rfl,hR.same g1,hS.same g1,hT,g1 _ _ ht,he,λu H1 s1 nu eu=>?_⟩;refine vT (λm σ H2=>∃(j:Nat) (ts:↥9) (u:Addr),m=k - j/\0 < j/\j<=k/\aj H H2/\H2 l=some (.lst<|↥8)/\Pd H2 ts (g5 n e j)/\H2 u=some (Tp<|↥14 j e)/\(∀ i,0 < i->i < j->↥14 i e≠e)/\σ=[⇑R,⇑d,⇑t,⇑l,⇑u])
  (m0:=k - 1) ⟨1,[t],u,rfl,Ff,k0,g1.trans s1,s1 _ _ az,.cons (s1 _ _<|g1 _ _ ht) .nil,eu,λi h1 h2=>⋯,rfl⟩ ?_
 rintro m σ H2 ⟨j,ts,u,rfl,j0,j1,sH,el,ep,eu,hf,rfl⟩;refine cz (tP hu) (ae 4<|ae 2 ⟨1,_,∅,x2p eu<|sH _ _ ht,_,rfl,?_⟩);have pl:=ep.length;have ol:(g5 n e j).length=j:=by unfold g5;simp
 by_cases c:↥14 j e=e
 ·rw[BW c];refine bR (bS<|ae 3<|q l ts (g5 n e j) H2 sH hl el ep ⟨⋯,⋯,λi hi=>?_,by rwa[ol],λi h1 h2=>hf i h1<|⋯⟩);unfold g5;rw[Ah,Dx<|⋯];rfl
 ·rw[BR c];have jk:j < k:=by
   rcases Da j k with h | h
   ·exact h
   ·have:j=k:=⋯
    subst this;exact absurd k2 c
  refine cv (gG<|ka<|ae 3 ⟨l,rfl,⟨_,el⟩,ae 4 ⟨_,el,by rw[Aa];exact cg ⋯,?_⟩⟩);have s2:aj H (upd H2 l<|.lst<|↥8++[.ref u]):=fI sH hl;have kt:∀ b f,H2 b≈Tp f->(upd H2 l<|.lst<|↥8++[.ref u]) b≈Tp f:=λb f h=>by
   rwa[aw<|vX h el]
  have Ru:=kt u _ eu;refine aZ 4 nd<|bC G hr<|ah<|ae 0<|ah<|ae 1<|ah<|ae 4<|ah<|aG<|ax ⟨R,d,u,as,n,ks,↥14 j e,rfl,hR.same s2,hS.same s2,hT,Ru,je (λa ha=>mq hT ha) he j,λv H3 s3 nv ev=>?_⟩;refine a9 ⟨k - (j+1),⋯,j+1,ts++[u],v,rfl,Ey _,jk,s2.trans s3,?_,?_,ev,λi h1 h2=>?_,rfl⟩
  ·rw[Al];exact s3 _ _ az
  ·rw[q3c];exact(ep.keep λb f h=>s3 _ _<|kt b f h).append<|.cons (s3 _ _ Ru) .nil
  ·rcases Nat.lt_succ_iff_lt_or_eq.mp h2 with h | h
   ·exact hf i h1 h
   ·rwa[h]
end
end E9
namespace Nt
open PySem L2
def Full(n:Net):Prop:=(∃ nm,n=[(nm,[])])\/(n≠[]/\∀ i,i < n.length->row n i≠[])
def fw(n:Net)(c:End):Prop:=c.1 < n.length/\c.2 < max 1 (row n c.1).length
def ins(n:Net)(c:End)(z:Str):Net:=n.modify c.1 λr=>(r.1,r.2.take c.2++z :: r.2.drop c.2)
def iz(n:Net)(c:End)(z:Str):(ins n c z).length=n.length:=by unfold ins;rw[List.length_modify]
theorem IZ(n:Net)(c:End)(z:Str):(ins n c z).map (·.1)=n.map (·.1):=by
 unfold ins;refine Dy λi=>?_;rw[Ah,Ah,Fu];cases n[i]? with
 | none=>rfl
 | some r=>by_cases h:c.1=i <;> simp[h]
def tT(n:Net)(c:End)(z:Str)(i:Nat)(hc:c.1 < n.length):row (ins n c z) i=if c.1=i then(row n i).take c.2++z :: (row n i).drop c.2 else row n i:=by
 unfold row ins;rw[Fu]
 by_cases h:c.1=i
 ·subst h;rw[Ab hc];simp
 ·rw[BL h];cases n[i]? with
  | none=>simp[h]
  | some r=>simp[h]
theorem mv:∀n c z,c.1 < n.length->(ag<|ins n c z).Perm (z :: ag n)
 | [],c,z,h=>by simp at h
 | a :: n,(0,p),z,h=>by
  unfold ins ag;simp only[List.modify_zero_cons,Cp];have:(a.2.take p++z :: a.2.drop p).Perm (z :: a.2):=by
   refine List.perm_middle.trans ?_;rw[Cw]
  exact this.append_right _
 | a :: n,(i+1,p),z,h=>by
  have ih:=mv n (i,p) z h⁻¹;unfold ins ag at ih ⊢;simp only[List.modify_succ_cons,Cp];refine(ih.append_left a.2).trans ?_;exact List.perm_middle
variable{z:Str}{c:End}{n:Net}
theorem Ja(F:Full n)(hc:c.1 < n.length):n.length=1\/(∀ i,i < n.length->row n i≠[])->(∀ i,i < (ins n c z).length->row (ins n c z) i≠[])/\ins n c z≠[]:=by
 intro h;have hl:=iz n c z;refine⟨λi hi=>?_,λe=>?_⟩
 ·rw[tT n c z i hc]
  by_cases q:c.1=i
  ·rw[BP q];simp
  ·rw[BL q]
   rcases h with h | h
   ·rw[hl]at hi;omega
   ·exact h i<|⋯
 ·rw[e]at hl;simp at hl;omega
def Full.some(F:Full n):n≠[]:=by
 rcases F with ⟨nm,rfl⟩ | h
 ·simp
 ·exact h.1
def Full.either(F:Full n):n.length=1\/(∀ i,i < n.length->row n i≠[]):=by
 rcases F with ⟨nm,rfl⟩ | h
 ·exact .inl rfl
 ·exact .inr h.2
theorem Full.cV(F:Full n)(h0:row n 0≠[])(hc:fw n c):c∈ends n:=by
 rcases F with ⟨nm,rfl⟩ | h
 ·exact absurd rfl h0
 ·have:=h.2 c.1 hc.1;have hp:0 < (row n c.1).length:=Cu.mpr this;have aX:c.2 < (row n c.1).length:=by
   have:=hc.2;omega
  exact af.mpr<|vV aX
theorem q0g{e:End}(h:e∈ends n):fw n e:=by
 obtain⟨z,h⟩:=af.mp h;have:=gk h;exact⟨cB h,⋯⟩
def qU(H H':Hp)(bad:↥9):Prop:=∀ b o,H b≈o->b∉bad->H' b≈o
def Rv(zs:Ð)(i:Nat)(z:Str):insertAt (zs.map V.str) i (.str z)=(zs.take i++z :: zs.drop i).map V.str:=by
 unfold insertAt;rw[Al,Ba,Hn,Ho]
theorem ai.ins{H:Hp}{R:Addr}{as:Î}{n:Net}(h:ai H R as n){c:End}{z:Str}{a:Addr×Addr}(ha:as[c.1]?≈a)(hc:c.1 < n.length) :
  ai (upd H a.2<|Ls<|(row n c.1).take c.2++z :: (row n c.1).drop c.2) R as (Nt.ins n c z):=by
 have q0:=h.tup c.1 a n[c.1] ha<|Ab hc;have hRa:R≠a.2:=by
  intro e;have h1:=h.lst;rw[e,q0.2]at h1;have h2:=HO.lst.inj<|Option.some.inj h1;have h3:=BZ List.length h2;cases hm:n[c.1].2 with
  | nil=>
   rw[hm]at h2;have:as.map (λa=>V.ref a.1)=[]:=h2.symm;have hl:=BZ List.length this;rw[Aa,h.len]at hl;rw[hl]at hc;exact absurd hc<|Dj _
  | cons y r=>
   rw[hm]at h2;cases as with
   | nil=>simp at h2
   | cons b bs=>
    simp at h2
 have er:row n c.1=n[c.1].2:=by unfold row;rw[Ab hc];rfl
 refine⟨by rw[iz];exact h.len,by rw[aw hRa];exact h.lst,λi b r hb hr=>?_,h.inj⟩;unfold Nt.ins at hr;rw[Fu]at hr;cases hn:n[i]? with
 | none=>rw[hn]at hr;by_cases q:c.1=i <;> simp[q]at hr
 | some r0=>
  rw[hn]at hr;have q1:=h.tup i b r0 hb hn;have t1:b.1≠a.2:=cf q1.1 q0.2 λe=>nomatch e
  by_cases q:c.1=i
  ·subst q;rw[Ab hc]at hn;cases hn;rw[ha]at hb;cases hb;simp at hr;subst hr;refine⟨by rw[aw t1];exact q1.1,?_⟩;rw[az,er]
  ·simp[q]at hr;subst hr;have t2:b.2≠a.2:=λe=>by
    have l1:i < as.length:=(Ac.mp hb).1;have l2:c.1 < as.length:=(Ac.mp ha).1;have x1:(as.map (·.2))[i]?≈b.2:=by rw[Ah,hb];rfl
    have x2:(as.map (·.2))[c.1]?≈a.2:=by rw[Ah,ha];rfl
    obtain⟨y1,z1⟩:=Ac.mp x1;obtain⟨y2,z2⟩:=Ac.mp x2;exact q<|(Gy (h₀:=y2) (h₁:=y1) h.inj).mp<|z2.trans<|e.symm.trans z1.symm
   exact⟨by rw[aw t1];exact q1.1,by rw[aw t2];exact q1.2⟩
variable{zs:Ð}{as:Î}{R:Addr}{H:Hp}
theorem ai.more{t l:Addr}{pt:Str}(h:ai H R as n)(ht:H t≈.tup [.str pt,.ref l])(hl:H l≈Ls zs)(hn:l∉as.map (·.2))(hR:l≠R) :
  ai (upd H R<|.lst<|as.map (λa=>V.ref a.1)++[.ref t]) R (as++[(t,l)]) (n++[(pt,zs)]):=by
 have cq:=h.len;refine⟨by rw[Ag,Ag,cq];rfl,by rw[az,Al];rfl,λi b r hb hr=>?_,?_⟩
 ·rcases Da i as.length with c | c
  ·rw[Ax c]at hb;rw[Ax<|⋯]at hr;have q:=h.tup i b r hb hr;have t1:=cf q.1 h.lst λe=>nomatch e;have t2:b.2≠R:=by
    intro e;have h1:=h.lst;rw[<- e,q.2]at h1;have h2:=HO.lst.inj<|Option.some.inj h1;cases as with
    | nil=>simp at c
    | cons b' bs=>
     cases hm:r.2 with
     | nil=>rw[hm]at h2;simp at h2
     | cons y r=>rw[hm]at h2;simp at h2
   exact⟨by rw[aw t1];exact q.1,by rw[aw t2];exact q.2⟩
  ·have e:i=as.length:=by
    have:=(Ac.mp hb).1;rw[Ag]at this;simp at this;omega
   subst e;rw[Bd<|An _]at hb;rw[cq,Bd<|An _]at hr;simp at hb hr;subst hb hr;have t1:=cf ht h.lst λe=>nomatch e;exact⟨by rwa[aw t1],by rwa[aw hR]⟩
 ·rw[Al,Co];exact⟨h.inj,by simp,λx hx y hy e=>by simp at hy;subst hy e;exact hn hx⟩
variable{x:Addr×Addr}
theorem ai.lists(h:ai H R as n)(hx:x∈as):∃ zs,H x.2≈Ls zs:=by
 obtain⟨i,hi,e⟩:=Ck.mp hx;have hl:=h.len;exact⟨_,(h.tup i x (n[i]'⋯) (by rw[<- e];exact Ab hi)<|Ab<|⋯).2⟩
def ai.fresh{l:Addr}(h:ai H R as n)(hl:H l=none)(hx:x∈as):l≠x.2:=by
 obtain⟨zs,e⟩:=h.lists hx;exact(bz e hl).symm
def fz(n:Net):(ends n).length=(ag n).length:=by
 unfold ends bn;rw[Aa,<- kJ n 0,Aa]
def dz.ends{n:Net}(T:aq n){e:End}{fs:List End}(h:dz n e fs)(he:e∈ends n):∀ c∈fs,c∈Nt.ends n:=by
 intro c hc;obtain⟨i,hi,e2⟩:=Ck.mp hc;have:=h.at' i hi;rw[Ab hi,e2]at this;rw[Option.some.inj this];exact je (λa ha=>mq T ha) he i
theorem AG{k:End}(hc:fw n c)(hk:k.1 < n.length):fw (ins n k z) c:=by
 refine⟨by rw[iz];exact hc.1,?_⟩;rw[tT n k z c.1 hk];have:=hc.2
 split
 ·rw[Ag,As,Br,Du];omega
 ·exact this
def dbl(zs:Ð):Ð:=zs.flatMap λz=>[z,z]
theorem Jb(y:Str):∀ zs:Ð,(dbl zs).count y=2 * zs.count y
 | []=>rfl
 | z :: r=>by
  unfold dbl;rw[Cp];have ih:=Jb y r;unfold dbl at ih;rw[Ez,ih,Dl,Dl,Dl,List.count_nil];omega
theorem jl{y:Str}:y∈dbl zs↔y∈zs:=by
 rw[<- Ds,Jb,<- Ds];omega
theorem Jc:∀ zs:Ð,(dbl zs).length=2 * zs.length
 | []=>rfl
 | z :: r=>by
  unfold dbl;rw[Cp,Ag];have ih:=Jc r;unfold dbl at ih;rw[ih,As];simp;omega
def q43(zs:Ð)(z:Str):dbl (zs++[z])=dbl zs++[z,z]:=by
 unfold dbl;rw[Dp];rfl
def Rw(hn:zs.Nodup)(p:(ag n).Perm<|dbl zs):aq n:=λz hz=>by
 rw[p.count_eq,Jb];have h1:=jl.mp<|p.mem_iff.mp hz;rw[hn.count,BP h1]
def NE(n:Net):Prop:=∀ r∈n,r.2≠[]
def jm{i:Nat}(h:i < n.length):row n i=n[i].2:=by unfold row;rw[Ab h];rfl
def q7v(h:NE n)(h0:n≠[]):Full n:= .inr ⟨h0,λi hi=>by rw[jm hi];exact h _<|Bt hi⟩
def Full.ne(h:Full n):(∃ nm,n=[(nm,[])])\/NE n:=by
 rcases h with h | ⟨_,h⟩
 ·exact .inl h
 ·refine .inr λr hr=>?_;obtain⟨i,hi,rfl⟩:=Ck.mp hr;have:=h i hi;rwa[jm hi]at this
theorem Rx:∀n k h,(ag n).Perm<|n[k].2++ag (n.eraseIdx k)
 | [],k,h=>by simp at h
 | a :: n,0,h=>by unfold ag;simp
 | a :: n,k+1,h=>by
  have ih:=Rx n k h⁻¹;unfold ag at ih ⊢;simp only[Cp,List.getElem_cons_succ,RW];refine(ih.append_left a.2).trans ?_;rw[<- Ar,<- Ar];exact List.perm_append_comm.append_right _
def k31(n:Net)(k:Nat)(h:k < n.length):(n.map (·.1)).Perm (n[k].1 :: (n.eraseIdx k).map (·.1)):=by
 have:=(bP.bW n k h).map (·.1);exact this.symm
def Jd(zs:Ð)(i:Nat):(zs.drop i++zs.take i).Perm zs:=by
 refine Cq.trans ?_;rw[Cw]
def ai.upd{H:Hp}{R x:Addr}{as:Î}{n:Net}(h:ai H R as n){xs:List V}{o:HO}(hx:H x≈.lst xs)(hR:R≠x)(ha:∀ a∈as,a.2≠x):ai (upd H x o) R as n:=by
 refine⟨h.len,by rw[aw hR];exact h.lst,λi a r h1 h2=>?_,h.inj⟩;have q:=h.tup i a r h1 h2;exact⟨by rw[aw<|cf q.1 hx λe=>nomatch e];exact q.1,by rw[aw<|ha a<|Ao h1];exact q.2⟩
def Je{α:Type}(l:List α)(k i:Nat):(l.eraseIdx k)[i]?=if i < k then l[i]? else l[i+1]?:=by
 rw[Gu]
def ai.erase(h:ai H R as n){k:Nat}(hk:k < n.length) :
  ai (L2.upd H R<|.lst<|(as.map λa=>V.ref a.1).eraseIdx k) R (as.eraseIdx k) (n.eraseIdx k):=by
 have hl:=h.len;refine⟨by rw[Dg,Dg,hl],?_,λi a r h1 h2=>?_,?_⟩
 ·rw[az]
  congr 2
  refine Dy λi=>?_;rw[Je,Ah,Ah,Ah,Je]
  split <;> rfl
 ·rw[Je]at h1 h2;have q:H a.1≈.tup [.str r.1,.ref a.2]/\H a.2≈Ls r.2:=by
   by_cases c:i < k
   ·rw[BP c]at h1 h2;exact h.tup i a r h1 h2
   ·rw[BL c]at h1 h2;exact h.tup (i+1) a r h1 h2
  have t2:a.2≠R:=by
   intro e;have h3:=h.lst;rw[<- e,q.2]at h3;have h4:=HO.lst.inj<|Option.some.inj h3;cases as with
   | nil=>simp at hl;simp[<- hl]at hk
   | cons b bs=>
    cases hm:r.2 with
    | nil=>rw[hm]at h4;simp at h4
    | cons y r=>rw[hm]at h4;simp at h4
  exact⟨by rw[aw<|cf q.1 h.lst λe=>nomatch e];exact q.1,by rw[aw t2];exact q.2⟩
 ·have:((as.eraseIdx k).map (·.2)).Sublist (as.map (·.2)):=(List.eraseIdx_sublist as k).map _;exact h.inj.sublist this
theorem q4q(zs:Ð)(i:Nat):gU (zs.map V.str) (some (i:Int)) none=(zs.drop i).map V.str:=by
 unfold gU;rw[HT.i6,HT.gT,Aa];rw[Cs (by rw[Du,Aa];omega),Ho]
 rcases Nat.le_total i zs.length with h | h
 ·rw[Nat.min_eq_left h]
 ·rw[Nat.min_eq_right h,TV (by simp),TV<|h⁻¹]
def x1x(zs:Ð)(i:Nat):gU (zs.map V.str) none (some (i:Int))=(zs.take i).map V.str:=by
 unfold gU;rw[HT.i6,HT.gT,Aa,List.drop_zero,VP,Hn]
 rcases Nat.le_total i zs.length with h | h
 ·rw[Nat.min_eq_left h]
 ·rw[Nat.min_eq_right h,Cs (by simp),Cs<|h⁻¹]
end Nt
namespace L2
open PySem PySem.Spec PyProof.Rows
variable{H:Hp}{σ:St}{inner:Value->Env->Sem Unit}{u0:Addr->HO}{newAcc:Sem Value}{gs:List Comprehension}{scope:Scope}{ifs:Ó}{tg:Expr}{X:Cx}
def AH{e iter:Expr}{pz:Pos}{o0:Obj}{wi:TI}{Q:VK}
  (fm:∀(Q:Í) (E:Í) (s:Shared),Q (.ref ↑s) {s with heap:=s.heap.push o0}->↥2 newAcc Q E s) (iI:∀(H:Hp) (h:Heap),sysModules < h.objs.size->aB X.U X.w H (h.push o0) h.objs.size (u0 h.objs.size))
  (hC:∀ acc env,Clause e 0 tg iter ifs acc env<|inner acc env) (he:eval e X.env=comprehension e scope X.env pz newAcc false (eval iter X.env) none) (jL:clausesOf e=⟨tg,iter,ifs,0⟩ :: gs)
  (sc:Scope) (N N':Ð) (n:Nat) (hi:PI X tg iter wi)
  (h:wi σ H λJ H1=>∀ D,H1 D=none->∀ cl C æ ç ex,iK ↥13 tg ifs (inner (.ref D)<|compEnvC scope cl C X.env) J (λ_ H'=>Q (.ref D) H') (σ++List.replicate n none)<|upd H1 D<|u0 D)
  (hc:X.calm=true) (jI:X.env.scope=sc) (hN:X.N=N) (hk:ng sc scope N N'=true) (hl:N'.length=N.length+n) (hs:∀ x,foldedSetIterable iter X.env x=pure x):Ev X e σ H Q:=by
 refine⟨λO s I=>?_⟩;subst jI hN;have ck:=cH.of hk;rw[he];refine KR (use:=none) jL hs (FL λx hx hf=>I.ok.has x.1<|ck.free x hx hf) ck.kind ck.names<|aO (hi O s σ H _ I h) λv s1 h1=>aO h1 λoF s2 h2=>?_;obtain⟨it,fp,tn,J,H2,e,I2,T,gE,f2,q⟩:=h2;subst e;refine Qe fm iI (Q:=Q) (RR:=λacc C=>compPost (model X.U X.w) X.A X.xe none (EP X O σ Q) acc C) hc ck hl hC I2 T gE f2 q ?_;intro D C H' s' m IX hn hC c1 c2 c3 c4 qq;exact⟨m,hn,λh' gZ=>⟨.ref D,H',IX.turned (t':=s'.toks) (λb o hb e=>gZ.extBut b o hb e) hC (CK<|CK c1) (.inr c2) c3 c4,rfl,qq⟩⟩
variable{w:World}{P:Program}
def Ry{k:Key}{u:Value}(h:(bX P w).is k u=true):RelV (kV k) u:=by
 rcases lR h with ⟨i,t,rfl,rfl⟩ | ⟨x,t,rfl,rfl⟩ <;> exact⟨t,rfl⟩
variable{O:Ï}{xs:List V}{Y:List (Key×V)}{d:Addr}{es:Array DictEntry}{o:Obj}{K:PySem.W.Frag}
section
variable{s:Shared}
theorem q85:∀{vs},vs.length=xs.length->(∀(j:Nat) u,vs[j]?≈u->∃ x,xs[j]?≈x/\RelV x u)->ay xs vs:=by
 induction xs with
 | nil=>
  intro vs h _;cases vs with
  | nil=>exact .nil
  | cons a b=>simp at h
 | cons x r ih=>
  intro vs h g;cases vs with
  | nil=>simp at h
  | cons u q=>
   obtain⟨x',e,ru⟩:=g 0 u rfl;simp only[RX,Option.some.injEq]at e;subst e;exact .cons ru<|ih h⁻¹ λj u hu=>by simpa using g (j+1) u hu⁻¹
theorem j8k(hc:X.calm=true):gR X (.type "list") (λxs H Q=>∃ a Y,xs=[.ref a]/\Rd H a (.dK Y)/\∀ l,H l=none->Q (.ref l) (upd H l<|.lst<|Y.map λp=>kV p.1)):=by
 intro O s σ H xs us Q I r h;obtain⟨a,Y,rfl,hH,q⟩:=h;obtain⟨u,rfl,ru⟩:=vals1 r;cases (show u=Value.ref a from ru);obtain⟨z,hd,vs,rel,dd⟩:=tF I.aH hH;obtain⟨ep,da⟩:=dd.dictAt;have hl:=rel.length;refine PySem.W.kdl_call (PySem.W.kdl_dict hd) (I.ok.hd hc) da ⋯ λh' tk acc c' hk hS v6=>?_;have rv:ay (Y.map λp=>kV p.1) acc.toList:=by
  refine q85 (by rw[Bu,v6.1,Aa];omega) λj u hu=>?_;obtain⟨k,x,e,g⟩:=v6.2 j u (by rwa[<- Bj]);refine⟨kV k,?_,Ry g⟩;have e2:(Y.map (·.1))[j]?≈k:=by rw[rel.keys,Ah,e];rfl
  rw[Ah,Az]at e2;obtain⟨p,e3,e4⟩:=e2;rw[Ah,e3,<- e4];rfl
 exact⟨.ref ↑s,_,I.laid hk (An _) (show aB X.U X.w _ h' _ (.lst<|Y.map λp=>kV p.1) from⟨by rwa[Aa],acc.toList,c',rv,by rwa[Array.toArray_toList]⟩),rfl,q _<|I.aH.fresh<|An _⟩
def k6n(I:↥3)(e:H d≈.dK Y):∃ o,s.heap.get? d≈o/\Inv X O σ (upd H d<|.b7 o<|.dK Y) s:=by
 obtain⟨z,hd,vs,rel,dd⟩:=vy I.aH e;obtain⟨o,es,ep,ho,rest⟩:=id dd;refine⟨o,ho,?_⟩;exact lX I (by rw[e];exact True.intro) ⟨rfl,λ_ _=>rfl⟩ ⟨o,ho⟩ (show aB X.U X.w _ s.heap d (.b7 o<|.dK Y) from⟨ho,z,hd,vs,rel,dd⟩)
def Jf(d:Addr)(o:Obj)(Y:List<|Key×V):It:=
 ⟨λi H=>H d=some (.b7 o<|.dK Y)/\i < Y.length,λi H x H'=>H'=H/\∃ p,Y[i]?≈p/\x=kV p.1,λi H=>H d=some (.b7 o<|.dK Y)/\Y.length<=i⟩
def RA{h:Heap}{ep:Nat}(aH:cn P w H h)(e:H d=some (.b7 o<|.dK Y))(hd:o.data = .dict es ep):∃ vs,KV Y vs/\h.DictAt (bX P w) d vs ep:=by
 obtain⟨ho,z,_,vs,rel,dd⟩:=(show aB P w H h d (.b7 o<|.dK Y)from aH d _ e);obtain⟨oD,o',dM,dU,r1,r2,r3⟩:=dd.dictAt;have:o=o':=Option.some.inj<|ho.symm.trans dU;subst this;rw[hd]at r2
 injection r2 with e1 e2
 subst e1;subst e2;exact⟨vs,rel,o,es,dU,r1,hd,r3⟩
theorem k99(d it:Addr)(o:Obj)(es:Array DictEntry)(ep:Nat)(Y:List<|Key×V)(nD:o.data = .dict es ep):Turn P w K tg (Jf d o Y) [it] it (λi h=>h.IsKeyIter it d i Y.length ep) where
 mem:=by simp
 obj:=λi h st b hb=>by
  have e:b=it:=by simpa using hb
  subst e;obtain⟨o,e,c,d⟩:=st;exact⟨o,e,λv z=>by rw[d]at z;cases z⟩
 keep:=λi h h' st k=>let ⟨o,ho,r⟩:=st;⟨o,k it (by simp) o ho,r⟩
 item:=by
  intro X hP hw hK hc i O s σ H E I hf st hg;subst hP hw hK;obtain⟨f0,f1,f2,f3,f4,f5⟩:=hf it (by simp);obtain⟨hd,hi⟩:=hg;obtain⟨vs,rel,da⟩:=RA I.aH hd nD;have hl:=rel.length;have jK:i < vs.length:=⋯
  have hx:=Ab jK;rw[hl]at st;refine wpAny_pyNext_dict_item st da hx λkey h' hk dX gZ=>?_;have I1:=I.turned (t':=s.toks) (λb o hb e=>gZ.extBut b o hb e) f0 f1 f3 f4 f5;obtain⟨o2,e2,c2,d2⟩:=id dX;refine⟨_,rfl,EB (s:={s with heap:=h'}) e2 c2 d2 ∅ ⟨kV vs[i].1,H,I1,Ry hk,⟨rfl,Y[i],Ab hi,?_⟩,by rw[hl];exact dX,λb hb=>(hf b hb).1⟩⟩;have ek:=rel.keys;have e3:(Y.map (·.1))[i]?=(vs.map (·.1))[i]?:=by rw[ek]
  rw[Ah,Ah,Ab hi,hx]at e3;have e4:Y[i].1=vs[i].1:=Option.some.inj e3;rw[e4]
 done:=by
  intro X hP hw hK hc i O s σ H E I hf st hg;subst hP hw hK;obtain⟨f0,f1,f2,f3,f4,f5⟩:=hf it (by simp);obtain⟨hd,hi⟩:=hg;obtain⟨vs,rel,da⟩:=RA I.aH hd nD;have hl:=rel.length;rw[hl]at st;exact wpAny_pyNext_dict_end (I.ok.hd hc) st da (by rw[Bg];omega) λh' eb=>⟨rfl,I.turned (t':=s.toks) (λb o hb e=>eb b o hb e) f0 f1 f3 f4 f5⟩
 self:=λ_ _ _ _ _ st h=>wpAny_pyIter_keyiter st h
def x4s(tl:TE):TI:=λσ H R=>tl σ H λx H1=>∃ d Y,x = .ref d/\H1 d≈.dK Y/\∀ o,R (Jf d o Y)<|upd H1 d<|.b7 o<|.dK Y
def q7i{l:Expr}{tl:TE}(hl:PE X l tl):PI X tg l (x4s tl):=by
 intro O s σ H R I h;refine aO (hl O s σ H _ I h) λv s1 ⟨x,H1,I1,r1,q1⟩=>?_;obtain⟨d,Y,e,hH,q⟩:=q1;subst e;cases (show v=Value.ref d from r1);obtain⟨o,ho,I2⟩:=k6n I1 hH;obtain⟨z,qV,vs,rel,dd⟩:=vy I1.aH hH;obtain⟨ep,o',es,dU,r1,r2,r3⟩:=dd.dictAt;have:o=o':=Option.some.inj<|ho.symm.trans dU;subst this;refine wpAny_pyIter_dict qV ⟨o,es,dU,r1,r2,r3⟩<|⟨↑s1,[↑s1],_,_,_,rfl,I2.kept λb o e=>Aj _ e,k99 d _ o es ep Y r2,⟨_,At _ rfl,rfl,by rw[rel.length];rfl⟩,λb hb=>?_,q o⟩;have e:b=↑s1:=by simpa using hb
 subst e;exact I2.jA (An _)<|I2.aH.fresh<|An _
end
variable{N' zs:Ð}{R:St->Hp->Prop}
section
variable{elt:Expr}{A a:Addr}{after:Hp->Prop}
theorem oY(Pv:Nat->St->Hp->Prop)(h0:Pv 0 σ H)(hl:∀ i σ' H',i<=xs.length->Pv i σ' H'->au X.K H' a xs)
  (hs : ∀ i x σ' H', xs[i]? = some x → Pv i σ' H' → vE X N' scope tg x σ' H' λσ2 H3 => vF X N' scope ifs σ2 H3 λb H4 =>
   if b=true then vD X N' scope elt σ2 H4 λv H5=>∃ ys,H5 A≈.lst ys/\ys.length < sizeLine/\Pv (i+1) σ2 (upd H5 A<|.lst<|ys++[v])else Pv (i+1) σ2 H4)
  (hd:∀ σ' H',Pv xs.length σ' H'->after H'):lZ X N' scope tg ifs elt (pY X.K a) A after σ H:=by
 refine⟨λi m σ' H'=>m=xs.length - i/\i<=xs.length/\Pv i σ' H',⟨_,rfl,Bx _,h0⟩,?_⟩;rintro i m σ' H' ⟨rfl,hi,p⟩;have q:=hl i σ' H' hi p
 by_cases aX:i < xs.length
 ·refine .inr ⟨⟨xs,xs[i],q,by simp[aX]⟩,Pv<|i+1,λσ' H' p'=>⟨xs.length - (i+1),⋯,rfl,aX,p'⟩,λx H2 y=>?_⟩;obtain⟨e,y⟩:=y;subst e;exact hs i x σ' _ (y xs q) p
 ·have e:i=xs.length:=⋯
  subst e;exact .inl ⟨⟨xs,q,An _⟩,hd σ' H' p⟩
theorem k57(Pv:Nat->St->Hp->Prop)(h0:Pv 0 σ H)(hl:∀ i σ' H',i<=Y.length->Pv i σ' H'->H' d=some (.b7 o<|.dK Y))
  (hs : ∀ i p σ' H', Y[i]? = some p → Pv i σ' H' → vE X N' scope tg (kV p.1) σ' H' λσ2 H3 => vF X N' scope ifs σ2 H3 λb H4 =>
   if b=true then vD X N' scope elt σ2 H4 λv H5=>∃ ys,H5 A≈.lst ys/\ys.length < sizeLine/\Pv (i+1) σ2 (upd H5 A<|.lst<|ys++[v])else Pv (i+1) σ2 H4)
  (hd:∀ σ' H',Pv Y.length σ' H'->after H'):lZ X N' scope tg ifs elt (Jf d o Y) A after σ H:=by
 refine⟨λi m σ' H'=>m=Y.length - i/\i<=Y.length/\Pv i σ' H',⟨_,rfl,Bx _,h0⟩,?_⟩;rintro i m σ' H' ⟨rfl,hi,p⟩;have q:=hl i σ' H' hi p
 by_cases aX:i < Y.length
 ·refine .inr ⟨⟨q,aX⟩,Pv<|i+1,λσ' H' p'=>⟨Y.length - (i+1),⋯,rfl,aX,p'⟩,λx H2 y=>?_⟩;obtain⟨e,p',ep,y⟩:=y;subst e y;exact hs i p' σ' _ ep p
 ·have e:i=Y.length:=⋯
  subst e;exact .inl ⟨⟨q,An _⟩,hd σ' H' p⟩
theorem v7(f:Str->Bool)(hz:zs.length < sizeLine)(ha:H a=some (.lst<|zs.map V.str))(hA:H A=none)
  (hg:∀ cl C æ ç ex v v0 H' R,R (σ++[some v]) H'->Eg ↥13 tg v (σ++[v0]) H' R)
  (hi:∀ cl C æ ç ex z ys T,T (f z) (upd H A<|.lst ys)->Ei ↥13 ifs (σ++[some<|.str z]) (upd H A<|.lst ys) T)
  (he:∀ cl C æ ç ex z H' R,R (V.str z) H'->Ev ↥13 elt (σ++[some<|.str z]) H' R) (q:after<|upd H A<|.lst<|(zs.filter f).map V.str) :
  lZ X N' scope tg ifs elt (pY X.K a) A after (σ++List.replicate 1 none) (upd H A<|.lst []):=by
 have ne:=bz ha hA;refine oY (xs:=zs.map V.str) (λk σ' H'=>(∃ v,σ'=σ++[v])/\H'=upd H A (.lst<|((zs.take k).filter f).map V.str)) ⟨⟨none,rfl⟩,by simp⟩ ?_ ?_ ?_
 ·rintro i σ' H' _ ⟨_,rfl⟩;exact au.of<|by rwa[aw ne]
 ·rintro i x σ' H' hx ⟨⟨v,rfl⟩,rfl⟩;rw[Ah,Az]at hx;obtain⟨z,v8,rfl⟩:=hx;intro cl C æ ç ex;refine hg cl C æ ç ex _ _ _ _ ?_;intro cl C æ ç ex;refine hi cl C æ ç ex z _ _ ?_;have e:(zs.take<|i+1).filter f=(zs.take i).filter f++(if f z=true then [z]else []):=by
   rw[Cj,v8,Cv]
   congr 1
   cases hf:f z <;> simp[hf]
  have hlen:((zs.take i).filter f).length<=zs.length:=Ch (Dz _ _)<|by rw[Br];omega
  by_cases hf:f z=true
  ·rw[BP hf];intro cl C æ ç ex;refine he cl C æ ç ex z _ _ ⟨_,az,by rw[Aa];omega,⟨_,rfl⟩,?_⟩;rw[uN,e,BP hf,Al];rfl
  ·rw[BL hf];refine⟨⟨_,rfl⟩,?_⟩;rw[e,BL hf,Bp]
 ·rintro σ' H' ⟨_,rfl⟩;have e2:zs.take (zs.map V.str).length=zs:=Cs (by simp);rwa[e2]
theorem mw(z:Str)(zs:Ð):tu (.str z) (zs.map V.str)=zs.contains z:=by
 unfold tu
 induction zs with
 | nil=>rfl
 | cons y r ih=>
  rw[Ba,Gf,ih,List.contains_cons]
  congr 1
  show c6 (.str y) (.str z)=(z == y)
  by_cases h:y=z
  ·subst h;simp[c6]
  ·have h':z≠y:=λq=>h q.symm;show(y == z)=(z == y);rw[beq_eq_false_iff_ne.mpr h,beq_eq_false_iff_ne.mpr h']
def my(zs:Ð):(zs.map V.str).all kD=true:=by
 rw[Ej];intro x hx;obtain⟨z,_,rfl⟩:=Ak.mp hx;rfl
def jN{e1 e2:Expr}{k:Nat}{pos:Pos}{t:Addr}{x y:V}(hc:X.calm=true)(ht:aQ X.K H t [x,y])(h:Eg X e1 x σ H λσ1 H1=>Eg X e2 y σ1 H1 R)
  (hn:(assignEach [e1,e2] X.env).length=2:=by rfl) (cW:(assignEach [e1,e2] X.env).findIdx? (·.1)=none:=by rfl)
  (j9:(assignEach [e1,e2] X.env).map (·.2)=assign e1 X.env :: (assignEach [e2] X.env).map (·.2):=by rfl) (tU:(assignEach [e2] X.env).map (·.2)=assign e2 X.env :: (assignEach [] X.env).map (·.2):=by rfl) :
  Eg X (.Tuple [e1,e2] k pos) (.ref t) σ H R:=
 F3 (OB hc (uV qi (uV qi OA tU) j9) hn cW) ⟨t,_,rfl,ht,rfl,_,_,rfl,h.mono λσ1 H1 h1=>⟨_,_,rfl,h1.mono λσ2 H2 q=>⟨rfl,q⟩⟩⟩
end
end L2
namespace PySem
variable{Q:Option Value->Shared->Prop}{name:Str}{xs:Array Value}{s:Shared}{E:Í}{A:Around}{w:World}{U:Program}
def getAttr?_miss_list{a:Addr}{o:Obj}{k:Nat}
  (hx:s.heap.get? a≈o) (hc:o.cls = .type "list") (jH:o.data = .seq xs k) (hd:o.dict=none) (v9:typeLookup (.type "list") name=pure none) (wa:(["__module__","__name__","__qualname__","__doc__","__annotations__"]:Ð).contains name=false) (hA:A.handled=none)
  (h:∀ h' tk e,Heap.NewExcOf s.heap h' e "AttributeError"->Q none {s with heap:=h',toks:=tk}) (hsz:name.length+100<=sizeLine:=by size_fits) :
  ↥1 (getAttr? (.ref a) name) Q E s:=by
 obtain⟨c,dct,dat,sl⟩:=o;simp only at hc jH hd;subst hc jH hd;obtain⟨hp,g,d,tk,os⟩:=s;have hT:∀ zE,(⟨hp,g,d,zE,os⟩:Shared).TypeIs (.ref a) "list":=λ_=>⟨_,hx,rfl⟩;have f1:=sub_AttributeError;have f3:=F.slot_list_getattribute.lookup;have f4:=F.slot_list_getattribute.bind<|.ref a;have f5:=am_list_getattr_none;unfold getAttr? getAttrBy? getAttrBy
 repeat (any_goals (first | assumption | exact hT _ | ((with_reducible show wpAny _ _ (call (Value.builtin "list.__getattribute__") _ _) _ _ _);refine PL F.slot_list_getattribute (hT _) am_entry_list_getattribute (F.args_list_getattribute_2 _ _) (meets_getattribute_miss_list a xs k sl name _ v9 wa hsz) ⟨hx,hA,λh' zE e j7=>?_⟩) | wp_step))
 obtain⟨t',u',he⟩:=j7.there;show wpAny _ _ (getattributeRaised _ _ _ _ _ _ _) _ _ _;unfold getattributeRaised
 repeat (any_goals (first | assumption | wp_step))
 exact h _ _ _ j7.of
namespace F
def bG:entryFor table "dict.update.loop" = some Builtin.«dict.update.loop»:=entryFor_of_tree<|by kernel_rfl
def aM:plainId "dict.update.loop" = true:=by decide +kernel
def gl:typeLookup (.type "list") "keys" = pure none:=by rw[SX,OJ];kernel_rfl
end F
variable{R:Result->Shared->Prop}{items:Ò}
section
variable{K:Type} [DecidableEq K] {knd:KeyKind U w K}  
def Jg(knd:KeyKind U w K)(h:Heap)(items:Ò)(g8:List<|K×Value):Prop:=
 items.length=g8.length/\∀(j:Nat) it,items[j]?≈it->∃ T key k v o n,it = .ref T/\g8[j]?=some (k,v)/\knd.is k key=true/\h.get? T≈o/\o.cls = .type "tuple"/\o.data = .seq #[key,v] n
theorem j9w(Y:List<|K×Value)(k:K)(v:Value):(stored Y k v).length<=Y.length+1:=by
 unfold stored
 split
 ·rw[Aa];omega
 ·rw[Ag];simp
theorem k6k{hB:Heap}{d I l:Addr}{g8:List (K×Value)}(hd:hB.objs.size<=d)(hI:hB.objs.size<=I)(Jh:d≠I)(hl:hB.IsList l items.toArray)(hp:Jg knd hB items g8)(hn:items.length < sizeLine)(hh:A.handled=none) :
  ∀(k i:Nat) (s:Shared) (acc:List<|K×Value),items.length - i=k->i<=items.length->(∀ b o,hB.get? b≈o->s.heap.get? b≈o)->s.heap.IsListIter I l i->s.heap.DictOf knd d acc->acc.length<=i ->
   (∀ h' tk,(∀ b o,b≠I->b≠d->s.heap.get? b≈o->h'.get? b≈o)->h'.DictOf knd d ((g8.drop i).foldl (λa p=>stored a p.1 p.2) acc)->R (.ok<|.ret .none) {s with heap:=h',toks:=tk}) ->
   codeAny (model U w) A (.builtin "dict.update.loop" ⟨[.ref d,.ref I,rawInt i,.none],[]⟩) R s:=by
 have nb:∀ b o,hB.get? b≈o->b≠I/\b≠d:=λb o e=>⟨Bw<|Bq (Av e) hI,Bw<|Bq (Av e) hd⟩;intro k
 induction k with
 | zero=>
  intro i s acc hk hi g9 cW hD cq hR;have qt:i=items.length:=⋯
  refine FT F.bG ?_;rw[FP F.aM _];show wpAny _ A.in1 (pyNext (.ref I) >>= _) _ _ s;have iM:s.heap.IsList l items.toArray:=let ⟨o,ho,r⟩:=hl;⟨o,g9 _ _ ho,r⟩
  refine BJ (wpAny_pyNext_list_end hh cW iM (by simp;omega) λh' eb=>?_);show wpAny _ A.in1 (Builtin.Dict.addKeywords d [] >>= _) _ _ _;refine BJ<|BK<|BK ?_;refine hR h' s.toks (λb o hb _ e=>eb b o hb e) ?_;rw[List.drop_eq_nil_of_le<|by have:=hp.1;omega];exact hD.extBut eb Jh
 | succ k ih=>
  intro i s acc hk hi g9 cW hD cq hR;have aX:i < items.length:=⋯
  have hx:items[i]?=some items[i]:=Ab aX;obtain⟨T,key,kk,v,o,n,e1,e2,e3,e4,e5,e6⟩:=hp.2 i _ hx;rw[e1]at hx;refine FT F.bG ?_;rw[FP F.aM _];show wpAny _ A.in1 (pyNext (.ref I) >>= _) _ _ s;have iM:s.heap.IsList l items.toArray:=let ⟨o,ho,r⟩:=hl;⟨o,g9 _ _ ho,r⟩
  refine BJ (wpAny_pyNext_list_item cW iM (x:= .ref T) hx⁻¹ λh' dX sb=>?_);have eT:h'.get? T≈o:=(sb.2 T (nb T o e4).1).trans<|g9 _ _ e4;refine BJ<|CJ<|BJ<|wpAny_tryCatch ?_;unfold Builtin.Dict.pairItems;refine BJ<|JR (T:= "tuple") ⟨o,eT,e5⟩ ?_;rw[BP<|∅];refine BJ<|KZ (s:={s with heap:=h'}) eT e6<|BK ?_;show wpAny _ _ (holding [key,v]<|dictSet d key v) _ _ _;refine CJ (wpAny_dictSet_pairs (knd:=knd) (s:={s with heap:=h'}) (k:=kk) e3 (hD.extBut sb.extBut Jh) (λh2 D2 RC=>?_)<|⋯);refine BK ⟨JH F.aM _,?_⟩;have RE:∀ b o,b≠I->b≠d->s.heap.get? b≈o->h2.get? b≈o:=λb o h1 h3 e=>(RC.2 b h3).trans<|(sb.2 b h1).trans e;refine ih (i+1) {s with heap:=h2,toks:=s.toks+1} (stored acc kk v) ⋯ aX (λb o e=>RE b o (nb b o e).1 (nb b o e).2<|g9 _ _ e) (dX.extBut RC.extBut<|CK Jh) D2 (by have:=j9w acc kk v;omega) λh3 tk k3 D3=>?_;refine hR h3 tk (λb o h1 qm e=>k3 b o h1 qm<|RE b o h1 qm e) ?_;have e7:g8.drop i=(kk,v) :: g8.drop (i+1):=by
   obtain⟨hj,e8⟩:=Ac.mp e2;rw[Gd hj,e8]
  rwa[e7]
def j7c{Q:Í}{l:Addr}{ol:Obj}{nl:Nat}{g8:List (K×Value)}(ho:s.heap.get? l≈ol)(hc:ol.cls = .type "list")(nD:ol.dict=none)(Ji:ol.data = .seq items.toArray nl)(hp:Jg knd s.heap items g8)(hn:items.length < sizeLine)(hh:A.handled=none)
  (h:∀ h' tk,(∀ b o,s.heap.get? b≈o->h'.get? b≈o)->h'.DictOf knd ↑s (g8.foldl (λa p=>stored a p.1 p.2) [])->Q (.ref ↑s) {s with heap:=h',toks:=tk}) :
  ↥1 (call (.type "dict") [.ref l]) Q E s:=by
 refine callType_codes (Q₁:=λobj À=>obj = .ref ↑s/\À={s with heap:=s.heap.push {cls:= .type "dict",data:= .dict #[]}}) F.kt_called_dict (F.kt_typeCall_dict_1 _) F.entry_dict_init (kt_code_dict_new _ ⟨rfl,rfl⟩) ?_;rintro obj À ⟨rfl,rfl⟩;have fm:(s.heap.push {cls:= .type "dict",data:= .dict #[]}).DictOf knd ↑s []:=Heap.DictOf.new s.heap;have dU:(s.heap.push {cls:= .type "dict",data:= .dict #[]}).get? l≈ol:=Aj _ ho;refine⟨fm.typeIs,F.args_dict_init_2 _ _,?_⟩;unfold Builtin.«dict.__init__»;refine BJ ?_;unfold Builtin.Dict.selfAndRest;refine BJ<|wpAny_notOrdered_dict fm.typeIs ?_;show wpAny _ _ (pure (↑s,[Value.ref l])) _ _ _;refine BK ?_;show wpAny _ _ (Builtin.Dict.updateFrom "dict.__init__" ↑s (.ref l) [] .none) _ _ _;unfold Builtin.Dict.updateFrom;refine BJ<|JR (T:= "list") ⟨ol,dU,hc⟩ ?_;rw[BP<|∅];refine BJ (getAttr?_miss_list dU hc Ji nD F.gl ∅ (by exact hh) λh' tk e ne=>?_);rw[BP (show(none:Option Value).isNone=true from rfl)];have kp:∀ b o,s.heap.get? b≈o->h'.get? b≈o:=λb o e=>ne.keeps b o<|Aj _ e;refine BJ<|HX ?_;have hL:h'.IsList l items.toArray:=⟨ol,kp _ _ ho,hc,nl,Ji⟩;refine BJ<|RJ hL ?_;refine BK ⟨JH F.aM _,?_⟩;have RF:h'.DictOf knd ↑s []:=let ⟨o,es,ep,ho,r⟩:=fm;⟨o,es,ep,ne.keeps _ _ ho,r⟩
 have aX:↑s < h'.objs.size:=let ⟨o,es,ep,ho,r⟩:=RF;Av ho
 refine k6k (hB:=s.heap) (d:=↑s) (I:=h'.objs.size) (l:=l) (An _) (Cy aX) (Bw aX) ⟨ol,ho,hc,nl,Ji⟩ hp hn (by exact hh) _ 0 _ [] rfl (Bx _) (λb o e=>Aj _<|kp b o e) ⟨_,At _ rfl,rfl,rfl⟩ (RF.push _) (Bx _) λh2 tk2 k2 D2=>?_;refine⟨rfl,h h2 tk2 (λb o e=>k2 b o (Bw<|Av<|kp b o e) (Bw<|Av e)<|Aj _<|kp b o e) D2⟩
end
end PySem
namespace L2
open PySem PySem.Spec PyProof.Rows
variable{s:Shared}{H:Hp}{σ:St}{O:Ï}{X:Cx}{Y:List (Key×V)}
theorem k38:∀{ps}{acc}{rs},KV ps acc->KV Y rs->KV (Y.foldl (λa p=>putK a p.1 p.2) ps) (rs.foldl (λa p=>stored a p.1 p.2) acc):=by
 induction Y with
 | nil=>intro ps acc rs h g;cases g;exact h
 | cons p r ih=>
  intro ps acc rs h g;cases g with
  | @cons _ q _ r' hq hr=>
   obtain⟨e1,e2⟩:=hq;rw[Dh,Dh];refine ih ?_ hr;rw[<- e1];exact h.put p.1 e2
theorem RH{P:Program}{w:World}{h:Heap}:∀{Y:List (Key×V)} {ts:↥9},ts.length=Y.length->(∀(j:Nat) t kv,ts[j]?≈t->Y[j]?≈kv->∃ key v o m,(bX P w).is kv.1 key=true/\RelV kv.2 v/\h.get? t≈o/\o.cls = .type "tuple"/\o.data = .seq #[key,v] m) ->
  ∃ rs:List<|Key×Value,KV Y rs/\∀(j:Nat) t,ts[j]?≈t->∃ key k v o m,rs[j]?=some (k,v)/\(bX P w).is k key=true/\h.get? t≈o/\o.cls = .type "tuple"/\o.data = .seq #[key,v] m
 | [],ts,hl,_=>by
  have:ts=[]:=Bv.mp hl;subst this;exact⟨[],.nil,λj t h=>by simp at h⟩
 | kv :: r,[],hl,_=>by simp at hl
 | kv :: r,t :: ts,hl,hp=>by
  obtain⟨key,v,o,m,q1,q2,q3,q4,q5⟩:=hp 0 t kv rfl rfl;obtain⟨rs,hk,hr⟩:=RH hl⁻¹ λj t kv h1 h2=>hp (j+1) t kv h1⁻¹ h2⁻¹;refine⟨(kv.1,v) :: rs,.cons ⟨rfl,q2⟩ hk,λj t' ht=>?_⟩;cases j with
  | zero=>
   cases ht;exact⟨key,kv.1,v,o,m,rfl,q1,q3,q4,q5⟩
  | succ j=>
   obtain⟨key,k,v,o,m,e,z⟩:=hr j t' ht⁻¹;exact⟨key,k,v,o,m,e⁻¹,z⟩
theorem j8f(hc:X.calm=true):gR X (.type "dict") (λxs H Q=>∃(a:Addr) (ts:↥9) (Y:List<|Key×V),xs=[.ref a]/\H a=some (.lst<|↥8)/\ts.length=Y.length/\ts.length < sizeLine/\(∀(j:Nat) t kv,ts[j]?≈t->Y[j]?≈kv->H t≈.tup [kV kv.1,kv.2]) /\
  ∀ d,H d=none->Q (.ref d) (upd H d<|.dK<|Y.foldl (λa p=>putK a p.1 p.2) [])):=by
 intro O s σ H xs us Q I r h;obtain⟨a,ts,Y,rfl,hH,hl,hz,ht,q⟩:=h;obtain⟨u,rfl,ru⟩:=vals1 r;cases (show u=Value.ref a from ru);obtain⟨z,è,n,rv,e⟩:=(show aB X.U X.w H s.heap a (.lst<|↥8)from I.aH a _ hH);have me:=rv.length;rw[Aa]at me;have qW:∀(j:Nat) t,ts[j]?≈t->è[j]?≈.ref t:=λj t hj=>by
  obtain⟨u,hu,ru⟩:=rv.get (i:=j) (x:= .ref t) (by rw[Ah,hj];rfl);cases (show u=Value.ref t from ru);exact hu
 have pair:∀(j:Nat) t kv,ts[j]?≈t->Y[j]?≈kv->∃ key v o m,(bX X.U X.w).is kv.1 key=true/\RelV kv.2 v/\s.heap.get? t≈o/\o.cls = .type "tuple"/\o.data = .seq #[key,v] m:=λj t kv h1 h2=>by
  obtain⟨z2,d7,iy,o,eo,co,m,dm⟩:=(show aB X.U X.w H s.heap t (.tup [kV kv.1,kv.2])from I.aH t _<|ht j t kv h1 h2);obtain⟨key,v,e3,r1,r2⟩:=iy.two;refine⟨key,v,o,m,oJ r1,r2,eo,co,?_⟩;rw[dm,e3]
 obtain⟨rs,hk,hr⟩:=RH hl pair;have wc:=hk.length;have hP:Jg (bX X.U X.w) s.heap è rs:=by
  refine⟨⋯,λj it hj=>?_⟩;have oZ:j < ts.length:=by have:=(Ac.mp hj).1;omega
  have RO:ts[j]?=some ts[j]:=Ab oZ;have e2:=qW j _ RO;rw[hj]at e2;obtain⟨key,k,v,o,m,q1,q2,q3,q4,q5⟩:=hr j _ RO;exact⟨ts[j],key,k,v,o,m,Option.some.inj e2,q1,q2,q3,q4,q5⟩
 refine j7c (knd:=bX X.U X.w) e rfl rfl rfl hP ⋯ (I.ok.hd hc) λh' tk kp D=>?_;have hlen:∀(l:List<|Key×V) (a:List<|Key×V),(l.foldl (λa p=>putK a p.1 p.2) a).length<=a.length+l.length:=by
  intro l
  induction l with
  | nil=>intro a;exact An _
  | cons p r ih=>
   intro a;rw[Dh,As];have h1:=ih<|putK a p.1 p.2;have h2:=jD a p.1 p.2;omega
 have hb:=I.big;refine⟨.ref ↑s,_,I.laid (t':=tk) kp (An _) (show aB X.U X.w _ h' _ (.dK<|Y.foldl (λa p=>putK a p.1 p.2) []) from⟨?_,?_,_,k38 (Y:=Y) (ps:=[]) (acc:=[]) .nil hk,D⟩),rfl,q _<|I.aH.fresh<|An _⟩
 ·have:=hlen Y [];rw[Er]at this;omega
 ·exact beq_eq_false_iff_ne.mpr<|Cz hb
variable{ch:↥9}{a:Addr}{tp:Pos}{elts:Ó}{K:PySem.W.Frag}{w:World}
section
variable{h':Heap}
def Inv.bU{t':Nat}(I:↥3)(hf:∀ b∈ch,cr X O H b)(k:∀ b o,b∉ch->s.heap.get? b≈o->h'.get? b≈o):Inv X O σ H {s with heap:=h',toks:=t'}:=by
 have uT:∀ b u,H b≈u->b∉ch:=λb u e z=>by rw[(hf b z).1]at e;cases e
 refine I.step (λb hb=>?_) (λb o _ _ hc e _=>k b o hc e) (λb o _ _ hc e _=>⟨o.slots,k b o hc e⟩) (λ_ _ _ _ n=>n)
  (λb o hc e=>⟨o,k b o hc e⟩) (λ_ _ e=>e) (λ_ _ _ e=>e) (λb ps e=>⟨#[],by rw[e];simp⟩) (λm hm=>?_) (λb u e=>?_) I.bare
 ·obtain⟨f0,f1,f2,f3,f4,f5⟩:=hf b hb;exact⟨f3,f1,f4,f5⟩
 ·obtain⟨o,es,ep,ho,r⟩:=hm;exact⟨o,es,ep,k _ o (λz=>(hf _ z).2.1 rfl) ho,r⟩
 ·refine(I.aH b u e).iE (λc v hc q=>k c v ?_ q) (λ_ q=>q) λ_ _ q=>q
  rcases hc with z | z
  ·rw[z];exact uT b u e
  ·exact uT c _ z
def AI(K:PySem.W.Frag)(a b:Addr):It:=
  ⟨λi H => ∃ xs ys x y, au K H a xs ∧ au K H b ys ∧ xs[i]? = some x ∧ ys[i]? = some y,
   λi H v H'=>∃ T x y,H T=none/\v = .ref T/\H'=upd H T (.tup [x,y])/\(∀ xs,au K H a xs->xs[i]?≈x)/\∀ ys,au K H b ys->ys[i]?≈y,
   λi H=>∃ xs ys,au K H a xs/\au K H b ys/\(xs.length<=i\/ys.length<=i)⟩
def RU(m a b:Addr)(i:Nat)(h:Heap):Prop:=
 IsZip h (m+4) (m+2) (m+3) .none/\IsPair h (m+2) (.ref m) (.ref<|m+1)/\(∃ x y,IsPair h (m+3) x y)/\h.IsListIter m a i/\h.IsListIter (m+1) b i
def RY{h:Heap}{m b:Addr}{i:Nat}{xs ys:Array Value}(z:RU m a b i h)(ha:h.IsList a xs)(hb:h.IsList b ys):ZipApart (m+4) (m+2) (m+3) m (m+1) a b:=by
  obtain⟨z1,z2,⟨x,y,z3⟩,⟨o4,e4,c4,_⟩,⟨o5,e5,c5,_⟩⟩:=z;have cls:∀{l:Addr} {vs:Array Value} {c:Addr} {o:Obj},h.IsList l vs->h.get? c≈o->o.cls ≠ .type "list"->l≠c:=λhl hc hn e=>by
    obtain⟨ol,vM,jL,_⟩:=hl;rw[e,hc]at vM;cases vM;exact hn jL
  exact { TIz := by simp, TOz := by simp, i1z := by simp, i2z := by simp, TITO := by simp, TIi1 := by simp, TIi2 := by simp, TOi1 := by simp, TOi2 := by simp, i12 := by simp
          l1z:=cls ha z1 (by show Value.type "zip"≠Value.type "list";decide),l1TO:=cls ha z3 (by show Value.type "tuple"≠Value.type "list";decide),l1i1:=cls ha e4 (by rw[c4];decide),l1i2:=cls ha e5<|by rw[c5];decide
          l2z:=cls hb z1 (by show Value.type "zip"≠Value.type "list";decide),l2TO:=cls hb z3 (by show Value.type "tuple"≠Value.type "list";decide),l2i1:=cls hb e4 (by rw[c4];decide),l2i2:=cls hb e5 (by rw[c5];decide)}
theorem q2f{P:Program}{k:Nat}(m a b:Addr):Turn P w K (.Tuple elts k tp) (AI K a b) [m,m+1,m+2,m+3,m+4] (m+4) (RU m a b) where
 mem:=by simp
 obj:=λi h st c hc=>by
  obtain⟨z1,z2,⟨x,y,z3⟩,⟨o4,e4,c4,d4⟩,⟨o5,e5,c5,d5⟩⟩:=st;simp only[Ai,Cc,GQ]at hc
  rcases hc with rfl | rfl | rfl | rfl | rfl
  ·exact⟨_,e4,λv z=>by rw[d4]at z;cases z⟩
  ·exact⟨_,e5,λv z=>by rw[d5]at z;cases z⟩
  ·exact⟨_,z2,λv z=>by cases z⟩
  ·exact⟨_,z3,λv z=>by cases z⟩
  ·exact⟨_,z1,λv z=>by cases z⟩
 keep:=λi h h' st kp=>by
  obtain⟨z1,z2,⟨x,y,z3⟩,⟨o4,e4,r4⟩,⟨o5,e5,r5⟩⟩:=st;exact⟨kp _ (by simp) _ z1,kp _ (by simp) _ z2,⟨x,y,kp _ (by simp) _ z3⟩,⟨o4,kp _ (by simp) _ e4,r4⟩,⟨o5,kp _ (by simp) _ e5,r5⟩⟩
 item:=by
  intro X hP hw hK hc i O s σ H E I hf st hg;subst hP hw hK;obtain⟨xs,ys,x,y,fA,AJ,hx,hy⟩:=hg;obtain⟨kQ,nF,p1,qX⟩:=I.list fA;obtain⟨d7,iy,p2,AK⟩:=I.list AJ;obtain⟨u1,eX,Jj⟩:=nF.get hx;obtain⟨u2,tV,ru2⟩:=iy.get hy;have D:=RY st p1.isList p2.isList;obtain⟨z1,z2,⟨x0,y0,z3⟩,z4,z5⟩:=id st;refine wpAny_pyNext_zip_item D z1 z2 z3 z4 z5 p1.isList p2.isList eX⁻¹ tV⁻¹ λh' a1 a2 a3 a4 a5 a6 kp=>?_;have hT:=I.aH.fresh<|An _;have nT:∀ c∈[m,m+1,m+2,m+3,m+4],c≠↑s:=λc bj=>by
   have:∃ o,s.heap.get? c≈o:=by
    obtain⟨o4,e4,_⟩:=z4;obtain⟨o5,e5,_⟩:=z5;simp only[Ai,Cc,GQ]at bj
    rcases bj with rfl | rfl | rfl | rfl | rfl
    ·exact⟨_,e4⟩
    ·exact⟨_,e5⟩
    ·exact⟨_,z2⟩
    ·exact⟨_,z3⟩
    ·exact⟨_,z1⟩
   obtain⟨o,e⟩:=this;exact Bw<|Av e
  have I1:Inv X O σ (upd H ↑s<|.tup [x,y]) {s with heap:=s.heap.push {cls:= .type "tuple",data:= .seq #[u1,u2]}}:=
   I.laid (t':=s.toks) (λb o e=>Aj _ e) (An _) (show aB X.U X.w _ _ _ (.tup [x,y]) from⟨Z2,[u1,u2],.cons Jj<|.cons ru2 .nil,⟨_,At _ rfl,rfl,_,rfl⟩⟩)
  have f1:∀ c∈[m,m+1,m+2,m+3,m+4],cr X O (upd H ↑s<|.tup [x,y]) c:=λc bj=>⟨by rw[aw<|nT c bj];exact(hf c bj).1,(hf c bj).2⟩;have qF:∀ c o,c∉[m,m+1,m+2,m+3,m+4]->(s.heap.push {cls:= .type "tuple",data:= .seq #[u1,u2]}).get? c≈o->h'.get? c≈o:=λc o bj e=>by
   rcases He e with ⟨ec,eo⟩ | e'
   ·rwa[ec,eo]
   ·simp only[Ai,Cc,GQ,not_or]at bj;exact kp c o bj.2.2.2.2 bj.2.2.2.1 bj.1 bj.2.1 e'
  have I2:=Inv.bU (h':=h') (t':=s.toks) I1 f1 qF;refine⟨_,rfl,wpAny_letOwnedTupleGo_zip (s:={s with heap:=h'}) a1 λh2 b1 sb=>?_⟩;have z2':IsPair h' (m+2) (.ref m) (.ref<|m+1):=kp _ _ (by simp) (by simp) (by simp) (by simp) z2;have AO:∀ c o,c∉[m+4]->h'.get? c≈o->h2.get? c≈o:=λc o bj e=>(sb.2 c<|bj⁻¹).trans e;have I3:=Inv.bU (h':=h2) (t':=s.toks) I2 (ch:=[m+4]) (λc bj=>f1 c<|by simp at bj;simp[bj]) AO;refine⟨.ref ↑s,_,I3,rfl,⟨_,x,y,hT,rfl,rfl,λzs hz=>by rw[I.cY hz fA];exact hx,λzs hz=>by rwa[I.cY hz AJ]⟩,?_,λc bj=>(f1 c bj).1⟩;have sx:∀ c o,c≠m+4->h'.get? c≈o->h2.get? c≈o:=λc o bj e=>(sb.2 c bj).trans e;obtain⟨o3,e3,r3⟩:=a3;obtain⟨o4,e4,r4⟩:=a4;exact⟨b1,sx _ _ (by simp) z2',⟨u1,u2,sx _ _ (by simp) a2⟩,⟨o3,sx _ _ (by simp) e3,r3⟩,⟨o4,sx _ _ (by simp) e4,r4⟩⟩
 done:=by
  intro X hP hw hK hc i O s σ H E I hf st hg;subst hP hw hK;obtain⟨xs,ys,fA,AJ,we⟩:=hg;obtain⟨kQ,nF,p1,qX⟩:=I.list fA;obtain⟨d7,iy,p2,AK⟩:=I.list AJ;have l1:=nF.length;have l2:=iy.length;have D:=RY st p1.isList p2.isList;obtain⟨z1,z2,⟨x0,y0,z3⟩,z4,z5⟩:=id st;refine wpAny_pyNext_zip_end (I.ok.hd hc) D z1 z2 z3 z4 z5 p1.isList p2.isList ?_ λh' kp=>⟨rfl,I.bU (t':=s.toks) (ch:=[m,m+1,m+2,m+3,m+4]) hf λc o bj e=>?_⟩
  ·rcases we with h | h
   ·exact .inl<|by simp;omega
   ·exact .inr<|by simp;omega
  ·simp only[Ai,Cc,GQ,not_or]at bj;exact kp c o bj.2.2.2.2 bj.2.2.2.1 bj.1 bj.2.1 e
 self:=λ_ _ _ _ _ st h=>wpAny_pyIter_zip st.1 h
end
def Jk(K:PySem.W.Frag)(ta:TA):TI:=λσ H R=>ta σ H λvs H1=>∃ a b,vs=[.ref a,.ref b]/\(∃ xs,au K H1 a xs)/\(∃ ys,au K H1 b ys)/\R (AI K a b) H1
theorem R0{k:Nat}{a b:Expr}{ta:TA}{p pos:Pos}(hg:Gl X "zip")(hm:X.mg "zip" = none)(ha:PA X [a,b] ta)(hs:starEach [a,b] X.env=[(false,eval a X.env),(false,eval b X.env)]:=by rfl)(tU:starEach [b] X.env=[(false,eval b X.env)]:=by rfl) :
  PI X (.Tuple elts k tp) (.Call (.Name "zip" p) [a,b] [] pos) (Jk X.K ta):=by
 intro O s σ H R I h;refine Call_ (mQ I hg hm boot_zip<|IK (aO (ha pos O s σ H _ I h) λus s1 ⟨vs,H1,I1,r1,q1⟩=>?_) (by rw[hs,tU])<|by rw[tU];rfl);obtain⟨x,y,e,⟨xs,hx⟩,⟨ys,hy⟩,q⟩:=q1;subst e;obtain⟨u,v,rfl,ru,rv⟩:=r1.two;cases (show u=Value.ref x from ru);cases (show v=Value.ref y from rv);obtain⟨kQ,nF,p1,qX⟩:=I1.list hx;obtain⟨d7,iy,p2,AK⟩:=I1.list hy;refine call_zip_2 p1.isList p2.isList λh' a1 a2 a3 a4 a5 a6 kp=>?_;refine wpAny_pyIter_zip a1 ?_;refine⟨↑s1+4,[↑s1,↑s1+1,↑s1+2,↑s1+3,↑s1+4],_,_,H1,rfl,I1.kept kp,q2f ↑s1 x y,⟨a1,a2,⟨_,_,a3⟩,a4,a5⟩,λb hb=>?_,q⟩;have hle:↑s1<=b:=by
  simp only[Ai,Cc,GQ]at hb
  rcases hb with rfl | rfl | rfl | rfl | rfl <;> omega
 exact I1.jA hle<|I1.aH.fresh hle
def tW(elt t1 i1:Expr)(f1:Ó)(t2 i2:Expr)(f2:Ó)(scope:Scope)(pos:Pos)(acc:Value)(env:Env):Sem Unit:=do
 let x <- eval i2 env
 standAt i2.pos
 let x <- foldedSetIterable i2 env x
 let _ <- runOwn (.compStart (.ListComp elt [⟨t1,i1,f1,0⟩,⟨t2,i2,f2,0⟩] scope pos) 1 (<- holding [x]<|pyIter x) acc env) env
variable{env:Env}{acc:Value}{scope:Scope}{Q:St->Hp->Prop}{wi:TI}
section
variable{elt t1 i1 t2 i2:Expr}{f1 f2:Ó}{pos:Pos}
def q7k:Clause (.ListComp elt [⟨t1,i1,f1,0⟩,⟨t2,i2,f2,0⟩] scope pos) 0 t1 i1 f1 acc env (tW elt t1 i1 f1 t2 i2 f2 scope pos acc env):=⟨rfl,λ_=>rfl,λ_ _ _=>rfl,λ_ _=>rfl,λ_ _ _=>rfl,λ_ _=>rfl,λit=>by
 unfold tW;simp only[bind_assoc,pure_bind];rfl⟩
def q7s:Clause (.ListComp elt [⟨t1,i1,f1,0⟩,⟨t2,i2,f2,0⟩] scope pos) 1 t2 i2 f2 acc env (emit elt acc env):=⟨rfl,λ_=>rfl,λ_ _ _=>rfl,λ_ _=>rfl,λ_ _ _=>rfl,λ_ _=>rfl,λ_=>rfl⟩
def q47(gH:X.xe=λ_ _=>False)(hc:X.calm=true)(hi:PI X t2 i2 wi)(h:wi σ H λJ H1=>iK X t2 f2 (emit elt acc X.env) J Q σ H1)
  (hs:∀ x,foldedSetIterable i2 X.env x=pure x:=by intro _;rfl):l7 X (tW elt t1 i1 f1 t2 i2 f2 scope pos acc X.env) σ H Q:=by
 refine⟨λO s I=>?_⟩;unfold tW;refine BJ<|aO (hi O s σ H _ I h) λx s1 h1=>?_;refine BJ<|GX<|BJ<|JF (hs x)<|BJ<|CJ<|CW h1 (λoF s2 h2=>?_) λ_ _ e=>e;obtain⟨it,fp,tn,J,H2,e,I2,T,gE,wg,q⟩:=h2;subst e;refine BJ<|wpAny_runOwn ?_;exact zu gH hc q7s I2 T gE wg q λσ' H' s' I' q'=>BK ⟨σ',H',I',q'⟩
def q3i{Q:VK}(sc:Scope)(N N':Ð)(n:Nat)(hi:PI X t1 i1 wi)
  (h:wi σ H λJ H1=>∀ D,H1 D=none->∀ cl C æ ç ex,iK ↥13 t1 f1 (tW elt t1 i1 f1 t2 i2 f2 scope pos (.ref D)<|compEnvC scope cl C X.env) J (λ_ H'=>Q (.ref D) H') (σ++List.replicate n none)<|upd H1 D<|.lst [])
  (hc:X.calm=true:=by rfl) (jI:X.env.scope=sc:=by rfl) (hN:X.N=N:=by rfl) (hk:ng sc scope N N'=true:=by decide +kernel) (hl:N'.length=N.length+n:=by rfl)
  (hs:∀ x,foldedSetIterable i1 X.env x=pure x:=by intro _;rfl):Ev X (.ListComp elt [⟨t1,i1,f1,0⟩,⟨t2,i2,f2,0⟩] scope pos) σ H Q:=
 AH (u0:=λ_=> .lst []) (λ_ _ _ h=>DN h<|by show(0:Nat)<=sizeLine;exact Bx _) (λ_ _ _=>⟨Bx _,[],0,.nil,At _ rfl⟩) (λ_ _=>q7k) rfl rfl sc N N' n hi h hc jI hN hk hl hs
end
variable{E:Í}{A:Around}
section
variable{y v:V}{u r:Value}
theorem R1{H':Hp}{Q:Unit->Shared->Prop}(hu:A.units+1 < cLine)(I:↥3)(g:cw H a y v H')(ry:RelV y u)(rv:RelV v r)(h:∀ s',Inv X O σ H' s'->Q () s') :
  wpAny (model X.U X.w) A (dictSet a u r) Q E s:=by
 rcases g with ⟨Y,k,e,ey,l,eH⟩ | ⟨Y,k,b,e,ey,eb,l,eH⟩
 ·subst ey eH;obtain⟨z,hd,vs,rel,dd⟩:=vy I.aH e;have hz:vs.length<=sizeLine:=by rwa[<- rel.length]
  have hl:(putK Y k v).length<=sizeLine:=by have:=jD Y k v;omega
  refine wpAny_dictSet_pairs (oJ ry) dd λh' j5 hs=>h _ ?_;have he:∃ q,h'.get? a≈q:=let ⟨q,_,_,hq,_⟩:=j5;⟨q,hq⟩
  exact lX I (by rw[e];exact True.intro) hs he<|FH hl hd (rel.put k rv) j5
 ·subst ey eH;cases (show u=Value.ref b from ry);obtain⟨z,hd,xs,rel,dd⟩:=Py I.aH e;have hz:xs.length<=sizeLine:=by rwa[<- Paired.length rel]
  have hl:(putK Y k v).length<=sizeLine:=by have:=jD Y k v;omega
  have room:(tupleKind<|bX X.U X.w).room A:=by first | exact hu | exact Nat.lt_of_succ_lt hu | exact QT (Es _) hu
  refine wpAny_dictSet_heap room (lW I.aH eb) dd λh' j5 hs=>h _ ?_;obtain⟨q,es,ep,hq,h2,h3,h4,_,h5⟩:=j5;refine lX I (by rw[e];exact True.intro) hs ⟨q,hq⟩ ⟨hl,hd,_,(rel.put k eb rv).keeps λc ys ec=>?_,q,es,ep,hq,h2,h3,h4,h5⟩;rwa[aw<|cf ec e λz=>nomatch z]
end
def nG(k v:Expr)(acc:Value)(env:Env):Sem Unit:=do
 let kv <- eval k env
 let vv <- holding [kv]<|eval v env
 match acc with
 | .ref d=>do
  standAt {k.pos with endLine:=v.pos.endLine,endCol:=v.pos.endCol}
  holding [kv,vv] (dictSet d kv vv)
 | _=>unsupported "internal:dictcomp"
def tX(k v t1 i1:Expr)(f1:Ó)(t2 i2:Expr)(f2:Ó)(scope:Scope)(pos:Pos)(acc:Value)(env:Env):Sem Unit:=do
 let x <- eval i2 env
 standAt i2.pos
 let x <- foldedSetIterable i2 env x
 let _ <- runOwn (.compStart (.DictComp k v [⟨t1,i1,f1,0⟩,⟨t2,i2,f2,0⟩] scope pos) 1 (<- holding [x]<|pyIter x) acc env) env
variable{D:Addr}
section
variable{k v t1 i1 t2 i2:Expr}{f1 f2:Ó}{pos:Pos}
def q6b:Clause (.DictComp k v [⟨t1,i1,f1,0⟩] scope pos) 0 t1 i1 f1 acc env (nG k v acc env):=⟨rfl,λ_=>rfl,λ_ _ _=>rfl,λ_ _=>rfl,λ_ _ _=>rfl,λ_ _=>rfl,λit=>by
 unfold nG;cases acc <;> first | rfl | (simp only[bind_assoc,pure_bind];rfl)⟩
def q4l:Clause (.DictComp k v [⟨t1,i1,f1,0⟩,⟨t2,i2,f2,0⟩] scope pos) 0 t1 i1 f1 acc env (tX k v t1 i1 f1 t2 i2 f2 scope pos acc env):=⟨rfl,λ_=>rfl,λ_ _ _=>rfl,λ_ _=>rfl,λ_ _ _=>rfl,λ_ _=>rfl,λit=>by
 unfold tX;simp only[bind_assoc,pure_bind];rfl⟩
def q24:Clause (.DictComp k v [⟨t1,i1,f1,0⟩,⟨t2,i2,f2,0⟩] scope pos) 1 t2 i2 f2 acc env (nG k v acc env):=⟨rfl,λ_=>rfl,λ_ _ _=>rfl,λ_ _=>rfl,λ_ _ _=>rfl,λ_ _=>rfl,λit=>by
 unfold nG;cases acc <;> first | rfl | (simp only[bind_assoc,pure_bind];rfl)⟩
def R3(hu:X.A.units+1 < cLine)(h:Ev X k σ H λy H1=>Ev X v σ H1 λx H2=>∃ H3,cw H2 D y x H3/\Q σ H3):l7 X (nG k v (.ref D) X.env) σ H Q:=by
 refine⟨λO s I=>?_⟩;unfold nG;refine BJ<|aO (h.run O s I) λkv s1 ⟨y,H1,I1,r1,h1⟩=>?_;refine BJ<|CJ<|aO (h1.run O s1 I1) λvv s2 ⟨x,H2,I2,r2,H3,dp,q⟩=>?_;show wpAny _ _ (standAt _ >>= λ_=>holding [kv,vv]<|dictSet D kv vv) _ _ _;exact BJ<|GX<|CJ<|R1 hu I2 dp r1 r2 λs' I'=>⟨σ,H3,I',q⟩
def k84(gH:X.xe=λ_ _=>False)(hc:X.calm=true)(hi:PI X t2 i2 wi)(h:wi σ H λJ H1=>iK X t2 f2 (nG k v acc X.env) J Q σ H1)
  (hs:∀ x,foldedSetIterable i2 X.env x=pure x:=by intro _;rfl):l7 X (tX k v t1 i1 f1 t2 i2 f2 scope pos acc X.env) σ H Q:=by
 refine⟨λO s I=>?_⟩;unfold tX;refine BJ<|aO (hi O s σ H _ I h) λx s1 h1=>?_;refine BJ<|GX<|BJ<|JF (hs x)<|BJ<|CJ<|CW h1 (λoF s2 h2=>?_) λ_ _ e=>e;obtain⟨it,fp,tn,J,H2,e,I2,T,gE,wg,q⟩:=h2;subst e;refine BJ<|wpAny_runOwn ?_;exact zu gH hc q24 I2 T gE wg q λσ' H' s' I' q'=>BK ⟨σ',H',I',q'⟩
def R5{Q:VK}(sc:Scope)(N N':Ð)(n:Nat)(hi:PI X t1 i1 wi)
  (h:wi σ H λJ H1=>∀ D,H1 D=none->∀ cl C æ ç ex,iK ↥13 t1 f1 (nG k v (.ref D)<|compEnvC scope cl C X.env) J (λ_ H'=>Q (.ref D) H') (σ++List.replicate n none)<|upd H1 D<|.dT [])
  (hc:X.calm=true:=by rfl) (jI:X.env.scope=sc:=by rfl) (hN:X.N=N:=by rfl) (hk:ng sc scope N N'=true:=by decide +kernel) (hl:N'.length=N.length+n:=by rfl)
  (hs:∀ x,foldedSetIterable i1 X.env x=pure x:=by intro _;rfl):Ev X (.DictComp k v [⟨t1,i1,f1,0⟩] scope pos) σ H Q:=
 AH (λ_ _ _ h=>DN h) (λ_ h hb=>FK h hb) (λ_ _=>q6b) rfl rfl sc N N' n hi h hc jI hN hk hl hs
def k6p{Q:VK}(sc:Scope)(N N':Ð)(n:Nat)(hi:PI X t1 i1 wi)
  (h:wi σ H λJ H1=>∀ D,H1 D=none->∀ cl C æ ç ex,iK ↥13 t1 f1 (tX k v t1 i1 f1 t2 i2 f2 scope pos (.ref D)<|compEnvC scope cl C X.env) J (λ_ H'=>Q (.ref D) H') (σ++List.replicate n none)<|upd H1 D<|.dT [])
  (hc:X.calm=true:=by rfl) (jI:X.env.scope=sc:=by rfl) (hN:X.N=N:=by rfl) (hk:ng sc scope N N'=true:=by decide +kernel) (hl:N'.length=N.length+n:=by rfl)
  (hs:∀ x,foldedSetIterable i1 X.env x=pure x:=by intro _;rfl):Ev X (.DictComp k v [⟨t1,i1,f1,0⟩,⟨t2,i2,f2,0⟩] scope pos) σ H Q:=
 AH (λ_ _ _ h=>DN h) (λ_ h hb=>FK h hb) (λ_ _=>q4l) rfl rfl sc N N' n hi h hc jI hN hk hl hs
end
open bP
variable{zs:Ð}{U:Program}
def R9{z:Str}{tk:Tok}{Q:Í}(S:aA U w s.heap a zs)(hb:zs.length+1 < 1000)
  (h:∀ h',Heap.SameBut a s.heap h'->aA U w h' a (added zs z)->Q .none {s with heap:=h',toks:=s.toks+1}) :
  ↥1 (call (.builtin "set.add") [.ref a,.str z tk]) Q E s:=by
 have hT:s.TypeIs (.ref a) "set":=let ⟨o,_,_,_,ho,hx,_⟩:=S;⟨o,ho,hx.1⟩
 refine DG F.slot_set_add hT F.entry_set_add ?_<|F.args_set_add_2 _ _;unfold Builtin.«set.add» Builtin.Frozenset.oneOther;simp only[Fd,bind_assoc];unfold Builtin.Frozenset.addrOf setAdd;refine BJ<|BK ?_
 try dsimp only
 refine BJ<|BK ?_
 try dsimp only
 refine BJ<|CJ ?_;refine BJ ((PySem.strKind U w).pyHash (k:=z) (by simp[PySem.strKind,Value.isStrOf]) ?_);refine Hx S hb λb h' sb S'=>?_;show wpAny _ _ (ret Value.none) _ _ _;exact BK ⟨_,rfl,h h' sb S'⟩
def q9m{Q:Í}(k:Q (.ref ↑s) {s with heap:=s.heap.push (gI w)}):↥1 (newSet<|.type "set") Q E s:=by
 unfold newSet;refine BJ<|wp_text ?_
 dsimp only
 simp only[newObj];exact BJ<|QL<|BK k
def wj(elt:Expr)(acc:Value)(env:Env):Sem Unit:=do let v <- eval elt env;standAt elt.pos;let _ <- call (.builtin "set.add") [acc,v]
def tY(elt t1 i1:Expr)(f1:Ó)(t2 i2:Expr)(f2:Ó)(scope:Scope)(pos:Pos)(acc:Value)(env:Env):Sem Unit:=do
 let x <- eval i2 env
 standAt i2.pos
 let x <- foldedSetIterable i2 env x
 let _ <- runOwn (.compStart (.SetComp elt [⟨t1,i1,f1,0⟩,⟨t2,i2,f2,0⟩] scope pos) 1 (<- holding [x]<|pyIter x) acc env) env
section
variable{elt t1 i1 t2 i2:Expr}{f1 f2:Ó}{pos:Pos}
def q30:Clause (.SetComp elt [⟨t1,i1,f1,0⟩,⟨t2,i2,f2,0⟩] scope pos) 0 t1 i1 f1 acc env (tY elt t1 i1 f1 t2 i2 f2 scope pos acc env):=⟨rfl,λ_=>rfl,λ_ _ _=>rfl,λ_ _=>rfl,λ_ _ _=>rfl,λ_ _=>rfl,λit=>by
 unfold tY;simp only[bind_assoc,pure_bind];rfl⟩
def q34:Clause (.SetComp elt [⟨t1,i1,f1,0⟩,⟨t2,i2,f2,0⟩] scope pos) 1 t2 i2 f2 acc env (wj elt acc env):=⟨rfl,λ_=>rfl,λ_ _ _=>rfl,λ_ _=>rfl,λ_ _ _=>rfl,λ_ _=>rfl,λit=>by
 unfold wj
 first | rfl | (simp only[bind_assoc,pure_bind];rfl)⟩
def k9f (h:Ev X elt σ H λv H1=>∃ z zs,v = .str z/\H1 D≈bq X.U X.w D zs/\zs.length+1 < 1000/\Q σ (upd H1 D<|bq X.U X.w D<|added zs z)):l7 X (wj elt (.ref D) X.env) σ H Q:=by
 refine⟨λO s I=>?_⟩;unfold wj;refine BJ<|aO (h.run O s I) λv s1 ⟨x,H1,I1,r1,z,zs,e,hD,hl,q⟩=>?_;subst e;obtain⟨tk,rfl⟩:=r1;refine BJ (GX<|BJ<|R9 (I1.set hD) hl λh' sb S'=>BK ⟨σ,_,lX I1 (by rw[hD];exact True.intro) sb ?_<|tN S',q⟩);obtain⟨o,_,_,_,ho,_⟩:=S';exact⟨o,ho⟩
def k8e(gH:X.xe=λ_ _=>False)(hc:X.calm=true)(hi:PI X t2 i2 wi)(h:wi σ H λJ H1=>iK X t2 f2 (wj elt acc X.env) J Q σ H1)
  (hs:∀ x,foldedSetIterable i2 X.env x=pure x:=by intro _;rfl):l7 X (tY elt t1 i1 f1 t2 i2 f2 scope pos acc X.env) σ H Q:=by
 refine⟨λO s I=>?_⟩;unfold tY;refine BJ<|aO (hi O s σ H _ I h) λx s1 h1=>?_;refine BJ<|GX<|BJ<|JF (hs x)<|BJ<|CJ<|CW h1 (λoF s2 h2=>?_) λ_ _ e=>e;obtain⟨it,fp,tn,J,H2,e,I2,T,gE,wg,q⟩:=h2;subst e;refine BJ<|wpAny_runOwn ?_;exact zu gH hc q34 I2 T gE wg q λσ' H' s' I' q'=>BK ⟨σ',H',I',q'⟩
def k9i{Q:VK}(sc:Scope)(N N':Ð)(n:Nat)(hi:PI X t1 i1 wi)
  (h:wi σ H λJ H1=>∀ D,H1 D=none->∀ cl C æ ç ex,iK ↥13 t1 f1 (tY elt t1 i1 f1 t2 i2 f2 scope pos (.ref D)<|compEnvC scope cl C X.env) J (λ_ H'=>Q (.ref D) H') (σ++List.replicate n none)<|upd H1 D<|bq X.U X.w D [])
  (hc:X.calm=true:=by rfl) (jI:X.env.scope=sc:=by rfl) (hN:X.N=N:=by rfl) (hk:ng sc scope N N'=true:=by decide +kernel) (hl:N'.length=N.length+n:=by rfl)
  (hs:∀ x,foldedSetIterable i1 X.env x=pure x:=by intro _;rfl):Ev X (.SetComp elt [⟨t1,i1,f1,0⟩,⟨t2,i2,f2,0⟩] scope pos) σ H Q:=
 AH (λ_ _ _ h=>q9m h) (λ_ h _=>tN<|HM<|At _ rfl) (λ_ _=>q30) rfl rfl sc N N' n hi h hc jI hN hk hl hs
end
end L2
namespace L2
open PySem PySem.Builtin PySem.Builtin.Str
end L2
namespace PySem
def Plain(h:Heap)(d:Addr)(es:Array DictEntry)(ep:Nat):Prop:=∃ o,h.get? d≈o/\o.ExactDict/\o.data = .dict es ep
variable{E:Í}{ep:Nat}{es:Array DictEntry}{Q:Option Value->Shared->Prop}{en:DictEntry}
section
variable{P:Program}{w:World}{A:Around}{s:Shared}
def k6v(d:Addr)(hd:(d == sysModules)=false):MeetsIn P w (Builtin.«dict.items» ⟨[.ref d],[]⟩) (λ_ R u=>u.TypeIs (.ref d) "dict" /\
  R (.ok<|.ret<|.ref ↑u) {u with heap:=u.heap.push {cls:= .type "dict_items",data:= .fields #[.ref d]}}):=by
 refine .of_wp λB R u ⟨hT,k⟩=>?_;unfold Builtin.«dict.items» Builtin.Dict.noArgs;refine BJ<|BJ<|wpAny_notOrdered_dict hT ?_;show wpAny _ _ (pure d) _ _ u;refine BK ?_;show wpAny _ _ (Builtin.Dict.showsAll d >>= _) _ _ u;unfold Builtin.Dict.showsAll;rw[BL<|by rw[hd];exact Aw];exact BJ<|BK<|BJ<|DN<|BK ⟨_,rfl,k⟩
theorem k6d{v d:Addr}{Q:Í}(hv:s.heap.IsItemsView v d)(hm:Plain s.heap d es ep)
  (k:Q (.ref ↑s) {s with heap:=s.heap.push {cls:= .type "dict_itemiterator",data:= .fields #[.none,.bool false,.ref d,.int 0 0,.int es.size 0,.int ep 0,.none,.none]}}) :
  wpAny (model P w) A (pyIter<|.ref v) Q E s:=by
 obtain⟨vo,e1,e2,e3⟩:=id hv;obtain⟨o,f1,f2,f3⟩:=hm;refine LK hv.typeIs F.slot_dict_items_iter<|DG F.slot_dict_items_iter hv.typeIs F.entry_dict_items_iter ?_<|F.args_dict_items_iter_1 _;unfold Builtin.«dict_items.__iter__» Builtin.Dict_items.dictOf Builtin.Dict_items.newIterator;refine BJ<|BK<|BJ<|BJ<|JN e1 e3 rfl (BK ?_);refine BJ<|BJ<|RM f1 f3<|BJ<|TF f1 f3 ?_;have ow:Builtin.Dict_items.ownsTuple "dict_itemiterator" = true:=∅
 simp only[ow,CZ];refine DN (BK ⟨_,rfl,"dict_itemiterator",_,⟨_,At _ rfl,rfl⟩,F.slot_dict_itemiterator_next.lookup,?_⟩) ?_
 ·simpa[rawInt,Builtin.Dict_items.ownedTupleFields]using k
 ·simp only[sizeOk,Builtin.Dict_items.ownedTupleFields,Ay,Ag,As,Er,DX];omega
theorem k6s{it d:Addr}{i:Nat}{y z:Value}(hit:IsItemIter s.heap it d i es.size ep y z)(hm:Plain s.heap d es ep)(hx:es[i]?≈en)
  (k : ∀ h', IsItemIterOut h' it d (i + 1) es.size ep en.key en.val ↑s → h'.get? ↑s = some { cls := .type "tuple", data := .seq #[en.key, en.val] } →
   (∀ b o,b≠it->s.heap.get? b≈o->h'.get? b≈o)->Q (some<|.ref ↑s) {s with heap:=h'}):wpAny (model P w) A (pyNext<|.ref it) Q E s:=by
 obtain⟨hp,g,dr,tk,os⟩:=s;obtain⟨o,f1,f2,f3⟩:=hm;have ty:Shared.TypeIs ⟨hp,g,dr,tk,os⟩ (.ref it) "dict_itemiterator":=⟨_,hit,rfl⟩;have lt:i < es.size:=by
  rcases Da i es.size with h | h
  ·exact h
  ·rw[Dv h]at hx;cases hx
 have ow:Builtin.Dict_items.ownsTuple "dict_itemiterator" = true:=∅
 unfold pyNext;refine BJ<|NK<|JG ty HS<|DG HS ty QD ?_<|PK _;refine BJ<|BK<|BJ<|BJ ?_
 first | refine BJ (HN ty<|BK ?_) | refine BJ<|JC ty<|BK ?_
 refine BJ<|QJ hit rfl ?_;simp only[ow,CZ];show wpAny _ _ (if(Value.ref d == Value.none)=true then _ else _) _ _ _;rw[BL (show ¬((Value.ref d == Value.none)=true)from Aw)];refine BJ<|BK<|BJ<|RM f1 f3 ?_;rw[BL<|by simp];refine BJ<|BK<|BJ<|TF f1 f3 ?_;rw[BL<|by simp];refine BK ?_;simp only[show ¬((i:Int) < 0)from by omega,CP,Bk,hx];refine BJ ?_
 first | refine BJ (HN ty<|BK ?_) | refine BJ<|JC ty<|BK ?_
 refine BJ<|MF ty ?_;show wpAny _ _ (setField (.ref it) 3 (rawInt<|(i:Int)+1) >>= _) _ _ ⟨hp,g,dr,tk,os⟩;refine BJ (JK hit (by simp) λha ea sa=>?_);replace sa:Heap.SameBut it hp ha:=sa;replace ea:IsItemIter ha it d (i+1) es.size ep y z:=by
  have e:((i+1:Nat):Int)=(i:Int)+1:=⋯
  unfold IsItemIter;rw[e]
  simpa[rawInt]using ea
 have Sd:Shared.TypeIs ⟨ha,g,dr,tk,os⟩ (.ref it) "dict_itemiterator":=⟨_,ea,rfl⟩;refine BJ<|CJ<|BJ<|MF Sd<|BJ<|MF Sd ?_;show wpAny _ _ (Builtin.Dict_items.pairFromOwner (.ref it) 6 en.key en.val) _ _ ⟨ha,g,dr,tk,os⟩;unfold Builtin.Dict_items.pairFromOwner Builtin.Dict_items.ownedTupleIsFree;refine BJ<|QK ?_;have eb:IsItemIter (ha.push {cls:= .type "tuple",data:= .seq #[en.key,en.val]}) it d (i+1) es.size ep y z:=Aj _ ea;have za:ha.objs.size=hp.objs.size:=sa.1;have il:it < hp.objs.size:=Av hit;have tb:(ha.push {cls:= .type "tuple",data:= .seq #[en.key,en.val]}).get? hp.objs.size=some {cls:= .type "tuple",data:= .seq #[en.key,en.val]}:=by rw[<- za];exact At _ rfl
 have kb:∀ b u,b≠it->hp.get? b≈u->(ha.push {cls:= .type "tuple",data:= .seq #[en.key,en.val]}).get? b≈u:=λb u hb e=>Aj _<|sa.extBut b u hb e;rw[za];generalize ha.push {cls:= .type "tuple",data:= .seq #[en.key,en.val]}=hb at eb tb kb;refine BJ<|BJ<|JN (s:=⟨hb,g,dr,tk,os⟩) eb rfl (x:= .none) rfl (BK ?_);simp only[CZ];refine BJ<|JN (s:=⟨hb,g,dr,tk,os⟩) eb rfl (x:=y) rfl (BJ<|JN (s:=⟨hb,g,dr,tk,os⟩) eb rfl (x:=z) rfl ?_);refine BJ (JK eb (by simp) λh3 e3 s3=>?_);replace s3:Heap.SameBut it hb h3:=s3;replace e3:IsItemIter h3 it d (i+1) es.size ep en.key z:=e3;refine BJ (JK e3 (by simp) λh4 e4 s4=>?_);replace s4:Heap.SameBut it h3 h4:=s4;replace e4:IsItemIter h4 it d (i+1) es.size ep en.key en.val:=e4;refine BJ (JK e4 (by simp) λh5 e5 s5=>?_);replace s5:Heap.SameBut it h4 h5:=s5;replace e5:IsItemIterOut h5 it d (i+1) es.size ep en.key en.val hp.objs.size:=e5;refine BJ (JK e5 (by simp) λh6 e6 s6=>?_);replace s6:Heap.SameBut it h5 h6:=s6;replace e6:IsItemIterOut h6 it d (i+1) es.size ep en.key en.val hp.objs.size:=e6;have all:=((s3.trans s4).trans s5).trans s6;exact BJ<|wpAny_letGo<|BK<|BK ⟨_,rfl,BK<|k h6 e6 (all.extBut _ _ (Cz il) tb) λb u hG e=>all.extBut b u hG<|kb b u hG e⟩
theorem k90{it d:Addr}{i:Nat}{y z:Value}(hh:A.handled=none)(hit:IsItemIter s.heap it d i es.size ep y z)(hm:Plain s.heap d es ep)(hx:es.size<=i)
  (k:∀ h',Heap.ExtBut it s.heap h'->Q none {s with heap:=h'}):wpAny (model P w) A (pyNext<|.ref it) Q E s:=by
 obtain⟨o,f1,f2,f3⟩:=hm;have ty:s.TypeIs (.ref it) "dict_itemiterator":=⟨_,hit,rfl⟩;have ow:Builtin.Dict_items.ownsTuple "dict_itemiterator" = true:=∅
 unfold pyNext;refine BJ<|NK<|JG ty HS<|DG HS ty QD ?_<|PK _;refine BJ<|BK<|BJ<|BJ ?_
 first | refine BJ (HN ty<|BK ?_) | refine BJ<|JC ty<|BK ?_
 refine BJ<|QJ hit rfl ?_;simp only[ow,CZ];show wpAny _ _ (if(Value.ref d == Value.none)=true then _ else _) _ _ s;rw[BL (show ¬((Value.ref d == Value.none)=true)from Aw)];refine BJ<|BK<|BJ<|RM f1 f3 ?_;rw[BL<|by simp];refine BJ<|BK<|BJ<|TF f1 f3 ?_;rw[BL<|by simp];refine BK ?_;simp only[show ¬((i:Int) < 0)from by omega,CP,Bk,Dv hx];refine BJ ?_
 first | refine BJ (HN ty<|BK ?_) | refine BJ<|JC ty<|BK ?_
 show wpAny _ _ (setField (.ref it) 2 .none >>= _) _ _ s;refine BJ (DW hit rfl (by simp) ?_);show wpAny _ _ (newExc (.type "StopIteration") [] >>= _) _ _ _;refine BJ ?_;simp only[newExc,newTuple];refine BJ (DN ?_<|by size_fits);refine BJ (JF (by first | rfl | (simp only[firstArgMember];rfl)) ?_);refine DN ?_ (by size_fits);simp only[raiseNew];refine BJ<|wpAny_handled ?_;rw[show A.in1.handled=none from hh];refine BJ<|BK<|wpAny_throw ?_;exact BJ<|JZ (T:= "StopIteration") (b:=true) ⟨_,At _ rfl,rfl⟩ isSubtype_stop<|BK<|k _<|((CT ..).extBut.push _).push _
def j8i:entryFor table "dict_itemiterator.__iter__" = some Builtin.«dict_keyiterator.__iter__»:=
 QG (id':= "dict_keyiterator.__iter__") (by kernel_rfl) rfl (by decide +kernel) (by kernel_rfl)
def k6h{it d:Addr}{i n:Nat}{y z:Value}{Q:Í}(e:IsItemIter s.heap it d i n ep y z)(h:Q (.ref it) s):wpAny (model P w) A (pyIter<|.ref it) Q E s:=by
 have ty:s.TypeIs (.ref it) "dict_itemiterator":=⟨_,e,rfl⟩;refine LK ty QF<|DG QF ty j8i ?_<|F.args_dict_itemiterator_iter_1 _;show wpAny _ _ (ret<|.ref it) _ _ s;exact BK ⟨_,rfl,"dict_itemiterator",_,ty,F.slot_dict_itemiterator_next.lookup,h⟩
end
end PySem
namespace L2
open PySem PySem.Spec PyProof.Rows
variable{s:Shared}{H:Hp}{σ:St}{O:Ï}{X:Cx}{Y:List (List Key×V)}{d:Addr}{es:Array DictEntry}{o:Obj}{w:World}{P:Program}{tp:Pos}{elts:Ó}{K:PySem.W.Frag}
def k3q(I:↥3)(e:H d≈.dT Y):∃ o,s.heap.get? d≈o/\Inv X O σ (upd H d<|.b7 o<|.dT Y) s:=by
 obtain⟨z,hd,xs,r,o,es,ep,ho,h2,h3,h4,h5⟩:=(show aB X.U X.w H s.heap d (.dT Y)from I.aH d _ e);refine⟨o,ho,?_⟩;have r':KT (upd H d<|.b7 o<|.dT Y) Y xs:=KT.keeps r λb ys q=>by
  rwa[aw<|cf q e λz=>nomatch z]
 exact lX I (by rw[e];exact True.intro) ⟨rfl,λ_ _=>rfl⟩ ⟨o,ho⟩ (show aB X.U X.w _ s.heap d (.b7 o<|.dT Y) from⟨ho,z,hd,xs,r',o,es,ep,ho,h2,h3,h4,h5⟩)
def Itm(d:Addr)(o:Obj)(Y:List<|List Key×V):It:=
  ⟨λi H => H d = some (.b7 o<|.dT Y) ∧ i < Y.length,
   λi H v H'=>∃ T b k x,Y[i]?=some (k,x)/\H b=some (.tup<|k.map kV)/\H T=none/\v = .ref T/\H'=upd H T (.tup [.ref b,x]),
   λi H=>H d=some (.b7 o<|.dT Y)/\Y.length<=i⟩
def Se{h:Heap}{ep:Nat}(aH:cn P w H h)(e:H d=some (.b7 o<|.dT Y))(hd:o.data = .dict es ep) :
  Plain h d es ep/\∃ xs,KT H Y xs/\es.toList=xs.map (entryOfKey<|tupleKind<|bX P w):=by
 obtain⟨ho,z,_,xs,r,o',dM,oD,dU,h2,h3,h4,h5⟩:=(show aB P w H h d (.b7 o<|.dT Y)from aH d _ e);have:o=o':=Option.some.inj<|ho.symm.trans dU;subst this;rw[hd]at h3
 injection h3 with e1 e2
 subst e1;subst e2;exact⟨⟨o,ho,h2,hd⟩,xs,r,h4⟩
theorem kt_len:∀{Y}{xs},KT H Y xs->Y.length=xs.length:=λr=>by
 induction r with
 | nil=>rfl
 | cons _ _ ih=>simp only[As,ih]
theorem kt_at:∀{Y}{xs},KT H Y xs->∀{i:Nat} {k:List Key} {x:V},Y[i]?=some (k,x)->∃ b u,xs[i]?=some (k,b,u)/\H b=some (.tup<|k.map kV)/\RelV x u:=λr=>by
 induction r with
 | nil=>intro i k x h;simp at h
 | @cons p q ps qs hq t ih=>
  intro i k x h;cases i with
  | zero=>
   simp only[RX,Option.some.injEq]at h;subst h;obtain⟨a,b,c⟩:=q;obtain⟨q1,q2,q3⟩:=hq;have q1:=q1;subst q1;exact⟨b,c,rfl,q2,q3⟩
  | succ i=>exact ih<|h⁻¹
theorem k6l{kk:Nat}(d it:Addr)(o:Obj)(es:Array DictEntry)(ep:Nat)(Y:List<|List Key×V)(nD:o.data = .dict es ep) :
  Turn P w K (.Tuple elts kk tp) (Itm d o Y) [it] it (λi h=>∃ y z,IsItemIter h it d i es.size ep y z) where
 mem:=by simp
 obj:=λi h st b hb=>by
  have e:b=it:=by simpa using hb
  subst e;obtain⟨y,z,e⟩:=st;exact⟨_,e,λv z=>by cases z⟩
 keep:=λi h h' st k=>let ⟨y,z,e⟩:=st;⟨y,z,k it (by simp) _ e⟩
 item:=by
  intro X hP hw hK hc i O s σ H E I hf st hg;subst hP hw hK;obtain⟨f0,f1,f2,f3,f4,f5⟩:=hf it (by simp);obtain⟨hd,hi⟩:=hg;obtain⟨pd,xs,r,wm⟩:=Se I.aH hd nD;obtain⟨y,z,st⟩:=st;have hx:Y[i]?=some (Y[i].1,Y[i].2):=Ab hi;obtain⟨b,u,fA,hb,ru⟩:=kt_at r hx;have qY:=entry_at wm i;rw[fA]at qY;refine k6s st pd qY λh' q1 q2 kp=>?_;have hT:=I.aH.fresh<|An _;have nT:=Bw<|Av st;have I1:Inv X O σ (upd H ↑s<|.tup [.ref b,Y[i].2]) {s with heap:=s.heap.push {cls:= .type "tuple",data:= .seq #[Value.ref b,u]}}:=
   I.laid (t':=s.toks) (λb o e=>Aj _ e) (An _) (show aB X.U X.w _ _ _ (.tup [.ref b,Y[i].2]) from⟨Z2,[Value.ref b,u],.cons rfl (.cons ru .nil),⟨_,At _ rfl,rfl,_,rfl⟩⟩)
  have fp:∀ c∈[it],cr X O (upd H ↑s<|.tup [.ref b,Y[i].2]) c:=λc bj=>by
   have e:c=it:=by simpa using bj
   subst e;exact⟨by rwa[aw nT],f1,f2,f3,f4,f5⟩
  have I2:=Inv.bU (h':=h') (t':=s.toks) I1 fp λc v bj e=>by
   have nc:c≠it:=by simpa using bj
   rcases He e with ⟨ec,eo⟩ | e'
   ·rwa[ec,eo]
   ·exact kp c v nc e'
  refine⟨_,rfl,wpAny_letOwnedTupleGo_items (s:={s with heap:=h'}) q1 λh2 b1 sb=>?_⟩;have I3:=Inv.bU (h':=h2) (t':=s.toks) I2 fp λc v bj e=>(sb.2 c<|bj⁻¹).trans e;exact⟨.ref ↑s,_,I3,rfl,⟨_,b,Y[i].1,Y[i].2,hx,hb,hT,rfl,rfl⟩,⟨_,_,b1⟩,λc bj=>(fp c bj).1⟩
 done:=by
  intro X hP hw hK hc i O s σ H E I hf st hg;subst hP hw hK;obtain⟨hd,hi⟩:=hg;obtain⟨pd,xs,r,wm⟩:=Se I.aH hd nD;obtain⟨y,z,st⟩:=st;have hl:es.size=Y.length:=by rw[kt_len r,<- Bu,wm,Aa]
  exact k90 (I.ok.hd hc) st pd ⋯ λh' eb=>⟨rfl,I.bU (t':=s.toks) hf λc v bj e=>eb c v bj⁻¹ e⟩
 self:=λ_ _ _ _ _ st h=>let ⟨y,z,e⟩:=st;k6h e h
def x0g(to:TE):TI:=λσ H R=>to σ H λx H1=>∃ d Y,x = .ref d/\H1 d≈.dT Y/\∀ o,R (Itm d o Y)<|upd H1 d<|.b7 o<|.dT Y
def Sg{kk:Nat}{ap cp:Pos}{l:Expr}{to:TE}(ho:PE X l to)(bO:attributeBase l "items" X.env (eval l X.env)=eval l X.env:=by rfl)(hline:(ap.endLine == cp.line)=true:=by rfl) :
  PI X (.Tuple elts kk tp) (.Call (.Attribute l "items" ap) [] [] cp) (x0g to):=by
 intro O s σ H R I h;refine wpAny_Call_method0_late bO hline<|aO (ho O s σ H _ I h) λv s1 ⟨x,H1,I1,r1,q1⟩=>?_;obtain⟨d,Y,e,hd,q⟩:=q1;subst e;cases (show v=Value.ref d from r1);obtain⟨_,hsy,_,_,o,es,ep,e1,e2,e3,_⟩:=(show aB X.U X.w H1 s1.heap d (.dT Y)from I1.aH d _ hd);have ty:s1.TypeIs (.ref d) "dict":=⟨o,e1,e2.1⟩;refine⟨"dict","dict.items",F.plainAttrs_dict,F.slot_dict_items,F.type_dict_items,ty,λa ea=>?_,HW rfl (PySem.evalArgs_none ?_)⟩
 ·cases ea;exact⟨o,e1,e2.2.1⟩
 refine call_meetsIn F.slot_dict_items ty F.entry_dict_items (F.args_dict_items_1 _) (k6v d hsy) ⟨ty,?_⟩;obtain⟨o',eo,I2⟩:=k3q I1 hd;have:o=o':=Option.some.inj<|e1.symm.trans eo;subst this;have I3:=I2.kept (t':=s1.toks) (h':=s1.heap.push {cls:= .type "dict_items",data:= .fields #[.ref d]}) λb u e=>Aj _ e;refine k6d (d:=d) (es:=es) (ep:=ep) ⟨_,At _ rfl,rfl,rfl⟩ ⟨o,Aj _ e1,e2,e3⟩ ?_;refine⟨_,[(s1.heap.push {cls:= .type "dict_items",data:= .fields #[.ref d]}).objs.size],_,_,_,rfl,I3.kept (t':=s1.toks) λb u e=>Aj _ e,k6l d _ o es ep Y e3,⟨_,_,At _ rfl⟩,λb hb=>?_,q o⟩;have e:b=(s1.heap.push {cls:= .type "dict_items",data:= .fields #[.ref d]}).objs.size:=by simpa using hb
 subst e;exact I3.jA (An _)<|I3.aH.fresh<|An _
variable{inner:Sem Unit}{ifs:Ó}
section
variable{tg:Expr}{after:St->Hp->Prop}
theorem j92(Pv:Nat->St->Hp->Prop)(h0:Pv 0 σ H)(hl:∀ i σ' H',i<=Y.length->Pv i σ' H'->H' d=some (.b7 o<|.dT Y))
  (hs:∀ i k x b T σ' H',Y[i]?=some (k,x)->Pv i σ' H'->H' b=some (.tup<|k.map kV)->H' T=none->Eg X tg (.ref T) σ' (upd H' T<|.tup [.ref b,x]) λσ2 H3=>Ei X ifs σ2 H3 λc H4=>if c=true then l7 X inner σ2 H4 (Pv<|i+1)else Pv (i+1) σ2 H4)
  (hd:∀ σ' H',Pv Y.length σ' H'->after σ' H'):iK X tg ifs inner (Itm d o Y) after σ H:=by
 refine⟨λi m σ' H'=>m=Y.length - i/\i<=Y.length/\Pv i σ' H',⟨_,rfl,Bx _,h0⟩,?_⟩;rintro i m σ' H' ⟨rfl,hi,p⟩;have q:=hl i σ' H' hi p
 by_cases aX:i < Y.length
 ·refine .inr ⟨⟨q,aX⟩,Pv<|i+1,λσ' H' p'=>⟨Y.length - (i+1),⋯,rfl,aX,p'⟩,λv H2 y=>?_⟩;obtain⟨T,b,k,x,hx,hb,hT,rfl,rfl⟩:=y;exact hs i k x b T σ' _ hx p hb hT
 ·have e:i=Y.length:=⋯
  subst e;exact .inl ⟨⟨q,An _⟩,hd σ' H' p⟩
end
open bP
def av{α:Type}:List α->List α
 | []=>[]
 | [a]=>[a]
 | a :: _ :: r=>a :: av r
theorem qZ{α:Type}:∀(xs:List α) (k:Nat),(av xs)[k]?=xs[2 * k]?
 | [],k=>by simp[av]
 | [a],0=>rfl
 | [a],k+1=>by
  show([]:List α)[k]?=[a][2 * (k+1)]?;rw[Bg<|Bx _,Bg<|by show 1<=_;omega]
 | a :: b :: r,0=>rfl
 | a :: b :: r,k+1=>by
  show(av r)[k]?=(a :: b :: r)[2 * (k+1)]?;rw[qZ r k,show 2 * (k+1)=2 * k+1+1 by omega];rfl
theorem wn{α:Type}:∀(xs:List α),(av xs).length=(xs.length+1) / 2
 | []=>by
  show 0=(0+1) / 2;omega
 | [a]=>by
  show 1=(1+1) / 2;omega
 | a :: b :: r=>by
  show(av r).length+1=(r.length+1+1+1) / 2;rw[wn r];omega
theorem q2u{α:Type}(xs:List α):(av xs).length<=xs.length:=by
 rw[wn];omega
theorem Sh:∀{xs}{us},ay xs us->ay (av xs) (av us)
 | [],us,r=>by
  have:=r.zero;subst this;exact .nil
 | [a],us,r=>by
  obtain⟨u,rfl,ru⟩:=r.one;exact .cons ru .nil
 | a :: b :: r,us,h=>by
  cases h with
  | cons h1 h2=>
   cases h2 with
   | cons h3 h4=>exact .cons h1<|Sh h4
theorem Si{α:Type}(g:Nat->Option α):∀c,(∀ k,k < c->∃ v,g k≈v)->((List.range c).filterMap g).length=c/\∀ k,k < c->((List.range c).filterMap g)[k]?=g k
 | 0,_=>⟨rfl,λk h=>absurd h<|Dj _⟩
 | c+1,h=>by
  obtain⟨h1,h2⟩:=Si g c λk hk=>h k ⋯;obtain⟨v,hv⟩:=h c ⋯;have e:(List.range<|c+1).filterMap g=(List.range c).filterMap g++[v]:=by
   rw[Dk,List.filterMap_append,Eh,hv];rfl
  rw[e];refine⟨by rw[Ag,h1];rfl,λk hk=>?_⟩
  by_cases qp:k < c
  ·rw[Ax<|⋯];exact h2 k qp
  ·have:k=c:=⋯
   subst this;rw[Bd ⋯,h1,RQ,hv];rfl
theorem k6c(è:Ò):slicePick è.toArray none none (some 2)=(av è).toArray:=by
 unfold slicePick;have hb:sliceBounds none none (some 2) è.toArray.size=(0,(è.length:Int),2):=rfl;rw[hb]
 congr 1
 show((sliceRange 0 (è.length:Int) 2).filterMap (è.toArray[·]?))=av è;have hr:sliceRange 0 (è.length:Int) 2=(List.range<|(è.length+1) / 2).map λk=>2 * k:=by
  unfold sliceRange;have e1:(if(2:Int) > 0 then(if(0:Int) < (è.length:Int) then((è.length:Int) - 0+2 - 1) / 2 else 0) else(if(0:Int) > (è.length:Int) then(0 - (è.length:Int) - 2 - 1) / (-2)else 0)).toNat=(è.length+1) / 2:=by
   rw[BP<|∅]
   split <;> omega
  show(List.range _).map _=_;rw[e1];exact Ap λk _=>⋯
 rw[hr,List.filterMap_map];obtain⟨h1,h2⟩:=Si (λk=>è.toArray[2 * k]?) ((è.length+1) / 2) λk hk=>⟨è[2 * k]'⋯,by rw[<- Bj];exact Ab (l:=è)<|⋯⟩;apply Dy;intro k;show((List.range<|(è.length+1) / 2).filterMap λk=>è.toArray[2 * k]?)[k]?=_
 by_cases hk:k < (è.length+1) / 2
 ·rw[h2 k hk,qZ,<- Bj]
 ·rw[Bg ⋯,Bg<|by rw[wn];omega]
section
variable{Q:VK}
theorem q41{e:Expr}{j:Nat}{p1 p2 pos:Pos} (h:Ev X e σ H λx H1=>∃ a xs,x = .ref a/\au X.K H1 a xs/\∀ p,H1 p=none->Q (.ref p) (upd H1 p<|.lst<|av xs)) :
  Ev X (.Subscript e (.Slice none none (some<|.Constant (.int 2) j p1) p2) pos) σ H Q:=by
 refine⟨λO s I=>Subscript_<|aO (h.run O s I) λv s1 ⟨x,H1,I1,r1,a,xs,ex,hx,q⟩=>?_⟩;subst ex;cases (show v=Value.ref a from r1);refine wpAny_Slice ?_;rw[evalPart_none];refine BK<|BK ?_;rw[evalPart_some];refine aO ((aG (Q:=λy H2=>y = .int 2/\H2=H1) ⟨rfl,rfl⟩).run O s1 I1) λv2 s2 ⟨y,H2,I2,r2,ey,eh⟩=>?_;subst ey eh;obtain⟨t,rfl⟩:=r2;obtain⟨è,r,pl,hz⟩:=I2.list hx;have hlen:=r.length;have I3:Inv X O σ H2 {s2 with heap:=s2.heap.push {cls:= .type "slice",data:= .fields #[.none,.none,.int 2 t]}}:=I2.kept (t':=s2.toks) λb ob q=>Aj _ q;have Sj:=pl.isList.push {cls:= .type "slice",data:= .fields #[.none,.none,.int 2 t]};show ↥2 (subscriptTail e _ (.ref a)<|.ref ↑s2) (EP X O σ Q) X.xe {s2 with heap:=s2.heap.push {cls:= .type "slice",data:= .fields #[.none,.none,.int 2 t]}};refine tail_any (ops:=[.ref a,.ref ↑s2]) (T:= "list") (Heap.IsList.typeIs (s:={s2 with heap:=s2.heap.push {cls:= .type "slice",data:= .fields #[.none,.none,.int 2 t]}}) Sj) slot_list_getitem.lookup ?_ (by with_unfolding_all rfl);refine wpAny_getItem_list_slice (s:={s2 with heap:=s2.heap.push {cls:= .type "slice",data:= .fields #[.none,.none,.int 2 t]}}) Sj (Heap.IsSliceOf.new ..) .none .none (.int 2 t) ∅ ?_ (by rw[Ay];omega);rw[k6c];exact⟨.ref _,_,I3.vp (t':=s2.toks) (Sh r)<|Ch (q2u _) hz,rfl,q _ I3.fresh⟩
end
variable{E Q:Í}{U:Program}{zs:Ð}
section
variable{A:Around}
def k80(k:Q (.ref ↑s) {s with heap:=s.heap.push (gI w)}):codeAny (model U w) A (.call (.builtin "set.__new__") ⟨[.type "set"],[]⟩) (wants Q E) s:=by
 refine KJ ?_;show wpAny _ A.in1 (checkBuiltinCall "set.__new__" ⟨[.type "set"],[]⟩ >>= λ_=>again<|.builtin "set.__new__" ⟨[.type "set"],[]⟩) _ _ s;refine BJ<|JF PySem.F.newCall_set_0<|BK ⟨JH UL _,FT PySem.F.entry_set_new ?_⟩;rw[FP UL _];unfold Builtin.«set.__new__» Builtin.Frozenset.newClass
 dsimp only
 refine BJ<|BJ<|JF (show isType (.type "set")=pure true from rfl)<|BK ?_;simp only[Dm,Aq,CP];unfold newSet;refine BJ<|BJ<|wp_text ?_
 dsimp only
 simp only[newObj];exact BJ<|QL<|BK<|BK k
theorem Sl(k:Q (.ref ↑s) {s with heap:=s.heap.push (gI w)}):↥1 (call (.type "set") []) Q E s:=by
 obtain⟨c,tl,HP⟩:=PySem.F.called_set.mro;have vL:=PySem.F.called_set.made;have nn:=PySem.F.called_set.sub;refine wpAny_call<|KJ ?_;show wpAny _ _ (callAny (.type "set") _) _ _ _;refine BK ⟨Code.quiet_builtin _ (by decide +kernel),FT PySem.F.entry_type_call ?_⟩;rw[Around.under_plain (weight_type_call_type "set" [] []) rfl];have h3:=PySem.F.typeCall_set_0
 repeat (any_goals (first | assumption | wp_step))
 refine JQ (k80 (E:=E) (Q:=λv u=>v = .ref ↑s/\u={s with heap:=s.heap.push (gI w)}) ⟨rfl,rfl⟩) λr u hr=>?_;cases r with
 | error e=>exact hr
 | ok fl=>
  cases fl with
  | ret v=>
   obtain⟨rfl,rfl⟩:=hr;have hT:Shared.TypeIs {s with heap:=s.heap.push (gI w)} (.ref ↑s) "set":=⟨_,At _ rfl,rfl⟩;have oV:=PySem.F.called_set.init.lookup;have HQ:=PySem.F.called_set.init.bind<|.ref ↑s
   repeat (any_goals (first | assumption | wp_step))
   refine JQ (codeAny_call_builtin (R:=wants (λr u=>r = .none/\Q (.ref ↑s) u) E) PySem.F.called_set.init.plain PySem.F.entry_set_init<|check_set_init hT ?_) λr2 u2 qC=>?_
   ·unfold Builtin.«set.__init__» noKeywords
    wp_walk
    exact⟨rfl,k⟩
   ·cases r2 with
    | error e=>exact qC
    | ok f2=>
     cases f2 with
     | ret r=>
      obtain⟨rfl,hq⟩:=qC
      repeat (any_goals (first | assumption | wp_step))
     | _=>exact qC.elim
  | _=>exact hr.elim
def k73{a:Addr}{z:Str}{tk:Tok}(S:aA U w s.heap a zs) (h:Q (.bool<|decide (z∉zs)) {s with toks:=s.toks+1}):↥1 (compareOp .NotIn (.str z tk)<|.ref a) Q E s:=by
 have hT:=S.typeIs;show wpAny _ _ (do return .bool (!(<- contains (.ref a)<|.str z tk))) Q E s;refine BJ ?_;unfold contains
 try with_reducible refine CJ ?_
 refine BJ<|KH hT PySem.F.slot_set_contains.lookup ?_;show wpAny _ _ (if(some (Value.builtin "set.__contains__") == some Value.none)=true then _ else _) _ E s;rw[BL<|by rw[beq_builtin_none];exact Aw];refine BJ<|MJ hT JD<|DG JD hT entry_set_contains ?_<|QX _ _;unfold Builtin.«frozenset.__contains__» Builtin.Frozenset.oneOther;simp only[Fd,bind_assoc];unfold Builtin.Frozenset.addrOf Builtin.Frozenset.withSetAsKey setContains;refine BJ<|BK ?_
 try dsimp only
 refine BJ<|BK ?_
 try dsimp only
 refine BJ<|wpAny_tryCatch<|CJ<|BJ<|(strKind U w).pyHash (PX _ _ _ _) ?_;obtain⟨o,es,ep,t,ho,hx,hd,T⟩:=S;refine BJ<|Qt ho hd T (λhz=>?_) λj hj e=>?_
 ·refine BK ?_;show wpAny _ _ (ret<|Value.bool false) _ _ _;rw[BW hz]at h;exact BK ⟨_,rfl,EY<|BK h⟩
 ·refine BK ?_;show wpAny _ _ (ret<|Value.bool true) _ _ _;have hz:z∈zs:=T.keys.mem_iff.mp (by rw[<- e];exact Ak.mpr ⟨_,Bt hj,rfl⟩);rw[BR<|not_not_intro hz]at h;exact BK ⟨_,rfl,EY<|BK h⟩
end
section
variable{Q:VK}
def q84{p pos:Pos}(hm:X.mg "set" = none)(h:∀ D,H D=none->Q (.ref D) (upd H D<|bq X.U X.w D []))(hg:Gl X "set":=by rfl):Ev X (.Call (.Name "set" p) [] [] pos) σ H Q:=by
 refine⟨λO s I=>Call_<|mQ I hg hm JT<|QZ<|Sl ?_⟩;exact⟨.ref ↑s,_,I.laid (λb o e=>Aj _ e) (An _)<|tN<|HM<|At _ rfl,rfl,h _ I.fresh⟩
def k16:cX X (compareOp .NotIn) (λx y H Q=>∃ z a zs,x = .str z/\y = .ref a/\H a≈bq X.U X.w a zs/\Q (.bl<|decide (z∉zs)) H):=by
 intro O s σ H x y v u Q I rx ry h;obtain⟨z,a,zs,rfl,rfl,hA,q⟩:=h;obtain⟨t,rfl⟩:=rx;cases (show u=Value.ref a from ry);exact k73 (I.set hA) ⟨.bl _,H,I.tok _,rfl,q⟩
def q9x{o e:Expr}{ap cp:Pos} (h:Ev X o σ H λx H1=>∃ a,x = .ref a/\(∃ zs,H1 a≈bq X.U X.w a zs)/\Ev X e σ H1 λy H2=>∃ z zs,y = .str z/\H2 a≈bq X.U X.w a zs/\zs.length+1 < 1000/\Q .non (upd H2 a<|bq X.U X.w a<|added zs z))
  (bO:attributeBase o "add" X.env (eval o X.env)=eval o X.env:=by rfl)
  (cG:((backTo cp<|starEach [e] X.env).all (λx=>!x.1) && (backToKw cp<|keywordEach [] X.env).all (λx=>x.1.isSome) && decide ([e].length+([]:List Keyword).length+(if([]:List Keyword).isEmpty then 0 else 1) < 30))=true:=by rfl)
  (hline:(ap.endLine == cp.line)=true:=by rfl) (hs:starEach [e] X.env=(false,eval e X.env) :: starEach [] X.env:=by rfl) (cW:isStar e=false:=by rfl):Ev X (.Call (.Attribute o "add" ap) [e] [] cp) σ H Q:=by
 refine⟨λO s I=>LR bO cG hline rfl (aO (h.run O s I) λv s1 ⟨x,H1,I1,r1,a,ex,⟨zs,hA⟩,h2⟩=>?_)⟩;subst ex;cases (show v=Value.ref a from r1);have S:=I1.set hA;refine⟨"set","set.add",TX,PySem.F.slot_set_add,PySem.F.type_set_add,S.typeIs,λb eb=>?_,?_⟩
 ·cases eb;obtain⟨o,_,_,_,ho,hx,_⟩:=S;exact⟨o,ho,hx.2.1⟩
 have hE:Ea X [e] σ H1 (λys H2=>∃ z zs,ys=[.str z]/\H2 a≈bq X.U X.w a zs/\zs.length+1 < 1000/\Q .non (upd H2 a<|bq X.U X.w a<|added zs z)):=ah (h2.mono λy H2 ⟨z,zs,ey,q⟩=>ax ⟨z,zs,by rw[ey],q⟩) cW;have wo:=hE.run cp O s1 I1;rw[hs]at wo ⊢;refine HW rfl (JW ?_);refine aO wo λus s2 ⟨vs,H2,I2,r2,z,ys,ev,Sn,hl,q⟩=>?_;subst ev;obtain⟨u,rfl,ru⟩:=vals1 r2;obtain⟨tk,rfl⟩:=ru;refine R9 (I2.set Sn) hl λh' sb S'=>⟨.non,_,lX I2 (by rw[Sn];exact True.intro) sb ?_<|tN S',rfl,q⟩;obtain⟨o,_,_,_,ho,_⟩:=S';exact⟨o,ho⟩
end
end L2
namespace Nt
open PySem L2
def eG(c:Int)(n:Net)(e:End):End:=(e.1,(((e.2:Int)+c) % ((row n e.1).length:Int)).toNat)
variable{e:End}{n:Net}{c:Int}
theorem wq(h:e∈ends n):(((eG c n e).2:Nat):Int)=((e.2:Int)+c) % ((row n e.1).length:Int):=by
 obtain⟨z,hz⟩:=af.mp h;have:=gk hz;exact Int.toNat_of_nonneg<|Cg _<|⋯
theorem Sq(h:e∈ends n):eG c n e∈ends n:=by
 obtain⟨z,hz⟩:=af.mp h;have h1:=gk hz;have h2:=wq (c:=c) h;have h3:((e.2:Int)+c) % ((row n e.1).length:Int) < ((row n e.1).length:Int):=Cn _ ⋯;exact af.mpr<|vV<|by show(eG c n e).2 < (row n e.1).length;omega
theorem ra(h:e∈ends n):eG (-c) n (eG c n e)=e:=by
 have h2:=wq (c:=c) h;have h3:=wq (c:=-c)<|Sq (c:=c) h;obtain⟨z,hz⟩:=af.mp h;have h1:=gk hz;have hr:(eG c n e).1=e.1:=rfl;rw[hr,h2]at h3;have e1:(((e.2:Int)+c) % ((row n e.1).length:Int)+-c) % ((row n e.1).length:Int)=(e.2:Int):=by
  have:(((e.2:Int)+c) % ((row n e.1).length:Int)+-c) % ((row n e.1).length:Int)=((e.2:Int)+c+-c) % ((row n e.1).length:Int):=by
   rw[Int.add_emod,Int.emod_emod,<- Int.add_emod]
  rw[this,show(e.2:Int)+c+-c=(e.2:Int) by omega];exact Int.emod_eq_of_lt ⋯<|⋯
 rw[e1]at h3;have h4:(eG (-c) n<|eG c n e).2=e.2:=⋯
 exact HJ rfl h4
def Ss{a b:End}(ha:a∈ends n)(hb:b∈ends n)(h:eG c n a=eG c n b):a=b:=by
 rw[<- ra ha,<- ra hb,h]
theorem Jl(h:e∈ends n):left n e=eG 1 n e:=by
 have h2:=wq (c:=1) h;refine HJ rfl ?_;show(e.2+1) % (row n e.1).length=(eG 1 n e).2;have:(((e.2+1) % (row n e.1).length:Nat):Int)=((e.2:Int)+1) % ((row n e.1).length:Int):=by simp
 omega
def go(c:Int)(n:Net)(e:End):End:=eG c n<|↥5
def gK(T:aq n)(h:e∈ends n):go c n e∈ends n:=Sq<|cR T h
def go_inj(T:aq n){a b:End}(ha:a∈ends n)(hb:b∈ends n)(h:go c n a=go c n b):a=b:=Rl T ha hb<|Ss (cR T ha) (cR T hb) h
def tZ(T:aq n)(h:e∈ends n):step n e=go 1 n e:=Jl<|cR T h
def two(n:Net)(e:End):End:=go (-1) n<|go 1 n e
def nH(T:aq n)(h:e∈ends n):two n e∈ends n:=gK T<|gK T h
def wt(T:aq n){a b:End}(ha:a∈ends n)(hb:b∈ends n)(h:two n a=two n b):a=b:=go_inj T ha hb<|go_inj T (gK T ha) (gK T hb) h
def wk(n:Net)(e:End):Nat->List End
 | 0=>[]
 | k+1=>wk n e k++[↥12 k e,go 1 n<|↥12 k e]
theorem rd(n:Net)(e:End):∀ k,(wk n e k).length=2 * k
 | 0=>rfl
 | k+1=>by
  show(wk n e k++_).length=_;rw[Ag,rd n e k];show 2 * k+2=_;omega
theorem rg(n:Net)(e:End):∀k i,i < k->(wk n e k)[2 * i]?=some (↥12 i e)
 | 0,i,h=>absurd h<|Dj _
 | k+1,i,h=>by
  show(wk n e k++[↥12 k e,go 1 n<|↥12 k e])[2 * i]?=_;have l:=rd n e k
  by_cases hk:i < k
  ·rw[Ax<|⋯];exact rg n e k i hk
  ·have:i=k:=⋯
   subst this;rw[Bd ⋯,l,RQ];rfl
theorem AQ(n:Net)(e:End):∀k i,i < k->(wk n e k)[2 * i+1]?=some (go 1 n<|↥12 i e)
 | 0,i,h=>absurd h<|Dj _
 | k+1,i,h=>by
  show(wk n e k++[↥12 k e,go 1 n<|↥12 k e])[2 * i+1]?=_;have l:=rd n e k
  by_cases hk:i < k
  ·rw[Ax<|⋯];exact AQ n e k i hk
  ·have:i=k:=⋯
   subst this;rw[Bd ⋯,l,show 2 * i+1 - 2 * i=1 by omega];rfl
theorem q20(n:Net)(e:End)(k:Nat):av (wk n e k)=(List.range k).map λi=>↥12 i e:=by
 apply Dy;intro i;rw[qZ,Ah]
 by_cases h:i < k
 ·rw[rg n e k i h,Dx h];rfl
 ·rw[Bg (by rw[rd];omega),Bg<|by rw[Dq];omega];rfl
theorem Jm{n:Net}(T:aq n){e:End}(h:e∈ends n):∀ k,∀ c∈wk n e k,c∈ends n
 | 0,c,hc=>by cases hc
 | k+1,c,hc=>by
  have hk:=je (λa ha=>nH T ha) h k
  rcases Am.mp hc with hc | hc
  ·exact Jm T h k c hc
  ·rcases Ai.mp hc with rfl | hc
   ·exact hk
   ·rw[Ad.mp hc];exact gK T hk
structure jO(n:Net)(e:End)(k:Nat):Prop where
 pos:0 < k
 back:↥12 k e=e
 first:∀ i,0 < i->i < k->↥12 i e≠e
def jO.unique{k l:Nat}(a:jO n e k)(b:jO n e l):k=l:=by
 rcases Em k l with h | h | h
 ·exact absurd a.back<|b.first k a.pos h
 ·exact h
 ·exact absurd b.back<|a.first l b.pos h
noncomputable def wu(n:Net)(e:End):Nat:=by classical exact if h:∃ k,jO n e k then h.choose else 0
def wv{k:Nat}(h:jO n e k):wu n e=k:=by
 have hx:∃ k,jO n e k:=⟨k,h⟩;unfold wu;rw[dif_pos hx];exact hx.choose_spec.unique h
noncomputable def walker(n:Net)(e:End):List End:=wk n e<|wu n e
structure kR(n:Net)(ws:List End):Prop where
 ends:∀ c∈ws,c∈Nt.ends n
 ne0:0 < ws.length
 even:ws.length % 2=0
 few:ws.length<=2 * (Nt.ends n).length
 at':∀ k,k < ws.length->∃ c,ws[k]?≈c/\ws[(k+1) % ws.length]?≈go (1 - 2 * ((k:Int) % 2)) n c
theorem x1o(T:aq n)(h:e∈Nt.ends n){k:Nat}(p:jO n e k)(hk:k<=(Nt.ends n).length):kR n (wk n e k):=by
 have l:=rd n e k;have p0:=p.pos;refine⟨Jm T h k,⋯,⋯,⋯,λj hj=>?_⟩;rw[l]at hj ⊢
 rcases RG j with h2 | h2
 ·obtain⟨i,rfl⟩:∃ i,j=2 * i:=⟨j / 2,⋯⟩;refine⟨_,rg n e k i ⋯,?_⟩;rw[Bz ⋯,AQ n e k i<|⋯];have:(1:Int) - 2 * (((2 * i:Nat):Int) % 2)=1:=⋯
  rw[this]
 ·obtain⟨i,rfl⟩:∃ i,j=2 * i+1:=⟨j / 2,⋯⟩;refine⟨_,AQ n e k i ⋯,?_⟩;have e1:(1:Int) - 2 * (((2 * i+1:Nat):Int) % 2)=-1:=⋯
  rw[e1];show _=some (two n<|↥12 i e)
  by_cases hl:i+1 < k
  ·rw[Bz ⋯,show 2 * i+1+1=2 * (i+1) by omega];exact rg n e k (i+1) hl
  ·have:i+1=k:=⋯
   rw[show 2 * i+1+1=2 * k by omega,Ef];have e2:two n (↥12 i e)=↥12 k e:=by rw[<- this];rfl
   rw[e2,p.back];exact rg n e k 0<|⋯
def aD(n:Net)(e:End):Str:=(aJ n e).getD ⟨#[]⟩
def eY{z:Str}(h:aJ n e≈z):aD n e=z:=by unfold aD;rw[h];rfl
noncomputable def eI(n:Net):List End->Ð->List (List End)
 | [],_=>[]
 | e :: r,told=>if aD n e∈told then eI n r told else walker n e :: eI n r (told++(av<|walker n e).map (aD n))
theorem t6(T:aq n)(h:e∈ends n):∃ k,jO n e k/\k<=(ends n).length:=by
 obtain⟨k,k0,k1,k2⟩:=zK (λa ha=>nH T ha) (λa ha b hb=>wt T ha hb) h;have aux:∀ m,∀ k,k<=m->0 < k->↥12 k e=e->∃ j,j<=k/\jO n e j:=by
  intro m
  induction m with
  | zero=>intro k h1 h2;omega
  | succ m ih=>
   intro k h1 h2 h3
   by_cases c:∃ i,0 < i/\i < k/\↥12 i e=e
   ·obtain⟨i,i1,i2,i3⟩:=c;obtain⟨j,j1,j2⟩:=ih i ⋯ i1 i3;exact⟨j,⋯,j2⟩
   ·exact⟨k,An _,h2,h3,λi i1 i2 i3=>c ⟨i,i1,i2,i3⟩⟩
 obtain⟨j,j1,j2⟩:=aux k k (An _) k0 k2;exact⟨j,j2,⋯⟩
def k8o(T:aq n)(h:e∈ends n):kR n (walker n e):=by
 obtain⟨k,p,hk⟩:=t6 T h;unfold walker;rw[wv p];exact x1o T h p hk
theorem o6{n:Net}(T:aq n):∀es told,(∀ e∈es,e∈ends n)->∀ w∈eI n es told,kR n w
 | [],_,_,w,hw=>by cases hw
 | e :: r,told,h,w,hw=>by
  unfold eI at hw
  split at hw
  ·exact o6 T r told (λa ha=>h a<|Af _ ha) w hw
  ·rcases Ai.mp hw with rfl | hw
   ·exact k8o T<|h e<|Ae ..
   ·exact o6 T r _ (λa ha=>h a<|Af _ ha) w hw
theorem AT(n:Net):∀es told,(eI n es told).length<=es.length
 | [],_=>An _
 | e :: r,told=>by
  unfold eI
  split
  ·have:=AT n r told;show _<=r.length+1;omega
  ·have:=AT n r<|told++(av<|walker n e).map (aD n);show _+1<=r.length+1;omega
structure gm(n:Net)(e:End)(k:Nat):Prop where
 pos:0 < k
 back:↥14 k e=e
 first:∀ i,0 < i->i < k->↥14 i e≠e
def gm.unique{k l:Nat}(a:gm n e k)(b:gm n e l):k=l:=by
 rcases Em k l with h | h | h
 ·exact absurd a.back<|b.first k a.pos h
 ·exact h
 ·exact absurd b.back<|a.first l b.pos h
noncomputable def jP(n:Net)(e:End):Nat:=by classical exact if h:∃ k,gm n e k then h.choose else 0
def Sv{k:Nat}(h:gm n e k):jP n e=k:=by
 have hx:∃ k,gm n e k:=⟨k,h⟩;unfold jP;rw[dif_pos hx];exact hx.choose_spec.unique h
theorem Sw(T:aq n)(h:e∈ends n):∃ k,gm n e k/\k<=(ends n).length:=by
 obtain⟨k,k0,k1,k2⟩:=zK (λa ha=>mq T ha) (λa ha b hb=>zJ T ha hb) h;have aux:∀ m,∀ k,k<=m->0 < k->↥14 k e=e->∃ j,j<=k/\gm n e j:=by
  intro m
  induction m with
  | zero=>intro k h1 h2;omega
  | succ m ih=>
   intro k h1 h2 h3
   by_cases c:∃ i,0 < i/\i < k/\↥14 i e=e
   ·obtain⟨i,i1,i2,i3⟩:=c;obtain⟨j,j1,j2⟩:=ih i ⋯ i1 i3;exact⟨j,⋯,j2⟩
   ·exact⟨k,An _,h2,h3,λi i1 i2 i3=>c ⟨i,i1,i2,i3⟩⟩
 obtain⟨j,j1,j2⟩:=aux k k (An _) k0 k2;exact⟨j,j2,⋯⟩
def fl(n:Net)(e:End)(k:Nat):List End:=(List.range k).map λi=>↥14 i e
def Sx(n:Net)(e:End)(k:Nat):fl n e (k+1)=fl n e k++[↥14 k e]:=by
 unfold fl;rw[Dk,Al];rfl
def rh(n:Net)(e:End)(k:Nat):(fl n e k).length=k:=by unfold fl;simp
def x4f(n:Net)(e:End){k i:Nat}(h:i < k):(fl n e k)[i]?=some (↥14 i e):=by
 unfold fl;rw[Ah,Dx h];rfl
noncomputable def face(n:Net)(e:End):List End:=fl n e<|jP n e
def q1r{k:Nat}(p:gm n e k)(hk:k<=(ends n).length):dz n e (fl n e k):=
 ⟨by rw[rh];exact p.pos,by rwa[rh],λi hi=>x4f n e (by rwa[rh]at hi),by rw[rh];exact p.back,by rw[rh];exact p.first⟩
def nI(T:aq n)(h:e∈ends n):dz n e (face n e):=by
 obtain⟨k,p,hk⟩:=Sw T h;unfold face;rw[Sv p];exact q1r p hk
def wx(T:aq n)(h:e∈ends n):∀ c∈face n e,c∈ends n:=(nI T h).ends T h
noncomputable def jn(n:Net):List End->List End->List (List End)
 | [],_=>[]
 | e :: r,told=>if e∈told then jn n r told else face n e :: jn n r (told++face n e)
theorem AU{n:Net}(T:aq n):∀es told,(∀ e∈es,e∈ends n)->∀ w∈jn n es told,∃ e∈es,w=face n e/\e∉told
 | [],_,_,w,hw=>by cases hw
 | e :: r,told,h,w,hw=>by
  unfold jn at hw
  split at hw
  ·obtain⟨e',h1,h2⟩:=AU T r told (λa ha=>h a<|Af _ ha) w hw;exact⟨e',Af _ h1,h2⟩
  ·rename_i hn
   rcases Ai.mp hw with rfl | hw
   ·exact⟨e,Ae ..,rfl,hn⟩
   ·obtain⟨e',h1,h2,h3⟩:=AU T r _ (λa ha=>h a<|Af _ ha) w hw;exact⟨e',Af _ h1,h2,λq=>h3<|Bb _ q⟩
theorem Jn(n:Net):∀es told,(jn n es told).length<=es.length
 | [],_=>An _
 | e :: r,told=>by
  unfold jn
  split
  ·have:=Jn n r told;show _<=r.length+1;omega
  ·have:=Jn n r<|told++face n e;show _+1<=r.length+1;omega
noncomputable def ci(n:Net):List (List End):=if ends n=[]then [[]]else jn n (ends n) []
theorem q9j(n:Net):(ci n).length<=(ends n).length+1:=by
 unfold ci
 split
 ·show 1<=_;omega
 ·have:=Jn n (ends n) [];omega
def Sy(T:aq n):∀ w∈ci n,w.length<=(ends n).length/\∀ c∈w,c∈ends n:=λw hw=>by
 unfold ci at hw
 split at hw
 ·rw[Ad.mp hw];exact⟨Bx _,λc h=>by cases h⟩
 ·obtain⟨e,he,rfl,_⟩:=AU T (ends n) [] (λe he=>he) w hw;exact⟨(nI T he).len,wx T he⟩
end Nt
namespace Nt
variable{α β:Type}
def e9(f:α->α):List α->α->α->Prop
 | [],a,b=>a=b
 | x :: l,a,b=>x=a/\e9 f l (f x) b
theorem bN{f:α->α}:∀{l k}{a b},e9 f (l++k) a b↔∃ c,e9 f l a c/\e9 f k c b
 | [],k,a,b=>⟨λh=>⟨a,rfl,h⟩,λ⟨c,e,h⟩=>by cases e;exact h⟩
 | x :: l,k,a,b=>by
  show(x=a/\e9 f (l++k) (f x) b)↔∃ c,(x=a/\e9 f l (f x) c)/\e9 f k c b;rw[bN];exact⟨λ⟨e,c,h1,h2⟩=>⟨c,⟨e,h1⟩,h2⟩,λ⟨c,⟨e,h1⟩,h2⟩=>⟨e,c,h1,h2⟩⟩
theorem Jo{f:α->α}{f':β->β}{g:α->β}:∀{l}{a b},(∀ x∈l,f' (g x)=g (f x))->e9 f l a b->e9 f' (l.map g) (g a) (g b)
 | [],_,_,_,h=>BZ g h
 | x :: l,a,b,hg,h=>⟨BZ g h.1,by rw[hg x Ae];exact Jo (λy hy=>hg y<|Af _ hy) h.2⟩
theorem AV{f:α->α}:∀{l}{x a b y},e9 f (x :: l) a b->y∈x :: l->f y∈l\/f y=b
 | [],x,a,b,y,h,hy=>by
  rw[Ad]at hy;subst hy;exact .inr h.2
 | z :: l,x,a,b,y,h,hy=>by
  rcases Ai.mp hy with rfl | hy
  ·exact .inl<|by rw[<- h.2.1];exact Ae
  ·rcases AV h.2 hy with q | q
   ·exact .inl<|Af _ q
   ·exact .inr q
theorem t7{f:α->α}{l:List α}{a y:α}(h:e9 f l a a)(ha:a∈l)(hy:y∈l):f y∈l:=by
 cases l with
 | nil=>cases hy
 | cons x l=>
  rcases AV h hy with q | q
  ·exact Af _ q
  ·rwa[q]
theorem AW{f:α->α}{f':β->β}{g:α->β}{c:α}{h:β}:∀{l}{x},(∀ y∈x :: l,f y=c->f' (g y)=h)->(∀ y∈x :: l,f y≠c->f' (g y)=g (f y))->c∉l->e9 f (x :: l) x c->e9 f' ((x :: l).map g) (g x) h
 | [],x,h1,_,_,p=>⟨rfl,h1 x Ae p.2⟩
 | y :: l,x,h1,h2,hc,p=>by
  have e:=p.2.1;have ne:f x≠c:=λq=>hc (by rw[<- q,<- e];exact Ae);refine⟨rfl,?_⟩;rw[h2 x Ae ne,<- e];exact AW (λz hz=>h1 z<|Af _ hz) (λz hz=>h2 z<|Af _ hz) (λq=>hc<|Af _ q)<|⟨rfl,p.2.2⟩
structure Dec(f:α->α)(D:List α)(Ls:List<|List α):Prop where
 hU:∀ l∈Ls,∃ a,a∈l/\e9 f l a a
 all:Ls.flatten.Perm D
 nd:D.Nodup
def Dec.sub{f:α->α}{D:List α}{Ls:List (List α)}(d:Dec f D Ls){l:List α}(hl:l∈Ls){x:α}(hx:x∈l):x∈D:=
 d.all.mem_iff.mp (Dw.mpr ⟨l,hl,hx⟩)
def Dec.pick{f:α->α}{D:List α}{Ls:List (List α)}(d:Dec f D Ls){c:α}(hc:c∈D):∃ l Ms,Ls.length=Ms.length+1/\Dec f D ((c :: l) :: Ms):=by
 obtain⟨l,hl,jL⟩:=Dw.mp<|d.all.mem_iff.mpr hc;obtain⟨A,B,rfl⟩:=Fj hl;obtain⟨p,q,rfl⟩:=Fj jL;obtain⟨a,ha,h⟩:=d.hU _ hl;obtain⟨m,h1,h2⟩:=bN.mp h;have e:c=m:=h2.1;subst e;refine⟨q++p,A++B,by simp[Nat.add_assoc],λk hk=>?_,?_,d.nd⟩
 ·rcases Ai.mp hk with rfl | hk
  ·exact⟨c,Ae,bN (l:=c :: q).mpr ⟨a,h2,h1⟩⟩
  ·refine d.hU k ?_
   rcases Am.mp hk with q | q
   ·exact Bb _ q
   ·exact Au _<|Af _ q
 ·refine List.Perm.trans ?_ d.all;simp only[Cr,Ge,Fz];have e1:(c :: (q++p)).Perm (p++c :: q):=by
   rw[<- Fz];exact Cq
  refine((e1.append_right _).trans ?_);rw[<- Ar,<- Ar];exact(Cq).append_right _
def Dec.apart{f:α->α}{D:List α}{l:List α}{Ms:List (List α)}(d:Dec f D<|l :: Ms):l.Nodup/\∀ m∈Ms,∀ x∈l,x∉m:=by
 have h:=d.all.nodup_iff.mpr d.nd;rw[Cr,Co]at h;exact⟨h.1,λm hm x hx Sz=>h.2.2 x hx x (Dw.mpr ⟨m,hm,Sz⟩) rfl⟩
theorem AX{g:α->β}:∀(Ls:List<|List α),(Ls.map<|List.map g).flatten=Ls.flatten.map g
 | []=>rfl
 | l :: Ls=>by rw[Ba,Cr,AX Ls,Cr,Al]
def Dec.rest{f:α->α}{f':β->β}{g:α->β}{D:List α}{l:List α}{Ms:List (List α)}(d:Dec f D<|l :: Ms)(ho:∀ x∈D,f x∉l->f' (g x)=g (f x)):∀ m∈Ms.map (List.map g),∃ a,a∈m/\e9 f' m a a:=by
 intro m hm;obtain⟨k,hk,rfl⟩:=Ak.mp hm;obtain⟨a,ha,p⟩:=d.hU k<|Af _ hk;refine⟨g a,Ak.mpr ⟨a,ha,rfl⟩,Jo (λx hx=>ho x (d.sub (Af _ hk) hx) λq=>?_) p⟩;exact d.apart.2 k hk _ q<|t7 p ha hx
def Dec.grow{f:α->α}{f':β->β}{g:α->β}{D:List α}{c:α}{l:List α}{Ms:List (List α)}(d:Dec f D<|(c :: l) :: Ms){new:List β}{h:β}(hn:e9 f' new h<|g c)(hh:∀ x∈D,f x=c->f' (g x)=h)(ho:∀ x∈D,f x≠c->f' (g x)=g (f x))(nd:(D.map g++new).Nodup) :
  Dec f' (D.map g++new) (((c :: l).map g++new) :: Ms.map (List.map g)):=by
 have ap:=d.apart;have jL:c∉l:=(Bh.mp ap.1).1;refine⟨λk hk=>?_,?_,nd⟩
 ·rcases Ai.mp hk with rfl | hk
  ·obtain⟨a,ha,p⟩:=d.hU _ Ae;have e:c=a:=p.1;subst e;exact⟨g c,Bb _ Ae,bN.mpr ⟨h,AW (λy hy=>hh y<|d.sub Ae hy) (λy hy=>ho y<|d.sub Ae hy) jL p,hn⟩⟩
  ·exact d.rest (λx hx q=>ho x hx λe=>q<|by rw[e];exact Ae) k hk
 ·rw[Cr,AX];have:=d.all.map g;rw[Cr,Al]at this;refine List.Perm.trans ?_<|this.append_right new;rw[Ar,Ar];exact(Cq).append_left _
theorem Dec.split{f:α->α}{f':β->β}{g:α->β}{D:List α}{c d0:α}{l:List α}{Ms:List (List α)}(d:Dec f D<|(c :: l) :: Ms)(hd:d0∈l){e1 e2:β}(h1:f' e1=g d0)(h2:f' e2=g c)(hc:∀ x∈D,f x=c->f' (g x)=e1)(hc2:∀ x∈D,f x=d0->f' (g x)=e2)(ho:∀ x∈D,f x≠c->f x≠d0->f' (g x)=g (f x))(nd:(D.map g++[e1,e2]).Nodup) :
  ∃ Ls,Ls.length=Ms.length+2/\Dec f' (D.map g++[e1,e2]) Ls/\∃ l∈Ls,e2∈l/\e1∉l:=by
 have ap:=d.apart;obtain⟨p,q,rfl⟩:=Fj hd;have Jp:=Bh.mp ap.1;have SA:=Co.mp Jp.2;have ap3:=Bh.mp SA.2.1;have hdp:d0∉p:=λx=>SA.2.2 d0 x d0 Ae rfl;have hcp:c∉p:=λx=>Jp.1<|Bb _ x;have hcq:c∉q:=λx=>Jp.1<|Au _<|Af _ x;obtain⟨a,ha,pp⟩:=d.hU _ Ae;have e:c=a:=pp.1;subst e;obtain⟨m,p1,p2⟩:=(bN (l:=c :: p)).mp pp;have e:d0=m:=p2.1;subst e;have inD:∀ y∈c :: p,y∈D:=λy hy=>d.sub Ae (by
  rcases Ai.mp hy with rfl | hy
  ·exact Ae
  ·exact Af _<|Bb _ hy)
 have wy:∀ y∈d0 :: q,y∈D:=λy hy=>d.sub Ae<|Af _<|Au _ hy;have Jq:=Co.mp nd;have e12:e1≠e2:=λe=>by
  have:=Jq.2.1;rw[e]at this;simp at this
 refine⟨((c :: p).map g++[e2]) :: ((d0 :: q).map g++[e1]) :: Ms.map (List.map g),by simp,⟨λk hk=>?_,?_,nd⟩,_,Ae,Au _<|Ad.mpr rfl,λh=>?_⟩
 ·rcases Ai.mp hk with rfl | hk
  ·refine⟨g c,Bb _ Ae,bN.mpr ⟨e2,AW (λy hy=>hc2 y<|inD y hy) (λy hy ne=>ho y (inD y hy) (λec=>?_) ne) hdp p1,rfl,h2⟩⟩
   rcases AV p1 hy with z | z
   ·exact hcp<|by rwa[<- ec]
   ·exact ne z
  ·rcases Ai.mp hk with rfl | hk
   ·refine⟨g d0,Bb _ Ae,bN.mpr ⟨e1,AW (λy hy=>hc y<|wy y hy) (λy hy ne=>ho y (wy y hy) ne λec=>?_) hcq p2,rfl,h1⟩⟩
    rcases AV p2 hy with z | z
    ·exact ap3.1<|by rwa[<- ec]
    ·exact ne z
   ·exact d.rest (λx hx q=>ho x hx (λe=>q<|by rw[e];exact Ae) λe=>q<|by rw[e];exact Af _<|Au _ Ae) k hk
 ·simp only[Cr,AX];have:=d.all.map g;rw[Cr,Al,<- Fz,Al]at this;refine List.Perm.trans ?_<|this.append_right [e1,e2];generalize (c :: p).map g=A;generalize (d0 :: q).map g=B;generalize Ms.flatten.map g=C
  letI:DecidableEq β:=λa b=>Classical.propDecidable<|a=b
  rw[List.perm_iff_count];intro z;simp only[Ez,Dl,List.count_nil];omega
 ·rcases Am.mp h with h | h
  ·obtain⟨y,hy,e⟩:=Ak.mp h;exact Jq.2.2 e1 (Ak.mpr ⟨y,inD y hy,e⟩) e1 Ae rfl
  ·exact e12<|Ad.mp h
def Dec.more{f:β->β}{D:List β}{Ls:List (List β)}(d:Dec f D Ls){b:β}(hb:f b=b)(nd:(D++[b]).Nodup):Dec f (D++[b]) (Ls++[[b]]):=by
 refine⟨λl hl=>?_,?_,nd⟩
 ·rcases Am.mp hl with h | h
  ·exact d.hU l h
  ·rw[Ad]at h;subst h;exact⟨b,Ae,rfl,hb⟩
 ·rw[Ge];exact d.all.append_right _
def Dec.carry{f:α->α}{f':β->β}{g:α->β}{D:List α}{D':List β}{Ls:List (List α)}(d:Dec f D Ls)(ho:∀ x∈D,f' (g x)=g (f x))(hD:(D.map g).Perm D')(nd:D'.Nodup):Dec f' D' (Ls.map<|List.map g):=by
 refine⟨λm hm=>?_,?_,nd⟩
 ·obtain⟨k,hk,rfl⟩:=Ak.mp hm;obtain⟨a,ha,p⟩:=d.hU k hk;exact⟨g a,Ak.mpr ⟨a,ha,rfl⟩,Jo (λx hx=>ho x<|d.sub hk hx) p⟩
 ·rw[AX];exact(d.all.map g).trans hD
open PySem
theorem nJ{α:Type} [DecidableEq α]:∀{a b:List α},a.Nodup->(∀ z∈a,z∈b)->b.length<=a.length->a.Perm b
 | [],b,_,_,hl=>by
  have:b=[]:=Bv.mp<|Nat.le_zero.mp hl;rw[this]
 | x :: a,b,nd,sub,hl=>by
  have t8:=Bh.mp nd;have hx:=sub x Ae;have pb:=List.perm_cons_erase hx;refine List.Perm.trans ((nJ t8.2 (λz hz=>?_) ?_).cons x) pb.symm
  ·exact(Ft λe=>t8.1<|by rwa[<- e]).mpr<|sub z<|Af _ hz
  ·have:=pb.length_eq;rw[As]at this hl;omega
variable{z:Str}{b:End}{n:Net}
def kS(T:aq n){a:End}(ha:aJ n a≈z)(hb:aJ n b≈z)(ne:a≠b):other n a=b:=by
 obtain⟨h1,_,h3⟩:=dH T ha;obtain⟨p,q,e,_,_⟩:=qJ T ha;have m1:=aK.mpr ha;have m2:=aK.mpr hb;have m3:=aK.mpr h1;rw[e]at m1 m2 m3;simp only[Ai,Cc,GQ]at m1 m2 m3
 rcases m1 with rfl | rfl <;> rcases m2 with rfl | rfl <;> rcases m3 with m3 | m3 <;> first | exact m3 | exact absurd rfl ne | exact absurd m3 h3
def sh(c e:End):End:=if e.1=c.1/\c.2<=e.2 then(e.1,e.2+1)else e
def nK(c e:End):(sh c e).1=e.1:=by unfold sh;split <;> rfl
variable{c:End}
theorem o7{a:End}(h:sh c a=sh c b):a=b:=by
 have h1:a.1=b.1:=by rw[<- nK c a,h,nK]
 have h2:=BZ Prod.snd h;unfold sh at h2;refine HJ h1 ?_
 by_cases x:a.1=c.1/\c.2<=a.2
 ·rw[BP x]at h2
  by_cases y:b.1=c.1/\c.2<=b.2
  ·rw[BP y]at h2;exact Nat.succ.inj h2
  ·rw[BL y]at h2;have h2:a.2+1=b.2:=h2;exact absurd ⟨h1 ▸ x.1,⋯⟩ y
 ·rw[BL x]at h2
  by_cases y:b.1=c.1/\c.2<=b.2
  ·rw[BP y]at h2;have h2:a.2=b.2+1:=h2;exact absurd ⟨h1 ▸ y.1,⋯⟩ x
  ·rwa[BL y]at h2
theorem o8(c e:End):sh c e≠c:=by
 intro h;have h1:e.1=c.1:=by rw[<- nK c e,h]
 have h2:=BZ Prod.snd h;unfold sh at h2
 by_cases x:e.1=c.1/\c.2<=e.2
 ·rw[BP x]at h2;have h2:e.2+1=c.2:=h2;omega
 ·rw[BL x]at h2;exact x ⟨h1,⋯⟩
variable{e:End}
theorem t9(hc:c.1 < n.length)(hp:c.2<=(row n c.1).length)(i:Nat):(row (ins n c z) i).length=if c.1=i then(row n i).length+1 else(row n i).length:=by
 rw[tT n c z i hc]
 by_cases h:c.1=i
 ·subst h;rw[BP rfl,BP rfl,Ag,As,Br,Du];omega
 ·rw[BL h,BL h]
theorem Jr(hc:c.1 < n.length)(hp:c.2<=(row n c.1).length):aJ (ins n c z) c≈z:=by
 unfold aJ;rw[tT n c z c.1 hc,BP rfl,Bd (by rw[Br];omega),Br,show c.2 - min c.2 (row n c.1).length=0 by omega];rfl
theorem ua(hc:c.1 < n.length)(hp:c.2<=(row n c.1).length)(e:End):aJ (ins n c z) (sh c e)=aJ n e:=by
 unfold aJ;rw[nK,tT n c z e.1 hc];unfold sh
 by_cases h:c.1=e.1
 ·rw[BP h]
  by_cases k:c.2<=e.2
  ·rw[BP ⟨h.symm,k⟩,Bd (by rw[Br];show _<=e.2+1;omega),Br];show(z :: (row n e.1).drop c.2)[e.2+1 - min c.2 (row n e.1).length]?=_;rw[<- h,show e.2+1 - min c.2 (row n c.1).length=(e.2 - c.2)+1 by omega,Ee,Gn,show c.2+(e.2 - c.2)=e.2 by omega]
  ·rw[BL λq=>k q.2,Ax (by rw[Br,<- h];omega),Eb<|⋯]
 ·rw[BL h,BL λq=>h q.1.symm]
theorem o9(hc:c.1 < n.length)(hp:c.2 < (row n c.1).length):left (ins n c z) c=sh c c:=by
 unfold left sh;rw[t9 hc<|Cy hp,BP rfl,BP ⟨rfl,An _⟩,Bz<|⋯]
theorem jo(hc:c.1 < n.length)(hp:c.2 < (row n c.1).length)(he:e.2 < (row n e.1).length):left (ins n c z) (sh c e)=if left n e=c then c else sh c (left n e):=by
 by_cases h:c.1=e.1
 ·have e1:(left n e).1=e.1:=rfl;have e2:(left n e).2=(e.2+1) % (row n e.1).length:=rfl;have q:(left n e=c)↔(e.2+1) % (row n e.1).length=c.2:=⟨λx=>by rw[<- e2,x],λx=>HJ h.symm x⟩;have L:(left (ins n c z) (sh c e))=(e.1,((sh c e).2+1) % ((row n e.1).length+1)):=by
   unfold left;rw[nK,t9 hc<|Cy hp,BP h]
  rw[L];rw[h]at hp;have S:(sh c e).2=if c.2<=e.2 then e.2+1 else e.2:=by
   unfold sh
   by_cases k:c.2<=e.2
   ·rw[BP ⟨h.symm,k⟩,BP k]
   ·rw[BL λq=>k q.2,BL k]
  have S2:sh c (left n e)=(e.1,if c.2<=(e.2+1) % (row n e.1).length then(e.2+1) % (row n e.1).length+1 else(e.2+1) % (row n e.1).length):=by
   unfold sh
   by_cases k:c.2<=(e.2+1) % (row n e.1).length
   ·rw[BP ⟨h.symm,k⟩,BP k];rfl
   ·rw[BL λq=>k q.2,BL k];rfl
  rw[S,S2];generalize (row n e.1).length=m at *
  by_cases k:e.2+1 < m
  ·rw[Bz k]at q ⊢
   by_cases j:e.2+1=c.2
   ·rw[BP<|q.mpr j,BL ⋯,Bz<|⋯];exact HJ h.symm j
   ·rw[BL λx=>j<|q.mp x]
    by_cases i:c.2<=e.2
    ·rw[BP i,BP ⋯,Bz<|⋯]
    ·rw[BL i,BL ⋯,Bz<|⋯]
  ·have em:e.2+1=m:=⋯
   rw[em,Ef]at q ⊢;rw[BP ⋯,Ef]
   by_cases j:0=c.2
   ·rw[BP<|q.mpr j];exact HJ h.symm j
   ·rw[BL λx=>j<|q.mp x,BL<|⋯]
 ·have ne:left n e≠c:=λx=>h (by rw[<- x];rfl);rw[BL ne];have s1:sh c e=e:=by unfold sh;rw[BL λq=>h q.1.symm]
  have s2:sh c (left n e)=left n e:=by unfold sh;rw[BL λq=>h q.1.symm]
  rw[s1,s2];unfold left;rw[t9 hc<|Cy hp,BL h]
def Pl(n:Net):Prop:=(ag n=[]/\n.length=1)\/∃ Ls,Dec (step n) (ends n) Ls/\2 * (n.length+Ls.length)=(ag n).length+4
structure fb(n m:Net)(g:End->End)(e1 e2:End)(z:Str):Prop where
 dj:∀ e∈ends n,aJ m (g e)=aJ n e
 t1:aJ m e1≈z
 t2:aJ m e2≈z
 inj:∀ a b,g a=g b->a=b
 n1:∀ a∈ends n,g a≠e1
 n2:∀ a∈ends n,g a≠e2
 ne:e1≠e2
 len:(ag m).length=(ag n).length+2
variable{m:Net}{k1 k2:End}
section
variable{g:End->End}{e1 e2:End}
def fb.nd(p:fb n m g e1 e2 z):((ends n).map g++[e1,e2]).Nodup:=by
 rw[Co];refine⟨?_,?_,?_⟩
 ·exact(Dr.mpr<|(kc n).imp λ{a b} h e=>h<|p.inj a b e)
 ·simp[p.ne]
 ·rintro a ha b hb rfl;obtain⟨x,hx,rfl⟩:=Ak.mp ha;simp only[Ai,Cc,GQ]at hb
  rcases hb with h | h
  ·exact p.n1 x hx h
  ·exact p.n2 x hx h
def fb.perm(p:fb n m g e1 e2 z):((ends n).map g++[e1,e2]).Perm (ends m):=by
 refine nJ p.nd (λa ha=>?_)<|by rw[fz,p.len,Ag,Aa,fz];exact An _
 rcases Am.mp ha with h | h
 ·obtain⟨x,hx,rfl⟩:=Ak.mp h;obtain⟨y,hy⟩:=af.mp hx;exact af.mpr ⟨y,by rwa[p.dj x hx]⟩
 ·simp only[Ai,Cc,GQ]at h
  rcases h with rfl | rfl
  ·exact af.mpr ⟨z,p.t1⟩
  ·exact af.mpr ⟨z,p.t2⟩
def fb.aI(p:fb n m g e1 e2 z)(T:aq n)(T':aq m)(he:e∈ends n):other m (g e)=g (↥5):=by
 obtain⟨y,hy⟩:=af.mp he;obtain⟨h1,_,h3⟩:=dH T hy;exact kS T' (by rwa[p.dj e he]) (by rwa[p.dj _<|af.mpr ⟨y,h1⟩]) λh=>h3 (p.inj _ _ h).symm
def fb.o1(p:fb n m g e1 e2 z)(T':aq m):other m e1=e2:=kS T' p.t1 p.t2 p.ne
def fb.o2(p:fb n m g e1 e2 z)(T':aq m):other m e2=e1:=kS T' p.t2 p.t1 p.ne.symm
def Dec.perm{α:Type}{f:α->α}{D D':List α}{Ls:List (List α)}(d:Dec f D Ls)(h:D.Perm D'):Dec f D' Ls:=⟨d.hU,d.all.trans h,h.nodup_iff.mp d.nd⟩
def AY{α:Type}{f:α->α}{l:List α}(h:∀ x∈l,f x∈l){a:α}(ha:a∈l):∀ k,it f k a∈l:=λk=>je h ha k
def Dec.one{α:Type}{f:α->α}{D:List α}{a b:α}{l:List α}{Ms:List (List α)}(d:Dec f D<|(a :: l) :: Ms)(hb:b∈D)(h:(∃ k,it f k a=b)\/∃ k,it f k b=a)(ne:b≠a):b∈l:=by
 have cl:∀ k∈(a :: l) :: Ms,∀ x∈k,f x∈k:=λk hk x hx=>by
  obtain⟨c,hc,p⟩:=d.hU k hk;exact t7 p hc hx
 have hm:b∈a :: l:=by
  rcases h with ⟨k,rfl⟩ | ⟨k,e⟩
  ·exact AY (cl _ Ae) Ae k
  ·obtain⟨j,hj,SD⟩:=Dw.mp<|d.all.mem_iff.mpr hb
   rcases Ai.mp hj with rfl | qz
   ·exact SD
   ·have:=AY (cl j hj) SD k;rw[e]at this;exact absurd this<|d.apart.2 j qz a Ae
 rcases Ai.mp hm with h | h
 ·exact absurd h ne
 ·exact h
theorem q1z(p:fb n m g e1 e2 z)(T:aq n)(T':aq m)(hl:m.length=n.length)(h1:k1∈ends n)(h2:k2∈ends n)(ne:k2≠k1)(same:(∃ k,↥14 k k1=k2)\/∃ k,↥14 k k2=k1)
  (l1:left m e1=g k1) (l2:left m e2=g k2) (lf:∀ e∈ends n,left m (g e)=if left n e=k1 then e1 else if left n e=k2 then e2 else g (left n e)) (P:Pl n):Pl m:=by
 have st:∀ x∈ends n,step m (g x)=if step n x=k1 then e1 else if step n x=k2 then e2 else g (step n x):=λx hx=>by
  unfold step;rw[p.aI T T' hx];exact lf _<|cR T hx
 rcases P with ⟨e,_⟩ | ⟨Ls,d,eu⟩
 ·obtain⟨y,hy⟩:=af.mp h1;have:=eV hy;rw[e]at this;cases this
 ·obtain⟨l,Ms,hL,d⟩:=d.pick h1;have hk:=d.one h2 same ne;obtain⟨SE,hL',d',_⟩:=d.split (f':=step m) (g:=g) hk (e1:=e1) (e2:=e2) (by unfold step;rwa[p.o1 T']) (by unfold step;rwa[p.o2 T'])
   (λx hx e=>by rw[st x hx,BP e]) (λx hx e=>by rw[st x hx,BL (by rw[e];exact ne),BP e]) (λx hx a b=>by rw[st x hx,BL a,BL b]) p.nd
  refine .inr ⟨SE,d'.perm p.perm,?_⟩;have:=p.len;omega
theorem q88(p:fb n m g e1 e2 z)(T:aq n)(T':aq m)(hl:m.length=n.length)(h1:c∈ends n)
  (l1:left m e1=g c) (l2:left m e2=e1) (lf:∀ e∈ends n,left m (g e)=if left n e=c then e2 else g (left n e)) (P:Pl n):Pl m:=by
 have st:∀ x∈ends n,step m (g x)=if step n x=c then e2 else g (step n x):=λx hx=>by
  unfold step;rw[p.aI T T' hx];exact lf _<|cR T hx
 rcases P with ⟨e,_⟩ | ⟨Ls,d,eu⟩
 ·obtain⟨y,hy⟩:=af.mp h1;have:=eV hy;rw[e]at this;cases this
 ·obtain⟨l,Ms,hL,d⟩:=d.pick h1;have nd:=p.nd;have wz:((ends n).map g++[e2]++[e1]).Nodup:=by
   rw[Ar];exact((List.Perm.swap e1 e2 []).append_left _).nodup_iff.mpr nd
  have d1:=d.grow (f':=step m) (g:=g) (new:=[e2]) (h:=e2) ⟨rfl,by unfold step;rwa[p.o2 T']⟩ (λx hx e=>by rw[st x hx,BP e]) (λx hx e=>by rw[st x hx,BL e]) (Co.mp wz).1;have d2:=d1.more (b:=e1) (by unfold step;rwa[p.o1 T']) wz;have pm:((ends n).map g++[e2]++[e1]).Perm (ends m):=by
   refine List.Perm.trans ?_ p.perm;rw[Ar];exact(List.Perm.swap e1 e2 []).append_left _
  refine .inr ⟨_,d2.perm pm,?_⟩;have:=p.len;simp only[Ag,As,Aa,Er];omega
theorem k7l(p:fb n m g e1 e2 z)(T:aq n)(T':aq m)(hl:m.length=n.length+1)(h1:c∈ends n)
  (l1:left m e1=g c) (l2:left m e2=e2) (lf:∀ e∈ends n,left m (g e)=if left n e=c then e1 else g (left n e)) (P:Pl n):Pl m:=by
 have st:∀ x∈ends n,step m (g x)=if step n x=c then e1 else g (step n x):=λx hx=>by
  unfold step;rw[p.aI T T' hx];exact lf _<|cR T hx
 rcases P with ⟨e,_⟩ | ⟨Ls,d,eu⟩
 ·obtain⟨y,hy⟩:=af.mp h1;have:=eV hy;rw[e]at this;cases this
 ·obtain⟨l,Ms,hL,d⟩:=d.pick h1;have s1:step m e1=e2:=by unfold step;rwa[p.o1 T']
  have s2:step m e2=g c:=by unfold step;rwa[p.o2 T']
  have d1:=d.grow (f':=step m) (new:=[e1,e2]) (h:=e1) ⟨rfl,by rw[s1];exact⟨rfl,s2⟩⟩ (λx hx e=>by rw[st x hx,BP e]) (λx hx e=>by rw[st x hx,BL e]) p.nd;refine .inr ⟨_,d1.perm p.perm,?_⟩;have:=p.len;simp only[As,Aa];omega
end
def fJ(h:e∈ends n):e.1 < n.length/\e.2 < (row n e.1).length:=by
 obtain⟨z,hz⟩:=af.mp h;exact⟨cB hz,gk hz⟩
variable{i:Nat}{a:Net}{x:Str×List Str}{pt:Str}
theorem SF(h1:k1.1 < n.length/\k1.2<=(row n k1.1).length)(h2:k2.1 < n.length/\k2.2<=(row n k2.1).length):fb n (ins (ins n k1 z) k2 z) (λe=>sh k2<|sh k1 e) (sh k2 k1) k2 z:=by
 have c2:k2.1 < (ins n k1 z).length:=by rw[iz];exact h2.1
 have p2:k2.2<=(row (ins n k1 z) k2.1).length:=by
  rw[t9 h1.1 h1.2]
  split
  ·have:=h2.2;omega
  ·exact h2.2
 refine⟨λe _=>?_,?_,Jr c2 p2,λa b h=>o7<|o7 h,λa _ h=>o8 k1 a<|o7 h,λa _=>o8 k2 _,o8 k2 k1,?_⟩
 ·show aJ _ (sh k2<|sh k1 e)=_;rw[ua c2 p2,ua h1.1 h1.2]
 ·rw[ua c2 p2];exact Jr h1.1 h1.2
 ·rw[(mv _ k2 z c2).length_eq,As,(mv _ k1 z h1.1).length_eq,As]
theorem x2e(T:aq n)(T':aq<|ins (ins n k1 z) k2 z)(h1:k1∈ends n)(h2:k2∈ends n)(ord:k2=k1\/sh k1 k2=k2)(same:(∃ k,↥14 k k1=k2)\/∃ k,↥14 k k2=k1)(P:Pl n):Pl (ins (ins n k1 z) k2 z):=by
 have r1:=fJ h1;have r2:=fJ h2;have p:=SF (z:=z) ⟨r1.1,Cy r1.2⟩ ⟨r2.1,Cy r2.2⟩;have c2:k2.1 < (ins n k1 z).length:=by rw[iz];exact r2.1
 have rl:∀ i,(row n i).length<=(row (ins n k1 z) i).length:=λi=>by
  rw[t9 r1.1<|Cy r1.2]
  split <;> omega
 have p2:=Bq r2.2<|rl _;have p1:=Bq r1.2<|rl _;have hl:(ins (ins n k1 z) k2 z).length=n.length:=by rw[iz,iz]
 have sl:∀ e∈ends n,(sh k1 e).2 < (row (ins n k1 z) (sh k1 e).1).length:=λe he=>by
  obtain⟨y,hy⟩:=af.mp he;exact gk (z:=y)<|by rwa[ua r1.1<|Cy r1.2]
 have l0:left (ins n k1 z) k1=sh k1 k1:=o9 r1.1 r1.2
 by_cases e:k2=k1
 ·subst e;refine q88 p T T' hl h1 ?_ (o9 c2 p2) (λe he=>?_) P
  ·rw[jo c2 p2 p1,l0,BL<|o8 _ _]
  ·show left _ (sh k2<|sh k2 e)=_;rw[jo c2 p2<|sl e he,jo r1.1 r1.2 (fJ he).2]
   by_cases q:left n e=k2
   ·rw[BP q,BP rfl,BP q]
   ·rw[BL q,BL<|o8 _ _,BL q]
 ·have hs:sh k1 k2=k2:=ord.resolve_left e;refine q1z p T T' hl h1 h2 e same ?_ ?_ (λe' he=>?_) P
  ·rw[jo c2 p2 p1,l0,BL λq=>e<|o7 (c:=k1)<|by rw[hs,q]]
  ·show left _ k2=sh k2 (sh k1 k2);rw[hs];exact o9 c2 p2
  ·show left _ (sh k2<|sh k1 e')=if left n e'=k1 then sh k2 k1 else if left n e'=k2 then k2 else sh k2 (sh k1<|left n e');rw[jo c2 p2<|sl e' he,jo r1.1 r1.2 (fJ he).2]
   by_cases q:left n e'=k1
   ·rw[BP q,BP q,BL λx=>e x.symm]
   ·rw[BL q,BL q]
    by_cases q2:left n e'=k2
    ·rw[BP q2,q2,hs,BP rfl]
    ·rw[BL q2,BL λx=>q2<|o7 (c:=k1)<|by rw[x,hs]]
def pc{b:Net}(h:i < a.length):row (a++b) i=row a i:=by
 unfold row;rw[Ax h]
def AZ:row (a++[x]) a.length=x.2:=by
 unfold row;rw[Bd<|An _];simp
def SG(h1:c.1 < n.length/\c.2<=(row n c.1).length):fb n (ins n c z++[(pt,[z])]) (sh c) c (n.length,0) z:=by
 have la:∀ e:End,e.1 < n.length->aJ (ins n c z++[(pt,[z])]) e=aJ (ins n c z) e:=λe he=>by
  unfold aJ;rw[pc<|by rwa[iz]]
 refine⟨λe he=>?_,?_,?_,λa b h=>o7 h,λa _=>o8 c a,λa ha h=>?_,λh=>?_,?_⟩
 ·rw[la _ (by rw[nK];exact(fJ he).1),ua h1.1 h1.2]
 ·rw[la _ h1.1,Jr h1.1 h1.2]
 ·unfold aJ;have:=AZ (a:=ins n c z) (x:=(pt,[z]));rw[iz]at this;show(row _ n.length)[0]?=_;rw[this];rfl
 ·have:=(fJ ha).1;rw[<- nK c a,h]at this;exact absurd this<|De _
 ·have:=h1.1;rw[h]at this;exact absurd this<|De _
 ·unfold ag;rw[Dp,Ag];have:=(mv _ c z h1.1).length_eq;unfold ag at this;rw[this];rfl
def q36(T:aq n)(T':aq<|ins n c z++[(pt,[z])])(h1:c∈ends n)(P:Pl n):Pl (ins n c z++[(pt,[z])]):=by
 have r1:=fJ h1;have p:=SG (z:=z) (pt:=pt) ⟨r1.1,Cy r1.2⟩;have la:∀ e:End,e.1 < n.length->left (ins n c z++[(pt,[z])]) e=left (ins n c z) e:=λe he=>by
  unfold left;rw[pc<|by rwa[iz]]
 refine k7l p T T' (by rw[Ag,iz];rfl) h1 ?_ ?_ (λe he=>?_) P
 ·rw[la _ r1.1];exact o9 r1.1 r1.2
 ·unfold left;have:=AZ (a:=ins n c z) (x:=(pt,[z]));rw[iz]at this;show(n.length,(0+1) % (row _ n.length).length)=_;rw[this];exact BZ (Prod.mk _)<|Ef 1
 ·rw[la _<|by rw[nK];exact(fJ he).1];exact jo r1.1 r1.2 (fJ he).2
def SH{e1 e2:End}(T':aq m)(hE:ends m=[e1,e2])(t1:aJ m e1≈z)(t2:aJ m e2≈z)(ne:e1≠e2)
  (h:(m.length=2/\left m e1=e1/\left m e2=e2)\/(m.length=1/\left m e1=e2/\left m e2=e1)):Pl m:=by
 have o1:=kS T' t1 t2 ne;have o2:=kS T' t2 t1 ne.symm;have hl:(ag m).length=2:=by rw[<- fz,hE];rfl
 have nd:[e1,e2].Nodup:=by simp[ne]
 rcases h with ⟨hm,l1,l2⟩ | ⟨hm,l1,l2⟩
 ·refine .inr ⟨[[e1,e2]],?_,by rw[hm,hl];rfl⟩;rw[hE];refine⟨λl hl=>?_,List.Perm.refl _,nd⟩;rw[Ad]at hl;subst hl;refine⟨e1,Ae,rfl,?_⟩;unfold step;rw[o1,l2];exact⟨rfl,by show left m (other m e2)=e1;rw[o2,l1]⟩
 ·refine .inr ⟨[[e1],[e2]],?_,by rw[hm,hl];rfl⟩;rw[hE];refine⟨λl hl=>?_,List.Perm.refl _,nd⟩;simp only[Ai,Cc,GQ]at hl
  rcases hl with rfl | rfl
  ·exact⟨e1,Ae,rfl,by show left m (other m e1)=e1;rw[o1,l2]⟩
  ·exact⟨e2,Ae,rfl,by show left m (other m e2)=e2;rw[o2,l1]⟩
def q1s{nm:Str}(T':aq [(nm,[z]),(pt,[z])]):Pl [(nm,[z]),(pt,[z])]:=
 SH (e1:=(0,0)) (e2:=(1,0)) T' rfl rfl rfl ∅ (.inl ⟨rfl,by simp[left,row],by simp[left,row]⟩)
def q6i{nm:Str}(T':aq [(nm,[z,z])]):Pl [(nm,[z,z])]:=
 SH (e1:=(0,0)) (e2:=(0,1)) T' rfl rfl rfl ∅ (.inr ⟨rfl,by simp[left,row],by simp[left,row]⟩)
def q2s{g:End->End}(T:aq n)(T':aq m)(hl:m.length=n.length)(ht:(ag m).length=(ag n).length)(dj:∀ e∈ends n,aJ m (g e)=aJ n e)(inj:∀ a∈ends n,∀ b∈ends n,g a=g b->a=b)
  (lf:∀ e∈ends n,left m (g e)=g (left n e)) (P:Pl n):Pl m:=by
 rcases P with ⟨e,h⟩ | ⟨Ls,d,eu⟩
 ·exact .inl ⟨Bv.mp (by rw[ht,e];rfl),by rw[hl,h]⟩
 ·have nd:((ends n).map g).Nodup:=by
   have:∀(l:List End),(∀ x∈l,x∈ends n)->l.Nodup->(l.map g).Nodup:=by
    intro l
    induction l with
    | nil=>intro _ _;exact Cd
    | cons x l ih=>
     intro hs h;have h:=Bh.mp h;rw[Ba];refine Bh.mpr ⟨λhx=>?_,ih (λy hy=>hs y<|Af _ hy) h.2⟩;obtain⟨y,hy,e⟩:=Ak.mp hx;have:=inj y (hs y<|Af _ hy) x (hs x Ae) e;exact h.1<|this ▸ hy
   exact this _ (λx hx=>hx)<|kc n
  have pm:((ends n).map g).Perm (ends m):=by
   refine nJ nd (λa ha=>?_) (by rw[Aa,fz,fz,ht];exact An _);obtain⟨x,hx,rfl⟩:=Ak.mp ha;obtain⟨y,hy⟩:=af.mp hx;exact af.mpr ⟨y,by rwa[dj x hx]⟩
  refine .inr ⟨_,d.carry (f':=step m) (g:=g) (λx hx=>?_) pm<|kc m,by rwa[Aa,hl,ht]⟩;obtain⟨y,hy⟩:=af.mp hx;obtain⟨h1,_,h3⟩:=dH T hy;have ho:other n x∈ends n:=af.mpr ⟨y,h1⟩;have:other m (g x)=g (other n x):=kS T' (by rwa[dj x hx]) (by rwa[dj _ ho]) λh=>h3 (inj _ hx _ ho h).symm;unfold step;rw[this];exact lf _ ho
def ph(i len q:Nat):Nat:=if i<=q then q - i else q+len - i
def eJ(N j i len:Nat)(e:End):End:=if e.1 < j then e else if e.1=j then(N - 1,ph i len e.2) else(e.1 - 1,e.2)
variable{j:Nat}
theorem SK(hj:j < a.length)(r:Nat)(hr:r < a.length):row (a.eraseIdx j++[x]) (if r < j then r else if r=j then a.length - 1 else r - 1)=if r=j then x.2 else row a r:=by
 have le:(a.eraseIdx j).length=a.length - 1:=by rw[Dg,BP hj]
 by_cases h1:r < j
 ·rw[BP h1,BL ⋯,pc<|by rw[le];omega];unfold row;rw[Gu,BP h1]
 ·rw[BL h1]
  by_cases h2:r=j
  ·rw[BP h2,BP h2,<- le,AZ]
  ·rw[BL h2,BL h2,pc<|by rw[le];omega];unfold row;rw[Gu,BL ⋯,show r - 1+1=r by omega]
theorem q3t{len q:Nat}(hi:i < len)(hq:q < len):(ph i len q+1) % len=ph i len ((q+1) % len):=by
 unfold ph
 by_cases k:q+1 < len
 ·rw[Bz k]
  by_cases h:i<=q
  ·rw[BP h,BP ⋯,Bz<|⋯];omega
  ·rw[BL h]
   by_cases h2:q+1=i
   ·rw[BP ⋯,show q+len - i+1=len by omega,Ef];omega
   ·rw[BL ⋯,Bz<|⋯];omega
 ·have e:q+1=len:=⋯
  rw[e,Ef,BP<|⋯]
  by_cases h:i=0
  ·rw[BP ⋯,show q - i+1=len by omega,Ef];omega
  ·rw[BL ⋯,Bz<|⋯];omega
theorem q97{l:Ð}{q:Nat}(hi:i < l.length)(hq:q < l.length):(l.drop i++l.take i)[ph i l.length q]?=l[q]?:=by
 unfold ph
 by_cases h:i<=q
 ·rw[BP h,Ax (by rw[Du];omega),Gn,show i+(q - i)=q by omega]
 ·rw[BL h,Bd (by rw[Du];omega),Du,Eb ⋯,show q+l.length - i - (l.length - i)=q by omega]
theorem SL{x:Str}(hj:j < a.length)(hi:i < max 1 (row a j).length):∃ g:End->End,(∀ e∈ends a,aJ (a.eraseIdx j++[(x,(row a j).drop i++(row a j).take i)]) (g e)=aJ a e)/\(∀ b∈ends a,∀ c∈ends a,g b=g c->b=c) /\
  ∀ e∈ends a,left (a.eraseIdx j++[(x,(row a j).drop i++(row a j).take i)]) (g e)=g (left a e):=by
 have fst:∀ e:End,(eJ a.length j i (row a j).length e).1=if e.1 < j then e.1 else if e.1=j then a.length - 1 else e.1 - 1:=λe=>by
  unfold eJ
  by_cases h:e.1 < j
  ·rw[BP h,BP h]
  ·rw[BL h,BL h]
   by_cases h2:e.1=j
   ·rw[BP h2,BP h2]
   ·rw[BL h2,BL h2]
 have snd:∀ e:End,(eJ a.length j i (row a j).length e).2=if e.1=j then ph i (row a j).length e.2 else e.2:=λe=>by
  unfold eJ
  by_cases h:e.1 < j
  ·rw[BP h,BL<|⋯]
  ·rw[BL h]
   by_cases h2:e.1=j
   ·rw[BP h2,BP h2]
   ·rw[BL h2,BL h2]
 have SR:∀ e:End,e.1 < a.length->row (a.eraseIdx j++[(x,(row a j).drop i++(row a j).take i)]) (eJ a.length j i (row a j).length e).1=if e.1=j then(row a j).drop i++(row a j).take i else row a e.1:=λe he=>by
  rw[fst,SK hj e.1 he]
 refine⟨eJ a.length j i (row a j).length,λe he=>?_,λb hb c hc h=>?_,λe he=>?_⟩
 ·have r:=fJ he;unfold aJ;rw[SR e r.1,snd]
  by_cases h:e.1=j
  ·rw[BP h,BP h,<- h,q97 (by have:=hi;rw[<- h]at this;omega) r.2]
  ·rw[BL h,BL h]
 ·have rb:=fJ hb;have rc:=fJ hc;have h1:=BZ Prod.fst h;have h2:=BZ Prod.snd h;rw[fst,fst]at h1;rw[snd,snd]at h2
  by_cases p:b.1=j
  ·by_cases q:c.1=j
   ·rw[BP p,BP q]at h2;refine HJ (by rw[p,q]) ?_;have rb:=rb.2;have rc:=rc.2;rw[p]at rb;rw[q]at rc;unfold ph at h2
    by_cases u:i<=b.2
    ·rw[BP u]at h2
     by_cases v:i<=c.2
     ·rw[BP v]at h2;omega
     ·rw[BL v]at h2;omega
    ·rw[BL u]at h2
     by_cases v:i<=c.2
     ·rw[BP v]at h2;omega
     ·rw[BL v]at h2;omega
   ·exfalso
    rw[BL ⋯,BP p]at h1;have:=rc.1
    by_cases u:c.1 < j
    ·rw[BP u]at h1;omega
    ·rw[BL u,BL q]at h1;omega
  ·by_cases q:c.1=j
   ·exfalso
    have:=rb.1;rw[BL (show ¬ c.1 < j by omega),BP q]at h1
    by_cases u:b.1 < j
    ·rw[BP u]at h1;omega
    ·rw[BL u,BL p]at h1;omega
   ·rw[BL p,BL q]at h2;refine HJ ?_ h2;rw[BL p,BL q]at h1
    by_cases u:b.1 < j
    ·rw[BP u]at h1
     by_cases v:c.1 < j
     ·rwa[BP v]at h1
     ·rw[BL v]at h1;omega
    ·rw[BL u]at h1
     by_cases v:c.1 < j
     ·rw[BP v]at h1;omega
     ·rw[BL v]at h1;omega
 ·have r:=fJ he;have L1:(left a e).1=e.1:=rfl;have L2:(left a e).2=(e.2+1) % (row a e.1).length:=rfl;refine HJ ?_ ?_
  ·show(eJ a.length j i (row a j).length e).1=(eJ a.length j i (row a j).length<|left a e).1;rw[fst,fst,L1]
  ·show((eJ a.length j i (row a j).length e).2+1) % (row _ (eJ a.length j i (row a j).length e).1).length=(eJ a.length j i (row a j).length<|left a e).2;rw[SR e r.1,snd,snd,L1,L2]
   by_cases h:e.1=j
   ·rw[BP h,BP h,BP h,Ag,Du,Br];have r2:=r.2;rw[h]at r2 ⊢;rw[show(row a j).length - i+min i (row a j).length=(row a j).length by omega];exact q3t ⋯ r2
   ·rw[BL h,BL h,BL h]
theorem x2n{x:Str}(hj:j < a.length)(hi:i < max 1 (row a j).length)(T:aq a) (T':aq<|a.eraseIdx j++[(x,(row a j).drop i++(row a j).take i)])
  (ht:(ag<|a.eraseIdx j++[(x,(row a j).drop i++(row a j).take i)]).length=(ag a).length) (P:Pl a):Pl (a.eraseIdx j++[(x,(row a j).drop i++(row a j).take i)]):=by
 obtain⟨g,h1,h2,h3⟩:=SL hj hi;exact q2s T T' (by rw[Ag,Dg,BP hj,Dc];omega) ht h1 h2 h3 P
theorem SU{α:Type}(f:α->α)(a:α):∀ k,it f k (f a)=it f (k+1) a
 | 0=>rfl
 | k+1=>by show f (it f k<|f a)=f (it f (k+1) a);rw[SU f a k]
theorem Js{α:Type}{f:α->α}:∀{l}{a b x},e9 f l a b->x∈l->∃ k,it f k a=x
 | y :: l,a,b,x,h,hx=>by
  rcases Ai.mp hx with rfl | hx
  ·exact⟨0,h.1.symm⟩
  ·obtain⟨k,e⟩:=Js h.2 hx;refine⟨k+1,?_⟩;rwa[<- SU,<- h.1]
theorem Dec.unique{α:Type} [DecidableEq α] {f:α->α}:∀{Ls Ms}{D},Dec f D Ls->Dec f D Ms->Ls.length=Ms.length
 | [],Ms,D,d,d'=>by
  have e:=List.Perm.eq_nil d.all.symm;subst e;cases Ms with
  | nil=>rfl
  | cons m Ms=>
   obtain⟨a,ha,_⟩:=d'.hU m Ae;have:=d'.sub Ae ha;cases this
 | l :: Ls,Ms,D,d,d'=>by
  obtain⟨c,hc,p⟩:=d.hU l Ae;obtain⟨l',SV,hL,A0⟩:=d'.pick<|d.sub Ae hc;obtain⟨c',bj,p'⟩:=A0.hU _ Ae;have e:=p'.1;subst e;have s1:∀ x∈l,x∈c :: l':=λx hx=>by
   obtain⟨k,rfl⟩:=Js p hx;exact AY (λy hy=>t7 p' bj hy) bj k
  have s2:∀ x∈c :: l',x∈l:=λx hx=>by
   obtain⟨k,rfl⟩:=Js p' hx;exact AY (λy hy=>t7 p hc hy) hc k
  have pm:l.Perm (c :: l'):=nJ d.apart.1 s1<|aU A0.apart.1 s2;have q:Ls.flatten.Perm SV.flatten:=by
   have h1:=d.all.trans A0.all.symm;rw[Cr,Cr]at h1;exact(List.perm_append_left_iff l).mp<|h1.trans<|pm.symm.append_right _
  have nd:=d.all.nodup_iff.mpr d.nd;rw[Cr,Co]at nd;have:=Dec.unique (Ls:=Ls) (Ms:=SV) (D:=Ls.flatten) ⟨λk hk=>d.hU k<|Af _ hk,List.Perm.refl _,nd.2.1⟩ ⟨λk hk=>A0.hU k<|Af _ hk,q.symm,nd.2.1⟩;rw[As,this,hL]
theorem SW(n:Net)(e:End):∀ k,e9 (step n) (fl n e k) e<|↥14 k e
 | 0=>rfl
 | k+1=>by
  rw[Sx];exact bN.mpr ⟨_,SW n e k,rfl,rfl⟩
def wA(T:aq n)(h:e∈ends n):e∈face n e/\e9 (step n) (face n e) e e:=by
 have f:=nI T h;have h0:=f.at' 0 f.pos;refine⟨Ao h0,?_⟩;have:=SW n e<|jP n e;have e2:face n e=fl n e (jP n e):=rfl;have hl:(face n e).length=jP n e:=by rw[e2,rh]
 rwa[<- hl,f.back,hl]at this
theorem k9w(T:aq n)(h:e∈ends n):∀ i j,↥14 i e=↥14 (i+j) e->↥14 j e=e:=by
 have hf:∀ a∈ends n,step n a∈ends n:=λa ha=>mq T ha;intro i
 induction i with
 | zero=>intro j e;rw[Ex]at e;exact e.symm
 | succ i ih=>
  intro j e;refine ih j ?_;rw[show i+1+j=(i+j)+1 by omega]at e;exact zJ T (je hf h i) (je hf h<|i+j) e
theorem k7b(T:aq n)(h:e∈ends n):(face n e).Nodup:=by
 have f:=nI T h;unfold List.Nodup;rw[Bc];intro i j hi hj eW q;have a:=f.at' i hi;have b:=f.at' j hj;rw[Ab hi]at a;rw[Ab hj]at b;have a:=Option.some.inj a;have b:=Option.some.inj b;rw[q,b]at a;refine f.first (j - i) ⋯ ⋯ (k9w T h i (j - i) ?_);rw[show i+(j - i)=j by omega];exact a.symm
def lx(a b:End):Prop:=a.1 < b.1\/(a.1=b.1/\a.2 < b.2)
theorem SY(r:Nat):∀ts p,((bF r ts p).map (·.2)).Pairwise lx
 | [],p=>List.Pairwise.nil
 | t :: ts,p=>by
  show(((r,p):End) :: (bF r ts<|p+1).map (·.2)).Pairwise lx;refine List.Pairwise.cons (λb hb=>?_)<|SY r ts<|p+1;obtain⟨⟨z,e⟩,hx,rfl⟩:=Ak.mp hb;obtain⟨h1,h2,_⟩:=bf.mp hx;exact .inr ⟨h1.symm,by show p < e.2;omega⟩
theorem SZ:∀n k,((fv k n).map (·.2)).Pairwise lx
 | [],k=>List.Pairwise.nil
 | a :: n,k=>by
  unfold fv;rw[Al,Fv];refine⟨SY k a.2 0,SZ n<|k+1,λx hx y hy=>?_⟩;obtain⟨⟨z,e⟩,h1,rfl⟩:=Ak.mp hx;obtain⟨⟨z',e'⟩,h2,rfl⟩:=Ak.mp hy;have q1:=(bf.mp h1).1;have q2:=(bM.mp h2).1;exact .inl<|by show e.1 < e'.1;omega
def k3d(n:Net):(ends n).Pairwise lx:=SZ n 0
theorem S0{a:End}(h:lx a b):¬ lx b a:=by
 unfold lx at *;omega
def Told(n:Net)(told:List End):Prop:=∀ x∈told,step n x∈told
variable{told:List End}
def k64(T:aq n)(hc:Told n told)(h:e∈ends n)(hn:e∉told):∀ c∈face n e,c∉told:=by
 intro c hcf hct;obtain⟨he,p⟩:=wA T h;obtain⟨A,B,q⟩:=Fj hcf;rw[q]at p;obtain⟨m,p1,p2⟩:=bN.mp p;have e1:=p2.1;subst e1;have:∀l a b,e9 (step n) l a b->a∈told->b∈told:=by
  intro l
  induction l with
  | nil=>intro a b h ha;rwa[<- (show a=b from h)]
  | cons x l ih=>intro a b h ha;exact ih _ _ h.2<|hc _<|h.1 ▸ ha
 exact hn<|this _ _ _ p2 hct
def q1d(T:aq n)(hc:Told n told)(h:e∈ends n):Told n (told++face n e):=by
 intro x hx
 rcases Am.mp hx with q | q
 ·exact Bb _<|hc x q
 ·obtain⟨he,p⟩:=wA T h;exact Au _<|t7 p he q
structure wB(n:Net)(es told:List End)(Fs:List<|List End):Prop where
 face:∀ w∈Fs,∃ e∈es,w=Nt.face n e/\e∈ends n/\∀ c∈w,¬ lx c e
 cov:∀ e∈es,e∈told\/∃ w∈Fs,e∈w
 nd:Fs.flatten.Nodup
 out:∀ w∈Fs,∀ c∈w,c∉told
 ord:Fs.Pairwise λv w=>∀ a b,v[0]?≈a->w[0]?≈b->lx a b
theorem Jt{n:Net}(T:aq n):∀es told pre,ends n=pre++es->(∀ x∈pre,x∈told)->Told n told->wB n es told (jn n es told)
 | [],told,pre,_,_,_=>by
  unfold jn;exact⟨λw hw=>(nomatch hw),λe he=>(nomatch he),Cd,λw hw=>(nomatch hw),List.Pairwise.nil⟩
 | e :: r,told,pre,hE,hp,hc=>by
  have S6:ends n=(pre++[e])++r:=by rw[hE,Ar];rfl
  have he:e∈ends n:=by rw[hE];exact Au _ Ae
  have gL:=k3d n;rw[hE,Fv]at gL;have aX:=(Ct.mp gL.2.1).1;unfold jn
  split
  ·rename_i ht;have I:=Jt T r told (pre++[e]) S6 (λx hx=>by
    rcases Am.mp hx with q | q
    ·exact hp x q
    ·rw[Ad]at q;rwa[q]) hc
   exact⟨λw hw=>by obtain⟨a,h1,h2⟩:=I.face w hw;exact⟨a,Af _ h1,h2⟩,λx hx=>by
    rcases Ai.mp hx with rfl | hx
    ·exact .inl ht
    ·exact I.cov x hx,I.nd,I.out,I.ord⟩
  ·rename_i ht;have fp:=wA T he;have ap:=k64 T hc he ht;have I:=Jt T r (told++face n e) (pre++[e]) S6 (λx hx=>by
    rcases Am.mp hx with q | q
    ·exact Bb _<|hp x q
    ·rw[Ad]at q;rw[q];exact Au _ fp.1)<|q1d T hc he
   refine⟨λw hw=>?_,λx hx=>?_,?_,λw hw c ri=>?_,?_⟩
   ·rcases Ai.mp hw with rfl | hw
    ·refine⟨e,Ae,rfl,he,λc ri q=>?_⟩;have h1:=wx T he c ri;rw[hE]at h1
     rcases Am.mp h1 with h1 | h1
     ·exact ap c ri<|hp c h1
     ·rcases Ai.mp h1 with rfl | h1
      ·exact S0 q q
      ·exact S0 q<|aX c h1
    ·obtain⟨a,h1,h2⟩:=I.face w hw;exact⟨a,Af _ h1,h2⟩
   ·rcases Ai.mp hx with rfl | hx
    ·exact .inr ⟨_,Ae,fp.1⟩
    ·rcases I.cov x hx with q | ⟨w,h1,h2⟩
     ·rcases Am.mp q with q | q
      ·exact .inl q
      ·exact .inr ⟨_,Ae,q⟩
     ·exact .inr ⟨w,Af _ h1,h2⟩
   ·rw[Cr,Co];refine⟨k7b T he,I.nd,λa ha b hb q=>?_⟩;obtain⟨w,hw,hbw⟩:=Dw.mp hb;exact I.out w hw b hbw<|Au _<|q ▸ ha
   ·rcases Ai.mp hw with rfl | hw
    ·exact ap c ri
    ·exact λq=>I.out w hw c ri<|Bb _ q
   ·refine List.Pairwise.cons (λw hw a b ha hb=>?_) I.ord;obtain⟨e',h1,rfl,h2,_⟩:=I.face w hw;have f1:=(nI T he).at' 0 (nI T he).pos;have f2:=(nI T h2).at' 0 (nI T h2).pos;rw[ha]at f1;rw[hb]at f2;rw[Option.some.inj f1,Option.some.inj f2];exact aX e' h1
def Ju(T:aq n)(h0:ends n≠[]):wB n (ends n) [] (ci n):=by
 unfold ci;rw[BL h0];exact Jt T (ends n) [] [] rfl (λx hx=>by cases hx) (λx hx=>by cases hx)
def Jv(T:aq n)(h0:ends n≠[]):Dec (step n) (ends n) (ci n):=by
 have g:=Ju T h0;refine⟨λl hl=>?_,?_,kc n⟩
 ·obtain⟨e,_,rfl,he,_⟩:=g.face l hl;exact⟨e,wA T he⟩
 ·refine nJ g.nd (λz hz=>?_)<|aU (kc n) λz hz=>?_
  ·obtain⟨w,hw,hzw⟩:=Dw.mp hz;obtain⟨e,_,rfl,he,_⟩:=g.face w hw;exact wx T he z hzw
  ·rcases g.cov z hz with q | ⟨w,hw,q⟩
   ·cases q
   ·exact Dw.mpr ⟨w,hw,q⟩
def S7(T:aq n)(F:Full n)(P:Pl n):2 * (n.length+(ci n).length)=(ag n).length+4:=by
 rcases P with ⟨e,h⟩ | ⟨Ls,d,eu⟩
 ·have:ends n=[]:=Bv.mp (by rw[fz,e];rfl);unfold ci;rw[BP this,h,e];rfl
 ·by_cases h0:ends n=[]
  ·have t0:(ag n).length=0:=by rw[<- fz,h0];rfl
   have:Ls=[]:=by
    cases Ls with
    | nil=>rfl
    | cons l Ls=>
     obtain⟨a,ha,_⟩:=d.hU l Ae;have:=d.sub Ae ha;rw[h0]at this;cases this
   subst this
   exfalso
   rcases F with ⟨nm,rfl⟩ | ⟨bD,h⟩
   ·rw[t0]at eu;exact absurd (show 2=4 from eu)<|∅
   ·have hp:=Cu.mpr bD;have hr:=h 0 hp;have:((0,0):End)∈ends n:=af.mpr (vV<|by show 0 < (row n 0).length;exact Cu.mpr hr);rw[h0]at this;cases this
  ·rwa[<- Dec.unique d<|Jv T h0]
def A1(hp:(ag m).Perm<|z :: z :: ag n)(T:aq n)(hz:z∉ag n):aq m:=by
 intro y hy;rw[hp.count_eq,Dl,Dl]
 by_cases e:z=y
 ·subst e;rw[List.count_eq_zero.mpr hz];simp
 ·have hy:=hp.mem_iff.mp hy
  rcases Ai.mp hy with h | hy
  ·exact absurd h.symm e
  ·rcases Ai.mp hy with h | hy
   ·exact absurd h.symm e
   ·rw[T y hy];have:(z == y)=false:=by simpa using e
    rw[this];rfl
theorem ub{nm:Str}(h:fw [(nm,[])] c):c=(0,0):=by
 obtain⟨h1,h2⟩:=h;have h1:c.1 < 1:=h1;have e:c.1=0:=⋯
 have h2:=h2;rw[e]at h2;have h2:c.2 < 1:=h2;exact HJ e<|by show c.2=0;omega
def A2(F:Full n):(∃ nm,n=[(nm,[])])\/row n 0≠[]:=by
 rcases F with h | ⟨h1,h2⟩
 ·exact .inl h
 ·exact .inr<|h2 0<|Cu.mpr h1
def q0l(T:aq n)(F:Full n)(hz:z∉ag n)(hc:fw n c) (hp:(ag<|ins n c z++[(pt,[z])]).Perm<|z :: z :: ag n) (P:Pl n):Pl (ins n c z++[(pt,[z])]):=by
 have T':=A1 hp T hz
 rcases A2 F with ⟨nm,rfl⟩ | h0
 ·have:=ub hc;subst this;exact q1s T'
 ·exact q36 T T' (F.cV h0 hc) P
def q7r(T:aq n)(F:Full n)(hz:z∉ag n)(h1:fw n k1)(h2:fw n k2) (hp:(ag<|ins (ins n k1 z) k2 z).Perm<|z :: z :: ag n) (ord:k2=k1\/sh k1 k2=k2) (same:(∃ k,↥14 k k1=k2)\/∃ k,↥14 k k2=k1) (P:Pl n):Pl (ins (ins n k1 z) k2 z):=by
 have T':=A1 hp T hz
 rcases A2 F with ⟨nm,rfl⟩ | h0
 ·have:=ub h1;subst this;have:=ub h2;subst this;exact q6i T'
 ·exact x2e T T' (F.cV h0 h1) (F.cV h0 h2) ord same P
theorem q3x{a:End}(h:bE.lexLt ((a.1:Int),(a.2:Int)) ((b.1:Int),(b.2:Int))=true):sh b a=a:=by
 unfold bE.lexLt at h;unfold sh;refine BL λq=>?_;rw[BP<|by rw[q.1]]at h;have:=BX h;omega
theorem q2e{a:End}(h:bE.lexLt ((a.1:Int),(a.2:Int)) ((b.1:Int),(b.2:Int))=false):b=a\/sh a b=b:=by
 unfold bE.lexLt at h
 by_cases e:(a.1:Int)=(b.1:Int)
 ·rw[BP e]at h;have h:=IW h
  by_cases e2:a.2=b.2
  ·exact .inl<|HJ ⋯ e2.symm
  ·refine .inr<|BL λq=>?_;omega
 ·exact .inr<|BL λq=>e<|by rw[q.1]
def S8(a b:Net):ag (a++b)=ag a++ag b:=by
 unfold ag;rw[Dp]
theorem q7p{n2 n0:Net}{x:Str}(hj:j < n.length)(hi:i < max 1 (row n j).length)(T0:aq n0)(pt:(ag n++ag n2).Perm<|ag n0)
  (hV:(ag (n.eraseIdx j)++ag (n2++[(x,(row n j).drop i++(row n j).take i)])).Perm<|ag n0) (P:Pl<|n++n2):Pl (n.eraseIdx j++(n2++[(x,(row n j).drop i++(row n j).take i)])):=by
 have tw:∀ m:Net,(ag m).Perm (ag n0)->aq m:=λm p y hy=>by rw[p.count_eq];exact T0 y<|p.mem_iff.mp hy
 rw[<- S8]at pt hV;have er:row (n++n2) j=row n j:=pc hj;have ee:n.eraseIdx j++(n2++[(x,(row n j).drop i++(row n j).take i)])=(n++n2).eraseIdx j++[(x,(row (n++n2) j).drop i++(row (n++n2) j).take i)]:=by
  rw[MK hj,Ar,er]
 rw[ee]at hV ⊢;exact x2n (by rw[Ag];omega) (by rwa[er]) (tw _ pt) (tw _ hV) (by rw[hV.length_eq,pt.length_eq]) P
end Nt
namespace Nt
variable{e c:End}{n:Net}
def q7l{fs:List End}(f:dz n e fs)(h:c∈fs):∃ k,↥14 k e=c:=by
 obtain⟨i,hi,e1⟩:=Ck.mp h;have:=f.at' i hi;rw[Ab hi,e1]at this;exact⟨i,(Option.some.inj this).symm⟩
open PySem
def ao:List Bool->Bool
 | []=>false
 | b :: l=>b ^^ ao l
theorem nN:∀a b,ao (a++b)=(ao a ^^ ao b)
 | [],b=>by simp[ao]
 | x :: a,b=>by
  show(x ^^ ao (a++b))=((x ^^ ao a) ^^ ao b);rw[nN a b,Bool.xor_assoc]
theorem S9{a b:List Bool}(h:a.Perm b):ao a=ao b:=by
 induction h with
 | nil=>rfl
 | cons x _ ih=>show(x ^^ _)=(x ^^ _);rw[ih]
 | swap x y l=>show(y ^^ (x ^^ ao l))=(x ^^ (y ^^ ao l));cases x <;> cases y <;> simp
 | trans _ _ h1 h2=>exact h1.trans h2
theorem fK{α:Type}(f g:α->Bool):∀ l:List α,ao (l.map λx=>f x ^^ g x)=(ao (l.map f) ^^ ao (l.map g))
 | []=>rfl
 | x :: l=>by
  show((f x ^^ g x) ^^ ao (l.map λx=>f x ^^ g x))=((f x ^^ ao (l.map f)) ^^ (g x ^^ ao (l.map g)));rw[fK f g l];cases f x <;> cases g x <;> cases ao (l.map f) <;> cases ao (l.map g) <;> rfl
def cN(n:Net)(s:Str->Bool):Prop:=∀ r,ao ((row n r).map s)=false
structure aY(n:Net)(s:Str->Bool)(χ:End->Bool):Prop where
 go:∀ e∈ends n,χ (step n e)=χ e
 dj:∀ e z,aJ n e≈z->s z=(χ e ^^ χ (↥5))
def RS(n:Net):Prop:=∀ s:Str->Bool,cN n s->∃ χ,aY n s χ
theorem Ta(n:Net)(r:Nat)(s:Str->Bool)(g:End->Bool)(h:∀ p z,(row n r)[p]?≈z->s z=g (r,p)):(row n r).map s=(List.range (row n r).length).map λp=>g (r,p):=by
 apply Dy;intro p;rw[Ah,Ah]
 by_cases hp:p < (row n r).length
 ·rw[Ab hp,Dx hp];exact BZ some<|h p _<|Ab hp
 ·rw[Bg ⋯,Bg<|by simp;omega];rfl
theorem Jw(f:Nat->Bool)(m:Nat):ao ((List.range m).map λp=>f<|(p+1) % m)=ao ((List.range m).map f):=by
 cases m with
 | zero=>rfl
 | succ k=>
  have e:(List.range<|k+1).map (λp=>f<|(p+1) % (k+1))=((List.range k).map λp=>f<|p+1)++[f 0]:=by
   rw[Dk,Al]
   congr 1
   ·refine Ap λp hp=>?_;have:=Bo.mp hp;show f ((p+1) % (k+1))=f (p+1);rw[Bz<|⋯]
   ·simp
  rw[e,List.range_succ_eq_map,Ba,Bs,nN];show _=(f 0 ^^ ao ((List.range k).map<|f ∘ Nat.succ));show(ao ((List.range k).map λp=>f<|p+1) ^^ (f 0 ^^ false))=(f 0 ^^ ao ((List.range k).map λp=>f<|p+1));cases f 0 <;> cases ao ((List.range k).map λp=>f<|p+1) <;> rfl
variable{χ:End->Bool}{s:Str->Bool}
def aY.even(T:aq n)(h:aY n s χ):cN n s:=by
 intro r;rw[Ta n r s (λe=>χ e ^^ χ (↥5)) λp z hz=>h.dj (r,p) z hz];rw[fK (λp=>χ (r,p)) λp=>χ<|other n (r,p)];have e:((List.range (row n r).length).map λp=>χ<|other n (r,p))=(List.range (row n r).length).map λp=>χ (r,(p+1) % (row n r).length):=by
  refine Ap λp hp=>?_;have hp:=Bo.mp hp;obtain⟨z,hz⟩:=vV (e:=(r,p)) hp;obtain⟨h1,h2,_⟩:=dH T hz;have:=h.go (other n (r,p))<|af.mpr ⟨z,h1⟩;rw[<- this];show χ (left n (other n<|other n (r,p)))=_;rw[h2];rfl
 rw[e,Jw λp=>χ (r,p)];cases ao ((List.range (row n r).length).map λp=>χ (r,p)) <;> rfl
variable{ψ:End->Bool}
def aY.xor{t:Str->Bool}(h:aY n s χ)(g:aY n t ψ):aY n (λz=>s z ^^ t z) (λe=>χ e ^^ ψ e):=by
 refine⟨λe he=>?_,λe z hz=>?_⟩
 ·rw[h.go e he,g.go e he]
 ·show(s z ^^ t z)=((χ e ^^ ψ e) ^^ (χ (↥5) ^^ ψ (↥5)));rw[h.dj e z hz,g.dj e z hz];cases χ e <;> cases ψ e <;> cases χ (↥5) <;> cases ψ (↥5) <;> rfl
def cN.xor{t:Str->Bool}(h:cN n s)(g:cN n t):cN n (λz=>s z ^^ t z):=λr=>by
 rw[fK s t,h r,g r];rfl
variable{z:Str}{k1 k2:End}
section
variable{m:Net}{g:End->End}{e1 e2:End}
def fb.mark(p:fb n m g e1 e2 z)(χ:End->Bool)(a:Bool):∃ χ':End->Bool,(∀ e∈ends n,χ' (g e)=χ e)/\χ' e1=a/\χ' e2=a:=by
 refine⟨λx=>if x=e1 then a else if x=e2 then a else match (ends n).find? (λe=>decide (g e=x))with | some e=>χ e | none=>false,λe he=>?_,?_,?_⟩
 ·show(if g e=e1 then a else if g e=e2 then a else match (ends n).find? (λe'=>decide (g e'=g e))with | some e=>χ e | none=>false)=χ e;rw[BL<|p.n1 e he,BL<|p.n2 e he];cases hf:(ends n).find? (λe'=>decide (g e'=g e)) with
  | none=>exact absurd (BW (rfl:g e=g e))<|by simpa using Fh.mp hf e he
  | some e'=>
   have h5:=Hj hf;have h5:=BX h5;rw[p.inj _ _ h5]
 ·simp
 ·simp
def fb.kU(p:fb n m g e1 e2 z)(T:aq n)(T':aq m)(h:aY n s χ)(hz:s z=false){a:Bool}
  (st:∀ x∈ends n,step m (g x)=g (step n x)\/((step m (g x)=e1\/step m (g x)=e2)/\χ (step n x)=a))
  (s1:step m e1=e1\/step m e1=e2\/∃ k∈ends n,step m e1=g k/\χ k=a) (s2:step m e2=e1\/step m e2=e2\/∃ k∈ends n,step m e2=g k/\χ k=a):∃ χ',aY m s χ':=by
 obtain⟨χ',h1,h2,h3⟩:=p.mark χ a;have kW:∀ x∈ends m,(∃ e∈ends n,x=g e)\/x=e1\/x=e2:=λx hx=>by
  have:=p.perm.mem_iff.mpr hx
  rcases Am.mp this with q | q
  ·obtain⟨e,he,rfl⟩:=Ak.mp q;exact .inl ⟨e,he,rfl⟩
  ·simp only[Ai,Cc,GQ]at q;exact .inr q
 refine⟨χ',λx hx=>?_,λx y hy=>?_⟩
 ·rcases kW x hx with ⟨e,he,rfl⟩ | rfl | rfl
  ·rw[h1 e he]
   rcases st e he with q | ⟨q,qa⟩
   ·rw[q,h1 _<|mq T he,h.go e he]
   ·rw[h.go e he]at qa
    rcases q with q | q
    ·rw[q,h2,qa]
    ·rw[q,h3,qa]
  ·rcases s1 with q | q | ⟨k,hk,q,qa⟩
   ·rw[q]
   ·rw[q,h2,h3]
   ·rw[q,h1 k hk,h2,qa]
  ·rcases s2 with q | q | ⟨k,hk,q,qa⟩
   ·rw[q,h2,h3]
   ·rw[q]
   ·rw[q,h1 k hk,h3,qa]
 ·rcases kW x (af.mpr ⟨y,hy⟩)with ⟨e,he,rfl⟩ | rfl | rfl
  ·rw[p.dj e he]at hy;obtain⟨o1,_,_⟩:=dH T hy;rw[p.aI T T' he,h1 e he,h1 _<|af.mpr ⟨y,o1⟩];exact h.dj e y hy
  ·rw[p.t1]at hy;cases hy;rw[p.o1 T',h2,h3,hz];cases a <;> rfl
  ·rw[p.t2]at hy;cases hy;rw[p.o2 T',h2,h3,hz];cases a <;> rfl
def Tc(T':aq m)(hψ:∀ e∈ends m,ψ (step m e)=ψ e)(t1:aJ m e1≈z)(ho:other m e1=e2)(ne:ψ e1≠ψ e2)(h0:∀ s,cN m s->s z=false->∃ χ,aY m s χ):RS m:=by
 intro s hs
 by_cases hz:s z=false
 ·exact h0 s hs hz
 ·have hz:s z=true:=by cases h:s z with | true=>rfl | false=>exact absurd h hz
  let t:Str->Bool:=λy=>match (ends m).find? (λe=>decide (aJ m e≈y))with | some e=>ψ e ^^ ψ (other m e) | none=>false
  have ht:aY m t ψ:=by
   refine⟨hψ,λe y hy=>?_⟩;show(match (ends m).find? (λe=>decide (aJ m e≈y))with | some e=>ψ e ^^ ψ (other m e) | none=>false)=_;cases hf:(ends m).find? (λe=>decide (aJ m e≈y)) with
   | none=>exact absurd (BW hy)<|by simpa using Fh.mp hf e (af.mpr ⟨y,hy⟩)
   | some e'=>
    have h5:=Hj hf;have h':=BX h5
    by_cases q:e'=e
    ·rw[q]
    ·have o1:=kS T' h' hy q;have o2:=kS T' hy h'<|CK q;show(ψ e' ^^ ψ (other m e'))=_;rw[o1,o2];cases ψ e <;> cases ψ e' <;> rfl
  have tz:t z=true:=by
   rw[ht.dj e1 z t1,ho];cases h1:ψ e1 <;> cases h2:ψ e2 <;> simp_all
  obtain⟨χ,hχ⟩:=h0 (λy=>s y ^^ t y) (hs.xor<|ht.even T') (by show(s z ^^ t z)=false;rw[hz,tz];rfl);have:=hχ.xor ht;refine⟨λe=>χ e ^^ ψ e,this.go,λe y hy=>?_⟩;rw[<- this.dj e y hy];show s y=((s y ^^ t y) ^^ t y);cases s y <;> cases t y <;> rfl
def Jx(hc:c.1 < n.length)(hz:s z=false)(r:Nat):ao ((row (ins n c z) r).map s)=ao ((row n r).map s):=by
 rw[tT n c z r hc]
 by_cases h:c.1=r
 ·rw[BP h,Al,Ba,nN];show(ao (((row n r).take c.2).map s) ^^ (s z ^^ ao (((row n r).drop c.2).map s)))=_;rw[hz,Fw,<- nN,<- Al,Cw]
 ·rw[BL h]
def Dec.mark{α:Type} [DecidableEq α] {f:α->α} {D:List α} {Ls:List (List α)} (d:Dec f D Ls) {l:List α} (hl:l∈Ls):∀ x∈D,(f x∈l↔x∈l):=by
 intro x hx;obtain⟨A,B,rfl⟩:=Fj hl;have d':Dec f D (l :: (A++B)):=⟨λk hk=>d.hU k (by
  rcases Ai.mp hk with rfl | hk
  ·exact hl
  ·rcases Am.mp hk with q | q
   ·exact Bb _ q
   ·exact Au _<|Af _ q),by
  refine List.Perm.trans ?_ d.all;rw[Cr,Ge,Ge,Cr,<- Ar,<- Ar];exact(Cq).append_right _,d.nd⟩
 have cl:∀ k∈l :: (A++B),∀ x∈k,f x∈k:=λk hk x hx=>by
  obtain⟨c,hc,p⟩:=d'.hU k hk;exact t7 p hc hx
 by_cases h:x∈l
 ·exact⟨λ_=>h,λ_=>cl l Ae x h⟩
 ·refine⟨λq=>?_,λq=>absurd q h⟩
  exfalso
  obtain⟨k,hk,Td⟩:=Dw.mp<|d'.all.mem_iff.mpr hx
  rcases Ai.mp hk with rfl | qp
  ·exact h Td
  ·exact d'.apart.2 k qp _ q<|cl k hk x Td
theorem Jy{s:Str->Bool}{χ:End->Bool}(T:aq n)(h:aY n s χ){a:End}(ha:a∈ends n):∀ k,χ (↥14 k a)=χ a
 | 0=>rfl
 | k+1=>by
  show χ (step n<|↥14 k a)=_;rw[h.go _<|je (λx hx=>mq T hx) ha k,Jy T h ha k]
def q3s(p:fb n m g e1 e2 z)(T:aq n)(T':aq m)(h1:k1∈ends n)(h2:k2∈ends n)(ne:k2≠k1)(same:(∃ k,↥14 k k1=k2)\/∃ k,↥14 k k2=k1)
  (l1:left m e1=g k1) (l2:left m e2=g k2) (lf:∀ e∈ends n,left m (g e)=if left n e=k1 then e1 else if left n e=k2 then e2 else g (left n e))
  {Ls:List (List End)} (d:Dec (step n) (ends n) Ls) (ev:∀ s,cN m s->s z=false->cN n s) (R:RS n):RS m:=by
 have st:∀ x∈ends n,step m (g x)=if step n x=k1 then e1 else if step n x=k2 then e2 else g (step n x):=λx hx=>by
  unfold step;rw[p.aI T T' hx];exact lf _<|cR T hx
 have s1:step m e1=g k2:=by unfold step;rwa[p.o1 T']
 have s2:step m e2=g k1:=by unfold step;rwa[p.o2 T']
 obtain⟨l,Ms,hL,d⟩:=d.pick h1;have hk:=d.one h2 same ne;obtain⟨SE,hL',d',w,hw,w2,w1⟩:=d.split hk s1 s2
  (λx hx e=>by rw[st x hx,BP e]) (λx hx e=>by rw[st x hx,BL (by rw[e];exact ne),BP e]) (λx hx a b=>by rw[st x hx,BL a,BL b]) p.nd
 have dm:=d'.perm p.perm;refine Tc T' (ψ:=λx=>decide (x∈w)) (λx hx=>decide_eq_decide.mpr<|dm.mark hw x hx) p.t1 (p.o1 T') (by show decide (e1∈w)≠decide (e2∈w);rw[BR w1,BW w2];decide) λs hs hz=>?_;obtain⟨χ,hχ⟩:=R s<|ev s hs hz;have ek:χ k2=χ k1:=by
  rcases same with ⟨k,e⟩ | ⟨k,e⟩
  ·rw[<- e];exact Jy T hχ h1 k
  ·rw[<- e];exact(Jy T hχ h2 k).symm
 refine p.kU T T' hχ hz (a:=χ k1) (λx hx=>?_) (.inr<|.inr ⟨k2,h2,s1,ek⟩)<|.inr<|.inr ⟨k1,h1,s2,rfl⟩;rw[st x hx]
 by_cases c1:step n x=k1
 ·rw[BP c1];exact .inr ⟨.inl rfl,by rw[c1]⟩
 ·rw[BL c1]
  by_cases c2:step n x=k2
  ·rw[BP c2];exact .inr ⟨.inr rfl,by rw[c2,ek]⟩
  ·rw[BL c2];exact .inl rfl
def q8q(p:fb n m g e1 e2 z)(T:aq n)(T':aq m)(h1:c∈ends n)(l1:left m e1=g c)(l2:left m e2=e1)(lf:∀ e∈ends n,left m (g e)=if left n e=c then e2 else g (left n e))
  (ev:∀ s,cN m s->s z=false->cN n s) (R:RS n):RS m:=by
 have st:∀ x∈ends n,step m (g x)=if step n x=c then e2 else g (step n x):=λx hx=>by
  unfold step;rw[p.aI T T' hx];exact lf _<|cR T hx
 have s1:step m e1=e1:=by unfold step;rwa[p.o1 T']
 have s2:step m e2=g c:=by unfold step;rwa[p.o2 T']
 have A3:=af.mpr ⟨z,p.t1⟩;refine Tc T' (ψ:=λx=>decide (x=e1)) (λx hx=>?_) p.t1 (p.o1 T') (by show decide (e1=e1)≠decide (e2=e1);rw[BW rfl,BR p.ne.symm];decide) λs hs hz=>?_
 ·by_cases q:x=e1
  ·rw[q,s1]
  ·show decide (step m x=e1)=decide (x=e1);rw[BR q];exact BR λe=>q<|zJ T' hx A3<|by rw[e,s1]
 obtain⟨χ,hχ⟩:=R s<|ev s hs hz;refine p.kU T T' hχ hz (λx hx=>?_) (.inl s1)<|.inr<|.inr ⟨c,h1,s2,rfl⟩;rw[st x hx]
 by_cases c1:step n x=c
 ·rw[BP c1];exact .inr ⟨.inr rfl,by rw[c1]⟩
 ·rw[BL c1];exact .inl rfl
def q2r(p:fb n m g e1 e2 z)(T:aq n)(T':aq m)(h1:c∈ends n)(l1:left m e1=g c)(l2:left m e2=e2)(lf:∀ e∈ends n,left m (g e)=if left n e=c then e1 else g (left n e))
  (hz:∀ s,cN m s->s z=false) (ev:∀ s,cN m s->s z=false->cN n s) (R:RS n):RS m:=by
 have st:∀ x∈ends n,step m (g x)=if step n x=c then e1 else g (step n x):=λx hx=>by
  unfold step;rw[p.aI T T' hx];exact lf _<|cR T hx
 have s1:step m e1=e2:=by unfold step;rwa[p.o1 T']
 have s2:step m e2=g c:=by unfold step;rwa[p.o2 T']
 intro s hs;have hz:=hz s hs;obtain⟨χ,hχ⟩:=R s<|ev s hs hz;refine p.kU T T' hχ hz (λx hx=>?_) (.inr<|.inl s1)<|.inr<|.inr ⟨c,h1,s2,rfl⟩;rw[st x hx]
 by_cases c1:step n x=c
 ·rw[BP c1];exact .inr ⟨.inl rfl,by rw[c1]⟩
 ·rw[BL c1];exact .inl rfl
end
variable{pt:Str}
theorem x3m(T:aq n)(T':aq<|ins (ins n k1 z) k2 z)(h1:k1∈ends n)(h2:k2∈ends n)(ord:k2=k1\/sh k1 k2=k2)(same:(∃ k,↥14 k k1=k2)\/∃ k,↥14 k k2=k1)(P:Pl n)(R:RS n):RS (ins (ins n k1 z) k2 z):=by
 have r1:=fJ h1;have r2:=fJ h2;have p:=SF (z:=z) ⟨r1.1,Cy r1.2⟩ ⟨r2.1,Cy r2.2⟩;have c2:k2.1 < (ins n k1 z).length:=by rw[iz];exact r2.1
 have rl:∀ i,(row n i).length<=(row (ins n k1 z) i).length:=λi=>by
  rw[t9 r1.1<|Cy r1.2]
  split <;> omega
 have p2:=Bq r2.2<|rl _;have p1:=Bq r1.2<|rl _;have sl:∀ e∈ends n,(sh k1 e).2 < (row (ins n k1 z) (sh k1 e).1).length:=λe he=>by
  obtain⟨y,hy⟩:=af.mp he;exact gk (z:=y)<|by rwa[ua r1.1<|Cy r1.2]
 have l0:left (ins n k1 z) k1=sh k1 k1:=o9 r1.1 r1.2;have ev:∀ s,cN (ins (ins n k1 z) k2 z) s->s z=false->cN n s:=λs hs hz r=>by
  rw[<- Jx r1.1 hz r,<- Jx c2 hz r];exact hs r
 by_cases e:k2=k1
 ·subst e;refine q8q p T T' h1 ?_ (o9 c2 p2) (λe he=>?_) ev R
  ·rw[jo c2 p2 p1,l0,BL<|o8 _ _]
  ·show left _ (sh k2<|sh k2 e)=_;rw[jo c2 p2<|sl e he,jo r1.1 r1.2 (fJ he).2]
   by_cases q:left n e=k2
   ·rw[BP q,BP rfl,BP q]
   ·rw[BL q,BL<|o8 _ _,BL q]
 ·have hs:sh k1 k2=k2:=ord.resolve_left e
  rcases P with ⟨t0,_⟩ | ⟨Ls,d,_⟩
  ·obtain⟨y,hy⟩:=af.mp h1;have:=eV hy;rw[t0]at this;cases this
  refine q3s p T T' h1 h2 e same ?_ ?_ (λe' he=>?_) d ev R
  ·rw[jo c2 p2 p1,l0,BL λq=>e<|o7 (c:=k1)<|by rw[hs,q]]
  ·show left _ k2=sh k2 (sh k1 k2);rw[hs];exact o9 c2 p2
  ·show left _ (sh k2<|sh k1 e')=if left n e'=k1 then sh k2 k1 else if left n e'=k2 then k2 else sh k2 (sh k1<|left n e');rw[jo c2 p2<|sl e' he,jo r1.1 r1.2 (fJ he).2]
   by_cases q:left n e'=k1
   ·rw[BP q,BP q,BL λx=>e x.symm]
   ·rw[BL q,BL q]
    by_cases q2:left n e'=k2
    ·rw[BP q2,q2,hs,BP rfl]
    ·rw[BL q2,BL λx=>q2<|o7 (c:=k1)<|by rw[x,hs]]
theorem q0m(T:aq n)(T':aq<|ins n c z++[(pt,[z])])(h1:c∈ends n)(R:RS n):RS (ins n c z++[(pt,[z])]):=by
 have r1:=fJ h1;have p:=SG (z:=z) (pt:=pt) ⟨r1.1,Cy r1.2⟩;have la:∀ e:End,e.1 < n.length->left (ins n c z++[(pt,[z])]) e=left (ins n c z) e:=λe he=>by
  unfold left;rw[pc<|by rwa[iz]]
 have kX:=AZ (a:=ins n c z) (x:=(pt,[z]));rw[iz]at kX;refine q2r p T T' h1 ?_ ?_ (λe he=>?_) (λs hs=>?_) (λs hs hz r=>?_) R
 ·rw[la _ r1.1];exact o9 r1.1 r1.2
 ·unfold left;show(n.length,(0+1) % (row _ n.length).length)=_;rw[kX];exact BZ (Prod.mk _)<|Ef 1
 ·rw[la _<|by rw[nK];exact(fJ he).1];exact jo r1.1 r1.2 (fJ he).2
 ·have:=hs n.length;rw[kX]at this;have:(s z ^^ false)=false:=this
  simpa using this
 ·by_cases h:r < n.length
  ·have:=hs r;rwa[pc (by rwa[iz]),Jx r1.1 hz r]at this
  ·have:row n r=[]:=by
    unfold row;rw[Bg<|⋯];rfl
   rw[this];rfl
def x0z{nm:Str}:RS [(nm,[])]:=λs _=>⟨λ_=>false,λe he=>rfl,λe y hy=>by
 have:=eV hy;cases this⟩
def k74{nm:Str}(T':aq [(nm,[z]),(pt,[z])]):RS [(nm,[z]),(pt,[z])]:=λs hs=>⟨λ_=>false,λe he=>rfl,λe y hy=>by
 have h:=eV hy;have:y=z:=by simpa[ag]using h
 rw[this];have:=hs 0;have:(s z ^^ false)=false:=this
 simpa using this⟩
def q7e{nm:Str}(T':aq [(nm,[z,z])]):RS [(nm,[z,z])]:=λs _=>by
 have t1:aJ [(nm,[z,z])] (0,0)≈z:=rfl;have t2:aJ [(nm,[z,z])] (0,1)≈z:=rfl;have o1:=kS T' t1 t2 ∅;have o2:=kS T' t2 t1 ∅;have hE:ends [(nm,[z,z])]=[(0,0),(0,1)]:=rfl;refine⟨λe=>decide (e=(0,0)) && s z,λe he=>?_,λe y hy=>?_⟩
 ·rw[hE]at he;simp only[Ai,Cc,GQ]at he
  rcases he with rfl | rfl
  ·show(decide (left [(nm,[z,z])] (other [(nm,[z,z])] (0,0))=(0,0)) && s z)=_;rw[o1];simp[left,row]
  ·show(decide (left [(nm,[z,z])] (other [(nm,[z,z])] (0,1))=(0,0)) && s z)=_;rw[o2];simp[left,row]
 ·have h:=eV hy;have e1:y=z:=by simpa[ag]using h
  have he:=af.mpr ⟨y,hy⟩;rw[hE]at he;simp only[Ai,Cc,GQ]at he;rw[e1]
  rcases he with rfl | rfl
  ·rw[o1];simp
  ·rw[o2];simp
def Fl(n:Net):Prop:=Pl n/\RS n
def x2w{nm:Str}:Fl [(nm,[])]:=⟨.inl ⟨rfl,rfl⟩,x0z⟩
def k9j(T:aq n)(F:Full n)(hz:z∉ag n)(hc:fw n c) (hp:(ag<|ins n c z++[(pt,[z])]).Perm<|z :: z :: ag n) (P:Fl n):Fl (ins n c z++[(pt,[z])]):=by
 refine⟨q0l T F hz hc hp P.1,?_⟩;have T':=A1 hp T hz
 rcases A2 F with ⟨nm,rfl⟩ | h0
 ·have:=ub hc;subst this;exact k74 T'
 ·exact q0m T T' (F.cV h0 hc) P.2
def q8r(T:aq n)(F:Full n)(hz:z∉ag n)(h1:fw n k1)(h2:fw n k2) (hp:(ag<|ins (ins n k1 z) k2 z).Perm<|z :: z :: ag n) (ord:k2=k1\/sh k1 k2=k2) (same:(∃ k,↥14 k k1=k2)\/∃ k,↥14 k k2=k1) (P:Fl n):Fl (ins (ins n k1 z) k2 z):=by
 refine⟨q7r T F hz h1 h2 hp ord same P.1,?_⟩;have T':=A1 hp T hz
 rcases A2 F with ⟨nm,rfl⟩ | h0
 ·have:=ub h1;subst this;have:=ub h2;subst this;exact q7e T'
 ·exact x3m T T' (F.cV h0 h1) (F.cV h0 h2) ord same P.1 P.2
def q4n{m:Net}{g:End->End}(T:aq n)(T':aq m)(ht:(ag m).length=(ag n).length)(dj:∀ e∈ends n,aJ m (g e)=aJ n e)(inj:∀ a∈ends n,∀ b∈ends n,g a=g b->a=b)
  (lf:∀ e∈ends n,left m (g e)=g (left n e)) (ev:∀ s,cN m s->cN n s) (R:RS n):RS m:=by
 have wC:∀ x∈ends m,∃ e∈ends n,x=g e:=by
  have nd:((ends n).map g).Nodup:=by
   have:∀(l:List End),(∀ x∈l,x∈ends n)->l.Nodup->(l.map g).Nodup:=by
    intro l
    induction l with
    | nil=>intro _ _;exact Cd
    | cons x l ih=>
     intro hs h;have h:=Bh.mp h;rw[Ba];refine Bh.mpr ⟨λhx=>?_,ih (λy hy=>hs y<|Af _ hy) h.2⟩;obtain⟨y,hy,e⟩:=Ak.mp hx;have:=inj y (hs y<|Af _ hy) x (hs x Ae) e;exact h.1<|this ▸ hy
   exact this _ (λx hx=>hx)<|kc n
  have pm:((ends n).map g).Perm (ends m):=by
   refine nJ nd (λa ha=>?_) (by rw[Aa,fz,fz,ht];exact An _);obtain⟨x,hx,rfl⟩:=Ak.mp ha;obtain⟨y,hy⟩:=af.mp hx;exact af.mpr ⟨y,by rwa[dj x hx]⟩
  intro x hx;obtain⟨e,he,q⟩:=Ak.mp<|pm.mem_iff.mpr hx;exact⟨e,he,q.symm⟩
 intro s hs;obtain⟨χ,hχ⟩:=R s<|ev s hs
 let χ':End->Bool:=λx=>match (ends n).find? (λe=>decide (g e=x))with | some e=>χ e | none=>false
 have h1:∀ e∈ends n,χ' (g e)=χ e:=λe he=>by
  show(match (ends n).find? (λe'=>decide (g e'=g e))with | some e=>χ e | none=>false)=χ e;cases hf:(ends n).find? (λe'=>decide (g e'=g e)) with
  | none=>exact absurd (BW (rfl:g e=g e))<|by simpa using Fh.mp hf e he
  | some e'=>
   have h5:=Hj hf;have h5:g e'=g e:=BX h5;rw[inj _ (List.mem_of_find?_eq_some hf) _ he h5]
 have aI:∀ e∈ends n,other m (g e)=g (↥5):=λe he=>by
  obtain⟨y,hy⟩:=af.mp he;obtain⟨h1,_,h3⟩:=dH T hy;have ho:↥5∈ends n:=af.mpr ⟨y,h1⟩;exact kS T' (by rwa[dj e he]) (by rwa[dj _ ho]) λh=>h3 (inj _ he _ ho h).symm
 refine⟨χ',λx hx=>?_,λx y hy=>?_⟩
 ·obtain⟨e,he,rfl⟩:=wC x hx;have:step m (g e)=g (step n e):=by
   unfold step;rw[aI e he];exact lf _<|cR T he
  rw[this,h1 _<|mq T he,h1 e he,hχ.go e he]
 ·obtain⟨e,he,rfl⟩:=wC x<|af.mpr ⟨y,hy⟩;rw[dj e he]at hy;rw[aI e he,h1 e he,h1 _<|cR T he];exact hχ.dj e y hy
variable{x:Str}{i:Nat}
theorem x0j{a:Net}{j:Nat}(hj:j < a.length)(hi:i < max 1 (row a j).length)(T:aq a) (T':aq<|a.eraseIdx j++[(x,(row a j).drop i++(row a j).take i)])
  (ht:(ag<|a.eraseIdx j++[(x,(row a j).drop i++(row a j).take i)]).length=(ag a).length) (R:RS a):RS (a.eraseIdx j++[(x,(row a j).drop i++(row a j).take i)]):=by
 obtain⟨g,h1,h2,h3⟩:=SL hj hi;refine q4n T T' ht h1 h2 h3 (λs hs r=>?_) R
 by_cases hr:r < a.length
 ·have:=hs (if r < j then r else if r=j then a.length - 1 else r - 1);rw[SK hj r hr]at this
  by_cases e:r=j
  ·rw[BP e]at this;rw[<- this,e];refine S9<|List.Perm.map s ?_;show(row a j).Perm ((row a j).drop i++(row a j).take i);refine List.Perm.trans ?_ Cq;rw[Cw]
  ·rwa[BL e]at this
 ·have:row a r=[]:=by
   unfold row;rw[Bg<|⋯];rfl
  rw[this];rfl
theorem q6f{n2 n0:Net}{j:Nat}(hj:j < n.length)(hi:i < max 1 (row n j).length)(T0:aq n0)(pt:(ag n++ag n2).Perm<|ag n0)
  (hV:(ag (n.eraseIdx j)++ag (n2++[(x,(row n j).drop i++(row n j).take i)])).Perm<|ag n0) (P:Fl<|n++n2):Fl (n.eraseIdx j++(n2++[(x,(row n j).drop i++(row n j).take i)])):=by
 refine⟨q7p hj hi T0 pt hV P.1,?_⟩;have tw:∀ m:Net,(ag m).Perm (ag n0)->aq m:=λm p y hy=>by rw[p.count_eq];exact T0 y<|p.mem_iff.mp hy
 rw[<- S8]at pt hV;have er:row (n++n2) j=row n j:=pc hj;have ee:n.eraseIdx j++(n2++[(x,(row n j).drop i++(row n j).take i)])=(n++n2).eraseIdx j++[(x,(row (n++n2) j).drop i++(row (n++n2) j).take i)]:=by
  rw[MK hj,Ar,er]
 rw[ee]at hV ⊢;exact x0j (by rw[Ag];omega) (by rwa[er]) (tw _ pt) (tw _ hV) (by rw[hV.length_eq,pt.length_eq]) P.2
open L2
def aC(n:Net)(r:Nat):Str:=((n[r]?).map (·.1)).getD ⟨#[]⟩
variable{r:Nat}
def gn(h:r < n.length):aC n r=n[r].1:=by unfold aC;rw[Ab h];rfl
abbrev Lk:=Str×Str×Str
def pj(n:Net)(x:Lk):Prop:=∃ a b,pos n x.1=[a,b]/\x.2.1=aC n a.1/\x.2.2=aC n b.1
structure jq(n:Net)(done:List<|Str×End)(kM:List<|Key×V)(ls:List Lk):Prop where
 m0:∀ z,bT done z=[]->aF kM (Sum.inr z)=none
 m1:∀ z a rest,bT done z=a :: rest->aF kM (Sum.inr z)=some (.str<|aC n a.1)
 mem:∀ x:Lk,x∈ls↔∃ a b rest,bT done x.1=a :: b :: rest/\x.2.1=aC n a.1/\x.2.2=aC n b.1
 fM:(ls.map (·.1)).Nodup
 eQ:kM.length<=done.length
 nO:ls.length<=done.length
def jq.start(n:Net):jq n [] [] []:=⟨λ_ _=>rfl,λz a rest h=>(by cases h),λx=>⟨λh=>(by cases h),λ⟨a,b,rest,h,_⟩=>(by cases h)⟩,Cd,An _,An _⟩
variable{ls:List Lk}{kM:List (Key×V)}{done:List (Str×End)}
theorem jq.new(I:jq n done kM ls)(h0:bT done z=[]):jq n (done++[(z,e)]) (putK kM (Sum.inr z)<|.str<|aC n e.1) ls:=by
 refine⟨λy hy=>?_,λy a rest hy=>?_,λx=>?_,I.fM,?_,?_⟩
 ·rw[dI]at hy;obtain⟨h1,h2⟩:=Fk.mp hy;have bD:¬ z=y:=λq=>by rw[BP q]at h2;cases h2
  rw[d8,BL λq=>bD (Sum.inr.inj q).symm];exact I.m0 y h1
 ·rw[dI]at hy
  by_cases q:z=y
  ·subst q;rw[h0,BP rfl]at hy;cases hy;rw[d8,BP rfl]
  ·rw[BL q,Bp]at hy;rw[d8,BL λp=>q (Sum.inr.inj p).symm];exact I.m1 y a rest hy
 ·rw[I.mem x]
  by_cases q:z=x.1
  ·constructor
   ·rintro ⟨a,b,rest,h,_⟩;rw[<- q,h0]at h;cases h
   ·rintro ⟨a,b,rest,h,_⟩;rw[dI,<- q,h0,BP rfl]at h;cases h
  ·constructor
   ·rintro ⟨a,b,rest,h,r⟩;exact⟨a,b,rest,by rwa[dI,BL q,Bp],r⟩
   ·rintro ⟨a,b,rest,h,r⟩;rw[dI,BL q,Bp]at h;exact⟨a,b,rest,h,r⟩
 ·have:=jD kM (Sum.inr z)<|.str<|aC n e.1;have:=I.eQ;rw[Ag,Dc];omega
 ·have:=I.nO;rw[Ag,Dc];omega
theorem jq.old(I:jq n done kM ls){a:End}(h1:bT done z=[a]):jq n (done++[(z,e)]) kM (ls++[(z,aC n a.1,aC n e.1)]):=by
 have hz:bT (done++[(z,e)]) z=[a,e]:=by rw[dI,h1,BP rfl];rfl
 have hnz:z∉ls.map (·.1):=λh=>by
  obtain⟨x,hx,ex⟩:=Ak.mp h;obtain⟨b,c,rest,hp,_⟩:=(I.mem x).mp hx;have ex:=ex;rw[ex,h1]at hp;cases hp
 refine⟨λy hy=>?_,λy b rest hy=>?_,λx=>?_,?_,?_,?_⟩
 ·rw[dI]at hy;exact I.m0 y (Fk.mp hy).1
 ·by_cases q:z=y
  ·subst q;rw[hz]at hy;cases hy;exact I.m1 z a [] h1
  ·rw[dI,BL q,Bp]at hy;exact I.m1 y b rest hy
 ·rw[Am,Ad,I.mem x]
  by_cases q:z=x.1
  ·constructor
   ·rintro (⟨b,c,rest,h,_⟩ | h)
    ·rw[<- q,h1]at h;cases h
    ·subst h;exact⟨a,e,[],hz,rfl,rfl⟩
   ·rintro ⟨b,c,rest,h,r1,r2⟩;rw[<- q,hz]at h;cases h;obtain⟨x1,x2,x3⟩:=x;have q:=q;have r1:=r1;have r2:=r2;subst q r1 r2;exact .inr rfl
  ·constructor
   ·rintro (⟨b,c,rest,h,r⟩ | h)
    ·exact⟨b,c,rest,by rwa[dI,BL q,Bp],r⟩
    ·subst h;exact absurd rfl q
   ·rintro ⟨b,c,rest,h,r⟩;rw[dI,BL q,Bp]at h;exact .inl ⟨b,c,rest,h,r⟩
 ·rw[Al];exact oK I.fM hnz
 ·have:=I.eQ;rw[Ag,Dc];omega
 ·have:=I.nO;rw[Ag,Ag];show _+1<=_+1;omega
theorem jq.whole(T:aq n)(I:jq n (bn n) kM ls)(x:Lk):x∈ls↔pj n x:=by
 rw[I.mem x]
 constructor
 ·rintro ⟨a,b,rest,h,r⟩;have hp:pos n x.1=a :: b :: rest:=h;have ha:=aK.mp (by rw[hp];exact Ae ..);have hl:=qI n x.1;rw[hp,T x.1<|eV ha]at hl;have:rest=[]:=by
   have:rest.length+1+1=2:=hl;exact Bv.mp<|⋯
  rw[this]at hp;exact⟨a,b,hp,r⟩
 ·rintro ⟨a,b,h,r⟩;exact⟨a,b,[],h,r⟩
inductive Way (ls:List<|Str×Str×Bool) (f:Str):Str->Bool->Prop where
 | here:Way ls f f false
 | there {x y:Str} {b o:Bool}:Way ls f x b->(x,y,o)∈ls->Way ls f y (b != o)
 | back {x y:Str} {b o:Bool}:Way ls f x b->(y,x,o)∈ls->Way ls f y (b != o)
def cC(n:Net)(ss:Ð):Bool:=n.all λr=>(r.2.filter λz=>ss.contains z).length % 2 == 0
def kd(T:aq n){x:End}(h:aJ n e≈z):aJ n x=some z↔x=e\/x=↥5:=by
 obtain⟨o1,o2,o3⟩:=dH T h;refine⟨λhx=>?_,λhx=>?_⟩
 ·obtain⟨a,b,hp,gd,he⟩:=qJ T h;have mx:=aK.mpr hx;have mo:=aK.mpr o1;rw[hp]at mx mo;simp only[Ai,Cc,GQ]at mx mo
  rcases he with he | he
  ·rcases mx with m | m
   ·exact .inl<|m.trans he.symm
   ·rcases mo with m2 | m2
    ·exact absurd (m2.trans he.symm) o3
    ·exact .inr<|m.trans m2.symm
  ·rcases mx with m | m
   ·rcases mo with m2 | m2
    ·exact .inr<|m.trans m2.symm
    ·exact absurd (m2.trans he.symm) o3
   ·exact .inl<|m.trans he.symm
 ·rcases hx with rfl | rfl
  ·exact h
  ·exact o1
abbrev Bl:=Str×Str×Bool
def x5f(ls:List Bl)(x y:Str)(o:Bool):Prop:=(x,y,o)∈ls\/(y,x,o)∈ls
def Jz{κ:Type} [DecidableEq κ] (Y:List<|κ×V) (k:κ) (v:V):(putK Y k v).map (·.1)=if k∈Y.map (·.1)then Y.map (·.1)else Y.map (·.1)++[k]:=by
 have e:(Y.any λkv=>decide (kv.1=k))=decide (k∈Y.map (·.1)):=by
  rw[Cf,List.any_eq_true,CN,Ak];exact⟨λ⟨p,h1,h2⟩=>⟨p,h1,BX h2⟩,λ⟨p,h1,h2⟩=>⟨p,h1,BW h2⟩⟩
 unfold putK;rw[e]
 by_cases h:k∈Y.map (·.1)
 ·rw[BP<|BW h,BP h,Bs];refine Ap λp _=>?_;show(if p.1=k then(p.1,v)else p).1=p.1
  split <;> rfl
 ·rw[BL h⁻¹,BL h,Al];rfl
open PyProof.Rows (sortedS)
def db(n:Net):Prop:=∀ P:Str->Prop,(∃ r∈n,P r.1)->(∀ r∈n,∀ s∈n,∀ t,t∈r.2->t∈s.2->P r.1->P s.1)->∀ r∈n,P r.1
def Te{m:Net}(h1:∀ r∈n,∃ s∈m,s.1=r.1/\∀ t∈r.2,t∈s.2)(h2:∀ s∈m,∃ r∈n,r.1=s.1)(h:db n):db m:=by
 rintro P ⟨s,hs,ps⟩ cl s' gZ;obtain⟨r,hr,er⟩:=h2 s hs;obtain⟨r',nP,er'⟩:=h2 s' gZ;rw[<- er'];refine h P ⟨r,hr,by rwa[er]⟩ (λa ha b hb t ta tb pa=>?_) r' nP;obtain⟨a',rj,ea,sa⟩:=h1 a ha;obtain⟨b',hG,eb,sb⟩:=h1 b hb;rw[<- eb];exact cl a' rj b' hG t (sa t ta) (sb t tb)<|by rwa[ea]
def q3l(r:Str×List Str):db [r]:=by
 rintro P ⟨s,hs,ps⟩ _ x hx;rw[Ad]at hs hx;rwa[hx,<- hs]
def JA(n:Net)(c:End)(z:Str)(i:Nat):(ins n c z)[i]?=(n[i]?).map λr=>if c.1=i then(r.1,r.2.take c.2++z :: r.2.drop c.2)else r:=by
 unfold ins;rw[Fu]
 by_cases h:c.1=i
 ·simp[h]
 ·simp[h]
def JE(h:db n):db (ins n c z):=by
 refine Te (λr hr=>?_) (λs hs=>?_) h
 ·obtain⟨i,hi⟩:=Be hr;have e:=JA n c z i;rw[hi]at e;refine⟨_,Ao e,?_,λt ht=>?_⟩
  ·split <;> rfl
  ·split
   ·show t∈r.2.take c.2++z :: r.2.drop c.2;rw[<- Cw c.2 r.2]at ht
    rcases Am.mp ht with q | q
    ·exact Bb _ q
    ·exact Au _<|Af _ q
   ·exact ht
 ·obtain⟨i,hi⟩:=Be hs;rw[JA,Az]at hi;obtain⟨r,hr,e⟩:=hi;refine⟨r,Ao hr,?_⟩;rw[<- e]
  split <;> rfl
def q76(hc:c.1 < n.length):∃ r∈ins n c z,z∈r.2:=by
 have e:=JA n c z c.1;rw[Ab hc]at e;refine⟨_,Ao e,?_⟩;show z∈(if c.1=c.1 then((n[c.1].1,n[c.1].2.take c.2++z :: n[c.1].2.drop c.2):Str×List Str)else n[c.1]).2;rw[BP rfl];exact Au _<|Ae ..
def k95(h:db n)(hz:∃ r∈n,z∈r.2):db (n++[(pt,[z])]):=by
 obtain⟨r,hr,zr⟩:=hz;rintro P ⟨s,hs,ps⟩ cl x hx;have mn:((pt,[z]):Str×List Str)∈n++[(pt,[z])]:=Au _<|Ad.mpr rfl;have ml:∀{y},y∈n->y∈n++[(pt,[z])]:=λhy=>Bb _ hy;have all:∀ y∈n,P y.1:=by
  refine h P ?_ λa ha b hb t ta tb pa=>cl a (ml ha) b (ml hb) t ta tb pa
  rcases Am.mp hs with q | q
  ·exact⟨s,q,ps⟩
  ·rw[Ad]at q;subst q;exact⟨r,hr,cl _ mn r (ml hr) z (Ad.mpr rfl) zr ps⟩
 rcases Am.mp hx with q | q
 ·exact all x q
 ·rw[Ad]at q;subst q;exact cl r (ml hr) _ mn z zr (Ad.mpr rfl)<|all r hr
def b8(zs:Ð):Prop:=zs.Pairwise λa b=>a.cps.toList < b.cps.toList
theorem wD:∀{zs},sortedS zs=true->zs.Nodup->b8 zs
 | [],_,_=>List.Pairwise.nil
 | z :: r,h,hn=>by
  rw[Bh]at hn;refine List.Pairwise.cons (λx hx=>?_)<|wD (bP.ft h) hn.2;have h1:=bP.eF r z h x hx
  rcases Hf.mp h1 with q | q
  ·exact q
  ·exact absurd hx<|by rw[<- bP.gj q];exact hn.1
variable{zs:Ð}
def gq(h:b8 zs):zs.Nodup:=h.imp λq e=>by rw[e]at q;exact Gv _ q
theorem JI:∀{a b},b8 a->b8 b->(∀ x,x∈a↔x∈b)->a=b
 | [],[],_,_,_=>rfl
 | [],y :: b,_,_,h=>by have:=(h y).mpr<|Ae ..;cases this
 | x :: a,[],_,_,h=>by have:=(h x).mp<|Ae ..;cases this
 | x :: a,y :: b,ha,hb,h=>by
  unfold b8 at ha hb;rw[Ct]at ha hb;have exy:x=y:=by
   rcases Ai.mp ((h x).mp<|Ae ..)with e | e
   ·exact e
   ·rcases Ai.mp ((h y).mpr<|Ae ..)with e2 | e2
    ·exact e2.symm
    ·exact absurd (Hc (ha.1 y e2)<|hb.1 x e)<|Gv _
  subst exy;have nx:∀(l:Ð),(∀ z∈l,x.cps.toList < z.cps.toList)->x∉l:=λl hl hm=>Gv _<|hl x hm;have:a=b:=JI ha.2 hb.2 λz=>by
   constructor
   ·intro hz
    rcases Ai.mp ((h z).mp<|Af _ hz)with e | e
    ·exact absurd (e ▸ hz)<|nx a ha.1
    ·exact e
   ·intro hz
    rcases Ai.mp ((h z).mpr<|Af _ hz)with e | e
    ·exact absurd (e ▸ hz)<|nx b hb.1
    ·exact e
  rw[this]
def dA(n:Net)(ps:Ð)(z:Str):Prop:=∃ e,aJ n e≈z/\aC n e.1∈ps/\aC n (↥5).1∉ps
variable{ps:Ð}
def pq(h:dA n ps z):z∈ag n:=by
 obtain⟨e,he,_⟩:=h;exact eV he
def jQ(T:aq n)(he:aJ n e≈z):dA n ps z↔(decide (aC n e.1∈ps) != decide (aC n (↥5).1∈ps))=true:=by
 have o:=dH T he
 constructor
 ·rintro ⟨x,hx,h1,h2⟩
  rcases (kd T he).mp hx with q | q
  ·subst q;simp[h1,h2]
  ·subst q;rw[o.2.1]at h2;simp[h1,h2]
 ·intro h
  by_cases h1:aC n e.1∈ps
  ·by_cases h2:aC n (↥5).1∈ps
   ·simp[h1,h2]at h
   ·exact⟨e,he,h1,h2⟩
  ·by_cases h2:aC n (↥5).1∈ps
   ·exact⟨↥5,o.1,h2,by rwa[o.2.1]⟩
   ·simp[h1,h2]at h
def q2q(T:aq n){x:Lk}(h:pj n x):∃ e,aJ n e≈x.1/\x.2.1=aC n e.1/\x.2.2=aC n (↥5).1:=by
 obtain⟨a,b,hp,h1,h2⟩:=h;have ha:=aK.mp (by rw[hp];exact Ae ..);have hb:aJ n b≈x.1:=aK.mp (by rw[hp];simp);have ni:=Rk n x.1;rw[hp]at ni;have gd:b≠a:=λq=>by rw[q]at ni;simp at ni
 rcases (kd T ha).mp hb with q | q
 ·exact absurd q gd
 ·exact⟨a,ha,h1,by rw[h2,q]⟩
def q14(T:aq n)(h:aJ n e≈z):pj n (z,aC n e.1,aC n (↥5).1)\/pj n (z,aC n (↥5).1,aC n e.1):=by
 obtain⟨a,b,hp,gd,hh⟩:=qJ T h;have ha:=aK.mp (by rw[hp];exact Ae ..);have hb:aJ n b≈z:=aK.mp<|by rw[hp];simp
 rcases hh with q | q
 ·subst q;refine .inl ⟨e,b,hp,rfl,?_⟩
  rcases (kd T h).mp hb with q | q
  ·exact absurd q.symm gd
  ·show aC n (↥5).1=aC n b.1;rw[q]
 ·subst q;refine .inr ⟨a,e,hp,?_,rfl⟩
  rcases (kd T h).mp ha with q | q
  ·exact absurd q gd
  ·show aC n (↥5).1=aC n a.1;rw[q]
def A4(T:aq n){x:Lk}(h:pj n x):dA n ps x.1↔(decide (x.2.1∈ps) != decide (x.2.2∈ps))=true:=by
 obtain⟨e,he,h1,h2⟩:=q2q T h;rw[h1,h2];exact jQ T he
def bV(n:Net):Str:=aC n 0
structure aN(n:Net)(ss sd:Ð):Prop where
 gL:b8 sd
 mem:∀ x∈sd,x∈n.map (·.1)
 fst:bV n∉sd
 cut:∀ z,z∈ss↔dA n sd z
structure Tells(n:Net)(ss:Ð)(ls:List Bl):Prop where
 to:∀ e z,aJ n e≈z->x5f ls (aC n e.1) (aC n (↥5).1) (decide (z∈ss))
 Tg:∀ l∈ls,∃ e z,aJ n e≈z/\l=(aC n e.1,aC n (↥5).1,decide (z∈ss))
variable{b:Bool}{ss:Ð}
theorem Ti(T:aq n){sd:Ð}{ls:List Bl}(t:Tells n ss ls)(hc:∀ z,z∈ss↔dA n sd z){f:Str}(w:Way ls f x b):decide (x∈sd)=(decide (f∈sd) != b):=by
 have step:∀{x y:Str} {o:Bool},(x,y,o)∈ls->o=(decide (x∈sd) != decide (y∈sd)):=λ{x y o} h=>by
  obtain⟨e,z,he,hl⟩:=t.Tg _ h;have h1:x=aC n e.1:=BZ (·.1) hl;have h2:y=aC n (↥5).1:=BZ (·.2.1) hl;have h3:o=decide (z∈ss):=BZ (·.2.2) hl;rw[h1,h2,h3,Cf,CN,hc z];exact jQ T he
 induction w with
 | here=>simp
 | @there x y b o w h ih=>
  rw[step h,ih];cases decide (f∈sd) <;> cases b <;> cases decide (y∈sd) <;> rfl
 | @back x y b o w h ih=>
  rw[step h,ih];cases decide (f∈sd) <;> cases b <;> cases decide (y∈sd) <;> rfl
def Tj(T:aq n){sd:Ð}{ls:List Bl}(t:Tells n ss ls)(h:aN n ss sd)(w:Way ls (bV n) x b):decide (x∈sd)=b:=by
 rw[Ti T t h.cut w,BR h.fst];simp
def jr(h:i < n.length):aC n i∈n.map (·.1):=by
 rw[gn h];exact Ak.mpr ⟨_,Bt h,rfl⟩
noncomputable def dB(n:Net)(ss:Ð):List Bl:=(ends n).map λe=>(aC n e.1,aC n (↥5).1,decide ((aJ n e).getD ⟨#[]⟩∈ss))
def uc:Tells n ss (dB n ss):=by
 refine⟨λe z h=> .inl (Ak.mpr ⟨e,af.mpr ⟨z,h⟩,by rw[h];rfl⟩),λl hl=>?_⟩;obtain⟨e,he,q⟩:=Ak.mp hl;obtain⟨z,hz⟩:=af.mp he;exact⟨e,z,hz,by rw[<- q,hz];rfl⟩
def k1n(T:aq n){sd:Ð}{ls:List Bl}(t:Tells n ss ls)(hs:b8 sd)(hm:∀ x∈sd,x∈n.map (·.1))(hc:∀ z,z∈ss↔dA n sd z)(w:Way ls (bV n) (bV n) b)(hb:bV n∈sd↔b=true):aN n ss sd:=by
 refine⟨hs,hm,λhf=>?_,hc⟩;have e:=Ti T t hc w;rw[hb.mp hf,BW hf]at e;cases e
def pv(T:aq n)(h:aJ n e≈z):(↥5).1 < n.length:=cB (dH T h).1
def k71(T:aq n){qs:Ð}(h:∀ x∈n.map (·.1),x∈qs↔x∉ps)(z:Str):dA n ps z↔dA n qs z:=by
 have k:∀{e:End},aJ n e≈z->(dA n ps z↔dA n qs z):=λ{e} he=>by
  rw[jQ T he,jQ T he];have a1:=h _<|jr<|cB he;have a2:=h _<|jr<|pv T he
  by_cases h1:aC n e.1∈ps <;> by_cases h2:aC n (↥5).1∈ps <;> simp[a1,a2,h1,h2]
 constructor
 ·intro hc;obtain⟨e,he,_⟩:=hc;exact(k he).mp ⟨e,he,by assumption⟩
 ·intro hc;obtain⟨e,he,_⟩:=hc;exact(k he).mpr ⟨e,he,by assumption⟩
open PyProof.Rows (sortedS)
abbrev dC(Y:List<|Key×V)(r:Nat)(b:Bool):Prop:=aF Y (Sum.inl (r:Int))≈.bl b
structure dk(n:Net)(ss:Ð)(hr:Option<|Nat×Nat)(Y:List<|Key×V)(lf:List Nat):Prop where
 fM:(Y.map (·.1)).Nodup
 num:∀ k∈Y.map (·.1),∃ r:Nat,k=Sum.inl (r:Int)/\r < n.length
 val:∀(r:Nat) v,aF Y (Sum.inl (r:Int))≈v->∃ b,v = .bl b/\Way (dB n ss) (bV n) (aC n r) b
 fst:∃ b,dC Y 0 b
 wF:∀ r∈lf,∃ b,dC Y r b
 A5:∀ x p,hr=some (x,p)->∃ b,dC Y x b
 cls:∀ r b,dC Y r b->r∈lf\/(∃ p,hr=some (r,p))\/∀ p z,aJ n (r,p)≈z->dC Y (other n (r,p)).1 (b != decide (z∈ss))
 JO:∀ x p,hr=some (x,p)->∀ b,dC Y x b->∀ p',p' < p->∀ z,aJ n (x,p')≈z->dC Y (other n (x,p')).1 (b != decide (z∈ss))
variable{Y:List (Key×V)}
theorem Tl{k:Key}(hg:aF Y k=none):k∉Y.map (·.1):=by
 induction Y with
 | nil=>intro h;cases h
 | cons c r ih=>
  intro h
  by_cases hc:c.1=k
  ·rw[iJ hc]at hg;cases hg
  ·rw[iw hc]at hg
   rcases Ai.mp h with q | q
   ·exact hc q.symm
   ·exact ih hg q
theorem q4c{k:Key}{v:V}(hg:aF Y k≈v):k∈Y.map (·.1):=by
 refine CQ λhn=>?_
 induction Y with
 | nil=>cases hg
 | cons c r ih=>
  rw[Ba,Ai]at hn;rw[iw λq=>hn<|.inl q.symm]at hg;exact ih hg λq=>hn<|.inr q
variable{lf:List Nat}{hr:Option (Nat×Nat)}
theorem dk.lt(I:dk n ss hr Y lf)(h:dC Y r b):r < n.length:=by
 obtain⟨r',e,h'⟩:=I.num _<|q4c h;have:=Sum.inl.inj e;omega
def dk.len(I:dk n ss hr Y lf):Y.length<=n.length:=by
 have:=aU I.fM λk hk=>by
  obtain⟨r,e,h⟩:=I.num k hk;exact Ak.mpr ⟨r,Bo.mpr h,e.symm⟩
 rwa[Aa,Aa,Dq]at this
theorem To{a b:Nat}(h:a≠b):¬(Sum.inl (a:Int):Key)=Sum.inl (b:Int):=λq=>h<|by have:=Sum.inl.inj q;omega
theorem dk.start(h0:0 < n.length):dk n ss none (putK [] (Sum.inl 0)<|.bl false) [0]:=by
 have hv:∀ r:Nat,aF (putK ([]:List<|Key×V) (Sum.inl 0)<|.bl false) (Sum.inl (r:Int))=if r=0 then some (.bl false)else none:=λr=>by
  rw[d8]
  by_cases h:r=0
  ·subst h;rfl
  ·rw[BL h,BL λq=>h<|by have:=Sum.inl.inj q;omega];rfl
 have h00:dC (putK ([]:List<|Key×V) (Sum.inl 0)<|.bl false) 0 false:=by
  show aF _ _=_;rw[hv,BP rfl]
 refine⟨by show([Sum.inl 0]:List Key).Nodup;simp,λk hk=>⟨0,by simpa[putK]using hk,h0⟩,λr v h=>?_,⟨false,h00⟩,λr hr=>⟨false,by rwa[Ad.mp hr]⟩,λx p h=>(by cases h),λr b h=>?_,λx p h=>(by cases h)⟩
 ·rw[hv]at h
  by_cases c:r=0
  ·rw[BP c]at h;cases h;subst c;exact⟨false,rfl,.here⟩
  ·rw[BL c]at h;cases h
 ·have h:aF _ _=_:=h;rw[hv]at h
  by_cases c:r=0
  ·exact .inl<|Ad.mpr c
  ·rw[BL c]at h;cases h
variable{h:Nat}
def dk.pop(I:dk n ss none Y<|lf++[h]):dk n ss (some (h,0)) Y lf:=by
 refine⟨I.fM,I.num,I.val,I.fst,λr hr=>I.wF r<|Bb _ hr,λx p e=>?_,λr b hb=>?_,λx p e b hb p' jR=>?_⟩
 ·cases e;exact I.wF h<|Au _<|Ad.mpr rfl
 ·rcases I.cls r b hb with c | c | c
  ·rcases Am.mp c with c | c
   ·exact .inl c
   ·exact .inr<|.inl ⟨0,by rw[Ad.mp c]⟩
  ·obtain⟨p,e⟩:=c;cases e
  ·exact .inr<|.inr c
 ·cases e;exact absurd jR<|Dj _
variable{p:Nat}
def dk.close(I:dk n ss (some (h,p)) Y lf)(hp:(row n h).length<=p):dk n ss none Y lf:=by
 refine⟨I.fM,I.num,I.val,I.fst,I.wF,λx p e=>(by cases e),λr b hb=>?_,λx p e=>(by cases e)⟩
 rcases I.cls r b hb with c | c | c
 ·exact .inl c
 ·obtain⟨p',e⟩:=c;cases e;exact .inr<|.inr λp' z hz=>I.JO h p rfl b hb p' (Bq (gk hz) hp) z hz
 ·exact .inr<|.inr c
theorem dk.step(I:dk n ss (some (h,p)) Y lf)(hz:aJ n (h,p)≈z)(hb:dC Y h b)(ht:dC Y (other n (h,p)).1<|b != decide (z∈ss)):dk n ss (some (h,p+1)) Y lf:=by
 refine⟨I.fM,I.num,I.val,I.fst,I.wF,λx q e=>?_,λr c hc=>?_,λx q e c hc p' jR y hy=>?_⟩
 ·cases e;exact⟨b,hb⟩
 ·rcases I.cls r c hc with k | k | k
  ·exact .inl k
  ·obtain⟨q,e⟩:=k;cases e;exact .inr<|.inl ⟨_,rfl⟩
  ·exact .inr<|.inr k
 ·cases e
  by_cases k:p' < p
  ·exact I.JO h p rfl c hc p' k y hy
  ·have:p'=p:=⋯
   subst this;rw[hz]at hy;cases hy;have hc:aF _ _=_:=hc;rw[hb]at hc;cases hc;exact ht
def dk.way(I:dk n ss hr Y lf)(hz:aJ n (r,p)≈z)(hb:dC Y r b):Way (dB n ss) (bV n) (aC n (other n (r,p)).1) (b != decide (z∈ss)):=by
 obtain⟨b',e,w⟩:=I.val r _ hb;cases e
 rcases (uc).to (r,p) z hz with t | t
 ·exact .there w t
 ·exact .back w t
def dk.new(T:aq n)(I:dk n ss (some (h,p)) Y lf)(hz:aJ n (h,p)≈z)(hb:dC Y h b) (hn:aF Y (Sum.inl ((other n (h,p)).1:Int))=none) :
  dk n ss (some (h,p+1)) (putK Y (Sum.inl ((other n (h,p)).1:Int))<|.bl<|b != decide (z∈ss)) (lf++[(other n (h,p)).1]):=by
 have w:=I.way hz hb;have aX:=pv T hz;have JP:=Tl hn;have fm:dC (putK Y (Sum.inl ((other n (h,p)).1:Int))<|.bl<|b != decide (z∈ss)) (other n (h,p)).1 (b != decide (z∈ss)):=by
  show aF _ _=_;rw[d8,BP rfl]
 have up:∀{r:Nat} {c:Bool},dC Y r c->dC (putK Y (Sum.inl ((other n (h,p)).1:Int))<|.bl<|b != decide (z∈ss)) r c:=λ{r c} hc=>by
  show aF _ _=_;rw[d8,BL λq=>?_]
  ·exact hc
  ·have hc:aF _ _=_:=hc;rw[q,hn]at hc;cases hc
 have dn:∀{r:Nat} {c:Bool},dC (putK Y (Sum.inl ((other n (h,p)).1:Int))<|.bl<|b != decide (z∈ss)) r c->r=(other n (h,p)).1\/dC Y r c:=λ{r c} hc=>by
  have hc:aF _ _=_:=hc;rw[d8]at hc
  by_cases q:r=(other n (h,p)).1
  ·exact .inl q
  ·rw[BL<|To q]at hc;exact .inr hc
 have I':dk n ss (some (h,p)) (putK Y (Sum.inl ((other n (h,p)).1:Int))<|.bl<|b != decide (z∈ss)) (lf++[(other n (h,p)).1]):=by
  refine⟨?_,λk hk=>?_,λr v hv=>?_,?_,λr hr=>?_,λx q e=>?_,λr c hc=>?_,λx q e c hc p' jR y hy=>?_⟩
  ·rw[Jz,BL JP];exact oK I.fM JP
  ·rw[Jz,BL JP]at hk
   rcases Am.mp hk with hk | hk
   ·exact I.num k hk
   ·exact⟨_,Ad.mp hk,aX⟩
  ·rw[d8]at hv
   by_cases q:r=(other n (h,p)).1
   ·rw[BP<|by rw[q]]at hv;cases hv;exact⟨_,rfl,by rwa[q]⟩
   ·rw[BL<|To q]at hv;exact I.val r v hv
  ·obtain⟨c,hc⟩:=I.fst;exact⟨c,up hc⟩
  ·rcases Am.mp hr with hr | hr
   ·obtain⟨c,hc⟩:=I.wF r hr;exact⟨c,up hc⟩
   ·rw[Ad.mp hr];exact⟨_,fm⟩
  ·obtain⟨c,hc⟩:=I.A5 x q e;exact⟨c,up hc⟩
  ·rcases dn hc with q | hc
   ·exact .inl<|Au _<|by rw[q];exact Ad.mpr rfl
   ·rcases I.cls r c hc with k | k | k
    ·exact .inl<|Bb _ k
    ·exact .inr<|.inl k
    ·exact .inr<|.inr λp' y hy=>up<|k p' y hy
  ·rcases dn hc with q' | hc
   ·obtain⟨c',bj⟩:=I.A5 x q e;rw[q']at bj;have:aF _ _=_:=bj;rw[hn]at this;cases this
   ·exact up<|I.JO x q e c hc p' jR y hy
 exact I'.step hz (up hb) fm
def dk.bad(T:aq n)(I:dk n ss hr Y lf){c:Bool}(hz:aJ n (r,p)≈z)(hb:dC Y r b)(hc:dC Y (other n (r,p)).1 c)(bD:c≠(b != decide (z∈ss))):∀ sd,¬ aN n ss sd:=λsd hs=>by
 obtain⟨c',e,w⟩:=I.val _ _ hc;cases e;have e1:=Tj T uc hs w;have e2:=Tj T uc hs<|I.way hz hb;exact bD<|by rw[<- e1,e2]
def ud(hn:(n.map (·.1)).Nodup){j:Nat}(hi:i < n.length)(hj:j < n.length)(h:aC n i=aC n j):i=j:=by
 rw[gn hi,gn hj]at h;have:=(By.mp hn);rw[Bc]at this
 rcases Em i j with q | q | q
 ·exact absurd (by rwa[Ed,Ed])<|this i j hi⁻¹ hj⁻¹ q
 ·exact q
 ·exact absurd (by rw[Ed,Ed];exact h.symm)<|this j i hj⁻¹ hi⁻¹ q
def dk.whole(T:aq n)(hg:db n)(h0:0 < n.length)(hn:(n.map (·.1)).Nodup){sd:Ð}(I:dk n ss none Y [])(wG:∀ z∈ss,z∈ag n)(hs:b8 sd)(hm:∀ x,x∈sd↔∃ r:Nat,dC Y r true/\x=aC n r):aN n ss sd:=by
 have ok:∀ r b,dC Y r b->∀ p z,aJ n (r,p)≈z->dC Y (other n (r,p)).1 (b != decide (z∈ss)):=λr b hb=>by
  rcases I.cls r b hb with c | c | c
  ·cases c
  ·obtain⟨p,e⟩:=c;cases e
  ·exact c
 have all:∀ r,r < n.length->∃ b,dC Y r b:=λr hr=>by
  have:=hg (λx=>∃ i,i < n.length/\aC n i=x/\∃ b,dC Y i b) ⟨n[0],Bt h0,0,h0,gn h0,I.fst⟩ (λr hr s hs t tr ts ⟨i,hi,e,b,hb⟩=>?_) n[r]<|Bt hr
  ·obtain⟨i,hi,e,hb⟩:=this;rw[<- gn hr]at e;rwa[<- ud hn hi hr e]
  ·obtain⟨k,hk,rfl⟩:=Ck.mp hr;obtain⟨j,hj,rfl⟩:=Ck.mp hs;rw[<- gn hk]at e;have:=ud hn hi hk e;subst this;obtain⟨p,hp⟩:=Be tr;obtain⟨q,hq⟩:=Be ts;have h1:aJ n (i,p)≈t:=by show(row n i)[p]?=_;rwa[jm hi]
   have h2:aJ n (j,q)≈t:=by show(row n j)[q]?=_;rwa[jm hj]
   refine⟨j,hj,gn hj,?_⟩
   rcases (kd T h1).mp h2 with e | e
   ·have:j=i:=BZ (·.1) e;subst this;exact⟨b,hb⟩
   ·have:=ok i b hb p t h1;rw[<- e]at this;exact⟨_,this⟩
 have rk:∀ r b,dC Y r b->decide (aC n r∈sd)=b:=λr b hb=>by
  rw[Cf,CN,hm]
  constructor
  ·rintro ⟨r',hG,e⟩;have:=ud hn (I.lt hb) (I.lt hG) e;subst this;have hG:aF _ _=_:=hG;rw[hb]at hG;cases hG;rfl
  ·rintro rfl;exact⟨r,hb,rfl⟩
 have hc:∀ z,z∈ss↔dA n sd z:=λz=>by
  have k:∀{e:End},aJ n e≈z->(z∈ss↔dA n sd z):=λ{e} he=>by
   obtain⟨i,p⟩:=e;obtain⟨b,hb⟩:=all i<|cB he;rw[jQ T he,rk i b hb,rk _ _<|ok i b hb p z he]
   by_cases h:z∈ss <;> cases b <;> simp[h]
  constructor
  ·intro h;obtain⟨e,he⟩:∃ e,e∈pos n z:=by
    cases hp:pos n z with
    | nil=>exact absurd hp<|cI.mp<|wG z h
    | cons a r=>exact⟨a,Ae ..⟩
   exact(k<|aK.mp he).mp h
  ·intro h;obtain⟨e,he,_⟩:=id h;exact(k he).mpr h
 obtain⟨b,hb⟩:=I.fst;obtain⟨b',e,w⟩:=I.val 0 _ hb;cases e;refine k1n T uc hs (λx hx=>?_) hc w ?_
 ·obtain⟨r,hr,e⟩:=(hm x).mp hx;rw[e];exact jr<|I.lt hr
 ·have:=rk 0 b hb;rw[<- this,CN];rfl
open PyProof.Rows (sortedS)
theorem Tq(a b c:Ð)(h:∀ z,z∈c↔(if z∈a then z∉b else z∈b)):∀ zs:Ð,(zs.filter λz=>c.contains z).length % 2=((zs.filter λz=>a.contains z).length+(zs.filter λz=>b.contains z).length) % 2
 | []=>rfl
 | z :: r=>by
  have ih:=Tq a b c h r;have hz:=h z;have ca:=λl=>(Bm (as:=l) (a:=z));simp only[Do]
  by_cases ha:z∈a <;> by_cases hb:z∈b
  ·have hc:z∉c:=λq=>by have:=hz.mp q;rw[BP ha]at this;exact this hb
   rw[BP<|(ca a).mpr ha,BP<|(ca b).mpr hb,BL λq=>hc<|(ca c).mp q,As,As];omega
  ·have hc:z∈c:=hz.mpr (by rwa[BP ha]);rw[BP<|(ca a).mpr ha,BL λq=>hb<|(ca b).mp q,BP<|(ca c).mpr hc,As,As];omega
  ·have hc:z∈c:=hz.mpr (by rwa[BL ha]);rw[BL λq=>ha<|(ca a).mp q,BP<|(ca b).mpr hb,BP<|(ca c).mpr hc,As,As];omega
  ·have hc:z∉c:=λq=>by have:=hz.mp q;rw[BL ha]at this;exact hb this
   rwa[BL λq=>ha<|(ca a).mp q,BL λq=>hb<|(ca b).mp q,BL λq=>hc<|(ca c).mp q]
def cJ:cC n ss=true↔∀ r∈n,(r.2.filter λz=>ss.contains z).length % 2=0:=by
 unfold cC;rw[Ej];exact⟨λh r hr=>by simpa using h r hr,λh r hr=>by simpa using h r hr⟩
theorem q10{a b c:Ð}(ha:cC n a=true)(hb:cC n b=true)(h:∀ z,z∈c↔(if z∈a then z∉b else z∈b)):cC n c=true:=by
 rw[cJ]at ha hb ⊢;intro r hr;have h1:=ha r hr;have h2:=hb r hr;rw[Tq a b c h];omega
theorem Tr(k:Nat)(z:Str):∀ts p,(bT (bF k ts p) z).length=ts.count z
 | [],p=>rfl
 | t :: r,p=>by
  have ih:=Tr k z r<|p+1;have e:bF k (t :: r) p=(t,(k,p)) :: bF k r (p+1):=by unfold bF;rfl
  rw[e];unfold bT at ih ⊢;rw[Do,Dl]
  by_cases h:t=z
  ·rw[BP<|BW h,Ba,As,ih,BP<|h⁻¹]
  ·rw[BL λq=>h<|BX q,ih,BL<|h⁻¹];rfl
def k87(a b:List<|Str×End)(z:Str):bT (a++b) z=bT a z++bT b z:=by
 unfold bT;rw[Cv,Al]
variable{ts:Ð}
def Ts{k:Nat}(h:e∈bT (bF k ts p) z):e.1=k:=by
 unfold bT at h;obtain⟨x,hx,rfl⟩:=Ak.mp h;obtain⟨y,e⟩:=x;exact(bf.mp (Bf.mp hx).1).1
theorem Tv(ps:Ð)(f:Nat->Str)(z:Str):∀m k,(∀i r,m[i]?≈r->f (k+i)=r.1)->((bT (fv k m) z).filter λe=>decide (f e.1∈ps)).length=(ag<|m.filter λr=>decide (r.1∈ps)).count z
 | [],k,_=>rfl
 | r :: m,k,h=>by
  have ih:=Tv ps f z m (k+1) λi s hs=>by
   have:=h (i+1) s hs⁻¹;rw[<- this]
   congr 1
   omega
  have e:fv k (r :: m)=bF k r.2 0++fv (k+1) m:=rfl;have hk:f k=r.1:=h 0 r rfl;rw[e,k87,Cv,Ag,ih,Do]
  by_cases hr:r.1∈ps
  ·rw[BP<|BW hr];have:ag (r :: m.filter λr=>decide (r.1∈ps))=r.2++ag (m.filter λr=>decide (r.1∈ps)):=by unfold ag;rfl
   rw[this,Ez,List.filter_eq_self.mpr (λe he=>by rw[Ts he,hk];exact BW hr),Tr]
  ·rw[BL λq=>hr<|BX q];have:(bT (bF k r.2 0) z).filter (λe=>decide (f e.1∈ps))=[]:=Gw.mpr λe he q=>by
    rw[Ts he,hk]at q;exact hr<|BX q
   rw[this];simp
def Tw(T:aq n)(ps:Ð)(z:Str):dA n ps z↔(ag<|n.filter λr=>decide (r.1∈ps)).count z % 2=1:=by
 have e:=Tv ps (aC n) z n 0 λi r h=>by
  rw[Ex];unfold aC;rw[h];rfl
 rw[<- e];show dA n ps z↔((pos n z).filter λe=>decide (aC n e.1∈ps)).length % 2=1
 by_cases hz:z∈ag n
 ·obtain⟨a,ha⟩:∃ a,a∈pos n z:=by
   cases hp:pos n z with
   | nil=>exact absurd hp<|cI.mp hz
   | cons a r=>exact⟨a,Ae ..⟩
  obtain⟨x,y,hp,IY,hh⟩:=qJ T<|aK.mp ha;have hl:pj n (z,aC n x.1,aC n y.1):=⟨x,y,hp,rfl,rfl⟩;rw[show dA n ps z↔_ from A4 T hl,hp]
  by_cases h1:aC n x.1∈ps <;> by_cases h2:aC n y.1∈ps <;> simp[h1,h2]
 ·have hp:=CQ λh=>hz<|cI.mpr h;rw[hp];exact⟨λh=>absurd (pq h) hz,λh=>by cases h⟩
theorem JS{a:Ð}(hn:a.Nodup):∀ l:Ð,(l.filter λz=>a.contains z).length=(a.map λz=>l.count z).sum
 | []=>by
  have:∀ a:Ð,(a.map λz=>([]:Ð).count z).sum=0:=λa=>by
   induction a with
   | nil=>rfl
   | cons x r ih=>rw[Ba,Gj,ih];rfl
  rw[this];rfl
 | y :: l=>by
  have ih:=JS hn l;have key:∀ a:Ð,(a.map λz=>(y :: l).count z).sum=(a.map λz=>l.count z).sum+a.count y:=λa=>by
   induction a with
   | nil=>rfl
   | cons x r ih=>
    rw[Ba,Gj,ih,Ba,Gj,Dl,Dl]
    by_cases h:y=x
    ·rw[BP (by simp[h]),BP<|by simp[h]];omega
    ·rw[BL h⁻¹,BL<|by simpa using λq=>h<|RN q];omega
  rw[key,Do,<- ih,hn.count]
  by_cases h:y∈a
  ·rw[BP<|Bm.mpr h,BP h,As]
  ·rw[BL λq=>h<|Bm.mp q,BL h];rfl
theorem Tx{a:Ð}:∀ m:Net,(∀ r∈m,(r.2.filter λz=>a.contains z).length % 2=0)->((ag m).filter λz=>a.contains z).length % 2=0
 | [],_=>rfl
 | r :: m,h=>by
  have ih:=Tx m λs hs=>h s<|Af _ hs;have h1:=h r<|Ae ..;have:ag (r :: m)=r.2++ag m:=by unfold ag;rfl
  rw[this,Cv,Ag];omega
theorem Tz(cs:Ð)(g:Str->Nat)(h:∀ z,z∈cs↔g z % 2=1):∀ a:Ð,(a.filter λz=>cs.contains z).length % 2=(a.map g).sum % 2
 | []=>rfl
 | z :: r=>by
  have ih:=Tz cs g h r;rw[Do,Ba,Gj]
  by_cases hz:z∈cs
  ·rw[BP<|Bm.mpr hz,As];have:=(h z).mp hz;omega
  ·rw[BL λq=>hz<|Bm.mp q];have:¬ g z % 2=1:=λq=>hz<|(h z).mpr q;omega
variable{cs:Ð}
def k8m(T:aq n){a:Ð}(ha:cC n a=true)(hn:a.Nodup)(hc:∀ z,z∈cs↔dA n ps z):(a.filter λz=>cs.contains z).length % 2=0:=by
 rw[Tz cs (λz=>(ag<|n.filter λr=>decide (r.1∈ps)).count z) (λz=>(hc z).trans<|Tw T ps z) a,<- JS hn];exact Tx _ λr hr=>cJ.mp ha r (Bf.mp hr).1
def q4p{a b:Ð}(ha:a.Nodup)(hb:b.Nodup):(a.filter λz=>b.contains z).length=(b.filter λz=>a.contains z).length:=by
 refine((Fr (ha.filter _)<|hb.filter _).mpr λz=>?_).length_eq;rw[Bf,Bf,Bm,Bm];exact⟨λh=>⟨h.2,h.1⟩,λh=>⟨h.2,h.1⟩⟩
theorem A6(T:aq n)(hn:ss.Nodup)(hm:∀ z∈ss,z∈ag n):2 * ss.length<=(ag n).length:=by
 have h:=JS hn<|ag n;have e:∀ l:Ð,(∀ z∈l,z∈ag n)->(l.map λz=>(ag n).count z).sum=2 * l.length:=λl=>by
  induction l with
  | nil=>intro _;rfl
  | cons x r ih=>
   intro hl;rw[Ba,Gj,ih λz hz=>hl z<|Af _ hz,T x<|hl x<|Ae ..,As];omega
 rw[e ss hm]at h;rw[<- h];exact Dz _ _
structure kY(n:Net)(cs:Ð):Prop where
 gL:b8 cs
 cut:∃ ps,∀ z,z∈cs↔dA n ps z
def q70(T:aq n){a b c:Ð}(ha:kY n a)(hb:kY n b)(hs:b8 c)(h:∀ z,z∈c↔(if z∈a then z∉b else z∈b)):kY n c:=by
 obtain⟨pa,ca⟩:=ha.cut;obtain⟨pb,cb⟩:=hb.cut;have hm:∀ x,x∈n.map (·.1)->(decide (x∈(n.map (·.1)).filter λx=>decide (x∈pa) != decide (x∈pb))=(decide (x∈pa) != decide (x∈pb))):=λx hx=>by
  rw[Cf,CN,Bf];exact⟨λq=>q.2,λq=>⟨hx,q⟩⟩
 refine⟨hs,(n.map (·.1)).filter λx=>decide (x∈pa) != decide (x∈pb),λz=>?_⟩;rw[h z]
 by_cases hz:z∈ag n
 ·obtain⟨e,he⟩:∃ e,e∈pos n z:=by
   cases hp:pos n z with
   | nil=>exact absurd hp<|cI.mp hz
   | cons a r=>exact⟨a,Ae ..⟩
  have he:=aK.mp he;rw[jQ T he,hm _<|jr<|cB he,hm _<|jr<|pv T he];have h1:=(ca z).trans<|jQ T he;have h2:=(cb z).trans<|jQ T he
  by_cases q1:z∈a <;> by_cases q2:z∈b
  ·have h1:=h1.mp q1;have h2:=h2.mp q2;rw[BP q1];refine⟨λq=>absurd q2 q,λq=>?_⟩
   revert h1 h2 q
   cases decide (aC n e.1∈pa) <;> cases decide (aC n e.1∈pb) <;> cases decide (aC n (↥5).1∈pa) <;> cases decide (aC n (↥5).1∈pb) <;> simp
  ·have h1:=h1.mp q1;have h2:=λq=>q2<|h2.mpr q;rw[BP q1];refine⟨λ_=>?_,λ_=>q2⟩
   revert h1 h2
   cases decide (aC n e.1∈pa) <;> cases decide (aC n e.1∈pb) <;> cases decide (aC n (↥5).1∈pa) <;> cases decide (aC n (↥5).1∈pb) <;> simp
  ·have h1:=λq=>q1<|h1.mpr q;have h2:=h2.mp q2;rw[BL q1];refine⟨λ_=>?_,λ_=>q2⟩
   revert h1 h2
   cases decide (aC n e.1∈pa) <;> cases decide (aC n e.1∈pb) <;> cases decide (aC n (↥5).1∈pa) <;> cases decide (aC n (↥5).1∈pb) <;> simp
  ·have h1:=λq=>q1<|h1.mpr q;have h2:=λq=>q2<|h2.mpr q;rw[BL q1];refine⟨λq=>absurd q q2,λq=>?_⟩
   revert h1 h2 q
   cases decide (aC n e.1∈pa) <;> cases decide (aC n e.1∈pb) <;> cases decide (aC n (↥5).1∈pa) <;> cases decide (aC n (↥5).1∈pb) <;> simp
 ·have n1:=λq=>hz<|pq<|(ca z).mp q;have n2:=λq=>hz<|pq<|(cb z).mp q;rw[BL n1];exact⟨λq=>absurd q n2,λq=>absurd (pq q) hz⟩
def q96{y:Str}(h:x≠y):x.cps.toList < y.cps.toList\/y.cps.toList < x.cps.toList:=by
 by_cases q:x.cps.toList < y.cps.toList
 ·exact .inl q
 ·rcases Hf.mp (List.not_lt.mp q)with q | q
  ·exact .inr q
  ·exact absurd (bP.gj q).symm h
theorem TB(x:Str):∀ sd:Ð,b8 sd->∃ iA,b8 iA/\∀ y,y∈iA↔y=x\/y∈sd
 | [],_=>⟨[x],Gp _ _,λy=>by simp⟩
 | z :: r,h=>by
  have h:=Ct.mp h
  by_cases e:x=z
  ·subst e;exact⟨x :: r,Ct.mpr h,λy=>by simp⟩
  ·rcases q96 e with q | q
   ·refine⟨x :: z :: r,Ct.mpr ⟨λy hy=>?_,Ct.mpr h⟩,λy=>Ai⟩
    rcases Ai.mp hy with rfl | hy
    ·exact q
    ·exact Hc q<|h.1 y hy
   ·obtain⟨iA,hs,hm⟩:=TB x r h.2;refine⟨z :: iA,Ct.mpr ⟨λy hy=>?_,hs⟩,λy=>?_⟩
    ·rcases (hm y).mp hy with rfl | hy
     ·exact q
     ·exact h.1 y hy
    ·rw[Ai,hm y,Ai];exact⟨λk=>by rcases k with k | k | k <;> simp[k],λk=>by rcases k with k | k | k <;> simp[k]⟩
theorem ke:∀ l:Ð,∃ sd,b8 sd/\∀ x,x∈sd↔x∈l
 | []=>⟨[],List.Pairwise.nil,λ_=>UW⟩
 | x :: r=>by
  obtain⟨sd,hs,hm⟩:=ke r;obtain⟨iA,gZ,px⟩:=TB x sd hs;exact⟨iA,gZ,λy=>by rw[px y,hm y,Ai]⟩
def JU(T:aq n)(h0:0 < n.length)(h:kY n cs):∃ sd,aN n cs sd:=by
 obtain⟨ps,hc⟩:=h.cut
 by_cases hf:bV n∈ps
 ·obtain⟨sd,hs,hm⟩:=ke ((n.map (·.1)).filter λx=>!decide (x∈ps));have hm:∀ x,x∈sd↔x∈n.map (·.1)/\x∉ps:=λx=>by
   rw[hm x,Bf,LQ,GZ]
  refine⟨sd,hs,λx hx=>((hm x).mp hx).1,λq=>((hm _).mp q).2 hf,λz=>(hc z).trans<|k71 T (λx hx=>?_) z⟩;rw[hm x];exact⟨λq=>q.2,λq=>⟨hx,q⟩⟩
 ·obtain⟨sd,hs,hm⟩:=ke ((n.map (·.1)).filter λx=>decide (x∈ps));have hm:∀ x,x∈sd↔x∈n.map (·.1)/\x∈ps:=λx=>by
   rw[hm x,Bf,CN]
  refine⟨sd,hs,λx hx=>((hm x).mp hx).1,λq=>hf ((hm _).mp q).2,λz=>(hc z).trans ?_⟩;have k:∀{e:End},aJ n e≈z->(dA n ps z↔dA n sd z):=λ{e} he=>by
   rw[jQ T he,jQ T he];have a1:=hm<|aC n e.1;have a2:=hm<|aC n (↥5).1;have b1:=jr<|cB he;have b2:=jr<|pv T he;have c1:decide (aC n e.1∈sd)=decide (aC n e.1∈ps):=by rw[Cf,CN,CN,a1];exact⟨λq=>q.2,λq=>⟨b1,q⟩⟩
   have c2:decide (aC n (↥5).1∈sd)=decide (aC n (↥5).1∈ps):=by rw[Cf,CN,CN,a2];exact⟨λq=>q.2,λq=>⟨b2,q⟩⟩
   rw[c1,c2]
  constructor
  ·intro q;obtain⟨e,he,_⟩:=id q;exact(k he).mp q
  ·intro q;obtain⟨e,he,_⟩:=id q;exact(k he).mpr q
def HF(n:Net):Prop:=db n/\Fl n
def x1i{nm:Str}:HF [(nm,[])]:=⟨q3l _,x2w⟩
def k7z(T:aq n)(F:Full n)(hz:z∉ag n)(hc:fw n c) (hp:(ag<|ins n c z++[(pt,[z])]).Perm<|z :: z :: ag n) (P:HF n):HF (ins n c z++[(pt,[z])]):=
 ⟨k95 (JE P.1)<|q76 hc.1,k9j T F hz hc hp P.2⟩
def q8n(T:aq n)(F:Full n)(hz:z∉ag n)(h1:fw n k1)(h2:fw n k2) (hp:(ag<|ins (ins n k1 z) k2 z).Perm<|z :: z :: ag n) (ord:k2=k1\/sh k1 k2=k2) (same:(∃ k,↥14 k k1=k2)\/∃ k,↥14 k k2=k1) (P:HF n):HF (ins (ins n k1 z) k2 z):=
 ⟨JE<|JE P.1,q8r T F hz h1 h2 hp ord same P.2⟩
def q9h{n2 n0:Net}{j:Nat}(hj:j < n.length)(hi:i < max 1 (row n j).length)(T0:aq n0)(pt:(ag n++ag n2).Perm<|ag n0)
  (hV:(ag (n.eraseIdx j)++ag (n2++[(n[j].1,(row n j).drop i++(row n j).take i)])).Perm<|ag n0) (P:HF<|n++n2):HF (n.eraseIdx j++(n2++[(n[j].1,(row n j).drop i++(row n j).take i)])):=by
 refine⟨Te (λr hr=>?_) (λx hx=>?_) P.1,q6f hj hi T0 pt hV P.2⟩
 ·rcases Am.mp hr with hx | hx
  ·rcases (bP.bW n j hj).symm.mem_iff.mp hx |> Ai.mp with q | q
   ·refine⟨(n[j].1,(row n j).drop i++(row n j).take i),Au _<|Au _<|Ad.mpr rfl,by rw[q],λt ht=>?_⟩;refine(Jd (row n j) i).mem_iff.mpr ?_;rwa[jm hj,<- q]
   ·exact⟨r,Bb _ q,rfl,λt h=>h⟩
  ·exact⟨r,Au _<|Bb _ hx,rfl,λt h=>h⟩
 ·rcases Am.mp hx with hx | hx
  ·exact⟨x,Bb _<|Fb hx,rfl⟩
  ·rcases Am.mp hx with hx | hx
   ·exact⟨x,Au _ hx,rfl⟩
   ·rw[Ad]at hx;exact⟨n[j],Bb _<|Bt hj,by rw[hx]⟩
theorem rm(s:Str->Bool):∀ l:Ð,ao (l.map s)=decide ((l.filter s).length % 2=1)
 | []=>rfl
 | x :: l=>by
  show(s x ^^ ao (l.map s))=_;rw[rm s l,Do];cases h:s x
  ·rw[BL ∅,Fw]
  ·rw[BP rfl,As,Bool.true_xor,<- decide_not];exact decide_eq_decide.mpr<|⋯
theorem x04(h:cC n ss=true):cN n (λz=>ss.contains z):=λr=>by
 rw[rm]
 by_cases hr:r < n.length
 ·have:=cJ.mp h n[r]<|Bt hr;rw[jm hr];exact BR<|⋯
 ·have:row n r=[]:=by
   unfold row;rw[Bg<|⋯];rfl
  rw[this];rfl
theorem JY(h:cN n s)(hs:∀ z∈ag n,ss.contains z=s z):cC n ss=true:=cJ.mpr λr hr=>by
 obtain⟨i,hi,rfl⟩:=Ck.mp hr;have:=h i;rw[rm,jm hi]at this;have e:=List.filter_congr λz hz=>hs z<|Gb.mpr ⟨n[i],hr,hz⟩;rw[e];have:=IW this;omega
theorem gM{α:Type}:∀ l:List α,ao (l.map λ_=>false)=false
 | []=>rfl
 | _ :: l=>by show(false ^^ ao _)=false;rw[gM l];rfl
theorem J0(x:Nat)(e:End):∀ m,ao ((List.range m).map λp=>decide ((x,p)=e))=decide (x=e.1/\e.2 < m)
 | 0=>by simp[ao]
 | m+1=>by
  rw[Dk,Al,nN,J0 x e m];show(decide (x=e.1/\e.2 < m) ^^ (decide ((x,m)=e) ^^ false))=_;rw[Fx];obtain⟨a,b⟩:=e
  by_cases h:x=a
  ·by_cases h2:b=m
   ·subst h;subst h2;simp
   ·have e1:((x,m)=(a,b))=False:=by simp[h];omega
    rw[BR (p:=(x,m)=(a,b)) (by rw[e1];exact id),Fx];exact decide_eq_decide.mpr ⟨λq=>⟨q.1,by have:=q.2;omega⟩,λq=>⟨q.1,by have:=q.2;show b < m;omega⟩⟩
  ·rw[BR λq=>h q.1,BR λq=>h<|BZ Prod.fst q,BR λq=>h q.1];rfl
def J1(T:aq n){t:Str}(h:aJ n e≈t)(x:Nat):ao ((row n x).map λy=>decide (y=t))=(decide (x=e.1) ^^ decide (x=(↥5).1)):=by
 have o:=dH T h;rw[Ta n x (λy=>decide (y=t)) (λa=>decide (a=e) ^^ decide (a=↥5)) λp z hz=>?_]
 ·rw[fK (λp=>decide ((x,p)=e)) λp=>decide ((x,p)=↥5),J0,J0];have l1:=gk h;have l2:=gk o.1
  congr 1
  ·exact decide_eq_decide.mpr ⟨λq=>q.1,λq=>⟨q,by rwa[q]⟩⟩
  ·exact decide_eq_decide.mpr ⟨λq=>q.1,λq=>⟨q,by rwa[q]⟩⟩
 ·have hz:aJ n (x,p)≈z:=hz
  by_cases q:z=t
  ·subst q
   rcases (kd T h).mp hz with k | k
   ·rw[k,BW rfl,BW rfl,BR<|CK o.2.2];rfl
   ·rw[k,BW rfl,BW rfl,BR o.2.2];rfl
  ·have h1:((x,p):End)≠e:=λk=>by rw[k,h]at hz;exact q (Option.some.inj hz).symm
   have h2:((x,p):End)≠↥5:=λk=>by rw[k,o.1]at hz;exact q (Option.some.inj hz).symm
   rw[BR q,BR h1,BR h2];rfl
end Nt
namespace E9
open PySem L2 Nt bE
def J2:Sp:=λvs H Q _=>∃R as n b z pt,vs=[.ref R,.int b,.str z,.str pt]/\ai H R as n/\aq n/\Full n/\z∉ag n/\n.length<=100/\(ag n).length<=100 /\
 ∀ i ro n' H',ai H' R ro n'->qU H H' (R :: as.map (·.2))->(∀ a∈ro,a∈as\/H a.2=none)->(ag n').Perm (z :: z :: ag n)->(n'.map (·.1)=n.map (·.1)\/n'.map (·.1)=n.map (·.1)++[pt])->Full n'->(HF n->HF n')->Q (.int i) H'
variable{Z:Heap}{mg:Ñ}{K:PySem.W.Frag}{w:World}{P:Program}{ts:↥9}{fd:FuncData}{f d:Addr}{xs:List V}{H H':Hp}{i:Nat}
abbrev NP:Ð:=["_law_rows","_law_big_here","_law_tie","_law_point","_law_corners","_law_r","_law_place","_law_one","_law_kind","_law_face_here","_law_other_here","_law_spot"]
def pA:ak NP ["_law_rows","_law_big_here","_law_tie","_law_point"] (aW qP):=cm
def TC{j:Nat}{t:Addr}(h:ts[j]?≈t):fj (↥8) (j:Int)≈.ref t:=tq<|by rw[Ah,h];rfl
theorem x3b(F:bB K "_law_put" "_law_put" qP f fd)(T:Txt mg)
  (GS:↥6 3 "_law_seats" ["_law_rows"] tR)
  (GF:↥6 3 "_law_face" ["_law_rows","_law_seats_here","_law_end"] IU) :
  ↥4 4 f fd ["_law_rows","_law_big_here","_law_tie","_law_point"] J2:=by
 refine F.gc pA λb0 H vs Q E hr h=>?_;obtain⟨R,as,n,b,z,pt,rfl,hR,hT,hF,hz,hn,htn,q⟩:=h;have nd:=pA.nd;have hu:=hr.iL;have cq:=hR.len;refine aZ 4 nd<|di<|ax ⟨Z0,λlc TD=>?_⟩;have g0:=aS TD<|.lst [];refine m8 T.range (cM eU T.len DY<|ah<|ae 0<|ax ⟨R,_,rfl,.inl<|au.of<|g0 _ _ hR.lst,_,rfl,⋯,by rw[Aa];omega,?_⟩);rw[Aa,cq,Bk];refine m9 (λr σ H3=>∃ts cs u1 u2,aj H H3/\H3 lc=some (.lst<|↥8)/\Pd H3 ts cs/\(∀ c∈cs,fw n c)/\(0 < r->cs≠[])/\cs.length<=101 * r/\σ=[⇑R,some<|.int b,some<|.str z,some<|.str pt,⇑lc,u1,u2,none,none,none,none,none]) ⟨[],[],_,_,g0,az,.nil,λc hc=>(nomatch hc),λh=>absurd h ∅,An _,rfl⟩ ?_ ?_
 ·rintro r σ H3 hi ⟨ts,cs,u1,u2,sH,el,ep,hc,bD,hlen,rfl⟩;rw[Ek];refine bw 5 nd ?_;obtain⟨a,ea,dJ,et,ell,er⟩:=(hR.same sH).at hi;have iQ:=jf n r;refine m8 T.range<|cM (OV rfl) T.max VB<|ah<|aG<|ah<|cM eU T.len DY<|ah<|a8 bQ<|a8 dF<|ae 0<|ae 5 ⟨R,_,_,.ref a.1,rfl,rfl,au.of<|sH _ _ hR.lst,dJ,aG ⟨a.1,_,_,.ref a.2,rfl,rfl,aQ.of et,rfl,ax ⟨a.2,_,rfl,.inl<|au.of ell,?_⟩⟩⟩;rw[Aa];have em:(if((row n r).length:Int) > 1 then((row n r).length:Int)else 1)=((max 1 (row n r).length:Nat):Int):=by
   split <;> omega
  refine ax ⟨1,_,rfl,((max 1 (row n r).length:Nat):Int),by rw[em],⋯,⋯,?_⟩;rw[Bk];refine m9 (λp σ H4=>∃(ts:↥9) (cs:List Nt.End) (u2:Option V),aj H H4/\H4 lc=some (.lst<|↥8)/\Pd H4 ts cs/\(∀ c∈cs,fw n c)/\(0 < r+p->cs≠[])/\cs.length<=101 * r+p/\σ=[⇑R,some<|.int b,some<|.str z,some<|.str pt,⇑lc,some<|.int (r:Int),u2,none,none,none,none,none]) ⟨ts,cs,_,sH,el,ep,hc,bD,hlen,rfl⟩ ?_ ?_
  ·rintro p σ H4 hp ⟨ts,cs,u2,sH,el,ep,hc,bD,hlen,rfl⟩;rw[Ek];refine bw 6 nd ?_;refine gG<|ka<|ae 4 ⟨lc,rfl,⟨_,el⟩,d9<|ah<|ae 5<|ah<|ae 6<|ax ⟨Z2,λt ht=>?_⟩⟩;have nA:lc≠t:=bz el ht;have s2:=aS ht<|Tp (r,p);have J3:=ep.length;refine⟨↥8,by rwa[aw nA],by rw[Aa];exact cg ⋯,?_⟩;refine a9 ⟨ts++[t],cs++[(r,p)],_,fI (sH.trans s2) TD,by rw[az,Al];rfl,?_,λc h=>?_,λ_=>by simp,by rw[Ag];simp;omega,rfl⟩
   ·refine Pd.append (ep.keep λx e h=>?_)<|.cons ?_ .nil
    ·rw[aw<|vX h el];exact s2 _ _ h
    ·rw[aw nA.symm,az]
   ·rcases Am.mp h with h | h
    ·exact hc c h
    ·rw[Ad]at h;subst h;exact⟨hi,hp⟩
  ·rintro σ H4 ⟨ts,cs,u2,sH,el,ep,hc,bD,hlen,rfl⟩;refine a9 ⟨ts,cs,_,_,sH,el,ep,hc,λ_=>bD ⋯,⋯,rfl⟩
 rintro σ H3 ⟨ts,cs,u1,u2,sH,el,ep,hc,bD,hlen,rfl⟩;have GH:0 < n.length:=Cu.mpr hF.some;have mP:=bD GH;have fk:0 < cs.length:=Cu.mpr mP;have J3:=ep.length;have m0:0<=b % (cs.length:Int):=Cg _ ⋯;have m1:b % (cs.length:Int) < cs.length:=Cn _ ⋯;obtain⟨j,hj⟩:∃ j:Nat,b % (cs.length:Int)=j:=⟨(b % (cs.length:Int)).toNat,⋯⟩;have oZ:j < cs.length:=⋯
 have A7:cs[j]?=some cs[j]:=Ab oZ;obtain⟨t1,mB,e1⟩:=ep.at A7;have i0:fw n cs[j]:=hc _<|Bt oZ;generalize cs[j]=c1 at e1 i0;refine aZ 7 nd<|a8 dF<|ae 4<|bh dh<|ae 1<|cM eU T.len DY<|ah<|ae 4<|ax ⟨lc,_,rfl,.inl<|au.of el,?_⟩;rw[Aa,J3];refine⟨_,_,rfl,rfl,⋯,lc,_,_,.ref t1,rfl,rfl,au.of el,by rw[hj];exact TC mB,?_⟩;refine aZ 1 nd<|bh jB<|ae 1<|cM eU T.len DY<|ah<|ae 4<|ax ⟨lc,_,rfl,.inl<|au.of el,?_⟩;rw[Aa,J3];refine⟨_,_,rfl,rfl,⟨⋯,⋯⟩,?_⟩;show Run _ _ _ [⇑R,some<|.int<|b / (cs.length:Int),some<|.str z,some<|.str pt,⇑lc,u1,u2,⇑t1,none,none,none,none] H3;generalize b / (cs.length:Int)=b2;refine aZ 8 nd (bh dh<|ae 1<|aG ⟨_,_,rfl,rfl,(by show(0:Int) < 3;decide),?_⟩);refine aZ 1 nd (bh jB<|ae 1<|aG ⟨_,_,rfl,rfl,⟨∅,∅⟩,?_⟩);show Run _ _ _ [⇑R,some<|.int<|b2 / 3,some<|.str z,some<|.str pt,⇑lc,u1,u2,⇑t1,some<|.int<|b2 % 3,none,none,none] H3;generalize b2 / 3=b3;have uf:=hR.same sH;obtain⟨a,ea,dJ,eta,TH,era⟩:=uf.at i0.1;have TK:∀(m:Net),(ag m).length<=200->∀ i,(row m i).length<=200:=λm h i=>Ch (jf m i) h;have cin:c1.2<=(row n c1.1).length:=by
  have:=i0.2;omega
 refine dP<|cz fX<|ae 8<|aG ⟨rfl,_,rfl,?_⟩;refine jC (λ_=>?_) λ_=>a9 ?_
 ·
  have rl:=jf n c1.1;refine gG<|Ig FN RT RV Ra<|a8 bQ<|a8 dF<|ae 0<|a8 bQ<|ae 7<|aG ⟨t1,_,_,.int (c1.1:Int),rfl,rfl,aQ.of e1,rfl,R,_,_,.ref a.1,rfl,rfl,au.of uf.lst,dJ,aG ⟨a.1,_,_,.ref a.2,rfl,rfl,aQ.of eta,rfl,Or.inl ⟨rfl,_,au.of TH⟩,?_⟩⟩;refine a8 bQ (ae 7<|aG ⟨t1,_,_,.int (c1.2:Int),rfl,rfl,aQ.of e1,rfl,ae 2 ⟨a.2,_,_,_,rfl,rfl,TH,⋯,by rwa[Bk,Aa],by rw[Aa];exact cg ⋯,?_⟩⟩);rw[Bk,Rv];have R4:=uf.ins (z:=z) ea i0.1;refine gG<|ka<|ae 0 ⟨R,rfl,⟨_,R4.lst⟩,d9<|ah<|ae 3<|ah<|di<|ah<|ae 2<|ax ⟨Z1,λl1 ix=>?_⟩⟩;refine ax ⟨Z2,λt2 mh=>?_⟩;have s5:=aS ix<|Ls [z];have s6:=aS mh<|.tup [.str pt,.ref l1];have R6:=(R4.same s5).same s6;refine⟨_,R6.lst,by rw[Aa];exact cg ⋯,?_⟩;have l1f:H3 l1=none:=by
   by_cases q1:l1=a.2
   ·rw[q1,az]at ix;cases ix
   ·rwa[aw q1]at ix
  have l1n:l1∉as.map (·.2):=λhm=>by
   obtain⟨x,hx,e⟩:=Ak.mp hm;exact R4.fresh ix hx e.symm
  have l1R:l1≠R:=λe=>by rw[e,R4.lst]at ix;cases ix
  have R7:=R6.more (t:=t2) (l:=l1) (pt:=pt) (zs:=[z]) az (s6 _ _ az) l1n l1R;have tp:(ag<|ins n c1 z++[(pt,[z])]).Perm (z :: z :: ag n):=by
   unfold ag;rw[Dp];show(ag (ins n c1 z)++[z]).Perm _;exact(Cq).trans<|(mv n c1 z i0.1).cons z
  refine bS<|ae 1<|q _ _ _ _ R7 (λx o hx kZ=>?_) (λx hx=>?_) tp (.inr ?_) ?_ λhP=>k7z hT hF hz i0 tp hP
  ·have x1:x≠R:=λe=>kZ (by rw[e];exact Ae);have x2:x≠a.2:=λe=>kZ (Af _<|by rw[e];exact Ak.mpr ⟨a,Ao ea,rfl⟩);rw[aw x1];refine s6 _ _<|s5 _ _ ?_;rw[aw x2];exact sH _ _ hx
  ·rcases Am.mp hx with hx | hx
   ·exact .inl hx
   ·rw[Ad]at hx;subst hx;exact .inr<|sH.free l1f
  ·rw[Al,IZ];rfl
  ·refine .inr ⟨by simp,λi hi=>?_⟩;have hfi:=(Ja (z:=z) hF i0.1 hF.either).1;rw[Ag]at hi;simp at hi
   rcases Da i (ins n c1 z).length with h | h
   ·have:=hfi i h;unfold row at this ⊢;rwa[Ax h]
   ·unfold row;rw[Bd h,show i - (ins n c1 z).length=0 by omega];simp
 ·
  refine aZ 9 nd<|di<|ah<|ae 7<|ax ⟨Z1,λlf TL=>?_⟩;have s4:=aS TL<|.lst [.ref t1];have sH4:=sH.trans s4;have mD:=uf.same s4;obtain⟨a0,ea0,J5,et0,TR,er0⟩:=mD.at GH;have lf0:∀ x∈as,lf≠x.2:=λx hx=>uf.fresh TL hx;show Run _ _ _ [⇑R,some<|.int b3,some<|.str z,some<|.str pt,⇑lc,u1,u2,⇑t1,some<|.int<|b2 % 3,⇑lf,none,none] (upd H3 lf<|.lst [.ref t1]);refine Rc (λk H'=>aj (upd H3 lf<|.lst [.ref t1]) H'/\(k=true->row n 0≠[])) (λσ' H'=>∃(lf:Addr) (mr:↥9) (fs:List Nt.End),aj H3 H'/\(∀ x∈as,lf≠x.2)/\H' lf=some (.lst<|mr.map V.ref)/\Pd H' mr fs/\0 < fs.length/\fs.length<=1000/\(∀ c∈fs,fw n c/\∃ k,↥14 k c1=c) /\
   σ'=[⇑R,some<|.int b3,some<|.str z,some<|.str pt,⇑lc,u1,u2,⇑t1,some<|.int<|b2 % 3,⇑lf,none,none]) ?_ ?_ (λH5 ⟨s5,_⟩=>a9 ⟨lf,[t1],[c1],s4.trans s5,lf0,s5 _ _ az,.cons (s5 _ _<|s4 _ _ e1) .nil,Ff,by show 1<=1000;decide,λc iB=>by rw[Ad]at iB;rw[iB];exact⟨i0,0,rfl⟩,rfl⟩) ?_
  ·refine cz (tP hu)<|a8 bQ<|a8 dF<|ae 0<|aG ⟨R,_,_,.ref a0.1,rfl,rfl,au.of mD.lst,J5,aG ⟨a0.1,_,_,.ref a0.2,rfl,rfl,aQ.of et0,rfl,di<|ax ⟨Z0,λp hp=>?_⟩⟩⟩;have s5:=aS hp<|.lst []
   by_cases h0:row n 0=[]
   ·refine⟨1,_,∅,Ib (k:=0) (xs:=[]) (ys:=[]) (λ_=>true) (au.of<|by rw[s5 _ _ TR,h0];rfl) (au.of az) rfl (λj x y hx _=>by simp at hx),_,rfl,s5,λh=>by cases h⟩
   ·refine⟨1,_,∅,Ic (k:=1) (au.of<|s5 _ _ TR) (au.of (xs:=[]) az) (by rw[Aa];intro h;exact h0<|Bv.mp h),_,rfl,s5,λ_=>h0⟩
  ·rintro H4 ⟨J6,h0⟩;have h0:=h0 rfl;have mD:=mD.same J6;have A3:=hF.cV h0 i0;have pB:=fz n;refine aZ 9 nd (bC GF hr<|ah<|ae 0<|ah<|bC GS hr<|ah<|ae 0<|ax ⟨R,as,n,rfl,mD,⋯,⋯,λd ks H5 s5 n5 S5=>?_⟩);refine ah (ae 7<|ax ⟨R,d,t1,as,n,ks,c1,rfl,mD.same s5,S5,hT,s5 _ _<|J6 _ _<|s4 _ _ e1,A3,⋯,λl6 ts6 fs6 H6 s6 n6 e6 p6 f6=>?_⟩);exact a9 ⟨l6,ts6,fs6,s4.trans<|J6.trans<|s5.trans s6,λx hx=>(mD.same s5).fresh n6 hx,e6,p6,f6.pos,by have:=f6.len;omega,λc iB=>⟨q0g<|f6.ends hT A3 c iB,q7l f6 iB⟩,rfl⟩
  ·rintro σ' H5 ⟨lf,mr,fs,s5,lfn,J7,Hz,x0E,x0F,J8,rfl⟩;have wH:=Hz.length;have n0:0<=b3 % (fs.length:Int):=Cg _ ⋯;have n1:b3 % (fs.length:Int) < fs.length:=Cn _ ⋯;obtain⟨j2,gN⟩:∃ j:Nat,b3 % (fs.length:Int)=j:=⟨(b3 % (fs.length:Int)).toNat,⋯⟩;have wI:j2 < fs.length:=⋯
   have J9:fs[j2]?=some fs[j2]:=Ab wI;obtain⟨t2,pC,e2⟩:=Hz.at J9;obtain⟨rp,iC⟩:=J8 _<|Bt wI;generalize fs[j2]=c2 at e2 rp iC;have qo:=s5 _ _ e1;refine aZ 10 nd<|a8 dF<|ae 9<|bh dh<|ae 1<|cM eU T.len DY<|ah<|ae 9<|ax ⟨lf,_,rfl,.inl<|au.of J7,?_⟩;rw[Aa,wH];refine⟨_,_,rfl,rfl,⋯,lf,_,_,.ref t2,rfl,rfl,au.of J7,by rw[gN];exact TC pC,?_⟩;have wJ:=uf.same s5;refine jF<|k6g T.sorted<|di<|ah<|ae 7<|ah<|ae 10<|ax ⟨Z2,λl2 kF=>?_⟩;have s6:=aS kF<|.lst [.ref t1,.ref t2];refine⟨l2,t1,t2,(c1.1:Int),(c1.2:Int),(c2.1:Int),(c2.2:Int),rfl,az,s6 _ _ qo,s6 _ _ e2,λrr TU=>?_⟩;have rn:∀ x∈as,rr≠x.2:=λx hx=>(wJ.same s6).fresh TU hx;obtain⟨x1,x2,k1,k2,fA,f1,f2,q1,q2,J',js⟩:∃ x1 x2 k1 k2,(if lexLt ((c1.1:Int),(c1.2:Int)) ((c2.1:Int),(c2.2:Int))=true then [V.ref t2,.ref t1]else [.ref t1,.ref t2])=[.ref x1,.ref x2]/\(upd H5 l2<|.lst [.ref t1,.ref t2]) x1≈Tp k1/\(upd H5 l2<|.lst [.ref t1,.ref t2]) x2≈Tp k2/\fw n k1/\fw n k2/\(k2=k1\/sh k1 k2=k2)/\((∃ k,↥14 k k1=k2)\/∃ k,↥14 k k2=k1):=by
    cases T1:lexLt ((c1.1:Int),(c1.2:Int)) ((c2.1:Int),(c2.2:Int)) with
    | true=>exact⟨t2,t1,c2,c1,rfl,s6 _ _ e2,s6 _ _ qo,rp,i0,.inr<|q3x T1,.inr iC⟩
    | false=>exact⟨t1,t2,c1,c2,rfl,s6 _ _ qo,s6 _ _ e2,i0,rp,q2e T1,.inl iC⟩
   rw[fA];have s7:=aS TU<|.lst [.ref x1,.ref x2];have f1:=s7 _ _ f1;have f2:=s7 _ _ f2;have s6:=s6.trans s7;have fr:=az (H:=upd H5 l2<|.lst [.ref t1,.ref t2]) (a:=rr) (o:= .lst [.ref x1,.ref x2]);generalize upd (upd H5 l2<|.lst [.ref t1,.ref t2]) rr (.lst [.ref x1,.ref x2])=H6 at f1 f2 s6 fr ⊢;have wK:aj H H6:=sH.trans<|s5.trans s6;have hR6:=wJ.same s6;have wL:qU H H6 (R :: as.map (·.2)):=λx o hx _=>wK _ _ hx;refine⟨rr,rfl,⟨_,au.of fr⟩,jG (xs:=[.ref x1,.ref x2]) (λi σ H7=>∃(m:Net) (u:Option V),ai H7 R as m/\qU H H7 (R :: as.map (·.2))/\H7 rr≈.lst [.ref x1,.ref x2]/\H7 lf=some (.lst<|mr.map V.ref)/\H7 x1≈Tp k1/\H7 x2=some (Tp k2) /\
    ((i=0/\m=n)\/(i=1/\m=ins n k1 z)\/(i=2/\m=ins (ins n k1 z) k2 z))/\σ=[⇑R,some<|.int b3,some<|.str z,some<|.str pt,⇑lc,u1,u2,⇑t1,some<|.int<|b2 % 3,⇑lf,⇑t2,u]) ⟨n,_,hR6,wL,fr,s6 _ _ J7,f1,f2,.inl ⟨rfl,rfl⟩,rfl⟩ ?_ ?_ ?_⟩
   ·rintro i σ H7 _ ⟨m,u,_,_,Ka,_⟩;exact au.of Ka
   ·rintro i v σ H7 hv ⟨m,u,wM,rq,Ka,T4,g1,g2,hm,rfl⟩;have ti1:=(mv n k1 z q1.1).length_eq;rw[As]at ti1;obtain⟨y,k,rfl,hy,hk,jt,hml⟩:∃ y k,v = .ref y/\H7 y≈Tp k/\fw m k/\((i+1=0/\ins m k z=n)\/(i+1=1/\ins m k z=ins n k1 z)\/(i+1=2/\ins m k z=ins (ins n k1 z) k2 z))/\(ag m).length<=200:=by
     rcases hm with ⟨rfl,rfl⟩ | ⟨rfl,rfl⟩ | ⟨rfl,rfl⟩
     ·cases hv;exact⟨x1,k1,rfl,g1,q1,.inr<|.inl ⟨rfl,rfl⟩,⋯⟩
     ·cases hv;exact⟨x2,k2,rfl,g2,AG q2 q1.1,.inr<|.inr ⟨rfl,rfl⟩,⋯⟩
     ·simp at hv
    refine bw 11 nd ?_;obtain⟨a',T5,Kb,Kc,nQ,x0G⟩:=wM.at hk.1;have rl:=jf m k.1;have uQ:k.2<=(row m k.1).length:=by
     have:=hk.2;omega
    refine gG<|Ig FN RT RV Ra<|a8 bQ<|a8 dF<|ae 0<|a8 bQ<|ae 11<|aG ⟨y,_,_,.int (k.1:Int),rfl,rfl,aQ.of hy,rfl,R,_,_,.ref a'.1,rfl,rfl,au.of wM.lst,Kb,aG ⟨a'.1,_,_,.ref a'.2,rfl,rfl,aQ.of Kc,rfl,Or.inl ⟨rfl,_,au.of nQ⟩,?_⟩⟩;refine a8 bQ (ae 11<|aG ⟨y,_,_,.int (k.2:Int),rfl,rfl,aQ.of hy,rfl,ae 2 ⟨a'.2,_,_,_,rfl,rfl,nQ,⋯,by rwa[Bk,Aa],by rw[Aa];exact cg ⋯,?_⟩⟩);rw[Bk,Rv];have am:a'∈as:=Ao T5;refine a9 ⟨ins m k z,_,wM.ins T5 hk.1,λx o hx kZ=>?_,by rwa[aw<|rn a' am],by rwa[aw<|lfn a' am],by rwa[aw<|vX g1 nQ],by rwa[aw<|vX g2 nQ],jt,rfl⟩;have x2:x≠a'.2:=λe=>kZ (Af _<|by rw[e];exact Ak.mpr ⟨a',am,rfl⟩);rw[aw x2];exact rq x o hx kZ
   ·rintro σ H7 ⟨m,u,wM,rq,Ka,T4,g1,g2,hm,rfl⟩;have em:m=ins (ins n k1 z) k2 z:=by
     rcases hm with ⟨h,_⟩ | ⟨h,_⟩ | ⟨_,h⟩
     ·exact absurd h<|by show ¬(2=0);decide
     ·exact absurd h<|by show ¬(2=1);decide
     ·exact h
    refine bS<|bh jB<|ae 1<|cM eU T.len DY<|ah<|ae 9<|ax ⟨lf,_,rfl,.inl<|au.of T4,?_⟩;rw[Aa,wH];refine⟨_,_,rfl,rfl,⟨⋯,⋯⟩,?_⟩;have fi:=Ja (z:=z) hF q1.1 hF.either;have F2:Full (ins n k1 z):= .inr ⟨fi.2,fi.1⟩;have T6:=Ja (z:=z) F2 (AG (z:=z) q2 q1.1).1 F2.either;subst em;exact q _ as _ H7 wM rq (λx hx=> .inl hx) ((mv _ k2 z (AG (z:=z) q2 q1.1).1).trans<|(mv n k1 z q1.1).cons z) (.inl<|by rw[IZ,IZ]) (.inr ⟨T6.2,T6.1⟩) λhP=>q8n hT hF hz q1 q2 ((mv _ k2 z (AG (z:=z) q2 q1.1).1).trans<|(mv n k1 z q1.1).cons z) J' js hP
def Kd:Sp:=λvs H Q _=>∃b m sm,vs=[.int b,.int m,.int sm]/\0<=m/\m<=35 /\
 ∀ L as n H',aj H H'->H L=none->ai H' L as n->aq n->(n.map (·.1)).Nodup->Full n->HF n->(ag n).length<=2 * m.toNat->n.length<=m.toNat+1->(∀ a∈as,H a.2=none)->Q (.ref L) H'
abbrev NB:Ð:=["_law_big_here","_law_most","_law_stem","_law_many","_law_ties","_law_points","_law_rows","_law_k","_law_told","_law_row","_law_size"]
def pD:ak NB ["_law_big_here","_law_most","_law_stem"] (aW qR):=cm
def q98(h:H d≈.lst xs):mV K "list" (.ref d) H:=Or.inl ⟨rfl,xs,au.of h⟩
def jr{b:Int}{m:Nat}(h:i < m):fj ((namesOf b m).map V.str) (i:Int)=some (.str<|aV b i):=vW<|k7a h
theorem x15(F:bB K "_law_net_by" "_law_net_by" qR f fd)(T:Txt mg)
  (GN:↥6 4 "_law_names" ["_law_stem","_law_many"] IQ)
  (GP:↥6 4 "_law_put" ["_law_rows","_law_big_here","_law_tie","_law_point"] J2) :
  ↥4 5 f fd ["_law_big_here","_law_most","_law_stem"] Kd:=by
 refine F.gc pD λb0 H vs Q E hr h=>?_;obtain⟨b,m,sm,rfl,m0,m35,q⟩:=h;have nd:=pD.nd;have hu:=hr.iL;have k0:0<=b % (m+1):=Cg _ ⋯;have k1:b % (m+1) < m+1:=Cn _ ⋯;obtain⟨mn,hmn⟩:∃ k:Nat,b % (m+1)=k:=⟨(b % (m+1)).toNat,⋯⟩;have hmm:mn<=m.toNat:=⋯
 refine aZ 3 nd<|bh dh<|ae 0<|bh iu<|ae 1<|aG ⟨_,_,rfl,rfl,?_⟩;refine⟨_,_,rfl,rfl,(by show 0 < m+1;omega),?_⟩;refine aZ 0 nd<|bh jB<|ae 0<|bh iu<|ae 1<|aG ⟨_,_,rfl,rfl,?_⟩;refine⟨_,_,rfl,rfl,(by show vb b (m+1);exact⟨⋯,⋯⟩),?_⟩;show Run _ _ _ [some<|.int<|b / (m+1),some<|.int m,some<|.int sm,some<|.int<|b % (m+1),none,none,none,none,none,none,none] H;rw[hmn];generalize b / (m+1)=b1;refine aZ 4 nd (bC GN hr<|ah<|ae 2<|ah<|ae 3<|ax ⟨sm,(mn:Int),rfl,⋯,⋯,λlt H1 s1 n1 e1=>?_⟩);rw[Bk]at e1;refine aZ 5 nd (bC GN hr<|ah<|a8 dF<|di<|ah<|bh iu<|bh jB<|ae 2<|aG ⟨_,_,rfl,rfl,⟨∅,∅⟩,aG ⟨_,_,rfl,rfl,ah<|ae 2<|ax ⟨Z2,λp hp=>?_⟩⟩⟩);refine qk Rb T.vZ UJ (ah<|j6 fX<|bh dh<|ae 2<|aG ⟨_,_,rfl,rfl,(by show(0:Int) < 4;decide),aG ⟨rfl,ax ⟨_,rfl,?_⟩⟩⟩);have s2:=aS hp<|.lst [.int<|sm / 3+1,.int sm];obtain⟨k4,ex⟩:∃ k4:Int,fj [V.int<|sm / 3+1,.int sm] (if decide (V.int (sm % 4)=V.int 1)=true then 1 else 0)≈.int k4:=by
  cases decide (V.int (sm % 4)=V.int 1) with
  | true=>exact⟨sm,rfl⟩
  | false=>exact⟨sm / 3+1,rfl⟩
 refine⟨p,_,_,.int k4,rfl,rfl,au.of az,ex,?_⟩;refine ah (bh iu<|ae 3<|aG ⟨_,_,rfl,rfl,ax ⟨k4,(mn:Int)+1,rfl,⋯,⋯,λlp H2 s3 n3 e3=>?_⟩⟩);have em:((mn:Int)+1).toNat=mn+1:=⋯
 rw[em]at e3;have Ke:aj H H2:=s1.trans<|s2.trans s3;have e1:H2 lt=some (Ls<|namesOf sm mn):=s3 _ _<|s2 _ _ e1;refine aZ 6 nd<|di<|ah<|d9<|ah<|a8 dF<|ae 5<|aG ⟨lp,_,_,.str<|aV k4 0,rfl,rfl,au.of e3,jr<|Ey _,ah<|di<|ax ⟨Z0,λl1 ix=>?_⟩⟩;refine ax ⟨Z2,λt1 ht1=>ax ⟨Z1,λR T7=>?_⟩⟩;have s4:=aS ix<|Ls [];have s5:=aS ht1<|.tup [.str<|aV k4 0,.ref l1];have s6:=aS T7<|.lst [.ref t1];have hR0:ai (upd (upd (upd H2 l1<|.lst []) t1<|.tup [.str<|aV k4 0,.ref l1]) R<|.lst [.ref t1]) R [(t1,l1)] [(aV k4 0,[])]:=by
  refine⟨rfl,az,λi a r h1 h2=>?_,by simp⟩;cases i with
  | zero=>
   cases h1;cases h2;exact⟨s6 _ _ az,s6 _ _<|s5 _ _ az⟩
  | succ i=>simp at h1
 have fR:H2 R=none:=s4.free<|s5.free T7;refine m8 T.range (ae 3 ⟨(mn:Int),rfl,⋯,⋯,?_⟩);rw[Bk];refine m9 (λk σ H3=>∃(as:Î) (n:Net) (b:Int) (u:Option V),ai H3 R as n/\aj H2 H3/\(∀ a∈as,H2 a.2=none)/\Full n/\HF n/\(ag n).Perm (dbl<|namesOf sm k)/\n.map (·.1)=namesOf k4 n.length/\n.length<=k+1 /\
  σ=[some<|.int b,some<|.int m,some<|.int sm,some<|.int (mn:Int),⇑lt,⇑lp,⇑R,u,none,none,none]) ⟨_,_,b1,_,hR0,s4.trans<|s5.trans s6,λa ha=>by rw[Ad]at ha;rwa[ha],.inl ⟨_,rfl⟩,x1i,List.Perm.refl _,rfl,An _,rfl⟩ ?_ ?_
 ·rintro k σ H3 hk ⟨as,n,b,u,hR,sH,j8,hF,A8,hp,Kf,hlen,rfl⟩;rw[Ek];refine bw 7 nd ?_;have cq:=hR.len;have tl:=hp.length_eq;rw[Jc,Im]at tl;have nz:aV sm k∉ag n:=λh=>by
   have h1:=jl.mp<|hp.mem_iff.mp h;have h2:=zP (b:=sm) (m:=k+1) ⋯;rw[zQ,Co]at h2;exact h2.2.2 _ h1 _ (Ad.mpr rfl) rfl
  have n0:0 < n.length:=Cu.mpr hF.some;refine aZ 0 nd<|bC GP hr<|ah<|ae 6<|ah<|ae 0<|ah<|a8 dF<|ae 4<|ae 7 ⟨lt,_,_,.str<|aV sm k,rfl,rfl,au.of<|sH _ _ e1,jr hk,?_⟩;refine ah<|a8 dF<|ae 5<|cM eU T.len DY<|ah<|ae 6<|ax ⟨R,_,rfl,.inl<|au.of hR.lst,?_⟩;rw[Aa,cq];refine⟨lp,_,_,.str<|aV k4 n.length,rfl,rfl,au.of<|sH _ _ e3,jr ⋯,?_⟩;refine ax ⟨R,as,n,b,aV sm k,aV k4 n.length,rfl,hR,Rw (zP<|⋯) hp,hF,nz,⋯,⋯,λi ro n' H' hR' kp Kg jR wN hF' Kh=>?_⟩;have sH':aj H2 H':=λx o hx=>by
   refine kp x o (sH _ _ hx) λhm=>?_
   rcases Ai.mp hm with h | h
   ·rw[h,fR]at hx;cases hx
   ·obtain⟨y,hy,e⟩:=Ak.mp h;rw[<- e,j8 y hy]at hx;cases hx
  refine a9 ⟨ro,n',i,_,hR',sH',λy hy=>?_,hF',Kh A8,?_,?_,?_,rfl⟩
  ·rcases Kg y hy with h | h
   ·exact j8 y h
   ·exact sH.free h
  ·refine jR.trans ?_;rw[zQ,q43];refine List.Perm.trans ?_ Cq;exact((hp.cons _).cons _)
  ·rcases wN with h | h
   ·have hl:=BZ List.length h;rw[Aa,Aa]at hl;rwa[h,hl]
   ·have hl:=BZ List.length h;rw[Aa,Ag,Aa]at hl;have iM:n'.length=n.length+1:=hl;rw[h,iM,zQ,Kf]
  ·rcases wN with h | h
   ·have hl:=BZ List.length h;rw[Aa,Aa]at hl;omega
   ·have hl:=BZ List.length h;rw[Aa,Ag,Aa]at hl;have iM:n'.length=n.length+1:=hl;omega
 rintro σ H3 ⟨as0,n0,b,u,hR,sH,j8,hF,x0H,hp,Kf,hlen,rfl⟩;have tl:=hp.length_eq;rw[Jc,Im]at tl;have T8:aq n0:=Rw (zP<|⋯) hp;have hN0:(n0.map (·.1)).Nodup:=by rw[Kf];exact zP<|⋯
 refine aZ 8 nd<|di<|ax ⟨Z0,λL hL=>?_⟩;have s7:=aS hL<|.lst [];have T9:R≠L:=bz hR.lst hL;have fL:H2 L=none:=sH.free hL;have rA:ai (upd H3 L<|.lst []) L [] []:=⟨rfl,az,λi a r h1=>by simp at h1,by simp⟩;refine vT (λk σ H4=>∃(as pE:Î) (n n2:Net) (b:Int) (u9 Ua:Option V),k=n.length/\ai H4 R as n/\ai H4 L pE n2/\aj H2 H4/\(∀ a∈as,a.2≠L)/\(∀ a∈pE,a.2≠R)/\(∀ a∈pE,H2 a.2=none)/\n.length+n2.length=n0.length /\
   (ag n++ag n2).Perm (ag n0)/\(n.map (·.1)++n2.map (·.1)).Perm (n0.map (·.1))/\(NE n0->NE n/\NE n2)/\HF (n++n2) /\
   σ=[some<|.int b,some<|.int m,some<|.int sm,some<|.int (mn:Int),⇑lt,⇑lp,⇑R,u,⇑L,u9,Ua])
  (m0:=n0.length) ⟨as0,[],n0,[],b,_,_,rfl,hR.same s7,rA,sH.trans s7,λa ha=>(hR.fresh hL ha).symm,λa ha=>(nomatch ha),λa ha=>(nomatch ha),rfl,by simp[ag],by simp,λh=>⟨h,λr hr=>(nomatch hr)⟩,by rwa[Bp],rfl⟩ ?_
 rintro k σ H4 ⟨as,pE,n,n2,b,u9,Ua,rfl,hR,nR,sH,aL,aR,Ub,wO,pt,pn,bD,A8,rfl⟩;have cq:=hR.len;have Ki:=nR.len;have x0I:(ag n).length<=70:=by
  have:=pt.length_eq;rw[Ag]at this;omega
 refine cz (tP hu)<|ae 6<|di<|ax ⟨Z0,λp m4=>?_⟩;have s8:=aS m4<|.lst []
 by_cases h0:n=[]
 ·subst h0;have ea:as=[]:=Bv.mp cq⁻¹;subst ea;refine⟨1,_,∅,Ib (k:=0) (xs:=[]) (ys:=[]) (λ_=>true) (au.of<|s8 _ _ hR.lst) (au.of az) rfl (λj x y hx _=>by simp at hx),_,rfl,bR<|bS<|ae 8 ?_⟩;have hV:(ag n2).Perm (ag n0):=pt;have pn':(n2.map (·.1)).Perm (n0.map (·.1)):=pn;have l2:n2.length=n0.length:=by simpa using wO
  refine q L pE n2 _ (Ke.trans<|sH.trans s8) (Ke.free fL) (nR.same s8) (λz hz=>?_) (pn'.nodup_iff.mpr hN0) ?_ A8 (by rw[hV.length_eq];omega) ⋯ λa ha=>Ke.free<|Ub a ha
  ·rw[hV.count_eq];exact T8 z<|hV.mem_iff.mp hz
  ·rcases hF.ne with ⟨nm,h⟩ | h
   ·subst h;have t0:ag n2=[]:=List.Perm.eq_nil hV
    match n2,l2,t0 with
    | [(nm2,zs)],_,t0=>
     have:zs=[]:=by simpa[ag]using t0
     subst this;exact .inl ⟨_,rfl⟩
   ·refine q7v (bD h).2 λe=>?_;rw[e]at l2;exact hF.some<|Bv.mp l2.symm
 ·have np:0 < n.length:=Cu.mpr h0;refine⟨1,_,∅,Ic (k:=1) (au.of<|s8 _ _ hR.lst) (au.of (xs:=[]) az) (by rw[Aa,cq];exact Cz np),_,rfl,cv ?_⟩;have hR:=hR.same s8;have nR:=nR.same s8;have sH:=sH.trans s8;generalize upd H4 p (.lst [])=H5 at hR nR sH ⊢;have r0:0<=b % (n.length:Int):=Cg _ ⋯;have r1:b % (n.length:Int) < n.length:=Cn _ ⋯;obtain⟨j,hj⟩:∃ k:Nat,b % (n.length:Int)=k:=⟨(b % (n.length:Int)).toNat,⋯⟩;have rB:j < n.length:=⋯
  obtain⟨a,ea,dJ,et,el,er⟩:=hR.at rB;refine aZ 9 nd<|Ie FN VD VF ZA<|ae 6 ⟨q98 hR.lst,bh dh<|ae 0<|cM eU T.len DY<|ah<|ae 6<|ax ⟨R,_,rfl,.inl<|au.of hR.lst,?_⟩⟩;rw[Aa,cq];refine⟨_,_,rfl,rfl,⋯,R,_,_,j,.ref a.1,rfl,rfl,hR.lst,by rw[hj];omega,by rw[hj];omega,?_,?_,?_⟩
  ·rw[hj,Aa,cq];unfold seqIndex?;have c1:¬((j:Int) < 0):=⋯
   simp only[c1,CP];have c2:(decide (0<=(j:Int)) && decide ((j:Int) < (n.length:Int)))=true:=by
    rw[Cb,DQ,DQ];omega
   rw[BP c2,Bk]
  ·rw[Ah,ea];rfl
  have R6:=hR.erase rB;have am:a∈as:=Ao ea;have Kj:∀ x∈as,x.2≠R:=λx hx e=>by
   obtain⟨zs,e2⟩:=hR.lists hx;have h3:=hR.lst;rw[<- e,e2]at h3;have h4:=HO.lst.inj<|Option.some.inj h3;cases as with
   | nil=>cases hx
   | cons b' bs=>
    cases zs with
    | nil=>simp at h4
    | cons y r=>simp at h4
  have L6:=nR.upd (o:= .lst<|(as.map λa=>V.ref a.1).eraseIdx j) hR.lst T9.symm aR;have wQ:(upd H5 R<|.lst<|(as.map λa=>V.ref a.1).eraseIdx j) a.1≈.tup [.str n[j].1,.ref a.2]:=by rwa[aw<|cf et hR.lst λe=>nomatch e]
  have A9:(upd H5 R<|.lst<|(as.map λa=>V.ref a.1).eraseIdx j) a.2=some (Ls<|row n j):=by rwa[aw<|Kj a am]
  have wK:aj H2 (upd H5 R<|.lst<|(as.map λa=>V.ref a.1).eraseIdx j):=fI sH fR;generalize upd H5 R (.lst<|(as.map λa=>V.ref a.1).eraseIdx j)=H6 at R6 L6 wQ A9 wK ⊢;have le6:=R6.len;have rC:(n.eraseIdx j).length=n.length - 1:=by rw[Dg,BP rB]
  refine aZ 0 nd<|bh jB<|ae 0<|bh iu<|cM eU T.len DY<|ah<|ae 6<|ax ⟨R,_,rfl,.inl<|au.of R6.lst,aG ⟨_,_,rfl,rfl,?_⟩⟩;rw[Aa,le6,rC];refine⟨_,_,rfl,rfl,⟨⋯,⋯⟩,?_⟩;have x0J:=jf n j;refine aZ 10 nd<|cM (OV rfl) T.max VB<|ah<|aG<|ah<|cM eU T.len DY<|ah<|a8 bQ<|ae 9<|aG ⟨a.1,_,_,.ref a.2,rfl,rfl,aQ.of wQ,rfl,ax ⟨a.2,_,rfl,.inl<|au.of A9,?_⟩⟩;rw[Aa];refine ax ⟨1,_,rfl,?_⟩;have emx:(if((row n j).length:Int) > 1 then((row n j).length:Int)else 1)=((max 1 (row n j).length:Nat):Int):=by
   split <;> omega
  rw[emx];show Run _ _ _ [some<|.int<|b / ((n.length - 1:Nat)+1:Int),some<|.int m,some<|.int sm,some<|.int (mn:Int),⇑lt,⇑lp,⇑R,u,⇑L,some<|.ref a.1,some<|.int ((max 1 (row n j).length:Nat):Int)] H6;generalize b / ((n.length - 1:Nat)+1:Int)=b2;have z0:0<=b2 % ((max 1 (row n j).length:Nat):Int):=Cg _ ⋯;obtain⟨i,hi⟩:∃ k:Nat,b2 % ((max 1 (row n j).length:Nat):Int)=k:=⟨(b2 % ((max 1 (row n j).length:Nat):Int)).toNat,⋯⟩;refine gG<|ka<|ae 8 ⟨L,rfl,⟨_,L6.lst⟩,d9<|ah<|a8 bQ<|ae 9<|aG ⟨a.1,_,_,.str n[j].1,rfl,rfl,aQ.of wQ,rfl,?_⟩⟩;refine ah (bh ZC<|P1 O8<|a8 bQ<|ae 9<|aG ⟨a.1,_,_,.ref a.2,rfl,rfl,aQ.of wQ,rfl,P4<|bh dh<|ae 0<|ae 10 ⟨b2,((max 1 (row n j).length:Nat):Int),rfl,rfl,⋯,_,rfl,P2 ⟨a.2,_,rfl,au.of A9,λp1 Kk=>?_⟩⟩⟩);rw[hi,q4q];have t1:=aS Kk<|Ls<|(row n j).drop i;refine P1 O8 (a8 bQ<|ae 9<|aG ⟨a.1,_,_,.ref a.2,rfl,rfl,aQ.of<|t1 _ _ wQ,rfl,P2<|P4<|bh dh<|ae 0<|ae 10 ⟨b2,((max 1 (row n j).length:Nat):Int),rfl,rfl,⋯,_,rfl,a.2,_,rfl,au.of<|t1 _ _ A9,λp2 m4=>?_⟩⟩);rw[hi,x1x];have t2:=aS m4<|Ls<|(row n j).take i;refine⟨p1,p2,_,_,rfl,rfl,t2 _ _ az,az,?_,λp3 rD=>?_⟩
  ·rw[Aa,Aa,Du,Br];exact small<|⋯
  rw[<- Al];have t3:=aS rD<|Ls<|(row n j).drop i++(row n j).take i;refine ax ⟨Z2,λt4 ht4=>?_⟩;have s4:=aS ht4<|.tup [.str n[j].1,.ref p3];have rE:=t1.trans<|t2.trans<|t3.trans s4;have L7:=L6.same rE;have R7:=R6.same rE;have p3L:p3≠L:=λe=>by rw[e,(t1.trans t2) _ _ L6.lst]at rD;cases rD
  have p3R:p3≠R:=λe=>by rw[e,(t1.trans t2) _ _ R6.lst]at rD;cases rD
  have p3n:p3∉pE.map (·.2):=λhm=>by
   obtain⟨y,hy,e⟩:=Ak.mp hm;exact(L6.same<|t1.trans t2).fresh rD hy e.symm
  have L8:=L7.more (t:=t4) (l:=p3) (pt:=n[j].1) (zs:=(row n j).drop i++(row n j).take i) az (s4 _ _ az) p3n p3L;refine⟨_,L7.lst,by rw[Aa,Ki];exact cg ⋯,?_⟩;have Uc:∀ x∈as.eraseIdx j,x.2≠L:=λx hx=>aL x<|Fb hx;have R8:=R7.upd (o:= .lst<|pE.map (λa=>V.ref a.1)++[.ref t4]) L7.lst T9 Uc;refine aZ 0 nd (bh jB<|ae 0<|ae 10 ⟨b2,((max 1 (row n j).length:Nat):Int),rfl,rfl,⟨⋯,⋯⟩,?_⟩);have pe:=Rx n j rB;have ne:=k31 n j rB;have Ud:(ag (n.eraseIdx j)++ag (n2++[(n[j].1,(row n j).drop i++(row n j).take i)])).Perm (ag n0):=by
   refine List.Perm.trans ?_ pt;unfold ag;rw[Dp];show(ag (n.eraseIdx j)++(ag n2++(((row n j).drop i++(row n j).take i)++[]))).Perm _;rw[Bp,er];have w1:(n[j].2.drop i++n[j].2.take i).Perm n[j].2:=Jd _ _;refine((w1.append_left _).append_left _).trans ?_;have w2:(ag n++ag n2).Perm ((n[j].2++ag (n.eraseIdx j))++ag n2):=pe.append_right _;refine List.Perm.trans ?_ w2.symm;rw[Ar];refine List.Perm.trans ?_<|Cq (l₁:=ag (n.eraseIdx j)++ag n2);rw[Ar]
  refine a9 ⟨n.length - 1,⋯,as.eraseIdx j,pE++[(t4,p3)],n.eraseIdx j,n2++[(n[j].1,(row n j).drop i++(row n j).take i)],_,_,_,rC.symm,R8,L8,fI (wK.trans rE) fL,Uc,λx hx=>?_,λx hx=>?_,?_,Ud,?_,λh=>⟨λr hr=>?_,λr hr=>?_⟩,q9h rB (by have:=Cn b2 (show(0:Int) < ((max 1 (row n j).length:Nat):Int) by omega);rw[hi]at this;exact Int.ofNat_lt.mp this) T8 pt Ud A8,rfl⟩
  ·rcases Am.mp hx with hx | hx
   ·exact aR x hx
   ·rw[Ad]at hx;rwa[hx]
  ·rcases Am.mp hx with hx | hx
   ·exact Ub x hx
   ·rw[Ad]at hx;rw[hx];exact wK.free<|t1.free<|t2.free rD
  ·rw[Ag,rC];simp;omega
  ·refine List.Perm.trans ?_ pn;rw[Al];show((n.eraseIdx j).map (·.1)++(n2.map (·.1)++[n[j].1])).Perm _;refine List.Perm.trans ?_ (ne.append_right _).symm;rw[<- Ar];exact Cq
  ·exact(bD h).1 r<|Fb hr
  ·rcases Am.mp hr with hr | hr
   ·exact(bD h).2 r hr
   ·rw[Ad]at hr;rw[hr];intro e;have w1:=(Jd (row n j) i).length_eq;have e':(row n j).drop i++(row n j).take i=[]:=e;rw[e']at w1;have:=(bD h).1 n[j]<|Bt rB;rw[er]at w1;exact this<|Bv.mp w1.symm
def Kl:Sp:=λvs H Q _=>∃R as n,vs=[.ref R]/\ai H R as n/\n.length<=1000/\∀ L ro H',aj H H'->H L=none->(∀ a∈ro,H a.1=none/\H a.2=none)->ai H' L ro n->Q (.ref L) H'
theorem iR{l:Addr}(s:aj H H')(h:H' l=none):H l=none:=by
 cases e:H l with
 | none=>rfl
 | some v=>rw[s _ _ e]at h;cases h
abbrev NC:Ð:=["_law_rows"]
abbrev Ue:Ð:=["_law_rows","_law_row"]
def k6:ak NC ["_law_rows"] (aW z7):=cm
def Km:Ue.Nodup:=by decide +kernel
theorem q8s(F:bB K "_law_copy" "_law_copy" z7 f fd)(T:Txt mg):↥4 1 f fd ["_law_rows"] Kl:=by
 refine F.gc k6 λb0 H vs Q E hr h=>?_;obtain⟨R,as,n,rfl,hR,hn,q⟩:=h;have cq:=hR.len;refine bS<|jb (aW z7) NC Ue 1 (gD bI)<|ae 0 ⟨R,rfl,⟨_,au.of hR.lst⟩,λD hD=>?_⟩;refine oY (xs:=as.map λa=>V.ref a.1) (λi σ' H'=>(∃ v,σ'=[⇑R]++[v])/\∃ bs:Î,bs.length=i/\H' D=some (.lst<|bs.map λa=> .ref a.1) /\
  (∀(j:Nat) a r,bs[j]?≈a->n[j]?≈r->H' a.1≈.tup [.str r.1,.ref a.2]/\H' a.2≈Ls r.2)/\(bs.map (·.2)).Nodup/\(∀ a∈bs,a.2≠D/\H a.1=none/\H a.2=none/\∃ zs,H' a.2≈Ls zs)/\aj H H')
  ⟨⟨none,rfl⟩,[],rfl,az,λj a r h=>by simp at h,Cd,λa h=>by simp at h,aS hD _⟩ ?_ ?_ ?_
 ·rintro i σ' H' _ ⟨_,bs,_,_,_,_,_,sm⟩;exact au.of<|sm _ _ hR.lst
 ·rintro i x σ' H' hx ⟨⟨v,rfl⟩,bs,tM,oU,Kn,wR,ug,sm⟩;have hi:i < n.length:=by
   have:=(Ac.mp hx).1;rw[Aa]at this;omega
  obtain⟨a,ea,dJ,et,el,er⟩:=(hR.same sm).at hi;rw[Ah,ea]at hx;cases hx;intro cl C' æ ç ex;refine bw 1 Km ?_;intro cl C' æ ç ex;refine ja ?_;rw[BP rfl];intro cl C' æ ç ex;refine d9<|ah<|a8 bQ<|ae 1<|aG ⟨a.1,_,_,.str n[i].1,rfl,rfl,aQ.of et,rfl,?_⟩;refine ah<|qk Zo T.kL MN<|ah<|a8 bQ<|ae 1<|aG ⟨a.1,_,_,.ref a.2,rfl,rfl,aQ.of et,rfl,?_⟩;refine ax ⟨a.2,_,rfl,.inl<|au.of el,λl hl=>ax ⟨Z2,λt ht=>?_⟩⟩;have nh:=iR sm hl;have Ko:t≠l:=λe=>by rw[e,az]at ht;cases ht
  have gu:H' t=none:=by rwa[aw Ko]at ht
  have Ug:=iR sm gu;have nS:l≠D:=λe=>by rw[e]at hl;rw[hl]at oU;cases oU
  have Uh:t≠D:=λe=>by rw[e]at gu;rw[gu]at oU;cases oU
  refine⟨bs.map λa=> .ref a.1,?_,?_,⟨_,rfl⟩,bs++[(t,l)],by rw[Ag,tM];rfl,?_,?_,?_,?_,?_⟩
  ·rwa[aw<|CK Uh,aw<|CK nS]
  ·rw[Aa];exact cg<|⋯
  ·rw[az,Al];rfl
  ·intro j b r hb nP
   by_cases hj:j < bs.length
   ·rw[Ax hj]at hb;obtain⟨q1,q2⟩:=Kn j b r hb nP;have hbD:=(ug b<|Ao hb).1;have n1:b.1≠D:=cf q1 oU λz=>nomatch z;refine⟨?_,?_⟩
    ·rwa[aw n1,aw<|bz q1 gu,aw<|bz q1 hl]
    ·rwa[aw hbD,aw<|bz q2 gu,aw<|bz q2 hl]
   ·rw[Bd<|⋯]at hb;have gN:j - bs.length=0:=by
     have:=(Ac.mp hb).1;simp at this;omega
    have BA:j=i:=⋯
    rw[gN]at hb;cases hb;rw[BA,Ab hi]at nP;cases nP;refine⟨?_,?_⟩
    ·rw[aw Uh,az]
    ·rw[aw nS,aw<|CK Ko,az,er]
  ·rw[Al];refine oK wR λhm=>?_;obtain⟨b,hb,e⟩:=Ak.mp hm;obtain⟨_,_,_,zs,q⟩:=ug b hb;have e':b.2=l:=e;rw[e',hl]at q;cases q
  ·intro b hb
   rcases Am.mp hb with hb | hb
   ·obtain⟨q1,q2,q3,zs,q4⟩:=ug b hb;refine⟨q1,q2,q3,zs,?_⟩;rwa[aw q1,aw<|bz q4 gu,aw<|bz q4 hl]
   ·rw[Ad.mp hb];refine⟨nS,Ug,nh,row n i,?_⟩;rw[aw nS,aw<|CK Ko,az]
  ·intro c o hc;rw[aw<|bz hc hD,aw<|bz hc Ug,aw<|bz hc nh];exact sm _ _ hc
 ·rintro σ' H' ⟨_,bs,tM,oU,Kn,wR,ug,sm⟩;rw[Aa]at tM;exact q D bs H' sm hD (λa ha=>⟨(ug a ha).2.1,(ug a ha).2.2.1⟩) ⟨⋯,oU,Kn,wR⟩
abbrev Tn(p:Str)(j:Int):HO:= .tup [.str p,.int j]
def wU:Sp:=λvs H Q _=>∃(t l:Addr) (p:Str) (zs:Ð),vs=[.ref t]/\H t≈.tup [.str p,.ref l]/\H l≈Ls zs/\zs.length<=1000 /\
 ∀(L:Addr) (ts:↥9) (H':Hp),aj H H'->H L=none->H' L=some (.lst<|↥8)->ts.length=zs.length->(∀(j:Nat) t,ts[j]?≈t->H' t≈Tn p j)->Q (.ref L) H'
variable{N':Ð}{σ:St}{scope:Scope}{ifs:Ó}{tg:Expr}{X:Cx}
section
variable{elt:Expr}{A:Addr}{after:Hp->Prop}
theorem k3j{lo:Int}{n:Nat}(Pv:Nat->St->Hp->Prop)(h0:Pv 0 σ H)
  (hs : ∀ i σ' H', i < n → Pv i σ' H' → vE X N' scope tg (.int<|lo + i) σ' H' λσ2 H3 => vF X N' scope ifs σ2 H3 λb H4 =>
   if b=true then vD X N' scope elt σ2 H4 λv H5=>∃ ys,H5 A≈.lst ys/\ys.length < sizeLine/\Pv (i+1) σ2 (upd H5 A<|.lst<|ys++[v])else Pv (i+1) σ2 H4)
  (hd:∀ σ' H',Pv n σ' H'->after H'):lZ X N' scope tg ifs elt (sY lo n) A after σ H:=by
 refine⟨λi m σ' H'=>m=n - i/\i<=n/\Pv i σ' H',⟨_,rfl,Bx _,h0⟩,?_⟩;rintro i m σ' H' ⟨rfl,hi,p⟩
 by_cases aX:i < n
 ·refine .inr ⟨aX,Pv<|i+1,λσ' H' p'=>⟨n - (i+1),⋯,rfl,aX,p'⟩,λx H2 y=>?_⟩;obtain⟨e,y⟩:=y;subst e y;exact hs i σ' _ aX p
 ·have e:i=n:=⋯
  subst e;exact .inl ⟨An _,hd σ' H' p⟩
end
variable{Y:List (Key×V)}{r:Str×List Str}{as:Î}{n:Net}
abbrev Ui:Ð:=["row","point","ties"]
abbrev Uj:Ð:=["row","point","ties","place"]
def k8:ak Ui ["row"] (aW zR):=cm
def x5k:Uj.Nodup:=by decide +kernel
theorem q58(F:bB K "ends_round" "ends_round" zR f fd)(T:Txt mg):↥4 1 f fd ["row"] wU:=by
 refine F.gc k8 λb0 H vs Q E hr h=>?_;obtain⟨t,l,p,zs,rfl,ht,hl,hz,q⟩:=h;have nd:=k8.nd;refine zp<|ae 0<|jN rfl (aQ.of ht) (bw 1 nd<|bw 2 nd ?_);refine bS<|jb (aW zR) Ui Uj 1 (OH rfl T.range (ta:=vA _ _) i8 (qh _ [] _ rfl)) ?_;show Ea _ _ _ _ _;refine ah (cM eU T.len DY<|ah<|ae 2<|ax ⟨l,_,rfl,.inl<|au.of hl,ax ⟨_,rfl,⋯,by rw[Aa];omega,λD hD=>?_⟩⟩);rw[Aa,Bk];refine k3j (λi σ' H'=>(∃ v,σ'=[⇑t,some<|.str p,⇑l]++[v])/\∃ ts:↥9,ts.length=i/\H' D=some (.lst<|↥8)/\(∀(j:Nat) t,ts[j]?≈t->H' t≈Tn p j)/\aj H H')
  ⟨⟨none,rfl⟩,[],rfl,az,λj t h=>by simp at h,aS hD _⟩ ?_ ?_
 ·rintro i σ' H' hi ⟨⟨v,rfl⟩,ts,ix,eD,Kq,sm⟩;rw[Ek];intro cl C' æ ç ex;refine bw 3 x5k ?_;intro cl C' æ ç ex;refine ja ?_;rw[BP rfl];intro cl C' æ ç ex;refine d9<|ah<|ae 1<|ah<|ae 3<|ax ⟨Z2,λu hu=>?_⟩;have nu:u≠D:=λe=>by rw[e,eD]at hu;cases hu
  have hu0:=iR sm hu;refine⟨↥8,by rwa[aw<|CK nu],by rw[Aa];exact cg ⋯,⟨_,rfl⟩,ts++[u],by rw[Ag,ix];rfl,by rw[az,Al];rfl,?_,?_⟩
  ·intro j t' gu
   by_cases hj:j < ts.length
   ·rw[Ax hj]at gu;have e:=Kq j t' gu;have n1:t'≠D:=cf e eD λz=>nomatch z;rwa[aw n1,aw<|bz e hu]
   ·rw[Bd<|⋯]at gu;have gN:j - ts.length=0:=by
     have:=(Ac.mp gu).1;simp at this;omega
    rw[gN]at gu;cases gu;have:j=i:=⋯
    rw[this,aw nu,az]
  ·intro c o hc;rw[aw<|bz hc hD,aw<|bz hc hu0];exact sm _ _ hc
 ·rintro σ' H' ⟨_,ts,ix,eD,Kq,sm⟩;exact q D ts H' sm hD eD ix Kq
def iS(g:Int->Int):Sp:=λvs H Q _=>∃e p j m,vs=[.ref e,.int m]/\H e≈Tn p j/\0 < m/\∀ t H',aj H H'->H' t=some (Tn p<|g j % m)->Q (.ref t) H'
abbrev Uk:Ð:=["end","many","point","place"]
def lg:ak Uk ["end","many"] (aW Io):=cm
def ia:ak Uk ["end","many"] (aW Ip):=cm
def q8j(F:bB K "turned_left" "turned_left" Io f fd)(T:Txt mg):↥4 1 f fd ["end","many"] (iS λj=>j+1):=by
 refine F.gc lg λb0 H vs Q E hr h=>?_;obtain⟨e,p,j,m,rfl,he,hm,q⟩:=h;have nd:=lg.nd;refine zp<|ae 0<|jN rfl (aQ.of he) (bw 2 nd<|bw 3 nd ?_);refine bS (d9<|ah<|ae 2<|ah<|bh dh<|bh iu<|ae 3<|aG ⟨_,_,rfl,rfl,ae 1 ⟨_,_,rfl,rfl,(by show 0 < m;exact hm),ax ⟨Z2,λt ht=>?_⟩⟩⟩);exact q t _ (aS ht _) az
def q0t(F:bB K "turned_right" "turned_right" Ip f fd)(T:Txt mg):↥4 1 f fd ["end","many"] (iS λj=>j - 1):=by
 refine F.gc ia λb0 H vs Q E hr h=>?_;obtain⟨e,p,j,m,rfl,he,hm,q⟩:=h;have nd:=ia.nd;refine zp<|ae 0<|jN rfl (aQ.of he) (bw 2 nd<|bw 3 nd ?_);refine bS (d9<|ah<|ae 2<|ah<|bh dh<|bh YB<|ae 3<|aG ⟨_,_,rfl,rfl,ae 1 ⟨_,_,rfl,rfl,(by show 0 < m;exact hm),ax ⟨Z2,λt ht=>?_⟩⟩⟩);exact q t _ (aS ht _) az
theorem q4e:∀{acc},((acc++Y).map (·.1)).Nodup->Y.foldl (λa p=>putK a p.1 p.2) acc=acc++Y:=by
 induction Y with
 | nil=>intro acc _;simp
 | cons p r ih=>
  intro acc h;have hn:aF acc p.1=none:=by
   cases e:aF acc p.1 with
   | none=>rfl
   | some v=>
    have hm:=PD e;rw[Al,Ba]at h;exact absurd rfl ((Co.mp h).2.2 _ hm _ Ae)
  rw[Dh,Pu _ hn,ih (by rwa[Ar]),Ar];rfl
theorem Ul:∀{Y:List (Key×V)} {i:Nat} {p:Key×V},(Y.map (·.1)).Nodup->Y[i]?≈p->aF Y p.1≈p.2
 | [],_,_,_,h=>by simp at h
 | q :: r,0,p,_,h=>by
  cases h;exact iJ rfl
 | q :: r,i+1,p,hn,h=>by
  rw[Ba,Bh]at hn;have hm:r[i]?≈p:=by simpa using h
  rw[iw λe=>hn.1<|by rw[e];exact Ak.mpr ⟨p,Ao hm,rfl⟩];exact Ul hn.2 hm
def iT(n:Net)(as:Î):List (Key×V):=List.zipWith (λr a=>(Sum.inr r.1,V.ref a.2)) n as
theorem Um:∀n as,as.length=n.length->(iT n as).map (·.1)=(n.map (·.1)).map Sum.inr
 | [],[],_=>rfl
 | [],_ :: _,h=>by simp at h
 | _ :: _,[],h=>by simp at h
 | r :: n,a :: as,h=>by
  have:=Um n as h⁻¹;show Sum.inr r.1 :: (iT n as).map (·.1)=_;rw[this];rfl
def Uo{a:Addr×Addr}(h1:n[i]?≈r)(h2:as[i]?≈a):(iT n as)[i]?=some (Sum.inr r.1,.ref a.2):=by
 unfold iT;rw[List.getElem?_zipWith,h1,h2]
def q0j{l:Ð}(h:l.Nodup):(l.map (Sum.inr:Str->Key)).Nodup:=by
 rw[By,Dr];exact(By.mp h).imp λh q=>h<|Sum.inr.inj q
def nameAt(n:Net)(r:Nat):Str:=((n[r]?).map (·.1)).getD ⟨#[]⟩
def key(n:Net)(e:Nt.End):List Key:=[Sum.inr<|nameAt n e.1,Sum.inl (e.2:Int)]
abbrev TN(n:Net)(e:Nt.End):HO:=Tn (nameAt n e.1) (e.2:Int)
def uh{r:Nat}(h:r < n.length):nameAt n r=n[r].1:=by unfold nameAt;rw[Ab h];rfl
variable{a:Nt.End}
theorem rF(hN:(n.map (·.1)).Nodup){b:Nt.End}(ha:a.1 < n.length)(hb:b.1 < n.length)(h:key n a=key n b):a=b:=by
 unfold key at h
 injection h with h1 h2
 injection h2 with h2 _
 have e1:=Sum.inr.inj h1;have e2:=Sum.inl.inj h2;rw[uh ha,uh hb]at e1;have e3:a.1=b.1:=by
  have la:a.1 < (n.map (·.1)).length:=by rwa[Aa]
  have lb:b.1 < (n.map (·.1)).length:=by rwa[Aa]
  refine(Gy (h₀:=la) (h₁:=lb) hN).mp ?_;rwa[Ed,Ed]
 exact HJ e3<|⋯
variable{z:Str}
def wV{r p:Nat}(hr:r < n.length)(hz:(row n r)[p]?≈z):∃ rest,bn n=(bn (n.take r)++bF r ((row n r).take p) 0)++(z,(r,p)) :: rest:=by
 have e1:bn n=bn (n.take<|r+1)++fv (0+(n.take<|r+1).length) (n.drop<|r+1):=by
  have:=Ik (n.take<|r+1) (n.drop<|r+1) 0;rwa[Cw]at this
 have e2:bF r (row n r) 0=bF r ((row n r).take<|p+1) 0++bF r ((row n r).drop<|p+1) (0+((row n r).take<|p+1).length):=by
  unfold bF;rw[<- Al,<- QW,Cw]
 rw[e1,tQ hr,e2,qK hz];refine⟨bF r ((row n r).drop<|p+1) (0+((row n r).take<|p+1).length)++fv (0+(n.take<|r+1).length) (n.drop<|r+1),?_⟩;simp only[Ar,Fz,Hk]
def Uq{κ:Type} [DecidableEq κ] (Y:List<|κ×V) (k:κ) (v:V):(putK Y k v).map (·.1)=if k∈Y.map (·.1)then Y.map (·.1)else Y.map (·.1)++[k]:=by
 have e:(Y.any λkv=>decide (kv.1=k))=decide (k∈Y.map (·.1)):=by
  rw[Cf,List.any_eq_true,CN,Ak];exact⟨λ⟨p,h1,h2⟩=>⟨p,h1,BX h2⟩,λ⟨p,h1,h2⟩=>⟨p,h1,BW h2⟩⟩
 unfold putK;rw[e]
 by_cases h:k∈Y.map (·.1)
 ·rw[BP<|BW h,BP h,Bs];refine Ap λp _=>?_;show(if p.1=k then(p.1,v)else p).1=p.1
  split <;> rfl
 ·rw[BL h⁻¹,BL h,Al];rfl
def ib{κ:Type} [DecidableEq κ] {Y:List (κ×V)} {k j:κ} {v:V}:j∈(putK Y k v).map (·.1)↔j∈Y.map (·.1)\/j=k:=by
 rw[Uq]
 split
 ·exact⟨.inl,λh=>h.elim id λe=>by rw[e];assumption⟩
 ·rw[Am,Ad]
def Ur{κ:Type} [DecidableEq κ] {Y:List (κ×V)} {k:κ} {v:V} (h:(Y.map (·.1)).Nodup):((putK Y k v).map (·.1)).Nodup:=by
 rw[Uq]
 split
 ·exact h
 ·rename_i hn;exact oK h hn
structure jS(n:Net)(done:List<|Str×Nt.End)(H:Hp)(kM:List<|Key×V)(kO:List<|List Key×V):Prop where
 m0:∀ z,bT done z=[]->aF kM (Sum.inr z)=none
 m1:∀ z a rest,bT done z=a :: rest->∃ t,aF kM (Sum.inr z)≈.ref t/\H t≈TN n a
 o:∀ z a b rest,bT done z=a :: b :: rest->(∃ u,aF kO (key n a)≈.ref u/\H u≈TN n b)/\∃ u,aF kO (key n b)≈.ref u/\H u≈TN n a
 sub:∀ p∈done,aJ n p.2≈p.1
 eQ:kM.length<=done.length
 gy:kO.length<=2 * done.length
 ks:∀ k∈kO.map (·.1),∃ p∈done,k=key n p.2
 nd:(kO.map (·.1)).Nodup
variable{kO:List (List Key×V)}{kM:List (Key×V)}{done:List (Str×Nt.End)}
def jS.keep(I:jS n done H kM kO)(k:∀ t p j,H t≈Tn p j->H' t≈Tn p j):jS n done H' kM kO where
 m0:=I.m0
 m1:=λz a rest h=>let ⟨t,e1,e2⟩:=I.m1 z a rest h;⟨t,e1,k _ _ _ e2⟩
 o:=λz a b rest h=>let ⟨⟨u,e1,e2⟩,⟨v,e3,e4⟩⟩:=I.o z a b rest h;⟨⟨u,e1,k _ _ _ e2⟩,⟨v,e3,k _ _ _ e4⟩⟩
 sub:=I.sub
 eQ:=I.eQ
 gy:=I.gy
 ks:=I.ks
 nd:=I.nd
def wW(h:a∈bT done z):(z,a)∈done:=by
 unfold bT at h;obtain⟨⟨y,b⟩,hm,rfl⟩:=Ak.mp h;obtain⟨h1,h2⟩:=Bf.mp hm;have:y=z:=BX h2;subst this;exact h1
variable{e:Nt.End}
theorem jS.new(I:jS n done H kM kO){t:Addr}(ht:H t≈TN n e)(hz:aJ n e≈z)(h0:bT done z=[]) :
  jS n (done++[(z,e)]) H (putK kM (Sum.inr z)<|.ref t) kO where
 m0:=λy hy=>by
  rw[dI]at hy;obtain⟨h1,h2⟩:=Fk.mp hy;have bD:¬ z=y:=λq=>by rw[BP q]at h2;cases h2
  rw[d8,BL λq=>bD (Sum.inr.inj q).symm];exact I.m0 y h1
 m1:=λy a rest hy=>by
  rw[dI]at hy
  by_cases q:z=y
  ·subst q;rw[h0,BP rfl]at hy;cases hy;exact⟨t,by rw[d8,BP rfl],ht⟩
  ·rw[BL q,Bp]at hy;obtain⟨u,e1,e2⟩:=I.m1 y a rest hy;exact⟨u,by rwa[d8,BL λp=>q (Sum.inr.inj p).symm],e2⟩
 o:=λy a b rest hy=>by
  rw[dI]at hy
  by_cases q:z=y
  ·subst q;rw[h0,BP rfl]at hy;cases hy
  ·rw[BL q,Bp]at hy;exact I.o y a b rest hy
 sub:=λp hp=>by
  rcases Am.mp hp with h | h
  ·exact I.sub p h
  ·rwa[Ad.mp h]
 eQ:=by
  have:=jD kM (Sum.inr z)<|.ref t;have:=I.eQ;rw[Ag,Dc];omega
 gy:=by
  have:=I.gy;rw[Ag,Dc];omega
 ks:=λk hk=>let ⟨p,hp,e⟩:=I.ks k hk;⟨p,Bb _ hp,e⟩
 nd:=I.nd
theorem jS.old(hN:(n.map (·.1)).Nodup)(I:jS n done H kM kO){te tm:Addr}(ht:H te≈TN n e)(hm:H tm≈TN n a)(hz:aJ n e≈z)(h1:bT done z=[a])(hae:a≠e) :
  jS n (done++[(z,e)]) H kM (putK (putK kO (key n e)<|.ref tm) (key n a)<|.ref te) where
 m0:=λy hy=>by
  rw[dI]at hy;exact I.m0 y (Fk.mp hy).1
 m1:=λy c rest hy=>by
  rw[dI]at hy
  by_cases q:z=y
  ·subst q;rw[h1,BP rfl]at hy;cases hy;exact I.m1 z a [] h1
  ·rw[BL q,Bp]at hy;exact I.m1 y c rest hy
 o:=λy c b rest hy=>by
  rw[dI]at hy;have ta:=I.sub (z,a)<|wW<|by rw[h1];exact Ad.mpr rfl
  by_cases q:z=y
  ·subst q;rw[h1,BP rfl]at hy;cases hy;refine⟨⟨te,by rw[d8,BP rfl],ht⟩,⟨tm,?_,hm⟩⟩;rw[d8,BL λp=>hae (rF hN (cB hz) (cB ta) p).symm,d8,BP rfl]
  ·rw[BL q,Bp]at hy;have tc:=I.sub (y,c) (wW<|by rw[hy];exact Ae);have tb:=I.sub (y,b) (wW<|by rw[hy];exact Af _ Ae);have ne:∀ x:Nt.End,aJ n x≈y->¬ key n x=key n a/\¬ key n x=key n e:=λx hx=>by
    refine⟨λp=>?_,λp=>?_⟩
    ·have:=rF hN (cB hx) (cB ta) p;rw[this,ta]at hx;exact q<|Option.some.inj hx
    ·have:=rF hN (cB hx) (cB hz) p;rw[this,hz]at hx;exact q<|Option.some.inj hx
   obtain⟨⟨u,e1,e2⟩,⟨v,e3,e4⟩⟩:=I.o y c b rest hy;refine⟨⟨u,?_,e2⟩,⟨v,?_,e4⟩⟩
   ·rwa[d8,BL (ne c tc).1,d8,BL (ne c tc).2]
   ·rwa[d8,BL (ne b tb).1,d8,BL (ne b tb).2]
 sub:=λp hp=>by
  rcases Am.mp hp with h | h
  ·exact I.sub p h
  ·rwa[Ad.mp h]
 eQ:=by
  have:=I.eQ;rw[Ag,Dc];omega
 gy:=by
  have h1:=jD (putK kO (key n e)<|.ref tm) (key n a)<|.ref te;have h2:=jD kO (key n e)<|.ref tm;have:=I.gy;rw[Ag,Dc];omega
 ks:=λk hk=>by
  rcases ib.mp hk with hk | rfl
  ·rcases ib.mp hk with hk | rfl
   ·obtain⟨p,hp,e⟩:=I.ks k hk;exact⟨p,Bb _ hp,e⟩
   ·exact⟨(z,e),Au _<|Ad.mpr rfl,rfl⟩
  ·exact⟨(z,a),Bb _ (wW<|by rw[h1];exact Ad.mpr rfl),rfl⟩
 nd:=Ur<|Ur I.nd
def jS.whole(T:aq n)(I:jS n (bn n) H kM kO)(he:e∈ends n):∃ u,aF kO (key n e)≈.ref u/\H u=some (TN n<|↥5):=by
 obtain⟨z,hz⟩:=af.mp he;obtain⟨a,b,hp,gd,tL⟩:=qJ T hz;have jR:=hp;have ta:aJ n a≈z:=aK.mp (by rw[hp];simp);have tb:aJ n b≈z:=aK.mp (by rw[hp];simp);obtain⟨o1,o2⟩:=I.o z a b [] jR
 rcases tL with rfl | rfl
 ·have:b=↥5:=((kd T hz).mp tb).resolve_left<|CK gd;rw[<- this];exact o1
 ·have:a=↥5:=((kd T hz).mp ta).resolve_left gd;rw[<- this];exact o2
def lh:Sp:=λvs H Q _=>∃R as n,vs=[.ref R]/\ai H R as n/\(n.map (·.1)).Nodup/\aq n/\n.length<=1000/\(ag n).length<=1000 /\
 ∀d Y H',aj H H'->H d=none->H' d≈.dT Y->(∀ e∈ends n,∃ u,aF Y (key n e)≈.ref u/\H' u=some (TN n<|↥5))->(Y.map (·.1)).Nodup->(∀ k∈Y.map (·.1),∃ e∈ends n,k=key n e)->Y.length<=2000->Q (.ref d) H'
variable{body:Ô}
section
variable{D:Ends}
theorem q2k{a b:Addr}{ys:List V}{after:St->Hp->Prop}(hlen:xs.length=ys.length)(Pv:Nat->St->Hp->Prop)(h0:Pv 0 σ H)(hl:∀ i σ H,i<=xs.length->Pv i σ H->au X.K H a xs/\au X.K H b ys)
  (hs:∀ i x y T σ H,xs[i]?≈x->ys[i]?≈y->Pv i σ H->H T=none->Eg X tg (.ref T) σ (upd H T<|.tup [x,y]) λσ2 H2=>Run X body {D with nx:=Pv<|i+1,ct:=Pv<|i+1,bk:=after} σ2 H2) (hd:∀ σ H,Pv xs.length σ H->after σ H):Loop X tg body (AI X.K a b) D after σ H:=by
 refine⟨λi m σ H=>m=xs.length - i/\i<=xs.length/\Pv i σ H,⟨xs.length,by simp,Bx _,h0⟩,?_⟩;rintro i m σ H ⟨rfl,hi,p⟩;obtain⟨q1,q2⟩:=hl i σ H hi p
 by_cases aX:i < xs.length
 ·refine .inr ⟨⟨xs,ys,xs[i],ys[i],q1,q2,Ab aX,Ab<|⋯⟩,Pv<|i+1,λσ' H' p'=>⟨xs.length - (i+1),⋯,rfl,aX,p'⟩,λv H' y=>?_⟩;obtain⟨T,x,y,hT,rfl,rfl,y1,y2⟩:=y;exact hs i x y T σ _ (y1 xs q1) (y2 ys q2) p hT
 ·have e:i=xs.length:=⋯
  subst e;exact .inl ⟨⟨xs,ys,q1,q2,.inl<|An _⟩,hd σ H p⟩
end
abbrev NOE:Ð:=["rows","met","others","row","end","tie"]
def wX:ak NOE ["rows"] (aW Iq):=cm
def Us{t:Addr}(h:H t≈.tup xs)(g:H d≈.dK Y):t≠d:=cf h g λz=>nomatch z
def rG{t:Addr}{Y:List (List Key×V)}(h:H t≈.tup xs)(g:H d≈.dT Y):t≠d:=cf h g λz=>nomatch z
theorem x4r(F:bB K "other_ends" "other_ends" Iq f fd)(T:Txt mg)
  (GE:↥6 1 "ends_round" ["row"] wU) :
  ↥4 2 f fd ["rows"] lh:=by
 refine F.gc wX λb0 H vs Q E hr h=>?_;obtain⟨R,as,n,rfl,hR,hN,hT,hn,ht,q⟩:=h;have nd:=wX.nd;have cq:=hR.len;have hu:=hr.u1;refine aZ 1 nd<|Ih λdm qV=>?_;refine aZ 2 nd<|q15 λdO Kr=>?_;have wY:dO≠dm:=λe=>by rw[e,az]at Kr;cases Kr
 have rH:H dO=none:=by rwa[aw wY]at Kr
 have em:(upd (upd H dm<|.dK []) dO<|.dT []) dm≈.dK []:=by rw[aw<|CK wY,az]
 have eo:(upd (upd H dm<|.dK []) dO<|.dT []) dO≈.dT []:=az;have s0:aj H (upd (upd H dm<|.dK []) dO<|.dT []):=λb o h=>by rwa[aw<|bz h rH,aw<|bz h qV]
 generalize upd (upd H dm<|.dK []) dO (.dT [])=H1 at em eo s0 ⊢;refine jF<|ae 0 ⟨R,rfl,⟨_,au.of<|s0 _ _ hR.lst⟩,jG (xs:=as.map λa=>V.ref a.1) (λr σ H'=>∃ kM kO u1 u2 u3,aj H H'/\H' dm≈.dK kM/\H' dO≈.dT kO/\jS n (bn<|n.take r) H' kM kO/\σ=[⇑R,⇑dm,⇑dO,u1,u2,u3])
  ⟨[],[],_,_,_,s0,em,eo,⟨λ_ _=>rfl,λz a rest h=>(by cases h),λz a b rest h=>(by cases h),λp h=>(by cases h),Bx _,Bx _,λk h=>(by cases h),Cd⟩,rfl⟩ ?_ ?_ ?_⟩
 ·rintro r σ H' _ ⟨kM,kO,u1,u2,u3,sm,_⟩;exact au.of<|sm _ _ hR.lst
 ·rintro r x σ H' hx ⟨kM,kO,u1,u2,u3,sm,Ut,Ks,I,rfl⟩;have hi:r < n.length:=by
   have:=(Ac.mp hx).1;rw[Aa]at this;omega
  obtain⟨a,ea,dJ,et,el,er⟩:=(hR.same sm).at hi;rw[Ah,ea]at hx;cases hx;have iQ:(row n r).length<=1000:=Ch (jf n r) ht;have enm:nameAt n r=n[r].1:=uh hi;refine bw 3 nd ?_;refine F7 (R0 rfl T.zip (ta:=vA _ _) i8) ?_;show Ea _ _ _ _ _;refine ah<|bC GE hr<|ah<|ae 3<|ax ⟨a.1,a.2,n[r].1,row n r,rfl,et,el,iQ,λL ts H5 s5 n5 e5 l5 t5=>?_⟩;refine ah<|a8 bQ<|ae 3<|aG ⟨a.1,_,_,.ref a.2,rfl,rfl,aQ.of<|s5 _ _ et,rfl,ax ⟨L,a.2,rfl,⟨_,au.of e5⟩,⟨_,au.of<|s5 _ _ el⟩,?_⟩⟩;have BD:=s5 _ _ Ut;have BE:=s5 _ _ Ks;have ui:=s5 _ _ el;refine q2k (xs:=↥8) (ys:=(row n r).map V.str) (by rw[Aa,Aa,l5]) (λp σ' bZ=>∃ kM kO u2 u3,(∀ b o,b≠dm->b≠dO->H5 b≈o->bZ b≈o)/\bZ dm≈.dK kM/\bZ dO≈.dT kO/\jS n (bn (n.take r)++bF r ((row n r).take p) 0) bZ kM kO/\σ'=[⇑R,⇑dm,⇑dO,some<|.ref a.1,u2,u3])
   ⟨kM,kO,_,_,λb o _ _ h=>h,BD,BE,?_,rfl⟩ ?_ ?_ ?_
  ·have:bF r ((row n r).take 0) 0=[]:=by simp[bF]
   rw[this,Bp];exact I.keep λt p j h=>s5 _ _ h
  ·rintro p σ' bZ _ ⟨kM,kO,u2,u3,kb,_,_,_,rfl⟩;exact⟨au.of (kb _ _ (cf e5 BD λz=>nomatch z) (cf e5 BE λz=>nomatch z) e5),au.of<|kb _ _ (cf ui BD λz=>nomatch z) (cf ui BE λz=>nomatch z) ui⟩
  ·rintro p x y Tt σ' bZ hx hy ⟨kM,kO,u2,u3,kb,BF,BG,I6,rfl⟩ jT;rw[Ah,Az]at hx hy;obtain⟨te,lq,rfl⟩:=hx;obtain⟨z,hz,rfl⟩:=hy;have nU:=t5 p te lq;have BH:bZ te=some (Tn n[r].1 p):=kb _ _ (Us nU BD) (rG nU BE) nU;have nV:aJ n (r,p)≈z:=hz;obtain⟨rest,eS⟩:=wV hi hz;have hlen:(bn (n.take r)++bF r ((row n r).take p) 0).length < 1000:=by
    have h1:(bn n).length=(ag n).length:=by
     have:=BZ List.length<|kJ n 0;rwa[Aa]at this
    have h2:=BZ List.length eS;rw[Ag,As]at h2;omega
   have jt:bn (n.take r)++bF r ((row n r).take<|p+1) 0=(bn (n.take r)++bF r ((row n r).take p) 0)++[(z,(r,p))]:=by
    rw[qK hz,Ar]
   have lv:∀ b,b∈bT (bn (n.take r)++bF r ((row n r).take p) 0) z->b≠(r,p):=λb hb e=>by
    have hm:=wW hb;have ni:=kc n;unfold ends at ni;rw[eS,Al,Ba]at ni;exact(Co.mp ni).2.2 _ (Ak.mpr ⟨_,hm,rfl⟩) _ Ae e
   have wZ:(bT (bn (n.take r)++bF r ((row n r).take p) 0) z).length<=1:=by
    have h1:(pos n z).length=2:=by rw[qI];exact hT z<|eV nV
    have h2:pos n z=bT (bn (n.take r)++bF r ((row n r).take p) 0) z++bT ((z,(r,p)) :: rest) z:=by
     show bT (bn n) z=_;rw[eS];unfold bT;rw[Cv,Al]
    have h3:1<=(bT ((z,(r,p)) :: rest) z).length:=by
     unfold bT;rw[Do,BP<|by simp];simp
    rw[h2,Ag]at h1;omega
   generalize bn (n.take r)++bF r ((row n r).take p) 0=done at I6 hlen jt lv wZ;rw[jt];have hTm:Tt≠dm:=λe=>by rw[e,BF]at jT;cases jT
   have hTo:Tt≠dO:=λe=>by rw[e,BG]at jT;cases jT
   have s7:=aS jT<|.tup [.ref te,.str z];have Kt:∀ b o,b≠dm->b≠dO->H5 b≈o->(upd bZ Tt<|.tup [.ref te,.str z]) b≈o:=λb o h1 h2 h=>s7 _ _<|kb b o h1 h2 h;have w5:=s7 _ _ BF;have w6:=s7 _ _ BG;have I7:=I6.keep (H':=upd bZ Tt<|.tup [.ref te,.str z]) λt p j h=>s7 _ _ h;have rJ:=s7 _ _ BH;refine jN rfl (aQ.of az) (bw 4 nd<|bw 5 nd ?_);generalize upd bZ Tt (.tup [.ref te,.str z])=H7 at Kt w5 w6 I7 rJ;have rK:H7 te≈TN n (r,p):=by
    show H7 te≈Tn (nameAt n r) p;rwa[enm]
   have hM:kM.length < sizeLine:=cg (by have:=I7.eQ;omega);have hO:kO.length < sizeLine:=cg (by have:=I7.gy;omega);refine dP<|Rf hu<|ae 5<|ae 1 ⟨dm,_,rfl,bb.k (k:=Sum.inr z) w5,?_⟩
   match kg:bT done z with
   | []=>
    rw[I7.m0 z kg];show if false=true then _ else _;rw[BL Aw];refine vU hu<|ae 4<|ae 1<|ae 5 ⟨dm,_,rfl,cw.k (k:=Sum.inr z) w5 hM,a9<|a9 ⟨_,kO,_,_,λb o h1 h2 h=>?_,az,?_,?_,rfl⟩⟩
    ·rw[aw h1];exact Kt b o h1 h2 h
    ·rwa[aw wY]
    ·exact(I7.new rK nV kg).keep λt p j h=>by rwa[aw<|Us h w5]
   | b :: more=>
    have w8:more=[]:=by
     rw[kg,As]at wZ;exact Bv.mp<|⋯
    subst w8;obtain⟨tm,vm,Uu⟩:=I7.m1 z b [] kg;rw[vm];show if true=true then _ else _;rw[BP rfl];have mK:b≠(r,p):=lv b (by rw[kg];exact Ad.mpr rfl);refine vU hu (gJ hu<|ae 1<|ae 5 ⟨dm,.ref tm,rfl,by rw[<- vm];exact bb.k (k:=Sum.inr z) w5,ae 2<|ae 4 ⟨dO,_,rfl,cw.t (k:=key n (r,p)) w6 rK hO,?_⟩⟩);have hO2:=jD kO (key n (r,p))<|.ref tm;have hO3:=I7.gy;have em8:(upd H7 dO<|.dT<|putK kO (key n (r,p))<|.ref tm) dm≈.dK kM:=by rwa[aw<|CK wY]
    have Ku:(upd H7 dO<|.dT<|putK kO (key n (r,p))<|.ref tm) tm≈TN n b:=by rwa[aw<|rG Uu w6]
    refine vU hu<|ae 4<|ae 2<|gJ hu<|ae 1<|ae 5 ⟨dm,.ref tm,rfl,by rw[<- vm];exact bb.k (k:=Sum.inr z) em8,dO,_,rfl,cw.t (k:=key n b) az Ku (cg<|⋯),a9<|a9 ⟨kM,_,_,_,λb o h1 h2 h=>?_,?_,az,?_,rfl⟩⟩
    ·rw[aw h2,aw h2];exact Kt b o h1 h2 h
    ·rwa[aw<|CK wY]
    ·exact(I7.old hN rK Uu nV kg mK).keep λt p j h=>by rwa[aw<|rG h w6,aw<|rG h w6]
  ·rintro σ' bZ ⟨kM,kO,u2,u3,kb,BF,BG,I6,rfl⟩;refine a9 ⟨kM,kO,_,_,_,λb o h=>?_,BF,BG,?_,rfl⟩
   ·exact kb b o (bz h qV) (bz h rH)<|s5 _ _<|sm _ _ h
   ·rw[Aa,l5,Ca]at I6;rwa[tQ hi]
 ·rintro σ H' ⟨kM,kO,u1,u2,u3,sm,Ut,Ks,I,rfl⟩;rw[Aa,cq,Ca]at I;have lO:=I.gy;have ls:(bn n).length=(ag n).length:=by rw[<- kJ n 0,Aa];rfl
  exact bS<|ae 2<|q dO kO H' sm rH Ks (λe he=>I.whole hT he) I.nd (λk hk=>let ⟨p,hp,e⟩:=I.ks k hk;⟨p.2,Ak.mpr ⟨p,hp,rfl⟩,e⟩)<|⋯
def nW(n:Net)(H:Hp)(us:↥9)(done:List<|Str×Nt.End):Prop:=us.length=done.length/\∀(j:Nat) u p,us[j]?≈u->done[j]?≈p->H u≈TN n p.2
variable{us:↥9}
def nW.keep(h:nW n H us done)(k:∀ t p j,H t≈Tn p j->H' t≈Tn p j):nW n H' us done:=⟨h.1,λj u p h1 h2=>k _ _ _<|h.2 j u p h1 h2⟩
variable{p:Str×Nt.End}
theorem nW.snoc{u:Addr}(h:nW n H us done)(k:∀ t p j,H t≈Tn p j->H' t≈Tn p j)(hu:H' u≈TN n p.2):nW n H' (us++[u]) (done++[p]):=by
 obtain⟨hl,ha⟩:=h;refine⟨by rw[Ag,Ag,hl];rfl,λj v x hv hx=>?_⟩
 by_cases hj:j < us.length
 ·rw[Ax hj]at hv;rw[Ax<|⋯]at hx;exact k _ _ _<|ha j v x hv hx
 ·rw[Bd<|⋯]at hv hx;have gN:j - us.length=0:=by
   have:=(Ac.mp hv).1;simp at this;omega
  have hj3:j - done.length=0:=⋯
  rw[gN]at hv;rw[hj3]at hx;cases hv;cases hx;exact hu
variable{inner:Sem Unit}
section
variable{a b:Addr}{ys:List V}{after:St->Hp->Prop}
theorem w9(Pv:Nat->St->Hp->Prop)(h0:Pv 0 σ H)(hl:∀ i σ' H',i<=xs.length->Pv i σ' H'->au X.K H' a xs)
  (hs:∀ i x σ' H',xs[i]?≈x->Pv i σ' H'->Eg X tg x σ' H' λσ2 H3=>Ei X ifs σ2 H3 λb H4=>if b=true then l7 X inner σ2 H4 (Pv<|i+1)else Pv (i+1) σ2 H4)
  (hd:∀ σ' H',Pv xs.length σ' H'->after σ' H'):iK X tg ifs inner (pY X.K a) after σ H:=by
 refine⟨λi m σ' H'=>m=xs.length - i/\i<=xs.length/\Pv i σ' H',⟨_,rfl,Bx _,h0⟩,?_⟩;rintro i m σ' H' ⟨rfl,hi,p⟩;have q:=hl i σ' H' hi p
 by_cases aX:i < xs.length
 ·refine .inr ⟨⟨xs,xs[i],q,by simp[aX]⟩,Pv<|i+1,λσ' H' p'=>⟨xs.length - (i+1),⋯,rfl,aX,p'⟩,λx H2 y=>?_⟩;obtain⟨e,y⟩:=y;subst e;exact hs i x σ' _ (y xs q) p
 ·have e:i=xs.length:=⋯
  subst e;exact .inl ⟨⟨xs,q,An _⟩,hd σ' H' p⟩
theorem k3w(hlen:xs.length=ys.length)(Pv:Nat->St->Hp->Prop)(h0:Pv 0 σ H)(hl:∀ i σ' H',i<=xs.length->Pv i σ' H'->au X.K H' a xs/\au X.K H' b ys)
  (hs:∀ i x y T σ' H',xs[i]?≈x->ys[i]?≈y->Pv i σ' H'->H' T=none->Eg X tg (.ref T) σ' (upd H' T<|.tup [x,y]) λσ2 H3=>Ei X ifs σ2 H3 λb H4=>if b=true then l7 X inner σ2 H4 (Pv<|i+1)else Pv (i+1) σ2 H4)
  (hd:∀ σ' H',Pv xs.length σ' H'->after σ' H'):iK X tg ifs inner (AI X.K a b) after σ H:=by
 refine⟨λi m σ' H'=>m=xs.length - i/\i<=xs.length/\Pv i σ' H',⟨_,rfl,Bx _,h0⟩,?_⟩;rintro i m σ' H' ⟨rfl,hi,p⟩;obtain⟨q1,q2⟩:=hl i σ' H' hi p
 by_cases aX:i < xs.length
 ·refine .inr ⟨⟨xs,ys,xs[i],ys[i],q1,q2,Ab aX,Ab<|⋯⟩,Pv<|i+1,λσ' H' p'=>⟨xs.length - (i+1),⋯,rfl,aX,p'⟩,λv H2 y=>?_⟩;obtain⟨T,x,y,hT,rfl,rfl,y1,y2⟩:=y;exact hs i x y T σ' _ (y1 xs q1) (y2 ys q2) p hT
 ·have e:i=xs.length:=⋯
  subst e;exact .inl ⟨⟨xs,ys,q1,q2,.inl<|An _⟩,hd σ' H' p⟩
end
def BI:Sp:=λvs H Q _=>∃R as n,vs=[.ref R]/\ai H R as n/\n.length<=1000/\(ag n).length<=1000 /\
 ∀L ts H',aj H H'->H L=none->H' L=some (.lst<|↥8)->nW n H' ts (bn n)->Q (.ref L) H'
abbrev Uv:Ð:=["rows"]
abbrev Uw:Ð:=["rows","row","end"]
def ju:ak Uv ["rows"] (aW zS):=cm
def Ux:Uw.Nodup:=by decide +kernel
theorem q3d(F:bB K "ends_in_order" "ends_in_order" zS f fd)(T:Txt mg)
  (GE:↥6 1 "ends_round" ["row"] wU) :
  ↥4 2 f fd ["rows"] BI:=by
 refine F.gc ju λb0 H vs Q E hr h=>?_;obtain⟨R,as,n,rfl,hR,hn,ht,q⟩:=h;have cq:=hR.len;refine bS<|q3i (aW zS) Uv Uw 2 (gD bI)<|ae 0 ⟨R,rfl,⟨_,au.of hR.lst⟩,λD hD cl C æ ç ex=>?_⟩;refine w9 (xs:=as.map λa=>V.ref a.1) (λr σ' H'=>(∃ v1 v2,σ'=[⇑R]++[v1,v2])/\∃ ts:↥9,aj H H'/\H' D=some (.lst<|↥8)/\nW n H' ts (bn<|n.take r)) ⟨⟨none,none,rfl⟩,[],aS hD _,az,⟨rfl,λj u p h=>(by cases h)⟩⟩ ?_ ?_ ?_
 ·rintro r σ' H' _ ⟨_,ts,sm,_⟩;exact au.of<|sm _ _ hR.lst
 ·rintro r x σ' H' hx ⟨⟨v1,v2,rfl⟩,ts,sm,eD,AN⟩;have hi:r < n.length:=by
   have:=(Ac.mp hx).1;rw[Aa]at this;omega
  obtain⟨a,ea,dJ,et,el,er⟩:=(hR.same sm).at hi;rw[Ah,ea]at hx;cases hx;have iQ:=Ch (jf n r) ht;refine bw 1 Ux ?_;refine ja ?_;rw[BP rfl];refine q47 rfl rfl (gD bI) (bC GE hr<|ah<|ae 1<|ax ⟨a.1,a.2,n[r].1,row n r,rfl,et,el,iQ,λL us H5 s5 n5 e5 l5 t5=>⟨L,rfl,⟨_,au.of e5⟩,?_⟩⟩);have Kv:L≠D:=λe=>by rw[e,eD]at n5;cases n5
  refine w9 (xs:=us.map V.ref) (λp σ' bZ=>(∃ v2,σ'=[⇑R]++[some<|.ref a.1,v2])/\∃ ts:↥9,(∀ b o,b≠D->H5 b≈o->bZ b≈o)/\bZ D=some (.lst<|↥8)/\nW n bZ ts (bn (n.take r)++bF r ((row n r).take p) 0))
   ⟨⟨_,rfl⟩,ts,λb o _ h=>h,s5 _ _ eD,by simpa[bF]using AN.keep (H':=H5) λt p j h=>s5 _ _ h⟩ ?_ ?_ ?_
  ·rintro p σ' bZ _ ⟨_,ts,kb,_⟩;exact au.of<|kb _ _ Kv e5
  ·rintro p x σ' bZ hx ⟨⟨v2,rfl⟩,ts,kb,iU,BM⟩;rw[Ah,Az]at hx;obtain⟨te,lq,rfl⟩:=hx;have hp:p < (row n r).length:=by have:=(Ac.mp lq).1;omega
   have hz:(row n r)[p]?=some (row n r)[p]:=Ab hp;generalize (row n r)[p]=z at hz;have nU:=t5 p te lq;have BO:te≠D:=cf nU (s5 _ _ eD) λz=>nomatch z;have BH:=kb _ _ BO nU;obtain⟨rest,eS⟩:=wV hi hz;have hlen:ts.length < 1000:=by
    have h1:(bn n).length=(ag n).length:=by
     have:=BZ List.length<|kJ n 0;rwa[Aa]at this
    have h2:=BZ List.length eS;rw[Ag,As]at h2;have:=BM.1;omega
   refine bw 2 Ux ?_;refine ja ?_;rw[BP rfl];refine Qf (ae 2 ⟨↥8,iU,by rw[Aa];exact cg ⋯,⟨_,rfl⟩,ts++[te],λb o hb h=>by rw[aw hb];exact kb b o hb h,by rw[az,Al];rfl,?_⟩);rw[qK hz,<- Ar];refine BM.snoc (λt p j h=>by rwa[aw<|cf h iU λz=>nomatch z]) ?_;rw[aw BO];show bZ te≈Tn (nameAt n r) p;rwa[uh hi]
  ·rintro σ' bZ ⟨⟨v2,rfl⟩,ts,kb,iU,BM⟩;refine⟨⟨_,_,rfl⟩,ts,λb o h=>kb b o (bz h hD)<|s5 _ _<|sm _ _ h,iU,?_⟩;rwa[Aa,l5,Ca,<- tQ hi]at BM
 ·rintro σ' H' ⟨_,ts,sm,eD,AN⟩;rw[Aa,cq,Ca]at AN;exact q D ts H' sm hD eD AN
theorem x0p{p p':Str}{j j':Int}:∀i u v,[V.str p,.int j][i]?≈u->[V.str p',.int j'][i]?≈v->qG X H 0 u v (if i=0 then c6 (.str p) (.str p')else c6 (.int j) (.int j'))
 | 0,u,v,h1,h2=>by
  cases h1;cases h2;exact zH rfl rfl
 | 1,u,v,h1,h2=>by
  cases h1;cases h2;exact zH rfl rfl
 | i+2,u,v,h1,h2=>by simp at h1
def x2s(p p':Str)(j j':Int):(c6 (.str p) (.str p') && c6 (.int j) (.int j'))=decide (p=p'/\j=j'):=by
 show((p == p') && (j == j'))=_
 by_cases h:p=p' <;> by_cases h2:j=j' <;> simp[h,h2]
def Uy{s t:Addr}{p p':Str}{j j':Int}(hs:H s≈Tn p j)(ht:H t≈Tn p' j'):tO X H 1 (.ref s) (.ref t) (decide (p=p'/\j=j')):=by
 have:=Q9 (X:=X) (λi=>if i=0 then c6 (.str p) (.str p')else c6 (.int j) (.int j')) (aQ.of hs) (aQ.of ht) rfl x0p;rw[show([V.str p,.int j].length)=2 from rfl,all2]at this;have e:=x2s p p' j j';simp only[CZ]at this;rwa[BL ∅,e]at this
def lz:Sp:=λvs H Q _=>∃R as n,vs=[.ref R]/\ai H R as n/\(n.map (·.1)).Nodup/\n.length<=1000/\(ag n).length<=1000 /\
 ∀d Y H',aj H H'->H d=none->H' d≈.dT Y->(∀ e z,aJ n e≈z->aF Y (key n e)≈.str z)->Q (.ref d) H'
variable{c:Int}{es v:List Nt.End}{zs:Ð}{ws:List (List Nt.End)}
section
abbrev Uz:Ð:=["rows"]
abbrev UA:Ð:=["rows","row","end","tie"]
def Kw:ak Uz ["rows"] (aW zT):=cm
def Kx:UA.Nodup:=by decide +kernel
theorem x5d(F:bB K "ties_by_end" "ties_by_end" zT f fd)(T:Txt mg)
  (GE:↥6 1 "ends_round" ["row"] wU) :
  ↥4 2 f fd ["rows"] lz:=by
 refine F.gc Kw λb0 H vs Q E hr h=>?_;obtain⟨R,as,n,rfl,hR,hN,hn,ht,q⟩:=h;have cq:=hR.len;have hu:=hr.u1;refine bS<|k6p (aW zT) Uz UA 3 (gD bI)<|ae 0 ⟨R,rfl,⟨_,au.of hR.lst⟩,λD hD cl C æ ç ex=>?_⟩;refine w9 (xs:=as.map λa=>V.ref a.1) (λr σ' H'=>(∃ v1 v2 v3,σ'=[⇑R]++[v1,v2,v3])/\∃ Y:List<|List Key×V,aj H H'/\H' D≈.dT Y/\Y.length<=(bn<|n.take r).length/\∀ p∈bn (n.take r),aJ n p.2≈p.1/\aF Y (key n p.2)≈.str p.1) ⟨⟨none,none,none,rfl⟩,[],aS hD _,az,Bx _,λp h=>(by cases h)⟩ ?_ ?_ ?_
 ·rintro r σ' H' _ ⟨_,Y,sm,_⟩;exact au.of<|sm _ _ hR.lst
 ·rintro r x σ' H' hx ⟨⟨v1,v2,v3,rfl⟩,Y,sm,eD,UB,BQ⟩;have hi:r < n.length:=by
   have:=(Ac.mp hx).1;rw[Aa]at this;omega
  obtain⟨a,ea,dJ,et,el,er⟩:=(hR.same sm).at hi;rw[Ah,ea]at hx;cases hx;have iQ:=Ch (jf n r) ht;refine bw 1 Kx<|ja ?_;rw[BP rfl];refine k84 rfl rfl (R0 rfl T.zip (ta:=vA _ _) i8) ?_;show Ea _ _ _ _ _;refine ah<|bC GE hr<|ah<|ae 1<|ax ⟨a.1,a.2,n[r].1,row n r,rfl,et,el,iQ,λL us H5 s5 n5 e5 l5 t5=>?_⟩;refine ah<|a8 bQ<|ae 1<|aG ⟨a.1,_,_,.ref a.2,rfl,rfl,aQ.of<|s5 _ _ et,rfl,ax ⟨L,a.2,rfl,⟨_,au.of e5⟩,⟨_,au.of<|s5 _ _ el⟩,?_⟩⟩;have kh:=s5 _ _ eD;have ui:=s5 _ _ el;refine k3w (xs:=us.map V.ref) (ys:=(row n r).map V.str) (by rw[Aa,Aa,l5]) (λp σ' bZ=>(∃ v2 v3,σ'=[⇑R]++[some<|.ref a.1,v2,v3])/\∃ Y:List<|List Key×V,(∀ b o,b≠D->H5 b≈o->bZ b≈o)/\bZ D≈.dT Y/\Y.length<=(bn (n.take r)++bF r ((row n r).take p) 0).length/\∀ x∈bn (n.take r)++bF r ((row n r).take p) 0,aJ n x.2≈x.1/\aF Y (key n x.2)≈.str x.1)
   ⟨⟨_,_,rfl⟩,Y,λb o _ h=>h,kh,by simpa[bF]using UB,by simpa[bF]using BQ⟩ ?_ ?_ ?_
  ·rintro p σ' bZ _ ⟨_,Y,kb,_⟩;exact⟨au.of (kb _ _ (cf e5 kh λz=>nomatch z) e5),au.of<|kb _ _ (cf ui kh λz=>nomatch z) ui⟩
  ·rintro p x y Tt σ' bZ hx hy ⟨⟨v2,v3,rfl⟩,Y,kb,iU,rL,nX⟩ jT;rw[Ah,Az]at hx hy;obtain⟨te,lq,rfl⟩:=hx;obtain⟨z,hz,rfl⟩:=hy;have nU:=t5 p te lq;have BO:te≠D:=cf nU kh λz=>nomatch z;have BH:=kb _ _ BO nU;have nV:aJ n (r,p)≈z:=hz;obtain⟨rest,eS⟩:=wV hi hz;have hlen:(bn (n.take r)++bF r ((row n r).take p) 0).length < 1000:=by
    have h1:(bn n).length=(ag n).length:=by
     have:=BZ List.length<|kJ n 0;rwa[Aa]at this
    have h2:=BZ List.length eS;rw[Ag,As]at h2;omega
   have nTD:Tt≠D:=λe=>by rw[e,iU]at jT;cases jT
   have s7:=aS jT<|.tup [.ref te,.str z];refine jN rfl (aQ.of az) (bw 2 Kx<|bw 3 Kx ?_);refine ja ?_;rw[BP rfl];have rJ:(upd bZ Tt<|.tup [.ref te,.str z]) te=some (.tup<|(key n (r,p)).map kV):=by
    rw[s7 _ _ BH];show some (Tn n[r].1 (p:Int))≈Tn (nameAt n r) (p:Int);rw[uh hi]
   refine R3 hu<|ae 2<|ae 3 ⟨_,cw.t (k:=key n (r,p)) (s7 _ _ iU) rJ (cg<|⋯),⟨_,_,rfl⟩,_,λb o hb h=>?_,az,?_,?_⟩
   ·rw[aw hb];exact s7 _ _<|kb b o hb h
   ·rw[qK hz,<- Ar,Ag];have:=jD Y (key n (r,p))<|.str z;show _<=_+1;omega
   ·rw[qK hz,<- Ar];intro x hx
    rcases Am.mp hx with h | h
    ·obtain⟨q1,q2⟩:=nX x h;refine⟨q1,?_⟩;rw[d8]
     by_cases hk:key n x.2=key n (r,p)
     ·rw[BP hk];have:=rF hN (cB q1) (cB nV) hk;rw[this,nV]at q1;rw[Option.some.inj q1]
     ·rwa[BL hk]
    ·rw[Ad.mp h];exact⟨nV,by rw[d8,BP rfl]⟩
  ·rintro σ' bZ ⟨⟨v2,v3,rfl⟩,Y,kb,iU,rL,nX⟩;rw[Aa,l5,Ca,<- tQ hi]at rL nX;exact⟨⟨_,_,_,rfl⟩,Y,λb o h=>kb b o (bz h hD)<|s5 _ _<|sm _ _ h,iU,rL,nX⟩
 ·rintro σ' H' ⟨_,Y,sm,eD,UB,BQ⟩;rw[Aa,cq,Ca]at BQ;exact q D Y H' sm hD eD λe z he=>(BQ (z,e)<|aT.mpr he).2
def Ky(K:PySem.W.Frag):PySem.W.kitOne K (.type "list") (.type "list")≈true:=by rfl
def xa(K:PySem.W.Frag):PySem.W.kitOne K (.type "tuple") (.type "tuple")≈true:=by rfl
theorem UC{κ:Type} [DecidableEq κ]:∀{Y:List (κ×V)} {i:Nat} {p:κ×V},(Y.map (·.1)).Nodup->Y[i]?≈p->aF Y p.1≈p.2
 | [],_,_,_,h=>by simp at h
 | q :: r,0,p,_,h=>by
  cases h;exact iJ rfl
 | q :: r,i+1,p,hn,h=>by
  rw[Ba,Bh]at hn;have hm:r[i]?≈p:=by simpa using h
  rw[iw λe=>hn.1<|by rw[e];exact Ak.mpr ⟨p,Ao hm,rfl⟩];exact UC hn.2 hm
def x1a{κ:Type}{l:List κ}(h:l.Nodup){j:Nat}{a:κ}(hi:l[i]?≈a)(hj:l[j]?≈a):i=j:=by
 have h1:=(Ac.mp hi).1;have h2:=(Ac.mp hj).1;have e1:=(Ac.mp hi).2;have e2:=(Ac.mp hj).2
 rcases Em i j with c | c | c
 ·exact absurd (e1.trans e2.symm)<|Bc.mp h i j h1 h2 c
 ·exact c
 ·exact absurd (e2.trans e1.symm)<|Bc.mp h j i h2 h1 c
def ic(c:Int):Sp:=λvs H Q _=>∃R as n,vs=[.ref R]/\ai H R as n/\(n.map (·.1)).Nodup/\aq n/\n.length<=1000/\(ag n).length<=1000 /\
 ∀d Y H',aj H H'->H d=none->H' d≈.dT Y->(∀ e∈ends n,∃ u,aF Y (key n e)≈.ref u/\H' u=some (TN n<|go c n e))->Q (.ref d) H'
abbrev nY:Ð:=["rows","lists"]
abbrev rM:Ð:=["rows","lists","end","other"]
def UD:rM.Nodup:=by decide +kernel
theorem UE{x y:Str}{st:Stmt}(h:(x = "left_steps"/\y = "turned_left"/\st=zU)\/(x = "right_steps"/\y = "turned_right"/\st=zV))(F:bB K x x st f fd)(T:Txt mg)
  (GO:↥6 2 "other_ends" ["rows"] lh) (GT:↥6 2 y ["end","many"]<|iS λj=>j+c) :
  ↥4 3 f fd ["rows"] (ic c):=by
 rcases h with ⟨rfl,rfl,rfl⟩ | ⟨rfl,rfl,rfl⟩
 all_goals
  refine F.gb (N:=nY) cm (λvs H Q E h=>?_) λb0 H vs Q E hr h=>?_
  ·obtain⟨R,as,n,rfl,_⟩:=h;rfl
  obtain⟨R,as,n,rfl,hR,hN,hT,hn,ht,q⟩:=h;have nd:nY.Nodup:=by decide +kernel
  have cq:=hR.len;have hu:=hr.u1;have keys:=Um n as cq;have knd:((iT n as).map (·.1)).Nodup:=by rw[keys];exact q0j hN
  have Kz:(iT n as).length=n.length:=by have:=BZ List.length keys;simpa using this
  refine aZ 1 nd (qk (j8f rfl) T.v5 PyProof.Rows.boot_dict (ah (ae 0 (ax ⟨R,as.map (·.1),iT n as,rfl,?_,?_,?_,?_,λdl jd=>?_⟩))))
  ·rw[Bs];exact hR.lst
  ·rw[Aa,Kz,cq]
  ·rw[Aa];exact cg<|⋯
  ·intro j t kv h1 h2;rw[Ah,Az]at h1;obtain⟨a,ea,rfl⟩:=h1;have hj:j < n.length:=by have:=(Ac.mp ea).1;omega
   have e:=Uo (Ab hj) ea;rw[h2]at e;cases e;exact(hR.tup j a n[j] ea<|Ab hj).1
  have ef:(iT n as).foldl (λa p=>putK a p.1 p.2) []=iT n as:=by
   rw[q4e (by rwa[Hk]),Hk]
  rw[ef];have s1:=aS jd<|.dK<|iT n as;have el:(upd H dl<|.dK<|iT n as) dl=some (.dK<|iT n as):=az;generalize upd H dl (.dK<|iT n as)=H1 at s1 el
  first | refine bS (R5 (aW zU) nY rM 2 (Sg bI) ?_) | refine bS<|R5 (aW zV) nY rM 2 (Sg bI) ?_
  refine bC GO hr<|ah<|ae 0<|ax ⟨R,as,n,rfl,hR.same s1,hN,hT,hn,ht,λd Y H2 s2 wz ed val xc kks UH=>?_⟩;refine⟨d,Y,rfl,ed,λo D hD cl C æ ç ex=>?_⟩;have nDd:D≠d:=λe=>by rw[e,az]at hD;cases hD
  have lB:H2 D=none:=by rwa[aw nDd]at hD
  have KA:H d=none:=iR s1 wz;have sB:aj H (upd H2 d<|.b7 o<|.dT Y):=fI (s1.trans s2) KA;have kB:∀ b o',b≠d->H2 b≈o'->(upd H2 d<|.b7 o<|.dT Y) b≈o':=λb o' hb h=>by rwa[aw hb]
  have tB:∀ b p j,H2 b≈Tn p j->(upd H2 d<|.b7 o<|.dT Y) b≈Tn p j:=λb p j h=>kB b _ (rG h ed) h;have UI:(upd H2 d<|.b7 o<|.dT Y) d=some (.b7 o<|.dT Y):=az;have UK:(upd H2 d<|.b7 o<|.dT Y) dl=some (.dK<|iT n as):=kB _ _ (λe=>by rw[e,wz]at el;cases el)<|s2 _ _ el;have hRB:=hR.same sB;generalize upd H2 d (.b7 o<|.dT Y)=HB at hD sB tB UI UK hRB;have xf:=iR sB hD;refine j92 (λi σ' H'=>(∃ v1 v2,σ'=[⇑R,⇑dl]++[v1,v2])/\∃ rO:List<|List Key×V,H' D≈.dT rO/\rO.length<=i/\aj HB H' /\
   (∀ j k x e,j < i->Y[j]?=some (k,x)->e∈ends n->k=key n e->∃ u,aF rO (key n e)≈.ref u/\H' u=some (TN n<|go c n e)))
   ⟨⟨none,none,rfl⟩,[],az,An _,aS hD _,λj k x e h=>absurd h<|Dj _⟩ ?_ ?_ ?_
  ·rintro i σ' H' _ ⟨_,_,_,_,sm,_⟩;exact sm _ _ UI
  ·rintro i k x b Tt σ' H' hx ⟨⟨v1,v2,rfl⟩,rO,eD,l2,sm,all⟩ hb jT;have hi:i < Y.length:=(Ac.mp hx).1;obtain⟨e,he,rfl⟩:=kks k<|Ak.mpr ⟨_,Ao hx,rfl⟩;obtain⟨u,hv,tV⟩:=val e he;have xg:aF Y (key n e)≈x:=UC xc hx;rw[hv]at xg;cases xg;have zA:=cR hT he;obtain⟨zo,uj⟩:=af.mp zA;have iQ:=cB uj;have pB:=gk uj;have nmE:nameAt n (↥5).1=n[(↥5).1].1:=uh iQ;have sT:=aS jT<|.tup [.ref b,.ref u];have UM:=sT _ _<|sm _ _<|tB _ _ _ tV;refine jN rfl (aQ.of az) (bw 2 UD<|bw 3 UD ?_);refine ja ?_;rw[BP rfl];have UN:as[(↥5).1]?=some (as[(↥5).1]'⋯):=Ab ⋯;have xh:n[(↥5).1]?=some n[(↥5).1]:=Ab iQ;have ev:aF (iT n as) (Sum.inr<|nameAt n (↥5).1)=some (.ref (as[(↥5).1]'⋯).2):=by rw[nmE];exact Ul knd<|Uo xh UN
   have rP:=(hR.tup _ _ _ UN xh).2;have xk:row n (↥5).1=n[(↥5).1].2:=jm iQ;refine R3 hu<|ae 2<|bC GT hr<|ah<|ae 3<|ah<|cM eU T.len DY<|ah<|gJ hu<|ae 1<|a8 bQ<|ae 3<|aG ⟨u,_,_,.str<|nameAt n (↥5).1,rfl,rfl,aQ.of UM,rfl,?_⟩;refine⟨dl,.ref (as[(↥5).1]'⋯).2,rfl,by rw[<- ev];exact bb.k (k:=Sum.inr<|nameAt n (↥5).1)<|sT _ _<|sm _ _ UK,ax ⟨_,_,rfl,.inl<|au.of<|sT _ _<|sm _ _<|sB _ _ rP,ax ⟨u,_,_,_,rfl,UM,?_,λt2 H4 s4 pC=>?_⟩⟩⟩
   ·rw[Aa,<- xk];omega
   rw[Aa,<- xk]at pC;have KE:H4 t2=some (TN n<|go c n e):=by
    rw[pC];have:=wq (c:=c) zA;show some (Tn _ _)≈Tn _ (((go c n e).2:Nat):Int);unfold go;rw[this];rfl
   have wR:=s4 _ _<|sT _ _ hb;refine⟨_,cw.t (k:=key n e) (s4 _ _<|sT _ _ eD) wR (cg<|⋯),⟨_,_,rfl⟩,_,az,?_,fI ((sm.trans sT).trans s4) hD,λj k' x' e' hj j7 zD qp=>?_⟩
   ·have:=jD rO (key n e)<|.ref t2;omega
   ·subst qp
    by_cases BA:j=i
    ·subst BA;rw[hx]at j7;have hke:key n e=key n e':=BZ Prod.fst<|Option.some.inj j7;obtain⟨z1,qX⟩:=af.mp he;obtain⟨z2,AK⟩:=af.mp zD;have:=rF hN (cB qX) (cB AK) hke;subst this;exact⟨t2,by rw[d8,BP rfl],by rwa[aw<|rG KE<|s4 _ _<|sT _ _ eD]⟩
    ·obtain⟨u3,hu3,hu4⟩:=all j _ x' e' ⋯ j7 zD rfl;refine⟨u3,?_,?_⟩
     ·rw[d8,BL,hu3];intro hk;have h1:(Y.map (·.1))[j]?≈key n e':=by rw[Ah,j7];rfl
      have h2:(Y.map (·.1))[i]?≈key n e':=by rw[Ah,hx,hk];rfl
      exact BA<|x1a xc h1 h2
     ·have q4:=s4 _ _<|sT _ _ hu4;rwa[aw<|rG q4<|s4 _ _<|sT _ _ eD]
  ·rintro σ' H' ⟨_,rO,eD,_,sm,all⟩;refine q D rO H' (sB.trans sm) xf eD λe he=>?_;obtain⟨u,hv,_⟩:=val e he;obtain⟨i,hi⟩:∃ i:Nat,(Y.map (·.1))[i]?≈key n e:=Be<|PD hv;rw[Ah,Az]at hi;obtain⟨⟨k,x⟩,hx,hk⟩:=hi;exact all i k x e (Ac.mp hx).1 hx he hk
def x5m(F:bB K "left_steps" "left_steps" zU f fd)(T:Txt mg)(GO:↥6 2 "other_ends" ["rows"] lh)(GT:↥6 2 "turned_left" ["end","many"]<|iS λj=>j+1):↥4 3 f fd ["rows"] (ic 1):=UE (.inl ⟨rfl,rfl,rfl⟩) F T GO GT
def x5n(F:bB K "right_steps" "right_steps" zV f fd)(T:Txt mg)(GO:↥6 2 "other_ends" ["rows"] lh)(GT:↥6 2 "turned_right" ["end","many"]<|iS λj=>j - 1):↥4 3 f fd ["rows"] (ic (-1)):=UE (.inr ⟨rfl,rfl,rfl⟩) F T GO GT
def dY(n:Net)(H:Hp)(ts:↥9)(es:List Nt.End):Prop:=ts.length=es.length/\∀(j:Nat) t e,ts[j]?≈t->es[j]?≈e->H t≈TN n e
def dY.keep(h:dY n H ts es)(k:∀ t p j,H t≈Tn p j->H' t≈Tn p j):dY n H' ts es:=⟨h.1,λj t e h1 h2=>k _ _ _<|h.2 j t e h1 h2⟩
def dY.same(h:dY n H ts es)(s:aj H H'):dY n H' ts es:=h.keep λ_ _ _ q=>s _ _ q
theorem dY.append{fs:List Nt.End}(h:dY n H ts es)(g:dY n H us fs):dY n H (ts++us) (es++fs):=by
 refine⟨by rw[Ag,Ag,h.1,g.1],λj t e h1 h2=>?_⟩;have hl:=h.1
 by_cases hj:j < ts.length
 ·rw[Ax hj]at h1;rw[Ax<|⋯]at h2;exact h.2 j t e h1 h2
 ·rw[Bd<|⋯]at h1 h2;rw[<- hl]at h2;exact g.2 _ t e h1 h2
theorem dY.two{t u:Addr}{b:Nt.End}(h1:H t≈TN n a)(h2:H u≈TN n b):dY n H [t,u] [a,b]:=⟨rfl,λj x e h3 h4=>by
 match j with
 | 0=>cases h3;cases h4;exact h1
 | 1=>cases h3;cases h4;exact h2
 | j+2=>simp at h3⟩
def UO(hN:(n.map (·.1)).Nodup){b:Nt.End}(ha:a∈ends n)(hb:b∈ends n):decide (nameAt n a.1=nameAt n b.1/\(a.2:Int)=(b.2:Int))=decide (a=b):=by
 obtain⟨z1,h1⟩:=af.mp ha;obtain⟨z2,h2⟩:=af.mp hb;refine decide_eq_decide.mpr ⟨λ⟨p,q⟩=>rF hN (cB h1) (cB h2) (by unfold key;rw[p,q]),λe=>by rw[e];exact⟨rfl,rfl⟩⟩
def KG(h:H d≈.lst xs):mV K "list" (.ref d) H:=Or.inl ⟨rfl,xs,au.of h⟩
def bp(n:Net)(H:Hp)(d:Addr)(c:Int):Prop:=∃ Y,H d≈.dT Y/\∀ e∈ends n,∃ u,aF Y (key n e)≈.ref u/\H u=some (TN n<|go c n e)
def bp.same(h:bp n H d c)(s:aj H H'):bp n H' d c:=let ⟨Y,h1,h2⟩:=h;⟨Y,s _ _ h1,λe he=>let ⟨u,a,b⟩:=h2 e he;⟨u,a,s _ _ b⟩⟩
def bp.get{n:Net}{H:Hp}{d t:Addr}{c:Int}{e:Nt.End}(h:bp n H d c)(he:e∈ends n)(ht:H t≈TN n e):∃ u,bb H d (.ref t) (⇑u)/\H u=some (TN n<|go c n e):=by
 obtain⟨Y,h1,h2⟩:=h;obtain⟨u,a,b⟩:=h2 e he;exact⟨u,by rw[<- a];exact bb.t h1 ht,b⟩
def rQ:Sp:=λvs H Q _=>∃dl dr t n e,vs=[.ref dl,.ref dr,.ref t]/\bp n H dl 1/\bp n H dr (-1)/\(n.map (·.1)).Nodup/\aq n/\(ag n).length<=1000/\e∈ends n/\H t=some (TN n e) /\
 ∀l ts k H',aj H H'->H l=none->H' l=some (.lst<|↥8)->dY n H' ts (wk n e k)->jO n e k->k<=(ends n).length->Q (.ref l) H'
abbrev NWf:Ð:=["lefts","rights","first","walker","end"]
def xl:ak NWf ["lefts","rights","first"] (aW qN):=cm
def KI(ts:↥9)(a b:Addr):↥8++[V.ref a,V.ref b]=(ts++[a]).map V.ref++[V.ref b]:=by rw[Al,Ar];rfl
theorem x5p(F:bB K "walker_from" "walker_from" qN f fd)(T:Txt mg):↥4 1 f fd ["lefts","rights","first"] rQ:=by
 refine F.gc xl λb0 H vs Q E hr h=>?_;obtain⟨dl,dr,t,n,e,rfl,hL,uk,hN,hT,dZ,he,ht,q⟩:=h;have nd:=xl.nd;have pB:=fz n;have hu:=hr.u1;have un:=hr.iL;obtain⟨k,k0,k1,k2⟩:=zK (λa ha=>nH hT ha) (λa ha b hb=>wt hT ha hb) he;obtain⟨u1,g1,e1⟩:=hL.get he ht;refine aZ 3 nd<|di<|ah<|ae 2<|ah<|gJ hu<|ae 0<|ae 2 ⟨dl,.ref u1,rfl,g1,ax ⟨Z2,λl hl=>?_⟩⟩;have s1:=aS hl<|.lst [.ref t,.ref u1];have el:(upd H l<|.lst [.ref t,.ref u1]) l=some (.lst<|[t,u1].map V.ref):=az;generalize upd H l (.lst [.ref t,.ref u1])=H1 at s1 el;obtain⟨u2,g2,e2⟩:=(uk.same s1).get (gK hT he)<|s1 _ _ e1;refine aZ 4 nd<|gJ hu<|ae 1<|a8 dF<|ae 3<|PZ OO<|aG ⟨1,rfl,l,_,_,.ref u1,rfl,rfl,au.of el,rfl,dr,.ref u2,rfl,g2,?_⟩;refine vT (λm σ H2=>∃(j:Nat) (ts:↥9) (u:Addr),m=k - j/\0 < j/\j<=k/\aj H H2/\H2 l=some (.lst<|↥8)/\dY n H2 ts (wk n e j)/\H2 u=some (TN n<|↥12 j e)/\(∀ i,0 < i->i < j->↥12 i e≠e)/\σ=[⇑dl,⇑dr,⇑t,⇑l,⇑u])
  (m0:=k - 1) ⟨1,[t,u1],u2,rfl,Ff,k0,s1,el,dY.two (s1 _ _ ht)<|s1 _ _ e1,e2,λi h1 h2=>⋯,rfl⟩ ?_
 rintro m σ H2 ⟨j,ts,u,rfl,j0,j1,sH,mE,at2,eu,hf,rfl⟩;have ul:↥12 j e∈ends n:=je (λa ha=>nH hT ha) he j;refine cz (tP un) (ae 4<|ae 2 ⟨1,_,∅,Uy eu<|sH _ _ ht,_,rfl,?_⟩);rw[UO hN ul he];have tl:=at2.1;rw[rd]at tl
 by_cases c:↥12 j e=e
 ·rw[BW c];exact bR<|bS<|ae 3<|q l ts j H2 sH hl mE at2 ⟨j0,c,hf⟩<|⋯
 ·rw[BR c];have jk:j < k:=by
   rcases Da j k with h | h
   ·exact h
   ·have:j=k:=⋯
    subst this;exact absurd k2 c
  obtain⟨v1,g3,e3⟩:=(hL.same sH).get ul eu;refine cv<|gG<|Ie FN PySem.F.slot_list_extend PySem.F.type_list_extend Zx<|ae 3 (v:= .ref l) ⟨KG mE,di<|ah<|ae 4<|ah<|gJ hu<|ae 0<|ae 4 ⟨dl,.ref v1,rfl,g3,ax ⟨Z2,λp hp=>?_⟩⟩⟩;have s3:=aS hp<|.lst [.ref u,.ref v1];have nlp:l≠p:=bz mE hp;refine⟨l,p,↥8,[.ref u,.ref v1],rfl,rfl,s3 _ _ mE,az,small (by rw[Aa];show _+2<=100000;omega),?_⟩;have rR:aj H (upd (upd H2 p<|.lst [.ref u,.ref v1]) l<|.lst<|↥8++[.ref u,.ref v1]):=fI (sH.trans s3) hl;have um:(upd (upd H2 p<|.lst [.ref u,.ref v1]) l<|.lst<|↥8++[.ref u,.ref v1]) l=some (.lst<|(ts++[u,v1]).map V.ref):=by rw[az,Al];rfl
  have kt:∀ b p' j',H2 b≈Tn p' j'->(upd (upd H2 p<|.lst [.ref u,.ref v1]) l<|.lst<|↥8++[.ref u,.ref v1]) b≈Tn p' j':=λb p' j' h=>by
   rw[aw<|cf h mE λz=>nomatch z];exact s3 _ _ h
  generalize upd (upd H2 p<|.lst [.ref u,.ref v1]) l (.lst<|↥8++[.ref u,.ref v1])=H3 at rR um kt;obtain⟨v2,g4,e4⟩:=(uk.same rR).get (gK hT ul)<|kt _ _ _ e3;refine aZ 4 nd<|gJ hu<|ae 1<|a8 dF<|ae 3<|PZ OO<|aG ⟨1,rfl,l,_,_,.ref v1,rfl,rfl,au.of um,?_,dr,.ref v2,rfl,g4,?_⟩
  ·rw[Al];show fj (↥8++[V.ref u,V.ref v1]) (-1)=_;rw[KI];exact Zj _ _
  refine a9 ⟨k - (j+1),⋯,j+1,ts++[u,v1],v2,rfl,Ey _,jk,rR,um,(at2.keep kt).append<|dY.two (kt _ _ _ eu)<|kt _ _ _ e3,e4,λi h1 h2=>?_,rfl⟩
  by_cases eW:i=j
  ·subst eW;exact c
  ·exact hf i h1<|⋯
open bP
theorem UP{α β:Type}(f:α->β):∀ xs:List α,av (xs.map f)=(av xs).map f
 | []=>rfl
 | [a]=>rfl
 | a :: b :: r=>by
  show f a :: av (r.map f)=f a :: (av r).map f;rw[UP f r]
def dY.av{n:Net}{H:Hp}{ts:↥9}{es:List Nt.End}(h:dY n H ts es):dY n H (L2.av ts) (L2.av es):=by
 refine⟨by rw[wn,wn,h.1],λj t e h1 h2=>?_⟩;rw[qZ]at h1 h2;exact h.2 _ t e h1 h2
def pF{a:Addr}{o:HO}(h:H a≈o)(g:H d≈bq P w d zs)(ho:∀ φ,o ≠ .ext φ):a≠d:=λe=>by
 rw[e,g]at h;exact ho _ (Option.some.inj h).symm
structure iV(n:Net)(H:Hp)(L:Addr)(ls:↥9)(ws:List<|List Nt.End):Prop where
 lst:H L=some (.lst<|ls.map V.ref)
 len:ls.length=ws.length
 fM:ls.Nodup
 out:L∉ls
 at':∀(j:Nat) l w,ls[j]?≈l->ws[j]?≈w->∃ ts,H l=some (.lst<|↥8)/\dY n H ts w
def iV.same{n:Net}{H H':Hp}{L:Addr}{ls:↥9}{ws:List (List Nt.End)}(h:iV n H L ls ws)(s:aj H H'):iV n H' L ls ws:=
 ⟨s _ _ h.lst,h.len,h.fM,h.out,λj l w h1 h2=>let ⟨ts,a,b⟩:=h.at' j l w h1 h2;⟨ts,s _ _ a,b.same s⟩⟩
def iV.keep{n:Net}{H H':Hp}{L:Addr}{ls:↥9}{ws:List (List Nt.End)}(h:iV n H L ls ws)(hL:H' L=H L)(kl:∀ l∈ls,∀ o,H l≈o->H' l≈o)(kt:∀ t p j,H t≈Tn p j->H' t≈Tn p j):iV n H' L ls ws:=
 ⟨by rw[hL];exact h.lst,h.len,h.fM,h.out,λj l w h1 h2=>let ⟨ts,a,b⟩:=h.at' j l w h1 h2;⟨ts,kl l (Ao h1) _ a,b.keep kt⟩⟩
theorem iV.snoc{L l:Addr}{ls:↥9}(h:iV n H L ls ws)(hL:H' L=some (.lst<|ls.map V.ref++[.ref l]))(kl:∀ l∈ls,∀ o,H l≈o->H' l≈o)(kt:∀ t p j,H t≈Tn p j->H' t≈Tn p j)
  (hl:H' l=some (.lst<|↥8)) (hv:dY n H' ts v) (hn:l∉ls) (UQ:L≠l):iV n H' L (ls++[l]) (ws++[v]):=by
 refine⟨by rw[hL,Al];rfl,by rw[Ag,Ag,h.len];rfl,oK h.fM hn,λhm=>?_,λj a x h1 h2=>?_⟩
 ·rcases Am.mp hm with hm | hm
  ·exact h.out hm
  ·exact UQ<|Ad.mp hm
 ·have hlen:=h.len
  by_cases hj:j < ls.length
  ·rw[Ax hj]at h1;rw[Ax<|⋯]at h2;obtain⟨us,q1,q2⟩:=h.at' j a x h1 h2;exact⟨us,kl a (Ao h1) _ q1,q2.keep kt⟩
  ·rw[Bd<|⋯]at h1 h2;have gN:j - ls.length=0:=by
    have:=(Ac.mp h1).1;simp at this;omega
   rw[gN]at h1;rw[<- hlen,gN]at h2;cases h1;cases h2;exact⟨ts,hl,hv⟩
def KL:Sp:=λvs H Q _=>∃R as n,vs=[.ref R]/\ai H R as n/\(n.map (·.1)).Nodup/\aq n/\n.length<=1000/\(ag n).length<=400 /\
 ∀L ls H',aj H H'->H L=none->iV n H' L ls (eI n (ends n) [])->(∀ l∈ls,H l=none)->Q (.ref L) H'
def UR(h:(bn n)[i]?≈p):(ends n)[i]?≈p.2:=by unfold ends;rw[Ah,h];rfl
abbrev NWs:Ð:=["rows","lefts","rights","names","told","walkers","first","walker","end"]
def xm:ak NWs ["rows"] (aW qM):=cm
theorem x0u(F:bB K "walkers_of" "walkers_of" qM f fd)(T:Txt mg)
  (GL:↥6 3 "left_steps" ["rows"]<|ic 1)
  (GR:↥6 3 "right_steps" ["rows"]<|ic (-1))
  (GN:↥6 3 "ties_by_end" ["rows"] lz)
  (GO:↥6 3 "ends_in_order" ["rows"] BI)
  (GW:↥6 3 "walker_from" ["lefts","rights","first"] rQ) :
  ↥4 4 f fd ["rows"] KL:=by
 refine F.gc xm λb0 H vs Q E hr h=>?_;obtain⟨R,as,n,rfl,hR,hN,hT,hn,dZ,q⟩:=h;have nd:=xm.nd;have pB:=fz n;have hu:=hr.u1;show Run _ _ _ [⇑R,none,none,none,none,none,none,none,none] H;refine aZ 1 nd (bC GL hr<|ah<|ae 0<|ax ⟨R,as,n,rfl,hR,hN,hT,hn,⋯,λdl kl H1 s1 n1 e1 v1=>?_⟩);refine aZ 2 nd (bC GR hr<|ah<|ae 0<|ax ⟨R,as,n,rfl,hR.same s1,hN,hT,hn,⋯,λdr kr H2 s2 n2 e2 v2=>?_⟩);refine aZ 3 nd (bC GN hr<|ah<|ae 0<|ax ⟨R,as,n,rfl,hR.same<|s1.trans s2,hN,hn,⋯,λdn kn H3 s3 n3 e3 v3=>?_⟩);refine aZ 4 nd<|q84 T.nC λD hD=>?_;refine aZ 5 nd<|di<|ax ⟨Z0,λL hL=>?_⟩;have KO:=bp.same ⟨kl,e1,v1⟩<|s2.trans s3;have hSR:bp n H3 dr (-1):=bp.same ⟨kr,e2,v2⟩ s3;have rS:=(s1.trans s2).trans s3;have pG:L≠D:=λe=>by rw[e,az]at hL;cases hL
 have hL3:H3 L=none:=by rwa[aw pG]at hL
 have xf:=iR rS hD;have rA:=iR rS hL3;have sB:aj H3 (upd (upd H3 D<|bq P w D []) L<|.lst []):=(aS hD _).trans<|aS hL _;have UT:(upd (upd H3 D<|bq P w D []) L<|.lst []) D≈bq P w D []:=by rw[aw<|CK pG,az]
 have pH:(upd (upd H3 D<|bq P w D []) L<|.lst []) L≈.lst []:=az;have KP:=rS.trans sB;have lD:=KO.same sB;have xn:=hSR.same sB;have UU:=sB _ _ e3;show Run _ _ _ [⇑R,⇑dl,⇑dr,⇑dn,⇑D,⇑L,none,none,none] (upd (upd H3 D<|bq P w D []) L<|.lst []);generalize upd (upd H3 D<|bq P w D []) L (.lst [])=HB at sB UT pH KP lD xn UU;refine jF (bC GO hr<|ah<|ae 0<|ax ⟨R,as,n,rfl,hR.same KP,hn,⋯,λú us H5 s5 n5 e5 KS=>⟨ú,rfl,⟨_,au.of e5⟩,?_⟩⟩);have xo:=KP.trans s5;have kh:=s5 _ _ UT;have BU:=s5 _ _ pH;have KU:=lD.same s5;have KW:=xn.same s5;have K0:=s5 _ _ UU;have K1:ú≠L:=λe=>by rw[e,pH]at n5;cases n5
 have rT:us.length=(ends n).length:=by rw[KS.1];unfold ends;rw[Aa]
 refine jG (xs:=us.map V.ref) (λi σ H'=>∃(zs told:Ð) (ls:↥9) (ws:List<|List Nt.End) (u1 u2 u3:Option V),(∀ b o,b≠D->b≠L->H5 b≈o->H' b≈o)/\H' D≈bq P w D zs/\zs.Nodup/\(∀ z∈zs,z∈ag n)/\(∀ z,z∈zs↔z∈told) /\
  iV n H' L ls ws/\(∀ l∈ls,H5 l=none)/\ls.length<=i/\eI n (ends n) []=ws++eI n ((ends n).drop i) told/\σ=[⇑R,⇑dl,⇑dr,⇑dn,⇑D,⇑L,u1,u2,u3])
  ⟨[],[],[],[],_,_,_,λb o _ _ h=>h,kh,Cd,λz h=>by simp at h,λz=>by simp,⟨BU,rfl,Cd,by simp,λj l w h=>by simp at h⟩,λl h=>by simp at h,An _,rfl,rfl⟩ ?_ ?_ ?_
 ·rintro i σ H' _ ⟨_,_,_,_,_,_,_,kp,_⟩;exact au.of<|kp _ _ (pF e5 kh λφ z=>nomatch z) K1 e5
 ·rintro i x σ H' hx ⟨zs,told,ls,ws,u1,u2,u3,kp,eD,zn,zt,zm,hW,hf,oV,lF,rfl⟩;have hi:i < us.length:=by
   have:=(Ac.mp hx).1;rwa[Aa]at this
  rw[Ah,Ab hi]at hx;cases hx;have uo:i < (bn n).length:=by have:=KS.1;omega
  have rV:H5 us[i]=some (TN n (bn n)[i].2):=KS.2 i us[i] (bn n)[i] (Ab hi)<|Ab uo;have mF:=UR<|Ab uo;have jU:aJ n (bn n)[i].2=some (bn n)[i].1:=aT.mp (by have:=Bt uo;exact this);generalize (bn n)[i]=pr at rV mF jU;obtain⟨z,e⟩:=pr;have rV:H5 us[i]≈TN n e:=rV;have jU:aJ n e≈z:=jU;have mF:(ends n)[i]?≈e:=mF;have he:e∈ends n:=Ao mF;have ie:(ends n).drop i=e :: (ends n).drop (i+1):=by
   have xq:i < (ends n).length:=⋯
   rw[Gd xq]
   congr 1
   have:=Ab xq;rw[mF]at this;exact(Option.some.inj this).symm
  have xt:∀{b p j},H5 b≈Tn p j->H' b≈Tn p j:=λ{b p j} h=>kp _ _ (pF h kh λφ z=>nomatch z) (cf h BU λz=>nomatch z) h;have gu:=xt rV;have K2:H' dn≈.dT kn:=kp _ _ (pF K0 kh λφ z=>nomatch z) (cf K0 BU λz=>nomatch z) K0;have cW:∀{d c},bp n H5 d c->bp n H' d c:=λ{d c} ⟨Y,a,b⟩=>⟨Y,kp _ _ (pF a kh λφ z=>nomatch z) (cf a BU λz=>nomatch z) a,λe he=>let ⟨u,p,r⟩:=b e he;⟨u,p,xt r⟩⟩;have hd1:bb H' dn (.ref us[i]) (some<|.str z):=by rw[<- v3 e z jU];exact bb.t (k:=key n e) K2 gu
  refine bw 6 nd ?_;refine dP<|cz k16<|gJ hu<|ae 3<|ae 6 ⟨dn,.str z,rfl,hd1,ae 4 ⟨z,D,zs,rfl,rfl,eD,_,rfl,?_⟩⟩;refine jC (λc=>?_) λc=>?_
  ·have hz:z∉zs:=BX c;have dq:aD n e∉told:=by rw[eY jU];exact λh=>hz<|(zm z).mpr h
   refine aZ 7 nd (bC GW hr<|ah<|ae 1<|ah<|ae 2<|ah<|ae 6<|ax ⟨dl,dr,us[i],n,e,rfl,cW KU,cW KW,hN,hT,⋯,he,gu,λl ts k H6 s6 n6 e6 K3 pr hk=>?_⟩);have K4:=wv pr;have BV:walker n e=wk n e k:=by unfold walker;rw[K4]
   have pI:=s6 _ _ hW.lst;have iU:=s6 _ _ eD;have rW:L≠l:=bz hW.lst n6;have nS:D≠l:=bz eD n6;refine gG (ka<|ae 5 ⟨L,rfl,⟨_,pI⟩,ae 7 ⟨_,pI,by rw[Aa];exact cg ⋯,?_⟩⟩);have k7:∀ b o,b≠L->H6 b≈o->(upd H6 L<|.lst<|ls.map V.ref++[.ref l]) b≈o:=λb o hb h=>by rwa[aw hb]
   have xu:(upd H6 L<|.lst<|ls.map V.ref++[.ref l]) L=some (.lst<|ls.map V.ref++[.ref l]):=az;generalize upd H6 L (.lst<|ls.map V.ref++[.ref l])=H7 at k7 xu;have xv:∀ t p j,H6 t≈Tn p j->H7 t≈Tn p j:=λt p j h=>k7 _ _ (cf h pI λz=>nomatch z) h;have e7:=k7 _ _ (CK rW) e6;have eD7:=k7 _ _ (CK pG) iU;have uq:=K3.keep xv;have xA:l∉ls:=λhm=>by
    obtain⟨j,hj⟩:=Be hm;have hlen:=hW.len;have xB:j < ws.length:=by have:=(Ac.mp hj).1;omega
    obtain⟨_,a,_⟩:=hW.at' j l ws[j] hj<|Ab xB;rw[n6]at a;cases a
   have xC:iV n H7 L (ls++[l]) (ws++[wk n e k]):=hW.snoc xu (λa ha o ho=>k7 _ _ (λq=>hW.out<|q ▸ ha)<|s6 _ _ ho) (λt p j h=>xv _ _ _<|s6 _ _ h) e7 uq xA rW;have l57:H5 l=none:=by
    cases q5:H5 l with
    | none=>rfl
    | some o=>rw[kp _ _ (CK nS) (CK rW) q5]at n6;cases n6
   have B0:∀ a∈ls++[l],H5 a=none:=λa ha=>by
    rcases Am.mp ha with ha | ha
    ·exact hf a ha
    ·rwa[Ad.mp ha]
   have rq:∀ b o,b≠D->b≠L->H5 b≈o->H7 b≈o:=λb o h1 h2 h=>k7 _ _ h2<|s6 _ _<|kp b o h1 h2 h;have K5:(ls++[l]).length<=i+1:=by rw[Ag];show ls.length+1<=_;omega
   have rX:eI n (ends n) []=(ws++[wk n e k])++eI n ((ends n).drop<|i+1) (told++(av<|wk n e k).map (aD n)):=by
    rw[lF,ie];show ws++(if aD n e∈told then _ else _)=_;rw[BL dq,BV,Ar];rfl
   have fN:=Jm hT he k;refine jF<|q41<|ae 7 ⟨l,_,rfl,au.of e7,λp hp=>⟨p,rfl,⟨_,au.of az⟩,?_⟩⟩;rw[UP];have s8:=aS hp<|.lst<|(av ts).map V.ref;have e8:(upd H7 p<|.lst<|(av ts).map V.ref) p=some (.lst<|(av ts).map V.ref):=az;have pJ:=s8 _ _ eD7;have ur:=xC.same s8;have B3:=(uq.same s8).av;have UX:∀ b o,b≠D->b≠L->H5 b≈o->(upd H7 p<|.lst<|(av ts).map V.ref) b≈o:=λb o h1 h2 h=>s8 _ _<|rq b o h1 h2 h;have K6:=s8 _ _ (k7 _ _ (cf K2 hW.lst λz=>nomatch z)<|s6 _ _ K2);generalize upd H7 p (.lst<|(av ts).map V.ref)=H8 at s8 e8 pJ ur B3 UX K6;have K7:p≠D:=pF e8 pJ λφ z=>nomatch z;refine jG (xs:=(av ts).map V.ref) (λm σ H9=>∃(jc:Ð) (u3:Option V),(∀ b o,b≠D->H8 b≈o->H9 b≈o)/\H9 D≈bq P w D jc/\jc.Nodup/\(∀ z∈jc,z∈ag n)/\(∀ z,z∈jc↔z∈told++((av<|wk n e k).take m).map (aD n)) /\
    σ=[⇑R,⇑dl,⇑dr,⇑dn,⇑D,⇑L,some<|.ref us[i],⇑l,u3]) ⟨zs,_,λb o _ h=>h,pJ,zn,zt,λz=>by rw[zm z];simp,rfl⟩ ?_ ?_ ?_
   ·rintro m σ H9 _ ⟨_,_,k9,_⟩;exact au.of<|k9 _ _ K7 e8
   ·rintro m x σ H9 hx ⟨jc,u3,k9,B4,xD,B5,B6,rfl⟩;have hm:m < (av ts).length:=by
     have:=(Ac.mp hx).1;rwa[Aa]at this
    have l8:=B3.1;rw[Ah,Ab hm]at hx;cases hx;have iB:m < (av<|wk n e k).length:=⋯
    have K8:=B3.2 m _ _ (Ab hm)<|Ab iB;have ri:(av<|wk n e k)[m]∈wk n e k:=by
     have h1:(av<|wk n e k)[m]?=some (av<|wk n e k)[m]:=Ab iB;rw[qZ]at h1;exact Ao h1
    have A7:=fN _ ri;obtain⟨y,hy⟩:=af.mp A7;have iW:(av<|wk n e k).take (m+1)=(av<|wk n e k).take m++[(av<|wk n e k)[m]]:=by rw[Cj,Ab iB];rfl
    generalize (av<|wk n e k)[m]=c at K8 A7 hy iW;have hc9:H9 (av ts)[m]≈TN n c:=k9 _ _ (pF K8 pJ λφ z=>nomatch z) K8;have ed9:H9 dn≈.dT kn:=k9 _ _ (pF K6 pJ λφ z=>nomatch z) K6;have hd9:bb H9 dn (.ref (av ts)[m]) (some<|.str y):=by rw[<- v3 c y hy];exact bb.t (k:=key n c) ed9 hc9
    have zl:jc.length<=(ag n).length:=aU xD B5;refine bw 8 nd ?_;refine gG<|q9x<|ae 4 ⟨D,rfl,⟨_,B4⟩,gJ hu<|ae 3<|ae 8 ⟨dn,.str y,rfl,hd9,y,jc,rfl,B4,⋯,a9 ⟨added jc y,_,λb o hb h=>?_,az,?_,λz hz=>?_,λz=>?_,rfl⟩⟩⟩
    ·rw[aw hb];exact k9 b o hb h
    ·unfold added
     split
     ·exact xD
     ·rename_i hny;exact oK xD hny
    ·rcases (HK jc y z).mp hz with h | h
     ·exact B5 z h
     ·rw[h];exact eV hy
    ·rw[HK,B6 z,iW,Al,<- Ar,Am (s:=told++_)];show _\/z=y↔_\/z∈[aD n c];rw[eY hy,Ad]
   ·rintro σ H9 ⟨jc,u3,k9,B4,xD,B5,B6,rfl⟩;have l8:=B3.1;rw[Aa,l8,Ca]at B6;refine a9<|a9 ⟨jc,told++(av<|wk n e k).map (aD n),ls++[l],ws++[wk n e k],_,_,_,λb o h1 h2 h=>k9 _ _ h1<|UX b o h1 h2 h,B4,xD,B5,B6,?_,B0,K5,rX,rfl⟩;refine ur.keep ?_ (λa ha o ho=>k9 _ _ ?_ ho) λt p j h=>k9 _ _ (pF h pJ λφ z=>nomatch z) h
    ·rw[ur.lst];exact k9 _ _ pG ur.lst
    ·intro q;rw[q,pJ]at ho;obtain⟨j,hj⟩:=Be ha;have hlen:=ur.len;have xB:j < (ws++[wk n e k]).length:=by have:=(Ac.mp hj).1;omega
     obtain⟨_,b,_⟩:=ur.at' j a _ hj<|Ab xB;rw[q,pJ]at b;cases b
  ·have hz:z∈zs:=Classical.not_not.mp<|IW<|El.mpr c;refine a9 (a9 ⟨zs,told,ls,ws,_,_,_,kp,eD,zn,zt,zm,hW,hf,⋯,?_,rfl⟩);rw[lF,ie];show ws++(if aD n e∈told then _ else _)=_;rw[BP<|by rw[eY jU];exact(zm z).mp hz]
 ·rintro σ H' ⟨zs,told,ls,ws,u1,u2,u3,kp,eD,zn,zt,zm,hW,hf,oV,lF,rfl⟩;rw[Aa,rT,List.drop_length]at lF;have K9:eI n (ends n) []=ws:=by rw[lF];show ws++[]=ws;rw[Bp]
  refine bS (ae 5<|q L ls H' (λb o h=>?_) rA (by rwa[K9]) λl hl=>iR xo<|hf l hl);exact kp _ _ (bz h xf) (bz h rA)<|xo _ _ h
end
end E9
namespace pK
open PySem PySem.W PyProof.Rows
variable{n i m:Nat}{J:Shared->Prop}{cmp:Nat->Nat->(Bool->Shared->Prop)->Shared->Prop}{p:Array Nat}{s:Shared}{Q:Nat×Array Nat->Shared->Prop}
section
variable{lt:Nat->Nat->Bool}
structure eR(lt:Nat->Nat->Bool)(cmp:Nat->Nat->(Bool->Shared->Prop)->Shared->Prop)(J:Shared->Prop)(n:Nat):Prop where
 ask:∀i j C s,i < n->j < n->i≠j->J s->(∀ s',J s'->C (lt i j) s')->cmp i j C s
 tot:∀ i j,i < n->j < n->i≠j->lt i j=true\/lt j i=true
 asy:∀ i j,lt i j=true->lt j i=false
 B7:∀ i j k,lt i j=true->lt j k=true->lt i k=true
def g(p:Array Nat)(i:Nat):Nat:=p.getD i 0
structure Pm(p:Array Nat)(n:Nat):Prop where
 size:p.size=n
 lt:∀ i,i < n->g p i < n
 inj:∀ i j,i < n->j < n->g p i=g p j->i=j
def jV{v:Nat}(h:p[i]?≈v):g p i=v:=by
 unfold g;rw[Db,h];rfl
def lG{q:Array Nat}{j:Nat}(h:p[i]?=q[j]?):g p i=g q j:=by
 unfold g;rw[Db,Db,h]
def UY(n:Nat):Pm (List.toArray<|List.range n) n:=by
 have e:∀ i,i < n->g (List.toArray<|List.range n) i=i:=λi hi=>jV (by simp[hi]);exact⟨by simp,λi hi=>by rwa[e i hi],λi j hi hj h=>by rwa[e i hi,e j hj]at h⟩
def Up(lt:Nat->Nat->Bool)(p:Array Nat)(m:Nat):Prop:=∀ i j,i < j->j < m->lt (g p i) (g p j)=true
def Dn(lt:Nat->Nat->Bool)(p:Array Nat)(m:Nat):Prop:=∀ i j,i < j->j < m->lt (g p j) (g p i)=true
theorem x1f(p:Array Nat):Up lt p 1:=λi j h1 h2=>⋯
theorem q7o(A:eR lt cmp J n)(h1:1<=m)(h:Up lt p m)(hm:lt (g p<|m - 1) (g p m)=true):Up lt p (m+1):=λi j hi hj=>by
 by_cases c:j < m
 ·exact h i j hi c
 ·have:j=m:=⋯
  subst this
  by_cases d:i=j - 1
  ·rwa[d]
  ·exact A.B7 _ _ _ (h i (j - 1) ⋯<|⋯) hm
theorem q9r(A:eR lt cmp J n)(h1:1<=m)(h:Dn lt p m)(hm:lt (g p m) (g p<|m - 1)=true):Dn lt p (m+1):=λi j hi hj=>by
 by_cases c:j < m
 ·exact h i j hi c
 ·have:j=m:=⋯
  subst this
  by_cases d:i=j - 1
  ·rwa[d]
  ·exact A.B7 _ _ _ hm<|h i (j - 1) ⋯<|⋯
def K'(A:eR lt cmp J n){j:Nat}(hi:i < n)(hj:j < n)(bD:i≠j)(h:lt i j=false):lt j i=true:=by
 rcases A.tot i j hi hj bD with q | q
 ·rw[h]at q;cases q
 ·exact q
theorem La(A:eR lt cmp J n){p:Array Nat}(P:Pm p n):∀f m Q s,1<=m->m+f<=n->Up lt p m->J s ->
  (∀ k s',J s'->m<=k->k<=m+f->Up lt p k->(k < m+f->lt (g p k) (g p<|k - 1)=true)->Q k s')->(kas_asc p f m).kasWp cmp Q s
 | 0,m,Q,s,h1,h2,hu,hJ,k=>k m s hJ (An _) (An _) hu λh=>⋯
 | f+1,m,Q,s,h1,h2,hu,hJ,k=>by
  have bD:g p m≠g p (m - 1):=λh=>by have:=P.inj m (m - 1) ⋯ ⋯ h;omega
  refine A.ask _ _ _ _ (P.lt m<|⋯) (P.lt (m - 1)<|⋯) bD hJ λs' ig=>?_;cases e:lt (p.getD m 0) (p.getD (m - 1) 0) with
  | true=>exact k m s' ig (An _) ⋯ hu λ_=>e
  | false=>
   have B8:=q7o A h1 hu (K' A (P.lt m<|⋯) (P.lt (m - 1)<|⋯) bD e);exact La A P f (m+1) Q s' ⋯ ⋯ B8 ig λk' s2 j2 a b c d=>k k' s2 j2 ⋯ ⋯ c λh=>d<|⋯
theorem UZ(A:eR lt cmp J n){p:Array Nat}(P:Pm p n):∀f m Q s,1<=m->m+f<=n->Dn lt p m->J s ->
  (∀ k s',J s'->m<=k->k<=m+f->Dn lt p k->Q (p,k,0) s')->(kas_desc f p m 0).kasWp cmp Q s
 | 0,m,Q,s,h1,h2,hd,hJ,k=>k m s hJ (An _) (An _) hd
 | f+1,m,Q,s,h1,h2,hd,hJ,k=>by
  have bD:g p m≠g p (m - 1):=λh=>by have:=P.inj m (m - 1) ⋯ ⋯ h;omega
  refine A.ask _ _ _ _ (P.lt m<|⋯) (P.lt (m - 1)<|⋯) bD hJ λs' ig=>?_;cases e:lt (p.getD m 0) (p.getD (m - 1) 0) with
  | true=>
   show(if true=true then(if 0 > 0 then _ else kas_desc f p (m+1) 0)else _:KasT _).kasWp cmp Q s';rw[BP rfl,BL<|⋯];exact UZ A P f (m+1) Q s' ⋯ ⋯ (q9r A h1 hd e) ig λk' s2 j2 a b c=>k k' s2 j2 ⋯ ⋯ c
  | false=>
   refine A.ask _ _ _ _ (P.lt (m - 1)<|⋯) (P.lt m<|⋯) (CK bD) ig λs2 xE=>?_;have e2:lt (p.getD (m - 1) 0) (p.getD m 0)=true:=K' A (P.lt m<|⋯) (P.lt (m - 1)<|⋯) bD e;rw[e2];exact k m s2 xE (An _) ⋯ hd
theorem xF{k:Nat}(h:m<=p.size):g (kas_rev p 0 m) k=if k < m then g p (m - 1 - k)else g p k:=by
 have e:=getElem?_mirror_all (i:=0) h k
 by_cases c:k < m
 ·rw[BP c];rw[BP ⟨Bx _,c⟩]at e;refine lG<|e.trans ?_
  congr 1
  omega
 ·rw[BL c];rw[BL λq=>c q.2]at e;exact lG e
theorem U0(P:Pm p n)(h:m<=n):Pm (kas_rev p 0 m) n:=by
 have hs:m<=p.size:=by rwa[P.size]
 refine⟨by rw[kas_rev_size];exact P.size,λi hi=>?_,λi j hi hj q=>?_⟩
 ·rw[xF hs]
  split
  ·exact P.lt _<|⋯
  ·exact P.lt _ hi
 ·rw[xF hs,xF hs]at q
  by_cases c:i < m <;> by_cases d:j < m
  ·rw[BP c,BP d]at q;have:=P.inj _ _ ⋯ ⋯ q;omega
  ·rw[BP c,BL d]at q;have:=P.inj _ _ ⋯ hj q;omega
  ·rw[BL c,BP d]at q;have:=P.inj _ _ hi ⋯ q;omega
  ·rw[BL c,BL d]at q;exact P.inj _ _ hi hj q
theorem x0e(P:Pm p n)(h:m<=n)(hd:Dn lt p m):Up lt (kas_rev p 0 m) m:=λi j hi hj=>by
 have hs:m<=p.size:=by rwa[P.size]
 rw[xF hs,xF hs,BP ⋯,BP hj];exact hd (m - 1 - j) (m - 1 - i) ⋯<|⋯
theorem q3r(A:eR lt cmp J n)(P:Pm p n)(h1:1<=m)(h2:m<=n)(hd:Dn lt p m)(hJ:J s)
  (k:∀ r q s',J s'->1<=r->r<=n->Pm q n->Up lt q r->Q (r,q) s'):(kas_tail3 m n p).kasWp cmp Q s:=by
 unfold kas_tail3;rw[KN];exact La A (U0 P h2) (n - m) m _ s h1 ⋯ (x0e P h2 hd) hJ λr s' j a b c _=>k r _ s' j ⋯ ⋯ (U0 P h2) c
theorem q2t(A:eR lt cmp J n)(P:Pm p n)(h2:2<=n)(hJ:J s)
  (k:∀ r q s',J s'->1<=r->r<=n->Pm q n->Up lt q r->Q (r,q) s'):(kas_count n p).kasWp cmp Q s:=by
 unfold kas_count;rw[KN];refine La A P (n - 1) 1 _ s (An _) ⋯ (x1f p) hJ λm s' ig m1 m2 hu xG=>?_
 by_cases c:m=n
 ·subst c;rw[BP<|by simp];exact k m p s' ig m1 (An _) P hu
 ·rw[BL<|c⁻¹]
  by_cases d:m > 1
  ·rw[BP d];have bD:g p 0≠g p (m - 1):=λh=>by have:=P.inj 0 (m - 1) ⋯ ⋯ h;omega
   refine A.ask _ _ _ _ (P.lt 0<|⋯) (P.lt (m - 1)<|⋯) bD ig λs2 xE=>?_;have e:lt (p.getD 0 0) (p.getD (m - 1) 0)=true:=hu 0 (m - 1) ⋯ ⋯;rw[e];exact k m p s2 xE m1 ⋯ P hu
  ·rw[BL d];have em:m=1:=⋯
   subst em;unfold kas_descPart;rw[KN];have hl:=xG ⋯;have hd2:Dn lt p 2:=λi j hi hj=>by
    have:i=0/\j=1:=⋯
    rwa[this.1,this.2]
   refine UZ A P (n - (1+1)) (1+1) _ s' ⋯ ⋯ hd2 ig λr s2 xE r1 r2 hd=>?_;show(if(0:Nat) > 0 then _ else kas_tail3 r n p:KasT _).kasWp cmp Q s2;rw[BL<|⋯];exact q3r A P ⋯ ⋯ hd xE k
theorem Lb(A:eR lt cmp J n){p:Array Nat}(P:Pm p n){k:Nat}(hk:k < n)(hu:Up lt p k):∀f l r Q s,r<=k->l<=r->r - l<=f->J s->(∀ i,i < l->lt (g p i) (g p k)=true)->(∀ i,r<=i->i < k->lt (g p k) (g p i)=true) ->
  (∀ m s',J s'->m<=k->(∀ i,i < m->lt (g p i) (g p k)=true)->(∀ i,m<=i->i < k->lt (g p k) (g p i)=true)->Q m s')->(kas_place p k f l r).kasWp cmp Q s
 | 0,l,r,Q,s,h1,h2,h3,hJ,ha,hb,q=>q l s hJ ⋯ ha λi hi=>hb i<|⋯
 | f+1,l,r,Q,s,h1,h2,h3,hJ,ha,hb,q=>by
  unfold kas_place
  by_cases c:l>=r
  ·rw[BP c];exact q l s hJ ⋯ ha λi hi=>hb i<|⋯
  ·rw[BL c];have hmk:(l+r) / 2 < k:=⋯
   have bD:g p k≠g p ((l+r) / 2):=λh=>by have:=P.inj k _ hk ⋯ h;omega
   refine A.ask _ _ _ _ (P.lt k hk) (P.lt _<|⋯) bD hJ λs' ig=>?_;cases e:lt (p.getD k 0) (p.getD ((l+r) / 2) 0) with
   | true=>
    show(kas_place p k f l<|(l+r) / 2).kasWp cmp Q s';refine Lb A P hk hu f l ((l+r) / 2) Q s' ⋯ ⋯ ⋯ ig ha (λi hi B9=>?_) q
    by_cases d:i=(l+r) / 2
    ·rwa[d]
    ·exact A.B7 _ _ _ e<|hu _ _ ⋯ B9
   | false=>
    show(kas_place p k f ((l+r) / 2+1) r).kasWp cmp Q s';have e2:=K' A (P.lt k hk) (P.lt _<|⋯) bD e;refine Lb A P hk hu f ((l+r) / 2+1) r Q s' h1 ⋯ ⋯ ig (λi hi=>?_) hb q
    by_cases d:i=(l+r) / 2
    ·rwa[d]
    ·exact A.B7 _ _ _ (hu _ _ ⋯ hmk) e2
theorem xH{k:Nat}(hk:k < p.size)(hm:m<=k):g (bubble p k<|k - m) i=if i=m then g p k else if m < i/\i<=k then g p (i - 1)else g p i:=by
 have e:=getElem?_bubble hk (k - m) ⋯ i;rw[show k - (k - m)=m by omega]at e
 by_cases c:i=m
 ·rw[BP c];rw[BP c]at e;exact lG e
 ·rw[BL c];rw[BL c]at e
  by_cases d:m < i/\i<=k
  ·rw[BP d];rw[BP d]at e;exact lG e
  ·rw[BL d];rw[BL d]at e;exact lG e
theorem x2h{k:Nat}(P:Pm p n)(hk:k < n)(hm:m<=k):Pm (bubble p k<|k - m) n:=by
 have hs:k < p.size:=by rwa[P.size]
 refine⟨by rw[bubble_size];exact P.size,λi hi=>?_,λi j hi hj q=>?_⟩
 ·rw[xH hs hm]
  split
  ·exact P.lt k hk
  ·split
   ·exact P.lt _<|⋯
   ·exact P.lt _ hi
 ·rw[xH hs hm,xH hs hm]at q;have src:∀ a,a < n->∃ b,b < n/\(if a=m then g p k else if m < a/\a<=k then g p (a - 1)else g p a)=g p b/\((a=m/\b=k)\/(a≠m/\(m < a/\a<=k)/\b=a - 1)\/(a≠m/\¬(m < a/\a<=k)/\b=a)):=λa ha=>by
   by_cases c:a=m
   ·exact⟨k,hk,by rw[BP c],.inl ⟨c,rfl⟩⟩
   ·by_cases d:m < a/\a<=k
    ·exact⟨a - 1,⋯,by rw[BL c,BP d],.inr<|.inl ⟨c,d,rfl⟩⟩
    ·exact⟨a,ha,by rw[BL c,BL d],.inr<|.inr ⟨c,d,rfl⟩⟩
  obtain⟨x,x1,x2,x3⟩:=src i hi;obtain⟨y,y1,y2,y3⟩:=src j hj;rw[x2,y2]at q;have e:=P.inj x y x1 y1 q;subst e
  rcases x3 with ⟨a1,a2⟩ | ⟨a1,a2,a3⟩ | ⟨a1,a2,a3⟩
  ·rcases y3 with ⟨b1,b2⟩ | ⟨b1,b2,b3⟩ | ⟨b1,b2,b3⟩
   ·exact a1.trans b1.symm
   ·exact absurd (a2.symm.trans b3)<|Cz<|Bq (Nat.sub_lt (Gx b2.1) Ff) b2.2
   ·exact absurd ⟨Go (by rwa[<- b3,a2])<|CK b1,by rw[<- b3,a2];exact An _⟩ b2
  ·rcases y3 with ⟨b1,b2⟩ | ⟨b1,b2,b3⟩ | ⟨b1,b2,b3⟩
   ·exact absurd (b2.symm.trans a3)<|Cz<|Bq (Nat.sub_lt (Gx a2.1) Ff) a2.2
   ·exact Nat.sub_one_cancel (Gx a2.1) (Gx b2.1)<|a3.symm.trans b3
   ·exact absurd ⟨Go (by rw[<- b3,a3];exact Nat.le_sub_one_of_lt a2.1)<|CK b1,by rw[<- b3,a3];exact Ch (Nat.sub_le _ _) a2.2⟩ b2
  ·rcases y3 with ⟨b1,b2⟩ | ⟨b1,b2,b3⟩ | ⟨b1,b2,b3⟩
   ·exact absurd ⟨Go (by rwa[<- a3,b2])<|CK a1,by rw[<- a3,b2];exact An _⟩ a2
   ·exact absurd ⟨Go (by rw[<- a3,b3];exact Nat.le_sub_one_of_lt b2.1)<|CK a1,by rw[<- a3,b3];exact Ch (Nat.sub_le _ _) b2.2⟩ a2
   ·exact a3.symm.trans b3
theorem x0b{k:Nat}(P:Pm p n)(hk:k < n)(hm:m<=k)(hu:Up lt p k)(ha:∀ i,i < m->lt (g p i) (g p k)=true)(hb:∀ i,m<=i->i < k->lt (g p k) (g p i)=true):Up lt (bubble p k<|k - m) (k+1):=λi j hi hj=>by
 have hs:k < p.size:=by rwa[P.size]
 rw[xH hs hm,xH hs hm]
 by_cases c:i=m
 ·rw[BP c,BL ⋯,BP<|⋯];exact hb _ ⋯<|⋯
 ·rw[BL c]
  by_cases d:j=m
  ·rw[BP d,BL<|⋯];exact ha i<|⋯
  ·rw[BL d]
   by_cases e:m < i/\i<=k
   ·rw[BP e,BP<|⋯];exact hu _ _ ⋯<|⋯
   ·rw[BL e]
    by_cases f:m < j/\j<=k
    ·rw[BP f];exact hu _ _ ⋯<|⋯
    ·rw[BL f];exact hu _ _ hi<|⋯
theorem U1(A:eR lt cmp J n):∀f p k Q s,Pm p n->1<=k->k+f=n->Up lt p k->J s->(∀ q s',J s'->Pm q n->Up lt q n->Q q s')->(kas_bin f p k).kasWp cmp Q s
 | 0,p,k,Q,s,P,h1,h2,hu,hJ,q=>by
  have:k=n:=⋯
  subst this;exact q p s hJ P hu
 | f+1,p,k,Q,s,P,h1,h2,hu,hJ,q=>by
  unfold kas_bin;rw[KN];refine Lb A P ⋯ hu k 0 k _ s (An _) (Bx _) ⋯ hJ (λi hi=>⋯) (λi hi B9=>⋯) λm s' ig hm ha hb=>?_;exact U1 A f _ (k+1) Q s' (x2h P ⋯ hm) ⋯ ⋯ (x0b P ⋯ hm hu ha hb) ig q
theorem q6q(A:eR lt cmp J n){Q:Array Nat->Shared->Prop}(h2:2<=n)(hJ:J s)(q:∀ p s',J s'->Pm p n->Up lt p n->Q p s'):(kas_sort n).kasWp cmp Q s:=by
 unfold kas_sort;rw[KN];refine q2t A (UY n) h2 hJ λr p s' ig r1 r2 P hu=>?_;show(if r < n then kas_bin (n - max r 1) p (max r 1)else .ret p:KasT _).kasWp cmp Q s';have em:max r 1=r:=⋯
 rw[em]
 by_cases c:r < n
 ·rw[BP c];exact U1 A (n - r) p r Q s' P r1 ⋯ hu ig q
 ·rw[BL c];have:r=n:=⋯
  subst this;exact q p s' ig P hu
end
theorem U2(P:Pm p n):p.toList.Nodup:=by
 rw[By,Bc];intro i j hi hj eW e;have jK:i < n:=by rwa[Bu,P.size]at hi
 have qz:j < n:=by rwa[Bu,P.size]at hj
 have e1:=jV (by rw[<- Bj];exact Ab hi);have e2:=jV (by rw[<- Bj];exact Ab hj);have:=P.inj i j jK qz (by rw[e1,e2,e]);omega
def Lc{v:Nat}(P:Pm p n)(h:v∈p.toList):v < n:=by
 obtain⟨i,hi⟩:=Be h;have hl:i < n:=by have:=(Ac.mp hi).1;rwa[Bu,P.size]at this
 have e1:=jV (by rwa[<- Bj]);rw[<- e1];exact P.lt i hl
theorem q9q(P:Pm p n):p.toList.Perm (List.range n):=by
 rw[Fr (U2 P) Ga];intro v;rw[Bo];refine⟨λh=>Lc P h,λh=>CQ λhn=>?_⟩;have l1:=Nt.aU (U2 P) λz hz=>by
  have bD:z≠v:=λe=>hn<|e ▸ hz;exact(Ft bD).mpr<|Bo.mpr<|Lc P hz
 rw[Gi<|Bo.mpr h,Bu,P.size,Dq]at l1;omega
def Hd(h:Heap)(v:Value)(z:Str):Prop:=∃ a o xs n t,v = .ref a/\h.get? a≈o/\o.cls = .type "tuple"/\o.data = .seq xs n/\xs[0]?≈.str z t
def Hd.keep{h h':Heap}{v:Value}{z:Str}(x:Hd h v z)(k:∀ a o,v = .ref a->h.get? a≈o->h'.get? a≈o):Hd h' v z:=by
 obtain⟨a,o,xs,n,t,e,h1,h2⟩:=x;exact⟨a,o,xs,n,t,e,k a o e h1,h2⟩
def rY(h:Heap)(vs:Ò)(zs:Ð):Prop:=vs.length=zs.length/\∀(i:Nat) v z,vs[i]?≈v->zs[i]?≈z->Hd h v z
def ltZ(zs:Ð)(i j:Nat):Bool:=decide ((zs.getD i ⟨#[]⟩).cps.toList < (zs.getD j ⟨#[]⟩).cps.toList)
variable{E:Í}{U:Program}{zs:Ð}{vs:Ò}{P:Fin->Shared->Prop}
section
variable{w:World}{A:Around}
theorem U3:∀{h}{vs}{zs},rY h vs zs->∃ fs,KatTups h vs fs/\fs.length=vs.length/\∀ f∈fs,∃ z t,f=Value.str z t
 | h,[],_,_=>⟨[],KatTups.nil,rfl,λf hf=>by cases hf⟩
 | h,v :: vs,[],hh=>by have:=hh.1;simp at this
 | h,v :: vs,z :: zs,hh=>by
  obtain⟨fs,k1,k2,k3⟩:=U3 ⟨by have:=hh.1;simpa using this,λi a b h1 h2=>hh.2 (i+1) a b h1⁻¹<|h2⁻¹⟩;obtain⟨a,o,xs,n,t,rfl,h1,h2,h3,h4⟩:=hh.2 0 v z rfl rfl;refine⟨.str z t :: fs,KatTups.cons h1 h2 h3 h4 k1,by rw[As,As,k2],λf hf=>?_⟩
  rcases Ai.mp hf with rfl | hf
  ·exact⟨z,t,rfl⟩
  ·exact k3 f hf
def x2b{x y:Value}{z u:Str}{Q:Bool->Shared->Prop}(hx:Hd s.heap x z)(hy:Hd s.heap y u)(bD:z≠u)(h:Q (decide (z.cps.toList < u.cps.toList)) s):↥1 (keyLt' (tuples' true) x y) Q E s:=by
 obtain⟨a,o,xs,n,t,rfl,h1,h2,h3,h4⟩:=hx;obtain⟨b,o',ys,n',t',rfl,g1,g2,g3,g4⟩:=hy;refine kat_lt h1 h3 g1 g3 ?_;have ex:∃ r,xs.toList = .str z t :: r:=by
  have:xs.toList[0]?≈.str z t:=by rwa[Bj]
  cases e:xs.toList with
  | nil=>rw[e]at this;cases this
  | cons c r=>rw[e]at this;cases this;exact⟨r,rfl⟩
 have ey:∃ r,ys.toList = .str u t' :: r:=by
  have:ys.toList[0]?≈.str u t':=by rwa[Bj]
  cases e:ys.toList with
  | nil=>rw[e]at this;cases this
  | cons c r=>rw[e]at this;cases this;exact⟨r,rfl⟩
 obtain⟨rx,ex⟩:=ex;obtain⟨ry,ey⟩:=ey;rw[ex,ey];show KatLex U w A true _ Q ((.str z t,.str u t') :: rx.zip ry) 0 s;refine kat_cons<|eqBool_str ?_;have:(z == u)=false:=beq_eq_false_iff_ne.mpr bD;rw[this];exact kat_no<|oneLt_str h
def q9d{a b:Str}(h:a.cps.toList=b.cps.toList):a=b:=by
 apply Str.ext';exact Array.toList_inj.mp h
theorem q16(hh:rY s.heap vs zs)(hn:zs.Nodup):eR (ltZ zs) (kas_ask U w A (tuples' true) vs) (λs'=>s'=s) vs.length:=by
 have hl:=hh.1;have gz:∀ i,(hi:i < zs.length)->zs.getD i ⟨#[]⟩=zs[i]:=λi hi=>by simp[hi]
 have gv:∀ i,(hi:i < vs.length)->vs.getD i Value.none=vs[i]:=λi hi=>by simp[hi]
 have ne:∀ i j,(hi:i < zs.length)->(hj:j < zs.length)->i≠j->zs[i]≠zs[j]:=λi j hi hj eW e=>by
  rcases Nat.lt_or_gt_of_ne eW with c | c
  ·exact Bc.mp (By.mp hn) i j hi hj c e
  ·exact Bc.mp (By.mp hn) j i hj hi c e.symm
 refine⟨λi j C s' hi hj eW hs hC=>?_,λi j hi hj eW=>?_,λi j h=>?_,λi j k h1 h2=>?_⟩
 ·subst hs;unfold kas_ask;rw[gv i hi,gv j hj];have e:ltZ zs i j=decide (zs[i].cps.toList < zs[j].cps.toList):=by unfold ltZ;rw[gz i ⋯,gz j<|⋯]
  refine x2b (hh.2 i _ zs[i] (Ab hi)<|Ab<|⋯) (hh.2 j _ zs[j] (Ab hj)<|Ab<|⋯) (ne i j ⋯ ⋯ eW) ?_;rw[<- e];exact hC s' rfl
 ·unfold ltZ;rw[gz i ⋯,gz j ⋯,CN,CN]
  by_cases c:zs[i].cps.toList < zs[j].cps.toList
  ·exact .inl c
  ·by_cases d:zs[j].cps.toList < zs[i].cps.toList
   ·exact .inr d
   ·have:zs[i].cps.toList=zs[j].cps.toList:=List.le_antisymm (List.not_lt.mp d)<|List.not_lt.mp c;exact absurd (q9d this)<|ne i j ⋯ ⋯ eW
 ·unfold ltZ at h ⊢;have:=BX h;exact BR λq=>Gv _<|Hc this q
 ·unfold ltZ at h1 h2 ⊢;exact BW<|Hc (BX h1)<|BX h2
def map_range(vs:Ò):(List.range vs.length).map (λi=>vs.getD i Value.none)=vs:=by
 apply RP
 ·simp
 ·intro i h1 h2;simp[h2]
theorem q45{a:Addr}(ho:s.heap.get? a=some (seqObj "list" vs.toArray n))(cq:∀ v∈vs,v ≠ .ref a)(hh:rY s.heap vs zs)(hn:zs.Nodup)(vR:vs.length < 64)
  (h:∀ p:Array Nat,Pm p vs.length->Up (ltZ zs) p vs.length->P (.done<|.ret .none) {s with heap:=sortedHeap s.heap a vs (List.toArray<|p.toList.map λi=>vs.getD i Value.none)}) :
  ↥1 (Builtin.«list.sort» ⟨[.ref a],[]⟩) P E s:=by
 rw[list_sort_plain];have CA:vs.length<=sizeLine:=by rw[DX];omega
 refine BJ<|QB ho rfl<|BJ<|NQ ho rfl ?_;obtain⟨e1,nq⟩:∃ e1,(s.heap.update a<|Obj.mapSeq λ_=>#[]).get? a=some (seqObj "list" #[] e1):=⟨_,get?_update_seq ho λ_=>#[]⟩;refine BJ<|QM nq rfl ?_;refine BJ<|QK ?_;refine BJ<|KC ?_;refine CJ ?_;have qH:(((s.heap.update a<|Obj.mapSeq λ_=>#[]).push<|seqObj "tuple" vs.toArray 0).push<|seqObj "list" #[] 0).get? a=some (seqObj "list" #[] e1):=Aj _<|Aj _ nq;show ↥1 _ P E {s with heap:=((s.heap.update a<|Obj.mapSeq λ_=>#[]).push<|seqObj "tuple" vs.toArray 0).push (seqObj "list" #[] 0)};have U4:rY (((s.heap.update a<|Obj.mapSeq λ_=>#[]).push<|seqObj "tuple" vs.toArray 0).push<|seqObj "list" #[] 0) vs zs:=⟨hh.1,λi v z h1 h2=>(hh.2 i v z h1 h2).keep λb o e q=>by
  have hb:a≠b:=λe2=>cq v (Ao h1) (by rw[e,e2]);exact Aj _<|Aj _<|(Cm _ _ hb).trans q⟩
 dsimp only
 have hsz:vs.toArray.size=vs.length:=by simp
 by_cases h2:vs.toArray.size < 2
 ·rw[BP h2,BP h2];refine BJ<|BK ?_;rw[StateT.run_pure];refine BJ<|BK ?_
  dsimp only
  have e5:(arrOf<|SortSt.mk' general' (vs.toArray.zip vs.toArray) #[] 7 none).map (·.2)=vs.toArray:=by
   show(vs.toArray.zip vs.toArray).map (·.2)=_;apply Array.toList_inj.mp;simp[List.map_snd_zip]
  refine BJ<|QM qH rfl ?_;refine BJ (NQ qH rfl ?_ (hsz2:=by rw[e5,hsz];omega));simp only[HD,Aq,CP];refine BK ?_;rw[e5];have fin:=h (List.toArray<|List.range vs.length) (UY _) λi j hi hj=>by rw[hsz]at h2;omega
  have e6:(List.toArray<|List.range vs.length).toList.map (λi=>vs.getD i Value.none)=vs:=map_range vs;rwa[e6]at fin
 ·rw[BL h2,BL h2];obtain⟨fs,k1,k2,k3⟩:=U3 U4;rw[hsz]at h2;refine BJ<|kat_kind (T:= .type "str") k1 ⋯ (λf hf=>?_) ∅ ?_
  ·obtain⟨z,t,rfl⟩:=k3 f hf;exact Looks.of_pure rfl
  refine BJ<|CW (kat_run (prog:=U) (w:=w) (A:=A) (E:=E) (κ:=tuples' true) (ks:=vs) (vs:=vs) (Q:=λdX s'=>s'={s with heap:=((s.heap.update a<|Obj.mapSeq λ_=>#[]).push<|seqObj "tuple" vs.toArray 0).push (seqObj "list" #[] 0)}/\∃ p:Array Nat,Pm p vs.length/\Up (ltZ zs) p vs.length/\arrOf dX=p.map (kas_item<|vs.toArray.zip vs.toArray)/\failedOf dX=none)
   (G:=λp s'=>s'={s with heap:=((s.heap.update a<|Obj.mapSeq λ_=>#[]).push<|seqObj "tuple" vs.toArray 0).push (seqObj "list" #[] 0)}/\Pm p vs.length/\Up (ltZ zs) p vs.length) rfl ⋯ vR (λp dX s' _ a2 a3 a4=>⟨a4.1,p,a4.2.1,a4.2.2,a2,a3⟩)
   (q6q (q16 (s:={s with heap:=((s.heap.update a<|Obj.mapSeq λ_=>#[]).push<|seqObj "tuple" vs.toArray 0).push (seqObj "list" #[] 0)}) U4 hn) ⋯ rfl λp s' e P ú=>⟨e,P,ú⟩)) ?_ λ_ _ e=>e
  rintro ⟨⟨⟩,dX⟩ s' ⟨rfl,p,P,ú,zC,hf⟩
  dsimp only
  have e3:=kat_snds (ks:=vs) (vs:=vs) rfl zC;refine BJ<|QM qH rfl ?_;refine BJ (NQ qH rfl ?_ (hsz2:=by rw[e3,Ay,Aa,Bu,P.size];omega));rw[hf];simp only[HD,Aq,CP];refine BK ?_;rw[e3];exact h p P ú
theorem q6d{l:Addr}{Q:Í}(hl:s.heap.IsList l vs.toArray)(hh:rY s.heap vs zs)(hn:zs.Nodup)(vR:vs.length < 64)
  (h:∀h' e p,Pm p vs.length->Up (ltZ zs) p vs.length->(∀ b u,s.heap.get? b≈u->h'.get? b≈u)->h'.get? (↑s+1)=some (seqObj "list" (List.toArray<|p.toList.map λi=>vs.getD i Value.none) e)->Q (.ref<|↑s+1) {s with heap:=h'}) :
  ↥1 (call (.builtin "sorted") [.ref l]) Q E s:=by
 have CA:vs.length<=sizeLine:=by rw[DX];omega
 refine Calls.call_function_entry kind_sorted plain_sorted entry_sorted (args_sorted1 _) ?_;unfold Builtin.«sorted»;refine BJ<|BK ?_;refine BJ<|collect_list (vs:=vs) hl ?_;refine BJ<|KC ?_;have hsz:((s.heap.push<|seqObj "list" #[] 0).update ↑s (Obj.mapSeq (·++vs.toArray))).objs.size=↑s+1:=by
  rw[Heap.size_update,size_push']
 have kC:(((s.heap.push<|seqObj "list" #[] 0).update ↑s (Obj.mapSeq (·++vs.toArray))).push<|seqObj "list" vs.toArray 0).get? (↑s+1)=some (seqObj "list" vs.toArray 0):=by
  rw[<- hsz];exact At _ rfl
 have hhL:rY (((s.heap.push<|seqObj "list" #[] 0).update ↑s (Obj.mapSeq (·++vs.toArray))).push<|seqObj "list" vs.toArray 0) vs zs:=⟨hh.1,λi v z h1 h2=>(hh.2 i v z h1 h2).keep λb o e q=>
  Aj _ ((Cm _ _<|Cz<|Av q).trans<|Aj _ q)⟩
 have bD:∀ v∈vs,v ≠ .ref (↑s+1):=λv hv e=>by
  obtain⟨i,hi⟩:=Be hv;have hl:=hh.1;have hiz:i < zs.length:=by have:=(Ac.mp hi).1;omega
  obtain⟨b,o,xs,n,t,e2,h1,_⟩:=hh.2 i v zs[i] hi<|Ab hiz;rw[e2]at e;cases e;exact absurd (Nat.lt_of_succ_lt<|Av h1)<|De _
 show wpAny _ _ _ _ _ {s with heap:=((s.heap.push<|seqObj "list" #[] 0).update ↑s (Obj.mapSeq (·++vs.toArray))).push (seqObj "list" vs.toArray 0)};rw[hsz];refine BJ<|CJ<|DG slot_list_sort ⟨_,kC,rfl⟩ entry_list_sort (q45 kC bD hhL hn vR λp P ú=>⟨_,rfl,?_⟩)<|args_list_sort _;obtain⟨e,he⟩:=sortedAll_at s.heap vs<|List.toArray<|p.toList.map λi=>vs.getD i Value.none;exact BK ⟨_,rfl,h _ e p P ú (λb u hb=>sortedAll_old hb) he⟩
end
end pK
namespace L2
open PySem PySem.Spec PyProof.Rows pK
theorem U5:∀{ts:↥9} {è:Ò},ay (↥8) è->è=ts.map Value.ref
 | [],è,r=>r.zero
 | t :: ts,è,r=>by
  cases r with
  | cons h1 h2=>
   rw[U5 h2];have:_=Value.ref t:=h1;rw[this];rfl
theorem U6:∀(ts:↥9),ay (↥8)<|ts.map Value.ref
 | []=> .nil
 | t :: ts=> .cons rfl (U6 ts)
theorem k7i{α β:Type}(xs:List α)(ys:List β)(h:xs.length=ys.length)(a:α)(b:β):(List.range xs.length).map (λi=>(xs.getD i a,ys.getD i b))=xs.zip ys:=by
 apply RP
 ·simp[h]
 ·intro i h1 h2;have hx:i < xs.length:=by simp at h1;exact h1
  have hy:i < ys.length:=⋯
  simp[hx,hy]
variable{R:St->Hp->Prop}
section
variable{X:Cx}{σ:St}{H:Hp}
theorem k1d:gR X (.builtin "sorted") (λxs H Q=>∃(l:Addr) (ts:↥9) (zs:Ð),xs=[.ref l]/\au X.K H l (↥8)/\ts.length=zs.length/\zs.Nodup/\ts.length < 64/\(∀(i:Nat) t z,ts[i]?≈t->zs[i]?≈z->∃ r,H t=some (.tup<|.str z :: r)) /\
  ∀(r:Addr) (ps:List<|Addr×Str),H r=none->ps.Perm (ts.zip zs)->ps.Pairwise (λa b=>a.2.cps.toList < b.2.cps.toList)->Q (.ref r) (upd H r<|.lst<|ps.map λp=> .ref p.1)):=by
 intro O s σ H xs us Q I r h;obtain⟨l,ts,zs,rfl,hl,hlen,hn,vR,hd,q⟩:=h;obtain⟨u,rfl,ru⟩:=vals1 r;cases (show u=Value.ref l from ru);obtain⟨è,rv,pl,_⟩:=I.list hl;have ei:=U5 rv;subst ei;have hh:rY s.heap (ts.map Value.ref) zs:=by
  refine⟨by rwa[Aa],λi v z h1 h2=>?_⟩;rw[Ah,Az]at h1;obtain⟨t,ht,rfl⟩:=h1;obtain⟨rr,hr⟩:=hd i t z ht h2;obtain⟨è,r3,tp,_⟩:=I.tuple<|aQ.of hr;cases r3 with
  | cons a1 a2=>
   obtain⟨tk,rfl⟩:=a1;obtain⟨o,ho,hc,n,hd2⟩:=tp;exact⟨t,o,_,n,tk,rfl,ho,hc,hd2,rfl⟩
 refine q6d pl.isList hh hn (by rwa[Aa]) λh' e p P ú kp he=>?_;rw[Aa]at P ú;have gp:∀ i,i < ts.length->g p i < ts.length:=P.lt;have pl2:p.toList.length=ts.length:=by rw[Bu];exact P.size
 have e1:(p.toList.map λi=>(ts.map Value.ref).getD i Value.none)=((p.toList.map λi=>(ts.getD i 0,zs.getD i ⟨#[]⟩)).map λx=>x.1).map Value.ref:=by
  rw[Bs,Bs];refine Ap λi hi=>?_;have aX:=Lc P hi;show(ts.map Value.ref).getD i Value.none=Value.ref (ts.getD i 0);simp[aX]
 refine⟨.ref _,_,I.fH (s':={s with heap:=h'}) kp rfl rfl (Es _) (show aB X.U X.w _ h' _ (.lst<|(p.toList.map λi=>(ts.getD i 0,zs.getD i ⟨#[]⟩)).map λx=>V.ref x.1)from ?_),rfl,q _ (p.toList.map λi=>(ts.getD i 0,zs.getD i ⟨#[]⟩)) (I.aH.fresh<|Es _) ?_ ?_⟩
 ·refine⟨by rw[Aa,Aa,pl2,DX];omega,_,e,?_,he⟩;rw[e1];have:=U6<|(p.toList.map λi=>(ts.getD i 0,zs.getD i (⟨#[]⟩:Str))).map λx=>x.1;rwa[Bs]at this
 ·rw[<- k7i ts zs hlen 0 ⟨#[]⟩];exact(q9q P).map _
 ·rw[Bc];intro i j hi hj eW;rw[Aa]at hi hj;have:=ú i j eW ⋯;have q1:g p i=p.toList[i]:=jV (by rw[<- Bj];exact Ab hi);have q2:g p j=p.toList[j]:=jV (by rw[<- Bj];exact Ab hj);rw[q1,q2]at this;rw[Ed,Ed];exact BX this
def k8y{e1 e2 e3:Expr}{k:Nat}{pos:Pos}{t:Addr}{x y z:V}(hc:X.calm=true)(ht:aQ X.K H t [x,y,z])(h:Eg X e1 x σ H λσ1 H1=>Eg X e2 y σ1 H1 λσ2 H2=>Eg X e3 z σ2 H2 R)
  (hn:(assignEach [e1,e2,e3] X.env).length=3:=by rfl) (cW:(assignEach [e1,e2,e3] X.env).findIdx? (·.1)=none:=by rfl)
  (j9:(assignEach [e1,e2,e3] X.env).map (·.2)=assign e1 X.env :: (assignEach [e2,e3] X.env).map (·.2):=by rfl) (tU:(assignEach [e2,e3] X.env).map (·.2)=assign e2 X.env :: (assignEach [e3] X.env).map (·.2):=by rfl) (zv:(assignEach [e3] X.env).map (·.2)=assign e3 X.env :: (assignEach [] X.env).map (·.2):=by rfl) :
  Eg X (.Tuple [e1,e2,e3] k pos) (.ref t) σ H R:=
 F3 (OB hc (uV qi (uV qi (uV qi OA zv) tU) j9) hn cW)
  ⟨t,_,rfl,ht,rfl,_,_,rfl,h.mono λσ1 H1 h1=>⟨_,_,rfl,h1.mono λσ2 H2 h2=>⟨_,_,rfl,h2.mono λσ3 H3 q=>⟨rfl,q⟩⟩⟩⟩
end
end L2
namespace E9
open PySem L2 Nt bE
abbrev T3(x:Lk):HO:= .tup [.str x.1,.str x.2.1,.str x.2.2]
def nZ(H:Hp)(us:↥9)(ls:List Lk):Prop:=us.length=ls.length/\∀(j:Nat) u x,us[j]?≈u->ls[j]?≈x->H u≈T3 x
variable{ls:List Lk}{us:↥9}
def nZ.keep{H H':Hp}(h:nZ H us ls)(k:∀ t xs,H t≈.tup xs->H' t≈.tup xs):nZ H' us ls:=⟨h.1,λj u x h1 h2=>k _ _<|h.2 j u x h1 h2⟩
theorem nZ.snoc{H:Hp}{u:Addr}{x:Lk}(h:nZ H us ls)(hu:H u≈T3 x):nZ H (us++[u]) (ls++[x]):=by
 refine⟨by rw[Ag,Ag,h.1];rfl,λj v y h1 h2=>?_⟩;have hl:=h.1
 by_cases hj:j < us.length
 ·rw[Ax hj]at h1;rw[Ax<|⋯]at h2;exact h.2 j v y h1 h2
 ·rw[Bd<|⋯]at h1 h2;have gN:j - us.length=0:=by
   have:=(Ac.mp h1).1;simp at this;omega
  rw[gN]at h1;rw[<- hl,gN]at h2;cases h1;cases h2;exact hu
def CB(ls:List Lk):Prop:=ls.Pairwise λx y=>x.1.cps.toList < y.1.cps.toList
def Ld:Sp:=λvs H Q _=>∃R as n,vs=[.ref R]/\ai H R as n/\aq n/\n.length<=1000/\(ag n).length<=60 /\
 ∀L us ls H',aj H H'->H L=none->H' L=some (.lst<|us.map V.ref)->nZ H' us ls->CB ls->(∀ x,x∈ls↔pj n x)->ls.length<=60->Q (.ref L) H'
theorem q39{n:Net}(T:aq n){r p:Nat}{z:Str}(hr:r < n.length)(hz:(row n r)[p]?≈z):(bT (bn (n.take r)++bF r ((row n r).take p) 0) z).length<=1:=by
 obtain⟨rest,h⟩:=wV hr hz;have h1:bT (bn n) z=bT (bn (n.take r)++bF r ((row n r).take p) 0) z++(r,p) :: bT rest z:=by
  rw[h];unfold bT;rw[Cv,Al,RZ<|by simp];rfl
 have h2:(bT (bn n) z).length=2:=by
  have:=qI n z;rwa[T z<|eV (e:=(r,p)) hz]at this
 rw[h1,Ag,As]at h2;omega
variable{Z:Heap}{mg:Ñ}{K:PySem.W.Frag}{fd:FuncData}
section
variable{P:Program}{w:World}
abbrev NLk:Ð:=["rows","met","links","point","ties","tie"]
def xI:ak NLk ["rows"] (aW Iw):=cm
theorem q2w{f:Addr}(F:bB K "links_of" "links_of" Iw f fd)(T:Txt mg):↥4 1 f fd ["rows"] Ld:=by
 refine F.gc xI λb0 H vs Q E hr h=>?_;obtain⟨R,as,n,rfl,hR,hT,hn,dZ,q⟩:=h;have nd:=xI.nd;have cq:=hR.len;have hu:=hr.u1;refine aZ 1 nd<|Ih λdm qV=>?_;refine aZ 2 nd<|di<|ax ⟨Z0,λM hM=>?_⟩;have mG:M≠dm:=λe=>by rw[e,az]at hM;cases hM
 have U7:H M=none:=by rwa[aw mG]at hM
 have s0:aj H (upd (upd H dm<|.dK []) M<|.lst []):=(aS qV _).trans<|aS hM _;have xJ:(upd (upd H dm<|.dK []) M<|.lst []) dm≈.dK []:=by rw[aw<|CK mG,az]
 have xK:(upd (upd H dm<|.dK []) M<|.lst []) M≈.lst []:=az;generalize upd (upd H dm<|.dK []) M (.lst [])=H0 at s0 xJ xK;have Le:(bn n).length=(ag n).length:=by rw[<- kJ n 0,Aa];rfl
 refine jF<|ae 0 ⟨R,rfl,⟨_,au.of<|s0 _ _ hR.lst⟩,jG (xs:=as.map λa=>V.ref a.1) (λr σ H'=>∃(kM:List<|Key×V) (us:↥9) (ls:List Lk) (u1 u2 u3:Option V),aj H H'/\H' dm≈.dK kM/\H' M=some (.lst<|us.map V.ref)/\nZ H' us ls/\jq n (bn<|n.take r) kM ls/\σ=[⇑R,⇑dm,⇑M,u1,u2,u3])
  ⟨[],[],[],_,_,_,s0,xJ,xK,⟨rfl,λj u x h=>by simp at h⟩,jq.start n,rfl⟩ ?_ ?_ ?_⟩
 ·rintro r σ H' _ ⟨_,_,_,_,_,_,sm,_⟩;exact au.of<|sm _ _ hR.lst
 ·rintro r x σ H' hx ⟨kM,us,ls,u1,u2,u3,sm,ed,eM,iO,I,rfl⟩;have hi:r < n.length:=by
   have:=(Ac.mp hx).1;rw[Aa]at this;omega
  obtain⟨a,ea,dJ,et,el,er⟩:=(hR.same sm).at hi;rw[Ah,ea]at hx;cases hx;refine jN rfl (aQ.of et) (bw 3 nd<|bw 4 nd ?_);refine jF<|ae 4 ⟨a.2,rfl,⟨_,au.of el⟩,jG (xs:=(row n r).map V.str) (λp σ bZ=>∃(kM:List<|Key×V) (us:↥9) (ls:List Lk) (u3:Option V),aj H bZ/\bZ a.2=some (Ls<|row n r)/\bZ dm≈.dK kM/\bZ M=some (.lst<|us.map V.ref)/\nZ bZ us ls/\jq n (bn (n.take r)++bF r ((row n r).take p) 0) kM ls/\σ=[⇑R,⇑dm,⇑M,some<|.str n[r].1,some<|.ref a.2,u3])
   ⟨kM,us,ls,_,sm,el,ed,eM,iO,by simpa[bF]using I,rfl⟩ ?_ ?_ ?_⟩
  ·rintro p σ bZ _ ⟨_,_,_,_,_,e,_⟩;exact au.of e
  ·rintro p x σ bZ hx ⟨kM,us,ls,u3,sm,el,ed,eM,iO,I,rfl⟩;have hp:p < (row n r).length:=by
    have:=(Ac.mp hx).1;rwa[Aa]at this
   have hz:(row n r)[p]?=some (row n r)[p]:=Ab hp;rw[Ah,hz]at hx;cases hx;have j9:=qK (r:=r) hz;have hle:=q39 hT hi hz;have U8:(bn (n.take r)++bF r ((row n r).take p) 0).length<=60:=by
    obtain⟨rest,jv⟩:=wV hi hz;have h1:=BZ List.length jv;simp only[Ag]at h1 ⊢;omega
   have lM:=I.eQ;have lL:=I.nO;have lA:=iO.1;have U9:aC n r=n[r].1:=gn hi;have naM:a.2≠M:=λe=>by
    have:=(hR.tup r a n[r] ea<|Ab hi).2;rw[e,U7]at this;cases this
   generalize (row n r)[p]=z at hz j9 hle;refine bw 5 nd ?_;refine dP<|Rf hu<|ae 5<|ae 1 ⟨dm,_,rfl,bb.k (k:=Sum.inr z) ed,?_⟩;cases kg:bT (bn (n.take r)++bF r ((row n r).take p) 0) z with
   | nil=>
    rw[I.m0 z kg];show if false=true then _ else _;rw[BL<|∅];refine vU hu<|ae 3<|ae 1<|ae 5 ⟨dm,_,rfl,cw.k (k:=Sum.inr z) ed (cg<|⋯),a9<|a9 ⟨_,us,ls,_,fI sm qV,?_,az,?_,iO.keep λt xs h=>?_,?_,rfl⟩⟩
    ·rwa[aw<|cf el ed λz=>nomatch z]
    ·rwa[aw mG]
    ·rwa[aw<|cf h ed λz=>nomatch z]
    ·rw[j9,<- Ar];have:=I.new (e:=(r,p)) kg;show jq n _ (putK kM (Sum.inr z)<|.str n[r].1) ls;rwa[<- U9]
   | cons b rest=>
    have hr0:rest=[]:=by
     rw[kg]at hle;exact Bv.mp<|by have:rest.length+1<=1:=hle;omega
    subst hr0;have vm:=I.m1 z b [] kg;rw[vm];show if true=true then _ else _;rw[BP rfl];refine gG (ka<|ae 2 ⟨M,rfl,⟨_,eM⟩,d9<|ah<|ae 5<|ah<|gJ hu<|ae 1<|ae 5 ⟨dm,.str<|aC n b.1,rfl,by rw[<- vm];exact bb.k (k:=Sum.inr z) ed,ah<|ae 3<|ax ⟨(by show 3<=sizeLine;decide),λt ht=>?_⟩⟩⟩);have sT:=aS ht<|.tup [.str z,.str<|aC n b.1,.str n[r].1];have ntM:t≠M:=λe=>by rw[e,eM]at ht;cases ht
    have KE:(upd bZ t<|.tup [.str z,.str<|aC n b.1,.str n[r].1]) t≈T3 (z,aC n b.1,aC n (r,p).1):=by
     rw[az];show _≈HO.tup [.str z,.str<|aC n b.1,.str<|aC n r];rw[U9]
    have kT:∀ c xs,(upd bZ t<|.tup [.str z,.str<|aC n b.1,.str n[r].1]) c≈.tup xs->(upd (upd bZ t<|.tup [.str z,.str<|aC n b.1,.str n[r].1]) M<|.lst<|us.map V.ref++[.ref t]) c≈.tup xs:=λc xs h=>by
     rwa[aw<|cf h (sT _ _ eM) λz=>nomatch z]
    refine⟨_,sT _ _ eM,by rw[Aa];exact cg ⋯,a9<|a9 ⟨kM,us++[t],ls++[(z,aC n b.1,aC n (r,p).1)],_,fI (sm.trans sT) U7,?_,?_,?_,?_,?_,rfl⟩⟩
    ·rw[aw naM];exact sT _ _ el
    ·rw[aw<|CK mG];exact sT _ _ ed
    ·rw[az,Al];rfl
    ·exact((iO.keep λc xs h=>sT _ _ h).snoc KE).keep kT
    ·rw[j9,<- Ar];exact I.old (e:=(r,p)) kg
  ·rintro σ bZ ⟨kM,us,ls,u3,sm,_,ed,eM,iO,I,rfl⟩;rw[Aa,Ca]at I;refine a9 ⟨kM,us,ls,_,_,_,sm,ed,eM,iO,?_,rfl⟩;rwa[tQ hi]
 ·rintro σ H' ⟨kM,us,ls,u1,u2,u3,sm,ed,eM,iO,I,rfl⟩;rw[Aa,cq,Ca]at I;have lL:=I.nO;have lA:=iO.1;have aX:us.length < 64:=⋯
  refine bS (cM k1d T.sorted DR (ah (ae 2 (ax ⟨M,us,ls.map (·.1),rfl,au.of eM,by rwa[Aa],I.fM,aX,λi t z h1 h2=>?_,λL ps hL hp hs=>?_⟩))))
  ·rw[Ah,Az]at h2;obtain⟨x,hx,rfl⟩:=h2;exact⟨_,iO.2 i t x h1 hx⟩
  have pick:∀ p∈ps,∃ x,x∈ls/\x.1=p.2/\H' p.1≈T3 x:=λp jM=>by
   have hz:=hp.mem_iff.mp jM;obtain⟨i,hi⟩:=Be hz;rw[List.getElem?_zip_eq_some]at hi;obtain⟨h1,h2⟩:=hi;rw[Ah,Az]at h2;obtain⟨x,hx,e⟩:=h2;exact⟨x,Ao hx,e,iO.2 i _ x h1 hx⟩
  obtain⟨xs,fA⟩:∃ xs:List Lk,xs.length=ps.length/\∀(j:Nat) p x,ps[j]?≈p->xs[j]?≈x->x∈ls/\x.1=p.2/\H' p.1≈T3 x:=by
   clear hs hp
   induction ps with
   | nil=>exact⟨[],rfl,λj p x h=>by simp at h⟩
   | cons p r ih=>
    obtain⟨x,q1,q2,q3⟩:=pick p<|Ae ..;obtain⟨xs,l1,l2⟩:=ih λc hc=>pick c<|Af _ hc;refine⟨x :: xs,by rw[As,As,l1],λj c y h1 h2=>?_⟩;cases j with
    | zero=>
     cases h1;cases h2;exact⟨q1,q2,q3⟩
    | succ j=>exact l2 j c y h1⁻¹<|h2⁻¹
  obtain⟨lx,fA⟩:=fA;have lp:ps.length=ls.length:=by rw[hp.length_eq,List.length_zip,Aa];omega
  have sL:=aS hL<|.lst<|ps.map λp=> .ref p.1;have U':CB xs:=by
   unfold CB;rw[Bc];intro i j hi hj eW;have a1:=(fA i ps[i] xs[i] (Ab<|⋯)<|Ab hi).2.1;have a2:=(fA j ps[j] xs[j] (Ab<|⋯)<|Ab hj).2.1;rw[a1,a2];exact Bc.mp hs i j ⋯ ⋯ eW
  have rZ:(xs.map (·.1)).Nodup:=by
   rw[By,Dr];exact U'.imp λh e=>by rw[e]at h;exact Gv _ h
  have sf:∀ x,x∈xs↔x∈ls:=λx=>by
   constructor
   ·intro h;obtain⟨j,hj⟩:=Be h;have oZ:=(Ac.mp hj).1;exact(fA j ps[j] x (Ab<|⋯) hj).1
   ·intro h;refine CQ λhn=>?_;have Lf:xs.Nodup:=by
     rw[By]at rZ ⊢;rw[Dr]at rZ;exact rZ.imp λh e=>h<|by rw[e]
    have:=aU Lf (b:=ls.erase x) λz hz=>by
     have hzl:z∈ls:=by
      obtain⟨j,hj⟩:=Be hz;have oZ:=(Ac.mp hj).1;exact(fA j ps[j] z (Ab<|⋯) hj).1
     exact(Ft λe:z=x=>hn<|e ▸ hz).mpr hzl
    rw[Gi h]at this;have:0 < ls.length:=Gs h;omega
  refine q L (ps.map (·.1)) xs _ (sm.trans sL) (iR sm hL) (by rw[az,Bs];rfl) ⟨by rw[Aa];omega,λj u x h1 h2=>?_⟩ U' (λx=>by rw[sf x];exact I.whole hT x) ⋯;rw[Ah,Az]at h1;obtain⟨p,Kk,rfl⟩:=h1;exact sL _ _ (fA j p x Kk h2).2.2
end
end E9
namespace L2
open PySem PySem.Spec PyProof.Rows
variable{X:Cx}
section
variable{σ:St}{H:Hp}{Q:VK}
def q2h{k v:Expr}{pos:Pos}(hu:X.A.units+1 < cLine)(h:∀ d,H d=none->Ev X k σ (upd H d<|.dK []) λy H1=>Ev X v σ H1 λx H2=>∃ H3,cw H2 d y x H3/\Q (.ref d) H3):Ev X (.Dict [some k] [v] pos) σ H Q:=by
 refine⟨λO s I=>wpAny_Dict_any rfl rfl (by simp) (by show 1<=15;decide) ?_⟩;have I0:=I.laid (t':=s.toks) (λ_ _ q=>Aj _ q) (An _)<|Pz s.heap I.big;show wpAny _ _ (evalPairs [(eval k X.env,do let x <- eval v X.env;standAt pos;pure x)]) _ _ _;unfold evalPairs;refine BJ<|aO ((h _ I.fresh).run O _ I0) λkv s1 ⟨y,H1,I1,r1,h1⟩=>?_;refine BJ<|CJ<|BJ<|aO (h1.run O s1 I1) λvv s2 ⟨x,H2,I2,r2,H3,dp,q⟩=>?_;refine BJ<|GX<|BK ?_;unfold evalPairs;refine BJ<|CJ<|BK<|BK ?_;unfold storeAll;rw[Hi];refine BJ<|BJ<|R1 hu I2 dp r1 r2 λs' I'=>BK ?_;exact BK ⟨.ref _,H3,I',rfl,q⟩
end
open bP
variable{OK:Heap->Prop}{P:Nat->Value->Prop}{E:Í}{U:Program}
end L2
namespace L2
open PySem PySem.Spec PyProof.Rows
variable{tp:Pos}{elts:Ó}{K:PySem.W.Frag}
def Lg(K:PySem.W.Frag)(l:Addr):It:=
  ⟨λi H => ∃ xs x, au K H l xs ∧ xs[i]? = some x,
   λi H v H'=>∃ T x,H T=none/\v = .ref T/\H'=upd H T (.tup [.int (i:Int),x])/\∀ xs,au K H l xs->xs[i]?≈x,
   λi H=>∃ xs,au K H l xs/\xs.length<=i⟩
def x3a(m l:Addr)(i:Nat)(h:Heap):Prop:=(∃ old,IsEnum h (m+1) m (i:Int) old)/\h.IsListIter m l i
theorem k8s{P:Program}{w:World}{k:Nat}(m l:Addr):Turn P w K (.Tuple elts k tp) (Lg K l) [m,m+1] (m+1) (x3a m l) where
 mem:=by simp
 obj:=λi h st c hc=>by
  obtain⟨⟨old,z1⟩,⟨o4,e4,c4,d4⟩⟩:=st;simp only[Ai,Cc,GQ]at hc
  rcases hc with rfl | rfl
  ·exact⟨_,e4,λv z=>by rw[d4]at z;cases z⟩
  ·exact⟨_,z1,λv z=>by cases z⟩
 keep:=λi h h' st kp=>by
  obtain⟨⟨old,z1⟩,⟨o4,e4,r4⟩⟩:=st;exact⟨⟨old,kp _ (by simp) _ z1⟩,⟨o4,kp _ (by simp) _ e4,r4⟩⟩
 item:=by
  intro X hP hw hK hc i O s σ H E I hf st hg;subst hP hw hK;obtain⟨xs,x,fA,hx⟩:=hg;obtain⟨kQ,nF,p1,qX⟩:=I.list fA;obtain⟨u1,eX,Jj⟩:=nF.get hx;obtain⟨⟨old,z1⟩,z4⟩:=id st;refine wpAny_pyNext_enum_item z1 z4 p1.isList eX⁻¹ (by simp) λh' a1 a2 a3 a4 kp=>?_;have hT:=I.aH.fresh<|An _;have nT:∀ c∈[m,m+1],c≠↑s:=λc bj=>by
   have:∃ o,s.heap.get? c≈o:=by
    obtain⟨o4,e4,_⟩:=z4;simp only[Ai,Cc,GQ]at bj
    rcases bj with rfl | rfl
    ·exact⟨_,e4⟩
    ·exact⟨_,z1⟩
   obtain⟨o,e⟩:=this;exact Bw<|Av e
  have I1:Inv X O σ (upd H ↑s<|.tup [.int (i:Int),x]) {s with heap:=s.heap.push {cls:= .type "tuple",data:= .seq #[.int i s.toks,u1]},toks:=s.toks+1}:=
   I.laid (t':=s.toks+1) (λb o e=>Aj _ e) (An _) (show aB X.U X.w _ _ _ (.tup [.int (i:Int),x]) from⟨Z2,[.int i s.toks,u1],.cons ⟨_,rfl⟩<|.cons Jj .nil,⟨_,At _ rfl,rfl,_,rfl⟩⟩)
  have f1:∀ c∈[m,m+1],cr X O (upd H ↑s<|.tup [.int (i:Int),x]) c:=λc bj=>⟨by rw[aw<|nT c bj];exact(hf c bj).1,(hf c bj).2⟩;have qF:∀ c o,c∉[m,m+1]->(s.heap.push {cls:= .type "tuple",data:= .seq #[.int i s.toks,u1]}).get? c≈o->h'.get? c≈o:=λc o bj e=>by
   rcases He e with ⟨ec,eo⟩ | e'
   ·rwa[ec,eo]
   ·simp only[Ai,Cc,GQ,not_or]at bj;exact kp c o bj.2 bj.1 e'
  have I2:=Inv.bU (h':=h') (t':=s.toks+1) I1 f1 qF;refine⟨_,rfl,wpAny_letOwnedTupleGo_enum (s:={s with heap:=h',toks:=s.toks+1}) a1 λh2 b1 sb=>?_⟩;have AO:∀ c o,c∉[m+1]->h'.get? c≈o->h2.get? c≈o:=λc o bj e=>(sb.2 c<|bj⁻¹).trans e;have I3:=Inv.bU (h':=h2) (t':=s.toks+1) I2 (ch:=[m+1]) (λc bj=>f1 c<|by simp at bj;simp[bj]) AO;refine⟨.ref ↑s,_,I3,rfl,⟨_,x,hT,rfl,rfl,λzs hz=>by rw[I.cY hz fA];exact hx⟩,?_,λc bj=>(f1 c bj).1⟩;obtain⟨o3,e3,r3⟩:=a2;exact⟨⟨u1,b1⟩,⟨o3,AO _ _ (by simp) e3,r3⟩⟩
 done:=by
  intro X hP hw hK hc i O s σ H E I hf st hg;subst hP hw hK;obtain⟨xs,fA,we⟩:=hg;obtain⟨kQ,nF,p1,qX⟩:=I.list fA;have l1:=nF.length;obtain⟨⟨old,z1⟩,z4⟩:=id st;refine wpAny_pyNext_enum_end (I.ok.hd hc) z1 z4 p1.isList (by simp;omega) λh' kp=>⟨rfl,I.bU (t':=s.toks) (ch:=[m,m+1]) hf λc o bj e=>?_⟩;simp only[Ai,Cc,GQ,not_or]at bj;exact kp c o bj.1 e
 self:=λ_ _ _ _ _ st h=>by
  obtain⟨⟨old,z1⟩,_⟩:=st;exact wpAny_pyIter_enum z1 h
variable{X:Cx}
def x4h(K:PySem.W.Frag)(ta:TA):TI:=λσ H R=>ta σ H λvs H1=>∃ a,vs=[.ref a]/\(∃ xs,au K H1 a xs)/\R (Lg K a) H1
theorem q7u{k:Nat}{a:Expr}{ta:TA}{p pos:Pos}(hg:Gl X "enumerate")(hm:X.mg "enumerate" = none)(ha:PA X [a] ta)(hs:starEach [a] X.env=[(false,eval a X.env)]:=by rfl) :
  PI X (.Tuple elts k tp) (.Call (.Name "enumerate" p) [a] [] pos) (x4h X.K ta):=by
 intro O s σ H R I h;refine Call_<|mQ I hg hm boot_enumerate<|IK (aO (ha pos O s σ H _ I h) λus s1 ⟨vs,H1,I1,r1,q1⟩=>?_) hs rfl;obtain⟨x,e,⟨xs,hx⟩,q⟩:=q1;subst e;obtain⟨u,rfl,ru⟩:=r1.one;cases (show u=Value.ref x from ru);obtain⟨kQ,nF,p1,qX⟩:=I1.list hx;refine call_enumerate_list p1.isList λh' a1 a2 a3 kp=>?_;refine wpAny_pyIter_enum a1 ?_;refine⟨↑s1+1,[↑s1,↑s1+1],_,_,H1,rfl,I1.kept kp,k8s ↑s1 x,⟨⟨_,a1⟩,a2⟩,λb hb=>?_,q⟩;have hle:↑s1<=b:=by
  simp only[Ai,Cc,GQ]at hb
  rcases hb with rfl | rfl <;> omega
 exact I1.jA hle<|I1.aH.fresh hle
theorem Va(z:Str):∀ zs:Ð,countIn (.str z) (zs.map PyData.str)=(zs.count z:Int)
 | []=>rfl
 | y :: r=>by
  rw[Ba,countIn,Va z r,Dl];simp only[same]
  rcases Bool.eq_false_or_eq_true (y == z)with hb | hb <;> simp only[hb,Aq,CZ,CP] <;> push_cast <;> omega
def x0r(K:PySem.W.Frag):V->List V->Hp->VK->Prop:=λx vs H Q=>∃(l:Addr) (zs:Ð) (z:Str),x = .ref l/\vs=[.str z]/\au K H l (zs.map V.str)/\Q (.int (zs.count z:Int)) H
def q4d:qf X "list.count" (x0r X.K):=by
 intro O s σ H x vs v us Q I rx rv h;obtain⟨l,zs,z,rfl,rfl,hH,q⟩:=h;cases rx;obtain⟨u,rfl,ru⟩:=rv.one;obtain⟨tk,rfl⟩:=ru;obtain⟨è,r,pl,hz⟩:=I.list hH;refine count_list_strs pl.isList (HZ r) ?_;rw[Va];exact⟨.int (zs.count z:Int),H,I.tok _,⟨_,rfl⟩,q⟩
variable{body:Ô}
end L2
namespace Nt
open PySem L2
theorem Vb(x:Str):∀{sd},b8 sd->∃ iA,b8 iA/\∀ y,y∈iA↔y=x\/y∈sd
 | [],_=>⟨[x],Gp _ _,λy=>by simp⟩
 | a :: r,h=>by
  have h':=Ct.mp h
  by_cases q:x.cps.toList < a.cps.toList
  ·refine⟨x :: a :: r,Ct.mpr ⟨λy hy=>?_,h⟩,λy=>by simp⟩
   rcases Ai.mp hy with e | e
   ·rwa[e]
   ·exact Hc q<|h'.1 y e
  ·rcases Hf.mp (List.not_lt.mp q)with q2 | q2
   ·obtain⟨iA,s1,s2⟩:=Vb x h'.2;refine⟨a :: iA,Ct.mpr ⟨λy hy=>?_,s1⟩,λy=>?_⟩
    ·rcases (s2 y).mp hy with e | e
     ·rwa[e]
     ·exact h'.1 y e
    ·rw[Ai,s2,Ai]
     constructor
     ·rintro (e | e | e)
      ·exact .inr<|.inl e
      ·exact .inl e
      ·exact .inr<|.inr e
     ·rintro (e | e | e)
      ·exact .inr<|.inl e
      ·exact .inl e
      ·exact .inr<|.inr e
   ·refine⟨a :: r,h,λy=>?_⟩;have:a=x:=bP.gj q2;subst this;simp
theorem Vc:∀ L:Ð,∃ sd,b8 sd/\∀ y,y∈sd↔y∈L
 | []=>⟨[],List.Pairwise.nil,λ_=>UW⟩
 | x :: L=>by
  obtain⟨sd,h1,h2⟩:=Vc L;obtain⟨iA,h3,h4⟩:=Vb x h1;exact⟨iA,h3,λy=>by rw[h4,h2,Ai]⟩
theorem ut(z:Str):∀ L:Ð,decide (L.count z % 2=1)=ao (L.map λy=>decide (z=y))
 | []=>rfl
 | y :: L=>by
  show _=(decide (z=y) ^^ ao (L.map λy=>decide (z=y)));rw[<- ut z L,Dl]
  by_cases h:z=y
  ·subst h;rw[BW rfl,FZ,BP rfl,Bool.true_xor,<- decide_not];exact decide_eq_decide.mpr<|⋯
  ·rw[BR h,BL λq=>h (eq_of_beq q).symm,Fw];rfl
theorem sg{α β:Type}(f:α->β->Bool)(M:List β):∀ L:List α,ao (L.map λa=>ao<|M.map λb=>f a b)=ao (M.map λb=>ao<|L.map λa=>f a b)
 | []=>(gM M).symm
 | a :: L=>by
  show(ao (M.map λb=>f a b) ^^ ao (L.map λa=>ao<|M.map λb=>f a b))=ao (M.map λb=>f a b ^^ ao (L.map λa=>f a b));rw[sg f M L,fK (λb=>f a b) λb=>ao<|L.map λa=>f a b]
theorem map_range{α β:Type}(l:List α)(f:α->β)(g:Nat->β)(h:∀ k x,l[k]?≈x->g k=f x):l.map f=(List.range l.length).map g:=by
 apply Dy;intro k;rw[Ah,Ah]
 by_cases hk:k < l.length
 ·rw[Ab hk,Dx hk];exact BZ some (h k _<|Ab hk).symm
 ·rw[Bg ⋯,Bg<|by simp;omega];rfl
def q1e{α:Type}(l:List α)(f g:α->Bool)(h:∀ k,k < l.length->∃ x y,l[k]?≈x/\l[(k+1) % l.length]?≈y/\g x=f y):ao (l.map g)=ao (l.map f):=by
 let F:Nat->Bool:=λk=>match l[k]? with | some x=>f x | none=>false
 have hf:=map_range l f F λk x hk=>by show(match l[k]? with | some x=>f x | none=>false)=_;rw[hk]
 have hg:l.map g=(List.range l.length).map λk=>F ((k+1) % l.length):=map_range l g _ λk x hk=>by
  obtain⟨x',y,h1,h2,h3⟩:=h k (Ac.mp hk).1;rw[hk]at h1;cases h1;show(match l[(k+1) % l.length]? with | some x=>f x | none=>false)=_;rw[h2];exact h3.symm
 rw[hf,hg,Jw]
theorem Lh(F:Nat->Bool):∀ m,(∀ i,i < m->F (2 * i+1)=F (2 * i))->ao ((List.range<|2 * m).map F)=false
 | 0,_=>rfl
 | m+1,h=>by
  rw[show 2 * (m+1)=2 * m+1+1 by omega,Dk,Dk,Al,Al,nN,nN,Lh F m λi hi=>h i<|⋯];show((false ^^ (F (2 * m) ^^ false)) ^^ (F (2 * m+1) ^^ false))=false;rw[h m<|⋯];cases F (2 * m) <;> rfl
variable{e:End}{n:Net}
def Vd(T:aq n)(h:e∈ends n):step n (other n<|go (-1) n e)=↥5:=by
 have h1:=gK (c:=-1) T h;obtain⟨z,hz⟩:=af.mp h1;show left n (other n<|other n<|go (-1) n e)=_;rw[(dH T hz).2.1,Jl h1];show eG 1 n (eG (-1) n<|↥5)=_;have:=ra (c:=-1)<|cR T h;rwa[Int.neg_neg]at this
def cO(n:Net)(w:List End)(z:Str):Bool:=decide ((w.map<|aD n).count z % 2=1)
variable{w:List End}
def k7h(T:aq n)(W:kR n w):cN n (cO n w):=λr=>by
 have e1:(row n r).map (cO n w)=(row n r).map λz=>ao (w.map λe=>decide (z=aD n e)):=Ap λz _=>by
  unfold cO;rw[ut,Bs];rfl
 rw[e1,sg λz e=>decide (z=aD n e)];have e2:(w.map λe=>ao<|(row n r).map λz=>decide (z=aD n e))=w.map λe=>(decide (r=e.1) ^^ decide (r=(↥5).1)):=Ap λe he=>by
  obtain⟨z,hz⟩:=af.mp<|W.ends e he;rw[eY hz];exact J1 T hz r
 rw[e2,fK (λe=>decide (r=e.1)) λe=>decide (r=(↥5).1)];rw[q1e w (λe=>decide (r=e.1)) (λe=>decide (r=(↥5).1)) λk hk=>by
  obtain⟨c,h1,h2⟩:=W.at' k hk;exact⟨c,_,h1,h2,rfl⟩]
 cases ao (w.map λe=>decide (r=e.1)) <;> rfl
variable{χ:End->Bool}
theorem k9k(T:aq n)(W:kR n w){t:Str->Bool}(h:aY n t χ):ao (w.map λe=>t<|aD n e)=false:=by
 have e1:(w.map λe=>t<|aD n e)=w.map λe=>(χ e ^^ χ (↥5)):=Ap λe he=>by
  obtain⟨z,hz⟩:=af.mp<|W.ends e he;rw[eY hz];exact h.dj e z hz
 rw[e1,fK χ λe=>χ<|↥5];obtain⟨m,hm⟩:∃ m,w.length=2 * m:=⟨w.length / 2,by have:=W.even;omega⟩;have a1:ao (w.map χ)=false:=by
  let F:Nat->Bool:=λk=>match w[k]? with | some x=>χ x | none=>false
  rw[map_range w χ F λk x hk=>by show(match w[k]? with | some x=>χ x | none=>false)=_;rw[hk],hm];refine Lh F m λi hi=>?_;obtain⟨c,h1,h2⟩:=W.at' (2 * i) ⋯;rw[Bz ⋯,show(1:Int) - 2 * (((2 * i:Nat):Int) % 2)=1 by omega]at h2;show(match w[2 * i+1]? with | some x=>χ x | none=>false)=(match w[2 * i]? with | some x=>χ x | none=>false);rw[h1,h2];have hc:=W.ends c<|Ao h1;show χ (go 1 n c)=χ c;rw[<- tZ T hc];exact h.go c hc
 have a2:ao (w.map λe=>χ<|↥5)=false:=by
  let F:Nat->Bool:=λk=>match w[k]? with | some x=>χ (other n x) | none=>false
  rw[map_range w (λe=>χ<|↥5) F λk x hk=>by show(match w[k]? with | some x=>χ (other n x) | none=>false)=_;rw[hk],<- Jw F,hm];refine Lh (λp=>F<|(p+1) % (2 * m)) m λi hi=>?_;obtain⟨c,h1,h2⟩:=W.at' (2 * i+1) ⋯;rw[hm,show(1:Int) - 2 * (((2 * i+1:Nat):Int) % 2)=-1 by omega]at h2;show(match w[(2 * i+1+1) % (2 * m)]? with | some x=>χ (other n x) | none=>false)=(match w[(2 * i+1) % (2 * m)]? with | some x=>χ (other n x) | none=>false);rw[h2,Bz (show 2 * i+1 < 2 * m by omega),h1];have hc:=W.ends c<|Ao h1;show χ (other n<|go (-1) n c)=χ (other n c);rw[<- Vd T hc];exact(h.go _<|cR T<|gK T hc).symm
 rw[a1,a2];rfl
def bA(zs:Ð)(t s:Str->Bool):Bool:=ao<|zs.map λz=>t z && s z
def Lj(zs:Ð)(t u s:Str->Bool):bA zs (λz=>t z ^^ u z) s=(bA zs t s ^^ bA zs u s):=by
 unfold bA;rw[<- fK (λz=>t z && s z) λz=>u z && s z]
 congr 1
 refine Ap λz _=>?_;show((t z ^^ u z) && s z)=_;cases t z <;> cases u z <;> cases s z <;> rfl
theorem xL{s:Str->Bool}{y:Str}:∀{zs},zs.Nodup->y∈zs->bA zs (λz=>decide (z=y)) s=s y
 | z :: zs,hn,hy=>by
  have hn:=Bh.mp hn;show((decide (z=y) && s z) ^^ bA zs (λz=>decide (z=y)) s)=s y
  by_cases h:z=y
  ·subst h;have:bA zs (λx=>decide (x=z)) s=false:=by
    unfold bA;have e:(zs.map λx=>decide (x=z) && s x)=zs.map λ_=>false:=Ap λx hx=>by
     have ne:¬ x=z:=λq=>hn.1<|q ▸ hx;rw[BR ne];rfl
    rw[e,gM]
   rw[this,BW rfl];cases s z <;> rfl
  ·rw[BR h,xL hn.2<|(Ai.mp hy).resolve_left<|CK h];cases s y <;> rfl
variable{zs:Ð}
theorem CD{n:Net}(hz:zs.Nodup){t:Str->Bool}:∀{L:Ð},(∀ y∈L,y∈zs)->bA zs t (λz=>decide (L.count z % 2=1))=ao (L.map t)
 | L,hL=>by
  unfold bA;have e:(zs.map λz=>t z && decide (L.count z % 2=1))=zs.map λz=>ao (L.map λy=>t z && decide (z=y)):=Ap λz _=>by
   rw[ut];cases t z
   ·show false=ao (L.map λ_=>false);rw[gM]
   ·rfl
  rw[e,sg λz y=>t z && decide (z=y)]
  congr 1
  refine Ap λy hy=>?_;have:=xL (s:=t) hz<|hL y hy;rw[<- this];unfold bA
  congr 1
  refine Ap λz _=>?_;rw[Fo]
variable{ss:Ð}
theorem Ve(T:aq n)(hN:(n.map (·.1)).Nodup)(hz:zs.Nodup)(hm:∀ z,z∈zs↔z∈ag n){x:Str}{b:Bool}(h:Way (dB n ss) (bV n) x b) :
  ∃ t:Str->Bool,(∀ r,r < n.length->ao ((row n r).map t)=(decide (aC n r=bV n) ^^ decide (aC n r=x)))/\bA zs t (λz=>decide (z∈ss))=b:=by
 have add:∀{x y}{o b},(∃ e z,aJ n e≈z/\((x=aC n e.1/\y=aC n (↥5).1)\/(y=aC n e.1/\x=aC n (↥5).1))/\o=decide (z∈ss))->(∃ t:Str->Bool,(∀ r,r < n.length->ao ((row n r).map t)=(decide (aC n r=bV n) ^^ decide (aC n r=x)))/\bA zs t (λz=>decide (z∈ss))=b) ->
   ∃ t:Str->Bool,(∀ r,r < n.length->ao ((row n r).map t)=(decide (aC n r=bV n) ^^ decide (aC n r=y)))/\bA zs t (λz=>decide (z∈ss))=(b != o):=by
  rintro x y o b ⟨e,z,dq,IY,rfl⟩ ⟨t,h1,h2⟩;refine⟨λu=>t u ^^ decide (u=z),λr hr=>?_,?_⟩
  ·rw[fK t λu=>decide (u=z),h1 r hr,J1 T dq r];have e1:∀ i,i < n.length->decide (r=i)=decide (aC n r=aC n i):=λi hi=>decide_eq_decide.mpr ⟨λq=>by rw[q],λq=>ud hN hr hi q⟩;rw[e1 _<|cB dq,e1 _<|pv T dq]
   rcases IY with ⟨a1,a2⟩ | ⟨a1,a2⟩
   ·rw[<- a1,<- a2];cases decide (aC n r=bV n) <;> cases decide (aC n r=x) <;> cases decide (aC n r=y) <;> rfl
   ·rw[<- a1,<- a2];cases decide (aC n r=bV n) <;> cases decide (aC n r=x) <;> cases decide (aC n r=y) <;> rfl
  ·rw[Lj,h2,xL hz<|(hm z).mpr<|eV dq]
 have lk:∀{x y:Str} {o:Bool},(x,y,o)∈dB n ss->∃ e z,aJ n e≈z/\((x=aC n e.1/\y=aC n (↥5).1))/\o=decide (z∈ss):=λ{x y o} hm=>by
  obtain⟨e,z,h1,h2⟩:=(uc (ss:=ss)).Tg _ hm;exact⟨e,z,h1,⟨BZ (·.1) h2,BZ (·.2.1) h2⟩,BZ (·.2.2) h2⟩
 induction h with
 | here=>exact⟨λ_=>false,λr _=>by rw[gM];cases decide (aC n r=bV n) <;> rfl,by unfold bA;exact gM zs⟩
 | there _ ht ih=>
  obtain⟨e,z,h1,h2,h3⟩:=lk ht;exact add ⟨e,z,h1,.inl h2,h3⟩ ih
 | back _ ht ih=>
  obtain⟨e,z,h1,h2,h3⟩:=lk ht;exact add ⟨e,z,h1,.inr ⟨h2.1,h2.2⟩,h3⟩ ih
theorem Vf(T:aq n)(hg:db n)(hN:(n.map (·.1)).Nodup)(h0:0 < n.length)(hz:zs.Nodup)(hm:∀ z,z∈zs↔z∈ag n)(hs:∀ z∈ss,z∈ag n)(Ln:∀ t,cN n t->bA zs t (λz=>decide (z∈ss))=false):∃ sd,aN n ss sd:=by
 classical
 have uniq:∀{x b c},Way (dB n ss) (bV n) x b->Way (dB n ss) (bV n) x c->b=c:=λ{x b c} h1 h2=>by
  obtain⟨t,t1,t2⟩:=Ve T hN hz hm h1;obtain⟨u,u1,u2⟩:=Ve T hN hz hm h2;have:=Ln (λz=>t z ^^ u z) λr=>by
   by_cases hr:r < n.length
   ·rw[fK t u,t1 r hr,u1 r hr];cases decide (aC n r=bV n) <;> cases decide (aC n r=x) <;> rfl
   ·have:row n r=[]:=by
     unfold row;rw[Bg<|⋯];rfl
    rw[this];rfl
  rw[Lj,t2,u2]at this;cases b <;> cases c <;> first | rfl | cases this
 have next:∀{e:End} {z:Str} {b:Bool},aJ n e≈z->Way (dB n ss) (bV n) (aC n e.1) b->Way (dB n ss) (bV n) (aC n (↥5).1) (b != decide (z∈ss)):=λ{e z b} he h=>by
  rcases (uc (n:=n) (ss:=ss)).to e z he with t | t
  ·exact .there h t
  ·exact .back h t
 have all:∀ r,r < n.length->∃ b,Way (dB n ss) (bV n) (aC n r) b:=λr hr=>by
  have:=hg (λx=>∃ b,Way (dB n ss) (bV n) x b) ⟨n[0],Bt h0,false,by rw[<- gn h0];exact .here⟩ (λr hr s gZ t tr ts ⟨b,hb⟩=>?_) n[r]<|Bt hr
  ·rwa[<- gn hr]at this
  ·obtain⟨i,hi,rfl⟩:=Ck.mp hr;obtain⟨j,hj,rfl⟩:=Ck.mp gZ;obtain⟨p,hp⟩:=Be tr;obtain⟨q,hq⟩:=Be ts;have h1:aJ n (i,p)≈t:=by show(row n i)[p]?=_;rwa[jm hi]
   have h2:aJ n (j,q)≈t:=by show(row n j)[q]?=_;rwa[jm hj]
   rcases (kd T h1).mp h2 with e | e
   ·have:j=i:=BZ (·.1) e;subst this;exact⟨b,hb⟩
   ·rw[<- gn hi]at hb;have:=next h1 hb;rw[<- e]at this;exact⟨_,by rwa[<- gn hj]⟩
 obtain⟨sd,h1,h2⟩:=Vc<|((List.range n.length).filter λ(r:Nat)=>decide (Way (dB n ss) (bV n) (aC n r) true)).map<|aC n;have mem:∀ r,r < n.length->∀ b,Way (dB n ss) (bV n) (aC n r) b->decide (aC n r∈sd)=b:=λr hr b hb=>by
  have:aC n r∈sd↔b=true:=by
   rw[h2,Ak]
   constructor
   ·rintro ⟨i,hi,e⟩;rw[Bf,Bo]at hi;have:=ud hN hi.1 hr e;subst this;exact uniq hb<|BX hi.2
   ·intro e;subst e;exact⟨r,Bf.mpr ⟨Bo.mpr hr,BW hb⟩,rfl⟩
  by_cases q:b=true
  ·rw[q];exact BW<|this.mpr q
  ·rw[Bool.not_eq_true]at q;rw[q];exact BR λk=>by rw[this.mp k]at q;cases q
 refine⟨sd,h1,λx hx=>?_,λhx=>?_,λz=>?_⟩
 ·obtain⟨i,hi,rfl⟩:=Ak.mp<|(h2 x).mp hx;exact jr<|Bo.mp (Bf.mp hi).1
 ·have:=mem 0 h0 false .here;exact absurd hx<|IW this
 ·by_cases dq:z∈ag n
  ·obtain⟨p,hp⟩:∃ p,p∈pos n z:=by
    have:pos n z≠[]:=λq=>by have:=qI n z;rw[q,T z dq]at this;cases this
    exact Gc _ this
   have he:=aK.mp hp;obtain⟨b,hb⟩:=all p.1<|cB he;have hc:=next he hb;rw[jQ T he,mem _ (cB he) b hb,mem _ (pv T he) _ hc]
   constructor
   ·intro h;rw[BW h];cases b <;> rfl
   ·intro h;refine CQ λk=>?_;rw[BR k]at h;cases b <;> cases h
  ·exact⟨λh=>absurd (hs z h) dq,λh=>absurd (pq h) dq⟩
def Lq(T:aq n)(h:e∈ends n):two n (other n<|two n e)=↥5:=by
 have g1:=gK (c:=1) T h;have h2:=nH T h;obtain⟨z,hz⟩:=af.mp h2;obtain⟨y,hy⟩:=af.mp g1;have e1:go 1 n (other n<|two n e)=other n (go 1 n e):=by
  show eG 1 n (other n<|other n<|two n e)=_;rw[(dH T hz).2.1];show eG 1 n (eG (-1) n<|other n<|go 1 n e)=_;have:=ra (c:=-1)<|cR T g1;rwa[Int.neg_neg]at this
 show go (-1) n (go 1 n<|other n<|two n e)=_;rw[e1];show eG (-1) n (other n<|other n<|go 1 n e)=_;rw[(dH T hy).2.1];exact ra<|cR T h
def ki(T:aq n)(h:e∈ends n)(k:Nat):↥12 k e∈ends n:=je (λa ha=>nH T ha) h k
theorem Vg{α:Type}(f:α->α)(a:α):∀ k,it f k (f a)=it f (k+1) a
 | 0=>rfl
 | k+1=>by show f (it f k<|f a)=f (it f (k+1) a);rw[Vg f a k]
theorem uv{α:Type}(f:α->α)(a:α)(i:Nat):∀ j,it f (i+j) a=it f j (it f i a)
 | 0=>rfl
 | j+1=>by show f (it f (i+j) a)=f (it f j<|it f i a);rw[uv f a i j]
def x3y(T:aq n)(h:e∈ends n):two n e≠↥5:=λq=>by
 have g1:=gK (c:=1) T h;obtain⟨y,hy⟩:=af.mp g1;have h1:eG (-1) n (go 1 n e)=↥5:=ra<|cR T h;have h2:=q;exact(dH T hy).2.2<|Ss (cR T g1) g1<|h2.trans h1.symm
theorem Vh{n:Net}(T:aq n):∀k{e},e∈ends n->↥12 k e≠↥5
 | 0,e,h=>λq=>by
  obtain⟨z,hz⟩:=af.mp h;exact(dH T hz).2.2 q.symm
 | 1,e,h=>x3y T h
 | k+2,e,h=>λq=>by
  have e1:two n (↥12 (k+1) e)=two n (other n<|two n e):=by rwa[Lq T h]
  have e2:=wt T (ki T h<|k+1) (cR T<|nH T h) e1;rw[<- Vg]at e2;exact Vh T k (nH T h) e2
def CF(T:aq n){a b:End}(ha:a∈ends n)(hb:b∈ends n)(h:aD n a=aD n b):b=a\/b=other n a:=by
 obtain⟨z,hz⟩:=af.mp ha;obtain⟨y,hy⟩:=af.mp hb;rw[eY hz,eY hy]at h;subst h;exact(kd T hz).mp hy
theorem x4o(T:aq n)(h:e∈ends n){k:Nat}(p:jO n e k){i j:Nat}(eW:i < j)(hj:j < k):↥12 i e≠↥12 j e:=λq=>by
 have inj:∀(m:Nat) {a b:End},a∈ends n->b∈ends n->↥12 m a=↥12 m b->a=b:=λm=>by
  induction m with
  | zero=>intro a b _ _ q;exact q
  | succ m ih=>intro a b ha hb q;exact ih ha hb<|wt T (ki T ha m) (ki T hb m) q
 have e1:↥12 j e=↥12 i (↥12 (j - i) e):=by rw[<- uv,show j - i+i=j by omega]
 rw[e1]at q;have:=inj i h (ki T h _) q;exact p.first (j - i) ⋯ ⋯ this.symm
theorem q0o(T:aq n)(h:e∈ends n){k:Nat}(p:jO n e k){i j:Nat}(eW:i < j)(hj:j < k):aD n (↥12 i e)≠aD n (↥12 j e):=λq=>by
 rcases CF T (ki T h i) (ki T h j) q with c | c
 ·exact x4o T h p eW hj c.symm
 ·rw[show j=i+(j - i) by omega,uv]at c;exact Vh T (j - i) (ki T h i) c
variable{x:End}
def q8u(T:aq n){y:End}(hx:x∈ends n)(hy:y∈ends n)(q:aD n (go 1 n x)=aD n (go 1 n y)):x=y\/two n y=other n x:=by
 have g1:=gK (c:=1) T hx
 rcases CF T g1 (gK T hy) q with c | c
 ·exact .inl (go_inj T hy hx c).symm
 ·refine .inr ?_;obtain⟨z,hz⟩:=af.mp g1;show go (-1) n (go 1 n y)=_;rw[c];show eG (-1) n (other n<|other n<|go 1 n x)=_;rw[(dH T hz).2.1];exact ra<|cR T hx
theorem Vi(n:Net)(e:End):∀ k,((wk n e k).map<|aD n).Perm<|((List.range k).map λi=>aD n<|↥12 i e)++(List.range k).map λi=>aD n<|go 1 n<|↥12 i e
 | 0=>List.Perm.refl _
 | k+1=>by
  rw[Dk,Al,Al];show((wk n e k++[↥12 k e,go 1 n<|↥12 k e]).map<|aD n).Perm _;rw[Al];refine((Vi n e k).append_right _).trans ?_;generalize ((List.range k).map λi=>aD n<|↥12 i e)=A;generalize ((List.range k).map λi=>aD n<|go 1 n<|↥12 i e)=B;show(A++B++[aD n<|↥12 k e,aD n<|go 1 n<|↥12 k e]).Perm ((A++[aD n<|↥12 k e])++(B++[aD n<|go 1 n<|↥12 k e]));rw[Ar,Ar];refine OD A ?_;show(B++([aD n<|↥12 k e]++[aD n<|go 1 n<|↥12 k e])).Perm ([aD n<|↥12 k e]++(B++[aD n<|go 1 n<|↥12 k e]));rw[<- Ar,<- Ar];exact TY _ Cq
noncomputable def dL(n:Net)(e:End):List End:=av<|walker n e
def Lr{k:Nat}(p:jO n e k):dL n e=(List.range k).map λi=>↥12 i e:=by
 unfold dL walker;rw[wv p,q20]
theorem Vj{n:Net}{e:End}{k:Nat}(h:↥12 k e=e):∀ m,↥12 (k * m) e=e
 | 0=>rfl
 | m+1=>by rw[Nat.mul_succ,Nat.add_comm,uv,h,Vj h m]
def mH(T:aq n)(h:e∈ends n):x∈dL n e↔∃ i,↥12 i e=x:=by
 obtain⟨k,p,_⟩:=t6 T h;rw[Lr p,Ak]
 constructor
 ·rintro ⟨i,_,q⟩;exact⟨i,q⟩
 ·rintro ⟨i,q⟩;have p0:=p.pos;refine⟨i % k,Bo.mpr<|Gm _ p0,?_⟩;rw[<- q];have:=Nat.div_add_mod i k
  conv=>rhs;rw[<- this]
  rw[uv,Vj p.back]
def CH(T:aq n)(h:e∈ends n):∀ x∈dL n e,x∈ends n:=λx hx=>by
 obtain⟨i,q⟩:=(mH T h).mp hx;rw[<- q];exact ki T h i
theorem Vk(T:aq n)(h:e∈ends n)(hx:x∈dL n e):∃ y∈dL n e,two n y=x:=by
 obtain⟨i,q⟩:=(mH T h).mp hx;obtain⟨k,p,_⟩:=t6 T h;have p0:=p.pos;refine⟨↥12 (i+k - 1) e,(mH T h).mpr ⟨_,rfl⟩,?_⟩;show ↥12 (i+k - 1+1) e=x;rw[show i+k - 1+1=k+i by omega,uv,p.back,q]
def Lv(T:aq n)(h:e∈ends n)(hx:x∈dL n e):two n x∈dL n e:=by
 obtain⟨i,q⟩:=(mH T h).mp hx;exact(mH T h).mpr ⟨i+1,by rw[<- q];rfl⟩
def Vl(T:aq n)(h:e∈ends n)(hx:x∈ends n):aD n x∈(dL n e).map (aD n)↔x∈dL n e\/other n x∈dL n e:=by
 rw[Ak]
 constructor
 ·rintro ⟨y,hy,q⟩
  rcases CF T hx (CH T h y hy) q.symm with c | c
  ·exact .inl<|c ▸ hy
  ·exact .inr<|c ▸ hy
 ·rintro (c | c)
  ·exact⟨x,c,rfl⟩
  ·refine⟨_,c,?_⟩;obtain⟨z,hz⟩:=af.mp hx;rw[eY hz,eY (dH T hz).1]
def Lw(T:aq n)(h:e∈ends n):other n (↥5)=e:=by
 obtain⟨z,hz⟩:=af.mp h;exact(dH T hz).2.1
def xM(n:Net)(told:Ð):Prop:=∀ x∈ends n,(aD n (two n x)∈told↔aD n x∈told)
theorem Vm{n:Net}(T:aq n){told:Ð}(C:xM n told){e:End}(h:e∈ends n):∀ i,aD n (↥12 i e)∈told↔aD n e∈told
 | 0=>UW
 | i+1=>(C _<|ki T h i).trans<|Vm T C h i
def x2q(T:aq n)(h:e∈ends n):xM n ((dL n e).map<|aD n):=λx hx=>by
 rw[Vl T h<|nH T hx,Vl T h hx]
 constructor
 ·rintro (c | c)
  ·obtain⟨y,hy,q⟩:=Vk T h c;exact .inl<|wt T (CH T h y hy) hx q ▸ hy
  ·have:=Lv T h c;rw[Lq T hx]at this;exact .inr this
 ·rintro (c | c)
  ·exact .inl<|Lv T h c
  ·obtain⟨y,hy,q⟩:=Vk T h c;have CI:=CH T h y hy;have e1:two n x=other n y:=by
    rw[<- Lw T hx,<- q,Lq T CI]
   exact .inr<|by rwa[e1,Lw T CI]
structure pL(n:Net)(es:List End)(told:Ð)(ws:List<|List End):Prop where
 nd:((ws.flatMap av).map<|aD n).Nodup
 new:∀ x∈ws.flatMap av,x∈ends n/\aD n x∉told
 cov:∀ e∈es,aD n e∈told\/aD n e∈(ws.flatMap av).map (aD n)
 wk:∀ w∈ws,∃ e,e∈ends n/\w=walker n e
theorem Lx{n:Net}(T:aq n):∀es told,(∀ e∈es,e∈ends n)->xM n told->pL n es told (eI n es told)
 | [],told,_,_=>by
  unfold eI;exact⟨Cd,λx hx=>(nomatch hx),λe he=>(nomatch he),λw hw=>(nomatch hw)⟩
 | e :: r,told,he,C=>by
  have h:=he e<|Ae ..;unfold eI
  by_cases q:aD n e∈told
  ·rw[BP q];have I:=Lx T r told (λa ha=>he a<|Af _ ha) C;refine⟨I.nd,I.new,λa ha=>?_,I.wk⟩
   rcases Ai.mp ha with rfl | ha
   ·exact .inl q
   ·exact I.cov a ha
  ·rw[BL q];have C':xM n (told++(av<|walker n e).map (aD n)):=λx hx=>by
    rw[Am,Am];exact or_congr (C x hx)<|x2q T h x hx
   have I:=Lx T r _ (λa ha=>he a<|Af _ ha) C';have fresh:∀ x∈dL n e,x∈ends n/\aD n x∉told:=λx hx=>by
    obtain⟨i,k⟩:=(mH T h).mp hx;refine⟨CH T h x hx,λz=>q ?_⟩;rw[<- k]at z;exact(Vm T C h i).mp z
   refine⟨?_,λx hx=>?_,λa ha=>?_,λw hw=>?_⟩
   ·rw[Cp,Al,Co];refine⟨?_,I.nd,λa ha b hb k=>?_⟩
    ·obtain⟨k,p,_⟩:=t6 T h;show((dL n e).map<|aD n).Nodup;rw[Lr p,Bs,By,Dr,Bc];intro i j hi hj eW;rw[Fi,Fi];rw[Dq]at hj;exact q0o T h p eW hj
    ·subst k;obtain⟨x,hx,rfl⟩:=Ak.mp hb;exact(I.new x hx).2<|Au _ ha
   ·rw[Cp]at hx
    rcases Am.mp hx with k | k
    ·exact fresh x k
    ·exact⟨(I.new x k).1,λz=>(I.new x k).2<|Bb _ z⟩
   ·rw[Cp,Al]
    rcases Ai.mp ha with rfl | ha
    ·exact .inr<|Bb _<|Ak.mpr ⟨a,(mH T h).mpr ⟨0,rfl⟩,rfl⟩
    ·rcases I.cov a ha with k | k
     ·rcases Am.mp k with k | k
      ·exact .inl k
      ·exact .inr<|Bb _ k
     ·exact .inr<|Au _ k
   ·rcases Ai.mp hw with rfl | hw
    ·exact⟨e,h,rfl⟩
    ·exact I.wk w hw
def Vn(T:aq n)(h:e∈ends n):((walker n e).map<|aD n).Perm ((dL n e).map (aD n)++(dL n e).map λx=>aD n<|go 1 n x):=by
 obtain⟨k,p,_⟩:=t6 T h;rw[Lr p,Bs,Bs];unfold walker;rw[wv p];exact Vi n e k
theorem Vo{n:Net}(T:aq n):∀{ws:List (List End)},(∀ w∈ws,∃ e,e∈ends n/\w=walker n e)->(ws.flatMap λw=>w.map<|aD n).Perm ((ws.flatMap av).map (aD n)++(ws.flatMap av).map λx=>aD n<|go 1 n x)
 | [],_=>List.Perm.refl _
 | w :: ws,h=>by
  obtain⟨e,he,rfl⟩:=h w<|Ae ..;have I:=Vo T λw hw=>h w<|Af _ hw;rw[Cp,Cp,Al,Al];refine((Vn T he).append I).trans ?_;show(((dL n e).map (aD n)++(dL n e).map λx=>aD n<|go 1 n x)++_).Perm (((dL n e).map (aD n)++_)++((dL n e).map (λx=>aD n<|go 1 n x)++_));generalize (dL n e).map (aD n)=A;generalize ((dL n e).map λx=>aD n<|go 1 n x)=B;generalize (ws.flatMap av).map (aD n)=D;generalize ((ws.flatMap av).map λx=>aD n<|go 1 n x)=F;rw[Ar,Ar];refine OD A ?_;rw[<- Ar,<- Ar];exact TY _ Cq
noncomputable abbrev bu(n:Net):List (List End):=eI n (ends n) []
def q72(n:Net):xM n []:=λx _=>by simp
def si(T:aq n):pL n (ends n) [] (bu n):=Lx T (ends n) [] (λ_ h=>h)<|q72 n
variable{z:Str}
def Ly(T:aq n)(hz:z∈ag n):(((bu n).flatMap av).map<|aD n).count z=1:=by
 have I:=si T;rw[List.Nodup.count I.nd,BP];have:pos n z≠[]:=λq=>by have:=qI n z;rw[q,T z hz]at this;cases this
 obtain⟨p,hp⟩:=Gc _ this;have hp:=aK.mp hp;have:=I.cov p<|af.mpr ⟨z,hp⟩;rw[eY hp]at this
 rcases this with k | k
 ·cases k
 ·exact k
def q8l(T:aq n)(hx:x∈(bu n).flatMap av):two n x∈(bu n).flatMap av:=by
 obtain⟨w,hw,hx⟩:=Gb.mp hx;obtain⟨e,he,rfl⟩:=(si T).wk w hw;exact Gb.mpr ⟨_,hw,Lv T he hx⟩
theorem Lz{α β:Type}{f:α->β}:∀{l:List α},l.Nodup->(∀ a∈l,∀ b∈l,f a=f b->a=b)->(l.map f).Nodup
 | [],_,_=>Cd
 | a :: l,h,inj=>by
  have h:=Bh.mp h;refine Bh.mpr ⟨λhm=>?_,Lz h.2 λx hx y hy=>inj x (Af _ hx) y<|Af _ hy⟩;obtain⟨b,hb,q⟩:=Ak.mp hm;have:=inj a (Ae ..) b (Af _ hb) q.symm;exact h.1<|this ▸ hb
theorem LA{α β:Type}{f:α->β}:∀{l:List α},(l.map f).Nodup->∀ a∈l,∀ b∈l,f a=f b->a=b
 | c :: l,h,a,ha,b,hb,q=>by
  rw[Ba,Bh]at h
  rcases Ai.mp ha with ea | rj
  ·rcases Ai.mp hb with eb | hG
   ·rw[ea,eb]
   ·exact absurd (Ak.mpr ⟨b,hG,by rw[<- q,ea]⟩) h.1
  ·rcases Ai.mp hb with eb | hG
   ·exact absurd (Ak.mpr ⟨a,rj,by rw[q,eb]⟩) h.1
   ·exact LA h.2 a rj b hG q
theorem LD{α β:Type}{f:α->β}:∀{l:List α},(l.map f).Nodup->l.Nodup
 | [],_=>Cd
 | a :: l,h=>by
  rw[Ba,Bh]at h;exact Bh.mpr ⟨λk=>h.1<|Ak.mpr ⟨a,k,rfl⟩,LD h.2⟩
def Vp(T:aq n):(((bu n).flatMap av).map λx=>aD n<|go 1 n x).Perm (((bu n).flatMap av).map<|aD n):=by
 have I:=si T;refine nJ (Lz (LD I.nd) λx hx y hy q=>?_) (λz hz=>?_)<|by rw[Aa,Aa];exact An _
 ·have gH:=(I.new x hx).1;have CI:=(I.new y hy).1
  rcases q8u T gH CI q with c | c
  ·exact c
  ·exfalso
   have t:aD n (two n y)=aD n x:=by
    obtain⟨z,hz⟩:=af.mp gH;rw[c,eY hz,eY (dH T hz).1]
   have:=LA I.nd _ (q8l T hy) x hx t;obtain⟨z,hz⟩:=af.mp gH;exact(dH T hz).2.2<|c.symm.trans this
 ·obtain⟨x,hx,rfl⟩:=Ak.mp hz;obtain⟨y,hy⟩:=af.mp<|gK (c:=1) T (I.new x hx).1;rw[eY hy];refine Ds.mp ?_;rw[Ly T<|eV hy];exact Ff
def q0u(T:aq n)(hz:z∈ag n):((bu n).flatMap λw=>w.map<|aD n).count z=2:=by
 rw[(Vo T (si T).wk).count_eq,Ez,(Vp T).count_eq,Ly T hz]
theorem Vq(n:Net)(z:Str):∀ ws:List<|List End,(ws.flatMap λw=>w.map<|aD n).count z=(ws.map λw=>(w.map<|aD n).count z).sum
 | []=>rfl
 | w :: ws=>by rw[Cp,Ez,Vq n z ws];rfl
theorem Vr:∀(l:List Nat) (x:Nat),x∈l->x<=l.sum
 | y :: l,x,h=>by
  rw[Gj]
  rcases Ai.mp h with rfl | h
  ·omega
  ·have:=Vr l x h;omega
theorem q4v(T:aq n)(hz:z∈ag n)(hw:w∈bu n):(w.map<|aD n).count z<=2:=by
 have h:=q0u T hz;rw[Vq]at h;have:=Vr ((bu n).map λw=>(w.map<|aD n).count z) _<|Ak.mpr ⟨w,hw,rfl⟩;omega
def CL(hw:∀ c∈w,c∈ends n)(h:∀ z,z∈ss↔(w.map<|aD n).count z=1):∀ z∈ss,z∈ag n:=λz hz=>by
 have:=Ds.mp (by rw[(h z).mp hz];exact Ff);obtain⟨e,he,rfl⟩:=Ak.mp this;obtain⟨y,hy⟩:=af.mp<|hw e he;rw[eY hy];exact eV hy
theorem LI(T:aq n)(hw:w∈bu n)(h:∀ z,z∈ss↔(w.map<|aD n).count z=1)(hz:z∈ag n):decide (z∈ss)=cO n w z:=by
 have:=q4v T hz hw;unfold cO;refine decide_eq_decide.mpr<|(h z).trans ?_;omega
def k7r(T:aq n)(hw:w∈bu n)(h:∀ z,z∈ss↔(w.map<|aD n).count z=1):cC n ss=true:=by
 refine JY (k7h T<|o6 T (ends n) [] (λ_ h=>h) w hw) λz hz=>?_;rw[<- LI T hw h hz]
 by_cases k:z∈ss
 ·rw[BW k];exact Bm.mpr k
 ·rw[BR k];exact El.mpr λq=>k<|Bm.mp q
def k8j(T:aq n)(hf:HF n)(hN:(n.map (·.1)).Nodup)(h0:0 < n.length)(hw:w∈bu n)(h:∀ z,z∈ss↔(w.map<|aD n).count z=1):∃ sd,aN n ss sd:=by
 have W:=o6 T (ends n) [] (λ_ h=>h) w hw;have inT:=CL W.ends h;obtain⟨zs,sz,mz⟩:=ke<|ag n;refine Vf T hf.1 hN h0 (gq sz) mz inT λt ht=>?_;obtain⟨χ,hχ⟩:=hf.2.2 t ht;have:=k9k T W hχ;have e:bA zs t (λz=>decide (z∈ss))=bA zs t (λz=>decide ((w.map<|aD n).count z % 2=1)):=by
  unfold bA
  congr 1
  refine Ap λz hz=>?_;show(t z && decide (z∈ss))=(t z && decide ((w.map<|aD n).count z % 2=1));rw[LI T hw h<|(mz z).mp hz];rfl
 rw[e,CD (n:=n) (gq sz) λy hy=>?_]
 ·rwa[Bs]
 ·obtain⟨x,hx,rfl⟩:=Ak.mp hy;obtain⟨y,hy⟩:=af.mp<|W.ends x hx;rw[eY hy];exact(mz y).mpr<|eV hy
end Nt
namespace L2
open PySem PySem.Spec PyProof.Rows
variable{H:Hp}{σ:St}{X:Cx}
structure Xo(h:Heap)(e T:Addr)(C fl:Value):Prop where
 ex:∃ oe vs,h.get? e≈oe/\oe.cls=C/\oe.dict=none/\oe.data = .fields vs/\vs[1]?≈.ref T/\vs[2]?=some .none
 ne:T≠e
 tr:∃ oT ts,h.get? T≈oT/\oT.data = .fields ts/\ts[3]?≈fl
structure Kp(fs bad:↥9)(h h':Heap):Prop where
 keep:∀ b o,h.get? b≈o->b∉fs->b∉bad->h'.get? b≈o
 slot:∀ b o,h.get? b≈o->b∈fs->∃ sl,h'.get? b=some {o with slots:=sl}
def j8g(o:Obj)(f:Array Value->Array Value):(o.mapFields f).dict=o.dict:=by
 obtain⟨c,d,dt,sl⟩:=o;cases dt <;> rfl
variable{s:Shared}{E:Í}{A:Around}{M:Model}{Q:Unit->Shared->Prop}{head C:Value}{vs:Array Value}{oe:Obj}{outer:List Env}{env:Env}{Z:Heap}
theorem Vs{L e:Addr}{nx:Bool}(j8:A.frames=some (env :: outer))(hl:s.heap.FunFrames Z<|env :: outer)(hf:env.frame≈L)
  (he:s.heap.get? e≈oe) (hd:oe.data = .fields vs) (CM:oe.dict=none) (h1:1 < vs.size) (h2:vs[2]?=some .none)
  (h:∀ h' T,s.heap.get? T=none->Xo h' e T oe.cls .none->Kp (fe<|env :: outer) [e] s.heap h'->Q () {s with heap:=h'}) :
  wpAny M A (do let a <- frameOf env;let pl <- entryPlaceOf L nx;let b <- EntryCells.newEntry head a .none (rawInt L) .none pl;setField (.ref e) 1 b) (λ_ s'=>wpAny M A (setFlight (.ref e) none) Q E s') E s:=by
 have Vt:e∉fe (env :: outer):=λhm=>by
  obtain⟨_,o,ho,hn⟩:=hl.mem hm;rw[he]at ho;cases ho;exact hn vs hd
 refine BJ<|wpAny_frameOf_fun j8 hl hf λha sa=>?_;refine BJ<|wpAny_entryPlaceOf λpl ip=>?_;unfold EntryCells.newEntry newFields;refine BJ<|DN ?_<|ip.sizeOk5 _ _ _ _ _;generalize hT:({cls:= .type "traceback",dict:=none,data:= .fields ([head,.ref L,.none,rawInt L,.none]++(if pl.isEmpty then List.replicate 6 Value.none else pl)).toArray}:Obj)=oT;have ea:ha.get? e≈oe:=(sa.2.1 e Vt).trans he;have eb:(ha.push oT).get? e≈oe:=Aj _ ea;have tb:(ha.push oT).get? ha.objs.size≈oT:=At ha (by rw[<- hT];rfl);have LJ:ha.objs.size≠e:=Cz<|Av ea;refine DW eb hd h1 ?_;have dc:=RB hd (·.setIfInBounds 1 (Value.ref ha.objs.size));have ec:=Dd (Obj.mapFields (·.setIfInBounds 1 (Value.ref ha.objs.size))) eb<|PB dc;have tc:((ha.push oT).update e (Obj.mapFields (·.setIfInBounds 1 (Value.ref ha.objs.size)))).get? ha.objs.size≈oT:=(Cm _ _<|CK LJ).trans tb;unfold setFlight;refine BJ (JN ec dc (x:= .ref ha.objs.size) (by simp[h1]) ?_);rw[BP (show(Value.ref ha.objs.size != Value.none)=true from by simp)];have dT:oT.data = .fields ([head,.ref L,.none,rawInt L,.none]++(if pl.isEmpty then List.replicate 6 Value.none else pl)).toArray:=by rw[<- hT]
 have sz:3 < ([head,.ref L,.none,rawInt L,.none]++(if pl.isEmpty then List.replicate 6 Value.none else pl)).toArray.size:=by
  simp only[Ay,Ag,As,Er];omega
 refine DW tc dT sz<|h _ ha.objs.size (by
  cases hq:s.heap.get? ha.objs.size with
  | none=>rfl
  | some o=>
   obtain⟨sl,z⟩:=sa.2.2 _ o hq;exact absurd (Av z)<|De _) ?_ ?_
 ·have dd:=RB dT (·.setIfInBounds 3 ((none:Option Addr).elim Value.none λf=>rawInt f));refine⟨⟨_,_,(Cm _ _ LJ).trans ec,Obj.cls_mapFields _ _,by rwa[j8g],dc,by simp[h1],by rwa[Array.getElem?_setIfInBounds_ne<|∅]⟩,LJ,⟨_,_,Dd _ tc<|PB dd,dd,?_⟩⟩;rw[Array.getElem?_setIfInBounds_self_of_lt sz];rfl
 ·have kp:∀ b o,b≠e->ha.get? b≈o->(((ha.push oT).update e (Obj.mapFields (·.setIfInBounds 1 (Value.ref ha.objs.size)))).update ha.objs.size (Obj.mapFields (·.setIfInBounds 3 ((none:Option Addr).elim Value.none λf=>rawInt f)))).get? b≈o:=λb o hb q=>by
   rw[Cm _ _<|Cz<|Av q,Cm _ _<|CK hb];exact Aj _ q
  refine⟨λb o q nf nb=>kp b o (λz=>nb<|by simp[z])<|(sa.2.1 b nf).trans q,λb o q hb=>?_⟩;obtain⟨sl,z⟩:=sa.2.2 b o q;exact⟨sl,kp b _ (λy=>Vt<|y ▸ hb) z⟩
def q3q{L e:Addr}(j8:A.frames=some (env :: outer))(hl:s.heap.FunFrames Z<|env :: outer)(hf:env.frame≈L)
  (he:s.heap.get? e≈oe) (hd:oe.data = .fields vs) (CM:oe.dict=none) (h1:vs[1]?=some .none) (h2:vs[2]?=some .none)
  (h:∀ h' T,s.heap.get? T=none->Xo h' e T oe.cls .none->Kp (fe<|env :: outer) [e] s.heap h'->Q () {s with heap:=h'}) :
  wpAny M A (noteFrame (.ref e) env) (λ_ s'=>wpAny M A (setFlight (.ref e) none) Q E s') E s:=by
 unfold noteFrame;simp only[hf];refine BJ<|JN he hd h1 ?_;rw[BL<|∅];exact Vs j8 hl hf he hd CM (Fy.mp h1).1 h2 h
def q7t{L e T:Addr}(j8:A.frames=some (env :: outer))(hl:s.heap.FunFrames Z<|env :: outer)(hf:env.frame≈L)(x:Xo s.heap e T C .none)
  (h:∀ h' T',s.heap.get? T'=none->Xo h' e T' C .none->Kp (fe<|env :: outer) [e,T] s.heap h'->Q () {s with heap:=h'}) :
  wpAny M A (noteFrame (.ref e) env) (λ_ s'=>wpAny M A (setFlight (.ref e) none) Q E s') E s:=by
 obtain⟨⟨oe,vs,he,hc,CM,hd,h1,h2⟩,bD,⟨oT,ts,hT,dT,h3⟩⟩:=x;subst hc;unfold noteFrame;simp only[hf];refine BJ<|JN he hd h1 ?_;rw[BP (show(Value.ref T != Value.none)=true from by simp)];refine BJ<|JN hT dT h3 ?_;rw[BL (show ¬((Value.none == rawInt L)=true)from by simp[rawInt])];refine BJ<|DW hT dT (Fy.mp h3).1 ?_;have nT:∀ b,b≠T->(s.heap.update T (Obj.mapFields (·.setIfInBounds 3 Value.none))).get? b=s.heap.get? b:=λb hb=>Cm _ _<|CK hb;have Vu:∀ b o,s.heap.get? b≈o->(∀ vs,o.data ≠ .fields vs)->b≠T:=λb o q hn z=>by
  rw[z,hT]at q;cases q;exact hn ts dT
 have nf:T∉fe (env :: outer):=λhm=>by
  obtain⟨_,o,ho,hn⟩:=hl.mem hm;exact Vu T o ho hn rfl
 refine Vs j8 (hl.of_keeps λb o q hn=>⟨o,(nT b<|Vu b o q hn).trans q,rfl⟩) hf ((nT e<|CK bD).trans he) hd CM (Fy.mp h1).1 h2 λh' T' z x k=>h h' T' ?_ x ⟨λb o q n1 n2=>?_,λb o q hb=>?_⟩
 ·cases hq:s.heap.get? T' with
  | none=>rfl
  | some o=>
   by_cases y:T'=T
   ·have:=Dd (Obj.mapFields (·.setIfInBounds 3 Value.none)) hT<|PB<|RB dT _;rw[y]at z;exact absurd (this.symm.trans z)<|by simp
   ·have:=(nT T' y).trans hq;exact absurd (this.symm.trans z)<|by simp
 ·have n3:b≠T:=λy=>n2 (by simp[y]);exact k.keep b o ((nT b n3).trans q) n1 λy=>n2<|by simp at y;simp[y]
 ·exact k.slot b o ((nT b λy=>nf<|y ▸ hb).trans q) hb
variable{h h1:Heap}
def LL{fs f2 bad:↥9}{H':Hp}{h2:Heap}(u:Un fs [] H H' h h1)(k:Kp f2 bad h1 h2)(hf:∀ b o,h.get? b≈o->b∈f2->b∈fs)(hb:∀ b∈bad,h.get? b=none):Un fs [] H H' h h2:=by
 have nb:∀ b o,h.get? b≈o->b∉bad:=λb o q z=>by rw[hb b z]at q;cases q
 refine⟨λb o q n nf _=>k.keep b o (u.keep b o q n nf<|by simp) (λz=>nf<|hf b o q z)<|nb b o q,λb o q n hm _=>?_,u.free,λb o q _=>?_,u.fP,u.fc,u.fQ⟩
 ·obtain⟨sl,z⟩:=u.slot b o q n hm<|by simp
  by_cases y:b∈f2
  ·obtain⟨yP,z'⟩:=k.slot b _ z y;exact⟨yP,z'⟩
  ·exact⟨sl,k.keep b _ z y<|nb b o q⟩
 ·obtain⟨o',z⟩:=u.there b o q<|by simp
  by_cases y:b∈f2
  ·obtain⟨yP,z'⟩:=k.slot b _ z y;exact⟨_,z'⟩
  ·exact⟨o',k.keep b _ z y<|nb b o q⟩
variable{w:World}{P:Program}
def Vv{f2 bad:↥9}{h2:Heap}(x:cn P w H h1)(k:Kp f2 bad h1 h2)(hf:∀ b∈f2,H b=none)(hb:∀ b∈bad,H b=none):cn P w H h2:=λa o e=>by
 refine(x a o e).iE (λb u hh q=>k.keep b u q (λz=>?_) λz=>?_) (λ_ q=>q) λ_ _ q=>q
 ·have:=hf b z
  rcases hh with y | y
  ·rw[y,e]at this;cases this
  ·rw[y]at this;cases this
 ·have:=hb b z
  rcases hh with y | y
  ·rw[y,e]at this;cases this
  ·rw[y]at this;cases this
theorem x1r{a:Addr}{o:HO}(x:aB P w H h a o):∃ u,h.get? a≈u:=by
 cases o with
 | lst xs=>obtain⟨_,_,_,_,q⟩:=x;exact⟨_,q⟩
 | tup xs=>obtain⟨_,_,_,u,q,_⟩:=x;exact⟨_,q⟩
 | dK Y=>obtain⟨_,_,_,_,u,_,_,q,_⟩:=x;exact⟨_,q⟩
 | dT Y=>obtain⟨_,_,_,_,u,_,_,q,_⟩:=x;exact⟨_,q⟩
 | set S n=>obtain⟨u,_,_,_,q,_⟩:=x;exact⟨_,q⟩
 | ins C dx fs=>obtain⟨_,_,_,q,_⟩:=x;exact⟨_,q⟩
 | own y=>exact x
 | xd fs=>obtain⟨_,⟨_,_,_,q,_⟩,_⟩:=x;exact⟨_,q⟩
 | yL lo hi=>obtain⟨_,_,_,q⟩:=x;exact⟨_,q⟩
 | b7 ob u=>obtain⟨q,_⟩:=x;exact⟨_,q⟩
 | oz ps=>exact⟨_,x⟩
 | met f y=>exact⟨_,x⟩
 | ext φ=>obtain⟨_,q,_⟩:=x;exact q
def XF(P:Program)(w:World):lT:=λouter H s E e s'=>∃ea T C H',e = .ref ea/\E C none H'/\s'.os=s.os/\AllBare s'.gens/\Un (fe outer) [] H H' s.heap s'.heap/\cn P w H' s'.heap/\Xo s'.heap ea T C .none /\
 s.heap.get? ea=none/\s.heap.get? T=none/\H' ea=none/\H' T=none
variable{cd:Value}{f b:Addr}{scope:Scope}{qual:Str}{N:Ð}{mg:Ñ}{K:PySem.W.Frag}{Ha:Hp}{O:Ï}
section
variable{E:XK}
def Vw:fe (envOfC qual scope ↑s f cd :: outer)=↑s :: fe outer:=rfl
theorem xN{fs ex:↥9}{Hb:Hp}(u:Un fs ex Ha Hb h h1)(hx:b∉ex)(n:h1.get? b=none):h.get? b=none:=by
 cases q:h.get? b with
 | none=>rfl
 | some o=>obtain⟨o',z⟩:=u.there b o q hx;rw[n]at z;cases z
theorem LN(x:cn P w Ha h1)(n:h1.get? b=none):Ha b=none:=by
 cases q:Ha b with
 | none=>rfl
 | some o=>
  exfalso
  obtain⟨u,z⟩:=x1r<|x b o q;rw[n]at z;cases z
def q7f{H1:Hp}{s1:Shared}{e T:Addr}(I:Inv (dv (XF P w) P w K mg Z N qual scope f cd A outer s H E) O σ H1 s1)(x:Xo s1.heap e T C .none)(hE:E C none H1)
  (n1:s.heap.get? e=none) (n2:s.heap.get? T=none) (n3:H1 e=none) (n4:H1 T=none):(dv (XF P w) P w K mg Z N qual scope f cd A outer s H E).xe (.ref e) s1:=by
 show wpAny (model P w) (A.deeper<|envOfC qual scope ↑s f cd) (leaving (envOfC qual scope ↑s f cd)<|.ref e) _ _ s1;unfold leaving;refine BJ<|q7t I.ok.frames I.stack rfl x λh' T' z x' k=>?_;refine⟨e,T',C,H1,rfl,hE,I.os,I.bare,LL I.Z k (λb o q hb=>?_) λb hb=>?_,Vv I.aH k (λb hb=>I.dW b hb) λb hb=>?_,x',n1,xN (ex:=[]) I.Z (by simp) z,n3,LN I.aH z⟩
 ·rw[Vw]at hb
  rcases Ai.mp hb with y | y
  ·exact absurd (Av q)<|by rw[y];exact De _
  ·exact y
 ·rcases Ai.mp hb with y | y
  ·rwa[y]
  ·rwa[Ad.mp y]
 ·rcases Ai.mp hb with y | y
  ·rwa[y]
  ·rwa[Ad.mp y]
def x5u:mU (XF P w) (dv (XF P w) P w K mg Z N qual scope f cd A outer s H E) E:=by
 rintro O σ H1 s1 e s2 I ⟨ea,T,C,H',rfl,hE,os,bare,un,aH,x,n1,n2,n3,n4⟩;have I2:=I.call' os un aH bare (λb z=>absurd z<|by simp);exact q7f I2 x hE (xN (ex:=[]) I.Z (by simp) n1) (xN (ex:=[]) (Hb:=H1) I.Z (by simp) n2) n3 n4
end
abbrev n8:Ò:=[.type "ValueError",.type "Exception",.type "BaseException",.type "object"]
def XC(K:PySem.W.Frag)(C:Addr):Prop:=PySem.W.excIn K C n8 "ValueError.__new__" = true
def XC.obj{C:Addr}(q:XC K C)(X:K.In h):∃ bm N nm qn bs hdct sn sub ab col dd k0 k1 k2 k3 k5 mN,h.get? C=some (excClassObj nm qn C N bs bm hdct sn sub ab col dd k0 k1 k2 k3 k5 "ValueError.__new__")/\h.Ns N mN/\mN "__init__" = none/\OwnTail h n8 bm:=by
 unfold XC PySem.W.excIn at q
 split at q
 ·rename_i dd cd sl ho
  split at q
  ·rename_i D bm k0 k1 k2 k3 n k5 hm hs;simp only[Cb,HY,LQ]at q;obtain⟨⟨⟨⟨⟨eD,en⟩,xO⟩,ht⟩,aH⟩,xh⟩:=q;obtain⟨nm,bs,mro,ns,qn,hd,sn,sub,ab,col,del⟩:=cd
   dsimp only at hm xO aH xh
   subst eD en hm xO;have esl:sl=#[k0,k1,k2,k3,some<|.builtin "ValueError.__new__",k5]:=by
    cases sl;simp only at hs;rw[hs]
   subst esl;exact⟨bm,ns,nm,qn,bs,hd,sn,sub,ab,col,dd,k0,k1,k2,k3,k5,_,X _ _ ho,.of_isNs<|PySem.W.isNs_of_in X aH,PySem.W.nsMap_none_of_in X aH xh,PySem.W.tail_of_in X ht⟩
  ·cases q
 ·cases q
variable{x:Str}
section
variable{D:Ends}{rest:Ô}
def Rz(X:Cx)(E:St->XK):Prop:=∀O σ H s h' e C args,↥3->Heap.MadeExcOf s.heap h' e (.ref C) args->E σ (.ref C) none H->X.xe (.ref e) {s with heap:=h'}
def q1p{E:St->XK}(hz:Rz X E){C:Addr}{a:Expr}{np cp pos:Pos}(hm:X.mg x≈.ref C)(hC:XC X.K C)(hc:X.calm=true)(h:Ea X [a] σ H λvs H1=>vs.length<=sizeLine/\E σ (.ref C) none H1)(hg:Gl X x:=by rfl)(dN:(x == ("__debug__" : Str))=false:=by decide)
  (he:starEach [a] X.env=(false,eval a X.env) :: starEach [] X.env:=by rfl):Run X (.Raise (some<|.Call (.Name x np) [a] [] cp) none pos :: rest) D σ H:=by
 refine lY (t:=λD σ H=>Ea X [a] σ H λvs H1=>vs.length<=sizeLine/\E σ (.ref C) none H1) ?_ h;intro O s σ H D I h;obtain⟨bm,N,nm,qn,bs,hdct,sn,sub,ab,col,dd,k0,k1,k2,k3,k5,mN,oC,oN,oi,oT⟩:=hC.obj I.ok.mod.uQ;refine wpAny_Raise_call_subT (nm:=nm) (q:=qn) (N:=N) (bs:=bs) (bm:=bm) (hdct:=hdct) (sn:=sn) (sub:=sub) (ab:=ab) (col:=col) (dd:=dd) (k0:=k0) (k1:=k1) (k2:=k2) (k3:=k3) (k5:=k5) PySem.F.excBase_ValueError (mN:=mN) (oT.hasType PySem.F.excBase_ValueError.hasBase) (I.ok.hd hc) (by rw[he];rfl) oi<|Ox I hg hm ⟨rfl,?_⟩ dN;have q:=h.run cp O s I;rw[he]at q ⊢;refine JW<|aO q λus s2 ⟨vs,H2,I2,r,z2,q2⟩=>⟨rfl,by rwa[<- r.length],I2.bk _ _ oC,oN.keeps I2.bk,oT.keeps I2.bk,λh' e hx=>hz O σ H2 s2 h' e C us I2 hx q2⟩
end
variable{sp:Sp}{ps:Ð}{fd:FuncData}{st:Stmt}
section
variable{E:XK}
def q95{h':Heap}(k:∀ b o,h.get? b≈o->h'.get? b≈o):Kp [] [] h h':=⟨λb o q _ _=>k b o q,λb o q z=>absurd z<|by simp⟩
def x4y:Rz (dv (XF P w) P w K mg Z N qual scope f cd A outer s H E) (λ_=>E):=by
 intro O σ H1 s1 h' e C args I hx hE;obtain⟨t,he,_,_⟩:=hx.there;show wpAny (model P w) (A.deeper<|envOfC qual scope ↑s f cd) (leaving (envOfC qual scope ↑s f cd)<|.ref e) _ _ _;unfold leaving;have n0:=LN I.aH hx.new;have k1:=q95 hx.keeps;refine BJ<|q3q I.ok.frames (I.stack.of_keeps λb o q _=>⟨o,hx.keeps b o q,rfl⟩) rfl he rfl rfl rfl rfl λh2 T z x k=>?_;have LO:=I.aH.kept hx.keeps;have un1:=LL I.Z k1 (λb o q hb=>absurd hb<|by simp) λb hb=>absurd hb (by simp);have nT:s1.heap.get? T=none:=by
  cases q:s1.heap.get? T with
  | none=>rfl
  | some o=>have:=hx.keeps _ _ q;exact absurd (this.symm.trans z)<|by simp
 have ns:=xN (ex:=[]) (Hb:=H1) I.Z (by simp) hx.new;refine⟨e,T,.ref C,H1,rfl,hE,I.os,I.bare,LL un1 k (λb o q hb=>?_) λb hb=>?_,Vv LO k (λb hb=>I.dW b hb) λb hb=>?_,x,ns,xN (ex:=[]) (Hb:=H1) I.Z (by simp) nT,n0,LN I.aH nT⟩
 ·rw[Vw]at hb
  rcases Ai.mp hb with y | y
  ·exact absurd (Av q)<|by rw[y];exact De _
  ·exact y
 ·rwa[Ad.mp hb]
 ·rwa[Ad.mp hb]
def LU(N:Ð)(qual:Str)(scope:Scope)(P:Program)(w:World)(K:PySem.W.Frag)(mg:Ñ)(Z:Heap)(b:qu):Cx:=dv (XF P w) P w K mg Z N qual scope b.f b.bL b.A b.outer b.s b.H b.E
def bB.gx{k:Nat}(F:bB K x qual st f fd)(S:ak N ps<|aW st)(len:∀ vs H Q E,sp vs H Q E->vs.length=ps.length)
  (cF:∀b H vs Q,bH k (b.A.deeper<|envOfC qual (aW st) b.s.heap.objs.size b.f b.bL)->sp vs H Q b.E->Run (LU N qual (aW st) P w K mg Z b) (gY st) (En Q) (start N vs) H):aE P w K mg Z (XF P w) (k+1) f fd ps sp:=by
 obtain⟨oc,od,kV,doc,pm,an,bL,ct,lU,rfl,lk,i4⟩:=F.ex;refine O5 lk i4 S len λA outer s H vs Q E hr eS=>?_;exact⟨_,qj,cF ⟨f,bL,A,outer,s,H,E⟩ H vs Q hr eS⟩
def x4t{b:qu}:mU (XF P w) (LU N qual scope P w K mg Z b) b.E:=x5u
def rzX{b:qu}:Rz (LU N qual scope P w K mg Z b) (λ_=>b.E):=x4y
end
structure fD(P:Program)(w:World)(K:PySem.W.Frag)(mg:Ñ)(Z:Heap)(k:Nat)(x:Str)(ps:Ð)(sp:Sp):Prop where
 ex:∃ f fd,aE P w K mg Z (XF P w) k f fd ps sp/\Binds K fd ps []/\PySem.W.keepIn K (.ref f)=true/\mg x≈.ref f
def fD.mono{P:Program}{w:World}{K:PySem.W.Frag}{mg:Ñ}{Z:Heap}{j k:Nat}{x:Str}{ps:Ð}{sp:Sp}(h:fD P w K mg Z j x ps sp)(le:j<=k):fD P w K mg Z k x ps sp:=
 let ⟨f,fd,F,r⟩:=h.ex;⟨f,fd,F.mono le,r⟩
variable{es:Ó}{e:Expr}
def LV{k:Nat}{Q:VK}{E:XK}{p pos:Pos}(G:fD X.U X.w X.K X.mg X.Z k x ps sp)(hr:bH k X.A)(hx:mU (XF X.U X.w) X E)
  (h:Ea X (e :: es) σ H λvs H1=>sp vs H1 Q E) (hg:Gl X x:=by rfl) (dN:(x == ("__debug__" : Str))=false:=by decide) (hs:noStar (e :: es)=true:=by rfl):Ev X (.Call (.Name x p) (e :: es) [] pos) σ H Q:=
 let ⟨_,_,F,b,kp,m⟩:=G.ex;P5 F hr m kp b hx h hg dN hs
def Df.LW{k:Nat}(d:Df K x st)(X:K.In h)(G:h.Ns mainGlobals mg)
  (hb:∀kV doc pm an bL ct us,us.length=ps.length->bindArgs (PySem.W.fnOf x x (lV st) (gY st) (aW st) .none kV doc pm an bL ct) ⟨us,[]⟩=pure (ps.zip us))
  (ok:∀{f}{fd},bB K x x st f fd->aE P w K mg Z (XF P w) k f fd ps sp):fD P w K mg Z k x ps sp:=
 let ⟨f,fd,a,F⟩:=d;⟨f,fd,ok F,F.binds hb,F.kp,MP X G a⟩
def Vx(K:PySem.W.Frag)(C S:Addr):Bool:=match K.lookup C with
 | some ⟨_,_,.cls cd,_⟩=>cd.mro.contains<|.ref S
 | _=>false
open PySem.W
variable{U:Program}
section
variable{K:Frag}{a C:Addr}{o:Obj}
def Vy(K:Frag)(C:Addr):Bool:=findIn K (.ref C) "__getattribute__" == some (some<|.builtin "BaseException.__getattribute__") && findIn K (.ref C) "__getattr__" == some none && findIn K (.ref C) "__class__" == some (some<|.builtin "object.__class__") &&
 mroIn K C (.type "object") == some true && mroIn K C (.type "BaseException") == some true && (clsIn K C).isSome
end
end L2
namespace L2
open PySem PySem.Spec PyProof.Rows
variable{E:Í}{U:Program}
open bE
variable{es:Ó}
end L2
namespace L2
open PySem PySem.Spec PyProof.Rows bP
variable{acc:Value}{H:Hp}{σ:St}{scope:Scope}{X:Cx}
variable{inner:Sem Unit}{ifs:Ó}
end L2
namespace Nt
open PySem L2 Classical
def jw{α:Type}(k:Nat)(w:List α):List α:=av<|w.drop k
def gA(k:Nat):Nat->List (List End)->List (Nat×End)
 | _,[]=>[]
 | m,w :: ws=>((jw k w).map λe=>(m,e))++gA k (m+1) ws
def jx(k:Nat)(ws:List<|List End):List (Nat×End):=gA k 0 ws
theorem Vz(k:Nat):∀m ws,(gA k m ws).map (·.2)=ws.flatMap (jw k)
 | m,[]=>rfl
 | m,w :: ws=>by
  unfold gA;rw[Al,Vz k (m+1) ws,Bs,Cp]
  congr 1
  exact List.map_id' _
variable{e:End}{n:Net}
theorem LX:jw 1 (walker n e)=(av<|walker n e).map (go 1 n):=by
 unfold walker jw;have l:=rd n e<|wu n e;apply Dy;intro i;rw[Ah,qZ,qZ,Gn]
 by_cases h:i < wu n e
 ·rw[show 1+2 * i=2 * i+1 by omega,AQ n e _ i h,rg n e _ i h];rfl
 ·rw[Bg ⋯,Bg<|⋯];rfl
theorem VA{n:Net}:∀{ws:List (List End)},(∀ w∈ws,∃ e,e∈ends n/\w=walker n e)->ws.flatMap (jw 1)=(ws.flatMap av).map (go 1 n)
 | [],_=>rfl
 | w :: ws,h=>by
  obtain⟨e,_,rfl⟩:=h w<|Ae ..;rw[Cp,Cp,Al,LX,VA λv hv=>h v<|Af _ hv]
theorem VC(T:aq n){k:Nat}(hk:k<=1):((jx k<|bu n).map λp=>aD n p.2).Perm (((bu n).flatMap av).map<|aD n):=by
 have e:((jx k<|bu n).map λp=>aD n p.2)=((bu n).flatMap<|jw k).map (aD n):=by
  unfold jx;rw[<- Vz k 0<|bu n,Bs];rfl
 rw[e]
 match k,hk with
 | 0,_=>exact List.Perm.refl _
 | 1,_=>
  rw[VA (si T).wk,Bs];exact Vp T
def q1k(T:aq n){k:Nat}(hk:k<=1):((jx k<|bu n).map λp=>aD n p.2).Nodup:=(VC T hk).nodup_iff.mpr (si T).nd
variable{z:Str}
def q6u(T:aq n){k:Nat}(hk:k<=1):z∈((jx k<|bu n).map λp=>aD n p.2)↔z∈ag n:=by
 rw[(VC T hk).mem_iff];refine⟨λh=>?_,λh=>Ds.mp<|by rw[Ly T h];exact Ff⟩;obtain⟨x,hx,rfl⟩:=Ak.mp h;obtain⟨y,hy⟩:=af.mp ((si T).new x hx).1;rw[eY hy];exact eV hy
noncomputable def fE(n:Net)(k:Nat)(z:Str):List (Nat×End):=(jx k<|bu n).filter λp=>decide (aD n p.2=z)
theorem VE{α:Type}{f:α->Str}:∀{l:List α},(l.map f).Nodup->∀{p},p∈l->(l.filter λx=>decide (f x=f p))=[p]
 | a :: l,hn,p,hp=>by
  rw[Ba,Bh]at hn;rw[Do]
  by_cases h:f a=f p
  ·rw[BP<|BW h];have e:a=p:=by
    rcases Ai.mp hp with q | q
    ·exact q.symm
    ·exact absurd (by rw[h];exact Ak.mpr ⟨p,q,rfl⟩) hn.1
   subst e
   congr 1
   rw[Gw];intro x hx q;exact hn.1<|by rw[<- BX q];exact Ak.mpr ⟨x,hx,rfl⟩
  ·rw[BL λq=>h<|BX q]
   rcases Ai.mp hp with q | q
   ·exact absurd (by rw[q]) h
   ·exact VE hn.2 q
def VI(T:aq n){k:Nat}(hk:k<=1)(hz:z∈ag n):∃ p,p∈jx k (bu n)/\aD n p.2=z/\fE n k z=[p]:=by
 obtain⟨p,hp,rfl⟩:=Ak.mp<|(q6u T hk).mpr hz;exact⟨p,hp,rfl,VE (q1k T hk) hp⟩
theorem LY{n:Net}(T:aq n):∀es told,(∀ e∈es,e∈ends n)->∀i w,(eI n es told)[i]?=some w ->
  ∃ e l r,es=l++e :: r/\(∀ x∈l,aD n x∈told++(((eI n es told).take i).flatMap av).map (aD n))/\aD n e∉told++(((eI n es told).take i).flatMap av).map (aD n)/\w=walker n e
 | [],told,_,i,w,h=>by simp[eI]at h
 | e :: r,told,hE,i,w,h=>by
  have hr:=λa ha=>hE a<|Af _ ha;unfold eI at h ⊢
  by_cases c:aD n e∈told
  ·rw[BP c]at h ⊢;obtain⟨x,l,r',h1,h2,h3,h4⟩:=LY T r told hr i w h;refine⟨x,e :: l,r',by rw[h1];rfl,λy hy=>?_,h3,h4⟩
   rcases Ai.mp hy with q | q
   ·rw[q];exact Bb _ c
   ·exact h2 y q
  ·rw[BL c]at h ⊢
   match i with
   | 0=>
    cases h;refine⟨e,[],r,rfl,λy hy=>(nomatch hy),?_,rfl⟩
    simpa using c
   | i+1=>
    obtain⟨x,l,r',h1,h2,h3,h4⟩:=LY T r (told++(av<|walker n e).map (aD n)) hr i w h;have eq:(told++(((walker n e :: eI n r (told++(av<|walker n e).map (aD n))).take<|i+1).flatMap av).map (aD n))=(told++(av<|walker n e).map (aD n))++(((eI n r<|told++(av<|walker n e).map (aD n)).take i).flatMap av).map (aD n):=by
     rw[List.take_succ_cons,Cp,Al,Ar]
    rw[eq];refine⟨x,e :: l,r',by rw[h1];rfl,λy hy=>?_,h3,h4⟩
    rcases Ai.mp hy with q | q
    ·rw[q];refine Bb _<|Au _<|Ak.mpr ⟨e,?_,rfl⟩;exact(mH T<|hE e<|Ae ..).mpr ⟨0,rfl⟩
    ·exact h2 y q
noncomputable def VM(n:Net)(i:Nat):Ð:=(((bu n).take i).flatMap av).map<|aD n
variable{w:List End}{i:Nat}
def q0b(T:aq n)(h:(bu n)[i]?≈w):∃ e l r,ends n=l++e :: r/\(∀ x∈l,aD n x∈VM n i)/\aD n e∉VM n i/\w=walker n e:=by
 obtain⟨e,l,r,h1,h2,h3,h4⟩:=LY T (ends n) [] (λ_ h=>h) i w h;exact⟨e,l,r,h1,h2,h3,h4⟩
def k28(T:aq n)(h:e∈ends n):(walker n e)[0]?≈e:=by
 obtain⟨k,p,_⟩:=t6 T h;unfold walker;rw[wv p];have:=rg n e k 0 p.pos;exact this
structure iD(n:Net)(s:Str->Bool)(c:Nat->Bool)(χ:End->Bool):Prop where
 face:aY n s χ
 cut:∀ e z,aJ n e≈z->s z=(c e.1 ^^ c (↥5).1)
def jW(n:Net)(c:Nat->Bool)(χ:End->Bool)(x:End):Bool:=c x.1 ^^ χ (other n x)
def uw(c:Nat->Bool)(χ:End->Bool)(y:End):Bool:=c y.1 ^^ χ y
variable{χ:End->Bool}{c:Nat->Bool}{s:Str->Bool}{y:End}{ws:List (List End)}
def iD.odd(T:aq n)(D:iD n s c χ){x:End}(hx:x∈ends n):uw c χ (go 1 n x)=jW n c χ x:=by
 obtain⟨z,hz⟩:=af.mp hx;have h1:=D.face.go x hx;rw[tZ T hx]at h1;have h2:=D.face.dj x z hz;have h3:=D.cut x z hz;unfold uw jW;rw[h1,show(go 1 n x).1=(other n x).1 from rfl];rw[h2]at h3
 revert h3
 cases χ x <;> cases χ (other n x) <;> cases c x.1 <;> cases c (other n x).1 <;> simp
def iD.even(T:aq n)(D:iD n s c χ)(hy:y∈ends n):jW n c χ (go (-1) n y)=uw c χ y:=by
 obtain⟨z,hz⟩:=af.mp hy;have h1:=D.face.go _<|cR T<|gK T hy (c:=-1);rw[Vd T hy]at h1;have h2:=D.face.dj y z hz;have h3:=D.cut y z hz;unfold uw jW;rw[<- h1,show(go (-1) n y).1=(other n y).1 from rfl];rw[h2]at h3
 revert h3
 cases χ y <;> cases χ (other n y) <;> cases c y.1 <;> cases c (other n y).1 <;> simp
def iD.two(T:aq n)(D:iD n s c χ){x:End}(hx:x∈ends n):jW n c χ (Nt.two n x)=jW n c χ x:=by
 rw[show Nt.two n x=go (-1) n (go 1 n x)from rfl,D.even T<|gK T hx,D.odd T hx]
theorem iD.it(T:aq n)(D:iD n s c χ){x:End}(hx:x∈ends n):∀ k,jW n c χ (Nt.it (Nt.two n) k x)=jW n c χ x
 | 0=>rfl
 | k+1=>by
  show jW n c χ (Nt.two n<|Nt.it (Nt.two n) k x)=_;rw[D.two T<|ki T hx k,D.it T hx k]
theorem VO(k:Nat):∀m ws{i}{e},(i,e)∈gA k m ws->∃ j w,ws[j]?≈w/\i=m+j/\e∈jw k w
 | m,[],i,e,h=>by simp[gA]at h
 | m,w :: ws,i,e,h=>by
  unfold gA at h
  rcases Am.mp h with h | h
  ·obtain⟨x,hx,q⟩:=Ak.mp h;cases q;exact⟨0,w,rfl,rfl,hx⟩
  ·obtain⟨j,v,h1,h2,h3⟩:=VO k (m+1) ws h;exact⟨j+1,v,h1,⋯,h3⟩
def LZ{k:Nat}(h:(i,e)∈jx k ws):∃ w,ws[i]?≈w/\e∈jw k w:=by
 obtain⟨j,w,h1,h2,h3⟩:=VO k 0 ws h;rw[Ex]at h2;subst h2;exact⟨w,h1,h3⟩
noncomputable def jX(n:Net)(c:Nat->Bool)(χ:End->Bool)(i:Nat):Bool:=match (bu n)[i]? with
 | some (e :: _)=>jW n c χ e
 | _=>false
theorem VQ(T:aq n)(he:e∈ends n)(h:(bu n)[i]?≈walker n e):jX n c χ i=jW n c χ e:=by
 have h0:=k28 T he;unfold jX;rw[h];cases hw:walker n e with
 | nil=>rw[hw]at h0;cases h0
 | cons a l=>rw[hw]at h0;cases h0;rfl
def L0(T:aq n)(h:(bu n)[i]?≈w):∃ e,e∈ends n/\w=walker n e:=by
 obtain⟨e,l,r,heq,_,_,hw⟩:=q0b T h;exact⟨e,by rw[heq];simp,hw⟩
def iD.kG(T:aq n)(D:iD n s c χ){x:End}(h:(i,x)∈jx 0 (bu n)):x∈ends n/\jW n c χ x=jX n c χ i:=by
 obtain⟨w,hw,hx⟩:=LZ h;obtain⟨e,he,rfl⟩:=L0 T hw;have hx:=hx;obtain⟨k,rfl⟩:=(mH T he).mp hx;rw[VQ T he hw];exact⟨ki T he k,D.it T he k⟩
def iD.xP(T:aq n)(D:iD n s c χ)(h:(i,y)∈jx 1 (bu n)):y∈ends n/\uw c χ y=jX n c χ i:=by
 obtain⟨w,hw,hy⟩:=LZ h;obtain⟨e,he,rfl⟩:=L0 T hw;rw[LX]at hy;obtain⟨x,hx,rfl⟩:=Ak.mp hy;have hx:=hx;obtain⟨k,rfl⟩:=(mH T he).mp hx;rw[VQ T he hw];have:=ki T he k;exact⟨gK T this,by rw[D.odd T this,D.it T he k]⟩
def iD.dj(T:aq n)(D:iD n s c χ){p q:Nat×End}(hp:p∈jx 0 (bu n))(hq:q∈jx 1 (bu n))(h:aD n p.2=aD n q.2):s (aD n p.2)=(jX n c χ p.1 ^^ jX n c χ q.1):=by
 obtain⟨i,x⟩:=p;obtain⟨j,y⟩:=q;obtain⟨hx,e1⟩:=D.kG T hp;obtain⟨hy,e2⟩:=D.xP T hq;show s (aD n x)=(jX n c χ i ^^ jX n c χ j);obtain⟨z,hz⟩:=af.mp hx;have h2:=D.face.dj x z hz;have h3:=D.cut x z hz;rw[<- e1,<- e2,eY hz];unfold jW uw
 rcases CF T hx hy h with k | k
 ·subst k;rw[h2];cases χ y <;> cases χ (other n y) <;> cases c y.1 <;> rfl
 ·subst k;rw[h3];cases χ (other n x) <;> cases c x.1 <;> cases c (other n x).1 <;> rfl
def q9s{α:Type}(k:Nat):jw k ([]:List α)=[]:=by unfold jw;rw[List.drop_nil];rfl
theorem VR(k i:Nat):∀m ws,((gA k m ws).filter λp=>decide (p.1=i))=if m<=i then((jw k<|ws[i - m]?.getD []).map λe=>(i,e))else []
 | m,[]=>by
  rw[List.getElem?_nil];show []=if m<=i then((jw k ([]:List End)).map λe=>(i,e))else [];rw[q9s]
  split <;> rfl
 | m,w :: ws=>by
  unfold gA;rw[Cv,VR k i (m+1) ws]
  by_cases h:m=i
  ·subst h;rw[BP<|An _,BL ⋯,Bp,RQ];rw[List.filter_eq_self.mpr λa ha=>by obtain⟨x,_,rfl⟩:=Ak.mp ha;exact BW rfl];rfl
  ·rw[Gw.mpr λa ha=>by obtain⟨x,_,rfl⟩:=Ak.mp ha;exact λq=>h<|BX q,Hk]
   by_cases c:m<=i
   ·rw[BP c,BP ⋯,show i - m=(i - (m+1))+1 by omega];rfl
   ·rw[BL c,BL<|⋯]
theorem VS{α:Type}(f:α->Str)(z:Str):∀ l:List α,(l.map f).count z=(l.filter λx=>decide (f x=z)).length
 | []=>rfl
 | a :: l=>by
  rw[Ba,Dl,VS f z l,Do]
  by_cases h:f a=z
  ·rw[BP (by rw[h];exact FZ z),BP<|BW h,As]
  ·rw[BL (by rwa[HY]),BL λq=>h<|BX q];rfl
def VU{k:Nat}{p:Nat×End}(hp:fE n k z=[p])(hw:(bu n)[i]?≈w):((jw k w).map<|aD n).count z=if p.1=i then 1 else 0:=by
 have h1:=VR k i 0<|bu n;rw[BP<|Bx _,VP,hw]at h1;have h1:(jx k<|bu n).filter (λp=>decide (p.1=i))=(jw k w).map λe=>(i,e):=h1;have h2:(((jx k<|bu n).filter λp=>decide (p.1=i)).filter λp=>decide (aD n p.2=z))=(fE n k z).filter λp=>decide (p.1=i):=by
  unfold fE;rw[List.filter_filter,List.filter_filter]
  congr 1
  funext p
  exact Fo ..
 rw[h1,hp,List.filter_map]at h2;have h3:=BZ List.length h2;rw[Aa]at h3;rw[VS];refine Eq.trans h3 ?_;rw[Do]
 by_cases c:p.1=i
 ·rw[BP<|BW c,BP c];rfl
 ·rw[BL λq=>c<|BX q,BL c];rfl
def q3u(T:aq n){p q:Nat×End}(hp:fE n 0 z=[p])(hq:fE n 1 z=[q])(hw:(bu n)[i]?≈w):cO n w z=(decide (p.1=i) ^^ decide (q.1=i)):=by
 obtain⟨e,he,rfl⟩:=L0 T hw;have c0:=VU hp hw;have c1:=VU hq hw;rw[LX,Bs]at c1;have c0:((dL n e).map<|aD n).count z=_:=c0;have c1:((dL n e).map λx=>aD n<|go 1 n x).count z=_:=c1;unfold cO;rw[(Vn T he).count_eq,Ez,c0,c1]
 by_cases a:p.1=i <;> by_cases b:q.1=i <;> simp[a,b]
theorem CO{m a:Nat}(h:a < m)(f:Nat->Bool):ao ((List.range m).map λi=>f i && decide (a=i))=f a:=by
 induction m with
 | zero=>omega
 | succ m ih=>
  rw[Dk,Al,nN];show(_ ^^ ((f m && decide (a=m)) ^^ false))=_;rw[Fx]
  by_cases c:a=m
  ·subst c;have:ao ((List.range a).map λi=>f i && decide (a=i))=false:=by
    have e:((List.range a).map λi=>f i && decide (a=i))=(List.range a).map λ_=>false:=Ap λi hi=>by
     rw[BR (λq=>by have:=Bo.mp hi;omega),Ep]
    rw[e,gM]
   rw[this,BW rfl,VJ,Fw]
  ·rw[ih ⋯,BR c,Ep,Fx]
def k7c(T:aq n)(ch:Nat->Bool){p q:Nat×End}(hp:fE n 0 z=[p])(hq:fE n 1 z=[q]) :
  ao ((List.range (bu n).length).map λi=>ch i && cO n ((bu n)[i]?.getD []) z)=(ch p.1 ^^ ch q.1):=by
 have lt:∀{k:Nat} {p:Nat×End},fE n k z=[p]->p.1 < (bu n).length:=λ{k p} h=>by
  have:p∈fE n k z:=by rw[h];exact Ad.mpr rfl
  obtain⟨w,hw,_⟩:=LZ (i:=p.1) (Bf.mp this).1;exact(Ac.mp hw).1
 have e:((List.range (bu n).length).map λi=>ch i && cO n ((bu n)[i]?.getD []) z)=(List.range (bu n).length).map λi=>(ch i && decide (p.1=i)) ^^ (ch i && decide (q.1=i)):=Ap λi hi=>by
  have hw:=Ab<|Bo.mp hi;have ho:=q3u T hp hq hw;rw[hw,Fe,ho];cases ch i <;> rfl
 rw[e,fK,CO<|lt hp,CO<|lt hq]
structure cS(n:Net)(cs:List<|List Str):Prop where
 len:cs.length=(bu n).length
 mem:∀(i:Nat) c w,cs[i]?≈c->(bu n)[i]?≈w->∀ z,z∈c↔(w.map<|aD n).count z=1
 gL:∀ c∈cs,b8 c
variable{cs:List Ð}
section
variable{ss zs:Ð}
def cS.at'(C:cS n cs)(T:aq n)(hi:i < (bu n).length)(hz:z∈ag n):decide (z∈cs[i]?.getD [])=cO n ((bu n)[i]?.getD []) z:=by
 have h1:=Ab hi;have h2:=Ab (show i < cs.length by rwa[C.len]);rw[h1,h2];exact LI T (Bt hi) (C.mem i _ _ h2 h1) hz
theorem L3{α:Type}(g f:α->Bool):∀ l:List α,ao ((l.filter g).map f)=ao (l.map λi=>g i && f i)
 | []=>rfl
 | a :: l=>by
  rw[Do];have ih:=L3 g f l;cases h:g a with
  | true=>
   rw[BP rfl];show(f a ^^ ao ((l.filter g).map f))=((g a && f a) ^^ ao (l.map λi=>g i && f i));rw[ih,h,Gh]
  | false=>
   rw[BL ∅,ih];show _=((g a && f a) ^^ ao (l.map λi=>g i && f i));rw[h,Gq,Fw]
end
abbrev ce(n:Net):Ð:=n.map (·.1)
noncomputable def bJ(n:Net)(p:Str->Bool)(z:Str):Bool:=ao<|n.map λr=>p r.1 && decide (r.2.count z % 2=1)
noncomputable def mI(n:Net)(p s:Str->Bool):Bool:=ao<|n.map λr=>p r.1 && ao (r.2.map s)
noncomputable def pr(f:Str->Bool)(os:Ð):Bool:=ao<|os.map f
def L4{α:Type}(b:Bool)(f:α->Bool)(l:List α):(b && ao (l.map f))=ao (l.map λx=>b && f x):=by
 cases b
 ·show false=ao (l.map λ_=>false);rw[gM]
 ·rfl
def L5{α:Type}(b:Bool)(f:α->Bool)(l:List α):(ao (l.map f) && b)=ao (l.map λx=>f x && b):=by
 rw[Fo,L4]
 congr 1
 exact Ap λx _=>Fo _ _
variable{Z:Ð}
def L9(hz:Z.Nodup)(hm:∀ z∈ag n,z∈Z)(p s:Str->Bool):mI n p s=bA Z (bJ n p) s:=by
 unfold mI bA bJ;have e:(Z.map λz=>ao (n.map λr=>p r.1 && decide (r.2.count z % 2=1)) && s z)=Z.map λz=>ao (n.map λr=>p r.1 && (s z && decide (r.2.count z % 2=1))):=Ap λz _=>by
  rw[L5]
  congr 1
  refine Ap λr _=>?_;cases p r.1 <;> cases s z <;> simp
 rw[e,sg λz (r:Str×List Str)=>p r.1 && (s z && decide (r.2.count z % 2=1))]
 congr 1
 refine Ap λr hr=>?_;rw[<- L4]
 congr 1
 exact(CD (n:=n) hz λy hy=>hm y<|Gb.mpr ⟨r,hr,hy⟩).symm
def xQ(Z:Ð)(s t:Str->Bool):bA Z s t=bA Z t s:=by
 unfold bA
 congr 1
 exact Ap λz _=>Fo _ _
def xR{s' t t':Str->Bool}(h:∀ z∈Z,s z=s' z)(k:∀ z∈Z,t z=t' z):bA Z s t=bA Z s' t':=by
 unfold bA
 congr 1
 exact Ap λz hz=>by rw[h z hz,k z hz]
def sym(p q:Str->Bool):mI n p (bJ n q)=mI n q (bJ n p):=by
 obtain⟨Z,hs,hm⟩:=ke<|ag n;rw[L9 (gq hs) λz hz=>(hm z).mpr hz,L9 (gq hs) λz hz=>(hm z).mpr hz,xQ]
def q1y{c:Ð}(h:c.Nodup)(z:Str):decide (c.count z % 2=1)=decide (z∈c):=by
 by_cases k:z∈c
 ·have:c.count z=1:=Nat.le_antisymm (Hg.mp h z)<|Ds.mpr k;rw[this,BW k];rfl
 ·rw[Fg k,BR k];rfl
def uz{c:Ð}(hz:Z.Nodup)(hc:c.Nodup)(hm:∀ z∈c,z∈Z)(f:Str->Bool):pr f c=bA Z f (λz=>decide (z∈c)):=by
 unfold pr;rw[<- CD (n:=[]) hz hm];exact xR (λ_ _=>rfl) λz _=>q1y hc z
abbrev gO(a b c:Ð):Prop:=∀ z,z∈c↔(if z∈a then z∉b else z∈b)
def xS{a b c:Ð}(h:gO a b c)(z:Str):decide (z∈c)=(decide (z∈a) ^^ decide (z∈b)):=by
 have:=h z
 by_cases x:z∈a <;> by_cases y:z∈b <;> simp[x,y]at this <;> simp[x,y,this]
def x03{a b c:Ð}(ha:a.Nodup)(hb:b.Nodup)(hc:c.Nodup)(h:gO a b c)(f:Str->Bool):pr f c=(pr f a ^^ pr f b):=by
 obtain⟨Z,hs,hm⟩:=ke<|a++b;have nz:=gq hs;rw[uz nz ha λz hz=>(hm z).mpr<|Am.mpr<|.inl hz,uz nz hb λz hz=>(hm z).mpr<|Am.mpr<|.inr hz,
  uz nz hc (λz hz=>(hm z).mpr (by
   have:=(h z).mp hz;rw[Am]
   by_cases k:z∈a
   ·exact .inl k
   ·rw[BL k]at this;exact .inr this))]
 rw[xQ Z f,xQ Z f,xQ Z f,<- Lj];exact xR (λz _=>xS h z) λ_ _=>rfl
noncomputable def cP(s:Str->Bool)(r:Str×List Str):Bool:=ao<|r.2.map s
def df(n:Net)(s:Str->Bool)(os:Ð):Prop:=os.Perm ((n.filter<|cP s).map (·.1))
def df.pr{n:Net}{s:Str->Bool}{os:Ð}(h:df n s os)(f:Str->Bool):pr f os=mI n f s:=by
 unfold Nt.pr mI;rw[S9<|h.map f,Bs,L3]
 congr 1
 exact Ap λr _=>Fo _ _
variable{os:Ð}
def df.nd(h:df n s os)(hN:(ce n).Nodup):os.Nodup:=h.nodup_iff.mpr<|hN.sublist<|List.filter_sublist.map _
def df.sub(h:df n s os):∀ x∈os,x∈ce n:=λx hx=>by
 obtain⟨r,hr,rfl⟩:=Ak.mp<|h.mem_iff.mp hx;exact Ak.mpr ⟨r,(Bf.mp hr).1,rfl⟩
variable{r:Str×List Str}
def VV(hN:(ce n).Nodup){q:Str×List Str}(hr:r∈n)(hq:q∈n)(h:r.1=q.1):r=q:=LA hN r hr q hq h
def df.mem(h:df n s os)(hN:(ce n).Nodup)(hr:r∈n):decide (r.1∈os)=cP s r:=by
 cases k:cP s r
 ·refine BR λhx=>?_;obtain⟨q,hq,e⟩:=Ak.mp<|h.mem_iff.mp hx;obtain⟨q1,q2⟩:=Bf.mp hq;rw[VV hN q1 hr e,k]at q2;cases q2
 ·exact BW<|h.mem_iff.mpr<|Ak.mpr ⟨r,Bf.mpr ⟨hr,k⟩,rfl⟩
def q74(hN:(ce n).Nodup)(hr:r∈n)(s:Str->Bool):mI n (λx=>decide (x=r.1)) s=cP s r:=by
 unfold mI;have e:(n.map λq=>decide (q.1=r.1) && ao (q.2.map s))=n.map λq=>decide (q=r) && ao (r.2.map s):=Ap λq hq=>by
  by_cases k:q.1=r.1
  ·rw[VV hN hq hr k,BW rfl,BW rfl]
  ·rw[BR k,BR λe=>k<|by rw[e]];rfl
 rw[e,<- L5];have one:∀{l:List (Str×List Str)},l.Nodup->r∈l->ao (l.map λq=>decide (q=r))=true:=by
  intro l
  induction l with
  | nil=>intro _ h;cases h
  | cons a l ih=>
   intro nd h;have t8:=Bh.mp nd;show(decide (a=r) ^^ ao (l.map _))=true
   by_cases k:a=r
   ·have:(l.map λq=>decide (q=r))=l.map λ_=>false:=Ap λq hq=>BR λe=>t8.1 (by rwa[k,<- e]);rw[this,gM,BW k];rfl
   ·rw[BR k,ih t8.2<|by rcases Ai.mp h with e | e;exact absurd e.symm k;exact e];rfl
 rw[one (LD hN) hr];rfl
noncomputable def cK(n:Net)(ps:Ð)(r:Str×List Str):Bool:=cP (bJ n λy=>decide (y∈ps)) r
def q13(n:Net)(p q:Str->Bool)(z:Str):bJ n (λy=>p y ^^ q y) z=(bJ n p z ^^ bJ n q z):=by
 unfold bJ;rw[<- fK]
 congr 1
 refine Ap λr _=>?_;show((p r.1 ^^ q r.1) && decide (r.2.count z % 2=1))=_;generalize decide (r.2.count z % 2=1)=c;generalize p r.1=a;generalize q r.1=b;cases a <;> cases b <;> cases c <;> rfl
def q3g{a b c:Ð}(h:gO a b c)(r:Str×List Str):cK n c r=(cK n a r ^^ cK n b r):=by
 unfold cK cP;rw[<- fK]
 congr 1
 refine Ap λz _=>?_;rw[<- q13]
 congr 1
 funext y
 exact xS h y
def Ma(T:aq n)(ps:Ð)(z:Str):bJ n (λy=>decide (y∈ps)) z=decide (dA n ps z):=by
 have h:=Tw T ps z;rw[decide_eq_decide.mpr h];unfold bJ;rw[ut];have fl:∀ l:Net,ao ((ag l).map λy=>decide (z=y))=ao (l.map λr=>decide (r.2.count z % 2=1)):=by
  intro l
  induction l with
  | nil=>rfl
  | cons a l ih=>
   show ao ((a.2++ag l).map _)=(_ ^^ ao (l.map _));rw[Al,nN,ih,<- ut]
 rw[fl,L3]
abbrev gB:=List<|List Str×List Str
structure Mb(n:Net)(st:gB):Prop where
 ne:∀ s∈st,s.2≠[]
 nd:∀ s∈st,s.1.Nodup/\s.2.Nodup
 sub:∀ s∈st,(∀ x∈s.1,x∈ce n)/\∀ x∈s.2,x∈ce n
 im:∀ s∈st,∀ r∈n,cK n s.1 r=decide (r.1∈s.2)
 Md:st.Pairwise λa b=>∀ p,a.2.head?≈p->p∉b.2
structure ii(n:Net)(st:gB)(ps os dD cA:Ð):Prop where
 nd:dD.Nodup/\cA.Nodup
 sub:(∀ x∈dD,x∈ce n)/\∀ x∈cA,x∈ce n
 fn:∀ f:Str->Bool,(∀ s∈st,pr f s.2=false)->pr f cA=pr f os
 CU:∀ s∈st,∀ p,s.2.head?≈p->p∉cA
 im:∀ r∈n,(decide (r.1∈cA) ^^ cK n dD r)=(decide (r.1∈os) ^^ cK n ps r)
def ii.start{ps:Ð}(h1:ps.Nodup)(h2:os.Nodup)(h3:∀ x∈ps,x∈ce n)(h4:∀ x∈os,x∈ce n):ii n [] ps os ps os:=⟨⟨h1,h2⟩,⟨h3,h4⟩,λ_ _=>rfl,λs h=>(by cases h),λ_ _=>rfl⟩
def xT{α:Type}{l:List α}{a:α}(h:l[i]?≈a):l.take (i+1)=l.take i++[a]:=by rw[Cj,h];rfl
variable{p:Str}{dD cA:Ð}{st:gB}
def ii.skip{s:List Str×List Str}{ps:Ð}(h:ii n (st.take i) ps os dD cA)(hs:st[i]?≈s)(hp:s.2.head?≈p)(hn:p∉cA):ii n (st.take<|i+1) ps os dD cA:=by
 rw[xT hs];refine⟨h.nd,h.sub,λf hf=>h.fn f λs hs=>hf s<|Am.mpr<|.inl hs,λt ht q hq=>?_,h.im⟩
 rcases Am.mp ht with k | k
 ·exact h.CU t k q hq
 ·rw[Ad.mp k,hp]at hq;cases hq;exact hn
theorem VW{l:Ð}(h:l.head?≈p):p∈l:=by
 cases l with
 | nil=>cases h
 | cons a l=>cases h;exact Ae
theorem ii.step(I:Mb n st){s:List Str×List Str}{ps p2 o2:Ð}(h:ii n (st.take i) ps os dD cA)(hs:st[i]?≈s)(hp:s.2.head?≈p)(hn:p∈cA)
  (n1:p2.Nodup) (n2:o2.Nodup) (x1:gO dD s.1 p2) (x2:gO cA s.2 o2):ii n (st.take<|i+1) ps os p2 o2:=by
 have iC:=Ao hs;have me:=(Ac.mp hs).1;rw[xT hs];have un:∀{a b c:Ð},gO a b c->(∀ x∈a,x∈ce n)->(∀ x∈b,x∈ce n)->∀ x∈c,x∈ce n:=λ{a b c} X ha hb x hx=>by
  have:=(X x).mp hx
  by_cases k:x∈a
  ·exact ha x k
  ·rw[BL k]at this;exact hb x this
 refine⟨⟨n1,n2⟩,⟨un x1 h.sub.1 (I.sub s iC).1,un x2 h.sub.2 (I.sub s iC).2⟩,λf hf=>?_,λt ht q hq=>?_,λr hr=>?_⟩
 ·rw[x03 h.nd.2 (I.nd s iC).2 n2 x2,hf s<|Am.mpr<|.inr<|Ad.mpr rfl,Fx];exact h.fn f λs hs=>hf s<|Am.mpr<|.inl hs
 ·rw[x2 q]
  rcases Am.mp ht with k | k
  ·rw[BL<|h.CU t k q hq];obtain⟨j,hj⟩:=Be k;have oZ:=(Ac.mp hj).1;rw[Br]at oZ;have gN:st[j]?≈t:=by rwa[Eb<|⋯]at hj
   have ej:=(Ac.mp gN).2;have ei:=(Ac.mp hs).2;have:=Bc.mp I.Md j i ⋯ me ⋯;rw[ej,ei]at this;exact this q hq
  ·rw[Ad.mp k]at hq;rw[hp]at hq;cases hq;rw[BP hn];exact λk=>k<|VW hp
 ·rw[xS x2,q3g x1,I.im s iC r hr,<- h.im r hr];cases decide (r.1∈cA) <;> cases decide (r.1∈s.2) <;> cases cK n dD r <;> rfl
theorem VX:∀{st:gB},(∀ s∈st,s.2≠[])->(∀ s∈st,s.2.Nodup)->(st.Pairwise λa b=>∀ p,a.2.head?≈p->p∉b.2)->∀{o},o.Nodup->o≠[]->(∀ s∈st,∀ p,s.2.head?≈p->p∉o)->∃ f:Str->Bool,(∀ s∈st,pr f s.2=false)/\pr f o=true
 | [],_,_,_,o,nd,ne,_=>by
  cases o with
  | nil=>exact absurd rfl ne
  | cons a o=>
   refine⟨λx=>decide (x=a),λs h=>(by cases h),?_⟩;have:(o.map λx=>decide (x=a))=o.map λ_=>false:=Ap λx hx=>BR λe=>(Bh.mp nd).1 (by rw[<- e];exact hx);show(decide (a=a) ^^ ao (o.map λx=>decide (x=a)))=true;rw[this,gM,BW rfl];rfl
 | s :: st,h1,h2,h3,o,nd,ne,hp=>by
  obtain⟨f,f1,f2⟩:=VX (λt ht=>h1 t<|Af _ ht) (λt ht=>h2 t<|Af _ ht) (Ct.mp h3).2 nd ne λt ht=>hp t<|Af _ ht;obtain⟨p,Mf⟩:∃ p,s.2.head?≈p:=by
   cases k:s.2 with
   | nil=>exact absurd k<|h1 s Ae
   | cons a l=>exact⟨a,rfl⟩
  have add:∀(l:Ð),l.Nodup->pr (λx=>f x ^^ decide (x=p)) l=(pr f l ^^ decide (p∈l)):=λl hl=>by
   show ao (l.map _)=_;rw[fK]
   congr 1
   have:=uz (Z:=l) hl hl (λ_ h=>h) λx=>decide (x=p);have e2:ao (l.map λx=>decide (x=p))=pr (λx=>decide (x=p)) l:=rfl
   by_cases k:p∈l
   ·rw[e2,this,xL hl k]
   ·rw[BR k];have:(l.map λx=>decide (x=p))=l.map λ_=>false:=Ap λx hx=>BR λe=>k (by rw[<- e];exact hx);rw[this,gM]
  cases k:pr f s.2
  ·refine⟨f,λt ht=>?_,f2⟩
   rcases Ai.mp ht with rfl | ht
   ·exact k
   ·exact f1 t ht
  ·refine⟨λx=>f x ^^ decide (x=p),λt ht=>?_,?_⟩
   ·rw[add _<|h2 t ht]
    rcases Ai.mp ht with rfl | ht
    ·rw[k,BW<|VW Mf];rfl
    ·rw[f1 t ht,BR<|(Ct.mp h3).1 t ht p Mf];rfl
   ·rw[add _ nd,f2,BR<|hp s Ae p Mf];rfl
structure kj(n:Net)(k:Nat)(st:gB):Prop where
 cL:Mb n st
 len:st.length<=k
 span:∀ f:Str->Bool,(∀ s∈st,pr f s.2=false)->∀ x∈(ce n).take k,mI n f (bJ n λy=>decide (y∈[x]))=false
def kj.start(n:Net):kj n 0 []:=⟨⟨λs h=>(by cases h),λs h=>(by cases h),λs h=>(by cases h),λs h=>(by cases h),List.Pairwise.nil⟩,An _,λf _ x hx=>(by rw[VG]at hx;cases hx)⟩
variable{x:Str}
def x2l(hN:(ce n).Nodup)(hO:df n (bJ n λy=>decide (y∈[x])) os)(h:ii n st [x] os dD cA):∀ r∈n,cK n dD r=decide (r.1∈cA):=λr hr=>by
 have a:=h.im r hr;rw[hO.mem hN hr]at a;have:cK n [x] r=cP (bJ n λy=>decide (y∈[x])) r:=rfl;rw[this,Bool.xor_self]at a
 revert a
 cases decide (r.1∈cA) <;> cases cK n dD r <;> simp
def kj.skip(hN:(ce n).Nodup){k:Nat}(I:kj n k st)(hx:(ce n)[k]?≈x)(hO:df n (bJ n λy=>decide (y∈[x])) os)(h:ii n st [x] os dD []):kj n (k+1) st:=by
 refine⟨I.cL,Nat.le_succ_of_le I.len,λf hf y hy=>?_⟩;rw[xT hx]at hy
 rcases Am.mp hy with q | q
 ·exact I.span f hf y q
 ·rw[Ad.mp q,<- hO.pr,<- h.fn f hf];rfl
def kj.step(hN:(ce n).Nodup){k:Nat}(I:kj n k st)(hx:(ce n)[k]?≈x)(hO:df n (bJ n λy=>decide (y∈[x])) os)(h:ii n st [x] os dD cA)(bD:cA≠[]):kj n (k+1) (st++[(dD,cA)]):=by
 have al:∀{P:List Str×List Str->Prop},(∀ s∈st,P s)->P (dD,cA)->∀ s∈st++[(dD,cA)],P s:=λ{P} a b s hs=>by
  rcases Am.mp hs with q | q
  ·exact a s q
  ·rwa[Ad.mp q]
 refine⟨⟨al I.cL.ne bD,al I.cL.nd h.nd,al I.cL.sub h.sub,al I.cL.im<|x2l hN hO h,?_⟩,by rw[Ag];exact Nat.succ_le_succ I.len,λf hf y hy=>?_⟩
 ·rw[Fv];refine⟨I.cL.Md,Gp _ _,λa ha b hb p hp=>?_⟩;rw[Ad.mp hb];exact h.CU a ha p hp
 ·have VY:∀ s∈st,pr f s.2=false:=λs hs=>hf s<|Am.mpr<|.inl hs;rw[xT hx]at hy
  rcases Am.mp hy with q | q
  ·exact I.span f VY y q
  ·rw[Ad.mp q,<- hO.pr,<- h.fn f VY];exact hf (dD,cA)<|Am.mpr<|.inr<|Ad.mpr rfl
def oa(n:Net)(s:Str->Bool):Prop:=∀ f:Str->Bool,(∀ r∈n,cP (bJ n f) r=false)->mI n f s=false
def kj.whole(hN:(ce n).Nodup)(I:kj n n.length st)(ho:oa n s)(hO:df n s os)(h:ii n st [] os dD cA):∀ r∈n,cK n dD r=cP s r:=by
 have he:cA=[]:=by
  refine CQ λbD=>?_;obtain⟨f,f1,f2⟩:=VX I.cL.ne (λs hs=>(I.cL.nd s hs).2) I.cL.Md h.nd.2 bD h.CU;have hd:∀ r∈n,cP (bJ n f) r=false:=λr hr=>by
   rw[<- q74 hN hr,sym];have:=I.span f f1 r.1 (by rw[Cs<|by rw[Aa];exact An _];exact Ak.mpr ⟨r,hr,rfl⟩);have e:(λy=>decide (y∈[r.1]))=λy=>decide (y=r.1):=by
    funext y
    exact decide_eq_decide.mpr Ad
   rwa[e]at this
  have:=ho f hd;rw[<- hO.pr,<- h.fn f f1,f2]at this;cases this
 subst he;intro r hr;have a:=h.im r hr;have z:cK n [] r=false:=by
  unfold cK cP bJ;have:(r.2.map λz=>ao<|n.map λq=>decide (q.1∈([]:Ð)) && decide (q.2.count z % 2=1))=r.2.map λ_=>false:=Ap λz _=>by
   have:(n.map λq=>decide (q.1∈([]:Ð)) && decide (q.2.count z % 2=1))=n.map λ_=>false:=Ap λq _=>by
    rw[BR (λh=>by cases h),Gq]
   rw[this,gM]
  rw[this,gM]
 rwa[z,hO.mem hN hr,Fx,BR (λh=>by cases h),Fw]at a
def q8x(h:i < n.length):∃ r∈n,row n i=r.2:=⟨n[i],Bt h,by unfold row;rw[Ab h];rfl⟩
theorem q6l(T:aq n)(hf:HF n)(C:cS n cs)(h:∀ c∈cs,ao (c.map s)=false):oa n s:=λf hd=>by
 obtain⟨Z,hs,hm⟩:=ke<|ag n;have nz:=gq hs;have VZ:=λz hz=>(hm z).mpr hz;rw[L9 nz VZ];have ev:cN n (bJ n f):=λi=>by
  by_cases hi:i < n.length
  ·obtain⟨r,hr,e⟩:=q8x hi;rw[e];exact hd r hr
  ·unfold row;rw[Bg<|⋯];rfl
 obtain⟨χ,hχ⟩:=hf.2.2 _ ev;have fG:∀ e z,aJ n e≈z->bJ n f z=(f (aC n e.1) ^^ f (aC n (↥5).1)):=λe z hz=>by
  have hp:∀ x∈ce n,decide (x∈(ce n).filter f)=f x:=λx hx=>by
   cases k:f x
   ·exact BR λq=>by rw[(Bf.mp q).2]at k;cases k
   ·exact BW<|Bf.mpr ⟨hx,k⟩
  have e1:bJ n f z=bJ n (λy=>decide (y∈(ce n).filter f)) z:=by
   unfold bJ
   congr 1
   refine Ap λr hr=>?_;have:=hp r.1<|Ak.mpr ⟨r,hr,rfl⟩;show(f r.1 && _)=(decide (r.1∈(ce n).filter f) && _);rw[<- this]
  have c:=jQ T (ps:=(ce n).filter f) hz;rw[hp _<|jr<|cB hz,hp _<|jr<|pv T hz]at c;rw[e1,Ma T,Cf,CN,c]
 have D:iD n (bJ n f) (λr=>f<|aC n r) χ:=⟨hχ,fG⟩;have e:∀ z∈Z,bJ n f z=ao ((List.range (bu n).length).map λi=>jX n (λr=>f<|aC n r) χ i && cO n ((bu n)[i]?.getD []) z):=λz hz=>by
  have dq:=(hm z).mp hz;obtain⟨p,p1,p2,hpk⟩:=VI T (k:=0) ∅ dq;obtain⟨q,q1,q2,hqk⟩:=VI T (k:=1) ∅ dq;rw[k7c T _ hpk hqk,<- iD.dj T D p1 q1<|p2.trans q2.symm,p2]
 rw[xR e λ_ _=>rfl];unfold bA;have e2:(Z.map λz=>ao ((List.range (bu n).length).map λi=>jX n (λr=>f<|aC n r) χ i && cO n ((bu n)[i]?.getD []) z) && s z)=Z.map λz=>ao ((List.range (bu n).length).map λi=>jX n (λr=>f<|aC n r) χ i && (cO n ((bu n)[i]?.getD []) z && s z)):=Ap λz _=>by
  rw[L5]
  congr 1
  exact Ap λi _=>Bool.and_assoc _ _ _
 rw[e2,sg λz i=>jX n (λr=>f<|aC n r) χ i && (cO n ((bu n)[i]?.getD []) z && s z)];have e3:((List.range (bu n).length).map λi=>ao<|Z.map λz=>jX n (λr=>f<|aC n r) χ i && (cO n ((bu n)[i]?.getD []) z && s z))=(List.range (bu n).length).map λ_=>false:=Ap λi hi=>by
  have hi:=Bo.mp hi;rw[<- L4];have V0:=Ab (show i < cs.length by rwa[C.len]);have iB:cs[i]'(by rwa[C.len])∈cs:=Bt _;have km:=Ab hi;have a:=h _ iB;have nd:=gq<|C.gL _ iB;have qt:∀ z∈cs[i]'(by rwa[C.len]),z∈ag n:=CL (λc hc=>(o6 T (ends n) [] (λe he=>he) _<|Bt hi).ends c hc)<|C.mem i _ _ V0 km;have b:=uz nz nd (λz hz=>VZ z<|qt z hz) s;have c:ao (Z.map λz=>cO n ((bu n)[i]?.getD []) z && s z)=bA Z s (λz=>decide (z∈cs[i]'(by rwa[C.len]))):=by
   rw[xQ];unfold bA
   congr 1
   refine Ap λz hz=>?_;rw[<- C.at' T hi<|(hm z).mp hz,V0,Fe]
  rw[c,<- b];show(_ && ao _)=false;rw[a,Ep]
 rw[e3,gM]
theorem k3c(T:aq n){ss ps cs rs:Ð}(h:∀ r∈n,cK n ps r=cP (λz=>decide (z∈ss)) r)(hc:∀ z,z∈cs↔dA n ps z)(hx:gO ss cs rs):cC n rs=true:=by
 refine cJ.mpr λr hr=>?_;have a:=h r hr;unfold cK cP at a;have e:(r.2.map<|bJ n λy=>decide (y∈ps))=r.2.map λz=>decide (z∈cs):=Ap λz _=>by rw[Ma T,decide_eq_decide.mpr<|hc z]
 rw[e]at a;have b:ao (r.2.map λz=>decide (z∈rs))=false:=by
  have:(r.2.map λz=>decide (z∈rs))=r.2.map λz=>decide (z∈ss) ^^ decide (z∈cs):=Ap λz _=>xS hx z;rw[this,fK,a,Bool.xor_self]
 have c:(r.2.filter λz=>rs.contains z)=r.2.filter λz=>decide (z∈rs):=by
  congr 1
  funext z
  rw[Cf,CN];exact Bm
 rw[c];rw[rm]at b;have:=IW b;omega
def sj(n:Net)(ss:Ð):Prop:=∃ cs,cS n cs/\∀ c∈cs,(c.filter λz=>ss.contains z).length % 2=0
end Nt
namespace E9
open PySem L2 Nt bE bP
open PyProof.Rows (sortedS)
def CY:Sp:=λvs H Q _=>∃R p as n ps,vs=[.ref R,.ref p]/\ai H R as n/\aq n/\n.length<=60/\(ag n).length<=60/\H p=some (Ls ps) /\
 ∀L cs H',aj H H'->H L=none->H' L≈Ls cs->b8 cs->(∀ z,z∈cs↔dA n ps z)->cs.length<=60->Q (.ref L) H'
def C0:Sp:=λvs H Q _=>∃a b xs ys,vs=[.ref a,.ref b]/\H a≈Ls xs/\H b≈Ls ys/\xs.length+ys.length < 64 /\
 ∀ l ss H',aj H H'->H l=none->H' l≈Ls ss->sortedS ss=true->ss.Nodup->(∀ z,z∈ss↔(if z∈xs then z∉ys else z∈ys))->Q (.ref l) H'
def Mg:Sp:=λvs H Q _=>∃R as n,vs=[.ref R]/\ai H R as n/\n.length<=1000/\∀ L H',aj H H'->H L=none->H' L≈Ls (n.map (·.1))->Q (.ref L) H'
variable{Z:Heap}{mg:Ñ}{K:PySem.W.Frag}{ls:List Lk}{ps:Ð}{fd:FuncData}{f:Addr}
section
variable{P:Program}{w:World}
def xU(ps:Ð)(x:Lk):Bool:=decide (x.2.1∈ps) != decide (x.2.2∈ps)
def dQ(ps:Ð)(ls:List Lk):Ð:=(ls.filter<|xU ps).map (·.1)
def q2n(h:CB ls):b8 (dQ ps ls):=by
 unfold b8 dQ;rw[Dr];exact h.sublist Hl
def q33{n:Net}(T:aq n)(h:∀ x,x∈ls↔pj n x)(z:Str):z∈dQ ps ls↔dA n ps z:=by
 unfold dQ;rw[Ak]
 constructor
 ·rintro ⟨x,hx,rfl⟩;rw[Bf]at hx;exact(A4 T<|(h x).mp hx.1).mpr hx.2
 ·intro hc;obtain⟨e,he,_⟩:=id hc
  rcases q14 T he with q | q
  ·exact⟨_,Bf.mpr ⟨(h _).mpr q,(A4 T q).mp hc⟩,rfl⟩
  ·exact⟨_,Bf.mpr ⟨(h _).mpr q,(A4 T q).mp hc⟩,rfl⟩
def V1(ps:Ð)(ls:List Lk):(dQ ps ls).length<=ls.length:=by
 unfold dQ;rw[Aa];exact Dz _ _
def q0x(ps:Ð)(ls:List Lk)(x:Lk):dQ ps (ls++[x])=dQ ps ls++(if xU ps x=true then [x.1]else []):=by
 unfold dQ;rw[Cv,Al]
 congr 1
 cases h:xU ps x <;> simp[h]
def uA(zs:Ð)(z:Str):zs.contains z=decide (z∈zs):=by
 rw[Cf,CN];exact Bm
abbrev V2:Ð:=["rows","points"]
abbrev xV:Ð:=["rows","points","tie","one","other"]
def Mh:ak V2 ["rows","points"] (aW zY):=cm
def Mi:xV.Nodup:=by decide +kernel
theorem x1v(F:bB K "cut_of" "cut_of" zY f fd)(T:Txt mg)
  (G:↥6 1 "links_of" ["rows"] Ld) :
  ↥4 2 f fd ["rows","points"] CY:=by
 refine F.gc Mh λb0 H vs Q E hr h=>?_;obtain⟨R,p,as,n,ps,rfl,hR,hT,hn,ht,hp,q⟩:=h;refine bS (jb (aW zY) V2 xV 3 (gD bI)<|bC G hr<|ah<|ae 0<|ax ⟨R,as,n,rfl,hR,hT,⋯,ht,λL us ls H1 s1 n1 eL iO nw sf hlen=>?_⟩);refine⟨L,rfl,⟨_,au.of eL⟩,λD hD=>?_⟩;have Kv:=bz eL hD;have K7:=bz (s1 _ _ hp) hD;have rT:=iO.1;refine oY (xs:=us.map V.ref) (λi σ' H'=>(∃ v1 v2 v3,σ'=[⇑R,⇑p]++[v1,v2,v3])/\H'=upd H1 D (Ls<|dQ ps<|ls.take i)) ⟨⟨_,_,_,rfl⟩,rfl⟩ ?_ ?_ ?_
 ·rintro i σ' H' _ ⟨_,rfl⟩;exact au.of<|by rwa[aw Kv]
 ·rintro i x σ' H' hx ⟨⟨v1,v2,v3,rfl⟩,rfl⟩;rw[Ah,Az]at hx;obtain⟨u,eX,rfl⟩:=hx;have hi:i < ls.length:=by
   have:=(Ac.mp eX).1;omega
  have oV:=Ab hi;have B8:=iO.2 i u _ eX oV;have iW:ls.take (i+1)=ls.take i++[ls[i]]:=by rw[Cj,oV];rfl
  rw[iW,q0x];generalize ls[i]=lx at B8;obtain⟨ti,on,ot⟩:=lx;have Mj:(upd H1 D<|Ls<|dQ ps<|ls.take i) u≈.tup [.str ti,.str on,.str ot]:=by rwa[aw<|bz B8 hD]
  have jR:(upd H1 D<|Ls<|dQ ps<|ls.take i) p≈Ls ps:=by rw[aw K7];exact s1 _ _ hp
  intro cl C' æ ç ex;refine k8y rfl (aQ.of Mj) (bw 2 Mi<|bw 3 Mi<|bw 4 Mi ?_);intro cl C' æ ç ex;refine oQ<|cz tj<|j6 oH<|ae 3<|ae 1 ⟨p,_,rfl,.inl<|au.of jR,rfl,my _,?_⟩;refine j6 oH<|ae 4<|ae 1 ⟨p,_,rfl,.inl<|au.of jR,rfl,my _,rfl,_,rfl,?_⟩;have fF:∀(x y:Bool),(if false=true then x else y)=y:=λ_ _=>rfl;rw[fF,fF,mw,mw,uA,uA,yY];show if xU ps (ti,on,ot)=true then _ else _;have jL:=Ch (V1 ps<|ls.take i) (show(ls.take i).length<=ls.length by rw[Br];omega)
  by_cases hc:xU ps (ti,on,ot)=true
  ·rw[BP hc];intro cl C' æ ç ex;refine ae 2 ⟨_,az,by rw[Aa];exact cg ⋯,⟨_,_,_,rfl⟩,?_⟩;rw[uN,BP hc];exact IM
  ·rw[BL hc];refine⟨⟨_,_,_,rfl⟩,?_⟩;rw[BL hc,Bp]
 ·rintro σ' H' ⟨_,rfl⟩;rw[Aa,rT,Ca];have jL:=V1 ps ls;exact q D _ _ (s1.trans<|aS hD _) (iR s1 hD) az (q2n nw) (q33 hT sf)<|⋯
def lH(ss:Ð)(r:Str×List Str):Bool:=(r.2.filter λz=>ss.contains z).length % 2 == 0
def C1:Sp:=λvs H Q _=>∃R a as n ss,vs=[.ref R,.ref a]/\ai H R as n/\n.length<=60/\(ag n).length<=1000/\H a=some (Ls ss) /\
 ∀L zs H',aj H H'->H L=none->H' L≈Ls zs->zs.Perm ((n.filter λr=>!lH ss r).map (·.1))->Q (.ref L) H'
abbrev NR:Ð:=["rows","some"]
abbrev Mk:Ð:=["rows","some","point","ties"]
abbrev V3:Ð:=["rows","some","point","ties","tie"]
def x2o:ak NR ["rows","some"] (aW iP):=cm
def xW:Mk.Nodup:=by decide +kernel
def x4e:V3.Nodup:=by decide +kernel
def x4v:Scope:=match gY iP with
 | [.Return (some<|.Call _ [.ListComp _ _ sc _] _ _) _]=>sc
 | _=>aW iP
def Ml:Scope:=relabel x4v<|PyProof.Rows.envOfC "odd_points" (aW iP) 0 0 .none
theorem q99(F:bB K "odd_points" "odd_points" iP f fd)(T:Txt mg):↥4 1 f fd ["rows","some"] C1:=by
 refine F.gc x2o λb0 H vs Q E hr h=>?_;obtain⟨R,a,as,n,ss,rfl,hR,hn,ht,ha,q⟩:=h;have cq:=hR.len;refine bS<|cM zG T.sorted DR<|ah<|jb (aW iP) NR Mk 2 (gD bI)<|ae 0 ⟨R,rfl,⟨_,au.of hR.lst⟩,λD hD=>?_⟩;refine oY (xs:=as.map λa=>V.ref a.1) (λi σ' H'=>(∃ v1 v2,σ'=[⇑R,⇑a]++[v1,v2])/\H' D=some (.lst<|((n.take i).filter λr=>!lH ss r).map λr=>V.str r.1)/\aj H H') ⟨⟨none,none,rfl⟩,az,aS hD _⟩ ?_ ?_ ?_
 ·rintro i σ' H' _ ⟨_,_,sm⟩;exact au.of<|sm _ _ hR.lst
 ·rintro i x σ' H' hx ⟨⟨v1,v2,rfl⟩,eD,sm⟩;have hi:i < n.length:=by
   have:=(Ac.mp hx).1;rw[Aa]at this;omega
  obtain⟨b,eb,dJ,et,el,er⟩:=(hR.same sm).at hi;rw[Ah,eb]at hx;cases hx;have iQ:(row n i).length<=1000:=Ch (jf n i) ht;have mB:n.take (i+1)=n.take i++[n[i]]:=by rw[Cj,Ab hi];rfl
  intro cl C' æ ç ex;refine jN rfl (aQ.of et) (bw 2 xW<|bw 3 xW ?_);intro cl C' æ ç ex;refine oQ<|cz fX<|bh dh<|cM eU T.len DY<|ah<|jb Ml Mk V3 1 (gD bI)<|ae 3 ⟨b.2,rfl,⟨_,au.of el⟩,λD2 lB=>?_⟩;refine v7 (λz=>ss.contains z) (cg<|⋯) el lB (λcl C æ ç ex v v0 H' R' h=>bw 4 x4e h) (λcl C æ ç ex z ys T' h=>?_) (λcl C æ ç ex z H' R' h=>ae 4 h) ?_
  ·refine oQ (cz oH<|ae 4<|ae 1 ⟨a,_,rfl,.inl (au.of<|by rw[aw<|bz (sm _ _ ha) lB];exact sm _ _ ha),rfl,my _,_,rfl,?_⟩);show T' (tu (.str z)<|ss.map V.str) _;rwa[mw]
  ·have nDD:=bz eD lB;have s2:=aS lB<|.lst<|((row n i).filter λz=>ss.contains z).map V.str;refine ax ⟨D2,_,rfl,.inl<|au.of az,aG ⟨_,_,rfl,rfl,(by show(0:Int) < 2;decide),aG ⟨rfl,_,rfl,?_⟩⟩⟩;have ek:decide (V.int ((((((row n i).filter λz=>ss.contains z).map V.str).length:Nat):Int) % 2)=V.int 1) = !lH ss n[i]:=by
    unfold lH;rw[Aa,er]
    by_cases hc:(n[i].2.filter λz=>ss.contains z).length % 2=0
    ·rw[BR (λh=>by have:=V.int.inj h;omega),beq_iff_eq.mpr hc];rfl
    ·rw[BW (BZ V.int<|⋯),beq_eq_false_iff_ne.mpr hc];rfl
   show if decide (V.int ((((((row n i).filter λz=>ss.contains z).map V.str).length:Nat):Int) % 2)=V.int 1)=true then _ else _;rw[ek];refine jC (λc=>?_) λc=>?_
   ·intro cl C' æ ç ex;refine ae 2 ⟨_,s2 _ _ eD,?_,⟨_,_,rfl⟩,?_,fI (sm.trans s2) hD⟩
    ·rw[Aa];refine cg<|Ch (Dz ..) ?_;rw[Br];omega
    ·rw[az,mB,Cv,Al];have:[n[i]].filter (λr=>!lH ss r)=[n[i]]:=by rw[RZ<|c⁻¹];rfl
     rw[this];rfl
   ·refine⟨⟨_,_,rfl⟩,?_,sm.trans s2⟩;rw[mB,Cv];have:[n[i]].filter (λr=>!lH ss r)=[]:=by rw[List.filter_cons_of_neg<|c⁻¹];rfl
    rw[this,Bp];exact s2 _ _ eD
 ·rintro σ' H' ⟨_,eD,sm⟩;rw[Aa,cq,Ca]at eD;have e2:((n.filter λr=>!lH ss r).map λr=>V.str r.1)=(((n.filter λr=>!lH ss r).map (·.1)).map V.str):=by rw[Bs];rfl
  rw[e2]at eD;refine ax ⟨D,_,rfl,au.of eD,?_,λl zs hl hp _=>?_⟩
  ·rw[Aa];exact QT (Dz ..)<|⋯
  ·exact q l zs _ (sm.trans<|aS hl _) (iR sm hl) az hp
def q17:ak ["one","other"] ["one","other"] (aW Iy):=cm
theorem k9o(F:bB K "summed" "summed" Iy f fd)(T:Txt mg):↥4 1 f fd ["one","other"] C0:=by
 refine F.gc q17 λb0 H vs Q E hr h=>?_;obtain⟨a,b,xs,ys,rfl,ha,hb,hl,q⟩:=h;refine bS (cM (Q7 rfl) T.sorted DR<|ah<|bh k6r<|qk (Q6 rfl) T.nC JT<|ah<|ae 0<|ax ⟨a,xs,rfl,au.of ha,⋯,λc hc=>?_⟩);have h1:=aS hc<|bq P w c<|made xs;refine qk (Q6 rfl) T.nC JT (ah<|ae 1<|ax ⟨b,ys,rfl,au.of<|h1 _ _ hb,⋯,λd hd=>?_⟩);have h2:=aS hd<|bq P w d<|made ys;have l1:=HL xs;have l2:=HL ys;refine⟨c,d,made xs,made ys,rfl,rfl,h2 _ _ az,az,⋯,⋯,λe zc he hn hm=>?_⟩;have h3:=aS he<|bq P w e zc;have V4:∀ z,z∈zc↔(if z∈xs then z∉ys else z∈ys):=λz=>by
  rw[hm z];simp only[q4o]
 have hlen:=aU hn λz hz=>by
  have:=(V4 z).mp hz;rw[Am]
  by_cases c:z∈xs
  ·exact .inl c
  ·rw[BL c]at this;exact .inr this
 rw[Ag]at hlen;refine ax ⟨e,zc,rfl,az,⋯,λl ss hl hp hs=>?_⟩;have h4:=aS hl<|Ls ss;exact q l ss _ (h1.trans<|h2.trans<|h3.trans h4) (h1.free<|h2.free<|h3.free hl) az hs (hp.nodup_iff.mpr hn) λz=>by
  rw[hp.mem_iff];exact V4 z
abbrev V5:Ð:=["rows"]
abbrev xX:Ð:=["rows","point","ties"]
def Mm:ak V5 ["rows"] (aW zW):=cm
def V6:xX.Nodup:=by decide +kernel
theorem x2v(F:bB K "points_of" "points_of" zW f fd)(T:Txt mg):↥4 1 f fd ["rows"] Mg:=by
 refine F.gc Mm λb0 H vs Q E hr h=>?_;obtain⟨R,as,n,rfl,hR,hn,q⟩:=h;have cq:=hR.len;refine bS<|jb (aW zW) V5 xX 2 (gD bI)<|ae 0 ⟨R,rfl,⟨_,au.of hR.lst⟩,λD hD=>?_⟩;refine oY (xs:=as.map λa=>V.ref a.1) (λi σ' H'=>(∃ v1 v2,σ'=[⇑R]++[v1,v2])/\H' D≈Ls ((n.take i).map (·.1))/\aj H H') ⟨⟨none,none,rfl⟩,az,aS hD _⟩ ?_ ?_ ?_
 ·rintro i σ' H' _ ⟨_,_,sm⟩;exact au.of<|sm _ _ hR.lst
 ·rintro i x σ' H' hx ⟨⟨v1,v2,rfl⟩,eD,sm⟩;have hi:i < n.length:=by
   have:=(Ac.mp hx).1;rw[Aa]at this;omega
  obtain⟨b,eb,dJ,et,el,er⟩:=(hR.same sm).at hi;rw[Ah,eb]at hx;cases hx;intro cl C' æ ç ex;refine jN rfl (aQ.of et) (bw 1 V6<|bw 2 V6 ?_);intro cl C' æ ç ex;refine ja<|cv ?_;intro cl C' æ ç ex;refine ae 1 ⟨_,eD,?_,⟨_,_,rfl⟩,?_,fI sm hD⟩
  ·rw[Aa,Aa,Br];exact cg<|⋯
  ·rw[az,Cj,Ab hi,Al];show _=some (HO.lst<|List.map V.str<|_++_);rw[Al];rfl
 ·rintro σ' H' ⟨_,eD,sm⟩;rw[Aa,cq,Ca]at eD;exact q D H' sm hD eD
end
end E9
namespace E9
open PySem L2 Nt bE
open PyProof.Rows (sortedS)
def Mp:Sp:=λvs H Q _=>∃R W as n ts es,vs=[.ref R,.ref W]/\ai H R as n/\(n.map (·.1)).Nodup/\n.length<=1000/\(ag n).length<=1000/\H W=some (.lst<|↥8)/\dY n H ts es/\(∀ e∈es,e∈ends n)/\es.length<=1000/\(∀ l:Ð,l.Nodup->(∀ z∈l,z∈es.map (aD n))->l.length < 64) /\
 ∀l ss H',aj H H'->H l=none->H' l≈Ls ss->b8 ss->(∀ z,z∈ss↔(es.map<|aD n).count z=1)->Q (.ref l) H'
theorem V7(L:Ð):(L.filter λz=>decide (L.count z=1)).Nodup:=by
 rw[Hg];intro z
 by_cases h:L.count z=1
 ·rw[List.count_filter<|h⁻¹];omega
 ·rw[Fg]
  ·omega
  ·intro hm;exact h<|BX (Bf.mp hm).2
theorem q35(L:Ð)(z:Str):z∈(L.filter λz=>decide (L.count z=1))↔L.count z=1:=by
 rw[Bf,CN];exact⟨λh=>h.2,λh=>⟨Ds.mp ⋯,h⟩⟩
variable{Z:Heap}{mg:Ñ}{K:PySem.W.Frag}{fd:FuncData}
section
variable{P:Program}{w:World}
abbrev Mq:Ð:=["rows","walker","names","gone"]
abbrev xY:Ð:=["rows","walker","names","gone","end"]
abbrev xZ:Ð:=["rows","walker","names","gone","tie"]
def x4:ak Mq ["rows","walker"] (aW vY):=cm
def x1j:xY.Nodup:=by decide +kernel
def x0o:xZ.Nodup:=by decide +kernel
theorem q68{f:Addr}(F:bB K "core_of" "core_of" vY f fd)(T:Txt mg)
  (GT:↥6 2 "ties_by_end" ["rows"] lz):↥4 3 f fd ["rows","walker"] Mp:=by
 refine F.gc x4 λb0 H vs Q E hr h=>?_;obtain⟨R,W,as,n,ts,es,rfl,hR,hN,hn,dZ,hW,hE,wm,hle,x5,q⟩:=h;have nd:=x4.nd;have eX:=hr.u1;have hl:=hE.1;refine aZ 2 nd<|bC GT hr<|ah<|ae 0<|ax ⟨R,as,n,rfl,hR,hN,hn,dZ,λd Y H1 s1 Jq ed qB=>?_⟩;have V8:=s1 _ _ hW;have hE1:=hE.same s1;refine aZ 3 nd<|jb (aW vY) Mq xY 1 (gD bI)<|ae 1 ⟨W,rfl,⟨_,au.of V8⟩,λD hD=>?_⟩;refine oY (xs:=↥8) (λi σ' H'=>(∃ v,σ'=[⇑R,⇑W,⇑d,none]++[v])/\aj H1 H'/\H' D=some (Ls<|(es.take i).map<|aD n)) ⟨⟨none,rfl⟩,aS hD _,az⟩ ?_ ?_ ?_
 ·rintro i σ' H' _ ⟨_,sm,_⟩;exact au.of<|sm _ _ V8
 ·rintro i x σ' H' hx ⟨⟨v,rfl⟩,sm,eD⟩;rw[Ah,Az]at hx;obtain⟨t,ht,rfl⟩:=hx;have hi:i < es.length:=by have:=(Ac.mp ht).1;omega
  have he:=Ab hi;have mB:es.take (i+1)=es.take i++[es[i]]:=by rw[Cj,he];rfl
  generalize mF:es[i]=e at he mB;have lq:=sm _ _<|hE1.2 i t e ht he;have qY:=wm e<|Ao he;obtain⟨z,hz⟩:=af.mp qY;have nV:=eY hz;intro cl C æ ç ex;refine bw 4 x1j ?_;intro cl C æ ç ex;refine ja ?_;rw[BP rfl];intro cl C æ ç ex;refine gJ eX<|ae 2<|ae 4 ⟨d,.str z,rfl,(by rw[<- qB e z hz];exact bb.t (k:=key n e) (sm _ _ ed) lq),_,eD,?_,⟨_,rfl⟩,fI sm hD,?_⟩
  ·rw[Aa,Aa,Br];exact cg<|⋯
  ·rw[az,mB,Al];show some (HO.lst<|((es.take i).map<|aD n).map V.str++[V.str z])=some (HO.lst<|((es.take i).map (aD n)++[aD n e]).map V.str);rw[Al];show some (HO.lst<|((es.take i).map<|aD n).map V.str++[V.str z])=some (HO.lst<|((es.take i).map<|aD n).map V.str++[V.str<|aD n e]);rw[nV]
 rintro σ' H' ⟨_,sm,eD⟩;have lJ:es.take (↥8).length=es:=Cs (by rw[Aa];omega);rw[lJ]at eD;generalize hLL:es.map (aD n)=L at eD x5 q;have UQ:L.length<=1000:=by rwa[<- hLL,Aa]
 refine bS<|cM zG T.sorted DR<|ah<|jb (aW vY) Mq xZ 1 (gD bI)<|ae 3 ⟨D,rfl,⟨_,au.of eD⟩,λD3 Mr=>?_⟩;have n3:D≠D3:=bz eD Mr;refine v7 (λz=>decide (L.count z=1)) (cg<|⋯) eD Mr (λcl C s0 H0 ex v v0 H' R' h=>bw 4 x0o h) (λcl C s0 H0 ex z zs T' h=>oQ<|cz fX<|Ie FN PySem.F.slot_list_count PySem.F.type_list_count q4d<|ae 3 (v:= .ref D) ⟨Or.inl ⟨rfl,_,au.of<|by rwa[aw n3]⟩,ae 4 ⟨D,L,z,rfl,rfl,au.of (by rwa[aw n3]),aG ⟨rfl,_,rfl,?_⟩⟩⟩) (λcl C s0 H0 ex z H' R' h=>ae 4 h) ?_
 ·have ek:decide (V.int (L.count z:Int)=V.int 1)=decide (L.count z=1):=decide_eq_decide.mpr ⟨λk=>by have:=V.int.inj k;omega,λk=>by rw[k];rfl⟩;show T' (decide (V.int (L.count z:Int)=V.int 1)) _;rwa[ek]
 refine ax ⟨D3,_,rfl,au.of az,x5 _ (V7 L) λz hz=>(Bf.mp hz).1,λl ss kF jM nw=>?_⟩;have s3:=s1.trans<|sm.trans<|aS Mr<|Ls<|L.filter λz=>decide (L.count z=1);exact q l ss _ (s3.trans<|aS kF _) (s3.free kF) az (wD nw<|jM.nodup_iff.mpr<|V7 L) λz=>by rw[jM.mem_iff];exact q35 L z
end
end E9
namespace L2
open PySem PySem.Spec PyProof.Rows bE
end L2
namespace L2
open PySem PySem.Spec PyProof.Rows
end L2
namespace bP
open PySem SetTable
def og(mask:Nat)(p:Probe):Probe:=if p.more > 0 then{p with j:=p.j+1,more:=p.more - 1} else
 {p with j:=(leap mask p.i p.perturb).1,more:=runEnd mask (leap mask p.i p.perturb).1 - (leap mask p.i p.perturb).1,i:=(leap mask p.i p.perturb).1,perturb:=(leap mask p.i p.perturb).2}
def P0(mask i q:Nat):Probe:={j:=i,more:=runEnd mask i - i,i:=i,perturb:=q,dummy:=none}
def gP(mask:Nat)(p:Probe):Nat->Probe
 | 0=>p
 | n+1=>og mask<|gP mask p n
def pr(mask:Nat)(h:Int)(n:Nat):Probe:=gP mask (P0 mask (bits h % (mask+1))<|bits h) n
def V9(t:SetTable)(h:Int):t.probeStart h=pr t.mask h 0:=rfl
theorem x6(mask:Nat)(p:Probe)(a:Nat):∀ b,gP mask p (a+b)=gP mask (gP mask p a) b
 | 0=>rfl
 | b+1=>by
  show og mask (gP mask p<|a+b)=og mask (gP mask (gP mask p a) b);rw[x6 mask p a b]
theorem uB(mask i q:Nat):∀ k,k<=runEnd mask i - i->gP mask (P0 mask i q) k={j:=i+k,more:=runEnd mask i - i - k,i:=i,perturb:=q,dummy:=none}
 | 0,_=>rfl
 | k+1,h=>by
  show og mask (gP mask (P0 mask i q) k)=_;rw[uB mask i q k<|⋯];unfold og;rw[BP<|by show runEnd mask i - i - k > 0;omega];show(⟨i+k+1,runEnd mask i - i - k - 1,i,q,none⟩:Probe)=_
  congr 1
theorem C2(mask i q:Nat):gP mask (P0 mask i q) (runEnd mask i - i+1)=P0 mask (leap mask i q).1 (leap mask i q).2:=by
 show og mask (gP mask (P0 mask i q)<|runEnd mask i - i)=_;rw[uB mask i q _<|An _];unfold og;rw[BL<|by show ¬ runEnd mask i - i - (runEnd mask i - i) > 0;omega];rfl
theorem x08(mask i:Nat):runEnd mask i - i<=9:=by unfold runEnd;split <;> omega
variable{mask i:Nat}
theorem q8v(h:i<=mask):runEnd mask i<=mask:=by unfold runEnd;split <;> omega
theorem V'{mask j:Nat}:∀fuel i q,j∈qv mask fuel i q->∃ n,n < 10 * fuel/\(gP mask (P0 mask i q) n).j=j
 | 0,_,_,h=>by cases h
 | fuel+1,i,q,h=>by
  rcases Ai.mp h with e | h
  ·exact⟨0,⋯,e.symm⟩
  ·obtain⟨n,hn,e⟩:=V' fuel _ _ h;refine⟨runEnd mask i - i+1+n,by have:=x08 mask i;omega,?_⟩;rwa[x6,C2]
variable{j:Nat}
def q4g(hm:Pow<|mask+1)(h:Int)(hj:j < mask+1):∃ n,n < 10 * turns mask/\(pr mask h n).j=j:=
 V' _ _ _ (Ql hm (Gm _<|Ey _) (Qo h) hj)
theorem x3i:∀n i q,i<=mask->(gP mask (P0 mask i q) n).j<=mask:=by
 intro n
 induction n using Nat.strongRecOn with
 | _ n ih=>
  intro i q hi
  by_cases c:n<=runEnd mask i - i
  ·rw[uB mask i q n c];have:=q8v hi;show i+n<=mask;omega
  ·have e:n=runEnd mask i - i+1+(n - (runEnd mask i - i+1)):=⋯
   rw[e,x6,C2];exact ih _ ⋯ _ _<|Nat.le_of_lt_succ Qj
def Wa(mask:Nat)(h:Int)(n:Nat):(pr mask h n).j<=mask:=x3i n _ _<|Nat.le_of_lt_succ<|Gm _<|Ey _
def Reach(mask:Nat)(C3:Nat->Prop)(h:Int)(j:Nat):Prop:=∃ n,(pr mask h n).j=j/\∀ m,m < n->C3 (pr mask h m).j
def Reach.mono{C3 x8:Nat->Prop}{h:Int}(r:Reach mask C3 h j)(k:∀ i,i<=mask->C3 i->x8 i):Reach mask x8 h j:=
 let ⟨n,e,f⟩:=r;⟨n,e,λm hm=>k _ (Wa _ _ _)<|f m hm⟩
theorem Wb{mask:Nat}{owner:g6}:∀{fuel i q j},layClean.free mask owner fuel i q≈j->∃ n,(gP mask (P0 mask i q) n).j=j/\∀ m,m < n->nil? owner (gP mask (P0 mask i q) m).j=false
 | 0,_,_,_,h=>by cases h
 | fuel+1,i,q,j,h=>by
  unfold layClean.free at h
  split at h
  ·rename_i k hf;cases h;rw[List.find?_range_eq_some]at hf;have hk:k<=runEnd mask i - i:=by have:=Bo.mp hf.2.1;have:=Hv mask i;omega
   refine⟨k,by rw[uB mask i q k hk],λm hm=>?_⟩;rw[uB mask i q m<|⋯];have:=hf.2.2 m hm
   simpa[nil?]using this
  ·rename_i hf;obtain⟨n,e,g⟩:=Wb h;refine⟨runEnd mask i - i+1+n,by rwa[x6,C2],λm hm=>?_⟩
   by_cases c:m<=runEnd mask i - i
   ·rw[uB mask i q m c];have:=Fh.mp hf m (Bo.mpr<|by have:=Hv mask i;omega);exact El.mpr this
   ·have e2:m=runEnd mask i - i+1+(m - (runEnd mask i - i+1)):=⋯
    rw[e2,x6,C2];exact g _<|⋯
variable{owner:g6}
def Wc{k:Nat}(h:nil? owner i=false):nil? (owner.setIfInBounds j<|some k) i=false:=by
 unfold nil? at h ⊢;rw[Db]at h ⊢;rw[Fn]
 split
 ·split <;> rfl
 ·exact h
def oh(mask:Nat)(hs:List Int)(owner:g6):Prop:=∀ v j x,owner[j]?≈some v->hs[v]?≈x->Reach mask (λi=>nil? owner i=false) x j
theorem Wd{mask:Nat}(hm:Pow<|mask+1)(all:List Int):∀hs done owner,all=done++hs->Lies (mask+1) owner done.length->oh mask all owner->all.length < mask+1+1 ->
  ∃ dw,hs.foldl (oR mask) (some (owner,done.length))=some (dw,all.length)/\Lies (mask+1) dw all.length/\oh mask all dw
 | [],done,owner,e,L,R,_=>by
  rw[Bp]at e;subst e;exact⟨owner,rfl,L,R⟩
 | h :: r,done,owner,e,L,R,hk=>by
  have el:all.length=done.length+(r.length+1):=by rw[e,Ag,As]
  obtain⟨j,ej,hj⟩:=L.free hm ⋯ h;have Lp:=L.put hj;have Rp:oh mask all (owner.setIfInBounds j<|some done.length):=by
   intro v i x hv hx;rw[Fn]at hv
   by_cases c:j=i
   ·subst c;rw[BP rfl]at hv
    split at hv
    ·cases hv;rw[e,Bd<|An _,RQ]at hx;cases hx;obtain⟨n,e1,e2⟩:=Wb ej;exact⟨n,e1,λm px=>Wc<|e2 m px⟩
    ·cases hv
   ·rw[BL c]at hv;exact(R v i x hv hx).mono λ_ _=>Wc
  obtain⟨o',e',L',R'⟩:=Wd hm all r (done++[h]) (owner.setIfInBounds j<|some done.length) (by rw[e,Ar];rfl) (by rwa[Ag]) Rp hk;refine⟨o',?_,L',R'⟩;rw[Dh,show oR mask (some (owner,done.length)) h=some (owner.setIfInBounds j<|some done.length,done.length+1) by unfold oR;simp[ej]];rw[Ag]at e';exact e'
def q71(hm:Pow<|mask+1)(hs:Array Int)(hl:hs.size < mask+1+1):∃ owner,layClean mask hs≈owner/\Lies (mask+1) owner hs.size/\oh mask hs.toList owner:=by
 obtain⟨o',e,L,R⟩:=Wd hm hs.toList hs.toList [] (Array.replicate (mask+1) none) rfl (Lies.start<|mask+1) (λv j x hv=>by
  rw[Gg]at hv
  split at hv <;> cases hv) hl⁻¹
 refine⟨o',?_,L⁻¹,R⟩;have e2:layClean mask hs=(hs.foldl (oR mask)<|some (Array.replicate (mask+1) none,0)).map (·.1):=rfl;rw[e2,<- Array.foldl_toList];have e3:([]:List Int).length=0:=rfl;rw[e3]at e;rw[e];rfl
variable{xs:Array Nat}
theorem q2z(hs:xs.toList.Pairwise (· < ·)):∀fuel lo hi,hi<=xs.size->lo<=hi->hi - lo<=fuel->(∀ i v,i < lo->xs[i]?≈v->v < j)->(∀ i v,hi<=i->xs[i]?≈v->j<=v) ->
  (below.go xs j fuel lo hi)<=xs.size/\(∀ i v,i < below.go xs j fuel lo hi->xs[i]?≈v->v < j)/\(∀ i v,below.go xs j fuel lo hi<=i->xs[i]?≈v->j<=v):=by
 have mono:∀{i k:Nat} {u v:Nat},i < k->xs[i]?≈u->xs[k]?≈v->u < v:=λ{i k u v} B9 hi hk=>by
  rw[<- Bj]at hi hk;obtain⟨h1,e1⟩:=Ac.mp hi;obtain⟨h2,e2⟩:=Ac.mp hk;rw[<- e1,<- e2];exact Bc.mp hs i k h1 h2 B9
 intro fuel
 induction fuel with
 | zero=>
  intro lo hi h1 h2 h3 h4 h5;have e:lo=hi:=⋯
  subst e;exact⟨h1,h4,h5⟩
 | succ fuel ih=>
  intro lo hi h1 h2 h3 h4 h5;unfold below.go
  by_cases c:lo < hi
  ·rw[BP c];have Mt:(lo+hi) / 2 < xs.size:=⋯
   have hm:=Ce Mt;have hgd:xs.getD ((lo+hi) / 2) j=xs[(lo+hi) / 2]:=by rw[Db,hm];rfl
   simp only;rw[hgd]
   by_cases d:xs[(lo+hi) / 2] < j
   ·rw[BP d];refine ih _ _ h1 ⋯ ⋯ (λi v jK hv=>?_) h5
    by_cases k:i=(lo+hi) / 2
    ·subst k;rw[hm]at hv;cases hv;exact d
    ·exact VL (mono ⋯ hv hm) d
   ·rw[BL d];refine ih _ _ ⋯ ⋯ ⋯ h4 λi v jK hv=>?_
    by_cases k:i=(lo+hi) / 2
    ·subst k;rw[hm]at hv;cases hv;omega
    ·have:=mono (show(lo+hi) / 2 < i by omega) hm hv;omega
  ·rw[BL c];have e:lo=hi:=⋯
   subst e;exact⟨h1,h4,h5⟩
theorem Wg(hs:xs.toList.Pairwise (· < ·))(j:Nat):below xs j<=xs.size/\(∀ i v,i < below xs j->xs[i]?≈v->v < j)/\(∀ i v,below xs j<=i->xs[i]?≈v->j<=v):=
 q2z hs xs.size 0 xs.size (An _) (Bx _) ⋯ (λi v h=>absurd h<|Dj _) λi v h hv=>by
  rw[Dv h]at hv;cases hv
variable{p:Nat->Prop}
theorem q8a:∀ n,p n->∃ m,m<=n/\p m/\∀ k,k < m->¬ p k:=by
 intro n
 induction n using Nat.strongRecOn with
 | _ n ih=>
  intro h
  by_cases c:∃ k,k < n/\p k
  ·obtain⟨k,hk,pk⟩:=c;obtain⟨m,h1,h2⟩:=ih k hk pk;exact⟨m,⋯,h2⟩
  ·exact⟨n,An _,h,λk hk pk=>c ⟨k,hk,pk⟩⟩
abbrev Ze:=Nat×(Int×Value)
structure Wf(t:SetTable)(es:Array<|Int×Value)(Z:List Ze):Prop where
 place:t.place.toList=Z.map (·.1)
 ents:es.toList=Z.map (·.2)
 gL:Z.Pairwise λa b=>a.1 < b.1
 le:∀ z∈Z,z.1<=t.mask
 few:Z.length<=t.mask
 Mu:t.dummies=#[]
 pow:Pow<|t.mask+1
 Wh:∀ z∈Z,Reach t.mask (λj=>j∈Z.map (·.1)) z.2.1 z.1
variable{es:Array (Int×Value)}{z:Ze}{wanted:Nat}
section
variable{t:SetTable}{Z:List Ze}
def Wf.sorted(W:Wf t es Z):t.place.toList.Pairwise (· < ·):=by
 rw[W.place,Dr];exact W.gL
def Wf.len(W:Wf t es Z):es.size=Z.length:=by rw[<- Bu,W.ents,Aa]
def Wf.x9(W:Wf t es Z):t.place.size=Z.length:=by rw[<- Bu,W.place,Aa]
def Wf.at(W:Wf t es Z)(h:Z[i]?≈z):t.place[i]?≈z.1/\es[i]?≈z.2:=by
 rw[<- Bj,<- Bj,W.place,W.ents,Ah,Ah,h];exact⟨rfl,rfl⟩
def Wf.of(W:Wf t es Z){v:Nat}(h:t.place[i]?≈v):∃ z,Z[i]?≈z/\z.1=v:=by
 rwa[<- Bj,W.place,Ah,Az]at h
theorem Wf.inj(W:Wf t es Z){k:Nat}{y:Ze}(hi:Z[i]?≈y)(hk:Z[k]?≈z)(e:y.1=z.1):i=k:=by
 obtain⟨h1,e1⟩:=Ac.mp hi;obtain⟨h2,e2⟩:=Ac.mp hk
 rcases Em i k with c | c | c
 ·have:=Bc.mp W.gL i k h1 h2 c;rw[e1,e2]at this;omega
 ·exact c
 ·have:=Bc.mp W.gL k i h2 h1 c;rw[e1,e2]at this;omega
theorem Wf.iX(W:Wf t es Z)(h:Z[i]?≈z):below t.place z.1=i:=by
 obtain⟨b1,b2,b3⟩:=Wg W.sorted z.1;have hp:=(W.at h).1;have c1:¬ i < below t.place z.1:=λc=>De _<|b2 i _ c hp
 rcases Da (below t.place z.1) i with c | c
 ·have hi:=(Ac.mp h).1;have hb:below t.place z.1 < Z.length:=⋯
  have h2:=Ab hb;have h3:=b3 _ _ (An _) (W.at h2).1;have h4:=Bc.mp W.gL _ i hb hi c;rw[(Ac.mp h).2]at h4;omega
 ·omega
def Wf.fO(W:Wf t es Z)(h:Z[i]?≈z):t.slot z.1 = .live i:=by
 unfold slot;simp only;rw[W.iX h,(W.at h).1,BP<|FZ _]
def Wf.iY(W:Wf t es Z)(h:j∉Z.map (·.1)):t.slot j = .empty:=by
 unfold slot;simp only;have h1:(t.place[below t.place j]? == some j)=false:=by
  rw[beq_eq_false_iff_ne];intro e;obtain⟨z,hz,ez⟩:=W.of e;exact h<|Ak.mpr ⟨z,Ao hz,ez⟩
 rw[BL (by rw[h1];exact Aw),W.Mu];rfl
theorem Wf.fits(W:Wf t es Z):t.fits es.size=true:=by
 unfold SetTable.fits fill;have:=W.few;rw[W.len,W.x9,W.Mu];simp only[FZ,Gh,DQ];show Z.length+0<=t.mask;omega
structure Stop(mask:Nat)(Z:List Ze)(h:Int)(N:Nat):Prop where
 out:(pr mask h N).j∉Z.map (·.1)
 Wi:∀ m,m < N->(pr mask h m).j∈Z.map (·.1)
 lt:N < 10 * turns mask
theorem Wf.stop(W:Wf t es Z)(h:Int):∃ N,Stop t.mask Z h N:=by
 have:∃ j,j < t.mask+1/\j∉Z.map (·.1):=by
  refine CQ λhn=>?_;have all:=λj hj=>CQ λk=>hn ⟨j,Bo.mp hj,k⟩;have:=(Ga).length_le_of_subset all;rw[Dq,Aa]at this;have:=W.few;omega
 obtain⟨j,hj,hz⟩:=this;obtain⟨n,hn,e⟩:=q4g W.pow h hj;obtain⟨N,h1,h2,h3⟩:=q8a (p:=λn=>(pr t.mask h n).j∉Z.map (·.1)) n (by rwa[e]);exact⟨N,h2,λm hm=>CQ λk=>h3 m hm k,⋯⟩
theorem Mv{mask:Nat}{p:Probe}(h:p.dummy=none):∀ n,(gP mask p n).dummy=none
 | 0=>h
 | n+1=>by
  show(og mask<|gP mask p n).dummy=none;unfold og
  split
  ·exact Mv h n
  ·exact Mv h n
def q2l(mask:Nat)(h:Int)(n:Nat):(pr mask h n).dummy=none:=Mv rfl n
theorem Wf.go(W:Wf t es Z){hashAt:Nat->Int}(hh:∀ i e,es[i]?≈e->hashAt i=e.1){h:Int}{N:Nat}(S:Stop t.mask Z h N):∀ fuel m,m<=N->N - m < fuel ->
  (∃ m' i z,m<=m'/\m' < N/\Z[i]?≈z/\z.1=(pr t.mask h m').j/\z.2.1=h/\(∀ k,m<=k->k < m'->∀ z∈Z,z.1=(pr t.mask h k).j->z.2.1≠h)/\probe.go t hashAt h fuel (pr t.mask h m)=some (.candidate (pr t.mask h m').j i<|pr t.mask h<|m'+1)) \/
  ((∀ k,m<=k->k < N->∀ z∈Z,z.1=(pr t.mask h k).j->z.2.1≠h)/\probe.go t hashAt h fuel (pr t.mask h m)=some (.empty (pr t.mask h N).j none))
 | 0,m,_,hf=>absurd hf<|Dj _
 | fuel+1,m,hm,hf=>by
  unfold probe.go
  by_cases c:m=N
  ·subst c;refine .inr ⟨λk h1 h2=>⋯,?_⟩;rw[W.iY S.out];simp only;rw[q2l]
  ·obtain⟨z,hz,ez⟩:=Ak.mp (S.Wi m<|⋯);obtain⟨i,hi⟩:=Be hz;have uniq:∀ y∈Z,y.1=(pr t.mask h m).j->y=z:=λy hy e=>by
    obtain⟨k,hk⟩:=Be hy;have:=W.inj hk hi (by rw[e,ez]);subst this;rw[hk]at hi;exact Option.some.inj hi
   rw[<- ez,W.fO hi];simp only;rw[hh i _ (W.at hi).2]
   by_cases d:z.2.1=h
   ·rw[BP<|by rw[d];exact FZ _];exact .inl ⟨m,i,z,An _,⋯,hi,ez,d,λk h1 h2=>⋯,by rw[ez];rfl⟩
   ·rw[BL<|by rwa[HY]]
    rcases W.go hh S fuel (m+1) ⋯ ⋯with ⟨m',k,y,a1,a2,a3,a4,a5,a6,a7⟩ | ⟨a1,a2⟩
    ·refine .inl ⟨m',k,y,⋯,a2,a3,a4,a5,λl h1 h2 x hx ex=>?_,a7⟩
     by_cases e:l=m
     ·subst e;rwa[uniq x hx ex]
     ·exact a6 l ⋯ h2 x hx ex
    ·refine .inr ⟨λl h1 h2 x hx ex=>?_,a2⟩
     by_cases e:l=m
     ·subst e;rwa[uniq x hx ex]
     ·exact a1 l ⋯ h2 x hx ex
theorem Wf.put(W:Wf t es Z){h:Int}{x:Value}{N:Nat}(S:Stop t.mask Z h N){t':SetTable}(e1:t'.mask=t.mask)(e2:t'.place=(t.put (pr t.mask h N).j).1.place)(e3:t'.dummies=#[])(hf:Z.length+1<=t.mask) :
  ∃ Z',Wf t' (insertAt es (t.put (pr t.mask h N).j).2 (h,x)) Z'/\Z'.Perm (((pr t.mask h N).j,(h,x)) :: Z):=by
 obtain⟨b1,b2,b3⟩:=Wg W.sorted (pr t.mask h N).j;have ep:(t.put (pr t.mask h N).j).2=below t.place (pr t.mask h N).j:=rfl;have eP:(t.put (pr t.mask h N).j).1.place=insertAt t.place (below t.place (pr t.mask h N).j) (pr t.mask h N).j:=rfl;rw[eP]at e2;rw[ep];generalize hb:below t.place (pr t.mask h N).j=p at b1 b2 b3 e2;have hj:=Wa t.mask h N;have sN:=S.out;have sI:=S.Wi;have rN:Reach t.mask (λj=>j∈Z.map (·.1)) h (pr t.mask h N).j:=⟨N,rfl,sI⟩;clear hb eP ep;generalize (pr t.mask h N).j=j at b2 b3 e2 hj sN rN ⊢;have pm:(Z.take p++(j,(h,x)) :: Z.drop p).Perm ((j,(h,x)) :: Z):=by
  refine List.perm_middle.trans ?_;rw[Cw]
 refine⟨Z.take p++(j,(h,x)) :: Z.drop p,⟨?_,?_,?_,λz hz=>?_,?_,e3,by rw[e1];exact W.pow,λz hz=>?_⟩,pm⟩
 ·rw[e2,toList_insertAt,W.place,Al,Ba,Hn,Ho]
 ·rw[toList_insertAt,W.ents,Al,Ba,Hn,Ho]
 ·rw[Fv];have tk:∀ a∈Z.take p,a.1 < j:=λa ha=>by
   obtain⟨i,hi⟩:=Be ha;rw[List.getElem?_take]at hi
   split at hi
   ·exact b2 i _ (by assumption) (W.at hi).1
   ·cases hi
  have dr:∀ a∈Z.drop p,j < a.1:=λa ha=>by
   obtain⟨i,hi⟩:=Be ha;rw[Gn]at hi;have:=b3 (p+i) _ ⋯ (W.at hi).1;have ne:a.1≠j:=λe=>sN (by rw[<- e];exact Ak.mpr ⟨a,Ao hi,rfl⟩);omega
  refine⟨W.gL.sublist<|List.take_sublist _ _,Ct.mpr ⟨dr,W.gL.sublist<|List.drop_sublist _ _⟩,λa ha b hb=>?_⟩
  rcases Ai.mp hb with e | hb
  ·rw[e];exact tk a ha
  ·exact VL (tk a ha)<|dr b hb
 ·rw[e1]
  rcases Ai.mp (pm.mem_iff.mp hz)with e | hz
  ·rwa[e]
  ·exact W.le z hz
 ·rwa[pm.length_eq,e1]
 ·have up:∀{h':Int} {k:Nat},Reach t.mask (λj=>j∈Z.map (·.1)) h' k->Reach t'.mask (λi=>i∈(Z.take p++(j,(h,x)) :: Z.drop p).map (·.1)) h' k:=λr=>by
   rw[e1];refine r.mono λi _ hi=>?_;rw[(pm.map (·.1)).mem_iff];exact Af _ hi
  rcases Ai.mp (pm.mem_iff.mp hz)with e | hz
  ·rw[e];exact up rN
  ·exact up<|W.Wh z hz
def q7x(m:Nat)(owner:g6):(live m owner).Pairwise (λa b=>a.1 < b.1):=by
 unfold live;rw[List.pairwise_filterMap];refine List.Pairwise.imp (λ{a b} gd x hx y hy=>?_) List.pairwise_lt_range;rw[Az]at hx hy;obtain⟨u,_,rfl⟩:=hx;obtain⟨v,_,rfl⟩:=hy;exact gd
theorem q19{t:SetTable}(hm:Pow<|sizeAbove wanted)(hl:es.size<=sizeAbove wanted - 1) :
  ∃ t2 order Z,t.relaid (es.map (·.1)) wanted=some (t2,order)/\(order.filterMap (es[·]?)).size=es.size/\Wf t2 (order.filterMap (es[·]?)) Z/\(Z.map (·.2)).Perm es.toList/\t2.mask=sizeAbove wanted - 1:=by
 have hp:8<=sizeAbove wanted:=by rcases hm with h | h | h | h | h | h <;> omega
 have em:sizeAbove wanted - 1+1=sizeAbove wanted:=⋯
 obtain⟨o,e,L,R⟩:=q71 (by rwa[em]) (es.map (·.1)) (by rw[Array.size_map];omega);rw[Array.size_map]at L;rw[show t.relaid (es.map (·.1)) wanted=laid (sizeAbove wanted - 1) t.finger (t.movedTo<|sizeAbove wanted - 1) t.led t.plain (es.map (·.1))from rfl];generalize sizeAbove wanted - 1=mask at e L R em hl ⊢;have he:∀ p∈live (mask+1) o,p.2 < es.size/\p.1 < mask+1/\o[p.1]?≈some p.2:=λp hp=>by
  have:=c7.mp hp;exact⟨L.lt _ _ this.2,this.1,this.2⟩
 have ef:∀ l:List<|Nat×Nat,(∀ p∈l,p.2 < es.size)->(l.map (·.2)).filterMap (es[·]?)=l.map λp=>(es[p.2]?).getD (0,.none):=λl=>by
  induction l with
  | nil=>intro _;rfl
  | cons p r ih=>
   intro hl;rw[Ba,Ba,Eh,Ce<|hl p Ae,ih λq hq=>hl q<|Af _ hq];rfl
 have ee:(((live (mask+1) o).map (·.2)).toArray.filterMap (es[·]?)).toList=(live (mask+1) o).map λp=>(es[p.2]?).getD (0,.none):=by
  rw[TQ];exact ef _ λp hp=>(he p hp).1
 have es2:(((live (mask+1) o).map (·.2)).toArray.filterMap (es[·]?)).size=es.size:=by
  rw[<- Bu,ee,Aa,L.length]
 refine⟨_,_,(live (mask+1) o).map λp=>(p.1,(es[p.2]?).getD (0,.none)),by unfold laid;rw[e];rfl,es2,⟨?_,?_,?_,λz hz=>?_,?_,rfl,by show Pow (mask+1);rwa[em],λz hz=>?_⟩,?_,rfl⟩
 ·show(live (mask+1) o).map (·.1)=_;rw[Bs];rfl
 ·rw[ee,Bs];rfl
 ·rw[Dr];exact q7x _ _
 ·obtain⟨p,hp,rfl⟩:=Ak.mp hz;show p.1<=mask;have:=(he p hp).2.1;omega
 ·rwa[Aa,L.length]
 ·obtain⟨p,hp,rfl⟩:=Ak.mp hz;obtain⟨h1,h2,h3⟩:=he p hp;have hx:(es.map (·.1)).toList[p.2]?=some (es[p.2]).1:=by rw[Bj,Array.getElem?_map,Ce h1];rfl
  have eg:(es[p.2]?).getD (0,.none)=es[p.2]:=by rw[Ce h1];rfl
  show Reach mask _ ((es[p.2]?).getD (0,.none)).1 p.1;rw[eg];refine(R p.2 p.1 _ h3 hx).mono λi hi hn=>?_;rw[Bs];have his:i < o.size:=by rw[L.size];omega
  have h4:=Ce his;cases h5:o[i] with
  | none=>
   rw[h5]at h4;have:=nil?_iff.mpr h4;rw[hn]at this;cases this
  | some v=>
   rw[h5]at h4;exact Ak.mpr ⟨(i,v),c7.mpr ⟨⋯,h4⟩,rfl⟩
 ·rw[Bs];have p1:((live (mask+1) o).map λp=>(es[p.2]?).getD (0,.none))=((live (mask+1) o).map (·.2)).map λv=>(es[v]?).getD (0,.none):=by rw[Bs];rfl
  show((live (mask+1) o).map λp=>(es[p.2]?).getD (0,.none)).Perm _;rw[p1];refine(L.perm.map _).trans<|List.Perm.of_eq ?_;apply Dy;intro i;rw[Ah]
  by_cases c:i < es.size
  ·rw[Dx c];show some ((es[i]?).getD (0,.none))=es.toList[i]?;rw[Bj,Ce c];rfl
  ·rw[Bg (by rw[Dq];omega),Bj,Dv<|⋯];rfl
end
variable{w:World}{U:Program}{s:Shared}{E:Í}{A:Around}{Q:Bool->Shared->Prop}{m:Nat}
section
variable{K:Type} [DecidableEq K]
def ent(knd:HeapKind U w K)(y:Nat×K×Addr):Ze:=(y.1,(knd.hash y.2.1,Value.ref y.2.2))
def ya(knd:HeapKind U w K):Prop:=∀{A}{E}{s}{k}{a}{Q},knd.is s.heap k a->Q false s->↥1 (ofAClassStatement 8<|.ref a) Q E s
variable{a b:Addr}{knd:HeapKind U w K}{k:K}{ý:List (Nat×K×Addr)}
def q77(ú:ya knd)(hb:knd.is s.heap k b)(l:Ò)(hl:∀ v∈l,∃ k' c,v=Value.ref c/\knd.is s.heap k' c)(q:Q false s):↥1 (searchCouldBeSeen (.ref b) l) Q E s:=by
 unfold searchCouldBeSeen;refine BJ<|NZ _ (λrest r s'=>r.1=none/\s'=s/\∀ v∈rest,∃ k' c,v=Value.ref c/\knd.is s.heap k' c) _ ?_ ?_ l _ ⟨rfl,rfl,hl⟩
 ·rintro v rest r s' ⟨hr,rfl,hv⟩;obtain⟨k',c,rfl,hc⟩:=hv v Ae;have jv:=λv h=>hv v<|Af _ h
  dsimp only
  split
  ·exact BK ⟨rfl,rfl,jv⟩
  ·refine BJ<|knd.quiet hb ?_;simp only[Dm,Aq,CP];refine BJ<|knd.quiet hc ?_;simp only[Dm,Aq,CP];refine BJ<|ú hb ?_;simp only[Aq,CP];refine BJ<|ú hc ?_;simp only[Aq,CP];exact BK ⟨rfl,rfl,jv⟩
 ·rintro ⟨_,_⟩ s' ⟨rfl,rfl,_⟩;exact BK q
theorem q3k(h:Pow<|m+1):(m % 2 == 0)=false:=by
 rw[beq_eq_false_iff_ne]
 rcases h with h | h | h | h | h | h <;> omega
theorem Mw{adding:Bool}{o:Obj}{es:Array (Int×Value)}{ep:Nat}{t:SetTable}{N:Nat}{Q:SetFound->Shared->Prop}(ú:ya knd)(hA:knd.room A)(ho:s.heap.get? a≈o)(hd:o.data = .set es ep t)(W:Wf t es<|ý.map<|ent knd)
  (hY:∀ y∈ý,knd.is s.heap y.2.1 y.2.2) (hb:knd.is s.heap k b) (S:Stop t.mask (ý.map<|ent knd) (knd.hash k) N)
  (k0:k∉ý.map (·.2.1)->Q (.free (pr t.mask (knd.hash k) N).j false) s) (k1:∀ oi,k∈ý.map (·.2.1)->(adding=false->oi.isSome=true)->Q (.there oi) s) :
  ∀fuel m stand,stand.getD (t.probeStart<|knd.hash k)=pr t.mask (knd.hash k) m->m<=N->N - m < fuel->(∀ l,l < m->∀ y∈ý,y.1=(pr t.mask (knd.hash k) l).j->y.2.1≠k) ->
   ↥1 (setSearchFrom a (.ref b) (knd.hash k) adding fuel stand) Q E s
 | 0,m,stand,_,_,hf,_=>absurd hf<|Dj _
 | fuel+1,m,stand,hs,hm,hf,hn=>by
  unfold setSearchFrom;refine BJ<|CG ho hd W.fits ?_
  dsimp only
  rw[hs];have gw:t.gaveWay=false:=q3k W.pow;rw[gw];simp only[Aq,CP];have hl:=S.lt;have G:=W.go (hashAt:=λi=>(es[i]?.map (·.1)).getD 0) (λi e he=>by show(es[i]?.map (·.1)).getD 0=e.1;rw[he];rfl) S (10 * turns t.mask) m hm<|⋯
  split
  ·rename_i met yb
   rcases G with ⟨m',i,z,a1,a2,a3,a4,a5,a6,a7⟩ | ⟨a1,a2⟩
   ·have e2:=Option.some.inj<|yb.symm.trans a7;subst e2;rw[Ah,Az]at a3;obtain⟨y,hy,rfl⟩:=a3;have Mx:y∈ý:=Ao hy;have hZ:(ý.map<|ent knd)[i]?≈ent knd y:=by rw[Ah,hy];rfl
    have CA:t.slot (pr t.mask (knd.hash k) m').j = .live i:=by rw[<- a4];exact W.fO hZ
    have Wj:es[i]?=some (knd.hash y.2.1,Value.ref y.2.2):=(W.at hZ).2;have iC:t.sameMemory t.moves t.mask≈true:=by unfold sameMemory;rw[BP<|FZ _]
    have js:∀(Q':Bool->Shared->Prop),Q' true s->↥1 (isSame (.ref y.2.2)<|.ref y.2.2) Q' E s:=λQ' q=>by
     unfold isSame;simp only;rw[BP<|FZ _];exact BK q
    have again:y.2.1≠k->↥1 (setSearchFrom a (.ref b) (knd.hash k) adding fuel<|some<|pr t.mask (knd.hash k)<|m'+1) Q E s:=λne=>
     Mw ú hA ho hd W hY hb S k0 k1 fuel (m'+1) (some<|pr t.mask (knd.hash k)<|m'+1) rfl ⋯ ⋯ λl iM y' oI My=>by
      by_cases c:l < m
      ·exact hn l c y' oI My
      ·by_cases d:l=m'
       ·subst d;have:(ent knd y')=ent knd y:=by
         obtain⟨i',jK⟩:=Be oI;have Mz:(ý.map<|ent knd)[i']?≈ent knd y':=by rw[Ah,jK];rfl
         have:=W.inj Mz hZ (by show y'.1=(ent knd y).1;rw[a4];exact My);subst this;rw[hZ]at Mz;exact(Option.some.inj Mz).symm
        have e3:y'.2.2=y.2.2:=by
         have:=BZ (λz:Ze=>z.2.2) this;exact Value.ref.inj this
        have h1:=hY y' oI;rw[e3]at h1;rw[knd.inj h1<|hY y Mx];exact ne
       ·intro ek;refine a6 l ⋯ ⋯ (ent knd y') (Ak.mpr ⟨y',oI,rfl⟩) My ?_;show knd.hash y'.2.1=knd.hash k;rw[ek]
    dsimp only
    split
    all_goals
     try
      refine BJ<|q77 ú hb _ ?hm ?_
      case hm=>
       intro v hv;obtain⟨e,he,rfl⟩:=Ak.mp hv;rw[Array.toList_filter,Bf,W.ents]at he;obtain⟨z,hz,rfl⟩:=Ak.mp he.1;obtain⟨y',oI,rfl⟩:=Ak.mp hz;exact⟨y'.2.1,y'.2.2,rfl,hY y' oI⟩
      simp only[Aq,CP]
     rw[Wj]
     dsimp only
     refine BJ<|CJ<|knd.eqBool hA (hY y Mx) hb ?_;refine BJ<|CG ho hd W.fits ?_
     dsimp only
     rw[iC,CA]
     dsimp only
     rw[BP (rfl:true=true)]
     dsimp only
     rw[Wj]
     dsimp only
     by_cases ek:y.2.1=k
     ·have qt:k∈ý.map (·.2.1):=Ak.mpr ⟨y,Mx,ek⟩;rw[BW ek];cases adding with
      | true=>
       simp only[Bool.and_self,CZ];exact BK<|k1 none qt λz=>nomatch z
      | false=>
       simp only[Gq,Aq,CP,CZ];refine BJ<|js _ ?_;refine BJ<|BK ?_;simp only[CZ];exact BK<|k1 (some i) qt λ_=>rfl
     ·rw[BR ek];simp only[Ep,Aq,CP,CZ];refine BJ<|js _ ?_;refine BJ<|BK ?_;simp only[CZ];exact again ek
   ·have e2:=Option.some.inj<|yb.symm.trans a2;subst e2
    dsimp only
    refine BK<|k0 λhk=>?_;obtain⟨y,hy,ey⟩:=Ak.mp hk;have hz:ent knd y∈ý.map (ent knd):=Ak.mpr ⟨y,hy,rfl⟩;obtain⟨n,e1,e2⟩:=W.Wh _ hz;have eh:(ent knd y).2.1=knd.hash k:=by show knd.hash y.2.1=_;rw[ey]
    rw[eh]at e1 e2;have hnN:n < N:=by
     refine CQ λc=>?_
     rcases Da N n with d | d
     ·exact S.out<|e2 N d
     ·have:n=N:=⋯
      subst this;exact S.out<|by rw[e1];exact Ak.mpr ⟨_,hz,rfl⟩
    by_cases c:n < m
    ·exact hn n c y hy e1.symm ey
    ·exact a1 n ⋯ hnN _ hz e1.symm eh
  ·rename_i pM
   rcases G with ⟨m',i,z,a1,a2,a3,a4,a5,a6,a7⟩ | ⟨a1,a2⟩
   ·exact absurd a7<|pM _
   ·exact absurd a2<|pM _
end
section
variable{K:Type} [DecidableEq K]
def gC(m:Nat):Prop:=m=7\/m=31\/m=127\/m=511
def jY(knd:HeapKind U w K)(h:Heap)(a:Addr)(ý:List<|Nat×K×Addr):Prop:=
 ∃ o es ep t,h.get? a≈o/\o.ExactSet/\o.data = .set es ep t/\Wf t es (ý.map<|ent knd)/\ý.length * 5 < t.mask * 3/\gC t.mask
def Wk(knd:HeapKind U w K):Prop:=∀{A}{E}{s}{k}{a}{Q},knd.is s.heap k a->(∀ b,Q b s)->↥1 (hashByValue 8<|.ref a) Q E s
variable{a b:Addr}{knd:HeapKind U w K}{k:K}{ý:List (Nat×K×Addr)}
def Wl:byScan (.ref b) es=false:=by
 unfold byScan;rfl
theorem q4x{Q:Option Nat->Shared->Prop}(ú:ya knd)(hA:knd.room A)(S:jY knd s.heap a ý)(hY:∀ y∈ý,knd.is s.heap y.2.1 y.2.2)(hb:knd.is s.heap k b)
  (k0:k∉ý.map (·.2.1)->Q none s) (k1:∀ i,k∈ý.map (·.2.1)->Q (some i) s):↥1 (setFind a (.ref b)<|knd.hash k) Q E s:=by
 obtain⟨o,es,ep,t,ho,hx,hd,W,_⟩:=S;obtain⟨N,SN⟩:=W.stop<|knd.hash k;have hl:=SN.lt;have hm:=W.pow.pos.2;unfold setFind setFindIn;refine BJ<|CG ho hd W.fits ?_
 dsimp only
 rw[Wl];simp only[Aq,CP];refine BJ<|Mw ú hA ho hd W hY hb SN (λhk=>?_) (λoi hk hs=>?_) 100000 0 none (V9 t _) (Bx _) (by unfold turns at hl;omega) λl iM=>absurd iM<|Dj _
 ·exact BK<|k0 hk
 ·cases oi with
  | none=>exact absurd (hs rfl) Aw
  | some i=>exact BK<|k1 i hk
def q7b(h:gC m):Pow (m+1):=by
 unfold gC at h;unfold Pow
 rcases h with rfl | rfl | rfl | rfl <;> decide
theorem q9u{n:Nat}(hw:gC m)(h1:(n - 1) * 5 < m * 3)(h2:n * 5>=m * 3)(h0:1<=n)(h3:n<=300):gC (sizeAbove (grown n) - 1)/\n<=sizeAbove (grown n) - 1/\n * 5 < (sizeAbove (grown n) - 1) * 3:=by
 rcases hw with h | h | h | h
 ·have:n=5:=⋯
  subst this;unfold gC;decide +kernel
 ·have:n=19:=⋯
  subst this;unfold gC;decide +kernel
 ·have:n=77:=⋯
  subst this;unfold gC;decide +kernel
 ·omega
def Wm{o:Obj}{ep:Nat}{dM:Array (Int×Value)}{t t':SetTable}{h:Heap}{Y':List (Nat×K×Addr)}(ho:h.get? a≈o)(hx:o.ExactSet)(hd:o.data = .set es ep t)(W':Wf t' dM<|Y'.map<|ent knd) :
  (h.update a<|Obj.putSet dM t').get? a=some {o with data:= .set dM (ep+1) t'}:=by
 have q:=Dd (Obj.putSet dM t') ho (by rw[putSet_of dM t' hd];rfl);rwa[putSet_of dM t' hd]at q
theorem Wn{α β:Type}{f:α->β}{L M:List β}(h:L.Perm M):∀{Y'},Y'.map f=M->∃ Y2:List α,L=Y2.map f/\Y2.Perm Y':=by
 induction h with
 | nil=>
  intro Y' hM;have:Y'=[]:=by simpa using hM
  subst this;exact⟨[],rfl,.refl _⟩
 | cons x p ih=>
  intro Y' hM;cases Y' with
  | nil=>cases hM
  | cons y r=>
   rw[Ba]at hM
   injection hM with e1 e2
   subst e1;obtain⟨Y2,e3,p2⟩:=ih e2;exact⟨y :: Y2,by rw[e3];rfl,p2.cons y⟩
 | swap x y l=>
  intro Y' hM;cases Y' with
  | nil=>cases hM
  | cons u r=>
   cases r with
   | nil=>cases hM
   | cons v r=>
    rw[Ba,Ba]at hM
    injection hM with e1 e2
    injection e2 with e2 e3
    subst e1 e2 e3;exact⟨v :: u :: r,rfl,.swap _ _ _⟩
 | trans p1 p2 ih1 ih2=>
  intro Y' hM;obtain⟨Y2,e2,q2⟩:=ih2 hM;obtain⟨Y3,e3,q3⟩:=ih1 e2.symm;exact⟨Y3,e3,q3.trans q2⟩
theorem glue:∀{Z:List Ze} {ý:List (Nat×K×Addr)},Z.map (·.2)=ý.map (λy=>(ent knd y).2)->∃ Y2:List<|Nat×K×Addr,Z=Y2.map (ent knd)/\Y2.map (·.2)=ý.map (·.2)
 | [],[],_=>⟨[],rfl,rfl⟩
 | [],_ :: _,h=>by cases h
 | _ :: _,[],h=>by cases h
 | z :: Z,y :: ý,h=>by
  rw[Ba,Ba]at h
  injection h with h1 h2
  obtain⟨Y2,e1,e2⟩:=glue h2;refine⟨(z.1,y.2) :: Y2,?_,by rw[Ba,Ba,e2]⟩;rw[Ba,<- e1]
  congr 1
  show z=(z.1,(ent knd y).2);rw[<- h1]
theorem q8z(ú:ya knd)(HB:Wk knd)(hA:knd.room A)(S:jY knd s.heap a ý)(hY:∀ y∈ý,knd.is s.heap y.2.1 y.2.2)(hb:knd.is s.heap k b)(hl:ý.length+1<=300)
    (q0:k∈ý.map (·.2.1)->Q false s) (q1:∀ h' Y',k∉ý.map (·.2.1)->Heap.SameBut a s.heap h'->jY knd h' a Y'->(Y'.map (·.2)).Perm ((k,b) :: ý.map (·.2))->Q true {s with heap:=h'}) :
    ↥1 (setAddHashed a (.ref b)<|knd.hash k) Q E s:=by
  obtain⟨o,es,ep,t,ho,hx,hd,W,Wo,hw⟩:=S;obtain⟨N,SN⟩:=W.stop<|knd.hash k;have aX:=SN.lt;have hm:=W.pow.pos;have eZ:(ý.map<|ent knd).length=ý.length:=Aa ..;unfold setAddHashed setAddHashedIn;refine CJ<|BJ<|CG ho hd W.fits ?_
  dsimp only
  rw[Wl];simp only[Aq,CP];refine BJ ?_;refine Mw (adding:=true) ú hA ho hd W hY hb SN (λhk=>?_) (λoi hk hs=>?_) 100000 0 none (V9 t _) (Bx _) (by unfold turns at aX;omega) λl iM=>absurd iM<|Dj _
  · dsimp only
    refine BJ<|CG ho hd W.fits ?_
    dsimp only
    have put:=λ(t':SetTable) e1 e2 e3=>W.put (x:= .ref b) SN (t':=t') e1 e2 e3 (by rw[eZ];omega);have fin:∀ t':SetTable,t'.mask=t.mask->t'.place=(t.put (pr t.mask (knd.hash k) N).j).1.place->t'.dummies=#[]->↥1 (do
        storeSet a (insertAt es (t.put (pr t.mask (knd.hash k) N).j).2 (knd.hash k,.ref b)) t'
        if (!false && t'.tooFull) = true then do
            setRelay a (grown<|es.size+1)
            pure true
          else pure true) Q E s:=λt' e1 e2 e3=>by
      obtain⟨Z',W',pZ⟩:=put t' e1 e2 e3;obtain⟨Y2,eY2,Wp⟩:=Wn pZ (f:=ent knd) (Y':=((pr t.mask (knd.hash k) N).j,k,b) :: ý) rfl;subst eY2;have lY2:Y2.length=ý.length+1:=Wp.length_eq;have lE:=W'.len;rw[Aa]at lE;have pk:(Y2.map (·.2)).Perm ((k,b) :: ý.map (·.2)):=Wp.map (·.2);generalize insertAt es (t.put (pr t.mask (knd.hash k) N).j).2 (knd.hash k,.ref b)=c8 at W' lE ⊢;refine BJ (FQ ho hd ?_<|jJ<|⋯);have g1:=Wm (knd:=knd) (Y':=Y2) ho hx hd W';have sb:=CT s.heap a<|Obj.putSet c8 t';have pN:t'.fill=Y2.length:=by
        unfold fill;rw[W'.x9,e3,Aa];rfl
      by_cases full:t'.tooFull=true
      · rw[full];simp only[Gr,Bool.and_self,CZ];unfold tooFull at full;rw[DQ,pN,e1]at full;obtain⟨w1,w2,w3⟩:=q9u (n:=es.size+1) hw (by rw[W.len,eZ];omega) (by rw[W.len,eZ];omega) ⋯ (by rw[W.len,eZ];omega);have en:es.size+1=c8.size:=by rw[lE,lY2,W.len,eZ]
        rw[en]at w1 w2 w3 ⊢;have hp8:sizeAbove (grown c8.size) - 1+1=sizeAbove (grown c8.size):=by unfold gC at w1;omega
        have pw:=q7b w1;rw[hp8]at pw;obtain⟨t2,order,Z3,r1,r2,r3,r4,r5⟩:=q19 (t:=t') (es:=c8) pw w2;refine BJ ?_;unfold setRelay;refine BJ<|CG g1 rfl W'.fits ?_
        dsimp only
        have MA:¬(sizeAbove (grown c8.size) > sizeLine):=by
          have:=pw.pos.2;rw[DX];omega
        rw[BL MA,r1];refine BJ ?_;show wpAny _ _ (if((order.filterMap (c8[·]?)).size != c8.size)=true then _ else _) _ _ _;rw[BL<|by rw[r2];simp];refine BK ?_;refine FQ g1 rfl ?_ (by rw[r2];exact jJ<|⋯);refine BK ?_;rw[W'.ents,Bs]at r4;obtain⟨Y4,eY4,Wq⟩:=Wn r4 (f:=λy=>(ent knd y).2) (Y':=Y2) rfl;obtain⟨Y5,eY5,Wr⟩:=glue eY4;subst eY5;have xg:({o with data:= .set c8 (ep+1) t'}:Obj).ExactSet:=hx;have g2:=Wm (knd:=knd) (Y':=Y5) g1 xg rfl r3;have lY5:Y5.length=Y2.length:=by
          have:=BZ List.length Wr;rwa[Aa,Aa,Wq.length_eq]at this
        refine q1 _ Y5 hk (sb.trans<|CT _ a _) ⟨_,_,_,t2,g2,xg,rfl,r3,by rwa[r5,lY5,<- lE],by rwa[r5]⟩ ?_;rw[Wr];exact(Wq.map (·.2)).trans pk
      · rw[Bool.not_eq_true]at full;rw[full];simp only[Ep,Aq,CP];refine BK (q1 _ Y2 hk sb ⟨_,c8,ep+1,t',g1,hx,rfl,W',?_,by rwa[e1]⟩ pk);unfold tooFull at full;rw[GZ,pN]at full;omega
    have dm:(t.put (pr t.mask (knd.hash k) N).j).1.dummies=#[]:=by
      show(if has t.dummies _=true then _ else t.dummies)=#[];rw[W.Mu];rfl
    split
    · refine BJ<|HB hb λbv=>?_;cases bv with
      | true=>exact fin (t.put (pr t.mask (knd.hash k) N).j).1 rfl rfl dm
      | false=>exact fin {(t.put (pr t.mask (knd.hash k) N).j).1 with plain:=false} rfl rfl dm
    · exact BJ<|BK<|fin (t.put (pr t.mask (knd.hash k) N).j).1 rfl rfl dm
  · dsimp only
    exact BK<|q0 hk
end
variable{v:Value}
section
variable{K:Type} [DecidableEq K] {knd:KeyKind U w K}
def q4b(h:carriedByValue v=true):ofAClassStatement 7 v=pure false:=by
 cases v <;> first | rfl | exact absurd h ∅ | (unfold carriedByValue at h;cases h)
def q2b(h:carriedByValue v=true):∃ b,hashByValue 7 v=pure b:=by
 cases v <;> first | exact⟨_,rfl⟩ | exact absurd h ∅ | (unfold carriedByValue at h;cases h)
def Ws:ya (tupleKind knd):=by
 intro A E s k a Q hk q;have hT:=IsTupleKey.typeIs hk;obtain⟨o,items,n,ho,hc,hd,hi⟩:=hk;unfold ofAClassStatement;refine BJ<|JR hT ?_
 dsimp only
 refine BJ<|BK ?_;simp only[Dm,Aq,CP];refine BJ<|KZ ho hd ?_
 dsimp only
 refine BJ ?_;rw[<- Array.forIn_toList];refine NZ _ (λrest r s'=>r.1=none/\s'=s/\∀ v∈rest,carriedByValue v=true) _ ?_ ?_ _ _ ⟨rfl,rfl,hi.byValue⟩
 ·rintro v rest r s' ⟨hr,rfl,iH⟩;rw[q4b<|iH v Ae];refine BJ<|BK ?_;simp only[Aq,CP];exact BK ⟨rfl,rfl,λu hu=>iH u<|Af _ hu⟩
 ·rintro ⟨r1,r2⟩ s' ⟨hr,rfl,_⟩;simp only at hr;subst hr;exact BK q
def k17:Wk (tupleKind knd):=by
 intro A E s k a Q hk q;have hT:=IsTupleKey.typeIs hk;obtain⟨o,items,n,ho,hc,hd,hi⟩:=hk;unfold hashByValue;refine BJ<|KH hT F.slot_tuple_hash.lookup ?_
 dsimp only
 refine BJ<|KZ ho hd<|BJ ?_;show wpAny _ _ (forIn items _ _) _ _ s;rw[<- Array.forIn_toList];refine NZ _ (λrest r s'=>s'=s/\∀ v∈rest,carriedByValue v=true) _ ?_ ?_ _ _ ⟨rfl,hi.byValue⟩
 ·rintro v rest r s' ⟨rfl,iH⟩;obtain⟨b,eb⟩:=q2b<|iH v Ae;rw[eb];refine BJ<|BK ?_;cases b with
  | true=>
   simp only[Dm,Aq,CP];exact BK ⟨rfl,λu hu=>iH u<|Af _ hu⟩
  | false=>
   simp only[Gr,CZ];exact BK<|by first | exact BK (q _) | trace_state
 ·rintro ⟨r1,r2⟩ s' ⟨rfl,_⟩;cases r1 with
  | none=>exact BK<|q _
  | some r=>exact BK<|q _
end
end bP
namespace L2
open PySem PySem.Spec PyProof.Rows bP Classical
abbrev Yt:=Nat×List Key×Addr
def ko(U:Program)(w:World)(a:Addr)(ý:List Yt):HO:= .ext λh=>jY (tupleKind<|bX U w) h a ý
variable{ý:List Yt}{s:Shared}{E Q:Í}{w:World}{U:Program}{h:Heap}
section
variable{A:Around}{a b:Addr}{k:List Key}
def q66{h':Heap}(S:jY (tupleKind<|bX U w) h a ý)(q:∀ o,h.get? a≈o->h'.get? a≈o):jY (tupleKind<|bX U w) h' a ý:=let ⟨o,es,ep,t,h1,h2⟩:=S;⟨o,es,ep,t,q o h1,h2⟩
def MB(S:jY (tupleKind<|bX U w) s.heap a ý):s.TypeIs (.ref a) "set":=let ⟨o,_,_,_,h1,h2,_⟩:=S;⟨o,h1,h2.1⟩
def x2r(e:h.get? a≈gI w):jY (tupleKind<|bX U w) h a []:=
 ⟨_,#[],0,_,e,⟨rfl,rfl,rfl⟩,rfl,⟨rfl,rfl,List.Pairwise.nil,λz hz=>(by cases hz),by show 0<=7;decide,rfl,.inl rfl,λz hz=>(by cases hz)⟩,by show 0 * 5 < 7 * 3;decide,.inl rfl⟩
def k6e(hu:A.units+1 < cLine)(S:jY (tupleKind<|bX U w) s.heap a ý)(hY:∀ y∈ý,(tupleKind<|bX U w).is s.heap y.2.1 y.2.2)(hb:(tupleKind<|bX U w).is s.heap k b)
  (h:∀ tk,Q (.bool (decide (k∉ý.map (·.2.1)))) {s with toks:=tk}):↥1 (compareOp .NotIn (.ref b)<|.ref a) Q E s:=by
 have hT:=MB S;show wpAny _ _ (do return .bool (!(<- contains (.ref a)<|.ref b))) Q E s;refine BJ ?_;unfold contains
 try with_reducible refine CJ ?_
 refine BJ<|KH hT PySem.F.slot_set_contains.lookup ?_;show wpAny _ _ (if(some (Value.builtin "set.__contains__") == some Value.none)=true then _ else _) _ E s;rw[BL<|by rw[beq_builtin_none];exact Aw];refine BJ<|MJ hT JD<|DG JD hT entry_set_contains ?_<|QX _ _;unfold Builtin.«frozenset.__contains__» Builtin.Frozenset.oneOther;simp only[Fd,bind_assoc];unfold Builtin.Frozenset.addrOf Builtin.Frozenset.withSetAsKey setContains;refine BJ<|BK ?_
 try dsimp only
 refine BJ<|BK ?_
 try dsimp only
 refine BJ<|wpAny_tryCatch<|CJ<|BJ<|(tupleKind<|bX U w).pyHash (FW hu) hb ?_;refine BJ<|q4x Ws (FW hu) S hY hb (λhz=>?_) λj hz=>?_
 ·refine BK ?_;show wpAny _ _ (ret<|Value.bool false) _ _ _;have h:=h<|s.toks+(tupleKind<|bX U w).draws k;rw[BW hz]at h;exact BK ⟨_,rfl,EY<|BK h⟩
 ·refine BK ?_;show wpAny _ _ (ret<|Value.bool true) _ _ _;have h:=h<|s.toks+(tupleKind<|bX U w).draws k;rw[BR<|not_not_intro hz]at h;exact BK ⟨_,rfl,EY<|BK h⟩
def q0y(hu:A.units+1 < cLine)(S:jY (tupleKind<|bX U w) s.heap a ý)(hY:∀ y∈ý,(tupleKind<|bX U w).is s.heap y.2.1 y.2.2)(hb:(tupleKind<|bX U w).is s.heap k b)(hl:ý.length+1<=300)
  (h:∀ h' tk Y',Heap.SameBut a s.heap h'->jY (tupleKind<|bX U w) h' a Y'->(Y'.map (·.2)).Perm (if k∈ý.map (·.2.1)then ý.map (·.2) else(k,b) :: ý.map (·.2))->Q .none {s with heap:=h',toks:=tk}) :
  ↥1 (call (.builtin "set.add") [.ref a,.ref b]) Q E s:=by
 have hT:=MB S;refine DG F.slot_set_add hT F.entry_set_add ?_<|F.args_set_add_2 _ _;unfold Builtin.«set.add» Builtin.Frozenset.oneOther;simp only[Fd,bind_assoc];unfold Builtin.Frozenset.addrOf setAdd;refine BJ<|BK ?_
 try dsimp only
 refine BJ<|BK ?_
 try dsimp only
 refine BJ<|CJ ?_;refine BJ<|(tupleKind<|bX U w).pyHash (FW hu) hb ?_;refine q8z Ws k17 (FW hu) S hY hb hl (λhk=>?_) λh' Y' hk sb S' p=>?_
 ·show wpAny _ _ (ret Value.none) _ _ _;exact BK ⟨_,rfl,h s.heap _ ý (Heap.SameBut.refl a s.heap) S<|by rw[BP hk]⟩
 ·show wpAny _ _ (ret Value.none) _ _ _;exact BK ⟨_,rfl,h h' _ Y' sb S'<|by rwa[BL hk]⟩
end
variable{O:Ï}{H:Hp}{ks:List (List Key)}
section
variable{X:Cx}{σ:St}{Q:VK}{a b:Addr}
def Wt(S:jY (tupleKind<|bX X.U X.w) h a ý):aB X.U X.w H h a (ko X.U X.w a ý):=by
 refine⟨S,?_,λh1 h2 q k=>q66 q k⟩;obtain⟨o,_,_,_,ho,_⟩:=S;exact⟨o,ho⟩
def Inv.sk(I:↥3)(h:H a≈ko X.U X.w a ý):jY (tupleKind<|bX X.U X.w) s.heap a ý:=(I.aH a _ h).1
structure b6(U:Program)(w:World)(H:Hp)(a:Addr)(ks:List<|List Key):Prop where
 ex:∃ ý,H a≈ko U w a ý/\(∀ y∈ý,H y.2.2=some (.tup<|y.2.1.map kV))/\(ý.map (·.2.1)).Perm ks
def b6.same{H':Hp}(h:b6 U w H a ks)(s:aj H H'):b6 U w H' a ks:=let ⟨ý,h1,h2,h3⟩:=h.ex;⟨ý,s _ _ h1,λy hy=>s _ _<|h2 y hy,h3⟩
def b6.keep{H':Hp}(h:b6 U w H a ks)(k1:H' a=H a)(k2:∀ b xs,H b≈.tup xs->H' b≈.tup xs):b6 U w H' a ks:=let ⟨ý,h1,h2,h3⟩:=h.ex;⟨ý,by rwa[k1],λy hy=>k2 _ _<|h2 y hy,h3⟩
def b6.ne{o:HO}(h:b6 U w H a ks)(e:H b≈o)(ho:∀ φ,o ≠ .ext φ):b≠a:=λq=>by
 obtain⟨ý,h1,_⟩:=h.ex;rw[q,h1]at e;exact ho _ (Option.some.inj e).symm
def b6.some(h:b6 U w H a ks):H a≠none:=λq=>by
 obtain⟨ý,h1,_⟩:=h.ex;rw[q]at h1;cases h1
def q37{p pos:Pos}(hm:X.mg "set" = none)(h:∀ D,H D=none->Q (.ref D) (upd H D<|ko X.U X.w D []))(hg:Gl X "set":=by rfl):Ev X (.Call (.Name "set" p) [] [] pos) σ H Q:=by
 refine⟨λO s I=>Call_<|mQ I hg hm JT<|QZ<|Sl ?_⟩;exact⟨.ref ↑s,_,I.laid (λb o e=>Aj _ e) (An _)<|Wt<|x2r<|At _ rfl,rfl,h _ I.fresh⟩
def sq{D:Addr}:b6 U w (upd H D<|ko U w D []) D []:=⟨[],az,λy hy=>(by cases hy),.refl _⟩
def j9i(hu:X.A.units+1 < cLine):cX X (compareOp .NotIn) (λx y H Q=>∃ k b a ks,x = .ref b/\y = .ref a/\H b=some (.tup<|k.map kV)/\b6 X.U X.w H a ks/\Q (.bl<|decide (k∉ks)) H):=by
 intro O s σ H x y v u Q I rx ry h;obtain⟨k,b,a,ks,rfl,rfl,hb,T,q⟩:=h;obtain⟨ý,h1,h2,h3⟩:=T.ex;cases (show v=Value.ref b from rx);cases (show u=Value.ref a from ry);refine k6e hu (Inv.sk I h1) (λy hy=>lW I.aH<|h2 y hy) (lW I.aH hb) λtk=>⟨.bl<|decide (k∉ks),H,I.tok _,?_,q⟩;show Value.bool _=Value.bool _
 congr 1
 exact decide_eq_decide.mpr<|not_congr h3.mem_iff
theorem q9g{o e:Expr}{ap cp:Pos}(hu:X.A.units+1 < cLine) (h:Ev X o σ H λx H1=>∃ a,x = .ref a/\(∃ ks,b6 X.U X.w H1 a ks)/\Ev X e σ H1 λy H2=>∃ k b ks,y = .ref b/\H2 b=some (.tup<|k.map kV)/\b6 X.U X.w H2 a ks/\ks.length+1<=300 /\
   ∀ oo,b6 X.U X.w (upd H2 a oo) a (if k∈ks then ks else k :: ks)->Q .non (upd H2 a oo))
  (bO:attributeBase o "add" X.env (eval o X.env)=eval o X.env:=by rfl)
  (cG:((backTo cp<|starEach [e] X.env).all (λx=>!x.1) && (backToKw cp<|keywordEach [] X.env).all (λx=>x.1.isSome) && decide ([e].length+([]:List Keyword).length+(if([]:List Keyword).isEmpty then 0 else 1) < 30))=true:=by rfl)
  (hline:(ap.endLine == cp.line)=true:=by rfl) (hs:starEach [e] X.env=(false,eval e X.env) :: starEach [] X.env:=by rfl) (cW:isStar e=false:=by rfl):Ev X (.Call (.Attribute o "add" ap) [e] [] cp) σ H Q:=by
 refine⟨λO s I=>LR bO cG hline rfl (aO (h.run O s I) λv s1 ⟨x,H1,I1,r1,a,ex,⟨ks,hA⟩,h2⟩=>?_)⟩;subst ex;cases (show v=Value.ref a from r1);obtain⟨Y0,g1,_⟩:=hA.ex;have S:=Inv.sk I1 g1;refine⟨"set","set.add",TX,PySem.F.slot_set_add,PySem.F.type_set_add,MB S,λb eb=>?_,?_⟩
 ·cases eb;obtain⟨o,_,_,_,ho,hx,_⟩:=S;exact⟨o,ho,hx.2.1⟩
 have hE:Ea X [e] σ H1 (λys H2=>∃ k b ks,ys=[.ref b]/\H2 b=some (.tup<|k.map kV)/\b6 X.U X.w H2 a ks/\ks.length+1<=300/\∀ oo,b6 X.U X.w (upd H2 a oo) a (if k∈ks then ks else k :: ks)->Q .non (upd H2 a oo)):=
  ah (h2.mono λy H2 ⟨k,b,ks,ey,q⟩=>ax ⟨k,b,ks,by rw[ey],q⟩) cW
 have wo:=hE.run cp O s1 I1;rw[hs]at wo ⊢;refine HW rfl (JW ?_);refine aO wo λus s2 ⟨vs,H2,I2,r2,k,b,ks,ev,hb,T,hl,q⟩=>?_;subst ev;obtain⟨u,rfl,ru⟩:=vals1 r2;cases (show u=Value.ref b from ru);obtain⟨ý,g1,g2,g3⟩:=T.ex;have hlY:ý.length=ks.length:=by
  have:=g3.length_eq;rwa[Aa]at this
 refine q0y hu (Inv.sk I2 g1) (λy hy=>lW I2.aH<|g2 y hy) (lW I2.aH hb) ⋯ λh' tk Y' sb S' p=>?_;refine⟨.non,_,lX (t':=tk) I2 (by rw[g1];exact True.intro) sb ?_<|Wt S',rfl,q _ ?_⟩
 ·obtain⟨o,_,_,_,ho,_⟩:=S';exact⟨o,ho⟩
 ·have nt:∀{c:Addr} {xs:List V},H2 c≈.tup xs->c≠a:=λe z=>by
   rw[z,g1]at e;cases e
  refine⟨Y',az,λy hy=>?_,?_⟩
  ·have hm:y.2∈(if k∈ý.map (·.2.1)then ý.map (·.2) else(k,b) :: ý.map (·.2)):=p.mem_iff.mp<|Ak.mpr ⟨y,hy,rfl⟩;have old:y.2∈ý.map (·.2)->(upd H2 a<|ko X.U X.w a Y') y.2.2=some (.tup<|y.2.1.map kV):=λhm=>by
    obtain⟨z,hz,ez⟩:=Ak.mp hm;rw[<- ez,aw<|nt<|g2 z hz];exact g2 z hz
   split at hm
   ·exact old hm
   ·rcases Ai.mp hm with e | hm
    ·rwa[e,aw<|nt hb]
    ·exact old hm
  ·have p2:=p.map (·.1);rw[Bs]at p2;refine p2.trans ?_
   by_cases c:k∈ý.map (·.2.1)
   ·rwa[BP c,BP<|g3.mem_iff.mp c,Bs]
   ·rw[BL c,BL λz=>c<|g3.mem_iff.mpr z,Ba,Bs];exact g3.cons k
end
end L2
namespace L2
open PySem PySem.Spec PyProof.Rows
variable{H:Hp}{σ:St}{X:Cx}
section
variable{Q:VK}
def q9t{e:Expr}{c:Str}{j:Nat}{p1 p2 pos:Pos} (h:Ev X e σ H λx H1=>∃ i:Int,x = .int i/\i.natAbs.log2 < 1920/\(c++Str.ofString (toString i)).length<=sizeLine/\Q (.str<|c++Str.ofString (toString i)) H1) (hc:c.length<=sizeLine:=by decide) :
  Ev X (.JoinedStr [.Constant (.str c) j p2,.FormattedValue e (-1) none p1] pos) σ H Q:=by
 have e0:∀ w:Str,Str.empty++w=w:=λw=>by
  apply Str.ext';show(#[]:Array Nat)++w.cps=w.cps;simp
 refine⟨λO s I=>PyProof.Rows.JoinedStr_many<|RD<|aO ((fZ (X:=X) (i:=c) (j:=j) (p:=p2) (σ:=σ) (H:=H) (Q:=λy H2=>y = .str c/\H2=H) ⟨rfl,rfl⟩).run O _ I) λv2 s2 ⟨y,H2,I2,r2,ey,eh⟩=>?_⟩;subst ey eh;obtain⟨t3,rfl⟩:=r2;refine⟨by rwa[e0],?_⟩;rw[e0];refine RD<|PyProof.Rows.FormattedValue_plain<|aO (h.run O s2 I2) λv s1 ⟨x,H1,I1,rx,i,ex,hd,hz,q⟩=>?_;subst ex;obtain⟨t,rfl⟩:=rx;refine formatField_int_small hd ⟨hz,PyProof.Rows.joinParts_nil ?_ hz⟩;exact⟨.str _,H1,I1.tok _,⟨_,rfl⟩,q⟩
end
variable{N':Ð}{scope:Scope}{ifs:Ó}
section
variable{elt tg:Expr}{A a:Addr}{xs:List V}{after:Hp->Prop}
theorem k65(Pv:Nat->St->Hp->Prop)(h0:Pv 0 σ H)(hl:∀ i σ' H',i<=xs.length->Pv i σ' H'->au X.K H' a xs)
  (hs : ∀ (i : Nat) x T σ' H', xs[i]? = some x → Pv i σ' H' → H' T = none → vE X N' scope tg (.ref T) σ' (upd H' T<|.tup [.int (i : Int), x]) λσ2 H3 => vF X N' scope ifs σ2 H3 λb H4 =>
   if b=true then vD X N' scope elt σ2 H4 λv H5=>∃ ys,H5 A≈.lst ys/\ys.length < sizeLine/\Pv (i+1) σ2 (upd H5 A<|.lst<|ys++[v])else Pv (i+1) σ2 H4)
  (hd:∀ σ' H',Pv xs.length σ' H'->after H'):lZ X N' scope tg ifs elt (Lg X.K a) A after σ H:=by
 refine⟨λi m σ' H'=>m=xs.length - i/\i<=xs.length/\Pv i σ' H',⟨_,rfl,Bx _,h0⟩,?_⟩;rintro i m σ' H' ⟨rfl,hi,p⟩;have q:=hl i σ' H' hi p
 by_cases aX:i < xs.length
 ·refine .inr ⟨⟨xs,xs[i],q,by simp[aX]⟩,Pv<|i+1,λσ' H' p'=>⟨xs.length - (i+1),⋯,rfl,aX,p'⟩,λv H2 y=>?_⟩;obtain⟨T,x,hT,rfl,rfl,hx⟩:=y;exact hs i x T σ' _ (hx xs q) p hT
 ·have e:i=xs.length:=⋯
  subst e;exact .inl ⟨⟨xs,q,An _⟩,hd σ' H' p⟩
end
end L2
namespace E9
open PySem L2 Nt bE bP
open PyProof.Rows (sortedS)
open Classical
def yc(H:Hp)(L:Addr)(us:↥9)(cs:List<|List Str):Prop:=H L=some (.lst<|us.map V.ref)/\us.length=cs.length/\∀(i:Nat) u c,us[i]?≈u->cs[i]?≈c->H u≈Ls c
def MC:Sp:=λvs H Q _=>∃(R:Addr) (as:Î) (n:Net),vs=[.ref R]/\ai H R as n/\(n.map (·.1)).Nodup/\aq n/\n.length<=60/\(ag n).length<=60 /\
 ∀(L:Addr) (us:↥9) (cs:List<|List Str) (H':Hp),aj H H'->H L=none->yc H' L us cs->cS n cs->(∀ u∈us,H u=none)->Q (.ref L) H'
structure oj(n:Net)(H:Hp)(D:Addr)(us:↥9)(cs:List<|List Str)(i:Nat):Prop where
 lst:H D=some (.lst<|us.map V.ref)
 lu:us.length=i
 lc:cs.length=i
 at':∀(j:Nat) u c,us[j]?≈u->cs[j]?≈c->H u≈Ls c/\u≠D
 mem:∀(j:Nat) c w,cs[j]?≈c->(bu n)[j]?≈w->∀ z,z∈c↔(w.map<|aD n).count z=1
 gL:∀ c∈cs,b8 c
variable{es:List Nt.End}{cs:List Ð}{us:↥9}{D:Addr}{H:Hp}{n:Net}
theorem oj.step{H2:Hp}{k:Addr}{i:Nat}{ks:Ð}(I:oj n H D us cs i)(s2:aj H H2)(nk:H k=none)(e2:H2 k≈Ls ks)(so:b8 ks)(hw:(bu n)[i]?≈es)(m2:∀ z,z∈ks↔(es.map<|aD n).count z=1):oj n (upd H2 D<|.lst<|us.map V.ref++[.ref k]) D (us++[k]) (cs++[ks]) (i+1):=by
 have lu:=I.lu;have lc:=I.lc;have Wu:k≠D:=λe=>by rw[e,I.lst]at nk;cases nk
 have zero:∀{α:Type} {l:List α} {a b:α} {j:Nat},¬ j < l.length->(l++[a])[j]?≈b->j=l.length/\a=b:=λ{α l a b j} h e=>by
  rw[Bd<|⋯]at e;have hj:j - l.length=0:=by have:=(Ac.mp e).1;simp at this;omega
  rw[hj]at e;exact⟨⋯,by cases e;rfl⟩
 refine⟨by rw[az,Al];rfl,by rw[Ag,lu];rfl,by rw[Ag,lc];rfl,λj u c h1 h2=>?_,λj c w h1 h2=>?_,λc hc=>?_⟩
 ·by_cases hj:j < us.length
  ·rw[Ax hj]at h1;rw[Ax<|⋯]at h2;obtain⟨q1,q2⟩:=I.at' j u c h1 h2;exact⟨by rw[aw q2];exact s2 _ _ q1,q2⟩
  ·obtain⟨_,rfl⟩:=zero hj h1;obtain⟨_,rfl⟩:=zero ⋯ h2;exact⟨by rwa[aw Wu],Wu⟩
 ·by_cases hj:j < cs.length
  ·rw[Ax hj]at h1;exact I.mem j c w h1 h2
  ·obtain⟨ej,rfl⟩:=zero hj h1;rw[ej,lc,hw]at h2;cases h2;exact m2
 ·rcases Am.mp hc with h | h
  ·exact I.gL c h
  ·rwa[Ad.mp h]
def oj.start(h:H D≈.lst []):oj n H D [] [] 0:=⟨h,rfl,rfl,λj u c h=>by simp at h,λj c w h=>by simp at h,λc h=>by cases h⟩
def oj.whole(I:oj n H D us cs (bu n).length):yc H D us cs/\cS n cs:=⟨⟨I.lst,I.lu.trans I.lc.symm,λi u c a b=>(I.at' i u c a b).1⟩,I.lc,I.mem,I.gL⟩
def x5q(h:∀ e∈es,e∈ends n):∀ z∈es.map (aD n),z∈ag n:=λz hz=>by
 obtain⟨e,he,rfl⟩:=Ak.mp hz;obtain⟨y,hy⟩:=af.mp<|h e he;rw[eY hy];exact eV hy
variable{Z:Heap}{mg:Ñ}{K:PySem.W.Frag}{fd:FuncData}{f:Addr}{ss:Ð}{tl:List Nt.End}{ks:List (List Key)}
section
variable{P:Program}{w:World}
abbrev Wv:Ð:=["rows"]
abbrev yd:Ð:=["rows","walker"]
def ye:ak Wv ["rows"] (aW zZ):=cm
def x3e:yd.Nodup:=by decide +kernel
theorem q3b(F:bB K "cores_of" "cores_of" zZ f fd)(T:Txt mg)(GW:↥6 4 "walkers_of" ["rows"] KL)(GC:↥6 4 "core_of" ["rows","walker"] Mp):↥4 5 f fd ["rows"] MC:=by
 refine F.gc ye λb0 H vs Q E hr h=>?_;obtain⟨R,as,n,rfl,hR,hN,hT,hn,dZ,q⟩:=h;have nd:=ye.nd;have pB:=fz n;refine bS (jb (aW zZ) Wv yd 1 (gD bI)<|bC GW hr<|ah<|ae 0<|ax ⟨R,as,n,rfl,hR,hN,hT,⋯,⋯,λW ls H1 s1 n1 hW fW=>⟨W,rfl,⟨_,au.of hW.lst⟩,λD hD=>?_⟩⟩);have wl:(bu n).length<=(ends n).length:=AT n (ends n) [];have sr:=o6 hT (ends n) [] λe he=>he;have Ww:ls.length=(bu n).length:=hW.len;refine oY (xs:=ls.map V.ref) (λi σ' H'=>(∃ v,σ'=[⇑R]++[v])/\aj H1 H'/\∃ us cs,oj n H' D us cs i/\∀ u∈us,H u=none) ⟨⟨none,rfl⟩,aS hD _,[],[],oj.start az,λu h=>(by cases h)⟩ ?_ ?_ ?_
 ·rintro i σ' H' _ ⟨_,sm,_⟩;exact au.of<|sm _ _ hW.lst
 ·rintro i x σ' H' hx ⟨⟨v,rfl⟩,sm,us,cs,I,fu⟩;rw[Ah,Az]at hx;obtain⟨l,hl,rfl⟩:=hx;have me:i < (bu n).length:=by have:=(Ac.mp hl).1;rwa[<- Ww]
  have km:=Ab me;obtain⟨ts,el,hE⟩:=(hW.same sm).at' i l _ hl km;have wk:=sr _<|Ao km;generalize (bu n)[i]=es at km hE wk;have few:=wk.few;have lu:=I.lu;intro cl C æ ç ex;refine bw 1 x3e ?_;intro cl C æ ç ex;refine ja<|cv ?_;intro cl C æ ç ex;refine bC GC hr<|ah<|ae 0<|ah<|ae 1<|ax ⟨R,l,as,n,ts,es,rfl,hR.same<|s1.trans sm,hN,⋯,⋯,el,hE,wk.ends,⋯,λl hn hm=>?_,λk ks H2 s2 n2 e2 so2 m2=>?_⟩
  ·have:=aU hn λz hz=>x5q wk.ends z<|hm z hz;omega
  exact⟨_,s2 _ _ I.lst,by rw[Aa];exact cg ⋯,⟨_,rfl⟩,fI (sm.trans s2) hD,_,_,I.step s2 n2 e2 so2 km m2,λu hu=>(Am.mp hu).elim (fu u) λh=>by rw[Ad.mp h];exact(s1.trans sm).free n2⟩
 ·rintro σ' H' ⟨_,sm,us,cs,I,fu⟩;rw[Aa,Ww]at I;exact q D us cs H' (s1.trans sm) (s1.free hD) I.whole.1 I.whole.2 fu
open PyProof.Rows (sortedS)
open Classical
structure ik(H:Hp)(S:Addr)(us:List<|Addr×Addr×Addr)(st:gB):Prop where
 lst:H S=some (.lst<|us.map λu=>V.ref u.1)
 len:us.length=st.length
 at':∀(i:Nat) u s,us[i]?≈u->st[i]?≈s->H u.1≈.tup [.ref u.2.1,.ref u.2.2]/\H u.2.1≈Ls s.1/\H u.2.2≈Ls s.2
def ik.same{H':Hp}{S:Addr}{us:List (Addr×Addr×Addr)}{st:gB}(h:ik H S us st)(s:aj H H'):ik H' S us st:=⟨s _ _ h.lst,h.len,λi u x a b=>let q:=h.at' i u x a b;⟨s _ _ q.1,s _ _ q.2.1,s _ _ q.2.2⟩⟩
def q6v(ss:Ð):(λr:Str×List Str=>!lH ss r)=cP λz=>decide (z∈ss):=by
 funext r
 unfold lH cP;rw[rm];have c:(r.2.filter λz=>ss.contains z)=r.2.filter λz=>decide (z∈ss):=by
  congr 1
  funext z
  rw[Cf,CN];exact Bm
 rw[c];generalize (r.2.filter λz=>decide (z∈ss)).length=k
 rcases RG k with h | h <;> rw[h] <;> rfl
def Wx{os:Ð}(h:os.Perm ((n.filter λr=>!lH ss r).map (·.1))):df n (λz=>decide (z∈ss)) os:=by
 rwa[q6v]at h
theorem sub_len{l:Ð}(hn:n.length<=31)(h1:l.Nodup)(h2:∀ x∈l,x∈ce n):l.length<=31:=by
 have:=aU h1 h2;rw[Aa]at this;omega
def MD:Sp:=λvs H Q _=>∃(S p o:Addr) (us:List<|Addr×Addr×Addr) (n:Net) (st:gB) (ps os:Ð),vs=[.ref S,.ref p,.ref o]/\ik H S us st/\Mb n st/\n.length<=31/\H p≈Ls ps/\H o≈Ls os/\ii n [] ps os ps os /\
 ∀(L p' o':Addr) (dD cA:Ð) (H':Hp),aj H H'->H L=none->H' L≈.tup [.ref p',.ref o']->H' p'≈Ls dD->H' o'≈Ls cA->(p'=p\/H p'=none)->(o'=o\/H o'=none)->ii n st ps os dD cA->Q (.ref L) H'
noncomputable def sv:Sp:=λvs H Q _=>∃(R o:Addr) (as:Î) (n:Net) (os:Ð) (s:Str->Bool),vs=[.ref R,.ref o]/\ai H R as n/\(ce n).Nodup/\aq n/\n.length<=31/\(ag n).length<=60/\H o≈Ls os/\df n s os/\oa n s /\
 ∀(L:Addr) (ps:Ð) (H':Hp),aj H H'->H' L≈Ls ps->(∀ r∈n,cK n ps r=cP s r)->Q (.ref L) H'
def ME:Sp:=λvs H Q _=>∃(R p:Addr) (as:Î) (n:Net) (ss:Ð),vs=[.ref R,.ref p]/\ai H R as n/\(ce n).Nodup/\aq n/\HF n/\n.length<=31/\(ag n).length<=60/\H p≈Ls ss/\ss.Nodup/\(∀ z∈ss,z∈ag n) /\
 (∀(t L:Addr) (c:Ð) (H':Hp),aj H H'->H t=none->H L=none->H' t≈.tup [.str "odd",.ref L]->H' L≈Ls c->(∃ cs,cS n cs/\c∈cs)->(c.filter λz=>ss.contains z).length % 2=1->Q (.ref t) H') /\
 (∀(t L M:Addr) (rs cs ps:Ð) (H':Hp),aj H H'->H t=none->H L=none->H M=none->L≠M->H' t≈.tup [.str "parts",.ref L,.ref M]->H' L≈Ls rs->H' M≈Ls cs->sj n ss->b8 rs->b8 cs->cC n rs=true->(∀ z,z∈cs↔dA n ps z)->gO ss cs rs->Q (.ref t) H')
theorem q2y(T:aq n)(hf:HF n)(h:sj n ss):oa n λz=>decide (z∈ss):=by
 obtain⟨cs,C,he⟩:=h;refine q6l T hf C λc hc=>?_;have:=he c hc;rw[rm];have e:(c.filter λz=>ss.contains z)=c.filter λz=>decide (z∈ss):=by
  congr 1
  funext z
  rw[Cf,CN];exact Bm
 rw[e]at this;exact BR<|⋯
abbrev NLo:Ð:=["steps","points","odds","tried","left"]
def yf:ak NLo ["steps","points","odds"] (aW IA):=cm
theorem q90(F:bB K "lowered" "lowered" IA f fd)(T:Txt mg)(GM:↥6 1 "summed" ["one","other"] C0):↥4 2 f fd ["steps","points","odds"] MD:=by
 refine F.gc yf λb0 H vs Q E hr h=>?_;obtain⟨S,p,o,us,n,st,ps,os,rfl,hS,I,hn,hp,ho,lw,q⟩:=h;have nd:=yf.nd;have hl:=hS.len;refine jF<|ae 0 ⟨S,rfl,⟨_,au.of hS.lst⟩,?_⟩;refine jG (xs:=us.map λu=>V.ref u.1) (λi σ H'=>∃(p1 o1:Addr) (ps1 os1:Ð) (u3 u4:Option V),aj H H'/\H' p1≈Ls ps1/\H' o1≈Ls os1/\(p1=p\/H p1=none)/\(o1=o\/H o1=none)/\ii n (st.take i) ps os ps1 os1/\σ=[⇑S,⇑p1,⇑o1,u3,u4]) ⟨p,o,ps,os,_,_,aj.refl H,hp,ho,.inl rfl,.inl rfl,lw,rfl⟩ ?_ ?_ ?_
 ·rintro i σ H' _ ⟨_,_,_,_,_,_,sm,_⟩;exact au.of<|sm _ _ hS.lst
 ·rintro i x σ H1 hx ⟨p1,o1,ps1,os1,u3,u4,sm,e1,e2,f1,f2,lo,rfl⟩;rw[Ah,Az]at hx;obtain⟨u,hu,rfl⟩:=hx;have hi:i < st.length:=by have:=(Ac.mp hu).1;omega
  have hs:=Ab hi;generalize st[i]=s at hs;have iC:=Ao hs;obtain⟨a1,a2,a3⟩:=(hS.same sm).at' i u s hu hs;obtain⟨y,l',hy⟩:∃ y l',s.2=y :: l':=by
   cases k:s.2 with
   | nil=>exact absurd k<|I.ne s iC
   | cons y l'=>exact⟨y,l',rfl⟩
  have hd:s.2.head?≈y:=by rw[hy];rfl
  have l1:=sub_len hn lo.nd.1 lo.sub.1;have l2:=sub_len hn lo.nd.2 lo.sub.2;have l3:=sub_len hn (I.nd s iC).1 (I.sub s iC).1;have l4:=sub_len hn (I.nd s iC).2 (I.sub s iC).2;refine jN rfl (aQ.of a1) (bw 3 nd<|bw 4 nd ?_);have ha:fj (s.2.map V.str) ((0:Nat):Int)≈.str y:=vW (by rw[hy];rfl);refine dP<|cz oH<|a8 dF<|ae 4<|aG ⟨u.2.2,_,_,.str y,rfl,rfl,au.of a3,ha,ae 2 ⟨o1,_,rfl,.inl<|au.of e2,rfl,my _,_,rfl,?_⟩⟩;have fF:∀(x y:Bool),(if false=true then x else y)=y:=λ_ _=>rfl;rw[fF,mw,uA]
  by_cases hb:y∈os1
  ·rw[BW hb];refine cv (aZ 1 nd<|bC GM hr<|ah<|ae 1<|ah<|ae 3<|ax ⟨p1,u.2.1,ps1,s.1,rfl,e1,a2,⋯,λm ms H2 s2 n2 em _ ndm mm=>?_⟩);refine aZ 2 nd (bC GM hr<|ah<|ae 2<|ah<|ae 4<|ax ⟨o1,u.2.2,os1,s.2,rfl,s2 _ _ e2,s2 _ _ a3,⋯,λk ks H3 s3 n3 ek _ ndk mk=>?_⟩);exact a9<|a9 ⟨m,k,ms,ks,_,_,(sm.trans s2).trans s3,s3 _ _ em,ek,.inr<|sm.free n2,.inr<|(sm.trans s2).free n3,lo.step I hs hd hb ndm ndk mm mk,rfl⟩
  ·rw[BR hb];exact bR<|a9<|a9 ⟨p1,o1,ps1,os1,_,_,sm,e1,e2,f1,f2,lo.skip hs hd hb,rfl⟩
 ·rintro σ H1 ⟨p1,o1,ps1,os1,u3,u4,sm,e1,e2,f1,f2,lo,rfl⟩;rw[Aa,hl,Ca]at lo;refine bS<|d9<|ah<|ae 1<|ah<|ae 2<|ax ⟨Z2,λt ht=>?_⟩;have sT:=aS ht<|.tup [.ref p1,.ref o1];exact q t p1 o1 ps1 os1 _ (sm.trans sT) (sm.free ht) az (sT _ _ e1) (sT _ _ e2) f1 f2 lo
def q82(T:aq n){ps cs:Ð}(h:∀ z,z∈cs↔dA n ps z):(λz=>decide (z∈cs))=bJ n λy=>decide (y∈ps):=by
 funext z
 rw[Ma T,decide_eq_decide.mpr<|h z]
abbrev NPb:Ð:=["rows","odds","steps","point","tried","left"]
def yg:ak NPb ["rows","odds"] (aW Iz):=cm
theorem x4x(F:bB K "points_by" "points_by" Iz f fd)(T:Txt mg)(GP:↥6 3 "points_of" ["rows"] Mg)(GL:↥6 3 "lowered" ["steps","points","odds"] MD)(GO:↥6 3 "odd_points" ["rows","some"] C1)(GC:↥6 3 "cut_of" ["rows","points"] CY):↥4 4 f fd ["rows","odds"] sv:=by
 refine F.gc yg λb0 H vs Q E hr h=>?_;obtain⟨R,o,as,n,os,s,rfl,hR,hN,hT,hn,dZ,ho,hO,tL,q⟩:=h;have nd:=yg.nd;refine aZ 2 nd<|di<|ax ⟨Z0,λS hS=>?_⟩;have s0:=aS hS<|.lst [];have MG:(upd H S<|.lst []) S≈.lst []:=az;generalize upd H S (.lst [])=H0 at s0 MG;refine jF (bC GP hr<|ah<|ae 0<|ax ⟨R,as,n,rfl,hR.same s0,⋯,λN H1 s1 n1 eN=>⟨N,rfl,⟨_,au.of eN⟩,?_⟩⟩);have nNS:N≠S:=λe=>by rw[e,MG]at n1;cases n1
 refine jG (xs:=(ce n).map V.str) (λi σ H'=>∃(us:List<|Addr×Addr×Addr) (st:gB) (u3 u4 u5:Option V),aj H H'/\H' N=some (Ls<|ce n)/\ik H' S us st/\(∀ u∈us,u.2.1≠S/\u.2.2≠S)/\kj n i st/\σ=[⇑R,⇑o,⇑S,u3,u4,u5]) ⟨[],[],_,_,_,s0.trans s1,eN,⟨s1 _ _ MG,rfl,λi u s h=>by simp at h⟩,λu h=>(by cases h),kj.start n,rfl⟩ ?_ ?_ ?_
 ·rintro i σ H' _ ⟨_,_,_,_,_,_,eN,_⟩;exact au.of eN
 ·rintro i x σ H2 hx ⟨us,st,u3,u4,u5,sm,Wy,uC,fS,I,rfl⟩;rw[Ah,Az]at hx;obtain⟨x,hx,rfl⟩:=hx;have Sz:=Ao hx;have om:=hR.same sm;have C4:=uC.lst;refine bw 3 nd ?_;refine zp<|bC GL hr<|ah<|ae 2<|ah<|di<|ah<|ae 3<|ax ⟨Z1,λA hA=>ah<|bC GO hr<|ah<|ae 0<|ah<|bC GC hr<|ah<|ae 0<|ah<|di<|ah<|ae 3<|ax ⟨Z1,λB hB=>?_⟩⟩;have sA:=aS hA<|.lst [.str x];have sB:=aS hB<|.lst [.str x];have eA:(upd H2 A<|.lst [.str x]) A≈Ls [x]:=az;have eB:(upd (upd H2 A<|.lst [.str x]) B<|.lst [.str x]) B≈Ls [x]:=az;have eA:=sB _ _ eA;have yh:=sA.trans sB;generalize upd (upd H2 A<|.lst [.str x]) B (.lst [.str x])=H3 at eA eB yh;refine ax ⟨R,B,as,n,[x],rfl,om.same yh,hT,⋯,dZ,eB,λC cs H4 s4 n4 eC soC mC lC=>?_⟩;refine ax ⟨R,C,as,n,cs,rfl,(om.same yh).same s4,⋯,⋯,eC,λò zs H5 s5 n5 eO pO=>?_⟩;have yi:=Wx pO;rw[q82 hT mC]at yi;have Wz:=s4.trans s5;have MH:=yh.trans Wz;refine ax ⟨S,A,ò,us,n,st,[x],zs,rfl,uC.same MH,I.cL,hn,Wz _ _ eA,eO,ii.start (Bh.mpr ⟨Cc,Cd⟩) (yi.nd hN) (λy hy=>by rwa[Ad.mp hy]) yi.sub,λL p' o' dD cA H6 s6 n6 eL e1 e2 f1 f2 lo=>?_⟩;have C5:=MH.trans s6;have WB:=sm.trans C5;have MI:=C5 _ _ C4;have WC:=MH _ _ C4;have fp:p'≠S:=by
   rcases f1 with rfl | f1
   ·exact λe=>by rw[e,C4]at hA;cases hA
   ·exact λe=>by rw[e,WC]at f1;cases f1
  have fo:o'≠S:=by
   rcases f2 with rfl | f2
   ·exact λe=>by rw[e,s4 _ _<|yh _ _ C4]at n5;cases n5
   ·exact λe=>by rw[e,WC]at f2;cases f2
  refine jN rfl (aQ.of eL) (bw 4 nd<|bw 5 nd ?_);refine dP (P6<|ae 5 (v:= .ref o') ⟨!cA.isEmpty,Or.inl ⟨_,au.of e2,by cases cA <;> rfl⟩,?_⟩);have WD:=C5 _ _ Wy;have yj:=uC.same C5;have lI:=I.len;have lN:=(Ac.mp hx).1;rw[Aa]at lN;cases cA with
  | nil=>exact bR<|a9<|a9 ⟨us,st,_,_,_,WB,WD,yj,fS,I.skip hN hx yi lo,rfl⟩
  | cons y l'=>
   refine cv<|gG<|ka<|ae 2 ⟨S,rfl,⟨_,MI⟩,d9<|ah<|ae 4<|ah<|ae 5<|ax ⟨Z2,λt ht=>?_⟩⟩;have sT:=aS ht<|.tup [.ref p',.ref o'];have eT:(upd H6 t<|.tup [.ref p',.ref o']) t≈.tup [.ref p',.ref o']:=az;have tS:t≠S:=λe=>by rw[e,MI]at ht;cases ht
   have hl:=uC.len;generalize upd H6 t (.tup [.ref p',.ref o'])=H7 at sT eT;have yk:=yj.same sT;refine⟨_,sT _ _ MI,by rw[Aa];exact cg ⋯,a9<|a9 ⟨us++[(t,p',o')],st++[(dD,y :: l')],_,_,_,fI (WB.trans sT) hS,by rw[aw nNS];exact sT _ _ WD,⟨?_,by rw[Ag,Ag,hl];rfl,λj u s hu hs=>?_⟩,λu hu=>?_,I.step hN hx yi lo (λe=>by cases e),rfl⟩⟩
   ·rw[az,Al];rfl
   ·by_cases hj:j < us.length
    ·rw[Ax hj]at hu;rw[Ax<|⋯]at hs;obtain⟨b1,b2,b3⟩:=yk.at' j u s hu hs;obtain⟨g1,g2⟩:=fS u<|Ao hu;exact⟨by rwa[aw<|cf b1 yk.lst λz=>nomatch z],by rwa[aw g1],by rwa[aw g2]⟩
    ·rw[Bd<|⋯]at hu hs;have gN:j - us.length=0:=by
      have:=(Ac.mp hu).1;simp at this;omega
     rw[gN]at hu;rw[<- hl,gN]at hs;cases hu;cases hs;exact⟨by rwa[aw tS],by rw[aw fp];exact sT _ _ e1,by rw[aw fo];exact sT _ _ e2⟩
   ·rcases Am.mp hu with k | k
    ·exact fS u k
    ·rw[Ad.mp k];exact⟨fp,fo⟩
 ·rintro σ H2 ⟨us,st,u3,u4,u5,sm,Wy,uC,fS,I,rfl⟩;rw[Aa,Aa]at I;refine bS<|a8 bQ<|bC GL hr<|ah<|ae 2<|ah<|di<|ax ⟨Z0,λA hA=>ah<|ae 1<|ax ?_⟩;have sA:=aS hA<|.lst [];have eA:(upd H2 A<|.lst []) A≈Ls []:=az;generalize upd H2 A (.lst [])=H3 at sA eA;refine⟨S,A,o,us,n,st,[],os,rfl,uC.same sA,I.cL,hn,eA,sA _ _<|sm _ _ ho,ii.start Cd (hO.nd hN) (λy hy=>by cases hy) hO.sub,λL p' o' dD cA H6 s6 n6 eL e1 e2 f1 f2 lo=>aG ⟨L,_,_,.ref p',rfl,rfl,aQ.of eL,rfl,?_⟩⟩;exact q p' dD H6 ((sm.trans sA).trans s6) e1<|I.whole hN tL hO lo
abbrev WG:Ð:=["rows","some","core","cut"]
abbrev yl:Ð:=["rows","some","core","cut","tie"]
def ym:ak WG ["rows","some"] (aW z6):=cm
def x3c:yl.Nodup:=by decide +kernel
theorem k8r(F:bB K "parted" "parted" z6 f fd)(T:Txt mg)(GK:↥6 5 "cores_of" ["rows"] MC)(GC:↥6 5 "cut_of" ["rows","points"] CY)(GB:↥6 5 "points_by" ["rows","odds"] sv)(GO:↥6 5 "odd_points" ["rows","some"] C1)(GM:↥6 5 "summed" ["one","other"] C0):↥4 6 f fd ["rows","some"] ME:=by
 refine F.gc ym λb0 H vs Q E hr h=>?_;obtain⟨R,p,as,n,ss,rfl,hR,hN,hT,hf,hn,dZ,hp,wG,cW,q1,q2⟩:=h;have nd:=ym.nd;have CA:=A6 hT wG cW;refine jF (bC GK hr<|ah<|ae 0<|ax ⟨R,as,n,rfl,hR,hN,hT,⋯,dZ,λC cu cs H1 s1 n1 hC oM fC=>⟨C,rfl,⟨_,au.of hC.1⟩,?_⟩⟩);have hCl:=hC.2.1;have sr:=o6 hT (ends n) [] λe he=>he;have lcs:=oM.len;refine jG (xs:=cu.map V.ref) (λi σ H'=>∃(u2:Option V),aj H1 H'/\(∀ c∈cs.take i,(c.filter λz=>ss.contains z).length % 2=0)/\σ=[⇑R,⇑p,u2,none]) ⟨_,aj.refl _,λc h=>(by rw[VG]at h;cases h),rfl⟩ ?_ ?_ ?_
 ·rintro i σ H' _ ⟨_,sm,_⟩;exact au.of<|sm _ _ hC.1
 ·rintro i x σ H2 hx ⟨u2,sm,fN,rfl⟩;rw[Ah,Az]at hx;obtain⟨u,hu,rfl⟩:=hx;have hi:i < cs.length:=by have:=(Ac.mp hu).1;omega
  have hc:=Ab hi;have eX:=hC.2.2 i u _ hu hc;have iB:cs[i]∈cs:=Bt hi;have km:=Ab (show i < (bu n).length by omega);have wk:=sr _<|Ao km;have cin:=CL wk.ends<|oM.mem i _ _ hc km;have WH:=oM.gL _ iB;have iW:=xT hc;generalize cs[i]=c at hc eX iB cin WH iW;have jL:=A6 hT (gq WH) cin;refine bw 2 nd ?_;refine dP<|cz fX<|bh dh<|cM eU T.len DY<|ah<|jb (aW z6) WG yl 1 (gD bI)<|ae 2 ⟨u,rfl,⟨_,au.of<|sm _ _ eX⟩,λD hD=>?_⟩;refine v7 (λz=>ss.contains z) (cg<|⋯) (sm _ _ eX) hD (λcl C s0 H0 ex v v0 H' R' h=>bw 4 x3c h) (λcl C s0 H0 ex z zs T' h=>oQ<|cz oH<|ae 4<|ae 1 ⟨p,_,rfl,.inl (au.of<|by rw[aw<|bz (sm _ _<|s1 _ _ hp) hD];exact sm _ _<|s1 _ _ hp),rfl,my _,_,rfl,?_⟩) (λcl C s0 H0 ex z H' R' h=>ae 4 h) ?_
  ·have fF:∀(x y:Bool),(if false=true then x else y)=y:=λ_ _=>rfl;rwa[fF,mw]
  have s2:=aS hD<|.lst<|(c.filter λz=>ss.contains z).map V.str;refine ax ⟨D,_,rfl,.inl<|au.of az,aG ⟨_,_,rfl,rfl,(by show(0:Int) < 2;decide),aG ⟨rfl,_,rfl,?_⟩⟩⟩;generalize upd H2 D (.lst<|(c.filter λz=>ss.contains z).map V.str)=H3 at s2;rw[Aa]
  by_cases k:(c.filter λz=>ss.contains z).length % 2=1
  ·rw[BW<|BZ V.int<|⋯];refine cv<|bS<|d9<|ah<|fZ<|ah<|ae 2<|ax ⟨Z2,λt ht=>?_⟩;have s3:=aS ht<|.tup [.str "odd",.ref u];have jZ:=(s1.trans sm).trans s2;exact q1 t u c _ (jZ.trans s3) (jZ.free ht) (fC u<|Ao hu) az (s3 _ _<|s2 _ _<|sm _ _ eX) ⟨cs,oM,iB⟩ k
  ·rw[BR λh=>k<|by have:=V.int.inj h;omega];refine bR<|a9<|a9 ⟨_,sm.trans s2,λd hd=>?_,rfl⟩;rw[iW]at hd
   rcases Am.mp hd with h | h
   ·exact fN d h
   ·rw[Ad.mp h];omega
 ·rintro σ H2 ⟨u2,sm,fN,rfl⟩;rw[Aa,hCl,Ca]at fN;have ec:sj n ss:=⟨cs,oM,fN⟩;have ML:=s1.trans sm;refine aZ 3 nd (bC GC hr<|ah<|ae 0<|ah<|bC GB hr<|ah<|ae 0<|ah<|bC GO hr<|ah<|ae 0<|ah<|ae 1<|ax ⟨R,p,as,n,ss,rfl,hR.same ML,⋯,⋯,ML _ _ hp,λò os H3 s3 n3 eO pO=>?_⟩);have jZ:=ML.trans s3;refine ax ⟨R,ò,as,n,os,_,rfl,hR.same jZ,hN,hT,hn,dZ,eO,Wx pO,q2y hT hf ec,λA ps H4 s4 eA zF=>?_⟩;have MM:=jZ.trans s4;refine ax ⟨R,A,as,n,ps,rfl,hR.same MM,hT,⋯,dZ,eA,λM ms H5 s5 n5 eM kq mM lM=>?_⟩;have MO:=MM.trans s5;have hml:=A6 hT (gq kq) λz hz=>pq<|(mM z).mp hz;refine bS (d9<|ah<|fZ<|ah<|bC GM hr<|ah<|ae 1<|ah<|ae 3<|ax ⟨p,M,ss,ms,rfl,MO _ _ hp,eM,⋯,λL rs H6 s6 n6 eL sL nL mL=>ah<|ae 3<|ax ⟨(by show 3<=sizeLine;decide),λt ht=>?_⟩⟩);have WK:=MO.trans s6;have s7:=aS ht<|.tup [.str "parts",.ref L,.ref M];exact q2 t L M rs ms ps _ (WK.trans s7) (WK.free ht) (MO.free n6) (MM.free n5) (λe=>by rw[e,eM]at n6;cases n6) az (s7 _ _ eL) (s7 _ _<|s6 _ _ eM) ec (wD sL nL) kq (k3c hT zF mM mL) mM mL
def sy:Sp:=λvs H Q _=>∃dl t n e,vs=[.ref dl,.ref t]/\bp n H dl 1/\(n.map (·.1)).Nodup/\aq n/\(ag n).length<=1000/\e∈ends n/\H t=some (TN n e) /\
 ∀l ts H',aj H H'->H l=none->H' l=some (.lst<|↥8)->dY n H' ts (face n e)->Q (.ref l) H'
def MQ:Sp:=λvs H Q _=>∃R as n,vs=[.ref R]/\ai H R as n/\(n.map (·.1)).Nodup/\aq n/\n.length<=1000/\(ag n).length<=200 /\
 ∀L ls H',aj H H'->H L=none->iV n H' L ls (ci n)->(∀ l∈ls,H l=none)->Q (.ref L) H'
abbrev NFf:Ð:=["steps","first","face","end"]
def yn:ak NFf ["steps","first"] (aW Iu):=cm
theorem x5b(F:bB K "face_from" "face_from" Iu f fd)(T:Txt mg):↥4 1 f fd ["steps","first"] sy:=by
 refine F.gc yn λb0 H vs Q E hr h=>?_;obtain⟨dl,t,n,e,rfl,hL,hN,hT,dZ,he,ht,q⟩:=h;have nd:=yn.nd;have pB:=fz n;have hu:=hr.u1;have un:=hr.iL;obtain⟨k,pk,hk⟩:=Sw hT he;have k0:=pk.pos;have WL:∀{H':Hp} {c:Nt.End} {u:Addr},aj H H'->c∈ends n->H' u≈TN n c->∃ v,bb H' dl (.ref u) (⇑v)/\H' v=some (TN n<|step n c):=λ{H' c u} sm hc hu'=>by
  obtain⟨v,g,e⟩:=(hL.same sm).get hc hu';rw[<- tZ hT hc]at e;exact⟨v,g,e⟩
 refine aZ 2 nd<|di<|ah<|ae 1<|ax ⟨Z1,λl hl=>?_⟩;have s1:=aS hl<|.lst [.ref t];have el:(upd H l<|.lst [.ref t]) l=some (.lst<|[t].map V.ref):=az;generalize upd H l (.lst [.ref t])=H1 at s1 el;obtain⟨u1,g1,e1⟩:=WL s1 he<|s1 _ _ ht;refine aZ 3 nd<|gJ hu<|ae 0<|ae 1 ⟨dl,.ref u1,rfl,g1,?_⟩;refine vT (λm σ H2=>∃j ts u,m=k - j/\0 < j/\j<=k/\aj H H2/\H2 l=some (.lst<|↥8)/\dY n H2 ts (fl n e j)/\H2 u=some (TN n<|↥14 j e)/\σ=[⇑dl,⇑t,⇑l,⇑u])
  (m0:=k - 1) ⟨1,[t],u1,rfl,Ff,k0,s1,el,⟨rfl,λj x c h1 h2=>?_⟩,e1,rfl⟩ ?_
 ·match j with
  | 0=>cases h1;cases h2;exact s1 _ _ ht
  | j+1=>simp at h1
 rintro m σ H2 ⟨j,ts,u,rfl,j0,j1,sH,mE,at2,eu,rfl⟩;have ul:=je (λa ha=>mq hT ha) he j;refine cz (tP un) (ae 3<|ae 1 ⟨1,_,∅,Uy eu<|sH _ _ ht,_,rfl,?_⟩);rw[UO hN ul he];have tl:=at2.1;rw[rh]at tl
 by_cases c:↥14 j e=e
 ·rw[BW c];have jk:j=k:=by
   rcases Da j k with h | h
   ·exact absurd c<|pk.first j j0 h
   ·omega
  subst jk;refine bR<|bS<|ae 2<|q l ts H2 sH hl mE ?_;unfold face;rwa[Sv pk]
 ·rw[BR c];have jk:j < k:=by
   rcases Da j k with h | h
   ·exact h
   ·have:j=k:=⋯
    subst this;exact absurd pk.back c
  refine cv (gG<|ka<|ae 2 ⟨l,rfl,⟨_,mE⟩,ae 3 ⟨_,mE,by rw[Aa];exact cg ⋯,?_⟩⟩);have rR:aj H (upd H2 l<|.lst<|↥8++[.ref u]):=fI sH hl;have um:(upd H2 l<|.lst<|↥8++[.ref u]) l=some (.lst<|(ts++[u]).map V.ref):=by rw[az,Al];rfl
  have kt:∀ b p' j',H2 b≈Tn p' j'->(upd H2 l<|.lst<|↥8++[.ref u]) b≈Tn p' j':=λb p' j' h=>by
   rwa[aw<|cf h mE λz=>nomatch z]
  generalize upd H2 l (.lst<|↥8++[.ref u])=H3 at rR um kt;obtain⟨v2,g4,e4⟩:=WL rR ul<|kt _ _ _ eu;refine aZ 3 nd<|gJ hu<|ae 0<|ae 3 ⟨dl,.ref v2,rfl,g4,?_⟩;refine a9 ⟨k - (j+1),⋯,j+1,ts++[u],v2,rfl,Ey _,jk,rR,um,?_,e4,rfl⟩;rw[Sx];refine(at2.keep kt).append ⟨rfl,λj x c h1 h2=>?_⟩
  match j with
  | 0=>cases h1;cases h2;exact kt _ _ _ eu
  | j+1=>simp at h1
abbrev NFs:Ð:=["rows","ends","steps","told","faces","first","face","end"]
def yo:ak NFs ["rows"] (aW Ir):=cm
structure Told(n:Net)(ks:List<|List Key)(tl:List Nt.End):Prop where
 fM:ks.Nodup
 mem:∀ e∈ends n,key n e∈ks↔e∈tl
 of:∀ k∈ks,∃ e∈ends n,k=key n e
def Told.len(h:Told n ks tl):ks.length<=(ends n).length:=by
 have:=h.fM.length_le_of_subset λk hk=>by
  obtain⟨e,he,rfl⟩:=h.of k hk;exact Ak.mpr ⟨e,he,rfl⟩
 rwa[Aa]at this
open Classical in
def Told.add(hN:(n.map (·.1)).Nodup)(h:Told n ks tl){e:Nt.End}(he:e∈ends n):Told n (if key n e∈ks then ks else key n e :: ks) (tl++[e]):=by
 have inj:∀{a b:Nt.End},a∈ends n->b∈ends n->key n a=key n b->a=b:=λ{a b} ha hb k=>by
  obtain⟨z1,h1⟩:=af.mp ha;obtain⟨z2,h2⟩:=af.mp hb;exact rF hN (cB h1) (cB h2) k
 by_cases c:key n e∈ks
 ·rw[BP c];refine⟨h.fM,λa ha=>?_,h.of⟩;rw[h.mem a ha,Am,Ad];exact⟨λk=> .inl k,λk=>by
   rcases k with k | k
   ·exact k
   ·rw[k];exact(h.mem e he).mp c⟩
 ·rw[BL c];refine⟨Bh.mpr ⟨c,h.fM⟩,λa ha=>?_,λk hk=>?_⟩
  ·rw[Ai,h.mem a ha,Am,Ad]
   constructor
   ·rintro (k | k)
    ·exact .inr<|inj ha he k
    ·exact .inl k
   ·rintro (k | k)
    ·exact .inr k
    ·exact .inl<|by rw[k]
  ·rcases Ai.mp hk with k1 | k1
   ·exact⟨e,he,k1⟩
   ·exact h.of k k1
open Classical in
theorem q3z(F:bB K "faces_of" "faces_of" Ir f fd)(T:Txt mg)
  (GO:↥6 3 "ends_in_order" ["rows"] BI)
  (GL:↥6 3 "left_steps" ["rows"]<|ic 1)
  (GF:↥6 3 "face_from" ["steps","first"] sy) :
  ↥4 4 f fd ["rows"] MQ:=by
 refine F.gc yo λb0 H vs Q E hr h=>?_;obtain⟨R,as,n,rfl,hR,hN,hT,hn,dZ,q⟩:=h;have nd:=yo.nd;have pB:=fz n;have hu:=hr.u1;show Run _ _ _ [⇑R,none,none,none,none,none,none,none] H;refine aZ 1 nd (bC GO hr<|ah<|ae 0<|ax ⟨R,as,n,rfl,hR,hn,⋯,λú us H1 s1 n1 e1 MR=>?_⟩);have rT:us.length=(ends n).length:=by rw[MR.1];unfold ends;rw[Aa]
 refine dP<|vB<|P6<|ae 1 (v:= .ref ú) ⟨!(us.map V.ref).isEmpty,Or.inl ⟨_,au.of e1,rfl⟩,?_⟩;rw[Bool.not_not]
 by_cases hb:ends n=[]
 ·have E7:us=[]:=Bv.mp (by rw[rT,hb];rfl);subst E7;refine cv<|bS<|di<|ah<|di<|ax ⟨Z0,λl hl=>ax ⟨Z1,λL hL=>?_⟩⟩;have s2:=aS hl<|.lst [];have s3:=aS hL<|.lst [.ref l];refine q L [l] _ ((s1.trans s2).trans s3) ((s1.trans s2).free hL) ?_ λl' iM=>by rw[Ad.mp iM];exact s1.free hl
  unfold ci;rw[BP hb];refine⟨az,rfl,by simp,λhm=>?_,λj l' w h1 h2=>?_⟩
  ·rw[Ad.mp hm,az]at hL;cases hL
  ·match j with
   | 0=>cases h1;cases h2;exact⟨[],s3 _ _ az,rfl,λj t e h=>by simp at h⟩
   | j+1=>simp at h1
 have bD:us.map V.ref≠[]:=λh=>hb (Bv.mp<|by have:=BZ List.length h;rwa[Aa,rT]at this);have hem:(us.map V.ref).isEmpty=false:=by
  cases h:us.map V.ref with
  | nil=>exact absurd h bD
  | cons a r=>rfl
 rw[hem];refine bR<|a9 ?_;refine aZ 2 nd (bC GL hr<|ah<|ae 0<|ax ⟨R,as,n,rfl,hR.same s1,hN,hT,hn,⋯,λdl kl H2 s2 n2 e2 v2=>?_⟩);refine aZ 3 nd<|q37 T.nC λD hD=>?_;refine aZ 4 nd<|di<|ax ⟨Z0,λL hL=>?_⟩;have KO:bp n H2 dl 1:=⟨kl,e2,v2⟩;have pP:=s1.trans s2;have pG:L≠D:=λe=>by rw[e,az]at hL;cases hL
 have nR:H2 L=none:=by rwa[aw pG]at hL
 have xf:=iR pP hD;have rA:=iR pP nR;have sB:aj H2 (upd (upd H2 D<|ko P w D []) L<|.lst []):=(aS hD _).trans<|aS hL _;have yp:b6 P w (upd (upd H2 D<|ko P w D []) L<|.lst []) D []:=sq.same<|aS hL _;have pH:(upd (upd H2 D<|ko P w D []) L<|.lst []) L≈.lst []:=az;have lD:=KO.same sB;have MS:=sB _ _<|s2 _ _ e1;have yq:∀(j:Nat) (t:Addr) (p:Str×Nt.End),us[j]?≈t->(bn n)[j]?≈p->(upd (upd H2 D<|ko P w D []) L<|.lst []) t≈TN n p.2:=λj t p h1 h2=>sB _ _<|s2 _ _<|MR.2 j t p h1 h2;show Run _ _ _ [⇑R,some<|.ref ú,⇑dl,⇑D,⇑L,none,none,none] (upd (upd H2 D<|ko P w D []) L<|.lst []);generalize upd (upd H2 D<|ko P w D []) L (.lst [])=H5 at sB yp pH lD MS yq;have xo:=pP.trans sB;have K1:ú≠L:=bz (s2 _ _ e1) nR;have nUD:ú≠D:=bz (s2 _ _ e1) hD;have tnD:∀{b p j},H5 b≈Tn p j->b≠D:=λh=>yp.ne h λφ z=>nomatch z;refine jF<|ae 1 ⟨ú,rfl,⟨_,au.of MS⟩,?_⟩;refine jG (xs:=us.map V.ref) (λi σ H'=>∃(ks:List<|List Key) (tl:List Nt.End) (ls:↥9) (ws:List<|List Nt.End) (u1 u2 u3:Option V),(∀ b o,b≠D->b≠L->H5 b≈o->H' b≈o)/\b6 P w H' D ks/\Told n ks tl /\
  iV n H' L ls ws/\(∀ l∈ls,H5 l=none)/\ls.length<=i/\jn n (ends n) []=ws++jn n ((ends n).drop i) tl/\σ=[⇑R,some<|.ref ú,⇑dl,⇑D,⇑L,u1,u2,u3])
  ⟨[],[],[],[],_,_,_,λb o _ _ h=>h,yp,⟨Cd,λe _=>by simp,λk h=>by simp at h⟩,⟨pH,rfl,Cd,by simp,λj l w h=>by simp at h⟩,λl h=>by simp at h,An _,rfl,rfl⟩ ?_ ?_ ?_
 ·rintro i σ H' _ ⟨_,_,_,_,_,_,_,kp,_⟩;exact au.of<|kp _ _ nUD K1 MS
 ·rintro i x σ H' hx ⟨ks,tl,ls,ws,u1,u2,u3,kp,tD,told,hW,hf,oV,lF,rfl⟩;have hi:i < us.length:=by
   have:=(Ac.mp hx).1;rwa[Aa]at this
  rw[Ah,Ab hi]at hx;cases hx;have uo:i < (bn n).length:=by have:=MR.1;omega
  have rV:H5 us[i]=some (TN n (bn n)[i].2):=yq i us[i] (bn n)[i] (Ab hi)<|Ab uo;have mF:=UR<|Ab uo;generalize (bn n)[i].2=e at rV mF;have he:e∈ends n:=Ao mF;have ie:(ends n).drop i=e :: (ends n).drop (i+1):=by
   have xq:i < (ends n).length:=⋯
   rw[Gd xq]
   congr 1
   have:=Ab xq;rw[mF]at this;exact(Option.some.inj this).symm
  have xt:∀{b p j},H5 b≈Tn p j->H' b≈Tn p j:=λ{b p j} h=>kp _ _ (tnD h) (cf h pH λz=>nomatch z) h;have gu:=xt rV;have cW:bp n H' dl 1:=by
   obtain⟨Y,a,b⟩:=lD;exact⟨Y,kp _ _ (yp.ne a λφ z=>nomatch z) (cf a pH λz=>nomatch z) a,λe he=>let ⟨u,p,r⟩:=b e he;⟨u,p,xt r⟩⟩
  refine bw 5 nd ?_;refine dP<|cz (j9i hu)<|ae 5<|ae 3 ⟨key n e,us[i],D,ks,rfl,rfl,gu,tD,_,rfl,?_⟩;refine jC (λc=>?_) λc=>?_
  ·have hz:key n e∉ks:=BX c;have dq:e∉tl:=λh=>hz<|(told.mem e he).mpr h;refine aZ 6 nd (bC GF hr<|ah<|ae 2<|ah<|ae 5<|ax ⟨dl,us[i],n,e,rfl,cW,hN,hT,⋯,he,gu,λl ts H6 s6 n6 e6 K3=>?_⟩);have pI:=s6 _ _ hW.lst;have tD6:=tD.same s6;have rW:L≠l:=bz hW.lst n6;have nS:D≠l:=λk=>tD.some (by rwa[k]);refine gG (ka<|ae 4 ⟨L,rfl,⟨_,pI⟩,ae 6 ⟨_,pI,by rw[Aa];exact cg ⋯,?_⟩⟩);have k7:∀ b o,b≠L->H6 b≈o->(upd H6 L<|.lst<|ls.map V.ref++[.ref l]) b≈o:=λb o hb h=>by rwa[aw hb]
   have xu:(upd H6 L<|.lst<|ls.map V.ref++[.ref l]) L=some (.lst<|ls.map V.ref++[.ref l]):=az;have C6:b6 P w (upd H6 L<|.lst<|ls.map V.ref++[.ref l]) D ks:=tD6.keep (by rw[aw<|CK pG]) λb xs h=>by rwa[aw<|cf h pI λz=>nomatch z]
   generalize upd H6 L (.lst<|ls.map V.ref++[.ref l])=H7 at k7 xu C6;have xv:∀ t p j,H6 t≈Tn p j->H7 t≈Tn p j:=λt p j h=>k7 _ _ (cf h pI λz=>nomatch z) h;have e7:=k7 _ _ (CK rW) e6;have uq:=K3.keep xv;have xA:l∉ls:=λhm=>by
    obtain⟨j,hj⟩:=Be hm;have hlen:=hW.len;have xB:j < ws.length:=by have:=(Ac.mp hj).1;omega
    obtain⟨_,a,_⟩:=hW.at' j l ws[j] hj<|Ab xB;rw[n6]at a;cases a
   have xC:iV n H7 L (ls++[l]) (ws++[face n e]):=hW.snoc xu (λa ha o ho=>k7 _ _ (λq=>hW.out<|q ▸ ha)<|s6 _ _ ho) (λt p j h=>xv _ _ _<|s6 _ _ h) e7 uq xA rW;have l57:H5 l=none:=by
    cases q5:H5 l with
    | none=>rfl
    | some o=>rw[kp _ _ (CK nS) (CK rW) q5]at n6;cases n6
   have B0:∀ a∈ls++[l],H5 a=none:=λa ha=>by
    rcases Am.mp ha with ha | ha
    ·exact hf a ha
    ·rwa[Ad.mp ha]
   have rq:∀ b o,b≠D->b≠L->H5 b≈o->H7 b≈o:=λb o h1 h2 h=>k7 _ _ h2<|s6 _ _<|kp b o h1 h2 h;have K5:(ls++[l]).length<=i+1:=by rw[Ag];show ls.length+1<=_;omega
   have rX:jn n (ends n) []=(ws++[face n e])++jn n ((ends n).drop<|i+1) (tl++face n e):=by
    rw[lF,ie];show ws++(if e∈tl then _ else _)=_;rw[BL dq,Ar];rfl
   have fN:=wx hT he;have lts:=uq.1;refine jF<|ae 6 ⟨l,rfl,⟨_,au.of e7⟩,?_⟩;refine jG (xs:=↥8) (λm σ H9=>∃(uD:List<|List Key) (u3:Option V),(∀ b o,b≠D->H7 b≈o->H9 b≈o)/\b6 P w H9 D uD/\Told n uD (tl++(face n e).take m) /\
    σ=[⇑R,some<|.ref ú,⇑dl,⇑D,⇑L,some<|.ref us[i],⇑l,u3]) ⟨ks,_,λb o _ h=>h,C6,by rwa[VG,Bp],rfl⟩ ?_ ?_ ?_
   ·rintro m σ H9 _ ⟨_,_,k9,_⟩;exact au.of<|k9 _ _ (CK nS) e7
   ·rintro m x σ H9 hx ⟨uD,u3,k9,C7,iq,rfl⟩;rw[Ah,Az]at hx;obtain⟨t,WM,rfl⟩:=hx;have hmf:m < (face n e).length:=by have:=(Ac.mp WM).1;omega
    have uE:(face n e)[m]?=some (face n e)[m]:=Ab hmf;have hc:=fN _<|Ao uE;have iW:(face n e).take (m+1)=(face n e).take m++[(face n e)[m]]:=by rw[Cj,uE];rfl
    have C8:=uq.2 m t _ WM uE;generalize (face n e)[m]=c9 at uE hc iW C8;have nD9:t≠D:=λk=>by rw[k]at C8;exact(C6.ne C8 λφ z=>nomatch z) rfl
    have ht9:=k9 _ _ nD9 C8;have hle:=iq.len;refine bw 7 nd ?_;refine gG (q9g hu<|ae 3 ⟨D,rfl,⟨_,C7⟩,ae 7 ⟨key n c9,t,uD,rfl,ht9,C7,⋯,λoo MT=>a9 ⟨_,_,λb o hb h=>by rw[aw hb];exact k9 b o hb h,MT,?_,rfl⟩⟩⟩);rw[iW,<- Ar];exact iq.add hN hc
   ·rintro σ H9 ⟨uD,u3,k9,C7,iq,rfl⟩;rw[Aa,lts,Ca]at iq;refine a9<|a9 ⟨uD,tl++face n e,ls++[l],ws++[face n e],_,_,_,λb o h1 h2 h=>k9 b o h1<|rq b o h1 h2 h,C7,iq,?_,B0,K5,rX,rfl⟩;have nd9:∀{b o},H7 b≈o->(∀ φ,o≠HO.ext φ)->b≠D:=λh ho=>C6.ne h ho;refine xC.keep ?_ (λa ha o ho=>k9 a o ?_ ho) λt p j h=>k9 _ _ (nd9 h λφ z=>nomatch z) h
    ·rw[xC.lst];exact k9 _ _ (CK<|CK pG) xC.lst
    ·intro k;have:=B0 a ha;rw[k]at this;exact yp.some this
  ·have hz:key n e∈ks:=CQ λh=>c<|BW h;have dq:e∈tl:=(told.mem e he).mp hz;refine a9 (a9 ⟨ks,tl,ls,ws,_,_,_,kp,tD,told,hW,hf,⋯,?_,rfl⟩);rw[lF,ie];show ws++(if e∈tl then _ else _)=_;rw[BP dq]
 ·rintro σ H' ⟨ks,tl,ls,ws,u1,u2,u3,kp,tD,told,hW,hf,oV,lF,rfl⟩;rw[Aa,rT,List.drop_length]at lF;have hw2:ci n=ws:=by
   unfold ci;rw[BL hb,lF];exact Bp _
  have sF:aj H H':=λb o h=>kp b o (bz h xf) (bz h rA)<|xo _ _ h;refine bS (ae 4<|q L ls H' sF rA (by rwa[hw2]) λl hl=>?_);exact xo.free<|hf l hl
end
end E9
namespace Nt
open PySem L2
def ku(k:Nat):Str:=Str.ofString "f"++Str.ofString (toString (k:Int))
def dR(n:Net)(ws:List<|List End):Net:=ws.zipIdx.map λx=>(ku x.2,x.1.map<|aD n)
noncomputable def aI(n:Net):Net:=dR n<|ci n
def k76(n:Net)(ws:List<|List End)(w:List End):dR n (ws++[w])=dR n ws++[(ku ws.length,w.map<|aD n)]:=by
 unfold dR;rw[QW,Al];simp
def yr(n:Net)(ws:List<|List End):(dR n ws).length=ws.length:=by unfold dR;simp
variable{ws:List (List End)}
def q9c{n:Net}{i:Nat}{w:List End}(h:ws[i]?≈w):(dR n ws)[i]?=some (ku i,w.map<|aD n):=by
 unfold dR;rw[Ah,List.getElem?_zipIdx,h];simp
theorem q0z{k:Nat}(h:k<=1000):((k:Int)).natAbs.log2 < 1920:=by
 have e:((k:Int)).natAbs=k:=⋯
 rw[e];have:k.log2<=k:=Nat.log2_le_self k;omega
theorem q8f{k:Nat}(h:k<=1000):(ku k).length<=10:=by
 have e:=PySem.int_text_length_le10 (a:=(k:Int)) (k:=4) ∅ ⋯;unfold ku;rw[Str.length_append,VH,VH];have:("f" : String).length=1:=rfl;omega
end Nt
namespace E9
open PySem L2 Nt bE
def MU:Sp:=λvs H Q _=>∃R as n,vs=[.ref R]/\ai H R as n/\(n.map (·.1)).Nodup/\aq n/\n.length<=1000/\(ag n).length<=200 /\
 ∀L bs H',aj H H'->H L=none->(∀ b∈bs,H b.1=none/\H b.2=none)->ai H' L bs (aI n)->L∉bs.map (·.2)->Q (.ref L) H'
variable{Z:Heap}{mg:Ñ}{K:PySem.W.Frag}{fd:FuncData}
section
variable{P:Program}{w:World}
abbrev WN:Ð:=["rows","names"]
abbrev sD:Ð:=["rows","names","number","face"]
abbrev yt:Ð:=["rows","names","number","face","end"]
def yu:ak WN ["rows"] (aW qL):=cm
def WO:sD.Nodup:=by decide +kernel
def x1k:yt.Nodup:=by decide +kernel
def x5e:Scope:=match gY qL with
 | [_,.Return (some<|.ListComp _ _ sc _) _]=>sc
 | _=>aW qL
def x5g:Scope:=relabel x5e<|PyProof.Rows.envOfC "other_net" (aW qL) 0 0 .none
theorem q61{f:Addr}(F:bB K "other_net" "other_net" qL f fd)(T:Txt mg)
  (GN:↥6 4 "ties_by_end" ["rows"] lz)
  (GF:↥6 4 "faces_of" ["rows"] MQ) :
  ↥4 5 f fd ["rows"] MU:=by
 refine F.gc yu λb0 H vs Q E hr h=>?_;obtain⟨R,as,n,rfl,hR,hN,hT,hn,dZ,q⟩:=h;have nd:=yu.nd;have hu:=hr.u1;have pB:=fz n;have WQ:=q9j n;have WR:=Sy hT;refine aZ 1 nd (bC GN hr<|ah<|ae 0<|ax ⟨R,as,n,rfl,hR,hN,hn,⋯,λd Y H1 s1 n1 e1 v1=>?_⟩);refine bS<|jb (aW qL) WN sD 2 (q7u rfl T.enum i8)<|ah<|bC GF hr<|ah<|ae 0<|ax ⟨R,as,n,rfl,hR.same s1,hN,hT,hn,dZ,λL ls H2 s2 n2 hW fL=>ax ⟨L,rfl,⟨_,au.of hW.lst⟩,λD hD=>?_⟩⟩;have hlW:=hW.len;have WT:aI n=dR n (ci n):=rfl;generalize hws:ci n=ws at hW WQ WR hlW WT;have uF:=s2 _ _ e1;refine k65 (xs:=ls.map V.ref) (λi σ' H'=>∃(bs:Î) (v1 v2:Option V),σ'=[⇑R,⇑d]++[v1,v2]/\aj H2 H'/\ai H' D bs (dR n<|ws.take i)/\(∀ b∈bs,H2 b.1=none/\H2 b.2=none)/\D∉bs.map (·.2)) ⟨[],_,_,rfl,aS hD _,⟨rfl,az,λi a r h=>by simp at h,Cd⟩,λb h=>by simp at h,by simp⟩ ?_ ?_ ?_
 ·rintro i σ' H' _ ⟨_,_,_,_,sm,_⟩;exact au.of<|sm _ _ hW.lst
 ·rintro i x Tt σ' H' hx ⟨bs,v1',v2',rfl,sm,hB,fB,nB⟩ jT;rw[Ah,Az]at hx;obtain⟨l,hl,rfl⟩:=hx;have me:=(Ac.mp hl).1;have hiw:i < ws.length:=⋯
  have hw:ws[i]?=some ws[i]:=Ab hiw;have iW:ws.take (i+1)=ws.take i++[ws[i]]:=by rw[Cj,hw];rfl
  obtain⟨ts,el,hE⟩:=hW.at' i l _ hl hw;obtain⟨vt,BV⟩:=WR _<|Ao hw;generalize ws[i]=es at hw iW hE vt BV;have aX:=hE.1;have WU:(ws.take i).length=i:=by rw[Br];omega
  have sT:=aS jT<|.tup [.int (i:Int),.ref l];have pQ:=sm.trans sT;intro cl C æ ç ex;refine jN rfl (aQ.of az) (bw 2 WO<|bw 3 WO ?_);have hB:=hB.same sT;generalize upd H' Tt (.tup [.int (i:Int),.ref l])=H3 at pQ hB;intro cl C æ ç ex;refine ja ?_;rw[BP rfl];intro cl C æ ç ex;refine d9<|ah<|q9t<|ae 2 ⟨(i:Int),rfl,q0z ⋯,?_,ah<|jb x5g sD yt 1 (gD bI)<|ae 3 ⟨l,rfl,⟨_,au.of<|pQ _ _ el⟩,λD2 lB=>?_⟩⟩
  ·have:=q8f (k:=i) ⋯;exact small (show(ku i).length<=100000 by omega)
  refine oY (xs:=↥8) (λj σ' H4=>(∃ v,σ'=[⇑R,⇑d,some<|.int (i:Int),⇑l]++[v])/\aj H3 H4/\H4 D2=some (Ls<|(es.take j).map<|aD n)) ⟨⟨none,rfl⟩,aS lB _,az⟩ ?_ ?_ ?_
  ·rintro j σ' H4 _ ⟨_,oq,_⟩;exact au.of<|oq _ _<|pQ _ _ el
  ·rintro j x σ' H4 hx ⟨⟨v,rfl⟩,oq,C9⟩;rw[Ah,Az]at hx;obtain⟨t,ht,rfl⟩:=hx;have hj:j < es.length:=by have:=(Ac.mp ht).1;omega
   have he:es[j]?=some es[j]:=Ab hj;have mB:es.take (j+1)=es.take j++[es[j]]:=by rw[Cj,he];rfl
   have lq:=(hE.same<|pQ.trans oq).2 j t _ ht he;have qY:=BV _<|Ao he;generalize es[j]=e at he mB lq qY;obtain⟨z,hz⟩:=af.mp qY;have hdg:bb H4 d (.ref t) (some<|.str<|aD n e):=by rw[eY hz,<- v1 e z hz];exact bb.t (k:=key n e) ((pQ.trans oq) _ _ uF) lq
   intro cl C æ ç ex;refine bw 4 x1k ?_;intro cl C æ ç ex;refine ja ?_;rw[BP rfl];intro cl C æ ç ex;refine gJ hu<|ae 1<|ae 4 ⟨d,.str<|aD n e,rfl,hdg,_,C9,?_,⟨_,rfl⟩,fI oq lB,?_⟩
   ·rw[Aa,Aa,Br];exact cg<|⋯
   ·rw[az,mB,Al];show some (HO.lst<|((es.take j).map<|aD n).map V.str++[V.str<|aD n e])=some (HO.lst<|((es.take j).map (aD n)++[aD n e]).map V.str);rw[Al];rfl
  ·rintro σ' H4 ⟨_,oq,C9⟩;have lJ:es.take (↥8).length=es:=Cs (by rw[Aa];omega);rw[lJ]at C9;refine ax ⟨Z2,λt ht=>?_⟩;have s5:=aS ht<|.tup [.str<|ku i,.ref D2];have yv:=(hB.same oq).same s5;have kh:=s5 _ _ C9;have et5:(upd H4 t<|.tup [.str<|ku i,.ref D2]) t≈.tup [.str<|ku i,.ref D2]:=az;have sm5:=(pQ.trans oq).trans s5;have t4:H2 t=none:=(pQ.trans oq).free ht;have d4:H2 D2=none:=pQ.free lB;have nin:D2∉bs.map (·.2):=λhm=>by
    obtain⟨b,hb,eb⟩:=Ak.mp hm;obtain⟨zs,WV⟩:=hB.lists hb;rw[eb,lB]at WV;cases WV
   have WW:D2≠D:=λk=>by
    have:=hB.lst;rw[<- k,lB]at this;cases this
   have more:=yv.more et5 kh nin WW;have bl:bs.length=i:=by rw[yv.len,yr,WU]
   refine⟨_,yv.lst,by rw[Aa,bl];exact cg ⋯,bs++[(t,D2)],_,_,rfl,?_,?_,λb hb=>?_,λhm=>?_⟩
   ·exact fI sm5 hD
   ·rw[iW,k76,WU];exact more
   ·rcases Am.mp hb with hb | hb
    ·exact fB b hb
    ·rw[Ad.mp hb];exact⟨t4,d4⟩
   ·rw[Al,Am]at hm
    rcases hm with hm | hm
    ·exact nB hm
    ·exact WW (Ad.mp hm).symm
 ·rintro σ' H' ⟨bs,v1',v2',rfl,sm,hB,fB,nB⟩;have lJ:ws.take (ls.map V.ref).length=ws:=Cs (by rw[Aa];omega);rw[lJ,<- WT]at hB;have pP:=s1.trans s2;exact q D bs H' (pP.trans sm) (pP.free hD) (λb hb=>⟨pP.free (fB b hb).1,pP.free (fB b hb).2⟩) hB nB
end
end E9
namespace L2
open PySem PySem.Spec PyProof.Rows
variable{tg:Expr}{X:Cx}
variable{wi:TI}{N':Ð}{scope:Scope}{ifs:Ó}
variable{T:Bool->Hp->Prop}{Q:VK}{H:Hp}{σ:St}
variable{es:Ó}{sp:Addr->Obj->Sp}{ps:Ð}
end L2
namespace E9
open PySem L2 Nt bE bP
open PyProof.Rows (sortedS)
def sE:Sp:=λvs H Q _=>∃R as n,vs=[.ref R]/\ai H R as n/\n.length<=1000/\(ag n).length<=900/\(∀ zs:Ð,zs.Nodup->(∀ z∈zs,z∈ag n)->zs.length < 64) /\
 ∀L ss H',aj H H'->H L=none->H' L≈Ls ss->ss.Nodup->sortedS ss=true->(∀ z,z∈ss↔z∈ag n)->Q (.ref L) H'
variable{zs:Ð}
def k27{z:Str}(h:zs.Nodup):(added zs z).Nodup:=by
 unfold added
 split
 ·exact h
 ·rename_i hz;exact oK h hz
def k7e{z y:Str}:y∈added zs z↔y∈zs\/y=z:=by
 unfold added
 split
 ·rename_i hz;refine⟨.inl,λh=>h.elim id λe=>?_⟩;rwa[e]
 ·rw[Am,Ad]
def WX{n:Net}{r:Nat}(h:r < n.length):ag (n.take<|r+1)=ag (n.take r)++row n r:=by
 rw[jm h];unfold ag;rw[Cj,Ab h,Dp];simp
def dE:Ð:=["NoTie"]
structure Cl(K:PySem.W.Frag)(mg:Ñ)(c:Str->Addr):Prop where
 net:mg "NetError" = some (.ref<|c "NetError")
 x0K:XC K<|c "NetError"
 at':∀ x∈dE,mg x=some (.ref<|c x)/\XC K (c x)/\Vx K (c x) (c "NetError")=true/\Vy K (c x)=true/\PySem.W.kitOne K (.ref<|c x) (.type "ValueError")≈true
 kit:∀ x∈dE,∀ y∈dE,PySem.W.kitOne K (.ref<|c x) (.ref<|c y)≈decide (x=y)
def j3(K:PySem.W.Frag)(x:Str):Addr:=match PySem.W.nsIn K mainGlobals x with
 | some (⇑a)=>a
 | _=>0
def MV(K:PySem.W.Frag):Bool:=(PySem.W.nsIn K mainGlobals "NetError" == some (some<|.ref<|j3 K "NetError")) && PySem.W.excIn K (j3 K "NetError") n8 "ValueError.__new__" &&
 dE.all λx=>(PySem.W.nsIn K mainGlobals x == some (some<|.ref<|j3 K x)) && PySem.W.excIn K (j3 K x) n8 "ValueError.__new__" && Vx K (j3 K x) (j3 K "NetError") && Vy K (j3 K x) && (PySem.W.kitOne K (.ref<|j3 K x) (.type "ValueError") == some true) &&
  dE.all λy=>PySem.W.kitOne K (.ref<|j3 K x) (.ref<|j3 K y) == some (decide (x=y))
variable{mg:Ñ}{K:PySem.W.Frag}
def x4g{h:Heap}(X:K.In h)(G:h.Ns mainGlobals mg)(q:MV K=true):Cl K mg (j3 K):=by
 unfold MV at q;simp only[Cb,Ej,HY]at q;obtain⟨⟨q1,q2⟩,q3⟩:=q;exact⟨MP X G q1,q2,λx hx=>by obtain⟨⟨⟨⟨⟨a1,a2⟩,a3⟩,a4⟩,a5⟩,_⟩:=q3 x hx;exact⟨MP X G a1,a2,a3,a4,a5⟩,λx hx y hy=>(q3 x hx).2 y hy⟩
def WY(n:Net):Prop:=∀ zs:Ð,zs.Nodup->(∀ z∈zs,z∈ag n)->zs.length < 64
def MX(c:Str->Addr):Sp:=λvs H Q E=>∃R as n z,vs=[.ref R,.str z]/\ai H R as n/\n.length<=1000/\(ag n).length<=900/\WY n /\
 (z∉ag n->∀ H',aj H H'->E (.ref<|c "NoTie") none H')/\(z∈ag n->∀ H',aj H H'->Q .non H')
variable{Z:Heap}{fd:FuncData}{f:Addr}{c:Str->Addr}
section
variable{P:Program}{w:World}
abbrev yw:Ð:=["rows"]
abbrev yx:Ð:=["rows","point","ties","tie"]
def lK:ak yw ["rows"] (aW zX):=cm
def MY:yx.Nodup:=by decide +kernel
theorem q9o(F:bB K "ties_of" "ties_of" zX f fd)(T:Txt mg):↥4 1 f fd ["rows"] sE:=by
 refine F.gc lK λb0 H vs Q E hr h=>?_;obtain⟨R,as,n,rfl,hR,hn,ht,cG,q⟩:=h;have cq:=hR.len;have MZ:∀ r,r < n.length->∀ z,z∈ag (n.take r)\/z∈row n r->z∈ag n:=λr nP z hz=>by
  have e:ag n=ag (n.take<|r+1)++ag (n.drop<|r+1):=by
   unfold ag;rw[<- Dp,Cw]
  rw[e,WX nP]
  rcases hz with h | h <;> simp[h]
 refine bS<|cM (Q7 rfl) T.sorted DR<|ah<|k9i (aW zX) yw yx 3 (gD bI)<|ae 0 ⟨R,rfl,⟨_,au.of hR.lst⟩,λD hD cl C æ ç ex=>?_⟩;refine w9 (xs:=as.map λa=>V.ref a.1) (λr σ' H'=>(∃ v1 v2 v3,σ'=[⇑R]++[v1,v2,v3])/\∃ zs:Ð,aj H H'/\H' D≈bq P w D zs/\zs.Nodup/\∀ z,z∈zs↔z∈ag (n.take r)) ⟨⟨none,none,none,rfl⟩,[],aS hD _,az,Cd,λz=>UW⟩ ?_ ?_ ?_
 ·rintro r σ' H' _ ⟨_,zs,sm,_⟩;exact au.of<|sm _ _ hR.lst
 ·rintro r x σ' H' hx ⟨⟨v1,v2,v3,rfl⟩,zs,sm,eD,zn,zm⟩;have hi:r < n.length:=by
   have:=(Ac.mp hx).1;rw[Aa]at this;omega
  obtain⟨a,ea,dJ,et,el,er⟩:=(hR.same sm).at hi;rw[Ah,ea]at hx;cases hx;refine jN rfl (aQ.of et) (bw 1 MY<|bw 2 MY ?_);refine ja ?_;rw[BP rfl];refine k8e rfl rfl (gD bI) (ae 2 ⟨a.2,rfl,⟨_,au.of el⟩,?_⟩);have naD:a.2≠D:=cf el eD λz=>nomatch z;refine w9 (xs:=(row n r).map V.str) (λp σ' bZ=>(∃ v3,σ'=[⇑R]++[some<|.str n[r].1,some<|.ref a.2,v3])/\∃ zs:Ð,(∀ b o,b≠D->H' b≈o->bZ b≈o)/\bZ D≈bq P w D zs/\zs.Nodup/\∀ z,z∈zs↔z∈ag (n.take r)\/z∈(row n r).take p)
   ⟨⟨_,rfl⟩,zs,λb o _ h=>h,eD,zn,λz=>by rw[zm z];simp⟩ ?_ ?_ ?_
  ·rintro p σ' bZ _ ⟨_,zs,kb,_⟩;exact au.of<|kb _ _ naD el
  ·rintro p x σ' bZ hx ⟨⟨v3,rfl⟩,zs,kb,iU,DA,DB⟩;rw[Ah,Az]at hx;obtain⟨z,hz,rfl⟩:=hx;refine bw 3 MY ?_;refine ja ?_;rw[BP rfl];have hl:zs.length < 64:=cG zs DA λy hy=>MZ r hi y<|((DB y).mp hy).imp id λh=>List.mem_of_mem_take h;refine k9f (ae 3 ⟨z,zs,rfl,iU,⋯,⟨_,rfl⟩,added zs z,λb o hb h=>by rw[aw hb];exact kb b o hb h,az,k27 DA,λy=>?_⟩);rw[k7e,DB y,Cj,hz,or_assoc];simp
  ·rintro σ' bZ ⟨⟨v3,rfl⟩,zs,kb,iU,DA,DB⟩;refine⟨⟨_,_,_,rfl⟩,zs,λb o h=>kb b o (bz h hD)<|sm _ _ h,iU,DA,λz=>?_⟩;rw[DB z,Aa,Ca,WX hi,Am]
 ·rintro σ' H' ⟨_,zs,sm,eD,zn,zm⟩;rw[Aa,cq,Ca]at zm;refine ax ⟨D,zs,rfl,eD,cG zs zn λy hy=>(zm y).mp hy,λl ss hl hp hs=>?_⟩;exact q l ss _ (sm.trans<|aS hl _) (iR sm hl) az (hp.nodup_iff.mpr zn) hs λz=>by rw[hp.mem_iff,zm z]
abbrev NNd:Ð:=["rows","tie"]
def lP:ak NNd ["rows","tie"] (aW Iv):=cm
def q6a(F:bB K "need_tie" "need_tie" Iv f fd)(T:Txt mg)(cl:Cl K mg c)(GT:↥6 1 "ties_of" ["rows"] sE):aE P w K mg Z (XF P w) 2 f fd ["rows","tie"] (MX c):=by
 refine F.gx lP (λvs H Q E h=>?_) λb0 H vs Q hr h=>?_
 ·obtain⟨R,as,n,z,rfl,_⟩:=h;rfl
 obtain⟨R,as,n,z,rfl,hR,hn,ht,cG,qE,qQ⟩:=h;have mN:("NoTie" : Str)∈dE:=∅
 refine dP<|cz Pb<|ae 1<|bC GT hr<|ah<|ae 0<|ax ⟨R,as,n,rfl,hR,hn,ht,cG,λL ss H1 s1 n1 e1 snd so mem=>⟨L,_,rfl,.inl<|au.of e1,rfl,my _,_,rfl,?_⟩⟩;rw[BP rfl,mw,uA]
 by_cases hz:z∈ag n
 ·rw[BW<|(mem z).mpr hz];exact bR<|a9<|a9<|qQ hz _ s1
 ·rw[BR λk=>hz<|(mem z).mp k];refine cv<|q1p rzX (cl.at' _ mN).1 (cl.at' _ mN).2.1 rfl (ah<|fZ<|ax ⟨Z1,qE hz _ s1⟩)
end
end E9
namespace Nt
open PySem L2 Classical
abbrev less(T:Ð)(t:Str):Ð:=T.filter λz=>!decide (z=t)
variable{z:Str}
def bd{T:Ð}{t:Str}:z∈less T t↔z∈T/\z≠t:=by
 rw[Bf,LQ,GZ]
def uG(n:Net)(z:Str)(w:Str)(ss:Ð):Prop:=b8 ss/\(∀ y∈ss,y∈ag n)/\z∈ss /\
  ((w = "double" ∧ cC n ss = true ∧ (∃ sd, aN n ss sd) ∧ ∃ cs, cS n cs ∧ ss ∈ cs) ∨
   (w = "cut"/\(∃ sd,aN n ss sd)/\cC n (less ss z)=true/\sj n [z]) \/
   (w = "round"/\cC n ss=true/\(∃ sd,aN n (less ss z) sd)/\sj n [z]))
variable{c:Ð}{cs:List Ð}{n:Net}
def q6c(T:aq n)(hf:HF n)(hN:(ce n).Nodup)(h0:0 < n.length)(C:cS n cs)(hc:c∈cs):b8 c/\(∀ z∈c,z∈ag n)/\cC n c=true/\∃ sd,aN n c sd:=by
 obtain⟨i,hi⟩:=Be hc;have me:=(Ac.mp hi).1;rw[C.len]at me;have km:=Ab me;have hw:=Ao km;have wk:=o6 T (ends n) [] (λe he=>he) _ hw;have m:=C.mem i _ _ hi km;exact⟨C.gL c hc,CL wk.ends m,k7r T hw m,k8j T hf hN h0 hw m⟩
def q9w(h:c.Nodup)(z:Str):(c.filter λy=>[z].contains y).length=if z∈c then 1 else 0:=by
 have e:(c.filter λy=>[z].contains y)=c.filter λy=>y == z:=by
  congr 1
  funext y
  rw[Cf,Bm,Ad,HY]
 rw[e,<- List.count_eq_length_filter]
 by_cases k:z∈c
 ·rw[BP k];exact Nat.le_antisymm (Hg.mp h z)<|Ds.mpr k
 ·rw[BL k];exact Fg k
def q6m(T:aq n)(hf:HF n)(hN:(ce n).Nodup)(h0:0 < n.length)(C:cS n cs)(hc:c∈cs)(h:(c.filter λy=>[z].contains y).length % 2=1):uG n z "double" c:=by
 obtain⟨a1,a2,a3,a4⟩:=q6c T hf hN h0 C hc;rw[q9w<|gq a1]at h;refine⟨a1,a2,?_,.inl ⟨rfl,a3,a4,cs,C,hc⟩⟩
 by_cases k:z∈c
 ·exact k
 ·rw[BL k]at h;cases h
variable{ss:Ð}
def yy(h:b8 ss)(z:Str):b8 (less ss z):=h.sublist Hl
def q8m{a b:Ð}(ha:b8 a)(hb:b8 b)(hx:gO [z] a b)(h:z∈a):less a z=b:=by
 refine JI (yy ha z) hb λy=>?_;rw[bd,hx y]
 by_cases k:y=z
 ·rw[BP<|Ad.mpr k,k];exact⟨λq=>absurd rfl q.2,λq=>absurd h q⟩
 ·rw[BL λq=>k<|Ad.mp q];exact⟨λq=>q.1,λq=>⟨q,k⟩⟩
def q3y{a b:Ð}(ha:b8 a)(hb:b8 b)(hx:gO [z] a b)(h:z∉a):z∈b/\less b z=a:=by
 have hz:=(hx z).mpr (by rwa[BP<|Ad.mpr rfl]);refine⟨hz,JI (yy hb z) ha λy=>?_⟩;rw[bd,hx y]
 by_cases k:y=z
 ·rw[k];exact⟨λq=>absurd rfl q.2,λq=>absurd q h⟩
 ·rw[BL λq=>k<|Ad.mp q];exact⟨λq=>q.1,λq=>⟨q,k⟩⟩
def q57(T:aq n)(h0:0 < n.length){rs cs ps:Ð}(ec:sj n [z])(sG:b8 rs)(kq:b8 cs)(fN:cC n rs=true)(fG:∀ y,y∈cs↔dA n ps y)(hx:gO [z] cs rs)(h:z∈cs):uG n z "cut" cs:=
 ⟨kq,λy hy=>pq<|(fG y).mp hy,h,.inr<|.inl ⟨rfl,JU T h0 ⟨kq,ps,fG⟩,by rwa[q8m kq sG hx h],ec⟩⟩
def k7q(T:aq n)(h0:0 < n.length)(hz:z∈ag n){rs cs ps:Ð}(ec:sj n [z])(sG:b8 rs)(kq:b8 cs)(fN:cC n rs=true)(fG:∀ y,y∈cs↔dA n ps y)(hx:gO [z] cs rs)(h:z∉cs):uG n z "round" rs:=by
 obtain⟨h1,h2⟩:=q3y kq sG hx h;refine⟨sG,λy hy=>?_,h1,.inr<|.inr ⟨rfl,fN,by rw[h2];exact JU T h0 ⟨kq,ps,fG⟩,ec⟩⟩;have:=(hx y).mp hy
 by_cases k:y∈[z]
 ·rwa[Ad.mp k]
 ·rw[BL k]at this;exact pq<|(fG y).mp this
end Nt
namespace E9
open PySem L2 Nt bE bP
open PyProof.Rows (sortedS)
open Classical
def M0(c:Str->Addr):Sp:=λvs H Q E=>∃R as n z,vs=[.ref R,.str z]/\ai H R as n/\(ce n).Nodup/\aq n/\HF n/\0 < n.length/\n.length<=31/\(ag n).length<=60 /\
 (z∉ag n->∀ H',aj H H'->E (.ref<|c "NoTie") none H')/\(z∈ag n->∀t L w ss H',aj H H'->H t=none->H L=none->H' t≈.tup [.str w,.ref L]->H' L≈Ls ss->uG n z w ss->Q (.ref t) H')
variable{Z:Heap}{mg:Ñ}{K:PySem.W.Frag}{c:Str->Addr}{fd:FuncData}
section
variable{P:Program}{w:World}
abbrev NKi:Ð:=["rows","tie","told"]
def yz:ak NKi ["rows","tie"] (aW IB):=cm
theorem q8c{f:Addr}(F:bB K "kind_of" "kind_of" IB f fd)(T:Txt mg)(cl:Cl K mg c)(GN:fD P w K mg Z 7 "need_tie" ["rows","tie"]<|MX c)(GP:↥6 7 "parted" ["rows","some"] ME) :
  aE P w K mg Z (XF P w) 8 f fd ["rows","tie"] (M0 c):=by
 refine F.gx yz (λvs H Q E h=>?_) λb0 H vs Q hr h=>?_
 ·obtain⟨R,as,n,z,rfl,_⟩:=h;rfl
 obtain⟨R,as,n,z,rfl,hR,hN,hT,hf,h0,hn,dZ,qE,qQ⟩:=h;have nd:=yz.nd;have few:WY n:=λzs h1 h2=>by have:=aU h1 h2;omega
 refine gG (LV GN hr x4t<|ah<|ae 0<|ah<|ae 1<|ax ⟨R,as,n,z,rfl,hR,⋯,⋯,few,λhz=>qE hz,λhz H1 s1=>?_⟩);refine aZ 2 nd<|bC GP hr<|ah<|ae 0<|ah<|di<|ah<|ae 1<|ax ⟨Z1,λA hA=>?_⟩;have sA:=aS hA<|.lst [.str z];have eA:(upd H1 A<|.lst [.str z]) A≈Ls [z]:=az;generalize upd H1 A (.lst [.str z])=H2 at sA eA;have s2:=s1.trans sA;refine ax ⟨R,A,as,n,[z],rfl,hR.same s2,hN,hT,hf,hn,dZ,eA,Bh.mpr ⟨Cc,Cd⟩,λy hy=>by rwa[Ad.mp hy],λt L c H3 s3 nt nL et eL ⟨cs,C,hc⟩ nD=>?_,λt L M rs cs ps H3 s3 nt nL nM hLM et eL eM ec sG kq fN fG hx=>?_⟩
 ·show Run _ _ _ [⇑R,some<|.str z,⇑t] H3;refine dP<|cz fX<|a8 bQ<|ae 2<|aG ⟨t,_,_,.str "odd",rfl,rfl,aQ.of et,rfl,fZ ⟨rfl,_,rfl,?_⟩⟩;rw[BW rfl];refine cv<|bS<|d9<|ah<|fZ<|ah<|a8 bQ<|ae 2<|aG ⟨t,_,_,.ref L,rfl,rfl,aQ.of et,rfl,ax ⟨Z2,λu hu=>?_⟩⟩;have su:=aS hu<|.tup [.str "double",.ref L];have jZ:=s2.trans s3;exact qQ hz u L "double" c _ (jZ.trans su) (jZ.free hu) (s2.free nL) az (su _ _ eL)<|q6m hT hf hN h0 C hc nD
 ·show Run _ _ _ [⇑R,some<|.str z,⇑t] H3;refine dP<|cz fX<|a8 bQ<|ae 2<|aG ⟨t,_,_,.str "parts",rfl,rfl,aQ.of et,rfl,fZ ⟨rfl,_,rfl,?_⟩⟩;rw[BR<|∅];refine bR<|a9<|bS<|q3o<|cz oH<|ae 1<|a8 bQ<|ae 2<|aG ⟨t,_,_,.ref M,rfl,rfl,aQ.of et,rfl,M,_,rfl,.inl<|au.of eM,rfl,my _,_,rfl,?_⟩;have fF:∀(x y:Bool),(if false=true then x else y)=y:=λ_ _=>rfl;rw[fF,mw,uA];have jZ:=s2.trans s3
  by_cases k:z∈cs
  ·rw[BW k];refine cv<|d9<|ah<|fZ<|ah<|a8 bQ<|ae 2<|aG ⟨t,_,_,.ref M,rfl,rfl,aQ.of et,rfl,ax ⟨Z2,λu hu=>?_⟩⟩;have su:=aS hu<|.tup [.str "cut",.ref M];exact qQ hz u M "cut" cs _ (jZ.trans su) (jZ.free hu) (s2.free nM) az (su _ _ eM)<|q57 hT h0 ec sG kq fN fG hx k
  ·rw[BR k];refine bR<|d9<|ah<|fZ<|ah<|a8 bQ<|ae 2<|aG ⟨t,_,_,.ref L,rfl,rfl,aQ.of et,rfl,ax ⟨Z2,λu hu=>?_⟩⟩;have su:=aS hu<|.tup [.str "round",.ref L];exact qQ hz u L "round" rs _ (jZ.trans su) (jZ.free hu) (s2.free nL) az (su _ _ eL)<|k7q hT h0 hz ec sG kq fN fG hx k
end
end E9
namespace PySem
variable{E:Í}{U:Program}
end PySem
namespace L2
open PySem PySem.Spec PyProof.Rows
end L2
namespace E9
open PySem L2 Nt bE
open PyProof.Rows (sortedS)
open Classical
def M1:Sp:=λvs H Q _=>∃R a as n ss,vs=[.ref R,.ref a]/\ai H R as n/\n.length<=60/\(ag n).length<=1000/\H a≈Ls ss/\∀ H',aj H H'->Q (.bl<|cC n ss) H'
def M4:Sp:=λvs H Q _=>∃R p as n ss,vs=[.ref R,.ref p]/\ai H R as n/\aq n/\db n/\(n.map (·.1)).Nodup/\0 < n.length/\n.length<=60/\(ag n).length<=60/\H p≈Ls ss/\(∀ z∈ss,z∈ag n) /\
 (∀L sd H',aj H H'->H L=none->H' L≈Ls sd->aN n ss sd->Q (.ref L) H')/\(∀ H',aj H H'->(∀ sd,¬ aN n ss sd)->Q .non H')
variable{Y:List (Key×V)}
theorem M5(hn:(Y.map (·.1)).Nodup){k:Key}{v:V}:(k,v)∈Y↔aF Y k≈v:=by
 induction Y with
 | nil=>exact⟨λh=>(by cases h),λh=>(by cases h)⟩
 | cons c r ih=>
  rw[Ba,Bh]at hn;obtain⟨c1,c2⟩:=c
  by_cases hc:c1=k
  ·subst hc;rw[iJ rfl]
   constructor
   ·intro h
    rcases Ai.mp h with e | e
    ·cases e;rfl
    ·exact absurd (Ak.mpr ⟨_,e,rfl⟩) hn.1
   ·intro h;cases h;exact Ae ..
  ·rw[iw hc,<- ih hn.2]
   constructor
   ·intro h
    rcases Ai.mp h with e | e
    ·cases e;exact absurd rfl hc
    ·exact e
   ·exact Af _
def sJ:V->Bool
 | .bl b=>b
 | _=>false
def sK:Key->Nat
 | Sum.inl i=>i.toNat
 | _=>0
def kz(n:Net)(Y:List<|Key×V):Ð:=(Y.filter λp=>sJ p.2).map λp=>aC n<|sK p.1
def WZ(n:Net)(Y:List<|Key×V):(kz n Y).length<=Y.length:=by
 unfold kz;rw[Aa];exact Dz _ _
def k3m(n:Net)(Y:List<|Key×V)(p:Key×V):kz n (Y++[p])=kz n Y++(if sJ p.2=true then [aC n<|sK p.1]else []):=by
 unfold kz;rw[Cv,Al]
 congr 1
 cases h:sJ p.2 <;> simp[h]
variable{n:Net}
def k6q(hn:(Y.map (·.1)).Nodup)(ht:∀ k∈Y.map (·.1),∃ r:Nat,k=Sum.inl (r:Int)/\r < n.length)(x:Str):x∈kz n Y↔∃ r:Nat,dC Y r true/\x=aC n r:=by
 unfold kz;rw[Ak]
 constructor
 ·rintro ⟨⟨k,v⟩,hp,rfl⟩;rw[Bf]at hp;obtain⟨r,hy,_⟩:=ht k<|Ak.mpr ⟨_,hp.1,rfl⟩;have hv:=hp.2;subst hy;refine⟨r,(M5 hn).mp ?_,?_⟩
  ·cases v with
   | bl b=>
    have:b=true:=hv;subst this;exact hp.1
   | _=>cases hv
  ·show aC n ((r:Int).toNat)=aC n r;rw[Bk]
 ·rintro ⟨r,hb,rfl⟩;refine⟨(Sum.inl (r:Int),.bl true),Bf.mpr ⟨(M5 hn).mpr hb,rfl⟩,?_⟩;show aC n ((r:Int).toNat)=aC n r;rw[Bk]
def k2i(mJ:(n.map (·.1)).Nodup)(hn:(Y.map (·.1)).Nodup)(ht:∀ k∈Y.map (·.1),∃ r:Nat,k=Sum.inl (r:Int)/\r < n.length):(kz n Y).Nodup:=by
 have e:((Y.filter λp=>sJ p.2).map (·.1)).Nodup:=hn.sublist<|List.filter_sublist.map _;unfold kz;rw[By,Dr]at e ⊢;refine List.Pairwise.imp_of_mem (λ{a b} ha hb h q=>h ?_) e;obtain⟨r,hr,lr⟩:=ht a.1<|Ak.mpr ⟨a,(Bf.mp ha).1,rfl⟩;obtain⟨r',nP,lr'⟩:=ht b.1<|Ak.mpr ⟨b,(Bf.mp hb).1,rfl⟩;rw[hr,nP]at q ⊢;have q:aC n ((r:Int).toNat)=aC n ((r':Int).toNat):=q;rw[Bk,Bk]at q;rw[ud mJ lr lr' q]
abbrev Li(lf:List Nat):HO:= .lst<|lf.map λ(r:Nat)=>V.int (r:Int)
def k7w(lf:List Nat)(h:Nat):(((lf++[h]).map λ(r:Nat)=>V.int (r:Int))[((lf++[h]).map λ(r:Nat)=>V.int (r:Int)).length - 1]?≈.int (h:Int))/\((lf++[h]).map λ(r:Nat)=>V.int (r:Int)).dropLast=lf.map λ(r:Nat)=>V.int (r:Int):=by
 rw[Al]
 constructor
 ·simp
 ·exact List.dropLast_concat
variable{Z:Heap}{mg:Ñ}{K:PySem.W.Frag}{ks ss:Ð}{fd:FuncData}{f:Addr}
section
variable{P:Program}{w:World}
def k96(h:Y.map (·.1)=ks.map Sum.inr):(Y.map λp=>kV p.1)=ks.map V.str:=by
 have e:(Y.map λp=>kV p.1)=(Y.map (·.1)).map kV:=by rw[Bs];rfl
 rw[e,h,Bs];rfl
theorem q80{X:Cx}{e:Expr}{p1 p2 p3 p4 p5 p6:Pos}{σ:St}{H:Hp}{Q:VK}{k:Nat}
  (hc:X.calm=true) (hS:X.mg "sorted" = none) (hL:X.mg "list" = none)
  (G:aP X.U X.w X.K X.mg X.Z k "_law_seats" ["_law_rows"] tR) (hr:bH k X.A)
  (h:Ev X e σ H λv H1=>∃R as n,v = .ref R/\ai H1 R as n/\n.length<=1000/\(ag n).length<=60/\∀ l ss H',aj H1 H'->H1 l=none->H' l≈Ls ss->ss.length<=60->b8 ss->(∀ z,z∈ss↔z∈ag n)->Q (.ref l) H')
  (g1:Gl X "sorted":=by rfl) (g2:Gl X "list":=by rfl) (g3:Gl X "_law_seats":=by rfl) (cW:isStar e=false:=by rfl) (hn:noStar [e]=true:=by rfl) :
  Ev X (.Call (.Name "sorted" p1) [.Call (.Name "list" p2) [.Call (.Name "_law_seats" p3) [e] [] p4] [] p5] [] p6) σ H Q:=by
 refine cM zG hS DR (ah<|qk (j8k hc) hL MN (ah<|bC G hr (ah (h.mono λv H1 hv=>?_) cW) g3 rfl hn) g2) g1;obtain⟨R,as,n,rfl,hR,h1,h2,q⟩:=hv;refine ax ⟨R,as,n,rfl,hR,h1,⋯,λd ks H' sm t8 S=>?_⟩;obtain⟨Y,hk1,hk2,hk3⟩:=S.dict;have wc:ks.length<=60:=Ch (aU S.nodup λz hz=>(S.mem z).mp hz) h2;refine ax ⟨d,Y,rfl,.inl hk1,λl hl=>?_⟩;rw[k96 hk2];refine ax ⟨l,ks,rfl,au.of az,⋯,λl2 ss kF hp hs=>?_⟩;have s2:=aS hl<|Ls ks;have s3:=aS kF<|.lst<|ss.map V.str;exact q l2 ss _ ((sm.trans s2).trans s3) (iR (sm.trans s2) kF) az (by rwa[hp.length_eq]) (wD hs<|hp.nodup_iff.mpr S.nodup) λz=>(hp.mem_iff).trans<|S.mem z
def k8t(n:Net)(ss:Ð)(r:Str×List Str):cC (n++[r]) ss=(cC n ss && ((r.2.filter λz=>ss.contains z).length % 2 == 0)):=by
 unfold cC;rw[List.all_append];simp
abbrev NI:Ð:=["_law_rows","_law_some","_law_row"]
abbrev W0:Ð:=["_law_rows","_law_some","_law_row","_law_tie"]
def pR:ak NI ["_law_rows","_law_some"] (aW z8):=cm
def M6:W0.Nodup:=by decide +kernel
theorem q3n{i:Nat}(hi:i < n.length)(h:¬((row n i).filter λz=>ss.contains z).length % 2=0):cC n ss=false:=by
 cases e:cC n ss with
 | false=>rfl
 | true=>
  unfold cC at e;have:=Ej.mp e n[i]<|Bt hi;rw[HY,<- jm hi]at this;exact absurd this h
theorem x3d(F:bB K "_law_is_round" "_law_is_round" z8 f fd)(T:Txt mg):↥4 1 f fd ["_law_rows","_law_some"] M1:=by
 refine F.gc pR λb0 H vs Q E hr h=>?_;obtain⟨R,a,as,n,ss,rfl,hR,hn,ht,ha,q⟩:=h;have nd:=pR.nd;have cq:=hR.len;refine jF<|ae 0 ⟨R,rfl,⟨_,au.of hR.lst⟩,jG (xs:=as.map λa=>V.ref a.1) (λi σ H3=>aj H H3/\cC (n.take i) ss=true/\∃ u,σ=[⇑R,⇑a,u]) ⟨aj.refl H,rfl,_,rfl⟩ ?_ ?_ ?_⟩
 ·rintro i σ H3 _ ⟨sm,_,_,_⟩;exact au.of<|sm _ _ hR.lst
 ·rintro i x σ H3 hx ⟨sm,ev,u,rfl⟩;have hi:i < n.length:=by
   have:=(Ac.mp hx).1;rw[Aa]at this;omega
  obtain⟨b,eb,dJ,et,el,er⟩:=(hR.same sm).at hi;rw[Ah,eb]at hx;cases hx;have iQ:(row n i).length<=1000:=Ch (jf n i) ht;refine bw 2 nd<|Rc (λk H4=>aj H3 H4/\k=decide (((row n i).filter λz=>ss.contains z).length % 2=1)) (λσ' H'=>aj H H'/\cC (n.take<|i+1) ss=true/\∃ u,σ'=[⇑R,⇑a,u]) ?_ ?_ ?_ λσ' H' h=>a9 h
  ·refine cz fX<|bh dh<|cM eU T.len DY<|ah<|jb (aW z8) NI W0 1 (gD bI)<|a8 bQ<|ae 2<|aG ⟨b.1,_,_,.ref b.2,rfl,rfl,aQ.of et,rfl,b.2,rfl,⟨_,au.of el⟩,λD hD=>?_⟩;refine v7 (λz=>ss.contains z) (cg<|⋯) el hD (λcl C æ ç ex v v0 H' R' h=>bw 3 M6 h) (λcl C æ ç ex z ys T' h=>?_) (λcl C æ ç ex z H' R' h=>ae 3 h) ?_
   ·refine oQ (cz oH<|ae 3<|ae 1 ⟨a,_,rfl,.inl (au.of<|by rw[aw<|bz (sm _ _ ha) hD];exact sm _ _ ha),rfl,my _,_,rfl,?_⟩);show T' (tu (.str z)<|ss.map V.str) _;rwa[mw]
   ·refine ax ⟨D,_,rfl,.inl<|au.of az,aG ⟨_,_,rfl,rfl,(by show(0:Int) < 2;decide),aG ⟨rfl,_,rfl,aS hD _,?_⟩⟩⟩;rw[Aa];refine decide_eq_decide.mpr ⟨λh=>?_,λh=>?_⟩
    ·have:=V.int.inj h;omega
    ·have:((((row n i).filter λz=>ss.contains z).length:Int)) % 2=1:=⋯
     exact BZ V.int this
  ·rintro H4 ⟨s4,e⟩;have hb:=BX e.symm;refine bS<|zg ?_;rw[<- q3n (ss:=ss) hi<|⋯];exact q H4<|sm.trans s4
  ·rintro H4 ⟨s4,e⟩;have hb:=IW e.symm;refine a9 ⟨sm.trans s4,?_,_,rfl⟩;rw[Cj,Ab hi];show cC (n.take i++[n[i]]) ss=true;rw[k8t,ev,<- jm hi,Gh,HY];omega
 ·rintro σ H3 ⟨sm,ev,u,rfl⟩;rw[Aa,cq,Ca]at ev;refine bS<|zg ?_;rw[<- ev];exact q H3 sm
abbrev W1:Ð:=["_law_rows","_law_some","_law_seats_here","_law_beyond","_law_left","_law_r","_law_place","_law_there","_law_due"]
abbrev yA:Ð:=["_law_rows","_law_some","_law_seats_here","_law_beyond","_law_left","?","_law_place","_law_there","_law_due","_law_r"]
def yB:ak W1 ["_law_rows","_law_some"] (aW z9):=cm
def x5t:yA.Nodup:=by decide +kernel
theorem q23(F:bB K "_law_side" "_law_side" z9 f fd)(T:Txt mg)
  (GS:↥6 2 "_law_seats" ["_law_rows"] tR)
  (GO:↥6 2 "_law_other" ["_law_rows","_law_seats_here","_law_end"] AF) :
  ↥4 3 f fd ["_law_rows","_law_some"] M4:=by
 refine F.gc yB λb0 H vs Q E hr h=>?_;obtain⟨R,p,as,n,ss,rfl,hR,hT,hHg,mJ,h0,hn,dZ,hp,wG,q1,q2⟩:=h;have nd:=yB.nd;have hu:=hr.iL;have eX:=hr.u1;refine aZ 2 nd (bC GS hr<|ah<|ae 0<|ax ⟨R,as,n,rfl,hR,⋯,⋯,λyC ks H1 s1 n1 S1=>?_⟩);refine aZ 3 nd<|q2h eX λd hd=>aG<|zg ⟨_,cw.k (k:=Sum.inl 0) az<|cg<|Bx _,?_⟩;rw[uN];refine aZ 4 nd<|di<|ah<|aG<|ax ⟨Z1,λM hM=>?_⟩;have mG:M≠d:=λe=>by rw[e,az]at hM;cases hM
 have W2:H1 M=none:=by rwa[aw mG]at hM
 have s0:aj H1 (upd (upd H1 d<|.dK<|putK [] (Sum.inl 0)<|.bl false) M<|.lst [.int 0]):=(aS hd _).trans<|aS hM _;have xJ:(upd (upd H1 d<|.dK<|putK [] (Sum.inl 0)<|.bl false) M<|.lst [.int 0]) d=some (.dK<|putK [] (Sum.inl 0)<|.bl false):=by rw[aw<|CK mG,az]
 have xK:(upd (upd H1 d<|.dK<|putK [] (Sum.inl 0)<|.bl false) M<|.lst [.int 0]) M≈Li [0]:=az;generalize upd (upd H1 d<|.dK<|putK [] (Sum.inl 0)<|.bl false) M (.lst [.int 0])=H0 at s0 xJ xK;refine vT (λm σ H'=>m<=1000/\∃(Y:List<|Key×V) (lf:List Nat) (u5 u6 u7 u8:Option V),aj H1 H'/\H' d≈.dK Y/\H' M≈Li lf/\dk n ss none Y lf/\m=2 * (n.length - Y.length)+lf.length /\
   σ=[⇑R,⇑p,⇑yC,⇑d,⇑M,u5,u6,u7,u8]) (m0:=2 * (n.length - 1)+1)
  ⟨⋯,_,[0],_,_,_,_,s0,xJ,xK,dk.start h0,rfl,rfl⟩ ?_
 rintro m σ H2 ⟨hm,Y,lf,u5,u6,u7,u8,s2,uF,sM,I,em,rfl⟩;refine cz (tP hu)<|ae 4<|di<|ax ⟨Z0,λpe K4=>?_⟩;have se:=aS K4<|.lst [];have s2:=s2.trans se;have uF:=se _ _ uF;have sM:=se _ _ sM;have M7:(upd H2 pe<|.lst []) pe≈.lst []:=az;generalize upd H2 pe (.lst [])=H3 at s2 uF sM M7 ⊢
 rcases List.eq_nil_or_concat lf with e | ⟨ou,hh,e⟩
 ·subst e;refine⟨1,_,∅,Ib (k:=0) (xs:=[]) (ys:=[]) (λ_=>true) (au.of sM) (au.of M7) rfl (λj x y hx _=>by simp at hx),_,rfl,bR ?_⟩;have M8:∀ k∈Y.map (·.1),∃ r:Nat,k=Sum.inl (r:Int)/\r < n.length:=I.num;have wc:=I.len;refine bS<|cM zG T.sorted DR<|ah<|jb (aW z9) W1 yA 1 (q7i bI)<|ae 3 ⟨d,Y,rfl,uF,λob E2 M9=>?_⟩;have nE:E2≠d:=λe=>by rw[e,az]at M9;cases M9
  have hE3:H3 E2=none:=by rwa[aw nE]at M9
  have sH:aj H H3:=s1.trans s2;have KA:H d=none:=s1.free hd;have hE0:H E2=none:=sH.free hE3;have sU:∀ zs:Ð,aj H (upd (upd H3 d<|.b7 ob<|.dK Y) E2<|Ls zs):=λzs c o' hc=>by
   rw[aw<|bz hc hE0,aw<|bz hc KA];exact sH _ _ hc
  refine k57 (λi σ' H'=>(∃ v,σ'=[⇑R,⇑p,⇑yC,⇑d,⇑M,u5,u6,u7,u8]++[v])/\H'=upd (upd H3 d<|.b7 ob<|.dK Y) E2 (Ls<|kz n<|Y.take i)) ⟨⟨_,rfl⟩,rfl⟩ ?_ ?_ ?_
  ·rintro i σ' H' _ ⟨_,rfl⟩;rw[aw<|CK nE,az]
  ·rintro i pr σ' H' W3 ⟨⟨v,rfl⟩,rfl⟩;have hm:pr∈Y:=Ao W3;have iW:Y.take (i+1)=Y.take i++[pr]:=by rw[Cj,W3];rfl
   obtain⟨k,vv⟩:=pr;obtain⟨r,rfl,iQ⟩:=M8 k<|Ak.mpr ⟨_,hm,rfl⟩;have hv:=(M5 I.fM).mp hm;obtain⟨b,rfl,_⟩:=I.val r vv hv;rw[iW,k3m];intro cl C' æ ç ex;refine bw 9 x5t ?_;intro cl C' æ ç ex;have dg:bb (upd (upd H3 d<|.b7 ob<|.dK Y) E2<|Ls<|kz n<|Y.take i) d (kV<|Sum.inl (r:Int)) (some<|.bl b):=by
    rw[<- hv];exact .inl ⟨Y,Sum.inl (r:Int),.inr ⟨ob,by rw[aw<|CK nE,az]⟩,rfl,rfl⟩
   refine oQ<|vC<|gJ eX<|ae 3<|ae 9 ⟨d,.bl b,rfl,dg,b,rfl,?_⟩;have nA:=Ch (WZ n<|Y.take i) (show(Y.take i).length<=Y.length by rw[Br];omega);have W4:=hR.same<|sU<|kz n<|Y.take i;obtain⟨a,ea,dJ,et,el,er⟩:=W4.at iQ
   by_cases hb:b=true
   ·rw[BP hb];intro cl C' æ ç ex;refine a8 bQ<|a8 dF<|ae 0<|ae 9 ⟨R,_,_,.ref a.1,rfl,rfl,au.of W4.lst,dJ,aG ⟨a.1,_,_,.str n[r].1,rfl,rfl,aQ.of et,rfl,?_⟩⟩;refine⟨_,az,by rw[Aa];exact cg ⋯,⟨_,rfl⟩,?_⟩;rw[uN,BP (show sJ (.bl b)=true from hb)];have:aC n (sK<|Sum.inl (r:Int))=n[r].1:=by
     show aC n ((r:Int).toNat)=_;rw[Bk,gn iQ]
    rw[this];exact IM
   ·rw[BL hb];refine⟨⟨_,rfl⟩,?_⟩;rw[BL (show ¬ sJ (.bl b)=true from hb),Bp]
  ·rintro σ' H' ⟨_,rfl⟩;rw[Ca];have nA:=WZ n Y;refine ax ⟨E2,_,rfl,au.of az,⋯,λl sd hl jM nw=>?_⟩;have sl:=aS hl<|.lst<|sd.map V.str;refine q1 l sd _ ((sU _).trans sl) ((sU _).free hl) az<|I.whole hT hHg h0 mJ wG (wD nw<|jM.nodup_iff.mpr<|k2i mJ I.fM M8) λx=>?_;rw[jM.mem_iff];exact k6q I.fM M8 x
 rw[List.concat_eq_append]at e;subst e;have lw:(ou++[hh]).length=ou.length+1:=by rw[Ag];rfl
 refine⟨1,_,∅,Ic (k:=1) (au.of sM) (au.of (xs:=[]) M7) (by rw[Aa,lw];exact Nat.succ_ne_zero _),_,rfl,cv ?_⟩;obtain⟨hy,jd⟩:=k7w ou hh;refine aZ 5 nd<|x4u FN VD VF Zy<|ae 4 (v:= .ref M) ⟨Or.inl ⟨rfl,_,au.of sM⟩,M,_,.int (hh:Int),rfl,rfl,sM,hy,?_⟩;rw[jd];have I1:=I.pop;rw[lw]at em;have sA:aj H1 (upd H3 M<|Li ou):=fI s2 W2;have W5:(upd H3 M<|Li ou) d≈.dK Y:=by rwa[aw<|CK mG]
 have W6:(upd H3 M<|Li ou) M≈Li ou:=az;generalize upd H3 M (Li ou)=HA at sA W5 W6;obtain⟨b0,hb0⟩:=I1.A5 hh 0 rfl;have Nb:=I1.lt hb0;have W7:=hR.same<|s1.trans sA;obtain⟨a,ea,dJ,et,el,er⟩:=W7.at Nb;have uk:=hR.tup hh a n[hh] ea<|Ab Nb;rw[<- jm Nb]at uk;have rle:=jf n hh;refine m8 T.range (cM eU T.len DY<|ah<|a8 bQ<|a8 dF<|ae 0<|ae 5 ⟨R,_,_,.ref a.1,rfl,rfl,au.of W7.lst,dJ,aG ⟨a.1,_,_,.ref a.2,rfl,rfl,aQ.of et,rfl,ax ⟨a.2,_,rfl,.inl<|au.of el,_,rfl,⋯,by rw[Aa];omega,?_⟩⟩⟩);rw[Aa,Bk];refine m9 (λi σ H'=>∃(Y:List<|Key×V) (lf:List Nat) (u6 u7 u8:Option V),aj H1 H'/\H' d≈.dK Y/\H' M≈Li lf/\dk n ss (some (hh,i)) Y lf/\2 * (n.length - Y.length)+lf.length < m /\
   σ=[⇑R,⇑p,⇑yC,⇑d,⇑M,some<|.int (hh:Int),u6,u7,u8])
  ⟨Y,ou,_,_,_,sA,W5,W6,I1,⋯,rfl⟩ ?_ ?_
 ·rintro i σ HB hi ⟨Y,lf,u6,u7,u8,sB,ed,eM,I,aX,rfl⟩;rw[Ek];have hz:aJ n (hh,i)=some (row n hh)[i]:=Ab hi;generalize (row n hh)[i]=z at hz;have he:((hh,i):Nt.End)∈ends n:=af.mpr ⟨z,hz⟩;have x0L:=pv hT hz;refine bw 6 nd ?_;refine aZ 7 nd<|a8 bQ<|bC GO hr<|ah<|ae 0<|ah<|ae 2<|ah<|d9<|ah<|ae 5<|ah<|ae 6<|ax ⟨Z2,λt ht=>?_⟩;have sT:=aS ht<|Tp (hh,i);have sC:=sB.trans sT;have Nc:=hR.same<|s1.trans sC;refine ax ⟨R,yC,t,as,n,ks,(hh,i),rfl,Nc,S1.same sC,hT,az,he,λu tV=>aG ⟨u,_,_,.int ((other n (hh,i)).1:Int),rfl,rfl,aQ.of tV,rfl,?_⟩⟩;have ed:=sT _ _ ed;have eM:=sT _ _ eM;clear tV;generalize upd HB t (Tp (hh,i))=HC at sC Nc ed eM;obtain⟨b,hb⟩:=I.A5 hh i rfl;have el:=(s1.trans sC) _ _ uk.2;have et:=(s1.trans sC) _ _ uk.1;refine aZ 8 nd (j6 tj<|gJ eX<|ae 3<|ae 5 ⟨d,.bl b,rfl,by rw[<- hb];exact bb.k (k:=Sum.inl (hh:Int)) ed,?_⟩);refine j6 oH<|a8 dF<|a8 bQ<|a8 dF<|ae 0<|ae 5 ⟨R,_,_,.ref a.1,rfl,rfl,au.of Nc.lst,dJ,aG ⟨a.1,_,_,.ref a.2,rfl,rfl,aQ.of et,rfl,ae 6 ⟨a.2,_,_,.str z,rfl,rfl,au.of el,vW hz,ae 1 ⟨p,_,rfl,.inl<|au.of<|(s1.trans sC) _ _ hp,rfl,my _,rfl,?_⟩⟩⟩⟩;have fF:∀(x y:Bool),(if false=true then x else y)=y:=λ_ _=>rfl;rw[fF,mw,uA,yY];show Run _ _ _ [⇑R,⇑p,⇑yC,⇑d,⇑M,some<|.int (hh:Int),some<|.int (i:Int),some<|.int ((other n (hh,i)).1:Int),some<|.bl<|b != decide (z∈ss)] HC;refine dP<|k7x eX<|ae 7<|ae 3 ⟨d,_,rfl,bb.k (k:=Sum.inl ((other n (hh,i)).1:Int)) ed,?_⟩;cases hg:aF Y (Sum.inl ((other n (hh,i)).1:Int)) with
  | none=>
   refine cv ?_;have I':=I.new hT hz hb hg;have lk:=I.len;have lk':=I'.len;have wc:(putK Y (Sum.inl ((other n (hh,i)).1:Int))<|.bl<|b != decide (z∈ss)).length=Y.length+1:=by
    have:=BZ List.length<|Jz Y (Sum.inl ((other n (hh,i)).1:Int))<|.bl<|b != decide (z∈ss);rwa[BL<|Tl hg,Ag,Aa,Aa]at this
   refine vU eX (ae 8<|ae 3<|ae 7 ⟨d,_,rfl,cw.k (k:=Sum.inl ((other n (hh,i)).1:Int)) ed (cg<|⋯),?_⟩);have W8:(upd HC d<|.dK<|putK Y (Sum.inl ((other n (hh,i)).1:Int))<|.bl<|b != decide (z∈ss)) M≈Li lf:=by rwa[aw mG]
   refine gG (ka<|ae 4 ⟨M,rfl,⟨_,W8⟩,ae 7 ⟨_,W8,by rw[Aa];exact cg ⋯,?_⟩⟩);refine a9<|a9 ⟨_,lf++[(other n (hh,i)).1],_,_,_,fI (fI sC hd) W2,?_,?_,I',?_,rfl⟩
   ·rw[aw<|CK mG];exact az
   ·rw[az];show some (HO.lst<|(lf.map λ(r:Nat)=>V.int (r:Int))++[.int ((other n (hh,i)).1:Int)])=some (HO.lst<|(lf++[(other n (hh,i)).1]).map λ(r:Nat)=>V.int (r:Int));rw[Al];rfl
   ·rw[wc,Ag];rw[wc]at lk';show _+(lf.length+1) < m;omega
  | some v=>
   refine bR ?_;obtain⟨c,rfl,_⟩:=I.val _ v hg;refine dP<|cz tj<|gJ eX<|ae 3<|ae 7 ⟨d,.bl c,rfl,by rw[<- hg];exact bb.k (k:=Sum.inl ((other n (hh,i)).1:Int)) ed,ae 8 ⟨rfl,_,rfl,?_⟩⟩
   by_cases hc:c=(b != decide (z∈ss))
   ·rw[BW<|by rw[hc]];refine bR<|a9<|a9<|a9 ⟨Y,lf,_,_,_,sC,ed,eM,I.step hz hb (by rwa[<- hc]),aX,rfl⟩
   ·rw[BR λh=>hc<|V.bl.inj h];refine cv<|bS<|zh<|q2 HC (s1.trans sC)<|I.bad hT hz hb hg hc
 ·rintro σ HB ⟨Y,lf,u6,u7,u8,sB,ed,eM,I,aX,rfl⟩;exact a9 ⟨_,aX,⋯,Y,lf,_,_,_,_,sB,ed,eM,I.close<|An _,rfl,rfl⟩
end
end E9
namespace Nt
open PySem L2 Classical
def KK(n:Net)(z:Str)(w:Str)(ss:Ð):Prop:=b8 ss/\(∀ y∈ss,y∈ag n)/\z∈ss /\
 ((w = "double"/\cC n ss=true/\∃ sd,aN n ss sd)\/(w = "cut"/\(∃ sd,aN n ss sd)/\cC n (less ss z)=true)\/(w = "round"/\cC n ss=true/\∃ sd,aN n (less ss z) sd))
variable{ss:Ð}{z:Str}{n:Net}
def uG.kk{w:Str}(h:uG n z w ss):KK n z w ss:=by
 obtain⟨a,b,c,⟨rfl,d,e,_⟩ | ⟨rfl,d,e,_⟩ | ⟨rfl,d,e,_⟩⟩:=h
 ·exact⟨a,b,c,.inl ⟨rfl,d,e⟩⟩
 ·exact⟨a,b,c,.inr<|.inl ⟨rfl,d,e⟩⟩
 ·exact⟨a,b,c,.inr<|.inr ⟨rfl,d,e⟩⟩
noncomputable def mt(a b:Ð):Bool:=ao<|a.map λz=>decide (z∈b)
def Nf(a b:Ð):mt a b=decide ((a.filter λz=>b.contains z).length % 2=1):=by
 unfold mt;rw[rm];have e:(a.filter λz=>b.contains z)=a.filter λz=>decide (z∈b):=by
  congr 1
  funext z
  rw[Cf,CN];exact Bm
 rw[e]
variable{a b:Ð}
def Ng(T:aq n){sd:Ð}(ha:cC n a=true)(hn:a.Nodup)(hb:aN n b sd):mt a b=false:=by
 rw[Nf,k8m T ha hn hb.cut];rfl
def q7g(ha:a.Nodup)(hb:b.Nodup):mt a b=mt b a:=by rw[Nf,Nf,q4p ha hb]
def W9(T:aq n){d sd sb:Ð}(hd:cC n d=true)(dn:d.Nodup)(lQ:aN n d sd)(hz:z∈d)(ha:cC n a=true)(an:a.Nodup)(hb:aN n b sb)(hx:gO a b [z]):False:=by
 have h1:=Ng T hd dn hb;have h2:mt d a=false:=by rw[q7g dn an];exact Ng T ha an lQ
 have h3:mt d [z]=(mt d a ^^ mt d b):=by
  unfold mt;rw[<- fK]
  congr 1
  exact Ap λy _=>xS hx y
 rw[h1,h2]at h3;have h4:mt d [z]=true:=by
  unfold mt;have e:(d.map λy=>decide (y∈[z]))=d.map λy=>decide (y=z) && true:=Ap λy _=>by
   rw[VJ];exact decide_eq_decide.mpr Ad
  rw[e];exact xL dn hz
 rw[h4]at h3;cases h3
def Xa(h:z∈a):gO (less a z) a [z]:=λy=>by
 rw[Ad]
 by_cases k:y=z
 ·subst k;have:y∉less a y:=λq=>(bd.mp q).2 rfl;rw[BL this];exact⟨λ_=>h,λ_=>rfl⟩
 ·by_cases m:y∈a
  ·rw[BP<|bd.mpr ⟨m,k⟩];exact⟨λq=>absurd q k,λq=>absurd m q⟩
  ·rw[BL λq=>m (bd.mp q).1];exact⟨λq=>absurd q k,λq=>absurd q m⟩
def q7m{c:Ð}(h:gO a b c):gO b a c:=λy=>by
 have:=h y
 by_cases p:y∈a <;> by_cases q:y∈b <;> simp[p,q]at this <;> simp[p,q,this]
def Nh(T:aq n)(h:KK n z "double" a)(k:KK n z "cut" b):False:=by
 obtain⟨a1,a2,a3,⟨_,a4,sd,a5⟩ | ⟨q,_⟩ | ⟨q,_⟩⟩:=h
 case inr.inl=>exact absurd q<|∅
 case inr.inr=>exact absurd q<|∅
 obtain⟨b1,b2,b3,⟨q,_⟩ | ⟨_,⟨sb,b4⟩,b5⟩ | ⟨q,_⟩⟩:=k
 ·exact absurd q<|∅
 ·exact W9 T a4 (gq a1) a5 a3 b5 (gq<|yy b1 z) b4<|Xa b3
 ·exact absurd q<|∅
def Xb(T:aq n)(h:KK n z "double" a)(k:KK n z "round" b):False:=by
 obtain⟨a1,a2,a3,⟨_,a4,sd,a5⟩ | ⟨q,_⟩ | ⟨q,_⟩⟩:=h
 case inr.inl=>exact absurd q<|∅
 case inr.inr=>exact absurd q<|∅
 obtain⟨b1,b2,b3,⟨q,_⟩ | ⟨q,_⟩ | ⟨_,b4,sb,b5⟩⟩:=k
 ·exact absurd q<|∅
 ·exact absurd q<|∅
 ·exact W9 T a4 (gq a1) a5 a3 b4 (gq b1) b5<|q7m<|Xa b3
def aN.yD{sd:Ð}(so:b8 ss)(h:aN n ss sd):kY n ss:=⟨so,sd,h.cut⟩
def q8w(a b:Ð):∃ c,b8 c/\gO a b c:=by
 obtain⟨c,h1,h2⟩:=ke<|(a++b).filter λz=>decide (z∈a) ^^ decide (z∈b);refine⟨c,h1,λz=>?_⟩;rw[h2,Bf,Am]
 by_cases p:z∈a <;> by_cases q:z∈b <;> simp[p,q]
def Xc(T:aq n)(h0:0 < n.length)(h:KK n z "cut" a)(k:KK n z "round" b):False:=by
 have h':=h;obtain⟨a1,a2,a3,⟨q,_⟩ | ⟨_,⟨sa,a4⟩,a5⟩ | ⟨q,_⟩⟩:=h
 ·exact absurd q<|∅
 case inr.inr=>exact absurd q<|∅
 obtain⟨b1,b2,b3,⟨q,_⟩ | ⟨q,_⟩ | ⟨_,b4,sb,b5⟩⟩:=k
 ·exact absurd q<|∅
 ·exact absurd q<|∅
 obtain⟨d,d1,d2⟩:=q8w a<|less b z;have dc:=q70 T (a4.yD a1) (b5.yD<|yy b1 z) d1 d2;have dx:gO (less a z) b d:=λy=>by
  rw[d2 y];have l1:y∈less b z↔y∈b/\y≠z:=bd;have l2:y∈less a z↔y∈a/\y≠z:=bd
  by_cases e:y=z
  ·subst e;rw[BP a3,BL λq=>(l2.mp q).2 rfl];exact⟨λ_=>b3,λ_ q=>(l1.mp q).2 rfl⟩
  ·by_cases p:y∈a
   ·rw[BP p,BP<|l2.mpr ⟨p,e⟩];exact⟨λq k=>q<|l1.mpr ⟨k,e⟩,λq k=>q (l1.mp k).1⟩
   ·rw[BL p,BL λq=>p (l2.mp q).1];exact⟨λq=>(l1.mp q).1,λq=>l1.mpr ⟨q,e⟩⟩
 have de:=q10 a5 b4 dx;obtain⟨sd,lQ⟩:=JU T h0 dc;have hz:=(d2 z).mpr (by rw[BP a3];exact λq=>(bd.mp q).2 rfl);refine Nh T ⟨d1,λy hy=>?_,hz,.inl ⟨rfl,de,sd,lQ⟩⟩ h';have:=(d2 y).mp hy
 by_cases p:y∈a
 ·exact a2 y p
 ·rw[BL p]at this;exact b2 y (bd.mp this).1
def Ni{w:Str}(h:KK n z w a):w = "double"\/w = "cut"\/w = "round":=by
 obtain⟨_,_,_,⟨q,_⟩ | ⟨q,_⟩ | ⟨q,_⟩⟩:=h
 ·exact .inl q
 ·exact .inr<|.inl q
 ·exact .inr<|.inr q
def x09(T:aq n)(h0:0 < n.length){w v:Str}(h:KK n z w a)(k:KK n z v b):w=v:=by
 rcases Ni h with rfl | rfl | rfl <;> rcases Ni k with rfl | rfl | rfl
 ·rfl
 ·exact(Nh T h k).elim
 ·exact(Xb T h k).elim
 ·exact(Nh T k h).elim
 ·rfl
 ·exact(Xc T h0 h k).elim
 ·exact(Xb T k h).elim
 ·exact(Xc T h0 k h).elim
 ·rfl
end Nt
namespace Dt
variable{κ:Type}
variable{κ:Type}
variable{κ:Type} [DecidableEq κ]
variable{κ:Type} [DecidableEq κ]
end Dt
namespace Nt
open PySem L2
theorem Xd{α:Type}:∀{l:List α},l.Nodup->∀{i j:Nat} {x:α},l[i]?≈x->l[j]?≈x->i=j
 | [],_,i,j,x,h,_=>by simp at h
 | a :: l,hn,i,j,x,h1,h2=>by
  obtain⟨na,hl⟩:=Bh.mp hn;cases i with
  | zero=>
   cases j with
   | zero=>rfl
   | succ j=>
    cases h1;rw[Ee]at h2;exact absurd (Ao h2) na
  | succ i=>
   cases j with
   | zero=>
    cases h2;rw[Ee]at h1;exact absurd (Ao h1) na
   | succ j=>
    rw[Ee]at h1 h2;rw[Xd hl h1 h2]
def rn(n:Net)(p:Str):Nat:=(n.map (·.1)).idxOf p
variable{n:Net}
def x5o{p:Str}(h:p∈n.map (·.1)):rn n p < n.length/\(n.map (·.1))[rn n p]?≈p:=by
 have hl:rn n p < (n.map (·.1)).length:=List.idxOf_lt_length_iff.mpr h;refine⟨by rwa[Aa]at hl,?_⟩;rw[Ab hl]
 congr 1
 exact List.getElem_idxOf hl
def x0n(hN:(n.map (·.1)).Nodup){r:Nat}(h:r < n.length):rn n (aC n r)=r:=by
 have e:(n.map (·.1))[r]?≈aC n r:=by rw[Ah,Ab h,gn h];rfl
 exact Xd hN (x5o<|Ao e).2 e
end Nt
namespace Dt
variable{κ μ:Type}
variable [DecidableEq κ] [DecidableEq μ]
end Dt
namespace Nt
open PySem L2
section
variable{n:Net}{z:Str}{r k:Nat}
def uH(h:r < n.length):row n r=n[r].2:=by unfold row;rw[Ab h];rfl
def x14(h:r < n.length):ag (n.take<|r+1)=ag (n.take r)++row n r:=by
 rw[uH h];unfold ag;rw[Cj,Ab h,Dp];simp
def k66:ag n=ag (n.take k)++ag (n.drop k):=by
 unfold ag;rw[<- Dp,Cw]
def x1b(h:r < n.length)(q:z∈row n r):z∈ag n:=by
 rw[k66,x14 h];simp[q]
def x3g(q:z∈ag n):∃ r,r < n.length/\z∈row n r:=by
 unfold ag at q;obtain⟨x,hx,hz⟩:=Gb.mp q;obtain⟨r,hr,e⟩:=Ck.mp hx;exact⟨r,hr,by rwa[uH hr,e]⟩
end
end Nt
namespace L2
open PySem Nt
variable{N':Ð}{H:Hp}{σ:St}{scope:Scope}{ifs:Ó}{X:Cx}
end L2
namespace Nt
open PySem L2 Classical
variable{z:Str}
variable{ks:Ð}{Y:List (Key×V)}{done:List (Str×End)}
end Nt
namespace Nt
open PySem L2
variable{n:Net}
section
variable{z:Str}{r0 r1:Nat}
def q3v{i:Nat}(h:n.length<=i):row n i=[]:=by
 unfold row;rw[Bg h];rfl
end
end Nt
namespace Dt
variable{κ ι:Type}
variable [DecidableEq ι]
end Dt
namespace Nt
open PySem L2 Dt
end Nt
namespace Dt
open Nt (ao fK)
open Classical
variable{τ:Type}
def dot(ss:List τ)(r s:τ->Bool):Bool:=ao<|ss.map λz=>r z && s z
def q3w(ss:List τ)(r s:τ->Bool):dot ss r s=dot ss s r:=by
 unfold dot
 congr 1
 exact Ap λz _=>Fo ..
structure DP(ss:List τ)(R S:(τ->Bool)->Prop):Prop where
 x0M:∀ r r',(∀ y∈ss,r y=r' y)->R r->R r'
 x0N:∀ r r',(∀ y∈ss,r y=r' y)->S r->S r'
 xr:∀ r r',R r->R r'->R (λy=>r y ^^ r' y)
 xs:∀ r r',S r->S r'->S (λy=>r y ^^ r' y)
 ort:∀ r s,R r->S s->dot ss r s=false
 yE:∀ v,(∀ s,S s->dot ss v s=false)->R v
 Xe:∀ v,(∀ r,R r->dot ss r v=false)->S v
open Nt (ao fK sg gM)
open Classical
variable{τ κ:Type} [DecidableEq κ]
end Dt
namespace Nt
open PySem L2 Classical
def q3f{α:Type}{L:List (List α)}(h:L.flatten.Nodup){i j k l:Nat}{w v:List α}{e:α}(hi:L[i]?≈w)(hk:w[k]?≈e)(hj:L[j]?≈v)(hl:v[l]?≈e):i=j/\k=l:=by
 rw[By,List.pairwise_flatten]at h;obtain⟨h1,h2⟩:=h;have li:=(Ac.mp hi);have lj:=(Ac.mp hj);have ij:i=j:=by
  rcases Em i j with c | c | c
  ·exact absurd rfl ((Bc.mp h2) i j li.1 lj.1 c e (by rw[li.2];exact Ao hk) e<|by rw[lj.2];exact Ao hl)
  ·exact c
  ·exact absurd rfl ((Bc.mp h2) j i lj.1 li.1 c e (by rw[lj.2];exact Ao hl) e<|by rw[li.2];exact Ao hk)
 subst ij;rw[hi]at hj;cases hj;refine⟨rfl,?_⟩;have p:=h1 w<|Ao hi;have lk:=(Ac.mp hk);have ll:=(Ac.mp hl)
 rcases Em k l with c | c | c
 ·exact absurd (lk.2.trans ll.2.symm)<|(Bc.mp p) k l lk.1 ll.1 c
 ·exact c
 ·exact absurd (ll.2.trans lk.2.symm)<|(Bc.mp p) l k ll.1 lk.1 c
noncomputable def pf(n:Net)(x:End):End:=(((ci n)[x.1]?.getD [])[x.2]?).getD (0,0)
theorem DC(n:Net)(f:Nat):row (aI n) f=((ci n)[f]?.getD []).map (aD n):=by
 unfold row aI;cases h:(ci n)[f]? with
 | some w=>rw[q9c h];rfl
 | none=>
  have:(dR n<|ci n)[f]?=none:=by rw[List.getElem?_eq_none_iff]at h ⊢;rwa[yr]
  rw[this];rfl
variable{x:End}{n:Net}
theorem uI(h:x∈ends (aI n)):∃ w,(ci n)[x.1]?≈w/\w[x.2]?≈pf n x:=by
 obtain⟨z,hz⟩:=af.mp h;unfold aJ at hz;rw[DC]at hz;cases hw:(ci n)[x.1]? with
 | none=>rw[hw]at hz;simp at hz
 | some w=>
  rw[hw]at hz;have:x.2 < w.length:=by have:=(Ac.mp hz).1;simpa using this
  refine⟨w,rfl,?_⟩;unfold pf;rw[hw];show w[x.2]?=some ((w[x.2]?).getD (0,0));rw[Ab this];rfl
variable{e:End}
def DE{i k:Nat}{w:List End}(hi:(ci n)[i]?≈w)(hk:w[k]?≈e):(i,k)∈ends (aI n)/\pf n (i,k)=e:=by
 constructor
 ·refine af.mpr ⟨aD n e,?_⟩;unfold aJ;rw[DC];show(((ci n)[i]?.getD []).map<|aD n)[k]?=_;rw[hi,Fe,Ah,hk];rfl
 ·unfold pf;show(((ci n)[i]?.getD [])[k]?).getD (0,0)=e;rw[hi,Fe,hk];rfl
def yF(T:aq n)(h:x∈ends (aI n)):pf n x∈ends n:=by
 obtain⟨w,h1,h2⟩:=uI h;exact(Sy T w<|Ao h1).2 _<|Ao h2
def uJ(T:aq n)(h:x∈ends (aI n)):aJ (aI n) x=aJ n (pf n x):=by
 obtain⟨w,h1,h2⟩:=uI h;obtain⟨z,hz⟩:=af.mp<|yF T h;rw[hz];unfold aJ;rw[DC,h1,Fe,Ah,h2];show some (aD n<|pf n x)≈z;rw[eY hz]
def Xf(h:x∈ends (aI n)):ends n≠[]:=λk=>by
 obtain⟨w,h1,h2⟩:=uI h;have:ci n=[[]]:=by unfold ci;rw[BP k]
 rw[this]at h1;have:w=[]:=by simpa using Ao h1
 subst this;simp at h2
def DF(T:aq n){y:End}(hx:x∈ends (aI n))(hy:y∈ends (aI n))(h:pf n x=pf n y):x=y:=by
 obtain⟨w,h1,h2⟩:=uI hx;obtain⟨v,h3,h4⟩:=uI hy;rw[<- h]at h4;obtain⟨a,b⟩:=q3f (Ju T<|Xf hx).nd h1 h2 h3 h4;exact HJ a b
def yG(T:aq n)(h:e∈ends n):∃ x∈ends (aI n),pf n x=e:=by
 have h0:ends n≠[]:=λk=>by rw[k]at h;cases h
 have hm:=(Jv T h0).all.mem_iff.mpr h;obtain⟨w,hw,he⟩:=Dw.mp hm;obtain⟨i,hi⟩:=Be hw;obtain⟨k,hk⟩:=Be he;exact⟨(i,k),DE hi hk⟩
theorem Xg(n:Net):∀(ws:List<|List End) (k:Nat),ag ((ws.zipIdx k).map λx=>(ku x.2,x.1.map<|aD n))=ws.flatten.map (aD n)
 | [],_=>rfl
 | w :: ws,k=>by
  rw[List.zipIdx_cons,Ba];show w.map (aD n)++ag ((ws.zipIdx<|k+1).map λx=>(ku x.2,x.1.map<|aD n))=_;rw[Xg n ws<|k+1,Cr,Al]
def Xh(n:Net):(ends n).map (aD n)=ag n:=by
 unfold ends;rw[Bs,<- kJ n 0];refine Ap λp hp=>?_;obtain⟨z,e⟩:=p;exact eY<|aT.mp hp
def sO(T:aq n):(ag<|aI n).Perm (ag n):=by
 have e:ag (aI n)=(ci n).flatten.map (aD n):=Xg n (ci n) 0;rw[e]
 by_cases h:ends n=[]
 ·have:ci n=[[]]:=by unfold ci;rw[BP h]
  rw[this,<- Xh n,h];exact List.Perm.refl _
 ·rw[<- Xh n];exact(Jv T h).all.map _
def j4(T:aq n):aq (aI n):=λz hz=>by
 have p:=sO T;rw[p.count_eq];exact T z<|p.mem_iff.mp hz
theorem Nj(T:aq n)(h:x∈ends (aI n)):pf n (left (aI n) x)=step n (pf n x):=by
 obtain⟨w,h1,h2⟩:=uI h;obtain⟨e,_,hw,he,_⟩:=(Ju T<|Xf h).face w<|Ao h1;have F:=nI T he;rw[<- hw]at F;have hl:=(Ac.mp h2).1;have hx:=Option.some.inj<|h2.symm.trans<|F.at' x.2 hl;have er:(row (aI n) x.1).length=w.length:=by rw[DC,h1,Fe,Aa]
 unfold left;rw[er]
 by_cases c:x.2+1 < w.length
 ·rw[Bz c,(DE h1<|F.at' _ c).2,hx];rfl
 ·have c:x.2+1=w.length:=⋯
  rw[c,Ef,(DE h1<|F.at' 0 F.pos).2,hx];show e=↥14 (x.2+1) e;rw[c,F.back]
def uK(T:aq n)(h:x∈ends (aI n)):pf n (other (aI n) x)=other n (pf n x):=by
 obtain⟨z,hz⟩:=af.mp h;have o:=dH (j4 T) hz;have v8:=hz;rw[uJ T h]at v8;have h2:=o.1;have ho:=cR (j4 T) h;rw[uJ T ho]at h2
 rcases (kd T v8).mp h2 with k | k
 ·exact absurd (DF T ho h k) o.2.2
 ·exact k
def DH(T:aq n)(h:x∈ends (aI n)):pf n (go 1 (aI n) x)=left n (pf n x):=by
 have ho:=cR (j4 T) h;unfold go;rw[<- Jl ho,Nj T ho,uK T h];unfold step;obtain⟨z,hz⟩:=af.mp<|yF T h;rw[(dH T hz).2.1]
end Nt
namespace Nt
open PySem L2 Dt
variable{m:Net}{ss:Ð}
section
variable{n:Net}
noncomputable def star(m:Net)(r:Nat)(z:Str):Bool:=decide ((row m r).count z % 2=1)
def Nk(T:aq m){e:End}{z:Str}(h:aJ m e≈z)(r:Nat):star m r z=(decide (r=e.1) ^^ decide (r=(other m e).1)):=by
 rw[<- J1 T h r,<- dS]
where
 dS {m:Net} {r:Nat} {z:Str}:star m r z=ao ((row m r).map λy=>decide (y=z)):=by
  unfold star;rw[ut]
  congr 1
  exact Ap λy _=>decide_eq_decide.mpr ⟨RN,RN⟩
def Nm(hs:ss.Nodup)(v:Str->Bool){r:Nat}(h:∀ y∈row m r,y∈ss):dot ss v (star m r)=ao ((row m r).map v):=CD (n:=m) hs h
def q3e(T:aq n)(r:Nat):cN (aI n) (star n r):=by
 refine aY.even (j4 T) (χ:=λx=>decide (r=(pf n x).1)) ⟨λx hx=>?_,λx z hz=>?_⟩
 ·rw[tZ (j4 T) hx,DH T hx];rfl
 ·have hx:=af.mpr ⟨z,hz⟩;rw[uJ T hx]at hz;rw[Nk T hz r,uK T hx]
def q42(T:aq n)(f:Nat):cN n (star (aI n) f):=by
 have inv:∀{x:End},x∈ends (aI n)->(decide (∃ y∈ends (aI n),pf n y=pf n x/\f=y.1))=decide (f=x.1):=λ{x} hx=>decide_eq_decide.mpr ⟨λ⟨y,hy,e,k⟩=>by rw[<- DF T hy hx e];exact k,λk=>⟨x,hx,rfl,k⟩⟩;refine aY.even T (χ:=λe=>decide (∃ y∈ends (aI n),pf n y=e/\f=y.1)) ⟨λe he=>?_,λe z hz=>?_⟩
 ·obtain⟨x,hx,rfl⟩:=yG T he;have hl:=Ii hx;show decide _=decide _;rw[<- Nj T hx,inv hl,inv hx];rfl
 ·obtain⟨x,hx,rfl⟩:=yG T<|af.mpr ⟨z,hz⟩;show _=(decide _ ^^ decide _);rw[<- uJ T hx]at hz;have ho:=cR (j4 T) hx;rw[<- uK T hx,inv hx,inv ho,Nk (j4 T) hz f]
theorem Xi(T:aq n)(hf:HF n)(hs:ss.Nodup)(hm:∀ z,z∈ss↔z∈ag n):DP ss (cN n) (cN<|aI n):=by
 have T':=j4 T;have px:=λz=>(hm z).trans (sO T).mem_iff.symm;have DI:∀{m:Net},(∀ z,z∈ss↔z∈ag m)->∀ r,∀ y∈row m r,y∈ss:=λ{m} h r y hy=>by
  by_cases hr:r < m.length
  ·exact(h y).mpr<|x1b hr hy
  ·rw[q3v<|⋯]at hy;cases hy
 have loc:∀{m:Net},(∀ z,z∈ss↔z∈ag m)->∀ r r':Str->Bool,(∀ y∈ss,r y=r' y)->cN m r->cN m r':=λ{m} h r r' q k x=>by
  rw[<- k x]
  congr 1
  exact Ap λy hy=>(q y<|DI h x y hy).symm
 have xx:∀{m:Net} (r r':Str->Bool),cN m r->cN m r'->cN m (λy=>r y ^^ r' y):=λ{m} r r' k k' x=>by
  rw[fK r r',k x,k' x];rfl
 refine⟨loc hm,loc px,xx,xx,λr s hr gZ=>?_,λv hv x=>?_,λv hv x=>?_⟩
 ·obtain⟨χ,hχ⟩:=hf.2.2 r hr;have cst:∀(p f:Nat),(f,p)∈ends (aI n)->χ (pf n (f,p))=χ (pf n (f,0)):=λp=>by
   induction p with
   | zero=>exact λf _=>rfl
   | succ p ih=>
    intro f h;obtain⟨z,hz⟩:=af.mp h;have hl:=gk hz;have hl:p+1 < (row (aI n) f).length:=hl;have hp:(f,p)∈ends (aI n):=af.mpr ⟨_,Ab (show p < (row (aI n) f).length by omega)⟩;have e:left (aI n) (f,p)=(f,p+1):=HJ rfl (Bz hl);rw[<- ih f hp,<- e,Nj T hp,hχ.go _<|yF T hp]
  have rz:∀ z∈ss,r z=ao ((List.range (aI n).length).map λf=>χ (pf n (f,0)) && star (aI n) f z):=λz hz=>by
   obtain⟨x,hx⟩:∃ x,aJ (aI n) x≈z:=by
    obtain⟨f,WQ,uE⟩:=x3g<|(px z).mp hz;obtain⟨p,hp⟩:=Be uE;exact⟨(f,p),hp⟩
   have gH:=af.mpr ⟨z,hx⟩;have Xj:=cR T' gH;obtain⟨y,hy⟩:=af.mp Xj;have l1:=cB hx;have l2:=cB hy;have e1:(λf=>χ (pf n (f,0)) && star (aI n) f z)=λf=>(χ (pf n (f,0)) && decide (x.1=f)) ^^ (χ (pf n (f,0)) && decide ((other (aI n) x).1=f)):=by
    funext f
    rw[Nk T' hx f,show decide (f=x.1)=decide (x.1=f)from decide_eq_decide.mpr ⟨RN,RN⟩,show decide (f=(other (aI n) x).1)=decide ((other (aI n) x).1=f)from decide_eq_decide.mpr ⟨RN,RN⟩];cases χ (pf n (f,0)) <;> cases decide (x.1=f) <;> cases decide ((other (aI n) x).1=f) <;> rfl
   rw[e1,fK (λf=>χ (pf n (f,0)) && decide (x.1=f)) λf=>χ (pf n (f,0)) && decide ((other (aI n) x).1=f),CO l1,CO l2];have t1:=uJ T gH;rw[hx]at t1;rw[hχ.dj _ _ t1.symm,<- uK T gH];have c1:=cst x.2 x.1 gH;have c2:=cst (other (aI n) x).2 (other (aI n) x).1 Xj;rw[<- c1,<- c2]
  unfold dot;rw[show ss.map (λz=>r z && s z)=ss.map λz=>ao ((List.range (aI n).length).map λf=>χ (pf n (f,0)) && (s z && star (aI n) f z))from Ap λz hz=>by
   rw[rz z hz];cases s z with
   | false=>
    rw[Ep];have:(λf=>χ (pf n (f,0)) && (false && star (aI n) f z))=λ_:Nat=>false:=by funext f;rw[Gq,Ep]
    rw[this,gM]
   | true=>
    rw[VJ]
    congr 1,sg]
  have:(List.range (aI n).length).map (λf=>ao<|ss.map λz=>χ (pf n (f,0)) && (s z && star (aI n) f z))=(List.range (aI n).length).map λ_=>false:=Ap λf _=>by
   cases χ (pf n (f,0)) with
   | false=>
    have:(λz=>false && (s z && star (aI n) f z))=λ_:Str=>false:=by funext z;rfl
    rw[this,gM]
   | true=>
    have:(λz=>true && (s z && star (aI n) f z))=λz=>s z && star (aI n) f z:=by funext z;rw[Gh]
    rw[this];have d:=Nm hs s<|DI px f;unfold dot at d;rw[d];exact gZ f
  rw[this];exact gM _
 ·have:=hv _<|q3e T x;rwa[Nm hs v<|DI hm x]at this
 ·have:=hv _<|q42 T x;rwa[q3w,Nm hs v<|DI px x]at this
theorem q4a(T:aq n)(hN:(n.map (·.1)).Nodup)(hg:db n)(h1:ends n≠[]):db (aI n):=λP ⟨a,ha,pa⟩ hc b hb=>by
 have T':=j4 T
 let B:End->Prop:=λx=>P<|aC (aI n) x.1
 have bo:∀ x∈ends (aI n),(B x↔B (other (aI n) x)):=λx hx=>by
  have Xk:∀ x∈ends (aI n),B x->B (other (aI n) x):=λx hx k=>by
   obtain⟨z,hz⟩:=af.mp hx;have ho:=(dH T' hz).1;have l1:=cB hz;have l2:=cB ho;show P (aC (aI n) (other (aI n) x).1);have k:P (aC (aI n) x.1):=k;rw[gn l1]at k;rw[gn l2];exact hc _ (Bt l1) _ (Bt l2) z (by rw[<- uH l1];exact Ao hz) (by rw[<- uH l2];exact Ao ho) k
  refine⟨Xk x hx,λk=>?_⟩;have:=Xk _ (cR T' hx) k;rwa[Lw T' hx]at this
 let Bn:End->Prop:=λe=>∃ x∈ends (aI n),pf n x=e/\B x
 have bx:∀{x:End},x∈ends (aI n)->(Bn (pf n x)↔B x):=λ{x} hx=>⟨λ⟨y,hy,e,k⟩=>by rw[<- DF T hy hx e];exact k,λk=>⟨x,hx,rfl,k⟩⟩;have bl:∀ e∈ends n,(Bn e↔Bn (left n e)):=λe he=>by
  obtain⟨x,hx,rfl⟩:=yG T he;rw[<- DH T hx,bx hx,bx<|gK T' hx,bo x hx];exact UW
 have bt:∀ e∈ends n,(Bn e↔Bn (↥5)):=λe he=>by
  obtain⟨x,hx,rfl⟩:=yG T he;rw[<- uK T hx,bx hx,bx<|cR T' hx];exact bo x hx
 have br:∀(p r:Nat),(r,p)∈ends n->(Bn (r,p)↔Bn (r,0)):=λp=>by
  induction p with
  | zero=>exact λr _=>UW
  | succ p ih=>
   intro r h;obtain⟨z,hz⟩:=af.mp h;have hl:=gk hz;have hl:p+1 < (row n r).length:=hl;have hp:(r,p)∈ends n:=af.mpr ⟨_,Ab (show p < (row n r).length by omega)⟩;have e:left n (r,p)=(r,p+1):=HJ rfl (Bz hl);rw[<- e,<- bl _ hp];exact ih r hp
 have ne:∀ w∈ci n,∃ e∈ends n,w[0]?≈e:=λw hw=>by
  obtain⟨e,he,rfl,_⟩:=(by
   have:=AU T (ends n) [] (λ_ h=>h) w (by unfold ci at hw;rwa[BL h1]at hw);exact this:∃ e∈ends n,w=face n e/\e∉([]:List End))
  obtain⟨hm,_⟩:=wA T he;cases hf:face n e with
  | nil=>rw[hf]at hm;cases hm
  | cons c l=>exact⟨c,wx T he c (by rw[hf];exact Ae ..),rfl⟩
 have first:∀ i,i < (aI n).length->((i,0):End)∈ends (aI n):=λi hi=>by
  have jK:i < (ci n).length:=by
   have:(aI n).length=(ci n).length:=yr n<|ci n;omega
  obtain⟨e,he,h0⟩:=ne _<|Bt jK;exact(DE (Ab jK) h0).1
 obtain⟨i,hi,rfl⟩:=Ck.mp ha;obtain⟨j,hj,rfl⟩:=Ck.mp hb;have xi:=first i hi
 have xj:=first j hj
 have Bi:B (i,0):=by
  show P (aC (aI n) i);rwa[gn hi]
 have ei:=yF T xi;have ej:=yF T xj;have Bi:=(bx xi).mpr Bi;generalize pf n (i,0)=e at ei Bi;obtain⟨z,hz⟩:=af.mp ei;have lr:=cB hz;have DJ:∀ k (hk:k < n.length),rn n n[k].1=k:=λk hk=>by
  have:=x0n hN hk;rwa[gn hk]at this
 have same:∀ x∈ends n,∀ y∈ends n,x.1=y.1->Bn x->Bn y:=λx hx y hy e k=>by
  have a:=(br x.2 x.1 hx).mp k;rw[e]at a;exact(br y.2 y.1 hy).mpr a
 have all:=hg (λp=>∀ y∈ends n,y.1=rn n p->Bn y) ⟨n[e.1],Bt lr,λy hy k=>by
  have k:y.1=rn n n[e.1].1:=k;rw[DJ _ lr]at k;exact same e ei y hy k.symm Bi⟩ (λr hr s gZ t t1 t2 pr y hy k=>by
  obtain⟨a,rj,rfl⟩:=Ck.mp hr;obtain⟨b,hG,rfl⟩:=Ck.mp gZ;have k:y.1=rn n n[b].1:=k;have pr:∀ y∈ends n,y.1=rn n n[a].1->Bn y:=pr;rw[DJ b hG]at k;rw[DJ a rj]at pr;rw[<- uH rj]at t1;rw[<- uH hG]at t2;obtain⟨p,hp⟩:=Be t1;obtain⟨p',jR⟩:=Be t2;have f1:aJ n (a,p)≈t:=hp;have f2:aJ n (b,p')≈t:=jR;have m1:=af.mpr ⟨t,f1⟩;have m2:=af.mpr ⟨t,f2⟩;have B1:=pr _ m1 rfl;have B2:Bn (b,p'):=by
   rcases (kd T f1).mp f2 with q | q
   ·rwa[q]
   ·rw[q];exact(bt _ m1).mp B1
  exact same _ m2 y hy k.symm B2)
 obtain⟨zj,hzj⟩:=af.mp ej;have lj:=cB hzj;have fin:=all n[(pf n (j,0)).1] (Bt lj) (pf n (j,0)) ej (DJ _ lj).symm;have:=(bx xj).mp fin;have this:P (aC (aI n) j):=this;rwa[gn hj]at this
end
end Nt
namespace Nt
open PySem L2 Classical
theorem Xl{f:End->End}{g:Nat->End}:∀ k,(∀ i,i < k->f (g i)=g (i+1))->e9 f ((List.range k).map g) (g 0) (g k)
 | 0,_=>rfl
 | k+1,h=>by
  rw[Dk,Al];exact bN.mpr ⟨g k,Xl k (λi hi=>h i<|⋯),rfl,h k<|⋯⟩
def uL(n:Net):List (List End):=(List.range n.length).map λr=>(List.range (row n r).length).map λi=>(r,i % (row n r).length)
def sum_rows(n:Net):(uL n).flatten.length=(ag n).length:=by
 rw[List.length_flatten];unfold uL ag;rw[Bs,List.length_flatMap]
 congr 1
 rw[map_range n (λr:Str×List Str=>r.2.length) (λr=>(row n r).length) λk x hk=>by
  show(row n k).length=x.2.length;unfold row;rw[hk];rfl]
 refine Ap λr _=>?_;show((List.range (row n r).length).map _).length=_;rw[Aa,Dq]
variable{n:Net}
def q4m(h:∀ r,r < n.length->row n r≠[]):Dec (left n) (ends n) (uL n):=by
 refine⟨λl hl=>?_,?_,kc n⟩
 ·obtain⟨r,hr,rfl⟩:=Ak.mp hl;have hr:=Bo.mp hr;have h0:=Cu.mpr<|h r hr;have p:=Xl (f:=left n) (g:=λi=>(r,i % (row n r).length)) (row n r).length λi hi=>by
   show((r,(i % (row n r).length+1) % (row n r).length):End)=_;rw[Nat.mod_add_mod]
  have e:((r,0 % (row n r).length):End)=(r,(row n r).length % (row n r).length):=by rw[Ef,Nat.zero_mod]
  refine⟨(r,0 % (row n r).length),Ak.mpr ⟨0,Bo.mpr h0,rfl⟩,?_⟩;have p:=p;rwa[<- e]at p
 ·refine(nJ (kc n) (λe he=>?_) ?_).symm
  ·obtain⟨z,hz⟩:=af.mp he;have h1:=cB hz;have h2:=gk hz;exact Dw.mpr ⟨_,Ak.mpr ⟨e.1,Bo.mpr h1,rfl⟩,Ak.mpr ⟨e.2,Bo.mpr h2,HJ rfl (Bz h2)⟩⟩
  ·rw[sum_rows,fz];exact An _
noncomputable def pin(n:Net)(e:End):End:=if h:∃ x∈ends (aI n),pf n x=e then h.choose else(0,0)
variable{ss:Ð}{s:Str->Bool}
def yH(T:aq n){e:End}(h:e∈ends n):pin n e∈ends (aI n)/\pf n (pin n e)=e:=by
 have q:=yG T h;unfold pin;rw[dif_pos q];exact q.choose_spec
theorem x0h(T:aq n)(F:Full n)(P:Pl n)(hE:ends n≠[])(hr:∀ r,r < n.length->row n r≠[]):Pl (aI n):=by
 have T':=j4 T;have hl:=(sO T).length_eq;have ln:(aI n).length=(ci n).length:=by unfold aI;rw[yr]
 have lr:(uL n).length=n.length:=by unfold uL;rw[Aa,Dq]
 have eu:=S7 T F P;refine .inr ⟨(uL n).map<|List.map<|pin n,(q4m hr).carry (λx hx=>?_) ?_<|kc _,?_⟩
 ·obtain⟨p1,p2⟩:=yH T hx;obtain⟨q1,q2⟩:=yH T<|Ii hx;refine DF T (mq T' p1) q1 ?_;rw[tZ T' p1,DH T p1,p2,q2]
 ·refine nJ (Lz (kc n) λa ha b hb e=>?_) (λx hx=>?_) ?_
  ·rw[<- (yH T ha).2,<- (yH T hb).2,e]
  ·obtain⟨e,he,rfl⟩:=Ak.mp hx;exact(yH T he).1
  ·rw[Aa,fz,fz,hl];exact An _
 ·rw[Aa,lr,ln,hl];omega
def Xm(T:aq n)(hf:HF n)(hN:(ce n).Nodup)(h0:0 < n.length)(h:cN (aI n) s)(hs:∀ z,z∈ss↔z∈ag n/\s z=true):∃ sd,aN n ss sd:=by
 obtain⟨Z,hz,hm⟩:=ke<|ag n;have nz:=gq hz;refine Vf T hf.1 hN h0 nz hm (λz hz=>((hs z).mp hz).1) λt ht=>?_;rw[<- (Xi T hf nz hm).ort t s ht h];refine xR (λ_ _=>rfl) λz hz=>?_;have dq:=(hm z).mp hz;cases k:s z
 ·exact BR λq=>by rw[((hs z).mp q).2]at k;cases k
 ·exact BW<|(hs z).mpr ⟨dq,k⟩
def x3l(T:aq n)(hf:HF n)(hN:(ce n).Nodup)(h0:0 < n.length):RS (aI n):=λs h=>by
 have T':=j4 T;obtain⟨ss,h1,h2⟩:=ke<|(ag n).filter s;have hs:∀ z,z∈ss↔z∈ag n/\s z=true:=λz=>by rw[h2,Bf]
 obtain⟨sd,lQ⟩:=Xm T hf hN h0 h hs;refine⟨λx=>decide (aC n (pf n x).1∈sd),λx hx=>?_,λx z hz=>?_⟩
 ·rw[tZ T' hx,DH T hx];rfl
 ·have hx:=af.mpr ⟨z,hz⟩;rw[uJ T hx]at hz;rw[uK T hx];have c:=jQ T (ps:=sd) hz;rw[<- lQ.cut z,hs z]at c;have dq:=eV hz;have c2:s z=true↔(decide (aC n (pf n x).1∈sd) != decide (aC n (other n<|pf n x).1∈sd))=true:=⟨λq=>c.mp ⟨dq,q⟩,λq=>(c.mpr q).2⟩;exact Cf.mpr c2
def x2y(T:aq n)(F:Full n)(hf:HF n)(hN:(ce n).Nodup)(h0:0 < n.length)(hE:ends n≠[])(hr:∀ r,r < n.length->row n r≠[]):HF (aI n):=⟨q4a T hN hf.1 hE,x0h T F hf.2.1 hE hr,x3l T hf hN h0⟩
def Nn(T:aq n)(hf:HF n){sd:Ð}(so:b8 ss)(hm:∀ z∈ss,z∈ag n)(h:aN (aI n) ss sd):cC n ss=true:=by
 obtain⟨Z,hz,mz⟩:=ke<|ag n;have nz:=gq hz;have T':=j4 T;have Xn:=λz=>(mz z).trans (sO T).mem_iff.symm;refine JY (s:=λz=>decide (z∈ss)) ((Xi T hf nz mz).yE _ λs hs=>?_) λz _=>?_
 ·obtain⟨a,a1,a2⟩:=ke<|(ag<|aI n).filter s;have ha:∀ z,z∈a↔z∈ag (aI n)/\s z=true:=λz=>by rw[a2,Bf]
  have ea:=JY hs λz hz=>by
   rw[Cf,Bm,ha];exact⟨λq=>q.2,λq=>⟨hz,q⟩⟩
  have m:=Ng T' ea (gq a1) h;have e:=uz nz (gq a1) (λz hz=>(Xn z).mpr ((ha z).mp hz).1) λz=>decide (z∈ss);have e2:pr (λz=>decide (z∈ss)) a=false:=m;rw[e]at e2;rw[<- e2];refine xR (λ_ _=>rfl) λz hz=>?_;have dq:=(Xn z).mp hz;cases k:s z
  ·exact(BR λq=>by rw[((ha z).mp q).2]at k;cases k).symm
  ·exact(BW<|(ha z).mpr ⟨dq,k⟩).symm
 ·rw[Cf,CN];exact Bm
def Np(T:aq n)(hf:HF n)(hN:(ce n).Nodup)(h0:0 < n.length)(hm:∀ z∈ss,z∈ag n)(h:cC (aI n) ss=true):∃ sd,aN n ss sd:=
 Xm T hf hN h0 (x04 h) λz=>⟨λq=>⟨hm z q,Bm.mpr q⟩,λq=>Bm.mp q.2⟩
def sP(w:Str):Str:=if w = "cut" then "round" else if w = "round" then "cut" else w
def x3v(T:aq n)(hf:HF n)(hN:(ce n).Nodup)(h0:0 < n.length){z w:Str}(h:KK (aI n) z w ss):KK n z (sP w) ss:=by
 obtain⟨a,b,c,d⟩:=h;have b':=λy hy=>(sO T).mem_iff.mp<|b y hy;have bl:∀ y∈less ss z,y∈ag n:=λy hy=>b' y (bd.mp hy).1;refine⟨a,b',c,?_⟩
 rcases d with ⟨rfl,d,sd,e⟩ | ⟨rfl,⟨sd,d⟩,e⟩ | ⟨rfl,d,sd,e⟩
 ·exact .inl ⟨∅,Nn T hf a b' e,Np T hf hN h0 b' d⟩
 ·exact .inr<|.inr ⟨∅,Nn T hf a b' d,Np T hf hN h0 bl e⟩
 ·exact .inr<|.inl ⟨∅,Np T hf hN h0 b' d,Nn T hf (yy a z) bl e⟩
end Nt
namespace Nt
open PySem L2 Dt
section
variable{n:Net}
theorem q38{f:Nat->Str}(inj:∀ i:Fin 60,∀ j:Fin 60,f i.1=f j.1->i.1=j.1){k:Nat}(h:k<=60):((List.range k).map f).Nodup:=by
 rw[By,Dr];refine(By.mp Ga).imp_of_mem λ{a b} ha hb bD k=>bD ?_;exact inj ⟨a,by have:=Bo.mp ha;omega⟩ ⟨b,by have:=Bo.mp hb;omega⟩ k
def k9r(h:(ci n).length<=60):((aI n).map (·.1)).Nodup:=by
 have e:(aI n).map (·.1)=(List.range (ci n).length).map ku:=by
  unfold aI dR;rw[Bs,List.range_eq_range',<- List.zipIdx_map_snd 0,Bs];rfl
 rw[e];exact q38 (by decide +kernel) h
end
end Nt
namespace E9
open PySem L2 Nt bE bP
open PyProof.Rows (sortedS)
open Classical
variable{w:World}{P:Program}
def Xp{X:Cx}:mU (XF P w) X (λ_ _ _=>False):=λ_ _ _ _ _ _ _ h=>by
 obtain⟨_,_,_,_,_,h,_⟩:=h;exact h.elim
def q22(x y:Str):decide (V.str x=V.str y)=decide (x=y):=by
 rw[decide_eq_decide];exact⟨V.str.inj,λk=>by rw[k]⟩
def Nq:Sp:=λvs H Q _=>∃R h t L1 L as n z wd ss,vs=[.ref R,.str z,.ref h,.ref t]/\ai H R as n/\(ce n).Nodup/\aq n/\db n/\0 < n.length/\n.length<=31/\(ag n).length<=60/\H h≈.tup [.str<|sP wd,.ref L1]/\H t≈.tup [.str wd,.ref L]/\H L≈Ls ss/\KK n z (sP wd) ss/\(wd = "double"\/wd = "cut"\/wd = "round")/\∀ H',aj H H'->Q (.bl true) H'
def DL(K:PySem.W.Frag):Sp:=λvs H Q _=>∃(a:Addr) (ns:List Int),vs=[.ref a]/\au K H a (ns.map V.int)/\ns.length<=63/\∀ H',Q (.bl true) H'
variable{Z:Heap}{mg:Ñ}{K:PySem.W.Frag}{fd:FuncData}{f:Addr}{c:Str->Addr}
abbrev Xq:Ð:=["_law_rows","_law_tie","_law_here","_law_there","_law_some","_law_rest"]
abbrev yI:Ð:=["_law_rows","_law_tie","_law_here","_law_there","_law_some","_law_rest","_law_one"]
def yJ:ak Xq ["_law_rows","_law_tie","_law_here","_law_there"] (aW AA):=cm
def x0m:yI.Nodup:=by decide +kernel
theorem k9x(F:bB K "_law_turned" "_law_turned" AA f fd)(T:Txt mg)(GR:↥6 3 "_law_is_round" ["_law_rows","_law_some"] M1)(GD:↥6 3 "_law_side" ["_law_rows","_law_some"] M4):↥4 4 f fd ["_law_rows","_law_tie","_law_here","_law_there"] Nq:=by
 refine F.gc yJ λb0 H vs Q E hr h=>?_;obtain⟨R,h,t,L1,L,as,n,z,wd,ss,rfl,hR,hN,hT,hg,h0,hn,dZ,eh,et,eL,⟨so,mem,hz,ok⟩,hwd,q⟩:=h;have nd:=yJ.nd;have lc:=A6 hT (gq so) mem;refine aZ 4 nd<|a8 bQ<|ae 3<|aG ⟨t,_,_,.ref L,rfl,rfl,aQ.of et,rfl,?_⟩;refine q25 5 (aW AA) Xq yI 1 nd (gD bI)<|ae 4 ⟨L,rfl,⟨_,au.of eL⟩,λD hD=>?_⟩;refine v7 (λy=>!decide (y=z)) (cg<|⋯) eL hD (λcl C s0 H0 ex v v0 H' R' h=>bw 6 x0m h) (λcl C s0 H0 ex y zs T' h=>oQ<|cz tj<|ae 6<|ae 1 ⟨rfl,_,rfl,?_⟩) (λcl C s0 H0 ex z H' R' h=>ae 6 h) ?_
 ·rwa[q22]
 have s2:=aS hD<|.lst<|(ss.filter λy=>!decide (y=z)).map V.str;have eD:(upd H D<|.lst<|(ss.filter λy=>!decide (y=z)).map V.str) D=some (Ls<|less ss z):=az;generalize upd H D (.lst<|(ss.filter λy=>!decide (y=z)).map V.str)=H2 at s2 eD;have pC:=s2 _ _ et;have pS:=s2 _ _ eh;have uM:=s2 _ _ eL;have om:=hR.same s2;have Nr:∀ y∈less ss z,y∈ag n:=λy hy=>mem y (bd.mp hy).1;refine dP<|F6<|zi<|vB<|vC<|cM FX T.IL JV<|ah<|ae 4<|ah<|F4 (.ty "list") T.kL MN rfl (ax ⟨_,_,_,true,rfl,.lst uM,Ky K,true,rfl,bR ?_⟩);refine P7<|cz Pb<|ae 1<|ae 4 ⟨L,_,rfl,.inl<|au.of uM,rfl,my _,_,rfl,?_⟩;have fT:∀(x y:Bool),(if true=true then x else y)=x:=λ_ _=>rfl;rw[fT,mw,Bm.mpr hz];refine bR<|a9 ?_
 rcases hwd with rfl | rfl | rfl
 ·have sw:sP "double" = "double":=∅
  rw[sw]at pS ok;obtain⟨_,fN,sd,lQ⟩ | ⟨k,_⟩ | ⟨k,_⟩:=ok
  case inr.inl=>exact absurd k<|∅
  case inr.inr=>exact absurd k<|∅
  refine dP<|cz fX<|a8 bQ<|ae 2<|aG ⟨h,_,_,.str "double",rfl,rfl,aQ.of pS,rfl,fZ ⟨rfl,_,rfl,?_⟩⟩;rw[BW rfl];refine cv<|bS<|tI<|j6 fX<|a8 bQ<|ae 3<|aG ⟨t,_,_,.str "double",rfl,rfl,aQ.of pC,rfl,fZ ⟨rfl,_,rfl,?_⟩⟩;rw[BW rfl,BP rfl];refine tI (bC GR hr<|ah<|ae 0<|ah<|ae 4<|ax ⟨R,L,as,n,ss,rfl,om,⋯,⋯,uM,λH3 s3=>⟨_,rfl,?_⟩⟩);rw[fN,BP rfl];refine F5 (j6 EG<|bC GD hr<|ah<|ae 0<|ah<|ae 4<|ax ⟨R,L,as,n,ss,rfl,om.same s3,hT,hg,hN,h0,⋯,dZ,s3 _ _ uM,mem,λA iA H4 s4 n4 e4 Xr=>zh ⟨rfl,?_⟩,λH4 s4 pM=>absurd lQ<|pM sd⟩);rw[BR λh=>by cases h];exact q _<|(s2.trans s3).trans s4
 ·have sw:sP "cut" = "round":=∅
  rw[sw]at pS ok;obtain⟨k,_⟩ | ⟨k,_⟩ | ⟨_,fN,sd,lQ⟩:=ok
  ·exact absurd k<|∅
  ·exact absurd k<|∅
  refine dP<|cz fX<|a8 bQ<|ae 2<|aG ⟨h,_,_,.str "round",rfl,rfl,aQ.of pS,rfl,fZ ⟨rfl,_,rfl,?_⟩⟩;rw[BR<|∅];refine bR<|a9<|dP<|cz fX<|a8 bQ<|ae 2<|aG ⟨h,_,_,.str "round",rfl,rfl,aQ.of pS,rfl,fZ ⟨rfl,_,rfl,?_⟩⟩;rw[BR<|∅];refine bR<|a9<|bS<|tI<|j6 fX<|a8 bQ<|ae 3<|aG ⟨t,_,_,.str "cut",rfl,rfl,aQ.of pC,rfl,fZ ⟨rfl,_,rfl,?_⟩⟩;rw[BW rfl,BP rfl];refine tI (bC GR hr<|ah<|ae 0<|ah<|ae 4<|ax ⟨R,L,as,n,ss,rfl,om,⋯,⋯,uM,λH3 s3=>⟨_,rfl,?_⟩⟩);rw[fN,BP rfl];refine F5 (j6 EG<|bC GD hr<|ah<|ae 0<|ah<|ae 5<|ax ⟨R,D,as,n,less ss z,rfl,om.same s3,hT,hg,hN,h0,⋯,dZ,s3 _ _ eD,Nr,λA iA H4 s4 n4 e4 Xr=>zh ⟨rfl,?_⟩,λH4 s4 pM=>absurd lQ<|pM sd⟩);rw[BR λh=>by cases h];exact q _<|(s2.trans s3).trans s4
 ·have sw:sP "round" = "cut":=∅
  rw[sw]at pS ok;obtain⟨k,_⟩ | ⟨_,⟨sd,lQ⟩,fN⟩ | ⟨k,_⟩:=ok
  ·exact absurd k<|∅
  case inr.inr=>exact absurd k<|∅
  refine dP<|cz fX<|a8 bQ<|ae 2<|aG ⟨h,_,_,.str "cut",rfl,rfl,aQ.of pS,rfl,fZ ⟨rfl,_,rfl,?_⟩⟩;rw[BR<|∅];refine bR<|a9<|dP<|cz fX<|a8 bQ<|ae 2<|aG ⟨h,_,_,.str "cut",rfl,rfl,aQ.of pS,rfl,fZ ⟨rfl,_,rfl,?_⟩⟩;rw[BW rfl];refine cv<|bS<|tI<|j6 fX<|a8 bQ<|ae 3<|aG ⟨t,_,_,.str "round",rfl,rfl,aQ.of pC,rfl,fZ ⟨rfl,_,rfl,?_⟩⟩;rw[BW rfl,BP rfl];refine tI (j6 EG<|bC GD hr<|ah<|ae 0<|ah<|ae 4<|ax ⟨R,L,as,n,ss,rfl,om,hT,hg,hN,h0,⋯,dZ,uM,mem,λA iA H4 s4 n4 e4 Xr=>zh ⟨rfl,_,rfl,?_⟩,λH4 s4 pM=>absurd lQ<|pM sd⟩);rw[BR (λh=>by cases h),BP<|by rfl];refine F5 (bC GR hr<|ah<|ae 0<|ah<|ae 5<|ax ⟨R,D,as,n,less ss z,rfl,om.same s4,⋯,⋯,s4 _ _ eD,λH3 s3=>?_⟩);rw[fN];exact q _<|(s2.trans s4).trans s3
abbrev NW:Ð:=["_law_script","_law_rows","_law_beyond","_law_tie","_law_here","_law_there"]
def pT:ak NW ["_law_script"] (aW qS):=cm
theorem x0s(F:bB K "law" "law" qS f fd)(T:Txt mg)(cl:Cl K mg c)(GC:↥6 9 "_law_cell_at" ["_law_script","_law_k"]<|AB K)(GB:↥6 9 "_law_big" ["_law_script","_law_at"]<|IP K)(GN:↥6 9 "_law_net_by" ["_law_big_here","_law_most","_law_stem"] Kd)(GS:↥6 9 "_law_seats" ["_law_rows"] tR)(GY:↥6 9 "_law_copy" ["_law_rows"] Kl)(GO:↥6 9 "other_net" ["rows"] MU)(GK:fD P w K mg Z 9 "kind_of" ["rows","tie"]<|M0 c)(GT:↥6 9 "_law_turned" ["_law_rows","_law_tie","_law_here","_law_there"] Nq):↥4 10 f fd ["_law_script"] (DL K):=by
 refine F.gc pT λb0 H vs Q E hr h=>?_;obtain⟨a,ns,rfl,hS,h63,q⟩:=h;have nd:=pT.nd;refine aZ 1 nd (bC GN hr<|ah<|bC GB hr<|ah<|ae 0<|ah<|aG<|ax ⟨a,ns,0,rfl,hS,∅,λb1 H1 s1=>?_⟩);refine ah (aG<|ah<|bC GC hr<|ah<|ae 0<|ah<|aG<|ax ⟨a,ns,1,rfl,s1.seq hS,∅,λc2=>?_⟩);refine ax ⟨b1,20,c2,rfl,∅,∅,λR as n H2 s2 n2 hR hT mJ hF yK dZ xA has=>?_⟩;have e24:((20:Int)).toNat=20:=rfl;rw[e24]at dZ xA;have h0:0 < n.length:=Cu.mpr hF.some;refine aZ 2 nd (bC GO hr<|ah<|bC GY hr<|ah<|ae 1<|ax ⟨R,as,n,rfl,hR,⋯,λM bs H3 s3 n3 f3 hM=>ax ⟨M,bs,n,rfl,hM,mJ,hT,⋯,⋯,λB cs H4 s4 n4 f4 hB _=>?_⟩⟩);have mD:=hR.same<|s3.trans s4;refine jF (q80 rfl T.sorted T.kL GS hr (ae 1 ⟨R,as,n,rfl,mD,⋯,⋯,λt tt H5 s5 n5 e5 l5 so5 m5=>⟨t,rfl,⟨_,au.of e5⟩,?_⟩⟩));have wJ:=mD.same s5;have yv:=hB.same s5;refine jG (xs:=tt.map V.str) (λi σ H'=>∃ u3 u4 u5:Option V,aj H5 H'/\σ=[⇑a,⇑R,⇑B,u3,u4,u5]) ⟨_,_,_,aj.refl _,rfl⟩ ?_ ?_ ?_
 ·rintro i σ H' _ ⟨_,_,_,sm,_⟩;exact au.of<|sm _ _ e5
 ·rintro i x σ H6 hx ⟨u3,u4,u5,sm,rfl⟩;rw[Ah,Az]at hx;obtain⟨z,hz,rfl⟩:=hx;have dq:=(m5 z).mp<|Ao hz;have hE:ends n≠[]:=λk=>by
   have:=fz n;rw[k]at this;have:=Gs dq;simp at *;omega
  have rP:∀ r,r < n.length->row n r≠[]:=by
   rcases hF with ⟨nm,rfl⟩ | ⟨_,h⟩
   ·cases dq
   ·exact h
  have eu:=S7 hT hF yK.2.1;have lo:(aI n).length=(ci n).length:=by unfold aI;rw[yr]
  have uj:z∈ag (aI n):=(sO hT).mem_iff.mpr dq;have tl:=(sO hT).length_eq;have h0o:0 < (aI n).length:=by
   refine Cu.mpr λk=>?_;rw[k]at uj;cases uj
  have hNo:(ce<|aI n).Nodup:=k9r ⋯;have hfo:=x2y hT hF yK mJ h0 hE rP;refine bw 3 nd ?_;refine aZ 4 nd (LV GK hr Xp<|ah<|bC GY hr<|ah<|ae 1<|ax ⟨R,as,n,rfl,wJ.same sm,⋯,λM2 bs2 H7 s7 n7 f7 hM2=>ah<|ae 3<|ax ⟨M2,bs2,n,z,rfl,hM2,mJ,hT,yK,h0,⋯,⋯,λk=>absurd dq k,λ_ u L1 wd1 ss1 H8 s8 nu nL eu1 eL1 ok1=>?_⟩⟩);have Xs:=s7.trans s8;refine aZ 5 nd (LV GK hr Xp<|ah<|bC GY hr<|ah<|ae 2<|ax ⟨B,cs,aI n,rfl,(yv.same sm).same Xs,⋯,λM3 bs3 H9 s9 n9 f9 hM3=>ah<|ae 3<|ax ⟨M3,bs3,aI n,z,rfl,hM3,hNo,j4 hT,hfo,h0o,⋯,⋯,λk=>absurd uj k,λ_ v L wd ss HA sA nv nL2 ev eL ok=>?_⟩⟩);have Xt:=s9.trans sA;have kk:=x3v hT yK mJ h0 ok.kk;have ew:wd1=sP wd:=x09 hT h0 ok1.kk kk;subst ew;have Nu:=Xt _ _ eu1;have Xu:=Xs.trans Xt;refine dP<|F6<|zi<|vB<|vC<|cM FX T.IL JV<|ah<|ae 4<|ah<|F4 (.ty "tuple") T.kK SJ rfl (ax ⟨_,_,_,true,rfl,.tup Nu,xa K,true,rfl,bR ?_⟩);refine zi<|vB<|vC<|cM FX T.IL JV<|ah<|ae 5<|ah<|F4 (.ty "tuple") T.kK SJ rfl (ax ⟨_,_,_,true,rfl,.tup ev,xa K,true,rfl,bR ?_⟩);refine zi<|cz tj<|cM eU T.len DY<|ah<|ae 4<|ax ⟨u,_,rfl,.inr<|aQ.of Nu,aG ⟨rfl,_,rfl,bR ?_⟩⟩;refine P7<|cz tj<|cM eU T.len DY<|ah<|ae 5<|ax ⟨v,_,rfl,.inr<|aQ.of ev,aG ⟨rfl,_,rfl,bR<|a9 ?_⟩⟩;exact dP<|vB<|vC<|bC GT hr<|ah<|ae 1<|ah<|ae 3<|ah<|ae 4<|ah<|ae 5<|ax ⟨R,u,v,L1,L,as,n,z,wd,ss,rfl,(wJ.same sm).same Xu,mJ,hT,yK.1,h0,⋯,⋯,Nu,ev,eL,kk,Ni ok.kk,λHB sB=>⟨true,rfl,bR<|a9<|a9 ⟨_,_,_,(sm.trans Xu).trans sB,rfl⟩⟩⟩
 ·rintro σ H6 ⟨u3,u4,u5,sm,rfl⟩;exact bS<|zg<|q H6
end E9
namespace L2
open PySem PySem.Spec PyProof.Rows
variable{ps:Ð}{mg:Ñ}{K:PySem.W.Frag}
def Df.hx{P:Program}{w:World}{h Z:Heap}{k:Nat}{x:Str}{st:Stmt}{sp:Sp}(d:Df K x st)(X:K.In h)(G:h.Ns mainGlobals mg)
  (ok:∀{f:Addr} {fd:FuncData},bB K x x st f fd->aE P w K mg Z (XF P w) k f fd ps sp)
  (hb:∀(kV doc pm:Value) (an:Option Addr) (bL ct:Value) (us:Ò),us.length=ps.length->bindArgs (PySem.W.fnOf x x (lV st) (gY st) (aW st) .none kV doc pm an bL ct) ⟨us,[]⟩=pure (ps.zip us):=by intro _ _ _ _ _ _;(repeat (refine L2.vJ λ_=>?_));exact L2.vK rfl):fD P w K mg Z k x ps sp:=d.LW X G hb ok
end L2
namespace E9
open PySem L2
variable{mg:Ñ}{l:PySem.W.OpenLaw}
def all_mk{w:World}{K:PySem.W.Frag}{h:Heap}{fa:Addr}(X:K.In h)(G:h.Ns mainGlobals mg)(Hs:mg "law" = some (.ref fa))
  (h1:Df K "ends_round" zR) (h2:Df K "ends_in_order" zS) (h3:Df K "turned_left" Io) (h4:Df K "turned_right" Ip) (h5:Df K "other_ends" Iq) (h6:Df K "ties_by_end" zT) (h7:Df K "left_steps" zU) (h8:Df K "right_steps" zV) (h9:Df K "points_of" zW) (Nv:Df K "links_of" Iw) (Nw:Df K "summed" Iy) (Nx:Df K "odd_points" iP) (Ny:Df K "cut_of" zY) (Nz:Df K "walkers_of" qM) (NA:Df K "walker_from" qN) (ND:Df K "core_of" vY) (NM:Df K "cores_of" zZ) (NU:Df K "parted" z6) (NV:Df K "points_by" Iz) (NX:Df K "lowered" IA) (NY:Df K "_law_cell_at" IC) (N0:Df K "_law_big" qO) (N2:Df K "_law_names" IE) (N3:Df K "_law_seats" IG) (N4:Df K "_law_other" IH) (N5:Df K "_law_step" II) (N6:Df K "_law_face" IJ) (N7:Df K "_law_put" qP) (N8:Df K "_law_net_by" qR) (N9:Df K "_law_copy" z7) (Oa:Df K "_law_is_round" z8) (Ob:Df K "_law_side" z9) (Oc:Df K "ties_of" zX) (Od:Df K "need_tie" Iv) (Oe:Df K "kind_of" IB) (Og:Df K "face_from" Iu) (Oh:Df K "faces_of" Ir) (Oi:Df K "other_net" qL) (Oj:Df K "_law_turned" AA) (hl:Df K "law" qS)
  (qc:MV K=true)
  (z:∀ x∈(["isinstance","tuple","str","int","bool","list","dict","set","enumerate","zip","len","range","sorted","max","all","ValueError"]:Ð),PySem.W.nsIn K mainGlobals x≈none) :
  ∃ fd:FuncData,(∀(s:Shared) (v:Value),BindsTo s fd ⟨[v],[]⟩ [("_law_script",v)])/\∀ Z:Heap,K.In Z->Z.Ns mainGlobals mg->aE l.prog w K mg Z bK 10 fa fd ["_law_script"] (DL K):=by
 have T:Txt mg:=⟨CV X G (z _<|by simp),CV X G (z _<|by simp),CV X G (z _<|by simp),CV X G (z _<|by simp),CV X G (z _<|by simp),CV X G (z _<|by simp),CV X G (z _<|by simp),CV X G (z _<|by simp),CV X G (z _<|by simp),CV X G (z _<|by simp),CV X G (z _<|by simp),CV X G (z _<|by simp),CV X G (z _<|by simp),CV X G (z _<|by simp),CV X G (z _<|by simp),CV X G<|z _<|by simp⟩;have cl:=x4g X G qc;refine hl.law X G Hs (λ_ _ _ _ _ _ s v=> .of_eq rfl) λZ f fd F=>?_;have G1:↥7 1 "ends_round" ["row"] wU:=h1.hs X G λF=>q58 F T;have G2:↥7 2 "ends_in_order" ["rows"] BI:=h2.hs X G λF=>q3d F T (G1.mono<|∅);have G3:↥7 1 "turned_left" ["end","many"] (iS λj=>j+1):=h3.hs X G λF=>q8j F T;have G4:↥7 1 "turned_right" ["end","many"] (iS λj=>j - 1):=h4.hs X G λF=>q0t F T;have G5:↥7 2 "other_ends" ["rows"] lh:=h5.hs X G λF=>x4r F T (G1.mono<|∅);have G6:↥7 2 "ties_by_end" ["rows"] lz:=h6.hs X G λF=>x5d F T (G1.mono<|∅);have G7:↥7 3 "left_steps" ["rows"] (ic 1):=h7.hs X G λF=>x5m F T (G5.mono<|∅) (G3.mono<|∅);have G8:↥7 3 "right_steps" ["rows"] (ic (-1)):=h8.hs X G λF=>x5n F T (G5.mono<|∅) (G4.mono<|∅);have G15:↥7 1 "walker_from" ["lefts","rights","first"] rQ:=NA.hs X G λF=>x5p F T;have G14:↥7 4 "walkers_of" ["rows"] KL:=Nz.hs X G λF=>x0u F T (G7.mono<|∅) (G8.mono<|∅) (G6.mono<|∅) (G2.mono<|∅) (G15.mono<|∅);have G16:↥7 3 "core_of" ["rows","walker"] Mp:=ND.hs X G λF=>q68 F T (G6.mono<|∅);have G17:↥7 5 "cores_of" ["rows"] MC:=NM.hs X G λF=>q3b F T (G14.mono<|∅) (G16.mono<|∅);have G9:↥7 1 "points_of" ["rows"] Mg:=h9.hs X G λF=>x2v F T;have G10:↥7 1 "links_of" ["rows"] Ld:=Nv.hs X G λF=>q2w F T;have Xv:↥7 2 "cut_of" ["rows","points"] CY:=Ny.hs X G λF=>x1v F T (G10.mono<|∅);have Xw:↥7 1 "odd_points" ["rows","some"] C1:=Nx.hs X G λF=>q99 F T;have Xx:↥7 1 "summed" ["one","other"] C0:=Nw.hs X G λF=>k9o F T;have G20:↥7 2 "lowered" ["steps","points","odds"] MD:=NX.hs X G λF=>q90 F T (Xx.mono<|∅);have G19:↥7 4 "points_by" ["rows","odds"] sv:=NV.hs X G λF=>x4x F T (G9.mono<|∅) (G20.mono<|∅) (Xw.mono<|∅) (Xv.mono<|∅);have G18:↥7 6 "parted" ["rows","some"] ME:=NU.hs X G λF=>k8r F T (G17.mono<|∅) (Xv.mono<|∅) (G19.mono<|∅) (Xw.mono<|∅) (Xx.mono<|∅);have Xy:↥7 1 "_law_cell_at" ["_law_script","_law_k"] (AB K):=NY.hs X G λF=>q79 F T;have G22:↥7 2 "_law_big" ["_law_script","_law_at"] (IP K):=N0.hs X G λF=>x0v F T (Xy.mono<|∅);have G23:↥7 1 "_law_names" ["_law_stem","_law_many"] IQ:=N2.hs X G λF=>q4z F T;have Ol:↥7 1 "_law_seats" ["_law_rows"] tR:=N3.hs X G λF=>q3j F T;have Xz:↥7 1 "_law_other" ["_law_rows","_law_seats_here","_law_end"] AF:=N4.hs X G λF=>q48 F T;have G26:↥7 2 "_law_step" ["_law_rows","_law_seats_here","_law_end","_law_turn"] IT:=N5.hs X G λF=>q6j F T (Xz.mono<|∅);have G27:↥7 3 "_law_face" ["_law_rows","_law_seats_here","_law_end"] IU:=N6.hs X G λF=>q8h F T (G26.mono<|∅);have G28:↥7 4 "_law_put" ["_law_rows","_law_big_here","_law_tie","_law_point"] J2:=N7.hs X G λF=>x3b F T (Ol.mono<|∅) (G27.mono<|∅);have G29:↥7 5 "_law_net_by" ["_law_big_here","_law_most","_law_stem"] Kd:=N8.hs X G λF=>x15 F T (G23.mono<|∅) (G28.mono<|∅);have G30:↥7 1 "_law_copy" ["_law_rows"] Kl:=N9.hs X G λF=>q8s F T;have G33:↥7 1 "ties_of" ["rows"] sE:=Oc.hs X G λF=>q9o F T;have G34:fD l.prog w K mg Z 2 "need_tie" ["rows","tie"] (MX<|j3 K):=Od.hx X G λF=>q6a F T cl (G33.mono<|∅);have G35:fD l.prog w K mg Z 8 "kind_of" ["rows","tie"] (M0<|j3 K):=Oe.hx X G λF=>q8c F T cl (G34.mono<|∅) (G18.mono<|∅);have G31:↥7 1 "_law_is_round" ["_law_rows","_law_some"] M1:=Oa.hs X G λF=>x3d F T;have G32:↥7 3 "_law_side" ["_law_rows","_law_some"] M4:=Ob.hs X G λF=>q23 F T (Ol.mono<|∅) (Xz.mono<|∅);have G36:↥7 1 "face_from" ["steps","first"] sy:=Og.hs X G λF=>x5b F T;have G37:↥7 4 "faces_of" ["rows"] MQ:=Oh.hs X G λF=>q3z F T (G2.mono<|∅) (G7.mono<|∅) (G36.mono<|∅);have G38:↥7 5 "other_net" ["rows"] MU:=Oi.hs X G λF=>q61 F T (G6.mono<|∅) (G37.mono<|∅);have G39:↥7 4 "_law_turned" ["_law_rows","_law_tie","_law_here","_law_there"] Nq:=Oj.hs X G λF=>k9x F T (G31.mono<|∅) (G32.mono<|∅);exact x0s F T cl (Xy.mono<|∅) (G22.mono<|∅) (G29.mono<|∅) (Ol.mono<|∅) (G30.mono<|∅) (G38.mono<|∅) (G35.mono<|∅)<|G39.mono<|∅
variable{K:Params->PySem.W.Frag}{YP:World->Heap->Prop}{XP:Ñ->Heap->Prop}{loose:Ð}
def walk{q:Program}{d:DefRec}(hn:l.most=some 63)(mY:d.params.defaults=[])
  (hY:∀(w:World) (h:Heap),YP w h->(K w.params).In h)
  (F : ∀ (w : World) (mg : Str → Option Value) (fa : Addr) (h : Heap), (K w.params).In h → h.Ns mainGlobals mg → mg d.name = some (.ref fa) →
   ∃ fd:FuncData,(∀(s:Shared) (u:Value),BindsTo s fd ⟨[u],[]⟩ [("_law_script",u)])/\∀ Z:Heap,(K w.params).In Z->Z.Ns mainGlobals mg->aE l.prog w (K w.params) mg Z bK 10 fa fd ["_law_script"] (DL<|K w.params)) :
  PySem.W.WalkO q loose XP YP l.row.toRowW d [] (λf vs=>PySem.call f vs):=
 L2.mZ (n:=63) (k:=10) (x:= "_law_script") (CX:=λ_=>bK) (sp:=λw=>DL<|K w.params) hn ∅ mY ⟨rfl,∅,∅⟩ hY F (λ_ _ a ns hl _ hS=>⟨a,ns,rfl,hS,hl,λ_=>rfl⟩) λ_ _ _ _ _ z=>z
end E9
-- see NOTE.md
namespace PySem.W.Fast
def tw7789654656531584703:=()
def tw9300927967488071695:=()
def tw11845284341870396005:=()
def tw4341534339678868959:=()
def tw1592153442715983245:=()
def tw1203715297885624127:=()
def tw8079669409558951924:=()
def tw11225821099230825061:=()
def tw1497466087308918036:=()
def tw15777263074704898194:=()
def tw13609621904214152028:=()
def tw14121882703062846933:=()
def tw16025705801023151134:=()
def tw4025103661163994326:=()
def tw5724827000997140033:=()
def tw6520323023774174999:=()
def tw9058383478663733154:=()
def tw10555467334710632053:=()
def tw14298449868707699230:=()
def tw7052233681045445315:=()
def tw11657400311491993256:=()
def tw1773963306388933735:=()
def tw12678605312595487037:=()
def tw1057222510270343196:=()
def tw12308644817577285451:=()
def tw2415315863716607553:=()
def tw5576845469060907696:=()
def tw3589927071897028181:=()
def tw12842440417728977976:=()
def tw16245109117655372929:=()
def tw4991587071387527768:=()
def tw12685742286497159884:=()
def tw18283728181254469812:=()
def tw5160514294156862338:=()
def tw2637764610186088188:=()
def tw3347919731019274078:=()
def tw2639221791732306176:=()
def tw6192407772962392731:=()
def tw17044383584233281113:=()
def tw8645180835870046931:=()
def tw9238420133443722835:=()
def tw4740453352099445917:=()
def tw14160453600137449533:=()
def tw4938768600545666173:=()
def tw11237734110557056167:=()
def tw7739571391909653406:=()
def tw4713483295129509719:=()
def tw3786386592272670554:=()
def tw18020030043412992174:=()
def tw809241805862329776:=()
def tw839166826416542174:=()
def tw10996341461164672875:=()
def tw6283976642224559509:=()
def tw9745968534093382110:=()
def tw7721035407338079094:=()
def tw3966109766650946463:=()
def tw7840901091159918484:=()
def tw7401271598572992259:=()
def tw17673285493440459522:=()
def tw5998982743705631693:=()
def tw3126529199991486684:=()
def tw16164591442087278620:=()
def tw2213082764059263442:=()
def tw7307926049056148614:=()
def tw6738385009102509617:=()
def tw18065663970152874475:=()
def tw3486556568718582184:=()
def tw1579768965967808176:=()
def tw11611957673348132476:=()
def tw8697845632604788651:=()
def tw10838107745633874406:=()
def tw841934233779845679:=()
def tw16620531034076451700:=()
def tw14090834364491110363:=()
def tw10718028742549500303:=()
def tw17225294951212658607:=()
def tw1269873066087454594:=()
def tw10991457769154171047:=()
def tw8402347607316612578:=()
def tw10795439496217956972:=()
def tw17473114453890365701:=()
def tw10900844923899338784:=()
def tw12396524524081985631:=()
def tw9190074870858758043:=()
def tw6085258345428965683:=()
def tw18219292991420741815:=()
def tw4611090479300936621:=()
def tw4971127500754483745:=()
def tw4323100330797733327:=()
def tw3712306536897142370:=()
def tw1457416495535543883:=()
def tw10319853007040011671:=()
def tw142125900629891245:=()
def tw6275232856589019651:=()
def tw3842345773702241887:=()
def tw3360700887447650387:=()
end PySem.W.Fast
open PySem PySem.W PyProof.Rows
set_option maxRecDepth 100000 in
set_option maxHeartbeats 0 in
theorem PySem.Challenge.cw_threewebs_k54_kinds_of_the_other_net_holds : PySem.Challenge.rw_threewebs_k54_kinds_of_the_other_net.Holds := by
 w_on;o_law;k_head;(case hw=>w_witness2)
 k_fill
 refine E9.walk (l:=PySem.Challenge.rw_threewebs_k54_kinds_of_the_other_net) rfl rfl (λw h ý=>PySem.W.kIn_of ý) ?F
 case F=>
  intro w mg fa h KX G vw;refine' E9.all_mk KX G vw ?h1 ?h2 ?h3 ?h4 ?h5 ?h6 ?h7 ?h8 ?h9 ?Nv ?Nw ?Nx ?Ny ?Nz ?NA ?ND ?NM ?NU ?NV ?NX ?NY ?N0 ?N2 ?N3 ?N4 ?N5 ?N6 ?N7 ?N8 ?N9 ?Oa ?Ob ?Oc ?Od ?Oe ?Og ?Oh ?Oi ?Oj ?h0 ?qc ?zz
  case h1 | h2 | h3 | h4 | h5 | h6 | h7 | h8 | h9 | Nv | Nw | Nx | Ny | Nz | NA | ND | NM | NU | NV | NX | NY | N0 | N2 | N3 | N4 | N5 | N6 | N7 | N8 | N9 | Oa | Ob | Oc | Od | Oe | Og | Oh | Oi | Oj | h0=>refine' L2.vI ?a ?l ?c ?k;(case a=>k_is);(case l=>k_is);(case c=>k_is);(case k=>k_is)
  case qc=>kernel_rfl
  case zz=>
   refine' List.forall_mem_cons.mpr ⟨?_,?_⟩;k_is
   iterate 15 (refine' List.forall_mem_cons.mpr ⟨?_,?_⟩;k_is)
   exact λx hx=>nomatch hx


import PyProof.Rows.All
import Wide.All
import OpenK.AllK
import Wide.FinOn
import Lean
import PyProof.EqAt
import PyProof.EqKinds
import PyProof.TupleCall
import KE.KDictLaws
import KE.KDictList
import KE.KDictSum
import KE.KIsAll
import KE.KSortTup
import KE.KUnpack
import KE.KUnpackStar
import PyProof.AttrMissSeq
import PyProof.CallStr
import PyProof.Conv_int_bool
import PyProof.DictItems
import PyProof.DictIter
import PyProof.DictList
import PyProof.EnumFor
import PyProof.EnumMake
import PyProof.EnumStmt
import PyProof.ExcArgsOwn
import PyProof.ExcAttrAll.ValueError
import PyProof.ExcBaseAll.ValueError
import PyProof.NeKinds
import PyProof.NsDelKeeps
import PyProof.Rows.CatchOwn
import PyProof.Rows.CountFlat
import PyProof.Rows.EnumRows
import PyProof.Rows.FStr
import PyProof.Rows.SeqMore
import PyProof.Rows.SortRev
import PyProof.Rows.StrSplitJoin
import PyProof.Rows.StrWeight2
import PyProof.Rows.TupDisplay
import PyProof.RulesTry
import PyProof.SetNew
import PyProof.SetRoads
import PyProof.StationsW
import PyProof.TupleKey
import PyProof.WalkInts
import PyProof.ZipIter
import PySem.Challenge.RW_threewebs_k41_doubles_by_walkers
local macro_rules|`(tactic|omega)=>`(tactic|first|lia|omega +splitDisjunctions)
local macro_rules|`(⋯)=>`(by omega)
local macro_rules|`(∅)=>`(by decide)
local macro_rules|`(⇑$x)=>`(some (.ref $x))
abbrev Î:=PySem.Value->PySem.Shared->Prop
abbrev Ï:=List (PySem.Addr×PySem.Addr)
abbrev Ð:=List (PySem.Addr×PySem.Obj)
abbrev Ñ:=List PySem.Str
abbrev Ò:=PySem.Str->Option PySem.Value
abbrev Ó:=List PySem.Value
abbrev Ô:=List PySem.Expr
abbrev Õ:=List PySem.Stmt
abbrev BJ:=@PySem.wpAny_bind
abbrev BK:=@if_neg
abbrev BL:=@PySem.wpAny_pure
abbrev BP:=@if_pos
abbrev BR:=@decide_eq_false
abbrev BW:=@decide_eq_true
abbrev BX:=@of_decide_eq_true
abbrev BZ:=@congrArg
abbrev CG:=@Ne.symm
abbrev CJ:=@PySem.wpAny_holding
abbrev CK:=@decide_eq_true_iff
abbrev CN:=@PySem.wpAny_setState_of
abbrev CP:=@PySem.W.mg_none_of
abbrev CQ:=@PySem.Heap.SameBut.update
abbrev CT:=@PySem.wpAny_mono
abbrev CV:=@if_false
abbrev CW:=@PyProof.Rows.boot_sorted
abbrev CZ:=@PySem.wpAny_newObj_type
abbrev DG:=@PySem.mem_of_lookup
abbrev DK:=@PyProof.Rows.boot_isinstance
abbrev DN:=@decide_eq_true_eq
abbrev DP:=@if_true
abbrev DQ:=@PySem.wpAny_call_entry
abbrev DR:=@PySem.boot_len
abbrev DW:=@PySem.F.plainAttrs_list
abbrev DX:=@PySem.wpAny_setField
abbrev DY:=@PySem.wpAny_truthy_bool
abbrev EY:=@PySem.W.kia_one
abbrev FJ:=@PySem.sizeLine_eq
abbrev FN:=@PySem.Around.under_plainId
abbrev FP:=@PySem.wpAny_standAt
abbrev FQ:=@PySem.codeAny_builtin
abbrev FT:=@PyProof.Rows.wpS_bind
abbrev FW:=@or_false
abbrev FZ:=@bne_self_eq_false
abbrev GJ:=@of_decide_eq_false
abbrev GK:=@Classical.byContradiction
abbrev GX:=@PySem.wpAny_rule
abbrev HN:=@PySem.wpAny_typeNameOfWhole_itemiter
abbrev HX:=@PySem.wpAny_storeSet_of
abbrev HY:=@PySem.F.slot_dict_itemiterator_next
abbrev IK:=@PyProof.Rows.boot_list
abbrev IV:=@PyProof.Rows.callWith_type1
abbrev IW:=@PyProof.Rows.F.plain_set_update_loop
abbrev JB:=@PySem.wpAny_passesOwn
abbrev JC:=@Prod.ext
abbrev JD:=@beq_iff_eq
abbrev JF:=@PySem.wpAny_typeNameOf_itemiter
abbrev JG:=@PySem.wpAny_of_eq
abbrev JH:=@PySem.wpAny_field
abbrev JK:=@PySem.codeAny_mono
abbrev JL:=@decide_eq_false_iff_not
abbrev JM:=@PySem.wpAny_callSpecial?_slot
abbrev JN:=@PySem.plainId_quiet
abbrev JQ:=@PySem.wpAny_attempt
abbrev JR:=@PySem.wpAny_Call_Name_kw
abbrev JT:=@PySem.wpAny_setField_rec
abbrev JV:=@PySem.W.cellsFrom_some
abbrev JW:=@PySem.Calls.callWith_builtin
abbrev JX:=@PyProof.Rows.wpS_pure
abbrev JZ:=@PyProof.Rows.boot_int
abbrev KC:=@PySem.Obj.isFreed_of_fields
abbrev KD:=@PySem.wpAny_askSetting
abbrev KH:=@PySem.wpAny_isInstance
abbrev KJ:=@PySem.wpAny_newList
abbrev KN:=@PySem.wpAny_setEntries_of
abbrev KQ:=@PySem.PassesOwn.never
abbrev KR:=@PySem.codeAny_of_tree
abbrev KY:=@PySem.W.KasT.kasWp_bind
abbrev KZ:=@PySem.tupleKind_room_in1
abbrev LC:=@PySem.wpAny_comprehension_free
abbrev LK:=@PySem.wpAny_typeOf
abbrev LQ:=@PyProof.Rows.F.entry_set_update_loop
abbrev LR:=@PySem.F.slot_list_insert
abbrev MF:=@PySem.F.type_list_insert
abbrev MJ:=@PySem.Obj.data_mapFields
abbrev MK:=@PySem.wpAny_pyIter_list
abbrev MN:=@PySem.wpAny_setEpoch_of
abbrev MP:=@PySem.wpAny_pyIter_slot
abbrev NK:=@PySem.wpAny_isOneOf_itemiter
abbrev NQ:=@List.eraseIdx_append_of_lt_length
abbrev NZ:=@PySem.W.mg_of
abbrev OD:=@PyProof.Rows.listUpdate_at
abbrev OJ:=@beq_self_eq_true
abbrev PB:=@List.Perm.append_left
abbrev PJ:=@PySem.builtinLookup_eq_fast
abbrev PK:=@PyProof.Rows.boot_set
abbrev PL:=@List.eraseIdxIfInBounds_toArray
abbrev PN:=@PySem.F.args_dict_itemiterator_next_1
abbrev PX:=@PySem.Calls.evalArgs_plain
abbrev QB:=@PySem.call_meets
abbrev QC:=@PySem.strKind_is
abbrev QD:=@PySem.codeAny_call_builtin
abbrev QF:=@PyProof.Rows.listItems_at
abbrev QG:=@PyProof.Rows.wpS_forRange
abbrev QJ:=@PySem.F.entry_dict_itemiterator_next
abbrev QK:=@PySem.F.slot_dict_itemiterator_iter
abbrev QL:=@PySem.entryFor_alias
abbrev QM:=@PySem.wpAny_fieldsOf
abbrev QS:=@PySem.wpAny_newTuple
abbrev QT:=@PySem.wpAny_alloc
abbrev QV:=@PyProof.Rows.seqEpoch_at
abbrev QW:=@PyProof.Rows.assignInOrder_cons
abbrev QX:=@List.lookup_append
abbrev QZ:=@Nat.lt_of_le_of_lt
abbrev RB:=@Nat.pos_of_ne_zero
abbrev RD:=@PySem.MeetsSeq2.wpAny_forIn_array
abbrev RG:=@List.getElem?_drop
abbrev RJ:=@Int.fdiv_eq_ediv_of_nonneg
abbrev RK:=@PyProof.Rows.sortedAll_old
abbrev RL:=@Option.isSome_map
abbrev RM:=@Bool.not_eq_true'
abbrev RN:=@List.Pairwise.map
abbrev RP:=@PySem.wpAny_dictEntries
abbrev RQ:=@Nat.lt_trichotomy
abbrev RT:=@PySem.wpAny_call
abbrev RV:=@List.drop_eq_getElem_cons
abbrev RW:=@PySem.F.slot_set_contains
abbrev RX:=@Array.getElem?_replicate
abbrev RZ:=@List.nodup_range
abbrev SJ:=@List.ext_getElem
abbrev SM:=@Nat.sub_zero
abbrev SN:=@Nat.le_total
abbrev SQ:=@Nat.max_eq_right
abbrev SX:=@List.eraseIdx_cons_succ
abbrev TF:=@Int.eq_ofNat_of_zero_le
abbrev TJ:=@List.pairwise_singleton
abbrev TQ:=@List.filter_cons_of_pos
abbrev TV:=@PySem.F.slot_list_count
abbrev TX:=@PySem.F.type_list_count
abbrev TY:=@PySem.wpAny_execs_nil
abbrev UG:=@List.of_mem_zip
abbrev UJ:=@PySem.wpAny_specialOf
abbrev UL:=@PySem.typeLookup_type
abbrev UW:=@PySem.wpAny_dictEpoch
abbrev VB:=@Nat.max_eq_left
abbrev VD:=@List.length_pos_of_mem
abbrev VF:=@List.Perm.append_right
abbrev VG:=@Bool.and_false
abbrev VH:=@List.getElem?_toArray
abbrev VJ:=@PySem.F.plain_set_new
abbrev VL:=@PyProof.Rows.boot_max
abbrev VN:=@PySem.F.slot_list_pop
abbrev VP:=@PySem.F.type_list_pop
abbrev VR:=@Bool.xor_self
abbrev WD:=@Nat.le_of_eq
abbrev WK:=@Nat.add_zero
abbrev WL:=@Nat.sub_self
abbrev WM:=@Iff.rfl
def Z2:2<=PySem.sizeLine:=∅
def Z0:0<=PySem.sizeLine:=∅
def Z1:1<=PySem.sizeLine:=∅
def Z3:3<=PySem.sizeLine:=∅
set_option Elab.async false
set_option linter.all false
set_option maxRecDepth 100000
set_option maxHeartbeats 4000000
abbrev Aa:=@List.length_map
abbrev Ab:=@List.getElem?_eq_getElem
abbrev Ac:=@List.getElem?_eq_some_iff
abbrev Ad:=@List.length_append
abbrev Ae:=@PySem.Heap.get?_push_of_some
abbrev Af:=@List.mem_singleton
abbrev Ag:=@List.mem_cons_self
abbrev Ah:=@List.getElem?_map
abbrev Ai:=@List.mem_map
abbrev Aj:=@List.map_append
abbrev Ak:=@List.mem_cons_of_mem
abbrev Al:=@List.mem_cons
abbrev Am:=@Nat.le_refl
abbrev An:=@List.mem_append
abbrev Ao:=@PySem.Heap.get?_push_size
abbrev Ap:=@PySem.Heap.lt_size
abbrev Aq:=@List.getElem?_append_left
abbrev Ar:=@Option.map_eq_some_iff
abbrev As:=@List.length_cons
abbrev At:=@List.mem_of_getElem?
abbrev Au:=@List.append_assoc
abbrev Av:=@List.mem_append_right
abbrev Aw:=@List.size_toArray
abbrev Ax:=@Bool.false_ne_true
abbrev Ay:=@List.nodup_iff_pairwise_ne
abbrev Az:=@List.mem_append_left
abbrev Ba:=@List.getElem?_append_right
abbrev Bb:=@Bool.false_eq_true
abbrev Bc:=@List.mem_range
abbrev Bd:=@List.getElem?_eq_none
abbrev Be:=@List.append_nil
abbrev Bf:=@Nat.lt_of_lt_of_le
abbrev Bg:=@List.mem_filter
abbrev Bh:=@List.length_take
abbrev Bi:=@Nat.ne_of_lt
abbrev Bj:=@List.getElem?_of_mem
abbrev Bk:=@List.nodup_cons
abbrev Bm:=@Int.toNat_natCast
abbrev Bn:=@List.map_cons
abbrev Bo:=@List.map_congr_left
abbrev Bp:=@List.getElem_mem
abbrev Bq:=@Bool.and_eq_true
abbrev Br:=@List.take_length
abbrev Bs:=@Int.emod_nonneg
abbrev Bt:=@Nat.lt_succ_of_lt
abbrev Bu:=@Nat.zero_le
abbrev Bv:=@Array.length_toList
abbrev Bw:=@Array.getElem?_toList
abbrev Bx:=@List.take_add_one
abbrev By:=@Nat.le_trans
abbrev Bz:=@Nat.le_of_lt
abbrev Cb:=@PySem.Heap.get?_update_other
abbrev Cc:=@List.pairwise_iff_getElem
abbrev Cd:=@List.length_eq_zero_iff
abbrev Ce:=@Int.emod_lt_of_pos
abbrev Cf:=@Nat.mod_eq_of_lt
abbrev Cg:=@List.map_map
abbrev Ch:=@List.not_mem_nil
abbrev Ci:=@List.perm_append_comm
abbrev Cj:=@List.nodup_append
abbrev Ck:=@List.take_of_length_le
abbrev Cm:=@List.flatMap_cons
abbrev Cn:=@List.nodup_nil
abbrev Co:=@List.mem_iff_getElem
abbrev Cp:=@List.length_filter_le
abbrev Cq:=@Nat.lt_irrefl
abbrev Cr:=@Bool.eq_iff_iff
abbrev Cs:=@List.pairwise_map
abbrev Ct:=@List.filter_append
abbrev Cu:=@List.contains_iff_mem
abbrev Cv:=@List.filter_cons
abbrev Cw:=@Nat.ne_of_gt
abbrev Cy:=@List.length_range
abbrev Cz:=@List.length_singleton
abbrev Da:=@PySem.Heap.get?_update_self
abbrev Db:=@List.take_append_drop
abbrev Dc:=@List.range_succ
abbrev Dd:=@List.length_drop
abbrev De:=@List.all_eq_true
abbrev Dg:=@List.length_eraseIdx
abbrev Dh:=@PySem.Heap.size_push
abbrev Di:=@List.mem_flatMap
abbrev Dj:=@List.flatMap_append
abbrev Dk:=@Bool.eq_false_iff
abbrev Dl:=@List.flatten_cons
abbrev Dm:=@List.perm_ext_iff_of_nodup
abbrev Do:=@List.pairwise_cons
abbrev Dp:=@List.foldl_cons
abbrev Dq:=@List.count_cons
abbrev Dr:=@Nat.lt_or_ge
abbrev Ds:=@Array.getElem?_eq_getElem
abbrev Du:=@List.length_pos_iff
abbrev Dv:=@List.ext_getElem?
abbrev Dw:=@Int.zero_add
abbrev Dx:=@List.lookup_cons
abbrev Dy:=@List.getElem_map
abbrev Dz:=@Array.getD_eq_getD_getElem?
abbrev Eb:=@Bool.not_true
abbrev Ec:=@List.filter_eq_nil_iff
abbrev Ed:=@List.count_pos_iff
abbrev Ee:=@List.getElem?_take_of_lt
abbrev Ef:=@Nat.le_succ
abbrev Eh:=@Nat.not_lt_zero
abbrev Ej:=@List.filterMap_cons
abbrev Ek:=@List.getElem?_range
abbrev El:=@Array.getElem?_eq_none
abbrev Em:=@Nat.mod_self
abbrev Ep:=@Nat.min_eq_right
abbrev Er:=@Array.getElem?_eq_some_iff
abbrev Es:=@List.exists_mem_of_ne_nil
abbrev Eu:=@List.length_nil
abbrev Ex:=@Nat.min_eq_left
abbrev Ey:=@Nat.le_of_succ_le
abbrev Ez:=@Option.isSome_iff_exists
abbrev Fa:=@List.mem_of_mem_eraseIdx
abbrev Fb:=@List.getElem?_replicate
abbrev Fc:=@List.any_eq_true
abbrev Fd:=@Nat.lt_succ_self
abbrev Fe:=@Nat.zero_add
abbrev Ff:=@List.getElem_range
abbrev Fg:=@List.drop_of_length_le
abbrev Fh:=@List.append_eq_nil_iff
abbrev Fi:=@List.find?_cons
abbrev Fj:=@List.any_cons
abbrev Fk:=@List.length_replicate
abbrev Fm:=@List.count_append
abbrev Fn:=@List.mem_zipIdx_iff_le_and_getElem?_sub
abbrev Fo:=@Array.getElem?_setIfInBounds_self_of_lt
abbrev Fp:=@List.getD_eq_getElem?_getD
abbrev Fq:=@List.mem_erase_of_ne
abbrev Fr:=@Nat.one_pos
abbrev Fs:=@List.getElem?_modify
abbrev Ft:=@List.cons_append
abbrev Fu:=@List.mem_flatten
abbrev Fv:=@List.flatten_append
abbrev Fw:=@List.length_erase_of_mem
abbrev Fx:=@List.mem_filterMap
abbrev Fy:=@List.find?_eq_none
abbrev Fz:=@List.append_of_mem
abbrev Ga:=@Nat.lt_of_le_of_ne
abbrev Gb:=@List.getElem?_cons_succ
abbrev Gc:=@List.getElem?_set_self
abbrev Gd:=@Nat.succ_pos
abbrev Ge:=@List.getElem?_eraseIdx
abbrev Gf:=@Bool.false_xor
abbrev Gg:=@List.lt_irrefl
abbrev Gh:=@Bool.xor_false
abbrev Gi:=@Nat.zero_lt_of_lt
abbrev Gj:=@List.getElem_inj
abbrev Gk:=@List.isEmpty_nil
abbrev Gm:=@List.lt_trans
abbrev Gn:=@List.sum_cons
abbrev Go:=@List.getElem?_set_ne
abbrev Gp:=@PySem.Heap.get?_push_cases
abbrev Gq:=@List.le_iff_lt_or_eq
abbrev Gr:=@Option.map_some
abbrev Gs:=@List.forIn_cons
abbrev Gu:=@List.find?_some
abbrev Gv:=@List.nil_append
abbrev Gw:=@Nat.mod_lt
abbrev Gx:=@Bool.not_false
abbrev Gy:=@List.all_cons
abbrev Gz:=@Bool.true_and
abbrev Hc:=@List.map_take
abbrev He:=@List.map_drop
namespace L2
open PySem PySem.Spec PyProof.Rows
abbrev Key:=Sum Int Str
def su:Key->Value->Bool
 | .inl k,v=>Value.isInt k v
 | .inr x,v=>Value.isStrOf x v
def DL(w:World):Key->Int
 | .inl k=>hashInt k
 | .inr x=>hashStr w x
theorem lH:∀{k}{v},su k v=true->(∃ i t,k=Sum.inl i/\v=Value.int i t)\/(∃ x t,k=Sum.inr x/\v=Value.str x t)
 | .inl i,v,h=>by
  obtain⟨t,e⟩:=Value.isInt_shape h;exact .inl ⟨i,t,rfl,e⟩
 | .inr x,v,h=>by
  obtain⟨t,e⟩:=Value.isStrOf_shape h;exact .inr ⟨x,t,rfl,e⟩
def XS(i:Int)(t:Tok):su (.inl i) (.int i t)=true:=by simp[su,Value.isInt]
def XT(x:Str)(t:Tok):su (.inr x) (.str x t)=true:=by simp[su,Value.isStrOf]
def XU(a b:Int):decide ((Sum.inl a:Key)=Sum.inl b)=(a == b):=by
 by_cases e:a=b
 ·subst e;simp
 ·have h:¬(Sum.inl a:Key)=Sum.inl b:=λq=>e<|Sum.inl.inj q;rw[BR h];exact(beq_eq_false_iff_ne.mpr e).symm
def XW(a b:Str):decide ((Sum.inr a:Key)=Sum.inr b)=decide (a=b):=by
 by_cases e:a=b
 ·subst e;simp
 ·have h:¬(Sum.inr a:Key)=Sum.inr b:=λq=>e<|Sum.inr.inj q;rw[BR h,BR e]
def XX(a:Int)(b:Str):decide ((Sum.inl a:Key)=Sum.inr b)=false:=BR λq=>nomatch q
def XY(a:Str)(b:Int):decide ((Sum.inr a:Key)=Sum.inl b)=false:=BR λq=>nomatch q
def dM(U:Program)(w:World):PySem.KeyKind U w Key where
 is:=su
 hash:=DL w
 inj:=λv a b ha hb=>by
  rcases lH ha with ⟨i,t,rfl,rfl⟩ | ⟨x,t,rfl,rfl⟩
  ·rcases lH hb with ⟨j,u,rfl,e⟩ | ⟨y,u,rfl,e⟩
   ·injection e with e1 _;rw[e1]
   ·exact nomatch e
  ·rcases lH hb with ⟨j,u,rfl,e⟩ | ⟨y,u,rfl,e⟩
   ·exact nomatch e
   ·injection e with e1 _;rw[e1]
 byValue:=λk v h=>by
  rcases lH h with ⟨i,t,rfl,rfl⟩ | ⟨x,t,rfl,rfl⟩ <;> rfl
 pyHash:=λhv h=>by
  rcases lH hv with ⟨i,t,rfl,rfl⟩ | ⟨x,t,rfl,rfl⟩
  ·exact wpAny_pyHash_int h
  ·exact wpAny_pyHash_str h
 eqBool:=λhu hv h=>by
  rcases lH hu with ⟨i,t,rfl,rfl⟩ | ⟨x,t,rfl,rfl⟩
  ·rcases lH hv with ⟨j,u,rfl,rfl⟩ | ⟨y,u,rfl,rfl⟩
   ·rw[XU]at h;exact wpAny_eqBool_int h
   ·rw[XX]at h;exact SeqAt.EqAt.int_str i t y u _ _ _ _ h
  ·rcases lH hv with ⟨j,u,rfl,rfl⟩ | ⟨y,u,rfl,rfl⟩
   ·rw[XY]at h;exact SeqAt.EqAt.str_int x t j u _ _ _ _ h
   ·rw[XW]at h;exact wpAny_eqBool_str h
 «strs»:=λk x t v h=>by
  rcases lH h with ⟨i,u,rfl,e⟩ | ⟨y,u,rfl,e⟩
  ·exact nomatch e
  ·injection e with e1 _
   subst e1;cases v <;> rfl
def XZ(U:Program)(w:World)(i:Int)(t:Tok):(dM U w).is (.inl i) (.int i t)=true:=XS i t
def X0(U:Program)(w:World)(x:Str)(t:Tok):(dM U w).is (.inr x) (.str x t)=true:=XT x t
inductive V where
 | non | bl (b:Bool) | int (i:Int) | str (x:Str) | jh (b:Array UInt8) | sv (b:UInt64) | ref (a:Addr) | ty (n:String)
 deriving DecidableEq
def RelV:V->Value->Prop
 | .non,u=>u=Value.none
 | .bl b,u=>u=Value.bool b
 | .int i,u=>∃ t,u=Value.int i t
 | .str x,u=>∃ t,u=Value.str x t
 | .jh b,u=>∃ t,u=Value.bytes b t
 | .sv b,u=>∃ t,u=Value.float b t
 | .ref a,u=>u=Value.ref a
 | .ty n,u=>u=Value.type n
abbrev az:List V->Ó->Prop:=Paired RelV
def az.length{xs:List V}{us:Ó}(r:az xs us):xs.length=us.length:=Paired.length r
theorem az.get:∀{xs:List V} {us:Ó} {i:Nat} {x:V},az xs us->xs[i]?=some x->∃ u,us[i]?=some u/\RelV x u
 | _,_,_,_,.nil,e=>by simp at e
 | _,_,0,_,.cons r _,e=>by simp at e;subst e;exact⟨_,rfl,r⟩
 | _,_,i+1,x,.cons _ t,e=>by
  obtain⟨u,h1,h2⟩:=az.get t (by simpa using e);exact⟨u,by simpa using h1,h2⟩
theorem az.set{x:V}{u:Value}(r:RelV x u):∀{xs}{us}i,az xs us->az (xs.set i x) (us.set i u)
 | _,_,_,.nil=> .nil
 | _,_,0,.cons _ t=> .cons r t
 | _,_,i+1,.cons q t=> .cons q<|az.set r i t
theorem az.append:∀{xs ys}{us ws},az xs us->az ys ws->az (xs++ys) (us++ws)
 | _,_,_,_,.nil,s=>s
 | _,_,_,_,.cons r t,s=> .cons r<|az.append t s
theorem az.take:∀{xs}{us}n,az xs us->az (xs.take n) (us.take n)
 | _,_,0,_=> .nil
 | _,_,_+1,.nil=> .nil
 | _,_,n+1,.cons r t=> .cons r<|az.take n t
theorem az.drop:∀{xs}{us}n,az xs us->az (xs.drop n) (us.drop n)
 | _,_,0,r=>r
 | _,_,_+1,.nil=> .nil
 | _,_,n+1,.cons _ t=>az.drop n t
def eI:Option V->Option Value->Prop
 | some v,some u=>RelV v u
 | none,none=>True
 | _,_=>False
def KV{κ:Type}:List (κ×V)->List (κ×Value)->Prop:=Paired λp q=>p.1=q.1/\RelV p.2 q.2
def kV:Key->V
 | .inl i=> .int i
 | .inr x=> .str x
inductive HO where
 | lst (xs:List V)
 | tup (xs:List V)
 | dK (Y:List<|Key×V) | dT (Y:List<|List Key×V)
 | set (S:Int->Bool) (n:Nat)
 | ins (C dx:Addr) (fs:List<|Str×V)
 | own (x:Addr)
 | xd (fs:List<|Str×V)
 | met (f x:Addr)
 | oj (lo hi:Int)
 | bB (o:Obj) (u:HO)
 | oq (ps:Array Value)
 | ext (φ:Heap->Prop)
abbrev Hp:=Addr->Option HO
def upd(H:Hp)(a:Addr)(o:HO):Hp:=λb=>if b=a then some o else H b
variable{a:Addr}{H:Hp}
def av{o:HO}:upd H a o a=some o:=by unfold upd;rw[BP rfl]
variable{b:Addr}
def au{o:HO}(h:b≠a):upd H a o b=H b:=by unfold upd;rw[BK h]
def pO{o u:HO}:upd (upd H a o) a u=upd H a u:=by
 funext b;unfold upd;split <;> rfl
def bV{o u:HO}(h:H a=some o)(h':H b=some u)(d:o≠u):a≠b:=by
 intro e;subst e;rw[h]at h';exact d<|Option.some.inj h'
def bh{o:HO}(h:H a=some o)(h':H b=none):a≠b:=by
 intro e;subst e;rw[h]at h';cases h'
section
variable(P:Program)(w:World)
def aB(H:Hp)(h:Heap)(a:Addr):HO->Prop
 | .lst xs=>xs.length<=sizeLine/\∃è n,az xs è/\h.get? a=some {cls:= .type "list",data:= .seq è.toArray n}
 | .tup xs=>xs.length<=sizeLine/\∃ è:Ó,az xs è/\IsTup h a è.toArray
 | .dK Y=>Y.length<=sizeLine/\(a == sysModules)=false/\∃ vs,KV Y vs/\h.DictOf (dM P w) a vs
 | .dT Y=>Y.length<=sizeLine/\(a == sysModules)=false/\∃ xs:List<|List Key×Addr×Value,
   Paired (λp q=>p.1=q.1/\H q.2.1=some (.tup<|p.1.map kV)/\RelV p.2 q.2.2) Y xs /\
   ∃ o es ep,h.get? a=some o/\o.ExactDict/\o.data = .dict es ep/\es.toList=xs.map (entryOfKey<|tupleKind<|dM P w)/\(xs.map (·.1)).Nodup
 | .set S n=>h.SetOf (intKind P w) a S n
 | .ins C dx fs=>H dx=some (.own a)/\fs.length<=1000/\dx≠a/\h.get? a=some (PySem.W.instObj C dx) /\
   ∃ mA,h.Ns1 dx mA/\(∀ f,eI (fs.lookup f)<|mA f)/\PySem.Within mA (fs.map (·.1))
 | .own _=>∃ o,h.get? a=some o
 | .xd fs=>∃ mA,h.Ns1 a mA/\∀ f,eI (fs.lookup f)<|mA f
 | .oj lo hi=>∃ t u v,h.get? a=some {cls:= .type "range",data:= .fields #[.int lo t,.int hi u,.int 1 v]}
 | .bB o u=>h.get? a=some o/\aB H h a u
 | .oq ps=>h.get? a=some {cls:= .none,data:= .fields ps}
 | .met f x=>h.get? a=some (PySem.W.methodObj (.ref f)<|.ref x)
 | .ext φ=>φ h/\(∃ o,h.get? a=some o)/\∀ h1 h2:Heap,φ h1->(∀ o,h1.get? a=some o->h2.get? a=some o)->φ h2
def cg(H:Hp)(h:Heap):Prop:=∀ a o,H a=some o->aB P w H h a o
end
variable{h h':Heap}{H':Hp}{w:World}{P:Program}
section
variable{o:HO}
theorem aB.lt(x:aB P w H h a o):a < h.objs.size:=by
 cases o with
 | lst xs=>obtain⟨_,_,_,_,e⟩:=x;exact Ap e
 | tup xs=>obtain⟨_,_,_,p⟩:=x;exact p.lt
 | dK Y=>obtain⟨_,_,_,_,o,_,_,e,_⟩:=x;exact Ap e
 | dT Y=>obtain⟨_,_,_,_,o,_,_,e,_⟩:=x;exact Ap e
 | set S n=>obtain⟨o,_,_,_,e,_⟩:=x;exact Ap e
 | ins C dx fs=>obtain⟨_,_,_,e,_⟩:=x;exact Ap e
 | own y=>obtain⟨_,e⟩:=x;exact Ap e
 | xd fs=>obtain⟨_,⟨_,_,_,e,_⟩,_⟩:=x;exact Ap e
 | oj lo hi=>obtain⟨_,_,_,e⟩:=x;exact Ap e
 | bB ob u=>obtain⟨e,_⟩:=x;exact Ap e
 | oq ps=>exact Ap (show h.get? a=some _ from x)
 | met f y=>exact Ap (show h.get? a=some _ from x)
 | ext φ=>obtain⟨_,⟨_,e⟩,_⟩:=x;exact Ap e
theorem Paired.pP{α β:Type}{F G:α->β->Prop}:∀{l₁}{l₂},Paired F l₁ l₂->(∀ a b,F a b->G a b)->Paired G l₁ l₂
 | _,_,.nil,_=> .nil
 | _,_,.cons r t,f=> .cons (f _ _ r)<|Paired.pP t f
theorem aB.fK(x:aB P w H h a o)(k:∀ b u,(b=a\/H b=some (.own a))->h.get? b=some u->h'.get? b=some u)
  (ho:∀ b,H b=some (.own a)->H' b=some (.own a)) (ht:∀ b xs,H b=some (.tup xs)->H' b=some (.tup xs)):aB P w H' h' a o:=by
 induction o with
 | lst xs=>obtain⟨z,è,n,r,e⟩:=x;exact⟨z,è,n,r,k _ _ (.inl rfl) e⟩
 | tup xs=>obtain⟨z,è,r,ob,e,c⟩:=x;exact⟨z,è,r,ob,k _ _ (.inl rfl) e,c⟩
 | dK Y=>obtain⟨z,y,vs,r,ob,es,ep,e,c⟩:=x;exact⟨z,y,vs,r,ob,es,ep,k _ _ (.inl rfl) e,c⟩
 | dT Y=>
  obtain⟨z,y,xs,r,ob,es,ep,e,c⟩:=x;exact⟨z,y,xs,Paired.pP r λp q z=>⟨z.1,ht _ _ z.2.1,z.2.2⟩,ob,es,ep,k _ _ (.inl rfl) e,c⟩
 | set S n=>obtain⟨ob,es,ep,t,e,c⟩:=x;exact⟨ob,es,ep,t,k _ _ (.inl rfl) e,c⟩
 | ins C dx fs=>
  obtain⟨d,z,ne,e,mA,⟨od,es,ep,e2,c⟩,r⟩:=x;exact⟨ho _ d,z,ne,k _ _ (.inl rfl) e,mA,⟨od,es,ep,k _ _ (.inr d) e2,c⟩,r⟩
 | own y=>obtain⟨ob,e⟩:=x;exact⟨ob,k _ _ (.inl rfl) e⟩
 | xd fs=>obtain⟨mA,⟨od,es,ep,e,c⟩,r⟩:=x;exact⟨mA,⟨od,es,ep,k _ _ (.inl rfl) e,c⟩,r⟩
 | oj lo hi=>obtain⟨t,u,v,e⟩:=x;exact⟨t,u,v,k _ _ (.inl rfl) e⟩
 | bB ob u ih=>obtain⟨e,q⟩:=x;exact⟨k _ _ (.inl rfl) e,ih q⟩
 | oq ps=>
  have e:=x;show h'.get? a=some {cls:= .none,data:= .fields ps};exact k a _ (.inl rfl) e
 | met f y=>
  have e:=x;show h'.get? a=some (PySem.W.methodObj (.ref f)<|.ref y);exact k a _ (.inl rfl) e
 | ext φ=>obtain⟨p,⟨o,e⟩,st⟩:=x;exact⟨st _ _ p λo q=>k _ _ (.inl rfl) q,⟨o,k _ _ (.inl rfl) e⟩,st⟩
def cg.lt(x:cg P w H h)(e:H a=some o):a < h.objs.size:=(x a o e).lt
theorem cg.fresh(x:cg P w H h)(e:h.objs.size<=a):H a=none:=by
 cases q:H a with
 | none=>rfl
 | some u=>exact absurd (Bf (x.lt q) e)<|Cq _
def cg.kept(x:cg P w H h)(k:∀ b u,h.get? b=some u->h'.get? b=some u):cg P w H h':=λa o e=>
 (x a o e).fK (λb u _ q=>k b u q) (λ_ q=>q) λ_ _ q=>q
def cg.laid(x:cg P w H h)(k:∀ b u,h.get? b=some u->h'.get? b=some u)(hp:h.objs.size<=a)(new:aB P w (upd H a o) h' a o):cg P w (upd H a o) h':=λb u e=>by
 have hn:=x.fresh hp
 by_cases hb:b=a
 ·subst hb;rw[av]at e;cases e;exact new
 ·rw[au hb]at e;exact(x b u e).fK (λc v _ q=>k c v q) (λc q=>by rwa[au<|bh q hn]) λc xs q=>by rwa[au<|bh q hn]
end
def Rd(H:Hp)(a:Addr)(u:HO):Prop:=H a=some u\/∃ o,H a=some (.bB o u)
def Rd.ok{u:HO}(r:Rd H a u)(x:cg P w H h):aB P w H h a u:=by
 rcases r with r | ⟨o,r⟩
 ·exact x a u r
 ·obtain⟨_,q⟩:=x a _ r;exact q
def uA:Option HO->Prop
 | some (.lst _)=>True
 | some (.dK _)=>True
 | some (.dT _)=>True
 | some (.set _ _)=>True
 | some (.ins _ _ _)=>True
 | some (.ext _)=>True
 | _=>False
section
variable{x e:Addr}{o':HO}
def cg.write(ok:cg P w H h)(mu:uA<|H x)(he:e=x\/H e=some (.own x))(k:∀ b u,b≠e->h.get? b=some u->h'.get? b=some u)(sw:∃ u,h'.get? e=some u)
  (new:aB P w (upd H x o') h' x o'):cg P w (upd H x o') h':=λb u q=>by
 have uB:∀ c y,H c=some (.own y)->c≠x:=λc y r z=>by subst z;rwa[r]at mu
 have DM:∀ c xs,H c=some (.tup xs)->c≠x:=λc xs r z=>by subst z;rwa[r]at mu
 by_cases hb:b=x
 ·subst hb;rw[av]at q;cases q;exact new
 ·rw[au hb]at q
  by_cases gj:b=e
  ·have q':H b=some (.own x):=by
    rcases he with z | z
    ·exact absurd (gj.trans z) hb
    ·rwa[gj]
   rw[q]at q';cases q';obtain⟨v,hv⟩:=sw;exact⟨v,by rwa[gj]⟩
  ·refine(ok b u q).fK (λc v hc r=>k c v ?_ r) (λc r=>by rwa[au<|uB c b r]) λc xs r=>by rwa[au<|DM c xs r]
   rcases hc with rfl | hc
   ·exact gj
   ·rintro rfl
    rcases he with z | z
    ·exact uB c b hc z
    ·rw[hc]at z;cases z;exact hb rfl
end
structure Un(fs ex:List Addr)(H H':Hp)(h h':Heap):Prop where
 keep:∀ b o,h.get? b=some o->H b=none->b∉fs->b∉ex->h'.get? b=some o
 slot:∀ b o,h.get? b=some o->H b=none->b∈fs->b∉ex->∃ sl,h'.get? b=some {o with slots:=sl}
 free:∀ b o,h.get? b=some o->H b=none->b∉ex->H' b=none
 there:∀ b o,h.get? b=some o->b∉ex->∃ o',h'.get? b=some o'
 eJ:∀ b xs,H b=some (.tup xs)->H' b=some (.tup xs)
 dN:∀ b o u,H b=some (.bB o u)->H' b=some (.bB o u)
 eN:∀ b ps,H b=some (.oq ps)->∃ more,H' b=some (.oq<|ps++more)
section
variable{fs X1 ex O6:List Addr}{H1 H2:Hp}{h1 h2:Heap}{x e:Addr}{o:HO}
def Un.any(u:Un fs ex H H1 h h1){ob:Obj}(q:h.get? b=some ob)(n:H b=none)(hx:b∉ex):∃ sl,h1.get? b=some {ob with slots:=sl}:=by
 by_cases hb:b∈fs
 ·exact u.slot b ob q n hb hx
 ·exact⟨ob.slots,u.keep b ob q n hb hx⟩
def Un.kept(k:∀ b u,h.get? b=some u->h'.get? b=some u):Un fs ex H H h h':=
 ⟨λb ob q _ _ _=>k b ob q,λb ob q _ _ _=>⟨ob.slots,k b ob q⟩,λ_ _ _ n _=>n,λb ob q _=>⟨ob,k b ob q⟩,λ_ _ q=>q,λ_ _ _ q=>q,λ_ ps q=>⟨#[],by rw[q];simp⟩⟩
def Un.refl:Un fs ex H H h h:=Un.kept λ_ _ q=>q
def Un.laid(k:∀ b u,h.get? b=some u->h'.get? b=some u)(hp:h.objs.size<=a)(hn:H a=none):Un fs ex H (upd H a o) h h' where
 keep:=λb u q _ _ _=>k b u q
 slot:=λb u q _ _ _=>⟨u.slots,k b u q⟩
 free:=λb u q n _=>by rwa[au<|Bi<|Bf (Ap q) hp]
 there:=λb u q _=>⟨u,k b u q⟩
 eJ:=λb xs q=>by rwa[au<|bh q hn]
 dN:=λb u xs q=>by rwa[au<|bh q hn]
 eN:=λb ps q=>⟨#[],by rw[au<|bh q hn,q];simp⟩
def Un.write(mu:uA<|H x)(he:e=x\/H e=some (.own x))(k:∀ b u,b≠e->h.get? b=some u->h'.get? b=some u)(sw:∃ u,h'.get? e=some u):Un fs ex H (upd H x o) h h':=by
 have hx:∀ b,H b=none->b≠x:=λb n z=>by subst z;rwa[n]at mu
 have hb:∀ b,H b=none->b≠e:=λb n z=>by
  subst z
  rcases he with r | r
  ·exact hx b n r
  ·rw[n]at r;cases r
 have hm:∀ b u,H b=some u->¬ uA (some u)->b≠x:=λb u q nm z=>by subst z;rw[q]at mu;exact nm mu
 refine⟨λb u q n _ _=>k b u (hb b n) q,λb u q n _ _=>⟨u.slots,k b u (hb b n) q⟩,λb u q n _=>by rwa[au<|hx b n],λb u q _=>?_,
  λb xs q=>by rwa[au<|hm b _ q λz=>z],λb u xs q=>by rwa[au<|hm b _ q λz=>z],λb ps q=>⟨#[],by rw[au<|hm b _ q λz=>z,q];simp⟩⟩
 by_cases gj:b=e
 ·subst gj;exact sw
 ·exact⟨u,k b u gj q⟩
end
def yF(h:Heap)(H:Hp):List Addr:=(List.range h.objs.size).filter λa=>(H a).isSome
def fM(h:Heap)(H:Hp):Heap:=PySem.W.hideAll h<|yF h H
def X2(h:Heap)(H:Hp):(fM h H).objs.size=h.objs.size:=PySem.W.hideAll_size _ _
variable{o:Obj}
def X3(e:h.get? b=some o)(n:H b=none):(fM h H).get? b=some o:=
 PySem.W.hideAll_get _ e λhm=>by
  have q:=(Bg.mp hm).2;rw[n]at q;simp at q
theorem X4(e:(fM h H).get? b=some o):h.get? b=some o/\H b=none:=by
 have e':=PySem.W.of_hideAll (yF h H) e;refine⟨e',?_⟩;cases q:H b with
 | none=>rfl
 | some x=>
  have hm:b∈yF h H:=Bg.mpr ⟨Bc.mpr<|Ap e',by simp[q]⟩;have z:(fM h H).get? b=none:=PySem.W.hideAll_none (yF h H) hm;rw[z]at e;cases e
structure Mod(K:PySem.W.Frag)(mg:Ò)(Z:Heap):Prop where
 sy:K.In Z
 glob:Z.Ns mainGlobals mg
 blt:∃ mb,Z.Ns builtinsNs mb/\∀ x:Str,x ≠ "__name__"->mb x=bootBuiltins x
 nolimit:Z.NoLimit
structure Cx where
 U:Program
 w:World
 K:PySem.W.Frag
 mg:Ò
 Z:Heap
 A:Around
 N:Ñ
 æ:Shared
 ç:Hp
 env:Env
 outer:List Env
 stack:List Env
 ex:List Addr
 fn:Str->Bool
 calm:Bool
 pn:List<|Addr×Obj
 xe:Î
def dF(l:List Env):List Addr:=l.filterMap (·.frame)
abbrev Cx.fs(X:Cx):List Addr:=dF X.outer
def DS(sc:Scope)(x:Str):Prop:=sc.names.lookup x=some .local\/sc.names.lookup x=some .cell\/sc.names.lookup x=some .free
def Loc(sc:Scope)(x:Str):Prop:=sc.names.lookup x=some .local\/sc.names.lookup x=some .cell
def Look(env:Env)(h:Heap)(m:Ò)(x:Str)(u:Value):Prop:=
 (env.kindOf x=some .local/\m x=some u)\/((env.kindOf x=some .cell\/env.kindOf x=some .free)/\∃ c,env.cells.lookup x=some c/\h.IsCell c (some u))
structure Cx.Ok(X:Cx):Prop where
 mod:Mod X.K X.mg X.Z
 kind:X.env.scope.kind = .function
 glob:X.env.globals=mainGlobals
 blt:X.env.builtins=builtinsNs
 above:X.æ.heap.objs.size<=X.env.locals
 inj:∀ x y c,X.env.cells.lookup x=some c->X.env.cells.lookup y=some c->x=y
 has:∀ x,(X.env.kindOf x=some .cell\/X.env.kindOf x=some .free)->∃ c,X.env.cells.lookup x=some c
 mw:∀ x c,X.fn x=true->X.env.cells.lookup x=some c->X.æ.heap.objs.size<=c
 hd:X.calm=true->X.A.handled=none
 frames:X.A.frames=some X.stack
 lI:X.stack=X.outer\/(X.stack=X.env :: X.outer/\X.env.frame=some X.env.locals)
 sG:∀ b∈X.ex,b≠X.env.locals/\∀ x c,X.env.cells.lookup x=some c->c≠b
 bs:∀ b o,X.Z.get? b=some o->X.æ.heap.get? b=some o/\X.ç b=none
 jH:X.Z.objs.size<=X.æ.heap.objs.size
 fN:∀ b o,X.Z.get? b=some o->b∉X.ex
 gE:∀ b∈X.ex,b∉X.fs
 cF:X.æ.heap.FunFrames X.Z X.outer
 lJ:∀ b∈X.fs,X.ç b=none
structure Inv(X:Cx)(O:Ð)(σ:List<|Option V)(H:Hp)(s:Shared):Prop where
 ok:X.Ok
 os:s.os=X.æ.os
 bare:AllBare s.gens
 Z:Un X.fs X.ex X.ç H X.æ.heap s.heap
 loc:∃ m,s.heap.Ns X.env.locals m/\∀(i:Nat) (x:Str) (v:V),X.N[i]?=some x->σ[i]?=some (some v)->DS X.env.scope x->∃ u,RelV v u/\Look X.env s.heap m x u
 cell:∀ x c,X.env.cells.lookup x=some c->∃ v,s.heap.IsCell c v
 free:H X.env.locals=none
 bC:∀ x c,X.env.cells.lookup x=some c->H c=none
 pin:∀ p∈X.pn++O,s.heap.get? p.1=some p.2/\H p.1=none/\p.1≠X.env.locals/\p.1∉X.fs/\∀ v,p.2.data ≠ .cell v
 aF:cg X.U X.w H s.heap
 len:σ.length=X.N.length
variable{s s':Shared}{O ou:Ð}{X:Cx}{ch:List Addr}{d':Drawn}{t' i:Nat}{g':Array GenState}{x:Str}{N:Ñ}{u:Value}{v:V}{E:Î}{A:Around}{M:Model}
section
variable{σ:List (Option V)}
def Cx.Ok.DT(ok:X.Ok)(e:X.Z.get? b=some o):b∉X.fs:=λhb=>by
 have:=(ok.cF.mem hb).1;rw[e]at this;cases this
def Inv.bs(I:Inv X O σ H s):∀ b o,X.Z.get? b=some o->s.heap.get? b=some o/\H b=none:=λb o e=>
 ⟨I.Z.keep b o (I.ok.bs b o e).1 (I.ok.bs b o e).2 (I.ok.DT e)<|I.ok.fN b o e,I.Z.free b o (I.ok.bs b o e).1 (I.ok.bs b o e).2<|I.ok.fN b o e⟩
def Inv.bk(I:Inv X O σ H s):∀ b o,X.Z.get? b=some o->s.heap.get? b=some o:=λb o e=>(I.bs b o e).1
def Inv.mod(I:Inv X O σ H s):Mod X.K X.mg X.Z:=I.ok.mod
def Inv.fh(I:Inv X O σ H s):X.K.In s.heap:=I.ok.mod.sy.keeps I.bk
def Inv.lt(I:Inv X O σ H s):X.env.locals < s.heap.objs.size:=let ⟨_,hn,_⟩:=I.loc;hn.lt
def Inv.sz(I:Inv X O σ H s):X.æ.heap.objs.size<=s.heap.objs.size:=By I.ok.above<|Bz I.lt
def Inv.DU(I:Inv X O σ H s)(h:s.heap.objs.size<=a):a∉X.fs:=λhb=>by
 obtain⟨_,o,ho,_⟩:=I.ok.cF.mem hb;exact absurd (Bf (Ap ho)<|By I.sz h)<|Cq _
def Inv.j4(I:Inv X O σ H s):∀ x c,X.env.cells.lookup x=some c->c≠X.env.locals:=λx c e z=>by
 obtain⟨v,o,ho,hd⟩:=I.cell x c e;obtain⟨m,⟨o',es,ep,cW,pQ,_⟩,_⟩:=I.loc;rw[z,cW]at ho;cases ho;rw[pQ]at hd;cases hd
def Inv.cF(I:Inv X O σ H s):s.heap.FunFrames X.Z X.outer:=by
 have all:∀l,(∀ b∈dF l,b∈X.fs)->X.æ.heap.FunFrames X.Z l->s.heap.FunFrames X.Z l:=by
  intro l
  induction l with
  | nil=>intro _ _;trivial
  | cons env r ih=>
   intro hs hl;obtain⟨hk,⟨L,o,hf,hn,ho,hd⟩,hr⟩:=hl;have hL:=hs L (by unfold dF;rw[Ej,hf];exact Ag);obtain⟨sl,e⟩:=I.Z.slot L o ho (I.ok.lJ L hL) hL λz=>I.ok.gE L z hL;exact⟨hk,⟨L,_,hf,hn,e,hd⟩,ih (λb hb=>hs b<|by unfold dF;rw[Ej,hf];exact Ak _ hb) hr⟩
 exact all X.outer (λ_ hb=>hb) I.ok.cF
def Inv.stack(I:Inv X O σ H s):s.heap.FunFrames X.Z X.stack:=by
 rcases I.ok.lI with e | ⟨e,hf⟩
 ·rw[e];exact I.cF
 ·rw[e];obtain⟨m,hn,_⟩:=I.loc;refine .cons (by rw[I.ok.kind];decide) hf hn ?_ I.cF;exact Heap.get?_none_of_le<|By I.ok.jH I.ok.above
def Inv.dw(I:Inv X O σ H s):∀ b∈dF X.stack,b∈X.env.locals :: X.fs:=λb hb=>by
 rcases I.ok.lI with e | ⟨e,hf⟩
 ·rw[e]at hb;exact Ak _ hb
 ·rw[e]at hb;unfold dF at hb;rwa[Ej,hf]at hb
def Inv.d8(I:Inv X O σ H s):∀ b∈dF X.stack,H b=none:=λb hb=>by
 rcases Al.mp (I.dw b hb)with e | hb
 ·rw[e];exact I.free
 ·obtain⟨_,o,ho,_⟩:=I.ok.cF.mem hb;exact I.Z.free b o ho (I.ok.lJ b hb) λz=>I.ok.gE b z hb
def Inv.step(I:Inv X O σ H s)
  (lK:∀ b∈ch,(b∈X.ex\/X.æ.heap.objs.size<=b)/\b≠X.env.locals/\(∀ x c,X.env.cells.lookup x=some c->c≠b)/\∀ p∈X.pn++O,p.1≠b)
  (keep:∀ b o,b≠X.env.locals->b∉X.fs->b∉ch->s.heap.get? b=some o->H b=none->h'.get? b=some o)
  (slot:∀ b o,b≠X.env.locals->b∈X.fs->b∉ch->s.heap.get? b=some o->H b=none->∃ sl,h'.get? b=some {o with slots:=sl}) (free:∀ b o,b∉ch->s.heap.get? b=some o->H b=none->H' b=none)
  (there:∀ b o,b∉ch->s.heap.get? b=some o->∃ o',h'.get? b=some o')
  (eJ:∀ b xs,H b=some (.tup xs)->H' b=some (.tup xs)) (dN:∀ b o u,H b=some (.bB o u)->H' b=some (.bB o u)) (eN:∀ b ps,H b=some (.oq ps)->∃ more,H' b=some (.oq<|ps++more))
  (ns:∀ m,s.heap.Ns X.env.locals m->h'.Ns X.env.locals m) (aF:cg X.U X.w H' h') (hg:AllBare g') :
  Inv X O σ H' {s with heap:=h',gens:=g',drawn:=d',toks:=t'}:=by
 have O7:∀ b o,X.æ.heap.get? b=some o->b≠X.env.locals:=λb o e=>Bi<|Bf (Ap e) I.ok.above;have yG:∀ b o,X.æ.heap.get? b=some o->b∉X.ex->b∉ch:=λb o e hx hb=>by
  rcases (lK b hb).1 with z | z
  ·exact hx z
  ·exact absurd (Bf (Ap e) z)<|Cq _
 have cellK:∀ x c,X.env.cells.lookup x=some c->∀ v,s.heap.IsCell c v->h'.IsCell c v:=λx c e v ⟨o,ho,hd⟩=>by
  have uC:=λz=>(lK c z).2.2.1 x c e rfl
  by_cases hc:c∈X.fs
  ·obtain⟨sl,q⟩:=slot c o (I.j4 x c e) hc uC ho<|I.bC x c e;exact⟨_,q,hd⟩
  ·exact⟨o,keep c o (I.j4 x c e) hc uC ho<|I.bC x c e,hd⟩
 refine⟨I.ok,I.os,hg,⟨λb o e n hb hx=>?_,λb o e n hb hx=>?_,λb o e n hx=>?_,λb o e hx=>?_,λb xs e=>eJ b xs<|I.Z.eJ b xs e,λb o xs e=>dN b o xs<|I.Z.dN b o xs e,λb ps e=>?_⟩,?_,λx c e=>?_,?_,λx c e=>?_,λp hp=>?_,aF,I.len⟩
 ·exact keep b o (O7 b o e) hb (yG b o e hx) (I.Z.keep b o e n hb hx)<|I.Z.free b o e n hx
 ·obtain⟨sl,e1⟩:=I.Z.slot b o e n hb hx;obtain⟨yH,e2⟩:=slot b _ (O7 b o e) hb (yG b o e hx) e1<|I.Z.free b o e n hx;exact⟨yH,e2⟩
 ·obtain⟨o',e1⟩:=I.Z.there b o e hx;exact free b o' (yG b o e hx) e1<|I.Z.free b o e n hx
 ·obtain⟨o',e1⟩:=I.Z.there b o e hx;exact there b o' (yG b o e hx) e1
 ·obtain⟨m1,e1⟩:=I.Z.eN b ps e;obtain⟨m2,e2⟩:=eN b _ e1;exact⟨m1++m2,by rw[e2,Array.append_assoc]⟩
 ·obtain⟨m,hn,hl⟩:=I.loc;refine⟨m,ns m hn,λi x v e1 e2 e3=>?_⟩;obtain⟨u,r,l⟩:=hl i x v e1 e2 e3;refine⟨u,r,?_⟩
  rcases l with l | ⟨k,c,e,z⟩
  ·exact .inl l
  ·exact .inr ⟨k,c,e,cellK x c e _ z⟩
 ·obtain⟨v,z⟩:=I.cell x c e;exact⟨v,cellK x c e v z⟩
 ·obtain⟨m,⟨o,_,_,ho,_⟩,_⟩:=I.loc;exact free _ o (λz=>(lK _ z).2.1 rfl) ho I.free
 ·obtain⟨v,o,ho,hd⟩:=I.cell x c e;exact free c o (λz=>(lK c z).2.2.1 x c e rfl) ho<|I.bC x c e
 ·obtain⟨e,n,ne,nf,d⟩:=I.pin p hp;have uC:=λz=>(lK p.1 z).2.2.2 p hp rfl;exact⟨keep p.1 p.2 ne nf uC e n,free p.1 p.2 uC e n,ne,nf,d⟩
def Inv.un(I:Inv X O σ H s)(u:Un X.fs [] H H' s.heap h')(aF:cg X.U X.w H' h'):Inv X O σ H' {s with heap:=h',toks:=t'}:=by
 obtain⟨m,⟨o,es,ep,ho,r⟩,_⟩:=id I.loc;obtain⟨sl,hL⟩:=u.any ho I.free (by simp);exact I.step (ch:=[]) (λ_ z=>nomatch z) (λb o _ hb _ e n=>u.keep b o e n hb<|by simp) (λb o _ hb _ e n=>u.slot b o e n hb<|by simp) (λb o _ e n=>u.free b o e n<|by simp) (λb o _ e=>u.there b o e<|by simp) u.eJ u.dN u.eN (λm' hm=>by
  obtain⟨o',gk,oz,cW,r'⟩:=hm;rw[ho]at cW;cases cW;exact⟨_,gk,oz,hL,r'⟩) aF I.bare
def Inv.call(I:Inv X O σ H s)(u:Un (dF X.stack) ch H H' s.heap h')(aF:cg X.U X.w H' h')(hg:AllBare g')
  (lK:∀ b∈ch,(b∈X.ex\/X.æ.heap.objs.size<=b)/\b≠X.env.locals/\(∀ x c,X.env.cells.lookup x=some c->c≠b)/\∀ p∈X.pn++O,p.1≠b) :
  Inv X O σ H' {s with heap:=h',gens:=g',drawn:=d',toks:=t'}:=by
 obtain⟨m,⟨o,es,ep,ho,r⟩,_⟩:=id I.loc;obtain⟨sl,hL⟩:=u.any ho I.free λz=>(lK _ z).2.1 rfl;exact I.step lK (λb o hL hb hc e n=>u.keep b o e n (λz=>(Al.mp<|I.dw b z).elim hL hb) hc) (λb o _ _ hc e n=>u.any e n hc) (λb o hc e n=>u.free b o e n hc) (λb o hc e=>u.there b o e hc) u.eJ u.dN u.eN (λm' hm=>by
  obtain⟨o',gk,oz,cW,r'⟩:=hm;rw[ho]at cW;cases cW;exact⟨_,gk,oz,hL,r'⟩) aF hg
def Inv.turned{it:Addr}(I:Inv X O σ H s)(k:∀ b o,b≠it->s.heap.get? b=some o->h'.get? b=some o)(hn:H it=none)(hL:it≠X.env.locals)
  (h1:it∈X.ex\/X.æ.heap.objs.size<=it) (h2:∀ x c,X.env.cells.lookup x=some c->c≠it) (h3:∀ p∈X.pn++O,p.1≠it):Inv X O σ H {s with heap:=h',toks:=t'}:=by
 have uD:∀ b u,H b=some u->b≠it:=λb u e z=>by rw[z,hn]at e;cases e
 refine I.step (ch:=[it]) (λb hb=>?_) (λb o _ _ hc e _=>k b o (λz=>hc<|by simp[z]) e) (λb o _ _ hc e _=>⟨o.slots,k b o (λz=>hc<|by simp[z]) e⟩) (λ_ _ _ _ n=>n)
  (λb o hc e=>⟨o,k b o (λz=>hc<|by simp[z]) e⟩) (λ_ _ e=>e) (λ_ _ _ e=>e) (λb ps e=>⟨#[],by rw[e];simp⟩) (λm hm=>?_) (λb u e=>?_) I.bare
 ·have e:b=it:=by simpa using hb
  subst e;exact⟨h1,hL,h2,h3⟩
 ·obtain⟨o,es,ep,ho,r⟩:=hm;exact⟨o,es,ep,k _ o (CG hL) ho,r⟩
 ·refine(I.aF b u e).fK (λc v hc q=>k c v ?_ q) (λ_ q=>q) λ_ _ q=>q
  rcases hc with z | z
  ·rw[z];exact uD b u e
  ·exact uD c _ z
def Inv.tok(I:Inv X O σ H s)(t:Nat):Inv X O σ H {s with toks:=t}:=I.un Un.refl I.aF
def Inv.kept{t':Nat}(I:Inv X O σ H s)(k:∀ b u,s.heap.get? b=some u->h'.get? b=some u):Inv X O σ H {s with heap:=h',toks:=t'}:=I.un (Un.kept k)<|I.aF.kept k
def Inv.laid{a:Addr}{o:HO}{t':Nat}(I:Inv X O σ H s)(k:∀ b u,s.heap.get? b=some u->h'.get? b=some u)(hp:s.heap.objs.size<=a)(new:aB X.U X.w (upd H a o) h' a o) :
  Inv X O σ (upd H a o) {s with heap:=h',toks:=t'}:=I.un (Un.laid k hp<|I.aF.fresh hp)<|I.aF.laid k hp new
def Inv.write{x e:Addr}{o:HO}{t':Nat}(I:Inv X O σ H s)(mu:uA<|H x)(he:e=x\/H e=some (.own x))(k:∀ b u,b≠e->s.heap.get? b=some u->h'.get? b=some u)(sw:∃ u,h'.get? e=some u)
  (new:aB X.U X.w (upd H x o) h' x o):Inv X O σ (upd H x o) {s with heap:=h',toks:=t'}:=I.un (Un.write mu he k sw)<|I.aF.write mu he k sw new
def Inv.iU(I:Inv X O σ H s)(h:∀ p∈ou,s.heap.get? p.1=some p.2/\H p.1=none/\p.1≠X.env.locals/\p.1∉X.fs/\∀ v,p.2.data ≠ .cell v):Inv X ou σ H s:=
 ⟨I.ok,I.os,I.bare,I.Z,I.loc,I.cell,I.free,I.bC,λp hp=>(An.mp hp).elim (λz=>I.pin p<|Az _ z)<|h p,I.aF,I.len⟩
def DV(hN:N.Nodup){j:Nat}(a:N[i]?=some x)(b:N[j]?=some x):i=j:=by
 obtain⟨h1,e1⟩:=Ac.mp a;obtain⟨h2,e2⟩:=Ac.mp b;exact(Gj hN).mp<|e1.trans e2.symm
def O8{Q:Unit->Shared->Prop}(I:Inv X O σ H s)(hN:X.N.Nodup)(hi:X.N[i]?=some x)(hx:Loc X.env.scope x)(r:RelV v u)
  (h:∀ s',Inv X O (σ.set i<|some v) H s'->(∃ a,Heap.SameBut a s.heap s'.heap/\(a=X.env.locals\/X.env.cells.lookup x=some a))->Q () s') (hf:X.fn x=true\/X.env.scope.names.lookup x=some .local:=by first | exact .inl rfl | exact .inr rfl | assumption):wpAny M A (storeName X.env x u) Q E s:=by
 obtain⟨m,hn,hl⟩:=id I.loc;have pR:(X.env.scope.kind == .class || (X.env.scope.kind == .module && X.env.locals != X.env.globals))=false:=by rw[I.ok.kind];rfl
 have hiσ:i < σ.length:=by rw[I.len];exact(Ac.mp hi).1
 have j4:=I.j4;have tracked:∀{a:Addr} {h':Heap},(∃ o,s.heap.get? a=some o/\H a=none)->Heap.SameBut a s.heap h'->cg X.U X.w H h':=λ{a h'} ha hs b ob e=>by
  obtain⟨_,_,oA⟩:=ha;refine(I.aF b ob e).fK (λc w' hc q=>(hs.2 c ?_).trans q) (λ_ q=>q) λ_ _ q=>q;rintro rfl
  rcases hc with rfl | hc
  ·rw[oA]at e;cases e
  ·rw[oA]at hc;cases hc
 rcases hx with hk | hk
 ·refine wpAny_storeName_local hk hn (λh' oB hs=>?_) pR;obtain⟨oL,_,_,jI,_⟩:=id hn;refine h _ ⟨I.ok,I.os,I.bare,⟨λb o e n hb hx=>?_,λb o e n hb hx=>?_,I.Z.free,λb o e hx=>?_,I.Z.eJ,I.Z.dN,I.Z.eN⟩,⟨_,oB,λj y v' e1 e2 e3=>?_⟩,λy c e=>?_,I.free,I.bC,λp hp=>?_,tracked ⟨oL,jI,I.free⟩ hs,by simpa using I.len⟩ ⟨_,hs,.inl rfl⟩
  ·exact(hs.2 b<|Bi<|Bf (Ap e) I.ok.above).trans<|I.Z.keep b o e n hb hx
  ·obtain⟨sl,e1⟩:=I.Z.slot b o e n hb hx;exact⟨sl,(hs.2 b<|Bi<|Bf (Ap e) I.ok.above).trans e1⟩
  ·obtain⟨o',e1⟩:=I.Z.there b o e hx;exact⟨o',(hs.2 b<|Bi<|Bf (Ap e) I.ok.above).trans e1⟩
  ·by_cases hj:j=i
   ·subst hj;rw[hi]at e1;cases e1;rw[Gc hiσ]at e2;cases e2;exact⟨u,r,.inl ⟨hk,by simp⟩⟩
   ·rw[Go<|CG hj]at e2;obtain⟨u',r',q⟩:=hl j y v' e1 e2 e3;refine⟨u',r',?_⟩
    rcases q with ⟨k,e⟩ | ⟨k,c,e,z⟩
    ·refine .inl ⟨k,?_⟩;have:y≠x:=λe=>hj<|DV hN e1<|e ▸ hi;simp[this,e]
    ·exact .inr ⟨k,c,e,z.sameBut hs<|j4 y c e⟩
  ·obtain⟨w',z⟩:=I.cell y c e;exact⟨w',z.sameBut hs<|j4 y c e⟩
  ·obtain⟨e,n,ne,nf,d⟩:=I.pin p hp;exact⟨(hs.2 p.1 ne).trans e,n,ne,nf,d⟩
 ·have uE:X.fn x=true:=by
   rcases hf with z | z
   ·exact z
   ·rw[z]at hk;cases hk
  obtain⟨c,hc⟩:=I.ok.has x<|.inl hk;obtain⟨w',z⟩:=I.cell x c hc;refine wpAny_storeName_cell I.ok.kind hk hc z λh' bu hs=>?_;obtain⟨oc,O9,X5⟩:=id z;refine h {s with heap:=h'} ⟨I.ok,I.os,I.bare,⟨λb o e n hb hx=>?_,λb o e n hb hx=>?_,I.Z.free,λb o e hx=>?_,I.Z.eJ,I.Z.dN,I.Z.eN⟩,⟨m,hn.sameBut hs<|CG<|j4 x c hc,λj y v' e1 e2 e3=>?_⟩,λy c' e=>?_,I.free,I.bC,λp hp=>?_,tracked ⟨oc,O9,I.bC x c hc⟩ hs,by simpa using I.len⟩ ⟨c,hs,.inr hc⟩
  ·exact(hs.2 b<|Bi<|Bf (Ap e)<|I.ok.mw x c uE hc).trans<|I.Z.keep b o e n hb hx
  ·obtain⟨sl,e1⟩:=I.Z.slot b o e n hb hx;exact⟨sl,(hs.2 b<|Bi<|Bf (Ap e)<|I.ok.mw x c uE hc).trans e1⟩
  ·obtain⟨o',e1⟩:=I.Z.there b o e hx;exact⟨o',(hs.2 b<|Bi<|Bf (Ap e)<|I.ok.mw x c uE hc).trans e1⟩
  ·by_cases hj:j=i
   ·subst hj;rw[hi]at e1;cases e1;rw[Gc hiσ]at e2;cases e2;exact⟨u,r,.inr ⟨.inl hk,c,hc,bu⟩⟩
   ·rw[Go<|CG hj]at e2;obtain⟨u',r',q⟩:=hl j y v' e1 e2 e3;refine⟨u',r',?_⟩
    rcases q with q | ⟨k,c',e,z'⟩
    ·exact .inl q
    ·refine .inr ⟨k,c',e,z'.sameBut hs ?_⟩;rintro rfl;exact hj<|DV hN e1<|I.ok.inj _ _ _ e hc ▸ hi
  ·by_cases iV:c'=c
   ·subst iV;exact⟨_,bu⟩
   ·obtain⟨w2,z2⟩:=I.cell y c' e;exact⟨w2,z2.sameBut hs iV⟩
  ·obtain⟨e,n,ne,nf,d⟩:=I.pin p hp;refine⟨(hs.2 p.1 ?_).trans e,n,ne,nf,d⟩;intro q;rw[q,O9]at e;have q':=Option.some.inj e;exact d w'<|by rwa[<- q']
def uF{Q:Unit->Shared->Prop}(I:Inv X O σ H s)(hN:X.N.Nodup)(hi:X.N[i]?=some x)(hx:Loc X.env.scope x)(r:RelV v u)
  (h:∀ s',Inv X O (σ.set i<|some v) H s'->Q () s') (hf:X.fn x=true\/X.env.scope.names.lookup x=some .local:=by first | exact .inl rfl | exact .inr rfl | assumption):wpAny M A (storeName X.env x u) Q E s:=
 O8 I hN hi hx r (λs' I' _=>h s' I') hf
def Inv.call'(I:Inv X O σ H s)(ho:s'.os=s.os)(u:Un (dF X.stack) ch H H' s.heap s'.heap)(aF:cg X.U X.w H' s'.heap)(hg:AllBare s'.gens)
  (lK:∀ b∈ch,(b∈X.ex\/X.æ.heap.objs.size<=b)/\b≠X.env.locals/\(∀ x c,X.env.cells.lookup x=some c->c≠b)/\∀ p∈X.pn++O,p.1≠b):Inv X O σ H' s':=by
 obtain⟨h',g',d',t',o'⟩:=s';have e:=ho;subst e;exact I.call u aF hg lK
end
abbrev XK:=Value->Option Addr->Hp->Prop
abbrev St:=List<|Option V
abbrev VK:=V->Hp->Prop
abbrev TE:=St->Hp->VK->Prop
abbrev TT:=St->Hp->(Bool->Hp->Prop)->Prop
abbrev TA:=St->Hp->(List V->Hp->Prop)->Prop
structure Ends where
 nx:St->Hp->Prop
 rt:VK
 bk:St->Hp->Prop:=λ_ _=>False
 ct:St->Hp->Prop:=λ_ _=>False
abbrev TS:=Ends->St->Hp->Prop
def EP(X:Cx)(O:Ð)(σ:St)(Q:VK)(u:Value)(s':Shared):Prop:=∃ v H',Inv X O σ H' s'/\RelV v u/\Q v H'
def TP(X:Cx)(O:Ð)(σ:St)(Q:Bool->Hp->Prop)(b:Bool)(s':Shared):Prop:=∃ H',Inv X O σ H' s'/\Q b H'
def AP(X:Cx)(O:Ð)(σ:St)(Q:List V->Hp->Prop)(us:Ó)(s':Shared):Prop:=∃ vs H',Inv X O σ H' s'/\az vs us/\Q vs H'
def SP(X:Cx)(O:Ð)(D:Ends)(f:Flow)(s':Shared):Prop:=
 match f with
 | .next=>∃ σ' H',Inv X O σ' H' s'/\D.nx σ' H'
 | .brk=>∃ σ' H',Inv X O σ' H' s'/\D.bk σ' H'
 | .cont=>∃ σ' H',Inv X O σ' H' s'/\D.ct σ' H'
 | .ret u=>∃ v σ' H',Inv X O σ' H' s'/\RelV v u/\D.rt v H'
def PE(X:Cx)(e:Expr)(t:TE):Prop:=
 ∀O s σ H Q,Inv X O σ H s->t σ H Q->wpAny (model X.U X.w) X.A (eval e X.env) (EP X O σ Q) X.xe s
def PT(X:Cx)(e:Expr)(t:TT):Prop:=
 ∀O s σ H Q,Inv X O σ H s->t σ H Q->wpAny (model X.U X.w) X.A (isTrue e X.env<|eval e X.env) (TP X O σ Q) X.xe s
def PW(X:Cx)(e:Expr)(t:TT):Prop:=
 ∀whole O s σ H Q,Inv X O σ H s->t σ H Q->wpAny (model X.U X.w) X.A (isTrue e X.env whole) (TP X O σ Q) X.xe s
def PA(X:Cx)(es:Ô)(t:TA):Prop:=
 ∀pos O s σ H Q,Inv X O σ H s->t σ H Q->wpAny (model X.U X.w) X.A (spliced<|backTo pos<|starEach es X.env) (AP X O σ Q) X.xe s
def PS(X:Cx)(st:Stmt)(t:TS):Prop:=
 ∀O s σ H D,Inv X O σ H s->t D σ H->wpAny (model X.U X.w) X.A (exec st X.env) (SP X O D) X.xe s
def ji(X:Cx)(st:Õ)(t:TS):Prop:=
 ∀O s σ H D,Inv X O σ H s->t D σ H->wpAny (model X.U X.w) X.A (execs st X.env) (SP X O D) X.xe s
def aN{α:Type}{t:Sem α}{Q Q':α->Shared->Prop}(h:wpAny M A t Q E s)(hQ:∀ a s,Q a s->Q' a s):wpAny M A t Q' E s:=CT h hQ λ_ _ x=>x
variable{R:V->V->Hp->Prop}{σ:St}{ta:TE}{Q:Î}{op:CmpOp}{e c:Expr}
section
def bin{a b:Expr}{tb:TE}(ha:PE X a ta)(hb:PE X b tb)(I:Inv X O σ H s)(h:ta σ H λx H1=>tb σ H1 λy H2=>R x y H2)
  {α:Type} {Q:α->Shared->Prop} {f:Value->Value->Sem α}
  (hf:∀ v u s2 x y H2,Inv X O σ H2 s2->RelV x v->RelV y u->R x y H2->wpAny (model X.U X.w) X.A (f v u) Q X.xe s2) :
  wpAny (model X.U X.w) X.A (eval a X.env) (λv À=>wpAny (model X.U X.w) X.A (eval b X.env) (λu Á=>wpAny (model X.U X.w) X.A (f v u) Q X.xe Á) X.xe À) X.xe s:=by
 refine aN (ha O s σ H _ I h) λv s1 ⟨x,H1,I1,r1,q1⟩=>?_;refine aN (hb O s1 σ H1 _ I1 q1) λu s2 ⟨y,H2,I2,r2,q2⟩=>?_;exact hf v u s2 x y H2 I2 r1 r2 q2
def DZ(i:Nat):TE:=λσ H Q=>∃ v,σ[i]?=some (some v)/\Q v H
def tC(v:V):TE:=λ_ H Q=>Q v H
def X6{pos:Pos}(hN:X.N[i]?=some x)(hv:DS X.env.scope x)(hd:(x == ("__debug__" : Str))=false:=by decide)(iW:(x == ("__classdict__" : Str))=false:=by decide):PE X (.Name x pos) (DZ i):=by
 intro O s σ H Q I h;obtain⟨v,e,h⟩:=h;obtain⟨m,hn,hl⟩:=I.loc;obtain⟨u,r,l⟩:=hl i x v hN e hv;have fin:EP X O σ Q u s:=⟨v,H,I,r,h⟩
 rcases l with ⟨hk,hm⟩ | ⟨hk,c,hc,iX⟩
 ·exact wpAny_Name (wpAny_loadName_local I.ok.kind hk hn hm fin) hd
 ·rcases hk with hk | hk
  ·exact wpAny_Name (wpAny_loadName_cell I.ok.kind hk hc iX fin) hd
  ·exact wpAny_Name (wpAny_loadName_free I.ok.kind hk hc iX fin iW) hd
def X7{i j pos}:PE X (.Constant (.int i) j pos) (tC<|.int i):=λ_ _ _ H _ I h=>wpAny_Constant_int ⟨.int i,H,I.tok _,⟨_,rfl⟩,h⟩
def X8{b j pos}:PE X (.Constant (.bool b) j pos) (tC<|.bl b):=λ_ _ _ H _ I h=>Constant_bool ⟨.bl b,H,I,rfl,h⟩
def X9{j pos}:PE X (.Constant .none j pos) (tC .non):=λ_ _ _ H _ I h=>Constant_none ⟨.non,H,I,rfl,h⟩
def Ya{x j pos}:PE X (.Constant (.str x) j pos) (tC<|.str x):=λ_ _ _ H _ I h=>Calls.Constant_str ⟨.str x,H,I.tok _,⟨_,rfl⟩,h⟩
def Gl(X:Cx)(x:Str):Prop:=X.env.kindOf x=some .globalImplicit
def uG{pos:Pos}(I:Inv X O σ H s)(hg:Gl X x)(hm:X.mg x=some u)(h:Q u s)
  (hd:(x == ("__debug__" : Str))=false:=by decide):wpAny (model X.U X.w) X.A (eval (.Name x pos) X.env) Q E s:=
 Calls.Name_function_global I.ok.kind hg (Calls.loadGlobal_global (by rw[I.ok.glob];exact I.mod.glob.keeps I.bk) hm h) hd
def oD{pos:Pos}(I:Inv X O σ H s)(hg:Gl X x)(hm:X.mg x=none)(hv:bootBuiltins x=some u)(h:Q u s)
  (hn:x ≠ "__name__":=by decide) (hd:(x == ("__debug__" : Str))=false:=by decide):wpAny (model X.U X.w) X.A (eval (.Name x pos) X.env) Q E s:=by
 obtain⟨mb,h1,h2⟩:=I.mod.blt;exact Calls.Name_function_global I.ok.kind hg (Calls.loadGlobal_builtin (by rw[I.ok.glob];exact I.mod.glob.keeps I.bk) hm (by rw[I.ok.blt];exact h1.keeps I.bk) ((h2 x hn).trans hv) h) hd
def Yb{pos:Pos}(hg:Gl X x)(hm:X.mg x=some u)(r:RelV v u)(hd:(x == ("__debug__" : Str))=false:=by decide):PE X (.Name x pos) (tC v):=
 λ_ _ _ H _ I h=>uG I hg hm ⟨v,H,I,r,h⟩ hd
def Yc{pos:Pos}(hg:Gl X x)(hm:X.mg x=none)(hv:bootBuiltins x=some u)(r:RelV v u)(hn:x ≠ "__name__":=by decide)(hd:(x == ("__debug__" : Str))=false:=by decide):PE X (.Name x pos) (tC v):=
 λ_ _ _ H _ I h=>oD I hg hm hv ⟨v,H,I,r,h⟩ hn hd
variable{a b:Expr}{tb:TE}{pos:Pos}
def PC(X:Cx)(op:CmpOp)(a b:Expr)(t:TE):Prop:=
 ∀O s σ H Q,Inv X O σ H s->t σ H Q ->
  wpAny (model X.U X.w) X.A (eval a X.env) (λv À=>wpAny (model X.U X.w) X.A (eval b X.env) (λu Á=>wpAny (model X.U X.w) X.A (compareOp op v u) (EP X O σ Q) X.xe Á) X.xe À) X.xe s
def tB(t:TE):TT:=λσ H Q=>t σ H λx H1=>∃ c,x = .bl c/\Q c H1
def O'{t:TE}(h:PC X op a b t)(h1:behindInMarks op b=false:=by first | exact uH _ ∅ ∅ | rfl):PT X (.Compare a [op] [b] pos) (tB t):=by
 intro O s σ H Q I hw;refine wpAny_isTrue_Compare1 (aN (h O s σ H _ I hw) λv s1 h1=>aN h1 λu s2 h2=>aN h2 λc s3 ⟨x,H1,I1,r1,q1⟩=>?_) h1;obtain⟨d,rfl,q⟩:=q1;cases r1;exact DY ⟨H1,I1,q⟩
def Yd{t:TE}(h:PE X e t)(he:∀ whole,isTrue e X.env whole=(do let v <- whole;standAt e.pos;holding [v] (truthy v)):=by intro _;rfl):PT X e (tB t):=by
 intro O s σ H Q I hw;refine isTrue_plain (aN (h O s σ H _ I hw) λv s1 ⟨x,H1,I1,r1,q1⟩=>?_)<|he _;obtain⟨d,rfl,q⟩:=q1;cases r1;exact DY ⟨H1,I1,q⟩
variable{tA yI:TT}{rest:Ô}
def D0(t u:TT):TT:=λσ H Q=>t σ H λc H1=>if c=true then u σ H1 Q else Q false H1
def Ye(t u:TT):TT:=λσ H Q=>t σ H λc H1=>if c=true then Q true H1 else u σ H1 Q
def D1(t:TT):TT:=λσ H Q=>t σ H λc H1=>Q (!c) H1
theorem Yf(ha:PT X a tA):PW X (.BoolOp .And [a] pos) tA:=by
 intro wh O s σ H Q I h;refine isTrue_and<|aN (ha O s σ H Q I h) λc s1 e=>?_;cases c with
 | true=>exact isTrue_and_nil e
 | false=>exact e
theorem Yg(ha:PT X a tA):PW X (.BoolOp .Or [a] pos) tA:=by
 intro wh O s σ H Q I h;refine isTrue_or<|aN (ha O s σ H Q I h) λc s1 e=>?_;cases c with
 | false=>exact isTrue_or_nil e
 | true=>exact e
theorem Yh(ha:PT X a tA)(hb:PW X (.BoolOp .And (b :: rest) pos) yI):PW X (.BoolOp .And (a :: b :: rest) pos) (D0 tA yI):=by
 intro wh O s σ H Q I h;refine isTrue_and<|aN (ha O s σ H _ I h) λc s1 ⟨H1,I1,q1⟩=>?_;cases c with
 | true=>exact hb wh O s1 σ H1 Q I1 q1
 | false=>exact⟨H1,I1,q1⟩
theorem Yi(ha:PT X a tA)(hb:PW X (.BoolOp .Or (b :: rest) pos) yI):PW X (.BoolOp .Or (a :: b :: rest) pos) (Ye tA yI):=by
 intro wh O s σ H Q I h;refine isTrue_or<|aN (ha O s σ H _ I h) λc s1 ⟨H1,I1,q1⟩=>?_;cases c with
 | true=>exact⟨H1,I1,q1⟩
 | false=>exact hb wh O s1 σ H1 Q I1 q1
def Yj(ha:PT X a tA):PT X (.UnaryOp .Not a pos) (D1 tA):=by
 intro O s σ H Q I h;exact isTrue_not<|ha O s σ H (λc H1=>Q (!c) H1) I h
def Yk(ta tb:TE):TE:=λσ H Q=>ta σ H λx H1=>∃ c,x = .bl c/\if c=true then tb σ H1 Q else Q (.bl false) H1
def D4(ta tb:TE):TE:=λσ H Q=>ta σ H λx H1=>∃ c,x = .bl c/\if c=true then Q (.bl true) H1 else tb σ H1 Q
def Yl(ta:TE):TE:=λσ H Q=>ta σ H λx H1=>∃ c,x = .bl c/\Q (.bl (!c)) H1
def Ym{op}{t:TE}(h:PE X a t):PE X (.BoolOp op [a] pos) t:=λO s σ H Q I hw=>BoolOp_one<|h O s σ H Q I hw
theorem Yn(ha:PE X a ta)(hb:PE X (.BoolOp .And (b :: rest) pos) tb):PE X (.BoolOp .And (a :: b :: rest) pos) (Yk ta tb):=by
 intro O s σ H Q I h;refine BoolOp_and<|aN (ha O s σ H _ I h) λv s1 ⟨x,H1,I1,r1,q1⟩=>?_;obtain⟨c,rfl,q1⟩:=q1;cases r1;refine DY ?_;cases c with
 | true=>exact hb O s1 σ H1 Q I1 q1
 | false=>exact⟨.bl false,H1,I1,rfl,q1⟩
theorem Yo(ha:PE X a ta)(hb:PE X (.BoolOp .Or (b :: rest) pos) tb):PE X (.BoolOp .Or (a :: b :: rest) pos) (D4 ta tb):=by
 intro O s σ H Q I h;refine BoolOp_or<|aN (ha O s σ H _ I h) λv s1 ⟨x,H1,I1,r1,q1⟩=>?_;obtain⟨c,rfl,q1⟩:=q1;cases r1;refine DY ?_;cases c with
 | false=>exact hb O s1 σ H1 Q I1 q1
 | true=>exact⟨.bl true,H1,I1,rfl,q1⟩
def Yp(ha:PE X a ta):PE X (.UnaryOp .Not a pos) (Yl ta):=by
 intro O s σ H Q I h;refine UnaryOp_<|aN (ha O s σ H _ I h) λv s1 ⟨x,H1,I1,r1,q1⟩=>?_;obtain⟨c,rfl,q1⟩:=q1;cases r1;exact not_of<|DY ⟨.bl (!c),H1,I1,rfl,q1⟩
def Yq(t:TT)(ta tb:TE):TE:=λσ H Q=>t σ H λc H1=>if c=true then ta σ H1 Q else tb σ H1 Q
theorem Yr(hc:PT X c tA)(ha:PE X a ta)(hb:PE X b tb):PE X (.IfExp c a b pos) (Yq tA ta tb):=by
 intro O s σ H Q I h;refine wpAny_IfExp<|aN (hc O s σ H _ I h) λd s1 ⟨H1,I1,q1⟩=>?_;cases d with
 | true=>exact ha O s1 σ H1 Q I1 q1
 | false=>exact hb O s1 σ H1 Q I1 q1
end
def aj(K:PySem.W.Frag)(H:Hp)(a:Addr)(xs:List V):Prop:=
 Rd H a (.lst xs) \/
  ∃o è n,K.lookup a=some o/\o.cls = .type "list"/\o.dict=none/\o.data = .seq è n/\è.size<=sizeLine/\az xs è.toList
def aS(K:PySem.W.Frag)(H:Hp)(a:Addr)(xs:List V):Prop:=
 Rd H a (.tup xs) \/
  ∃o è n,K.lookup a=some o/\o.cls = .type "tuple"/\o.data = .seq è n/\è.size<=sizeLine/\az xs è.toList
def D5:Value->Option V
 | .none=>some .non
 | .bool b=>some<|.bl b
 | .int i _=>some<|.int i
 | .str x _=>some<|.str x
 | .bytes b _=>some<|.jh b
 | .float b _=>some<|.sv b
 | .ref a=>some<|.ref a
 | .type n=>some<|.ty n
 | _=>none
theorem RelV.abs{x:V}(r:RelV x u):D5 u=some x:=by
 cases x with
 | non=>cases r;rfl
 | bl _=>cases r;rfl
 | int _=>obtain⟨t,rfl⟩:=r;rfl
 | str _=>obtain⟨t,rfl⟩:=r;rfl
 | jh _=>obtain⟨t,rfl⟩:=r;rfl
 | sv _=>obtain⟨t,rfl⟩:=r;rfl
 | ref _=>cases r;rfl
 | ty _=>cases r;rfl
def RelV.inj{x y:V}{u:Value}(r:RelV x u)(q:RelV y u):x=y:=Option.some.inj<|r.abs.symm.trans q.abs
theorem az.inj:∀{xs ys}{us},az xs us->az ys us->xs=ys
 | _,_,_,.nil,.nil=>rfl
 | _,_,_,.cons r t,.cons r' t'=>by rw[r.inj r',az.inj t t']
variable{xs:List V}{K:PySem.W.Frag}
section
variable{ys:List V}
def aj.of(h:H a=some (.lst xs)):aj K H a xs:= .inl<|.inl h
def aS.of(h:H a=some (.tup xs)):aS K H a xs:= .inl<|.inl h
theorem Inv.list(I:Inv X O σ H s)(h:aj X.K H a xs):∃ è:Ó,az xs è/\PlainL s.heap a è.toArray/\xs.length<=sizeLine:=by
 rcases h with h | ⟨o,è,n,hk,hc,hd,hs,hz,r⟩
 ·obtain⟨z,è,n,r,e⟩:=h.ok I.aF;exact⟨è,r,⟨_,n,e,rfl,rfl,rfl⟩,z⟩
 ·refine⟨è.toList,r,⟨o,n,I.fh a o hk,hc,hd,by simpa using hs⟩,?_⟩;have e:=r.length;simp only[Bv]at e;omega
theorem Inv.tuple(I:Inv X O σ H s)(h:aS X.K H a xs):∃ è:Ó,az xs è/\IsTup s.heap a è.toArray/\xs.length<=sizeLine:=by
 rcases h with h | ⟨o,è,n,hk,hc,hs,hz,r⟩
 ·obtain⟨z,è,r,p⟩:=h.ok I.aF;exact⟨è,r,p,z⟩
 ·refine⟨è.toList,r,⟨o,I.fh a o hk,hc,n,by simpa using hs⟩,?_⟩;have e:=r.length;simp only[Bv]at e;omega
def Inv.cZ(I:Inv X O σ H s)(h:aj X.K H a xs)(h':aj X.K H a ys):xs=ys:=by
 obtain⟨è,r,⟨o,n,e,_,_,d⟩,_⟩:=I.list h;obtain⟨its',r',⟨o',n',e',_,_,d'⟩,_⟩:=I.list h';rw[e]at e';cases e';rw[d]at d'
 injection d' with d1 _
 have:è=its':=by simpa using BZ Array.toList d1
 subst this;exact r.inj r'
def Inv.jj(I:Inv X O σ H s)(h:aS X.K H a xs)(h':aS X.K H a ys):xs=ys:=by
 obtain⟨è,r,⟨o,e,_,n,d⟩,_⟩:=I.tuple h;obtain⟨its',r',⟨o',e',_,n',d'⟩,_⟩:=I.tuple h';rw[e]at e';cases e';rw[d]at d'
 injection d' with d1 _
 have:è=its':=by simpa using BZ Array.toList d1
 subst this;exact r.inj r'
end
abbrev Cx.dP(X:Cx)(E:Î):Cx:={X with xe:=E}
abbrev Cx.my(X:Cx):Cx:=X.dP λ_ _=>False
def Cx.Ok.dP{X:Cx}(ok:X.Ok)(E:Î):(X.dP E).Ok:=
 ⟨ok.mod,ok.kind,ok.glob,ok.blt,ok.above,ok.inj,ok.has,ok.mw,ok.hd,ok.frames,ok.lI,ok.sG,ok.bs,ok.jH,ok.fN,ok.gE,ok.cF,ok.lJ⟩
def Cx.Ok.bN(ok:(X.dP E).Ok):X.Ok:=
 ⟨ok.mod,ok.kind,ok.glob,ok.blt,ok.above,ok.inj,ok.has,ok.mw,ok.hd,ok.frames,ok.lI,ok.sG,ok.bs,ok.jH,ok.fN,ok.gE,ok.cF,ok.lJ⟩
def Inv.dP(I:Inv X O σ H s)(E:Î):Inv (X.dP E) O σ H s:=⟨I.ok.dP E,I.os,I.bare,I.Z,I.loc,I.cell,I.free,I.bC,I.pin,I.aF,I.len⟩
def Inv.bN(I:Inv (X.dP E) O σ H s):Inv X O σ H s:=⟨I.ok.bN,I.os,I.bare,I.Z,I.loc,I.cell,I.free,I.bC,I.pin,I.aF,I.len⟩
theorem SP.bN{D:Ends}{f:Flow}{s':Shared}(h:SP (X.dP E) O D f s'):SP X O D f s':=by
 cases f with
 | next=>obtain⟨σ',H',I,q⟩:=h;exact⟨σ',H',I.bN,q⟩
 | brk=>obtain⟨σ',H',I,q⟩:=h;exact⟨σ',H',I.bN,q⟩
 | cont=>obtain⟨σ',H',I,q⟩:=h;exact⟨σ',H',I.bN,q⟩
 | ret u=>obtain⟨v,σ',H',I,r,q⟩:=h;exact⟨v,σ',H',I.bN,r,q⟩
def ji.my{st:Õ}{t:TS}(h:ji X.my st t):ji X st t:=λO s σ H D I hw=>
 CT (h O s σ H D (I.dP _) hw) (λ_ _ q=>q.bN) λ_ _ z=>False.elim z
variable{te:TE}{tc:TT}
section
variable{st:Stmt}{rest:Õ}{t u:TS}{pos:Pos}
def Ys:TS:=λD σ H=>D.nx σ H
def D6(t u:TS):TS:=λD σ H=>t {D with nx:=u D} σ H
def Pa:ji X [] Ys:=λ_ _ σ H _ I h=>TY ⟨σ,H,I,h⟩
theorem Yu(h1:PS X st t)(h2:ji X rest u):ji X (st :: rest) (D6 t u):=by
 intro O s σ H D I h;refine wpAny_execs_cons<|aN (h1 O s σ H {D with nx:=u D} I h) λf s1 q=>?_;cases f with
 | next=>
  obtain⟨σ',H',I',q⟩:=q;exact h2 O s1 σ' H' D I' q
 | ret v=>exact q
 | brk=>exact q
 | cont=>exact q
def Inv.quiet(I:Inv X O σ H s):interactive X.env=false:=by simp[interactive,I.ok.kind]
def Yv(te:TE):TS:=λD σ H=>te σ H λ_ H1=>D.nx σ H1
def Yw(he:PE X e te)(hs:swapsWith e none pos.line X.env=pure false:=by rfl):PS X (.Expr e pos) (Yv te):=by
 intro O s σ H D I h;exact wpAny_Expr_any (aN (he O s σ H _ I h) λv s1 ⟨x,H1,I1,r1,q1⟩=>⟨σ,H1,I1,q1⟩) I.quiet hs
def D7(te:TE):TS:=λD σ H=>te σ H D.rt
def Yx(he:PE X e te):PS X (.Return (some e) pos) (D7 te):=by
 intro O s σ H D I h;exact wpAny_Return_some<|aN (he O s σ H _ I h) λv s1 ⟨x,H1,I1,r1,q1⟩=>⟨x,σ,H1,I1,r1,q1⟩
def D8(c:TT)(t u:TS):TS:=λD σ H=>c σ H λb H1=>if b=true then t D σ H1 else u D σ H1
theorem Yy{a b:Õ}(hc:PT X c tc)(ha:ji X a t)(hb:ji X b u):PS X (.If c a b pos) (D8 tc t u):=by
 intro O s σ H D I h;refine wpAny_If<|aN (hc O s σ H _ I h) λd s1 ⟨H1,I1,q1⟩=>?_;cases d with
 | true=>exact ha O s1 σ H1 D I1 q1
 | false=>exact hb O s1 σ H1 D I1 q1
end
abbrev TG:=V->St->Hp->(St->Hp->Prop)->Prop
abbrev pS:=List V->St->Hp->(St->Hp->Prop)->Prop
def PG(X:Cx)(target:Expr)(t:TG):Prop:=
 ∀O s σ H v u Q,Inv X O σ H s->RelV v u->t v σ H Q ->
  wpAny (model X.U X.w) X.A (assign target X.env u) (λ_ s'=>∃ σ' H',Inv X O σ' H' s'/\Q σ' H') X.xe s
def yJ(X:Cx)(ts:Ô)(t:pS):Prop:=
 ∀O s σ H vs us Q,Inv X O σ H s->az vs us->t vs σ H Q ->
  wpAny (model X.U X.w) X.A (assignInOrder ((assignEach ts X.env).map (·.2)) us) (λ_ s'=>∃ σ' H',Inv X O σ' H' s'/\Q σ' H') X.xe s
variable{es:Ô}{n:Nat}{tg:Expr}{pos':Pos}{tb:TS}{body:Õ}
section
variable{pos:Pos}
def Pb(i:Nat):TG:=λv σ H Q=>Q (σ.set i<|some v) H
def Yz(hN:X.N.Nodup)(hi:X.N[i]?=some x)(hx:Loc X.env.scope x)(hf:X.fn x=true\/X.env.scope.names.lookup x=some .local:=by first | exact .inl rfl | exact .inr rfl | assumption):PG X (.Name x pos) (Pb i):=by
 intro O s σ H v u Q I r h;exact wpAny_assign_Name<|uF I hN hi hx r (λs' I'=>⟨_,H,I',h⟩) hf
def pT:pS:=λvs σ H Q=>vs=[]/\Q σ H
def sI(t:TG)(u:pS):pS:=λvs σ H Q=>∃ v r,vs=v :: r/\t v σ H λσ' H'=>u r σ' H' Q
def Pg:yJ X [] pT:=by
 intro O s σ H vs us Q I r h;obtain⟨e,h⟩:=h;subst e;cases r;exact assignInOrder_nil ⟨σ,H,I,h⟩
theorem uI{t:TG}{u:pS}(h1:PG X e t)(h2:yJ X es u)
  (hs:(assignEach (e :: es) X.env).map (·.2)=assign e X.env :: (assignEach es X.env).map (·.2):=by rfl):yJ X (e :: es) (sI t u):=by
 intro O s σ H vs us Q I r h;obtain⟨v,vr,e1,h⟩:=h;subst e1;cases r with
 | cons r rr=>
  rw[hs];refine QW<|aN (h1 O s σ H _ _ _ I r h) λ_ s1 ⟨σ1,H1,I1,q1⟩=>?_;exact h2 O s1 σ1 H1 _ _ Q I1 rr q1
def D9(K:PySem.W.Frag)(n:Nat)(t:pS):TG:=λv σ H Q=>∃ a xs,v = .ref a/\aS K H a xs/\xs.length=n/\t xs σ H Q
def Ph{k:Nat}{t:pS}(hc:X.calm=true)(h:yJ X es t)
  (hn:(assignEach es X.env).length=n:=by rfl) (cP:(assignEach es X.env).findIdx? (·.1)=none:=by rfl):PG X (.Tuple es k pos) (D9 X.K n t):=by
 intro O s σ H v u Q I r hw;obtain⟨a,xs,e1,hq,hl,hw⟩:=hw;subst e1;cases r;obtain⟨è,rv,ht,hz⟩:=I.tuple hq;refine assign_Tuple_tuple (I.ok.hd hc) ht (by simp[hn,<- hl,rv.length]) cP λh' hx=>?_;have I1:=I.kept (t':=s.toks) λb o e=>hx b o (Bi<|Ap e) e;exact h O _ σ H xs _ Q I1 (by simpa using rv) hw
def uJ(te:TE)(g:TG):TS:=λD σ H=>te σ H λx H1=>g x σ H1 D.nx
def YB{g:TG}(he:PE X e te)(hg:PG X tg g)(hs:swapsWithSole [tg] e pos.line X.env=pure false:=by rfl)(hw:swappedStores [tg] e X.env=pure none:=by rfl)
  (h1:(assignEach [tg] X.env).map (·.2)=[assign tg X.env]:=by rfl):PS X (.Assign [tg] e pos) (uJ te g):=by
 intro O s σ H D I h;refine wpAny_Assign_stores (aN (he O s σ H _ I h) λv s1 ⟨x,H1,I1,r1,q1⟩=>?_) hs hw;rw[h1];exact aN (hg O s1 σ H1 x v _ I1 r1 q1) λ_ s2 q=>q
def YC(hN:X.N.Nodup)(hi:X.N[i]?=some x)(hx:Loc X.env.scope x)(he:PE X e te)(hs:swapsWith e (some<|.Name x pos') pos.line X.env=pure false:=by rfl)(hf:X.fn x=true\/X.env.scope.names.lookup x=some .local:=by first | exact .inl rfl | exact .inr rfl | assumption) :
  PS X (.Assign [.Name x pos'] e pos) (uJ te<|Pb i):=by
 intro O s σ H D I h;refine wpAny_Assign_Name (aN (he O s σ H _ I h) λv s1 ⟨y,H1,I1,r1,q1⟩=>?_) hs;exact uF I1 hN hi hx r1 (λs2 I2=>⟨_,H1,I2,q1⟩) hf
def EA(i j:Nat)(ta:TA):TS:=λD σ H=>ta σ H λvs H1=>∃ v w,vs=[v,w]/\D.nx ((σ.set i<|some v).set j<|some w) H1
def YD{j:Nat}{y:Str}{a b:Expr}{ta:TA}{px py pt:Pos}{kt k2 pU}(hc:X.calm=true)(hN:X.N.Nodup)(hi:X.N[i]?=some x)(hj:X.N[j]?=some y)(dQ:i≠j)
  (hx:X.env.scope.names.lookup x=some .local) (hy:X.env.scope.names.lookup y=some .local) (ha:PA X [a,b] ta)
  (hw:swappedStores [.Tuple [.Name x px,.Name y py] kt pt] (.Tuple [a,b] k2 pU) X.env=pure (some [x,y]))
  (hs:swapsWithSole [.Tuple [.Name x px,.Name y py] kt pt] (.Tuple [a,b] k2 pU) pos.line X.env=pure false:=by rfl) :
  PS X (.Assign [.Tuple [.Name x px,.Name y py] kt pt] (.Tuple [a,b] k2 pU) pos) (EA i j ta):=by
 intro O s σ H D I h;rw[exec_Assign_arm];refine BJ<|FP ?_;rw[hs];refine BJ<|BL ?_;rw[BK<|∅];refine BJ<|Tuple_<|aN (ha _ O s σ H _ I h) λus s1 ⟨vs,H1,I1,r1,q1⟩=>?_;obtain⟨v,w,e1,q1⟩:=q1;subst e1;obtain⟨u1,u2,rfl,rv,d9⟩:∃ u1 u2,us=[u1,u2]/\RelV v u1/\RelV w u2:=by
  cases r1 with
  | cons p q=>
   cases q with
   | cons p' q'=>
    cases q';exact⟨_,_,rfl,p,p'⟩
 refine CZ ?_ Z2;have I2:Inv X O σ H1 {s1 with heap:=s1.heap.push {cls:= .type "tuple",data:= .seq [u1,u2].toArray}}:=I1.kept λb o e=>Ae _ e;rw[hw];refine BJ<|BL ?_;show wpAny (model X.U X.w) X.A (do rule "assign.swapped-stores";let items <- unpackItems (.ref s1.heap.objs.size) 2 none;assignInOrder [λv=>bindName X.env y v,λv=>bindName X.env x v] items.reverse;pure Flow.next) _ _ _;refine BJ<|GX<|BJ<|unpackItems_tuple (items:=#[u1,u2]) (I.ok.hd hc) (IsTup.new s1.heap _) λh' g8=>?_;have I3:=I2.kept (t':=s1.toks) λb o e=>g8 b o (Bi<|Ap e) e;show wpAny _ _ (assignInOrder [λv=>bindName X.env y v,λv=>bindName X.env x v] [u2,u1] >>= λ_=>pure Flow.next) _ _ _;refine BJ<|QW<|wpAny_bindName<|uF I3 hN hj (.inl hy) d9 (λs2 I4=>?_)<|.inr hy;refine QW<|wpAny_bindName<|uF I4 hN hi (.inl hx) rv (λs3 I5=>assignInOrder_nil<|BL ?_)<|.inr hx;rw[List.set_comm _ _<|CG dQ]at I5;exact⟨_,H1,I5,q1⟩
def YF(c:TT)(tb:TS):TS:=λD σ H=>∃ W:Nat->St->Hp->Prop,(∃ m,W m σ H)/\∀ m σ H,W m σ H ->
 c σ H λb H1=>if b=true then ∃ N:St->Hp->Prop,(∀ σ' H',N σ' H'->∃ m',m' < m/\W m' σ' H')/\tb {D with nx:=N,ct:=N,bk:=D.nx} σ H1 else D.nx σ H1
theorem YG(hp:PassesOwn (model X.U X.w) X.A X.env X.xe)(hc:PT X c tc)(hb:ji X body tb):PS X (.While c body [] pos) (YF tc tb):=by
 intro O s σ H D I h;obtain⟨W,⟨m0,w0⟩,turn⟩:=h;refine wpAny_While<|codeAny_whileLoop (λn s'=>∃ σ' H',Inv X O σ' H' s'/\W n σ' H') ?_ m0 ⟨σ,H,I,w0⟩;rintro n s1 ⟨σ1,H1,I1,w1⟩;refine JB hp<|aN (hc O s1 σ1 H1 _ I1<|turn n σ1 H1 w1) λb s2 ⟨H2,I2,q2⟩=>?_;cases b with
 | true=>
  obtain⟨N,hN,q2⟩:=q2;rw[BP rfl];refine JB hp<|aN (hb O s2 σ1 H2 _ I2 q2) λf s3 q3=>?_;cases f with
  | next=>
   obtain⟨σ3,H3,I3,n3⟩:=q3;obtain⟨m',hm,w3⟩:=hN σ3 H3 n3;exact⟨m',hm,σ3,H3,I3,w3⟩
  | cont=>
   obtain⟨σ3,H3,I3,n3⟩:=q3;obtain⟨m',hm,w3⟩:=hN σ3 H3 n3;exact⟨m',hm,σ3,H3,I3,w3⟩
  | brk=>exact q3
  | ret v=>exact q3
 | false=>
  rw[BK Ax];exact TY ⟨σ1,H2,I2,q2⟩
end
structure It where
 go:Nat->Hp->Prop
 uK:Nat->Hp->V->Hp->Prop
 stop:Nat->Hp->Prop
def cr(X:Cx)(O:Ð)(H:Hp)(b:Addr):Prop:=
 H b=none/\b≠X.env.locals/\b∉X.fs/\(b∈X.ex\/X.æ.heap.objs.size<=b)/\(∀ x c,X.env.cells.lookup x=some c->c≠b)/\∀ p∈X.pn++O,p.1≠b
def Inv.gF(I:Inv X O σ H s)(hb:s.heap.objs.size<=b)(hn:H' b=none):cr X O H' b:=by
 refine⟨hn,Cw<|Bf I.lt hb,I.DU hb,.inr<|By I.sz hb,λx c e z=>?_,λp hp z=>?_⟩
 ·obtain⟨v,q⟩:=I.cell x c e;exact absurd (Bf q.lt<|by rwa[z])<|Cq _
 ·exact absurd (Bf (Ap (I.pin p hp).1)<|by rwa[z])<|Cq _
structure Turn(P:Program)(w:World)(K:PySem.W.Frag)(tg:Expr)(J:It)(fp:List Addr)(it:Addr)(tn:Nat->Heap->Prop):Prop where
 mem:it∈fp
 obj:∀ i h,tn i h->∀ b∈fp,∃ o,h.get? b=some o/\∀ v,o.data ≠ .cell v
 keep:∀ i h h',tn i h->(∀ b∈fp,∀ o,h.get? b=some o->h'.get? b=some o)->tn i h'
 item:∀X,X.U=P->X.w=w->X.K=K->X.calm=true->∀i O s σ H E,Inv X O σ H s->(∀ b∈fp,cr X O H b)->tn i s.heap->J.go i H ->
  wpAny (model P w) X.A (pyNext<|.ref it) (λr s1=>∃ u,r=some u /\
   wpAny (model P w) X.A (letOwnedTupleGo tg (.ref it) u) (λ_ s2=>∃ x H',Inv X O σ H' s2/\RelV x u/\J.uK i H x H'/\tn (i+1) s2.heap/\∀ b∈fp,H' b=none) E s1) E s
 done:∀X,X.U=P->X.w=w->X.K=K->X.calm=true->∀i O s σ H E,Inv X O σ H s->(∀ b∈fp,cr X O H b)->tn i s.heap->J.stop i H ->
  wpAny (model P w) X.A (pyNext<|.ref it) (λr s1=>r=none/\Inv X O σ H s1) E s
 self:∀A i s Q E,tn i s.heap->Q (.ref it) s->wpAny (model P w) A (pyIter<|.ref it) Q E s
abbrev TI:=St->Hp->(It->Hp->Prop)->Prop
def Pj(X:Cx)(O:Ð)(σ:St)(tg:Expr)(R:It->Hp->Prop)(oE:Value)(s2:Shared):Prop:=
 ∃it fp tn J H',oE = .ref it/\Inv X O σ H' s2/\Turn X.U X.w X.K tg J fp it tn/\tn 0 s2.heap/\(∀ b∈fp,cr X O H' b)/\R J H'
def PI(X:Cx)(tg iter:Expr)(wi:TI):Prop:=
 ∀O s σ H R,Inv X O σ H s->wi σ H R ->
  wpAny (model X.U X.w) X.A (eval iter X.env) (λv s1=>wpAny (model X.U X.w) X.A (pyIter v) (Pj X O σ tg R) X.xe s1) X.xe s
def yK{it:Addr}{n:String}{vs:Array Value}{Q:Unit->Shared->Prop}(ho:s.heap.get? it=some o)(hc:o.cls = .type n)(hd:o.data = .fields vs)
    (hn:["enumerate","zip","dict_itemiterator","dict_reverseitemiterator","odict_iterator","itertools.zip_longest","itertools.pairwise"].contains n=false) (hQ:Q () s):wpAny M A (letOwnedTupleGo tg (.ref it) u) Q E s:=by
  unfold letOwnedTupleGo;cases tg <;> first
    | exact BL hQ
    | (cases u <;> first
        | exact BL hQ
        | (refine BJ<|wpAny_load ho ?_
           rw[hc,hd];show wpAny M A (if(["enumerate","zip","dict_itemiterator","dict_reverseitemiterator","odict_iterator","itertools.zip_longest","itertools.pairwise"].contains n && vs[0]? == some (rawInt _))=true then _ else _) Q E s;rw[BK<|by intro h;rw[hn,Bool.false_and]at h;cases h];exact BL hQ))
def pV(K:PySem.W.Frag)(a:Addr):It:=
 ⟨λi H=>∃ xs x,aj K H a xs/\xs[i]?=some x,λi H x H'=>H'=H/\∀ xs,aj K H a xs->xs[i]?=some x,λi H=>∃ xs,aj K H a xs/\xs.length<=i⟩
def yL(K:PySem.W.Frag)(a:Addr):It:=
 ⟨λi H=>∃ xs x,aS K H a xs/\xs[i]?=some x,λi H x H'=>H'=H/\∀ xs,aS K H a xs->xs[i]?=some x,λi H=>∃ xs,aS K H a xs/\xs.length<=i⟩
def sN(lo:Int)(n:Nat):It:=⟨λi _=>i < n,λi H x H'=>H'=H/\x = .int (lo+i),λi _=>n<=i⟩
theorem YH(a it:Addr):Turn P w K tg (pV K a) [it] it (λi h=>h.IsListIter it a i) where
 mem:=by simp
 obj:=λi h st b hb=>by
  have e:b=it:=by simpa using hb
  subst e;obtain⟨o,e,c,d⟩:=st;exact⟨o,e,λv z=>by rw[d]at z;cases z⟩
 keep:=λi h h' st k=>st.at λo e=>k it (by simp) o e
 item:=by
  intro X hP hw hK hc i O s σ H E I hf st hg;subst hP hw hK;obtain⟨xs,x,hq,hx⟩:=hg;obtain⟨è,rv,p,hz⟩:=I.list hq;obtain⟨u,hu,ru⟩:=rv.get hx;obtain⟨f0,f1,f2,f3,f4,f5⟩:=hf it (by simp);refine wpAny_pyNext_list_item st p.isList (by simpa using hu) λh' dz sb=>?_;have I1:=I.turned (t':=s.toks) (λb o hb e=>(sb.2 b hb).trans e) f0 f1 f3 f4 f5;obtain⟨o,e,c,d⟩:=id dz;exact⟨u,rfl,yK e c d ∅ ⟨x,H,I1,ru,⟨rfl,λys hy=>by rw[I.cZ hy hq];exact hx⟩,dz,λb hb=>(hf b hb).1⟩⟩
 done:=by
  intro X hP hw hK hc i O s σ H E I hf st hg;subst hP hw hK;obtain⟨xs,hq,hx⟩:=hg;obtain⟨è,rv,p,hz⟩:=I.list hq;obtain⟨f0,f1,f2,f3,f4,f5⟩:=hf it (by simp);have hl:=rv.length;exact wpAny_pyNext_list_end (I.ok.hd hc) st p.isList (by simp;omega) λh' eb=>⟨rfl,I.turned (λb o hb e=>eb b o hb e) f0 f1 f3 f4 f5⟩
 self:=λ_ _ _ _ _ st h=>wpAny_pyIter_listiter st h
theorem YJ(a it:Addr):Turn P w K tg (yL K a) [it] it (λi h=>h.IsTupleIter it a i) where
 mem:=by simp
 obj:=λi h st b hb=>by
  have e:b=it:=by simpa using hb
  subst e;obtain⟨o,e,c,d⟩:=st;exact⟨o,e,λv z=>by rw[d]at z;cases z⟩
 keep:=λi h h' st k=>st.at λo e=>k it (by simp) o e
 item:=by
  intro X hP hw hK hc i O s σ H E I hf st hg;subst hP hw hK;obtain⟨xs,x,hq,hx⟩:=hg;obtain⟨è,rv,p,hz⟩:=I.tuple hq;obtain⟨u,hu,ru⟩:=rv.get hx;obtain⟨f0,f1,f2,f3,f4,f5⟩:=hf it (by simp);refine wpAny_pyNext_tuple_item st (show s.heap.IsTuple a è.toArray from p) (by simpa using hu) λh' dz sb=>?_;have I1:=I.turned (t':=s.toks) (λb o hb e=>(sb.2 b hb).trans e) f0 f1 f3 f4 f5;obtain⟨o,e,c,d⟩:=id dz;exact⟨u,rfl,yK e c d ∅ ⟨x,H,I1,ru,⟨rfl,λys hy=>by rw[I.jj hy hq];exact hx⟩,dz,λb hb=>(hf b hb).1⟩⟩
 done:=by
  intro X hP hw hK hc i O s σ H E I hf st hg;subst hP hw hK;obtain⟨xs,hq,hx⟩:=hg;obtain⟨è,rv,p,hz⟩:=I.tuple hq;obtain⟨f0,f1,f2,f3,f4,f5⟩:=hf it (by simp);have hl:=rv.length;exact wpAny_pyNext_tuple_end (I.ok.hd hc) st (show s.heap.IsTuple a è.toArray from p) (by simp;omega) λh' eb=>⟨rfl,I.turned (λb o hb e=>eb b o hb e) f0 f1 f3 f4 f5⟩
 self:=λ_ _ _ _ _ st h=>wpAny_pyIter_tupleiter st h
theorem YK(it:Addr)(lo:Int)(n:Nat):Turn P w K tg (sN lo n) [it] it (λi h=>IsRangeIter h it (lo+(i:Nat) * 1) ((n:Int) - (i:Nat)) 1) where
 mem:=by simp
 obj:=λi h st b hb=>by
  have e:b=it:=by simpa using hb
  subst e;exact⟨_,st,λv z=>by
   have z':=z;cases z'⟩
 keep:=λi h h' st k=>k it (by simp) _ st
 item:=by
  intro X hP hw hK hc i O s σ H E I hf st hg;subst hP hw hK;obtain⟨f0,f1,f2,f3,f4,f5⟩:=hf it (by simp);have W:=Walks.range (prog:=X.U) (w:=X.w) (I.ok.hd hc) it lo 1 n;refine W.item i s _ _ hg st λv h' tk hv dz kk=>?_;obtain⟨t,rfl⟩:=hv;have I1:Inv X O σ H {s with heap:=h',toks:=tk}:=I.turned (λb o hb e=>kk b o (by simpa using hb) e) f0 f1 f3 f4 f5;refine⟨_,rfl,yK dz rfl rfl ∅ ⟨.int<|lo+i,H,I1,⟨t,?_⟩,⟨rfl,rfl⟩,dz,λb hb=>(hf b hb).1⟩⟩;rw[Int.mul_one]
 done:=by
  intro X hP hw hK hc i O s σ H E I hf st hg;subst hP hw hK;obtain⟨f0,f1,f2,f3,f4,f5⟩:=hf it (by simp);exact wpAny_pyNext_range_end (I.ok.hd hc) st (by have:n<=i:=hg;omega) λh' eb=>⟨rfl,I.turned (λb o hb e=>eb b o hb e) f0 f1 f3 f4 f5⟩
 self:=λ_ _ _ _ _ st h=>wpAny_pyIter_rangeiter st h
variable{tl:TE}{l iter:Expr}{fp:List Addr}{p:Addr×Obj}
def YL(K:PySem.W.Frag)(tl:TE):TI:=λσ H R=>tl σ H λx H1=>∃ a,x = .ref a/\(∃ xs,aj K H1 a xs)/\R (pV K a) H1
def EB(K:PySem.W.Frag)(tl:TE):TI:=λσ H R=>tl σ H λx H1=>∃ a,x = .ref a/\(∃ xs,aS K H1 a xs)/\R (yL K a) H1
def eB(hl:PE X l tl):PI X tg l (YL X.K tl):=by
 intro O s σ H R I h;refine aN (hl O s σ H _ I h) λv s1 ⟨x,H1,I1,r1,q1⟩=>?_;obtain⟨a,e,⟨xs,hq⟩,q⟩:=q1;subst e;cases r1;obtain⟨è,rv,p,hz⟩:=I1.list hq;refine MK p.isList<|⟨s1.heap.objs.size,[s1.heap.objs.size],_,_,H1,rfl,I1.kept λb o e=>Ae _ e,YH a _,⟨_,Ao _ rfl,rfl,rfl⟩,λb hb=>?_,q⟩;have e:b=s1.heap.objs.size:=by simpa using hb
 subst e;exact I1.gF (Am _)<|I1.aF.fresh<|Am _
def YM(hl:PE X l tl):PI X tg l (EB X.K tl):=by
 intro O s σ H R I h;refine aN (hl O s σ H _ I h) λv s1 ⟨x,H1,I1,r1,q1⟩=>?_;obtain⟨a,e,⟨xs,hq⟩,q⟩:=q1;subst e;cases r1;obtain⟨è,rv,p,hz⟩:=I1.tuple hq;refine wpAny_pyIter_tuple (show s1.heap.IsTuple a è.toArray from p)<|⟨s1.heap.objs.size,[s1.heap.objs.size],_,_,H1,rfl,I1.kept λb o e=>Ae _ e,YJ a _,⟨_,Ao _ rfl,rfl,rfl⟩,λb hb=>?_,q⟩;have e:b=s1.heap.objs.size:=by simpa using hb
 subst e;exact I1.gF (Am _)<|I1.aF.fresh<|Am _
theorem YN{R:It->Hp->Prop}{lo hi:Int}{t u v:Tok}{tk:Nat}(I:Inv X O σ H s)(h1:-(2 ^ 62)<=lo)(h2:lo < 2 ^ 62)(h3:-(2 ^ 62)<=hi)(h4:hi < 2 ^ 62)
  (q:R (sN lo (hi - lo).toNat) H):wpAny (model X.U X.w) X.A (pyIter<|.ref s.heap.objs.size) (Pj X O σ tg R) E {s with heap:=s.heap.push {cls:= .type "range",data:= .fields #[.int lo t,.int hi u,.int 1 v]},toks:=tk}:=by
 refine wpAny_pyIter_range (IsRange.new ..) (small_one h1 h2 h3 h4) ?_;have I1:Inv X O σ H {s with heap:=s.heap.push {cls:= .type "range",data:= .fields #[.int lo t,.int hi u,.int 1 v]},toks:=tk}:=I.kept λb o e=>Ae _ e;refine⟨(s.heap.push {cls:= .type "range",data:= .fields #[.int lo t,.int hi u,.int 1 v]}).objs.size,[(s.heap.push {cls:= .type "range",data:= .fields #[.int lo t,.int hi u,.int 1 v]}).objs.size],_,_,H,rfl,
  I1.kept λb o e=>Ae _ e,YK _ lo (hi - lo).toNat,?_,λb hb=>?_,q⟩
 ·have e1:lo+((0:Nat):Int) * 1=lo:=by simp
  have e2:(((hi - lo).toNat:Nat):Int) - ((0:Nat):Int)=Builtin.Range.rangeSize lo hi 1:=by rw[rangeSize_one];split <;> omega
  show IsRangeIter _ _ (lo+((0:Nat):Int) * 1) ((((hi - lo).toNat:Nat):Int) - ((0:Nat):Int)) 1;rw[e1,e2];exact Ao _ rfl
 ·have e:b=(s.heap.push {cls:= .type "range",data:= .fields #[.int lo t,.int hi u,.int 1 v]}).objs.size:=by simpa using hb
  subst e;exact I1.gF (Am _)<|I1.aF.fresh<|Am _
def Pk(ta:TA):TI:=λσ H R=>ta σ H λvs H1=>∃ j:Int,vs=[.int j]/\-(2 ^ 62)<=j/\j < 2 ^ 62/\R (sN 0 j.toNat) H1
theorem yM{a:Expr}{ta:TA}{p pos:Pos}(hg:Gl X "range")(hm:X.mg "range" = none)(ha:PA X [a] ta)(hs:starEach [a] X.env=[(false,eval a X.env)]:=by rfl):PI X tg (.Call (.Name "range" p) [a] [] pos) (Pk ta):=by
 intro O s σ H R I h;refine Call_<|oD I hg hm boot_range<|IV (aN (ha pos O s σ H _ I h) λus s1 ⟨vs,H1,I1,r1,q1⟩=>?_) hs rfl;obtain⟨j,e,q1,q2,q⟩:=q1;subst e;cases r1 with
 | cons r rr=>
  cases rr;obtain⟨t,rfl⟩:=r;exact call_range_1<|YN I1 ⋯ ⋯ q1 q2<|by simpa using q
def EC(wi:TI)(g:TG)(tb:TS):TS:=λD σ H=>wi σ H λJ H1=>∃ W:Nat->Nat->St->Hp->Prop,(∃ m,W 0 m σ H1)/\∀ i m σ H,W i m σ H ->
 (J.stop i H/\D.nx σ H)\/(J.go i H/\∃ N:St->Hp->Prop,(∀ σ' H',N σ' H'->∃ m',m' < m/\W (i+1) m' σ' H')/\∀ x H',J.uK i H x H'->g x σ H' λσ2 H2=>tb {D with nx:=N,ct:=N,bk:=D.nx} σ2 H2)
def uL(fp:List Addr)(h:Heap):Ð:=fp.filterMap λb=>(h.get? b).map λo=>(b,o)
def yN(hb:b∈fp)(e:h.get? b=some o):(b,o)∈uL fp h:=Fx.mpr ⟨b,hb,by rw[e];rfl⟩
theorem YQ(hp:p∈uL fp h):p.1∈fp/\h.get? p.1=some p.2:=by
 obtain⟨b,hb,e⟩:=Fx.mp hp;cases q:h.get? b with
 | none=>rw[q]at e;cases e
 | some o=>
  rw[q]at e;have e':=Option.some.inj e;subst e';exact⟨hb,q⟩
def Inv.pinned(I:Inv X O σ H s)(hf:∀ b∈fp,cr X O H b)(ho:∀ b∈fp,∃ o,s.heap.get? b=some o/\∀ v,o.data ≠ .cell v):Inv X (O++uL fp s.heap) σ H s:=
 I.iU λp hp=>(An.mp hp).elim (λz=>I.pin p<|Av _ z) λz=>by
  obtain⟨hb,e⟩:=YQ z;obtain⟨f0,f1,f2,_⟩:=hf p.1 hb;obtain⟨o,e',d⟩:=ho p.1 hb;rw[e]at e';cases e';exact⟨e,f0,f1,f2,d⟩
def Inv.c6{pl:Ð}(I:Inv X (O++pl) σ H s):Inv X O σ H s:=I.iU λp hp=>I.pin p<|Av _<|Az _ hp
def YR{wi:TI}{g:TG}{pos:Pos}(hp:PassesOwn (model X.U X.w) X.A X.env X.xe)(hc:X.calm=true)(hi:PI X tg iter wi)(hg:PG X tg g)(hb:ji X body tb)
  (hs:∀ x,foldedSetIterable iter X.env x=pure x:=by intro _;rfl):PS X (.For tg iter body [] pos) (EC wi g tb):=by
 intro O s σ H D I h;refine wpAny_For (aN (hi O s σ H _ I h) λv s1 h1=>aN h1 λoE s2 h2=>?_) hs;obtain⟨it,fp,tn,J,H2,e,I2,T,gm,f2,W,⟨m0,w0⟩,turn⟩:=h2;subst e;have stat:∀{H':Hp},(∀ b∈fp,H' b=none)->∀ b∈fp,cr X O H' b:=λhn b hb=>⟨hn b hb,(f2 b hb).2⟩;refine codeAny_forLoop_any (λn s'=>∃ i σ' H',Inv X O σ' H' s'/\tn i s'.heap/\(∀ b∈fp,H' b=none)/\W i n σ' H') ?_ m0 ⟨0,σ,H2,I2,gm,λb hb=>(f2 b hb).1,w0⟩;rintro n s3 ⟨i,σ3,H3,I3,Pn,Pp,w3⟩
 rcases turn i n σ3 H3 w3 with ⟨stop,qn⟩ | ⟨go,N,hN,step⟩
 ·refine JB hp<|aN (T.done X rfl rfl rfl hc i O s3 σ3 H3 X.xe I3 (stat Pp) Pn stop) λr s4 ⟨hr,I4⟩=>?_;subst hr;exact TY ⟨σ3,H3,I4,qn⟩
 ·refine JB hp<|aN (T.item X rfl rfl rfl hc i O s3 σ3 H3 X.xe I3 (stat Pp) Pn go) λr s4 ⟨u,hr,h4⟩=>?_;subst hr;refine JB hp<|aN h4 λ_ s5 ⟨x,H5,I5,r5,y5,ED,YS⟩=>?_;have YT:=I5.pinned (stat YS)<|T.obj _ _ ED;refine JB hp<|aN (hg _ s5 σ3 H5 x u _ YT r5<|step x H5 y5) λ_ s6 ⟨σ6,H6,I6,q6⟩=>?_;refine JB hp<|aN (hb _ s6 σ6 H6 _ I6 q6) λf s7 q7=>?_;have again:∀{σ7:St} {H7:Hp},Inv X (O++uL fp s5.heap) σ7 H7 s7->N σ7 H7->∃ m,m < n/\∃ i σ' H',Inv X O σ' H' s7/\tn i s7.heap/\(∀ b∈fp,H' b=none)/\W i m σ' H':=λ{σ7 H7} I7 n7=>by
   obtain⟨m',hm,w7⟩:=hN σ7 H7 n7;refine⟨m',hm,i+1,σ7,H7,I7.c6,T.keep _ _ _ ED λb hb o e=>(I7.pin (b,o)<|Av _<|Av _<|yN hb e).1,λb hb=>?_,w7⟩;obtain⟨o,e,d⟩:=T.obj _ _ ED b hb;exact(I7.pin (b,o)<|Av _<|Av _<|yN hb e).2.1
  cases f with
  | next=>obtain⟨σ7,H7,I7,n7⟩:=q7;exact again I7 n7
  | cont=>obtain⟨σ7,H7,I7,n7⟩:=q7;exact again I7 n7
  | brk=>obtain⟨σ7,H7,I7,q7⟩:=q7;exact⟨σ7,H7,I7.c6,q7⟩
  | ret v=>obtain⟨x7,σ7,H7,I7,r7,q7⟩:=q7;exact⟨x7,σ7,H7,I7.c6,r7,q7⟩
abbrev R2:=V->V->Hp->VK->Prop
def cG(X:Cx)(f:Value->Value->Sem Value)(r:R2):Prop:=
 ∀O s σ H x y v u Q,Inv X O σ H s->RelV x v->RelV y u->r x y H Q ->
  wpAny (model X.U X.w) X.A (f v u) (EP X O σ Q) X.xe s
def yO(X:Cx)(f:Value->Sem Value)(r:V->Hp->VK->Prop):Prop:=
 ∀O s σ H x v Q,Inv X O σ H s->RelV x v->r x H Q ->
  wpAny (model X.U X.w) X.A (f v) (EP X O σ Q) X.xe s
def fE(X:Cx)(f:Value)(r:List V->Hp->VK->Prop):Prop:=
 ∀O s σ H xs us Q,Inv X O σ H s->az xs us->r xs H Q ->
  wpAny (model X.U X.w) X.A (call f us) (EP X O σ Q) X.xe s
def EE(X:Cx)(r:V->Hp->(Bool->Hp->Prop)->Prop):Prop:=
 ∀O s σ H x v Q,Inv X O σ H s->RelV x v->r x H Q ->
  wpAny (model X.U X.w) X.A (truthy v) (TP X O σ Q) X.xe s
def yP(r:R2)(ta tb:TE):TE:=λσ H Q=>ta σ H λx H1=>tb σ H1 λy H2=>r x y H2 Q
def YV(r:V->Hp->VK->Prop)(ta:TE):TE:=λσ H Q=>ta σ H λx H1=>r x H1 Q
def rI(C:Int->Int->Prop)(g:Int->Int->V):R2:=λx y H Q=>∃ i j,x = .int i/\y = .int j/\C i j/\Q (g i j) H
def oF(g:Int->Int->V):R2:=λx y H Q=>∃ i j,x = .int i/\y = .int j/\Q (g i j) H
def rU(g:Int->V):V->Hp->VK->Prop:=λx H Q=>∃ i,x = .int i/\Q (g i) H
variable{f:Value->Value->Sem Value}{C:Int->Int->Prop}{è us:Ó}
section
variable{a b:Expr}{tb tc:TE}{pos:Pos}
def pW(ha:PE X a ta)(hb:PE X b tb)(I:Inv X O σ H s)
  (h:ta σ H λx H1=>tb σ H1 λy H2=>R x y H2)  
  (hf:∀ v u s2 x y H2,Inv X O σ H2 s2->RelV x v->RelV y u->R x y H2->wpAny (model X.U X.w) X.A (f v u) Q X.xe s2) :
  wpAny (model X.U X.w) X.A (eval a X.env) (λv À=>wpAny (model X.U X.w) X.A (eval b X.env) (λu Á=>wpAny (model X.U X.w) X.A (f v u) Q X.xe Á) X.xe À) X.xe s:=by
 refine aN (ha O s σ H _ I h) λv s1 ⟨x,H1,I1,r1,q1⟩=>?_;refine aN (hb O s1 σ H1 _ I1 q1) λu s2 ⟨y,H2,I2,r2,q2⟩=>?_;exact hf v u s2 x y H2 I2 r1 r2 q2
def YW{op:Operator}{r:R2}(ho:cG X (binaryOp op) r)(ha:PE X a ta)(hb:PE X b tb):PE X (.BinOp a op b pos) (yP r ta tb):=by
 intro O s σ H Q I h;exact wpAny_BinOp<|pW ha hb I h λv u s2 x y H2 I2 rx ry q=>ho O s2 σ H2 x y v u Q I2 rx ry q
def YX{op:UnaryOp}{r:V->Hp->VK->Prop}(ho:yO X (unaryOp op) r)(ha:PE X a ta):PE X (.UnaryOp op a pos) (YV r ta):=by
 intro O s σ H Q I h;exact UnaryOp_<|aN (ha O s σ H _ I h) λv s1 ⟨x,H1,I1,r1,q1⟩=>ho O s1 σ H1 x v Q I1 r1 q1
def uM{g:Int->Int->Int}
  (rule:∀i j t u s Q E,C i j->Q (.int (g i j) s.toks) {s with toks:=s.toks+1}->wpAny (model X.U X.w) X.A (f (.int i t)<|.int j u) Q E s) :
  cG X f (rI C λi j=> .int<|g i j):=by
 intro O s σ H x y v u Q I rx ry h;obtain⟨i,j,rfl,rfl,hc,q⟩:=h;obtain⟨t,rfl⟩:=rx;obtain⟨t',rfl⟩:=ry;exact rule i j t t' s _ _ hc ⟨.int<|g i j,H,I.tok _,⟨_,rfl⟩,q⟩
def pX{g:Int->Int->Int}
  (rule:∀i j t u s Q E,Q (.int (g i j) s.toks) {s with toks:=s.toks+1}->wpAny (model X.U X.w) X.A (f (.int i t)<|.int j u) Q E s) :
  cG X f (oF λi j=> .int<|g i j):=by
 intro O s σ H x y v u Q I rx ry h;obtain⟨i,j,rfl,rfl,q⟩:=h;obtain⟨t,rfl⟩:=rx;obtain⟨t',rfl⟩:=ry;exact rule i j t t' s _ _ ⟨.int<|g i j,H,I.tok _,⟨_,rfl⟩,q⟩
def pY{g:Int->Int->Bool}
  (rule:∀i j t u s Q E,Q (.bool<|g i j) s->wpAny (model X.U X.w) X.A (f (.int i t)<|.int j u) Q E s) :
  cG X f (oF λi j=> .bl<|g i j):=by
 intro O s σ H x y v u Q I rx ry h;obtain⟨i,j,rfl,rfl,q⟩:=h;obtain⟨t,rfl⟩:=rx;obtain⟨t',rfl⟩:=ry;exact rule i j t t' s _ _ ⟨.bl<|g i j,H,I,rfl,q⟩
def uN(i j:Int):Prop:=0 < j/\j < 1073741824
def EF(i j:Int):Prop:=0<=j/\j<=1000000/\i.natAbs < 2 ^ 64
def pZ(i j:Int):Prop:=(-(2 ^ 64) < i/\i < 2 ^ 64)\/(-(2 ^ 64) < j/\j < 2 ^ 64)
def pZ.ok{i j:Int}(h:pZ i j):IntMulOk i j:=by
 rcases h with ⟨h1,h2⟩ | ⟨h1,h2⟩
 ·exact .of_left<|intBits_le_64 h1 h2
 ·exact .of_right<|intBits_le_64 h1 h2
def YY(k:Nat):(0:Int)<=2 ^ k:=by
 rw[two_pow_cast];exact Int.natCast_nonneg _
def fj:cG X (binaryOp .Add) (oF λi j=> .int<|i+j):=pX λ_ _ _ _ _ _ _ q=>add_int q
def Pq:cG X (binaryOp .Sub) (oF λi j=> .int<|i - j):=pX λ_ _ _ _ _ _ _ q=>sub_int q
def yQ:cG X (binaryOp .Mult) (rI pZ λi j=> .int<|i * j):=uM λ_ _ _ _ _ _ _ hc q=>mul_int q hc.ok
theorem iY:cG X (binaryOp .FloorDiv) (rI uN λi j=> .int<|i / j):=uM λi j _ _ _ _ _ hc q=>by
 have h1:(0:Int) < j:=hc.1;have h2:j < 1073741824:=hc.2;exact floordiv_int ⋯ (by rwa[RJ i<|⋯])<|.inl<|PyProof.noPylong_small<|⋯
theorem cJ:cG X (binaryOp .Mod) (rI (λ_ j=>0 < j) λi j=> .int<|i % j):=uM λi j _ _ _ _ _ hc q=>by
 exact mod_int' ⋯<|by rwa[Int.fmod_eq_emod_of_nonneg i<|⋯]
def EG:cG X (binaryOp .Pow) (rI EF λi j=> .int<|i ^ j.toNat):=uM λ_ _ _ _ _ _ _ hc q=>pow_int_small hc.1 hc.2.1 hc.2.2 q
def Pt:cG X (binaryOp .RShift) (rI (λ_ j=>0<=j) λi j=> .int<|i / 2 ^ j.toNat):=uM λi j _ _ _ _ _ hc q=>
 rshift_int hc (by rwa[RJ i<|YY _])
def YZ:cG X (binaryOp .BitAnd) (oF λi j=> .int<|Builtin.bitAnd i j):=pX λ_ _ _ _ _ _ _ q=>and_int q
def Y0{f:Value->Sem Value}{g:Int->Int}
  (rule:∀i t s Q E,Q (.int (g i) s.toks) {s with toks:=s.toks+1}->wpAny (model X.U X.w) X.A (f<|.int i t) Q E s) :
  yO X f (rU λi=> .int<|g i):=by
 intro O s σ H x v Q I rx h;obtain⟨i,rfl,q⟩:=h;obtain⟨t,rfl⟩:=rx;exact rule i t s _ _ ⟨.int<|g i,H,I.tok _,⟨_,rfl⟩,q⟩
def yR:yO X (unaryOp .USub) (rU λi=> .int (-i)):=Y0 λ_ _ _ _ _ q=>neg_int q
def p7:V->V->Bool
 | .non,.non=>true | .non,.int _=>true | .int _,.non=>true | .non,.bl _=>true | .bl _,.non=>true | .non,.str _=>true | .str _,.non=>true
 | .int _,.int _=>true | .bl _,.bl _=>true | .str _,.str _=>true | .jh _,.jh _=>true
 | .int _,.str _=>true | .str _,.int _=>true | .bl _,.str _=>true | .str _,.bl _=>true
 | _,_=>false
def Y1:R2:=λx y H Q=>p7 x y=true/\Q (.bl<|decide (x=y)) H
def Y2:R2:=λx y H Q=>p7 x y=true/\Q (.bl (!decide (x=y))) H
def Pu{i j:Int}:decide (V.int i=V.int j)=(i == j):=by
 rw[Cr];simp
def uO{i j:Bool}:decide (V.bl i=V.bl j)=(i == j):=by
 rw[Cr];simp
def Pw{i j:Str}:decide (V.str i=V.str j)=(i == j):=by
 rw[Cr];simp
def Px{i j:Array UInt8}:decide (V.jh i=V.jh j)=(i.toList == j.toList):=by
 rw[Cr];cases i;cases j;simp
def cK{Q:VK}{k k':Bool}(I:Inv X O σ H s)(q:Q (.bl k) H)(e:k=k'):EP X O σ Q (.bool k') s:=by
 subst e;exact⟨.bl k,H,I,rfl,q⟩
theorem jl:cG X (compareOp .Eq) Y1:=by
 intro O s σ H x y v u Q I rx ry h;obtain⟨hs,q⟩:=h;cases x with
 | non=>
  cases rx;cases y with
  | non=>cases ry;exact PySem.EqNone.eq_none_none<|cK I q<|by simp
  | bl j=>cases ry;exact PySem.EqNone.eq_none_bool<|cK I q<|by simp
  | int j=>obtain⟨t',rfl⟩:=ry;exact PySem.EqNone.eq_none_int<|cK I q<|by simp
  | str j=>obtain⟨t',rfl⟩:=ry;exact PySem.EqNone.eq_none_str<|cK I q<|by simp
  | _=>exact absurd (show false=true from hs) Ax
 | bl i=>
  cases rx;cases y with
  | non=>cases ry;exact PySem.EqNone.eq_bool_none<|cK I q<|by simp
  | bl j=>cases ry;exact eq_bool<|cK I q uO
  | str j=>obtain⟨t',rfl⟩:=ry;exact PySem.EqMixed.eq_bool_str<|cK I q<|by simp
  | _=>exact absurd (show false=true from hs) Ax
 | int i=>
  obtain⟨t,rfl⟩:=rx;cases y with
  | non=>cases ry;exact PySem.EqNone.eq_int_none<|cK I q<|by simp
  | int j=>obtain⟨t',rfl⟩:=ry;exact eq_int<|cK I q Pu
  | str j=>obtain⟨t',rfl⟩:=ry;exact PySem.EqMixed.eq_int_str<|cK I q<|by simp
  | _=>exact absurd (show false=true from hs) Ax
 | str i=>
  obtain⟨t,rfl⟩:=rx;cases y with
  | non=>cases ry;exact PySem.EqNone.eq_str_none<|cK I q<|by simp
  | bl j=>cases ry;exact PySem.EqMixed.eq_str_bool<|cK I q<|by simp
  | int j=>obtain⟨t',rfl⟩:=ry;exact PySem.EqMixed.eq_str_int<|cK I q<|by simp
  | str j=>obtain⟨t',rfl⟩:=ry;exact eq_str<|cK I q Pw
  | _=>exact absurd (show false=true from hs) Ax
 | jh i=>
  obtain⟨t,rfl⟩:=rx;cases y with
  | jh j=>obtain⟨t',rfl⟩:=ry;exact PySem.W.eq_bytes<|cK I q Px
  | _=>exact absurd (show false=true from hs) Ax
 | _=>cases y <;> exact absurd (show false=true from hs) Ax
theorem yS:cG X (compareOp .NotEq) Y2:=by
 intro O s σ H x y v u Q I rx ry h;obtain⟨hs,q⟩:=h;cases x with
 | non=>
  cases rx;cases y with
  | non=>cases ry;exact PySem.EqNone.ne_none_none<|cK I q<|by simp
  | bl j=>cases ry;exact PySem.EqNone.ne_none_bool<|cK I q<|by simp
  | int j=>obtain⟨t',rfl⟩:=ry;exact PySem.EqNone.ne_none_int<|cK I q<|by simp
  | str j=>obtain⟨t',rfl⟩:=ry;exact PySem.EqNone.ne_none_str<|cK I q<|by simp
  | _=>exact absurd (show false=true from hs) Ax
 | bl i=>
  cases rx;cases y with
  | non=>cases ry;exact PySem.EqNone.ne_bool_none<|cK I q<|by simp
  | bl j=>cases ry;exact ne_bool<|cK I q<|BZ not uO
  | str j=>obtain⟨t',rfl⟩:=ry;exact PySem.EqMixed.ne_bool_str<|cK I q<|by simp
  | _=>exact absurd (show false=true from hs) Ax
 | int i=>
  obtain⟨t,rfl⟩:=rx;cases y with
  | non=>cases ry;exact PySem.EqNone.ne_int_none<|cK I q<|by simp
  | int j=>obtain⟨t',rfl⟩:=ry;exact ne_int<|cK I q<|BZ not Pu
  | str j=>obtain⟨t',rfl⟩:=ry;exact PySem.EqMixed.ne_int_str<|cK I q<|by simp
  | _=>exact absurd (show false=true from hs) Ax
 | str i=>
  obtain⟨t,rfl⟩:=rx;cases y with
  | non=>cases ry;exact PySem.EqNone.ne_str_none<|cK I q<|by simp
  | bl j=>cases ry;exact PySem.EqMixed.ne_str_bool<|cK I q<|by simp
  | int j=>obtain⟨t',rfl⟩:=ry;exact PySem.EqMixed.ne_str_int<|cK I q<|by simp
  | str j=>obtain⟨t',rfl⟩:=ry;exact ne_str<|cK I q<|BZ not Pw
  | _=>exact absurd (show false=true from hs) Ax
 | jh i=>
  obtain⟨t,rfl⟩:=rx;cases y with
  | jh j=>obtain⟨t',rfl⟩:=ry;exact PySem.W.ne_bytes<|cK I q<|BZ not Px
  | _=>exact absurd (show false=true from hs) Ax
 | _=>cases y <;> exact absurd (show false=true from hs) Ax
def Py:cG X (compareOp .Lt) (oF λi j=> .bl<|decide (i < j)):=pY λ_ _ _ _ _ _ _ q=>lt_int q
def Y3:cG X (compareOp .Gt) (oF λi j=> .bl<|decide (j < i)):=pY λ_ _ _ _ _ _ _ q=>gt_int q
def Y4:cG X (compareOp .GtE) (oF λi j=> .bl<|decide (j<=i)):=pY λ_ _ _ _ _ _ _ q=>ge_int q
def Y5:cG X (compareOp .Is) (λx y H Q=>y = .non/\Q (.bl<|decide (x = .non)) H):=by
 intro O s σ H x y v u Q I rx ry h;obtain⟨rfl,q⟩:=h;cases ry;refine is_none_gen<|cK I q ?_;cases x <;> first
  | (cases rx;rfl)
  | (obtain⟨t,rfl⟩:=rx;rfl)
def Y6:cG X (compareOp .IsNot) (λx y H Q=>y = .non/\Q (.bl (!decide (x = .non))) H):=by
 intro O s σ H x y v u Q I rx ry h;obtain⟨rfl,q⟩:=h;cases ry;refine isnot_none_gen<|cK I q ?_;cases x <;> first
  | (cases rx;rfl)
  | (obtain⟨t,rfl⟩:=rx;rfl)
def Y7{r:R2}(ho:cG X (compareOp op) r)(ha:PE X a ta)(hb:PE X b tb)(hm:behindInMarks op b=false):PE X (.Compare a [op] [b] pos) (yP r ta tb):=by
 intro O s σ H Q I h;exact wpAny_Compare1 (pW ha hb I h λv u s2 x y H2 I2 rx ry q=>ho O s2 σ H2 x y v u Q I2 rx ry q) hm
def Y8(t:TE):TT:=λσ H Q=>t σ H λx H'=>∃ k,x = .bl k/\Q k H'
def Y9{r:R2}(ho:cG X (compareOp op) r)(ha:PE X a ta)(hb:PE X b tb)(hm:behindInMarks op b=false):PT X (.Compare a [op] [b] pos) (Y8<|yP r ta tb):=by
 intro O s σ H Q I h;refine wpAny_isTrue_Compare1 (aN (ha O s σ H _ I h) λv s1 ⟨x,H1,I1,r1,q1⟩=>aN (hb O s1 σ H1 _ I1 q1) λu s2 ⟨y,H2,I2,r2,q2⟩=>
  aN (ho O s2 σ H2 x y v u _ I2 r1 r2 q2) λc s3 ⟨z,H3,I3,r3,k,e,q3⟩=>?_) hm
 subst e;cases r3;exact DY ⟨H3,I3,q3⟩
def mB(K:PySem.W.Frag)(x:V)(H:Hp)(k:Bool):Prop:=
 match x with
 | .non=>k=false
 | .bl b=>k=b
 | .int i=>k=(i != 0)
 | .str y=>y.length<=sizeLine/\k=((y.length:Int) != 0)
 | .jh y=>y.size<=sizeLine/\k=((y.size:Int) != 0)
 | .ref p=>(∃ xs,aj K H p xs/\k = !xs.isEmpty)\/(∃ xs,aS K H p xs/\k = !xs.isEmpty)\/∃ Y,H p=some (.dK Y)/\k = !Y.isEmpty
 | _=>False
def Y'{κ:Type}{Y:List (κ×V)}{vs:List (κ×Value)}(r:KV Y vs):(!vs.isEmpty) = !Y.isEmpty:=by
 cases r <;> rfl
def Pz(r:az xs è):(!è.toArray.isEmpty) = !xs.isEmpty:=by
 cases r <;> simp
def uP:(sizeLine:Nat) < 2 ^ 63:=by rw[FJ];decide
theorem PD:EE X (λx H Q=>∃ k,mB X.K x H k/\Q k H):=by
 intro O s σ H x v Q I rx h;obtain⟨k,e,q⟩:=h;have hs:sizeLine=16777216:=FJ;cases x with
 | non=>
  cases rx;have e':=e;subst e';exact truthy_none ⟨H,I,q⟩
 | bl b=>
  cases rx;have e':=e;subst e';exact DY ⟨H,I,q⟩
 | int i=>
  obtain⟨t,rfl⟩:=rx;have e':=e;subst e';exact PySem.P.truthy_int ⟨H,I,q⟩
 | str y=>
  obtain⟨t,rfl⟩:=rx;obtain⟨hy,e'⟩:y.length<=sizeLine/\k=((y.length:Int) != 0):=e;subst e';exact PySem.P.truthy_str ⋯ ⟨H,I.tok _,q⟩
 | jh y=>
  obtain⟨t,rfl⟩:=rx;obtain⟨hy,e'⟩:y.size<=sizeLine/\k=((y.size:Int) != 0):=e;subst e';exact PySem.W.truthy_bytes ⋯ ⟨H,I.tok _,q⟩
 | ref p=>
  cases rx;have e':=e
  rcases e' with ⟨xs,hx,e'⟩ | ⟨xs,hx,e'⟩ | ⟨Y,hx,e'⟩
  ·subst e';obtain⟨è,r,pl,hz⟩:=I.list hx;have hlen:=r.length;exact wpAny_truthy_list pl.isList (by simp only[Aw];omega) ⟨H,I.tok _,by rwa[Pz r]⟩
  ·subst e';obtain⟨è,r,pl,hz⟩:=I.tuple hx;have hlen:=r.length;exact truthy_tuple pl (by simp only[Aw];omega) ⟨H,I.tok _,by rwa[Pz r]⟩
  ·subst e';obtain⟨hz,hS,vs,r,m⟩:Y.length<=sizeLine/\(p == sysModules)=false/\∃ vs,KV Y vs/\s.heap.DictOf (dM X.U X.w) p vs:=I.aF p _ hx;have hlen:Y.length=vs.length:=Paired.length r;exact wpAny_truthy_dict hS m ⋯ ⟨H,I.tok _,by rwa[Y' r]⟩
 | _=>exact(show False from e).elim
def Za(ha:PE X a ta)(he:∀ whole,isTrue a X.env whole=(do let v <- whole;standAt a.pos;holding [v] (truthy v))) :
  PT X a (λσ H Q=>ta σ H λx H'=>∃ k,mB X.K x H' k/\Q k H'):=by
 intro O s σ H Q I h;exact isTrue_plain (aN (ha O s σ H _ I h) λv s1 ⟨x,H1,I1,r1,q1⟩=>PD O s1 σ H1 x v Q I1 r1 q1)<|he _
def Zb:cG X (binaryOp .Add) (λx y H Q=>∃ i j,x = .str i/\y = .str j/\i.length+j.length<=sizeLine/\Q (.str<|i++j) H):=by
 intro O s σ H x y v u Q I rx ry h;obtain⟨i,j,rfl,rfl,hz,q⟩:=h;obtain⟨t,rfl⟩:=rx;obtain⟨t',rfl⟩:=ry;exact add_str (λt' tk=>⟨.str<|i++j,H,I.tok _,⟨_,rfl⟩,q⟩) hz
theorem vals1{x:V}(r:az [x] us):∃ u,us=[u]/\RelV x u:=by
 cases r with
 | cons r1 r2=>cases r2;exact⟨_,rfl,r1⟩
theorem vals2{x y:V}(r:az [x,y] us):∃ u w',us=[u,w']/\RelV x u/\RelV y w':=by
 cases r with
 | cons r1 r2=>
  cases r2 with
  | cons r3 r4=>cases r4;exact⟨_,_,rfl,r1,r3⟩
def PF(hc:X.calm=true):fE X (.builtin "max") (λxs H Q=>∃ i j,xs=[.int i,.int j]/\Q (.int (if j > i then j else i)) H):=by
 intro O s σ H xs us Q I r h;obtain⟨i,j,rfl,q⟩:=h;obtain⟨u,w',rfl,⟨t,rfl⟩,⟨t',rfl⟩⟩:=vals2 r;refine max_two_ints (I.ok.hd hc) λh' tk k=>⟨_,H,I.kept k,?_,q⟩
 by_cases hj:j > i
 ·rw[BP hj,BP hj];exact⟨_,rfl⟩
 ·rw[BK hj,BK hj];exact⟨_,rfl⟩
end
structure p8(h:Heap)(x dx C:Addr)(mA:Ò):Prop where
 obj:h.get? x=some (PySem.W.instObj C dx)
 ns:h.Ns1 dx mA
 ne:dx≠x
variable{mA:Ò}{dx:Addr}
def Zc(n:h.Ns1 dx mA):∃ od,h.get? dx=some od/\∀ name,PySem.W.lookIn name od=some (mA name):=by
 obtain⟨o,es,ep,ho,hd,hk,_,hm⟩:=n;refine⟨o,ho,λname=>?_⟩;have e:=hm name;unfold nsFind findBy at e;rw[<- Array.find?_toList]at e;unfold PySem.W.lookIn;rw[hd]
 dsimp only
 split
 ·rename_i y q;rw[q]at e;exact BZ some e
 ·rename_i q;rw[q]at e;have a:es.toList.any (·.refKey)=false:=by
   rw[List.any_eq_false];intro y hy;obtain⟨z,t,EH⟩:=hk y<|Array.mem_toList_iff.mp hy;simp[DictEntry.refKey,EH]
  have a':¬ es.toList.any (·.refKey)=true:=by rw[a];exact Ax
  rw[BK a'];exact BZ some e
def p8.look{x C:Addr}(I:p8 h x dx C mA):∃ od,PySem.W.InstAt h x (PySem.W.instObj C dx) C (some od)/\∀ name,PySem.W.lookIn name od=some (mA name):=
 let ⟨od,ho,hl⟩:=Zc I.ns
 ⟨od,⟨I.obj,rfl,rfl,ho⟩,hl⟩
variable{name:Str}{U:Program}
theorem eI.some_of{o:Option Value}(r:eI (some v) o):∃ u,o=some u/\RelV v u:=by
 cases o with
 | none=>exact(show False from r).elim
 | some u=>exact⟨u,rfl,r⟩
section
variable{C:Addr}{fs X1:List (Str×V)}
def Zd(aF:cg P w H h)(e:H a=some (.ins C dx fs)):∃ mA,p8 h a dx C mA/\(∀ f,eI (fs.lookup f)<|mA f)/\PySem.Within mA (fs.map (·.1))/\fs.length<=1000/\H dx=some (.own a):=by
 obtain⟨d,z,ne,ob,mA,n,r,q⟩:=(show aB P w H h a (.ins C dx fs)from aF a _ e);exact⟨mA,⟨ob,n,ne⟩,r,q,z,d⟩
end
structure EI(K:PySem.W.Frag)(C:Addr):Prop where
 pg:PySem.W.plainGet K C Str.empty=true
 hd:PySem.W.hasDictIn K C=true
 po:PySem.W.plainOver K C=true
 sa:PySem.W.findIn K (.ref C) "__setattr__" = some (some<|.builtin "object.__setattr__")
def EI.get{K:PySem.W.Frag}{C:Addr}(c:EI K C)(f:Str):PySem.W.plainGet K C f=true:=c.pg
section
variable{c:Value}{b:Bool}
inductive dA (K:PySem.W.Frag) (H:Hp):V->Value->Prop where
 | non:dA K H .non<|.type "NoneType"
 | bl (x:Bool):dA K H (.bl x)<|.type "bool"
 | int (i:Int):dA K H (.int i)<|.type "int"
 | str (x:Str):dA K H (.str x)<|.type "str"
 | sv (x:UInt64):dA K H (.sv x)<|.type "float"
 | lst {a:Addr} {xs:List V} (e:H a=some (.lst xs)):dA K H (.ref a)<|.type "list"
 | bB {a:Addr} {o:Obj} {xs:List V} (e:H a=some (.bB o<|.lst xs)):dA K H (.ref a)<|.type "list"
 | tup {a:Addr} {xs:List V} (e:H a=some (.tup xs)):dA K H (.ref a)<|.type "tuple"
 | dK {a:Addr} {Y:List (Key×V)} (e:H a=some (.dK Y)):dA K H (.ref a)<|.type "dict"
 | dT {a:Addr} {Y:List (List Key×V)} (e:H a=some (.dT Y)):dA K H (.ref a)<|.type "dict"
 | ins {a C dx:Addr} {fs:List (Str×V)} (e:H a=some (.ins C dx fs)) (cl:EI K C) (ha:PySem.W.findIn K (.ref C) "__class__" = some (some<|.builtin "object.__class__"))
   (hn:PySem.W.specialIn K (.builtin "object.__class__") "__get__" = some (some<|.builtin "getset_descriptor.__get__")) (uQ:PySem.W.takesIn K (.builtin "object.__class__")=some true)
   (hm:PySem.W.mroIn K C (.type "object")=some true):dA K H (.ref a)<|.ref C
theorem Ze{x:V}{t:Value}(I:Inv X O σ H s)(rx:RelV x u)(ty:dA X.K H x t)(e:PySem.W.kitOne X.K t c=some b)(h:∀ tk,Q (.bool b) {s with toks:=tk}) :
  wpAny (model X.U X.w) A (call (.builtin "isinstance") [u,c]) Q E s:=by
 cases ty with
 | non=>cases (show u=Value.none from rx);exact EY PySem.W.kitx_none I.fh True.intro e (λz=>nomatch z) h
 | bl y=>cases (show u=Value.bool y from rx);exact EY PySem.W.kitx_bool I.fh True.intro e (λz=>nomatch z) h
 | int i=>obtain⟨t,q⟩:=(show ∃ t,u=Value.int i t from rx);cases q;exact EY PySem.W.kitx_int I.fh True.intro e (λz=>nomatch z) h
 | str y=>obtain⟨t,q⟩:=(show ∃ t,u=Value.str y t from rx);cases q;exact EY PySem.W.kitx_str I.fh True.intro e (λz=>nomatch z) h
 | sv y=>obtain⟨t,q⟩:=(show ∃ t,u=Value.float y t from rx);cases q;exact EY PySem.W.kitx_float I.fh True.intro e (λz=>nomatch z) h
 | @lst a xs ea=>
  cases (show u=Value.ref a from rx);obtain⟨_,_,n,_,h1⟩:=(show aB X.U X.w H s.heap a (.lst xs)from I.aF a _ ea);exact EY PySem.W.kitx_list I.fh ⟨_,h1,rfl⟩ e (λz=>nomatch z) h
 | @bB a ob xs ea=>
  cases (show u=Value.ref a from rx);obtain⟨_,_,_,n,_,h1⟩:=(show aB X.U X.w H s.heap a (.bB ob<|.lst xs)from I.aF a _ ea);exact EY PySem.W.kitx_list I.fh ⟨_,h1,rfl⟩ e (λz=>nomatch z) h
 | @tup a xs ea=>
  cases (show u=Value.ref a from rx);obtain⟨_,_,_,p⟩:=(show aB X.U X.w H s.heap a (.tup xs)from I.aF a _ ea);obtain⟨o,h1,h2,_⟩:=p;exact EY PySem.W.kitx_tuple I.fh ⟨o,h1,h2⟩ e (λz=>nomatch z) h
 | @dK a Y ea=>
  cases (show u=Value.ref a from rx);obtain⟨_,_,vs,_,p⟩:=(show aB X.U X.w H s.heap a (.dK Y)from I.aF a _ ea);obtain⟨o,es,ep,h1,h2,_⟩:=p;exact EY PySem.W.kitx_dict I.fh ⟨o,h1,h2.1⟩ e (λz=>nomatch z) h
 | @dT a Y ea=>
  cases (show u=Value.ref a from rx);obtain⟨_,_,xs,_,o,es,ep,h1,h2,_⟩:=(show aB X.U X.w H s.heap a (.dT Y)from I.aF a _ ea);exact EY PySem.W.kitx_dict I.fh ⟨o,h1,h2.1⟩ e (λz=>nomatch z) h
 | @ins a C dx fs ea cl ha hn uQ hm=>
  cases (show u=Value.ref a from rx);obtain⟨mA,ò,_⟩:=Zd I.aF ea;obtain⟨od,J,_⟩:=ò.look;exact EY (PySem.W.kitx_own (cl.get _) cl.hd ha hn uQ hm) I.fh J e (λz=>nomatch z) h
end
structure bv(k:Nat)(A:Around):Prop where
 hd:A.handled=none
 dp:A.depth+3 * k+5 < recursionLimit
 un:A.units+16 * k+200 < cLine
theorem bv.mono{j k:Nat}(r:bv k A)(h:j<=k):bv j A:=⟨r.hd,by have:=r.dp;omega,by have:=r.un;omega⟩
theorem bv.deeper{k:Nat}{A:Around}(r:bv (k+1) A)(env:Env):bv k (A.deeper env):=
 ⟨r.hd,by have:=r.dp;show A.depth+1+3 * k+5 < _;omega,by have:=r.un;show A.units+3+16 * k+200 < _;omega⟩
theorem bv.depth{k:Nat}{A:Around}(r:bv k A):A.depth < recursionLimit:=by have:=r.dp;omega
def EJ:TA:=λ_ H Q=>Q [] H
def PH(ta:TE)(tr:TA):TA:=λσ H Q=>ta σ H λx H1=>tr σ H1 λxs H2=>Q (x :: xs) H2
section
variable{t:TA}{pos:Pos}
def Zf:PA X [] EJ:=λ_ _ _ _ H Q I h=>Calls.spliced_nil ⟨[],H,I,.nil,h⟩
def Zg(ha:PE X e te)(hr:PA X es t)(hs:starEach (e :: es) X.env=(false,eval e X.env) :: starEach es X.env:=by rfl):PA X (e :: es) (PH te t):=by
 intro pos O s σ H Q I h;rw[hs];show wpAny _ _ (spliced<|(false,eval e X.env) :: backTo pos (starEach es X.env)) _ _ s;refine Calls.spliced_cons<|aN (ha O s σ H _ I h) λu s1 ⟨x,H1,I1,r1,q1⟩=>?_;exact aN (hr pos O s1 σ H1 _ I1 q1) λus s2 ⟨xs,H2,I2,r2,q2⟩=>⟨x :: xs,H2,I2,.cons r1 r2,q2⟩
def EK(t:TA):TE:=λσ H Q=>t σ H λxs H1=>xs.length<=sizeLine/\∀ p,H1 p=none->Q (.ref p) (upd H1 p<|.tup xs)
def EL(t:TA):TE:=λσ H Q=>t σ H λxs H1=>xs.length<=sizeLine/\∀ p,H1 p=none->Q (.ref p) (upd H1 p<|.lst xs)
def Zh{x1}(h:PA X es t):PE X (.Tuple es x1 pos) (EK t):=by
 intro O s σ H Q I hq;refine wpAny_Tuple_spliced (aN (h pos O s σ H _ I hq) λus s1 ⟨xs,H1,I1,r,z,q⟩=>⟨by rwa[<- r.length],?_⟩);have hf:=I1.aF.fresh<|Am _;refine⟨.ref s1.heap.objs.size,upd H1 s1.heap.objs.size<|.tup xs,I1.laid (λb u e=>Ae _ e) (Am _) ?_,rfl,q _ hf⟩;exact⟨z,us,r,⟨_,Ao _ rfl,rfl,_,rfl⟩⟩
def Zi(h:PA X es t):PE X (.List es pos) (EL t):=by
 intro O s σ H Q I hq;refine wpAny_List_spliced (aN (h pos O s σ H _ I hq) λus s1 ⟨xs,H1,I1,r,z,q⟩=>⟨by rwa[<- r.length],?_⟩);have hf:=I1.aF.fresh<|Am _;refine⟨.ref s1.heap.objs.size,upd H1 s1.heap.objs.size<|.lst xs,I1.laid (λb u e=>Ae _ e) (Am _) ?_,rfl,q _ hf⟩;exact⟨z,us,0,r,Ao _ rfl⟩
end
abbrev Sp:=List V->Hp->VK->XK->Prop
abbrev jJ:=List Env->Hp->Shared->XK->Î
structure mD(P:Program)(w:World)(K:PySem.W.Frag)(mg:Ò)(Z:Heap)(A:Around)(outer:List Env)(s:Shared)(H:Hp):Prop where
 frames:A.frames=some outer
 mod:Mod K mg Z
 bs:∀ b o,Z.get? b=some o->s.heap.get? b=some o/\H b=none
 jH:Z.objs.size<=s.heap.objs.size
 cF:s.heap.FunFrames Z outer
 lJ:∀ b∈dF outer,H b=none
 aF:cg P w H s.heap
 bare:AllBare s.gens
def CE(outer:List Env)(P:Program)(w:World)(H:Hp)(s:Shared)(Q:VK)(u:Value)(s':Shared):Prop:=
 ∃ v H',s'.os=s.os/\AllBare s'.gens/\Un (dF outer) [] H H' s.heap s'.heap/\cg P w H' s'.heap/\RelV v u/\Q v H'
def CR(CX:jJ)(outer:List Env)(P:Program)(w:World)(H:Hp)(s:Shared)(Q:VK)(E:XK)(r:Result)(s':Shared):Prop:=
 match r with
 | .ok (.ret u)=>CE outer P w H s Q u s'
 | .ok _=>False
 | .error e=>CX outer H s E e s'
structure aD(P:Program)(w:World)(K:PySem.W.Frag)(mg:Ò)(Z:Heap)(CX:jJ)(k:Nat)(f:Addr)(fd:FuncData)(ps:Ñ)(sp:Sp):Prop where
 len:∀ vs H Q E,sp vs H Q E->vs.length=ps.length
 run:∀A outer s H args us vs Q E,bv k A->mD P w K mg Z A outer s H->BindsTo s fd args (ps.zip us)->az vs us->sp vs H Q E ->
  codeAny (model P w) A (.call (.ref f) args) (CR CX outer P w H s Q E) s
def aD.mono{P:Program}{w:World}{K:PySem.W.Frag}{mg:Ò}{Z:Heap}{CX:jJ}{j k:Nat}{f:Addr}{fd:FuncData}{ps:Ñ}{sp:Sp}(F:aD P w K mg Z CX j f fd ps sp)(h:j<=k) :
  aD P w K mg Z CX k f fd ps sp:=⟨F.len,λA outer s H args us vs Q E hr=>F.run A outer s H args us vs Q E<|hr.mono h⟩
variable{sp:Sp}{ps:Ñ}{fd:FuncData}{CX:jJ}{Z:Heap}{mg:Ò}
def aD.imp{k:Nat}{f:Addr}{PQ:Sp}(F:aD P w K mg Z CX k f fd ps sp)
  (h:∀ vs H Q E,PQ vs H Q E->sp vs H Q E):aD P w K mg Z CX k f fd ps PQ:=
 ⟨λvs H Q E q=>F.len vs H Q E<|h _ _ _ _ q,λA outer s H args us vs Q E hr he hb hv hs=>F.run A outer s H args us vs Q E hr he hb hv<|h _ _ _ _ hs⟩
def Inv.uR(I:Inv X O σ H s):mD X.U X.w X.K X.mg X.Z X.A X.stack s H:=
 ⟨I.ok.frames,I.ok.mod,I.bs,By I.ok.jH I.sz,I.stack,I.d8,I.aF,I.bare⟩
def Inv.after{Q:VK}(I:Inv X O σ H s)(h:CE X.stack X.U X.w H s Q u s'):EP X O σ Q u s':=by
 obtain⟨v,H',os,bare,un,aF,r,q⟩:=h;obtain⟨hh,g,d,t,ER⟩:=s';obtain rfl:ER=s.os:=os;exact⟨v,H',I.call un aF bare (λb z=>absurd z<|by simp),r,q⟩
def PR(sp:Sp)(mE:List V)(E:XK)(t:TA):TE:=λσ H Q=>t σ H λvs H1=>sp (vs++mE) H1 Q E
def Binds(K:PySem.W.Frag)(fd:FuncData)(ps:Ñ)(ds:Ó):Prop:=
 ∀s us,K.In s.heap->(us++ds).length=ps.length->BindsTo s fd ⟨us,[]⟩ (ps.zip<|us++ds)
def Binds.all(h:∀ us:Ó,us.length=ps.length->bindArgs fd ⟨us,[]⟩=pure (ps.zip us)):Binds K fd ps []:=λs us _ hl=>by
 rw[Be]at hl ⊢;exact .of_eq<|h us hl
def p9(CX:jJ)(X:Cx)(E:XK):Prop:=∀O σ H s e s',Inv X O σ H s->CX X.stack H s E e s'->X.xe e s'
variable{apos:Pos}{ds:Ó}{mE vs:List V}
section
variable{k:Nat}{f C:Addr}{E:XK}{m:Str}{p pos:Pos}{o:Expr}{t:TA}
theorem Zj{Q:VK}(F:aD X.U X.w X.K X.mg X.Z CX k f fd ps sp)(hr:bv k X.A)(hb:Binds X.K fd ps ds)(hd:az mE ds)(hx:p9 CX X E)
  (I:Inv X O σ H s) (r:az vs us) (h:sp (vs++mE) H Q E):wpAny (model X.U X.w) X.A (call (.ref f) us) (EP X O σ Q) X.xe s:=by
 have r2:=r.append hd;have hl:(us++ds).length=ps.length:=by rw[<- r2.length];exact F.len _ _ _ _ h
 refine RT<|JK (F.run X.A X.stack s H ⟨us,[]⟩ (us++ds) (vs++mE) Q E hr I.uR (hb s us I.fh hl) r2 h) λr s' hq=>?_;cases r with
 | error e=>exact hx O σ H s e s' I hq
 | ok fl=>
  cases fl with
  | ret u=>exact I.after hq
  | next=>exact False.elim hq
  | brk=>exact False.elim hq
  | cont=>exact False.elim hq
def Zk(F:aD X.U X.w X.K X.mg X.Z CX k f fd ps sp)(hr:bv k X.A)(hg:Gl X x)(hm:X.mg x=some (.ref f))(hk:PySem.W.keepIn X.K (.ref f)=true)(hb:Binds X.K fd ps ds)(hd:az mE ds)(hx:p9 CX X E)
  (ha:PA X (e :: es) t) (cQ:(x == ("__debug__" : Str))=false:=by decide) (he:starEach (e :: es) X.env=(false,eval e X.env) :: starEach es X.env:=by rfl) (jm:(backTo pos<|starEach es X.env).any (·.1)=false:=by rfl) :
  PE X (.Call (.Name x p) (e :: es) [] pos) (PR sp mE E t):=by
 intro O s σ H Q I h;refine JR<|uG I hg hm ?_ cQ;refine PySem.W.callWith_K I.ok.mod.sy hk (aN (ha pos O s σ H _ I h) λus s1 ⟨vs,H1,I1,r,q⟩=>⟨I1.fh,?_⟩) he jm;exact Zj F hr hb hd hx I1 r q
end
variable{kws:List Keyword}{gV:List V->List V->List V}
structure ak(N P:Ñ)(sc:Scope):Prop where
 kind:sc.kind = .function
 co:sc.isCoroutine=false
 gen:sc.isGenerator=false
 nd:N.Nodup
 pre:N.take P.length=P
 par:∀ x∈P,sc.names.lookup x=some .local\/sc.names.lookup x=some .cell
 ii:∀ y∈sc.names,y.2 ≠ .free
theorem PU{kindOf:Str->Option NameKind}{x:Str}:∀{binds}{m},(∀ v,(x,v)∉binds)->bindL kindOf binds m x=m x
 | [],_,_=>rfl
 | (n,v) :: r,m,h=>by
  unfold bindL;rw[PU λw hw=>h w<|Ak _ hw]
  split
  ·have:x≠n:=by rintro rfl;exact h v Ag
   simp[this]
  ·rfl
theorem PV{kindOf:Str->Option NameKind}{x:Str}:∀{binds}{m},(∀ v,(x,v)∉binds)->bindC kindOf binds m x=m x
 | [],_,_=>rfl
 | (n,v) :: r,m,h=>by
  unfold bindC;rw[PV λw hw=>h w<|Ak _ hw]
  split
  ·rfl
  ·have:x≠n:=by rintro rfl;exact h v Ag
   simp[this]
theorem PY{kindOf:Str->Option NameKind}{x:Str}{v:Value}:∀{P:Ñ} {vs:Ó} {i:Nat} {m:Ò},P.Nodup->P[i]?=some x->vs[i]?=some v->kindOf x=some .local ->
  bindL kindOf (P.zip vs) m x=some v
 | [],_,_,_,_,h,_,_=>by simp at h
 | _ :: _,[],_,_,_,_,h,_=>by simp at h
 | p :: P,w :: vs,0,m,nd,h1,h2,hk=>by
  simp at h1 h2;subst h1;subst h2;show bindL kindOf ((p,w) :: P.zip vs) m p=_;unfold bindL;rw[PU λv hv=>(Bk.mp nd).1 (UG hv).1,BP hk];simp
 | p :: P,w :: vs,i+1,m,nd,h1,h2,hk=>by
  show bindL kindOf ((p,w) :: P.zip vs) m x=_;unfold bindL;exact PY (i:=i) (Bk.mp nd).2 (by simpa using h1) (by simpa using h2) hk
theorem PZ{kindOf:Str->Option NameKind}{x:Str}{v:Value}:∀{P:Ñ} {vs:Ó} {i:Nat} {m:Ò},P.Nodup->P[i]?=some x->vs[i]?=some v->kindOf x≠some .local ->
  bindC kindOf (P.zip vs) m x=some v
 | [],_,_,_,_,h,_,_=>by simp at h
 | _ :: _,[],_,_,_,_,h,_=>by simp at h
 | p :: P,w :: vs,0,m,nd,h1,h2,hk=>by
  simp at h1 h2;subst h1;subst h2;show bindC kindOf ((p,w) :: P.zip vs) m p=_;unfold bindC;rw[PV λv hv=>(Bk.mp nd).1 (UG hv).1,BK hk];simp
 | p :: P,w :: vs,i+1,m,nd,h1,h2,hk=>by
  show bindC kindOf ((p,w) :: P.zip vs) m x=_;unfold bindC;exact PZ (i:=i) (Bk.mp nd).2 (by simpa using h1) (by simpa using h2) hk
def start(N:Ñ)(vs:List V):St:=vs.map some++List.replicate (N.length - vs.length) none
def fq(CX:jJ)(P:Program)(w:World)(K:PySem.W.Frag)(mg:Ò)(Z:Heap)(N:Ñ)(qual:Str)(scope:Scope)(f:Addr)(cd:Value)(A:Around)(outer:List Env)(s:Shared)(H:Hp)(E:XK):Cx where
 U:=P
 w:=w
 K:=K
 mg:=mg
 Z:=Z
 A:=A.deeper<|envOfC qual scope s.heap.objs.size f cd
 N:=N
 æ:=s
 ç:=H
 env:=envOfC qual scope s.heap.objs.size f cd
 outer:=outer
 stack:=envOfC qual scope s.heap.objs.size f cd :: outer
 ex:=[]
 calm:=true
 fn:=λ_=>true
 pn:=[]
 xe:=λe s'=>wpAny (model P w) (A.deeper<|envOfC qual scope s.heap.objs.size f cd) (leaving (envOfC qual scope s.heap.objs.size f cd) e) (λ_ qb=>CX outer H s E e qb) (λe' qb=>CX outer H s E e' qb) s'
def P0{sc:Scope}(h:sc.names.lookup x=some .cell):∃ c,(cellsFrom n sc.names []).lookup x=some c:=by
 have q:=JV sc.names n []<|.inl h;exact Ez.mp q
variable{outer:List Env}{scope:Scope}{qual:Str}
theorem Zm{f:Addr}{cd:Value}{s1:Shared}{E:XK}
  (S:ak N ps scope) (hd:A.handled=none) (e0:mD P w K mg Z A outer s H) (hl:vs.length=ps.length) (r:az vs us)
  (x:InCallC s s.heap.objs.size (bindL (envOfC qual scope s.heap.objs.size f cd).kindOf (ps.zip us) λ_=>none) (cellsFrom (s.heap.objs.size+1) scope.names []) (bindC (envOfC qual scope s.heap.objs.size f cd).kindOf (ps.zip us) λ_=>none) s1) :
  Inv (fq CX P w K mg Z N qual scope f cd A outer s H E) [] (start N vs) H s1:=by
 have jm:ps.length<=N.length:=by have:=BZ List.length S.pre;rw[Bh]at this;omega
 obtain⟨h1,tk,rfl,hk⟩:=x.done;have uS:∀ b:Addr,b∉(fq CX P w K mg Z N qual scope f cd A outer s H E).ex:=λb z=>absurd (show b∈([]:List Addr)from z) (by simp);refine⟨⟨e0.mod,S.kind,rfl,rfl,Am _,λy z c h1 h2=>?_,λy hy=>?_,λy c _ h=>?_,λ_=>hd,Around.frames_deeper e0.frames,.inr ⟨rfl,rfl⟩,λb z=>absurd z<|uS b,e0.bs,e0.jH,λb _ _=>uS b,λb z=>absurd z<|uS b,e0.cF,e0.lJ⟩,
  rfl,e0.bare,Un.kept hk,⟨_,x.toInCall.ns,λi y v h1 h2 h3=>?_⟩,λy c h=>⟨_,x.cell y c h⟩,e0.aF.fresh<|Am _,λy c h=>?_,λp hp=>absurd (show p∈([]:Ð)from hp) (by simp),e0.aF.kept hk,?_⟩
 ·exact name_of_addr x.apart (DG h1)<|DG h2
 ·have hy:scope.names.lookup y=some .cell\/scope.names.lookup y=some .free:=hy
  rcases hy with hy | hy
  ·exact P0 hy
  ·exact absurd rfl (S.ii _<|DG hy)
 ·exact Bz<|x.above y c<|DG h
 ·have hi:i < vs.length:=by
   unfold start at h2
   by_cases hi:i < vs.length
   ·exact hi
   ·rw[Ba<|by simpa using hi]at h2;rw[Fb]at h2
    split at h2 <;> cases h2
  have ha:vs[i]?=some v:=by
   unfold start at h2;rw[Aq (by simpa using hi),Ah]at h2;cases e:vs[i]? with
   | none=>rw[e]at h2;cases h2
   | some a=>rw[e]at h2;cases h2;rfl
  obtain⟨u,hu,rv⟩:=r.get ha;have hp:ps[i]?=some y:=by
   rwa[<- S.pre,Ee<|⋯]
  have P1:ps.Nodup:=by rw[<- S.pre];exact S.nd.sublist<|List.take_sublist _ _
  refine⟨u,rv,?_⟩
  rcases S.par y (At hp)with k | k
  ·exact .inl ⟨k,PY P1 hp hu k⟩
  ·obtain⟨c,e⟩:=P0 (n:=s.heap.objs.size+1) k;refine .inr ⟨.inl k,c,e,?_⟩;have q:=x.cell y c e;rwa[PZ P1 hp hu<|by show scope.names.lookup y≠_;rw[k];decide]at q
 ·exact e0.aF.fresh<|Bz<|x.above y c<|DG h
 ·unfold start;show _=N.length;rw[Ad,Aa,Fk];omega
variable{j5:Array (Option Value)}{params:Arguments}
theorem P2{k:Nat}{f:Addr}{dV kV doc pm bF ct oc:Value}{an od:Option Addr}
     (lk:K.lookup f=some ⟨oc,od,.func<|PySem.W.fnOf name qual params body scope dV kV doc pm an bF ct,j5⟩) (iW:PySem.W.codeIn K bF qual=true) (S:ak N ps scope)
  (len:∀ vs H Q E,sp vs H Q E->vs.length=ps.length)
  (cw : ∀ (A : Around) (outer : List Env) (s : Shared) (H : Hp) (vs : List V) (Q : VK) (E : XK), bv k (A.deeper<|envOfC qual scope s.heap.objs.size f bF) → sp vs H Q E →
   ∃ t,ji (fq CX P w K mg Z N qual scope f bF A outer s H E) body t/\t {nx:=λ_ H'=>Q .non H',rt:=Q} (start N vs) H) :
  aD P w K mg Z CX (k+1) f (PySem.W.fnOf name qual params body scope dV kV doc pm an bF ct) ps sp:=by
 refine⟨len,λA outer s H args us vs Q E hr e0 hb r dG=>?_⟩;have hl:=len _ _ _ _ dG;have KX:K.In s.heap:=e0.mod.sy.keeps λb o e=>(e0.bs b o e).1;have lim:s.heap.NoLimit:=e0.mod.nolimit.keeps λb o e=>(e0.bs b o e).1;have uT:∀ y∈ps.zip us,scope.names.lookup y.1=some .local\/(scope.names.lookup y.1=some .cell/\((cellsFrom (s.heap.objs.size+1) scope.names []).lookup y.1).isSome=true):=λ⟨n,v⟩ hy=>by
  rcases S.par n (UG hy).1 with q | q
  ·exact .inl q
  ·exact .inr ⟨q,JV _ _ _<|.inl q⟩
 refine codeAny_call_function hr.depth (KX _ _ lk) rfl S.co S.gen rfl (PySem.W.codeRec_of KX iW) (hb _ _ _ _ ?_);refine wpAny_newFunctionEnv_cells S.kind uT λenv he s1 x=>?_;subst he;refine⟨lim.keeps x.toInCall.keep,codeAny_func ?_⟩;obtain⟨t,ht,hq⟩:=cw A outer s H vs Q E (hr.deeper _) dG;have I:Inv (fq CX P w K mg Z N qual scope f bF A outer s H E) [] (start N vs) H s1:=Zm S hr.hd e0 hl r x;refine CT (ht [] s1 (start N vs) H _ I hq) (λfl s' hs=>?_) λe s' hs=>hs;have fin:∀{σ':St} {H':Hp} {v:V} {u:Value},Inv (fq CX P w K mg Z N qual scope f bF A outer s H E) [] σ' H' s'->RelV v u->Q v H'->CE outer P w H s Q u s':=
  λ{σ' H' v u} J rv q=>⟨v,H',J.os,J.bare,J.Z,J.aF,rv,q⟩
 cases fl with
 | ret u=>
  obtain⟨v,σ',H',J,rv,q⟩:=hs;exact fin J rv q
 | next=>
  obtain⟨σ',H',J,q⟩:=hs;exact fin (v:=V.non) (u:=Value.none) J rfl q
 | brk=>
  obtain⟨_,_,_,q⟩:=hs;exact False.elim q
 | cont=>
  obtain⟨_,_,_,q⟩:=hs;exact False.elim q
variable{r:List V->Hp->VK->Prop}
section
variable{p pos:Pos}{t:TA}{id T:String}
def yT(r:List V->Hp->VK->Prop)(t:TA):TE:=λσ H Q=>t σ H λvs H1=>r vs H1 Q
def Zn(hc:fE X (.builtin id) r)(hg:Gl X x)(hm:X.mg x=none)(hv:bootBuiltins x=some (.builtin id))(ha:PA X (e :: es) t)(hn:x ≠ "__name__":=by decide)(cQ:(x == ("__debug__" : Str))=false:=by decide)
  (he:starEach (e :: es) X.env=(false,eval e X.env) :: starEach es X.env:=by rfl) (jm:(backTo pos<|starEach es X.env).any (·.1)=false:=by rfl):PE X (.Call (.Name x p) (e :: es) [] pos) (yT r t):=by
 intro O s σ H Q I h;refine JR<|oD I hg hm hv ?_ hn cQ;exact PyProof.Rows.callWith_builtin1 (aN (ha pos O s σ H _ I h) λus s1 ⟨vs,H1,I1,r1,q1⟩=>hc O s1 σ H1 vs us Q I1 r1 q1) he jm
def Zo(hc:fE X (.type T) r)(hg:Gl X x)(hm:X.mg x=none)(hv:bootBuiltins x=some (.type T))(ha:PA X (e :: es) t)(hn:x ≠ "__name__":=by decide)(cQ:(x == ("__debug__" : Str))=false:=by decide)
  (he:starEach (e :: es) X.env=(false,eval e X.env) :: starEach es X.env:=by rfl) (jm:(backTo pos<|starEach es X.env).any (·.1)=false:=by rfl):PE X (.Call (.Name x p) (e :: es) [] pos) (yT r t):=by
 intro O s σ H Q I h;refine JR<|oD I hg hm hv ?_ hn cQ;exact IV (aN (ha pos O s σ H _ I h) λus s1 ⟨vs,H1,I1,r1,q1⟩=>hc O s1 σ H1 vs us Q I1 r1 q1) he jm
end
end L2
namespace HT
open PySem PyProof.Rows
variable{E:Î}{U:Program}
section
variable{w:World}{A:Around}{s:Shared}
def gG(n d:Nat):Option Int->Nat
 | none=>d
 | some v=>if v < 0 then(v+(n:Int)).toNat else min v.toNat n
def c7(n d:Nat):gG n d none=d:=rfl
theorem eF(n d k:Nat):gG n d (some (k:Int))=min k n:=by
 show(if(k:Int) < 0 then((k:Int)+(n:Int)).toNat else min (k:Int).toNat n)=min k n;rw[BK ⋯,Bm]
end
end HT
namespace L2
open PySem PySem.Spec PyProof.Rows
abbrev TO:=St->Hp->(Option Int->Hp->Prop)->Prop
def PO(X:Cx)(e:Option Expr)(t:TO):Prop:=
 ∀O s σ H Q,Inv X O σ H s->t σ H Q ->
  wpAny (model X.U X.w) X.A (evalPart e X.env) (λu s'=>∃ o H',Inv X O σ H' s'/\IsPart u o/\Q o H') X.xe s
def Zq:TO:=λ_ H Q=>Q none H
def Zr(t:TE):TO:=λσ H Q=>t σ H λx H1=>∃ i,x = .int i/\Q (some i) H1
variable{X:Cx}{r:V->Option Int->Option Int->Hp->VK->Prop}
section
variable{e:Expr}{te:TE}{lo hi:Option Expr}{tl th:TO}{pos p2:Pos}
def Zt:PO X none Zq:=by
 intro O s σ H Q I h;rw[evalPart_none];exact BL ⟨none,H,I,.none,h⟩
def Zu(h:PE X e te):PO X (some e) (Zr te):=by
 intro O s σ H Q I hw;rw[evalPart_some];refine aN (h O s σ H _ I hw) λu s1 ⟨x,H1,I1,r1,q1⟩=>?_;obtain⟨i,rfl,q⟩:=q1;obtain⟨t,rfl⟩:=r1;exact⟨some i,H1,I1,.int i t,q⟩
def EV(X:Cx)(r:V->Option Int->Option Int->Hp->VK->Prop):Prop:=
 ∀O s σ H x v vl vu lo hi sl Q,Inv X O σ H s->RelV x v->s.heap.IsSliceOf sl vl vu .none->IsPart vl lo->IsPart vu hi->r x lo hi H Q ->
  ∃ T id,typeLookup (.type T) "__getitem__" = pure (some<|.builtin id)/\s.TypeIs v T/\wpAny (model X.U X.w) X.A (getItem v<|.ref sl) (EP X O σ Q) X.xe s
def Zv(r:V->Option Int->Option Int->Hp->VK->Prop)(te:TE)(tl th:TO):TE:=λσ H Q=>te σ H λx H1=>tl σ H1 λl H2=>th σ H2 λu H3=>r x l u H3 Q
def Zw(hr:EV X r)(he:PE X e te)(hl:PO X lo tl)(hu:PO X hi th):PE X (.Subscript e (.Slice lo hi none p2) pos) (Zv r te tl th):=by
 intro O s σ H Q I h;refine Subscript_<|aN (he O s σ H _ I h) λv s1 ⟨x,H1,I1,r1,q1⟩=>?_;refine wpAny_Slice<|aN (hl O s1 σ H1 _ I1 q1) λvl s2 ⟨l,H2,I2,pl,q2⟩=>aN (hu O s2 σ H2 _ I2 q2) λvu s3 ⟨u,H3,I3,pu,q3⟩=>?_;rw[evalPart_none];refine BL ?_;have I4:Inv X O σ H3 {s3 with heap:=s3.heap.push {cls:= .type "slice",data:= .fields #[vl,vu,.none]}}:=I3.kept λb ob q=>Ae _ q;obtain⟨T,id,hT,ht,hg⟩:=hr O {s3 with heap:=s3.heap.push {cls:= .type "slice",data:= .fields #[vl,vu,.none]}} σ H3 x v vl vu l u s3.heap.objs.size Q I4 r1 (Heap.IsSliceOf.new ..) pl pu q3;show wpAny (model X.U X.w) X.A (subscriptTail e (.Slice lo hi none p2) v<|.ref s3.heap.objs.size) (EP X O σ Q) X.xe {s3 with heap:=s3.heap.push {cls:= .type "slice",data:= .fields #[vl,vu,.none]}};exact tail_any ht hT hg<|by with_unfolding_all rfl
def dR(xs:List V)(lo hi:Option Int):List V:=(xs.drop<|HT.gG xs.length 0 lo).take<|HT.gG xs.length xs.length hi - HT.gG xs.length 0 lo
theorem Zx(xs:List V)(lo hi:Option Int):(dR xs lo hi).length<=xs.length:=by
 unfold dR;rw[Bh,Dd];omega
end
def oG(n:Nat)(i:Int):Option Nat:=if 0<=i then(if i < n then some i.toNat else none)else if -(n:Int)<=i then some (i+n).toNat else none
def fG{α:Type}(xs:List α)(i:Int):Option α:=(oG xs.length i).bind λj=>xs[j]?
variable{j n:Nat}{i:Int}
theorem Zy(h:oG n i=some j):seqIndex? i n=some j/\j < n/\-(n:Int)<=i/\i < n:=by
 unfold oG at h
 by_cases h0:0<=i
 ·rw[BP h0]at h
  by_cases h1:i < n
  ·rw[BP h1]at h;have e:=Option.some.inj h;exact⟨by rw[seqIndex_of h0 h1,e],⋯,⋯,h1⟩
  ·rw[BK h1]at h;cases h
 ·rw[BK h0]at h
  by_cases h1:-(n:Int)<=i
  ·rw[BP h1]at h;have e:=Option.some.inj h;exact⟨by rw[seqIndex_neg ⋯ h1,e],⋯,h1,⋯⟩
  ·rw[BK h1]at h;cases h
theorem EW{α:Type}{xs:List α}{v:α}(h:fG xs i=some v):∃ j,seqIndex? i xs.length=some j/\xs[j]?=some v/\j < xs.length/\-(xs.length:Int)<=i/\i < xs.length:=by
 unfold fG at h;cases e:oG xs.length i with
 | none=>rw[e]at h;cases h
 | some j=>
  rw[e]at h;obtain⟨h1,h2,h3,h4⟩:=Zy e;exact⟨j,h1,h,h2,h3,h4⟩
theorem oH{α:Type}{xs:List α}{v:α}(h:xs[j]?=some v):fG xs (j:Int)=some v:=by
 have hj:j < xs.length:=(Ac.mp h).1;have e:oG xs.length (j:Int)=some j:=by
  unfold oG;rw[BP ⋯,BP<|⋯];simp
 unfold fG;rwa[e]
theorem Zz{α:Type}(xs:List α)(v:α):fG (xs++[v]) (-1)=some v:=by
 have hl:(xs++[v]).length=xs.length+1:=by simp
 have e:oG (xs++[v]).length (-1)=some xs.length:=by
  unfold oG;rw[hl,BK ∅,BP<|⋯]
  congr 1
  omega
 unfold fG;rw[e];show(xs++[v])[xs.length]?=some v;simp
def P4(b:Expr):Prop:=∀ o i,subscripted b false o i=operate [o,i] (getItem o i)
def uU(X:Cx)(r:R2):Prop:=
 ∀value slice O s σ H x y v u Q,Inv X O σ H s->RelV x v->RelV y u->r x y H Q ->
  subscripted slice false v u=operate [v,u] (getItem v u)->wpAny (model X.U X.w) X.A (subscriptTail value slice v u) (EP X O σ Q) X.xe s
def uV(X:Cx)(id:String)(r:V->List V->Hp->VK->Prop):Prop:=
 ∀O s σ H x xs v us Q,Inv X O σ H s->RelV x v->az xs us->r x xs H Q ->
  wpAny (model X.U X.w) X.A (call (.builtin id)<|v :: us) (EP X O σ Q) X.xe s
variable{u v:Value}{x:V}{s:Shared}{A:Around}{T:String}{H:Hp}{σ:St}{O:Ð}{name:Str}{es:Ô}
section
variable{a b:Expr}{ta tb:TE}{pos:Pos}
def ZA{r:R2}(hr:uU X r)(ha:PE X a ta)(hb:PE X b tb)(hs:P4 b):PE X (.Subscript a b pos) (yP r ta tb):=by
 intro O s σ H Q I h;exact Subscript_<|pW ha hb I h λv u s2 x y H2 I2 rx ry q=>hr a b O s2 σ H2 x y v u Q I2 rx ry q<|hs _ _
def EX(K:PySem.W.Frag):R2:=λx y H Q=>∃ p xs i v,x = .ref p/\y = .int i/\aj K H p xs/\fG xs i=some v/\Q v H
def EZ(K:PySem.W.Frag):R2:=λx y H Q=>∃ p xs i v,x = .ref p/\y = .int i/\aS K H p xs/\fG xs i=some v/\Q v H
def E1:R2:=λx y H Q=>∃ z i c,x = .str z/\y = .int i/\z.length<=sizeLine/\fG z.cps.toList i=some c/\Q (.str ⟨#[c]⟩) H
theorem cL:uU X (EX X.K):=by
 intro value slice O s σ H x y v u Q I rx ry h hs;obtain⟨p,xs,i,z,rfl,rfl,hq,he,q⟩:=h;cases rx;obtain⟨t,rfl⟩:=ry;obtain⟨è,r,pl,hz⟩:=I.list hq;obtain⟨j,h1,h2,h3,h4,h5⟩:=EW he;obtain⟨w,ew,d9⟩:=r.get h2;have hl:=r.length;have hn:=uP;have fin:EP X O σ Q w s:=⟨z,H,I,d9,q⟩
 by_cases h0:0<=i
 ·have hj:i.toNat=j:=by
   rw[seqIndex_of h0 h5]at h1;exact Option.some.inj h1
  exact item_listR pl.isList h0 ⋯ (by rw[hj];simpa using ew) fin hs
 ·have hj:(i+(è.toArray.size:Int)).toNat=j:=by
   rw[seqIndex_neg ⋯ h4]at h1;rw[Aw,<- hl];exact Option.some.inj h1
  exact subscriptTail_builtinR pl.isList.typeIs slot_list_getitem.lookup
   (wpAny_getItem_list_neg pl.isList ⋯ (by rw[Aw] <;> omega) ⋯ (by rw[hj];simpa using ew) ⟨rfl,fin⟩) hs
theorem cv:uU X (EZ X.K):=by
 intro value slice O s σ H x y v u Q I rx ry h hs;obtain⟨p,xs,i,z,rfl,rfl,hq,he,q⟩:=h;cases rx;obtain⟨t,rfl⟩:=ry;obtain⟨è,r,pl,hz⟩:=I.tuple hq;obtain⟨j,h1,h2,h3,h4,h5⟩:=EW he;obtain⟨w,ew,d9⟩:=r.get h2;have hl:=r.length;have hn:=uP;have fin:EP X O σ Q w s:=⟨z,H,I,d9,q⟩;exact subscriptTail_builtinR pl.typeIs slot_tuple_getitem.lookup
  (getItem_tuple pl ⋯ ⋯ (by rwa[Aw,<- hl]) (by simpa using ew) ⟨rfl,fin⟩) hs
theorem P5:uU X E1:=by
 intro value slice O s σ H x y v u Q I rx ry h hs;obtain⟨z,i,c,rfl,rfl,hz,he,q⟩:=h;obtain⟨t,rfl⟩:=rx;obtain⟨t',rfl⟩:=ry;obtain⟨j,h1,h2,h3,h4,h5⟩:=EW he;have hl:z.cps.toList.length=z.length:=by simp[Str.length]
 rw[hl]at h1 h4 h5;have hn:=uP;exact tail_any (typeIs_str s z t) slot_str_getitem.lookup (getItem_str (by
  have e1:decide (i < -(2 ^ 63:Int))=false:=BR ⋯;have e2:decide (i>=2 ^ 63)=false:=BR ⋯;rw[e1,e2,Bool.or_false]) (by rw[h1];simpa using h2) ⟨.str ⟨#[c]⟩,H,I.tok _,⟨_,rfl⟩,q⟩) hs
theorem ZC(lo hi:Option Int)(n:Nat):(sliceBounds lo hi none n).1=((HT.gG n 0 lo:Nat):Int)/\(sliceBounds lo hi none n).2.1=((HT.gG n n hi:Nat):Int)/\(sliceBounds lo hi none n).2.2=1:=by
 refine⟨?_,?_,rfl⟩
 ·cases lo with
  | none=>simp[sliceBounds,HT.gG]
  | some i=>
   simp only[sliceBounds,HT.gG,Option.getD_none,show(1:Int) > 0 by decide,DP]
   by_cases h:i < 0
   ·simp only[h,DP] <;> omega
   ·simp only[h,CV] <;> omega
 ·cases hi with
  | none=>simp[sliceBounds,HT.gG]
  | some i=>
   simp only[sliceBounds,HT.gG,Option.getD_none,show(1:Int) > 0 by decide,DP]
   by_cases h:i < 0
   ·simp only[h,DP] <;> omega
   ·simp only[h,CV] <;> omega
def ZD(è:Ó)(lo hi:Option Int):slicePick è.toArray lo hi none=((è.drop<|HT.gG è.length 0 lo).take<|HT.gG è.length è.length hi - HT.gG è.length 0 lo).toArray:=by
 obtain⟨h1,h2,h3⟩:=ZC lo hi è.toArray.size;unfold slicePick;rw[h1,h2,h3];simp only[sliceRange_one,pick_run,Aw] <;> rfl
def E3(K:PySem.W.Frag):V->Option Int->Option Int->Hp->VK->Prop:=λx lo hi H Q=>∃ a xs,x = .ref a/\aj K H a xs/\∀ p,H p=none->Q (.ref p) (upd H p<|.lst<|dR xs lo hi)
theorem yU:EV X (E3 X.K):=by
 intro O s σ H x v vl vu lo hi sl Q I rx hs pl pu h;obtain⟨a,xs,rfl,hx,q⟩:=h;cases rx;obtain⟨è,r,ht,hz⟩:=I.list hx;have hlen:=r.length;refine⟨"list",_,slot_list_getitem.lookup,ht.isList.typeIs,?_⟩;refine wpAny_getItem_list_slice ht.isList hs pl pu .none (by simp) ?_ (by rw[Aw] <;> omega);rw[ZD,<- hlen];refine⟨.ref s.heap.objs.size,_,I.laid (λb ob q=>Ae _ q) (Am _) ?_,rfl,q _<|I.aF.fresh<|Am _⟩;exact⟨By (Zx xs lo hi) hz,_,0,(r.drop<|HT.gG xs.length 0 lo).take<|HT.gG xs.length xs.length hi - HT.gG xs.length 0 lo,Ao _ rfl⟩
def jK:V->Bool
 | .non=>true
 | .bl _=>true
 | .int _=>true
 | .str _=>true
 | _=>false
def cC:V->V->Bool
 | .non,.non=>true
 | .bl a,.bl b=>a == b
 | .bl a,.int b=>(if a then 1 else 0) == b
 | .int a,.bl b=>a == (if b then 1 else 0)
 | .int a,.int b=>a == b
 | .str a,.str b=>a == b
 | _,_=>false
theorem P6{y:V}(ry:RelV y u)(rx:RelV x v)(fy:jK y=true)(fx:jK x=true):SeqAt.EqAt A s u v (cC y x):=by
 cases y with
 | non=>
  cases ry;cases x with
  | non=>cases rx;exact SeqAt.EqAt.same _
  | bl b=>cases rx;exact SeqAt.EqAt.none_bool b
  | int b=>obtain⟨t,rfl⟩:=rx;exact SeqAt.EqAt.none_int b t
  | str b=>obtain⟨t,rfl⟩:=rx;exact SeqAt.EqAt.none_str b t
  | _=>exact absurd (show false=true from fx) Ax
 | bl a=>
  cases ry;cases x with
  | non=>cases rx;exact SeqAt.EqAt.bool_none a
  | bl b=>cases rx;exact SeqAt.EqAt.bool_bool a b
  | int b=>obtain⟨t,rfl⟩:=rx;exact SeqAt.EqAt.bool_int a b t
  | str b=>obtain⟨t,rfl⟩:=rx;exact SeqAt.EqAt.bool_str a b t
  | _=>exact absurd (show false=true from fx) Ax
 | int a=>
  obtain⟨t',rfl⟩:=ry;cases x with
  | non=>cases rx;exact SeqAt.EqAt.int_none a t'
  | bl b=>cases rx;exact SeqAt.EqAt.int_bool a t' b
  | int b=>obtain⟨t,rfl⟩:=rx;exact SeqAt.EqAt.int_int a t' b t
  | str b=>obtain⟨t,rfl⟩:=rx;exact SeqAt.EqAt.int_str a t' b t
  | _=>exact absurd (show false=true from fx) Ax
 | str a=>
  obtain⟨t',rfl⟩:=ry;cases x with
  | non=>cases rx;exact SeqAt.EqAt.str_none a t'
  | bl b=>cases rx;exact SeqAt.EqAt.str_bool a t' b
  | int b=>obtain⟨t,rfl⟩:=rx;exact SeqAt.EqAt.str_int a t' b t
  | str b=>obtain⟨t,rfl⟩:=rx;exact SeqAt.EqAt.str_str a t' b t
  | _=>exact absurd (show false=true from fx) Ax
 | _=>exact absurd (show false=true from fy) Ax
def ik(x:V)(u:Value):Bool:=match u with
 | .none=>cC .non x
 | .bool b=>cC (.bl b) x
 | .int i _=>cC (.int i) x
 | .str z _=>cC (.str z) x
 | _=>false
theorem P7{y:V}(r:RelV y u)(f:jK y=true):ik x u=cC y x:=by
 cases y with
 | non=>cases r;rfl
 | bl b=>cases r;rfl
 | int i=>obtain⟨t,rfl⟩:=r;rfl
 | str z=>obtain⟨t,rfl⟩:=r;rfl
 | _=>exact absurd (show false=true from f) Ax
theorem uW{x:V}:∀{xs}{us},az xs us->xs.all jK=true->us.any (ik x)=xs.any λy=>cC y x
 | _,_,.nil,_=>rfl
 | y :: xs,u :: us,.cons r t,f=>by
  rw[Gy,Bq]at f;rw[Fj,Fj,P7 r f.1,uW t f.2]
theorem uX{A:Around}{s:Shared}{x:V}{v:Value}(rx:RelV x v)(fx:jK x=true):∀{xs}{us},az xs us->xs.all jK=true->∀ u∈us,SeqAt.EqAt A s u v<|ik x u
 | _,_,.nil,_=>λu hu=>by cases hu
 | y :: xs,u :: us,.cons r t,f=>λu' hu=>by
  rw[Gy,Bq]at f
  rcases Al.mp hu with rfl | hu
  ·rw[P7 r f.1];exact P6 r rx f.1 fx
  ·exact uX rx fx t f.2 u' hu
def j6(x:V)(xs:List V):Bool:=xs.any λy=>cC y x
def P8(K:PySem.W.Frag)(neg:Bool):R2:=λx y H Q=>∃ p xs,y = .ref p/\(aj K H p xs\/aS K H p xs)/\jK x=true/\xs.all jK=true/\Q (.bl (if neg then !j6 x xs else j6 x xs)) H
def lN:cG X (compareOp .In) (P8 X.K false):=by
 intro O s σ H x y v u Q I rx ry h;obtain⟨p,xs,rfl,hq,fx,fs,q⟩:=h;cases ry
 rcases hq with hq | hq
 ·obtain⟨è,r,pl,hz⟩:=I.list hq;refine SeqAt.in_listAt (ik x) pl.isList (λw hw=>uX rx fx r fs w<|by simpa using hw) ⟨.bl _,H,I,rfl,?_⟩;rwa[show è.toArray.any (ik x)=è.any (ik x) by simp,uW r fs]
 ·obtain⟨è,r,pl,hz⟩:=I.tuple hq;refine SeqAt.in_tupleAt (ik x) pl (λw hw=>uX rx fx r fs w<|by simpa using hw) ⟨.bl _,H,I,rfl,?_⟩;rwa[show è.toArray.any (ik x)=è.any (ik x) by simp,uW r fs]
def E4:cG X (compareOp .NotIn) (P8 X.K true):=by
 intro O s σ H x y v u Q I rx ry h;obtain⟨p,xs,rfl,hq,fx,fs,q⟩:=h;cases ry
 rcases hq with hq | hq
 ·obtain⟨è,r,pl,hz⟩:=I.list hq;refine SeqAt.notIn_listAt (ik x) pl.isList (λw hw=>uX rx fx r fs w<|by simpa using hw) ⟨.bl _,H,I,rfl,?_⟩;rwa[show è.toArray.any (ik x)=è.any (ik x) by simp,uW r fs]
 ·obtain⟨è,r,pl,hz⟩:=I.tuple hq;refine SeqAt.notIn_tupleAt (ik x) pl (λw hw=>uX rx fx r fs w<|by simpa using hw) ⟨.bl _,H,I,rfl,?_⟩;rwa[show è.toArray.any (ik x)=è.any (ik x) by simp,uW r fs]
theorem dH:fE X (.builtin "len") (λxs H Q=>∃ p ys,xs=[.ref p]/\(aj X.K H p ys\/aS X.K H p ys)/\Q (.int ys.length) H):=by
 intro O s σ H xs us Q I r h;obtain⟨p,ys,rfl,hq,q⟩:=h;obtain⟨u,rfl,rx⟩:=vals1 r;cases rx;have hn:=uP
 rcases hq with hq | hq
 ·obtain⟨è,r',pl,hz⟩:=I.list hq;have hlen:=r'.length;exact Calls.call_len_list pl.isList (by simp only[Aw] <;> omega) ⟨.int ys.length,H,I.tok _,⟨s.toks+1,by rw[Aw,hlen]⟩,q⟩
 ·obtain⟨è,r',pl,hz⟩:=I.tuple hq;have hlen:=r'.length;exact len_tuple pl (by simp only[Aw] <;> omega) ⟨.int ys.length,H,I.tok _,⟨s.toks+1,by rw[Aw,hlen]⟩,q⟩
theorem E5:fE X (.type "list") (λxs H Q=>∃ p ys,xs=[.ref p]/\(aj X.K H p ys\/aS X.K H p ys)/\∀ l,H l=none->Q (.ref l) (upd H l<|.lst ys)):=by
 intro O s σ H xs us Q I r h;obtain⟨p,ys,rfl,hq,q⟩:=h;obtain⟨u,rfl,rx⟩:=vals1 r;cases rx;have fin:∀(è:Ó),az ys è->ys.length<=sizeLine->∀(h':Heap) (c':Nat),(∀ b o',s.heap.get? b=some o'->h'.get? b=some o') ->
   h'.get? s.heap.objs.size=some {cls:= .type "list",dict:=none,data:= .seq è.toArray c',slots:=#[]}->EP X O σ Q (.ref s.heap.objs.size) {s with heap:=h'}:=λè r' hz h' c' kp e=>
  ⟨.ref s.heap.objs.size,_,I.laid kp (Am _) (show aB X.U X.w _ h' _ (.lst ys) from⟨hz,è,c',r',e⟩),rfl,q _<|I.aF.fresh<|Am _⟩
 rcases hq with hq | hq
 ·obtain⟨è,r',pl,hz⟩:=I.list hq;have hlen:=r'.length;obtain⟨o,ho,hc,n,hd⟩:=pl.isList;exact call_list_seq p (.inl rfl) ho hc hd (λh' c' kp e=>fin è r' hz h' c' kp e)<|by simp only[Aw] <;> omega
 ·obtain⟨è,r',pl,hz⟩:=I.tuple hq;have hlen:=r'.length;obtain⟨o,ho,hc,n,hd⟩:=pl;exact call_list_seq p (.inr rfl) ho hc hd (λh' c' kp e=>fin è r' hz h' c' kp e)<|by simp only[Aw] <;> omega
def mF(K:PySem.W.Frag)(T:String)(x:V)(H:Hp):Prop:=match x with
 | .str _=>T = "str"
 | .int _=>T = "int"
 | .ref p=>(T = "list"/\∃ xs,aj K H p xs)\/(T = "tuple"/\∃ o,K.lookup p=some o/\o.cls = .type "tuple"/\o.dict=none) \/
   (T = "dict"/\((∃ Y,H p=some (.dK Y))\/∃ Y,H p=some (.dT Y)))\/(T = "set"/\∃ S n,H p=some (.set S n))
 | _=>False
theorem P9(I:Inv X O σ H s)(r:RelV x v)(ty:mF X.K T x H) :
  s.TypeIs v T/\∀ a,v = .ref a->∃ ob,s.heap.get? a=some ob/\ob.dict=none:=by
 cases x with
 | str z=>
  obtain⟨t,rfl⟩:=r;cases (show T = "str" from ty);exact⟨typeIs_str s z t,λ_ e=>nomatch e⟩
 | int i=>
  obtain⟨t,rfl⟩:=r;cases (show T = "int" from ty);exact⟨typeIs_int s i t,λ_ e=>nomatch e⟩
 | ref p=>
  cases r
  rcases ty with ⟨rfl,xs,hq⟩ | ⟨rfl,o,hk,hc,hd⟩ | ⟨rfl,hk⟩ | ⟨rfl,S,n,hk⟩
  ·obtain⟨è,_,pl,_⟩:=I.list hq;refine⟨pl.isList.typeIs,λa e=>?_⟩;cases e;obtain⟨o,n,e,c,hd,_⟩:=pl;exact⟨o,e,hd⟩
  ·refine⟨⟨o,I.fh p o hk,hc⟩,λa e=>?_⟩;cases e;exact⟨o,I.fh _ o hk,hd⟩
  ·have z:∃ o,s.heap.get? p=some o/\o.ExactDict:=by
    rcases hk with ⟨Y,hk⟩ | ⟨Y,hk⟩
    ·obtain⟨_,_,_,_,o,_,_,e,ex,_⟩:=I.aF p _ hk;exact⟨o,e,ex⟩
    ·obtain⟨_,_,_,_,o,_,_,e,ex,_⟩:=I.aF p _ hk;exact⟨o,e,ex⟩
   obtain⟨o,e,ex⟩:=z;refine⟨⟨o,e,ex.1⟩,λa e2=>?_⟩;cases e2;exact⟨o,e,ex.2.1⟩
  ·obtain⟨o,_,_,_,e,ex,_⟩:=I.aF p _ hk;refine⟨⟨o,e,ex.1⟩,λa e2=>?_⟩;cases e2;exact⟨o,e,ex.2.1⟩
 | _=>exact False.elim ty
def E6(K:PySem.W.Frag)(T:String)(r:V->List V->Hp->VK->Prop)(to:TE):TE:=λσ H Q=>to σ H λx H1=>mF K T x H1/\r x [] H1 Q
def ZE(K:PySem.W.Frag)(T:String)(r:V->List V->Hp->VK->Prop)(to:TE)(t:TA):TE:=λσ H Q=>to σ H λx H1=>mF K T x H1/\t σ H1 λxs H2=>r x xs H2 Q
variable{o e:Expr}{to:TE}{t:TA}{apos fu:Pos}{id:String}{r:V->List V->Hp->VK->Prop}
def ZF(pa:PlainAttrs T)(slot:Slot T name id)(mG:typeOf (.builtin id)=pure (.type "method_descriptor"))(hm:uV X id r)(ho:PE X o to)
  (bO:attributeBase o name X.env (eval o X.env)=eval o X.env:=by rfl) (hline:(apos.endLine == fu.line)=true:=by rfl):PE X (.Call (.Attribute o name apos) [] [] fu) (E6 X.K T r to):=by
 intro O s σ H Q I h;refine wpAny_Call_method0_late bO hline<|aN (ho O s σ H _ I h) λv s1 ⟨x,H1,I1,r1,ty,q1⟩=>?_;obtain⟨h1,h2⟩:=P9 I1 r1 ty;exact⟨T,id,pa,slot,mG,h1,h2,JW rfl (PySem.evalArgs_none<|hm O s1 σ H1 x [] v [] Q I1 r1 .nil q1)⟩
def E7(pa:PlainAttrs T)(slot:Slot T name id)(mG:typeOf (.builtin id)=pure (.type "method_descriptor"))(hm:uV X id r)(ho:PE X o to)(ha:PA X (e :: es) t)
  (bO:attributeBase o name X.env (eval o X.env)=eval o X.env:=by rfl)
  (dB : ((backTo fu<|starEach (e :: es) X.env).all (λx => !x.1) && (backToKw fu<|keywordEach [] X.env).all (λx => x.1.isSome)
   && decide ((e :: es).length+([]:List Keyword).length+(if([]:List Keyword).isEmpty then 0 else 1) < 30))=true:=by rfl)
  (hline:(apos.endLine == fu.line)=true:=by rfl) (hs:starEach (e :: es) X.env=(false,eval e X.env) :: starEach es X.env:=by rfl) (b6:(backTo fu<|starEach es X.env).any (·.1)=false:=by rfl) :
  PE X (.Call (.Attribute o name apos) (e :: es) [] fu) (ZE X.K T r to t):=by
 intro O s σ H Q I h;refine wpAny_Call_method_late bO dB hline rfl (aN (ho O s σ H _ I h) λv s1 ⟨x,H1,I1,r1,ty,q1⟩=>?_);obtain⟨h1,h2⟩:=P9 I1 r1 ty;refine⟨T,id,pa,slot,mG,h1,h2,?_⟩;have hA:=ha fu O s1 σ H1 _ I1 q1;rw[hs]at hA ⊢;refine JW (by show(false || (backTo fu<|starEach es X.env).any (·.1))=false;rw[b6] <;> rfl)<|PX ?_;exact aN hA λus s2 ⟨vs,H2,I2,r2,q2⟩=>hm O s2 σ H2 x vs v us Q I2 r1 r2 q2
end
def qd(X:Cx)(id:String)(r:V->List V->Hp->VK->Prop):Prop:=
 ∀O s σ H x xs v us Q,Inv X O σ H s->RelV x v->az xs us->r x xs H Q ->
  wpAny (model X.U X.w) X.A (call (.builtin id)<|v :: us) (EP X O σ Q) X.xe s
variable{us:Ó}{xs:List V}
theorem az.hd(h:az (x :: xs) us):∃ u vs,us=u :: vs/\RelV x u/\az xs vs:=by
 cases h with
 | cons r t=>exact⟨_,_,rfl,r,t⟩
def az.nl(h:az [] us):us=[]:=by
 cases h;rfl
def az.one(h:az [x] us):∃ u,us=[u]/\RelV x u:=by
 obtain⟨u,vs,rfl,r,t⟩:=h.hd;rw[t.nl];exact⟨u,rfl,r⟩
def az.two{y:V}(h:az [x,y] us):∃ u v,us=[u,v]/\RelV x u/\RelV y v:=by
 obtain⟨u,vs,rfl,r,t⟩:=h.hd;obtain⟨v,ws,rfl,q,t⟩:=t.hd;rw[t.nl];exact⟨u,v,rfl,r,q⟩
theorem az.zero:∀{us},az [] us->us=[]
 | _,.nil=>rfl
theorem az.dropLast{xs:List V}{us:Ó}(h:az xs us):az xs.dropLast us.dropLast:=by
 induction h with
 | nil=>exact .nil
 | cons r t ih=>
  cases t with
  | nil=>exact .nil
  | cons q t'=>exact .cons r ih
theorem az.eraseIdx:∀{xs}{us}i,az xs us->az (xs.eraseIdx i) (us.eraseIdx i)
 | _,_,_,.nil=> .nil
 | _,_,0,.cons _ t=>t
 | _,_,i+1,.cons r t=> .cons r<|az.eraseIdx i t
theorem ZG{α:Type}(l:List α):l.eraseIdx (l.length - 1)=l.dropLast:=by
 induction l with
 | nil=>rfl
 | cons a r ih=>
  cases r with
  | nil=>rfl
  | cons b r=>
   have e:(a :: b :: r).length - 1=((b :: r).length - 1)+1:=by
    have h1:(a :: b :: r).length=r.length+2:=rfl;have h2:(b :: r).length=r.length+1:=rfl;omega
   rw[e,SX,ih]
   all_goals rfl
theorem P'{α:Type}:∀(l:List α) (i:Nat),(l.eraseIdx i).length<=l.length
 | [],_=>Am _
 | _ :: _,0=>Ef _
 | _ :: r,i+1=>Nat.succ_le_succ<|P' r i
variable{t':Nat}{f:Array Value->Array Value}{è:Ó}
section
variable{l b:Addr}{ys zs:List V}
def Inv.j7{its':Ó}(I:Inv X O σ H s)(hH:H l=some (.lst xs))
  (e:s.heap.get? l=some {cls:= .type "list",data:= .seq è.toArray n}) (hf:f è.toArray=its'.toArray) (hv:az ys its') (hz:ys.length<=sizeLine) :
  Inv X O σ (upd H l<|.lst ys) {s with heap:=s.heap.update l<|Obj.mapSeq f,toks:=t'}:=by
 have q:=PySem.IsL.update e f;rw[hf]at q;refine I.write (by rw[hH];exact trivial) (.inl rfl) (λb' u hb hu=>(Cb s.heap (Obj.mapSeq f)<|CG hb).trans hu) ⟨_,q⟩ ?_;exact⟨hz,its',_,hv,q⟩
def Inv.j8(I:Inv X O σ H s)(hv:az ys è)(hz:ys.length<=sizeLine) :
  Inv X O σ (upd H s.heap.objs.size<|.lst ys) {s with heap:=s.heap.push {cls:= .type "list",data:= .seq è.toArray},toks:=t'}:=
 I.laid (λ_ _ q=>Ae _ q) (Am _) ⟨hz,è,0,hv,Ao _ rfl⟩
def Inv.fresh(I:Inv X O σ H s):H s.heap.objs.size=none:=I.aF.fresh<|Am _
def Inv.gH(I:Inv X O σ H s)(hH:H l=some (.lst xs)):xs.length<=sizeLine/\∃è n,az xs è/\xs.length=è.length/\s.heap.get? l=some {cls:= .type "list",data:= .seq è.toArray n}:=by
 obtain⟨z,è,n,r,e⟩:=I.aF l _ hH;exact⟨z,è,n,r,r.length,e⟩
theorem ZH(h:n<=sizeLine):Builtin.List.listTooLong n=false:=by
 unfold Builtin.List.listTooLong;exact BR<|⋯
end
def ZI:V->List V->Hp->VK->Prop:=λx vs H Q=>∃ l xs y,x = .ref l/\vs=[y]/\H l=some (.lst xs)/\xs.length < sizeLine/\Q .non (upd H l<|.lst<|xs++[y])
theorem Qa:qd X "list.append" ZI:=by
 intro O s σ H x vs v us Q I rx rv h;obtain⟨l,xs,y,rfl,rfl,hH,hz,q⟩:=h;cases rx;obtain⟨u,rfl,ru⟩:=rv.one;obtain⟨z,è,n,r,hl,e⟩:=I.gH hH;refine QB F.slot_list_append ⟨_,e,rfl⟩ F.entry_list_append (F.args_list_append_2 _ _) (PySem.list_append l è.toArray n u<|by rw[Aw];omega) ⟨e,?_⟩;refine⟨.non,_,I.j7 hH e (by simp) (r.append<|.cons ru .nil) ?_,rfl,q⟩;rw[Ad,Cz];omega
def ZJ:V->List V->Hp->VK->Prop:=λx vs H Q=>∃ l b xs zs,x = .ref l/\vs=[.ref b]/\H l=some (.lst xs)/\H b=some (.lst zs)/\xs.length+zs.length<=sizeLine/\Q .non (upd H l<|.lst<|xs++zs)
theorem ZK:qd X "list.extend" ZJ:=by
 intro O s σ H x vs v us Q I rx rv h;obtain⟨l,b,xs,zs,rfl,rfl,hH,hB,hz,q⟩:=h;cases rx;obtain⟨u,rfl,ru⟩:=rv.one;cases ru;obtain⟨z,è,n,r,hl,e⟩:=I.gH hH;obtain⟨z2,eO,n2,r2,g9,e2⟩:=I.gH hB;have hsz:è.toArray.size+eO.toArray.size<=sizeLine:=by rw[Aw,Aw];omega
 have uY:¬(!è.toArray.isEmpty && Builtin.List.listTooLong (è.toArray.size+eO.toArray.size))=true:=by
  rw[ZH hsz,VG];exact Ax
 refine QB F.slot_list_extend ⟨_,e,rfl⟩ F.entry_list_extend (F.args_list_extend_2 _ _)
  (AutoSeq1.list_extend_list_list_0 l è.toArray n b eO.toArray n2 uY (by rw[Aw];omega)<|⋯) ⟨e,e2,?_⟩
 refine⟨.non,_,I.j7 hH e (by simp) (r.append r2) ?_,rfl,q⟩;rw[Ad];omega
def E8:V->List V->Hp->VK->Prop:=λx vs H Q=>∃ l xs y,x = .ref l/\vs=[]/\H l=some (.lst xs)/\xs[xs.length - 1]?=some y/\Q y (upd H l<|.lst xs.dropLast)
theorem ZL:qd X "list.pop" E8:=by
 intro O s σ H x vs v us Q I rx rv h;obtain⟨l,xs,y,rfl,rfl,hH,hy,q⟩:=h;cases rx;have ZM:=rv.zero;subst ZM;obtain⟨z,è,n,r,hl,e⟩:=I.gH hH;obtain⟨u,hu,ru⟩:=r.get hy;have yV:è.toArray[è.toArray.size - 1]?=some u:=by
  show è.toArray[è.length - 1]?=some u;rwa[<- Bw,<- hl]
 refine QB F.slot_list_pop ⟨_,e,rfl⟩ F.entry_list_pop (F.args_list_pop_1 _) (MeetsSeq.list_pop_last l è.toArray n u yV<|by rw[Aw];omega) ⟨e,?_⟩;refine⟨y,_,I.j7 hH e ?_ r.dropLast ?_,ru,q⟩
 ·show è.toArray.eraseIdxIfInBounds (è.toArray.size - 1)=è.dropLast.toArray;rw[Aw,PL,ZG]
 ·rw[List.length_dropLast];omega
def ZN:V->List V->Hp->VK->Prop:=λx vs H Q=>∃ l xs i k y,x = .ref l/\vs=[.int i]/\H l=some (.lst xs)/\-(2 ^ 63)<=i/\i < 2 ^ 63/\seqIndex? i xs.length=some k/\xs[k]?=some y/\Q y (upd H l<|.lst<|xs.eraseIdx k)
theorem ZO:qd X "list.pop" ZN:=by
 intro O s σ H x vs v us Q I rx rv h;obtain⟨l,xs,i,k,y,rfl,rfl,hH,h1,h2,hk,hy,q⟩:=h;cases rx;obtain⟨u,rfl,ru⟩:=rv.one;obtain⟨t,rfl⟩:=ru;obtain⟨z,è,n,r,hl,e⟩:=I.gH hH;obtain⟨w,hw,d9⟩:=r.get hy;refine QB F.slot_list_pop ⟨_,e,rfl⟩ F.entry_list_pop (F.args_list_pop_2 _ _)
  (MeetsSeq.list_pop_at l è.toArray n i t k w (fitsIndex_both h1 h2) (by rwa[Aw,<- hl]) (by rwa[<- Bw])<|by rw[Aw];omega) ⟨e,?_⟩
 refine⟨y,_,I.j7 hH e ?_ (r.eraseIdx k) ?_,d9,q⟩
 ·show è.toArray.eraseIdxIfInBounds k=(è.eraseIdx k).toArray;rw[PL]
 ·have:=P' xs k;omega
def E9:R2:=λx y H Q=>∃ l b xs zs,x = .ref l/\y = .ref b/\H l=some (.lst xs)/\H b=some (.lst zs)/\xs.length+zs.length<=sizeLine/\∀ p,H p=none->Q (.ref p) (upd H p<|.lst<|xs++zs)
theorem yW:cG X (binaryOp .Add) E9:=by
 intro O s σ H x y v u Q I rx ry h;obtain⟨l,b,xs,zs,rfl,rfl,hH,hB,hz,q⟩:=h;cases rx;cases ry;obtain⟨z,è,n,r,hl,e⟩:=I.gH hH;obtain⟨z2,eO,n2,r2,g9,e2⟩:=I.gH hB;refine PySem.P.add_list e e2 ?_ (by rw[Aw,Aw];omega);have ea:è.toArray++eO.toArray=(è++eO).toArray:=by simp
 rw[ea];exact⟨.ref _,_,I.j8 (r.append r2) (by rw[Ad];omega),rfl,q _ I.fresh⟩
variable{E:Î}{U:Program}
end L2
namespace Qb
open PySem PySem.W PySem.Calls PyProof.Rows
variable{h:Heap}{P:Params}
theorem ZP:∀ns vs,WellAll P h vs (ns.map WData.int)->IntsAre vs ns:=by
 intro ns
 induction ns with
 | nil=>
  intro vs w;rw[List.map_nil]at w;cases w;exact .nil
 | cons n ns ih=>
  intro vs w;rw[Bn]at w;cases w with
  | cons a b=>
   cases a;exact .cons _ _<|ih _ b
variable{vals:Ó}{args:List WData}{n:Nat}{l:OpenLaw}
theorem ZQ(hn:l.most=some n)
  (mH:l.row.toRowW.claim.pre args=true) (FA:WellAll P h vals args) :
  ∃ a vs ns,vals=[Value.ref a]/\args=[WData.list<|ns.map WData.int]/\h.get? a=some {cls:= .type "list",data:= .seq vs.toArray}/\IntsAre vs ns/\ns.length<=n:=by
 have ZR:=(pre_splitW mH).1;have hc:l.pre.holds [] {args:=args}=true:=(pre_splitW mH).2;obtain⟨d,r,rfl,h1,h2⟩:=hasAllW_cons ZR;obtain rfl:=hasAllW_nil h2;obtain⟨xs,rfl,h3⟩:=hasW_list h1;obtain⟨ns,rfl⟩:=items_int h3;have hlen:ns.length<=n:=by
  unfold OpenLaw.pre at hc;have h4:(WTm.not<|.lt (.lit<|.int (n:Int))<|.len<|.arg 0).holds [] {args:=[.list<|ns.map .int]}=true:=by
   have h4:=(holds_andW hc).1;rwa[hn]at h4
  have h5:=condW_of h4<|w_not<|w_lt w_lit<|w_len_list<|w_arg rfl;rw[Aa]at h5;refine Nat.le_of_not_lt λq=>?_;have q':(n:Int) < ((ns.length:Nat):Int):=⋯
  first
   | (rw[BW q']at h5;exact absurd h5<|∅)
   | (simp at h5;omega)
 cases FA with
 | cons w1 w2=>
  cases w2;cases w1 with
  | list ho j9=>exact⟨_,_,ns,rfl,rfl,ho,ZP ns _ j9,hlen⟩
def ZS(l:OpenLaw)(args:List WData):l.row.toRowW.claim.post args (.bool true) args=true:=
 postW_of
  (show WShape.has [] (.bool true) .bool=true by first | rfl | decide | simp[WShape.has,WShape.arms,WShape.armsAll])
  (show(WTm.eq .res<|.lit<|.bool true).value [] {args:=args,res:=some<|.bool true,after:=args}=some (.bool<|true == true)from w_eq_bool (w_res rfl) w_lit) rfl
variable{YP:World->Heap->Prop}{XP:Ò->Heap->Prop}{loose:Ñ}
def gI{q:Program}{d:DefRec}
  (hn:l.most=some n) (mI:d.params.defaults=[])
  (call : ∀ (w : World) (æ À : Shared) (mg mb : Str → Option Value) (fa : Addr) (o : Obj) (pm cd doc : Value) (a : Addr) (vs : List Value) (ns : List Int),
   Ground q loose [] XP w æ mg mb À.heap->YP w À.heap ->
   À.heap.get? fa=some o->o.data = .func (docDef d.name d.params d.body d.scope pm cd doc)->À.heap.CodeRec cd d.name->mg d.name=some (.ref fa) ->
   À.heap.get? a=some {cls:= .type "list",data:= .seq vs.toArray}->IntsAre vs ns->ns.length<=n->À.gens=#[] ->
   codeAny (model l.prog w) callerA (.call (.ref fa) ⟨[.ref a],[]⟩) (λr s'=>r = .ok (.ret<|.bool true)/\OldK À.heap s'.heap/\s'.os=À.os/\AllBare s'.gens) À) :
  WalkO q loose XP YP l.row.toRowW d [] (λf vs=>PySem.call f vs):=by
 intro w æ À mg mb G ý fa o pm cd doc dV kV ho hd iW hD uZ hg args vals as mH hlay hrd FA hlo;obtain rfl:dV = .none:=Dflts.none hD mI;obtain rfl:kV = .none:=Dflts.noKw hD;obtain⟨a,vs,ns,rfl,rfl,im,hints,hlen⟩:=ZQ hn mH FA;refine enter_call<|JK (call w æ À mg mb fa o pm cd doc a vs ns G ý ho (fd_plain hd) iW uZ im hints hlen hg) λr s' hq=>?_;obtain⟨rfl,h2,h3,h4⟩:=hq;exact⟨.inl ⟨.bool true,.bool true,[],rfl,λ_=>rfl,.bool true,ZS l _,λ_=>⟨List.Pairwise.nil,λ_ hm=>(nomatch hm)⟩⟩,h2,h3,h4⟩
variable{E:Î}{U:Program}
end Qb
namespace L2
open PySem PySem.Spec PyProof.Rows
theorem Qc:∀{vs}{ns},IntsAre vs ns->az (ns.map V.int) vs
 | _,_,.nil=> .nil
 | _,_,.cons n t h=> .cons ⟨t,rfl⟩<|Qc h
def Only(H:Hp):Prop:=∀ b,H b=none\/∃ o xs,H b=some (.bB o<|.lst xs)
variable{ns:List Int}{À:Shared}{sp:Sp}{x:Str}{fd:FuncData}{fa a:Addr}{CX:jJ}{mg:Ò}{K:PySem.W.Frag}{w:World}{P:Program}
theorem ZT{mb:Ò}{k:Nat}{vs:Ó}
  (KX:K.In À.heap) (oI:À.heap.Ns mainGlobals mg) (hb:À.heap.Ns builtinsNs mb) (ZU:∀ x:Str,x ≠ "__name__"->mb x=bootBuiltins x) (FC:À.heap.NoLimit) (hg:À.gens=#[])
  (ha:À.heap.get? a=some {cls:= .type "list",data:= .seq vs.toArray}) (hi:IntsAre vs ns) (hl:ns.length<=sizeLine) (hr:bv k callerA)
  (F:∀ Z:Heap,K.In Z->Z.Ns mainGlobals mg->aD P w K mg Z CX k fa fd [x] sp) (va:∀s u,BindsTo s fd ⟨[u],[]⟩ [(x,u)])
  (dG:∀ H:Hp,Only H->aj K H a (ns.map V.int)->sp [.ref a] H (λv _=>v = .bl true) λ_ _ _=>False)
  (FD:∀ H e s',CX [] H À (λ_ _ _=>False) e s'->False) :
  codeAny (model P w) callerA (.call (.ref fa) ⟨[.ref a],[]⟩) (λr s'=>r = .ok (.ret<|.bool true)/\OldK À.heap s'.heap/\s'.os=À.os/\AllBare s'.gens) À:=by
 have rv:=Qc hi;have FE:=hi.length;have core:∀ H:Hp,Only H->aj K H a (ns.map V.int)->cg P w H À.heap->(∀ b,H b≠none->b=a)->(H a≠none->K.lookup a=none) ->
   codeAny (model P w) callerA (.call (.ref fa) ⟨[.ref a],[]⟩) (λr s'=>r = .ok (.ret<|.bool true)/\OldK À.heap s'.heap/\s'.os=À.os/\AllBare s'.gens) À:=by
  intro H hO hS aF hA hK;have iZ:∀{b:Addr} {o:Obj},À.heap.get? b=some o->H b=none->(fM À.heap H).get? b=some o:=λe n=>X3 e n;have uS:∀{b:Addr} {o:Obj} {es:Array DictEntry} {ep:Nat},À.heap.get? b=some o->o.data = .dict es ep->H b=none:=λ{b o es ep} e d=>by
   cases q:H b with
   | none=>rfl
   | some u=>
    have e':b=a:=hA b (by rw[q];simp);subst e';rw[ha]at e;cases e;have d':Data.seq vs.toArray _=Data.dict es ep:=d;cases d'
  have yX:∀{b:Addr} {m:Ò},À.heap.Ns b m->(fM À.heap H).Ns b m:=λ{b m} ⟨o,es,ep,e,d,r⟩=>⟨o,es,ep,iZ e<|uS e d,d,r⟩;have Qd:K.In (fM À.heap H):=λb o e=>iZ (KX b o e)<|by
   cases q:H b with
   | none=>rfl
   | some u=>
    have e':b=a:=hA b (by rw[q];simp);subst e';rw[hK<|by rw[q];simp]at e;cases e
  have hM:Mod K mg (fM À.heap H):=⟨Qd,yX oI,⟨mb,yX hb,ZU⟩,let ⟨mc,h1,h2⟩:=FC;⟨mc,yX h1,h2⟩⟩;have e0:mD P w K mg (fM À.heap H) callerA [] À H:=⟨rfl,hM,λb o e=>X4 e,WD<|X2 _ _,trivial,λb hb=>absurd (show b∈([]:List Addr)from hb) (by simp),aF,.of_eq hg⟩;refine JK ((F _ Qd<|yX oI).run callerA [] À H ⟨[.ref a],[]⟩ [.ref a] [.ref a] _ _ hr e0 (va À<|.ref a) (.cons rfl .nil)<|dG H hO hS) λr s' h=>?_;cases r with
  | error e=>exact(FD H e s' h).elim
  | ok fl=>
   cases fl with
   | next=>exact False.elim h
   | brk=>exact False.elim h
   | cont=>exact False.elim h
   | ret u=>
    obtain⟨v,H',os,bare,un,FG,r',q⟩:=h;have q':v = .bl true:=q;subst q';obtain rfl:u=Value.bool true:=r';refine⟨rfl,OldK.of_keep λb o e=>?_,os,bare⟩;cases q:H b with
    | none=>exact un.keep b o e q (by intro z;exact absurd (show b∈([]:List Addr)from z)<|by simp)<|by simp
    | some u=>
     rcases hO b with z | ⟨ob,xs,z⟩
     ·rw[q]at z;cases z
     ·have z2:=un.dN b ob _ z;obtain⟨e1,_⟩:=aF b _ z;obtain⟨e2,_⟩:=FG b _ z2;rw[e]at e1;cases e1;exact e2
 cases hk:K.lookup a with
 | some o=>
  have e:=KX a o hk;rw[ha]at e;cases e;refine core (λ_=>none) (λ_=> .inl rfl) (.inr ⟨_,vs.toArray,_,hk,rfl,rfl,rfl,by rwa[Aw,FE],by simpa using rv⟩) (λb u z=>by have z':(none:Option HO)=some u:=z;cases z') (λb z=>absurd rfl z) λz=>absurd rfl z
 | none=>
  refine core (λb=>if b=a then some (.bB {cls:= .type "list",data:= .seq vs.toArray}<|.lst<|ns.map V.int)else none) (λb=>?_) (.inl<|.inr ⟨{cls:= .type "list",data:= .seq vs.toArray},BP rfl⟩) (λb u z=>?_) (λb z=>?_) λ_=>hk
  ·by_cases hb:b=a
   ·exact .inr ⟨_,_,BP hb⟩
   ·exact .inl<|BK hb
  ·by_cases hb:b=a
   ·have z':=(BP hb).symm.trans z;cases z';subst hb;exact⟨ha,by rwa[Aa],vs,_,rv,ha⟩
   ·have z':=(BK hb).symm.trans z;cases z'
  ·by_cases hb:b=a
   ·exact hb
   ·exact absurd (BK hb) z
variable{YP:World->Heap->Prop}{XP:Ò->Heap->Prop}{loose:Ñ}{n:Nat}{l:PySem.W.OpenLaw}
def mJ{k:Nat}{q:Program}{d:DefRec}{K:Params->PySem.W.Frag}{CX:World->jJ}{sp:World->Sp}
  (hn:l.most=some n) (FH:n<=sizeLine) (mI:d.params.defaults=[]) (hr:bv k callerA)
  (hY:∀(w:World) (h:Heap),YP w h->(K w.params).In h)
  (F : ∀ (w : World) (mg : Str → Option Value) (fa : Addr) (h : Heap), (K w.params).In h → h.Ns mainGlobals mg → mg d.name = some (.ref fa) →
   ∃ fd:FuncData,(∀(s:Shared) (u:Value),BindsTo s fd ⟨[u],[]⟩ [(x,u)]) /\
    ∀ Z:Heap,(K w.params).In Z->Z.Ns mainGlobals mg->aD l.prog w (K w.params) mg Z (CX w) k fa fd [x] (sp w))
  (dG:∀(w:World) (H:Hp) (a:Addr) (ns:List Int),ns.length<=n->Only H->aj (K w.params) H a (ns.map V.int)->sp w [.ref a] H (λv _=>v = .bl true) λ_ _ _=>False)
  (FD:∀(w:World) (H:Hp) (s:Shared) (e:Value) (s':Shared),CX w [] H s (λ_ _ _=>False) e s'->False) :
  PySem.W.WalkO q loose XP YP l.row.toRowW d [] (λf vs=>PySem.call f vs):=by
 refine Qb.gI hn mI λw æ À mg mb fa o pm cd doc a vs ns G ý ho hd iW uZ im hints hlen hg=>?_;have KX:=hY w _ ý;obtain⟨fd,hb,hF⟩:=F w mg fa _ KX G.T.g uZ;exact ZT KX G.T.g G.T.b G.T.builtins G.T.nolimit hg im hints (By hlen FH) hr hF hb (λH hO hS=>dG w H a ns hlen hO hS) λH e s'=>FD w H À e s'
def lP(s:Stmt):Arguments:=match s with
 | .FunctionDef _ a _ _ _ _ _ _ _ _=>a
 | _=>{posonlyargs:=[],args:=[],vararg:=none,kwonlyargs:=[],kw_defaults:=[],kwarg:=none,defaults:=[]}
def gn(s:Stmt):Õ:=match s with
 | .FunctionDef _ _ b _ _ _ _ _ _ _=>b
 | _=>[]
def aP(s:Stmt):Scope:=match s with
 | .FunctionDef _ _ _ _ _ _ sc _ _ _=>sc
 | _=>{kind:= .function,names:=[],isGenerator:=false,isCoroutine:=false}
abbrev bz:jJ:=λ_ _ _ _ _ _=>False
abbrev E0:XK:=λ_ _ _=>False
variable{X:Cx}
def ka:p9 bz X E0:=λ_ _ _ _ _ _ _ h=>h.elim
structure bo(K:PySem.W.Frag)(x qual:Str)(st:Stmt)(f:Addr)(fd:FuncData):Prop where
 ex:∃oc od kV doc pm an bF ct j5,
  fd=PySem.W.fnOf x qual (lP st) (gn st) (aP st) .none kV doc pm an bF ct/\K.lookup f=some ⟨oc,od,.func fd,j5⟩/\PySem.W.codeIn K bF qual=true
 kp:PySem.W.keepIn K (.ref f)=true
variable{Z:Heap}{ps:Ñ}{f:Addr}{st:Stmt}{qual:Str}{j5:Array (Option Value)}{oc:Value}
def bo.ok{N:Ñ}{k:Nat}(F:bo K x qual st f fd)(S:ak N ps<|aP st)(len:∀ vs H Q E,sp vs H Q E->vs.length=ps.length)
  (cw : ∀bF A outer s H vs Q E, bv k (A.deeper<|envOfC qual (aP st) s.heap.objs.size f bF) → sp vs H Q E →
   ∃ t,ji (fq bz P w K mg Z N qual (aP st) f bF A outer s H E).my (gn st) t/\t {nx:=λ_ H'=>Q .non H',rt:=Q} (start N vs) H):aD P w K mg Z bz (k+1) f fd ps sp:=by
 obtain⟨oc,od,kV,doc,pm,an,bF,ct,j5,rfl,lk,iW⟩:=F.ex;refine P2 lk iW S len λA outer s H vs Q E hr dG=>?_;obtain⟨t,h,q⟩:=cw bF A outer s H vs Q E hr dG;exact⟨t,h.my,q⟩
def bo.binds(F:bo K x qual st f fd)
  (h:∀kV doc pm an bF ct us,us.length=ps.length->bindArgs (PySem.W.fnOf x qual (lP st) (gn st) (aP st) .none kV doc pm an bF ct) ⟨us,[]⟩=pure (ps.zip us)):Binds K fd ps []:=by
 obtain⟨oc,od,kV,doc,pm,an,bF,ct,j5,rfl,lk,iW⟩:=F.ex;exact .all<|h kV doc pm an bF ct
def ZV{od an:Option Addr}{kV doc pm bF ct:Value}(l:K.lookup f=some ⟨oc,od,.func<|PySem.W.fnOf x qual (lP st) (gn st) (aP st) .none kV doc pm an bF ct,j5⟩)
  (c:PySem.W.codeIn K bF qual=true) (k:PySem.W.keepIn K (.ref f)=true):bo K x qual st f (PySem.W.fnOf x qual (lP st) (gn st) (aP st) .none kV doc pm an bF ct):=⟨⟨oc,od,kV,doc,pm,an,bF,ct,j5,rfl,l,c⟩,k⟩
def bH{A B:Prop}(h:B):if false=true then A else B:=by
 rwa[BK Ax]
def cz{A B:Prop}(h:A):if true=true then A else B:=by
 rwa[BP rfl]
def iq{c A B:Prop} [Decidable c] (h1:c->A) (h2:¬ c->B):if c then A else B:=by
 by_cases h:c
 ·rw[BP h];exact h1 h
 ·rw[BK h];exact h2 h
def ah(H H':Hp):Prop:=∀ b o,H b=some o->H' b=some o
def ah.refl(H:Hp):ah H H:=λ_ _ h=>h
variable{H H2:Hp}
def ah.trans{H1:Hp}(a:ah H H1)(b:ah H1 H2):ah H H2:=λc o h=>b c o<|a c o h
variable{H':Hp}
theorem ah.free(e:ah H H'){l:Addr}(h:H' l=Option.none):H l=Option.none:=by
 cases q:H l with
 | none=>rfl
 | some o=>
  rw[e l o q]at h;cases h
def ah.seq{xs:List V}(e:ah H H')(h:aj K H a xs):aj K H' a xs:=by
 rcases h with (h | ⟨o,h⟩) | h
 ·exact .inl<|.inl<|e _ _ h
 ·exact .inl<|.inr ⟨o,e _ _ h⟩
 ·exact .inr h
variable{o:Option V}{u:Value}{y:V}
section
variable{κ:Type} [DecidableEq κ]
def ao(Y:List<|κ×V)(k:κ):Option V:=(Y.find? λkv=>decide (kv.1=k)).map (·.2)
def putK(Y:List<|κ×V)(k:κ)(v:V):List (κ×V):=
 if(Y.any λkv=>decide (kv.1=k))=true then Y.map (λkv=>if kv.1=k then(kv.1,v)else kv)else Y++[(k,v)]
def gJ{p:κ×V}{r:List (κ×V)}{k:κ}(e:p.1=k):ao (p :: r) k=some p.2:=by simp[ao,Fi,e]
def gK{p:κ×V}{r:List (κ×V)}{k:κ}(e:¬ p.1=k):ao (p :: r) k=ao r k:=by simp[ao,Fi,e]
theorem sO(k:κ):∀ Y:List<|κ×V,(Y.any λkv=>decide (kv.1=k))=(ao Y k).isSome
 | []=>rfl
 | p :: r=>by
  rw[Fj]
  by_cases e:p.1=k
  ·simp only[gJ e,BW e,Bool.true_or,Option.isSome_some]
  ·rw[gK e,BR e,Bool.false_or];exact sO k r
theorem Qe(k j:κ)(y:V):∀ Y:List<|κ×V,ao (Y.map λkv=>if kv.1=k then(kv.1,y)else kv) j=(ao Y j).map λx=>if j=k then y else x
 | []=>rfl
 | p :: r=>by
  have ih:=Qe k j y r;rw[Bn]
  by_cases h:p.1=k
  ·rw[BP h]
   by_cases e:p.1=j
   ·rw[gJ (p:=(p.1,y)) e,gJ e,Gr,BP<|e.symm.trans h]
   ·rw[gK (p:=(p.1,y)) e,gK e,ih]
  ·rw[BK h]
   by_cases e:p.1=j
   ·rw[gJ e,gJ e,Gr,BK λz=>h<|e.trans z]
   ·rw[gK e,gK e,ih]
theorem Qf(k j:κ)(y:V):∀ Y:List<|κ×V,ao Y k=none->ao (Y++[(k,y)]) j=if j=k then some y else ao Y j
 | [],_=>by
  by_cases e:k=j
  ·rw[BP e.symm];exact gJ (p:=(k,y)) e
  ·rw[BK λz=>e z.symm];exact gK (p:=(k,y)) e
 | p :: r,hn=>by
  rw[Ft];have hk:¬ p.1=k:=λz=>by rw[gJ z]at hn;cases hn
  rw[gK hk]at hn;have ih:=Qf k j y r hn
  by_cases e:p.1=j
  ·rw[gJ e,gJ e,BK λz=>hk<|e.trans z]
  ·rw[gK e,gK e,ih]
def dC(Y:List<|κ×V)(k j:κ)(y:V):ao (putK Y k y) j=if j=k then some y else ao Y j:=by
 unfold putK
 by_cases a:(Y.any λkv=>decide (kv.1=k))=true
 ·rw[BP a,Qe];rw[sO]at a
  by_cases e:j=k
  ·obtain⟨x,hx⟩:=Ez.mp a;rw[BP e,e,hx,Gr,BP rfl]
  ·rw[BK e];cases ao Y j with
   | none=>rfl
   | some x=>rw[Gr,BK e]
 ·rw[BK a];refine Qf k j y Y ?_;rw[sO]at a;cases q:ao Y k with
  | none=>rfl
  | some x=>rw[q]at a;exact(a rfl).elim
theorem jn(Y:List<|κ×V)(k:κ)(v:V):(putK Y k v).length<=Y.length+1:=by
 unfold putK
 split
 ·rw[Aa];omega
 ·rw[Ad,As,Eu];omega
def Qg{Y:List (κ×V)}{k:κ}(v:V)(h:ao Y k=none):putK Y k v=Y++[(k,v)]:=by
 unfold putK;rw[sO,h];exact BK<|∅
theorem eI.bW{u:Option Value}(r:eI o u):o.isSome=u.isSome:=by
 cases o with
 | none=>cases u with
  | none=>rfl
  | some _=>exact(show False from r).elim
 | some _=>cases u with
  | none=>exact(show False from r).elim
  | some _=>rfl
theorem KV.val{Y:List (κ×V)}{vs:List (κ×Value)}(r:KV Y vs)(k:κ):eI (ao Y k) (valueAt vs k):=by
 unfold KV at r
 induction r with
 | nil=>exact True.intro
 | @cons p q ps qs h t ih=>
  obtain⟨h1,h2⟩:=h
  by_cases e:p.1=k
  ·have e':=h1.symm.trans e;have b:valueAt (q :: qs) k=some q.2:=by simp[valueAt,Fi,e']
   rwa[gJ e,b]
  ·have e':¬ q.1=k:=λz=>e<|h1.trans z;have b:valueAt (q :: qs) k=valueAt qs k:=by simp[valueAt,Fi,e']
   rwa[gK e,b]
theorem KV.any{Y:List (κ×V)}{vs:List (κ×Value)}(r:KV Y vs)(k:κ):(Y.any λkv=>decide (kv.1=k))=vs.any λkv=>decide (kv.1=k):=by
 unfold KV at r
 induction r with
 | nil=>rfl
 | cons h t ih=>rw[Fj,Fj,ih,h.1]
theorem KV.repl{Y:List (κ×V)}{vs:List (κ×Value)}(r:KV Y vs)(k:κ)(ry:RelV y u) :
  KV (Y.map λkv=>if kv.1=k then(kv.1,y)else kv) (vs.map λkv=>if kv.1=k then(kv.1,u)else kv):=by
 unfold KV at r ⊢
 induction r with
 | nil=>exact .nil
 | @cons p q ps qs h t ih=>
  rw[Bn,Bn];refine .cons ?_ ih;obtain⟨h1,h2⟩:=h
  by_cases e:p.1=k
  ·rw[BP e,BP<|h1.symm.trans e];exact⟨h1,ry⟩
  ·rw[BK e,BK λz=>e<|h1.trans z];exact⟨h1,h2⟩
def KV.put{Y:List (κ×V)}{vs:List (κ×Value)}(r:KV Y vs)(k:κ)(ry:RelV y u):KV (putK Y k y) (stored vs k u):=by
 unfold putK stored;rw[r.any k]
 by_cases e:(vs.any λkv=>decide (kv.1=k))=true
 ·rw[BP e,BP e];exact r.repl k ry
 ·rw[BK e,BK e];exact Paired.snoc r ⟨rfl,ry⟩
theorem KV.keys{Y:List (κ×V)}{vs:List (κ×Value)}(r:KV Y vs):Y.map (·.1)=vs.map (·.1):=by
 unfold KV at r
 induction r with
 | nil=>rfl
 | cons h t ih=>rw[Bn,Bn,ih,h.1]
def KV.length{Y:List (κ×V)}{vs:List (κ×Value)}(r:KV Y vs):Y.length=vs.length:=Paired.length r
end
theorem oJ{k:Key}(r:RelV (kV k) u):(dM P w).is k u=true:=by
 cases k with
 | inl i=>obtain⟨t,e⟩:=(show ∃ t,u=Value.int i t from r);subst e;exact XZ P w i t
 | inr x=>obtain⟨t,e⟩:=(show ∃ t,u=Value.str x t from r);subst e;exact X0 P w x t
theorem Qh{P:Program}{w:World}:∀{ks}{us},az (ks.map kV) us->ItemsAre (dM P w) ks us
 | [],_,r=>by rw[List.map_nil]at r;cases r;exact .nil
 | k :: ks,_,r=>by
  rw[Bn]at r;cases r with
  | cons h t=>exact .cons (oJ h)<|Qh t
abbrev KT(H:Hp):List (List Key×V)->List (List Key×Addr×Value)->Prop:=Paired λp q=>p.1=q.1/\H q.2.1=some (.tup<|p.1.map kV)/\RelV p.2 q.2.2
variable{xs:List (List Key×Addr×Value)}{Y:List (List Key×V)}
theorem KT.val(r:KT H Y xs)(k:List Key):eI (ao Y k) ((atKey xs k).map (·.2)):=by
 induction r with
 | nil=>exact True.intro
 | @cons p q ps qs h t ih=>
  obtain⟨h1,_,h2⟩:=h
  by_cases e:p.1=k
  ·have e':=h1.symm.trans e;have b:atKey (q :: qs) k=some q.2:=by simp[atKey,Fi,e']
   rwa[gJ e,b]
  ·have e':¬ q.1=k:=λz=>e<|h1.trans z;have b:atKey (q :: qs) k=atKey qs k:=by simp[atKey,Fi,e']
   rwa[gK e,b]
theorem KT.repl(r:KT H Y xs)(k:List Key)(ry:RelV y u) :
  KT H (Y.map λkv=>if kv.1=k then(kv.1,y)else kv) (xs.map<|putAt k u):=by
 induction r with
 | nil=>exact .nil
 | @cons p q ps qs h t ih=>
  rw[Bn,Bn];refine .cons ?_ ih;obtain⟨h1,h2,h3⟩:=h;unfold putAt
  by_cases e:p.1=k
  ·rw[BP e,BP<|h1.symm.trans e];exact⟨h1,h2,ry⟩
  ·rw[BK e,BK λz=>e<|h1.trans z];exact⟨h1,h2,h3⟩
variable{b:Addr}
def KT.put(r:KT H Y xs)(k:List Key)(hb:H b=some (.tup<|k.map kV))(ry:RelV y u) :
  KT H (putK Y k y) (storedH xs k b u):=by
 have e:(Y.any λkv=>decide (kv.1=k))=(atKey xs k).isSome:=by
  rw[sO,(r.val k).bW,RL]
 unfold putK storedH;rw[e]
 by_cases q:(atKey xs k).isSome=true
 ·rw[BP q,BP q];exact r.repl k ry
 ·rw[BK q,BK q];exact Paired.snoc r ⟨rfl,hb,ry⟩
def KT.keeps(r:KT H Y xs)(ht:∀ b ys,H b=some (.tup ys)->H' b=some (.tup ys)):KT H' Y xs:=
 Paired.pP r λ_ _ z=>⟨z.1,ht _ _ z.2.1,z.2.2⟩
variable{h:Heap}{ks:List Key}
def Qi{u:HO}(ok:cg P w H h)(e:Rd H a u):aB P w H h a u:=e.ok ok
def vb{Y:List (Key×V)}(ok:cg P w H h)(e:Rd H a<|.dK Y):Y.length<=sizeLine/\(a == sysModules)=false/\∃ vs,KV Y vs/\h.DictOf (dM P w) a vs:=
 show aB P w H h a (.dK Y)from Qi ok e
def vd{Y:List (Key×V)}(ok:cg P w H h)(e:H a=some (.dK Y)):Y.length<=sizeLine/\(a == sysModules)=false/\∃ vs,KV Y vs/\h.DictOf (dM P w) a vs:=vb ok<|.inl e
def sR(ok:cg P w H h)(e:H a=some (.tup<|ks.map kV)):(tupleKind<|dM P w).is h ks a:=by
 obtain⟨_,è,r,o,h1,h2,n,h3⟩:=(show aB P w H h a (.tup<|ks.map kV)from ok a _ e);exact⟨o,è.toArray,n,h1,h2,h3,by simpa using Qh r⟩
def ve(ok:cg P w H h)(e:Rd H a<|.dT Y):Y.length<=sizeLine/\(a == sysModules)=false /\
  ∃ xs,KT H Y xs/\h.DictOfH (tupleKind<|dM P w) a xs:=by
 obtain⟨z,y,xs,r,o,es,ep,h1,h2,h3,h4,h5⟩:=(show aB P w H h a (.dT Y)from Qi ok e);refine⟨z,y,xs,r,o,es,ep,h1,h2,h3,h4,λx hx=>?_,h5⟩;have all:∀{l}{m},KT H l m->∀ x∈m,(tupleKind<|dM P w).is h x.1 x.2.1:=by
  intro l m q
  induction q with
  | nil=>intro x hx;exact nomatch hx
  | @cons p q ps qs hq t ih=>
   intro x hx
   rcases Al.mp hx with e | hx
   ·subst e;exact sR ok<|by rw[<- hq.1];exact hq.2.1
   ·exact ih x hx
 exact all r x hx
def Qj(ok:cg P w H h)(e:H a=some (.dT Y)):Y.length<=sizeLine/\(a == sysModules)=false /\
  ∃ xs,KT H Y xs/\h.DictOfH (tupleKind<|dM P w) a xs:=ve ok<|.inl e
def aX(H:Hp)(a:Addr)(y:V)(r:Option V):Prop:=
 (∃ Y k,Rd H a (.dK Y)/\y=kV k/\r=ao Y k)\/∃ Y k b,Rd H a (.dT Y)/\y = .ref b/\H b=some (.tup<|k.map kV)/\r=ao Y k
def bX(H:Hp)(a:Addr)(y v:V)(H':Hp):Prop:=
 (∃ Y k,H a=some (.dK Y)/\y=kV k/\Y.length < sizeLine/\H'=upd H a (.dK<|putK Y k v)) \/
 ∃ Y k b,H a=some (.dT Y)/\y = .ref b/\H b=some (.tup<|k.map kV)/\Y.length < sizeLine/\H'=upd H a (.dT<|putK Y k v)
def aX.k{H:Hp}{a:Addr}{Y:List (Key×V)}{k:Key}(e:H a=some (.dK Y)):aX H a (kV k) (ao Y k):= .inl ⟨Y,k,.inl e,rfl,rfl⟩
def aX.t{k:List Key}(e:H a=some (.dT Y))(eb:H b=some (.tup<|k.map kV)):aX H a (.ref b) (ao Y k):= .inr ⟨Y,k,b,.inl e,rfl,eb,rfl⟩
def bX.k{H:Hp}{a:Addr}{Y:List (Key×V)}{k:Key}{v:V}(e:H a=some (.dK Y))(hl:Y.length < sizeLine):bX H a (kV k) v (upd H a<|.dK<|putK Y k v):= .inl ⟨Y,k,e,rfl,hl,rfl⟩
variable{v:V}
def bX.t{k:List Key}(e:H a=some (.dT Y))(eb:H b=some (.tup<|k.map kV))(hl:Y.length < sizeLine) :
  bX H a (.ref b) v (upd H a<|.dT<|putK Y k v):= .inr ⟨Y,k,b,e,rfl,eb,hl,rfl⟩
variable{E Q:Î}{A:Around}{s:Shared}{σ:St}{O:Ð}{t':Nat}{h':Heap}{vs:List (Key×Value)}
section
variable{r:Value}
def Inv.big(I:Inv X O σ H s):sysModules < s.heap.objs.size:=by
 have h:=(I.mod.glob.keeps I.bk).lt;exact Nat.lt_trans ∅ h
def ZW(hu:A.units+1 < cLine)(I:Inv X O σ H s)(g:aX H a y<|some v)(ry:RelV y u)(h:∀ w' s',Inv X O σ H s'->RelV v w'->Q w' s') :
  wpAny (model X.U X.w) A (getItem (.ref a) u) Q E s:=by
 rcases g with ⟨Y,k,e,ey,l⟩ | ⟨Y,k,b,e,ey,eb,l⟩
 ·subst ey;obtain⟨z,hd,vs,rel,dd⟩:=vb I.aF e;obtain⟨w',hw,d9⟩:=eI.some_of (by rw[l];exact rel.val k);exact wpAny_getItem_of (oJ ry) dd.mapOf hw<|h w' _ (I.tok _) d9
 ·subst ey;cases (show u=Value.ref b from ry);obtain⟨z,hd,xs,rel,dd⟩:=ve I.aF e;obtain⟨w',hw,d9⟩:=eI.some_of (by rw[l];exact rel.val k);obtain⟨p,hp,kd⟩:=Ar.mp hw;refine wpAny_getItem_heap (KZ hu) (sR I.aF eb) dd hp ?_;rw[kd];exact h w' _ (I.tok _) d9
def FI(hu:A.units+1 < cLine)(I:Inv X O σ H s)(g:aX H a y o)(ry:RelV y u)(h:∀ s',Inv X O σ H s'->Q (.bool o.isSome) s') :
  wpAny (model X.U X.w) A (compareOp .In u<|.ref a) Q E s:=by
 rcases g with ⟨Y,k,e,ey,l⟩ | ⟨Y,k,b,e,ey,eb,l⟩
 ·subst ey;obtain⟨z,hd,vs,rel,dd⟩:=vb I.aF e;refine wpAny_in_of (oJ ry) hd dd.mapOf ?_;rw[<- (rel.val k).bW,<- l];exact h _<|I.tok _
 ·subst ey;cases (show u=Value.ref b from ry);obtain⟨z,hd,xs,rel,dd⟩:=ve I.aF e;refine wpAny_in_heap (KZ hu) (sR I.aF eb) hd dd ?_;have q:=(rel.val k).bW;rw[RL]at q;rw[<- q,<- l];exact h _<|I.tok _
def ZX(hu:A.units+1 < cLine)(I:Inv X O σ H s)(g:aX H a y o)(ry:RelV y u)(h:∀ s',Inv X O σ H s'->Q (.bool (!o.isSome)) s') :
  wpAny (model X.U X.w) A (compareOp .NotIn u<|.ref a) Q E s:=by
 rcases g with ⟨Y,k,e,ey,l⟩ | ⟨Y,k,b,e,ey,eb,l⟩
 ·subst ey;obtain⟨z,hd,vs,rel,dd⟩:=vb I.aF e;refine wpAny_notIn_of (oJ ry) hd dd.mapOf ?_;rw[<- (rel.val k).bW,<- l];exact h _<|I.tok _
 ·subst ey;cases (show u=Value.ref b from ry);obtain⟨z,hd,xs,rel,dd⟩:=ve I.aF e;refine wpAny_notIn_heap (KZ hu) (sR I.aF eb) hd dd ?_;have q:=(rel.val k).bW;rw[RL]at q;rw[<- q,<- l];exact h _<|I.tok _
def mK{ob:HO}(I:Inv X O σ H s)(mu:uA<|H a)(hs:Heap.SameBut a s.heap h')(he:∃ q,h'.get? a=some q)(new:aB X.U X.w (upd H a ob) h' a ob) :
  Inv X O σ (upd H a ob) {s with heap:=h',toks:=t'}:=
 I.write mu (.inl rfl) (λb q hb z=>(hs.2 b hb).trans z) he new
def FK{Y:List (Key×V)}(z:Y.length<=sizeLine)(hd:(a == sysModules)=false)(rel:KV Y vs)(dd:h'.DictOf (dM P w) a vs) :
  aB P w H' h' a (.dK Y):=⟨z,hd,vs,rel,dd⟩
theorem ZY{Q:Unit->Shared->Prop}(hu:A.units+1 < cLine)(I:Inv X O σ H s)(g:bX H a y v H')(ry:RelV y u)(rv:RelV v r)(h:∀ s',Inv X O σ H' s'->Q () s') :
  wpAny (model X.U X.w) A (setItem (.ref a) u r) Q E s:=by
 rcases g with ⟨Y,k,e,ey,l,eH⟩ | ⟨Y,k,b,e,ey,eb,l,eH⟩
 ·subst ey eH;obtain⟨z,hd,vs,rel,dd⟩:=vd I.aF e;have hz:vs.length<=sizeLine:=by rwa[<- rel.length]
  have hl:(putK Y k v).length<=sizeLine:=by have:=jn Y k v;omega
  refine wpAny_setItem_pairs (oJ ry) dd λh' jo hs=>h _ ?_;have he:∃ q,h'.get? a=some q:=let ⟨q,_,_,hq,_⟩:=jo;⟨q,hq⟩
  exact mK I (by rw[e];exact True.intro) hs he<|FK hl hd (rel.put k rv) jo
 ·subst ey eH;cases (show u=Value.ref b from ry);obtain⟨z,hd,xs,rel,dd⟩:=Qj I.aF e;have hz:xs.length<=sizeLine:=by rwa[<- Paired.length rel]
  have hl:(putK Y k v).length<=sizeLine:=by have:=jn Y k v;omega
  refine wpAny_setItem_heap (KZ hu) (sR I.aF eb) dd λh' jo hs=>h _ ?_;obtain⟨q,es,ep,hq,h2,h3,h4,_,h5⟩:=jo;refine mK I (by rw[e];exact True.intro) hs ⟨q,hq⟩ ⟨hl,hd,_,(rel.put k eb rv).keeps λc ys ec=>?_,q,es,ep,hq,h2,h3,h4,h5⟩;rwa[au<|bV ec e λz=>nomatch z]
end
def qe(i:Expr):Prop:=∀ ov iv,subscripted i false ov iv=operate [ov,iv] (getItem ov iv)
variable{value:Expr}{env:Env}{U:Program}
def ZZ{slice:Expr}{pos:Pos}{T id:String}
  (hl:typeLookup (.type T) "__getitem__" = pure (some<|.builtin id)) (hs:qe slice)
  (h:wpAny (model U w) A (eval value env) (λo À=>wpAny (model U w) A (eval slice env) (λi Á=>Á.TypeIs o T/\wpAny (model U w) A (getItem o i) Q E Á) E À) E s) :
  wpAny (model U w) A (eval (.Subscript value slice pos) env) Q E s:=by
 refine Subscript_<|CT h (λo À h₁=>CT h₁ (λi Á Ä=>?_) λ_ _ x=>x) λ_ _ x=>x;obtain⟨hT,Ä⟩:=Ä;unfold subscriptTail;refine BJ ?_;rw[getitemInPython_of_ne hT.not_modules];refine BJ<|UJ hT hl ?_;have fin:wpAny (model U w) A (subscripted slice false o i) (λr Â=>wpAny (model U w) A (letTemporaryGo value o r >>= λ_=>pure r) Q E Â) E Á:=by
  rw[hs o i];exact wpAny_operating<|CT Ä (λr Â Å=>BJ<|wpAny_letTemporaryGo<|BL Å) λ_ _ x=>x
 first
  | exact BL<|BJ fin
  | exact BJ<|BL<|BJ fin
  | exact BJ fin
def Z4(I:Inv X O σ H s)(g:aX H a y o):s.TypeIs (.ref a) "dict":=by
 rcases g with ⟨Y,k,e,_,_⟩ | ⟨Y,k,b,e,_,_,_⟩
 ·obtain⟨_,_,vs,_,dd⟩:=vb I.aF e;exact dd.typeIs
 ·obtain⟨_,_,xs,_,dd⟩:=ve I.aF e;exact dd.typeIs
def Z5(td ty:TE):TE:=λσ H Q=>td σ H λx H1=>ty σ H1 λy H2=>∃ a v,x = .ref a/\aX H2 a y (some v)/\Q v H2
def FL(ty td:TE):TE:=λσ H Q=>ty σ H λy H1=>td σ H1 λx H2=>∃ a o,x = .ref a/\aX H2 a y o/\Q (.bl o.isSome) H2
def Z6(ty td:TE):TE:=λσ H Q=>ty σ H λy H1=>td σ H1 λx H2=>∃ a o,x = .ref a/\aX H2 a y o/\Q (.bl (!o.isSome)) H2
def Z7(td ty tv:TE):TS:=λD σ H=>tv σ H λv H1=>td σ H1 λx H2=>ty σ H2 λy H3=>∃ a H4,x = .ref a/\bX H3 a y v H4/\D.nx σ H4
variable{pos':Pos}{e:Expr}
section
variable{o i:Expr}{pos Z8:Pos}{td ty tv:TE}
def Z9(hu:X.A.units+1 < cLine)(ho:PE X o td)(hi:PE X i ty)(hs:qe i):PE X (.Subscript o i pos) (Z5 td ty):=by
 intro O s σ H Q I h;refine ZZ PySem.F.slot_dict_getitem.lookup hs<|aN (ho O s σ H _ I h) λu s1 ⟨x,H1,I1,rx,q1⟩=>aN (hi O s1 σ H1 _ I1 q1) λiv s2 ⟨y,H2,I2,ry,a,v,ex,g,q2⟩=>?_;subst ex;obtain rfl:u=Value.ref a:=rx;exact⟨Z4 I2 g,ZW hu I2 g ry λw' s3 I3 d9=>⟨v,H2,I3,d9,q2⟩⟩
def Z'(hu:X.A.units+1 < cLine)(hi:PE X i ty)(ho:PE X o td):PC X .In i o (FL ty td):=by
 intro O s σ H Q I h;refine aN (hi O s σ H _ I h) λiv s1 ⟨y,H1,I1,ry,q1⟩=>aN (ho O s1 σ H1 _ I1 q1) λu s2 ⟨x,H2,I2,rx,a,ov,ex,g,q2⟩=>?_;subst ex;obtain rfl:u=Value.ref a:=rx;exact FI hu I2 g ry λs3 I3=>⟨.bl ov.isSome,H2,I3,rfl,q2⟩
def q02(hu:X.A.units+1 < cLine)(hi:PE X i ty)(ho:PE X o td):PC X .NotIn i o (Z6 ty td):=by
 intro O s σ H Q I h;refine aN (hi O s σ H _ I h) λiv s1 ⟨y,H1,I1,ry,q1⟩=>aN (ho O s1 σ H1 _ I1 q1) λu s2 ⟨x,H2,I2,rx,a,ov,ex,g,q2⟩=>?_;subst ex;obtain rfl:u=Value.ref a:=rx;exact ZX hu I2 g ry λs3 I3=>⟨.bl (!ov.isSome),H2,I3,rfl,q2⟩
def q60(hu:X.A.units+1 < cLine)(ho:PE X o td)(hi:PE X i ty)(hv:PE X value tv)(hs:swapsWith value (some<|.Subscript o i pos') pos.line X.env=pure false) :
  PS X (.Assign [.Subscript o i pos'] value pos) (Z7 td ty tv):=by
 intro O s σ H D I h;refine wpAny_Assign_Subscript (aN (hv O s σ H _ I h) λr s1 ⟨v,H1,I1,rv,q1⟩=>aN (ho O s1 σ H1 _ I1 q1) λu s2 ⟨x,H2,I2,rx,q2⟩=>aN (hi O s2 σ H2 _ I2 q2) λiv s3 ⟨y,H3,I3,ry,a,H4,ex,g,q3⟩=>?_) hs;subst ex;obtain rfl:u=Value.ref a:=rx;exact ZY hu I3 g ry rv λs4 I4=>⟨σ,H4,I4,q3⟩
end
def Qk(h:Heap)(hb:sysModules < h.objs.size):aB P w H (h.push {cls:= .type "dict",data:= .dict #[]}) h.objs.size (.dK []):=
 ⟨Bu _,beq_eq_false_iff_ne.mpr<|CG<|Bi hb,[],.nil,Heap.DictOf.new h⟩
def FO(h:Heap)(hb:sysModules < h.objs.size):aB P w H (h.push {cls:= .type "dict",data:= .dict #[]}) h.objs.size (.dT []):=
 ⟨Bu _,beq_eq_false_iff_ne.mpr<|CG<|Bi hb,[],.nil,_,#[],0,Ao _ rfl,⟨rfl,rfl,rfl⟩,rfl,rfl,Cn⟩
def x05:TE:=λ_ H Q=>∀ p,H p=none->Q (.ref p) (upd H p<|.dK [])
def x1c:TE:=λ_ H Q=>∀ p,H p=none->Q (.ref p) (upd H p<|.dT [])
section
variable{pos:Pos}
def q3l:PE X (.Dict [] [] pos) x05:=λO s σ H Q I h=>
 wpAny_Dict_empty ⟨.ref s.heap.objs.size,_,I.laid (λ_ _ q=>Ae _ q) (Am _)<|Qk s.heap I.big,rfl,h _<|I.aF.fresh<|Am _⟩
def q10:PE X (.Dict [] [] pos) x1c:=λO s σ H Q I h=>
 wpAny_Dict_empty ⟨.ref s.heap.objs.size,_,I.laid (λ_ _ q=>Ae _ q) (Am _)<|FO s.heap I.big,rfl,h _<|I.aF.fresh<|Am _⟩
end
variable{apos:Pos}
section
variable{κ:Type} [DecidableEq κ]
def Ql{Y:List (κ×V)}{k:κ}(h:ao Y k=some v):k∈Y.map (·.1):=by
 have q:(Y.any λkv=>decide (kv.1=k))=true:=by
  rw[sO,h]
  all_goals rfl
 obtain⟨p,hp,e⟩:=Fc.mp q;exact Ai.mpr ⟨p,hp,BX e⟩
theorem lQ:∀{l:List κ} {k:κ},l.Nodup->¬ k∈l->(l++[k]).Nodup
 | [],k,_,_=>by simp
 | a :: r,k,h,hk=>by
  obtain⟨h1,h2⟩:=Bk.mp h;show(a :: (r++[k])).Nodup;refine Bk.mpr ⟨λm=>?_,lQ h2 λm=>hk<|Al.mpr<|Or.inr m⟩
  rcases An.mp m with q | q
  ·exact h1 q
  ·exact hk<|Al.mpr<|Or.inl (Af.mp q).symm
end
variable{tg:Expr}
theorem Qm{env:Env}:∀{names:List (Str×NameKind)} {x:Str} {k':NameKind},
  (names.map λ(n,k)=>if(k == NameKind.free && env.scope.kind == .function && env.kindOf n == some .cell) then(n,NameKind.cell) else(n,k)).lookup x=some k' ->
  ∃ k,names.lookup x=some k/\(k'=k\/(k = .free/\k' = .cell))
 | [],_,_,h=>by simp at h
 | (n,k) :: r,x,k',h=>by
  have ih:=@Qm env r x k'
  change List.lookup x ((if(k == NameKind.free && env.scope.kind == .function && env.kindOf n == some .cell)=true then(n,NameKind.cell) else(n,k)) :: _)=_ at h
  cases hx:x == n with
  | true=>
   by_cases hc:(k == NameKind.free && env.scope.kind == .function && env.kindOf n == some .cell)=true
   ·rw[BP hc]at h;simp only[Dx,hx]at h;cases h;have hk:k = .free:=by
     have:=(Bq _ _ ▸ (Bq _ _ ▸ hc).1).1;cases k <;> first | rfl | (exact absurd this<|∅)
    exact⟨k,by simp[Dx,hx],.inr ⟨hk,rfl⟩⟩
   ·rw[BK hc]at h;simp only[Dx,hx]at h;cases h;exact⟨k,by simp[Dx,hx],.inl rfl⟩
  | false=>
   have h2:∃ k,r.lookup x=some k/\(k'=k\/(k = .free/\k' = .cell)):=by
    by_cases hc:(k == NameKind.free && env.scope.kind == .function && env.kindOf n == some .cell)=true
    ·rw[BP hc]at h;simp only[Dx,hx]at h;exact ih h
    ·rw[BK hc]at h;simp only[Dx,hx]at h;exact ih h
   obtain⟨k2,e2,r2⟩:=h2;exact⟨k2,by simp[Dx,hx,e2],r2⟩
def cM(names:List<|Str×NameKind)(cells:List<|Str×Addr)(acc:List<|Str×Addr):List (Str×Addr):=
 names.foldl (λa x=>if x.2 == .free then(match cells.lookup x.1 with | some c=>(x.1,c) :: a | none=>a)else a) acc
variable{scope:Scope}
def FR(h:∀ x∈scope.names,x.2 = .free->∃ c,env.cells.lookup x.1=some c):closureFor scope env=pure (cM scope.names env.cells []):=by
 have all:∀l acc,(∀ x∈l,x.2 = .free->∃ c,env.cells.lookup x.1=some c) ->
   (forIn l acc λx cs=>(if x.2 == .free then(do let c <- cellOf env x.1;pure (ForInStep.yield<|(x.1,c) :: cs))else pure (ForInStep.yield cs):Sem _))=pure (cM l env.cells acc):=by
  intro l
  induction l with
  | nil=>intro acc _;rfl
  | cons x r ih=>
   intro acc hl;rw[Gs];have hr:=λy hy=>hl y<|Ak _ hy;cases hk:x.2 == .free with
   | true=>
    have hkk:x.2 = .free:=by
     revert hk
     cases x.2 <;> intro hk <;> first | rfl | (exact absurd hk<|∅)
    obtain⟨c,hc⟩:=hl x Ag hkk;simp only[DP,cellOf,hc];rw[show cM (x :: r) env.cells acc=cM r env.cells ((x.1,c) :: acc) by unfold cM;rw[Dp];simp[hk,hc]];exact ih _ hr
   | false=>
    simp only[Bb,CV];rw[show cM (x :: r) env.cells acc=cM r env.cells acc by unfold cM;rw[Dp];simp[hk]];exact ih _ hr
 have q:=all scope.names [] h;simp only[closureFor];exact(BZ (· >>= λr=>pure r) q).trans rfl
theorem FU:∀names cells acc,(∀ x c,(x,c)∈acc->cells.lookup x=some c)->∀ x c,(x,c)∈cM names cells acc->cells.lookup x=some c
 | [],_,_,h=>h
 | y :: r,cells,acc,h=>by
  have e:cM (y :: r) cells acc=cM r cells (if y.2 == .free then(match cells.lookup y.1 with | some c=>(y.1,c) :: acc | none=>acc)else acc):=rfl;rw[e];refine FU r cells _ ?_;cases hk:y.2 == .free with
  | false=>simpa using h
  | true=>
   cases hc:cells.lookup y.1 with
   | none=>simpa using h
   | some c=>
    intro x d hx;simp only[DP]at hx
    rcases Al.mp hx with e | hx
    ·cases e;exact hc
    ·exact h x d hx
theorem Qn:∀names cells acc x c,(x,c)∈acc->(x,c)∈cM names cells acc
 | [],_,_,_,_,h=>h
 | y :: r,cells,acc,x,c,h=>by
  have e:cM (y :: r) cells acc=cM r cells (if y.2 == .free then(match cells.lookup y.1 with | some c=>(y.1,c) :: acc | none=>acc)else acc):=rfl;rw[e];refine Qn r cells _ x c ?_;cases hk:y.2 == .free with
  | false=>simpa using h
  | true=>
   cases hc:cells.lookup y.1 with
   | none=>simpa using h
   | some d=>simp only[DP];exact Ak _ h
theorem FV:∀names cells acc x c,(x,NameKind.free)∈names->cells.lookup x=some c->(x,c)∈cM names cells acc
 | [],_,_,_,_,h,_=>by cases h
 | y :: r,cells,acc,x,c,h,hc=>by
  have e:cM (y :: r) cells acc=cM r cells (if y.2 == .free then(match cells.lookup y.1 with | some c=>(y.1,c) :: acc | none=>acc)else acc):=rfl;rw[e]
  rcases Al.mp h with e2 | h
  ·subst e2;refine Qn r cells _ x c ?_;have:(NameKind.free == NameKind.free)=true:=rfl;simp only[hc,this,DP];exact Ag
  ·exact FV r cells _ x c h hc
theorem FX{α:Type}:∀{l:List (Str×α)} {x:Str} {c:α},(x,c)∈l->∃ d,l.lookup x=some d
 | [],_,_,h=>by cases h
 | (n,d) :: r,x,c,h=>by
  cases hx:x == n with
  | true=>exact⟨d,by simp[Dx,hx]⟩
  | false=>
   rcases Al.mp h with e | h
   ·cases e;simp at hx
   ·obtain⟨d',e⟩:=FX h;exact⟨d',by simp[Dx,hx,e]⟩
variable{R:Result->Shared->Prop}{acc:Value}{ifs:Ô}{elt iter:Expr}
theorem k2e{target:Expr}{pos:Pos}{it:Value}(I:Nat->Shared->Prop)
  (turn : ∀ n s, I n s → wpAny (model U w) A (pyNext it) (λr À => match r with
   | none=>R (.ok .next) À
   | some v=>wpAny (model U w) A (letOwnedTupleGo target it v) (λ_ s₁'=>wpAny (model U w) A (assign target env v) (λ_ Á=>
     wpAny (model U w) A (forIn ifs true λc r=>if r=true then do let ok <- isTrue c env<|eval c env;pure (ForInStep.yield ok)else pure (ForInStep.yield r)) (λok Â=>
      if ok=true then wpAny (model U w) A (eval elt env) (λx Ã=>
       wpAny (model U w) A (call (.builtin "list.append") [acc,x]) (λ_ Ç=>∃ m,m < n/\I m Ç) (notedBy (model U w) A env λe s'=>R (.error e) s') Ã) (notedBy (model U w) A env λe s'=>R (.error e) s') Â
      else ∃ m,m < n/\I m Â) (notedBy (model U w) A env λe s'=>R (.error e) s') Á) (notedBy (model U w) A env λe s'=>R (.error e) s') s₁') (notedBy (model U w) A env λe s'=>R (.error e) s') À) (notedBy (model U w) A env λe s'=>R (.error e) s') s)
  (n:Nat) (h:I n s) :
  codeAny (model U w) A (.compLoop (.ListComp elt [⟨target,iter,ifs,0⟩] scope pos) 0 it acc env) R s:=by
 refine codeAny_loop rfl I (λn s hI=>?_) n h;show wpAny _ A ((compTurn (.ListComp elt [⟨target,iter,ifs,0⟩] scope pos) 0 it acc env).onRaise λx=>do noteFrame x env;theTreesLotGoes x) _ _ s;refine wpAny_noted ?_;rw[compTurn_list];refine BJ<|FP<|BJ<|CT (turn n s hI) (λr À h₁=>?_) λ_ _ h'=>h';cases r with
 | none=>exact BL h₁
 | some v=>
  refine BJ<|CT h₁ (λ_ s₁' h₁'=>?_) λ_ _ h'=>h';refine BJ<|CT h₁' (λ_ Á Ä=>BJ<|CT Ä (λok Â Å=>?_) λ_ _ h'=>h') λ_ _ h'=>h';cases ok with
  | false=>exact BL ⟨rfl,Å⟩
  | true=>
   exact BJ<|BJ<|CT Å (λx Ã Æ=>BJ<|CT Æ (λ_ Ç Ì=>BL<|BL ⟨rfl,Ì⟩) λ_ _ h'=>h') λ_ _ h'=>h'
def Qo(X:Cx)(ifs:Ô)(t:TT):Prop:=
 ∀O s σ H Q,Inv X O σ H s->t σ H Q ->
  wpAny (model X.U X.w) X.A (forIn ifs true λc r=>if r=true then do let ok <- isTrue c X.env<|eval c X.env;pure (ForInStep.yield ok)else pure (ForInStep.yield r)) (TP X O σ Q) X.xe s
def FY:TT:=λ_ H Q=>Q true H
def q4w:Qo X [] FY:=λ_ _ _ H _ I h=>wpAny_tests_nil ⟨H,I,h⟩
variable{c:Expr}
def q68{t:TT}(h:PT X c t):Qo X [c] t:=λO s σ H Q I hq=>wpAny_tests_one<|h O s σ H Q I hq
def fO(X:Cx)(N':Ñ)(scope:Scope)(cl:List<|Str×Addr)(C:Addr)(æ:Shared)(ç:Hp)(ex:List Addr):Cx:=
 {U:=X.U,w:=X.w,K:=X.K,mg:=X.mg,Z:=X.Z,A:=X.A,N:=N',æ:=æ,ç:=ç,env:=compEnvC scope cl C X.env,outer:=X.stack,stack:=X.stack,ex:=ex,fn:=λx=>match scope.names.lookup x with | some .cell=>true | _=>false,calm:=X.calm,pn:=[],xe:=λ_ _=>False}
variable{M:Model}
def jq{α:Type}{t:Sem α}{Q Q':α->Shared->Prop}(h:wpAny M A t Q (λ_ _=>False) s)(hQ:∀ a s,Q a s->Q' a s):wpAny M A t Q' E s:=CT h hQ λ_ _ z=>z.elim
def vf:fE X (.builtin "isinstance") (λxs H Q=>∃ x t T b,xs=[x,.ty T]/\dA X.K H x t/\PySem.W.kitOne X.K t (.type T)=some b/\Q (.bl b) H):=by
 intro O s σ H xs us Q I r h;obtain⟨x,t,T,b,rfl,ty,e,q⟩:=h;obtain⟨u,w',rfl,ru,d9⟩:=vals2 r;cases (show w'=Value.type T from d9);exact Ze I ru ty e λtk=>⟨.bl b,H,I.tok tk,rfl,q⟩
theorem Qp:∀{bs:List Bool} {è:Ó},az (bs.map V.bl) è->è=bs.map Value.bool
 | [],_,r=>by cases r;rfl
 | b :: bs,_,r=>by
  cases r with
  | cons r1 r2=>
   cases (show _=Value.bool b from r1);rw[Qp r2,Bn]
def range_any(bs:List Bool):(List.range bs.length).any (λi=>bs.getD i true)=bs.any id:=by
 rw[Cr,Fc,Fc]
 constructor
 ·rintro ⟨i,hi,h⟩;have mL:=Bc.mp hi;exact⟨bs[i],Bp mL,by simpa[Fp,mL]using h⟩
 ·rintro ⟨x,hx,h⟩;obtain⟨i,hi,rfl⟩:=Co.mp hx;exact⟨i,Bc.mpr hi,by simpa[Fp,hi]using h⟩
def q0n(hc:X.calm=true):fE X (.builtin "any") (λxs H Q=>∃(p:Addr) (bs:List Bool),xs=[.ref p]/\aj X.K H p (bs.map V.bl)/\Q (.bl<|bs.any id) H):=by
 intro O s σ H xs us Q I r h;obtain⟨p,bs,rfl,hp,q⟩:=h;obtain⟨u,rfl,ru⟩:=vals1 r;cases (show u=Value.ref p from ru);obtain⟨è,rv,pl,hz⟩:=I.list hp;have hits:=Qp rv;obtain⟨o,_,ho,_⟩:=id pl;have jm:p < s.heap.objs.size:=Ap ho;refine call_any_walk<|MK pl.isList ⟨s.heap.objs.size,_,_,_,_,_,λi=>bs.getD i true,rfl,Walks.list (A:=X.A.in1) (show X.A.in1.handled=none from I.ok.hd hc) s.heap.objs.size p (Bi jm) è.toArray,
  ⟨⟨_,Ao _ rfl,rfl,rfl⟩,pl.isList.push _⟩,?_,λh' tk hk=>?_⟩
 ·intro i v s' Q' E' hv hQ;have vg:è[i]?=some v:=by simpa using hv
  rw[hits,Ah]at vg;cases e:bs[i]? with
  | none=>rw[e]at vg;cases vg
  | some b=>
   rw[e]at vg;cases vg;refine DY ?_;have:bs.getD i true=b:=by rw[Fp,e];rfl
   have Qq:Q' (bs.getD i true) s':=hQ;rw[this]at Qq;exact Qq
 ·have e:è.toArray.size=bs.length:=by rw[Aw,hits,Aa]
  rw[e,range_any];refine⟨.bl<|bs.any id,H,I.kept (t':=tk) λb o e=>hk b o ?_<|Ae _ e,rfl,q⟩;intro hb;have:b=s.heap.objs.size:=by simpa using hb
  exact absurd (Ap e)<|by rw[this];exact Cq _
theorem q7n:cG X (binaryOp .Mult) (λx y H Q=>∃ z i,x = .str z/\y = .int i/\0<=i/\i<=100000/\z.length * i.toNat<=100000/\Q (.str<|Txt.mul z i) H):=by
 intro O s σ H x y v u Q I rx ry h;obtain⟨z,i,rfl,rfl,h0,h1,h2,q⟩:=h;obtain⟨t,rfl⟩:=rx;obtain⟨t',rfl⟩:=ry;have hsz:=FJ;refine SB.mul ⟨?_,λh3 h4=>?_,λh3 h4=>?_⟩ λt' k=>⟨.str _,H,I.tok k,⟨_,rfl⟩,q⟩
 ·rw[BR ⋯,BR<|⋯];rfl
 ·have h5:(z.length:Int)<=100000:=by
   have h6:z.length * 1<=z.length * i.toNat:=Nat.mul_le_mul_left _ ⋯;omega
  have h7:(100000:Int)<=(2 ^ 63 - 1) / i:=by
   rw[Int.le_ediv_iff_mul_le<|⋯];have:(100000:Int) * i<=100000 * 100000:=Int.mul_le_mul_of_nonneg_left h1 ∅;have e:(2:Int) ^ 63 - 1=9223372036854775807:=∅
   omega
  omega
 ·unfold Builtin.Str.tooLong;rw[hsz];exact BR<|⋯
def isStar:Expr->Bool
 | .Starred _ _=>true
 | _=>false
def noStar(es:Ô):Bool:=es.all λe=>!isStar e
def qf(e:Expr)(es:Ô)(env:Env)(h:isStar e=false):starEach (e :: es) env=(false,eval e env) :: starEach es env:=by
 cases e <;> first | rfl | (exact absurd h<|by simp[isStar])
theorem yY(pos:Pos)(env:Env):∀ es:Ô,noStar es=true->(backTo pos<|starEach es env).any (·.1)=false
 | [],_=>rfl
 | e :: es,h=>by
  have h':(!isStar e)=true/\noStar es=true:=by
   have:=h;unfold noStar at this ⊢;rwa[Gy,Bq]at this
  have hs:isStar e=false:=by
   have:=h'.1;cases q:isStar e with
   | true=>rw[q]at this;cases this
   | false=>rfl
  rw[qf e es env hs];show(false || (backTo pos<|starEach es env).any (·.1))=false;rw[yY pos env es h'.2];rfl
variable{es:Ô}
theorem sU(h:noStar (e :: es)=true):isStar e=false/\noStar es=true:=by
 unfold noStar at h ⊢;rw[Gy,Bq]at h;refine⟨?_,h.2⟩;cases q:isStar e with
 | true=>rw[q]at h;cases h.1
 | false=>rfl
variable{r:List V->Hp->VK->Prop}{ds:Ó}{mE:List V}
section
variable{k:Nat}{C:Addr}{E:XK}{m:Str}{p pos:Pos}{o:Expr}{ta te:TE}{t:TA}{id T:String}
def pac(ha:PE X e te)(hr:PA X es t)(hs:isStar e=false:=by rfl):PA X (e :: es) (PH te t):=Zg ha hr<|qf _ _ _ hs
def x2j(F:aD X.U X.w X.K X.mg X.Z CX k f fd ps sp)(hr:bv k X.A)(hm:X.mg x=some (.ref f))(hk:PySem.W.keepIn X.K (.ref f)=true)(hb:Binds X.K fd ps [])(hx:p9 CX X E)
  (ha:PA X (e :: es) t) (hg:Gl X x:=by rfl) (cQ:(x == ("__debug__" : Str))=false:=by decide) (hs:noStar (e :: es)=true:=by rfl):PE X (.Call (.Name x p) (e :: es) [] pos) (PR sp [] E t):=
 Zk F hr hg hm hk hb .nil hx ha cQ (qf _ _ _ (sU hs).1) (yY _ _ _ (sU hs).2)
def F0(hc:fE X (.builtin id) r)(hm:X.mg x=none)(hv:bootBuiltins x=some (.builtin id))(ha:PA X (e :: es) t)(hg:Gl X x:=by rfl)(hn:x ≠ "__name__":=by decide)(cQ:(x == ("__debug__" : Str))=false:=by decide)
  (hs:noStar (e :: es)=true:=by rfl):PE X (.Call (.Name x p) (e :: es) [] pos) (yT r t):=
 Zn hc hg hm hv ha hn cQ (qf _ _ _ (sU hs).1) (yY _ _ _ (sU hs).2)
def F1(hc:fE X (.type T) r)(hm:X.mg x=none)(hv:bootBuiltins x=some (.type T))(ha:PA X (e :: es) t)(hg:Gl X x:=by rfl)(hn:x ≠ "__name__":=by decide)(cQ:(x == ("__debug__" : Str))=false:=by decide)
  (hs:noStar (e :: es)=true:=by rfl):PE X (.Call (.Name x p) (e :: es) [] pos) (yT r t):=
 Zo hc hg hm hv ha hn cQ (qf _ _ _ (sU hs).1) (yY _ _ _ (sU hs).2)
end
structure Ev(X:Cx)(e:Expr)(σ:St)(H:Hp)(Q:VK):Prop where
 run:∀O s,Inv X O σ H s->wpAny (model X.U X.w) X.A (eval e X.env) (EP X O σ Q) X.xe s
structure Et(X:Cx)(e:Expr)(σ:St)(H:Hp)(Q:Bool->Hp->Prop):Prop where
 run:∀O s,Inv X O σ H s->wpAny (model X.U X.w) X.A (isTrue e X.env<|eval e X.env) (TP X O σ Q) X.xe s
structure Ew(X:Cx)(e:Expr)(σ:St)(H:Hp)(Q:Bool->Hp->Prop):Prop where
 run:∀whole O s,Inv X O σ H s->wpAny (model X.U X.w) X.A (isTrue e X.env whole) (TP X O σ Q) X.xe s
structure Ea(X:Cx)(es:Ô)(σ:St)(H:Hp)(Q:List V->Hp->Prop):Prop where
 run:∀pos O s,Inv X O σ H s->wpAny (model X.U X.w) X.A (spliced<|backTo pos<|starEach es X.env) (AP X O σ Q) X.xe s
structure Eo(X:Cx)(e:Option Expr)(σ:St)(H:Hp)(Q:Option Int->Hp->Prop):Prop where
 run:∀O s,Inv X O σ H s->wpAny (model X.U X.w) X.A (evalPart e X.env) (λu s'=>∃ o H',Inv X O σ H' s'/\IsPart u o/\Q o H') X.xe s
structure Eg(X:Cx)(e:Expr)(v:V)(σ:St)(H:Hp)(Q:St->Hp->Prop):Prop where
 run:∀O s u,Inv X O σ H s->RelV v u->wpAny (model X.U X.w) X.A (assign e X.env u) (λ_ s'=>∃ σ' H',Inv X O σ' H' s'/\Q σ' H') X.xe s
structure Run(X:Cx)(l:Õ)(D:Ends)(σ:St)(H:Hp):Prop where
 run:∀O s,Inv X O σ H s->wpAny (model X.U X.w) X.A (execs l X.env) (SP X O D) X.xe s
def tEv(X:Cx)(e:Expr):TE:=λσ H Q=>Ev X e σ H Q
def tEt(X:Cx)(e:Expr):TT:=λσ H Q=>Et X e σ H Q
def tEw(X:Cx)(e:Expr):TT:=λσ H Q=>Ew X e σ H Q
def vh(X:Cx)(es:Ô):TA:=λσ H Q=>Ea X es σ H Q
def tEo(X:Cx)(e:Option Expr):TO:=λσ H Q=>Eo X e σ H Q
def tEg(X:Cx)(e:Expr):TG:=λv σ H Q=>Eg X e v σ H Q
def F3(X:Cx)(l:Õ):TS:=λD σ H=>Run X l D σ H
variable{D:Ends}{L L':List V->Hp->Prop}{T T':Bool->Hp->Prop}{j:Nat}{op:CmpOp}{wi:TI}{at_:Addr}
section
variable{a b o:Expr}{rest body mM:Õ}{Q:VK}{pos p p2:Pos}
def bd:PE X e (tEv X e):=λO s _ _ _ I h=>h.run O s I
def mO:PT X e (tEt X e):=λO s _ _ _ I h=>h.run O s I
def Qr:PW X e (tEw X e):=λwh O s _ _ _ I h=>h.run wh O s I
def gL:PA X es (vh X es):=λpos O s _ _ _ I h=>h.run pos O s I
def Qs{e:Option Expr}:PO X e (tEo X e):=λO s _ _ _ I h=>h.run O s I
def qg:PG X e (tEg X e):=λO s _ _ _ u _ I r h=>h.run O s u I r
def oK{l:Õ}:ji X l (F3 X l):=λO s _ _ _ I h=>h.run O s I
def c8{t:TE}(h1:PE X e t)(h2:t σ H Q):Ev X e σ H Q:=⟨λO s I=>h1 O s σ H Q I h2⟩
def sV{t:TT}(h1:PT X e t)(h2:t σ H T):Et X e σ H T:=⟨λO s I=>h1 O s σ H T I h2⟩
def yZ{t:TT}(h1:PW X e t)(h2:t σ H T):Ew X e σ H T:=⟨λwh O s I=>h1 wh O s σ H T I h2⟩
def Qt{t:TA}(h1:PA X es t)(h2:t σ H L):Ea X es σ H L:=⟨λpos O s I=>h1 pos O s σ H L I h2⟩
def Qu{e:Option Expr}{t:TO}{R:Option Int->Hp->Prop}(h1:PO X e t)(h2:t σ H R):Eo X e σ H R:=⟨λO s I=>h1 O s σ H R I h2⟩
def F4{t:TG}{R:St->Hp->Prop}(h1:PG X e t)(h2:t v σ H R):Eg X e v σ H R:=⟨λO s u I r=>h1 O s σ H v u R I r h2⟩
def jL{t:TS}(h1:PS X st t)(h2:t {D with nx:=λσ' H'=>Run X rest D σ' H'} σ H):Run X (st :: rest) D σ H:=⟨λO s I=>Yu h1 oK O s σ H D I h2⟩
def a7(h:D.nx σ H):Run X [] D σ H:=⟨λO s I=>Pa O s σ H D I h⟩
def Ev.mono{Q':VK}(h:Ev X e σ H Q)(f:∀ v H',Q v H'->Q' v H'):Ev X e σ H Q':=⟨λO s I=>aN (h.run O s I) λ_ _ ⟨v,H',I',r,q⟩=>⟨v,H',I',r,f v H' q⟩⟩
def Et.mono(h:Et X e σ H T)(f:∀ v H',T v H'->T' v H'):Et X e σ H T':=⟨λO s I=>aN (h.run O s I) λv _ ⟨H',I',q⟩=>⟨H',I',f v H' q⟩⟩
def Ea.mono(h:Ea X es σ H L)(f:∀ v H',L v H'->L' v H'):Ea X es σ H L':=⟨λpos O s I=>aN (h.run pos O s I) λ_ _ ⟨v,H',I',r,q⟩=>⟨v,H',I',r,f v H' q⟩⟩
def ae(i:Nat)(h:Q v H)(hv:σ[i]?=some (some v):=by rfl)(hN:X.N[i]?=some x:=by rfl)(hs:DS X.env.scope x:=by first | exact Or.inl rfl | exact Or.inr (Or.inl rfl) | exact Or.inr<|Or.inr rfl)(hd:(x == ("__debug__" : Str))=false:=by decide)
  (iW:(x == ("__classdict__" : Str))=false:=by decide):Ev X (.Name x p) σ H Q:=c8 (X6 hN hs hd iW) ⟨v,hv,h⟩
def aE{i:Int}(h:Q (.int i) H):Ev X (.Constant (.int i) j p) σ H Q:=c8 (X7) h
def sX{i:Bool}(h:Q (.bl i) H):Ev X (.Constant (.bool i) j p) σ H Q:=c8 (X8) h
def vi(h:Q .non H):Ev X (.Constant .none j p) σ H Q:=c8 (X9) h
def vj{i:Str}(h:Q (.str i) H):Ev X (.Constant (.str i) j p) σ H Q:=c8 (Ya) h
def F5(hm:X.mg x=some u)(r:RelV v u)(h:Q v H)(hg:Gl X x:=by rfl)(hd:(x == ("__debug__" : Str))=false:=by decide):Ev X (.Name x p) σ H Q:=c8 (Yb hg hm r hd) h
def sY(v:V)(hm:X.mg x=none)(hv:bootBuiltins x=some u)(r:RelV v u)(h:Q v H)(hg:Gl X x:=by rfl)(hn:x ≠ "__name__":=by decide)(hd:(x == ("__debug__" : Str))=false:=by decide):Ev X (.Name x p) σ H Q:=c8 (Yc hg hm hv r hn hd) h
def aU{op:Operator}{r:R2}(ho:cG X (binaryOp op) r)(h:Ev X a σ H λx H1=>Ev X b σ H1 λy H2=>r x y H2 Q):Ev X (.BinOp a op b pos) σ H Q:=c8 (YW ho bd bd) h
def y4{op:UnaryOp}{r:V->Hp->VK->Prop}(ho:yO X (unaryOp op) r)(h:Ev X a σ H λx H1=>r x H1 Q):Ev X (.UnaryOp op a pos) σ H Q:=c8 (YX ho bd) h
def hG{r:R2}(ho:cG X (compareOp op) r)(h:Ev X a σ H λx H1=>Ev X b σ H1 λy H2=>r x y H2 Q)(hm:behindInMarks op b=false:=by with_unfolding_all rfl):Ev X (.Compare a [op] [b] pos) σ H Q:=c8 (Y7 ho bd bd hm) h
def q9e(h:Ev X a σ H λx H1=>∃ k,x = .bl k/\Q (.bl (!k)) H1):Ev X (.UnaryOp .Not a pos) σ H Q:=c8 (Yp bd) h
def F6(h:Ev X a σ H λx H1=>∃ k,x = .bl k/\if k=true then Ev X (.BoolOp .And (b :: es) pos) σ H1 Q else Q (.bl false) H1):Ev X (.BoolOp .And (a :: b :: es) pos) σ H Q:=c8 (Yn bd bd) h
def x1o(h:Ev X a σ H λx H1=>∃ k,x = .bl k/\if k=true then Q (.bl true) H1 else Ev X (.BoolOp .Or (b :: es) pos) σ H1 Q):Ev X (.BoolOp .Or (a :: b :: es) pos) σ H Q:=c8 (Yo bd bd) h
def F7{op:BoolOp}(h:Ev X a σ H Q):Ev X (.BoolOp op [a] pos) σ H Q:=c8 (Ym bd) h
def q19(h:Et X c σ H λk H1=>if k=true then Ev X a σ H1 Q else Ev X b σ H1 Q):Ev X (.IfExp c a b pos) σ H Q:=c8 (Yr mO bd bd) h
def bb{r:R2}(hr:uU X r)(h:Ev X a σ H λx H1=>Ev X b σ H1 λy H2=>r x y H2 Q)(hs:P4 b:=by intro _ _;rfl):Ev X (.Subscript a b pos) σ H Q:=c8 (ZA hr bd bd hs) h
def y7{r:V->Option Int->Option Int->Hp->VK->Prop}{lo hi:Option Expr}(hr:EV X r)(h:Ev X a σ H λx H1=>Eo X lo σ H1 λl H2=>Eo X hi σ H2 λu H3=>r x l u H3 Q):Ev X (.Subscript a (.Slice lo hi none p2) pos) σ H Q:=c8 (Zw hr bd Qs Qs) h
def y8{R:Option Int->Hp->Prop}(h:R none H):Eo X none σ H R:=Qu (Zt) h
def y9{R:Option Int->Hp->Prop}(h:Ev X a σ H λx H1=>∃ i,x = .int i/\R (some i) H1):Eo X (some a) σ H R:=Qu (Zu bd) h
def ax(h:L [] H):Ea X [] σ H L:=Qt (Zf) h
def ai(h:Ev X e σ H λx H1=>Ea X es σ H1 λxs H2=>L (x :: xs) H2)(hs:isStar e=false:=by rfl):Ea X (e :: es) σ H L:=Qt (pac bd gL hs) h
def fv{k:Nat}(h:Ea X es σ H λxs H1=>xs.length<=sizeLine/\∀ p,H1 p=none->Q (.ref p) (upd H1 p<|.tup xs)):Ev X (.Tuple es k pos) σ H Q:=c8 (Zh gL) h
def dS(h:Ea X es σ H λxs H1=>xs.length<=sizeLine/\∀ p,H1 p=none->Q (.ref p) (upd H1 p<|.lst xs)):Ev X (.List es pos) σ H Q:=c8 (Zi gL) h
def Qv{k:Nat}{E:XK}(F:aD X.U X.w X.K X.mg X.Z CX k f fd ps sp)(hr:bv k X.A)(hm:X.mg x=some (.ref f))(hk:PySem.W.keepIn X.K (.ref f)=true)(hb:Binds X.K fd ps [])(hx:p9 CX X E)
  (h:Ea X (e :: es) σ H λvs H1=>sp vs H1 Q E) (hg:Gl X x:=by rfl) (cQ:(x == ("__debug__" : Str))=false:=by decide) (hs:noStar (e :: es)=true:=by rfl):Ev X (.Call (.Name x p) (e :: es) [] pos) σ H Q:=
 c8 (x2j F hr hm hk hb hx gL hg cQ hs) (show Ea X (e :: es) σ H _ from h.mono λvs H1 q=>by rwa[Be])
def bP{id:String}(hc:fE X (.builtin id) r)(hm:X.mg x=none)(hv:bootBuiltins x=some (.builtin id))(h:Ea X (e :: es) σ H λvs H1=>r vs H1 Q)(hg:Gl X x:=by rfl)(hn:x ≠ "__name__":=by decide)(cQ:(x == ("__debug__" : Str))=false:=by decide)
  (hs:noStar (e :: es)=true:=by rfl):Ev X (.Call (.Name x p) (e :: es) [] pos) σ H Q:=c8 (F0 hc hm hv gL hg hn cQ hs) h
def mP{T:String}(hc:fE X (.type T) r)(hm:X.mg x=none)(hv:bootBuiltins x=some (.type T))(h:Ea X (e :: es) σ H λvs H1=>r vs H1 Q)(hg:Gl X x:=by rfl)(hn:x ≠ "__name__":=by decide)(cQ:(x == ("__debug__" : Str))=false:=by decide)
  (hs:noStar (e :: es)=true:=by rfl):Ev X (.Call (.Name x p) (e :: es) [] pos) σ H Q:=c8 (F1 hc hm hv gL hg hn cQ hs) h
def cH{r:R2}(ho:cG X (compareOp op) r)(h:Ev X a σ H λx H1=>Ev X b σ H1 λy H2=>r x y H2 λz H3=>∃ k,z = .bl k/\T k H3)(hm:behindInMarks op b=false:=by with_unfolding_all rfl):Et X (.Compare a [op] [b] pos) σ H T:=sV (Y9 ho bd bd hm) h
def lR(h:Et X a σ H λk H1=>T (!k) H1):Et X (.UnaryOp .Not a pos) σ H T:=sV (Yj mO) h
def iu(h:Ev X e σ H λx H1=>∃ k,x = .bl k/\T k H1)(he:∀ whole,isTrue e X.env whole=(do let v <- whole;standAt e.pos;holding [v] (truthy v)):=by intro _;rfl):Et X e σ H T:=sV (Yd bd he) h
def Qw(h:Ev X e σ H λx H1=>∃ k,mB X.K x H1 k/\T k H1)(he:∀ whole,isTrue e X.env whole=(do let v <- whole;standAt e.pos;holding [v] (truthy v)):=by intro _;rfl):Et X e σ H T:=sV (Za bd he) h
def mQ(h:Ew X e σ H T):Et X e σ H T:=⟨λO s I=>h.run _ O s I⟩
def zg(h:Et X a σ H λk H1=>if k=true then Ew X (.BoolOp .And (b :: es) pos) σ H1 T else T false H1):Ew X (.BoolOp .And (a :: b :: es) pos) σ H T:=yZ (Yh mO Qr) h
def vk(h:Et X a σ H λk H1=>if k=true then T true H1 else Ew X (.BoolOp .Or (b :: es) pos) σ H1 T):Ew X (.BoolOp .Or (a :: b :: es) pos) σ H T:=yZ (Yi mO Qr) h
def zh(h:Et X a σ H T):Ew X (.BoolOp .And [a] pos) σ H T:=yZ (Yf mO) h
def vp(h:Et X a σ H T):Ew X (.BoolOp .Or [a] pos) σ H T:=yZ (Yg mO) h
def a8(i:Nat){R:St->Hp->Prop}(hN:X.N.Nodup)(h:R (σ.set i<|some v) H)(hi:X.N[i]?=some x:=by rfl)(hx:Loc X.env.scope x:=by first | exact Or.inl rfl | exact Or.inr rfl)(hf:X.fn x=true\/X.env.scope.names.lookup x=some .local:=by first | exact .inl rfl | exact .inr rfl | assumption):Eg X (.Name x p) v σ H R:=F4 (Yz hN hi hx hf) h
def aT(i:Nat)(hN:X.N.Nodup)(h:Ev X e σ H λv H1=>Run X rest D (σ.set i<|some v) H1)(hi:X.N[i]?=some x:=by rfl)(hx:Loc X.env.scope x:=by first | exact Or.inl rfl | exact Or.inr rfl)(hs:swapsWith e (some<|.Name x pos') pos.line X.env=pure false:=by rfl)
  (hf:X.fn x=true\/X.env.scope.names.lookup x=some .local:=by first | exact .inl rfl | exact .inr rfl | assumption):Run X (.Assign [.Name x pos'] e pos :: rest) D σ H:=jL (YC hN hi hx bd hs hf) h
def fP(h:Et X c σ H λk H1=>if k=true then Run X body {D with nx:=λσ' H'=>Run X rest D σ' H'} σ H1 else Run X mM {D with nx:=λσ' H'=>Run X rest D σ' H'} σ H1):Run X (.If c body mM pos :: rest) D σ H:=jL (Yy mO oK oK) h
def vq(φ ψ:Prop)(hc:∀ T:Bool->Hp->Prop,(∀ k:Bool,(k=true->φ)->(k=false->ψ)->T k H)->Et X c σ H T)(ht:φ->Run X body {D with nx:=λσ' H'=>Run X rest D σ' H'} σ H)(hu:ψ->Run X mM {D with nx:=λσ' H'=>Run X rest D σ' H'} σ H):Run X (.If c body mM pos :: rest) D σ H:=
 fP (hc _ λk p q=>by
  cases k with
  | true=>rw[BP rfl];exact ht<|p rfl
  | false=>rw[BK Ax];exact hu<|q rfl)
def bQ(h:Ev X e σ H D.rt):Run X (.Return (some e) pos :: rest) D σ H:=jL (Yx bd) h
def gq(h:Ev X e σ H λ_ H1=>Run X rest D σ H1)(hs:swapsWith e none pos.line X.env=pure false:=by rfl):Run X (.Expr e pos :: rest) D σ H:=jL (Yw bd hs) h
def F8(h:Ev X e σ H λv H1=>Eg X tg v σ H1 λσ' H'=>Run X rest D σ' H')(hs:swapsWithSole [tg] e pos.line X.env=pure false:=by rfl)(hw:swappedStores [tg] e X.env=pure none:=by rfl)
  (h1:(assignEach [tg] X.env).map (·.2)=[assign tg X.env]:=by rfl):Run X (.Assign [tg] e pos :: rest) D σ H:=jL (YB bd qg hs hw h1) h
def Loop(X:Cx)(tg:Expr)(body:Õ)(J:It)(D:Ends)(after:St->Hp->Prop)(σ:St)(H:Hp):Prop:=
 ∃ W:Nat->Nat->St->Hp->Prop,(∃ m,W 0 m σ H)/\∀ i m σ H,W i m σ H->(J.stop i H/\after σ H)\/(J.go i H/\∃ N:St->Hp->Prop,(∀ σ' H',N σ' H'->∃ m',m' < m/\W (i+1) m' σ' H') /\
  ∀ x H',J.uK i H x H'->Eg X tg x σ H' λσ2 H2=>Run X body {D with nx:=N,ct:=N,bk:=after} σ2 H2)
def sZ(hi:PI X tg iter wi)(h:wi σ H λJ H1=>Loop X tg body J D (λσ' H'=>Run X rest D σ' H') σ H1)(hp:PassesOwn (model X.U X.w) X.A X.env X.xe:=by exact KQ)(hc:X.calm=true:=by rfl)
  (hs:∀ x,foldedSetIterable iter X.env x=pure x:=by intro _;rfl):Run X (.For tg iter body [] pos :: rest) D σ H:=jL (YR hp hc hi qg oK hs) h
def ke{q:Pos}(hm:X.mg "range" = none)(h:Ev X a σ H λx H1=>∃ j:Int,x = .int j/\-(2 ^ 62)<=j/\j < 2 ^ 62/\Loop X tg body (sN 0 j.toNat) D (λσ' H'=>Run X rest D σ' H') σ H1)(hg:Gl X "range":=by rfl)(hp:PassesOwn (model X.U X.w) X.A X.env X.xe:=by exact KQ)(hc:X.calm=true:=by rfl)(hs:isStar a=false:=by rfl) :
  Run X (.For tg (.Call (.Name "range" q) [a] [] p) body [] pos :: rest) D σ H:=
 sZ (yM hg hm gL<|qf a [] _ hs) (show Ea X [a] σ H _ from ai (h.mono λx H1 ⟨j,e,h1,h2,h3⟩=>ax ⟨j,by rw[e],h1,h2,h3⟩) hs) hp hc (by intro _;rfl)
def Qx(h:Ev X iter σ H λx H1=>∃ a,x = .ref a/\(∃ xs,aS X.K H1 a xs)/\Loop X tg body (yL X.K a) D (λσ' H'=>Run X rest D σ' H') σ H1)(hp:PassesOwn (model X.U X.w) X.A X.env X.xe:=by exact KQ)(hc:X.calm=true:=by rfl)
  (hs:∀ x,foldedSetIterable iter X.env x=pure x:=by intro _;rfl):Run X (.For tg iter body [] pos :: rest) D σ H:=sZ (YM bd) h hp hc hs
def lS(h:Ev X iter σ H λx H1=>∃ a,x = .ref a/\(∃ xs,aj X.K H1 a xs)/\Loop X tg body (pV X.K a) D (λσ' H'=>Run X rest D σ' H') σ H1)(hp:PassesOwn (model X.U X.w) X.A X.env X.xe:=by exact KQ)(hc:X.calm=true:=by rfl)
  (hs:∀ x,foldedSetIterable iter X.env x=pure x:=by intro _;rfl):Run X (.For tg iter body [] pos :: rest) D σ H:=sZ (eB bd) h hp hc hs
theorem kg{lo:Int}{after:St->Hp->Prop}(Pv:Nat->St->Hp->Prop)(h0:Pv 0 σ H)
  (hs:∀ i σ H,i < n->Pv i σ H->Eg X tg (.int<|lo+i) σ H λσ2 H2=>Run X body {D with nx:=Pv<|i+1,ct:=Pv<|i+1,bk:=after} σ2 H2) (hd:∀ σ H,Pv n σ H->after σ H):Loop X tg body (sN lo n) D after σ H:=by
 refine⟨λi m σ H=>m=n - i/\i<=n/\Pv i σ H,⟨n,by simp,Bu _,h0⟩,?_⟩;rintro i m σ H ⟨rfl,hi,p⟩
 by_cases aV:i < n
 ·refine .inr ⟨aV,Pv<|i+1,λσ' H' p'=>⟨n - (i+1),⋯,rfl,aV,p'⟩,λx H' y=>?_⟩;obtain⟨e,y⟩:=y;subst e y;exact hs i σ _ aV p
 ·have e:i=n:=⋯
  subst e;exact .inl ⟨Am _,hd σ H p⟩
theorem Qy{xs:List V}{after:St->Hp->Prop}(Pv:Nat->St->Hp->Prop)(h0:Pv 0 σ H)(hl:∀ i σ H,i<=xs.length->Pv i σ H->aS X.K H at_ xs)
  (hs:∀ i x σ H,xs[i]?=some x->Pv i σ H->Eg X tg x σ H λσ2 H2=>Run X body {D with nx:=Pv<|i+1,ct:=Pv<|i+1,bk:=after} σ2 H2) (hd:∀ σ H,Pv xs.length σ H->after σ H):Loop X tg body (yL X.K at_) D after σ H:=by
 refine⟨λi m σ H=>m=xs.length - i/\i<=xs.length/\Pv i σ H,⟨xs.length,by simp,Bu _,h0⟩,?_⟩;rintro i m σ H ⟨rfl,hi,p⟩;have q:=hl i σ H hi p
 by_cases aV:i < xs.length
 ·refine .inr ⟨⟨xs,xs[i],q,by simp[aV]⟩,Pv<|i+1,λσ' H' p'=>⟨xs.length - (i+1),⋯,rfl,aV,p'⟩,λx H' y=>?_⟩;obtain⟨e,y⟩:=y;subst e;exact hs i x σ _ (y xs q) p
 ·have e:i=xs.length:=⋯
  subst e;exact .inl ⟨⟨xs,q,Am _⟩,hd σ H p⟩
theorem lT{xs:List V}{after:St->Hp->Prop}(Pv:Nat->St->Hp->Prop)(h0:Pv 0 σ H)(hl:∀ i σ H,i<=xs.length->Pv i σ H->aj X.K H at_ xs)
  (hs:∀ i x σ H,xs[i]?=some x->Pv i σ H->Eg X tg x σ H λσ2 H2=>Run X body {D with nx:=Pv<|i+1,ct:=Pv<|i+1,bk:=after} σ2 H2) (hd:∀ σ H,Pv xs.length σ H->after σ H):Loop X tg body (pV X.K at_) D after σ H:=by
 refine⟨λi m σ H=>m=xs.length - i/\i<=xs.length/\Pv i σ H,⟨xs.length,by simp,Bu _,h0⟩,?_⟩;rintro i m σ H ⟨rfl,hi,p⟩;have q:=hl i σ H hi p
 by_cases aV:i < xs.length
 ·refine .inr ⟨⟨xs,xs[i],q,by simp[aV]⟩,Pv<|i+1,λσ' H' p'=>⟨xs.length - (i+1),⋯,rfl,aV,p'⟩,λx H' y=>?_⟩;obtain⟨e,y⟩:=y;subst e;exact hs i x σ _ (y xs q) p
 ·have e:i=xs.length:=⋯
  subst e;exact .inl ⟨⟨xs,q,Am _⟩,hd σ H p⟩
def bo.go{N:Ñ}{k:Nat}(F:bo K x qual st f fd)(S:ak N ps<|aP st)(len:∀ vs H Q E,sp vs H Q E->vs.length=ps.length)
  (cw : ∀bF A outer s H vs Q E, bv k (A.deeper<|envOfC qual (aP st) s.heap.objs.size f bF) → sp vs H Q E →
   Run (fq bz P w K mg Z N qual (aP st) f bF A outer s H E).my (gn st) {nx:=λ_ H'=>Q .non H',rt:=Q} (start N vs) H):aD P w K mg Z bz (k+1) f fd ps sp:=
 F.ok S len λbF A outer s H vs Q E hr dG=>⟨_,oK,cw bF A outer s H vs Q E hr dG⟩
end
structure Ei(X:Cx)(ifs:Ô)(σ:St)(H:Hp)(Q:Bool->Hp->Prop):Prop where
 run:∀O s,Inv X O σ H s ->
  wpAny (model X.U X.w) X.A (forIn ifs true λc r=>if r=true then do let ok <- isTrue c X.env<|eval c X.env;pure (ForInStep.yield ok)else pure (ForInStep.yield r)) (TP X O σ Q) X.xe s
def vt(X:Cx)(N':Ñ)(scope:Scope)(e:Expr)(σ:St)(H:Hp)(Q:VK):Prop:=∀ cl C æ ç ex,Ev (fO X N' scope cl C æ ç ex) e σ H Q
def vw(X:Cx)(N':Ñ)(scope:Scope)(e:Expr)(v:V)(σ:St)(H:Hp)(Q:St->Hp->Prop):Prop:=∀ cl C æ ç ex,Eg (fO X N' scope cl C æ ç ex) e v σ H Q
def vx(X:Cx)(N':Ñ)(scope:Scope)(ifs:Ô)(σ:St)(H:Hp)(Q:Bool->Hp->Prop):Prop:=∀ cl C æ ç ex,Ei (fO X N' scope cl C æ ç ex) ifs σ H Q
def lU(X:Cx)(N':Ñ)(scope:Scope)(tg:Expr)(ifs:Ô)(elt:Expr)(J:It)(D:Addr)(after:Hp->Prop)(σ:St)(H:Hp):Prop:=
 ∃ W:Nat->Nat->St->Hp->Prop,(∃ m,W 0 m σ H)/\∀ i m σ' H',W i m σ' H' ->
  (J.stop i H' ∧ after H') ∨ (J.go i H' ∧ ∃ N : St → Hp → Prop, (∀ σ' H', N σ' H' → ∃ m', m' < m ∧ W (i + 1) m' σ' H') ∧ ∀ x H2, J.uK i H' x H2 → vw X N' scope tg x σ' H2 λσ2 H3 => vx X N' scope ifs σ2 H3 λb H4 =>
   if b=true then vt X N' scope elt σ2 H4 λv H5=>∃ ys,H5 D=some (.lst ys)/\ys.length < sizeLine/\N σ2 (upd H5 D<|.lst<|ys++[v])else N σ2 H4)
theorem qh:∀names n acc,cellsFrom n names acc=cellsFrom n names []++acc
 | [],_,_=>rfl
 | (y,k) :: r,n,acc=>by
  unfold cellsFrom
  split
  ·rw[qh r (n+1)<|(y,n) :: acc,qh r (n+1) [(y,n)],Au];rfl
  ·exact qh r n acc
theorem vy:∀(names:List<|Str×NameKind) (n:Nat) {x:Str} {c:Addr},(x,c)∈cellsFrom n names []->(x,NameKind.cell)∈names/\n<=c
 | [],_,_,_,h=>by cases h
 | (y,k) :: r,n,x,c,h=>by
  unfold cellsFrom at h
  split at h
  ·rename_i hk;rw[qh,An]at h
   rcases h with h | h
   ·obtain⟨a,b⟩:=vy r (n+1) h;exact⟨Ak _ a,⋯⟩
   ·cases Af.mp h;have:k = .cell:=by cases k <;> first | rfl | exact absurd hk<|∅
    subst this;exact⟨Ag,Am _⟩
  ·obtain⟨a,b⟩:=vy r n h;exact⟨Ak _ a,b⟩
variable{cl:List (Str×Addr)}{names:List (Str×NameKind)}
theorem Qz{c:Addr}(h:(cellsFrom n names cl).lookup x=some c):((x,c)∈cellsFrom n names []/\n<=c)\/cl.lookup x=some c:=by
 rw[qh,QX]at h;cases e:(cellsFrom n names []).lookup x with
 | some d=>
  rw[e]at h;cases h;have hm:=DG e;exact .inl ⟨hm,(vy _ _ hm).2⟩
 | none=>
  rw[e]at h;exact .inr h
theorem k8f(h:(x,NameKind.cell)∉names):(cellsFrom n names cl).lookup x=cl.lookup x:=by
 rw[qh,QX];cases e:(cellsFrom n names []).lookup x with
 | some d=>exact absurd (vy _ _<|DG e).1 h
 | none=>rfl
variable{builtins globals:Addr}{outer:Env}{code:Value}{func:Option Addr}{closure:List (Str×Addr)}
def k0q{Q:Env->Shared->Prop}
  (hQ : ∀ h', h'.Ns s.heap.objs.size (λ_ => none) → (∀ b o, s.heap.get? b = some o → h'.get? b = some o) → CellsOk h' (s.heap.objs.size + 1) (cellsFrom (s.heap.objs.size + 1) scope.names []) →
   Q (newEnv scope s.heap.objs.size globals (cellsFrom (s.heap.objs.size+1) scope.names closure) qual func code (some outer) builtins) {s with heap:=h'}) :
  wpAny M A (newFunctionEnv scope globals closure [] qual func code (some outer) builtins) Q E s:=by
 simp only[newFunctionEnv,Option.isSome_some,DP];refine BJ<|QT ?_;refine BJ (wpAny_layCells _ (λname kind cells=>by cases hkc:kind == NameKind.cell <;> simp[hkc]) _ _ _ _ ?_);have ok:=cellsFrom_ok scope.names (s.heap.push {cls:= .type "dict",data:= .dict #[]}) (s.heap.objs.size+1) [] ⟨λ_ _ hm=>(nomatch hm),List.Pairwise.nil⟩ (by rw[Dh];exact Am _);rw[Dh]at ok;rw[show({s with heap:=s.heap.push {cls:= .type "dict",data:= .dict #[]}}:Shared).heap.objs.size=s.heap.objs.size+1 from Dh ..];rw[List.forIn_nil];exact BJ<|BL<|BL<|hQ _ ((Heap.Ns.new s.heap<|.type "dict").keeps<|pushCells_keeps _ _) (λb o e=>pushCells_keeps _ _ b o<|Ae _ e) ok
def mR(sc scope:Scope)(N N':Ñ):Bool:=
 (match scope.kind with | .function=>true | _=>false) &&
 scope.names.all (λy=>match y.2 with
  | .cell=>(match scope.names.lookup y.1 with | some .cell=>true | _=>false)
  | .local=>(match scope.names.lookup y.1 with | some .local=>true | _=>false)
  | .free=>(match sc.names.lookup y.1 with | some .cell=>true | some .free=>true | _=>false) && (match scope.names.lookup y.1 with | some .free=>true | _=>false)
  | _=>true) &&
 (List.range N'.length).all λi => match N'[i]? with
  | none=>true
  | some x=>match scope.names.lookup x with
   | some .local=>decide (N.length<=i)
   | some .cell=>decide (N.length<=i)
   | some .free=>decide (N[i]?=some x)
   | _=>true
structure cA(sc scope:Scope)(N N':Ñ):Prop where
 kind:scope.kind = .function
 cell:∀ y∈scope.names,y.2 = .cell->scope.names.lookup y.1=some .cell
 names:∀ y∈scope.names,y.2 = .local->scope.names.lookup y.1=some .local
 free:∀ y∈scope.names,y.2 = .free->sc.names.lookup y.1=some .cell\/sc.names.lookup y.1=some .free
 QA:∀ y∈scope.names,y.2 = .free->scope.names.lookup y.1=some .free
 own:∀(i:Nat) x,N'[i]?=some x->scope.names.lookup x=some .local->N.length<=i
 F9:∀(i:Nat) x,N'[i]?=some x->scope.names.lookup x=some .cell->N.length<=i
 out:∀(i:Nat) x,N'[i]?=some x->scope.names.lookup x=some .free->N[i]?=some x
variable{N':Ñ}{sc:Scope}
def cA.of{N:Ñ}(h:mR sc scope N N'=true):cA sc scope N N':=by
 unfold mR at h;rw[Bq,Bq]at h;obtain⟨⟨h1,h2⟩,h3⟩:=h;have oM:=De.mp h2;have F':=De.mp h3;refine⟨?_,λy hy e=>?_,λy hy e=>?_,λy hy e=>?_,λy hy e=>?_,λi x hi e=>?_,λi x hi e=>?_,λi x hi e=>?_⟩
 ·revert h1;cases scope.kind <;> intro h1 <;> first | rfl | cases h1
 ·have q:=oM y hy;rw[e]at q;simp only at q
  split at q
  ·assumption
  ·cases q
 ·have q:=oM y hy;rw[e]at q;simp only at q
  split at q
  ·assumption
  ·cases q
 ·have q:=oM y hy;rw[e]at q;simp only at q;rw[Bq]at q;have q:=q.1
  split at q
  ·exact .inl<|by assumption
  ·exact .inr<|by assumption
  ·cases q
 ·have q:=oM y hy;rw[e]at q;simp only at q;rw[Bq]at q;have q:=q.2
  split at q
  ·assumption
  ·cases q
 ·have q:=F' i<|Bc.mpr (Ac.mp hi).1;rw[hi]at q;simp only[e]at q;exact BX q
 ·have q:=F' i<|Bc.mpr (Ac.mp hi).1;rw[hi]at q;simp only[e]at q;exact BX q
 ·have q:=F' i<|Bc.mpr (Ac.mp hi).1;rw[hi]at q;simp only[e]at q;exact BX q
variable{m:Ò}{h₁:Heap}{fp:List Addr}
theorem q3y(I:Inv X O σ H s)(ck:cA X.env.scope scope X.N N')(hl:N'.length=X.N.length+n)
  (oI:h₁.Ns s.heap.objs.size m) (old:∀ b o,s.heap.get? b=some o->h₁.get? b=some o) (dU:CellsOk h₁ (s.heap.objs.size+1)<|cellsFrom (s.heap.objs.size+1) scope.names [])
  (oO:∀ b∈fp,cr X O H b/\b < s.heap.objs.size) :
  Inv (fO X N' scope (cellsFrom (s.heap.objs.size+1) scope.names<|cM scope.names X.env.cells []) s.heap.objs.size s H fp) [] (σ++List.replicate n none) H {s with heap:=h₁,toks:=t'}:=by
 have sub:∀ x c,(cM scope.names X.env.cells []).lookup x=some c->X.env.cells.lookup x=some c:=λx c e=>FU _ _ _ (λ_ _ z=>by simp at z) x c<|DG e;have both:∀ x c,(cellsFrom (s.heap.objs.size+1) scope.names<|cM scope.names X.env.cells []).lookup x=some c->((x,c)∈cellsFrom (s.heap.objs.size+1) scope.names []/\s.heap.objs.size+1<=c)\/X.env.cells.lookup x=some c:=λx c e=>by
  rcases Qz e with z | z
  ·exact .inl z
  ·exact .inr<|sub x c z
 have oP:∀ x c,X.env.cells.lookup x=some c->c < s.heap.objs.size:=λx c e=>by
  obtain⟨v,o,ho,_⟩:=I.cell x c e;exact Ap ho
 have fre:H s.heap.objs.size=none:=I.aF.fresh<|Am _;have kindOf:∀{x:Str} {k':NameKind},(relabel scope X.env).names.lookup x=some k'->∃ k,scope.names.lookup x=some k/\(k'=k\/(k = .free/\k' = .cell)):=λz=>Qm z;have QE:∀ x,scope.names.lookup x=some .free->(cellsFrom (s.heap.objs.size+1) scope.names<|cM scope.names X.env.cells []).lookup x=(cM scope.names X.env.cells []).lookup x:=λx e=>k8f λhm=>by
  have:=ck.cell _ hm rfl;rw[e]at this;cases this
 have GH:∀ x,scope.names.lookup x=some .cell->∃ c,(cellsFrom (s.heap.objs.size+1) scope.names<|cM scope.names X.env.cells []).lookup x=some c:=λx e=>Ez.mp<|JV _ _ _<|.inl e;have ok':(fO X N' scope (cellsFrom (s.heap.objs.size+1) scope.names<|cM scope.names X.env.cells []) s.heap.objs.size s H fp).Ok:=by
  refine⟨I.ok.mod,ck.kind,I.ok.glob,I.ok.blt,Am _,λx y c e1 e2=>?_,λx hx=>?_,λx c hf e=>?_,I.ok.hd,I.ok.frames,.inl rfl,λb hb=>⟨Bi (oO b hb).2,λx c e=>?_⟩,
   I.bs,By I.ok.jH I.sz,λb o e hb=>?_,λb hb hf=>?_,I.stack,I.d8⟩
  ·rcases both x c e1 with z1 | z1
   ·rcases both y c e2 with z2 | z2
    ·exact name_of_addr dU.apart z1.1 z2.1
    ·exact absurd (oP y c z2)<|Nat.not_lt.mpr<|Ey z1.2
   ·rcases both y c e2 with z2 | z2
    ·exact absurd (oP x c z1)<|Nat.not_lt.mpr<|Ey z2.2
    ·exact I.ok.inj x y c z1 z2
  ·have g8:(relabel scope X.env).names.lookup x=some .cell\/(relabel scope X.env).names.lookup x=some .free:=hx;have:∃ k,scope.names.lookup x=some k/\(k = .free\/k = .cell):=by
    rcases g8 with z | z
    ·obtain⟨k,e,r⟩:=kindOf z
     rcases r with r | ⟨r,_⟩
     ·exact⟨k,e,.inr r.symm⟩
     ·exact⟨k,e,.inl r⟩
    ·obtain⟨k,e,r⟩:=kindOf z
     rcases r with r | ⟨r,_⟩
     ·exact⟨k,e,.inl r.symm⟩
     ·exact⟨k,e,.inl r⟩
   obtain⟨k,e,rfl | rfl⟩:=this
   ·have hm:=DG e;obtain⟨c,hc⟩:=I.ok.has x<|ck.free _ hm rfl;obtain⟨d,hd⟩:=FX<|FV scope.names X.env.cells [] x c hm hc;exact⟨d,(QE x e).trans hd⟩
   ·exact GH x e
  ·have hx:scope.names.lookup x=some .cell:=by
    have zi:(match scope.names.lookup x with | some .cell=>true | _=>false)=true:=hf
    split at zi
    ·assumption
    ·cases zi
   have e':(cellsFrom (s.heap.objs.size+1) scope.names<|cM scope.names X.env.cells []).lookup x=some c:=e;have q1:=Ez.mp<|JV scope.names (s.heap.objs.size+1) []<|.inl hx;obtain⟨d,hd⟩:=q1;rw[qh,QX,hd]at e';have e2:d=c:=Option.some.inj e';have:=(vy _ _<|DG hd).2;rw[<- e2];exact Ey this
  ·have e':(cellsFrom (s.heap.objs.size+1) scope.names<|cM scope.names X.env.cells []).lookup x=some c:=e
   rcases both x c e' with z | z
   ·have h1:=(oO b hb).2;have h2:=z.2;exact λk=>absurd h1<|Nat.not_lt.mpr<|by rw[<- k];exact Ey h2
   ·exact(oO b hb).1.2.2.2.2.1 x c z
  ·have:=(oO b hb).1.2.2.2.1
   rcases this with z | z
   ·exact I.ok.fN b o e z
   ·exact absurd (Bf (Ap e)<|By I.ok.jH z)<|Cq _
  ·rcases Al.mp (I.dw b hf)with z | z
   ·exact(oO b hb).1.2.1 z
   ·exact(oO b hb).1.2.2.1 z
 refine⟨ok',rfl,I.bare,Un.kept old,⟨m,oI,λi x v e1 e2 e3=>?_⟩,λx c e=>?_,fre,λx c e=>?_,λp hp=>absurd hp (by simp[fO]),I.aF.kept old,?_⟩
 ·have hi:i < σ.length:=by
   by_cases hi:i < σ.length
   ·exact hi
   ·rw[Ba ⋯,Fb]at e2
    split at e2 <;> cases e2
  rw[Aq hi]at e2;have qi:N'[i]?=some x:=e1;have vis:∃ k',(relabel scope X.env).names.lookup x=some k'/\(k' = .local\/k' = .cell\/k' = .free):=by
   rcases e3 with z | z | z
   ·exact⟨_,z,.inl rfl⟩
   ·exact⟨_,z,.inr<|.inl rfl⟩
   ·exact⟨_,z,.inr<|.inr rfl⟩
  obtain⟨k',GV,qj⟩:=vis;obtain⟨k,ek,r⟩:=kindOf GV;have kf:k = .free:=by
   rcases r with r | ⟨r,_⟩
   ·subst r
    rcases qj with z | z | z
    ·subst z;have:=ck.own i x qi ek;rw[I.len]at hi;omega
    ·subst z;have:=ck.F9 i x qi ek;rw[I.len]at hi;omega
    ·exact z
   ·exact r
  subst kf;have hm:=DG ek;have hxN:=ck.out i x qi ek;obtain⟨m0,G0,iw⟩:=I.loc;have kx:=ck.free _ hm rfl;obtain⟨u,ru,lk⟩:=iw i x v hxN e2 (by rcases kx with z | z;exact .inr<|.inl z;exact .inr<|.inr z);refine⟨u,ru,.inr ⟨?_,?_⟩⟩
  ·rcases r with r | ⟨_,r⟩
   ·subst r;exact .inr GV
   ·subst r;exact .inl GV
  ·rcases lk with ⟨k1,_⟩ | ⟨_,c,hc,iX⟩
   ·have G':X.env.scope.names.lookup x=some .local:=k1
    rcases kx with z | z
    ·rw[G']at z;cases z
    ·rw[G']at z;cases z
   ·have QH:=FV scope.names X.env.cells [] x c hm hc;obtain⟨d,hd⟩:=FX QH;have:d=c:=Option.some.inj<|(sub x d hd).symm.trans hc;subst this;obtain⟨o,ho,jr⟩:=iX;exact⟨d,(QE x ek).trans hd,o,old _ _ ho,jr⟩
 ·have e':(cellsFrom (s.heap.objs.size+1) scope.names<|cM scope.names X.env.cells []).lookup x=some c:=e
  rcases both x c e' with z | z
  ·exact⟨none,(dU.empty x c z.1).1⟩
  ·obtain⟨v,o,ho,jr⟩:=I.cell x c z;exact⟨v,o,old _ _ ho,jr⟩
 ·have e':(cellsFrom (s.heap.objs.size+1) scope.names<|cM scope.names X.env.cells []).lookup x=some c:=e
  rcases both x c e' with z | z
  ·exact I.aF.fresh<|Ey z.2
  ·exact I.bC x c z
 ·rw[Ad,Fk,I.len];exact hl.symm
structure Clause(e:Expr)(d:Nat)(tg iter:Expr)(ifs:Ô)(acc:Value)(env:Env)(inner:Sem Unit):Prop where
 at':(clausesOf e)[d]?=some ⟨tg,iter,ifs,0⟩
 quiet:∀ it,(Code.compLoop e d it acc env).quiet=true
 den:∀(U:Program) (w:World) it,(model U w).den (.compLoop e d it acc env)=(compTurn e d it acc env).onRaise (λx=>do noteFrame x env;theTreesLotGoes x)
 und:∀(A:Around) it,A.under (.compLoop e d it acc env)=A
 Hf:∀(U:Program) (w:World) it,(model U w).den (.compStart e d it acc env)=(compStart e d it acc env).onRaise (λx=>do noteFrame x env;standAt theWindowsPlace)
 Hg:∀(A:Around) it,A.under (.compStart e d it acc env)=A
 turn:∀ it,compTurn e d it acc env=(do
   standAt iter.pos
   match <- pyNext it with
   | none=>pure<|.done .next
   | some v=>
    letOwnedTupleGo tg it v
    assign tg env v
    let mut ok:=true
    for c in ifs do
     if ok then ok <- isTrue c env<|eval c env
    if ok then
     inner
    again (.compLoop e d it acc env))
variable{inner:Sem Unit}{d:Nat}
theorem j45{it:Value}(C:Clause e d tg iter ifs acc env inner)(I:Nat->Shared->Prop)
  (turn : ∀ n s, I n s → wpAny (model U w) A (pyNext it) (λr À => match r with
   | none=>R (.ok .next) À
   | some v=>wpAny (model U w) A (letOwnedTupleGo tg it v) (λ_ s₁'=>wpAny (model U w) A (assign tg env v) (λ_ Á=>
     wpAny (model U w) A (forIn ifs true λc r=>if r=true then do let ok <- isTrue c env<|eval c env;pure (ForInStep.yield ok)else pure (ForInStep.yield r)) (λok Â=>
      if ok=true then wpAny (model U w) A inner (λ_ Ã=>∃ m,m < n/\I m Ã) (notedBy (model U w) A env λe s'=>R (.error e) s') Â
      else ∃ m,m < n/\I m Â) (notedBy (model U w) A env λe s'=>R (.error e) s') Á) (notedBy (model U w) A env λe s'=>R (.error e) s') s₁') (notedBy (model U w) A env λe s'=>R (.error e) s') À) (notedBy (model U w) A env λe s'=>R (.error e) s') s)
  (n:Nat) (h:I n s) :
  codeAny (model U w) A (.compLoop e d it acc env) R s:=by
 refine codeAny_loop (C.quiet it) I (λn s hI=>?_) n h;rw[C.und,C.den];refine wpAny_noted ?_;rw[C.turn];refine BJ<|FP<|BJ<|CT (turn n s hI) (λr À h₁=>?_) λ_ _ h'=>h';cases r with
 | none=>exact BL h₁
 | some v=>
  refine BJ<|CT h₁ (λ_ s₁' h₁'=>?_) λ_ _ h'=>h';refine BJ<|CT h₁' (λ_ Á Ä=>BJ<|CT Ä (λok Â Å=>?_) λ_ _ h'=>h') λ_ _ h'=>h';cases ok with
  | false=>exact BL ⟨rfl,Å⟩
  | true=>exact BJ<|CT Å (λ_ Ã Æ=>BL ⟨rfl,Æ⟩) λ_ _ h'=>h'
def j37{it:Value}(C:Clause e d tg iter ifs acc env inner)
  (h0:codeAny (model U w) A (.compLoop e d it acc env) R s)
  (h:wpAny (model U w) A (pyIter it) (λHh s'=>codeAny (model U w) A (.compLoop e d Hh acc env) R s') (notedBy (model U w) A env λx s'=>R (.error x) s') s) :
  codeAny (model U w) A (.compStart e d it acc env) R s:=by
 refine KR ?_;rw[C.Hg,C.Hf];refine wpAny_notedAt ?_;unfold compStart;rw[C.at'];show wpAny _ _ (ask >>= _) _ _ s;refine BJ<|KD<|wpAny_ite ?_
 split
 ·first
   | exact BJ<|BL<|BL<|And.intro (C.quiet _) h0
   | exact BL<|And.intro (C.quiet _) h0
 ·first
   | exact BJ<|GX<|BJ<|FP<|BJ<|CT h (λHh s' h'=>BL<|And.intro (C.quiet _) h') λ_ _ x=>x
   | (refine BJ<|GX ?_;show wpAny _ _ (standAt iter.pos >>= _) _ _ s;exact BJ<|FP<|BJ<|CT h (λHh s' h'=>BL<|And.intro (C.quiet _) h') λ_ _ x=>x)
structure lV(X:Cx)(m:Sem Unit)(σ:St)(H:Hp)(Q:St->Hp->Prop):Prop where
 run:∀O s,Inv X O σ H s->wpAny (model X.U X.w) X.A m (λ_ s'=>∃ σ' H',Inv X O σ' H' s'/\Q σ' H') X.xe s
def iy(X:Cx)(tg:Expr)(ifs:Ô)(inner:Sem Unit)(J:It)(after:St->Hp->Prop)(σ:St)(H:Hp):Prop:=
 ∃ W:Nat->Nat->St->Hp->Prop,(∃ m,W 0 m σ H)/\∀ i m σ' H',W i m σ' H' ->
  (J.stop i H' ∧ after σ' H') ∨ (J.go i H' ∧ ∃ N : St → Hp → Prop, (∀ σ' H', N σ' H' → ∃ m', m' < m ∧ W (i + 1) m' σ' H') ∧ ∀ x H2, J.uK i H' x H2 → Eg X tg x σ' H2 λσ2 H3 => Ei X ifs σ2 H3 λb H4 =>
   if b=true then lV X inner σ2 H4 N else N σ2 H4)
variable{J:It}{tn:Nat->Heap->Prop}
def zj(js:X.xe=λ_ _=>False)(hc:X.calm=true)(C:Clause e d tg iter ifs acc X.env inner)
  {it:Addr}    {after:St->Hp->Prop}  (I:Inv X O σ H s) (T:Turn X.U X.w X.K tg J fp it tn) (st:tn 0 s.heap) (hf:∀ b∈fp,cr X O H b) (h:iy X tg ifs inner J after σ H)
  (hR:∀ σ' H' s',Inv X O σ' H' s'->after σ' H'->R (.ok .next) s') :
  codeAny (model X.U X.w) X.A (.compStart e d (.ref it) acc X.env) R s:=by
 obtain⟨W,⟨m0,w0⟩,turn⟩:=h;have stat:∀{H':Hp},(∀ b∈fp,H' b=none)->∀ b∈fp,cr X O H' b:=λhn b hb=>⟨hn b hb,(hf b hb).2⟩;have loop:codeAny (model X.U X.w) X.A (.compLoop e d (.ref it) acc X.env) R s:=by
  refine j45 C (λk s'=>∃ i σ' H',Inv X O σ' H' s'/\tn i s'.heap/\(∀ b∈fp,H' b=none)/\W i k σ' H') ?_ m0 ⟨0,σ,H,I,st,λb hb=>(hf b hb).1,w0⟩;rintro k s4 ⟨i,σ4,H4,J4,QI,QN,w4⟩
  rcases turn i k σ4 H4 w4 with ⟨stop,qn⟩ | ⟨go,N,hN,step⟩
  ·have d1:=T.done X rfl rfl rfl hc i O s4 σ4 H4 (λ_ _=>False) J4 (stat QN) QI stop;refine jq d1 λr s5 ⟨hr,I5⟩=>?_;subst hr;exact hR _ _ _ I5 qn
  ·have d1:=T.item X rfl rfl rfl hc i O s4 σ4 H4 (λ_ _=>False) J4 (stat QN) QI go;refine jq d1 λr s5 ⟨u,hr,h5⟩=>?_;subst hr;refine jq h5 λ_ s6 ⟨x,H6,I6,r6,y6,Hi,fr6⟩=>?_;have I6':=I6.pinned (stat fr6)<|T.obj _ _ Hi;have again:∀{σ7:St} {H7:Hp} {s7:Shared},Inv X (O++uL fp s6.heap) σ7 H7 s7->N σ7 H7->∃ m,m < k/\∃ i σ' H',Inv X O σ' H' s7/\tn i s7.heap/\(∀ b∈fp,H' b=none)/\W i m σ' H':=λ{σ7 H7 s7} I7 n7=>by
    obtain⟨m',hm,w7⟩:=hN σ7 H7 n7;refine⟨m',hm,i+1,σ7,H7,I7.c6,T.keep _ _ _ Hi λb hb o e=>(I7.pin (b,o)<|Av _<|Av _<|yN hb e).1,λb hb=>?_,w7⟩;obtain⟨o,e,d⟩:=T.obj _ _ Hi b hb;exact(I7.pin (b,o)<|Av _<|Av _<|yN hb e).2.1
   have a1:=(step x H6 y6).run _ s6 u I6' r6;rw[js]at a1;refine jq a1 λ_ s7 ⟨σ7,H7,I7,q7⟩=>?_;have a2:=q7.run _ s7 I7;rw[js]at a2;refine jq a2 λok s8 ⟨H8,I8,q8⟩=>?_;cases ok with
   | false=>
    rw[BK Ax]at q8 ⊢;exact again I8 q8
   | true=>
    rw[BP rfl]at q8 ⊢;have a3:=q8.run _ s8 I8;rw[js]at a3;exact jq a3 λ_ s9 ⟨σ9,H9,I9,q9⟩=>again I9 q9
 exact j37 C loop<|T.self _ 0 _ _ _ st loop
variable{RR:Value->Addr->Result->Shared->Prop}{s2:Shared}{u0:Addr->HO}{newAcc:Sem Value}
def QO{o0:Obj}{inner:Value->Env->Sem Unit}{it:Addr}{Q:VK}
  (iz:∀(Q:Î) (E:Î) (s:Shared),Q (.ref s.heap.objs.size) {s with heap:=s.heap.push o0}->wpAny (model X.U X.w) X.A newAcc Q E s) (im:∀(H:Hp) (h:Heap),sysModules < h.objs.size->aB X.U X.w H (h.push o0) h.objs.size (u0 h.objs.size))
  (hc:X.calm=true) (ck:cA X.env.scope scope X.N N') (hl:N'.length=X.N.length+n) (hC:∀ acc env,Clause e 0 tg iter ifs acc env<|inner acc env)
  (I2:Inv X O σ H2 s2) (T:Turn X.U X.w X.K tg J fp it tn) (gm:tn 0 s2.heap) (f2:∀ b∈fp,cr X O H2 b)
  (q:∀ D,H2 D=none->∀ cl C æ ç ex,iy (fO X N' scope cl C æ ç ex) tg ifs (inner (.ref D)<|compEnvC scope cl C X.env) J (λ_ H'=>Q (.ref D) H') (σ++List.replicate n none)<|upd H2 D<|u0 D)
  (Hj:∀ D C H' s' m,Inv X O σ H' s'->s'.heap.Ns C m->H' C=none->C≠X.env.locals->X.æ.heap.objs.size<=C->(∀ x c,X.env.cells.lookup x=some c->c≠C)->(∀ p∈X.pn++O,p.1≠C)->Q (.ref D) H'->RR (.ref D) C (.ok .next) s') :
  wpAny (model X.U X.w) X.A newAcc (λacc Â=>wpAny (model X.U X.w) X.A (newFunctionEnv scope X.env.globals (cM scope.names X.env.cells []) [] X.env.qual none .none<|some X.env) (λkh Ã=>
   codeAny (model X.U X.w) X.A (.compStart e 0 (.ref it) acc {kh with scope:=relabel scope X.env}) (RR acc kh.locals) Ã) E Â) E s2:=by
 refine iz _ _ _<|k0q λh₁ È É Ê=>?_;have hD:H2 s2.heap.objs.size=none:=I2.aF.fresh<|Am _;have q0:=q s2.heap.objs.size hD;have fl:∀ b∈fp,b < s2.heap.objs.size:=λb hb=>by
  obtain⟨o,e,_⟩:=T.obj 0 _ gm b hb;exact Ap e
 have I3:Inv X O σ (upd H2 s2.heap.objs.size<|u0 s2.heap.objs.size) {s2 with heap:=s2.heap.push o0}:=
  I2.laid (t':=s2.toks) (λb o e=>Ae _ e) (Am _) (im _ _ I2.big)
 generalize zp:({s2 with heap:=s2.heap.push o0}:Shared)=s3 at I3 È É Ê ⊢;have hz3:s3.heap.objs.size=s2.heap.objs.size+1:=by rw[<- zp];exact Dh ..
 have Hk:∀ b o,s2.heap.get? b=some o->s3.heap.get? b=some o:=λb o e=>by rw[<- zp];exact Ae _ e
 have old:∀ b o,s3.heap.get? b=some o->h₁.get? b=some o:=É;have f3:∀ b∈fp,cr X O (upd H2 s2.heap.objs.size<|u0 s2.heap.objs.size) b/\b < s3.heap.objs.size:=λb hb=>by
  refine⟨⟨?_,(f2 b hb).2⟩,by rw[hz3];exact Bt<|fl b hb⟩;rw[au<|Bi<|fl b hb];exact(f2 b hb).1
 have I4:=λ(t':Nat)=>q3y (N':=N') (scope:=scope) (n:=n) (fp:=fp) (h₁:=h₁) (t':=t') I3 ck hl È old Ê f3;generalize hX:fO X N' scope (cellsFrom (s3.heap.objs.size+1) scope.names<|cM scope.names X.env.cells []) s3.heap.objs.size s3 (upd H2 s2.heap.objs.size<|u0 s2.heap.objs.size) fp=X' at I4;have eP:X'.U=X.U:=by rw[<- hX];rfl
 have ew:X'.w=X.w:=by rw[<- hX];rfl
 have eK:X'.K=X.K:=by rw[<- hX];rfl
 have eA:X'.A=X.A:=by rw[<- hX];rfl
 have eE:X'.env=compEnvC scope (cellsFrom (s3.heap.objs.size+1) scope.names<|cM scope.names X.env.cells []) s3.heap.objs.size X.env:=by rw[<- hX];rfl
 have ec:X'.calm=true:=by rwa[<- hX]
 have O6:X'.xe=λ_ _=>False:=by rw[<- hX];rfl
 have stat:∀{H':Hp},(∀ b∈fp,H' b=none)->∀ b∈fp,cr X' [] H' b:=λhn b hb=>by
  refine⟨hn b hb,?_,?_,?_,?_,?_⟩
  ·rw[eE];exact Bi (f3 b hb).2
  ·rw[<- hX];intro hf
   rcases Al.mp (I3.dw b hf)with z | z
   ·exact(f3 b hb).1.2.1 z
   ·exact(f3 b hb).1.2.2.1 z
  ·rw[<- hX];exact .inl hb
  ·rw[eE];intro x c e
   rcases Qz e with z | z
   ·exact λk=>absurd (f3 b hb).2<|Nat.not_lt.mpr<|by rw[<- k];exact Ey z.2
   ·exact(f3 b hb).1.2.2.2.2.1 x c<|FU _ _ _ (λ_ _ z=>by simp at z) x c<|DG z
  ·rw[<- hX];intro p hp;exact absurd hp<|by simp[fO]
 have fin:∀{σ':St} {H':Hp} {s':Shared},Inv X' [] σ' H' s'->Q (.ref s2.heap.objs.size) H'->RR (.ref s2.heap.objs.size) s3.heap.objs.size (.ok .next) s':=λ{σ' H' s'} I' q'=>by
  obtain⟨m',oB,_⟩:=id I'.loc;rw[eE]at oB;have hos:s'.os=s3.os:=by have:=I'.os;rwa[<- hX]at this
  have hun:Un (dF X.stack) fp (upd H2 s2.heap.objs.size<|u0 s2.heap.objs.size) H' s3.heap s'.heap:=by have:=I'.Z;rwa[<- hX]at this
  have aF:cg X.U X.w H' s'.heap:=by have:=I'.aF;rwa[eP,ew]at this
  have IX:Inv X O σ H' s':=I3.call' (ch:=fp) hos hun aF I'.bare λb hb=>⟨(f3 b hb).1.2.2.2.1,(f3 b hb).1.2.1,(f3 b hb).1.2.2.2.2.1,(f3 b hb).1.2.2.2.2.2⟩;have i0:=I'.free;rw[eE]at i0;refine Hj _ _ H' s' m' IX oB i0 (Cw I3.lt) I3.sz (λx c e z=>?_) (λp hp z=>?_) q'
  ·obtain⟨v,o,ho,_⟩:=I3.cell x c e;exact absurd (Ap ho)<|by rw[z];exact Cq _
  ·exact absurd (Ap (I3.pin p hp).1)<|by rw[z];exact Cq _
 have fs0:∀ b∈fp,cr X' [] (upd H2 s2.heap.objs.size<|u0 s2.heap.objs.size) b:=stat λb hb=>(f3 b hb).1.1;have q1:iy X' tg ifs (inner (.ref s2.heap.objs.size) X'.env) J (λ_ H'=>Q (.ref s2.heap.objs.size) H') (σ++List.replicate n none) (upd H2 s2.heap.objs.size<|u0 s2.heap.objs.size):=by
  rw[eE,<- hX];exact q0 _ _ _ _ _
 have T':Turn X'.U X'.w X'.K tg J fp it tn:=by rwa[eP,ew,eK]
 have fin2:=zj (s:={s3 with heap:=h₁,toks:=s3.toks}) O6 ec (hC (.ref s2.heap.objs.size) X'.env) (I4 s3.toks) T' (T.keep 0 _ _ gm λb _ o e=>old b o<|Hk b o e) fs0 q1 (R:=RR (.ref s2.heap.objs.size) s3.heap.objs.size) λσ' H' s' I' a'=>fin I' a';rwa[eP,ew,eA,eE]at fin2
def emit(elt:Expr)(acc:Value)(env:Env):Sem Unit:=do let _ <- call (.builtin "list.append") [acc,<- eval elt env]
section
variable{pos:Pos}
def q3s:Clause (.ListComp elt [⟨tg,iter,ifs,0⟩] scope pos) 0 tg iter ifs acc env (emit elt acc env):=⟨rfl,λ_=>rfl,λ_ _ _=>rfl,λ_ _=>rfl,λ_ _ _=>rfl,λ_ _=>rfl,λ_=>rfl⟩
def QP{D:Addr}{Q:St->Hp->Prop} (h:Ev X elt σ H λv H1=>∃ ys,H1 D=some (.lst ys)/\ys.length < sizeLine/\Q σ (upd H1 D<|.lst<|ys++[v])):lV X (emit elt (.ref D) X.env) σ H Q:=by
 refine⟨λO s I=>?_⟩;unfold emit;refine BJ<|aN (h.run O s I) λv s1 ⟨x,H1,I1,r1,ys,hy,hz,q⟩=>?_;refine BJ<|aN (Qa _ s1 σ H1 (.ref D) [x] (.ref D) [v] (λ_ H'=>Q σ H') I1 rfl (.cons r1 .nil) ⟨_,ys,x,rfl,rfl,hy,hz,q⟩) λ_ s2 ⟨_,H2,I2,_,q2⟩=>BL ⟨σ,H2,I2,q2⟩
def Eg.mono{R R':St->Hp->Prop}(h:Eg X elt v σ H R)(f:∀ σ' H',R σ' H'->R' σ' H'):Eg X elt v σ H R':=⟨λO s u I r=>aN (h.run O s u I r) λ_ _ ⟨σ',H',I',q⟩=>⟨σ',H',I',f _ _ q⟩⟩
def Ei.mono(h:Ei X ifs σ H T)(f:∀ b H',T b H'->T' b H'):Ei X ifs σ H T':=⟨λO s I=>aN (h.run O s I) λ_ _ ⟨H',I',q⟩=>⟨H',I',f _ _ q⟩⟩
theorem q7u{D:Addr}{after:Hp->Prop}(h:lU X N' scope tg ifs elt J D after σ H)(cl:List<|Str×Addr)(C:Addr)(æ:Shared)(ç:Hp)(ex:List Addr):iy (fO X N' scope cl C æ ç ex) tg ifs (emit elt (.ref D)<|compEnvC scope cl C X.env) J (λ_ H'=>after H') σ H:=by
 obtain⟨W,w0,t⟩:=h;refine⟨W,w0,λi m σ' H' w=>(t i m σ' H' w).imp id λ⟨g,N,hN,st⟩=>⟨g,N,hN,λx H2 y=>(st x H2 y cl C æ ç ex).mono λσ2 H3 h3=>(h3 cl C æ ç ex).mono λb H4 h4=>?_⟩⟩;cases b with
 | true=>
  rw[BP rfl]at h4 ⊢;exact QP<|h4 cl C æ ç ex
 | false=>
  rw[BK Ax]at h4 ⊢;exact h4
def QQ{it:Addr}{Q:VK}
  (hc:X.calm=true) (ck:cA X.env.scope scope X.N N') (hl:N'.length=X.N.length+n) (I2:Inv X O σ H2 s2) (T:Turn X.U X.w X.K tg J fp it tn) (gm:tn 0 s2.heap) (f2:∀ b∈fp,cr X O H2 b)
  (q:∀ D,H2 D=none->lU X N' scope tg ifs elt J D (λH'=>Q (.ref D) H') (σ++List.replicate n none) (upd H2 D<|.lst []))
  (Hj:∀ D C H' s' m,Inv X O σ H' s'->s'.heap.Ns C m->H' C=none->C≠X.env.locals->X.æ.heap.objs.size<=C->(∀ x c,X.env.cells.lookup x=some c->c≠C)->(∀ p∈X.pn++O,p.1≠C)->Q (.ref D) H'->RR (.ref D) C (.ok .next) s') :
  wpAny (model X.U X.w) X.A (newList []) (λacc Â=>wpAny (model X.U X.w) X.A (newFunctionEnv scope X.env.globals (cM scope.names X.env.cells []) [] X.env.qual none .none<|some X.env) (λkh Ã=>
   codeAny (model X.U X.w) X.A (.compStart (.ListComp elt [⟨tg,iter,ifs,0⟩] scope pos) 0 (.ref it) acc {kh with scope:=relabel scope X.env}) (RR acc kh.locals) Ã) E Â) E s2:=
 QO (newAcc:=newList []) (o0:={cls:= .type "list",dict:=none,data:= .seq ([]:Ó).toArray}) (u0:=λ_=> .lst []) (λ_ _ _ h=>CZ h<|by show(0:Nat)<=sizeLine;exact Bu _) (λ_ _ _=>⟨Bu _,[],0,.nil,Ao _ rfl⟩) hc ck hl (λ_ _=>q3s) I2 T gm f2 (λD hD=>q7u<|q D hD) Hj
end
section
variable{pos p:Pos}{Q:VK}{rest:Õ}
def iA(h:T true H):Ei X [] σ H T:=⟨λO s I=>q4w O s σ H T I h⟩
def hU(h:Et X c σ H T):Ei X [c] σ H T:=⟨λO s I=>q68 mO O s σ H T I h⟩
def gu(sc:Scope)(N N':Ñ)(n:Nat)(hi:PI X tg iter wi)
  (h:wi σ H λJ H1=>∀ D,H1 D=none->lU X N' scope tg ifs elt J D (λH'=>Q (.ref D) H') (σ++List.replicate n none) (upd H1 D<|.lst []))
  (hc:X.calm=true:=by rfl) (iB:X.env.scope=sc:=by rfl) (hN:X.N=N:=by rfl) (hk:mR sc scope N N'=true:=by decide +kernel) (hl:N'.length=N.length+n:=by rfl)
  (hs:∀ x,foldedSetIterable iter X.env x=pure x:=by intro _;rfl):Ev X (.ListComp elt [⟨tg,iter,ifs,0⟩] scope pos) σ H Q:=by
 refine⟨λO s I=>?_⟩;subst iB hN;have ck:=cA.of hk;rw[eval_ListComp];refine LC rfl hs (FR λx hx hf=>I.ok.has x.1<|ck.free x hx hf) ck.kind ck.names (aN (hi O s σ H _ I h) λv s1 h1=>aN h1 λoE s2 h2=>?_);obtain⟨it,fp,tn,J,H2,e,I2,T,gm,f2,q⟩:=h2;subst e;refine QQ hc ck hl I2 T gm f2 q ?_;intro D C H' s' m IX hn hC c1 c2 c3 c4 qq;exact⟨m,hn,λh' gy=>⟨.ref D,H',IX.turned (λb o hb e=>gy.extBut b o hb e) hC (CG<|CG c1) (.inr c2) c3 c4,rfl,qq⟩⟩
def tj(i:Nat){y:Str}{py vz:Pos}(sc:Scope)(N N':Ñ)(n:Nat)(jM:X.N.Nodup)(hi:PI X tg iter wi)
  (h:wi σ H λJ H1=>∀ A,H1 A=none->lU X N' scope tg ifs elt J A (λH'=>Run X rest D (σ.set i<|some<|.ref A) H') (σ++List.replicate n none) (upd H1 A<|.lst []))
  (hiN:X.N[i]?=some y:=by rfl) (hy:Loc X.env.scope y:=by first | exact Or.inl rfl | exact Or.inr rfl)
  (hsw:swapsWith (.ListComp elt [⟨tg,iter,ifs,0⟩] scope pos) (some<|.Name y py) vz.line X.env=pure true:=by rfl)
  (hc:X.calm=true:=by rfl) (iB:X.env.scope=sc:=by rfl) (hN:X.N=N:=by rfl) (hk:mR sc scope N N'=true:=by decide +kernel) (hl:N'.length=N.length+n:=by rfl)
  (hs:∀ x,foldedSetIterable iter X.env x=pure x:=by intro _;rfl) (hf:X.fn y=true\/X.env.scope.names.lookup y=some .local:=by first | exact .inl rfl | exact .inr rfl | assumption) :
  Run X (.Assign [.Name y py] (.ListComp elt [⟨tg,iter,ifs,0⟩] scope pos) vz :: rest) D σ H:=by
 refine jL (t:=λD' σ H=>wi σ H λJ H1=>∀ A,H1 A=none->lU X N' scope tg ifs elt J A (λH'=>D'.nx (σ.set i<|some<|.ref A) H') (σ++List.replicate n none) (upd H1 A<|.lst [])) ?_ h;intro O s σ H D I h;subst iB hN;have ck:=cA.of hk;rw[exec_Assign_Name_used _ _ _ _ hsw];refine BJ<|FP<|BJ ?_;show wpAny _ X.A (do let _ <- comprehension (.ListComp elt [⟨tg,iter,ifs,0⟩] scope pos) scope X.env _ (newList []) false (eval iter X.env)<|some<|assign (.Name y py) X.env) _ _ s;refine BJ<|CT (LC (use:=some<|assign (.Name y py) X.env) (Q:=λ_ s'=>SP X O D .next s') rfl hs (FR λx hx hf=>I.ok.has x.1<|ck.free x hx hf) ck.kind ck.names
  (aN (hi O s σ H _ I h) λv s1 h1=>aN h1 λoE s2 h2=>?_)) (λ_ s' hq=>BL<|BL hq) λ_ _ e=>e
 obtain⟨it,fp,tn,J,H2,e,I2,T,gm,f2,q⟩:=h2;subst e;refine QQ (Q:=λx H1=>D.nx (σ.set i<|some x) H1) (RR:=λacc C=>compPost (model X.U X.w) X.A X.xe (some<|assign (.Name y py) X.env) (λ_ s'=>SP X O D .next s') acc C) hc ck hl I2 T gm f2 q ?_;intro D' C H' s' m IX hn hC c1 c2 c3 c4 qq;show wpAny _ X.A (assign (.Name y py) X.env<|.ref D') _ _ _;refine wpAny_assign_Name<|O8 IX jM hiN hy (v:= .ref D') rfl (λqb I'' Hl=>?_) hf;obtain⟨a,Hl,ha⟩:=Hl;have hCa:C≠a:=by
  rcases ha with ha | ha
  ·rwa[ha]
  ·exact CG<|c3 _ _ ha
 refine⟨m,hn.sameBut Hl hCa,λh' gy=>⟨_,H',I''.turned (t':=qb.toks) (λb o hb e=>gy.extBut b o hb e) hC c1 (.inr c2) c3 c4,qq⟩⟩
end
structure aQ(P:Program)(w:World)(K:PySem.W.Frag)(mg:Ò)(Z:Heap)(k:Nat)(x:Str)(ps:Ñ)(sp:Sp):Prop where
 ex:∃ f fd,aD P w K mg Z bz k f fd ps sp/\Binds K fd ps []/\PySem.W.keepIn K (.ref f)=true/\mg x=some (.ref f)
def aQ.mono{P:Program}{w:World}{K:PySem.W.Frag}{mg:Ò}{Z:Heap}{j k:Nat}{x:Str}{ps:Ñ}{sp:Sp}(h:aQ P w K mg Z j x ps sp)(le:j<=k):aQ P w K mg Z k x ps sp:=
 let ⟨f,fd,F,r⟩:=h.ex;⟨f,fd,F.mono le,r⟩
def bG{k:Nat}{Q:VK}{p pos:Pos}(G:aQ X.U X.w X.K X.mg X.Z k x ps sp)(hr:bv k X.A)
  (h:Ea X (e :: es) σ H λvs H1=>sp vs H1 Q E0) (hg:Gl X x:=by rfl) (cQ:(x == ("__debug__" : Str))=false:=by decide) (hs:noStar (e :: es)=true:=by rfl):Ev X (.Call (.Name x p) (e :: es) [] pos) σ H Q:=
 let ⟨_,_,F,b,kp,m⟩:=G.ex;Qv F hr m kp b ka h hg cQ hs
theorem _root_.L2.bv.fQ{k:Nat}(hr:bv k A):A.units+100 < cLine:=by have:=hr.un;omega
theorem _root_.L2.bv.u1{k:Nat}(hr:bv k A):A.units+1 < cLine:=by have:=hr.un;omega
def Df(K:PySem.W.Frag)(x:Str)(st:Stmt):Prop:=∃f fd,PySem.W.nsIn K mainGlobals x=some (⇑f)/\bo K x x st f fd
variable{sl:Array (Option Value)}
def vA{kV doc pm bF ct:Value}{od an:Option Addr}(a:PySem.W.nsIn K mainGlobals x=some (⇑f))
  (l:K.lookup f=some ⟨oc,od,.func<|PySem.W.fnOf x x (lP st) (gn st) (aP st) .none kV doc pm an bF ct,sl⟩) (c:PySem.W.codeIn K bF x=true) (k:PySem.W.keepIn K (.ref f)=true):Df K x st:=⟨f,_,a,ZV l c k⟩
structure tq where
 f:Addr
 bF:Value
 A:Around
 outer:List Env
 s:Shared
 H:Hp
 E:XK
def Hm(N:Ñ)(qual:Str)(scope:Scope)(P:Program)(w:World)(K:PySem.W.Frag)(mg:Ò)(Z:Heap)(b:tq):Cx:=(fq bz P w K mg Z N qual scope b.f b.bF b.A b.outer b.s b.H b.E).my
def En(Q:VK):Ends:={nx:=λ_ H'=>Q .non H',rt:=Q}
def bo.gb{N:Ñ}{k:Nat}(F:bo K x qual st f fd)(S:ak N ps<|aP st)(len:∀ vs H Q E,sp vs H Q E->vs.length=ps.length)
  (cw:∀b H vs Q E,bv k (b.A.deeper<|envOfC qual (aP st) b.s.heap.objs.size b.f b.bF)->sp vs H Q E->Run (Hm N qual (aP st) P w K mg Z b) (gn st) (En Q) (start N vs) H):aD P w K mg Z bz (k+1) f fd ps sp:=
 F.go S len λbF A outer s H vs Q E hr dG=>cw ⟨f,bF,A,outer,s,H,E⟩ H vs Q E hr dG
def Df.has{k:Nat}(d:Df K x st)(X:K.In h)(G:h.Ns mainGlobals mg)
  (hb:∀kV doc pm an bF ct us,us.length=ps.length->bindArgs (PySem.W.fnOf x x (lP st) (gn st) (aP st) .none kV doc pm an bF ct) ⟨us,[]⟩=pure (ps.zip us))
  (ok:∀{f}{fd},bo K x x st f fd->aD P w K mg Z bz k f fd ps sp):aQ P w K mg Z k x ps sp:=
 let ⟨f,fd,a,F⟩:=d;⟨f,fd,ok F,F.binds hb,F.kp,NZ X G a⟩
def Df.law{k:Nat}{y:Str}(d:Df K x st)(X:K.In h)(G:h.Ns mainGlobals mg)(Hn:mg x=some (.ref fa))
  (hb:∀kV doc pm an bF ct s v,BindsTo s (PySem.W.fnOf x x (lP st) (gn st) (aP st) .none kV doc pm an bF ct) ⟨[v],[]⟩ [(y,v)])
  (ok:∀Z{f}{fd},bo K x x st f fd->aD P w K mg Z bz k f fd [y] sp) :
  ∃ fd:FuncData,(∀s v,BindsTo s fd ⟨[v],[]⟩ [(y,v)])/\∀ Z:Heap,K.In Z->Z.Ns mainGlobals mg->aD P w K mg Z bz k fa fd [y] sp:=by
 obtain⟨f,fd,a,F⟩:=d;have e:=Hn.symm.trans<|NZ X G a;cases e;obtain⟨oc,od,kV,doc,pm,an,bF,ct,j5,rfl,lk,iW⟩:=id F.ex;exact⟨_,hb kV doc pm an bF ct,λZ _ _=>ok Z F⟩
variable{p:Ó->Prop}
theorem vC{k:Nat}(f:∀a r,r.length=k->p (a :: r)):∀ us:Ó,us.length=k+1->p us
 | a :: r,h=>f a r<|Nat.succ.inj h
theorem vD(f:p []):∀ us:Ó,us.length=0->p us
 | [],_=>f
def bZ{N P:Ñ}(nd:N.Nodup:=by decide +kernel)(par:∀ x∈P,sc.names.lookup x=some .local\/sc.names.lookup x=some .cell:=by decide +kernel)(ii:∀ y∈sc.names,y.2 ≠ .free:=by decide +kernel)
  (kind:sc.kind = .function:=by rfl) (co:sc.isCoroutine=false:=by rfl) (gen:sc.isGenerator=false:=by rfl) (pre:N.take P.length=P:=by rfl):ak N P sc:=⟨kind,co,gen,nd,pre,par,ii⟩
def bo.gc{N:Ñ}{k:Nat}(F:bo K x qual st f fd)(S:ak N ps<|aP st)
  (cw:∀b H vs Q E,bv k (b.A.deeper<|envOfC qual (aP st) b.s.heap.objs.size b.f b.bF)->sp vs H Q E->Run (Hm N qual (aP st) P w K mg Z b) (gn st) (En Q) (start N vs) H)
  (len:∀ vs H Q E,sp vs H Q E->vs.length=ps.length:=by intro vs H Q E h;repeat (first | (obtain⟨rfl,_⟩:=h;rfl) | obtain⟨_,h⟩:=h)):aD P w K mg Z bz (k+1) f fd ps sp:=F.gb S len cw
def Df.hs{k:Nat}(d:Df K x st)(X:K.In h)(G:h.Ns mainGlobals mg)
  (ok:∀{f}{fd},bo K x x st f fd->aD P w K mg Z bz k f fd ps sp)
  (hb:∀kV doc pm an bF ct us,us.length=ps.length->bindArgs (PySem.W.fnOf x x (lP st) (gn st) (aP st) .none kV doc pm an bF ct) ⟨us,[]⟩=pure (ps.zip us):=by intro _ _ _ _ _ _;(repeat (refine L2.vC λ_=>?_));exact L2.vD rfl):aQ P w K mg Z k x ps sp:=d.has X G hb ok
end L2
namespace bK
open PySem
def tu(m i:Nat):Nat:=(i * 5+1) % m
def gM(m:Nat):Nat->Nat->List Nat
 | 0,_=>[]
 | n+1,i=>i :: gM m n (tu m i)
def mS(m:Nat):Nat->Nat->Nat
 | 0,i=>i
 | n+1,i=>mS m n<|tu m i
theorem zq(m:Nat):∀ a b i,mS m (a+b) i=mS m b (mS m a i)
 | 0,b,i=>by rw[Fe];rfl
 | a+1,b,i=>by
  rw[show a+1+b=(a+b)+1 by omega];exact zq m a b<|tu m i
theorem Ho(m:Nat):∀ n t i,t < n->mS m t i∈gM m n i
 | 0,_,_,h=>⋯
 | n+1,0,i,_=>Ag
 | n+1,t+1,i,h=>Ak _<|Ho m n t (tu m i)<|⋯
theorem Hq(m:Nat):∀ n i j,j∈gM m n i->∃ t,t < n/\mS m t i=j
 | 0,_,_,h=>by cases h
 | n+1,i,j,h=>by
  rcases Al.mp h with rfl | h
  ·exact⟨0,Gd _,rfl⟩
  ·obtain⟨t,ht,e⟩:=Hq m n (tu m i) j h;exact⟨t+1,Nat.succ_lt_succ ht,e⟩
def covers(m:Nat):Bool:=mS m m 0 == 0 && (List.range m).all λj=>(gM m m 0).contains j
def q4y:covers 8=true:=by decide +kernel
def q16:covers 16=true:=by decide +kernel
def q3o:covers 32=true:=by decide +kernel
def q3u:covers 64=true:=by decide +kernel
def k82:covers 128=true:=by decide +kernel
def k61:covers 512=true:=by decide +kernel
def Pow(m:Nat):Prop:=m=8\/m=16\/m=32\/m=64\/m=128\/m=512
def Pow.covers{m:Nat}(h:Pow m):bK.covers m=true:=by
 rcases h with rfl | rfl | rfl | rfl | rfl | rfl
 ·exact q4y
 ·exact q16
 ·exact q3o
 ·exact q3u
 ·exact k82
 ·exact k61
variable{m:Nat}
def Pow.pos(h:Pow m):8<=m/\m<=512:=by rcases h with rfl | rfl | rfl | rfl | rfl | rfl <;> decide
variable{i j:Nat}
theorem Pow.mem(h:Pow m)(hi:i < m)(hj:j < m):j∈gM m m i:=by
 have q:=h.covers;unfold bK.covers at q;rw[Bq,De,JD]at q;obtain⟨z,q⟩:=q;obtain⟨a,ha,ea⟩:=Hq m m 0 i<|Cu.mp<|q i<|Bc.mpr hi;obtain⟨b,hb,eb⟩:=Hq m m 0 j<|Cu.mp<|q j<|Bc.mpr hj
 rcases Dr b a with c | c
 ·have e:mS m (b+m - a) i=j:=by
   rw[<- ea,<- zq,show a+(b+m - a)=m+b by omega,zq,z,eb]
  rw[<- e];exact Ho m m _ i<|⋯
 ·have e:mS m (b - a) i=j:=by
   rw[<- ea,<- zq,show a+(b - a)=b by omega,eb]
  rw[<- e];exact Ho m m _ i<|⋯
def tD(mask:Nat):Nat->Nat->Nat->List Nat
 | 0,_,_=>[]
 | n+1,i,p=>i :: tD mask n (SetTable.leap mask i p).1 (SetTable.leap mask i p).2
theorem QR(mask:Nat):∀ n i,tD mask n i 0=gM (mask+1) n i
 | 0,_=>rfl
 | n+1,i=>by
  show i :: tD mask n ((i * 5+1+0 / 32) % (mask+1)) (0 / 32)=i :: gM (mask+1) n (tu (mask+1) i);rw[show(0 / 32:Nat)=0 by decide,WK,QR mask n];rfl
variable{mask:Nat}
def q6u{p:Nat}:(SetTable.leap mask i p).1 < mask+1:=Gw _<|Gd _
theorem QU{mask:Nat}:∀t n i p,i < mask+1->p < 32 ^ t->∃ i',i' < mask+1/\∀ j∈gM (mask+1) n i',j∈tD mask (t+n) i p
 | 0,n,i,p,hi,hp=>by
  have e:p=0:=by simpa using hp
  subst e;refine⟨i,hi,λj hj=>?_⟩;rwa[Fe,QR]
 | t+1,n,i,p,hi,hp=>by
  have h2:p / 32 < 32 ^ t:=by
   rw[Nat.div_lt_iff_lt_mul<|∅];rwa[Nat.pow_succ]at hp
  obtain⟨i',h',q⟩:=QU t n (SetTable.leap mask i p).1 (p / 32) q6u h2;refine⟨i',h',λj hj=>?_⟩;rw[show t+1+n=(t+n)+1 by omega];exact Ak _<|q j hj
theorem q0s{p:Nat}(hm:Pow<|mask+1)(hi:i < mask+1)(hp:p < 2 ^ 64)(hj:j < mask+1):j∈tD mask (mask+15) i p:=by
 obtain⟨i',h',q⟩:=QU 14 (mask+1) i p hi (Bf hp<|∅);have:=q j<|hm.mem h' hj;rwa[show 14+(mask+1)=mask+15 by omega]at this
abbrev kj:=Array<|Option Nat
def nil?(owner:kj)(j:Nat):Bool:=(owner.getD j<|some 0).isNone
theorem q2o(mask i:Nat):i<=SetTable.runEnd mask i:=by unfold SetTable.runEnd;split <;> omega
theorem QY{mask:Nat}{owner:kj}:∀{fuel i p},SetTable.layClean.free mask owner fuel i p=none->∀ j∈tD mask fuel i p,nil? owner j=false
 | 0,_,_,_,j,hj=>by cases hj
 | fuel+1,i,p,h,j,hj=>by
  unfold SetTable.layClean.free at h
  split at h
  ·cases h
  ·rename_i hf
   rcases Al.mp hj with rfl | hj
   ·have:=Fy.mp hf 0 (Bc.mpr<|by have:=q2o mask j;omega);rw[WK]at this;exact Dk.mpr this
   ·exact QY h j hj
theorem Q0{mask:Nat}{owner:kj}:∀{fuel i p j},SetTable.layClean.free mask owner fuel i p=some j->nil? owner j=true
 | 0,_,_,_,h=>by cases h
 | fuel+1,i,p,j,h=>by
  unfold SetTable.layClean.free at h
  split at h
  ·rename_i k hf;cases h;have:=Gu hf;exact this
  ·exact Q0 h
variable{owner:kj}
theorem nil?_iff:nil? owner j=true↔owner[j]?=some none:=by
 unfold nil?;rw[Dz];cases h:owner[j]? with
 | none=>simp
 | some v=>cases v <;> simp
structure Lies(m:Nat)(owner:kj)(k:Nat):Prop where
 size:owner.size=m
 lt:∀(j v:Nat),owner[j]?=some (some v)->v < k
 has:∀ v:Nat,v < k->∃ j:Nat,owner[j]?=some (some v)
 inj:∀(i j v:Nat),owner[i]?=some (some v)->owner[j]?=some (some v)->i=j
theorem Lies.start(m:Nat):Lies m (Array.replicate m none) 0 where
 size:=by simp
 lt:=λj v h=>by
  rw[RX]at h
  split at h <;> cases h
 has:=λv h=>⋯
 inj:=λi j v h=>by
  rw[RX]at h
  split at h <;> cases h
theorem Lies.put{k:Nat}(L:Lies m owner k)(hj:owner[j]?=some none):Lies m (owner.setIfInBounds j<|some k) (k+1):=by
 have aV:j < owner.size:=by
  rcases Dr j owner.size with h | h
  ·exact h
  ·rw[El h]at hj;cases hj
 have at':∀ i:Nat,(owner.setIfInBounds j<|some k)[i]?=if j=i then some (some k)else owner[i]?:=by
  intro i;rw[Array.getElem?_setIfInBounds]
  split
  ·rename_i e;subst e;first | rfl | rw[BP aV]
  ·rfl
 refine⟨by rw[Array.size_setIfInBounds];exact L.size,λi v h=>?_,λv h=>?_,λa b v ha hb=>?_⟩
 ·rw[at']at h
  split at h
  ·cases h;exact Fd _
  ·exact Bt<|L.lt i v h
 ·rcases Nat.lt_succ_iff_lt_or_eq.mp h with h | rfl
  ·obtain⟨i,hi⟩:=L.has v h;refine⟨i,?_⟩;rwa[at',BK λe=>by subst e;rw[hj]at hi;cases hi]
  ·exact⟨j,by rw[at',BP rfl]⟩
 ·rw[at']at ha hb
  split at ha
  ·rename_i e;cases ha
   split at hb
   ·rename_i e2;exact e.symm.trans e2
   ·have:=L.lt b k hb;omega
  ·split at hb
   ·cases hb;have:=L.lt a k ha;omega
   ·exact L.inj a b v ha hb
def live(m:Nat)(owner:kj):List (Nat×Nat):=(List.range m).filterMap λj=>(owner.getD j none).map (j,·)
theorem getD_some{v:Nat}:owner.getD j none=some v↔owner[j]?=some (some v):=by
 rw[Dz];cases h:owner[j]? with
 | none=>simp
 | some x=>simp
def gN{p:Nat×Nat}:p∈live m owner↔p.1 < m/\owner[p.1]?=some (some p.2):=by
 unfold live;rw[Fx]
 constructor
 ·rintro ⟨j,hj,e⟩;cases hv:owner.getD j none with
  | none=>rw[hv]at e;cases e
  | some v=>
   rw[hv]at e;cases e;exact⟨Bc.mp hj,getD_some.mp hv⟩
 ·rintro ⟨h1,h2⟩;exact⟨p.1,Bc.mpr h1,by rw[getD_some.mpr h2];rfl⟩
def Lies.nodup{k:Nat}(L:Lies m owner k):((live m owner).map (·.2)).Nodup:=by
 have q:∀ l:List Nat,l.Nodup->((l.filterMap λj=>(owner.getD j none).map (j,·)).map (·.2)).Nodup:=by
  intro l
  induction l with
  | nil=>intro _;exact Cn
  | cons a r ih=>
   intro hn;rw[Bk]at hn;rw[Ej];cases hv:owner.getD a none with
   | none=>exact ih hn.2
   | some v=>
    show(v :: (r.filterMap λj=>(owner.getD j none).map (j,·)).map (·.2)).Nodup;rw[Bk];refine⟨λh=>?_,ih hn.2⟩;obtain⟨p,hp,e⟩:=Ai.mp h;obtain⟨j,hj,e2⟩:=Fx.mp hp;cases hw:owner.getD j none with
    | none=>rw[hw]at e2;cases e2
    | some u=>
     rw[hw]at e2;cases e2;have e3:u=v:=e;subst e3;have:=L.inj a j u (getD_some.mp hv)<|getD_some.mp hw;subst this;exact hn.1 hj
 exact q _ RZ
def Lies.perm{k:Nat}(L:Lies m owner k):((live m owner).map (·.2)).Perm (List.range k):=by
 rw[Dm L.nodup RZ];intro v;rw[Bc,Ai]
 constructor
 ·rintro ⟨p,hp,rfl⟩;exact L.lt _ _ (gN.mp hp).2
 ·intro h;obtain⟨j,hj⟩:=L.has v h;have aV:j < m:=by
   rw[<- L.size]
   rcases Dr j owner.size with h | h
   ·exact h
   ·rw[El h]at hj;cases hj
  exact⟨(j,v),gN.mpr ⟨aV,hj⟩,rfl⟩
def Lies.length{m k:Nat}{owner:kj}(L:Lies m owner k):(live m owner).length=k:=by
 have:=L.perm.length_eq;rwa[Aa,Cy]at this
theorem Lies.room{k:Nat}(L:Lies m owner k)(h:k < m):∃ j,j < m/\nil? owner j=true:=by
 refine GK λhn=>?_;have all:∀ j,j < m->∃ v,owner.getD j none=some v:=by
  intro j hj;have hs:j < owner.size:=by rwa[L.size]
  cases hv:owner[j] with
  | none=>exact absurd ⟨j,hj,nil?_iff.mpr<|by rw[Ds hs,hv]⟩ hn
  | some v=>exact⟨v,getD_some.mpr<|by rw[Ds hs,hv]⟩
 have len:∀ l:List Nat,(∀ j∈l,j < m)->(l.filterMap λj=>(owner.getD j none).map (j,·)).length=l.length:=by
  intro l
  induction l with
  | nil=>intro _;rfl
  | cons a r ih=>
   intro hl;obtain⟨v,hv⟩:=all a<|hl a Ag;rw[Ej,hv];show(_ :: _).length=_;rw[As,As,ih λj hj=>hl j<|Ak _ hj]
 have e:=len (List.range m) λj hj=>Bc.mp hj;have e2:=L.length;unfold live at e2;rw[e,Cy]at e2;omega
theorem q6j(h:Int):SetTable.bits h < 2 ^ 64:=by
 unfold SetTable.bits;omega
theorem Lies.free{mask k:Nat}{owner:kj}(L:Lies (mask+1) owner k)(hm:Pow<|mask+1)(h:k < mask+1)(x:Int) :
  ∃ j,SetTable.layClean.free mask owner (SetTable.turns mask) (SetTable.bits x % (mask+1)) (SetTable.bits x)=some j/\owner[j]?=some none:=by
 cases e:SetTable.layClean.free mask owner (SetTable.turns mask) (SetTable.bits x % (mask+1)) (SetTable.bits x) with
 | some j=>exact⟨j,rfl,nil?_iff.mp<|Q0 e⟩
 | none=>
  obtain⟨j,hj,q⟩:=L.room h;have:=QY e j<|q0s hm (Gw _<|Gd _) (q6j x) hj;rw[q]at this;cases this
def zu(mask:Nat)(acc:Option<|kj×Nat)(h:Int):Option (kj×Nat):=do
 let (owner,k) <- acc
 let j <- SetTable.layClean.free mask owner (SetTable.turns mask) (SetTable.bits h % (mask+1))<|SetTable.bits h
 pure (owner.setIfInBounds j<|some k,k+1)
theorem Q2{mask:Nat}(hm:Pow<|mask+1):∀(hs:List Int) (owner:kj) (k:Nat),Lies (mask+1) owner k->k+hs.length < mask+1+1 ->
  ∃ km,hs.foldl (zu mask) (some (owner,k))=some (km,k+hs.length)/\Lies (mask+1) km (k+hs.length)
 | [],owner,k,L,_=>⟨owner,rfl,L⟩
 | h :: r,owner,k,L,hk=>by
  rw[As]at hk ⊢;obtain⟨j,e,hj⟩:=L.free hm ⋯ h;obtain⟨o',e',L'⟩:=Q2 hm r _ (k+1) (L.put hj) ⋯;refine⟨o',?_,?_⟩
  ·rw[Dp,show zu mask (some (owner,k)) h=some (owner.setIfInBounds j<|some k,k+1) by unfold zu;simp[e],e']
   congr 2
   omega
  ·rw[show k+(r.length+1)=k+1+r.length by omega];exact L'
def k3e(hm:Pow<|mask+1)(hs:Array Int)(hl:hs.size < mask+1+1):∃ owner,SetTable.layClean mask hs=some owner/\Lies (mask+1) owner hs.size:=by
 obtain⟨o',e,L⟩:=Q2 hm hs.toList _ 0 (Lies.start<|mask+1) (by simpa using hl);refine⟨o',?_,by simpa using L⟩;have e2:SetTable.layClean mask hs=(hs.foldl (zu mask)<|some (Array.replicate (mask+1) none,0)).map (·.1):=rfl;rw[e2,<- Array.foldl_toList,e];rfl
theorem Q3{finger moves:Nat}{led plain:Bool}(hm:Pow<|mask+1)(hs:Array Int)(hl:hs.size<=mask) :
  ∃ t order,SetTable.laid mask finger moves led plain hs=some (t,order)/\order.toList.Perm (List.range hs.size)/\t.fits hs.size=true/\t.led=led/\t.plain=plain/\t.mask=mask/\t.dummies=#[]/\t.place.size=hs.size:=by
 obtain⟨o,e,L⟩:=k3e hm hs ⋯;have hp:((live (mask+1) o).map (·.1)).toArray.size=hs.size:=by
  rw[Aw,Aa,L.length]
 refine⟨_,_,by unfold SetTable.laid;rw[e];rfl,?_,?_,rfl,rfl,rfl,rfl,hp⟩
 ·show((live (mask+1) o).map (·.2)).Perm _;exact L.perm
 ·unfold SetTable.fits SetTable.fill;show(((live (mask+1) o).map (·.1)).toArray.size == hs.size && decide (((live (mask+1) o).map (·.1)).toArray.size+0<=mask))=true;rw[hp];simp only[OJ,Gz,WK,DN];exact hl
def cR(w:World):Bool:=w.params.followText "set-order"
def keyOf(e:Int×Value):Str:=match e.2 with
 | .str x _=>x
 | _=>⟨#[]⟩
section
variable(U:Program)(w:World)
def oQ(e:Int×Value):Prop:=∃ z t,e=((strKind U w).hash z,Value.str z t)
structure Tab(es:Array<|Int×Value)(t:SetTable)(zs:Ñ):Prop where
 elts:∀ e∈es.toList,oQ U w e
 keys:(es.toList.map keyOf).Perm zs
 nodup:zs.Nodup
 few:zs.length < 1000
 fits:t.fits es.size=true
 led:t.led = !cR w
 plain:es=#[]\/t.plain=false
def aA(h:Heap)(a:Addr)(zs:Ñ):Prop:=∃ o es ep t,h.get? a=some o/\o.ExactSet/\o.data = .set es ep t/\Tab U w es t zs
end
variable{a:Addr}{h:Heap}{zs i4:Ñ}{es gk:Array (Int×Value)}{w:World}{U:Program}{t':SetTable}{s:Shared}{ep:Nat}{o:Obj}{e:Int×Value}{z:Str}
section
variable{t:SetTable}{h':Heap}
def Tab.elems(T:Tab U w es t zs):ElemsOf (strKind U w) es.toList:=λe he=>by
 obtain⟨z,u,rfl⟩:=T.elts e he;exact⟨⟨z,QC _ _ _ _,rfl⟩,rfl⟩
def Tab.size(T:Tab U w es t zs):es.size=zs.length:=by
 have:=T.keys.length_eq;rwa[Aa,Bv]at this
def Tab.fS(T:Tab U w es t zs):es.size < 1000:=by rw[T.size];exact T.few
theorem Tab.scan(T:Tab U w es t zs):es.size < scanBound:=by have:=T.fS;unfold scanBound;omega
def Tab.perm(T:Tab U w es t zs)(p:gk.toList.Perm es.toList)(hf:t'.fits gk.size=true)(hl:t'.led=t.led)(hp:gk=#[]\/t'.plain=false):Tab U w gk t' zs:=
 ⟨λe he=>T.elts e<|p.mem_iff.mp he,(p.map keyOf).trans T.keys,T.nodup,T.few,hf,hl.trans T.led,hp⟩
def aA.keep(S:aA U w h a zs)(k:∀ o,h.get? a=some o->h'.get? a=some o):aA U w h' a zs:=let ⟨o,es,ep,t,h1,h2⟩:=S;⟨o,es,ep,t,k o h1,h2⟩
def aA.typeIs(S:aA U w s.heap a zs):s.TypeIs (.ref a) "set":=let ⟨o,_,_,_,h1,h2,_⟩:=S;⟨o,h1,h2.1⟩
def aA.lt(S:aA U w h a zs):a < h.objs.size:=let ⟨_,_,_,_,h1,_⟩:=S;Ap h1
def aA.few(S:aA U w h a zs):zs.length < 1000:=let ⟨_,_,_,_,_,_,_,T⟩:=S;T.few
def aA.nodup(S:aA U w h a zs):zs.Nodup:=let ⟨_,_,_,_,_,_,_,T⟩:=S;T.nodup
def qk(ho:h.get? a=some o)(hx:o.ExactSet)(hd:o.data = .set es ep t)(T':Tab U w gk t' i4) :
  (h.update a<|Obj.putSet gk t').get? a=some {o with data:= .set gk (ep+1) t'}/\aA U w (h.update a<|Obj.putSet gk t') a i4:=by
 have q:=Da (Obj.putSet gk t') ho (by rw[putSet_of gk t' hd];rfl);rw[putSet_of gk t' hd]at q;exact⟨q,_,gk,ep+1,t',q,hx,rfl,T'⟩
def Hr(he:oQ U w e)(z:Str):(strKind U w).is z e.2=decide (z=keyOf e):=by
 obtain⟨y,u,rfl⟩:=he;exact KeyKind.is_eq_decide (QC U w y u) z
def find_none(T:Tab U w es t zs)(hz:z∉zs):es.toList.findIdx? (λe=>(strKind U w).is z e.2)=none:=by
 rw[List.findIdx?_eq_none_iff];intro e he;rw[Hr<|T.elts e he,JL];rintro rfl;exact hz<|T.keys.mem_iff.mp<|List.mem_map_of_mem he
theorem find_some(T:Tab U w es t zs)(hz:z∈zs):∃ j,∃ hj:j < es.toList.length,es.toList.findIdx? (λe=>(strKind U w).is z e.2)=some j/\keyOf es.toList[j]=z:=by
 obtain⟨e,he,e2⟩:=Ai.mp<|T.keys.mem_iff.mpr hz;cases q:es.toList.findIdx? (λe=>(strKind U w).is z e.2) with
 | none=>
  have:=List.findIdx?_eq_none_iff.mp q e he;rw[Hr<|T.elts e he,JL]at this;exact absurd e2.symm this
 | some j=>
  obtain⟨hj,p,_⟩:=List.findIdx?_eq_some_iff_getElem.mp q;rw[Hr<|T.elts _<|Bp hj,DN]at p;exact⟨j,hj,rfl,p.symm⟩
def q2y(t:SetTable)(n:Nat):(t.orStandIn n).led=t.led/\((t.orStandIn n).plain=true->t.plain=true):=by
 unfold SetTable.orStandIn
 split
 ·exact⟨rfl,id⟩
 ·exact⟨rfl,λh=>by cases h⟩
def k5z(t:SetTable)(es:Array<|Int×Value)(x:Int)(v:Value):(layNew t es x v).2.1.led=t.led:=by
 unfold layNew
 split
 ·exact(q2y _ _).1
 ·rfl
theorem q1r{f:Nat}{l p:Bool}{hs:Array Int}{o:Array Nat}(e:SetTable.laid mask f m l p hs=some (t',o)):t'.led=l/\t'.plain=p:=by
 unfold SetTable.laid at e;cases c:SetTable.layClean mask hs with
 | none=>rw[c]at e;cases e
 | some ow=>rw[c]at e;cases e;exact⟨rfl,rfl⟩
def Q4(t:SetTable)(es:Array<|Int×Value)(n:Nat)(hp:t.plain=false):(relayAll t es n).2.1.led=t.led/\(relayAll t es n).2.1.plain=false:=by
 unfold relayAll
 split
 ·rename_i t' o e;have q:=q1r e
  dsimp only
  split
  ·exact⟨q.1,q.2.trans hp⟩
  ·exact⟨rfl,rfl⟩
 ·exact⟨rfl,rfl⟩
end
variable{E:Î}{A:Around}{n:Nat}{R:Option Bool->Shared->Prop}{t2:SetTable}{gA:Array (Int×Value)}{tk:Tok}{src:Source}{zf:Ñ}
section
theorem ko(h:n < 1001):n<=sizeLine:=by rw[FJ];omega
theorem Q5{g:Bool->Sem Unit}(hg:∀(b:Bool) (À:Shared) (Q':Unit->Shared->Prop),Q' () À->wpAny (model U w) A (g b) Q' E À)
     {t:SetTable} (ho:s.heap.get? a=some o) (hx:o.ExactSet) (hd:o.data = .set es ep t)
    (T:Tab U w gA t2 zs) (hp:t2.plain=false) {c:Bool} 
  (k:∀ h',Heap.SameBut a s.heap h'->aA U w h' a zs->R (some true) {s with heap:=h'}) :
  wpAny (model U w) A (do
   storeSet a gA t2
   if c=true then do
     g (relayAll t2 gA<|SetTable.grown gA.size).2.2
     storeSet a (relayAll t2 gA<|SetTable.grown gA.size).1 (relayAll t2 gA<|SetTable.grown gA.size).2.1
     pure (some true)
    else pure (some true)) R E s:=by
 refine BJ<|HX ho hd ?_<|ko<|Bt T.fS;obtain⟨q1,q2⟩:=qk ho hx hd T;have sb:=CQ s.heap a<|Obj.putSet gA t2;cases c with
 | false=>exact BL<|k _ sb q2
 | true=>
  have p:=relayAll_perm t2 gA<|SetTable.grown gA.size;have T3:=T.perm p (relayAll_fits t2 gA<|SetTable.grown gA.size) (Q4 t2 gA _ hp).1<|.inr (Q4 t2 gA _ hp).2;refine BJ<|hg _ _ _<|BJ<|HX q1 rfl ?_ (ko<|Bt T3.fS);exact BL<|k _ (sb.trans<|CQ _ a _) (qk q1 hx rfl T3).2
def added(zs:Ñ)(z:Str):Ñ:=if z∈zs then zs else zs++[z]
def Hs{Q:Bool->Shared->Prop}(S:aA U w s.heap a zs)(hb:zs.length+1 < 1000)
  (k:∀b h',Heap.SameBut a s.heap h'->aA U w h' a (added zs z)->Q b {s with heap:=h'}) :
  wpAny (model U w) A (setAddHashed a (.str z tk)<|(strKind U w).hash z) Q E s:=by
 obtain⟨o,es,ep,t,ho,hx,hd,T⟩:=S;unfold setAddHashed setAddHashedIn;refine CJ<|BJ<|CN ho hd T.fits ?_
 dsimp only
 rw[byScan_of rfl T.scan T.elems];simp only[↓reduceIte];unfold setAddByScan;refine BJ<|BJ<|GX<|BJ<|wpAny_setScan_of (QC _ _ _ _) ho hd T.fits T.elems ?_
 by_cases hz:z∈zs
 ·obtain⟨j,hj,e,_⟩:=find_some T hz;rw[e]
  dsimp only
  refine BL<|BL<|k false s.heap (Heap.SameBut.refl a s.heap) ?_;unfold added;rw[BP hz];exact⟨o,es,ep,t,ho,hx,hd,T⟩
 ·rw[find_none T hz]
  dsimp only
  have gw:∀(b:Bool) (À:Shared) (Q':Unit->Shared->Prop),Q' () À->wpAny (model U w) A (match b with | true=>rule "set.scan.the-table-gave-way" | false=>pure ()) Q' E À:=
   λb À Q' q=>by cases b <;> first | exact BL q | exact GX q
  have p:=layNew_perm t es ((strKind U w).hash z)<|.str z tk;have f:=layNew_fits t es ((strKind U w).hash z)<|.str z tk;have l:=k5z t es ((strKind U w).hash z)<|.str z tk;generalize layNew t es ((strKind U w).hash z) (.str z tk)=L at p f l ⊢;obtain⟨gA,t1,wd,gv⟩:=L
  dsimp only at p f l ⊢
  rw[Array.toList_push]at p;have tab:∀ t2:SetTable,t2.fits gA.size=true->t2.led=t1.led->t2.plain=false->Tab U w gA t2 (zs++[z]):=λt2 h1 h2 h3=>{
   elts:=λe he=>by
    rcases An.mp (p.mem_iff.mp he)with he | he
    ·exact T.elts e he
    ·exact⟨z,tk,Af.mp he⟩
   keys:=by
    refine(p.map keyOf).trans ?_;rw[Aj];exact T.keys.append<|List.Perm.refl _
   nodup:=by
    rw[Cj];refine⟨T.nodup,by simp,λx hx y hy e=>?_⟩;rw[Af]at hy;subst hy e;exact hz hx
   few:=by rwa[Ad]
   fits:=h1
   led:=h2.trans<|l.trans T.led
   plain:= .inr h3}
  have fin:=λh' q1 q2=>k true h' q1 (by unfold added;rwa[BK hz]);refine BJ<|gw _ _ _ ?_
  split
  ·rename_i hp;refine BJ ?_;rw[hashByValue_scannable 8 rfl];refine BL<|Q5 gw ho hx hd (tab {t1 with plain:=false} (SetTable.fits_plain_off f) rfl rfl) rfl λh' q1 q2=>?_
   dsimp only
   exact BL<|fin h' q1 q2
  ·rename_i hp;refine BJ<|BL ?_;simp only[↓reduceIte];refine Q5 gw ho hx hd (tab t1 f rfl (Dk.mpr hp)) (Dk.mpr hp) λh' q1 q2=>?_
   dsimp only
   exact BL<|fin h' q1 q2
def Q6{Q:Option Nat->Shared->Prop}{t:SetTable}(ho:s.heap.get? a=some o)(hd:o.data = .set es ep t)(T:Tab U w es t zs)
  (k0:z∉zs->Q none s) (k1:∀ j,(hj:j < es.toList.length)->keyOf es.toList[j]=z->Q (some j) s):wpAny (model U w) A (setFind a (.str z tk)<|(strKind U w).hash z) Q E s:=by
 unfold setFind setFindIn;refine BJ<|CN ho hd T.fits ?_
 dsimp only
 rw[byScan_of rfl T.scan T.elems];simp only[↓reduceIte];refine BJ<|GX<|BJ<|wpAny_setScan_of (QC _ _ _ _) ho hd T.fits T.elems ?_
 by_cases hz:z∈zs
 ·obtain⟨j,hj,e,q⟩:=find_some T hz;rw[e]
  dsimp only
  rw[Fe];exact BL<|k1 j hj q
 ·rw[find_none T hz];exact BL<|k0 hz
def zv{α:Type}(xs:Array α)(i:Nat):(SetTable.eraseAt xs i).toList=xs.toList.eraseIdx i:=by
 unfold SetTable.eraseAt;rw[Array.toList_append,Array.toList_extract,Array.toList_extract,List.eraseIdx_eq_take_drop_succ];simp[List.extract_eq_drop_take];exact Ck<|by simp
theorem bM{α:Type}:∀(l:List α) (j:Nat) (hj:j < l.length),(l[j] :: l.eraseIdx j).Perm l
 | [],_,h=>by simp at h
 | x :: r,0,_=>List.Perm.refl _
 | x :: r,j+1,h=>(List.Perm.swap x _ _).trans<|(bM r j<|Nat.lt_of_succ_lt_succ h).cons x
theorem k6w{t:SetTable}(h:t.fits n=true)(hi:i < n):(t.drop i).fits (n - 1)=true/\(t.drop i).led=t.led/\(t.drop i).plain=t.plain:=by
 unfold SetTable.fits at h;rw[Bq,JD,DN]at h;have mL:i < t.place.size:=by rwa[h.1]
 unfold SetTable.drop;rw[Ds mL]
 dsimp only
 refine⟨?_,rfl,rfl⟩;have e1:(SetTable.eraseAt t.place i).size=n - 1:=by
  rw[<- Bv,zv,Dg,Bv,BP mL,h.1]
 have e2:=λj=>by
  have:=(SetTable.insertAt_perm t.dummies (SetTable.below t.dummies j) j).length_eq
  simpa using this
 have h2:=h.2;unfold SetTable.fill at h2;unfold SetTable.fits SetTable.fill
 dsimp only
 rw[e1,e2];simp only[OJ,Gz,DN];omega
def k5l{Q:Bool->Shared->Prop}(S:aA U w s.heap a zs)
  (k0:z∉zs->Q false s) (k1:∀ h',z∈zs->Heap.SameBut a s.heap h'->aA U w h' a (zs.erase z)->Q true {s with heap:=h'}) :
  wpAny (model U w) A (setDiscardHashed a (.str z tk)<|(strKind U w).hash z) Q E s:=by
 obtain⟨o,es,ep,t,ho,hx,hd,T⟩:=S;unfold setDiscardHashed;refine BJ<|Q6 ho hd T (λhz=>?_) λj hj e=>?_
 ·exact BL<|k0 hz
 ·dsimp only
  have kq:j < es.size:=by simpa using hj
  have hz:=T.keys.mem_iff.mp<|Ai.mpr ⟨_,Bp hj,e⟩;obtain⟨f1,f2,f3⟩:=k6w T.fits kq;have pz:(keyOf es.toList[j] :: (es.toList.eraseIdx j).map keyOf).Perm zs:=by
   refine List.Perm.trans ?_ T.keys;rw[<- Bn];exact(bM _ j hj).map keyOf
  rw[e]at pz;have T':Tab U w (SetTable.eraseAt es j) (t.drop j) (zs.erase z):={
   elts:=λx hx=>by
    rw[zv]at hx;exact T.elts x<|Fa hx
   keys:=by
    rw[zv];refine List.Perm.cons_inv<|pz.trans ?_;exact List.perm_cons_erase hz
   nodup:=T.nodup.erase z
   few:=QZ (List.length_erase_le) T.few
   fits:=by
    have:(SetTable.eraseAt es j).size=es.size - 1:=by
     rw[<- Bv,zv,Dg,Bv,BP kq]
    rwa[this]
   led:=f2.trans T.led
   plain:=by
    rcases T.plain with q | q
    ·subst q;simp at kq
    ·exact .inr (f3.trans q)}
  refine BJ<|CN ho hd T.fits ?_
  dsimp only
  refine BJ<|HX ho hd ?_<|ko<|Bt T'.fS;refine BJ<|wpAny_point<|BL<|k1 _ hz (CQ _ a _) (qk ho hx hd T').2
theorem Q7{α:Type}(next:Nat->Nat):∀(fuel k:Nat) (left:List α) (out:Array α),left.length<=fuel->(pickOrder.go next fuel k left out).toList.Perm (out.toList++left)
 | 0,k,left,out,h=>by
  have:left=[]:=Cd.mp ⋯;subst this;unfold pickOrder.go;simp
 | fuel+1,k,left,out,h=>by
  unfold pickOrder.go;cases e:left[next k % left.length]? with
  | none=>
   have:left=[]:=by
    cases left with
    | nil=>rfl
    | cons x r=>
     have hl:next k % (x :: r).length < (x :: r).length:=Gw _ (by simp);rw[Ab hl]at e;cases e
   subst this;simp
  | some x=>
   dsimp only
   obtain⟨hl,e2⟩:=Ac.mp e;refine(Q7 next fuel (k+1) _ _ (by rw[Dg,BP hl];omega)).trans ?_;rw[Array.toList_push,Au];refine PB _ ?_;have:=bM left _ hl;rwa[e2]at this
def Q8{α:Type}(next:Nat->Nat)(xs:Array α):(pickOrder next xs).toList.Perm xs.toList:=by
 have:=Q7 next xs.size 0 xs.toList #[] (by simp)
 simpa[pickOrder]using this
def wp_choose{Q:Nat->Shared->Prop}(hn:n≠0)(h:∀ i d,i < n->Q i {s with drawn:=d}):wpAny (model U w) A (choose src n) Q E s:=
 λΓ p _=>⟨hn,h _ _<|Gw _<|RB hn⟩
theorem Ht{α:Type}:∀(n:Nat) (xs:List α) (s:Shared) (Q:List α->Shared->Prop),xs.length<=n->(∀ ys d,ys.Perm xs->Q ys {s with drawn:=d})->wpAny (model U w) A (drawOrder n xs) Q E s
 | 0,xs,s,Q,h,k=>by
  have:xs=[]:=Cd.mp ⋯;subst this;unfold drawOrder;exact BL<|k [] s.drawn<|List.Perm.refl _
 | n+1,[],s,Q,h,k=>by
  unfold drawOrder;exact BL<|k [] s.drawn<|List.Perm.refl _
 | n+1,x :: r,s,Q,h,k=>by
  unfold drawOrder;refine BJ (wp_choose (by simp) λi d hi=>?_);rw[Ab hi]
  dsimp only
  refine BJ (Ht n _ _ _ (by rw[Dg,BP hi];omega) λys d2 p=>?_);exact BL<|k _ d2<|(p.cons _).trans<|bM _ i hi
def wp_text{Q:Bool->Shared->Prop}(k:Q (cR w) s):wpAny (model U w) A setsByText Q E s:=by
 unfold setsByText;exact BJ<|KD<|BL k
variable{t:SetTable}
theorem k6m{Q:Array (Int×Value)->Shared->Prop}(ho:s.heap.get? a=some o)(hd:o.data = .set es ep t)(T:Tab U w es t zs)
  (k:∀ ws d,ws.toList.Perm es.toList->Q ws {s with drawn:=d}):wpAny (model U w) A (setWalk a) Q E s:=by
 unfold setWalk;refine BJ<|CN ho hd T.fits ?_
 dsimp only
 refine BJ<|wp_text ?_;cases hb:cR w with
 | true=>
  simp only[DP];exact BJ<|KD<|BL<|k _ s.drawn<|Q8 _ _
 | false=>
  simp only[Bb,CV];show wpAny _ _ (if(!t.plain && decide (es.size > 1))=true then _ else _) _ _ _
  split
  ·refine BJ (Ht _ _ _ _ (by simp) λys d p=>?_);exact BL<|k _ d<|by simpa using p
  ·refine BJ ?_;show wpAny _ _ (if(!t.led && decide (es.size > 1))=true then _ else _) _ _ _;rw[BK<|by rw[T.led,hb];simp];exact BL<|BL<|k _ s.drawn<|List.Perm.refl _
def q1e{Q:Bool->Shared->Prop}(l:List Addr)(hl:∀ b∈l,∃ ys,aA U w s.heap b ys)(k:Q true s):wpAny (model U w) A (setsQuiet l) Q E s:=by
 unfold setsQuiet;refine BJ<|wpAny_forIn_list _ (λrest b s'=>b.1=none/\s'=s/\∀ c∈rest,∃ ys,aA U w s.heap c ys) _ ?_ ?_ l _ ⟨rfl,rfl,hl⟩
 ·rintro x rest b s' ⟨hb,rfl,hr⟩;obtain⟨ys,o,es,ep,t,ho,hx,hd,T⟩:=hr x Ag;refine BJ<|KN ho hd T.fits<|BJ<|RD _ (λrest b qb=>b.1=none/\qb=s'/\∀ e∈rest,oQ U w e) _ ?_ ?_ es _ ⟨rfl,rfl,T.elts⟩
  ·rintro e r2 b2 s2 ⟨jt,rfl,he⟩;obtain⟨z,u,rfl⟩:=he _ Ag;exact BL ⟨rfl,rfl,λe h=>he e<|Ak _ h⟩
  ·rintro ⟨_,_⟩ s2 ⟨rfl,rfl,_⟩;exact BL ⟨rfl,rfl,λc h=>hr c<|Ak _ h⟩
 ·rintro ⟨_,_⟩ s' ⟨rfl,rfl,_⟩;exact BL k
def k72{f:Addr}{Q:Array (Int×Value)->Shared->Prop}(ho:s.heap.get? a=some o)(hx:o.ExactSet)(hd:o.data = .set es ep t)(T:Tab U w es t zs)(Sf:aA U w s.heap f zf)
  (k:∀ ws h' d,ws.toList.Perm es.toList->Heap.SameBut f s.heap h'->aA U w h' f zf->Q ws {s with heap:=h',drawn:=d}):wpAny (model U w) A (setWalkUnseen a [f]<|some f) Q E s:=by
 unfold setWalkUnseen;refine BJ<|CN ho hd T.fits ?_
 dsimp only
 refine BJ<|wp_text ?_
 split
 ·exact k6m ho hd T λws d p=>k ws s.heap d p (Heap.SameBut.refl _ _) Sf
 ·rename_i hn;have hb:cR w=false:=by
   cases e:cR w with
   | false=>rfl
   | true=>rw[e]at hn;simp at hn
  refine BJ<|q1e [a,f] (λb hb=>?_) ?_
  ·rcases Al.mp hb with rfl | hb
   ·exact⟨zs,o,es,ep,t,ho,hx,hd,T⟩
   ·rw[Af]at hb;subst hb;exact⟨zf,Sf⟩
  ·simp only[Eb,Bb,CV];refine BJ<|GX ?_;obtain⟨of,ef,Hu,tf,Hv,hxf,mI,Tf⟩:=id Sf;refine BJ<|CN Hv mI Tf.fits ?_
   dsimp only
   have T2:Tab U w ef {tf with led:=tf.led && t.led,plain:=tf.plain && t.plain} zf:=
    ⟨Tf.elts, Tf.keys, Tf.nodup, Tf.few, Tf.fits, by show (tf.led && t.led) = _; rw[Tf.led, T.led]; simp, by
     rcases Tf.plain with q | q
     ·exact .inl q
     ·exact .inr<|by show(tf.plain && t.plain)=false;rw[q];rfl⟩
   split
   ·refine BJ<|HX Hv mI ?_<|ko<|Bt Tf.fS;exact BL<|k es _ s.drawn (List.Perm.refl _) (CQ _ f _) (qk Hv hxf mI T2).2
   ·exact BL<|k es s.heap s.drawn (List.Perm.refl _) (Heap.SameBut.refl _ _) Sf
end
open Builtin.Frozenset
def ql(m:Nat):Bool:=m == 8 || m == 16 || m == 32 || m == 64 || m == 128
theorem q7x(h:ql m=true):Pow m:=by
 unfold ql at h;simp only[Bool.or_eq_true,JD]at h;unfold Pow;omega
def k7m:((List.range 64).all λn=>ql (SetTable.sizeAbove<|n * 2) && decide (n < SetTable.sizeAbove (n * 2)))=true:=by decide +kernel
def q2c(h:n < 64):Pow (SetTable.sizeAbove<|n * 2)/\n < SetTable.sizeAbove (n * 2):=by
 have q:=k7m;rw[De]at q;have:=q n<|Bc.mpr h;rw[Bq,DN]at this;exact⟨q7x this.1,this.2⟩
variable{order:Array Nat}
def k5t(p:order.toList.Perm<|List.range es.size):(order.filterMap (es[·]?)).toList.Perm es.toList:=by
 rw[Array.toList_filterMap];have:=p.filterMap λi=>es[i]?;rwa[filterMap_getElem?_range]at this
variable{Q:Î}{each:Sem Unit}{b:Addr}
section
structure fw(w:World)(t:SetTable):Prop where
 place:t.place=#[]
 dummies:t.dummies=#[]
 led:t.led = !cR w
 plain:t.plain=true
def fw.tab{t:SetTable}(B:fw w t):Tab U w #[] t []:=
 ⟨λe he=>by simp at he,by simp,Cn,∅,by unfold SetTable.fits SetTable.fill;rw[B.place,B.dummies];simp,B.led,.inl rfl⟩
def fw.fill{t:SetTable}(B:fw w t):t.fill=0:=by unfold SetTable.fill;rw[B.place,B.dummies];rfl
def k8b
  (k:∀ o,o.ExactSet->(∃ t,o.data = .set #[] 0 t/\fw w t/\t.mask=7)->o.isFreed=false->Q (.ref s.heap.objs.size) {s with heap:=s.heap.push o}):wpAny (model U w) A (newSet<|.type "set") Q E s:=by
 unfold newSet;refine BJ<|wp_text ?_
 dsimp only
 simp only[newObj];exact BJ<|QT<|BL<|k _ ⟨rfl,rfl,rfl⟩ ⟨_,rfl,⟨rfl,rfl,rfl,rfl⟩,rfl⟩ rfl
variable{t:SetTable}
theorem q7j{Q:Unit->Shared->Prop}(ho:s.heap.get? a=some o)(hx:o.ExactSet)(hd:o.data = .set #[] ep t)(B:fw w t)(hm:t.mask=7)(hn:n < 64)
  (k:∀ h' o' oz t',Heap.SameBut a s.heap h'->h'.get? a=some o'->o'.ExactSet->o'.data = .set #[] oz t'->fw w t'->Pow (t'.mask+1)->n<=t'.mask->Q () {s with heap:=h'}) :
  wpAny (model U w) A (setRoomFor a n) Q E s:=by
 have T:Tab U w #[] t []:=B.tab;unfold setRoomFor;refine BJ<|CN ho hd T.fits ?_
 dsimp only
 unfold SetTable.roomFor;rw[B.fill,hm]
 by_cases c:(0+n) * 5>=7 * 3
 ·rw[BP c]
  dsimp only
  have e0:(t.place.size+n) * 2=n * 2:=by rw[B.place];simp
  rw[e0];obtain⟨hp,hl⟩:=q2c hn;unfold setRelay;refine BJ<|CN ho hd T.fits ?_
  dsimp only
  have hle:SetTable.sizeAbove (n * 2)<=512:=hp.pos.2;rw[BK<|by rw[FJ];omega];have em:SetTable.sizeAbove (n * 2) - 1+1=SetTable.sizeAbove (n * 2):=⋯
  obtain⟨t',order,e,p,f,l1,l2,l3,l4,l5⟩:=Q3 (led:=t.led) (plain:=t.plain) (by rwa[em]) (#[]:Array Int) (by simp);have er:t.relaid ((#[]:Array<|Int×Value).map (·.1)) (n * 2)=some (t',order):=by
   unfold SetTable.relaid;rwa[show((#[]:Array<|Int×Value).map (·.1))=#[] by simp]
  rw[er];have eo:order=#[]:=by
   have:=p.length_eq;simp at this;exact this
  subst eo;refine BJ ?_;show wpAny _ _ (if(((#[]:Array Nat).filterMap ((#[]:Array<|Int×Value)[·]?)).size != (#[]:Array<|Int×Value).size)=true then(unsupported "internal:set-table-lost-an-element" : Sem<|Array (Int×Value)×SetTable)else pure ((#[]:Array Nat).filterMap ((#[]:Array<|Int×Value)[·]?),t')) _ _ _;rw[BK<|by simp];refine BL ?_
  dsimp only
  have ee:((#[]:Array Nat).filterMap ((#[]:Array<|Int×Value)[·]?))=#[]:=by simp
  rw[ee];have B':fw w t':=⟨by
   have:=l5
   simpa using this,l4,l1.trans B.led,l2.trans B.plain⟩
  refine HX ho hd ?_ (by simp);have q:=(qk ho hx hd<|B'.tab (U:=U)).1;exact k _ _ _ _ (CQ _ a _) q hx rfl B' (by rwa[l3,em]) (by rw[l3];omega)
 ·rw[BK c];exact BL<|k s.heap o ep t (Heap.SameBut.refl _ _) ho hx hd B (by rw[hm];exact .inl rfl)<|by rw[hm];omega
def q1t{Q:Unit->Shared->Prop}(ho:s.heap.get? a=some o)(hx:o.ExactSet)(hd:o.data = .set #[] ep t)(B:fw w t)(hm:t.mask=7)(fU:a≠b)(S:aA U w s.heap b zs)(hz:zs.length < 64)
  (k:∀ h',Heap.SameBut a s.heap h'->aA U w h' a zs->Q () {s with heap:=h'}):wpAny (model U w) A (setMerge a b each) Q E s:=by
 obtain⟨ob,eo,epb,tb,zx,hxb,cQ,Tb⟩:=S;unfold setMerge;have e1:(a == b)=false:=by simpa using fU
 rw[e1];simp only[Bb,CV];refine BJ<|CN zx cQ Tb.fits ?_
 dsimp only
 by_cases c:eo.isEmpty=true
 ·rw[BP c];have:eo=#[]:=by simpa using c
  subst this;have ez:zs=[]:=by
   have:=Tb.size;exact Cd.mp<|by simpa using this.symm
  subst ez;exact BL<|k s.heap (Heap.SameBut.refl _ _) ⟨o,#[],ep,t,ho,hx,hd,B.tab⟩
 ·rw[BK c];have hsz:eo.size < 64:=by rwa[Tb.size]
  refine BJ<|q7j ho hx hd B hm hsz λh' o' oz t' sb cW g8 pQ B' hp hl=>?_;refine BJ<|CN cW pQ (B'.tab (U:=U)).fits ?_
  dsimp only
  have ld:(t'.led && tb.led) = !cR w:=by rw[B'.led,Tb.led];simp
  have pl:tb.plain=false:=by
   rcases Tb.plain with q | q
   ·rw[q]at c;simp at c
   ·exact q
  unfold SetTable.road;rw[B'.fill];simp only[FZ,Bb,CV]
  by_cases c2:(t'.mask == tb.mask && tb.dummies.isEmpty)=true
  ·rw[BP c2]
   dsimp only
   have T2:Tab U w eo {tb with finger:=t'.finger,led:=t'.led && tb.led,moves:=t'.moves,plain:=t'.plain && tb.plain} zs:=
    ⟨Tb.elts,Tb.keys,Tb.nodup,Tb.few,Tb.fits,ld,.inr<|by show(t'.plain && tb.plain)=false;rw[pl];simp⟩
   refine HX cW pQ ?_<|ko<|Bt Tb.fS;exact k _ (sb.trans<|CQ _ a _) (qk cW g8 pQ T2).2
  ·rw[BK c2]
   dsimp only
   obtain⟨t2,order,e,p,f,l1,l2,l3,l4,l5⟩:=Q3 (plain:=t'.plain && tb.plain) hp (eo.map (·.1)) (by simpa using hl);rw[e];have p2:order.toList.Perm (List.range eo.size):=by simpa using p
   have pp:=k5t p2;have ps:(order.filterMap (eo[·]?)).size=eo.size:=by
    have:=pp.length_eq;rwa[Bv,Bv]at this
   refine BJ ?_;show wpAny _ _ (if((order.filterMap (eo[·]?)).size != eo.size)=true then _ else pure (order.filterMap (eo[·]?),t2)) _ _ _;rw[BK<|by rw[ps];simp];refine BL ?_
   dsimp only
   have T2:Tab U w (order.filterMap (eo[·]?)) t2 zs:=⟨λx hx=>Tb.elts x<|pp.mem_iff.mp hx,(pp.map keyOf).trans Tb.keys,Tb.nodup,Tb.few,by rw[ps];simpa using f,l1.trans ld,.inr<|l2.trans<|by rw[pl];simp⟩;refine HX cW pQ ?_<|ko<|Bt T2.fS;exact k _ (sb.trans<|CQ _ a _) (qk cW g8 pQ T2).2
def zy{Q:Bool->Shared->Prop}(S:aA U w s.heap a zs)(k:Q true s):wpAny (model U w) A (isAnySet<|.ref a) Q E s:=by
 unfold isAnySet;exact BJ<|KH S.typeIs sub_set_self<|BL k
def q71(S:aA U w s.heap a zs)(k:Q (.type "set") s):wpAny (model U w) A (baseOf a) Q E s:=by
 unfold baseOf;exact BJ<|KH S.typeIs sub_set_self<|BL k
def Q9{Q:Nat->Shared->Prop}(S:aA U w s.heap a zs)(k:∀ n,(∀ s':Shared,s'.heap.get? a=s.heap.get? a->∀ Q':Nat->Shared->Prop,Q' n s'->wpAny (model U w) A (setEpoch a) Q' E s')->Q n s):wpAny (model U w) A (setEpoch a) Q E s:=by
 obtain⟨o,es,ep,t,ho,hx,hd,T⟩:=S;exact MN ho hd T.fits<|k ep λs' e Q' q=>MN (e.trans ho) hd T.fits q
def q6d{id:String}(S:aA U w s.heap b zs)(hz:zs.length < 64)
  (k:∀ h',(∀ c o,s.heap.get? c=some o->h'.get? c=some o)->aA U w h' s.heap.objs.size zs->Q (.ref s.heap.objs.size) {s with heap:=h'}):wpAny (model U w) A (newFrom id (.type "set")<|.ref b) Q E s:=by
 unfold newFrom;refine BJ<|k8b λo hx ⟨t,hd,B,hm⟩ hf=>?_;have ho:(s.heap.push o).get? s.heap.objs.size=some o:=Ao _ hf;have aV:=S.lt;have S':aA U w (s.heap.push o) b zs:=S.keep λo' e=>Ae _ e;unfold addrOf;refine BJ<|BL<|BJ<|CJ ?_;unfold updateFrom;refine BJ<|zy S' ?_;simp only[DP];refine BJ<|BL ?_;unfold merge;refine BJ<|Q9 S' λn _=>?_;refine q1t ho hx hd B hm (Cw aV) S' hz λh' sb S2=>?_;refine BL<|k h' (λc u e=>?_) S2;have hc:=Bi<|Ap e;rw[sb.2 c hc];exact Ae _ e
def flipped(zs:Ñ)(z:Str):Ñ:=if z∈zs then zs.erase z else zs++[z]
def Hw(hn:zs.Nodup)(z y:Str):y∈flipped zs z↔(if y=z then y∉zs else y∈zs):=by
 unfold flipped
 by_cases c:z∈zs
 ·rw[BP c,hn.mem_erase_iff]
  by_cases e:y=z
  ·subst e;simp[c]
  ·simp[e]
 ·rw[BK c,An,Af]
  by_cases e:y=z
  ·subst e;simp[c]
  ·simp[e]
def k26(zs:Ñ)(z:Str):(flipped zs z).length<=zs.length+1:=by
 unfold flipped
 split
 ·exact Nat.le_succ_of_le<|List.length_erase_le
 ·simp
theorem Ra:∀(ps zs:Ñ),zs.Nodup->ps.Nodup->∀ y,y∈ps.foldl flipped zs↔(if y∈ps then y∉zs else y∈zs)
 | [],zs,_,_,y=>by simp
 | p :: r,zs,hn,hp,y=>by
  rw[Bk]at hp;have FH:(flipped zs p).Nodup:=by
   unfold flipped
   split
   ·exact hn.erase p
   ·rename_i c;rw[Cj];exact⟨hn,by simp,λx hx y hy e=>by rw[Af]at hy;subst hy e;exact c hx⟩
  rw[Dp,Ra r _ FH hp.2 y]
  by_cases e:y=p
  ·subst e;rw[BK hp.1,Hw hn,BP rfl,BP Ag]
  ·by_cases c:y∈r
   ·rw[BP c,BP<|Ak _ c,Hw hn,BK e]
   ·rw[BK c,BK (λh=>by rcases Al.mp h with h | h;exact e h;exact c h),Hw hn,BK e]
end
def k7o:entryFor table "set.__xor__" = some Builtin.«frozenset.__xor__»:=
 QL (id':= "frozenset.__xor__") (by kernel_rfl) rfl (by decide +kernel) (by kernel_rfl)
variable{zb:Ñ}
section
variable{r:Addr}{za zr:Ñ}
theorem k7u{nm:String}{Q:Unit->Shared->Prop}(Sa:aA U w s.heap a za)(Sr:aA U w s.heap r zr)(zA:a≠r)(hl:za.length+zr.length < 900)
  (k:∀ h' d (ws:Ñ),ws.Perm za->Heap.SameBut r s.heap h'->aA U w h' r (ws.foldl flipped zr)->Q () {s with heap:=h',drawn:=d}):wpAny (model U w) A (symmetricDifferenceUpdate nm r<|.ref a) Q E s:=by
 unfold symmetricDifferenceUpdate;have e1:(Value.ref a == Value.ref r)=false:=by
  refine Dk.mpr λh=>zA ?_;have:=eq_of_beq h;exact Value.ref.inj this
 rw[e1];simp only[Bb,CV];refine BJ<|LK Sa.typeIs ?_;rw[show(Value.type "set" == Value.type "dict")=false by decide];simp only[Bb,CV];refine BJ<|zy Sa ?_;simp only[DP];refine BJ<|BL ?_;unfold addrOf;refine BJ<|BL ?_;refine BJ<|Q9 Sa λn hn=>?_;refine CJ ?_;obtain⟨o,es,ep,t,ho,hx,hd,T⟩:=id Sa;refine BJ<|k72 ho hx hd T Sr λws h1 d1 p sb S1=>?_;have pw:(ws.toList.map keyOf).Perm za:=(p.map keyOf).trans T.keys;have el:∀ e∈ws.toList,oQ U w e:=λe he=>T.elts e<|p.mem_iff.mp he;refine BJ<|RD _ (λrest _ s'=>∃ h' zz,s'={s with heap:=h',drawn:=d1}/\Heap.SameBut r s.heap h'/\aA U w h' r zz/\zz.length+rest.length < 900/\(∀ e∈rest,oQ U w e) /\
   (rest.map keyOf).foldl flipped zz=(ws.toList.map keyOf).foldl flipped zr) _ ?_ ?_ ws _ ⟨h1,zr,rfl,sb,S1,?_,el,rfl⟩
 ·rintro e rest b s' ⟨h',zz,rfl,tE,S',oR,he,hf⟩;obtain⟨z,tk,rfl⟩:=he _ Ag;have zB:∀ e∈rest,oQ U w e:=λe h=>he e<|Ak _ h;rw[As]at oR;have Rb:∀(h2:Heap) (Q':Nat->Shared->Prop),Heap.SameBut r s.heap h2->Q' n {s with heap:=h2,drawn:=d1}->wpAny (model U w) A (setEpoch a) Q' E {s with heap:=h2,drawn:=d1}:=
   λh2 Q' q1 q2=>hn _ (q1.2 a zA) Q' q2
  have fin:∀ h2 Hx,Heap.SameBut r s.heap h2->aA U w h2 r Hx->Hx=flipped zz z->∃ h' Hy,({s with heap:=h2,drawn:=d1}:Shared)={s with heap:=h',drawn:=d1}/\Heap.SameBut r s.heap h'/\aA U w h' r Hy/\Hy.length+rest.length < 900/\(∀ e∈rest,oQ U w e) /\
    (rest.map keyOf).foldl flipped Hy=(ws.toList.map keyOf).foldl flipped zr:=by
   rintro h2 Hx q1 q2 rfl;refine⟨h2,_,rfl,q1,q2,?_,zB,hf⟩;have:=k26 zz z;omega
  dsimp only
  refine BJ<|CJ<|BJ<|k5l (s:={s with heap:=h',drawn:=d1}) S' (λhz=>?_) λh2 hz q1 q2=>?_
  ·simp only[Gx,DP];refine BJ (Hs (s:={s with heap:=h',drawn:=d1}) S' ⋯ λb h2 q1 q2=>BL ?_);unfold unchanged;refine BJ<|BJ<|Rb h2 _ (tE.trans q1) ?_;simp only[FZ,Bb,CV];refine BL<|BL<|fin h2 _ (tE.trans q1) q2 ?_;unfold added flipped;rw[BK hz,BK hz]
  ·simp only[Eb,Bb,CV];refine BL ?_;unfold unchanged;refine BJ<|BJ<|Rb h2 _ (tE.trans q1) ?_;simp only[FZ,Bb,CV];refine BL<|BL<|fin h2 _ (tE.trans q1) q2 ?_;unfold flipped;rw[BP hz]
 ·rintro b s' ⟨h',zz,rfl,tE,S',_,_,hf⟩;have zi:zz=(ws.toList.map keyOf).foldl flipped zr:=hf;subst zi;exact BL<|k h' d1 _ pw tE S'
 ·have:=pw.length_eq;rw[Aa]at this;omega
theorem q8l(Sa:aA U w s.heap a za)(Sb:aA U w s.heap b zb)(ha:za.length < 64)(hb:zb.length < 64)
  (k:∀ h' d zc,(∀ c o,s.heap.get? c=some o->h'.get? c=some o)->aA U w h' s.heap.objs.size zc->(∀ y,y∈zc↔(if y∈za then y∉zb else y∈zb))->Q (.ref s.heap.objs.size) {s with heap:=h',drawn:=d}) :
  wpAny (model U w) A (binaryOp .BitXor (.ref a)<|.ref b) Q E s:=by
 refine wpAny_binaryOp_same Sa.typeIs Sb.typeIs F.fills_set_xor F.slot_set_xor<|DQ F.slot_set_xor Sa.typeIs k7o ?_<|F.args_set_xor_2 _ _;show wpAny _ _ (slot1 "__xor__" ⟨[.ref a,.ref b],[]⟩ >>= _) _ _ _;unfold slot1 slotArgs;simp only[Gk,Eb,Bb,↓reduceIte,bind_assoc,As,Eu,FZ];refine BJ<|BL ?_
 dsimp only
 refine BJ<|BL ?_
 dsimp only
 refine BJ<|BJ<|zy Sa<|zy Sb ?_;simp only[Eb,Bb,CV];unfold addrOf;refine BJ<|BL<|BJ ?_;show wpAny _ _ (baseOf a >>= λc=>newFrom (toString "frozenset."++toString "__xor__") c (.ref b) >>= λres=>addrOf res >>= λq=>holding [res] (symmetricDifferenceUpdate (toString "frozenset."++toString "__xor__") q<|.ref a) >>= λ_=>pure res) _ _ _;refine BJ<|q71 Sa<|BJ<|q6d Sb hb λh1 k1 S1=>?_;unfold addrOf;refine BJ<|BL<|BJ<|CJ ?_;have Sa1:=Sa.keep<|k1 a;refine k7u Sa1 S1 (Bi Sa.lt) ⋯ λh2 d ws p sb S2=>?_;refine BL<|BL ⟨_,rfl,by simp,k h2 d _ (λc o e=>?_) S2 λy=>?_⟩
 ·rw[sb.2 c<|Bi<|Ap e];exact k1 c o e
 ·rw[Ra ws zb Sb.nodup (p.nodup_iff.mpr Sa.nodup) y];simp only[p.mem_iff]
end
def made(zs:Ñ):Ñ:=zs.foldl added []
def Hz(zs:Ñ)(z y:Str):y∈added zs z↔y∈zs\/y=z:=by
 unfold added
 split
 ·rename_i h;exact⟨.inl,λq=>q.elim id λe=>e ▸ h⟩
 ·rw[An,Af]
def k90(zs:Ñ)(z:Str):(added zs z).length<=zs.length+1:=by
 unfold added
 split <;> simp
theorem Rc:∀(ps zs:Ñ) (y:Str),y∈ps.foldl added zs↔y∈zs\/y∈ps
 | [],zs,y=>by simp
 | p :: r,zs,y=>by
  rw[Dp,Rc r,Hz,Al]
  constructor
  ·rintro ((h | h) | h)
   ·exact .inl h
   ·exact .inr<|.inl h
   ·exact .inr<|.inr h
  ·rintro (h | h | h)
   ·exact .inl<|.inl h
   ·exact .inl<|.inr h
   ·exact .inr h
theorem Rf:∀(ps zs:Ñ),(ps.foldl added zs).length<=zs.length+ps.length
 | [],zs=>by simp
 | p :: r,zs=>by
  rw[Dp,As];have h1:=Rf r<|added zs p;have h2:=k90 zs p;omega
def q2g(zs:Ñ)(y:Str):y∈made zs↔y∈zs:=by
 unfold made;rw[Rc];simp
def HM(zs:Ñ):(made zs).length<=zs.length:=by
 have:=Rf zs []
 simpa[made]using this
variable{P:Nat->Value->Prop}{G:Array GenState->Array GenState->Prop}{items:Array Value}
section
def gO(w:World):Obj:={cls:= .type "set",dict:=none,data:= .set #[] 0 (.fresh 0 0 (!cR w))}
def HZ(e:h.get? a=some (gO w)):aA U w h a []:=⟨_,_,_,_,e,⟨rfl,rfl,rfl⟩,rfl,fw.tab ⟨rfl,rfl,rfl,rfl⟩⟩
def k9l(v:Value)(k:Q (.ref s.heap.objs.size) {s with heap:=s.heap.push (gO w)}) :
  codeAny (model U w) A (.call (.builtin "set.__new__") ⟨[.type "set",v],[]⟩) (wants Q E) s:=by
 refine KR ?_;show wpAny _ A.in1 (checkBuiltinCall "set.__new__" ⟨[.type "set",v],[]⟩ >>= λ_=>again<|.builtin "set.__new__" ⟨[.type "set",v],[]⟩) _ _ s;refine BJ<|JG (F.newCall_set_1 v)<|BL ⟨JN F.plain_set_new _,FQ F.entry_set_new ?_⟩;rw[FN F.plain_set_new _];unfold Builtin.«set.__new__» newClass
 dsimp only
 refine BJ<|BJ<|JG (show isType (.type "set")=pure true from rfl)<|BL ?_;simp only[Eb,Bb,CV];unfold newSet;refine BJ<|BJ<|wp_text ?_
 dsimp only
 simp only[newObj];exact BJ<|QT<|BL<|BL k
variable{R:Result->Shared->Prop}{I:Addr}{fp wr:List Addr}{St:Nat->Shared->Prop}
theorem k0y(W:WalksS U w A.in1 I fp wr G n P St)(a:Addr)(ha:a∉fp)(zs:Ñ)(hn:zs.length=n)(qm:∀ i v,P i v->∃ z t,zs[i]?=some z/\v=Value.str z t)(hb:n < 900) :
  ∀k i s,n - i=k->i<=n->St i s->aA U w s.heap a (made<|zs.take i)->(∀ s',Moved (a :: wr) G s s'->aA U w s'.heap a (made zs)->R (.ok<|.ret .none) s') ->
   codeAny (model U w) A (.builtin "set.update.loop" ⟨[.ref a,.ref I],[]⟩) R s:=by
 have Rg:=λh=>ha<|W.sub _ h;have mU:∀ b∈wr,b∈a :: wr:=λb hb=>Ak _ hb;intro k
 induction k with
 | zero=>
  intro i s hk hi st S k2;have e:i=n:=⋯
  subst e;refine FQ LQ ?_;rw[FN IW _];show wpAny _ A.in1 (pyNext (.ref I) >>= _) _ _ s;refine BJ<|W.done s _ _ st λs' m=>?_;show wpAny _ A.in1 (ret Value.none) _ _ s';rw[Ck<|⋯]at S;exact BL<|k2 s' (m.mono mU)<|S.keep λo e=>m.heap a o Rg e
 | succ k ih=>
  intro i s hk hi st S k2;have aV:i < n:=⋯
  refine FQ LQ ?_;rw[FN IW _];show wpAny _ A.in1 (pyNext (.ref I) >>= _) _ _ s;refine BJ<|W.item i s _ _ aV st λv s' hP dz m=>?_;obtain⟨z,t,hz,rfl⟩:=qm i v hP;have S':=S.keep λo e=>m.heap a o Rg e;show wpAny _ A.in1 (holding [Value.str z t] (setAdd a<|.str z t) >>= _) _ _ s';refine BJ<|CJ ?_;unfold setAdd;refine CJ<|BJ<|(strKind U w).pyHash (QC _ _ _ _) ?_;have hl:(made<|zs.take i).length<=i:=By (HM _) (by rw[Bh];omega);refine Hs S' ⋯ λb h' sb S2=>?_;have S3:aA U w h' a (made<|zs.take<|i+1):=by
   rw[Bx,hz];unfold made;rwa[List.foldl_append]
  refine BL ⟨JN IW _,ih (i+1) _ ⋯ aV (W.frame _ s' _ _ dz (Ef _) λc hc o e=>?_) S3 λs2 m2 S4=>?_⟩
  ·rwa[sb.2 c λh=>ha<|h ▸ hc]
  ·refine k2 s2 (Moved.trans W.gtrans ((m.mono mU).then_heap (Ef _) λc o hc e=>?_) m2) S4;rwa[sb.2 c λh=>hc<|h ▸ Ag]
theorem q07{l:Addr}(hh:A.handled=none)(hl:s.heap.IsList l items)(hi:∀(i:Nat) v,items[i]?=some v->∃ z t,zs[i]?=some z/\v=Value.str z t)(hz:zs.length=items.size)(hb:items.size < 900)
  (k:∀ h' tk,(∀ b o,s.heap.get? b=some o->h'.get? b=some o)->aA U w h' s.heap.objs.size (made zs)->Q (.ref s.heap.objs.size) {s with heap:=h',toks:=tk}):wpAny (model U w) A (call (.type "set") [.ref l]) Q E s:=by
 obtain⟨c,tl,qo⟩:=F.called_set.mro;have vE:=F.called_set.made;have mU:=F.called_set.sub;refine RT<|KR ?_;show wpAny _ _ (callAny (.type "set") _) _ _ _;refine BL ⟨Code.quiet_builtin _ (by decide +kernel),FQ F.entry_type_call ?_⟩;rw[Around.under_plain (weight_type_call_type "set" [.ref l] []) rfl];have h3:=F.typeCall_set_1<|.ref l
 repeat (any_goals (first | assumption | wp_step))
 refine JK (k9l (.ref l) (E:=E) (Q:=λv À=>v = .ref s.heap.objs.size/\À={s with heap:=s.heap.push (gO w)}) ⟨rfl,rfl⟩) λr À hr=>?_;cases r with
 | error e=>exact hr
 | ok fl=>
  cases fl with
  | ret v=>
   obtain⟨rfl,rfl⟩:=hr;have hS:(s.heap.push<|gO w).get? s.heap.objs.size=some (gO w):=Ao _ rfl;have hT:Shared.TypeIs {s with heap:=s.heap.push (gO w)} (.ref s.heap.objs.size) "set":=⟨_,hS,rfl⟩;have mV:=F.called_set.init.lookup;have Ia:=F.called_set.init.bind<|.ref s.heap.objs.size
   repeat (any_goals (first | assumption | wp_step))
   refine JK (QD (R:=wants (λr Á=>r = .none/\∃ h' tk,Á={s with heap:=h',toks:=tk}/\(∀ b o,s.heap.get? b=some o->h'.get? b=some o)/\aA U w h' s.heap.objs.size (made zs)) E) F.called_set.init.plain F.entry_set_init<|check_set_init_1 hT ?_) λr2 s2 qp=>?_
   ·obtain⟨ol,vF,jN,nl,i5⟩:=hl;obtain⟨x0B,vG,Rh,qt⟩:=ol;simp only at jN i5;subst jN i5;have Ib:(s.heap.push<|gO w).get? l=some {cls:= .type "list",dict:=vG,data:= .seq items nl,slots:=qt}:=Ae _ vF;have n1:=F.sub_list_set;have n2:=F.sub_list_frozenset;have n3:(Value.type "list" == Value.type "dict")=false:=∅
    have hV:(s.heap.push<|gO w).IsList l items:=⟨_,Ib,rfl,nl,rfl⟩;have Ic:(s.heap.push<|gO w).get? s.heap.objs.size=some {cls:= .type "set",dict:=none,data:= .set #[] 0 (.fresh 0 0 (!cR w))}:=hS;unfold Builtin.«set.__init__» noKeywords updateFrom;generalize hPI:pyIter=PI
    wp_walk
    subst hPI;refine MK hV ?_;refine BJ<|wpAny_runValue ?_;have aV:l < s.heap.objs.size:=Ap vF;have bA:l≠(s.heap.push<|gO w).objs.size:=by
     rw[Dh];exact Bi<|Bt aV
    have hSf:s.heap.objs.size∉[(s.heap.push<|gO w).objs.size,l]:=by
     rw[Dh];intro h
     rcases Al.mp h with h | h
     ·exact absurd h<|Bi<|Fd _
     ·rw[Af]at h;exact absurd h<|Cw aV
    refine k0y ((Walks.list (by simp[hh]) _ l bA items).toS) s.heap.objs.size hSf zs hz (λi v hv=>hi i v hv) hb (items.size - 0) 0 _ ⋯ (Bu _)
     ⟨⟨_,Ao _ rfl,rfl,rfl⟩,(hV.push _)⟩ ?_ λs' m S'=>?_
    ·exact HZ<|Ae _ hS
    ·obtain⟨h',g',d',zC,ER⟩:=s';have eg:g'=s.gens:=m.gens;have ed:d'=s.drawn:=m.drawn;have eo:ER=s.os:=m.os;subst eg ed eo;refine BL ?_;refine BL ⟨rfl,h',zC,rfl,λb o e=>?_,S'⟩;have hb:=Ap e;refine m.heap b o (λh=>?_)<|Ae _<|Ae _ e;rw[Dh]at h
     rcases Al.mp h with h | h
     ·exact absurd h<|Bi hb
     ·rw[Af]at h;exact absurd h<|Bi<|Bt hb
   ·cases r2 with
    | error e=>exact qp
    | ok fl2=>
     cases fl2 with
     | ret r=>
      obtain⟨rfl,h',tk,rfl,q1,q2⟩:=qp
      repeat (any_goals (first | assumption | wp_step))
      exact k _ _ q1 q2
     | _=>exact qp.elim
  | _=>exact hr.elim
end
def slot_next:Slot "set_iterator" "__next__" "set_iterator.__next__":=
 .of (owner:= "set_iterator") (n:= "__next__") (by rw[UL,PJ];kernel_rfl) (by decide +kernel) (by decide +kernel) (by decide +kernel)
  (by first | exact .inl (by decide +kernel) | exact .inr<|by decide +kernel) (by rw[isSubtype_type];kernel_rfl)
def entry_next:entryFor table "set_iterator.__next__" = some Builtin.«set_iterator.__next__»:=entryFor_of_fast<|by kernel_rfl
def args_next(a:Value):argsOk "set_iterator.__next__" ⟨[a],[]⟩:=by unfold argsOk;kernel_rfl
def k6a:entryFor table "set.__iter__" = some Builtin.«frozenset.__iter__»:=
 QL (id':= "frozenset.__iter__") (by kernel_rfl) rfl (by decide +kernel) (by kernel_rfl)
def lW(first:Value)(i:Nat)(a:Addr)(n ep:Nat):Obj:={cls:= .type "set_iterator",data:= .fields #[first,.int i 0,.ref a,.int n 0,.int ep 0]}
def fV(ys:List Nat):Obj:={cls:= .type "tuple",data:= .seq (ys.map λ(i:Nat)=>rawInt i).toArray}
inductive Way (w:World) (h:Heap) (a tp:Addr) (es:Array<|Int×Value) (ep:Nat) (t:SetTable) (ws:List<|Int×Value) (i:Nat):Value->Prop where
 | drawn (ys:List Nat) (ht:h.get? tp=some (fV ys)) (hl:ys.length=es.size) (hw:∀ j:Nat,∀ y,ys[j]?=some y->es[y]?=ws[j]?):Way w h a tp es ep t ws i<|.ref tp
 | text (c:Int) (hb:cR w=true) (hw:ws=(pickOrder (w.params.setOrder a ep) es).toList):Way w h a tp es ep t ws i<|.int c 0
 | one (c:Nat) (hb:cR w=false) (hs:es.size<=1) (hw:ws=es.toList) (hc:SetTable.below t.place c=i):Way w h a tp es ep t ws i<|.int c 0
variable{first:Value}{ws:List (Int×Value)}{p:Array Nat}
section
variable{tp it:Addr}{t:SetTable}
def Ri(j c:Nat):SetTable.below #[j] c=if j < c then 1 else 0:=by
 unfold SetTable.below;show SetTable.below.go #[j] c 1 0 1=_;unfold SetTable.below.go;simp only[Nat.zero_lt_one,DP];show(if(#[j]:Array Nat).getD 0 c < c then SetTable.below.go #[j] c 0 1 1 else SetTable.below.go #[j] c 0 0 0)=_;rw[show(#[j]:Array Nat).getD 0 c=j by rfl]
 split <;> rfl
theorem Way.keep{h':Heap}(W:Way w h a tp es ep t ws i first)(k:∀ o,h.get? tp=some o->h'.get? tp=some o):Way w h' a tp es ep t ws i first:=by
 cases W with
 | drawn ys ht hl hw=>exact .drawn ys (k _ ht) hl hw
 | text c hb hw=>exact .text c hb hw
 | one c hb hs hw hc=>exact .one c hb hs hw hc
def vH(x:Value)(e:h.get? it=some (lW first i a n ep)):(h.update it (Obj.mapFields (·.setIfInBounds 0 x))).get? it=some (lW x i a n ep):=Da _ e rfl
def up1(e:h.get? it=some (lW first i a n ep)):(h.update it (Obj.mapFields (·.setIfInBounds 1 (rawInt<|(i:Int)+1)))).get? it=some (lW first (i+1) a n ep):=Da _ e rfl
theorem Rj(h:p.size=1):∃ j,p=#[j]:=by
 obtain⟨l⟩:=p
 match l,h with
 | [j],_=>exact⟨j,rfl⟩
def Rk(T:Tab U w es t zs):t.place.size=es.size:=by
 have:=T.fits;unfold SetTable.fits at this;rw[Bq,JD]at this;exact this.1
theorem k1z{Q:Option Value->Shared->Prop}(hi:s.heap.get? it=some (lW first i a es.size ep))(ho:s.heap.get? a=some o)(hd:o.data = .set es ep t)(T:Tab U w es t zs)(hW:Way w s.heap a tp es ep t ws i first)
  (bA:tp≠it) (hp:ws.Perm es.toList)  (he:ws[i]?=some e) (k:∀ h' ku,Heap.SameBut it s.heap h'->h'.get? it=some (lW ku (i+1) a es.size ep)->Way w h' a tp es ep t ws (i+1) ku->Q (some e.2) {s with heap:=h'}) :
  wpAny (model U w) A (pyNext<|.ref it) Q E s:=by
 have hT:s.TypeIs (.ref it) "set_iterator":=⟨_,hi,rfl⟩;unfold pyNext;refine BJ<|JQ<|JM hT slot_next<|DQ slot_next hT entry_next ?_<|args_next _;unfold Builtin.«set_iterator.__next__»;refine BJ<|BL<|BJ<|QM hi rfl ?_
 dsimp only
 refine BJ<|KN ho hd T.fits ?_;rw[BK<|by simp];have Rl:∀ x,Heap.SameBut it s.heap ((s.heap.update it (Obj.mapFields (·.setIfInBounds 0 x))).update it (Obj.mapFields (·.setIfInBounds 1 (rawInt<|(i:Int)+1)))):=λx=>(CQ ..).trans<|CQ ..;have mW:i < es.size:=by
  have h1:ws.length=es.size:=by simpa using hp.length_eq
  rcases Dr i ws.length with h | h
  ·omega
  ·rw[Bd h]at he;cases he
 have Rm:Heap.SameBut it s.heap (s.heap.update it (Obj.mapFields (·.setIfInBounds 1 (rawInt<|(i:Int)+1)))):=CQ ..;cases hW with
 | drawn ys ht hl hw=>
  dsimp only
  have hy:ys[i]?=some (ys[i]'⋯):=Ab _;generalize ys[i]'⋯=y at hy;refine BJ<|wpAny_seqItems ht rfl ?_
  dsimp only
  have e1:(ys.map λ(i:Nat)=>rawInt i).toArray[(i:Int).toNat]?=some (.int y 0):=by
   rw[Bm,VH,Ah,hy];rfl
  rw[e1]
  dsimp only
  unfold setNextDrawn;refine BJ<|BJ<|CN ho hd T.fits ?_
  dsimp only
  rw[BK<|by simp];have e2:es[(y:Int).toNat]?=some e:=by
   rwa[Bm,hw i y hy]
  rw[e2]
  dsimp only
  refine BL (BJ<|DX hi rfl (by simp) ?_);refine BL ⟨_,rfl,BL<|k _ _ Rm (up1 hi)<|.drawn ys ?_ hl hw⟩;rwa[Rm.2 tp bA]
 | text c hb hw=>
  dsimp only
  unfold setNext;refine BJ<|BJ<|CN ho hd T.fits ?_
  dsimp only
  refine BJ<|wp_text ?_;rw[hb];simp only[DP];rw[BK<|by simp];unfold setWalk;refine BJ<|BJ<|CN ho hd T.fits ?_
  dsimp only
  refine BJ<|wp_text ?_;rw[hb];simp only[DP];refine BJ<|KD ?_;refine BL ?_;have e1:(pickOrder ((model U w).w.params.setOrder a ep) es)[(i:Int).toNat]?=some e:=by
   rw[Bm,<- Bw];show(pickOrder (w.params.setOrder a ep) es).toList[i]?=_;rwa[<- hw]
  rw[e1];refine BL ?_
  dsimp only[Option.map]
  refine BJ (DX hi rfl (by simp) ?_);refine BJ (DX (vH _ hi) rfl (by simp) ?_);exact BL ⟨_,rfl,BL<|k _ _ (Rl _) (up1<|vH _ hi)<|.text _ hb hw⟩
 | one c hb hs hw hc=>
  have hi0:i=0:=⋯
  have jO:es.size=1:=⋯
  subst hi0;have Rn:t.place.size=1:=(Rk T).trans jO;obtain⟨j,hj⟩:=Rj Rn
  dsimp only
  unfold setNext;refine BJ<|BJ<|CN ho hd T.fits ?_
  dsimp only
  refine BJ<|wp_text ?_;rw[hb];simp only[Bb,CV];show wpAny _ _ (if(!t.plain && decide (es.size > 1))=true then _ else _) _ _ _;rw[BK<|by rw[jO];simp];refine BJ ?_;show wpAny _ _ (if(!t.led && !es.isEmpty)=true then _ else _) _ _ _;rw[BK<|by rw[T.led,hb];simp];refine BL ?_;rw[Bm,hc];have e1:es[0]?=some e:=by
   rwa[<- Bw,<- hw]
  have e2:t.place[0]?=some j:=by rw[hj];rfl
  rw[e1,e2];refine BL ?_
  dsimp only
  refine BJ (DX hi rfl (by simp) ?_);refine BJ (DX (vH _ hi) rfl (by simp) ?_);refine BL ⟨_,rfl,BL<|k _ _ (Rl _) (up1<|vH _ hi)<|.one (j+1) hb hs hw ?_⟩;rw[hj,Ri,BP<|Fd _]
theorem k2g{Q:Option Value->Shared->Prop}(hh:A.handled=none)(hi:s.heap.get? it=some (lW first i a es.size ep))(ho:s.heap.get? a=some o)(hd:o.data = .set es ep t)(T:Tab U w es t zs)(hW:Way w s.heap a tp es ep t ws i first)
  (hp:ws.Perm es.toList) (he:i=es.size) (k:∀ h',Heap.ExtBut it s.heap h'->Q none {s with heap:=h'}) :
  wpAny (model U w) A (pyNext<|.ref it) Q E s:=by
 have hT:s.TypeIs (.ref it) "set_iterator":=⟨_,hi,rfl⟩;have wl:ws.length=es.size:=by simpa using hp.length_eq
 unfold pyNext;refine BJ<|JQ<|JM (name:=Str.ofString "__next__") hT slot_next<|DQ slot_next hT entry_next ?_<|args_next _;unfold Builtin.«set_iterator.__next__»;refine BJ<|BL<|BJ<|QM hi rfl ?_
 dsimp only
 refine BJ<|KN ho hd T.fits ?_;rw[BK<|by simp];have fin:∀ h2:Heap,Heap.SameBut it s.heap h2->wpAny (model U w) A.in1 (newExc (Value.type "StopIteration") [] >>= λx=>(raiseNew x:Sem Fin)) (λfin s'=>∃ v,fin=Fin.done (Flow.ret v)/\wpAny (model U w) A (pure<|some v) Q E s')
   (λe s'=>wpAny (model U w) A (isInstance e (Value.type "StopIteration") >>= λb=>if b=true then pure none else throw e) Q E s') {s with heap:=h2}:=by
  intro h2 sb;refine BJ ?_;simp only[newExc,newTuple];refine BJ (CZ ?_<|by size_fits);refine BJ (JG (by first | rfl | (simp only[firstArgMember];rfl)) ?_);refine CZ ?_ (by size_fits);simp only[raiseNew];refine BJ<|wpAny_handled ?_;rw[show A.in1.handled=none from hh];refine BJ<|BL<|wpAny_throw ?_;refine BJ<|KH ⟨_,Ao _ rfl,rfl⟩ isSubtype_stop ?_;exact BL<|k _<|(sb.extBut.push _).push _
 cases hW with
 | drawn ys ht hl hw=>
  dsimp only
  refine BJ<|wpAny_seqItems ht rfl ?_
  dsimp only
  have e1:(ys.map λ(i:Nat)=>rawInt i).toArray[(i:Int).toNat]?=none:=by
   rw[Bm,VH,Bd];rw[Aa];omega
  rw[e1]
  dsimp only
  refine BJ (DX hi rfl (by simp) ?_);refine BJ (DX (vH _ hi) rfl (by simp) ?_);exact fin _<|(CQ ..).trans<|CQ ..
 | text c hb hw=>
  dsimp only
  unfold setNext;refine BJ<|BJ<|CN ho hd T.fits ?_
  dsimp only
  refine BJ<|wp_text ?_;rw[hb];simp only[DP];rw[BK<|by simp];unfold setWalk;refine BJ<|BJ<|CN ho hd T.fits ?_
  dsimp only
  refine BJ<|wp_text ?_;rw[hb];simp only[DP];refine BJ<|KD ?_;refine BL ?_;have e1:(pickOrder ((model U w).w.params.setOrder a ep) es)[(i:Int).toNat]?=none:=by
   rw[Bm,<- Bw];show(pickOrder (w.params.setOrder a ep) es).toList[i]?=_;rw[<- hw,Bd];omega
  rw[e1];refine BL ?_
  dsimp only[Option.map]
  refine BJ (DX hi rfl (by simp) ?_);exact fin _<|CQ ..
 | one c hb hs hw hc=>
  dsimp only
  unfold setNext;refine BJ<|BJ<|CN ho hd T.fits ?_
  dsimp only
  refine BJ<|wp_text ?_;rw[hb];simp only[Bb,CV];show wpAny _ _ (if(!t.plain && decide (es.size > 1))=true then _ else _) _ _ _;rw[BK<|by rw[BR<|⋯];simp];refine BJ ?_;show wpAny _ _ (if(!t.led && !es.isEmpty)=true then _ else _) _ _ _;rw[BK<|by rw[T.led,hb];simp];refine BL ?_;rw[Bm,hc];have e1:es[i]?=none:=El ⋯;rw[e1];refine BL ?_
  dsimp only
  refine BJ (DX hi rfl (by simp) ?_);exact fin _<|CQ ..
open PySem.Spec
def Ro:Slot "set_iterator" "__iter__" "set_iterator.__iter__":=
 .of (owner:= "set_iterator") (n:= "__iter__") (by rw[UL,PJ];kernel_rfl) (by decide +kernel) (by decide +kernel) (by decide +kernel)
  (by first | exact .inl (by decide +kernel) | exact .inr<|by decide +kernel) (by rw[isSubtype_type];kernel_rfl)
def k3d:entryFor table "set_iterator.__iter__" = some Builtin.«dict_keyiterator.__iter__»:=
 QL (id':= "dict_keyiterator.__iter__") (by kernel_rfl) rfl (by decide +kernel) (by kernel_rfl)
def k6j(a:Value):argsOk "set_iterator.__iter__" ⟨[a],[]⟩:=by unfold argsOk;kernel_rfl
theorem q0v(hh:A.handled=none)(h1:a≠it)(h2:tp≠it)(hd:o.data = .set es ep t)(T:Tab U w es t zs)(hp:ws.Perm es.toList) :
  Walks U w A it [it,a,tp] [it] es.size (λi v=>∃ e,ws[i]?=some e/\v=e.2) (λi h=>∃ first,h.get? it=some (lW first i a es.size ep)/\h.get? a=some o/\Way w h a tp es ep t ws i first) where
 sub:=λb hb=>by simp at hb;simp[hb]
 frame:=λi h h' ⟨first,q1,q2,q3⟩ k=>⟨first,k it (by simp) _ q1,k a (by simp) _ q2,q3.keep<|k tp<|by simp⟩
 item:=λi s Q E hi ⟨first,q1,q2,q3⟩ k=>by
  have wl:ws.length=es.size:=by simpa using hp.length_eq
  obtain⟨e,he⟩:∃ e,ws[i]?=some e:=⟨ws[i]'⋯,Ab _⟩;refine k1z q1 q2 hd T q3 h2 hp he λh' f' sb g1 g2=>?_;exact k _ h' s.toks ⟨e,he,rfl⟩ ⟨f',g1,by rwa[sb.2 a h1],g2⟩ λb o hb e=>by rwa[sb.2 b λh=>hb<|by simp[h]]
 done:=λs Q E ⟨first,q1,q2,q3⟩ k=>k2g hh q1 q2 hd T q3 hp rfl λh' e=>k h' s.toks λb o hb e2=>e b o (λh=>hb<|by simp[h]) e2
 self:=λi s Q E ⟨first,q1,q2,q3⟩ k=>by
  have hT:s.TypeIs (.ref it) "set_iterator":=⟨_,q1,rfl⟩;refine MP hT Ro<|DQ Ro hT k3d ?_<|k6j _;show wpAny _ _ (ret<|.ref it) _ _ s;exact BL ⟨_,rfl,"set_iterator",_,hT,slot_next.lookup,k⟩
def k86(es:Array<|Int×Value):(List.range es.size).map (λy=>(es[y]?).getD (0,Value.none))=es.toList:=by
 refine SJ (by simp) λj h1 h2=>?_;rw[Dy,Ff];have:j < es.size:=by simpa using h2
 rw[Ds this];simp
theorem q62(ho:s.heap.get? a=some o)(hx:o.ExactSet)(hd:o.data = .set es ep t)(T:Tab U w es t zs)
  (k:∀ h' d it tp ws first,(∀ b u,s.heap.get? b=some u->h'.get? b=some u)->s.heap.objs.size<=it->it < h'.objs.size->tp < h'.objs.size->(tp=a\/s.heap.objs.size<=tp)->tp≠it->h'.get? it=some (lW first 0 a es.size ep)->Way w h' a tp es ep t ws 0 first->ws.Perm es.toList->Q (.ref it) {s with heap:=h',drawn:=d}) :
  wpAny (model U w) A (pyIter<|.ref a) Q E s:=by
 have hT:s.TypeIs (.ref a) "set":=⟨o,ho,hx.1⟩;have aV:a < s.heap.objs.size:=Ap ho;refine MP hT F.slot_set_iter<|DQ F.slot_set_iter hT k6a ?_<|F.args_set_iter_1 _;unfold Builtin.«frozenset.__iter__» slot0 slotArgs;simp only[Gk,Eb,Bb,↓reduceIte,bind_assoc,Eu,FZ];unfold addrOf Builtin.Frozenset.sizeOf;refine BJ<|BL<|BJ<|BL ?_;refine BJ<|BJ<|KN ho hd T.fits<|BL ?_;unfold setDrawn;refine BJ<|BJ<|CN ho hd T.fits ?_
 dsimp only
 refine BJ<|wp_text<|BL ?_
 by_cases c:(!cR w && (!t.plain && decide (es.size > 1)))=true
 ·show wpAny _ _ (if(!cR w && (!t.plain && decide (es.size > 1)))=true then _ else _) _ _ _;rw[BP c];refine BJ (Ht _ _ _ _ (by simp) λys d p=>?_);have vI:ys.length=es.size:=by simpa using p.length_eq
  refine BJ (QS ?_<|by rw[Aa,vI];exact ko<|Bt T.fS);have o1:(s.heap.push<|fV ys).get? a=some o:=Ae _ ho;refine BJ<|MN o1 hd T.fits ?_;refine BJ<|CZ<|BL ⟨_,rfl,"set_iterator",_,⟨_,Ao _ rfl,rfl⟩,slot_next.lookup,?_⟩;have jO:(s.heap.push<|fV ys).objs.size=s.heap.objs.size+1:=Dh ..;refine k _ d _ s.heap.objs.size (ys.map λy=>(es[y]?).getD (0,Value.none)) (.ref s.heap.objs.size) (λb u e=>Ae _<|Ae _ e) (by show s.heap.objs.size<=(s.heap.push<|fV ys).objs.size;omega) ?_ ?_ (.inr<|Am _) ?_ (Ao _ rfl) ?_ ?_
  ·show(s.heap.push<|fV ys).objs.size < ((s.heap.push<|fV ys).push _).objs.size;simp only[Dh];omega
  ·show s.heap.objs.size < ((s.heap.push<|fV ys).push _).objs.size;rw[Dh,jO];omega
  ·show s.heap.objs.size≠(s.heap.push<|fV ys).objs.size;omega
  ·refine .drawn ys (Ae _<|Ao _ rfl) vI λj y hy=>?_;have hm:y < es.size:=by
    have:=p.mem_iff.mp<|At hy
    simpa using this
   rw[Ah,hy];show _=some ((es[y]?).getD (0,Value.none));rw[Ds hm];rfl
  ·have:=p.map λy=>(es[y]?).getD (0,Value.none);rwa[k86]at this
 ·show wpAny _ _ (if(!cR w && (!t.plain && decide (es.size > 1)))=true then _ else _) _ _ _;rw[BK c];refine BJ<|BL ?_;refine BJ<|MN ho hd T.fits ?_;refine BJ<|CZ<|BL ⟨_,rfl,"set_iterator",_,⟨_,Ao _ rfl,rfl⟩,slot_next.lookup,?_⟩;have kk:=λws hW hp=>k (s.heap.push<|lW (.int 0 0) 0 a es.size ep) s.drawn s.heap.objs.size a ws (.int 0 0) (λb u e=>Ae _ e) (Am _) (by rw[Dh];exact Fd _) (by rw[Dh];exact Bt aV) (.inl rfl) (Bi aV) (Ao _ rfl) hW hp;cases hb:cR w with
  | true=>exact kk _ (.text 0 hb rfl)<|Q8 _ _
  | false=>
   have h1:es.size<=1:=by
    rcases T.plain with q | q
    ·rw[q];simp
    ·rw[hb,q]at c;simp at c;exact c
   refine kk es.toList (.one 0 hb h1 rfl ?_)<|List.Perm.refl _;have Rn:=Rk T
   rcases Dr es.size 1 with h | h
   ·have:t.place=#[]:=Array.eq_empty_of_size_eq_zero ⋯;rw[this];rfl
   ·obtain⟨j,hj⟩:=Rj (p:=t.place) ⋯;rw[hj,Ri,BK<|Eh _]
def q6o:typeLookup (.type "set") "__len__" = pure (some<|.builtin "set.__len__"):=F.slot_set_len.lookup
def q7s{Q:Bool->Shared->Prop}(hT:s.TypeIs (.ref a) "set")(k:Q false s):wpAny (model U w) A (Builtin.List.listLengthHint<|.ref a) Q E s:=by
 unfold Builtin.List.listLengthHint;refine BJ<|UJ hT q6o ?_
 dsimp only
 have e1:splitId "set.__len__" = some ("set","__len__"):=by kernel_rfl
 rw[e1]
 dsimp only
 refine BJ<|KH hT sub_set_self ?_;simp only[Eb,Bb,CV];rw[BP]
 ·exact BJ<|LK hT<|BL k
 ·decide +kernel
def k6o{Q:Ó->Shared->Prop}(hh:A.handled=none)(ho:s.heap.get? a=some o)(hx:o.ExactSet)(hd:o.data = .set es ep t)(T:Tab U w es t zs)
  (k:∀ s' (acc:List<|Int×Value),(∀ b u,s.heap.get? b=some u->s'.heap.get? b=some u)->s'.gens=s.gens->s'.os=s.os->s.heap.objs.size < s'.heap.objs.size->acc.Perm es.toList->Q (acc.map (·.2)) s'):wpAny (model U w) A (collect<|.ref a) Q E s:=by
 have aV:a < s.heap.objs.size:=Ap ho;unfold collect;refine BJ<|wpAny_runValue<|FQ F.entry_proto_collect ?_;rw[FN F.plain_proto_collect _];show wpAny _ A.in1 (newList [] >>= λl=>again<|.builtin "list.__iadd__" ⟨[l,.ref a],[]⟩) _ _ s;refine BJ<|KJ ?_;refine BL ⟨JN F.plain_list_iadd _,FQ F.entry_list_iadd ?_⟩;rw[FN F.plain_list_iadd _];generalize hL:s.heap.objs.size=L;have mX:(s.heap.push {cls:= .type "list",data:= .seq ([]:Ó).toArray}).get? a=some o:=Ae _ ho;have hS1:(s.heap.push {cls:= .type "list",data:= .seq ([]:Ó).toArray}).get? L=some {cls:= .type "list",data:= .seq ([]:Ó).toArray}:=by rw[<- hL];exact Ao _ rfl
 have hT:Shared.TypeIs {s with heap:=s.heap.push {cls:= .type "list",data:= .seq ([]:Ó).toArray}} (.ref a) "set":=⟨o,mX,hx.1⟩;show wpAny _ A.in1 (Builtin.List.listExtendWith (.ref L) (.ref a)<|.ref L) _ _ _;unfold Builtin.List.listExtendWith;refine BJ<|LK hT ?_;have n1:Builtin.List.listSameRef (.ref L) (.ref a)=false:=by
  have:L≠a:=by rw[<- hL];exact Cw aV
  simp[Builtin.List.listSameRef,this]
 have n2:(Value.type "set" == Value.type "list")=false:=∅
 have n3:(Value.type "set" == Value.type "tuple")=false:=∅
 simp only[n1,n2,n3,Bool.or_false,Bb,CV];refine BJ<|q62 mX hx hd T λh2 d it tp ws first qu Ie hi2 jP zD bA gi W p=>?_;have Rp:=qu a o mX;have Ic:=qu L _ hS1;have mY:(s.heap.push {cls:= .type "list",data:= .seq ([]:Ó).toArray}).objs.size=L+1:=by rw[Dh,hL]
 refine BJ<|CJ<|q7s (a:=a) (s:={s with heap:=h2,drawn:=d}) ⟨o,Rp,hx.1⟩ ?_;show wpAny _ A.in1 (rule "list.extend.makes-room" >>= λ_=>Builtin.List.listTouch (.ref L) >>= λ_=>again<|.builtin "list.extend.loop" ⟨[.ref L,.ref it,.ref L],[]⟩) _ _ _;refine BJ<|GX ?_;refine BJ ?_;show wpAny _ A.in1 (updateSeq L (·.push .none) >>= λ_=>updateSeq L (·.pop)) _ _ _;refine BJ<|wpAny_updateSeq Ic rfl ?_;have vJ:=Da (Obj.mapSeq (·.push Value.none)) Ic rfl;refine wpAny_updateSeq vJ rfl ?_;have hS4:=Da (Obj.mapSeq (·.pop)) vJ rfl;have iC:∀ b u,b≠L->h2.get? b=some u->((h2.update L (Obj.mapSeq (·.push Value.none))).update L (Obj.mapSeq (·.pop))).get? b=some u:=
  λb u hb e=>(Cb _ _<|CG hb).trans<|(Cb _ _<|CG hb).trans e
 have vK:it≠L:=by
  have iD:L+1<=it:=by rwa[<- mY]
  exact Cw iD
 have Rq:a≠L:=by rw[<- hL];exact Bi aV
 have hai:a≠it:=by
  have iD:L+1<=it:=by rwa[<- mY]
  intro e;rw[<- hL,<- e]at iD;exact absurd iD<|Nat.not_le.mpr<|Bt aV
 have Rr:tp≠L:=by
  rcases zD with h | h
  ·rwa[h]
  ·have h':L+1<=tp:=by rwa[<- mY]
   exact Cw h'
 have oO:L∉[it,a,tp]:=by
  intro h
  rcases Al.mp h with h | h
  ·exact vK h.symm
  ·rcases Al.mp h with h | h
   ·exact Rq h.symm
   ·exact Rr (Af.mp h).symm
 refine BL ⟨JN F.plain_extend_loop _,codeAny_extend_loopS ((q0v (by simp[hh]) hai bA hd T p).toS) (ko<|Bt T.fS) L oO (.ref L) es.size 0 _ _ _ rfl (Bu _) ⟨first,iC it _ vK gi,iC a _ Rq Rp,W.keep λu e=>iC tp u Rr e⟩ hS4 (ItemsOf.nil _) λs' acc c m Rt hI=>?_⟩;show wpAny _ A (load L >>= _) _ _ s';refine BJ<|wpAny_load Rt ?_;have wl:ws.length=es.size:=by simpa using p.length_eq
 have el:acc.toList=ws.map (·.2):=by
  refine Dv λj=>?_;rw[Bw,Ah];cases hj:acc[j]? with
  | none=>
   have:ws[j]?=none:=by
    rw[Bd];rw[wl,<- hI.1];exact Array.getElem?_eq_none_iff.mp hj
   rw[this];rfl
  | some v=>
   obtain⟨e,h1,h2⟩:=hI.2 j v hj;rw[h1,h2];rfl
 refine BL ?_;rw[el];refine k s' ws (λb u e=>?_) m.gens m.os (by rw[hL];exact Ap Rt) p;have hb:b < s.heap.objs.size:=Ap e;have Ru:b≠L:=by rw[<- hL];exact Bi hb
 have Ia:b≠it:=by
  intro q;have iD:L+1<=it:=by rwa[<- mY]
  rw[<- hL,<- q]at iD;exact absurd iD<|Nat.not_le.mpr<|Bt hb
 refine m.heap b u (λh=>?_)<|iC b u Ru<|qu b u<|Ae _ e
 rcases Al.mp h with h | h
 ·exact Ru h
 ·exact Ia<|Af.mp h
end
end bK
namespace bK
open PySem PySem.Spec PyProof.Rows
def q89(a b:List Nat):ltCps a b=decide (a < b):=ltCps_eq a b
theorem eQ:∀l p,risingS p l=true->∀ x∈l,p.cps.toList<=x.cps.toList
 | [],_,_,x,hx=>by cases hx
 | y :: r,p,h,x,hx=>by
  unfold risingS at h;rw[Bq,RM,q89,JL]at h;have h1:=h.1
  rcases Al.mp hx with rfl | hx
  ·exact h1
  ·exact List.le_trans h1<|eQ r y h.2 x hx
theorem fz{p:Str}:∀{l},risingS p l=true->sortedS l=true
 | [],_=>rfl
 | y :: r,h=>by
  unfold risingS at h;rw[Bq]at h;exact h.2
def fX{a b:Str}(h:a.cps.toList=b.cps.toList):a=b:=by
 cases a;cases b;simp only at h;have:=Array.toList_inj.mp h;rw[this]
theorem Rv{U:Program}{w:World}:∀(l:List<|Int×Value),(∀ e∈l,oQ U w e)->StrsAre (l.map (·.2)) (l.map keyOf)
 | [],_=> .nil
 | e :: r,h=>by
  obtain⟨z,t,rfl⟩:=h e Ag;exact .cons z t<|Rv r λx hx=>h x<|Ak _ hx
variable{zs:Ñ}{E Q:Î}{U:Program}
section
variable{w:World}{A:Around}{s:Shared}{a:Addr}
theorem k6n(hh:A.handled=none)(S:aA U w s.heap a zs)(vL:zs.length < 64)
  (k:∀s' l out e ss,(∀ b u,s.heap.get? b=some u->s'.heap.get? b=some u)->s'.gens=s.gens->s'.os=s.os->s.heap.objs.size<=l->s'.heap.get? l=some (seqObj "list" out e)->StrsAre out.toList ss->ss.Perm zs->sortedS ss=true->Q (.ref l) s') :
  wpAny (model U w) A (call (.builtin "sorted") [.ref a]) Q E s:=by
 obtain⟨o,es,ep,t,ho,hx,hd,T⟩:=S;refine Calls.call_function_entry kind_sorted plain_sorted entry_sorted (args_sorted1 _) ?_;unfold Builtin.«sorted»;refine BJ (m:=checkCount "sorted" 1 1 _)<|BL ?_;refine BJ (k6o (by simp[hh]) ho hx hd T λs1 acc kp g1 o1 z1 p=>?_);have hS:=Rv (U:=U) (w:=w) acc λe he=>T.elts e<|p.mem_iff.mp he;have hlen:(acc.map (·.2)).length=zs.length:=by
  rw[Aa,p.length_eq,Bv,T.size]
 refine BJ (KJ ?_<|by rw[hlen];exact ko<|⋯);have jI:(s1.heap.push (seqObj "list" (acc.map (·.2)).toArray 0)).get? s1.heap.objs.size=some (seqObj "list" (acc.map (·.2)).toArray 0):=Ao _ rfl;have hsz:=Bz z1;refine BJ (CJ<|DQ slot_list_sort ⟨_,jI,rfl⟩ entry_list_sort (list_sort_treeK strKind_oneLt jI hS.keysOf (λv₁ Í rest e=>keyKind_strs<|by rwa[<- e]) (by rwa[hlen]) λdz a1 a2=>⟨_,rfl,?_⟩)<|args_list_sort _);obtain⟨ss,q1,q2,q3⟩:=sorted_out_str hS a1 a2;obtain⟨e,he⟩:=sortedHeap_at jI;refine BL ⟨_,rfl,k _ _ _ e ss (λb u hb=>?_) g1 o1 hsz he q1 (q2.trans<|(p.map keyOf).trans T.keys) q3⟩;have mZ:=kp b u hb;have aV:=Ap mZ;show(sortedHeap (s1.heap.push _) s1.heap.objs.size _ _).get? b=some u;rw[sortedHeap_old (Bi aV)<|by rw[size_push'];exact Bt aV];exact Ae _ mZ
end
end bK
namespace L2
open PySem PySem.Spec PyProof.Rows bK
def bj(U:Program)(w:World)(a:Addr)(zs:Ñ):HO:= .ext λh=>aA U w h a zs
variable{zs:Ñ}{O:Ð}
section
variable{X:Cx}{σ:St}{H:Hp}{s s':Shared}{a:Addr}
def Inv.like(I:Inv X O σ H s)(e1:s'.heap=s.heap)(e2:s'.gens=s.gens)(e3:s'.os=s.os):Inv X O σ H s':=by
 obtain⟨h,g,d,t,o⟩:=s;obtain⟨h',g',d',t',o'⟩:=s';simp only at e1 e2 e3;subst e1 e2 e3;exact⟨I.ok,I.os,I.bare,I.Z,I.loc,I.cell,I.free,I.bC,I.pin,I.aF,I.len⟩
def Inv.eR{o:HO}(I:Inv X O σ H s)(k:∀ b u,s.heap.get? b=some u->s'.heap.get? b=some u)(e2:s'.gens=s.gens)(e3:s'.os=s.os)(hp:s.heap.objs.size<=a)(new:aB X.U X.w (upd H a o) s'.heap a o):Inv X O σ (upd H a o) s':=
 (I.laid (t':=s.toks) k hp new).like rfl e2 e3
def tF{h:Heap}(S:aA X.U X.w h a zs):aB X.U X.w H h a (bj X.U X.w a zs):=by
 refine⟨S,?_,λh1 h2 q k=>q.keep k⟩;obtain⟨o,_,_,_,ho,_⟩:=S;exact⟨o,ho⟩
def Inv.set(I:Inv X O σ H s)(h:H a=some (bj X.U X.w a zs)):aA X.U X.w s.heap a zs:=(I.aF a _ h).1
theorem Rw:∀{zs:Ñ} {us:Ó},az (zs.map V.str) us->∀(i:Nat) v,us[i]?=some v->∃ z t,zs[i]?=some z/\v=Value.str z t
 | [],_,.nil,i,v,h=>by simp at h
 | z :: r,_,.cons q qs,0,v,h=>by
  obtain⟨t,e⟩:=q;simp at h;exact⟨z,t,rfl,h ▸ e⟩
 | z :: r,_,.cons q qs,i+1,v,h=>by
  simp only[Gb]at h ⊢;exact Rw qs i v h
theorem Ig:∀{zs}{us},az (zs.map V.str) us->StrsAre us zs
 | [],_,.nil=> .nil
 | z :: r,_,.cons q qs=>by
  obtain⟨t,rfl⟩:=q;exact .cons z t<|Ig qs
theorem Ih:∀{us}{zs},StrsAre us zs->az (zs.map V.str) us
 | _,_,.nil=> .nil
 | _,_,.cons z t q=> .cons ⟨t,rfl⟩<|Ih q
theorem Rx(hc:X.calm=true):fE X (.type "set") (λxs H Q=>∃ p zs,xs=[.ref p]/\aj X.K H p (zs.map V.str)/\zs.length < 900/\∀ a,H a=none->Q (.ref a) (upd H a<|bj X.U X.w a<|made zs)):=by
 intro O s σ H xs us Q I r h;obtain⟨p,zs,rfl,hp,hl,q⟩:=h;obtain⟨u,rfl,ru⟩:=vals1 r;cases (show u=Value.ref p from ru);obtain⟨è,rv,pl,hz⟩:=I.list hp;have e1:=rv.length;rw[Aa]at e1;refine q07 (I.ok.hd hc) pl.isList (λi v hv=>Rw rv i v<|by simpa using hv) (by simpa using e1) (by simp;omega) λh' tk kp S=>?_;exact⟨.ref _,_,I.eR (s':={s with heap:=h',toks:=tk}) kp rfl rfl (Am _) (tF S),rfl,q _<|I.aF.fresh<|Am _⟩
def k59:cG X (binaryOp .BitXor) (λx y H Q=>∃ a b za zb,x = .ref a/\y = .ref b/\H a=some (bj X.U X.w a za)/\H b=some (bj X.U X.w b zb)/\za.length < 64/\zb.length < 64 /\
  ∀ c zc,H c=none->zc.Nodup->(∀ y,y∈zc↔(if y∈za then y∉zb else y∈zb))->Q (.ref c) (upd H c<|bj X.U X.w c zc)):=by
 intro O s σ H x y v u Q I rx ry h;obtain⟨a,b,za,zb,rfl,rfl,ha,hb,la,lb,q⟩:=h;cases rx;cases ry;refine q8l (I.set ha) (I.set hb) la lb λh' d zc kp S m=>?_;exact⟨.ref _,_,I.eR kp rfl rfl (Am _) (tF S),rfl,q _ zc (I.aF.fresh<|Am _) S.nodup m⟩
theorem Ry(hc:X.calm=true):fE X (.builtin "sorted") (λxs H Q=>∃ p zs,xs=[.ref p]/\H p=some (bj X.U X.w p zs)/\zs.length < 64/\∀ l ss,H l=none->ss.Perm zs->sortedS ss=true->Q (.ref l) (upd H l<|.lst<|ss.map V.str)):=by
 intro O s σ H xs us Q I r h;obtain⟨p,zs,rfl,hp,hl,q⟩:=h;obtain⟨u,rfl,ru⟩:=vals1 r;cases (show u=Value.ref p from ru);refine k6n (I.ok.hd hc) (I.set hp) hl λs' l out e ss kp e2 e3 Ie he hS db gP=>?_;have hlen:ss.length<=sizeLine:=by rw[db.length_eq];exact ko<|⋯
 refine⟨.ref _,_,I.eR kp e2 e3 Ie (show aB X.U X.w _ s'.heap l (.lst<|ss.map V.str) from⟨by rwa[Aa],out.toList,e,Ih hS,he⟩),rfl,q _ ss (I.aF.fresh Ie) db gP⟩
theorem vM:fE X (.builtin "sorted") (λxs H Q=>∃ p zs,xs=[.ref p]/\aj X.K H p (zs.map V.str)/\zs.length < 64/\∀ l ss,H l=none->ss.Perm zs->sortedS ss=true->Q (.ref l) (upd H l<|.lst<|ss.map V.str)):=by
 intro O s σ H xs us Q I r h;obtain⟨p,zs,rfl,hp,hl,q⟩:=h;obtain⟨u,rfl,ru⟩:=vals1 r;cases (show u=Value.ref p from ru);obtain⟨è,rv,pl,hz⟩:=I.list hp;have e1:=rv.length;rw[Aa]at e1;refine PyProof.Rows.sorted_strs pl.isList (Ig rv) ⋯ λout ss hS db gP=>?_;obtain⟨e,he⟩:=sortedAll_at s.heap è out;have hlen:ss.length<=sizeLine:=by rw[db.length_eq];exact ko<|⋯
 refine⟨.ref _,_,I.eR (λb u hb=>RK hb) rfl rfl (Ef _) (show aB X.U X.w _ _ _ (.lst<|ss.map V.str) from⟨by rwa[Aa],out.toList,e,Ih hS,he⟩),rfl,q _ ss (I.aF.fresh<|Ef _) db gP⟩
end
end L2
namespace L2
open PySem PySem.Spec PyProof.Rows
variable{Q:VK}{H:Hp}{σ:St}{X:Cx}
section
variable{o e:Expr}{ap cp:Pos}
def jQ (h:Ev X o σ H λx H1=>∃ l,x = .ref l/\(∃ xs,H1 l=some (.lst xs))/\Ev X e σ H1 λy H2=>∃ xs,H2 l=some (.lst xs)/\xs.length < sizeLine/\Q .non (upd H2 l<|.lst<|xs++[y]))
  (bO:attributeBase o "append" X.env (eval o X.env)=eval o X.env:=by rfl)
  (dB:((backTo cp<|starEach [e] X.env).all (λx=>!x.1) && (backToKw cp<|keywordEach [] X.env).all (λx=>x.1.isSome) && decide ([e].length+([]:List Keyword).length+(if([]:List Keyword).isEmpty then 0 else 1) < 30))=true:=by rfl)
  (hline:(ap.endLine == cp.line)=true:=by rfl) (hs:starEach [e] X.env=(false,eval e X.env) :: starEach [] X.env:=by rfl) (b6:(backTo cp<|starEach [] X.env).any (·.1)=false:=by rfl) (cP:isStar e=false:=by rfl) :
  Ev X (.Call (.Attribute o "append" ap) [e] [] cp) σ H Q:=by
 refine c8 (E7 DW PySem.F.slot_list_append PySem.F.type_list_append Qa bd (gL) bO dB hline hs b6)<|h.mono λx H1 ⟨l,ex,⟨xs,hl⟩,h2⟩=>?_;subst ex;refine⟨.inl ⟨rfl,xs,aj.of hl⟩,?_⟩;exact ai (h2.mono λy H2 ⟨ys,hy,hz,q⟩=>ax ⟨l,ys,y,rfl,rfl,hy,hz,q⟩) cP
end
variable{D:Ends}{mM:Õ}
section
variable{c:Expr}{body rest:Õ}{pos:Pos}
def Run.nx{M M':St->Hp->Prop}{l:Õ}(h:Run X l {D with nx:=M} σ H)(f:∀ σ' H',M σ' H'->M' σ' H'):Run X l {D with nx:=M'} σ H:=
 ⟨λO s I => aN (h.run O s I) λfl s' q => by
  cases fl with
  | next=>
   obtain⟨σ',H',I',m⟩:=q;exact⟨σ',H',I',f σ' H' m⟩
  | _=>exact q⟩
def Ii(φ ψ:Prop)(M:St->Hp->Prop)(hc:∀ T:Bool->Hp->Prop,(∀ k:Bool,(k=true->φ)->(k=false->ψ)->T k H)->Et X c σ H T)(ht:φ->Run X body {D with nx:=M} σ H)(hu:ψ->Run X mM {D with nx:=M} σ H)
  (hr:∀ σ' H',M σ' H'->Run X rest D σ' H'):Run X (.If c body mM pos :: rest) D σ H:=
 vq φ ψ hc (λp=>(ht p).nx hr) (λp=>(hu p).nx hr)
end
def jR(X:Cx)(H:Hp)(k:Nat)(x y:V)(b:Bool):Prop:=∀O σ s A u v,Inv X O σ H s->A.units+k < cLine->RelV x u->RelV y v->SeqAt.EqAt A s u v b
def lX(X:Cx)(H:Hp)(k:Nat)(x y:V)(b:Bool):Prop:=∀O σ s A u v,Inv X O σ H s->A.units+k < cLine->RelV x u->RelV y v->SeqAt.RcAt A s u v b
def oU(X:Cx)(H:Hp)(k:Nat)(x y:V)(b:Bool):Prop:=∀O σ s A u v,Inv X O σ H s->A.units+k < cLine->RelV x u->RelV y v->SeqAt.RcNeAt A s u v (!b)
variable{us:Ó}
section
variable{k:Nat}{a b:Addr}{xs ys:List V}
def qv{x y:V}(fx:jK x=true)(fy:jK y=true):jR X H k x y (cC x y):=λ_ _ _ _ _ _ _ _ rx ry=>P6 rx ry fx fy
def q03:jR X H k (.ref a) (.ref a) true:=λ_ _ _ _ u v _ _ rx ry=>by
 cases rx;cases ry;exact SeqAt.EqAt.same _
def q9p(bA:a≠b){c:Bool}(h:lX X H k (.ref a) (.ref b) c):jR X H k (.ref a) (.ref b) c:=λO σ s A u v I hu rx ry=>by
 cases rx;cases ry;exact SeqAt.EqAt.of_refs bA<|h O σ s A _ _ I hu rfl rfl
theorem oV(r:az xs us){j:Nat}(h:j < us.length):∃ x,xs[j]?=some x/\RelV x us[j]:=by
 have hl:=r.length;have hj:j < xs.length:=⋯
 obtain⟨u,e,q⟩:=r.get<|Ab hj;rw[Ab h]at e;cases e;exact⟨_,Ab hj,q⟩
theorem Ij(e:Nat->Bool)(ha:aj X.K H a xs)(hb:aj X.K H b ys)(hl:xs.length=ys.length)(he:∀ j x y,xs[j]?=some x->ys[j]?=some y->jR X H k x y (e j)):lX X H (k+1) (.ref a) (.ref b) ((List.range xs.length).all e):=λO σ s A u v I hu rx ry=>by
 cases rx;cases ry;obtain⟨i1,r1,p1,_⟩:=I.list ha;obtain⟨i2,r2,p2,_⟩:=I.list hb;have l1:=r1.length;have l2:=r2.length;have q:=SeqAt.RcAt.lists (A:=A) (e:=e) p1.isList p2.isList (by simp;omega) ⋯ λj h1 h2=>by
  obtain⟨x,ex,qx⟩:=oV r1 (j:=j) (by simpa using h1);obtain⟨y,ey,qy⟩:=oV r2 (j:=j) (by simpa using h2);exact he j x y ex ey O σ s A.in1 _ _ I (by show A.units+1+k < cLine;omega) (by simpa using qx)<|by simpa using qy
 rwa[Aw,<- l1]at q
theorem zE(e:Nat->Bool)(ha:aj X.K H a xs)(hb:aj X.K H b ys)(hl:xs.length=ys.length)(he:∀ j x y,xs[j]?=some x->ys[j]?=some y->jR X H k x y (e j)):oU X H (k+1) (.ref a) (.ref b) ((List.range xs.length).all e):=λO σ s A u v I hu rx ry=>by
 cases rx;cases ry;obtain⟨i1,r1,p1,_⟩:=I.list ha;obtain⟨i2,r2,p2,_⟩:=I.list hb;have l1:=r1.length;have l2:=r2.length;have q:=SeqAt.RcNeAt.lists (A:=A) (e:=e) p1.isList p2.isList (by simp;omega) ⋯ λj h1 h2=>by
  obtain⟨x,ex,qx⟩:=oV r1 (j:=j) (by simpa using h1);obtain⟨y,ey,qy⟩:=oV r2 (j:=j) (by simpa using h2);exact he j x y ex ey O σ s A.in1 _ _ I (by show A.units+1+k < cLine;omega) (by simpa using qx)<|by simpa using qy
 rwa[Aw,<- l1]at q
theorem q3j(ha:aj X.K H a xs)(hb:aj X.K H b ys)(hl:xs.length≠ys.length):lX X H k (.ref a) (.ref b) false:=λO σ s A u v I hu rx ry=>by
 cases rx;cases ry;obtain⟨i1,r1,p1,_⟩:=I.list ha;obtain⟨i2,r2,p2,_⟩:=I.list hb;have l1:=r1.length;have l2:=r2.length;exact SeqAt.RcAt.lists_lengths p1.isList p2.isList (by simp;omega)<|⋯
theorem RA(ha:aj X.K H a xs)(hb:aj X.K H b ys)(hl:xs.length≠ys.length):oU X H k (.ref a) (.ref b) false:=λO σ s A u v I hu rx ry=>by
 cases rx;cases ry;obtain⟨i1,r1,p1,_⟩:=I.list ha;obtain⟨i2,r2,p2,_⟩:=I.list hb;have l1:=r1.length;have l2:=r2.length;exact SeqAt.RcNeAt.lists_lengths p1.isList p2.isList (by simp;omega)<|⋯
theorem RC(e:Nat->Bool)(ha:aS X.K H a xs)(hb:aS X.K H b ys)(hl:xs.length=ys.length)(he:∀ j x y,xs[j]?=some x->ys[j]?=some y->jR X H k x y (e j)):lX X H (k+1) (.ref a) (.ref b) ((List.range xs.length).all e):=λO σ s A u v I hu rx ry=>by
 cases rx;cases ry;obtain⟨i1,r1,p1,_⟩:=I.tuple ha;obtain⟨i2,r2,p2,_⟩:=I.tuple hb;have l1:=r1.length;have l2:=r2.length;have q:=SeqAt.RcAt.tuples (A:=A) p1 p2 ⋯ λj h1 h2=>by
  obtain⟨x,ex,qx⟩:=oV r1 (j:=j) (by simpa using h1);obtain⟨y,ey,qy⟩:=oV r2 (j:=j) (by simpa using h2);exact he j x y ex ey O σ s A.in1 _ _ I (by show A.units+1+k < cLine;omega) (by simpa using qx)<|by simpa using qy
 rw[Aw,Aw,<- l1,<- l2,hl,Nat.min_self,<- hl]at q
 simpa using q
def vN(n:Nat):(List.range n).all (λ_=>true)=true:=by simp
theorem vO(hu:X.A.units+100 < cLine):cG X (compareOp .Eq) (λx y H Q=>∃ k c,k<=100/\lX X H k x y c/\Q (.bl c) H):=by
 intro O s σ H x y v u Q I rx ry h;obtain⟨k,c,hk,hc,q⟩:=h;exact hc O σ s X.A v u I ⋯ rx ry X.U X.w X.xe _ ⟨.bl c,H,I,rfl,q⟩
theorem qw(hu:X.A.units+100 < cLine):cG X (compareOp .NotEq) (λx y H Q=>∃ k c,k<=100/\oU X H k x y c/\Q (.bl (!c)) H):=by
 intro O s σ H x y v u Q I rx ry h;obtain⟨k,c,hk,hc,q⟩:=h;exact hc O σ s X.A v u I ⋯ rx ry X.U X.w X.xe _ ⟨.bl (!c),H,I,rfl,q⟩
theorem RE(e:Nat->Bool)(ha:aS X.K H a xs)(hb:aS X.K H b ys)(hl:xs.length=ys.length)(he:∀ j x y,xs[j]?=some x->ys[j]?=some y->jR X H k x y (e j)):oU X H (k+1) (.ref a) (.ref b) ((List.range xs.length).all e):=λO σ s A u v I hu rx ry=>by
 cases rx;cases ry;obtain⟨i1,r1,p1,_⟩:=I.tuple ha;obtain⟨i2,r2,p2,_⟩:=I.tuple hb;have l1:=r1.length;have l2:=r2.length;have q:=SeqAt.RcNeAt.tuples (A:=A) p1 p2 ⋯ λj h1 h2=>by
  obtain⟨x,ex,qx⟩:=oV r1 (j:=j) (by simpa using h1);obtain⟨y,ey,qy⟩:=oV r2 (j:=j) (by simpa using h2);exact he j x y ex ey O σ s A.in1 _ _ I (by show A.units+1+k < cLine;omega) (by simpa using qx)<|by simpa using qy
 rw[Aw,Aw,<- l1,<- l2,hl,Nat.min_self,<- hl]at q
 simpa using q
end
variable{T:Bool->Hp->Prop}{r:V->List V->Hp->VK->Prop}{name:Str}
section
variable{o e f c:Expr}{ap cp pos:Pos}{body rest:Õ}
def x15{Ty id:String}(pa:PlainAttrs Ty)(slot:Slot Ty name id)(mG:typeOf (.builtin id)=pure (.type "method_descriptor"))(hm:uV X id r)
  (h:Ev X o σ H λx H1=>mF X.K Ty x H1/\r x [] H1 Q) (bO:attributeBase o name X.env (eval o X.env)=eval o X.env:=by rfl) (hline:(ap.endLine == cp.line)=true:=by rfl):Ev X (.Call (.Attribute o name ap) [] [] cp) σ H Q:=
 c8 (ZF pa slot mG hm bd bO hline) h
def zF{Ty id:String}(pa:PlainAttrs Ty)(slot:Slot Ty name id)(mG:typeOf (.builtin id)=pure (.type "method_descriptor"))(hm:uV X id r)
  (h:Ev X o σ H λx H1=>mF X.K Ty x H1/\Ev X e σ H1 λy H2=>r x [y] H2 Q) (bO:attributeBase o name X.env (eval o X.env)=eval o X.env:=by rfl)
  (dB:((backTo cp<|starEach [e] X.env).all (λx=>!x.1) && (backToKw cp<|keywordEach [] X.env).all (λx=>x.1.isSome) && decide ([e].length+([]:List Keyword).length+(if([]:List Keyword).isEmpty then 0 else 1) < 30))=true:=by rfl)
  (hline:(ap.endLine == cp.line)=true:=by rfl) (hs:starEach [e] X.env=(false,eval e X.env) :: starEach [] X.env:=by rfl) (b6:(backTo cp<|starEach [] X.env).any (·.1)=false:=by rfl) (cP:isStar e=false:=by rfl):Ev X (.Call (.Attribute o name ap) [e] [] cp) σ H Q:=
 c8 (E7 pa slot mG hm bd (gL) bO dB hline hs b6) (h.mono λx H1 ⟨t,h2⟩=>⟨t,ai (h2.mono λy H2 q=>ax q) cP⟩)
def zG{Ty id:String}(pa:PlainAttrs Ty)(slot:Slot Ty name id)(mG:typeOf (.builtin id)=pure (.type "method_descriptor"))(hm:uV X id r)
  (h:Ev X o σ H λx H1=>mF X.K Ty x H1/\Ev X e σ H1 λy H2=>Ev X f σ H2 λz H3=>r x [y,z] H3 Q) (bO:attributeBase o name X.env (eval o X.env)=eval o X.env:=by rfl)
  (dB:((backTo cp<|starEach [e,f] X.env).all (λx=>!x.1) && (backToKw cp<|keywordEach [] X.env).all (λx=>x.1.isSome) && decide ([e,f].length+([]:List Keyword).length+(if([]:List Keyword).isEmpty then 0 else 1) < 30))=true:=by rfl)
  (hline:(ap.endLine == cp.line)=true:=by rfl) (hs:starEach [e,f] X.env=(false,eval e X.env) :: starEach [f] X.env:=by rfl) (b6:(backTo cp<|starEach [f] X.env).any (·.1)=false:=by rfl) (cP:isStar e=false:=by rfl) (hsf:isStar f=false:=by rfl):Ev X (.Call (.Attribute o name ap) [e,f] [] cp) σ H Q:=
 c8 (E7 pa slot mG hm bd (gL) bO dB hline hs b6) (h.mono λx H1 ⟨t,h2⟩=>⟨t,ai (h2.mono λy H2 h3=>ai (h3.mono λz H3 q=>ax q) hsf) cP⟩)
def insertAt(xs:List V)(i:Nat)(y:V):List V:=xs.take i++y :: xs.drop i
def q5b:V->List V->Hp->VK->Prop:=λx vs H Q=>∃ l xs i y,x = .ref l/\vs=[.int i,y]/\H l=some (.lst xs)/\0<=i/\i.toNat<=xs.length/\xs.length < sizeLine/\Q .non (upd H l<|.lst<|insertAt xs i.toNat y)
theorem q7e{i:Int}(h0:0<=i)(h:i<=16777216):¬(!Builtin.List.listFitsIndex i)=true:=by
 have e:Builtin.List.listFitsIndex i=true:=by
  unfold Builtin.List.listFitsIndex;rw[Bq,DN,DN];omega
 rw[e];exact Ax
theorem Ik:qd X "list.insert" q5b:=by
 intro O s σ H x vs v us Q I rx rv h;obtain⟨l,xs,i,y,rfl,rfl,hH,h0,hi,hz,q⟩:=h;cases rx;obtain⟨u,w',rfl,ru,d9⟩:=rv.two;obtain⟨tk,rfl⟩:=ru;obtain⟨z,è,n,r,hl,e⟩:=I.gH hH;have hs:sizeLine=16777216:=FJ;have z2:è.toArray.size<=sizeLine:=by rwa[Aw,<- hl]
 have mm:=AutoSeq1.list_insert_list_int_val_1 l è.toArray n i tk w' (q7e h0<|⋯) z2;refine QB F.slot_list_insert ⟨_,e,rfl⟩ F.entry_list_insert (F.args_list_insert_3 _ _ _) mm ⟨e,?_⟩;have ef:(λxs:Array Value=>have k:=if i < 0 then(i+(xs.size:Int)).toNat else min i.toNat xs.size;(xs.extract 0 k).push w'++xs.extract k) è.toArray=(è.take i.toNat++w' :: è.drop i.toNat).toArray:=by
  have hn:¬ i < 0:=⋯
  have hm:min i.toNat è.length=i.toNat:=⋯
  simp only[hn,CV,Aw,hm];apply Array.ext';simp;exact Ck<|by simp
 refine⟨.non,_,I.j7 hH e ef ((r.take i.toNat).append<|.cons d9<|r.drop i.toNat) ?_,rfl,q⟩;rw[Ad,As,Bh,Dd];omega
def q7l:V->List V->Hp->VK->Prop:=λx vs H Q=>∃ a Y k y,x = .ref a/\vs=[kV k,y]/\H a=some (.dK Y)/\Y.length < sizeLine /\
 ((∃ v,ao Y k=some v/\Q v H)\/(ao Y k=none/\Q y (upd H a<|.dK<|putK Y k y)))
theorem k89:qd X "dict.setdefault" q7l:=by
 intro O s σ H x vs v us Q I rx rv h;obtain⟨a,Y,k,y,rfl,rfl,hH,hz,q⟩:=h;cases rx;obtain⟨u,w',rfl,ru,d9⟩:=rv.two;obtain⟨z,hd,rs,rel,dd⟩:=vd I.aF hH;have hl:=rel.length;refine call_meetsIn F.slot_dict_setdefault dd.typeIs F.entry_dict_setdefault (F.args_dict_setdefault_3 _ _ _) (kt_meets_setdefault (dM X.U X.w) a (oJ ru) hd w') ⟨rs,dd,⋯,λv hv=>?_,λhn h' jo hs=>?_⟩
 ·have hZ:=rel.val k;rw[hv]at hZ
  rcases q with ⟨v',e',q⟩ | ⟨e',_⟩
  ·rw[e']at hZ;exact⟨v',H,I.tok _,hZ,q⟩
  ·rw[e']at hZ;exact hZ.elim
 ·have hZ:=rel.val k;rw[hn]at hZ
  rcases q with ⟨v',e',_⟩ | ⟨e',q⟩
  ·rw[e']at hZ;exact hZ.elim
  ·have he:∃ q,h'.get? a=some q:=let ⟨q,_,_,hq,_⟩:=jo;⟨q,hq⟩
   have g9:(putK Y k y).length<=sizeLine:=by have:=jn Y k y;omega
   exact⟨y,_,mK I (by rw[hH];exact True.intro) hs he<|FK g9 hd (rel.put k d9) jo,d9,q⟩
def Il:fE X (.type "int") (λxs H Q=>∃ b:Bool,xs=[.bl b]/\Q (.int (if b then 1 else 0)) H):=by
 intro O s σ H xs us Q I r h;obtain⟨b,rfl,q⟩:=h;obtain⟨u,rfl,ru⟩:=vals1 r;cases (show u=Value.bool b from ru);exact call_int_bool ⟨.int (if b then 1 else 0),H,I.tok _,⟨_,rfl⟩,q⟩
def RF(Φ:Bool->Hp->Prop)(M:St->Hp->Prop)(hc:Et X c σ H Φ)(ht:∀ H1,Φ true H1->Run X body {D with nx:=M} σ H1)(hu:∀ H1,Φ false H1->Run X mM {D with nx:=M} σ H1)
  (hr:∀ σ' H',M σ' H'->Run X rest D σ' H'):Run X (.If c body mM pos :: rest) D σ H:=
 fP (hc.mono λk H1 p=>by
  cases k with
  | true=>rw[BP rfl];exact(ht H1 p).nx hr
  | false=>rw[BK Ax];exact(hu H1 p).nx hr)
theorem vP(W:Nat->St->Hp->Prop){m0:Nat}(h0:W m0 σ H)
  (turn:∀ m σ H,W m σ H->Et X c σ H λb H1=>if b=true then Run X body {D with nx:=λσ' H'=>∃ m',m' < m/\W m' σ' H',ct:=λσ' H'=>∃ m',m' < m/\W m' σ' H',bk:=λσ' H'=>Run X rest D σ' H'} σ H1 else Run X rest D σ H1)
  (hp:PassesOwn (model X.U X.w) X.A X.env X.xe:=by exact KQ):Run X (.While c body [] pos :: rest) D σ H:=by
 refine jL (YG hp mO oK) ⟨W,⟨m0,h0⟩,λm σ1 H1 w1=>(turn m σ1 H1 w1).mono λb H2 q=>?_⟩;cases b with
 | true=>
  rw[BP rfl]at q;exact⟨λσ' H'=>∃ m',m' < m/\W m' σ' H',λ_ _ h=>h,q⟩
 | false=>
  rwa[BK Ax]at q
def Im(h:∀ p,H p=none->Q (.ref p) (upd H p<|.dK [])):Ev X (.Dict [] [] pos) σ H Q:=c8 q3l h
def q3p(h:∀ p,H p=none->Q (.ref p) (upd H p<|.dT [])):Ev X (.Dict [] [] pos) σ H Q:=c8 q10 h
def eU(hu:X.A.units+1 < cLine)(h:Ev X o σ H λx H1=>Ev X e σ H1 λy H2=>∃ a v,x = .ref a/\aX H2 a y (some v)/\Q v H2)(hs:qe e:=by intro _ _;rfl):Ev X (.Subscript o e pos) σ H Q:=c8 (Z9 hu bd bd hs) h
def zH(hu:X.A.units+1 < cLine)(h:Ev X e σ H λy H1=>Ev X o σ H1 λx H2=>∃ a r,x = .ref a/\aX H2 a y r/\T r.isSome H2)(hm:behindInMarks .In o=false:=by with_unfolding_all rfl):Et X (.Compare e [.In] [o] pos) σ H T:=
 sV (O' (Z' hu bd bd) hm) (h.mono λy H1 h2=>h2.mono λx H2 ⟨a,r,h3,h4,h5⟩=>⟨a,r,h3,h4,_,rfl,h5⟩)
def Io(hu:X.A.units+1 < cLine)(h:Ev X e σ H λy H1=>Ev X o σ H1 λx H2=>∃ a r,x = .ref a/\aX H2 a y r/\T (!r.isSome) H2)(hm:behindInMarks .NotIn o=false:=by with_unfolding_all rfl):Et X (.Compare e [.NotIn] [o] pos) σ H T:=
 sV (O' (q02 hu bd bd) hm) (h.mono λy H1 h2=>h2.mono λx H2 ⟨a,r,h3,h4,h5⟩=>⟨a,r,h3,h4,_,rfl,h5⟩)
def tG{p2:Pos}(hu:X.A.units+1 < cLine)(h:Ev X f σ H λv H1=>Ev X o σ H1 λx H2=>Ev X e σ H2 λy H3=>∃ a H4,x = .ref a/\bX H3 a y v H4/\Run X rest D σ H4)(hs:swapsWith f (some<|.Subscript o e p2) pos.line X.env=pure false:=by rfl) :
  Run X (.Assign [.Subscript o e p2] f pos :: rest) D σ H:=jL (q60 hu bd bd bd hs) h
end
end L2
namespace bD
open PySem PySem.Spec PyProof.Rows
def lexLt(a b:Int×Int):Bool:=if a.1=b.1 then decide (a.2 < b.2)else decide (a.1 < b.1)
def k1l(b:Bool)(x y:Value):keyLt' (tuples' b) x y=(do
  let xs <- Builtin.List.listItems x
  let ys <- Builtin.List.listItems y
  for ((p,q),i) in (xs.toList.zip ys.toList).zipIdx do
   if !(<- eqBool p q)then return <- oneLt' (b && i == 0) p q
  return xs.size < ys.size):=rfl
variable{E:Î}{U:Program}{Q:Bool->Shared->Prop}{p q:Int×Int}{x y:Addr}{P:Fin->Shared->Prop}
section
variable{w:World}{A:Around}{s:Shared}
def Pr(h:Heap)(a:Addr)(p:Int×Int):Prop:=∃ o n t u,h.get? a=some o/\o.cls = .type "tuple"/\o.data = .seq #[.int p.1 t,.int p.2 u] n
def RH{a b:Int}{t u:Tok}(h:Q (decide (a=b)) s):wpAny (model U w) A (eqBool (.int a t)<|.int b u) Q E s:=by
 refine SeqAt.EqAt.int_int a t b u U w E Q ?_;have e:(a == b)=decide (a=b):=rfl;rwa[e]
def q8z{a b:Int}{t u:Tok}(h:Q (decide (a < b)) s):wpAny (model U w) A (oneLt' false (.int a t)<|.int b u) Q E s:=by
 rw[oneLt'_eq];simp only[Bb,CV];refine BJ ?_;show wpAny _ _ (compareOp .Lt (.int a t)<|.int b u) _ _ _;exact lt_int<|DY h
def q2n(hx:Pr s.heap x p)(hy:Pr s.heap y q)(h:Q (lexLt p q) s):wpAny (model U w) A (keyLt' (tuples' true) (.ref x)<|.ref y) Q E s:=by
 obtain⟨ox,nx,tx,ux,zI,cx,dx⟩:=hx;obtain⟨oy,ny,ty,uy,hoy,cy,dy⟩:=hy;rw[k1l];refine BJ<|QF zI dx<|BJ<|QF hoy dy ?_;show wpAny _ _ (forIn [((Value.int p.1 tx,Value.int q.1 ty),0),((Value.int p.2 ux,Value.int q.2 uy),1)] _ _ >>= _) _ _ _;rw[Gs];refine BJ<|BJ ?_
 dsimp only
 refine BJ<|RH ?_
 by_cases c:p.1=q.1
 ·rw[BW c];simp only[Eb,Bb,CV];refine BL ?_
  dsimp only
  rw[Gs];refine BJ ?_
  dsimp only
  refine BJ<|RH ?_
  by_cases c2:p.2=q.2
  ·rw[BW c2];simp only[Eb,Bb,CV];refine BL ?_
   dsimp only
   rw[List.forIn_nil];refine BL<|BL ?_;have e:lexLt p q=false:=by unfold lexLt;rw[BP c,c2];simp
   rw[e]at h
   simpa using h
  ·rw[BR c2];simp only[Gx,DP];refine BJ<|q8z<|BL ?_
   dsimp only
   refine BL<|BL ?_;have e:lexLt p q=decide (p.2 < q.2):=by unfold lexLt;rw[BP c]
   rwa[e]at h
 ·rw[BR c];simp only[Gx,DP];refine BJ<|oneLt_int<|BL ?_
  dsimp only
  refine BL<|BL ?_;have e:lexLt p q=decide (p.1 < q.1):=by unfold lexLt;rw[BK c]
  rwa[e]at h
def sz2{x y:Value}:(#[x,y]:Array Value).size<=sizeLine+1:=by
 rw[FJ];show 2<=_;decide
def q3c(v:Value):firstOfTuple' v=(do
  if(<- typeOf v) != .type "tuple" then return none
  return (<- Builtin.List.listItems v)[0]?):=rfl
def RO{Q:Option Value->Shared->Prop}(hx:Pr s.heap x p)(h:∀ t,Q (some<|.int p.1 t) s):wpAny (model U w) A (firstOfTuple'<|.ref x) Q E s:=by
 obtain⟨ox,nx,tx,ux,zI,cx,dx⟩:=hx;rw[q3c];refine BJ<|LK ⟨ox,zI,cx⟩ ?_;rw[show(Value.type "tuple" != Value.type "tuple")=false by decide];simp only[Bb,CV];exact BJ<|QF zI dx<|BL<|h tx
def q47{Q:SortKind->Shared->Prop}(hx:Pr s.heap x p)(hy:Pr s.heap y q)(h:Q (tuples' true) s):wpAny (model U w) A (keyKind' #[.ref x,.ref y]) Q E s:=by
 rw[keyKind'_eq,show(#[.ref x,.ref y]:Array Value)=[.ref x,.ref y].toArray from rfl,List.mapM_toArray];refine BJ<|wpAny_map ?_;rw[List.mapM_cons];refine BJ<|RO hx λt=>?_;rw[List.mapM_cons];refine BJ<|BJ<|RO hy λu=>?_;rw[List.mapM_nil];refine BJ<|BL<|BL<|BL ?_;rw[BP<|by simp];refine BJ<|GX ?_;rw[oneTypeOnly'_eq];show wpAny _ _ ((Array.mapM typeOf [Value.int p.1 t,Value.int q.1 u].toArray >>= _) >>= _) _ _ _;rw[List.mapM_toArray];have e1:[Value.int p.1 t,Value.int q.1 u].mapM typeOf=(pure [Value.type "int",Value.type "int"]:Sem _):=rfl;rw[e1];refine BL ?_;have e2:(if((#[Value.type "int",Value.type "int"]:Array Value).all λx=>x == (#[Value.type "int",Value.type "int"]:Array Value)[0])=true then some (#[Value.type "int",Value.type "int"]:Array Value)[0]else none)=some (Value.type "int"):=by
  rw[BP]
  ·rfl
  ·simp
 show Q (tuples'<|Option.any (λx=>x != Value.type "tuple") _) s;rwa[e2]
def wp_at{st:SortSt}{i j:Nat}{Q:Option Bool->SortSt->Prop}(hk:kindOf st=tuples' true)(hi:(arrOf st)[i]?=some (.ref x,.ref x))(hj:(arrOf st)[j]?=some (.ref y,.ref y))(hx:Pr s.heap x p)(hy:Pr s.heap y q)(h:Q (some<|lexLt p q) st) :
  wpS (model U w) A E s (ltAt' i j) Q st:=by
 rw[ltAt'_eq];refine FT<|wpS_get ?_;show wpS _ _ _ _ (elem' (arrOf st) i >>= λa=>elem' (arrOf st) j >>= λb=>lt' a b) Q st;rw[elem'_eq,elem'_eq,hi,hj];refine FT<|JX<|FT<|JX ?_;rw[lt'_eq];refine FT<|wpS_get ?_;rw[hk];refine FT<|wpS_lift<|JQ<|q2n hx hy ⟨rfl,?_⟩;exact JX h
def lY(x y:Addr)(p q:Int×Int):Array Keyed:=if lexLt q p then #[(.ref y,.ref y),(.ref x,.ref x)]else #[(.ref x,.ref x),(.ref y,.ref y)]
theorem q3z{Q:Option Nat->SortSt->Prop}(hx:Pr s.heap x p)(hy:Pr s.heap y q)
  (h:Q (some 2)<|SortSt.mk' (tuples' true) (lY x y p q) #[] 7 none):wpS (model U w) A E s (countRun' 0 2) Q (SortSt.mk' (tuples' true) #[(.ref x,.ref x),(.ref y,.ref y)] #[] 7 none):=by
 rw[countRun0_eq];refine FT ?_;unfold ascLoop;refine wpS_mono (QG (I:=λi c st=>st=SortSt.mk' (tuples' true) #[(.ref x,.ref x),(.ref y,.ref y)] #[] 7 none/\c=(none,i)/\(i=2->lexLt q p=false))
  (Q:=λc st=>st=SortSt.mk' (tuples' true) #[(.ref x,.ref x),(.ref y,.ref y)] #[] 7 none/\((c=(none,1)/\lexLt q p=true)\/(c=(none,2)/\lexLt q p=false))) ?_ ?_ ⟨rfl,rfl,λh=>by cases h⟩) ?_
 ·rintro i c st h1 h2 ⟨rfl,rfl,hI⟩;have e:i=1:=⋯
  subst e;refine FT<|wp_at rfl rfl rfl hy hx ?_
  dsimp only
  cases hb:lexLt q p with
  | true=>
   rw[BP rfl];exact JX ⟨rfl,.inl ⟨rfl,rfl⟩⟩
  | false=>
   rw[BK Ax];exact JX ⟨rfl,rfl,λ_=>rfl⟩
 ·rintro c st ⟨rfl,rfl,hI⟩;exact⟨rfl,.inr ⟨rfl,hI rfl⟩⟩
 ·rintro c st ⟨rfl,⟨rfl,hb⟩ | ⟨rfl,hb⟩⟩
  ·dsimp only
   rw[BK ∅,BK<|∅];unfold descPart;refine FT<|wpS_lift<|GX ⟨rfl,?_⟩;unfold descLoop;refine FT (wpS_mono (QG (I:=λi c st=>c=(none,2,0)/\st=SortSt.mk' (tuples' true) #[(.ref x,.ref x),(.ref y,.ref y)] #[] 7 none) (λi c st h1 h2 _=>⋯) (λc st h=>h) ⟨rfl,rfl⟩) ?_);rintro c st ⟨rfl,rfl⟩
   dsimp only
   rw[BK<|∅];unfold tail3;refine FT<|wpS_reverse ?_;unfold ascLoop;refine FT (wpS_mono (QG (I:=λi c st=>c=(none,2)/\st=SortSt.mk' (tuples' true) #[(.ref y,.ref y),(.ref x,.ref x)] #[] 7 none) (λi c st h1 h2 _=>⋯) (λc st h=>h) ⟨rfl,rfl⟩) ?_);rintro c st ⟨rfl,rfl⟩
   dsimp only
   refine JX ?_;unfold lY at h;rwa[BP hb]at h
  ·dsimp only
   rw[BP<|∅];refine JX ?_;unfold lY at h;rwa[BK<|by rw[hb];exact Ax]at h
def q61{Q:Unit->SortSt->Prop}(hx:Pr s.heap x p)(hy:Pr s.heap y q)(h:∀ st,arrOf st=lY x y p q->failedOf st=none->Q () st) :
  wpS (model U w) A E s sortRuns' Q (SortSt.mk' (tuples' true) #[(.ref x,.ref x),(.ref y,.ref y)] #[] 7 none):=by
 rw[sortRuns'_eq];refine FT<|wpS_get ?_
 dsimp only
 have hmr:minRun' 2 2 0=2:=by rw[minRun'_succ,BP<|∅]
 show wpS _ _ _ _ ((forIn [0:2] _ _) >>= _) _ _;refine FT<|wpS_mono (QG (I:=λi c st=>(i=0/\c=(none,0)/\st=SortSt.mk' (tuples' true) #[(.ref x,.ref x),(.ref y,.ref y)] #[] 7 none)\/(1<=i/\c=(none,2)/\st=SortSt.mk' (tuples' true) (lY x y p q) #[(0,2,0)] 7 none))
  (Q:=λc st=>c=(none,2)/\st=SortSt.mk' (tuples' true) (lY x y p q) #[(0,2,0)] 7 none) ?_ ?_ (.inl ⟨rfl,rfl,rfl⟩)) ?_
 ·rintro i c st h1 h2 (⟨rfl,rfl,rfl⟩ | ⟨hi,rfl,rfl⟩)
  ·dsimp only
   rw[BK<|by show ¬(0>=2);decide];refine FT ?_;show wpS _ _ _ _ (countRun' 0 2) _ _;refine q3z hx hy ?_
   dsimp only
   rw[BK<|by show ¬(2 < minRun' 2 2 0);rw[hmr];decide];refine FT<|wpS_get ?_;show wpS _ _ _ _ (modify _ >>= _) _ _;exact FT<|wpS_modify<|JX<|.inr ⟨Am _,rfl,rfl⟩
  ·dsimp only
   rw[BP<|by show 2>=2;decide];exact JX ⟨rfl,rfl⟩
 ·rintro c st (⟨h1,_,_⟩ | ⟨_,hc,hs⟩)
  ·exact absurd h1<|∅
  ·exact⟨hc,hs⟩
 ·rintro c st ⟨rfl,rfl⟩
  dsimp only
  refine FT<|wpS_mono (QG (I:=λ_ c st=>st=SortSt.mk' (tuples' true) (lY x y p q) #[(0,2,0)] 7 none/\c=(none,())) ?_ (λ_ _ hh=>hh) ⟨rfl,rfl⟩) ?_
  ·rintro i c st _ _ ⟨rfl,rfl⟩;refine FT<|wpS_get ?_;rw[BP<|by show 1<=1;decide];exact JX ⟨rfl,rfl⟩
  ·rintro c st ⟨rfl,rfl⟩;exact JX<|h _ rfl rfl
def q3r{a:Addr}{n:Nat}(ho:s.heap.get? a=some (seqObj "list" #[.ref x,.ref y] n))(hax:a≠x)(hay:a≠y)(hx:Pr s.heap x p)(hy:Pr s.heap y q)
  (h:P (.done<|.ret .none) {s with heap:=sortedHeap s.heap a [.ref x,.ref y] (if lexLt p q then #[.ref y,.ref x]else #[.ref x,.ref y])}) :
  wpAny (model U w) A (Builtin.«list.sort» ⟨[.ref a],[(Str.ofString "reverse",.bool true)]⟩) P E s:=by
 rw[list_sort_rev];refine BJ<|QF ho rfl<|BJ<|OD ho rfl ?_;obtain⟨e1,mX⟩:∃ e1,(s.heap.update a<|Obj.mapSeq λ_=>#[]).get? a=some (seqObj "list" #[] e1):=⟨_,get?_update_seq ho λ_=>#[]⟩;refine BJ<|QV mX rfl<|BJ<|QS ?_;refine BJ<|KJ<|CJ ?_;have qz:(((s.heap.update a<|Obj.mapSeq λ_=>#[]).push<|seqObj "tuple" [Value.ref x,Value.ref y].toArray 0).push<|seqObj "list" #[] 0).get? a=some (seqObj "list" #[] e1):=
  Ae _ (Ae _ mX)
 show wpAny (model U w) A _ P E {s with heap:=((s.heap.update a<|Obj.mapSeq λ_=>#[]).push<|seqObj "tuple" [Value.ref x,Value.ref y].toArray 0).push (seqObj "list" #[] 0)};have keep:∀ z r,a≠z->Pr s.heap z r->Pr (((s.heap.update a<|Obj.mapSeq λ_=>#[]).push<|seqObj "tuple" [Value.ref x,Value.ref y].toArray 0).push<|seqObj "list" #[] 0) z r:=by
  rintro z r hz ⟨o,m,t,u,q1,q2⟩;exact⟨o,m,t,u,Ae _<|Ae _<|(Cb _ _ hz).trans q1,q2⟩
 have kx:=keep x p hax hx;have ky:=keep y q hay hy
 dsimp only
 rw[BP rfl];refine BJ<|GX ?_;rw[BK<|by show ¬(2 < 2);decide];refine BJ<|q47 kx ky ?_;rw[BK<|by show ¬(2 < 2);decide];have e2:(if true=true then((#[Value.ref x,Value.ref y]:Array Value).zip #[Value.ref x,Value.ref y]).reverse else(#[Value.ref x,Value.ref y]:Array Value).zip #[Value.ref x,Value.ref y])=#[(Value.ref y,Value.ref y),(Value.ref x,Value.ref x)]:=by
  rw[BP rfl];simp
 rw[e2];refine BJ<|CT (q61 (Q:=λ_ st=>arrOf st=lY y x q p/\failedOf st=none) ky kx λst h1 h2=>⟨h1,h2⟩) ?_ λ_ _ e=>e;rintro ⟨⟨⟩,dz⟩ s' ⟨rfl,hs,hf⟩
 dsimp only
 have e3:(if true=true then((arrOf dz).map (·.2)).reverse else(arrOf dz).map (·.2))=(if lexLt p q then #[.ref y,.ref x]else #[.ref x,.ref y]):=by
  rw[BP rfl,hs];unfold lY
  split <;> simp
 refine BJ<|QV qz rfl<|BJ (OD qz rfl ?_ (hsz2:=by rw[e3];split <;> exact sz2));rw[hf];simp only[FZ,Bb,CV];refine BL ?_;have e4:(λ_:Array Value=>if True then((arrOf dz).map (·.2)).reverse else(arrOf dz).map (·.2))=λ_=>(if lexLt p q then #[.ref y,.ref x]else #[.ref x,.ref y]):=by
  funext _
  rw[BP trivial];rwa[BP rfl]at e3
 rwa[e4]
def k3p{l:Addr}{Q:Î}(hl:s.heap.IsList l #[.ref x,.ref y])(hx:Pr s.heap x p)(hy:Pr s.heap y q)
  (h:∀h' e,(∀ b u,s.heap.get? b=some u->h'.get? b=some u)->h'.get? (s.heap.objs.size+1)=some (seqObj "list" (if lexLt p q then #[.ref y,.ref x]else #[.ref x,.ref y]) e)->Q (.ref<|s.heap.objs.size+1) {s with heap:=h'}) :
  wpAny (model U w) A (call (.builtin "sorted") [.ref l] [(Str.ofString "reverse",.bool true)]) Q E s:=by
 refine call_function_entry_kw kind_sorted plain_sorted entry_sorted (args_sorted_rev _ _) ?_;unfold Builtin.«sorted»;refine BJ<|BL ?_;refine BJ<|collect_list hl ?_;refine BJ<|KJ ?_;have hsz:((s.heap.push<|seqObj "list" #[] 0).update s.heap.objs.size (Obj.mapSeq (·++[Value.ref x,Value.ref y].toArray))).objs.size=s.heap.objs.size+1:=by
  rw[Heap.size_update,size_push']
 have jI:(((s.heap.push<|seqObj "list" #[] 0).update s.heap.objs.size (Obj.mapSeq (·++[Value.ref x,Value.ref y].toArray))).push<|seqObj "list" [Value.ref x,Value.ref y].toArray 0).get? (s.heap.objs.size+1)=some (seqObj "list" [Value.ref x,Value.ref y].toArray 0):=by
  rw[<- hsz];exact Ao _ rfl
 have lx:=let ⟨_,_,_,_,e,_⟩:=hx;Ap e
 have ly:=let ⟨_,_,_,_,e,_⟩:=hy;Ap e
 have keep:∀ z r,Pr s.heap z r->Pr (((s.heap.push<|seqObj "list" #[] 0).update s.heap.objs.size (Obj.mapSeq (·++[Value.ref x,Value.ref y].toArray))).push<|seqObj "list" [Value.ref x,Value.ref y].toArray 0) z r:=by
  rintro z r ⟨o,m,t,u,q1,q2⟩;have hz:=Ap q1;exact⟨o,m,t,u,Ae _<|(Cb _ _<|Cw hz).trans<|Ae _ q1,q2⟩
 show wpAny _ _ _ _ _ {s with heap:=((s.heap.push<|seqObj "list" #[] 0).update s.heap.objs.size (Obj.mapSeq (·++[Value.ref x,Value.ref y].toArray))).push (seqObj "list" [Value.ref x,Value.ref y].toArray 0)};rw[hsz];refine BJ<|CJ<|wpAny_call_entry_kw slot_list_sort ⟨_,jI,rfl⟩ entry_list_sort (q3r jI (Cw<|Bt lx) (Cw<|Bt ly) (keep x p hx) (keep y q hy) ⟨_,rfl,?_⟩)<|args_list_sort_rev _ _;obtain⟨e,he⟩:=sortedAll_at s.heap [Value.ref x,Value.ref y] (if lexLt p q then #[.ref y,.ref x]else #[.ref x,.ref y]);exact BL ⟨_,rfl,h _ e (λb u hb=>RK hb) he⟩
end
end bD
namespace L2
open PySem PySem.Spec PyProof.Rows bD
variable{O:Ð}
section
variable{X:Cx}{e:Expr}{σ:St}{H:Hp}{Q:VK}{pos p kp cp:Pos}{j:Nat}
def RU{s:Shared}{a:Addr}{i j:Int}(I:Inv X O σ H s)(h:H a=some (.tup [.int i,.int j])):Pr s.heap a (i,j):=by
 obtain⟨è,r,pl,_⟩:=I.tuple<|aS.of h;obtain⟨u,v,rfl,⟨t,rfl⟩,⟨t',rfl⟩⟩:=vals2 r;obtain⟨o,ho,hc,n,hd⟩:=pl;exact⟨o,n,t,t',ho,hc,hd⟩
def k6q(hm:X.mg "sorted" = none) (h:Ev X e σ H λv H1=>∃ l x y a b c d,v = .ref l/\H1 l=some (.lst [.ref x,.ref y])/\H1 x=some (.tup [.int a,.int b])/\H1 y=some (.tup [.int c,.int d]) /\
   ∀ r,H1 r=none->Q (.ref r) (upd H1 r<|.lst (if lexLt (a,b) (c,d)then [.ref y,.ref x]else [.ref x,.ref y]))) (hg:Gl X "sorted":=by rfl)
  (he:backTo pos (starEach [e] X.env)=(false,eval e X.env) :: backTo pos (starEach [] X.env):=by rfl) (b6:(backTo pos<|starEach [e] X.env).any (·.1)=false:=by rfl) (cP:isStar e=false:=by rfl) :
  Ev X (.Call (.Name "sorted" p) [e] [⟨some "reverse",.Constant (.bool true) j cp,kp⟩] pos) σ H Q:=by
 refine⟨λO s I=>?_⟩;refine JR<|oD I hg hm CW ?_;have hE:Ea X [e] σ H λvs H1=>∃ l x y a b c d,vs=[.ref l]/\H1 l=some (.lst [.ref x,.ref y])/\H1 x=some (.tup [.int a,.int b])/\H1 y=some (.tup [.int c,.int d]) /\
   ∀ r,H1 r=none->Q (.ref r) (upd H1 r<|.lst (if lexLt (a,b) (c,d)then [.ref y,.ref x]else [.ref x,.ref y])):=
  ai (h.mono λv H1 ⟨l,x,y,a,b,c,d,e1,r1⟩=>ax ⟨l,x,y,a,b,c,d,by rw[e1],r1⟩) cP
 refine callWith_kw (aN (hE.run pos O s I) λus s1 z=>?_) he b6;obtain⟨vs,H1,I1,r1,l,x,y,a,b,c,d,ev,hl,hx,hy,q⟩:=z;subst ev;obtain⟨u,rfl,ru⟩:=vals1 r1;cases (show u=Value.ref l from ru);refine kws_cons<|BL<|kws_nil ?_;obtain⟨è,r2,pl,_⟩:=I1.list<|aj.of hl;obtain⟨u,v,rfl,ru,rv⟩:=vals2 r2;cases (show u=Value.ref x from ru);cases (show v=Value.ref y from rv);refine k3p pl.isList (RU I1 hx) (RU I1 hy) λh' e kp he=>?_;refine⟨.ref _,_,I1.eR kp rfl rfl (Ef _) (show aB X.U X.w _ h' _ (.lst (if lexLt (a,b) (c,d)then [.ref y,.ref x]else [.ref x,.ref y]))from ?_),rfl,q _<|I1.aF.fresh<|Ef _⟩
 split at he
 ·rename_i hb;rw[BP hb];exact⟨by show 2<=sizeLine;rw[FJ];decide,[.ref y,.ref x],e,.cons rfl (.cons rfl .nil),he⟩
 ·rename_i hb;rw[BK hb];exact⟨by show 2<=sizeLine;rw[FJ];decide,[.ref x,.ref y],e,.cons rfl (.cons rfl .nil),he⟩
end
end L2
namespace Nt
open PySem
abbrev Net:=List<|Str×List Str
abbrev End:=Nat×Nat
def row(n:Net)(r:Nat):Ñ:=((n[r]?).map (·.2)).getD []
def aJ(n:Net)(e:End):Option Str:=(row n e.1)[e.2]?
def bJ(r:Nat)(ts:Ñ)(p:Nat):List (Str×End):=(ts.zipIdx p).map λx=>(x.1,(r,x.2))
def ia(r:Nat):Net->List (Str×End)
 | []=>[]
 | a :: n=>bJ r a.2 0++ia (r+1) n
def bt(n:Net):List (Str×End):=ia 0 n
def ends(n:Net):List End:=(bt n).map (·.2)
def ag(n:Net):Ñ:=n.flatMap (·.2)
def pos(n:Net)(z:Str):List End:=((bt n).filter λx=>decide (x.1=z)).map (·.2)
variable{e:End}{z:Str}{p r:Nat}
def b7{ts:Ñ}:(z,e)∈bJ r ts p↔e.1=r/\p<=e.2/\ts[e.2 - p]?=some z:=by
 unfold bJ;rw[Ai]
 constructor
 ·rintro ⟨⟨y,k⟩,hm,he⟩;cases he;have:=Fn.mp hm;exact⟨rfl,this.1,this.2⟩
 ·rintro ⟨h1,h2,h3⟩;refine⟨(z,e.2),Fn.mpr ⟨h2,h3⟩,?_⟩;rw[<- h1]
theorem bT:∀{n}{k}{z}{e},(z,e)∈ia k n↔k<=e.1/\(row n<|e.1 - k)[e.2]?=some z
 | [],k,z,e=>by
  constructor
  ·intro h;cases h
  ·rintro ⟨_,h⟩;simp[row]at h
 | a :: n,k,z,e=>by
  unfold ia;rw[An,b7,bT]
  constructor
  ·rintro (⟨h1,_,h3⟩ | ⟨h1,h2⟩)
   ·refine⟨⋯,?_⟩;rw[show e.1 - k=0 by omega]
    simpa[row]using h3
   ·refine⟨⋯,?_⟩;rw[show e.1 - k=(e.1 - (k+1))+1 by omega]
    simpa[row]using h2
  ·rintro ⟨h1,h2⟩
   rcases Dr k e.1 with h | h
   ·refine .inr ⟨h,?_⟩;rw[show e.1 - k=(e.1 - (k+1))+1 by omega]at h2
    simpa[row]using h2
   ·refine .inl ⟨⋯,Bu _,?_⟩;rw[show e.1 - k=0 by omega]at h2
    simpa[row]using h2
variable{n:Net}
def aY:(z,e)∈bt n↔aJ n e=some z:=by
 unfold bt aJ;rw[bT];simp
def af:e∈ends n↔∃ z,aJ n e=some z:=by
 unfold ends;rw[Ai]
 constructor
 ·rintro ⟨⟨z,e'⟩,h,rfl⟩;exact⟨z,aY.mp h⟩
 ·rintro ⟨z,h⟩;exact⟨(z,e),aY.mpr h,rfl⟩
def aK:e∈pos n z↔aJ n e=some z:=by
 unfold pos;rw[Ai]
 constructor
 ·rintro ⟨⟨y,e'⟩,h,rfl⟩;rw[Bg,DN]at h;obtain⟨h1,h2⟩:=h;subst h2;exact aY.mp h1
 ·intro h;exact⟨(z,e),Bg.mpr ⟨aY.mpr h,by simp⟩,rfl⟩
def j7t(r:Nat):∀ts p,(bJ r ts p).map (·.1)=ts:=by
 intro ts p;unfold bJ;rw[Cg];have:((λx:Str×End=>x.1) ∘ λx:Str×Nat=>(x.1,(r,x.2)))=Prod.fst:=rfl;rw[this,List.zipIdx_map_fst]
theorem lZ:∀n k,(ia k n).map (·.1)=ag n
 | [],_=>rfl
 | a :: n,k=>by
  unfold ia ag;rw[Aj,j7t,lZ n<|k+1,Cm];rfl
def j79(r:Nat)(ts:Ñ)(p:Nat):((bJ r ts p).map (·.2)).Nodup:=by
 unfold bJ;rw[Cg];have e:((λx:Str×End=>x.2) ∘ λx:Str×Nat=>(x.1,(r,x.2)))=(λk:Nat=>(r,k)) ∘ Prod.snd:=rfl;rw[e,<- Cg,List.zipIdx_map_snd];refine RN _ ?_ List.nodup_range';intro a b h fU;exact h (Prod.mk.inj fU).2
theorem RY:∀n k,((ia k n).map (·.2)).Nodup
 | [],_=>Cn
 | a :: n,k=>by
  unfold ia;rw[Aj,Cj];refine⟨j79 _ _ _,RY n<|k+1,?_⟩;intro x hx y hy e;subst e;obtain⟨⟨z,e1⟩,h1,rfl⟩:=Ai.mp hx;obtain⟨⟨z2,e2⟩,h2,he⟩:=Ai.mp hy;simp only at he;subst he;have q1:=(b7.mp h1).1;have q2:=(bT.mp h2).1;omega
def tH(n:Net):(ends n).Nodup:=RY n 0
def R0(n:Net)(z:Str):(pos n z).Nodup:=by
 unfold pos;exact(tH n).sublist<|List.Sublist.map _<|List.filter_sublist
def qA(n:Net)(z:Str):(pos n z).length=(ag n).count z:=by
 unfold pos;rw[Aa,<- lZ n 0,<- List.countP_eq_length_filter,List.count,List.countP_map];rfl
def aw(n:Net):Prop:=∀ z∈ag n,(ag n).count z=2
def eG(h:aJ n e=some z):z∈ag n:=by
 have:=aY.mpr h;rw[<- lZ n 0];exact Ai.mpr ⟨_,this,rfl⟩
def other(n:Net)(e:End):End:=match aJ n e with
 | some z=>(match pos n z with
  | [a,b]=>if a=e then b else a
  | _=>e)
 | none=>e
theorem qB(T:aw n)(h:aJ n e=some z):∃ a b,pos n z=[a,b]/\a≠b/\(e=a\/e=b):=by
 have hl:=qA n z;rw[T z<|eG h]at hl;have hn:=R0 n z;have hm:=aK.mpr h
 match hp:pos n z,hl with
 | [a,b],_=>
  rw[hp]at hn hm;refine⟨a,b,rfl,?_,?_⟩
  ·intro e;subst e;simp at hn
  ·simpa using hm
def dk(T:aw n)(h:aJ n e=some z):aJ n (other n e)=some z/\other n (other n e)=e/\other n e≠e:=by
 obtain⟨a,b,hp,fU,he⟩:=qB T h;have ha:aJ n a=some z:=aK.mp (by rw[hp];simp);have hb:aJ n b=some z:=aK.mp<|by rw[hp];simp
 rcases he with rfl | rfl
 ·have e1:other n e=b:=by unfold other;simp only[h,hp];simp
  have e2:other n b=e:=by unfold other;simp only[hb,hp];simp[fU]
  rw[e1];exact⟨hb,e2,fU.symm⟩
 ·have e1:other n e=a:=by unfold other;simp only[h,hp];simp[fU]
  have e2:other n a=e:=by unfold other;simp only[ha,hp];simp
  rw[e1];exact⟨ha,e2,fU⟩
def left(n:Net)(e:End):End:=(e.1,(e.2+1) % (row n e.1).length)
def step(n:Net)(e:End):End:=left n (other n e)
def iE(h:aJ n e=some z):e.2 < (row n e.1).length:=(Ac.mp h).1
def cS(h:aJ n e=some z):e.1 < n.length:=by
 rcases Dr e.1 n.length with c | c
 ·exact c
 ·have:=iE h;unfold row at this;rw[Bd c]at this;simp at this
def zJ(h:e.2 < (row n e.1).length):∃ z,aJ n e=some z:=⟨_,Ab h⟩
theorem q3x(h:e∈ends n):left n e∈ends n:=by
 obtain⟨z,h⟩:=af.mp h;have:=iE h;exact af.mpr<|zJ (show(e.2+1) % (row n e.1).length < (row n e.1).length from Gw _<|⋯)
def dD(T:aw n)(h:e∈ends n):other n e∈ends n:=by
 obtain⟨z,h⟩:=af.mp h;exact af.mpr ⟨z,(dk T h).1⟩
def tI(T:aw n)(h:e∈ends n):step n e∈ends n:=q3x<|dD T h
theorem q1a{a b:End}(ha:a∈ends n)(hb:b∈ends n)(h:left n a=left n b):a=b:=by
 obtain⟨z,ha⟩:=af.mp ha;obtain⟨y,hb⟩:=af.mp hb;have la:=iE ha;have lb:=iE hb;unfold left at h;obtain⟨h1,h2⟩:=Prod.mk.inj h;rw[h1]at la h2;have:a.2=b.2:=by
  rcases Dr (a.2+1) (row n b.1).length with c | c <;> rcases Dr (b.2+1) (row n b.1).length with d | d
  ·rw[Cf c,Cf d]at h2;omega
  ·have e:b.2+1=(row n b.1).length:=⋯
   rw[Cf c,e,Em]at h2;omega
  ·have e:a.2+1=(row n b.1).length:=⋯
   rw[Cf d,e,Em]at h2;omega
  ·omega
 exact JC h1 this
def R1(T:aw n){a b:End}(ha:a∈ends n)(hb:b∈ends n)(h:other n a=other n b):a=b:=by
 obtain⟨z,ha⟩:=af.mp ha;obtain⟨y,hb⟩:=af.mp hb;rw[<- (dk T ha).2.1,h,(dk T hb).2.1]
def R3(T:aw n){a b:End}(ha:a∈ends n)(hb:b∈ends n)(h:step n a=step n b):a=b:=
 R1 T ha hb (q1a (dD T ha) (dD T hb) h)
theorem aI{α:Type} [DecidableEq α]:∀{a b:List α},a.Nodup->(∀ z∈a,z∈b)->a.length<=b.length
 | [],b,_,_=>Bu _
 | x :: r,b,hn,hs=>by
  rw[Bk]at hn;have hx:=hs x Ag;have:=aI hn.2 λz hz=>by
   have bA:z≠x:=λe=>hn.1<|e ▸ hz;exact(Fq bA).mpr<|hs z<|Ak _ hz
  rw[Fw hx]at this;have hp:0 < b.length:=VD hx;rw[As];omega
def it{α:Type}(f:α->α):Nat->α->α
 | 0,a=>a
 | k+1,a=>f<|it f k a
theorem kz{α:Type}{f:α->α}{S:List α}(hf:∀ a∈S,f a∈S){a:α}(h:a∈S):∀ k,it f k a∈S
 | 0=>h
 | k+1=>hf _<|kz hf h k
theorem Ip{α:Type} [DecidableEq α] {f:α->α} {S:List α} (hf:∀ a∈S,f a∈S) (inj:∀ a∈S,∀ b∈S,f a=f b->a=b) {a:α} (h:a∈S):∃ k,0 < k/\k<=S.length/\it f k a=a:=by
 have cancel:∀ i j,it f i a=it f (i+j) a->it f j a=a:=by
  intro i
  induction i with
  | zero=>intro j e;rw[Fe]at e;exact e.symm
  | succ i ih=>
   intro j e;refine ih j ?_;rw[show i+1+j=(i+j)+1 by omega]at e;exact inj _ (kz hf h i) _ (kz hf h<|i+j) e
 refine GK λhn=>?_;have nd:((List.range<|S.length+1).map λi=>it f i a).Nodup:=by
  refine RN _ (R:=λi j=>i < j/\j < S.length+1) ?_ ?_
  ·rintro i j ⟨h1,h2⟩ e;refine hn ⟨j - i,⋯,⋯,cancel i (j - i) ?_⟩;rwa[show i+(j - i)=j by omega]
  ·rw[Cc];intro i j hi hj dQ;simp only[Ff];simp at hj;exact⟨dQ,hj⟩
 have:=aI nd λz hz=>by
  obtain⟨i,_,rfl⟩:=Ai.mp hz;exact kz hf h i
 simp at this;omega
theorem ju:∀n r,(row n r).length<=(ag n).length
 | [],r=>by simp[row,ag]
 | a :: n,0=>by simp[row,ag]
 | a :: n,r+1=>by
  have:=ju n r;simp[row,ag]at this ⊢;omega
theorem R5:∀n r,(ag<|n.take r).length<=(ag n).length
 | [],r=>by simp[ag]
 | a :: n,0=>by simp[ag]
 | a :: n,r+1=>by
  have:=R5 n r;simp[ag]at this ⊢;omega
structure fY(n:Net)(e:Nt.End)(fs:List End):Prop where
 pos:0 < fs.length
 len:fs.length<=(ends n).length
 at':∀ i,i < fs.length->fs[i]?=some (it (step n) i e)
 back:it (step n) fs.length e=e
 first:∀ i,0 < i->i < fs.length->it (step n) i e≠e
open L2
abbrev Ls(zs:Ñ):HO:= .lst<|zs.map V.str
abbrev Tp(e:End):HO:= .tup [.int e.1,.int e.2]
structure al(H:Hp)(R:Addr)(as:Ï)(n:Net):Prop where
 len:as.length=n.length
 lst:H R=some (.lst<|as.map λa=> .ref a.1)
 tup:∀(i:Nat) a r,as[i]?=some a->n[i]?=some r->H a.1=some (.tup [.str r.1,.ref a.2])/\H a.2=some (Ls r.2)
 inj:(as.map (·.2)).Nodup
variable{as:Ï}{R:Addr}{H:Hp}
def al.same{H':Hp}(h:al H R as n)(s:ah H H'):al H' R as n:=
 ⟨h.len,s _ _ h.lst,λi a r h1 h2=>⟨s _ _ (h.tup i a r h1 h2).1,s _ _ (h.tup i a r h1 h2).2⟩,h.inj⟩
theorem al.at(h:al H R as n){i:Nat}(hi:i < n.length) :
  ∃ a,as[i]?=some a/\fG (as.map λa=>V.ref a.1) (i:Int)=some (.ref a.1)/\H a.1=some (.tup [.str n[i].1,.ref a.2])/\H a.2=some (Ls<|row n i)/\row n i=n[i].2:=by
 have hl:=h.len;have e:as[i]?=some as[i]:=Ab ⋯;have er:row n i=n[i].2:=by unfold row;rw[Ab hi];rfl
 have q:=h.tup i as[i] n[i] e<|Ab hi;refine⟨as[i],e,oH (by rw[Ah,e];rfl),q.1,?_,er⟩;rw[er];exact q.2
variable{zs:Ñ}
def zK{j:Nat}(h:zs[j]?=some z):fG (zs.map V.str) (j:Int)=some (.str z):=oH<|by rw[Ah,h];rfl
inductive Pd (H:Hp):List Addr->List End->Prop where
 | nil:Pd H [] []
 | cons {t:Addr} {e:End} {ts:List Addr} {es:List End}:H t=some (Tp e)->Pd H ts es->Pd H (t :: ts) (e :: es)
variable{es:List End}{ts:List Addr}
theorem Pd.append{us:List Addr}{fs:List End}(h:Pd H ts es)(g:Pd H us fs):Pd H (ts++us) (es++fs):=by
 induction h with
 | nil=>exact g
 | cons h1 _ ih=>exact .cons h1 ih
theorem Pd.keep{H':Hp}(h:Pd H ts es)(k:∀ t e,H t=some (Tp e)->H' t=some (Tp e)):Pd H' ts es:=by
 induction h with
 | nil=>exact .nil
 | cons h1 _ ih=>exact .cons (k _ _ h1) ih
theorem Pd.length{H:Hp}{ts:List Addr}{es:List End}(h:Pd H ts es):ts.length=es.length:=by
 induction h with
 | nil=>rfl
 | cons _ _ ih=>rw[As,As,ih]
theorem Pd.at{H:Hp}{ts:List Addr}{es:List End}(h:Pd H ts es):∀{i:Nat} {e:End},es[i]?=some e->∃ t,ts[i]?=some t/\H t=some (Tp e):=by
 induction h with
 | nil=>intro i e h;simp at h
 | cons h1 _ ih=>
  intro i e h;cases i with
  | zero=>simp at h;subst h;exact⟨_,rfl,h1⟩
  | succ i=>simp only[Gb]at h ⊢;exact ih h
def b8(done:List<|Str×End)(z:Str):List End:=(done.filter λx=>decide (x.1=z)).map (·.2)
def dI(done:List<|Str×End)(y z:Str)(e:End):b8 (done++[(y,e)]) z=b8 done z++(if y=z then [e]else []):=by
 unfold b8;rw[Ct,Aj]
 congr 1
 by_cases h:y=z
 ·rw[BP h];simp[h]
 ·rw[BK h];simp[h]
structure bf(H0 H:Hp)(d:Addr)(done:List<|Str×End)(Y:List<|Key×V)(ks:Ñ)(A:Str->Option (Addr×List Addr)):Prop where
 same:ah H0 H
 free:H0 d=none
 dict:H d=some (.dK Y)
 keys:Y.map (·.1)=ks.map Sum.inr
 nodup:ks.Nodup
 mem:∀ z,z∈ks↔(A z).isSome=true
 val:∀ z,ao Y (Sum.inr z)=(A z).map λa=> .ref a.1
 at':∀ z a ts,A z=some (a,ts)->H0 a=none/\a≠d/\H a=some (.lst<|ts.map V.ref)/\Pd H ts (b8 done z)
 inj:∀ z y a ts us,A z=some (a,ts)->A y=some (a,us)->z=y
 gQ:∀ z,A z=none->b8 done z=[]
 some':∀ z a ts,A z=some (a,ts)->b8 done z≠[]
variable{d:Addr}
def bf.start(h:H d=none):bf H (upd H d<|.dK []) d [] [] [] (λ_=>none) where
 same:=λb u q=>by rwa[au<|bh q h]
 free:=h
 dict:=av
 keys:=rfl
 nodup:=Cn
 mem:=λz=>by simp
 val:=λz=>rfl
 at':=λz a ts h=>by cases h
 inj:=λz y a ts us h=>by cases h
 gQ:=λz _=>rfl
 some':=λz a ts h=>by cases h
def vQ{t a:Addr}{xs:List V}(h:H t=some (Tp e))(g:H a=some (.lst xs)):t≠a:=bV h g λz=>nomatch z
variable{A:Str->Option (Addr×List Addr)}{ks:Ñ}{Y:List (Key×V)}{done:List (Str×End)}
def bf.old{H0:Hp}(S:bf H0 H d done Y ks A){a l0 t:Addr}
  (hA:A z=some (a,ts)) (hl:H l0=none) (ht:(upd H l0<|.lst []) t=none) :
  bf H0 (upd (upd (upd H l0<|.lst []) t<|Tp e) a<|.lst<|ts.map V.ref++[.ref t]) d (done++[(z,e)]) Y ks (λy=>if y=z then some (a,ts++[t])else A y):=by
 obtain⟨q1,q2,q3,q4⟩:=S.at' z a ts hA;have zL:H t=none:=by
  by_cases c:t=l0
  ·rw[c,av]at ht;cases ht
  ·rwa[au c]at ht
 have zN:=(bh q3 zL).symm;have keep:∀ b u,b≠a->H b=some u->(upd (upd (upd H l0<|.lst []) t<|Tp e) a<|.lst<|ts.map V.ref++[.ref t]) b=some u:=λb u h1 h2=>by
  rwa[au h1,au<|bh h2 zL,au<|bh h2 hl]
 have kt:∀ b f,H b=some (Tp f)->(upd (upd (upd H l0<|.lst []) t<|Tp e) a<|.lst<|ts.map V.ref++[.ref t]) b=some (Tp f):=λb f h=>keep b _ (vQ h q3) h;have et:(upd (upd (upd H l0<|.lst []) t<|Tp e) a<|.lst<|ts.map V.ref++[.ref t]) t=some (Tp e):=by rw[au zN,av]
 refine⟨λb u h=>?_,S.free,keep d _ (CG q2) S.dict,S.keys,S.nodup,λy=>?_,λy=>?_,λy a' i6 h=>?_,λy y' a' i6 us h1 h2=>?_,λy h=>?_,λy a' i6 h=>?_⟩
 ·exact keep b u (bh h q1)<|S.same _ _ h
 ·rw[S.mem y]
  by_cases c:y=z
  ·rw[BP c,c,hA];simp
  ·rw[BK c]
 ·rw[S.val y]
  by_cases c:y=z
  ·rw[BP c,c,hA];rfl
  ·rw[BK c]
 ·by_cases c:y=z
  ·rw[BP c]at h;cases h;refine⟨q1,q2,by rw[av,Aj];rfl,?_⟩;rw[dI,c,BP rfl];exact(q4.keep kt).append<|.cons et .nil
  ·rw[BK c]at h;obtain⟨r1,r2,r3,r4⟩:=S.at' y a' i6 h;have bA:a'≠a:=λe2=>c<|S.inj y z a i6 ts (e2 ▸ h) hA;refine⟨r1,r2,keep _ _ bA r3,?_⟩;rw[dI,BK λh=>c h.symm,Be];exact r4.keep kt
 ·by_cases c:y=z <;> by_cases c':y'=z
  ·rw[c,c']
  ·rw[BP c]at h1;rw[BK c']at h2;cases h1;exact absurd (S.inj y' z a us ts h2 hA) c'
  ·rw[BK c]at h1;rw[BP c']at h2;cases h2;exact absurd (S.inj y z a i6 ts h1 hA) c
  ·rw[BK c]at h1;rw[BK c']at h2;exact S.inj y y' a' i6 us h1 h2
 ·by_cases c:y=z
  ·rw[BP c]at h;cases h
  ·rw[BK c]at h;rw[dI,BK λh=>c h.symm,Be];exact S.gQ y h
 ·by_cases c:y=z
  ·rw[dI,BP c.symm];simp
  ·rw[BK c]at h;rw[dI,BK λh=>c h.symm,Be];exact S.some' y a' i6 h
def bf.new{H0:Hp}(S:bf H0 H d done Y ks A){l0 t:Addr}
  (hA:A z=none) (hl:H l0=none) (ht:(upd (upd H l0<|.lst []) d<|.dK<|putK Y (Sum.inr z)<|.ref l0) t=none) :
  bf H0 (upd (upd (upd (upd H l0<|.lst []) d<|.dK<|putK Y (Sum.inr z)<|.ref l0) t<|Tp e) l0<|.lst [.ref t]) d (done++[(z,e)]) (putK Y (Sum.inr z)<|.ref l0) (ks++[z]) (λy=>if y=z then some (l0,[t])else A y):=by
 have i5:=bh S.dict hl;have Iq:t≠d:=λc=>by rw[c,av]at ht;cases ht
 have l7:t≠l0:=λc=>by rw[au Iq,c,av]at ht;cases ht
 have zL:H t=none:=by rwa[au Iq,au l7]at ht
 have vn:ao Y (Sum.inr z)=none:=by rw[S.val z,hA];rfl
 have keep:∀ b u,b≠d->H b=some u->(upd (upd (upd (upd H l0<|.lst []) d<|.dK<|putK Y (Sum.inr z)<|.ref l0) t<|Tp e) l0<|.lst [.ref t]) b=some u:=λb u h1 h2=>by
  rwa[au<|bh h2 hl,au<|bh h2 zL,au h1,au<|bh h2 hl]
 have kt:∀ b f,H b=some (Tp f)->(upd (upd (upd (upd H l0<|.lst []) d<|.dK<|putK Y (Sum.inr z)<|.ref l0) t<|Tp e) l0<|.lst [.ref t]) b=some (Tp f):=λb f h=>keep b _ (bV h S.dict λz=>nomatch z) h;have h0l:=S.same.free hl;have zk:z∉ks:=λh=>by
  have:=(S.mem z).mp h;rw[hA]at this;cases this
 refine⟨λb u h=>?_,S.free,?_,?_,?_,λy=>?_,λy=>?_,λy a' i6 h=>?_,λy y' a' i6 us h1 h2=>?_,λy h=>?_,λy a' i6 h=>?_⟩
 ·exact keep b u (bh h S.free)<|S.same _ _ h
 ·rw[au i5,au Iq.symm,av]
 ·rw[Qg _ vn,Aj,S.keys,Aj];rfl
 ·rw[Cj];exact⟨S.nodup,by simp,λx hx y hy e=>by rw[Af]at hy;subst hy e;exact zk hx⟩
 ·rw[An,Af,S.mem y]
  by_cases c:y=z
  ·rw[BP c];simp[c]
  ·rw[BK c];simp[c]
 ·rw[dC]
  by_cases c:y=z
  ·rw[BP (by rw[c]),BP c];rfl
  ·rw[BK λh=>c<|Sum.inr.inj h,BK c,S.val y]
 ·by_cases c:y=z
  ·rw[BP c]at h;cases h;refine⟨h0l,i5.symm,by rw[av];rfl,?_⟩;rw[dI,c,BP rfl,S.gQ z hA];exact .cons (by rw[au l7,av]) .nil
  ·rw[BK c]at h;obtain⟨r1,r2,r3,r4⟩:=S.at' y a' i6 h;refine⟨r1,r2,keep _ _ r2 r3,?_⟩;rw[dI,BK λh=>c h.symm,Be];exact r4.keep kt
 ·by_cases c:y=z <;> by_cases c':y'=z
  ·rw[c,c']
  ·rw[BP c]at h1;rw[BK c']at h2;cases h1;exact absurd hl<|by rw[(S.at' y' l0 us h2).2.2.1];exact λh=>nomatch h
  ·rw[BK c]at h1;rw[BP c']at h2;cases h2;exact absurd hl<|by rw[(S.at' y l0 i6 h1).2.2.1];exact λh=>nomatch h
  ·rw[BK c]at h1;rw[BK c']at h2;exact S.inj y y' a' i6 us h1 h2
 ·by_cases c:y=z
  ·rw[BP c]at h;cases h
  ·rw[BK c]at h;rw[dI,BK λh=>c h.symm,Be];exact S.gQ y h
 ·by_cases c:y=z
  ·rw[dI,BP c.symm];simp
  ·rw[BK c]at h;rw[dI,BK λh=>c h.symm,Be];exact S.some' y a' i6 h
theorem Ir:∀n m k,ia k (n++m)=ia k n++ia (k+n.length) m
 | [],m,k=>rfl
 | a :: n,m,k=>by
  show bJ k a.2 0++ia (k+1) (n++m)=(bJ k a.2 0++ia (k+1) n)++ia (k+(n.length+1)) m;rw[Ir n m<|k+1,Au,show k+1+n.length=k+(n.length+1) by omega]
theorem tJ(h:r < n.length):bt (n.take<|r+1)=bt (n.take r)++bJ r (row n r) 0:=by
 unfold bt;rw[Bx,Ab h,Ir];have e:(n.take r).length=r:=by rw[Bh];omega
 rw[e,Fe];have er:row n r=n[r].2:=by unfold row;rw[Ab h];rfl
 rw[er];show _++(bJ r n[r].2 0++[])=_;rw[Be]
theorem qC{ts:Ñ}(h:ts[p]?=some z):bJ r (ts.take<|p+1) 0=bJ r (ts.take p) 0++[(z,(r,p))]:=by
 unfold bJ;have hp:=(Ac.mp h).1;rw[Bx,h,List.zipIdx_append,Aj];have e:(ts.take p).length=p:=by rw[Bh];omega
 rw[e,Fe];rfl
structure bR(H:Hp)(d:Addr)(n:Net)(ks:Ñ):Prop where
 dict:∃ Y,H d=some (.dK Y)/\Y.map (·.1)=ks.map Sum.inr/\∀ z∈ag n,∃ a ts,ao Y (Sum.inr z)=some (.ref a)/\H a=some (.lst<|ts.map V.ref)/\Pd H ts (pos n z)
 nodup:ks.Nodup
 mem:∀ z,z∈ks↔z∈ag n
def bR.same{H':Hp}(S:bR H d n ks)(s:ah H H'):bR H' d n ks:=by
 obtain⟨Y,h1,h2,h3⟩:=S.dict;refine⟨⟨Y,s _ _ h1,h2,λz hz=>?_⟩,S.nodup,S.mem⟩;obtain⟨a,ts,q1,q2,q3⟩:=h3 z hz;exact⟨a,ts,q1,s _ _ q2,q3.keep λt e h=>s _ _ h⟩
def eV:z∈ag n↔pos n z≠[]:=by
 rw[<- Ed,<- qA,Du]
theorem bf.whole{H0:Hp}(S:bf H0 H d (bt n) Y ks A):bR H d n ks:=by
 have mem:∀ z,z∈ks↔z∈ag n:=λz=>by
  rw[S.mem z,eV];cases h:A z with
  | none=>simp;exact S.gQ z h
  | some p=>
   obtain⟨a,ts⟩:=p;simp;exact S.some' z a ts h
 refine⟨⟨Y,S.dict,S.keys,λz hz=>?_⟩,S.nodup,mem⟩;have:=(S.mem z).mp<|(mem z).mpr hz;cases h:A z with
 | none=>rw[h]at this;cases this
 | some p=>
  obtain⟨a,ts⟩:=p;obtain⟨q1,q2,q3,q4⟩:=S.at' z a ts h;exact⟨a,ts,by rw[S.val z,h];rfl,q3,q4⟩
def all2(e:Nat->Bool):(List.range 2).all e=(e 0 && e 1):=by
 show(([0,1]:List Nat).all e)=_;simp
theorem R9(x y:End):(cC (.int x.1) (.int y.1) && cC (.int x.2) (.int y.2))=decide (x=y):=by
 obtain⟨a,b⟩:=x;obtain⟨c,d⟩:=y
 by_cases h:a=c <;> by_cases h2:b=d
 ·subst h h2;simp[cC]
 ·have:¬(b:Int)=(d:Int):=λe=>h2 ⋯;simp[cC,h2,this]
 ·have:¬(a:Int)=(c:Int):=λe=>h ⋯;simp[cC,h,this]
 ·have:¬(a:Int)=(c:Int):=λe=>h ⋯;simp[cC,h,this]
section
variable{X:Cx}{s t:Addr}{x y:End}
theorem Sd:∀j u v,[V.int x.1,.int x.2][j]?=some u->[V.int y.1,.int y.2][j]?=some v->jR X H 0 u v (if j=0 then cC (.int x.1) (.int y.1)else cC (.int x.2) (.int y.2))
 | 0,u,v,h1,h2=>by
  cases h1;cases h2;exact qv rfl rfl
 | 1,u,v,h1,h2=>by
  cases h1;cases h2;exact qv rfl rfl
 | j+2,u,v,h1,h2=>by simp at h1
def q8u(hs:H s=some (Tp x))(ht:H t=some (Tp y)):lX X H 1 (.ref s) (.ref t) (decide (x=y)):=by
 have:=RC (X:=X) (λj=>if j=0 then cC (.int x.1) (.int y.1)else cC (.int x.2) (.int y.2)) (aS.of hs) (aS.of ht) rfl Sd;rw[show([V.int (x.1:Int),.int x.2].length)=2 from rfl,all2]at this;have e:=R9 x y;simp only[DP]at this;rwa[BK ∅,e]at this
def q9z(hs:H s=some (Tp x))(ht:H t=some (Tp y)):oU X H 1 (.ref s) (.ref t) (decide (x=y)):=by
 have:=RE (X:=X) (λj=>if j=0 then cC (.int x.1) (.int y.1)else cC (.int x.2) (.int y.2)) (aS.of hs) (aS.of ht) rfl Sd;rw[show([V.int (x.1:Int),.int x.2].length)=2 from rfl,all2]at this;have e:=R9 x y;simp only[DP]at this;rwa[BK ∅,e]at this
end
abbrev lets:Str:= "abcdefghijklmnopqrstuvwxyz0123456789"
def Se:lets.cps.toList.length=36:=by decide +kernel
def k6b:lets.cps.toList.Nodup:=by decide +kernel
def sgn(i:Int):Nat:=(fG lets.cps.toList<|i % 36).getD 0
theorem Iu(i:Int):fG lets.cps.toList (i % 36)=some (sgn i):=by
 have hj:(i % 36).toNat < lets.cps.toList.length:=by rw[Se];omega
 have q:=oH (xs:=lets.cps.toList) (j:=(i % 36).toNat) (v:=lets.cps.toList[(i % 36).toNat]) (by simp[hj]);rw[show(((i % 36).toNat:Nat):Int)=i % 36 by omega]at q;unfold sgn;rw[q];rfl
theorem Sg{i j:Int}(h:sgn i=sgn j):i % 36=j % 36:=by
 have key:∀ k:Int,lets.cps.toList[(k % 36).toNat]?=some (sgn k):=λk=>by
  have hj:(k % 36).toNat < lets.cps.toList.length:=by rw[Se];omega
  have q:=oH (xs:=lets.cps.toList) (j:=(k % 36).toNat) (v:=lets.cps.toList[(k % 36).toNat]) (by simp[hj]);rw[show(((k % 36).toNat:Nat):Int)=k % 36 by omega,Iu]at q;rw[Ab hj,Option.some.inj q]
 have hi:=key i;have hj:=key j;rw[h]at hi;obtain⟨l1,e1⟩:=Ac.mp hi;obtain⟨l2,e2⟩:=Ac.mp hj;have:=(Gj (h₁:=l2) k6b).mp<|e1.trans e2.symm;have a0:0<=i % 36:=Bs _ ∅;have b0:0<=j % 36:=Bs _ ∅;omega
def turn(b:Int)(sp:Int)(v k:Nat):Int:=b / 64+(k:Int) * (b / 7 % 5)+(if(k:Int)=sp then(v:Int)else 0)
def nm(b sp:Int)(v:Nat):Nat->Str
 | 0=>⟨#[]⟩
 | k+1=>nm b sp v k++⟨#[sgn<|turn b sp v k]⟩
def app_list(x y:Str):(x++y).cps.toList=x.cps.toList++y.cps.toList:=by
 show(x.cps++y.cps).toList=_;simp
theorem zO(b sp:Int)(v:Nat):∀ k,(nm b sp v k).cps.toList=(List.range k).map λj=>sgn<|turn b sp v j
 | 0=>rfl
 | k+1=>by
  show(nm b sp v k++⟨#[sgn<|turn b sp v k]⟩).cps.toList=_;rw[app_list,zO b sp v k,Dc,Aj];rfl
variable{b:Int}
theorem q9y{sp:Int}{u v k:Nat}(hu:u < 36)(hv:v < 36)(h0:0<=sp)(h1:sp < (k:Int))(h:nm b sp u k=nm b sp v k):u=v:=by
 have e:(nm b sp u k).cps.toList=(nm b sp v k).cps.toList:=by rw[h]
 rw[zO,zO]at e;have hk:sp.toNat < k:=⋯
 have q:((List.range k).map λj=>sgn<|turn b sp u j)[sp.toNat]?=((List.range k).map λj=>sgn<|turn b sp v j)[sp.toNat]?:=by rw[e]
 rw[Ah,Ah,Ek hk]at q;have q2:=Option.some.inj q;have q3:=Sg q2;unfold turn at q3;rw[show((sp.toNat:Nat):Int)=sp by omega,BP rfl,BP rfl]at q3;omega
theorem fold_list(c:Nat):∀k acc,((List.replicate k (#[c]:Array Nat)).foldl (·++·) acc).toList=acc.toList++List.replicate k c
 | 0,acc=>by simp
 | k+1,acc=>by
  rw[List.replicate_succ,Dp,fold_list c k,List.replicate_succ];simp
theorem mul_list(c:Nat){i:Int}(h:1<=i):(Txt.mul ⟨#[c]⟩ i).cps.toList=List.replicate i.toNat c:=by
 unfold Txt.mul;rw[BK<|⋯]
 by_cases e:i=1
 ·subst e;rfl
 ·have e1:(i == 1 || (⟨#[c]⟩:Str).length == 0)=false:=by
   have:(i == 1)=false:=by simpa using e
   rw[this];rfl
  rw[e1];simp only[Bb,CV];have:=fold_list c i.toNat #[]
  simpa using this
def aW(b:Int)(v:Nat):Str:=if b % 3=2 then Txt.mul ⟨#[sgn<|b / 64+(v:Int) / 8]⟩ (1+(v:Int) % 8)else nm b (b / 8 % (1+b % 8)) v (1+b % 8).toNat
theorem k5s{u v:Nat}(hu:u < 36)(hv:v < 36)(h:aW b u=aW b v):u=v:=by
 unfold aW at h
 by_cases c:b % 3=2
 ·rw[BP c,BP c]at h;have e:(Txt.mul ⟨#[sgn<|b / 64+(u:Int) / 8]⟩<|1+(u:Int) % 8).cps.toList=(Txt.mul ⟨#[sgn<|b / 64+(v:Int) / 8]⟩<|1+(v:Int) % 8).cps.toList:=by rw[h]
  rw[mul_list _ ⋯,mul_list _<|⋯]at e;have l:=BZ List.length e;rw[Fk,Fk]at l;have hd:(List.replicate (1+(u:Int) % 8).toNat<|sgn<|b / 64+(u:Int) / 8)[0]?=(List.replicate (1+(v:Int) % 8).toNat<|sgn<|b / 64+(v:Int) / 8)[0]?:=by rw[e]
  rw[Fb,Fb,BP ⋯,BP<|⋯]at hd;have q:=Sg<|Option.some.inj hd;omega
 ·rw[BK c,BK c]at h;refine q9y hu hv (Bs _<|⋯) ?_ h;have:=Ce (b / 8) (show 0 < 1+b % 8 by omega);omega
def namesOf(b:Int)(m:Nat):Ñ:=(List.range m).map<|aW b
theorem zP{m:Nat}(h:m<=36):(namesOf b m).Nodup:=by
 unfold namesOf;refine RN _ (R:=λi j=>i < j/\j < m) ?_ ?_
 ·rintro i j ⟨h1,h2⟩ e;have:=k5s ⋯ ⋯ e;omega
 ·rw[Cc];intro i j hi hj dQ;simp only[Ff];simp at hj;exact⟨dQ,hj⟩
def zQ(b:Int)(m:Nat):namesOf b (m+1)=namesOf b m++[aW b m]:=by
 unfold namesOf;rw[Dc,Aj];rfl
def Iv(b:Int)(m:Nat):(namesOf b m).length=m:=by unfold namesOf;simp
def k6d{m i:Nat}(h:i < m):(namesOf b m)[i]?=some (aW b i):=by
 unfold namesOf;rw[Ah,Ek h];rfl
end Nt
namespace Q1
open PySem L2
def top(i:Nat):Stmt:=PySem.Challenge.pw_threewebs_k41_doubles_by_walkers.main.body.getD i<|.Pass ⟨0,0,0,0⟩
abbrev zR:Stmt:=top 6
abbrev zS:Stmt:=top 7
abbrev Iw:Stmt:=top 8
abbrev Iy:Stmt:=top 9
abbrev Iz:Stmt:=top 10
abbrev zT:Stmt:=top 11
abbrev zU:Stmt:=top 12
abbrev zV:Stmt:=top 13
abbrev zW:Stmt:=top 15
abbrev IA:Stmt:=top 16
abbrev vR:Stmt:=top 17
abbrev IB:Stmt:=top 19
abbrev iF:Stmt:=top 20
abbrev qD:Stmt:=top 21
abbrev zX:Stmt:=top 22
abbrev vS:Stmt:=top 23
abbrev qF:Stmt:=top 25
abbrev qG:Stmt:=top 26
abbrev vT:Stmt:=top 27
abbrev IC:Stmt:=top 29
abbrev zY:Stmt:=top 30
abbrev vU:Stmt:=top 31
abbrev zZ:Stmt:=top 32
abbrev IE:Stmt:=top 34
abbrev qH:Stmt:=top 35
abbrev IG:Stmt:=top 36
abbrev IH:Stmt:=top 37
abbrev II:Stmt:=top 38
abbrev IJ:Stmt:=top 39
abbrev IL:Stmt:=top 40
abbrev qI:Stmt:=top 41
abbrev qJ:Stmt:=top 42
abbrev z6:Stmt:=top 43
abbrev z7:Stmt:=top 44
abbrev z8:Stmt:=top 45
abbrev vV:Stmt:=top 46
abbrev z9:Stmt:=top 47
abbrev oW:Stmt:=top 48
abbrev IM:Stmt:=top 49
abbrev AA:Stmt:=top 50
abbrev iG:Stmt:=top 51
structure Txt(mg:Ò):Prop where
 oX:mg "isinstance" = none
 IP:mg "tuple" = none
 IQ:mg "str" = none
 m4:mg "int" = none
 vW:mg "bool" = none
 gR:mg "list" = none
 vX:mg "dict" = none
 qK:mg "set" = none
 enum:mg "enumerate" = none
 zip:mg "zip" = none
 len:mg "len" = none
 range:mg "range" = none
 sorted:mg "sorted" = none
 max:mg "max" = none
 all:mg "all" = none
 IT:mg "ValueError" = none
 anyB:mg "any" = none
open Nt bD
variable{n:Nat}
theorem small(h:n<=100000):n<=sizeLine:=by rw[FJ];omega
theorem bI(h:n<=100000):n < sizeLine:=by rw[FJ];omega
variable{H:Hp}
def aM{p:Addr}(h:H p=none)(o:HO):ah H (upd H p o):=λb u q=>by rwa[au<|bh q h]
def cX{H1 H2:Hp}{r:Addr}{o:HO}(s:ah H1 H2)(h:H1 r=none):ah H1 (upd H2 r o):=λb u q=>by
 rw[au<|bh q h];exact s _ _ q
variable{zs:Ñ}
def IU{l:Addr}{y:Str}:upd H l (.lst<|zs.map V.str++[V.str y])=upd H l (Ls<|zs++[y]):=by
 show _=upd H l (.lst<|(zs++[y]).map V.str);rw[Aj];rfl
def AB(K:PySem.W.Frag):Sp:=λvs H Q _=>∃(a:Addr) (ns:List Int) (k:Int),vs=[.ref a,.int k]/\aj K H a (ns.map V.int)/\0<=k/\∀ i,Q (.int i) H
def IY(K:PySem.W.Frag):Sp:=λvs H Q _=>∃(a:Addr) (ns:List Int) (k:Int),vs=[.ref a,.int k]/\aj K H a (ns.map V.int)/\0<=k/\∀ i H',ah H H'->Q (.int i) H'
def IZ:Sp:=λvs H Q _=>∃b m,vs=[.int b,.int m]/\0<=m/\m<=36/\∀ l H',ah H H'->H l=none->H' l=some (Ls<|namesOf b m.toNat)->Q (.ref l) H'
def AF:Sp:=λvs H Q _=>∃R as n,vs=[.ref R]/\al H R as n/\n.length<=1000/\(ag n).length<=1000/\∀ d ks H',ah H H'->H d=none->bR H' d n ks->Q (.ref d) H'
def Ja:Sp:=λvs H Q _=>∃R d t as n ks e,vs=[.ref R,.ref d,.ref t]/\al H R as n/\bR H d n ks/\aw n/\H t=some (Tp e)/\e∈ends n/\∀ u,H u=some (Tp<|other n e)->Q (.ref u) H
def Jb:Sp:=λvs H Q _=>∃R d t as n ks e,vs=[.ref R,.ref d,.ref t,.int 1]/\al H R as n/\bR H d n ks/\aw n/\H t=some (Tp e)/\e∈ends n/\∀ u H',ah H H'->H u=none->H' u=some (Tp<|step n e)->Q (.ref u) H'
def Jc:Sp:=λvs H Q _=>∃R d t as n ks e,vs=[.ref R,.ref d,.ref t]/\al H R as n/\bR H d n ks/\aw n/\H t=some (Tp e)/\e∈ends n/\(ends n).length<=1000 /\
 ∀ l ts fs H',ah H H'->H l=none->H' l=some (.lst<|ts.map V.ref)->Pd H' ts fs->fY n e fs->Q (.ref l) H'
variable{Z:Heap}{mg:Ò}{K:PySem.W.Frag}{ns:List Int}{fd:FuncData}{f:Addr}{i:Int}{Y:List (Key×V)}
section
variable{P:Program}{w:World}
def q8o:ak ["_law_script","_law_k"] ["_law_script","_law_k"] (aP IE):=bZ
theorem q4u{k:Int}(h0:0<=k)(h1:k < (ns.length:Int)):∃ v:Int,fG (ns.map V.int) k=some (.int v):=by
 have hj:k.toNat < ns.length:=⋯
 have q:=oH (xs:=ns.map V.int) (j:=k.toNat) (v:= .int ns[k.toNat]) (by simp[hj]);rw[show((k.toNat:Nat):Int)=k by omega]at q;exact⟨_,q⟩
def q59(F:bo K "_law_cell_at" "_law_cell_at" IE f fd)(T:Txt mg):aD P w K mg Z bz 1 f fd ["_law_script","_law_k"] (AB K):=by
 refine F.gc q8o λb0 H vs Q E hr h=>?_;obtain⟨a,ns,k,rfl,hS,h0,q⟩:=h;refine fP<|cH Py<|ae 1<|bP dH T.len DR<|ai<|ae 0<|ax ⟨a,_,rfl,.inl hS,_,_,rfl,rfl,_,rfl,?_⟩;refine iq (λc=>?_) λc=>?_
 ·have c':=BX c;obtain⟨v,hv⟩:=q4u (ns:=ns) h0 (by rw[Aa]at c';exact c');exact bQ<|bb cL<|ae 0<|ae 1 ⟨a,_,_,.int v,rfl,rfl,hS,hv,q v⟩
 ·exact a7<|bQ<|aE<|q 0
abbrev qL:List V:=[.int 48271,.int 69621,.int 16807,.int 39373,.int 21401,.int 60493,.int 87721,.int 31337]
abbrev gS:List V:=[.int 99991,.int 99989,.int 99971,.int 99961,.int 99929,.int 99923,.int 99907,.int 99901]
def eight(h0:0<=i)(h1:i < 8):i=0\/i=1\/i=2\/i=3\/i=4\/i=5\/i=6\/i=7:=by
 obtain⟨k,rfl⟩:=TF h0;exact(by decide:∀ k:Fin 8,(k.1:Int)=0\/(k.1:Int)=1\/(k.1:Int)=2\/(k.1:Int)=3\/(k.1:Int)=4\/(k.1:Int)=5\/(k.1:Int)=6\/(k.1:Int)=7) ⟨k,Int.ofNat_lt.mp h1⟩
def x1k(h0:0<=i)(h1:i < 8):∃ m:Int,fG qL i=some (.int m)/\0 < m/\m < 100000:=by
 rcases eight h0 h1 with rfl | rfl | rfl | rfl | rfl | rfl | rfl | rfl <;> exact⟨_,rfl,∅,∅⟩
def q72(h0:0<=i)(h1:i < 8):∃ m:Int,fG gS i=some (.int m)/\0 < m/\m < 100000:=by
 rcases eight h0 h1 with rfl | rfl | rfl | rfl | rfl | rfl | rfl | rfl <;> exact⟨_,rfl,∅,∅⟩
def oY:ak ["_law_script","_law_at","_law_by","_law_prime","_law_cell","_law_big_here","_law_k","_law_one"] ["_law_script","_law_at"] (aP qH):=bZ
theorem q9g(F:bo K "_law_big" "_law_big" qH f fd)(T:Txt mg)(G:aQ P w K mg Z 1 "_law_cell_at" ["_law_script","_law_k"]<|AB K) :
  aD P w K mg Z bz 2 f fd ["_law_script","_law_at"] (IY K):=by
 refine F.gc oY λb0 H vs Q E hr h=>?_;obtain⟨a,ns,k,rfl,hS,h0,q⟩:=h;have nd:=oY.nd;refine aT 2 nd (fv<|ai<|aE<|ai<|aE<|ai<|aE<|ai<|aE<|ai<|aE<|ai<|aE<|ai<|aE<|ai<|aE<|ax ⟨(by show 8<=sizeLine;decide),λp hp=>?_⟩);refine aT 3 nd (fv<|ai<|aE<|ai<|aE<|ai<|aE<|ai<|aE<|ai<|aE<|ai<|aE<|ai<|aE<|ai<|aE<|ax ⟨(by show 8<=sizeLine;decide),λp2 kd=>?_⟩);have npp:p≠p2:=by
  intro e;rw[<- e,av]at kd;cases kd
 have s1:ah H (upd H p<|.tup qL):=aM hp _;have s2:ah H (upd (upd H p<|.tup qL) p2<|.tup gS):=s1.trans<|aM kd _;have e1:(upd (upd H p<|.tup qL) p2<|.tup gS) p=some (.tup qL):=by rw[au npp,av]
 have e2:(upd (upd H p<|.tup qL) p2<|.tup gS) p2=some (.tup gS):=av;generalize upd (upd H p<|.tup qL) p2 (.tup gS)=H2 at s2 e1 e2 ⊢;refine aT 4 nd<|bG G hr<|ai<|ae 0<|ai<|ae 1<|ax ⟨a,ns,k,rfl,s2.seq hS,h0,λb=>?_⟩;refine vq True True (λR qq=>?_) (λ_=>?_) λ_=>a7 ?_
 ·refine mQ (zg<|cH jl<|aU cJ<|ae 4<|aE ⟨_,_,rfl,rfl,(by show(0:Int) < 2;decide),aE ⟨rfl,_,rfl,?_⟩⟩);refine iq (λc=>?_) (λc=>qq false (λz=>nomatch z) λ_=>trivial);exact zh<|cH Y3<|ae 4<|aU EG<|aE<|aE ⟨_,_,rfl,rfl,⟨∅,∅,∅⟩,_,_,rfl,rfl,_,rfl,qq _ (λ_=>trivial) λ_=>trivial⟩
 ·exact bQ<|aU iY<|ae 4<|aE ⟨_,_,rfl,rfl,⟨∅,∅⟩,q _ _ s2⟩
 refine aT 5 nd<|aE ?_;refine ke T.range<|aE ⟨60,rfl,∅,∅,kg (n:=60) (λ_ σ H3=>H3=H2/\∃(x:Int) (u v:Option V),σ=[⇑a,some<|.int k,⇑p,⇑p2,some<|.int b,some<|.int x,u,v]) ⟨rfl,0,_,_,rfl⟩ ?_ ?_⟩
 ·rintro i σ H3 hi ⟨rfl,x,u,v,rfl⟩;have i9:0<=(0+(i:Int)) % 9:=Bs _ ∅;obtain⟨m1,f1,g1,g2⟩:=x1k (i:=(0+(i:Int)) % 8) (Bs _<|∅) (Ce _<|∅);obtain⟨m2,f2,g3,g4⟩:=q72 (i:=(0+(i:Int)) % 8) (Bs _<|∅) (Ce _<|∅);refine a8 6 nd ?_;refine aT 7 nd<|aU fj<|aU fj<|aU cJ<|bG G hr<|ai<|ae 0<|ai<|aU fj<|ae 1<|aU cJ<|ae 6<|aE ?_;refine⟨_,_,rfl,rfl,(by show(0:Int) < 9;decide),_,_,rfl,rfl,ax ⟨a,ns,_,rfl,s2.seq hS,?_,λc=>?_⟩⟩
  ·show 0<=k+(0+(i:Int)) % 9;omega
  refine aU EG (aE<|aE ⟨_,_,rfl,rfl,⟨∅,∅,∅⟩,_,_,rfl,rfl,(by show(0:Int) < 10 ^ (18:Int).toNat;decide),aE ⟨_,_,rfl,rfl,?_⟩⟩);refine aU yQ<|ae 6<|ae 6 ?_;refine⟨_,_,rfl,rfl,.inl ⟨⋯,⋯⟩,_,_,rfl,rfl,?_⟩;refine aT 5 nd (aU fj<|aU yQ<|ae 5<|aE ⟨_,_,rfl,rfl,.inr ⟨∅,∅⟩,?_⟩);refine aU cJ (aU cJ<|aU yQ<|ae 7<|bb cv<|ae 2<|aU cJ<|ae 6<|aE ⟨_,_,rfl,rfl,(by show(0:Int) < 8;decide),p,_,_,_,rfl,rfl,aS.of e1,f1,_,_,rfl,rfl,.inr ⟨⋯,⋯⟩,?_⟩);refine bb cv (ae 3<|aU cJ<|ae 6<|aE ⟨_,_,rfl,rfl,(by show(0:Int) < 8;decide),p2,_,_,_,rfl,rfl,aS.of e2,f2,_,_,rfl,rfl,g3,aE ⟨_,_,rfl,rfl,(by show(0:Int) < 7919;decide),_,_,rfl,rfl,?_⟩⟩);exact a7 ⟨rfl,_,_,_,rfl⟩
 ·rintro σ H3 ⟨rfl,x,u,v,rfl⟩;exact bQ<|ae 5<|q x _ s2
abbrev NN:Ñ:=["_law_stem","_law_many","_law_signs","_law_size","_law_spot","_law_names_here","_law_v","_law_name","_law_k","_law_turn"]
def i7:ak NN ["_law_stem","_law_many"] (aP IG):=bZ
theorem q13(F:bo K "_law_names" "_law_names" IG f fd)(T:Txt mg):aD P w K mg Z bz 1 f fd ["_law_stem","_law_many"] IZ:=by
 refine F.gc i7 λb0 H vs Q E hr h=>?_;obtain⟨b,m,rfl,m0,m1,q⟩:=h;have nd:=i7.nd;have s0:0<=b % 8:=Bs _ ∅;have s1:b % 8 < 8:=Ce _ ∅;refine aT 2 nd<|vj ?_;refine aT 3 nd (aU fj<|aE<|aU cJ<|ae 0<|aE ⟨_,_,rfl,rfl,(by show(0:Int) < 8;decide),_,_,rfl,rfl,?_⟩);refine aT 4 nd (aU cJ<|aU iY<|ae 0<|aE ⟨_,_,rfl,rfl,⟨∅,∅⟩,ae 3 ⟨_,_,rfl,rfl,(by show 0 < 1+b % 8;omega),?_⟩⟩);refine aT 5 nd<|dS<|ax ⟨Z0,λl hl=>?_⟩;have spE:b / 8 % (1+b % 8)=b / 8 % (1+b % 8):=rfl;refine ke T.range<|ae 1 ⟨m,rfl,⋯,⋯,kg (n:=m.toNat) (λi σ H3=>H3=upd H l (Ls<|namesOf b i)/\∃ u1 u2 u3 u4,σ=[some<|.int b,some<|.int m,some<|.str lets,some<|.int<|1+b % 8,some<|.int<|b / 8 % (1+b % 8),⇑l,u1,u2,u3,u4]) ⟨rfl,_,_,_,_,rfl⟩ ?_ ?_⟩
 ·rintro i σ H3 hi ⟨rfl,u1,u2,u3,u4,rfl⟩;refine a8 6 nd ?_;refine aT 7 nd<|vj ?_;refine ke T.range<|ae 3 ⟨_,rfl,⋯,⋯,kg (n:=(1+b % 8).toNat) (λj σ H4=>H4=upd H l (Ls<|namesOf b i)/\∃(u3 u4:Option V),σ=[some<|.int b,some<|.int m,some<|.str lets,some<|.int<|1+b % 8,some<|.int<|b / 8 % (1+b % 8),⇑l,some<|.int<|0+(i:Int),some<|.str<|nm b (b / 8 % (1+b % 8)) i j,u3,u4]) ⟨rfl,_,_,rfl⟩ ?_ ?_⟩
  ·rintro j σ H4 hj ⟨rfl,v3,v4,rfl⟩;have t0:0<=b / 7 % 5:=Bs _ ∅;have t1:b / 7 % 5 < 5:=Ce _ ∅;have nl:(nm b (b / 8 % (1+b % 8)) i j).length=j:=by
    have:=BZ List.length<|zO b (b / 8 % (1+b % 8)) i j;show(nm b (b / 8 % (1+b % 8)) i j).cps.size=j
    simpa using this
   refine a8 8 nd ?_;refine aT 9 nd (aU fj<|aU iY<|ae 0<|aE ⟨_,_,rfl,rfl,⟨∅,∅⟩,aU yQ<|ae 8<|aU cJ<|aU iY<|ae 0<|aE ⟨_,_,rfl,rfl,⟨∅,∅⟩,aE ⟨_,_,rfl,rfl,(by show(0:Int) < 5;decide),?_⟩⟩⟩);refine⟨_,_,rfl,rfl,.inr ⟨⋯,⋯⟩,_,_,rfl,rfl,?_⟩;refine Ii ((0+(j:Int))=b / 8 % (1+b % 8)) (¬(0+(j:Int))=b / 8 % (1+b % 8)) (λσ' H'=>H'=upd H l (Ls<|namesOf b i)/\σ'=[some<|.int b,some<|.int m,some<|.str lets,some<|.int<|1+b % 8,some<|.int<|b / 8 % (1+b % 8),⇑l,some<|.int<|0+(i:Int),some<|.str<|nm b (b / 8 % (1+b % 8)) i j,some<|.int<|0+(j:Int),some<|.int<|turn b (b / 8 % (1+b % 8)) i j]) (λR qq=>?_) (λhc=>?_) (λhc=>a7 ⟨rfl,?_⟩) ?_
   ·refine cH jl<|ae 8<|ae 4 ⟨rfl,_,rfl,?_⟩
    by_cases hc:(0+(j:Int))=b / 8 % (1+b % 8)
    ·rw[BW (show V.int (0+(j:Int))=V.int (b / 8 % (1+b % 8)) by rw[hc])];exact qq true (λ_=>hc) λh=>by cases h
    ·rw[BR λh=>hc<|V.int.inj h];exact qq false (λh=>by cases h) λ_=>hc
   ·refine aT 9 nd<|aU fj<|ae 9<|ae 6 ⟨_,_,rfl,rfl,a7 ⟨rfl,?_⟩⟩;have e:b / 64+(0+(j:Int)) * (b / 7 % 5)+(0+(i:Int))=turn b (b / 8 % (1+b % 8)) i j:=by
     unfold turn;rw[BP ⋯,Dw,Dw]
    rw[<- e];rfl
   ·have e:b / 64+(0+(j:Int)) * (b / 7 % 5)=turn b (b / 8 % (1+b % 8)) i j:=by
     unfold turn;rw[BK ⋯,Dw,Int.add_zero]
    rw[<- e];rfl
   ·rintro σ' H' ⟨rfl,rfl⟩;refine aT 7 nd<|aU Zb<|ae 7<|bb P5<|ae 2<|aU cJ<|ae 9<|aE ⟨_,_,rfl,rfl,(by show(0:Int) < 36;decide),lets,_,sgn<|turn b (b / 8 % (1+b % 8)) i j,rfl,rfl,by decide +kernel,Iu _,_,_,rfl,rfl,small (by show(nm b (b / 8 % (1+b % 8)) i j).length+1<=100000;omega),a7 ⟨rfl,_,_,rfl⟩⟩
  ·rintro σ H4 ⟨rfl,v3,v4,rfl⟩;refine Ii (b % 3=2) (¬ b % 3=2) (λσ' H'=>H'=upd H l (Ls<|namesOf b i)/\σ'=[some<|.int b,some<|.int m,some<|.str lets,some<|.int<|1+b % 8,some<|.int<|b / 8 % (1+b % 8),⇑l,some<|.int<|0+(i:Int),some<|.str<|aW b i,v3,v4]) (λR qq=>?_) (λhc=>?_) (λhc=>a7 ⟨rfl,?_⟩) ?_
   ·refine cH jl<|aU cJ<|ae 0<|aE ⟨_,_,rfl,rfl,(by show(0:Int) < 3;decide),aE ⟨rfl,_,rfl,?_⟩⟩
    by_cases hc:b % 3=2
    ·rw[BW (show V.int (b % 3)=V.int 2 by rw[hc])];exact qq true (λ_=>hc) λh=>by cases h
    ·rw[BR λh=>hc<|V.int.inj h];exact qq false (λh=>by cases h) λ_=>hc
   ·have e0:0<=(0+(i:Int)) % 8:=Bs _ ∅;have e1:(0+(i:Int)) % 8 < 8:=Ce _ ∅;refine aT 7 nd (aU q7n<|bb P5<|ae 2<|aU cJ<|aU fj<|aU iY<|ae 0<|aE ⟨_,_,rfl,rfl,⟨∅,∅⟩,aU iY<|ae 6<|aE ⟨_,_,rfl,rfl,⟨∅,∅⟩,_,_,rfl,rfl,aE ⟨_,_,rfl,rfl,(by show(0:Int) < 36;decide),lets,_,sgn<|b / 64+(0+(i:Int)) / 8,rfl,rfl,by decide +kernel,Iu _,?_⟩⟩⟩);refine aU fj (aE<|aU cJ<|ae 6<|aE ⟨_,_,rfl,rfl,(by show(0:Int) < 8;decide),_,_,rfl,rfl,?_⟩);refine⟨_,_,rfl,rfl,⋯,⋯,?_,a7 ⟨rfl,?_⟩⟩
    ·show 1 * _<=_;omega
    ·have e:Txt.mul ⟨#[sgn<|b / 64+(0+(i:Int)) / 8]⟩ (1+(0+(i:Int)) % 8)=aW b i:=by
      unfold aW;rw[BP hc,Dw]
     rw[<- e];rfl
   ·have e:nm b (b / 8 % (1+b % 8)) i (1+b % 8).toNat=aW b i:=by
     unfold aW;rw[BK hc]
    rw[<- e]
   ·rintro σ' H' ⟨rfl,rfl⟩;refine gq<|jQ<|ae 5 ⟨l,rfl,⟨_,av⟩,ae 7 ⟨_,av,?_,?_⟩⟩
    ·rw[Aa,Iv];exact bI<|⋯
    ·rw[pO];refine a7 ⟨?_,_,_,_,_,rfl⟩;rw[zQ];exact IU
 ·rintro σ H3 ⟨rfl,u1,u2,u3,u4,rfl⟩;exact bQ<|ae 5<|q l _ (aM hl _) hl av
def x2w{d:Addr}(h:H d=some (.dK Y)):mF K "dict" (.ref d) H:=Or.inr<|Or.inr<|Or.inl ⟨rfl,Or.inl ⟨Y,h⟩⟩
abbrev NS:Ñ:=["_law_rows","_law_seats_here","_law_r","_law_place"]
def i8:ak NS ["_law_rows"] (aP IH):=bZ
theorem q2x(F:bo K "_law_seats" "_law_seats" IH f fd)(T:Txt mg):aD P w K mg Z bz 1 f fd ["_law_rows"] AF:=by
 refine F.gc i8 λb0 H vs Q E hr h=>?_;obtain⟨R,as,n,rfl,hR,hn,ht,q⟩:=h;have nd:=i8.nd;have b4:=hR.len;refine aT 1 nd<|Im λd hd=>?_;refine ke T.range (bP dH T.len DR<|ai<|ae 0<|ax ⟨R,_,rfl,.inl<|aj.of<|aM hd _ _ _ hR.lst,_,rfl,⋯,by rw[Aa];omega,?_⟩);rw[Aa,b4,Bm];refine kg (λr σ H3=>∃ Y ks A u1 u2,bf H H3 d (bt<|n.take r) Y ks A/\σ=[⇑R,⇑d,u1,u2]) ⟨_,_,_,_,_,bf.start hd,rfl⟩ ?_ ?_
 ·rintro r σ H3 hi ⟨Y,ks,A',u1,u2,S,rfl⟩;rw[Dw];refine a8 2 nd ?_;obtain⟨a,ea,fA,et,el,er⟩:=(hR.same S.same).at hi;refine ke T.range<|bP dH T.len DR<|ai<|bb cv<|bb cL<|ae 0<|ae 2 ⟨R,_,_,.ref a.1,rfl,rfl,aj.of<|S.same _ _ hR.lst,fA,aE ⟨a.1,_,_,.ref a.2,rfl,rfl,aS.of et,rfl,ax ⟨a.2,_,rfl,.inl<|aj.of el,_,rfl,⋯,?_,?_⟩⟩⟩
  ·have:(row n r).length<=1000:=by
    have h1:(row n r).length<=(ag n).length:=by
     exact ju n r
    omega
   rw[Aa];omega
  rw[Aa,Bm];refine kg (λp σ H4=>∃ Y ks A u2,bf H H4 d (bt (n.take r)++bJ r ((row n r).take p) 0) Y ks A/\σ=[⇑R,⇑d,some<|.int (r:Int),u2]) ⟨Y,ks,A',_,by simpa[bJ]using S,rfl⟩ ?_ ?_
  ·rintro p σ H4 hp ⟨Y,ks,A',u2,S,rfl⟩;rw[Dw];refine a8 3 nd ?_;obtain⟨a,ea,fA,et,el,er⟩:=(hR.same S.same).at hi;have hz:(row n r)[p]?=some (row n r)[p]:=Ab hp;generalize (row n r)[p]=z at hz;have next:bt (n.take r)++bJ r ((row n r).take<|p+1) 0=(bt (n.take r)++bJ r ((row n r).take p) 0)++[(z,(r,p))]:=by
    rw[qC hz,Au]
   have hlen:Y.length < sizeLine:=by
    have h1:ks.length<=1000:=by
     refine By (aI (b:=ag n) S.nodup λy hy=>?_) ht;have h2:=(S.mem y).mp hy;cases hA:A' y with
     | none=>rw[hA]at h2;cases h2
     | some pr=>
      obtain⟨a2,l9⟩:=pr;have h3:=S.some' y a2 l9 hA;unfold b8 at h3;obtain⟨x,hx⟩:=Es _ h3;obtain⟨⟨y2,e2⟩,hm,_⟩:=Ai.mp hx;rw[Bg,DN]at hm;obtain⟨hm,rfl⟩:=hm;have:(y2,e2)∈bt n:=by
       rcases An.mp hm with hm | hm
       ·have q1:=aY.mp hm;refine aY.mpr ?_;have q2:=cS q1;unfold aJ row at q1 ⊢;rw[Bh]at q2;rwa[Ee<|⋯]at q1
       ·have q1:=b7.mp hm;refine aY.mpr ?_;unfold aJ;rw[q1.1];have q3:=q1.2.2;rw[SM]at q3;have q4:=(Ac.mp q3).1;rw[Bh]at q4;rwa[Ee<|⋯]at q3
      exact eG<|aY.mp this
    have h2:=BZ List.length S.keys;rw[Aa,Aa]at h2;exact bI<|⋯
   refine gq<|jQ<|zG PySem.F.plainAttrs_dict PySem.F.slot_dict_setdefault PySem.F.type_dict_setdefault k89<|ae 1 ⟨x2w S.dict,bb cL<|bb cv<|bb cL<|ae 0<|ae 2 ⟨R,_,_,.ref a.1,rfl,rfl,aj.of<|S.same _ _ hR.lst,fA,aE ⟨a.1,_,_,.ref a.2,rfl,rfl,aS.of et,rfl,ae 3 ⟨a.2,_,_,.str z,rfl,rfl,aj.of el,zK hz,?_⟩⟩⟩⟩;refine dS<|ax ⟨Z0,λl0 iw=>?_⟩;have i5:d≠l0:=bh S.dict iw;refine⟨d,Y,Sum.inr z,.ref l0,rfl,rfl,by rw[au i5];exact S.dict,hlen,?_⟩;cases hA:A' z with
   | some pr=>
    obtain⟨a2,l9⟩:=pr;obtain⟨q1,q2,q3,q4⟩:=S.at' z a2 l9 hA;have zM:a2≠l0:=bh q3 iw;refine .inl ⟨.ref a2,by rw[S.val z,hA];rfl,a2,rfl,⟨_,by rwa[au zM]⟩,?_⟩;refine fv<|ai<|ae 2<|ai<|ae 3<|ax ⟨Z2,λt jP=>?_⟩;have zN:a2≠t:=λe=>by rw[<- e,au zM,q3]at jP;cases jP
    refine⟨l9.map V.ref,by rwa[au zN,au zM],?_,?_⟩
    ·rw[Aa,q4.length];have h1:(b8 (bt (n.take r)++bJ r ((row n r).take p) 0) z).length<=100000:=by
      unfold b8;rw[Aa];refine By (Cp _ _) ?_;rw[Ad];have h2:(bt<|n.take r).length<=1000:=by
       have:=BZ List.length<|lZ (n.take r) 0;rw[Aa]at this;unfold bt;rw[this];exact By (R5 n r) ht
      have h3:(bJ r ((row n r).take p) 0).length<=1000:=by
       unfold bJ;rw[Aa,List.length_zipIdx,Bh];have h1:(row n r).length<=(ag n).length:=by
        exact ju n r
       omega
      omega
     exact bI h1
    ·refine a7 ⟨Y,ks,(λy=>if y=z then some (a2,l9++[t])else A' y),_,?_,rfl⟩;rw[next];exact S.old (e:=(r,p)) hA iw jP
   | none=>
    refine .inr ⟨by rw[S.val z,hA];rfl,l0,rfl,⟨_,by rw[au i5.symm];exact av⟩,?_⟩;refine fv<|ai<|ae 2<|ai<|ae 3<|ax ⟨Z2,λt jP=>?_⟩;have l7:l0≠t:=λe=>by rw[<- e,au i5.symm,av]at jP;cases jP
    refine⟨[],by rw[au l7,au i5.symm,av],by show 0 < sizeLine;decide,?_⟩;refine a7 ⟨putK Y (Sum.inr z)<|.ref l0,ks++[z],(λy=>if y=z then some (l0,[t])else A' y),_,?_,rfl⟩;rw[next];exact S.new (e:=(r,p)) hA iw jP
  ·rintro σ H4 ⟨Y,ks,A',u2,S,rfl⟩;refine a7 ⟨Y,ks,A',_,_,?_,rfl⟩;rw[tJ hi];rwa[Br]at S
 ·rintro σ H3 ⟨Y,ks,A',u1,u2,S,rfl⟩;rw[Br]at S;exact bQ<|ae 1<|q d ks H3 S.same S.free S.whole
abbrev NO:Ñ:=["_law_rows","_law_seats_here","_law_end","_law_pair"]
def ja:ak NO ["_law_rows","_law_seats_here","_law_end"] (aP II):=bZ
theorem q3q(F:bo K "_law_other" "_law_other" II f fd)(T:Txt mg):aD P w K mg Z bz 1 f fd ["_law_rows","_law_seats_here","_law_end"] Ja:=by
 refine F.gc ja λb0 H vs Q E hr h=>?_;obtain⟨R,d,t,as,n,ks,e,rfl,hR,hS,hT,ht,he,q⟩:=h;have nd:=ja.nd;have hu:=hr.fQ;obtain⟨z,hz⟩:=af.mp he;have aV:=cS hz;obtain⟨a,ea,fA,et,el,er⟩:=hR.at aV;obtain⟨Y,h1,h2,h3⟩:=hS.dict;obtain⟨pa,ts,v1,v2,v3⟩:=h3 z<|eG hz;obtain⟨x,y,hp,Sh,zD⟩:=qB hT hz;rw[hp]at v3;cases v3 with
 | cons x1 v3=>
 cases v3 with
 | cons y1 v3=>
 cases v3;rename_i tx ty;have cj:=hr.u1;refine aT 3 nd<|eU cj<|ae 1<|bb cL<|bb cv<|bb cL<|ae 0<|bb cv<|ae 2<|aE ⟨t,_,_,.int (e.1:Int),rfl,rfl,aS.of ht,rfl,R,_,_,.ref a.1,rfl,rfl,aj.of hR.lst,fA,aE ⟨a.1,_,_,.ref a.2,rfl,rfl,aS.of et,rfl,?_⟩⟩;refine bb cv (ae 2<|aE ⟨t,_,_,.int (e.2:Int),rfl,rfl,aS.of ht,rfl,a.2,_,_,.str z,rfl,rfl,aj.of el,zK hz,d,.ref pa,rfl,by rw[<- v1];exact aX.k (k:=Sum.inr z) h1,?_⟩);refine bQ<|bb cL<|ae 3<|mP Il T.m4 JZ<|ai<|hG (vO hu)<|bb cL<|ae 3<|aE ⟨pa,_,_,.ref tx,rfl,rfl,aj.of v2,rfl,ae 2 ⟨1,_,∅,q8u x1 ht,?_⟩⟩
 by_cases c:x=e
 ·rw[BW c];refine ax ⟨_,rfl,pa,[.ref tx,.ref ty],1,.ref ty,rfl,rfl,aj.of v2,rfl,q ty ?_⟩;have e1:other n e=y:=by unfold other;simp only[hz,hp];simp[c]
  rwa[e1]
 ·rw[BR c];refine ax ⟨_,rfl,pa,[.ref tx,.ref ty],0,.ref tx,rfl,rfl,aj.of v2,rfl,q tx ?_⟩;have e1:other n e=x:=by unfold other;simp only[hz,hp];simp[c]
  rwa[e1]
abbrev NT:Ñ:=["_law_rows","_law_seats_here","_law_end","_law_turn","_law_other_here"]
def kA:ak NT ["_law_rows","_law_seats_here","_law_end","_law_turn"] (aP IJ):=bZ
theorem q49(F:bo K "_law_step" "_law_step" IJ f fd)(T:Txt mg)(G:aQ P w K mg Z 1 "_law_other" ["_law_rows","_law_seats_here","_law_end"] Ja) :
  aD P w K mg Z bz 2 f fd ["_law_rows","_law_seats_here","_law_end","_law_turn"] Jb:=by
 refine F.gc kA λb0 H vs Q E hr h=>?_;obtain⟨R,d,t,as,n,ks,e,rfl,hR,hS,hT,ht,he,q⟩:=h;have nd:=kA.nd;have ho:=dD hT he;obtain⟨z,hz⟩:=af.mp ho;have aV:=cS hz;have jm:=iE hz;obtain⟨a,ea,fA,et,el,er⟩:=hR.at aV;refine aT 4 nd<|bG G hr<|ai<|ae 0<|ai<|ae 1<|ai<|ae 2<|ax ⟨R,d,t,as,n,ks,e,rfl,hR,hS,hT,ht,he,λu hu=>?_⟩;refine bQ<|fv<|ai<|bb cv<|ae 4<|aE ⟨u,_,_,.int ((other n e).1:Int),rfl,rfl,aS.of hu,rfl,?_⟩;refine ai<|aU cJ<|aU fj<|bb cv<|ae 4<|aE ⟨u,_,_,.int ((other n e).2:Int),rfl,rfl,aS.of hu,rfl,ae 3 ⟨_,_,rfl,rfl,?_⟩⟩;refine bP dH T.len DR<|ai<|bb cv<|bb cL<|ae 0<|bb cv<|ae 4<|aE ⟨u,_,_,.int ((other n e).1:Int),rfl,rfl,aS.of hu,rfl,R,_,_,.ref a.1,rfl,rfl,aj.of hR.lst,fA,aE ⟨a.1,_,_,.ref a.2,rfl,rfl,aS.of et,rfl,ax ⟨a.2,_,rfl,.inl<|aj.of el,?_⟩⟩⟩;rw[Aa];refine⟨_,_,rfl,rfl,⋯,ax ⟨Z2,λp hp=>?_⟩⟩;refine q p _ (aM hp _) hp ?_;rw[av];unfold Nt.step Nt.left;show some (HO.tup [.int ((other n e).1:Int),.int<|(((other n e).2:Int)+1) % ((row n (other n e).1).length:Int)])=some (HO.tup [.int ((other n e).1:Int),.int ((((other n e).2+1) % (row n (other n e).1).length:Nat):Int)]);rw[Int.natCast_emod];rfl
abbrev NF:Ñ:=["_law_rows","_law_seats_here","_law_end","_law_face_here","_law_here"]
def kC:ak NF ["_law_rows","_law_seats_here","_law_end"] (aP IL):=bZ
def gM(n:Net)(e:Nt.End)(j:Nat):List Nt.End:=(List.range j).map λi=>it (step n) i e
def q2e(n:Net)(e:Nt.End)(j:Nat):gM n e (j+1)=gM n e j++[it (step n) j e]:=by
 unfold gM;rw[Dc,Aj];rfl
theorem q6y(F:bo K "_law_face" "_law_face" IL f fd)(T:Txt mg)(G:aQ P w K mg Z 2 "_law_step" ["_law_rows","_law_seats_here","_law_end","_law_turn"] Jb) :
  aD P w K mg Z bz 3 f fd ["_law_rows","_law_seats_here","_law_end"] Jc:=by
 refine F.gc kC λb0 H vs Q E hr h=>?_;obtain⟨R,d,t,as,n,ks,e,rfl,hR,hS,hT,ht,he,hb,q⟩:=h;have nd:=kC.nd;have hu:=hr.fQ;obtain⟨k,k0,k1,k2⟩:=Ip (f:=step n) (S:=ends n) (λa ha=>tI hT ha) (λa ha b hb=>R3 hT ha hb) he;refine aT 3 nd<|dS<|ai<|ae 2<|ax ⟨Z1,λl hl=>?_⟩;have g1:=aM hl<|.lst [.ref t];refine aT 4 nd<|bG G hr<|ai<|ae 0<|ai<|ae 1<|ai<|ae 2<|ai<|aE<|ax ⟨R,d,t,as,n,ks,e,rfl,hR.same g1,hS.same g1,hT,g1 _ _ ht,he,λu H1 s1 nu eu=>?_⟩;refine vP (λm σ H2=>∃(j:Nat) (ts:List Addr) (u:Addr),m=k - j/\0 < j/\j<=k/\ah H H2/\H2 l=some (.lst<|ts.map V.ref)/\Pd H2 ts (gM n e j)/\H2 u=some (Tp<|it (step n) j e)/\(∀ i,0 < i->i < j->it (step n) i e≠e)/\σ=[⇑R,⇑d,⇑t,⇑l,⇑u])
  (m0:=k - 1) ⟨1,[t],u,rfl,Fr,k0,g1.trans s1,s1 _ _ av,.cons (s1 _ _<|g1 _ _ ht) .nil,eu,λi h1 h2=>⋯,rfl⟩ ?_
 rintro m σ H2 ⟨j,ts,u,rfl,j0,j1,sH,el,ep,eu,hf,rfl⟩;refine cH (qw hu) (ae 4<|ae 2 ⟨1,_,∅,q9z eu<|sH _ _ ht,_,rfl,?_⟩);have pl:=ep.length;have ol:(gM n e j).length=j:=by unfold gM;simp
 by_cases c:it (step n) j e=e
 ·rw[BW c];refine bH (bQ<|ae 3<|q l ts (gM n e j) H2 sH hl el ep ⟨⋯,⋯,λi hi=>?_,by rwa[ol],λi h1 h2=>hf i h1<|⋯⟩);unfold gM;rw[Ah,Ek<|⋯];rfl
 ·rw[BR c];have jk:j < k:=by
   rcases Dr j k with h | h
   ·exact h
   ·have:j=k:=⋯
    subst this;exact absurd k2 c
  refine cz (gq<|jQ<|ae 3 ⟨l,rfl,⟨_,el⟩,ae 4 ⟨_,el,by rw[Aa];exact bI ⋯,?_⟩⟩);have s2:ah H (upd H2 l<|.lst<|ts.map V.ref++[.ref u]):=cX sH hl;have kt:∀ b f,H2 b=some (Tp f)->(upd H2 l<|.lst<|ts.map V.ref++[.ref u]) b=some (Tp f):=λb f h=>by
   rwa[au<|vQ h el]
  have Si:=kt u _ eu;refine aT 4 nd<|bG G hr<|ai<|ae 0<|ai<|ae 1<|ai<|ae 4<|ai<|aE<|ax ⟨R,d,u,as,n,ks,it (step n) j e,rfl,hR.same s2,hS.same s2,hT,Si,kz (λa ha=>tI hT ha) he j,λv H3 s3 nv ev=>?_⟩;refine a7 ⟨k - (j+1),⋯,j+1,ts++[u],v,rfl,Gd _,jk,s2.trans s3,?_,?_,ev,λi h1 h2=>?_,rfl⟩
  ·rw[Aj];exact s3 _ _ av
  ·rw[q2e];exact(ep.keep λb f h=>s3 _ _<|kt b f h).append<|.cons (s3 _ _ Si) .nil
  ·rcases Nat.lt_succ_iff_lt_or_eq.mp h2 with h | h
   ·exact hf i h1 h
   ·rwa[h]
end
end Q1
namespace Nt
open PySem L2
def Full(n:Net):Prop:=(∃ nm,n=[(nm,[])])\/(n≠[]/\∀ i,i < n.length->row n i≠[])
def fB(n:Net)(c:End):Prop:=c.1 < n.length/\c.2 < max 1 (row n c.1).length
def ins(n:Net)(c:End)(z:Str):Net:=n.modify c.1 λr=>(r.1,r.2.take c.2++z :: r.2.drop c.2)
def ib(n:Net)(c:End)(z:Str):(ins n c z).length=n.length:=by unfold ins;rw[List.length_modify]
theorem Jd(n:Net)(c:End)(z:Str):(ins n c z).map (·.1)=n.map (·.1):=by
 unfold ins;refine Dv λi=>?_;rw[Ah,Ah,Fs];cases n[i]? with
 | none=>rfl
 | some r=>by_cases h:c.1=i <;> simp[h]
def tK(n:Net)(c:End)(z:Str)(i:Nat)(hc:c.1 < n.length):row (ins n c z) i=if c.1=i then(row n i).take c.2++z :: (row n i).drop c.2 else row n i:=by
 unfold row ins;rw[Fs]
 by_cases h:c.1=i
 ·subst h;rw[Ab hc];simp
 ·rw[BK h];cases n[i]? with
  | none=>simp[h]
  | some r=>simp[h]
theorem l':∀n c z,c.1 < n.length->(ag<|ins n c z).Perm (z :: ag n)
 | [],c,z,h=>by simp at h
 | a :: n,(0,p),z,h=>by
  unfold ins ag;simp only[List.modify_zero_cons,Cm];have:(a.2.take p++z :: a.2.drop p).Perm (z :: a.2):=by
   refine List.perm_middle.trans ?_;rw[Db]
  exact this.append_right _
 | a :: n,(i+1,p),z,h=>by
  have ih:=l' n (i,p) z (by simpa using h);unfold ins ag at ih ⊢;simp only[List.modify_succ_cons,Cm];refine(ih.append_left a.2).trans ?_;exact List.perm_middle
variable{z:Str}{c:End}{n:Net}
theorem Je(F:Full n)(hc:c.1 < n.length):n.length=1\/(∀ i,i < n.length->row n i≠[])->(∀ i,i < (ins n c z).length->row (ins n c z) i≠[])/\ins n c z≠[]:=by
 intro h;have hl:=ib n c z;refine⟨λi hi=>?_,λe=>?_⟩
 ·rw[tK n c z i hc]
  by_cases q:c.1=i
  ·rw[BP q];simp
  ·rw[BK q]
   rcases h with h | h
   ·rw[hl]at hi;omega
   ·exact h i<|⋯
 ·rw[e]at hl;simp at hl;omega
def Full.some(F:Full n):n≠[]:=by
 rcases F with ⟨nm,rfl⟩ | h
 ·simp
 ·exact h.1
def Full.either(F:Full n):n.length=1\/(∀ i,i < n.length->row n i≠[]):=by
 rcases F with ⟨nm,rfl⟩ | h
 ·exact .inl rfl
 ·exact .inr h.2
theorem Full.cT(F:Full n)(h0:row n 0≠[])(hc:fB n c):c∈ends n:=by
 rcases F with ⟨nm,rfl⟩ | h
 ·exact absurd rfl h0
 ·have:=h.2 c.1 hc.1;have hp:0 < (row n c.1).length:=Du.mpr this;have aV:c.2 < (row n c.1).length:=by
   have:=hc.2;omega
  exact af.mpr<|zJ aV
theorem k9v{e:End}(h:e∈ends n):fB n e:=by
 obtain⟨z,h⟩:=af.mp h;have:=iE h;exact⟨cS h,⋯⟩
def qM(H H':Hp)(bad:List Addr):Prop:=∀ b o,H b=some o->b∉bad->H' b=some o
def Sj(zs:Ñ)(i:Nat)(z:Str):insertAt (zs.map V.str) i (.str z)=(zs.take i++z :: zs.drop i).map V.str:=by
 unfold insertAt;rw[Aj,Bn,Hc,He]
theorem al.ins{H:Hp}{R:Addr}{as:Ï}{n:Net}(h:al H R as n){c:End}{z:Str}{a:Addr×Addr}(ha:as[c.1]?=some a)(hc:c.1 < n.length) :
  al (upd H a.2<|Ls<|(row n c.1).take c.2++z :: (row n c.1).drop c.2) R as (Nt.ins n c z):=by
 have q0:=h.tup c.1 a n[c.1] ha<|Ab hc;have hRa:R≠a.2:=by
  intro e;have h1:=h.lst;rw[e,q0.2]at h1;have h2:=HO.lst.inj<|Option.some.inj h1;have h3:=BZ List.length h2;cases hm:n[c.1].2 with
  | nil=>
   rw[hm]at h2;have:as.map (λa=>V.ref a.1)=[]:=h2.symm;have hl:=BZ List.length this;rw[Aa,h.len]at hl;rw[hl]at hc;exact absurd hc<|Eh _
  | cons y r=>
   rw[hm]at h2;cases as with
   | nil=>simp at h2
   | cons b bs=>
    simp at h2
 have er:row n c.1=n[c.1].2:=by unfold row;rw[Ab hc];rfl
 refine⟨by rw[ib];exact h.len,by rw[au hRa];exact h.lst,λi b r hb hr=>?_,h.inj⟩;unfold Nt.ins at hr;rw[Fs]at hr;cases hn:n[i]? with
 | none=>rw[hn]at hr;by_cases q:c.1=i <;> simp[q]at hr
 | some r0=>
  rw[hn]at hr;have q1:=h.tup i b r0 hb hn;have t1:b.1≠a.2:=bV q1.1 q0.2 λe=>nomatch e
  by_cases q:c.1=i
  ·subst q;rw[Ab hc]at hn;cases hn;rw[ha]at hb;cases hb;simp at hr;subst hr;refine⟨by rw[au t1];exact q1.1,?_⟩;rw[av,er]
  ·simp[q]at hr;subst hr;have t2:b.2≠a.2:=λe=>by
    have l1:i < as.length:=(Ac.mp hb).1;have l2:c.1 < as.length:=(Ac.mp ha).1;have x1:(as.map (·.2))[i]?=some b.2:=by rw[Ah,hb];rfl
    have x2:(as.map (·.2))[c.1]?=some a.2:=by rw[Ah,ha];rfl
    obtain⟨y1,z1⟩:=Ac.mp x1;obtain⟨y2,z2⟩:=Ac.mp x2;exact q<|(Gj (h₀:=y2) (h₁:=y1) h.inj).mp<|z2.trans<|e.symm.trans z1.symm
   exact⟨by rw[au t1];exact q1.1,by rw[au t2];exact q1.2⟩
variable{zs:Ñ}{as:Ï}{R:Addr}{H:Hp}
theorem al.more{t l:Addr}{pt:Str}(h:al H R as n)(ht:H t=some (.tup [.str pt,.ref l]))(hl:H l=some (Ls zs))(hn:l∉as.map (·.2))(hR:l≠R) :
  al (upd H R<|.lst<|as.map (λa=>V.ref a.1)++[.ref t]) R (as++[(t,l)]) (n++[(pt,zs)]):=by
 have b4:=h.len;refine⟨by rw[Ad,Ad,b4];rfl,by rw[av,Aj];rfl,λi b r hb hr=>?_,?_⟩
 ·rcases Dr i as.length with c | c
  ·rw[Aq c]at hb;rw[Aq<|⋯]at hr;have q:=h.tup i b r hb hr;have t1:=bV q.1 h.lst λe=>nomatch e;have t2:b.2≠R:=by
    intro e;have h1:=h.lst;rw[<- e,q.2]at h1;have h2:=HO.lst.inj<|Option.some.inj h1;cases as with
    | nil=>simp at c
    | cons b' bs=>
     cases hm:r.2 with
     | nil=>rw[hm]at h2;simp at h2
     | cons y r=>rw[hm]at h2;simp at h2
   exact⟨by rw[au t1];exact q.1,by rw[au t2];exact q.2⟩
  ·have e:i=as.length:=by
    have:=(Ac.mp hb).1;rw[Ad]at this;simp at this;omega
   subst e;rw[Ba<|Am _]at hb;rw[b4,Ba<|Am _]at hr;simp at hb hr;subst hb hr;have t1:=bV ht h.lst λe=>nomatch e;exact⟨by rwa[au t1],by rwa[au hR]⟩
 ·rw[Aj,Cj];exact⟨h.inj,by simp,λx hx y hy e=>by simp at hy;subst hy e;exact hn hx⟩
variable{x:Addr×Addr}
theorem al.lists(h:al H R as n)(hx:x∈as):∃ zs,H x.2=some (Ls zs):=by
 obtain⟨i,hi,e⟩:=Co.mp hx;have hl:=h.len;exact⟨_,(h.tup i x (n[i]'⋯) (by rw[<- e];exact Ab hi)<|Ab<|⋯).2⟩
def al.fresh{l:Addr}(h:al H R as n)(hl:H l=none)(hx:x∈as):l≠x.2:=by
 obtain⟨zs,e⟩:=h.lists hx;exact(bh e hl).symm
def jv(n:Net):(ends n).length=(ag n).length:=by
 unfold ends bt;rw[Aa,<- lZ n 0,Aa]
def fY.ends{n:Net}(T:aw n){e:End}{fs:List End}(h:fY n e fs)(he:e∈ends n):∀ c∈fs,c∈Nt.ends n:=by
 intro c hc;obtain⟨i,hi,e2⟩:=Co.mp hc;have:=h.at' i hi;rw[Ab hi,e2]at this;rw[Option.some.inj this];exact kz (λa ha=>tI T ha) he i
theorem AG{k:End}(hc:fB n c)(hk:k.1 < n.length):fB (ins n k z) c:=by
 refine⟨by rw[ib];exact hc.1,?_⟩;rw[tK n k z c.1 hk];have:=hc.2
 split
 ·rw[Ad,As,Bh,Dd];omega
 ·exact this
def dbl(zs:Ñ):Ñ:=zs.flatMap λz=>[z,z]
theorem Jf(y:Str):∀ zs:Ñ,(dbl zs).count y=2 * zs.count y
 | []=>rfl
 | z :: r=>by
  unfold dbl;rw[Cm];have ih:=Jf y r;unfold dbl at ih;rw[Fm,ih,Dq,Dq,Dq,List.count_nil];omega
theorem jb{y:Str}:y∈dbl zs↔y∈zs:=by
 rw[<- Ed,Jf,<- Ed];omega
theorem Jg:∀ zs:Ñ,(dbl zs).length=2 * zs.length
 | []=>rfl
 | z :: r=>by
  unfold dbl;rw[Cm,Ad];have ih:=Jg r;unfold dbl at ih;rw[ih,As];simp;omega
def q3t(zs:Ñ)(z:Str):dbl (zs++[z])=dbl zs++[z,z]:=by
 unfold dbl;rw[Dj];rfl
def Sl(hn:zs.Nodup)(p:(ag n).Perm<|dbl zs):aw n:=λz hz=>by
 rw[p.count_eq,Jf];have h1:=jb.mp<|p.mem_iff.mp hz;rw[hn.count,BP h1]
def NE(n:Net):Prop:=∀ r∈n,r.2≠[]
def ic{i:Nat}(h:i < n.length):row n i=n[i].2:=by unfold row;rw[Ab h];rfl
def q7r(h:NE n)(h0:n≠[]):Full n:= .inr ⟨h0,λi hi=>by rw[ic hi];exact h _<|Bp hi⟩
def Full.ne(h:Full n):(∃ nm,n=[(nm,[])])\/NE n:=by
 rcases h with h | ⟨_,h⟩
 ·exact .inl h
 ·refine .inr λr hr=>?_;obtain⟨i,hi,rfl⟩:=Co.mp hr;have:=h i hi;rwa[ic hi]at this
theorem Sn:∀n k h,(ag n).Perm<|n[k].2++ag (n.eraseIdx k)
 | [],k,h=>by simp at h
 | a :: n,0,h=>by unfold ag;simp
 | a :: n,k+1,h=>by
  have ih:=Sn n k (by simpa using h);unfold ag at ih ⊢;simp only[Cm,List.getElem_cons_succ,SX];refine(ih.append_left a.2).trans ?_;rw[<- Au,<- Au];exact List.perm_append_comm.append_right _
def k2z(n:Net)(k:Nat)(h:k < n.length):(n.map (·.1)).Perm (n[k].1 :: (n.eraseIdx k).map (·.1)):=by
 have:=(bK.bM n k h).map (·.1);exact this.symm
def Jh(zs:Ñ)(i:Nat):(zs.drop i++zs.take i).Perm zs:=by
 refine Ci.trans ?_;rw[Db]
def al.upd{H:Hp}{R x:Addr}{as:Ï}{n:Net}(h:al H R as n){xs:List V}{o:HO}(hx:H x=some (.lst xs))(hR:R≠x)(ha:∀ a∈as,a.2≠x):al (upd H x o) R as n:=by
 refine⟨h.len,by rw[au hR];exact h.lst,λi a r h1 h2=>?_,h.inj⟩;have q:=h.tup i a r h1 h2;exact⟨by rw[au<|bV q.1 hx λe=>nomatch e];exact q.1,by rw[au<|ha a<|At h1];exact q.2⟩
def Ji{α:Type}(l:List α)(k i:Nat):(l.eraseIdx k)[i]?=if i < k then l[i]? else l[i+1]?:=by
 rw[Ge]
def al.erase(h:al H R as n){k:Nat}(hk:k < n.length) :
  al (L2.upd H R<|.lst<|(as.map λa=>V.ref a.1).eraseIdx k) R (as.eraseIdx k) (n.eraseIdx k):=by
 have hl:=h.len;refine⟨by rw[Dg,Dg,hl],?_,λi a r h1 h2=>?_,?_⟩
 ·rw[av]
  congr 2
  refine Dv λi=>?_;rw[Ji,Ah,Ah,Ah,Ji]
  split <;> rfl
 ·rw[Ji]at h1 h2;have q:H a.1=some (.tup [.str r.1,.ref a.2])/\H a.2=some (Ls r.2):=by
   by_cases c:i < k
   ·rw[BP c]at h1 h2;exact h.tup i a r h1 h2
   ·rw[BK c]at h1 h2;exact h.tup (i+1) a r h1 h2
  have t2:a.2≠R:=by
   intro e;have h3:=h.lst;rw[<- e,q.2]at h3;have h4:=HO.lst.inj<|Option.some.inj h3;cases as with
   | nil=>simp at hl;simp[<- hl]at hk
   | cons b bs=>
    cases hm:r.2 with
    | nil=>rw[hm]at h4;simp at h4
    | cons y r=>rw[hm]at h4;simp at h4
  exact⟨by rw[au<|bV q.1 h.lst λe=>nomatch e];exact q.1,by rw[au t2];exact q.2⟩
 ·have:((as.eraseIdx k).map (·.2)).Sublist (as.map (·.2)):=(List.eraseIdx_sublist as k).map _;exact h.inj.sublist this
theorem q05(zs:Ñ)(i:Nat):dR (zs.map V.str) (some (i:Int)) none=(zs.drop i).map V.str:=by
 unfold dR;rw[HT.eF,HT.c7,Aa];rw[Ck (by rw[Dd,Aa];omega),He]
 rcases SN i zs.length with h | h
 ·rw[Ex h]
 ·rw[Ep h,Fg (by simp),Fg<|by simpa using h]
def q9d(zs:Ñ)(i:Nat):dR (zs.map V.str) none (some (i:Int))=(zs.take i).map V.str:=by
 unfold dR;rw[HT.eF,HT.c7,Aa,List.drop_zero,SM,Hc]
 rcases SN i zs.length with h | h
 ·rw[Ex h]
 ·rw[Ep h,Ck (by simp),Ck<|by simpa using h]
end Nt
namespace L2
open PySem PySem.Spec PyProof.Rows
variable{H:Hp}{σ:St}{inner:Value->Env->Sem Unit}{u0:Addr->HO}{newAcc:Sem Value}{gs:List Comprehension}{scope:Scope}{ifs:Ô}{tg:Expr}{X:Cx}
def AH{e iter:Expr}{pz:Pos}{o0:Obj}{wi:TI}{Q:VK}
  (iz:∀(Q:Î) (E:Î) (s:Shared),Q (.ref s.heap.objs.size) {s with heap:=s.heap.push o0}->wpAny (model X.U X.w) X.A newAcc Q E s) (im:∀(H:Hp) (h:Heap),sysModules < h.objs.size->aB X.U X.w H (h.push o0) h.objs.size (u0 h.objs.size))
  (hC:∀ acc env,Clause e 0 tg iter ifs acc env<|inner acc env) (he:eval e X.env=comprehension e scope X.env pz newAcc false (eval iter X.env) none) (jN:clausesOf e=⟨tg,iter,ifs,0⟩ :: gs)
  (sc:Scope) (N N':Ñ) (n:Nat) (hi:PI X tg iter wi)
  (h:wi σ H λJ H1=>∀ D,H1 D=none->∀ cl C æ ç ex,iy (fO X N' scope cl C æ ç ex) tg ifs (inner (.ref D)<|compEnvC scope cl C X.env) J (λ_ H'=>Q (.ref D) H') (σ++List.replicate n none)<|upd H1 D<|u0 D)
  (hc:X.calm=true) (iB:X.env.scope=sc) (hN:X.N=N) (hk:mR sc scope N N'=true) (hl:N'.length=N.length+n) (hs:∀ x,foldedSetIterable iter X.env x=pure x):Ev X e σ H Q:=by
 refine⟨λO s I=>?_⟩;subst iB hN;have ck:=cA.of hk;rw[he];refine LC (use:=none) jN hs (FR λx hx hf=>I.ok.has x.1<|ck.free x hx hf) ck.kind ck.names<|aN (hi O s σ H _ I h) λv s1 h1=>aN h1 λoE s2 h2=>?_;obtain⟨it,fp,tn,J,H2,e,I2,T,gm,f2,q⟩:=h2;subst e;refine QO iz im (Q:=Q) (RR:=λacc C=>compPost (model X.U X.w) X.A X.xe none (EP X O σ Q) acc C) hc ck hl hC I2 T gm f2 q ?_;intro D C H' s' m IX hn hC c1 c2 c3 c4 qq;exact⟨m,hn,λh' gy=>⟨.ref D,H',IX.turned (t':=s'.toks) (λb o hb e=>gy.extBut b o hb e) hC (CG<|CG c1) (.inr c2) c3 c4,rfl,qq⟩⟩
variable{w:World}{P:Program}
def x2l{k:Key}{u:Value}(h:(dM P w).is k u=true):RelV (kV k) u:=by
 rcases lH h with ⟨i,t,rfl,rfl⟩ | ⟨x,t,rfl,rfl⟩ <;> exact⟨t,rfl⟩
variable{O:Ð}{Y:List (Key×V)}{d:Addr}{es:Array DictEntry}{o:Obj}{K:PySem.W.Frag}
section
variable{s:Shared}
def Sq(I:Inv X O σ H s)(e:H d=some (.dK Y)):∃ o,s.heap.get? d=some o/\Inv X O σ (upd H d<|.bB o<|.dK Y) s:=by
 obtain⟨z,hd,vs,rel,dd⟩:=vd I.aF e;obtain⟨o,es,ep,ho,rest⟩:=id dd;refine⟨o,ho,?_⟩;exact mK I (by rw[e];exact True.intro) ⟨rfl,λ_ _=>rfl⟩ ⟨o,ho⟩ (show aB X.U X.w _ s.heap d (.bB o<|.dK Y) from⟨ho,z,hd,vs,rel,dd⟩)
def vY(d:Addr)(o:Obj)(Y:List<|Key×V):It:=
 ⟨λi H=>H d=some (.bB o<|.dK Y)/\i < Y.length,λi H x H'=>H'=H/\∃ p,Y[i]?=some p/\x=kV p.1,λi H=>H d=some (.bB o<|.dK Y)/\Y.length<=i⟩
def Ss{h:Heap}{ep:Nat}(aF:cg P w H h)(e:H d=some (.bB o<|.dK Y))(hd:o.data = .dict es ep):∃ vs,KV Y vs/\h.DictAt (dM P w) d vs ep:=by
 obtain⟨ho,z,_,vs,rel,dd⟩:=(show aB P w H h d (.bB o<|.dK Y)from aF d _ e);obtain⟨oz,o',gk,cW,r1,r2,r3⟩:=dd.dictAt;have:o=o':=Option.some.inj<|ho.symm.trans cW;subst this;rw[hd]at r2
 injection r2 with e1 e2
 subst e1;subst e2;exact⟨vs,rel,o,es,cW,r1,hd,r3⟩
theorem Sv(d it:Addr)(o:Obj)(es:Array DictEntry)(ep:Nat)(Y:List<|Key×V)(qN:o.data = .dict es ep):Turn P w K tg (vY d o Y) [it] it (λi h=>h.IsKeyIter it d i Y.length ep) where
 mem:=by simp
 obj:=λi h st b hb=>by
  have e:b=it:=by simpa using hb
  subst e;obtain⟨o,e,c,d⟩:=st;exact⟨o,e,λv z=>by rw[d]at z;cases z⟩
 keep:=λi h h' st k=>let ⟨o,ho,r⟩:=st;⟨o,k it (by simp) o ho,r⟩
 item:=by
  intro X hP hw hK hc i O s σ H E I hf st hg;subst hP hw hK;obtain⟨f0,f1,f2,f3,f4,f5⟩:=hf it (by simp);obtain⟨hd,hi⟩:=hg;obtain⟨vs,rel,da⟩:=Ss I.aF hd qN;have hl:=rel.length;have mL:i < vs.length:=⋯
  have hx:=Ab mL;rw[hl]at st;refine wpAny_pyNext_dict_item st da hx λkey h' hk dz gy=>?_;have I1:=I.turned (t':=s.toks) (λb o hb e=>gy.extBut b o hb e) f0 f1 f3 f4 f5;obtain⟨o2,e2,c2,d2⟩:=id dz;refine⟨_,rfl,yK e2 c2 d2 ∅ ⟨kV vs[i].1,H,I1,x2l hk,⟨rfl,Y[i],Ab hi,?_⟩,by rw[hl];exact dz,λb hb=>(hf b hb).1⟩⟩;have ek:=rel.keys;have e3:(Y.map (·.1))[i]?=(vs.map (·.1))[i]?:=by rw[ek]
  rw[Ah,Ah,Ab hi,hx]at e3;have e4:Y[i].1=vs[i].1:=Option.some.inj e3;rw[e4]
 done:=by
  intro X hP hw hK hc i O s σ H E I hf st hg;subst hP hw hK;obtain⟨f0,f1,f2,f3,f4,f5⟩:=hf it (by simp);obtain⟨hd,hi⟩:=hg;obtain⟨vs,rel,da⟩:=Ss I.aF hd qN;have hl:=rel.length;rw[hl]at st;exact wpAny_pyNext_dict_end (I.ok.hd hc) st da (by rw[Bd];omega) λh' eb=>⟨rfl,I.turned (λb o hb e=>eb b o hb e) f0 f1 f3 f4 f5⟩
 self:=λ_ _ _ _ _ st h=>wpAny_pyIter_keyiter st h
def x1x(tl:TE):TI:=λσ H R=>tl σ H λx H1=>∃ d Y,x = .ref d/\H1 d=some (.dK Y)/\∀ o,R (vY d o Y)<|upd H1 d<|.bB o<|.dK Y
def Sw{l:Expr}{tl:TE}(hl:PE X l tl):PI X tg l (x1x tl):=by
 intro O s σ H R I h;refine aN (hl O s σ H _ I h) λv s1 ⟨x,H1,I1,r1,q1⟩=>?_;obtain⟨d,Y,e,hH,q⟩:=q1;subst e;cases (show v=Value.ref d from r1);obtain⟨o,ho,I2⟩:=Sq I1 hH;obtain⟨z,m6,vs,rel,dd⟩:=vd I1.aF hH;obtain⟨ep,o',es,cW,r1,r2,r3⟩:=dd.dictAt;have:o=o':=Option.some.inj<|ho.symm.trans cW;subst this;refine wpAny_pyIter_dict m6 ⟨o,es,cW,r1,r2,r3⟩<|⟨s1.heap.objs.size,[s1.heap.objs.size],_,_,_,rfl,I2.kept λb o e=>Ae _ e,Sv d _ o es ep Y r2,⟨_,Ao _ rfl,rfl,by rw[rel.length];rfl⟩,λb hb=>?_,q o⟩;have e:b=s1.heap.objs.size:=by simpa using hb
 subst e;exact I2.gF (Am _)<|I2.aF.fresh<|Am _
end
variable{N' zs:Ñ}{R:St->Hp->Prop}
section
variable{elt:Expr}{A a:Addr}{xs:List V}{after:Hp->Prop}
theorem jS(Pv:Nat->St->Hp->Prop)(h0:Pv 0 σ H)(hl:∀ i σ' H',i<=xs.length->Pv i σ' H'->aj X.K H' a xs)
  (hs : ∀ i x σ' H', xs[i]? = some x → Pv i σ' H' → vw X N' scope tg x σ' H' λσ2 H3 => vx X N' scope ifs σ2 H3 λb H4 =>
   if b=true then vt X N' scope elt σ2 H4 λv H5=>∃ ys,H5 A=some (.lst ys)/\ys.length < sizeLine/\Pv (i+1) σ2 (upd H5 A<|.lst<|ys++[v])else Pv (i+1) σ2 H4)
  (hd:∀ σ' H',Pv xs.length σ' H'->after H'):lU X N' scope tg ifs elt (pV X.K a) A after σ H:=by
 refine⟨λi m σ' H'=>m=xs.length - i/\i<=xs.length/\Pv i σ' H',⟨_,rfl,Bu _,h0⟩,?_⟩;rintro i m σ' H' ⟨rfl,hi,p⟩;have q:=hl i σ' H' hi p
 by_cases aV:i < xs.length
 ·refine .inr ⟨⟨xs,xs[i],q,by simp[aV]⟩,Pv<|i+1,λσ' H' p'=>⟨xs.length - (i+1),⋯,rfl,aV,p'⟩,λx H2 y=>?_⟩;obtain⟨e,y⟩:=y;subst e;exact hs i x σ' _ (y xs q) p
 ·have e:i=xs.length:=⋯
  subst e;exact .inl ⟨⟨xs,q,Am _⟩,hd σ' H' p⟩
theorem Sx(Pv:Nat->St->Hp->Prop)(h0:Pv 0 σ H)(hl:∀ i σ' H',i<=Y.length->Pv i σ' H'->H' d=some (.bB o<|.dK Y))
  (hs : ∀ i p σ' H', Y[i]? = some p → Pv i σ' H' → vw X N' scope tg (kV p.1) σ' H' λσ2 H3 => vx X N' scope ifs σ2 H3 λb H4 =>
   if b=true then vt X N' scope elt σ2 H4 λv H5=>∃ ys,H5 A=some (.lst ys)/\ys.length < sizeLine/\Pv (i+1) σ2 (upd H5 A<|.lst<|ys++[v])else Pv (i+1) σ2 H4)
  (hd:∀ σ' H',Pv Y.length σ' H'->after H'):lU X N' scope tg ifs elt (vY d o Y) A after σ H:=by
 refine⟨λi m σ' H'=>m=Y.length - i/\i<=Y.length/\Pv i σ' H',⟨_,rfl,Bu _,h0⟩,?_⟩;rintro i m σ' H' ⟨rfl,hi,p⟩;have q:=hl i σ' H' hi p
 by_cases aV:i < Y.length
 ·refine .inr ⟨⟨q,aV⟩,Pv<|i+1,λσ' H' p'=>⟨Y.length - (i+1),⋯,rfl,aV,p'⟩,λx H2 y=>?_⟩;obtain⟨e,p',ep,y⟩:=y;subst e y;exact hs i p' σ' _ ep p
 ·have e:i=Y.length:=⋯
  subst e;exact .inl ⟨⟨q,Am _⟩,hd σ' H' p⟩
theorem qO(f:Str->Bool)(hz:zs.length < sizeLine)(ha:H a=some (.lst<|zs.map V.str))(hA:H A=none)
  (hg:∀ cl C æ ç ex v v0 H' R,R (σ++[some v]) H'->Eg (fO X N' scope cl C æ ç ex) tg v (σ++[v0]) H' R)
  (hi:∀ cl C æ ç ex z ys T,T (f z) (upd H A<|.lst ys)->Ei (fO X N' scope cl C æ ç ex) ifs (σ++[some<|.str z]) (upd H A<|.lst ys) T)
  (he:∀ cl C æ ç ex z H' R,R (V.str z) H'->Ev (fO X N' scope cl C æ ç ex) elt (σ++[some<|.str z]) H' R) (q:after<|upd H A<|.lst<|(zs.filter f).map V.str) :
  lU X N' scope tg ifs elt (pV X.K a) A after (σ++List.replicate 1 none) (upd H A<|.lst []):=by
 have ne:=bh ha hA;refine jS (xs:=zs.map V.str) (λk σ' H'=>(∃ v,σ'=σ++[v])/\H'=upd H A (.lst<|((zs.take k).filter f).map V.str)) ⟨⟨none,rfl⟩,by simp⟩ ?_ ?_ ?_
 ·rintro i σ' H' _ ⟨_,rfl⟩;exact aj.of<|by rwa[au ne]
 ·rintro i x σ' H' hx ⟨⟨v,rfl⟩,rfl⟩;rw[Ah,Ar]at hx;obtain⟨z,hz',rfl⟩:=hx;intro cl C æ ç ex;refine hg cl C æ ç ex _ _ _ _ ?_;intro cl C æ ç ex;refine hi cl C æ ç ex z _ _ ?_;have e:(zs.take<|i+1).filter f=(zs.take i).filter f++(if f z=true then [z]else []):=by
   rw[Bx,hz',Ct]
   congr 1
   cases hf:f z <;> simp[hf]
  have hlen:((zs.take i).filter f).length<=zs.length:=By (Cp _ _)<|by rw[Bh];omega
  by_cases hf:f z=true
  ·rw[BP hf];intro cl C æ ç ex;refine he cl C æ ç ex z _ _ ⟨_,av,by rw[Aa];omega,⟨_,rfl⟩,?_⟩;rw[pO,e,BP hf,Aj];rfl
  ·rw[BK hf];refine⟨⟨_,rfl⟩,?_⟩;rw[e,BK hf,Be]
 ·rintro σ' H' ⟨_,rfl⟩;have e2:zs.take (zs.map V.str).length=zs:=Ck (by simp);rwa[e2]
theorem kD(z:Str)(zs:Ñ):j6 (.str z) (zs.map V.str)=zs.contains z:=by
 unfold j6
 induction zs with
 | nil=>rfl
 | cons y r ih=>
  rw[Bn,Fj,ih,List.contains_cons]
  congr 1
  show cC (.str y) (.str z)=(z == y)
  by_cases h:y=z
  ·subst h;simp[cC]
  ·have h':z≠y:=λq=>h q.symm;show(y == z)=(z == y);rw[beq_eq_false_iff_ne.mpr h,beq_eq_false_iff_ne.mpr h']
def kE(zs:Ñ):(zs.map V.str).all jK=true:=by
 rw[De];intro x hx;obtain⟨z,_,rfl⟩:=Ai.mp hx;rfl
def jT{e1 e2:Expr}{k:Nat}{pos:Pos}{t:Addr}{x y:V}(hc:X.calm=true)(ht:aS X.K H t [x,y])(h:Eg X e1 x σ H λσ1 H1=>Eg X e2 y σ1 H1 R)
  (hn:(assignEach [e1,e2] X.env).length=2:=by rfl) (cP:(assignEach [e1,e2] X.env).findIdx? (·.1)=none:=by rfl)
  (jO:(assignEach [e1,e2] X.env).map (·.2)=assign e1 X.env :: (assignEach [e2] X.env).map (·.2):=by rfl) (tL:(assignEach [e2] X.env).map (·.2)=assign e2 X.env :: (assignEach [] X.env).map (·.2):=by rfl) :
  Eg X (.Tuple [e1,e2] k pos) (.ref t) σ H R:=
 F4 (Ph hc (uI qg (uI qg Pg tL) jO) hn cP) ⟨t,_,rfl,ht,rfl,_,_,rfl,h.mono λσ1 H1 h1=>⟨_,_,rfl,h1.mono λσ2 H2 q=>⟨rfl,q⟩⟩⟩
end
end L2
namespace PySem
variable{Q:Option Value->Shared->Prop}{name:Str}{xs:Array Value}{s:Shared}{E:Î}{A:Around}{w:World}{U:Program}
def getAttr?_miss_list{a:Addr}{o:Obj}{k:Nat}
  (hx:s.heap.get? a=some o) (hc:o.cls = .type "list") (jr:o.data = .seq xs k) (hd:o.dict=none) (vZ:typeLookup (.type "list") name=pure none) (v8:(["__module__","__name__","__qualname__","__doc__","__annotations__"]:Ñ).contains name=false) (hA:A.handled=none)
  (h:∀ h' tk e,Heap.NewExcOf s.heap h' e "AttributeError"->Q none {s with heap:=h',toks:=tk}) (hsz:name.length+100<=sizeLine:=by size_fits) :
  wpAny (model U w) A (getAttr? (.ref a) name) Q E s:=by
 obtain⟨c,dct,dat,sl⟩:=o;simp only at hc jr hd;subst hc jr hd;obtain⟨hp,g,d,tk,os⟩:=s;have hT:∀ zC,(⟨hp,g,d,zC,os⟩:Shared).TypeIs (.ref a) "list":=λ_=>⟨_,hx,rfl⟩;have f1:=sub_AttributeError;have f3:=F.slot_list_getattribute.lookup;have f4:=F.slot_list_getattribute.bind<|.ref a;have f5:=am_list_getattr_none;unfold getAttr? getAttrBy? getAttrBy
 repeat (any_goals (first | assumption | exact hT _ | ((with_reducible show wpAny _ _ (call (Value.builtin "list.__getattribute__") _ _) _ _ _);refine QB F.slot_list_getattribute (hT _) am_entry_list_getattribute (F.args_list_getattribute_2 _ _) (meets_getattribute_miss_list a xs k sl name _ vZ v8 hsz) ⟨hx,hA,λh' zC e g8=>?_⟩) | wp_step))
 obtain⟨t',u',he⟩:=g8.there;show wpAny _ _ (getattributeRaised _ _ _ _ _ _ _) _ _ _;unfold getattributeRaised
 repeat (any_goals (first | assumption | wp_step))
 exact h _ _ _ g8.of
namespace F
def bw:entryFor table "dict.update.loop" = some Builtin.«dict.update.loop»:=entryFor_of_tree<|by kernel_rfl
def aO:plainId "dict.update.loop" = true:=by decide +kernel
def fZ:typeLookup (.type "list") "keys" = pure none:=by rw[UL,PJ];kernel_rfl
end F
variable{R:Result->Shared->Prop}{items:Ó}
section
variable{K:Type} [DecidableEq K] {knd:KeyKind U w K}  
def Jj(knd:KeyKind U w K)(h:Heap)(items:Ó)(gS:List<|K×Value):Prop:=
 items.length=gS.length/\∀(j:Nat) it,items[j]?=some it->∃ T key k v o n,it = .ref T/\gS[j]?=some (k,v)/\knd.is k key=true/\h.get? T=some o/\o.cls = .type "tuple"/\o.data = .seq #[key,v] n
theorem j86(Y:List<|K×Value)(k:K)(v:Value):(stored Y k v).length<=Y.length+1:=by
 unfold stored
 split
 ·rw[Aa];omega
 ·rw[Ad];simp
theorem k5q{hB:Heap}{d I l:Addr}{gS:List (K×Value)}(hd:hB.objs.size<=d)(hI:hB.objs.size<=I)(Jk:d≠I)(hl:hB.IsList l items.toArray)(hp:Jj knd hB items gS)(hn:items.length < sizeLine)(hh:A.handled=none) :
  ∀(k i:Nat) (s:Shared) (acc:List<|K×Value),items.length - i=k->i<=items.length->(∀ b o,hB.get? b=some o->s.heap.get? b=some o)->s.heap.IsListIter I l i->s.heap.DictOf knd d acc->acc.length<=i ->
   (∀ h' tk,(∀ b o,b≠I->b≠d->s.heap.get? b=some o->h'.get? b=some o)->h'.DictOf knd d ((gS.drop i).foldl (λa p=>stored a p.1 p.2) acc)->R (.ok<|.ret .none) {s with heap:=h',toks:=tk}) ->
   codeAny (model U w) A (.builtin "dict.update.loop" ⟨[.ref d,.ref I,rawInt i,.none],[]⟩) R s:=by
 have nb:∀ b o,hB.get? b=some o->b≠I/\b≠d:=λb o e=>⟨Bi<|Bf (Ap e) hI,Bi<|Bf (Ap e) hd⟩;intro k
 induction k with
 | zero=>
  intro i s acc hk hi gT cP hD b4 hR;have QH:i=items.length:=⋯
  refine FQ F.bw ?_;rw[FN F.aO _];show wpAny _ A.in1 (pyNext (.ref I) >>= _) _ _ s;have oR:s.heap.IsList l items.toArray:=let ⟨o,ho,r⟩:=hl;⟨o,gT _ _ ho,r⟩
  refine BJ (wpAny_pyNext_list_end hh cP oR (by simp;omega) λh' eb=>?_);show wpAny _ A.in1 (Builtin.Dict.addKeywords d [] >>= _) _ _ _;refine BJ<|BL<|BL ?_;refine hR h' s.toks (λb o hb _ e=>eb b o hb e) ?_;rw[List.drop_eq_nil_of_le<|by have:=hp.1;omega];exact hD.extBut eb Jk
 | succ k ih=>
  intro i s acc hk hi gT cP hD b4 hR;have aV:i < items.length:=⋯
  have hx:items[i]?=some items[i]:=Ab aV;obtain⟨T,key,kk,v,o,n,e1,e2,e3,e4,e5,e6⟩:=hp.2 i _ hx;rw[e1]at hx;refine FQ F.bw ?_;rw[FN F.aO _];show wpAny _ A.in1 (pyNext (.ref I) >>= _) _ _ s;have oR:s.heap.IsList l items.toArray:=let ⟨o,ho,r⟩:=hl;⟨o,gT _ _ ho,r⟩
  refine BJ (wpAny_pyNext_list_item cP oR (x:= .ref T) (by simpa using hx) λh' dz sb=>?_);have eT:h'.get? T=some o:=(sb.2 T (nb T o e4).1).trans<|gT _ _ e4;refine BJ<|CJ<|BJ<|wpAny_tryCatch ?_;unfold Builtin.Dict.pairItems;refine BJ<|LK (T:= "tuple") ⟨o,eT,e5⟩ ?_;rw[BP<|∅];refine BJ<|wpAny_seqItems (s:={s with heap:=h'}) eT e6<|BL ?_;show wpAny _ _ (holding [key,v]<|dictSet d key v) _ _ _;refine CJ (wpAny_dictSet_pairs (knd:=knd) (s:={s with heap:=h'}) (k:=kk) e3 (hD.extBut sb.extBut Jk) (λh2 D2 Sy=>?_)<|⋯);refine BL ⟨JN F.aO _,?_⟩;have Sz:∀ b o,b≠I->b≠d->s.heap.get? b=some o->h2.get? b=some o:=λb o h1 h3 e=>(Sy.2 b h3).trans<|(sb.2 b h1).trans e;refine ih (i+1) {s with heap:=h2,toks:=s.toks+1} (stored acc kk v) ⋯ aV (λb o e=>Sz b o (nb b o e).1 (nb b o e).2<|gT _ _ e) (dz.extBut Sy.extBut<|CG Jk) D2 (by have:=j86 acc kk v;omega) λh3 tk k3 D3=>?_;refine hR h3 tk (λb o h1 oM e=>k3 b o h1 oM<|Sz b o h1 oM e) ?_;have e7:gS.drop i=(kk,v) :: gS.drop (i+1):=by
   obtain⟨hj,e8⟩:=Ac.mp e2;rw[RV hj,e8]
  rwa[e7]
def j73{Q:Î}{l:Addr}{ol:Obj}{nl:Nat}{gS:List (K×Value)}(ho:s.heap.get? l=some ol)(hc:ol.cls = .type "list")(qN:ol.dict=none)(Jl:ol.data = .seq items.toArray nl)(hp:Jj knd s.heap items gS)(hn:items.length < sizeLine)(hh:A.handled=none)
  (h:∀ h' tk,(∀ b o,s.heap.get? b=some o->h'.get? b=some o)->h'.DictOf knd s.heap.objs.size (gS.foldl (λa p=>stored a p.1 p.2) [])->Q (.ref s.heap.objs.size) {s with heap:=h',toks:=tk}) :
  wpAny (model U w) A (call (.type "dict") [.ref l]) Q E s:=by
 refine callType_codes (Q₁:=λobj À=>obj = .ref s.heap.objs.size/\À={s with heap:=s.heap.push {cls:= .type "dict",data:= .dict #[]}}) F.kt_called_dict (F.kt_typeCall_dict_1 _) F.entry_dict_init (kt_code_dict_new _ ⟨rfl,rfl⟩) ?_;rintro obj À ⟨rfl,rfl⟩;have iz:(s.heap.push {cls:= .type "dict",data:= .dict #[]}).DictOf knd s.heap.objs.size []:=Heap.DictOf.new s.heap;have cW:(s.heap.push {cls:= .type "dict",data:= .dict #[]}).get? l=some ol:=Ae _ ho;refine⟨iz.typeIs,F.args_dict_init_2 _ _,?_⟩;unfold Builtin.«dict.__init__»;refine BJ ?_;unfold Builtin.Dict.selfAndRest;refine BJ<|wpAny_notOrdered_dict iz.typeIs ?_;show wpAny _ _ (pure (s.heap.objs.size,[Value.ref l])) _ _ _;refine BL ?_;show wpAny _ _ (Builtin.Dict.updateFrom "dict.__init__" s.heap.objs.size (.ref l) [] .none) _ _ _;unfold Builtin.Dict.updateFrom;refine BJ<|LK ⟨ol,cW,hc⟩ ?_;rw[BP<|∅];refine BJ (getAttr?_miss_list cW hc Jl qN F.fZ ∅ (by exact hh) λh' tk e ne=>?_);rw[BP (show(none:Option Value).isNone=true from rfl)];have kp:=λb o e=>ne.keeps b o<|Ae _ e;refine BJ<|GX ?_;have hL:h'.IsList l items.toArray:=⟨ol,kp _ _ ho,hc,nl,Jl⟩;refine BJ<|MK hL ?_;refine BL ⟨JN F.aO _,?_⟩;have SA:h'.DictOf knd s.heap.objs.size []:=let ⟨o,es,ep,ho,r⟩:=iz;⟨o,es,ep,ne.keeps _ _ ho,r⟩
 have aV:s.heap.objs.size < h'.objs.size:=let ⟨o,es,ep,ho,r⟩:=SA;Ap ho
 refine k5q (hB:=s.heap) (d:=s.heap.objs.size) (I:=h'.objs.size) (l:=l) (Am _) (Bz aV) (Bi aV) ⟨ol,ho,hc,nl,Jl⟩ hp hn (by exact hh) _ 0 _ [] rfl (Bu _) (λb o e=>Ae _<|kp b o e) ⟨_,Ao _ rfl,rfl,rfl⟩ (SA.push _) (Bu _) λh2 tk2 k2 D2=>?_;refine⟨rfl,h h2 tk2 (λb o e=>k2 b o (Bi<|Ap<|kp b o e) (Bi<|Ap e)<|Ae _<|kp b o e) D2⟩
end
end PySem
namespace L2
open PySem PySem.Spec PyProof.Rows
variable{s:Shared}{H:Hp}{σ:St}{O:Ð}{X:Cx}{Y:List (Key×V)}
theorem k3s:∀{ps}{acc}{rs},KV ps acc->KV Y rs->KV (Y.foldl (λa p=>putK a p.1 p.2) ps) (rs.foldl (λa p=>stored a p.1 p.2) acc):=by
 induction Y with
 | nil=>intro ps acc rs h g;cases g;exact h
 | cons p r ih=>
  intro ps acc rs h g;cases g with
  | @cons _ q _ r' hq hr=>
   obtain⟨e1,e2⟩:=hq;rw[Dp,Dp];refine ih ?_ hr;rw[<- e1];exact h.put p.1 e2
theorem SD{P:Program}{w:World}{h:Heap}:∀{Y:List (Key×V)} {ts:List Addr},ts.length=Y.length->(∀(j:Nat) t kv,ts[j]?=some t->Y[j]?=some kv->∃ key v o m,(dM P w).is kv.1 key=true/\RelV kv.2 v/\h.get? t=some o/\o.cls = .type "tuple"/\o.data = .seq #[key,v] m) ->
  ∃ rs:List<|Key×Value,KV Y rs/\∀(j:Nat) t,ts[j]?=some t->∃ key k v o m,rs[j]?=some (k,v)/\(dM P w).is k key=true/\h.get? t=some o/\o.cls = .type "tuple"/\o.data = .seq #[key,v] m
 | [],ts,hl,_=>by
  have:ts=[]:=Cd.mp hl;subst this;exact⟨[],.nil,λj t h=>by simp at h⟩
 | kv :: r,[],hl,_=>by simp at hl
 | kv :: r,t :: ts,hl,hp=>by
  obtain⟨key,v,o,m,q1,q2,q3,q4,q5⟩:=hp 0 t kv rfl rfl;obtain⟨rs,hk,hr⟩:=SD (by simpa using hl) λj t kv h1 h2=>hp (j+1) t kv (by simpa using h1) (by simpa using h2);refine⟨(kv.1,v) :: rs,.cons ⟨rfl,q2⟩ hk,λj t' ht=>?_⟩;cases j with
  | zero=>
   cases ht;exact⟨key,kv.1,v,o,m,rfl,q1,q3,q4,q5⟩
  | succ j=>
   obtain⟨key,k,v,o,m,e,z⟩:=hr j t' (by simpa using ht);exact⟨key,k,v,o,m,by simpa using e,z⟩
theorem j8d(hc:X.calm=true):fE X (.type "dict") (λxs H Q=>∃(a:Addr) (ts:List Addr) (Y:List<|Key×V),xs=[.ref a]/\H a=some (.lst<|ts.map V.ref)/\ts.length=Y.length/\ts.length < sizeLine/\(∀(j:Nat) t kv,ts[j]?=some t->Y[j]?=some kv->H t=some (.tup [kV kv.1,kv.2])) /\
  ∀ d,H d=none->Q (.ref d) (upd H d<|.dK<|Y.foldl (λa p=>putK a p.1 p.2) [])):=by
 intro O s σ H xs us Q I r h;obtain⟨a,ts,Y,rfl,hH,hl,hz,ht,q⟩:=h;obtain⟨u,rfl,ru⟩:=vals1 r;cases (show u=Value.ref a from ru);obtain⟨z,è,n,rv,e⟩:=(show aB X.U X.w H s.heap a (.lst<|ts.map V.ref)from I.aF a _ hH);have mW:=rv.length;rw[Aa]at mW;have qP:∀(j:Nat) t,ts[j]?=some t->è[j]?=some (.ref t):=λj t hj=>by
  obtain⟨u,hu,ru⟩:=rv.get (i:=j) (x:= .ref t) (by rw[Ah,hj];rfl);cases (show u=Value.ref t from ru);exact hu
 have pair:∀(j:Nat) t kv,ts[j]?=some t->Y[j]?=some kv->∃ key v o m,(dM X.U X.w).is kv.1 key=true/\RelV kv.2 v/\s.heap.get? t=some o/\o.cls = .type "tuple"/\o.data = .seq #[key,v] m:=λj t kv h1 h2=>by
  obtain⟨z2,eO,hZ,o,eo,co,m,dm⟩:=(show aB X.U X.w H s.heap t (.tup [kV kv.1,kv.2])from I.aF t _<|ht j t kv h1 h2);obtain⟨key,v,e3,r1,r2⟩:=hZ.two;refine⟨key,v,o,m,oJ r1,r2,eo,co,?_⟩;rw[dm,e3]
 obtain⟨rs,hk,hr⟩:=SD hl pair;have oZ:=hk.length;have hP:Jj (dM X.U X.w) s.heap è rs:=by
  refine⟨⋯,λj it hj=>?_⟩;have tM:j < ts.length:=by have:=(Ac.mp hj).1;omega
  have SE:ts[j]?=some ts[j]:=Ab tM;have e2:=qP j _ SE;rw[hj]at e2;obtain⟨key,k,v,o,m,q1,q2,q3,q4,q5⟩:=hr j _ SE;exact⟨ts[j],key,k,v,o,m,Option.some.inj e2,q1,q2,q3,q4,q5⟩
 refine j73 (knd:=dM X.U X.w) e rfl rfl rfl hP ⋯ (I.ok.hd hc) λh' tk kp D=>?_;have hlen:∀(l:List<|Key×V) (a:List<|Key×V),(l.foldl (λa p=>putK a p.1 p.2) a).length<=a.length+l.length:=by
  intro l
  induction l with
  | nil=>intro a;exact Am _
  | cons p r ih=>
   intro a;rw[Dp,As];have h1:=ih<|putK a p.1 p.2;have h2:=jn a p.1 p.2;omega
 have hb:=I.big;refine⟨.ref s.heap.objs.size,_,I.laid (t':=tk) kp (Am _) (show aB X.U X.w _ h' _ (.dK<|Y.foldl (λa p=>putK a p.1 p.2) []) from⟨?_,?_,_,k3s (Y:=Y) (ps:=[]) (acc:=[]) .nil hk,D⟩),rfl,q _<|I.aF.fresh<|Am _⟩
 ·have:=hlen Y [];rw[Eu]at this;omega
 ·exact beq_eq_false_iff_ne.mpr<|Cw hb
variable{ch:List Addr}{a:Addr}{tp:Pos}{elts:Ô}{K:PySem.W.Frag}{w:World}
section
variable{h':Heap}
def Inv.bL{t':Nat}(I:Inv X O σ H s)(hf:∀ b∈ch,cr X O H b)(k:∀ b o,b∉ch->s.heap.get? b=some o->h'.get? b=some o):Inv X O σ H {s with heap:=h',toks:=t'}:=by
 have uD:∀ b u,H b=some u->b∉ch:=λb u e z=>by rw[(hf b z).1]at e;cases e
 refine I.step (λb hb=>?_) (λb o _ _ hc e _=>k b o hc e) (λb o _ _ hc e _=>⟨o.slots,k b o hc e⟩) (λ_ _ _ _ n=>n)
  (λb o hc e=>⟨o,k b o hc e⟩) (λ_ _ e=>e) (λ_ _ _ e=>e) (λb ps e=>⟨#[],by rw[e];simp⟩) (λm hm=>?_) (λb u e=>?_) I.bare
 ·obtain⟨f0,f1,f2,f3,f4,f5⟩:=hf b hb;exact⟨f3,f1,f4,f5⟩
 ·obtain⟨o,es,ep,ho,r⟩:=hm;exact⟨o,es,ep,k _ o (λz=>(hf _ z).2.1 rfl) ho,r⟩
 ·refine(I.aF b u e).fK (λc v hc q=>k c v ?_ q) (λ_ q=>q) λ_ _ q=>q
  rcases hc with z | z
  ·rw[z];exact uD b u e
  ·exact uD c _ z
def AI(K:PySem.W.Frag)(a b:Addr):It:=
  ⟨λi H => ∃ xs ys x y, aj K H a xs ∧ aj K H b ys ∧ xs[i]? = some x ∧ ys[i]? = some y,
   λi H v H'=>∃ T x y,H T=none/\v = .ref T/\H'=upd H T (.tup [x,y])/\(∀ xs,aj K H a xs->xs[i]?=some x)/\∀ ys,aj K H b ys->ys[i]?=some y,
   λi H=>∃ xs ys,aj K H a xs/\aj K H b ys/\(xs.length<=i\/ys.length<=i)⟩
def SF(m a b:Addr)(i:Nat)(h:Heap):Prop:=
 IsZip h (m+4) (m+2) (m+3) .none/\IsPair h (m+2) (.ref m) (.ref<|m+1)/\(∃ x y,IsPair h (m+3) x y)/\h.IsListIter m a i/\h.IsListIter (m+1) b i
def SG{h:Heap}{m b:Addr}{i:Nat}{xs ys:Array Value}(z:SF m a b i h)(ha:h.IsList a xs)(hb:h.IsList b ys):ZipApart (m+4) (m+2) (m+3) m (m+1) a b:=by
  obtain⟨z1,z2,⟨x,y,z3⟩,⟨o4,e4,c4,_⟩,⟨o5,e5,c5,_⟩⟩:=z;have cls:∀{l:Addr} {vs:Array Value} {c:Addr} {o:Obj},h.IsList l vs->h.get? c=some o->o.cls ≠ .type "list"->l≠c:=λhl hc hn e=>by
    obtain⟨ol,vF,jN,_⟩:=hl;rw[e,hc]at vF;cases vF;exact hn jN
  exact { TIz := by simp, TOz := by simp, i1z := by simp, i2z := by simp, TITO := by simp, TIi1 := by simp, TIi2 := by simp, TOi1 := by simp, TOi2 := by simp, i12 := by simp
          l1z:=cls ha z1 (by show Value.type "zip"≠Value.type "list";decide),l1TO:=cls ha z3 (by show Value.type "tuple"≠Value.type "list";decide),l1i1:=cls ha e4 (by rw[c4];decide),l1i2:=cls ha e5<|by rw[c5];decide
          l2z:=cls hb z1 (by show Value.type "zip"≠Value.type "list";decide),l2TO:=cls hb z3 (by show Value.type "tuple"≠Value.type "list";decide),l2i1:=cls hb e4 (by rw[c4];decide),l2i2:=cls hb e5 (by rw[c5];decide)}
theorem q1y{P:Program}{k:Nat}(m a b:Addr):Turn P w K (.Tuple elts k tp) (AI K a b) [m,m+1,m+2,m+3,m+4] (m+4) (SF m a b) where
 mem:=by simp
 obj:=λi h st c hc=>by
  obtain⟨z1,z2,⟨x,y,z3⟩,⟨o4,e4,c4,d4⟩,⟨o5,e5,c5,d5⟩⟩:=st;simp only[Al,Ch,FW]at hc
  rcases hc with rfl | rfl | rfl | rfl | rfl
  ·exact⟨_,e4,λv z=>by rw[d4]at z;cases z⟩
  ·exact⟨_,e5,λv z=>by rw[d5]at z;cases z⟩
  ·exact⟨_,z2,λv z=>by cases z⟩
  ·exact⟨_,z3,λv z=>by cases z⟩
  ·exact⟨_,z1,λv z=>by cases z⟩
 keep:=λi h h' st kp=>by
  obtain⟨z1,z2,⟨x,y,z3⟩,⟨o4,e4,r4⟩,⟨o5,e5,r5⟩⟩:=st;exact⟨kp _ (by simp) _ z1,kp _ (by simp) _ z2,⟨x,y,kp _ (by simp) _ z3⟩,⟨o4,kp _ (by simp) _ e4,r4⟩,⟨o5,kp _ (by simp) _ e5,r5⟩⟩
 item:=by
  intro X hP hw hK hc i O s σ H E I hf st hg;subst hP hw hK;obtain⟨xs,ys,x,y,fC,v9,hx,hy⟩:=hg;obtain⟨kG,m7,p1,qR⟩:=I.list fC;obtain⟨eO,hZ,p2,AJ⟩:=I.list v9;obtain⟨u1,cj,Jm⟩:=m7.get hx;obtain⟨u2,Jn,ru2⟩:=hZ.get hy;have D:=SG st p1.isList p2.isList;obtain⟨z1,z2,⟨x0,y0,z3⟩,z4,z5⟩:=id st;refine wpAny_pyNext_zip_item D z1 z2 z3 z4 z5 p1.isList p2.isList (by simpa using cj) (by simpa using Jn) λh' a1 a2 a3 a4 a5 a6 kp=>?_;have hT:=I.aF.fresh<|Am _;have nT:∀ c∈[m,m+1,m+2,m+3,m+4],c≠s.heap.objs.size:=λc bu=>by
   have:∃ o,s.heap.get? c=some o:=by
    obtain⟨o4,e4,_⟩:=z4;obtain⟨o5,e5,_⟩:=z5;simp only[Al,Ch,FW]at bu
    rcases bu with rfl | rfl | rfl | rfl | rfl
    ·exact⟨_,e4⟩
    ·exact⟨_,e5⟩
    ·exact⟨_,z2⟩
    ·exact⟨_,z3⟩
    ·exact⟨_,z1⟩
   obtain⟨o,e⟩:=this;exact Bi<|Ap e
  have I1:Inv X O σ (upd H s.heap.objs.size<|.tup [x,y]) {s with heap:=s.heap.push {cls:= .type "tuple",data:= .seq #[u1,u2]}}:=
   I.laid (λb o e=>Ae _ e) (Am _) (show aB X.U X.w _ _ _ (.tup [x,y]) from⟨Z2,[u1,u2],.cons Jm<|.cons ru2 .nil,⟨_,Ao _ rfl,rfl,_,rfl⟩⟩)
  have f1:∀ c∈[m,m+1,m+2,m+3,m+4],cr X O (upd H s.heap.objs.size<|.tup [x,y]) c:=λc bu=>⟨by rw[au<|nT c bu];exact(hf c bu).1,(hf c bu).2⟩;have qu:∀ c o,c∉[m,m+1,m+2,m+3,m+4]->(s.heap.push {cls:= .type "tuple",data:= .seq #[u1,u2]}).get? c=some o->h'.get? c=some o:=λc o bu e=>by
   rcases Gp e with ⟨ec,eo⟩ | e'
   ·rwa[ec,eo]
   ·simp only[Al,Ch,FW,not_or]at bu;exact kp c o bu.2.2.2.2 bu.2.2.2.1 bu.1 bu.2.1 e'
  have I2:=Inv.bL (h':=h') (t':=s.toks) I1 f1 qu;refine⟨_,rfl,wpAny_letOwnedTupleGo_zip (s:={s with heap:=h'}) a1 λh2 b1 sb=>?_⟩;have z2':IsPair h' (m+2) (.ref m) (.ref<|m+1):=kp _ _ (by simp) (by simp) (by simp) (by simp) z2;have AK:∀ c o,c∉[m+4]->h'.get? c=some o->h2.get? c=some o:=λc o bu e=>(sb.2 c<|by simpa using bu).trans e;have I3:=Inv.bL (h':=h2) (t':=s.toks) I2 (ch:=[m+4]) (λc bu=>f1 c<|by simp at bu;simp[bu]) AK;refine⟨.ref s.heap.objs.size,_,I3,rfl,⟨_,x,y,hT,rfl,rfl,λzs hz=>by rw[I.cZ hz fC];exact hx,λzs hz=>by rwa[I.cZ hz v9]⟩,?_,λc bu=>(f1 c bu).1⟩;have sx:∀ c o,c≠m+4->h'.get? c=some o->h2.get? c=some o:=λc o bu e=>(sb.2 c bu).trans e;obtain⟨o3,e3,r3⟩:=a3;obtain⟨o4,e4,r4⟩:=a4;exact⟨b1,sx _ _ (by simp) z2',⟨u1,u2,sx _ _ (by simp) a2⟩,⟨o3,sx _ _ (by simp) e3,r3⟩,⟨o4,sx _ _ (by simp) e4,r4⟩⟩
 done:=by
  intro X hP hw hK hc i O s σ H E I hf st hg;subst hP hw hK;obtain⟨xs,ys,fC,v9,wa⟩:=hg;obtain⟨kG,m7,p1,qR⟩:=I.list fC;obtain⟨eO,hZ,p2,AJ⟩:=I.list v9;have l1:=m7.length;have l2:=hZ.length;have D:=SG st p1.isList p2.isList;obtain⟨z1,z2,⟨x0,y0,z3⟩,z4,z5⟩:=id st;refine wpAny_pyNext_zip_end (I.ok.hd hc) D z1 z2 z3 z4 z5 p1.isList p2.isList ?_ λh' kp=>⟨rfl,I.bL (t':=s.toks) (ch:=[m,m+1,m+2,m+3,m+4]) hf λc o bu e=>?_⟩
  ·rcases wa with h | h
   ·exact .inl<|by simp;omega
   ·exact .inr<|by simp;omega
  ·simp only[Al,Ch,FW,not_or]at bu;exact kp c o bu.2.2.2.2 bu.2.2.2.1 bu.1 bu.2.1 e
 self:=λ_ _ _ _ _ st h=>wpAny_pyIter_zip st.1 h
end
def Jo(K:PySem.W.Frag)(ta:TA):TI:=λσ H R=>ta σ H λvs H1=>∃ a b,vs=[.ref a,.ref b]/\(∃ xs,aj K H1 a xs)/\(∃ ys,aj K H1 b ys)/\R (AI K a b) H1
theorem SH{k:Nat}{a b:Expr}{ta:TA}{p pos:Pos}(hg:Gl X "zip")(hm:X.mg "zip" = none)(ha:PA X [a,b] ta)(hs:starEach [a,b] X.env=[(false,eval a X.env),(false,eval b X.env)]:=by rfl)(tL:starEach [b] X.env=[(false,eval b X.env)]:=by rfl) :
  PI X (.Tuple elts k tp) (.Call (.Name "zip" p) [a,b] [] pos) (Jo X.K ta):=by
 intro O s σ H R I h;refine Call_ (oD I hg hm boot_zip<|IV (aN (ha pos O s σ H _ I h) λus s1 ⟨vs,H1,I1,r1,q1⟩=>?_) (by rw[hs,tL])<|by rw[tL];rfl);obtain⟨x,y,e,⟨xs,hx⟩,⟨ys,hy⟩,q⟩:=q1;subst e;obtain⟨u,v,rfl,ru,rv⟩:=r1.two;cases (show u=Value.ref x from ru);cases (show v=Value.ref y from rv);obtain⟨kG,m7,p1,qR⟩:=I1.list hx;obtain⟨eO,hZ,p2,AJ⟩:=I1.list hy;refine call_zip_2 p1.isList p2.isList λh' a1 a2 a3 a4 a5 a6 kp=>?_;refine wpAny_pyIter_zip a1 ?_;refine⟨s1.heap.objs.size+4,[s1.heap.objs.size,s1.heap.objs.size+1,s1.heap.objs.size+2,s1.heap.objs.size+3,s1.heap.objs.size+4],_,_,H1,rfl,I1.kept kp,q1y s1.heap.objs.size x y,⟨a1,a2,⟨_,_,a3⟩,a4,a5⟩,λb hb=>?_,q⟩;have hle:s1.heap.objs.size<=b:=by
  simp only[Al,Ch,FW]at hb
  rcases hb with rfl | rfl | rfl | rfl | rfl <;> omega
 exact I1.gF hle<|I1.aF.fresh hle
def tN(elt t1 i1:Expr)(f1:Ô)(t2 i2:Expr)(f2:Ô)(scope:Scope)(pos:Pos)(acc:Value)(env:Env):Sem Unit:=do
 let x <- eval i2 env
 standAt i2.pos
 let x <- foldedSetIterable i2 env x
 let _ <- runOwn (.compStart (.ListComp elt [⟨t1,i1,f1,0⟩,⟨t2,i2,f2,0⟩] scope pos) 1 (<- holding [x]<|pyIter x) acc env) env
variable{env:Env}{acc:Value}{scope:Scope}{Q:St->Hp->Prop}{wi:TI}
section
variable{elt t1 i1 t2 i2:Expr}{f1 f2:Ô}{pos:Pos}
def q5e:Clause (.ListComp elt [⟨t1,i1,f1,0⟩,⟨t2,i2,f2,0⟩] scope pos) 0 t1 i1 f1 acc env (tN elt t1 i1 f1 t2 i2 f2 scope pos acc env):=⟨rfl,λ_=>rfl,λ_ _ _=>rfl,λ_ _=>rfl,λ_ _ _=>rfl,λ_ _=>rfl,λit=>by
 unfold tN;simp only[bind_assoc,pure_bind];rfl⟩
def q53:Clause (.ListComp elt [⟨t1,i1,f1,0⟩,⟨t2,i2,f2,0⟩] scope pos) 1 t2 i2 f2 acc env (emit elt acc env):=⟨rfl,λ_=>rfl,λ_ _ _=>rfl,λ_ _=>rfl,λ_ _ _=>rfl,λ_ _=>rfl,λ_=>rfl⟩
def q1u(js:X.xe=λ_ _=>False)(hc:X.calm=true)(hi:PI X t2 i2 wi)(h:wi σ H λJ H1=>iy X t2 f2 (emit elt acc X.env) J Q σ H1)
  (hs:∀ x,foldedSetIterable i2 X.env x=pure x:=by intro _;rfl):lV X (tN elt t1 i1 f1 t2 i2 f2 scope pos acc X.env) σ H Q:=by
 refine⟨λO s I=>?_⟩;unfold tN;refine BJ<|aN (hi O s σ H _ I h) λx s1 h1=>?_;refine BJ<|FP<|BJ<|JG (hs x)<|BJ<|CJ<|CT h1 (λoE s2 h2=>?_) λ_ _ e=>e;obtain⟨it,fp,tn,J,H2,e,I2,T,gm,wc,q⟩:=h2;subst e;refine BJ<|wpAny_runOwn ?_;exact zj js hc q53 I2 T gm wc q λσ' H' s' I' q'=>BL ⟨σ',H',I',q'⟩
def q1h{Q:VK}(sc:Scope)(N N':Ñ)(n:Nat)(hi:PI X t1 i1 wi)
  (h:wi σ H λJ H1=>∀ D,H1 D=none->∀ cl C æ ç ex,iy (fO X N' scope cl C æ ç ex) t1 f1 (tN elt t1 i1 f1 t2 i2 f2 scope pos (.ref D)<|compEnvC scope cl C X.env) J (λ_ H'=>Q (.ref D) H') (σ++List.replicate n none)<|upd H1 D<|.lst [])
  (hc:X.calm=true:=by rfl) (iB:X.env.scope=sc:=by rfl) (hN:X.N=N:=by rfl) (hk:mR sc scope N N'=true:=by decide +kernel) (hl:N'.length=N.length+n:=by rfl)
  (hs:∀ x,foldedSetIterable i1 X.env x=pure x:=by intro _;rfl):Ev X (.ListComp elt [⟨t1,i1,f1,0⟩,⟨t2,i2,f2,0⟩] scope pos) σ H Q:=
 AH (u0:=λ_=> .lst []) (λ_ _ _ h=>CZ h<|by show(0:Nat)<=sizeLine;exact Bu _) (λ_ _ _=>⟨Bu _,[],0,.nil,Ao _ rfl⟩) (λ_ _=>q5e) rfl rfl sc N N' n hi h hc iB hN hk hl hs
end
variable{E:Î}{A:Around}
section
variable{y v:V}{u r:Value}
theorem SK{H':Hp}{Q:Unit->Shared->Prop}(hu:A.units+1 < cLine)(I:Inv X O σ H s)(g:bX H a y v H')(ry:RelV y u)(rv:RelV v r)(h:∀ s',Inv X O σ H' s'->Q () s') :
  wpAny (model X.U X.w) A (dictSet a u r) Q E s:=by
 rcases g with ⟨Y,k,e,ey,l,eH⟩ | ⟨Y,k,b,e,ey,eb,l,eH⟩
 ·subst ey eH;obtain⟨z,hd,vs,rel,dd⟩:=vd I.aF e;have hz:vs.length<=sizeLine:=by rwa[<- rel.length]
  have hl:(putK Y k v).length<=sizeLine:=by have:=jn Y k v;omega
  refine wpAny_dictSet_pairs (oJ ry) dd λh' jo hs=>h _ ?_;have he:∃ q,h'.get? a=some q:=let ⟨q,_,_,hq,_⟩:=jo;⟨q,hq⟩
  exact mK I (by rw[e];exact True.intro) hs he<|FK hl hd (rel.put k rv) jo
 ·subst ey eH;cases (show u=Value.ref b from ry);obtain⟨z,hd,xs,rel,dd⟩:=Qj I.aF e;have hz:xs.length<=sizeLine:=by rwa[<- Paired.length rel]
  have hl:(putK Y k v).length<=sizeLine:=by have:=jn Y k v;omega
  have room:(tupleKind<|dM X.U X.w).room A:=by first | exact hu | exact Nat.lt_of_succ_lt hu | exact QZ (Ef _) hu
  refine wpAny_dictSet_heap room (sR I.aF eb) dd λh' jo hs=>h _ ?_;obtain⟨q,es,ep,hq,h2,h3,h4,_,h5⟩:=jo;refine mK I (by rw[e];exact True.intro) hs ⟨q,hq⟩ ⟨hl,hd,_,(rel.put k eb rv).keeps λc ys ec=>?_,q,es,ep,hq,h2,h3,h4,h5⟩;rwa[au<|bV ec e λz=>nomatch z]
end
def m8(k v:Expr)(acc:Value)(env:Env):Sem Unit:=do
 let kv <- eval k env
 let vv <- holding [kv]<|eval v env
 match acc with
 | .ref d=>do
  standAt {k.pos with endLine:=v.pos.endLine,endCol:=v.pos.endCol}
  holding [kv,vv] (dictSet d kv vv)
 | _=>unsupported "internal:dictcomp"
def tO(k v t1 i1:Expr)(f1:Ô)(t2 i2:Expr)(f2:Ô)(scope:Scope)(pos:Pos)(acc:Value)(env:Env):Sem Unit:=do
 let x <- eval i2 env
 standAt i2.pos
 let x <- foldedSetIterable i2 env x
 let _ <- runOwn (.compStart (.DictComp k v [⟨t1,i1,f1,0⟩,⟨t2,i2,f2,0⟩] scope pos) 1 (<- holding [x]<|pyIter x) acc env) env
variable{D:Addr}
section
variable{k v t1 i1 t2 i2:Expr}{f1 f2:Ô}{pos:Pos}
def q5o:Clause (.DictComp k v [⟨t1,i1,f1,0⟩] scope pos) 0 t1 i1 f1 acc env (m8 k v acc env):=⟨rfl,λ_=>rfl,λ_ _ _=>rfl,λ_ _=>rfl,λ_ _ _=>rfl,λ_ _=>rfl,λit=>by
 unfold m8;cases acc <;> first | rfl | (simp only[bind_assoc,pure_bind];rfl)⟩
def q29:Clause (.DictComp k v [⟨t1,i1,f1,0⟩,⟨t2,i2,f2,0⟩] scope pos) 0 t1 i1 f1 acc env (tO k v t1 i1 f1 t2 i2 f2 scope pos acc env):=⟨rfl,λ_=>rfl,λ_ _ _=>rfl,λ_ _=>rfl,λ_ _ _=>rfl,λ_ _=>rfl,λit=>by
 unfold tO;simp only[bind_assoc,pure_bind];rfl⟩
def q2s:Clause (.DictComp k v [⟨t1,i1,f1,0⟩,⟨t2,i2,f2,0⟩] scope pos) 1 t2 i2 f2 acc env (m8 k v acc env):=⟨rfl,λ_=>rfl,λ_ _ _=>rfl,λ_ _=>rfl,λ_ _ _=>rfl,λ_ _=>rfl,λit=>by
 unfold m8;cases acc <;> first | rfl | (simp only[bind_assoc,pure_bind];rfl)⟩
def SL(hu:X.A.units+1 < cLine)(h:Ev X k σ H λy H1=>Ev X v σ H1 λx H2=>∃ H3,bX H2 D y x H3/\Q σ H3):lV X (m8 k v (.ref D) X.env) σ H Q:=by
 refine⟨λO s I=>?_⟩;unfold m8;refine BJ<|aN (h.run O s I) λkv s1 ⟨y,H1,I1,r1,h1⟩=>?_;refine BJ<|CJ<|aN (h1.run O s1 I1) λvv s2 ⟨x,H2,I2,r2,H3,dp,q⟩=>?_;show wpAny _ _ (standAt _ >>= λ_=>holding [kv,vv]<|dictSet D kv vv) _ _ _;exact BJ<|FP<|CJ<|SK hu I2 dp r1 r2 λs' I'=>⟨σ,H3,I',q⟩
def k7h(js:X.xe=λ_ _=>False)(hc:X.calm=true)(hi:PI X t2 i2 wi)(h:wi σ H λJ H1=>iy X t2 f2 (m8 k v acc X.env) J Q σ H1)
  (hs:∀ x,foldedSetIterable i2 X.env x=pure x:=by intro _;rfl):lV X (tO k v t1 i1 f1 t2 i2 f2 scope pos acc X.env) σ H Q:=by
 refine⟨λO s I=>?_⟩;unfold tO;refine BJ<|aN (hi O s σ H _ I h) λx s1 h1=>?_;refine BJ<|FP<|BJ<|JG (hs x)<|BJ<|CJ<|CT h1 (λoE s2 h2=>?_) λ_ _ e=>e;obtain⟨it,fp,tn,J,H2,e,I2,T,gm,wc,q⟩:=h2;subst e;refine BJ<|wpAny_runOwn ?_;exact zj js hc q2s I2 T gm wc q λσ' H' s' I' q'=>BL ⟨σ',H',I',q'⟩
def SR{Q:VK}(sc:Scope)(N N':Ñ)(n:Nat)(hi:PI X t1 i1 wi)
  (h:wi σ H λJ H1=>∀ D,H1 D=none->∀ cl C æ ç ex,iy (fO X N' scope cl C æ ç ex) t1 f1 (m8 k v (.ref D)<|compEnvC scope cl C X.env) J (λ_ H'=>Q (.ref D) H') (σ++List.replicate n none)<|upd H1 D<|.dT [])
  (hc:X.calm=true:=by rfl) (iB:X.env.scope=sc:=by rfl) (hN:X.N=N:=by rfl) (hk:mR sc scope N N'=true:=by decide +kernel) (hl:N'.length=N.length+n:=by rfl)
  (hs:∀ x,foldedSetIterable i1 X.env x=pure x:=by intro _;rfl):Ev X (.DictComp k v [⟨t1,i1,f1,0⟩] scope pos) σ H Q:=
 AH (λ_ _ _ h=>CZ h) (λ_ h hb=>FO h hb) (λ_ _=>q5o) rfl rfl sc N N' n hi h hc iB hN hk hl hs
def k54{Q:VK}(sc:Scope)(N N':Ñ)(n:Nat)(hi:PI X t1 i1 wi)
  (h:wi σ H λJ H1=>∀ D,H1 D=none->∀ cl C æ ç ex,iy (fO X N' scope cl C æ ç ex) t1 f1 (tO k v t1 i1 f1 t2 i2 f2 scope pos (.ref D)<|compEnvC scope cl C X.env) J (λ_ H'=>Q (.ref D) H') (σ++List.replicate n none)<|upd H1 D<|.dT [])
  (hc:X.calm=true:=by rfl) (iB:X.env.scope=sc:=by rfl) (hN:X.N=N:=by rfl) (hk:mR sc scope N N'=true:=by decide +kernel) (hl:N'.length=N.length+n:=by rfl)
  (hs:∀ x,foldedSetIterable i1 X.env x=pure x:=by intro _;rfl):Ev X (.DictComp k v [⟨t1,i1,f1,0⟩,⟨t2,i2,f2,0⟩] scope pos) σ H Q:=
 AH (λ_ _ _ h=>CZ h) (λ_ h hb=>FO h hb) (λ_ _=>q29) rfl rfl sc N N' n hi h hc iB hN hk hl hs
end
open bK
variable{zs:Ñ}{U:Program}
def SU{z:Str}{tk:Tok}{Q:Î}(S:aA U w s.heap a zs)(hb:zs.length+1 < 1000)
  (h:∀ h',Heap.SameBut a s.heap h'->aA U w h' a (added zs z)->Q .none {s with heap:=h',toks:=s.toks+1}) :
  wpAny (model U w) A (call (.builtin "set.add") [.ref a,.str z tk]) Q E s:=by
 have hT:s.TypeIs (.ref a) "set":=let ⟨o,_,_,_,ho,hx,_⟩:=S;⟨o,ho,hx.1⟩
 refine DQ F.slot_set_add hT F.entry_set_add ?_<|F.args_set_add_2 _ _;unfold Builtin.«set.add» Builtin.Frozenset.oneOther;simp only[Gk,bind_assoc];unfold Builtin.Frozenset.addrOf setAdd;refine BJ<|BL ?_
 try dsimp only
 refine BJ<|BL ?_
 try dsimp only
 refine BJ<|CJ ?_;refine BJ ((PySem.strKind U w).pyHash (k:=z) (by simp[PySem.strKind,Value.isStrOf]) ?_);refine Hs S hb λb h' sb S'=>?_;show wpAny _ _ (ret Value.none) _ _ _;exact BL ⟨_,rfl,h h' sb S'⟩
def q7y{Q:Î}(k:Q (.ref s.heap.objs.size) {s with heap:=s.heap.push (gO w)}):wpAny (model U w) A (newSet<|.type "set") Q E s:=by
 unfold newSet;refine BJ<|wp_text ?_
 dsimp only
 simp only[newObj];exact BJ<|QT<|BL k
def we(elt:Expr)(acc:Value)(env:Env):Sem Unit:=do let v <- eval elt env;standAt elt.pos;let _ <- call (.builtin "set.add") [acc,v]
def tP(elt t1 i1:Expr)(f1:Ô)(t2 i2:Expr)(f2:Ô)(scope:Scope)(pos:Pos)(acc:Value)(env:Env):Sem Unit:=do
 let x <- eval i2 env
 standAt i2.pos
 let x <- foldedSetIterable i2 env x
 let _ <- runOwn (.compStart (.SetComp elt [⟨t1,i1,f1,0⟩,⟨t2,i2,f2,0⟩] scope pos) 1 (<- holding [x]<|pyIter x) acc env) env
section
variable{elt t1 i1 t2 i2:Expr}{f1 f2:Ô}{pos:Pos}
def q1o:Clause (.SetComp elt [⟨t1,i1,f1,0⟩,⟨t2,i2,f2,0⟩] scope pos) 0 t1 i1 f1 acc env (tP elt t1 i1 f1 t2 i2 f2 scope pos acc env):=⟨rfl,λ_=>rfl,λ_ _ _=>rfl,λ_ _=>rfl,λ_ _ _=>rfl,λ_ _=>rfl,λit=>by
 unfold tP;simp only[bind_assoc,pure_bind];rfl⟩
def q3b:Clause (.SetComp elt [⟨t1,i1,f1,0⟩,⟨t2,i2,f2,0⟩] scope pos) 1 t2 i2 f2 acc env (we elt acc env):=⟨rfl,λ_=>rfl,λ_ _ _=>rfl,λ_ _=>rfl,λ_ _ _=>rfl,λ_ _=>rfl,λit=>by
 unfold we
 first | rfl | (simp only[bind_assoc,pure_bind];rfl)⟩
def k9n (h:Ev X elt σ H λv H1=>∃ z zs,v = .str z/\H1 D=some (bj X.U X.w D zs)/\zs.length+1 < 1000/\Q σ (upd H1 D<|bj X.U X.w D<|added zs z)):lV X (we elt (.ref D) X.env) σ H Q:=by
 refine⟨λO s I=>?_⟩;unfold we;refine BJ<|aN (h.run O s I) λv s1 ⟨x,H1,I1,r1,z,zs,e,hD,hl,q⟩=>?_;subst e;obtain⟨tk,rfl⟩:=r1;refine BJ (FP<|BJ<|SU (I1.set hD) hl λh' sb S'=>BL ⟨σ,_,mK I1 (by rw[hD];exact True.intro) sb ?_<|tF S',q⟩);obtain⟨o,_,_,_,ho,_⟩:=S';exact⟨o,ho⟩
def q0h(js:X.xe=λ_ _=>False)(hc:X.calm=true)(hi:PI X t2 i2 wi)(h:wi σ H λJ H1=>iy X t2 f2 (we elt acc X.env) J Q σ H1)
  (hs:∀ x,foldedSetIterable i2 X.env x=pure x:=by intro _;rfl):lV X (tP elt t1 i1 f1 t2 i2 f2 scope pos acc X.env) σ H Q:=by
 refine⟨λO s I=>?_⟩;unfold tP;refine BJ<|aN (hi O s σ H _ I h) λx s1 h1=>?_;refine BJ<|FP<|BJ<|JG (hs x)<|BJ<|CJ<|CT h1 (λoE s2 h2=>?_) λ_ _ e=>e;obtain⟨it,fp,tn,J,H2,e,I2,T,gm,wc,q⟩:=h2;subst e;refine BJ<|wpAny_runOwn ?_;exact zj js hc q3b I2 T gm wc q λσ' H' s' I' q'=>BL ⟨σ',H',I',q'⟩
def q0r{Q:VK}(sc:Scope)(N N':Ñ)(n:Nat)(hi:PI X t1 i1 wi)
  (h:wi σ H λJ H1=>∀ D,H1 D=none->∀ cl C æ ç ex,iy (fO X N' scope cl C æ ç ex) t1 f1 (tP elt t1 i1 f1 t2 i2 f2 scope pos (.ref D)<|compEnvC scope cl C X.env) J (λ_ H'=>Q (.ref D) H') (σ++List.replicate n none)<|upd H1 D<|bj X.U X.w D [])
  (hc:X.calm=true:=by rfl) (iB:X.env.scope=sc:=by rfl) (hN:X.N=N:=by rfl) (hk:mR sc scope N N'=true:=by decide +kernel) (hl:N'.length=N.length+n:=by rfl)
  (hs:∀ x,foldedSetIterable i1 X.env x=pure x:=by intro _;rfl):Ev X (.SetComp elt [⟨t1,i1,f1,0⟩,⟨t2,i2,f2,0⟩] scope pos) σ H Q:=
 AH (λ_ _ _ h=>q7y h) (λ_ h _=>tF<|HZ<|Ao _ rfl) (λ_ _=>q1o) rfl rfl sc N N' n hi h hc iB hN hk hl hs
end
end L2
namespace L2
open PySem PySem.Builtin PySem.Builtin.Str
end L2
namespace PySem
def Plain(h:Heap)(d:Addr)(es:Array DictEntry)(ep:Nat):Prop:=∃ o,h.get? d=some o/\o.ExactDict/\o.data = .dict es ep
variable{E:Î}{ep:Nat}{es:Array DictEntry}{Q:Option Value->Shared->Prop}{en:DictEntry}
section
variable{P:Program}{w:World}{A:Around}{s:Shared}
def k5n(d:Addr)(hd:(d == sysModules)=false):MeetsIn P w (Builtin.«dict.items» ⟨[.ref d],[]⟩) (λ_ R u=>u.TypeIs (.ref d) "dict" /\
  R (.ok<|.ret<|.ref u.heap.objs.size) {u with heap:=u.heap.push {cls:= .type "dict_items",data:= .fields #[.ref d]}}):=by
 refine .of_wp λB R u ⟨hT,k⟩=>?_;unfold Builtin.«dict.items» Builtin.Dict.noArgs;refine BJ<|BJ<|wpAny_notOrdered_dict hT ?_;show wpAny _ _ (pure d) _ _ u;refine BL ?_;show wpAny _ _ (Builtin.Dict.showsAll d >>= _) _ _ u;unfold Builtin.Dict.showsAll;rw[BK<|by rw[hd];exact Ax];exact BJ<|BL<|BJ<|CZ<|BL ⟨_,rfl,k⟩
theorem k5u{v d:Addr}{Q:Î}(hv:s.heap.IsItemsView v d)(hm:Plain s.heap d es ep)
  (k:Q (.ref s.heap.objs.size) {s with heap:=s.heap.push {cls:= .type "dict_itemiterator",data:= .fields #[.none,.bool false,.ref d,.int 0 0,.int es.size 0,.int ep 0,.none,.none]}}) :
  wpAny (model P w) A (pyIter<|.ref v) Q E s:=by
 obtain⟨vo,e1,e2,e3⟩:=id hv;obtain⟨o,f1,f2,f3⟩:=hm;refine MP hv.typeIs F.slot_dict_items_iter<|DQ F.slot_dict_items_iter hv.typeIs F.entry_dict_items_iter ?_<|F.args_dict_items_iter_1 _;unfold Builtin.«dict_items.__iter__» Builtin.Dict_items.dictOf Builtin.Dict_items.newIterator;refine BJ<|BL<|BJ<|BJ<|JH e1 e3 rfl (BL ?_);refine BJ<|BJ<|RP f1 f3<|BJ<|UW f1 f3 ?_;have ow:Builtin.Dict_items.ownsTuple "dict_itemiterator" = true:=∅
 simp only[ow,DP];refine CZ (BL ⟨_,rfl,"dict_itemiterator",_,⟨_,Ao _ rfl,rfl⟩,F.slot_dict_itemiterator_next.lookup,?_⟩) ?_
 ·simpa[rawInt,Builtin.Dict_items.ownedTupleFields]using k
 ·simp only[sizeOk,Builtin.Dict_items.ownedTupleFields,Aw,Ad,As,Eu,FJ];omega
theorem k58{it d:Addr}{i:Nat}{y z:Value}(hit:IsItemIter s.heap it d i es.size ep y z)(hm:Plain s.heap d es ep)(hx:es[i]?=some en)
  (k : ∀ h', IsItemIterOut h' it d (i + 1) es.size ep en.key en.val s.heap.objs.size → h'.get? s.heap.objs.size = some { cls := .type "tuple", data := .seq #[en.key, en.val] } →
   (∀ b o,b≠it->s.heap.get? b=some o->h'.get? b=some o)->Q (some<|.ref s.heap.objs.size) {s with heap:=h'}):wpAny (model P w) A (pyNext<|.ref it) Q E s:=by
 obtain⟨hp,g,dr,tk,os⟩:=s;obtain⟨o,f1,f2,f3⟩:=hm;have ty:Shared.TypeIs ⟨hp,g,dr,tk,os⟩ (.ref it) "dict_itemiterator":=⟨_,hit,rfl⟩;have lt:i < es.size:=by
  rcases Dr i es.size with h | h
  ·exact h
  ·rw[El h]at hx;cases hx
 have ow:Builtin.Dict_items.ownsTuple "dict_itemiterator" = true:=∅
 unfold pyNext;refine BJ<|JQ<|JM ty HY<|DQ HY ty QJ ?_<|PN _;refine BJ<|BL<|BJ<|BJ ?_
 first | refine BJ (HN ty<|BL ?_) | refine BJ<|JF ty<|BL ?_
 refine BJ<|QM hit rfl ?_;simp only[ow,DP];show wpAny _ _ (if(Value.ref d == Value.none)=true then _ else _) _ _ _;rw[BK (show ¬((Value.ref d == Value.none)=true)from Ax)];refine BJ<|BL<|BJ<|RP f1 f3 ?_;rw[BK<|by simp];refine BJ<|BL<|BJ<|UW f1 f3 ?_;rw[BK<|by simp];refine BL ?_;simp only[show ¬((i:Int) < 0)from by omega,CV,Bm,hx];refine BJ ?_
 first | refine BJ (HN ty<|BL ?_) | refine BJ<|JF ty<|BL ?_
 refine BJ<|NK ty ?_;show wpAny _ _ (setField (.ref it) 3 (rawInt<|(i:Int)+1) >>= _) _ _ ⟨hp,g,dr,tk,os⟩;refine BJ (JT hit (by simp) λha ea sa=>?_);replace sa:Heap.SameBut it hp ha:=sa;replace ea:IsItemIter ha it d (i+1) es.size ep y z:=by
  have e:((i+1:Nat):Int)=(i:Int)+1:=⋯
  unfold IsItemIter;rw[e]
  simpa[rawInt]using ea
 have SV:Shared.TypeIs ⟨ha,g,dr,tk,os⟩ (.ref it) "dict_itemiterator":=⟨_,ea,rfl⟩;refine BJ<|CJ<|BJ<|NK SV<|BJ<|NK SV ?_;show wpAny _ _ (Builtin.Dict_items.pairFromOwner (.ref it) 6 en.key en.val) _ _ ⟨ha,g,dr,tk,os⟩;unfold Builtin.Dict_items.pairFromOwner Builtin.Dict_items.ownedTupleIsFree;refine BJ<|QS ?_;have eb:IsItemIter (ha.push {cls:= .type "tuple",data:= .seq #[en.key,en.val]}) it d (i+1) es.size ep y z:=Ae _ ea;have za:=sa.1;have il:=Ap hit;have tb:(ha.push {cls:= .type "tuple",data:= .seq #[en.key,en.val]}).get? hp.objs.size=some {cls:= .type "tuple",data:= .seq #[en.key,en.val]}:=by rw[<- za];exact Ao _ rfl
 have kb:∀ b u,b≠it->hp.get? b=some u->(ha.push {cls:= .type "tuple",data:= .seq #[en.key,en.val]}).get? b=some u:=λb u hb e=>Ae _<|sa.extBut b u hb e;rw[za];generalize ha.push {cls:= .type "tuple",data:= .seq #[en.key,en.val]}=hb at eb tb kb;refine BJ<|BJ<|JH eb rfl rfl (BL ?_);simp only[DP];refine BJ<|JH (s:=⟨hb,g,dr,tk,os⟩) eb rfl (x:=y) rfl (BJ<|JH (s:=⟨hb,g,dr,tk,os⟩) eb rfl (x:=z) rfl ?_);refine BJ (JT eb (by simp) λh3 e3 s3=>?_);replace s3:Heap.SameBut it hb h3:=s3;replace e3:IsItemIter h3 it d (i+1) es.size ep en.key z:=e3;refine BJ (JT e3 (by simp) λh4 e4 s4=>?_);replace s4:Heap.SameBut it h3 h4:=s4;replace e4:IsItemIter h4 it d (i+1) es.size ep en.key en.val:=e4;refine BJ (JT e4 (by simp) λh5 e5 s5=>?_);replace s5:Heap.SameBut it h4 h5:=s5;replace e5:IsItemIterOut h5 it d (i+1) es.size ep en.key en.val hp.objs.size:=e5;refine BJ (JT e5 (by simp) λh6 e6 s6=>?_);replace s6:Heap.SameBut it h5 h6:=s6;replace e6:IsItemIterOut h6 it d (i+1) es.size ep en.key en.val hp.objs.size:=e6;have all:=((s3.trans s4).trans s5).trans s6;exact BJ<|wpAny_letGo<|BL<|BL ⟨_,rfl,BL<|k h6 e6 (all.extBut _ _ (Cw il) tb) λb u kH e=>all.extBut b u kH<|kb b u kH e⟩
theorem k8n{it d:Addr}{i:Nat}{y z:Value}(hh:A.handled=none)(hit:IsItemIter s.heap it d i es.size ep y z)(hm:Plain s.heap d es ep)(hx:es.size<=i)
  (k:∀ h',Heap.ExtBut it s.heap h'->Q none {s with heap:=h'}):wpAny (model P w) A (pyNext<|.ref it) Q E s:=by
 obtain⟨o,f1,f2,f3⟩:=hm;have ty:s.TypeIs (.ref it) "dict_itemiterator":=⟨_,hit,rfl⟩;have ow:Builtin.Dict_items.ownsTuple "dict_itemiterator" = true:=∅
 unfold pyNext;refine BJ<|JQ<|JM ty HY<|DQ HY ty QJ ?_<|PN _;refine BJ<|BL<|BJ<|BJ ?_
 first | refine BJ (HN ty<|BL ?_) | refine BJ<|JF ty<|BL ?_
 refine BJ<|QM hit rfl ?_;simp only[ow,DP];show wpAny _ _ (if(Value.ref d == Value.none)=true then _ else _) _ _ s;rw[BK (show ¬((Value.ref d == Value.none)=true)from Ax)];refine BJ<|BL<|BJ<|RP f1 f3 ?_;rw[BK<|by simp];refine BJ<|BL<|BJ<|UW f1 f3 ?_;rw[BK<|by simp];refine BL ?_;simp only[show ¬((i:Int) < 0)from by omega,CV,Bm,El hx];refine BJ ?_
 first | refine BJ (HN ty<|BL ?_) | refine BJ<|JF ty<|BL ?_
 show wpAny _ _ (setField (.ref it) 2 .none >>= _) _ _ s;refine BJ (DX hit rfl (by simp) ?_);show wpAny _ _ (newExc (.type "StopIteration") [] >>= _) _ _ _;refine BJ ?_;simp only[newExc,newTuple];refine BJ (CZ ?_<|by size_fits);refine BJ (JG (by first | rfl | (simp only[firstArgMember];rfl)) ?_);refine CZ ?_ (by size_fits);simp only[raiseNew];refine BJ<|wpAny_handled ?_;rw[show A.in1.handled=none from hh];refine BJ<|BL<|wpAny_throw ?_;exact BJ<|KH ⟨_,Ao _ rfl,rfl⟩ isSubtype_stop<|BL<|k _<|((CQ ..).extBut.push _).push _
def j8a:entryFor table "dict_itemiterator.__iter__" = some Builtin.«dict_keyiterator.__iter__»:=
 QL (id':= "dict_keyiterator.__iter__") (by kernel_rfl) rfl (by decide +kernel) (by kernel_rfl)
def k5v{it d:Addr}{i n:Nat}{y z:Value}{Q:Î}(e:IsItemIter s.heap it d i n ep y z)(h:Q (.ref it) s):wpAny (model P w) A (pyIter<|.ref it) Q E s:=by
 have ty:s.TypeIs (.ref it) "dict_itemiterator":=⟨_,e,rfl⟩;refine MP ty QK<|DQ QK ty j8a ?_<|F.args_dict_itemiterator_iter_1 _;show wpAny _ _ (ret<|.ref it) _ _ s;exact BL ⟨_,rfl,"dict_itemiterator",_,ty,F.slot_dict_itemiterator_next.lookup,h⟩
end
end PySem
namespace L2
open PySem PySem.Spec PyProof.Rows
variable{s:Shared}{H:Hp}{σ:St}{O:Ð}{X:Cx}{Y:List (List Key×V)}{d:Addr}{es:Array DictEntry}{o:Obj}{w:World}{P:Program}{tp:Pos}{kk:Nat}{elts:Ô}{K:PySem.W.Frag}
def k3r(I:Inv X O σ H s)(e:H d=some (.dT Y)):∃ o,s.heap.get? d=some o/\Inv X O σ (upd H d<|.bB o<|.dT Y) s:=by
 obtain⟨z,hd,xs,r,o,es,ep,ho,h2,h3,h4,h5⟩:=(show aB X.U X.w H s.heap d (.dT Y)from I.aF d _ e);refine⟨o,ho,?_⟩;have r':KT (upd H d<|.bB o<|.dT Y) Y xs:=KT.keeps r λb ys q=>by
  rwa[au<|bV q e λz=>nomatch z]
 exact mK I (by rw[e];exact True.intro) ⟨rfl,λ_ _=>rfl⟩ ⟨o,ho⟩ (show aB X.U X.w _ s.heap d (.bB o<|.dT Y) from⟨ho,z,hd,xs,r',o,es,ep,ho,h2,h3,h4,h5⟩)
def Itm(d:Addr)(o:Obj)(Y:List<|List Key×V):It:=
  ⟨λi H => H d = some (.bB o<|.dT Y) ∧ i < Y.length,
   λi H v H'=>∃ T b k x,Y[i]?=some (k,x)/\H b=some (.tup<|k.map kV)/\H T=none/\v = .ref T/\H'=upd H T (.tup [.ref b,x]),
   λi H=>H d=some (.bB o<|.dT Y)/\Y.length<=i⟩
def SW{h:Heap}{ep:Nat}(aF:cg P w H h)(e:H d=some (.bB o<|.dT Y))(hd:o.data = .dict es ep) :
  Plain h d es ep/\∃ xs,KT H Y xs/\es.toList=xs.map (entryOfKey<|tupleKind<|dM P w):=by
 obtain⟨ho,z,_,xs,r,o',gk,oz,cW,h2,h3,h4,h5⟩:=(show aB P w H h d (.bB o<|.dT Y)from aF d _ e);have:o=o':=Option.some.inj<|ho.symm.trans cW;subst this;rw[hd]at h3
 injection h3 with e1 e2
 subst e1;subst e2;exact⟨⟨o,ho,h2,hd⟩,xs,r,h4⟩
theorem kt_len:∀{Y}{xs},KT H Y xs->Y.length=xs.length:=λr=>by
 induction r with
 | nil=>rfl
 | cons _ _ ih=>simp only[As,ih]
theorem kt_at:∀{Y}{xs},KT H Y xs->∀{i:Nat} {k:List Key} {x:V},Y[i]?=some (k,x)->∃ b u,xs[i]?=some (k,b,u)/\H b=some (.tup<|k.map kV)/\RelV x u:=λr=>by
 induction r with
 | nil=>intro i k x h;simp at h
 | @cons p q ps qs hq t ih=>
  intro i k x h;cases i with
  | zero=>
   simp only[List.getElem?_cons_zero,Option.some.injEq]at h;subst h;obtain⟨a,b,c⟩:=q;obtain⟨q1,q2,q3⟩:=hq;have q1:=q1;subst q1;exact⟨b,c,rfl,q2,q3⟩
  | succ i=>exact ih<|by simpa using h
theorem k5k(d it:Addr)(o:Obj)(es:Array DictEntry)(ep:Nat)(Y:List<|List Key×V)(qN:o.data = .dict es ep) :
  Turn P w K (.Tuple elts kk tp) (Itm d o Y) [it] it (λi h=>∃ y z,IsItemIter h it d i es.size ep y z) where
 mem:=by simp
 obj:=λi h st b hb=>by
  have e:b=it:=by simpa using hb
  subst e;obtain⟨y,z,e⟩:=st;exact⟨_,e,λv z=>by cases z⟩
 keep:=λi h h' st k=>let ⟨y,z,e⟩:=st;⟨y,z,k it (by simp) _ e⟩
 item:=by
  intro X hP hw hK hc i O s σ H E I hf st hg;subst hP hw hK;obtain⟨f0,f1,f2,f3,f4,f5⟩:=hf it (by simp);obtain⟨hd,hi⟩:=hg;obtain⟨pd,xs,r,qS⟩:=SW I.aF hd qN;obtain⟨y,z,st⟩:=st;have hx:Y[i]?=some (Y[i].1,Y[i].2):=Ab hi;obtain⟨b,u,fC,hb,ru⟩:=kt_at r hx;have tQ:=entry_at qS i;rw[fC]at tQ;refine k58 st pd tQ λh' q1 q2 kp=>?_;have hT:=I.aF.fresh<|Am _;have nT:=Bi<|Ap st;have I1:Inv X O σ (upd H s.heap.objs.size<|.tup [.ref b,Y[i].2]) {s with heap:=s.heap.push {cls:= .type "tuple",data:= .seq #[Value.ref b,u]}}:=
   I.laid (λb o e=>Ae _ e) (Am _) (show aB X.U X.w _ _ _ (.tup [.ref b,Y[i].2]) from⟨Z2,[Value.ref b,u],.cons rfl (.cons ru .nil),⟨_,Ao _ rfl,rfl,_,rfl⟩⟩)
  have fp:∀ c∈[it],cr X O (upd H s.heap.objs.size<|.tup [.ref b,Y[i].2]) c:=λc bu=>by
   have e:c=it:=by simpa using bu
   subst e;exact⟨by rwa[au nT],f1,f2,f3,f4,f5⟩
  have I2:=Inv.bL (t':=s.toks) I1 fp λc v bu e=>by
   have nc:c≠it:=by simpa using bu
   rcases Gp e with ⟨ec,eo⟩ | e'
   ·rwa[ec,eo]
   ·exact kp c v nc e'
  refine⟨_,rfl,wpAny_letOwnedTupleGo_items (s:={s with heap:=h'}) q1 λh2 b1 sb=>?_⟩;have I3:=Inv.bL (h':=h2) (t':=s.toks) I2 fp λc v bu e=>(sb.2 c<|by simpa using bu).trans e;exact⟨.ref s.heap.objs.size,_,I3,rfl,⟨_,b,Y[i].1,Y[i].2,hx,hb,hT,rfl,rfl⟩,⟨_,_,b1⟩,λc bu=>(fp c bu).1⟩
 done:=by
  intro X hP hw hK hc i O s σ H E I hf st hg;subst hP hw hK;obtain⟨hd,hi⟩:=hg;obtain⟨pd,xs,r,qS⟩:=SW I.aF hd qN;obtain⟨y,z,st⟩:=st;have hl:es.size=Y.length:=by rw[kt_len r,<- Bv,qS,Aa]
  exact k8n (I.ok.hd hc) st pd ⋯ λh' eb=>⟨rfl,I.bL (t':=s.toks) hf λc v bu e=>eb c v (by simpa using bu) e⟩
 self:=λ_ _ _ _ _ st h=>let ⟨y,z,e⟩:=st;k5v e h
def q9w(to:TE):TI:=λσ H R=>to σ H λx H1=>∃ d Y,x = .ref d/\H1 d=some (.dT Y)/\∀ o,R (Itm d o Y)<|upd H1 d<|.bB o<|.dT Y
def SY{ap cp:Pos}{l:Expr}{to:TE}(ho:PE X l to)(bO:attributeBase l "items" X.env (eval l X.env)=eval l X.env:=by rfl)(hline:(ap.endLine == cp.line)=true:=by rfl) :
  PI X (.Tuple elts kk tp) (.Call (.Attribute l "items" ap) [] [] cp) (q9w to):=by
 intro O s σ H R I h;refine wpAny_Call_method0_late bO hline<|aN (ho O s σ H _ I h) λv s1 ⟨x,H1,I1,r1,q1⟩=>?_;obtain⟨d,Y,e,hd,q⟩:=q1;subst e;cases (show v=Value.ref d from r1);obtain⟨_,hsy,_,_,o,es,ep,e1,e2,e3,_⟩:=(show aB X.U X.w H1 s1.heap d (.dT Y)from I1.aF d _ hd);have ty:s1.TypeIs (.ref d) "dict":=⟨o,e1,e2.1⟩;refine⟨"dict","dict.items",F.plainAttrs_dict,F.slot_dict_items,F.type_dict_items,ty,λa ea=>?_,JW rfl (PySem.evalArgs_none ?_)⟩
 ·cases ea;exact⟨o,e1,e2.2.1⟩
 refine call_meetsIn F.slot_dict_items ty F.entry_dict_items (F.args_dict_items_1 _) (k5n d hsy) ⟨ty,?_⟩;obtain⟨o',eo,I2⟩:=k3r I1 hd;have:o=o':=Option.some.inj<|e1.symm.trans eo;subst this;have I3:=I2.kept (t':=s1.toks) (h':=s1.heap.push {cls:= .type "dict_items",data:= .fields #[.ref d]}) λb u e=>Ae _ e;refine k5u ⟨_,Ao _ rfl,rfl,rfl⟩ ⟨o,Ae _ e1,e2,e3⟩ ?_;refine⟨_,[(s1.heap.push {cls:= .type "dict_items",data:= .fields #[.ref d]}).objs.size],_,_,_,rfl,I3.kept λb u e=>Ae _ e,k5k d _ o es ep Y e3,⟨_,_,Ao _ rfl⟩,λb hb=>?_,q o⟩;have e:b=(s1.heap.push {cls:= .type "dict_items",data:= .fields #[.ref d]}).objs.size:=by simpa using hb
 subst e;exact I3.gF (Am _)<|I3.aF.fresh<|Am _
variable{inner:Sem Unit}{ifs:Ô}
section
variable{tg:Expr}{after:St->Hp->Prop}
theorem j9l(Pv:Nat->St->Hp->Prop)(h0:Pv 0 σ H)(hl:∀ i σ' H',i<=Y.length->Pv i σ' H'->H' d=some (.bB o<|.dT Y))
  (hs:∀ i k x b T σ' H',Y[i]?=some (k,x)->Pv i σ' H'->H' b=some (.tup<|k.map kV)->H' T=none->Eg X tg (.ref T) σ' (upd H' T<|.tup [.ref b,x]) λσ2 H3=>Ei X ifs σ2 H3 λc H4=>if c=true then lV X inner σ2 H4 (Pv<|i+1)else Pv (i+1) σ2 H4)
  (hd:∀ σ' H',Pv Y.length σ' H'->after σ' H'):iy X tg ifs inner (Itm d o Y) after σ H:=by
 refine⟨λi m σ' H'=>m=Y.length - i/\i<=Y.length/\Pv i σ' H',⟨_,rfl,Bu _,h0⟩,?_⟩;rintro i m σ' H' ⟨rfl,hi,p⟩;have q:=hl i σ' H' hi p
 by_cases aV:i < Y.length
 ·refine .inr ⟨⟨q,aV⟩,Pv<|i+1,λσ' H' p'=>⟨Y.length - (i+1),⋯,rfl,aV,p'⟩,λv H2 y=>?_⟩;obtain⟨T,b,k,x,hx,hb,hT,rfl,rfl⟩:=y;exact hs i k x b T σ' _ hx p hb hT
 ·have e:i=Y.length:=⋯
  subst e;exact .inl ⟨⟨q,Am _⟩,hd σ' H' p⟩
end
open bK
def aq{α:Type}:List α->List α
 | []=>[]
 | [a]=>[a]
 | a :: _ :: r=>a :: aq r
theorem qT{α:Type}:∀(xs:List α) (k:Nat),(aq xs)[k]?=xs[2 * k]?
 | [],k=>by simp[aq]
 | [a],0=>rfl
 | [a],k+1=>by
  show([]:List α)[k]?=[a][2 * (k+1)]?;rw[Bd<|Bu _,Bd<|by show 1<=_;omega]
 | a :: b :: r,0=>rfl
 | a :: b :: r,k+1=>by
  show(aq r)[k]?=(a :: b :: r)[2 * (k+1)]?;rw[qT r k,show 2 * (k+1)=2 * k+1+1 by omega];rfl
theorem wg{α:Type}:∀(xs:List α),(aq xs).length=(xs.length+1) / 2
 | []=>by
  show 0=(0+1) / 2;omega
 | [a]=>by
  show 1=(1+1) / 2;omega
 | a :: b :: r=>by
  show(aq r).length+1=(r.length+1+1+1) / 2;rw[wg r];omega
theorem q3e{α:Type}(xs:List α):(aq xs).length<=xs.length:=by
 rw[wg];omega
theorem SZ:∀{xs}{us},az xs us->az (aq xs) (aq us)
 | [],us,r=>by
  have:=r.zero;subst this;exact .nil
 | [a],us,r=>by
  obtain⟨u,rfl,ru⟩:=r.one;exact .cons ru .nil
 | a :: b :: r,us,h=>by
  cases h with
  | cons h1 h2=>
   cases h2 with
   | cons h3 h4=>exact .cons h1<|SZ h4
theorem S0{α:Type}(g:Nat->Option α):∀c,(∀ k,k < c->∃ v,g k=some v)->((List.range c).filterMap g).length=c/\∀ k,k < c->((List.range c).filterMap g)[k]?=g k
 | 0,_=>⟨rfl,λk h=>absurd h<|Eh _⟩
 | c+1,h=>by
  obtain⟨h1,h2⟩:=S0 g c λk hk=>h k ⋯;obtain⟨v,hv⟩:=h c ⋯;have e:(List.range<|c+1).filterMap g=(List.range c).filterMap g++[v]:=by
   rw[Dc,List.filterMap_append,Ej,hv];rfl
  rw[e];refine⟨by rw[Ad,h1];rfl,λk hk=>?_⟩
  by_cases qj:k < c
  ·rw[Aq<|⋯];exact h2 k qj
  ·have:k=c:=⋯
   subst this;rw[Ba ⋯,h1,WL,hv];rfl
theorem k5y(è:Ó):slicePick è.toArray none none (some 2)=(aq è).toArray:=by
 unfold slicePick;have hb:sliceBounds none none (some 2) è.toArray.size=(0,(è.length:Int),2):=rfl;rw[hb]
 congr 1
 show((sliceRange 0 (è.length:Int) 2).filterMap (è.toArray[·]?))=aq è;have hr:sliceRange 0 (è.length:Int) 2=(List.range<|(è.length+1) / 2).map λk=>2 * k:=by
  unfold sliceRange;have e1:(if(2:Int) > 0 then(if(0:Int) < (è.length:Int) then((è.length:Int) - 0+2 - 1) / 2 else 0) else(if(0:Int) > (è.length:Int) then(0 - (è.length:Int) - 2 - 1) / (-2)else 0)).toNat=(è.length+1) / 2:=by
   rw[BP<|∅]
   split <;> omega
  show(List.range _).map _=_;rw[e1];exact Bo λk _=>⋯
 rw[hr,List.filterMap_map];obtain⟨h1,h2⟩:=S0 (λk=>è.toArray[2 * k]?) ((è.length+1) / 2) λk hk=>⟨è[2 * k]'⋯,by rw[<- Bw];exact Ab (l:=è)<|⋯⟩;apply Dv;intro k;show((List.range<|(è.length+1) / 2).filterMap λk=>è.toArray[2 * k]?)[k]?=_
 by_cases hk:k < (è.length+1) / 2
 ·rw[h2 k hk,qT,<- Bw]
 ·rw[Bd ⋯,Bd<|by rw[wg];omega]
section
variable{Q:VK}
theorem q18{e:Expr}{j:Nat}{p1 p2 pos:Pos} (h:Ev X e σ H λx H1=>∃ a xs,x = .ref a/\aj X.K H1 a xs/\∀ p,H1 p=none->Q (.ref p) (upd H1 p<|.lst<|aq xs)) :
  Ev X (.Subscript e (.Slice none none (some<|.Constant (.int 2) j p1) p2) pos) σ H Q:=by
 refine⟨λO s I=>Subscript_<|aN (h.run O s I) λv s1 ⟨x,H1,I1,r1,a,xs,ex,hx,q⟩=>?_⟩;subst ex;cases (show v=Value.ref a from r1);refine wpAny_Slice ?_;rw[evalPart_none];refine BL<|BL ?_;rw[evalPart_some];refine aN ((aE (Q:=λy H2=>y = .int 2/\H2=H1) ⟨rfl,rfl⟩).run O s1 I1) λv2 s2 ⟨y,H2,I2,r2,ey,eh⟩=>?_;subst ey eh;obtain⟨t,rfl⟩:=r2;obtain⟨è,r,pl,hz⟩:=I2.list hx;have hlen:=r.length;have I3:Inv X O σ H2 {s2 with heap:=s2.heap.push {cls:= .type "slice",data:= .fields #[.none,.none,.int 2 t]}}:=I2.kept λb ob q=>Ae _ q;have S6:=pl.isList.push {cls:= .type "slice",data:= .fields #[.none,.none,.int 2 t]};show wpAny (model X.U X.w) X.A (subscriptTail e _ (.ref a)<|.ref s2.heap.objs.size) (EP X O σ Q) X.xe {s2 with heap:=s2.heap.push {cls:= .type "slice",data:= .fields #[.none,.none,.int 2 t]}};refine tail_any (T:= "list") (Heap.IsList.typeIs (s:={s2 with heap:=s2.heap.push {cls:= .type "slice",data:= .fields #[.none,.none,.int 2 t]}}) S6) slot_list_getitem.lookup ?_ (by with_unfolding_all rfl);refine wpAny_getItem_list_slice (s:={s2 with heap:=s2.heap.push {cls:= .type "slice",data:= .fields #[.none,.none,.int 2 t]}}) S6 (Heap.IsSliceOf.new ..) .none .none (.int 2 t) ∅ ?_ (by rw[Aw];omega);rw[k5y];exact⟨.ref _,_,I3.j8 (t':=s2.toks) (SZ r)<|By (q3e _) hz,rfl,q _ I3.fresh⟩
end
variable{E Q:Î}{U:Program}{zs:Ñ}
section
variable{A:Around}
def k9j(k:Q (.ref s.heap.objs.size) {s with heap:=s.heap.push (gO w)}):codeAny (model U w) A (.call (.builtin "set.__new__") ⟨[.type "set"],[]⟩) (wants Q E) s:=by
 refine KR ?_;show wpAny _ A.in1 (checkBuiltinCall "set.__new__" ⟨[.type "set"],[]⟩ >>= λ_=>again<|.builtin "set.__new__" ⟨[.type "set"],[]⟩) _ _ s;refine BJ<|JG PySem.F.newCall_set_0<|BL ⟨JN VJ _,FQ PySem.F.entry_set_new ?_⟩;rw[FN VJ _];unfold Builtin.«set.__new__» Builtin.Frozenset.newClass
 dsimp only
 refine BJ<|BJ<|JG (show isType (.type "set")=pure true from rfl)<|BL ?_;simp only[Eb,Bb,CV];unfold newSet;refine BJ<|BJ<|wp_text ?_
 dsimp only
 simp only[newObj];exact BJ<|QT<|BL<|BL k
theorem k81(k:Q (.ref s.heap.objs.size) {s with heap:=s.heap.push (gO w)}):wpAny (model U w) A (call (.type "set") []) Q E s:=by
 obtain⟨c,tl,qo⟩:=PySem.F.called_set.mro;have vE:=PySem.F.called_set.made;have mU:=PySem.F.called_set.sub;refine RT<|KR ?_;show wpAny _ _ (callAny (.type "set") _) _ _ _;refine BL ⟨Code.quiet_builtin _ (by decide +kernel),FQ PySem.F.entry_type_call ?_⟩;rw[Around.under_plain (weight_type_call_type "set" [] []) rfl];have h3:=PySem.F.typeCall_set_0
 repeat (any_goals (first | assumption | wp_step))
 refine JK (k9j (E:=E) (Q:=λv u=>v = .ref s.heap.objs.size/\u={s with heap:=s.heap.push (gO w)}) ⟨rfl,rfl⟩) λr u hr=>?_;cases r with
 | error e=>exact hr
 | ok fl=>
  cases fl with
  | ret v=>
   obtain⟨rfl,rfl⟩:=hr;have hT:Shared.TypeIs {s with heap:=s.heap.push (gO w)} (.ref s.heap.objs.size) "set":=⟨_,Ao _ rfl,rfl⟩;have mV:=PySem.F.called_set.init.lookup;have Ia:=PySem.F.called_set.init.bind<|.ref s.heap.objs.size
   repeat (any_goals (first | assumption | wp_step))
   refine JK (QD (R:=wants (λr u=>r = .none/\Q (.ref s.heap.objs.size) u) E) PySem.F.called_set.init.plain PySem.F.entry_set_init<|check_set_init hT ?_) λr2 u2 qp=>?_
   ·unfold Builtin.«set.__init__» noKeywords
    wp_walk
    exact⟨rfl,k⟩
   ·cases r2 with
    | error e=>exact qp
    | ok f2=>
     cases f2 with
     | ret r=>
      obtain⟨rfl,hq⟩:=qp
      repeat (any_goals (first | assumption | wp_step))
     | _=>exact qp.elim
  | _=>exact hr.elim
def k9g{a:Addr}{z:Str}{tk:Tok}(S:aA U w s.heap a zs) (h:Q (.bool<|decide (z∉zs)) {s with toks:=s.toks+1}):wpAny (model U w) A (compareOp .NotIn (.str z tk)<|.ref a) Q E s:=by
 have hT:=S.typeIs;show wpAny _ _ (do return .bool (!(<- contains (.ref a)<|.str z tk))) Q E s;refine BJ ?_;unfold contains
 try with_reducible refine CJ ?_
 refine BJ<|UJ hT PySem.F.slot_set_contains.lookup ?_;show wpAny _ _ (if(some (Value.builtin "set.__contains__") == some Value.none)=true then _ else _) _ E s;rw[BK<|by rw[beq_builtin_none];exact Ax];refine BJ<|wpAny_callSpecialUnlessNone?_slot hT RW<|DQ RW hT entry_set_contains ?_<|PySem.F.args_set_contains_2 _ _;unfold Builtin.«frozenset.__contains__» Builtin.Frozenset.oneOther;simp only[Gk,bind_assoc];unfold Builtin.Frozenset.addrOf Builtin.Frozenset.withSetAsKey setContains;refine BJ<|BL ?_
 try dsimp only
 refine BJ<|BL ?_
 try dsimp only
 refine BJ<|wpAny_tryCatch<|CJ<|BJ<|(strKind U w).pyHash (QC _ _ _ _) ?_;obtain⟨o,es,ep,t,ho,hx,hd,T⟩:=S;refine BJ<|Q6 ho hd T (λhz=>?_) λj hj e=>?_
 ·refine BL ?_;show wpAny _ _ (ret<|Value.bool false) _ _ _;rw[BW hz]at h;exact BL ⟨_,rfl,DY<|BL h⟩
 ·refine BL ?_;show wpAny _ _ (ret<|Value.bool true) _ _ _;have hz:z∈zs:=T.keys.mem_iff.mp (by rw[<- e];exact Ai.mpr ⟨_,Bp hj,rfl⟩);rw[BR<|not_not_intro hz]at h;exact BL ⟨_,rfl,DY<|BL h⟩
end
section
variable{Q:VK}
def q6n{p pos:Pos}(hm:X.mg "set" = none)(h:∀ D,H D=none->Q (.ref D) (upd H D<|bj X.U X.w D []))(hg:Gl X "set":=by rfl):Ev X (.Call (.Name "set" p) [] [] pos) σ H Q:=by
 refine⟨λO s I=>Call_<|oD I hg hm PK<|PyProof.Rows.callWith_type0<|k81 ?_⟩;exact⟨.ref s.heap.objs.size,_,I.laid (λb o e=>Ae _ e) (Am _)<|tF<|HZ<|Ao _ rfl,rfl,h _ I.fresh⟩
def k0x:cG X (compareOp .NotIn) (λx y H Q=>∃ z a zs,x = .str z/\y = .ref a/\H a=some (bj X.U X.w a zs)/\Q (.bl<|decide (z∉zs)) H):=by
 intro O s σ H x y v u Q I rx ry h;obtain⟨z,a,zs,rfl,rfl,hA,q⟩:=h;obtain⟨t,rfl⟩:=rx;cases (show u=Value.ref a from ry);exact k9g (I.set hA) ⟨.bl _,H,I.tok _,rfl,q⟩
def q5h{o e:Expr}{ap cp:Pos} (h:Ev X o σ H λx H1=>∃ a,x = .ref a/\(∃ zs,H1 a=some (bj X.U X.w a zs))/\Ev X e σ H1 λy H2=>∃ z zs,y = .str z/\H2 a=some (bj X.U X.w a zs)/\zs.length+1 < 1000/\Q .non (upd H2 a<|bj X.U X.w a<|added zs z))
  (bO:attributeBase o "add" X.env (eval o X.env)=eval o X.env:=by rfl)
  (dB:((backTo cp<|starEach [e] X.env).all (λx=>!x.1) && (backToKw cp<|keywordEach [] X.env).all (λx=>x.1.isSome) && decide ([e].length+([]:List Keyword).length+(if([]:List Keyword).isEmpty then 0 else 1) < 30))=true:=by rfl)
  (hline:(ap.endLine == cp.line)=true:=by rfl) (hs:starEach [e] X.env=(false,eval e X.env) :: starEach [] X.env:=by rfl) (cP:isStar e=false:=by rfl):Ev X (.Call (.Attribute o "add" ap) [e] [] cp) σ H Q:=by
 refine⟨λO s I=>wpAny_Call_method_late bO dB hline rfl (aN (h.run O s I) λv s1 ⟨x,H1,I1,r1,a,ex,⟨zs,hA⟩,h2⟩=>?_)⟩;subst ex;cases (show v=Value.ref a from r1);have S:=I1.set hA;refine⟨"set","set.add",PySem.F.plainAttrs_set,PySem.F.slot_set_add,PySem.F.type_set_add,S.typeIs,λb eb=>?_,?_⟩
 ·cases eb;obtain⟨o,_,_,_,ho,hx,_⟩:=S;exact⟨o,ho,hx.2.1⟩
 have hE:Ea X [e] σ H1 (λys H2=>∃ z zs,ys=[.str z]/\H2 a=some (bj X.U X.w a zs)/\zs.length+1 < 1000/\Q .non (upd H2 a<|bj X.U X.w a<|added zs z)):=ai (h2.mono λy H2 ⟨z,zs,ey,q⟩=>ax ⟨z,zs,by rw[ey],q⟩) cP;have S7:=hE.run cp O s1 I1;rw[hs]at S7 ⊢;refine JW rfl (PX ?_);refine aN S7 λus s2 ⟨vs,H2,I2,r2,z,ys,ev,S8,hl,q⟩=>?_;subst ev;obtain⟨u,rfl,ru⟩:=vals1 r2;obtain⟨tk,rfl⟩:=ru;refine SU (I2.set S8) hl λh' sb S'=>⟨.non,_,mK I2 (by rw[S8];exact True.intro) sb ?_<|tF S',rfl,q⟩;obtain⟨o,_,_,_,ho,_⟩:=S';exact⟨o,ho⟩
end
end L2
namespace Nt
open PySem L2
def dW(c:Int)(n:Net)(e:End):End:=(e.1,(((e.2:Int)+c) % ((row n e.1).length:Int)).toNat)
variable{e:End}{n:Net}{c:Int}
theorem wj(h:e∈ends n):(((dW c n e).2:Nat):Int)=((e.2:Int)+c) % ((row n e.1).length:Int):=by
 obtain⟨z,hz⟩:=af.mp h;have:=iE hz;exact Int.toNat_of_nonneg<|Bs _<|⋯
theorem S9(h:e∈ends n):dW c n e∈ends n:=by
 obtain⟨z,hz⟩:=af.mp h;have h1:=iE hz;have h2:=wj (c:=c) h;have h3:((e.2:Int)+c) % ((row n e.1).length:Int) < ((row n e.1).length:Int):=Ce _ ⋯;exact af.mpr<|zJ<|by show(dW c n e).2 < (row n e.1).length;omega
theorem o6(h:e∈ends n):dW (-c) n (dW c n e)=e:=by
 have h2:=wj (c:=c) h;have h3:=wj (c:=-c)<|S9 (c:=c) h;obtain⟨z,hz⟩:=af.mp h;have h1:=iE hz;have hr:(dW c n e).1=e.1:=rfl;rw[hr,h2]at h3;have e1:(((e.2:Int)+c) % ((row n e.1).length:Int)+-c) % ((row n e.1).length:Int)=(e.2:Int):=by
  have:(((e.2:Int)+c) % ((row n e.1).length:Int)+-c) % ((row n e.1).length:Int)=((e.2:Int)+c+-c) % ((row n e.1).length:Int):=by
   rw[Int.add_emod,Int.emod_emod,<- Int.add_emod]
  rw[this,show(e.2:Int)+c+-c=(e.2:Int) by omega];exact Int.emod_eq_of_lt ⋯<|⋯
 rw[e1]at h3;have h4:(dW (-c) n<|dW c n e).2=e.2:=⋯
 exact JC rfl h4
def Ta{a b:End}(ha:a∈ends n)(hb:b∈ends n)(h:dW c n a=dW c n b):a=b:=by
 rw[<- o6 ha,<- o6 hb,h]
theorem AO(h:e∈ends n):left n e=dW 1 n e:=by
 have h2:=wj (c:=1) h;refine JC rfl ?_;show(e.2+1) % (row n e.1).length=(dW 1 n e).2;have:(((e.2+1) % (row n e.1).length:Nat):Int)=((e.2:Int)+1) % ((row n e.1).length:Int):=by simp
 omega
def go(c:Int)(n:Net)(e:End):End:=dW c n<|other n e
def gB(T:aw n)(h:e∈ends n):go c n e∈ends n:=S9<|dD T h
def go_inj(T:aw n){a b:End}(ha:a∈ends n)(hb:b∈ends n)(h:go c n a=go c n b):a=b:=R1 T ha hb<|Ta (dD T ha) (dD T hb) h
def Tc(T:aw n)(h:e∈ends n):step n e=go 1 n e:=AO<|dD T h
def two(n:Net)(e:End):End:=go (-1) n<|go 1 n e
def m9(T:aw n)(h:e∈ends n):two n e∈ends n:=gB T<|gB T h
def wm(T:aw n){a b:End}(ha:a∈ends n)(hb:b∈ends n)(h:two n a=two n b):a=b:=go_inj T ha hb<|go_inj T (gB T ha) (gB T hb) h
def wk(n:Net)(e:End):Nat->List End
 | 0=>[]
 | k+1=>wk n e k++[it (two n) k e,go 1 n<|it (two n) k e]
theorem qU(n:Net)(e:End):∀ k,(wk n e k).length=2 * k
 | 0=>rfl
 | k+1=>by
  show(wk n e k++_).length=_;rw[Ad,qU n e k];show 2 * k+2=_;omega
theorem qV(n:Net)(e:End):∀k i,i < k->(wk n e k)[2 * i]?=some (it (two n) i e)
 | 0,i,h=>absurd h<|Eh _
 | k+1,i,h=>by
  show(wk n e k++[it (two n) k e,go 1 n<|it (two n) k e])[2 * i]?=_;have l:=qU n e k
  by_cases hk:i < k
  ·rw[Aq<|⋯];exact qV n e k i hk
  ·have:i=k:=⋯
   subst this;rw[Ba ⋯,l,WL];rfl
theorem AQ(n:Net)(e:End):∀k i,i < k->(wk n e k)[2 * i+1]?=some (go 1 n<|it (two n) i e)
 | 0,i,h=>absurd h<|Eh _
 | k+1,i,h=>by
  show(wk n e k++[it (two n) k e,go 1 n<|it (two n) k e])[2 * i+1]?=_;have l:=qU n e k
  by_cases hk:i < k
  ·rw[Aq<|⋯];exact AQ n e k i hk
  ·have:i=k:=⋯
   subst this;rw[Ba ⋯,l,show 2 * i+1 - 2 * i=1 by omega];rfl
theorem q2d(n:Net)(e:End)(k:Nat):aq (wk n e k)=(List.range k).map λi=>it (two n) i e:=by
 apply Dv;intro i;rw[qT,Ah]
 by_cases h:i < k
 ·rw[qV n e k i h,Ek h];rfl
 ·rw[Bd (by rw[qU];omega),Bd<|by rw[Cy];omega];rfl
theorem Jp{n:Net}(T:aw n){e:End}(h:e∈ends n):∀ k,∀ c∈wk n e k,c∈ends n
 | 0,c,hc=>by cases hc
 | k+1,c,hc=>by
  have hk:=kz (λa ha=>m9 T ha) h k
  rcases An.mp hc with hc | hc
  ·exact Jp T h k c hc
  ·rcases Al.mp hc with rfl | hc
   ·exact hk
   ·rw[Af.mp hc];exact gB T hk
structure jw(n:Net)(e:End)(k:Nat):Prop where
 pos:0 < k
 back:it (two n) k e=e
 first:∀ i,0 < i->i < k->it (two n) i e≠e
def jw.unique{k l:Nat}(a:jw n e k)(b:jw n e l):k=l:=by
 rcases RQ k l with h | h | h
 ·exact absurd a.back<|b.first k a.pos h
 ·exact h
 ·exact absurd b.back<|a.first l b.pos h
noncomputable def wn(n:Net)(e:End):Nat:=by classical exact if h:∃ k,jw n e k then h.choose else 0
def wo{k:Nat}(h:jw n e k):wn n e=k:=by
 have hx:∃ k,jw n e k:=⟨k,h⟩;unfold wn;rw[dif_pos hx];exact hx.choose_spec.unique h
noncomputable def walker(n:Net)(e:End):List End:=wk n e<|wn n e
structure kI(n:Net)(ws:List End):Prop where
 ends:∀ c∈ws,c∈Nt.ends n
 ne0:0 < ws.length
 even:ws.length % 2=0
 few:ws.length<=2 * (Nt.ends n).length
 at':∀ k,k < ws.length->∃ c,ws[k]?=some c/\ws[(k+1) % ws.length]?=some (go (1 - 2 * ((k:Int) % 2)) n c)
theorem q8i(T:aw n)(h:e∈Nt.ends n){k:Nat}(p:jw n e k)(hk:k<=(Nt.ends n).length):kI n (wk n e k):=by
 have l:=qU n e k;have p0:=p.pos;refine⟨Jp T h k,⋯,⋯,⋯,λj hj=>?_⟩;rw[l]at hj ⊢
 rcases Nat.mod_two_eq_zero_or_one j with h2 | h2
 ·obtain⟨i,rfl⟩:∃ i,j=2 * i:=⟨j / 2,⋯⟩;refine⟨_,qV n e k i ⋯,?_⟩;rw[Cf ⋯,AQ n e k i<|⋯];have:(1:Int) - 2 * (((2 * i:Nat):Int) % 2)=1:=⋯
  rw[this]
 ·obtain⟨i,rfl⟩:∃ i,j=2 * i+1:=⟨j / 2,⋯⟩;refine⟨_,AQ n e k i ⋯,?_⟩;have e1:(1:Int) - 2 * (((2 * i+1:Nat):Int) % 2)=-1:=⋯
  rw[e1];show _=some (two n<|it (two n) i e)
  by_cases hl:i+1 < k
  ·rw[Cf ⋯,show 2 * i+1+1=2 * (i+1) by omega];exact qV n e k (i+1) hl
  ·have:i+1=k:=⋯
   rw[show 2 * i+1+1=2 * k by omega,Em];have e2:two n (it (two n) i e)=it (two n) k e:=by rw[<- this];rfl
   rw[e2,p.back];exact qV n e k 0<|⋯
def ay(n:Net)(e:End):Str:=(aJ n e).getD ⟨#[]⟩
def dJ{z:Str}(h:aJ n e=some z):ay n e=z:=by unfold ay;rw[h];rfl
noncomputable def eW(n:Net):List End->Ñ->List (List End)
 | [],_=>[]
 | e :: r,told=>if ay n e∈told then eW n r told else walker n e :: eW n r (told++(aq<|walker n e).map (ay n))
theorem tR(T:aw n)(h:e∈ends n):∃ k,jw n e k/\k<=(ends n).length:=by
 obtain⟨k,k0,k1,k2⟩:=Ip (λa ha=>m9 T ha) (λa ha b hb=>wm T ha hb) h;have aux:∀ m,∀ k,k<=m->0 < k->it (two n) k e=e->∃ j,j<=k/\jw n e j:=by
  intro m
  induction m with
  | zero=>intro k h1 h2;omega
  | succ m ih=>
   intro k h1 h2 h3
   by_cases c:∃ i,0 < i/\i < k/\it (two n) i e=e
   ·obtain⟨i,i1,i2,i3⟩:=c;obtain⟨j,j1,j2⟩:=ih i ⋯ i1 i3;exact⟨j,⋯,j2⟩
   ·exact⟨k,Am _,h2,h3,λi i1 i2 i3=>c ⟨i,i1,i2,i3⟩⟩
 obtain⟨j,j1,j2⟩:=aux k k (Am _) k0 k2;exact⟨j,j2,⋯⟩
def k7k(T:aw n)(h:e∈ends n):kI n (walker n e):=by
 obtain⟨k,p,hk⟩:=tR T h;unfold walker;rw[wo p];exact q8i T h p hk
theorem ng{n:Net}(T:aw n):∀es told,(∀ e∈es,e∈ends n)->∀ w∈eW n es told,kI n w
 | [],_,_,w,hw=>by cases hw
 | e :: r,told,h,w,hw=>by
  unfold eW at hw
  split at hw
  ·exact ng T r told (λa ha=>h a<|Ak _ ha) w hw
  ·rcases Al.mp hw with rfl | hw
   ·exact k7k T<|h e<|Ag ..
   ·exact ng T r _ (λa ha=>h a<|Ak _ ha) w hw
theorem wq(n:Net):∀es told,(eW n es told).length<=es.length
 | [],_=>Am _
 | e :: r,told=>by
  unfold eW
  split
  ·have:=wq n r told;show _<=r.length+1;omega
  ·have:=wq n r<|told++(aq<|walker n e).map (ay n);show _+1<=r.length+1;omega
end Nt
namespace Nt
variable{α β:Type}
def ie(f:α->α):List α->α->α->Prop
 | [],a,b=>a=b
 | x :: l,a,b=>x=a/\ie f l (f x) b
theorem b9{f:α->α}:∀{l k}{a b},ie f (l++k) a b↔∃ c,ie f l a c/\ie f k c b
 | [],k,a,b=>⟨λh=>⟨a,rfl,h⟩,λ⟨c,e,h⟩=>by cases e;exact h⟩
 | x :: l,k,a,b=>by
  show(x=a/\ie f (l++k) (f x) b)↔∃ c,(x=a/\ie f l (f x) c)/\ie f k c b;rw[b9];exact⟨λ⟨e,c,h1,h2⟩=>⟨c,⟨e,h1⟩,h2⟩,λ⟨c,⟨e,h1⟩,h2⟩=>⟨e,c,h1,h2⟩⟩
theorem Jq{f:α->α}{f':β->β}{g:α->β}:∀{l}{a b},(∀ x∈l,f' (g x)=g (f x))->ie f l a b->ie f' (l.map g) (g a) (g b)
 | [],_,_,_,h=>BZ g h
 | x :: l,a,b,hg,h=>⟨BZ g h.1,by rw[hg x Ag];exact Jq (λy hy=>hg y<|Ak _ hy) h.2⟩
theorem AT{f:α->α}:∀{l}{x a b y},ie f (x :: l) a b->y∈x :: l->f y∈l\/f y=b
 | [],x,a,b,y,h,hy=>by
  rw[Af]at hy;subst hy;exact .inr h.2
 | z :: l,x,a,b,y,h,hy=>by
  rcases Al.mp hy with rfl | hy
  ·exact .inl<|by rw[<- h.2.1];exact Ag
  ·rcases AT h.2 hy with q | q
   ·exact .inl<|Ak _ q
   ·exact .inr q
theorem Jr{f:α->α}{l:List α}{a y:α}(h:ie f l a a)(ha:a∈l)(hy:y∈l):f y∈l:=by
 cases l with
 | nil=>cases hy
 | cons x l=>
  rcases AT h hy with q | q
  ·exact Ak _ q
  ·rwa[q]
theorem AU{f:α->α}{f':β->β}{g:α->β}{c:α}{h:β}:∀{l}{x},(∀ y∈x :: l,f y=c->f' (g y)=h)->(∀ y∈x :: l,f y≠c->f' (g y)=g (f y))->c∉l->ie f (x :: l) x c->ie f' ((x :: l).map g) (g x) h
 | [],x,h1,_,_,p=>⟨rfl,h1 x Ag p.2⟩
 | y :: l,x,h1,h2,hc,p=>by
  have e:=p.2.1;have ne:f x≠c:=λq=>hc (by rw[<- q,<- e];exact Ag);refine⟨rfl,?_⟩;rw[h2 x Ag ne,<- e];exact AU (λz hz=>h1 z<|Ak _ hz) (λz hz=>h2 z<|Ak _ hz) (λq=>hc<|Ak _ q)<|⟨rfl,p.2.2⟩
structure Dec(f:α->α)(D:List α)(Ls:List<|List α):Prop where
 kJ:∀ l∈Ls,∃ a,a∈l/\ie f l a a
 all:Ls.flatten.Perm D
 nd:D.Nodup
def Dec.sub{f:α->α}{D:List α}{Ls:List (List α)}(d:Dec f D Ls){l:List α}(hl:l∈Ls){x:α}(hx:x∈l):x∈D:=
 d.all.mem_iff.mp (Fu.mpr ⟨l,hl,hx⟩)
def Dec.pick{f:α->α}{D:List α}{Ls:List (List α)}(d:Dec f D Ls){c:α}(hc:c∈D):∃ l Ms,Ls.length=Ms.length+1/\Dec f D ((c :: l) :: Ms):=by
 obtain⟨l,hl,jN⟩:=Fu.mp<|d.all.mem_iff.mpr hc;obtain⟨A,B,rfl⟩:=Fz hl;obtain⟨p,q,rfl⟩:=Fz jN;obtain⟨a,ha,h⟩:=d.kJ _ hl;obtain⟨m,h1,h2⟩:=b9.mp h;have e:c=m:=h2.1;subst e;refine⟨q++p,A++B,by simp[Nat.add_assoc],λk hk=>?_,?_,d.nd⟩
 ·rcases Al.mp hk with rfl | hk
  ·exact⟨c,Ag,b9 (l:=c :: q).mpr ⟨a,h2,h1⟩⟩
  ·refine d.kJ k ?_
   rcases An.mp hk with q | q
   ·exact Az _ q
   ·exact Av _<|Ak _ q
 ·refine List.Perm.trans ?_ d.all;simp only[Dl,Fv,Ft];have e1:(c :: (q++p)).Perm (p++c :: q):=by
   rw[<- Ft];exact Ci
  refine((e1.append_right _).trans ?_);rw[<- Au,<- Au];exact(Ci).append_right _
def Dec.apart{f:α->α}{D:List α}{l:List α}{Ms:List (List α)}(d:Dec f D<|l :: Ms):l.Nodup/\∀ m∈Ms,∀ x∈l,x∉m:=by
 have h:=d.all.nodup_iff.mpr d.nd;rw[Dl,Cj]at h;exact⟨h.1,λm hm x hx hxm=>h.2.2 x hx x (Fu.mpr ⟨m,hm,hxm⟩) rfl⟩
theorem AV{g:α->β}:∀(Ls:List<|List α),(Ls.map<|List.map g).flatten=Ls.flatten.map g
 | []=>rfl
 | l :: Ls=>by rw[Bn,Dl,AV Ls,Dl,Aj]
def Dec.rest{f:α->α}{f':β->β}{g:α->β}{D:List α}{l:List α}{Ms:List (List α)}(d:Dec f D<|l :: Ms)(ho:∀ x∈D,f x∉l->f' (g x)=g (f x)):∀ m∈Ms.map (List.map g),∃ a,a∈m/\ie f' m a a:=by
 intro m hm;obtain⟨k,hk,rfl⟩:=Ai.mp hm;obtain⟨a,ha,p⟩:=d.kJ k<|Ak _ hk;refine⟨g a,Ai.mpr ⟨a,ha,rfl⟩,Jq (λx hx=>ho x (d.sub (Ak _ hk) hx) λq=>?_) p⟩;exact d.apart.2 k hk _ q<|Jr p ha hx
def Dec.grow{f:α->α}{f':β->β}{g:α->β}{D:List α}{c:α}{l:List α}{Ms:List (List α)}(d:Dec f D<|(c :: l) :: Ms){new:List β}{h:β}(hn:ie f' new h<|g c)(hh:∀ x∈D,f x=c->f' (g x)=h)(ho:∀ x∈D,f x≠c->f' (g x)=g (f x))(nd:(D.map g++new).Nodup) :
  Dec f' (D.map g++new) (((c :: l).map g++new) :: Ms.map (List.map g)):=by
 have ap:=d.apart;have jN:c∉l:=(Bk.mp ap.1).1;refine⟨λk hk=>?_,?_,nd⟩
 ·rcases Al.mp hk with rfl | hk
  ·obtain⟨a,ha,p⟩:=d.kJ _ Ag;have e:c=a:=p.1;subst e;exact⟨g c,Az _ Ag,b9.mpr ⟨h,AU (λy hy=>hh y<|d.sub Ag hy) (λy hy=>ho y<|d.sub Ag hy) jN p,hn⟩⟩
  ·exact d.rest (λx hx q=>ho x hx λe=>q<|by rw[e];exact Ag) k hk
 ·rw[Dl,AV];have:=d.all.map g;rw[Dl,Aj]at this;refine List.Perm.trans ?_<|this.append_right new;rw[Au,Au];exact(Ci).append_left _
theorem Dec.split{f:α->α}{f':β->β}{g:α->β}{D:List α}{c d0:α}{l:List α}{Ms:List (List α)}(d:Dec f D<|(c :: l) :: Ms)(hd:d0∈l){e1 e2:β}(h1:f' e1=g d0)(h2:f' e2=g c)(hc:∀ x∈D,f x=c->f' (g x)=e1)(hc2:∀ x∈D,f x=d0->f' (g x)=e2)(ho:∀ x∈D,f x≠c->f x≠d0->f' (g x)=g (f x))(nd:(D.map g++[e1,e2]).Nodup) :
  ∃ Ls,Ls.length=Ms.length+2/\Dec f' (D.map g++[e1,e2]) Ls/\∃ l∈Ls,e2∈l/\e1∉l:=by
 have ap:=d.apart;obtain⟨p,q,rfl⟩:=Fz hd;have Js:=Bk.mp ap.1;have Td:=Cj.mp Js.2;have ap3:=Bk.mp Td.2.1;have hdp:d0∉p:=λx=>Td.2.2 d0 x d0 Ag rfl;have hcp:c∉p:=λx=>Js.1<|Az _ x;have hcq:c∉q:=λx=>Js.1<|Av _<|Ak _ x;obtain⟨a,ha,pp⟩:=d.kJ _ Ag;have e:c=a:=pp.1;subst e;obtain⟨m,p1,p2⟩:=(b9 (l:=c :: p)).mp pp;have e:d0=m:=p2.1;subst e;have inD:∀ y∈c :: p,y∈D:=λy hy=>d.sub Ag (by
  rcases Al.mp hy with rfl | hy
  ·exact Ag
  ·exact Ak _<|Az _ hy)
 have wu:∀ y∈d0 :: q,y∈D:=λy hy=>d.sub Ag<|Ak _<|Av _ hy;have Jt:=Cj.mp nd;have e12:e1≠e2:=λe=>by
  have:=Jt.2.1;rw[e]at this;simp at this
 refine⟨((c :: p).map g++[e2]) :: ((d0 :: q).map g++[e1]) :: Ms.map (List.map g),by simp,⟨λk hk=>?_,?_,nd⟩,_,Ag,Av _<|Af.mpr rfl,λh=>?_⟩
 ·rcases Al.mp hk with rfl | hk
  ·refine⟨g c,Az _ Ag,b9.mpr ⟨e2,AU (λy hy=>hc2 y<|inD y hy) (λy hy ne=>ho y (inD y hy) (λec=>?_) ne) hdp p1,rfl,h2⟩⟩
   rcases AT p1 hy with z | z
   ·exact hcp<|by rwa[<- ec]
   ·exact ne z
  ·rcases Al.mp hk with rfl | hk
   ·refine⟨g d0,Az _ Ag,b9.mpr ⟨e1,AU (λy hy=>hc y<|wu y hy) (λy hy ne=>ho y (wu y hy) ne λec=>?_) hcq p2,rfl,h1⟩⟩
    rcases AT p2 hy with z | z
    ·exact ap3.1<|by rwa[<- ec]
    ·exact ne z
   ·exact d.rest (λx hx q=>ho x hx (λe=>q<|by rw[e];exact Ag) λe=>q<|by rw[e];exact Ak _<|Av _ Ag) k hk
 ·simp only[Dl,AV];have:=d.all.map g;rw[Dl,Aj,<- Ft,Aj]at this;refine List.Perm.trans ?_<|this.append_right [e1,e2];generalize (c :: p).map g=A;generalize (d0 :: q).map g=B;generalize Ms.flatten.map g=C
  letI:DecidableEq β:=λa b=>Classical.propDecidable<|a=b
  rw[List.perm_iff_count];intro z;simp only[Fm,Dq,List.count_nil];omega
 ·rcases An.mp h with h | h
  ·obtain⟨y,hy,e⟩:=Ai.mp h;exact Jt.2.2 e1 (Ai.mpr ⟨y,inD y hy,e⟩) e1 Ag rfl
  ·exact e12<|Af.mp h
def Dec.more{f:β->β}{D:List β}{Ls:List (List β)}(d:Dec f D Ls){b:β}(hb:f b=b)(nd:(D++[b]).Nodup):Dec f (D++[b]) (Ls++[[b]]):=by
 refine⟨λl hl=>?_,?_,nd⟩
 ·rcases An.mp hl with h | h
  ·exact d.kJ l h
  ·rw[Af]at h;subst h;exact⟨b,Ag,rfl,hb⟩
 ·rw[Fv];exact d.all.append_right _
def Dec.carry{f:α->α}{f':β->β}{g:α->β}{D:List α}{D':List β}{Ls:List (List α)}(d:Dec f D Ls)(ho:∀ x∈D,f' (g x)=g (f x))(hD:(D.map g).Perm D')(nd:D'.Nodup):Dec f' D' (Ls.map<|List.map g):=by
 refine⟨λm hm=>?_,?_,nd⟩
 ·obtain⟨k,hk,rfl⟩:=Ai.mp hm;obtain⟨a,ha,p⟩:=d.kJ k hk;exact⟨g a,Ai.mpr ⟨a,ha,rfl⟩,Jq (λx hx=>ho x<|d.sub hk hx) p⟩
 ·rw[AV];exact(d.all.map g).trans hD
open PySem
theorem wv{α:Type} [DecidableEq α]:∀{a b:List α},a.Nodup->(∀ z∈a,z∈b)->b.length<=a.length->a.Perm b
 | [],b,_,_,hl=>by
  have:b=[]:=Cd.mp<|Nat.le_zero.mp hl;rw[this]
 | x :: a,b,nd,sub,hl=>by
  have Te:=Bk.mp nd;have hx:=sub x Ag;have pb:=List.perm_cons_erase hx;refine List.Perm.trans ((wv Te.2 (λz hz=>?_) ?_).cons x) pb.symm
  ·exact(Fq λe=>Te.1<|by rwa[<- e]).mpr<|sub z<|Ak _ hz
  ·have:=pb.length_eq;rw[As]at this hl;omega
variable{z:Str}{n:Net}
def kK(T:aw n){a b:End}(ha:aJ n a=some z)(hb:aJ n b=some z)(ne:a≠b):other n a=b:=by
 obtain⟨h1,_,h3⟩:=dk T ha;obtain⟨p,q,e,_,_⟩:=qB T ha;have m1:=aK.mpr ha;have m2:=aK.mpr hb;have m3:=aK.mpr h1;rw[e]at m1 m2 m3;simp only[Al,Ch,FW]at m1 m2 m3
 rcases m1 with rfl | rfl <;> rcases m2 with rfl | rfl <;> rcases m3 with m3 | m3 <;> first | exact m3 | exact absurd rfl ne | exact absurd m3 h3
def sh(c e:End):End:=if e.1=c.1/\c.2<=e.2 then(e.1,e.2+1)else e
def nh(c e:End):(sh c e).1=e.1:=by unfold sh;split <;> rfl
variable{c:End}
theorem o7{a b:End}(h:sh c a=sh c b):a=b:=by
 have h1:a.1=b.1:=by rw[<- nh c a,h,nh]
 have h2:=BZ Prod.snd h;unfold sh at h2;refine JC h1 ?_
 by_cases x:a.1=c.1/\c.2<=a.2
 ·rw[BP x]at h2
  by_cases y:b.1=c.1/\c.2<=b.2
  ·rw[BP y]at h2;exact Nat.succ.inj h2
  ·rw[BK y]at h2;have h2:a.2+1=b.2:=h2;exact absurd ⟨h1 ▸ x.1,⋯⟩ y
 ·rw[BK x]at h2
  by_cases y:b.1=c.1/\c.2<=b.2
  ·rw[BP y]at h2;have h2:a.2=b.2+1:=h2;exact absurd ⟨h1 ▸ y.1,⋯⟩ x
  ·rwa[BK y]at h2
theorem o8(c e:End):sh c e≠c:=by
 intro h;have h1:e.1=c.1:=by rw[<- nh c e,h]
 have h2:=BZ Prod.snd h;unfold sh at h2
 by_cases x:e.1=c.1/\c.2<=e.2
 ·rw[BP x]at h2;have h2:e.2+1=c.2:=h2;omega
 ·rw[BK x]at h2;exact x ⟨h1,⋯⟩
variable{e:End}
theorem tS(hc:c.1 < n.length)(hp:c.2<=(row n c.1).length)(i:Nat):(row (ins n c z) i).length=if c.1=i then(row n i).length+1 else(row n i).length:=by
 rw[tK n c z i hc]
 by_cases h:c.1=i
 ·subst h;rw[BP rfl,BP rfl,Ad,As,Bh,Dd];omega
 ·rw[BK h,BK h]
theorem Ju(hc:c.1 < n.length)(hp:c.2<=(row n c.1).length):aJ (ins n c z) c=some z:=by
 unfold aJ;rw[tK n c z c.1 hc,BP rfl,Ba (by rw[Bh];omega),Bh,show c.2 - min c.2 (row n c.1).length=0 by omega];rfl
theorem tT(hc:c.1 < n.length)(hp:c.2<=(row n c.1).length)(e:End):aJ (ins n c z) (sh c e)=aJ n e:=by
 unfold aJ;rw[nh,tK n c z e.1 hc];unfold sh
 by_cases h:c.1=e.1
 ·rw[BP h]
  by_cases k:c.2<=e.2
  ·rw[BP ⟨h.symm,k⟩,Ba (by rw[Bh];show _<=e.2+1;omega),Bh];show(z :: (row n e.1).drop c.2)[e.2+1 - min c.2 (row n e.1).length]?=_;rw[<- h,show e.2+1 - min c.2 (row n c.1).length=(e.2 - c.2)+1 by omega,Gb,RG,show c.2+(e.2 - c.2)=e.2 by omega]
  ·rw[BK λq=>k q.2,Aq (by rw[Bh,<- h];omega),Ee<|⋯]
 ·rw[BK h,BK λq=>h q.1.symm]
theorem o9(hc:c.1 < n.length)(hp:c.2 < (row n c.1).length):left (ins n c z) c=sh c c:=by
 unfold left sh;rw[tS hc<|Bz hp,BP rfl,BP ⟨rfl,Am _⟩,Cf<|⋯]
theorem jc(hc:c.1 < n.length)(hp:c.2 < (row n c.1).length)(he:e.2 < (row n e.1).length):left (ins n c z) (sh c e)=if left n e=c then c else sh c (left n e):=by
 by_cases h:c.1=e.1
 ·have e1:(left n e).1=e.1:=rfl;have e2:(left n e).2=(e.2+1) % (row n e.1).length:=rfl;have q:(left n e=c)↔(e.2+1) % (row n e.1).length=c.2:=⟨λx=>by rw[<- e2,x],λx=>JC h.symm x⟩;have L:(left (ins n c z) (sh c e))=(e.1,((sh c e).2+1) % ((row n e.1).length+1)):=by
   unfold left;rw[nh,tS hc<|Bz hp,BP h]
  rw[L];rw[h]at hp;have S:(sh c e).2=if c.2<=e.2 then e.2+1 else e.2:=by
   unfold sh
   by_cases k:c.2<=e.2
   ·rw[BP ⟨h.symm,k⟩,BP k]
   ·rw[BK λq=>k q.2,BK k]
  have S2:sh c (left n e)=(e.1,if c.2<=(e.2+1) % (row n e.1).length then(e.2+1) % (row n e.1).length+1 else(e.2+1) % (row n e.1).length):=by
   unfold sh
   by_cases k:c.2<=(e.2+1) % (row n e.1).length
   ·rw[BP ⟨h.symm,k⟩,BP k];rfl
   ·rw[BK λq=>k q.2,BK k];rfl
  rw[S,S2];generalize (row n e.1).length=m at *
  by_cases k:e.2+1 < m
  ·rw[Cf k]at q ⊢
   by_cases j:e.2+1=c.2
   ·rw[BP<|q.mpr j,BK ⋯,Cf<|⋯];exact JC h.symm j
   ·rw[BK λx=>j<|q.mp x]
    by_cases i:c.2<=e.2
    ·rw[BP i,BP ⋯,Cf<|⋯]
    ·rw[BK i,BK ⋯,Cf<|⋯]
  ·have em:e.2+1=m:=⋯
   rw[em,Em]at q ⊢;rw[BP ⋯,Em]
   by_cases j:0=c.2
   ·rw[BP<|q.mpr j];exact JC h.symm j
   ·rw[BK λx=>j<|q.mp x,BK<|⋯]
 ·have ne:left n e≠c:=λx=>h (by rw[<- x];rfl);rw[BK ne];have s1:sh c e=e:=by unfold sh;rw[BK λq=>h q.1.symm]
  have s2:sh c (left n e)=left n e:=by unfold sh;rw[BK λq=>h q.1.symm]
  rw[s1,s2];unfold left;rw[tS hc<|Bz hp,BK h]
def Pl(n:Net):Prop:=(ag n=[]/\n.length=1)\/∃ Ls,Dec (step n) (ends n) Ls/\2 * (n.length+Ls.length)=(ag n).length+4
structure fk(n m:Net)(g:End->End)(e1 e2:End)(z:Str):Prop where
 dq:∀ e∈ends n,aJ m (g e)=aJ n e
 t1:aJ m e1=some z
 t2:aJ m e2=some z
 inj:∀ a b,g a=g b->a=b
 n1:∀ a∈ends n,g a≠e1
 n2:∀ a∈ends n,g a≠e2
 ne:e1≠e2
 len:(ag m).length=(ag n).length+2
variable{m:Net}{k1 k2:End}
section
variable{g:End->End}{e1 e2:End}
def fk.nd(p:fk n m g e1 e2 z):((ends n).map g++[e1,e2]).Nodup:=by
 rw[Cj];refine⟨?_,?_,?_⟩
 ·exact(Cs.mpr<|(tH n).imp λ{a b} h e=>h<|p.inj a b e)
 ·simp[p.ne]
 ·rintro a ha b hb rfl;obtain⟨x,hx,rfl⟩:=Ai.mp ha;simp only[Al,Ch,FW]at hb
  rcases hb with h | h
  ·exact p.n1 x hx h
  ·exact p.n2 x hx h
def fk.perm(p:fk n m g e1 e2 z):((ends n).map g++[e1,e2]).Perm (ends m):=by
 refine wv p.nd (λa ha=>?_)<|by rw[jv,p.len,Ad,Aa,jv];exact Am _
 rcases An.mp ha with h | h
 ·obtain⟨x,hx,rfl⟩:=Ai.mp h;obtain⟨y,hy⟩:=af.mp hx;exact af.mpr ⟨y,by rwa[p.dq x hx]⟩
 ·simp only[Al,Ch,FW]at h
  rcases h with rfl | rfl
  ·exact af.mpr ⟨z,p.t1⟩
  ·exact af.mpr ⟨z,p.t2⟩
def fk.iC(p:fk n m g e1 e2 z)(T:aw n)(T':aw m)(he:e∈ends n):other m (g e)=g (other n e):=by
 obtain⟨y,hy⟩:=af.mp he;obtain⟨h1,_,h3⟩:=dk T hy;exact kK T' (by rwa[p.dq e he]) (by rwa[p.dq _<|af.mpr ⟨y,h1⟩]) λh=>h3 (p.inj _ _ h).symm
def fk.o1(p:fk n m g e1 e2 z)(T':aw m):other m e1=e2:=kK T' p.t1 p.t2 p.ne
def fk.o2(p:fk n m g e1 e2 z)(T':aw m):other m e2=e1:=kK T' p.t2 p.t1 p.ne.symm
def Dec.perm{α:Type}{f:α->α}{D D':List α}{Ls:List (List α)}(d:Dec f D Ls)(h:D.Perm D'):Dec f D' Ls:=⟨d.kJ,d.all.trans h,h.nodup_iff.mp d.nd⟩
def Tg{α:Type}{f:α->α}{l:List α}(h:∀ x∈l,f x∈l){a:α}(ha:a∈l):∀ k,it f k a∈l:=λk=>kz h ha k
def Dec.one{α:Type}{f:α->α}{D:List α}{a b:α}{l:List α}{Ms:List (List α)}(d:Dec f D<|(a :: l) :: Ms)(hb:b∈D)(h:(∃ k,it f k a=b)\/∃ k,it f k b=a)(ne:b≠a):b∈l:=by
 have cl:∀ k∈(a :: l) :: Ms,∀ x∈k,f x∈k:=λk hk x hx=>by
  obtain⟨c,hc,p⟩:=d.kJ k hk;exact Jr p hc hx
 have hm:b∈a :: l:=by
  rcases h with ⟨k,rfl⟩ | ⟨k,e⟩
  ·exact Tg (cl _ Ag) Ag k
  ·obtain⟨j,hj,Ti⟩:=Fu.mp<|d.all.mem_iff.mpr hb
   rcases Al.mp hj with rfl | kq
   ·exact Ti
   ·have:=Tg (cl j hj) Ti k;rw[e]at this;exact absurd this<|d.apart.2 j kq a Ag
 rcases Al.mp hm with h | h
 ·exact absurd h ne
 ·exact h
theorem q1w(p:fk n m g e1 e2 z)(T:aw n)(T':aw m)(hl:m.length=n.length)(h1:k1∈ends n)(h2:k2∈ends n)(ne:k2≠k1)(same:(∃ k,it (step n) k k1=k2)\/∃ k,it (step n) k k2=k1)
  (l1:left m e1=g k1) (l2:left m e2=g k2) (lf:∀ e∈ends n,left m (g e)=if left n e=k1 then e1 else if left n e=k2 then e2 else g (left n e)) (P:Pl n):Pl m:=by
 have st:∀ x∈ends n,step m (g x)=if step n x=k1 then e1 else if step n x=k2 then e2 else g (step n x):=λx hx=>by
  unfold step;rw[p.iC T T' hx];exact lf _<|dD T hx
 rcases P with ⟨e,_⟩ | ⟨Ls,d,eu⟩
 ·obtain⟨y,hy⟩:=af.mp h1;have:=eG hy;rw[e]at this;cases this
 ·obtain⟨l,Ms,hL,d⟩:=d.pick h1;have hk:=d.one h2 same ne;obtain⟨Tj,hL',d',_⟩:=d.split (f':=step m) (g:=g) hk (e1:=e1) (e2:=e2) (by unfold step;rwa[p.o1 T']) (by unfold step;rwa[p.o2 T'])
   (λx hx e=>by rw[st x hx,BP e]) (λx hx e=>by rw[st x hx,BK (by rw[e];exact ne),BP e]) (λx hx a b=>by rw[st x hx,BK a,BK b]) p.nd
  refine .inr ⟨Tj,d'.perm p.perm,?_⟩;have:=p.len;omega
theorem q67(p:fk n m g e1 e2 z)(T:aw n)(T':aw m)(hl:m.length=n.length)(h1:c∈ends n)
  (l1:left m e1=g c) (l2:left m e2=e1) (lf:∀ e∈ends n,left m (g e)=if left n e=c then e2 else g (left n e)) (P:Pl n):Pl m:=by
 have st:∀ x∈ends n,step m (g x)=if step n x=c then e2 else g (step n x):=λx hx=>by
  unfold step;rw[p.iC T T' hx];exact lf _<|dD T hx
 rcases P with ⟨e,_⟩ | ⟨Ls,d,eu⟩
 ·obtain⟨y,hy⟩:=af.mp h1;have:=eG hy;rw[e]at this;cases this
 ·obtain⟨l,Ms,hL,d⟩:=d.pick h1;have nd:=p.nd;have wx:((ends n).map g++[e2]++[e1]).Nodup:=by
   rw[Au];exact((List.Perm.swap e1 e2 []).append_left _).nodup_iff.mpr nd
  have d1:=d.grow (f':=step m) (g:=g) (new:=[e2]) (h:=e2) ⟨rfl,by unfold step;rwa[p.o2 T']⟩ (λx hx e=>by rw[st x hx,BP e]) (λx hx e=>by rw[st x hx,BK e]) (Cj.mp wx).1;have d2:=d1.more (b:=e1) (by unfold step;rwa[p.o1 T']) wx;have pm:((ends n).map g++[e2]++[e1]).Perm (ends m):=by
   refine List.Perm.trans ?_ p.perm;rw[Au];exact(List.Perm.swap e1 e2 []).append_left _
  refine .inr ⟨_,d2.perm pm,?_⟩;have:=p.len;simp only[Ad,As,Aa,Eu];omega
theorem q0g(p:fk n m g e1 e2 z)(T:aw n)(T':aw m)(hl:m.length=n.length+1)(h1:c∈ends n)
  (l1:left m e1=g c) (l2:left m e2=e2) (lf:∀ e∈ends n,left m (g e)=if left n e=c then e1 else g (left n e)) (P:Pl n):Pl m:=by
 have st:∀ x∈ends n,step m (g x)=if step n x=c then e1 else g (step n x):=λx hx=>by
  unfold step;rw[p.iC T T' hx];exact lf _<|dD T hx
 rcases P with ⟨e,_⟩ | ⟨Ls,d,eu⟩
 ·obtain⟨y,hy⟩:=af.mp h1;have:=eG hy;rw[e]at this;cases this
 ·obtain⟨l,Ms,hL,d⟩:=d.pick h1;have s1:step m e1=e2:=by unfold step;rwa[p.o1 T']
  have s2:step m e2=g c:=by unfold step;rwa[p.o2 T']
  have d1:=d.grow (f':=step m) (new:=[e1,e2]) ⟨rfl,by rw[s1];exact⟨rfl,s2⟩⟩ (λx hx e=>by rw[st x hx,BP e]) (λx hx e=>by rw[st x hx,BK e]) p.nd;refine .inr ⟨_,d1.perm p.perm,?_⟩;have:=p.len;simp only[As,Aa];omega
end
def fH(h:e∈ends n):e.1 < n.length/\e.2 < (row n e.1).length:=by
 obtain⟨z,hz⟩:=af.mp h;exact⟨cS hz,iE hz⟩
variable{i:Nat}{a:Net}{x:Str×List Str}{pt:Str}
theorem Tl(h1:k1.1 < n.length/\k1.2<=(row n k1.1).length)(h2:k2.1 < n.length/\k2.2<=(row n k2.1).length):fk n (ins (ins n k1 z) k2 z) (λe=>sh k2<|sh k1 e) (sh k2 k1) k2 z:=by
 have c2:k2.1 < (ins n k1 z).length:=by rw[ib];exact h2.1
 have p2:k2.2<=(row (ins n k1 z) k2.1).length:=by
  rw[tS h1.1 h1.2]
  split
  ·have:=h2.2;omega
  ·exact h2.2
 refine⟨λe _=>?_,?_,Ju c2 p2,λa b h=>o7<|o7 h,λa _ h=>o8 k1 a<|o7 h,λa _=>o8 k2 _,o8 k2 k1,?_⟩
 ·show aJ _ (sh k2<|sh k1 e)=_;rw[tT c2 p2,tT h1.1 h1.2]
 ·rw[tT c2 p2];exact Ju h1.1 h1.2
 ·rw[(l' _ k2 z c2).length_eq,As,(l' _ k1 z h1.1).length_eq,As]
theorem x0g(T:aw n)(T':aw<|ins (ins n k1 z) k2 z)(h1:k1∈ends n)(h2:k2∈ends n)(ord:k2=k1\/sh k1 k2=k2)(same:(∃ k,it (step n) k k1=k2)\/∃ k,it (step n) k k2=k1)(P:Pl n):Pl (ins (ins n k1 z) k2 z):=by
 have r1:=fH h1;have r2:=fH h2;have p:=Tl (z:=z) ⟨r1.1,Bz r1.2⟩ ⟨r2.1,Bz r2.2⟩;have c2:k2.1 < (ins n k1 z).length:=by rw[ib];exact r2.1
 have rl:∀ i,(row n i).length<=(row (ins n k1 z) i).length:=λi=>by
  rw[tS r1.1<|Bz r1.2]
  split <;> omega
 have p2:=Bf r2.2<|rl _;have p1:=Bf r1.2<|rl _;have hl:(ins (ins n k1 z) k2 z).length=n.length:=by rw[ib,ib]
 have sl:∀ e∈ends n,(sh k1 e).2 < (row (ins n k1 z) (sh k1 e).1).length:=λe he=>by
  obtain⟨y,hy⟩:=af.mp he;exact iE (z:=y)<|by rwa[tT r1.1<|Bz r1.2]
 have l0:left (ins n k1 z) k1=sh k1 k1:=o9 r1.1 r1.2
 by_cases e:k2=k1
 ·subst e;refine q67 p T T' hl h1 ?_ (o9 c2 p2) (λe he=>?_) P
  ·rw[jc c2 p2 p1,l0,BK<|o8 _ _]
  ·show left _ (sh k2<|sh k2 e)=_;rw[jc c2 p2<|sl e he,jc r1.1 r1.2 (fH he).2]
   by_cases q:left n e=k2
   ·rw[BP q,BP rfl,BP q]
   ·rw[BK q,BK<|o8 _ _,BK q]
 ·have hs:sh k1 k2=k2:=ord.resolve_left e;refine q1w p T T' hl h1 h2 e same ?_ ?_ (λe' he=>?_) P
  ·rw[jc c2 p2 p1,l0,BK λq=>e<|o7 (c:=k1)<|by rw[hs,q]]
  ·show left _ k2=sh k2 (sh k1 k2);rw[hs];exact o9 c2 p2
  ·show left _ (sh k2<|sh k1 e')=if left n e'=k1 then sh k2 k1 else if left n e'=k2 then k2 else sh k2 (sh k1<|left n e');rw[jc c2 p2<|sl e' he,jc r1.1 r1.2 (fH he).2]
   by_cases q:left n e'=k1
   ·rw[BP q,BP q,BK λx=>e x.symm]
   ·rw[BK q,BK q]
    by_cases q2:left n e'=k2
    ·rw[BP q2,q2,hs,BP rfl]
    ·rw[BK q2,BK λx=>q2<|o7 (c:=k1)<|by rw[x,hs]]
def pc{b:Net}(h:i < a.length):row (a++b) i=row a i:=by
 unfold row;rw[Aq h]
def AW:row (a++[x]) a.length=x.2:=by
 unfold row;rw[Ba<|Am _];simp
def To(h1:c.1 < n.length/\c.2<=(row n c.1).length):fk n (ins n c z++[(pt,[z])]) (sh c) c (n.length,0) z:=by
 have la:∀ e:End,e.1 < n.length->aJ (ins n c z++[(pt,[z])]) e=aJ (ins n c z) e:=λe he=>by
  unfold aJ;rw[pc<|by rwa[ib]]
 refine⟨λe he=>?_,?_,?_,λa b h=>o7 h,λa _=>o8 c a,λa ha h=>?_,λh=>?_,?_⟩
 ·rw[la _ (by rw[nh];exact(fH he).1),tT h1.1 h1.2]
 ·rw[la _ h1.1,Ju h1.1 h1.2]
 ·unfold aJ;have:=AW (a:=ins n c z) (x:=(pt,[z]));rw[ib]at this;show(row _ n.length)[0]?=_;rw[this];rfl
 ·have:=(fH ha).1;rw[<- nh c a,h]at this;exact absurd this<|Cq _
 ·have:=h1.1;rw[h]at this;exact absurd this<|Cq _
 ·unfold ag;rw[Dj,Ad];have:=(l' _ c z h1.1).length_eq;unfold ag at this;rw[this];rfl
def q3w(T:aw n)(T':aw<|ins n c z++[(pt,[z])])(h1:c∈ends n)(P:Pl n):Pl (ins n c z++[(pt,[z])]):=by
 have r1:=fH h1;have p:=To (z:=z) (pt:=pt) ⟨r1.1,Bz r1.2⟩;have la:∀ e:End,e.1 < n.length->left (ins n c z++[(pt,[z])]) e=left (ins n c z) e:=λe he=>by
  unfold left;rw[pc<|by rwa[ib]]
 refine q0g p T T' (by rw[Ad,ib];rfl) h1 ?_ ?_ (λe he=>?_) P
 ·rw[la _ r1.1];exact o9 r1.1 r1.2
 ·unfold left;have:=AW (a:=ins n c z) (x:=(pt,[z]));rw[ib]at this;show(n.length,(0+1) % (row _ n.length).length)=_;rw[this];exact BZ (Prod.mk _)<|Em 1
 ·rw[la _<|by rw[nh];exact(fH he).1];exact jc r1.1 r1.2 (fH he).2
def Tr{e1 e2:End}(T':aw m)(hE:ends m=[e1,e2])(t1:aJ m e1=some z)(t2:aJ m e2=some z)(ne:e1≠e2)
  (h:(m.length=2/\left m e1=e1/\left m e2=e2)\/(m.length=1/\left m e1=e2/\left m e2=e1)):Pl m:=by
 have o1:=kK T' t1 t2 ne;have o2:=kK T' t2 t1 ne.symm;have hl:(ag m).length=2:=by rw[<- jv,hE];rfl
 have nd:[e1,e2].Nodup:=by simp[ne]
 rcases h with ⟨hm,l1,l2⟩ | ⟨hm,l1,l2⟩
 ·refine .inr ⟨[[e1,e2]],?_,by rw[hm,hl];rfl⟩;rw[hE];refine⟨λl hl=>?_,List.Perm.refl _,nd⟩;rw[Af]at hl;subst hl;refine⟨e1,Ag,rfl,?_⟩;unfold step;rw[o1,l2];exact⟨rfl,by show left m (other m e2)=e1;rw[o2,l1]⟩
 ·refine .inr ⟨[[e1],[e2]],?_,by rw[hm,hl];rfl⟩;rw[hE];refine⟨λl hl=>?_,List.Perm.refl _,nd⟩;simp only[Al,Ch,FW]at hl
  rcases hl with rfl | rfl
  ·exact⟨e1,Ag,rfl,by show left m (other m e1)=e1;rw[o1,l2]⟩
  ·exact⟨e2,Ag,rfl,by show left m (other m e2)=e2;rw[o2,l1]⟩
def q01{nm:Str}(T':aw [(nm,[z]),(pt,[z])]):Pl [(nm,[z]),(pt,[z])]:=
 Tr (e1:=(0,0)) (e2:=(1,0)) T' rfl rfl rfl ∅ (.inl ⟨rfl,by simp[left,row],by simp[left,row]⟩)
def q43{nm:Str}(T':aw [(nm,[z,z])]):Pl [(nm,[z,z])]:=
 Tr (e1:=(0,0)) (e2:=(0,1)) T' rfl rfl rfl ∅ (.inr ⟨rfl,by simp[left,row],by simp[left,row]⟩)
def q2i{g:End->End}(T:aw n)(T':aw m)(hl:m.length=n.length)(ht:(ag m).length=(ag n).length)(dq:∀ e∈ends n,aJ m (g e)=aJ n e)(inj:∀ a∈ends n,∀ b∈ends n,g a=g b->a=b)
  (lf:∀ e∈ends n,left m (g e)=g (left n e)) (P:Pl n):Pl m:=by
 rcases P with ⟨e,h⟩ | ⟨Ls,d,eu⟩
 ·exact .inl ⟨Cd.mp (by rw[ht,e];rfl),by rw[hl,h]⟩
 ·have nd:((ends n).map g).Nodup:=by
   have:∀(l:List End),(∀ x∈l,x∈ends n)->l.Nodup->(l.map g).Nodup:=by
    intro l
    induction l with
    | nil=>intro _ _;exact Cn
    | cons x l ih=>
     intro hs h;have h:=Bk.mp h;rw[Bn];refine Bk.mpr ⟨λhx=>?_,ih (λy hy=>hs y<|Ak _ hy) h.2⟩;obtain⟨y,hy,e⟩:=Ai.mp hx;have:=inj y (hs y<|Ak _ hy) x (hs x Ag) e;exact h.1<|this ▸ hy
   exact this _ (λx hx=>hx)<|tH n
  have pm:((ends n).map g).Perm (ends m):=by
   refine wv nd (λa ha=>?_) (by rw[Aa,jv,jv,ht];exact Am _);obtain⟨x,hx,rfl⟩:=Ai.mp ha;obtain⟨y,hy⟩:=af.mp hx;exact af.mpr ⟨y,by rwa[dq x hx]⟩
  refine .inr ⟨_,d.carry (f':=step m) (g:=g) (λx hx=>?_) pm<|tH m,by rwa[Aa,hl,ht]⟩;obtain⟨y,hy⟩:=af.mp hx;obtain⟨h1,_,h3⟩:=dk T hy;have ho:other n x∈ends n:=af.mpr ⟨y,h1⟩;have:other m (g x)=g (other n x):=kK T' (by rwa[dq x hx]) (by rwa[dq _ ho]) λh=>h3 (inj _ hx _ ho h).symm;unfold step;rw[this];exact lf _ ho
def pf(i len q:Nat):Nat:=if i<=q then q - i else q+len - i
def eX(N j i len:Nat)(e:End):End:=if e.1 < j then e else if e.1=j then(N - 1,pf i len e.2) else(e.1 - 1,e.2)
variable{j:Nat}
theorem Ts(hj:j < a.length)(r:Nat)(hr:r < a.length):row (a.eraseIdx j++[x]) (if r < j then r else if r=j then a.length - 1 else r - 1)=if r=j then x.2 else row a r:=by
 have le:(a.eraseIdx j).length=a.length - 1:=by rw[Dg,BP hj]
 by_cases h1:r < j
 ·rw[BP h1,BK ⋯,pc<|by rw[le];omega];unfold row;rw[Ge,BP h1]
 ·rw[BK h1]
  by_cases h2:r=j
  ·rw[BP h2,BP h2,<- le,AW]
  ·rw[BK h2,BK h2,pc<|by rw[le];omega];unfold row;rw[Ge,BK ⋯,show r - 1+1=r by omega]
theorem q25{len q:Nat}(hi:i < len)(hq:q < len):(pf i len q+1) % len=pf i len ((q+1) % len):=by
 unfold pf
 by_cases k:q+1 < len
 ·rw[Cf k]
  by_cases h:i<=q
  ·rw[BP h,BP ⋯,Cf<|⋯];omega
  ·rw[BK h]
   by_cases h2:q+1=i
   ·rw[BP ⋯,show q+len - i+1=len by omega,Em];omega
   ·rw[BK ⋯,Cf<|⋯];omega
 ·have e:q+1=len:=⋯
  rw[e,Em,BP<|⋯]
  by_cases h:i=0
  ·rw[BP ⋯,show q - i+1=len by omega,Em];omega
  ·rw[BK ⋯,Cf<|⋯];omega
theorem x07{l:Ñ}{q:Nat}(hi:i < l.length)(hq:q < l.length):(l.drop i++l.take i)[pf i l.length q]?=l[q]?:=by
 unfold pf
 by_cases h:i<=q
 ·rw[BP h,Aq (by rw[Dd];omega),RG,show i+(q - i)=q by omega]
 ·rw[BK h,Ba (by rw[Dd];omega),Dd,Ee ⋯,show q+l.length - i - (l.length - i)=q by omega]
theorem Tv{x:Str}(hj:j < a.length)(hi:i < max 1 (row a j).length):∃ g:End->End,(∀ e∈ends a,aJ (a.eraseIdx j++[(x,(row a j).drop i++(row a j).take i)]) (g e)=aJ a e)/\(∀ b∈ends a,∀ c∈ends a,g b=g c->b=c) /\
  ∀ e∈ends a,left (a.eraseIdx j++[(x,(row a j).drop i++(row a j).take i)]) (g e)=g (left a e):=by
 have fst:∀ e:End,(eX a.length j i (row a j).length e).1=if e.1 < j then e.1 else if e.1=j then a.length - 1 else e.1 - 1:=λe=>by
  unfold eX
  by_cases h:e.1 < j
  ·rw[BP h,BP h]
  ·rw[BK h,BK h]
   by_cases h2:e.1=j
   ·rw[BP h2,BP h2]
   ·rw[BK h2,BK h2]
 have snd:∀ e:End,(eX a.length j i (row a j).length e).2=if e.1=j then pf i (row a j).length e.2 else e.2:=λe=>by
  unfold eX
  by_cases h:e.1 < j
  ·rw[BP h,BK<|⋯]
  ·rw[BK h]
   by_cases h2:e.1=j
   ·rw[BP h2,BP h2]
   ·rw[BK h2,BK h2]
 have Tw:∀ e:End,e.1 < a.length->row (a.eraseIdx j++[(x,(row a j).drop i++(row a j).take i)]) (eX a.length j i (row a j).length e).1=if e.1=j then(row a j).drop i++(row a j).take i else row a e.1:=λe he=>by
  rw[fst,Ts hj e.1 he]
 refine⟨eX a.length j i (row a j).length,λe he=>?_,λb hb c hc h=>?_,λe he=>?_⟩
 ·have r:=fH he;unfold aJ;rw[Tw e r.1,snd]
  by_cases h:e.1=j
  ·rw[BP h,BP h,<- h,x07 (by have:=hi;rw[<- h]at this;omega) r.2]
  ·rw[BK h,BK h]
 ·have rb:=fH hb;have rc:=fH hc;have h1:=BZ Prod.fst h;have h2:=BZ Prod.snd h;rw[fst,fst]at h1;rw[snd,snd]at h2
  by_cases p:b.1=j
  ·by_cases q:c.1=j
   ·rw[BP p,BP q]at h2;refine JC (by rw[p,q]) ?_;have rb:=rb.2;have rc:=rc.2;rw[p]at rb;rw[q]at rc;unfold pf at h2
    by_cases u:i<=b.2
    ·rw[BP u]at h2
     by_cases v:i<=c.2
     ·rw[BP v]at h2;omega
     ·rw[BK v]at h2;omega
    ·rw[BK u]at h2
     by_cases v:i<=c.2
     ·rw[BP v]at h2;omega
     ·rw[BK v]at h2;omega
   ·exfalso
    rw[BK ⋯,BP p]at h1;have:=rc.1
    by_cases u:c.1 < j
    ·rw[BP u]at h1;omega
    ·rw[BK u,BK q]at h1;omega
  ·by_cases q:c.1=j
   ·exfalso
    have:=rb.1;rw[BK (show ¬ c.1 < j by omega),BP q]at h1
    by_cases u:b.1 < j
    ·rw[BP u]at h1;omega
    ·rw[BK u,BK p]at h1;omega
   ·rw[BK p,BK q]at h2;refine JC ?_ h2;rw[BK p,BK q]at h1
    by_cases u:b.1 < j
    ·rw[BP u]at h1
     by_cases v:c.1 < j
     ·rwa[BP v]at h1
     ·rw[BK v]at h1;omega
    ·rw[BK u]at h1
     by_cases v:c.1 < j
     ·rw[BP v]at h1;omega
     ·rw[BK v]at h1;omega
 ·have r:=fH he;have L1:(left a e).1=e.1:=rfl;have L2:(left a e).2=(e.2+1) % (row a e.1).length:=rfl;refine JC ?_ ?_
  ·show(eX a.length j i (row a j).length e).1=(eX a.length j i (row a j).length<|left a e).1;rw[fst,fst,L1]
  ·show((eX a.length j i (row a j).length e).2+1) % (row _ (eX a.length j i (row a j).length e).1).length=(eX a.length j i (row a j).length<|left a e).2;rw[Tw e r.1,snd,snd,L1,L2]
   by_cases h:e.1=j
   ·rw[BP h,BP h,BP h,Ad,Dd,Bh];have r2:=r.2;rw[h]at r2 ⊢;rw[show(row a j).length - i+min i (row a j).length=(row a j).length by omega];exact q25 ⋯ r2
   ·rw[BK h,BK h,BK h]
theorem q9a{x:Str}(hj:j < a.length)(hi:i < max 1 (row a j).length)(T:aw a) (T':aw<|a.eraseIdx j++[(x,(row a j).drop i++(row a j).take i)])
  (ht:(ag<|a.eraseIdx j++[(x,(row a j).drop i++(row a j).take i)]).length=(ag a).length) (P:Pl a):Pl (a.eraseIdx j++[(x,(row a j).drop i++(row a j).take i)]):=by
 obtain⟨g,h1,h2,h3⟩:=Tv hj hi;exact q2i T T' (by rw[Ad,Dg,BP hj,Cz];omega) ht h1 h2 h3 P
def AX(hp:(ag m).Perm<|z :: z :: ag n)(T:aw n)(hz:z∉ag n):aw m:=by
 intro y hy;rw[hp.count_eq,Dq,Dq]
 by_cases e:z=y
 ·subst e;rw[List.count_eq_zero.mpr hz];simp
 ·have hy:=hp.mem_iff.mp hy
  rcases Al.mp hy with h | hy
  ·exact absurd h.symm e
  ·rcases Al.mp hy with h | hy
   ·exact absurd h.symm e
   ·rw[T y hy];have:(z == y)=false:=by simpa using e
    rw[this];rfl
theorem tU{nm:Str}(h:fB [(nm,[])] c):c=(0,0):=by
 obtain⟨h1,h2⟩:=h;have h1:c.1 < 1:=h1;have e:c.1=0:=⋯
 have h2:=h2;rw[e]at h2;have h2:c.2 < 1:=h2;exact JC e<|by show c.2=0;omega
def AY(F:Full n):(∃ nm,n=[(nm,[])])\/row n 0≠[]:=by
 rcases F with h | ⟨h1,h2⟩
 ·exact .inl h
 ·exact .inr<|h2 0<|Du.mpr h1
def q0e(T:aw n)(F:Full n)(hz:z∉ag n)(hc:fB n c) (hp:(ag<|ins n c z++[(pt,[z])]).Perm<|z :: z :: ag n) (P:Pl n):Pl (ins n c z++[(pt,[z])]):=by
 have T':=AX hp T hz
 rcases AY F with ⟨nm,rfl⟩ | h0
 ·have:=tU hc;subst this;exact q01 T'
 ·exact q3w T T' (F.cT h0 hc) P
def q6z(T:aw n)(F:Full n)(hz:z∉ag n)(h1:fB n k1)(h2:fB n k2) (hp:(ag<|ins (ins n k1 z) k2 z).Perm<|z :: z :: ag n) (ord:k2=k1\/sh k1 k2=k2) (same:(∃ k,it (step n) k k1=k2)\/∃ k,it (step n) k k2=k1) (P:Pl n):Pl (ins (ins n k1 z) k2 z):=by
 have T':=AX hp T hz
 rcases AY F with ⟨nm,rfl⟩ | h0
 ·have:=tU h1;subst this;have:=tU h2;subst this;exact q43 T'
 ·exact x0g T T' (F.cT h0 h1) (F.cT h0 h2) ord same P
theorem q1n{a b:End}(h:bD.lexLt ((a.1:Int),(a.2:Int)) ((b.1:Int),(b.2:Int))=true):sh b a=a:=by
 unfold bD.lexLt at h;unfold sh;refine BK λq=>?_;rw[BP<|by rw[q.1]]at h;have:=BX h;omega
theorem q2a{a b:End}(h:bD.lexLt ((a.1:Int),(a.2:Int)) ((b.1:Int),(b.2:Int))=false):b=a\/sh a b=b:=by
 unfold bD.lexLt at h
 by_cases e:(a.1:Int)=(b.1:Int)
 ·rw[BP e]at h;have h:=GJ h
  by_cases e2:a.2=b.2
  ·exact .inl<|JC ⋯ e2.symm
  ·refine .inr<|BK λq=>?_;omega
 ·exact .inr<|BK λq=>e<|by rw[q.1]
def Tx(a b:Net):ag (a++b)=ag a++ag b:=by
 unfold ag;rw[Dj]
theorem q7d{n2 n0:Net}{x:Str}(hj:j < n.length)(hi:i < max 1 (row n j).length)(T0:aw n0)(pt:(ag n++ag n2).Perm<|ag n0)
  (gU:(ag (n.eraseIdx j)++ag (n2++[(x,(row n j).drop i++(row n j).take i)])).Perm<|ag n0) (P:Pl<|n++n2):Pl (n.eraseIdx j++(n2++[(x,(row n j).drop i++(row n j).take i)])):=by
 have tw:∀ m:Net,(ag m).Perm (ag n0)->aw m:=λm p y hy=>by rw[p.count_eq];exact T0 y<|p.mem_iff.mp hy
 rw[<- Tx]at pt gU;have er:row (n++n2) j=row n j:=pc hj;have ee:n.eraseIdx j++(n2++[(x,(row n j).drop i++(row n j).take i)])=(n++n2).eraseIdx j++[(x,(row (n++n2) j).drop i++(row (n++n2) j).take i)]:=by
  rw[NQ hj,Au,er]
 rw[ee]at gU ⊢;exact q9a (by rw[Ad];omega) (by rwa[er]) (tw _ pt) (tw _ gU) (by rw[gU.length_eq,pt.length_eq]) P
end Nt
namespace Nt
variable{e c:End}{n:Net}
def q57{fs:List End}(f:fY n e fs)(h:c∈fs):∃ k,it (step n) k e=c:=by
 obtain⟨i,hi,e1⟩:=Co.mp h;have:=f.at' i hi;rw[Ab hi,e1]at this;exact⟨i,(Option.some.inj this).symm⟩
open PySem
def aC:List Bool->Bool
 | []=>false
 | b :: l=>b ^^ aC l
theorem ni:∀a b,aC (a++b)=(aC a ^^ aC b)
 | [],b=>by simp[aC]
 | x :: a,b=>by
  show(x ^^ aC (a++b))=((x ^^ aC a) ^^ aC b);rw[ni a b,Bool.xor_assoc]
theorem Jv{a b:List Bool}(h:a.Perm b):aC a=aC b:=by
 induction h with
 | nil=>rfl
 | cons x _ ih=>show(x ^^ _)=(x ^^ _);rw[ih]
 | swap x y l=>show(y ^^ (x ^^ aC l))=(x ^^ (y ^^ aC l));cases x <;> cases y <;> simp
 | trans _ _ h1 h2=>exact h1.trans h2
theorem kL{α:Type}(f g:α->Bool):∀ l:List α,aC (l.map λx=>f x ^^ g x)=(aC (l.map f) ^^ aC (l.map g))
 | []=>rfl
 | x :: l=>by
  show((f x ^^ g x) ^^ aC (l.map λx=>f x ^^ g x))=((f x ^^ aC (l.map f)) ^^ (g x ^^ aC (l.map g)));rw[kL f g l];cases f x <;> cases g x <;> cases aC (l.map f) <;> cases aC (l.map g) <;> rfl
def fm(n:Net)(s:Str->Bool):Prop:=∀ r,aC ((row n r).map s)=false
structure a9(n:Net)(s:Str->Bool)(χ:End->Bool):Prop where
 go:∀ e∈ends n,χ (step n e)=χ e
 dq:∀ e z,aJ n e=some z->s z=(χ e ^^ χ (other n e))
def RS(n:Net):Prop:=∀ s:Str->Bool,fm n s->∃ χ,a9 n s χ
theorem Tz(n:Net)(r:Nat)(s:Str->Bool)(g:End->Bool)(h:∀ p z,(row n r)[p]?=some z->s z=g (r,p)):(row n r).map s=(List.range (row n r).length).map λp=>g (r,p):=by
 apply Dv;intro p;rw[Ah,Ah]
 by_cases hp:p < (row n r).length
 ·rw[Ab hp,Ek hp];exact BZ some<|h p _<|Ab hp
 ·rw[Bd ⋯,Bd<|by simp;omega];rfl
theorem Jw(f:Nat->Bool)(m:Nat):aC ((List.range m).map λp=>f<|(p+1) % m)=aC ((List.range m).map f):=by
 cases m with
 | zero=>rfl
 | succ k=>
  have e:(List.range<|k+1).map (λp=>f<|(p+1) % (k+1))=((List.range k).map λp=>f<|p+1)++[f 0]:=by
   rw[Dc,Aj]
   congr 1
   ·refine Bo λp hp=>?_;have:=Bc.mp hp;show f ((p+1) % (k+1))=f (p+1);rw[Cf<|⋯]
   ·simp
  rw[e,List.range_succ_eq_map,Bn,Cg,ni];show _=(f 0 ^^ aC ((List.range k).map<|f ∘ Nat.succ));show(aC ((List.range k).map λp=>f<|p+1) ^^ (f 0 ^^ false))=(f 0 ^^ aC ((List.range k).map λp=>f<|p+1));cases f 0 <;> cases aC ((List.range k).map λp=>f<|p+1) <;> rfl
variable{χ:End->Bool}{s:Str->Bool}
def a9.even(T:aw n)(h:a9 n s χ):fm n s:=by
 intro r;rw[Tz n r s (λe=>χ e ^^ χ (other n e)) λp z hz=>h.dq (r,p) z hz];rw[kL (λp=>χ (r,p)) λp=>χ<|other n (r,p)];have e:((List.range (row n r).length).map λp=>χ<|other n (r,p))=(List.range (row n r).length).map λp=>χ (r,(p+1) % (row n r).length):=by
  refine Bo λp hp=>?_;have hp:=Bc.mp hp;obtain⟨z,hz⟩:=zJ (e:=(r,p)) hp;obtain⟨h1,h2,_⟩:=dk T hz;have:=h.go (other n (r,p))<|af.mpr ⟨z,h1⟩;rw[<- this];show χ (left n (other n<|other n (r,p)))=_;rw[h2];rfl
 rw[e,Jw λp=>χ (r,p)];cases aC ((List.range (row n r).length).map λp=>χ (r,p)) <;> rfl
variable{ψ:End->Bool}
def a9.xor{t:Str->Bool}(h:a9 n s χ)(g:a9 n t ψ):a9 n (λz=>s z ^^ t z) (λe=>χ e ^^ ψ e):=by
 refine⟨λe he=>?_,λe z hz=>?_⟩
 ·rw[h.go e he,g.go e he]
 ·show(s z ^^ t z)=((χ e ^^ ψ e) ^^ (χ (other n e) ^^ ψ (other n e)));rw[h.dq e z hz,g.dq e z hz];cases χ e <;> cases ψ e <;> cases χ (other n e) <;> cases ψ (other n e) <;> rfl
def fm.xor{t:Str->Bool}(h:fm n s)(g:fm n t):fm n (λz=>s z ^^ t z):=λr=>by
 rw[kL s t,h r,g r];rfl
variable{z:Str}{k1 k2:End}
section
variable{m:Net}{g:End->End}{e1 e2:End}
def fk.mark(p:fk n m g e1 e2 z)(χ:End->Bool)(a:Bool):∃ χ':End->Bool,(∀ e∈ends n,χ' (g e)=χ e)/\χ' e1=a/\χ' e2=a:=by
 refine⟨λx=>if x=e1 then a else if x=e2 then a else match (ends n).find? (λe=>decide (g e=x))with | some e=>χ e | none=>false,λe he=>?_,?_,?_⟩
 ·show(if g e=e1 then a else if g e=e2 then a else match (ends n).find? (λe'=>decide (g e'=g e))with | some e=>χ e | none=>false)=χ e;rw[BK<|p.n1 e he,BK<|p.n2 e he];cases hf:(ends n).find? (λe'=>decide (g e'=g e)) with
  | none=>exact absurd (BW (rfl:g e=g e))<|by simpa using Fy.mp hf e he
  | some e'=>
   have h5:=Gu hf;have h5:=BX h5;rw[p.inj _ _ h5]
 ·simp
 ·simp
def fk.kN(p:fk n m g e1 e2 z)(T:aw n)(T':aw m)(h:a9 n s χ)(hz:s z=false){a:Bool}
  (st:∀ x∈ends n,step m (g x)=g (step n x)\/((step m (g x)=e1\/step m (g x)=e2)/\χ (step n x)=a))
  (s1:step m e1=e1\/step m e1=e2\/∃ k∈ends n,step m e1=g k/\χ k=a) (s2:step m e2=e1\/step m e2=e2\/∃ k∈ends n,step m e2=g k/\χ k=a):∃ χ',a9 m s χ':=by
 obtain⟨χ',h1,h2,h3⟩:=p.mark χ a;have kP:∀ x∈ends m,(∃ e∈ends n,x=g e)\/x=e1\/x=e2:=λx hx=>by
  have:=p.perm.mem_iff.mpr hx
  rcases An.mp this with q | q
  ·obtain⟨e,he,rfl⟩:=Ai.mp q;exact .inl ⟨e,he,rfl⟩
  ·simp only[Al,Ch,FW]at q;exact .inr q
 refine⟨χ',λx hx=>?_,λx y hy=>?_⟩
 ·rcases kP x hx with ⟨e,he,rfl⟩ | rfl | rfl
  ·rw[h1 e he]
   rcases st e he with q | ⟨q,qa⟩
   ·rw[q,h1 _<|tI T he,h.go e he]
   ·rw[h.go e he]at qa
    rcases q with q | q
    ·rw[q,h2,qa]
    ·rw[q,h3,qa]
  ·rcases s1 with q | q | ⟨k,hk,q,qa⟩
   ·rw[q]
   ·rw[q,h2,h3]
   ·rw[q,h1 k hk,h2,qa]
  ·rcases s2 with q | q | ⟨k,hk,q,qa⟩
   ·rw[q,h2,h3]
   ·rw[q]
   ·rw[q,h1 k hk,h3,qa]
 ·rcases kP x (af.mpr ⟨y,hy⟩)with ⟨e,he,rfl⟩ | rfl | rfl
  ·rw[p.dq e he]at hy;obtain⟨o1,_,_⟩:=dk T hy;rw[p.iC T T' he,h1 e he,h1 _<|af.mpr ⟨y,o1⟩];exact h.dq e y hy
  ·rw[p.t1]at hy;cases hy;rw[p.o1 T',h2,h3,hz];cases a <;> rfl
  ·rw[p.t2]at hy;cases hy;rw[p.o2 T',h2,h3,hz];cases a <;> rfl
def TB(T':aw m)(hψ:∀ e∈ends m,ψ (step m e)=ψ e)(t1:aJ m e1=some z)(ho:other m e1=e2)(ne:ψ e1≠ψ e2)(h0:∀ s,fm m s->s z=false->∃ χ,a9 m s χ):RS m:=by
 intro s hs
 by_cases hz:s z=false
 ·exact h0 s hs hz
 ·have hz:s z=true:=by cases h:s z with | true=>rfl | false=>exact absurd h hz
  let t:Str->Bool:=λy=>match (ends m).find? (λe=>decide (aJ m e=some y))with | some e=>ψ e ^^ ψ (other m e) | none=>false
  have ht:a9 m t ψ:=by
   refine⟨hψ,λe y hy=>?_⟩;show(match (ends m).find? (λe=>decide (aJ m e=some y))with | some e=>ψ e ^^ ψ (other m e) | none=>false)=_;cases hf:(ends m).find? (λe=>decide (aJ m e=some y)) with
   | none=>exact absurd (BW hy)<|by simpa using Fy.mp hf e (af.mpr ⟨y,hy⟩)
   | some e'=>
    have h5:=Gu hf;have h':=BX h5
    by_cases q:e'=e
    ·rw[q]
    ·have o1:=kK T' h' hy q;have o2:=kK T' hy h'<|CG q;show(ψ e' ^^ ψ (other m e'))=_;rw[o1,o2];cases ψ e <;> cases ψ e' <;> rfl
  have tz:t z=true:=by
   rw[ht.dq e1 z t1,ho];cases h1:ψ e1 <;> cases h2:ψ e2 <;> simp_all
  obtain⟨χ,hχ⟩:=h0 (λy=>s y ^^ t y) (hs.xor<|ht.even T') (by show(s z ^^ t z)=false;rw[hz,tz];rfl);have:=hχ.xor ht;refine⟨λe=>χ e ^^ ψ e,this.go,λe y hy=>?_⟩;rw[<- this.dq e y hy];show s y=((s y ^^ t y) ^^ t y);cases s y <;> cases t y <;> rfl
def Jx(hc:c.1 < n.length)(hz:s z=false)(r:Nat):aC ((row (ins n c z) r).map s)=aC ((row n r).map s):=by
 rw[tK n c z r hc]
 by_cases h:c.1=r
 ·rw[BP h,Aj,Bn,ni];show(aC (((row n r).take c.2).map s) ^^ (s z ^^ aC (((row n r).drop c.2).map s)))=_;rw[hz,Gf,<- ni,<- Aj,Db]
 ·rw[BK h]
def Dec.mark{α:Type} [DecidableEq α] {f:α->α} {D:List α} {Ls:List (List α)} (d:Dec f D Ls) {l:List α} (hl:l∈Ls):∀ x∈D,(f x∈l↔x∈l):=by
 intro x hx;obtain⟨A,B,rfl⟩:=Fz hl;have d':Dec f D (l :: (A++B)):=⟨λk hk=>d.kJ k (by
  rcases Al.mp hk with rfl | hk
  ·exact hl
  ·rcases An.mp hk with q | q
   ·exact Az _ q
   ·exact Av _<|Ak _ q),by
  refine List.Perm.trans ?_ d.all;rw[Dl,Fv,Fv,Dl,<- Au,<- Au];exact(Ci).append_right _,d.nd⟩
 have cl:∀ k∈l :: (A++B),∀ x∈k,f x∈k:=λk hk x hx=>by
  obtain⟨c,hc,p⟩:=d'.kJ k hk;exact Jr p hc hx
 by_cases h:x∈l
 ·exact⟨λ_=>h,λ_=>cl l Ag x h⟩
 ·refine⟨λq=>?_,λq=>absurd q h⟩
  exfalso
  obtain⟨k,hk,TC⟩:=Fu.mp<|d'.all.mem_iff.mpr hx
  rcases Al.mp hk with rfl | qj
  ·exact h TC
  ·exact d'.apart.2 k qj _ q<|cl k hk x TC
theorem Jy{s:Str->Bool}{χ:End->Bool}(T:aw n)(h:a9 n s χ){a:End}(ha:a∈ends n):∀ k,χ (it (step n) k a)=χ a
 | 0=>rfl
 | k+1=>by
  show χ (step n<|it (step n) k a)=_;rw[h.go _<|kz (λx hx=>tI T hx) ha k,Jy T h ha k]
def q1c(p:fk n m g e1 e2 z)(T:aw n)(T':aw m)(h1:k1∈ends n)(h2:k2∈ends n)(ne:k2≠k1)(same:(∃ k,it (step n) k k1=k2)\/∃ k,it (step n) k k2=k1)
  (l1:left m e1=g k1) (l2:left m e2=g k2) (lf:∀ e∈ends n,left m (g e)=if left n e=k1 then e1 else if left n e=k2 then e2 else g (left n e))
  {Ls:List (List End)} (d:Dec (step n) (ends n) Ls) (ev:∀ s,fm m s->s z=false->fm n s) (R:RS n):RS m:=by
 have st:∀ x∈ends n,step m (g x)=if step n x=k1 then e1 else if step n x=k2 then e2 else g (step n x):=λx hx=>by
  unfold step;rw[p.iC T T' hx];exact lf _<|dD T hx
 have s1:step m e1=g k2:=by unfold step;rwa[p.o1 T']
 have s2:step m e2=g k1:=by unfold step;rwa[p.o2 T']
 obtain⟨l,Ms,hL,d⟩:=d.pick h1;have hk:=d.one h2 same ne;obtain⟨Tj,hL',d',w,hw,w2,w1⟩:=d.split hk s1 s2
  (λx hx e=>by rw[st x hx,BP e]) (λx hx e=>by rw[st x hx,BK (by rw[e];exact ne),BP e]) (λx hx a b=>by rw[st x hx,BK a,BK b]) p.nd
 have dm:=d'.perm p.perm;refine TB T' (ψ:=λx=>decide (x∈w)) (λx hx=>decide_eq_decide.mpr<|dm.mark hw x hx) p.t1 (p.o1 T') (by show decide (e1∈w)≠decide (e2∈w);rw[BR w1,BW w2];decide) λs hs hz=>?_;obtain⟨χ,hχ⟩:=R s<|ev s hs hz;have ek:χ k2=χ k1:=by
  rcases same with ⟨k,e⟩ | ⟨k,e⟩
  ·rw[<- e];exact Jy T hχ h1 k
  ·rw[<- e];exact(Jy T hχ h2 k).symm
 refine p.kN T T' hχ hz (λx hx=>?_) (.inr<|.inr ⟨k2,h2,s1,ek⟩)<|.inr<|.inr ⟨k1,h1,s2,rfl⟩;rw[st x hx]
 by_cases c1:step n x=k1
 ·rw[BP c1];exact .inr ⟨.inl rfl,by rw[c1]⟩
 ·rw[BK c1]
  by_cases c2:step n x=k2
  ·rw[BP c2];exact .inr ⟨.inr rfl,by rw[c2,ek]⟩
  ·rw[BK c2];exact .inl rfl
def q6c(p:fk n m g e1 e2 z)(T:aw n)(T':aw m)(h1:c∈ends n)(l1:left m e1=g c)(l2:left m e2=e1)(lf:∀ e∈ends n,left m (g e)=if left n e=c then e2 else g (left n e))
  (ev:∀ s,fm m s->s z=false->fm n s) (R:RS n):RS m:=by
 have st:∀ x∈ends n,step m (g x)=if step n x=c then e2 else g (step n x):=λx hx=>by
  unfold step;rw[p.iC T T' hx];exact lf _<|dD T hx
 have s1:step m e1=e1:=by unfold step;rwa[p.o1 T']
 have s2:step m e2=g c:=by unfold step;rwa[p.o2 T']
 have qW:=af.mpr ⟨z,p.t1⟩;refine TB T' (ψ:=λx=>decide (x=e1)) (λx hx=>?_) p.t1 (p.o1 T') (by show decide (e1=e1)≠decide (e2=e1);rw[BW rfl,BR p.ne.symm];decide) λs hs hz=>?_
 ·by_cases q:x=e1
  ·rw[q,s1]
  ·show decide (step m x=e1)=decide (x=e1);rw[BR q];exact BR λe=>q<|R3 T' hx qW<|by rw[e,s1]
 obtain⟨χ,hχ⟩:=R s<|ev s hs hz;refine p.kN T T' hχ hz (λx hx=>?_) (.inl s1)<|.inr<|.inr ⟨c,h1,s2,rfl⟩;rw[st x hx]
 by_cases c1:step n x=c
 ·rw[BP c1];exact .inr ⟨.inr rfl,by rw[c1]⟩
 ·rw[BK c1];exact .inl rfl
def q22(p:fk n m g e1 e2 z)(T:aw n)(T':aw m)(h1:c∈ends n)(l1:left m e1=g c)(l2:left m e2=e2)(lf:∀ e∈ends n,left m (g e)=if left n e=c then e1 else g (left n e))
  (hz:∀ s,fm m s->s z=false) (ev:∀ s,fm m s->s z=false->fm n s) (R:RS n):RS m:=by
 have st:∀ x∈ends n,step m (g x)=if step n x=c then e1 else g (step n x):=λx hx=>by
  unfold step;rw[p.iC T T' hx];exact lf _<|dD T hx
 have s1:step m e1=e2:=by unfold step;rwa[p.o1 T']
 have s2:step m e2=g c:=by unfold step;rwa[p.o2 T']
 intro s hs;have hz:=hz s hs;obtain⟨χ,hχ⟩:=R s<|ev s hs hz;refine p.kN T T' hχ hz (λx hx=>?_) (.inr<|.inl s1)<|.inr<|.inr ⟨c,h1,s2,rfl⟩;rw[st x hx]
 by_cases c1:step n x=c
 ·rw[BP c1];exact .inr ⟨.inl rfl,by rw[c1]⟩
 ·rw[BK c1];exact .inl rfl
end
variable{pt:Str}
theorem x0k(T:aw n)(T':aw<|ins (ins n k1 z) k2 z)(h1:k1∈ends n)(h2:k2∈ends n)(ord:k2=k1\/sh k1 k2=k2)(same:(∃ k,it (step n) k k1=k2)\/∃ k,it (step n) k k2=k1)(P:Pl n)(R:RS n):RS (ins (ins n k1 z) k2 z):=by
 have r1:=fH h1;have r2:=fH h2;have p:=Tl (z:=z) ⟨r1.1,Bz r1.2⟩ ⟨r2.1,Bz r2.2⟩;have c2:k2.1 < (ins n k1 z).length:=by rw[ib];exact r2.1
 have rl:∀ i,(row n i).length<=(row (ins n k1 z) i).length:=λi=>by
  rw[tS r1.1<|Bz r1.2]
  split <;> omega
 have p2:=Bf r2.2<|rl _;have p1:=Bf r1.2<|rl _;have sl:∀ e∈ends n,(sh k1 e).2 < (row (ins n k1 z) (sh k1 e).1).length:=λe he=>by
  obtain⟨y,hy⟩:=af.mp he;exact iE<|by rwa[tT r1.1<|Bz r1.2]
 have l0:left (ins n k1 z) k1=sh k1 k1:=o9 r1.1 r1.2;have ev:∀ s,fm (ins (ins n k1 z) k2 z) s->s z=false->fm n s:=λs hs hz r=>by
  rw[<- Jx r1.1 hz r,<- Jx c2 hz r];exact hs r
 by_cases e:k2=k1
 ·subst e;refine q6c p T T' h1 ?_ (o9 c2 p2) (λe he=>?_) ev R
  ·rw[jc c2 p2 p1,l0,BK<|o8 _ _]
  ·show left _ (sh k2<|sh k2 e)=_;rw[jc c2 p2<|sl e he,jc r1.1 r1.2 (fH he).2]
   by_cases q:left n e=k2
   ·rw[BP q,BP rfl,BP q]
   ·rw[BK q,BK<|o8 _ _,BK q]
 ·have hs:sh k1 k2=k2:=ord.resolve_left e
  rcases P with ⟨t0,_⟩ | ⟨Ls,d,_⟩
  ·obtain⟨y,hy⟩:=af.mp h1;have:=eG hy;rw[t0]at this;cases this
  refine q1c p T T' h1 h2 e same ?_ ?_ (λe' he=>?_) d ev R
  ·rw[jc c2 p2 p1,l0,BK λq=>e<|o7 (c:=k1)<|by rw[hs,q]]
  ·show left _ k2=sh k2 (sh k1 k2);rw[hs];exact o9 c2 p2
  ·show left _ (sh k2<|sh k1 e')=if left n e'=k1 then sh k2 k1 else if left n e'=k2 then k2 else sh k2 (sh k1<|left n e');rw[jc c2 p2<|sl e' he,jc r1.1 r1.2 (fH he).2]
   by_cases q:left n e'=k1
   ·rw[BP q,BP q,BK λx=>e x.symm]
   ·rw[BK q,BK q]
    by_cases q2:left n e'=k2
    ·rw[BP q2,q2,hs,BP rfl]
    ·rw[BK q2,BK λx=>q2<|o7 (c:=k1)<|by rw[x,hs]]
theorem k6z(T:aw n)(T':aw<|ins n c z++[(pt,[z])])(h1:c∈ends n)(R:RS n):RS (ins n c z++[(pt,[z])]):=by
 have r1:=fH h1;have p:=To (z:=z) (pt:=pt) ⟨r1.1,Bz r1.2⟩;have la:∀ e:End,e.1 < n.length->left (ins n c z++[(pt,[z])]) e=left (ins n c z) e:=λe he=>by
  unfold left;rw[pc<|by rwa[ib]]
 have kQ:=AW (a:=ins n c z) (x:=(pt,[z]));rw[ib]at kQ;refine q22 p T T' h1 ?_ ?_ (λe he=>?_) (λs hs=>?_) (λs hs hz r=>?_) R
 ·rw[la _ r1.1];exact o9 r1.1 r1.2
 ·unfold left;show(n.length,(0+1) % (row _ n.length).length)=_;rw[kQ];exact BZ (Prod.mk _)<|Em 1
 ·rw[la _<|by rw[nh];exact(fH he).1];exact jc r1.1 r1.2 (fH he).2
 ·have:=hs n.length;rw[kQ]at this;have:(s z ^^ false)=false:=this
  simpa using this
 ·by_cases h:r < n.length
  ·have:=hs r;rwa[pc (by rwa[ib]),Jx r1.1 hz r]at this
  ·have:row n r=[]:=by
    unfold row;rw[Bd<|⋯];rfl
   rw[this];rfl
def x0m{nm:Str}:RS [(nm,[])]:=λs _=>⟨λ_=>false,λe he=>rfl,λe y hy=>by
 have:=eG hy;cases this⟩
def k6v{nm:Str}(T':aw [(nm,[z]),(pt,[z])]):RS [(nm,[z]),(pt,[z])]:=λs hs=>⟨λ_=>false,λe he=>rfl,λe y hy=>by
 have h:=eG hy;have:y=z:=by simpa[ag]using h
 rw[this];have:=hs 0;have:(s z ^^ false)=false:=this
 simpa using this⟩
def q6m{nm:Str}(T':aw [(nm,[z,z])]):RS [(nm,[z,z])]:=λs _=>by
 have t1:aJ [(nm,[z,z])] (0,0)=some z:=rfl;have t2:aJ [(nm,[z,z])] (0,1)=some z:=rfl;have o1:=kK T' t1 t2 ∅;have o2:=kK T' t2 t1 ∅;have hE:ends [(nm,[z,z])]=[(0,0),(0,1)]:=rfl;refine⟨λe=>decide (e=(0,0)) && s z,λe he=>?_,λe y hy=>?_⟩
 ·rw[hE]at he;simp only[Al,Ch,FW]at he
  rcases he with rfl | rfl
  ·show(decide (left [(nm,[z,z])] (other [(nm,[z,z])] (0,0))=(0,0)) && s z)=_;rw[o1];simp[left,row]
  ·show(decide (left [(nm,[z,z])] (other [(nm,[z,z])] (0,1))=(0,0)) && s z)=_;rw[o2];simp[left,row]
 ·have h:=eG hy;have e1:y=z:=by simpa[ag]using h
  have he:=af.mpr ⟨y,hy⟩;rw[hE]at he;simp only[Al,Ch,FW]at he;rw[e1]
  rcases he with rfl | rfl
  ·rw[o1];simp
  ·rw[o2];simp
def Fl(n:Net):Prop:=Pl n/\RS n
def q95{nm:Str}:Fl [(nm,[])]:=⟨.inl ⟨rfl,rfl⟩,x0m⟩
def k8r(T:aw n)(F:Full n)(hz:z∉ag n)(hc:fB n c) (hp:(ag<|ins n c z++[(pt,[z])]).Perm<|z :: z :: ag n) (P:Fl n):Fl (ins n c z++[(pt,[z])]):=by
 refine⟨q0e T F hz hc hp P.1,?_⟩;have T':=AX hp T hz
 rcases AY F with ⟨nm,rfl⟩ | h0
 ·have:=tU hc;subst this;exact k6v T'
 ·exact k6z T T' (F.cT h0 hc) P.2
def q6v(T:aw n)(F:Full n)(hz:z∉ag n)(h1:fB n k1)(h2:fB n k2) (hp:(ag<|ins (ins n k1 z) k2 z).Perm<|z :: z :: ag n) (ord:k2=k1\/sh k1 k2=k2) (same:(∃ k,it (step n) k k1=k2)\/∃ k,it (step n) k k2=k1) (P:Fl n):Fl (ins (ins n k1 z) k2 z):=by
 refine⟨q6z T F hz h1 h2 hp ord same P.1,?_⟩;have T':=AX hp T hz
 rcases AY F with ⟨nm,rfl⟩ | h0
 ·have:=tU h1;subst this;have:=tU h2;subst this;exact q6m T'
 ·exact x0k T T' (F.cT h0 h1) (F.cT h0 h2) ord same P.1 P.2
def q2t{m:Net}{g:End->End}(T:aw n)(T':aw m)(ht:(ag m).length=(ag n).length)(dq:∀ e∈ends n,aJ m (g e)=aJ n e)(inj:∀ a∈ends n,∀ b∈ends n,g a=g b->a=b)
  (lf:∀ e∈ends n,left m (g e)=g (left n e)) (ev:∀ s,fm m s->fm n s) (R:RS n):RS m:=by
 have wz:∀ x∈ends m,∃ e∈ends n,x=g e:=by
  have nd:((ends n).map g).Nodup:=by
   have:∀(l:List End),(∀ x∈l,x∈ends n)->l.Nodup->(l.map g).Nodup:=by
    intro l
    induction l with
    | nil=>intro _ _;exact Cn
    | cons x l ih=>
     intro hs h;have h:=Bk.mp h;rw[Bn];refine Bk.mpr ⟨λhx=>?_,ih (λy hy=>hs y<|Ak _ hy) h.2⟩;obtain⟨y,hy,e⟩:=Ai.mp hx;have:=inj y (hs y<|Ak _ hy) x (hs x Ag) e;exact h.1<|this ▸ hy
   exact this _ (λx hx=>hx)<|tH n
  have pm:((ends n).map g).Perm (ends m):=by
   refine wv nd (λa ha=>?_) (by rw[Aa,jv,jv,ht];exact Am _);obtain⟨x,hx,rfl⟩:=Ai.mp ha;obtain⟨y,hy⟩:=af.mp hx;exact af.mpr ⟨y,by rwa[dq x hx]⟩
  intro x hx;obtain⟨e,he,q⟩:=Ai.mp<|pm.mem_iff.mpr hx;exact⟨e,he,q.symm⟩
 intro s hs;obtain⟨χ,hχ⟩:=R s<|ev s hs
 let χ':End->Bool:=λx=>match (ends n).find? (λe=>decide (g e=x))with | some e=>χ e | none=>false
 have h1:∀ e∈ends n,χ' (g e)=χ e:=λe he=>by
  show(match (ends n).find? (λe'=>decide (g e'=g e))with | some e=>χ e | none=>false)=χ e;cases hf:(ends n).find? (λe'=>decide (g e'=g e)) with
  | none=>exact absurd (BW (rfl:g e=g e))<|by simpa using Fy.mp hf e he
  | some e'=>
   have h5:=Gu hf;have h5:g e'=g e:=BX h5;rw[inj _ (List.mem_of_find?_eq_some hf) _ he h5]
 have iC:∀ e∈ends n,other m (g e)=g (other n e):=λe he=>by
  obtain⟨y,hy⟩:=af.mp he;obtain⟨h1,_,h3⟩:=dk T hy;have ho:other n e∈ends n:=af.mpr ⟨y,h1⟩;exact kK T' (by rwa[dq e he]) (by rwa[dq _ ho]) λh=>h3 (inj _ he _ ho h).symm
 refine⟨χ',λx hx=>?_,λx y hy=>?_⟩
 ·obtain⟨e,he,rfl⟩:=wz x hx;have:step m (g e)=g (step n e):=by
   unfold step;rw[iC e he];exact lf _<|dD T he
  rw[this,h1 _<|tI T he,h1 e he,hχ.go e he]
 ·obtain⟨e,he,rfl⟩:=wz x<|af.mpr ⟨y,hy⟩;rw[dq e he]at hy;rw[iC e he,h1 e he,h1 _<|dD T he];exact hχ.dq e y hy
variable{x:Str}{i:Nat}
theorem x02{a:Net}{j:Nat}(hj:j < a.length)(hi:i < max 1 (row a j).length)(T:aw a) (T':aw<|a.eraseIdx j++[(x,(row a j).drop i++(row a j).take i)])
  (ht:(ag<|a.eraseIdx j++[(x,(row a j).drop i++(row a j).take i)]).length=(ag a).length) (R:RS a):RS (a.eraseIdx j++[(x,(row a j).drop i++(row a j).take i)]):=by
 obtain⟨g,h1,h2,h3⟩:=Tv hj hi;refine q2t T T' ht h1 h2 h3 (λs hs r=>?_) R
 by_cases hr:r < a.length
 ·have:=hs (if r < j then r else if r=j then a.length - 1 else r - 1);rw[Ts hj r hr]at this
  by_cases e:r=j
  ·rw[BP e]at this;rw[<- this,e];refine Jv<|List.Perm.map s ?_;show(row a j).Perm ((row a j).drop i++(row a j).take i);refine List.Perm.trans ?_ Ci;rw[Db]
  ·rwa[BK e]at this
 ·have:row a r=[]:=by
   unfold row;rw[Bd<|⋯];rfl
  rw[this];rfl
theorem q6r{n2 n0:Net}{j:Nat}(hj:j < n.length)(hi:i < max 1 (row n j).length)(T0:aw n0)(pt:(ag n++ag n2).Perm<|ag n0)
  (gU:(ag (n.eraseIdx j)++ag (n2++[(x,(row n j).drop i++(row n j).take i)])).Perm<|ag n0) (P:Fl<|n++n2):Fl (n.eraseIdx j++(n2++[(x,(row n j).drop i++(row n j).take i)])):=by
 refine⟨q7d hj hi T0 pt gU P.1,?_⟩;have tw:∀ m:Net,(ag m).Perm (ag n0)->aw m:=λm p y hy=>by rw[p.count_eq];exact T0 y<|p.mem_iff.mp hy
 rw[<- Tx]at pt gU;have er:row (n++n2) j=row n j:=pc hj;have ee:n.eraseIdx j++(n2++[(x,(row n j).drop i++(row n j).take i)])=(n++n2).eraseIdx j++[(x,(row (n++n2) j).drop i++(row (n++n2) j).take i)]:=by
  rw[NQ hj,Au,er]
 rw[ee]at gU ⊢;exact x02 (by rw[Ad];omega) (by rwa[er]) (tw _ pt) (tw _ gU) (by rw[gU.length_eq,pt.length_eq]) P.2
open L2
def aH(n:Net)(r:Nat):Str:=((n[r]?).map (·.1)).getD ⟨#[]⟩
def gW{r:Nat}(h:r < n.length):aH n r=n[r].1:=by unfold aH;rw[Ab h];rfl
abbrev Lk:=Str×Str×Str
def ph(n:Net)(x:Lk):Prop:=∃ a b,pos n x.1=[a,b]/\x.2.1=aH n a.1/\x.2.2=aH n b.1
structure jd(n:Net)(done:List<|Str×End)(kM:List<|Key×V)(ls:List Lk):Prop where
 m0:∀ z,b8 done z=[]->ao kM (Sum.inr z)=none
 m1:∀ z a rest,b8 done z=a :: rest->ao kM (Sum.inr z)=some (.str<|aH n a.1)
 mem:∀ x:Lk,x∈ls↔∃ a b rest,b8 done x.1=a :: b :: rest/\x.2.1=aH n a.1/\x.2.2=aH n b.1
 de:(ls.map (·.1)).Nodup
 eY:kM.length<=done.length
 nj:ls.length<=done.length
def jd.start(n:Net):jd n [] [] []:=⟨λ_ _=>rfl,λz a rest h=>(by cases h),λx=>⟨λh=>(by cases h),λ⟨a,b,rest,h,_⟩=>(by cases h)⟩,Cn,Am _,Am _⟩
variable{kM:List (Key×V)}{done:List (Str×End)}
theorem jd.new{ls:List Lk}(I:jd n done kM ls)(h0:b8 done z=[]):jd n (done++[(z,e)]) (putK kM (Sum.inr z)<|.str<|aH n e.1) ls:=by
 refine⟨λy hy=>?_,λy a rest hy=>?_,λx=>?_,I.de,?_,?_⟩
 ·rw[dI]at hy;obtain⟨h1,h2⟩:=Fh.mp hy;have bA:¬ z=y:=λq=>by rw[BP q]at h2;cases h2
  rw[dC,BK λq=>bA (Sum.inr.inj q).symm];exact I.m0 y h1
 ·rw[dI]at hy
  by_cases q:z=y
  ·subst q;rw[h0,BP rfl]at hy;cases hy;rw[dC,BP rfl]
  ·rw[BK q,Be]at hy;rw[dC,BK λp=>q (Sum.inr.inj p).symm];exact I.m1 y a rest hy
 ·rw[I.mem x]
  by_cases q:z=x.1
  ·constructor
   ·rintro ⟨a,b,rest,h,_⟩;rw[<- q,h0]at h;cases h
   ·rintro ⟨a,b,rest,h,_⟩;rw[dI,<- q,h0,BP rfl]at h;cases h
  ·constructor
   ·rintro ⟨a,b,rest,h,r⟩;exact⟨a,b,rest,by rwa[dI,BK q,Be],r⟩
   ·rintro ⟨a,b,rest,h,r⟩;rw[dI,BK q,Be]at h;exact⟨a,b,rest,h,r⟩
 ·have:=jn kM (Sum.inr z)<|.str<|aH n e.1;have:=I.eY;rw[Ad,Cz];omega
 ·have:=I.nj;rw[Ad,Cz];omega
theorem jd.old{ls:List Lk}(I:jd n done kM ls){a:End}(h1:b8 done z=[a]):jd n (done++[(z,e)]) kM (ls++[(z,aH n a.1,aH n e.1)]):=by
 have hz:b8 (done++[(z,e)]) z=[a,e]:=by rw[dI,h1,BP rfl];rfl
 have hnz:z∉ls.map (·.1):=λh=>by
  obtain⟨x,hx,ex⟩:=Ai.mp h;obtain⟨b,c,rest,hp,_⟩:=(I.mem x).mp hx;have ex:=ex;rw[ex,h1]at hp;cases hp
 refine⟨λy hy=>?_,λy b rest hy=>?_,λx=>?_,?_,?_,?_⟩
 ·rw[dI]at hy;exact I.m0 y (Fh.mp hy).1
 ·by_cases q:z=y
  ·subst q;rw[hz]at hy;cases hy;exact I.m1 z a [] h1
  ·rw[dI,BK q,Be]at hy;exact I.m1 y b rest hy
 ·rw[An,Af,I.mem x]
  by_cases q:z=x.1
  ·constructor
   ·rintro (⟨b,c,rest,h,_⟩ | h)
    ·rw[<- q,h1]at h;cases h
    ·subst h;exact⟨a,e,[],hz,rfl,rfl⟩
   ·rintro ⟨b,c,rest,h,r1,r2⟩;rw[<- q,hz]at h;cases h;obtain⟨x1,x2,x3⟩:=x;have q:=q;have r1:=r1;have r2:=r2;subst q r1 r2;exact .inr rfl
  ·constructor
   ·rintro (⟨b,c,rest,h,r⟩ | h)
    ·exact⟨b,c,rest,by rwa[dI,BK q,Be],r⟩
    ·subst h;exact absurd rfl q
   ·rintro ⟨b,c,rest,h,r⟩;rw[dI,BK q,Be]at h;exact .inl ⟨b,c,rest,h,r⟩
 ·rw[Aj];exact lQ I.de hnz
 ·have:=I.eY;rw[Ad,Cz];omega
 ·have:=I.nj;rw[Ad,Ad];show _+1<=_+1;omega
theorem jd.whole(T:aw n){ls:List Lk}(I:jd n (bt n) kM ls)(x:Lk):x∈ls↔ph n x:=by
 rw[I.mem x]
 constructor
 ·rintro ⟨a,b,rest,h,r⟩;have hp:pos n x.1=a :: b :: rest:=h;have ha:=aK.mp (by rw[hp];exact Ag ..);have hl:=qA n x.1;rw[hp,T x.1<|eG ha]at hl;have:rest=[]:=by
   have:rest.length+1+1=2:=hl;exact Cd.mp<|⋯
  rw[this]at hp;exact⟨a,b,hp,r⟩
 ·rintro ⟨a,b,h,r⟩;exact⟨a,b,[],h,r⟩
inductive Way (ls:List<|Str×Str×Bool) (f:Str):Str->Bool->Prop where
 | here:Way ls f f false
 | there {x y:Str} {b o:Bool}:Way ls f x b->(x,y,o)∈ls->Way ls f y (b != o)
 | back {x y:Str} {b o:Bool}:Way ls f x b->(y,x,o)∈ls->Way ls f y (b != o)
def du(n:Net)(ss:Ñ):Bool:=n.all λr=>(r.2.filter λz=>ss.contains z).length % 2 == 0
def iH(T:aw n){x:End}(h:aJ n e=some z):aJ n x=some z↔x=e\/x=other n e:=by
 obtain⟨o1,o2,o3⟩:=dk T h;refine⟨λhx=>?_,λhx=>?_⟩
 ·obtain⟨a,b,hp,fU,he⟩:=qB T h;have mx:=aK.mpr hx;have mo:=aK.mpr o1;rw[hp]at mx mo;simp only[Al,Ch,FW]at mx mo
  rcases he with he | he
  ·rcases mx with m | m
   ·exact .inl<|m.trans he.symm
   ·rcases mo with m2 | m2
    ·exact absurd (m2.trans he.symm) o3
    ·exact .inr<|m.trans m2.symm
  ·rcases mx with m | m
   ·rcases mo with m2 | m2
    ·exact .inr<|m.trans m2.symm
    ·exact absurd (m2.trans he.symm) o3
   ·exact .inl<|m.trans he.symm
 ·rcases hx with rfl | rfl
  ·exact h
  ·exact o1
abbrev Bl:=Str×Str×Bool
def has(Y:List<|Key×V)(x:Str):Prop:=∃ v,ao Y (Sum.inr x)=some v
def dL(ls:List Bl)(x y:Str)(o:Bool):Prop:=(x,y,o)∈ls\/(y,x,o)∈ls
def qX(ls:List Bl):Ñ:=ls.flatMap λl=>[l.1,l.2.1]
def tV{κ:Type} [DecidableEq κ] (Y:List<|κ×V) (k:κ) (v:V):(putK Y k v).map (·.1)=if k∈Y.map (·.1)then Y.map (·.1)else Y.map (·.1)++[k]:=by
 have e:(Y.any λkv=>decide (kv.1=k))=decide (k∈Y.map (·.1)):=by
  rw[Cr,Fc,CK,Ai];exact⟨λ⟨p,h1,h2⟩=>⟨p,h1,BX h2⟩,λ⟨p,h1,h2⟩=>⟨p,h1,BW h2⟩⟩
 unfold putK;rw[e]
 by_cases h:k∈Y.map (·.1)
 ·rw[BP<|BW h,BP h,Cg];refine Bo λp _=>?_;show(if p.1=k then(p.1,v)else p).1=p.1
  split <;> rfl
 ·rw[BK (by simpa using h),BK h,Aj];rfl
structure b5(ls:List Bl)(f:Str)(hr:Option Str)(Y:List<|Key×V)(wt:Ñ):Prop where
 de:(Y.map (·.1)).Nodup
 txt:∀ k∈Y.map (·.1),∃ x,k=Sum.inr x/\x∈f :: qX ls
 val:∀ x v,ao Y (Sum.inr x)=some v->∃ b,v = .bl b/\Way ls f x b
 fst:has Y f
 tW:∀ x∈wt,has Y x
 AZ:∀ x,some x=hr->has Y x
 cls:∀ x,has Y x->x∈wt\/some x=hr\/∀ y o,dL ls x y o->has Y y
variable{wt:Ñ}{Y:List (Key×V)}{hr:Option Str}{f:Str}{ls:List Bl}
def b5.je(I:b5 ls f hr Y wt){g:Str}(hg:ao Y (Sum.inr g)=none):Sum.inr g∉Y.map (·.1):=by
 intro hm;obtain⟨p,hp,e⟩:=Ai.mp hm;have:∃ i:Nat,Y[i]?=some p:=Bj hp;obtain⟨i,hi⟩:=this;have:∀{l:List (Key×V)},(∃ q∈l,q.1=Sum.inr g)->ao l (Sum.inr g)≠none:=λ{l}=>by
  induction l with
  | nil=>rintro ⟨q,hq,_⟩;cases hq
  | cons c r ih=>
   rintro ⟨q,hq,e⟩ hn
   by_cases hc:c.1=Sum.inr g
   ·rw[gJ hc]at hn;cases hn
   ·rw[gK hc]at hn
    rcases Al.mp hq with rfl | hq
    ·exact hc e
    ·exact ih ⟨q,hq,e⟩ hn
 exact this ⟨p,hp,e⟩ hg
def b5.whole(I:b5 ls f none Y []):∀ x b,Way ls f x b->∃ b',ao Y (Sum.inr x)=some (.bl b'):=by
 have j9:∀ x b,Way ls f x b->has Y x:=λx b w=>by
  induction w with
  | here=>exact I.fst
  | there w hm ih=>
   rcases I.cls _ ih with d | d | d
   ·cases d
   ·cases d
   ·exact d _ _<|.inl hm
  | back w hm ih=>
   rcases I.cls _ ih with d | d | d
   ·cases d
   ·cases d
   ·exact d _ _<|.inr hm
 intro x b w;obtain⟨v,hv⟩:=j9 x b w;obtain⟨b',e,_⟩:=I.val x v hv;exact⟨b',by rw[hv,e]⟩
theorem wA(hn:(Y.map (·.1)).Nodup){k:Key}{v:V}:(k,v)∈Y↔ao Y k=some v:=by
 induction Y with
 | nil=>exact⟨λh=>(by cases h),λh=>(by cases h)⟩
 | cons c r ih=>
  rw[Bn,Bk]at hn;obtain⟨c1,c2⟩:=c
  by_cases hc:c1=k
  ·subst hc;rw[gJ rfl]
   constructor
   ·intro h
    rcases Al.mp h with e | e
    ·cases e;rfl
    ·exact absurd (Ai.mpr ⟨_,e,rfl⟩) hn.1
   ·intro h;cases h;exact Ag ..
  ·rw[gK hc,<- ih hn.2]
   constructor
   ·intro h
    rcases Al.mp h with e | e
    ·cases e;exact absurd rfl hc
    ·exact e
   ·exact Ak _
open PyProof.Rows (sortedS)
def ce(n:Net):Prop:=∀ P:Str->Prop,(∃ r∈n,P r.1)->(∀ r∈n,∀ s∈n,∀ t,t∈r.2->t∈s.2->P r.1->P s.1)->∀ r∈n,P r.1
def TD{m:Net}(h1:∀ r∈n,∃ s∈m,s.1=r.1/\∀ t∈r.2,t∈s.2)(h2:∀ s∈m,∃ r∈n,r.1=s.1)(h:ce n):ce m:=by
 rintro P ⟨s,hs,ps⟩ cl s' gy;obtain⟨r,hr,er⟩:=h2 s hs;obtain⟨r',kR,er'⟩:=h2 s' gy;rw[<- er'];refine h P ⟨r,hr,by rwa[er]⟩ (λa ha b hb t ta tb pa=>?_) r' kR;obtain⟨a',A0,ea,sa⟩:=h1 a ha;obtain⟨b',kH,eb,sb⟩:=h1 b hb;rw[<- eb];exact cl a' A0 b' kH t (sa t ta) (sb t tb)<|by rwa[ea]
def q3k(r:Str×List Str):ce [r]:=by
 rintro P ⟨s,hs,ps⟩ _ x hx;rw[Af]at hs hx;rwa[hx,<- hs]
def Jz(n:Net)(c:End)(z:Str)(i:Nat):(ins n c z)[i]?=(n[i]?).map λr=>if c.1=i then(r.1,r.2.take c.2++z :: r.2.drop c.2)else r:=by
 unfold ins;rw[Fs]
 by_cases h:c.1=i
 ·simp[h]
 ·simp[h]
def JA(h:ce n):ce (ins n c z):=by
 refine TD (λr hr=>?_) (λs hs=>?_) h
 ·obtain⟨i,hi⟩:=Bj hr;have e:=Jz n c z i;rw[hi]at e;refine⟨_,At e,?_,λt ht=>?_⟩
  ·split <;> rfl
  ·split
   ·show t∈r.2.take c.2++z :: r.2.drop c.2;rw[<- Db c.2 r.2]at ht
    rcases An.mp ht with q | q
    ·exact Az _ q
    ·exact Av _<|Ak _ q
   ·exact ht
 ·obtain⟨i,hi⟩:=Bj hs;rw[Jz,Ar]at hi;obtain⟨r,hr,e⟩:=hi;refine⟨r,At hr,?_⟩;rw[<- e]
  split <;> rfl
def q5p(hc:c.1 < n.length):∃ r∈ins n c z,z∈r.2:=by
 have e:=Jz n c z c.1;rw[Ab hc]at e;refine⟨_,At e,?_⟩;show z∈(if c.1=c.1 then((n[c.1].1,n[c.1].2.take c.2++z :: n[c.1].2.drop c.2):Str×List Str)else n[c.1]).2;rw[BP rfl];exact Av _<|Ag ..
def k66(h:ce n)(hz:∃ r∈n,z∈r.2):ce (n++[(pt,[z])]):=by
 obtain⟨r,hr,zr⟩:=hz;rintro P ⟨s,hs,ps⟩ cl x hx;have mn:((pt,[z]):Str×List Str)∈n++[(pt,[z])]:=Av _<|Af.mpr rfl;have ml:∀{y},y∈n->y∈n++[(pt,[z])]:=λhy=>Az _ hy;have all:∀ y∈n,P y.1:=by
  refine h P ?_ λa ha b hb t ta tb pa=>cl a (ml ha) b (ml hb) t ta tb pa
  rcases An.mp hs with q | q
  ·exact⟨s,q,ps⟩
  ·rw[Af]at q;subst q;exact⟨r,hr,cl _ mn r (ml hr) z (Af.mpr rfl) zr ps⟩
 rcases An.mp hx with q | q
 ·exact all x q
 ·rw[Af]at q;subst q;exact cl r (ml hr) _ mn z zr (Af.mpr rfl)<|all r hr
def cD(zs:Ñ):Prop:=zs.Pairwise λa b=>a.cps.toList < b.cps.toList
theorem tX:∀{zs},sortedS zs=true->zs.Nodup->cD zs
 | [],_,_=>List.Pairwise.nil
 | z :: r,h,hn=>by
  rw[Bk]at hn;refine List.Pairwise.cons (λx hx=>?_)<|tX (bK.fz h) hn.2;have h1:=bK.eQ r z h x hx
  rcases Gq.mp h1 with q | q
  ·exact q
  ·exact absurd hx<|by rw[<- bK.fX q];exact hn.1
variable{zs:Ñ}
def tY(h:cD zs):zs.Nodup:=h.imp λq e=>by rw[e]at q;exact Gg _ q
theorem A1:∀{a b},cD a->cD b->(∀ x,x∈a↔x∈b)->a=b
 | [],[],_,_,_=>rfl
 | [],y :: b,_,_,h=>by have:=(h y).mpr<|Ag ..;cases this
 | x :: a,[],_,_,h=>by have:=(h x).mp<|Ag ..;cases this
 | x :: a,y :: b,ha,hb,h=>by
  unfold cD at ha hb;rw[Do]at ha hb;have exy:x=y:=by
   rcases Al.mp ((h x).mp<|Ag ..)with e | e
   ·exact e
   ·rcases Al.mp ((h y).mpr<|Ag ..)with e2 | e2
    ·exact e2.symm
    ·exact absurd (Gm (ha.1 y e2)<|hb.1 x e)<|Gg _
  subst exy;have nx:∀(l:Ñ),(∀ z∈l,x.cps.toList < z.cps.toList)->x∉l:=λl hl hm=>Gg _<|hl x hm;have:a=b:=A1 ha.2 hb.2 λz=>by
   constructor
   ·intro hz
    rcases Al.mp ((h z).mp<|Ak _ hz)with e | e
    ·exact absurd (e ▸ hz)<|nx a ha.1
    ·exact e
   ·intro hz
    rcases Al.mp ((h z).mpr<|Ak _ hz)with e | e
    ·exact absurd (e ▸ hz)<|nx b hb.1
    ·exact e
  rw[this]
def ig(n:Net)(ps:Ñ)(z:Str):Prop:=∃ e,aJ n e=some z/\aH n e.1∈ps/\aH n (other n e).1∉ps
variable{ps:Ñ}
def wB(h:ig n ps z):z∈ag n:=by
 obtain⟨e,he,_⟩:=h;exact eG he
def kS(T:aw n)(he:aJ n e=some z):ig n ps z↔(decide (aH n e.1∈ps) != decide (aH n (other n e).1∈ps))=true:=by
 have o:=dk T he
 constructor
 ·rintro ⟨x,hx,h1,h2⟩
  rcases (iH T he).mp hx with q | q
  ·subst q;simp[h1,h2]
  ·subst q;rw[o.2.1]at h2;simp[h1,h2]
 ·intro h
  by_cases h1:aH n e.1∈ps
  ·by_cases h2:aH n (other n e).1∈ps
   ·simp[h1,h2]at h
   ·exact⟨e,he,h1,h2⟩
  ·by_cases h2:aH n (other n e).1∈ps
   ·exact⟨other n e,o.1,h2,by rwa[o.2.1]⟩
   ·simp[h1,h2]at h
def TH(T:aw n){x:Lk}(h:ph n x):∃ e,aJ n e=some x.1/\x.2.1=aH n e.1/\x.2.2=aH n (other n e).1:=by
 obtain⟨a,b,hp,h1,h2⟩:=h;have ha:=aK.mp (by rw[hp];exact Ag ..);have hb:aJ n b=some x.1:=aK.mp (by rw[hp];simp);have jM:=R0 n x.1;rw[hp]at jM;have fU:b≠a:=λq=>by rw[q]at jM;simp at jM
 rcases (iH T ha).mp hb with q | q
 ·exact absurd q fU
 ·exact⟨a,ha,h1,by rw[h2,q]⟩
def TK(T:aw n)(h:aJ n e=some z):ph n (z,aH n e.1,aH n (other n e).1)\/ph n (z,aH n (other n e).1,aH n e.1):=by
 obtain⟨a,b,hp,fU,hh⟩:=qB T h;have ha:=aK.mp (by rw[hp];exact Ag ..);have hb:aJ n b=some z:=aK.mp<|by rw[hp];simp
 rcases hh with q | q
 ·subst q;refine .inl ⟨e,b,hp,rfl,?_⟩
  rcases (iH T h).mp hb with q | q
  ·exact absurd q.symm fU
  ·show aH n (other n e).1=aH n b.1;rw[q]
 ·subst q;refine .inr ⟨a,e,hp,?_,rfl⟩
  rcases (iH T h).mp ha with q | q
  ·exact absurd q fU
  ·show aH n (other n e).1=aH n a.1;rw[q]
def JE(T:aw n){x:Lk}(h:ph n x):ig n ps x.1↔(decide (x.2.1∈ps) != decide (x.2.2∈ps))=true:=by
 obtain⟨e,he,h1,h2⟩:=TH T h;rw[h1,h2];exact kS T he
def bn(n:Net):Str:=aH n 0
structure bg(n:Net)(ss sd:Ñ):Prop where
 fI:cD sd
 mem:∀ x∈sd,x∈n.map (·.1)
 fst:bn n∉sd
 cut:∀ z,z∈ss↔ig n sd z
structure Tells(n:Net)(ss:Ñ)(ls:List Bl):Prop where
 to:∀ e z,aJ n e=some z->dL ls (aH n e.1) (aH n (other n e).1) (decide (z∈ss))
 JI:∀ l∈ls,∃ e z,aJ n e=some z/\l=(aH n e.1,aH n (other n e).1,decide (z∈ss))
variable{b:Bool}{ss:Ñ}
theorem TL(T:aw n){sd:Ñ}(t:Tells n ss ls)(hc:∀ z,z∈ss↔ig n sd z)(w:Way ls f x b):decide (x∈sd)=(decide (f∈sd) != b):=by
 have step:∀{x y:Str} {o:Bool},(x,y,o)∈ls->o=(decide (x∈sd) != decide (y∈sd)):=λ{x y o} h=>by
  obtain⟨e,z,he,hl⟩:=t.JI _ h;have h1:x=aH n e.1:=BZ (·.1) hl;have h2:y=aH n (other n e).1:=BZ (·.2.1) hl;have h3:o=decide (z∈ss):=BZ (·.2.2) hl;rw[h1,h2,h3,Cr,CK,hc z];exact kS T he
 induction w with
 | here=>simp
 | @there x y b o w h ih=>
  rw[step h,ih];cases decide (f∈sd) <;> cases b <;> cases decide (y∈sd) <;> rfl
 | @back x y b o w h ih=>
  rw[step h,ih];cases decide (f∈sd) <;> cases b <;> cases decide (y∈sd) <;> rfl
def A2(T:aw n){sd:Ñ}(t:Tells n ss ls)(h:bg n ss sd)(w:Way ls (bn n) x b):decide (x∈sd)=b:=by
 rw[TL T t h.cut w,BR h.fst];simp
def iI(h:i < n.length):aH n i∈n.map (·.1):=by
 rw[gW h];exact Ai.mpr ⟨_,Bp h,rfl⟩
def q52(T:aw n)(h:ce n)(h0:0 < n.length)(t:Tells n ss ls):∀ x∈n.map (·.1),∃ b,Way ls (bn n) x b:=by
 intro x hx;obtain⟨r,hr,rfl⟩:=Ai.mp hx;refine h (λx=>∃ b,Way ls (bn n) x b) ⟨n[0],Bp h0,false,?_⟩ (λr hr s hs z zr zs ⟨b,w⟩=>?_) r hr
 ·have:bn n=n[0].1:=gW h0;rw[<- this];exact .here
 ·obtain⟨i,hi,rfl⟩:=Co.mp hr;obtain⟨j,hj,rfl⟩:=Co.mp hs;obtain⟨p,hp⟩:=Bj zr;obtain⟨q,hq⟩:=Bj zs;have h1:aJ n (i,p)=some z:=by show(row n i)[p]?=_;rwa[ic hi]
  have h2:aJ n (j,q)=some z:=by show(row n j)[q]?=_;rwa[ic hj]
  rcases (iH T h1).mp h2 with e | e
  ·have:j=i:=BZ (·.1) e;subst this;exact⟨b,w⟩
  ·have tt:=t.to _ _ h1;rw[<- e]at tt;rw[show aH n ((i,p):End).1=n[i].1 from gW hi,show aH n ((j,q):End).1=n[j].1 from gW hj]at tt
   rcases tt with tt | tt
   ·exact⟨_,.there w tt⟩
   ·exact⟨_,.back w tt⟩
noncomputable def dE(n:Net)(ss:Ñ):List Bl:=(ends n).map λe=>(aH n e.1,aH n (other n e).1,decide ((aJ n e).getD ⟨#[]⟩∈ss))
def wC:Tells n ss (dE n ss):=by
 refine⟨λe z h=> .inl (Ai.mpr ⟨e,af.mpr ⟨z,h⟩,by rw[h];rfl⟩),λl hl=>?_⟩;obtain⟨e,he,q⟩:=Ai.mp hl;obtain⟨z,hz⟩:=af.mp he;exact⟨e,z,hz,by rw[<- q,hz];rfl⟩
def k7z(T:aw n){ls:List Lk}(h:∀ x,x∈ls↔ph n x):Tells n ss (ls.map λx=>(x.2.1,x.2.2,decide (x.1∈ss))):=by
 refine⟨λe z he=>?_,λl hl=>?_⟩
 ·rcases TK T he with q | q
  ·exact .inl<|Ai.mpr ⟨_,(h _).mpr q,rfl⟩
  ·exact .inr<|Ai.mpr ⟨_,(h _).mpr q,rfl⟩
 ·obtain⟨x,hx,q⟩:=Ai.mp hl;obtain⟨e,he,h1,h2⟩:=TH T<|(h x).mp hx;exact⟨e,x.1,he,by rw[<- q,h1,h2]⟩
def k1n(T:aw n){sd:Ñ}(t:Tells n ss ls)(hs:cD sd)(hm:∀ x∈sd,x∈n.map (·.1))(hc:∀ z,z∈ss↔ig n sd z)(w:Way ls (bn n) (bn n) b)(hb:bn n∈sd↔b=true):bg n ss sd:=by
 refine⟨hs,hm,λhf=>?_,hc⟩;have e:=TL T t hc w;rw[hb.mp hf,BW hf]at e;cases e
def pj(T:aw n)(h:aJ n e=some z):(other n e).1 < n.length:=cS (dk T h).1
def k8g(T:aw n){qs:Ñ}(h:∀ x∈n.map (·.1),x∈qs↔x∉ps)(z:Str):ig n ps z↔ig n qs z:=by
 have k:∀{e:End},aJ n e=some z->(ig n ps z↔ig n qs z):=λ{e} he=>by
  rw[kS T he,kS T he];have a1:=h _<|iI<|cS he;have a2:=h _<|iI<|pj T he
  by_cases h1:aH n e.1∈ps <;> by_cases h2:aH n (other n e).1∈ps <;> simp[a1,a2,h1,h2]
 constructor
 ·intro hc;obtain⟨e,he,_⟩:=hc;exact(k he).mp ⟨e,he,by assumption⟩
 ·intro hc;obtain⟨e,he,_⟩:=hc;exact(k he).mpr ⟨e,he,by assumption⟩
variable{H:Hp}{X:Cx}
def q2f{k:Nat}(y z:Str):jR X H k (.str y) (.str z) (decide (y=z)):=by
 have:=qv (X:=X) (H:=H) (k:=k) (x:= .str y) (y:= .str z) rfl rfl;have e:cC (.str y) (.str z)=decide (y=z):=by
  show(y == z)=_;rw[Cr,CK];simp
 rwa[e]at this
theorem q8s(ys zs:Ñ)(h:ys.length=zs.length):(List.range ys.length).all (λj=>decide (ys[j]?=zs[j]?))=decide (ys=zs):=by
 rw[Cr,De,CK]
 constructor
 ·intro q;refine Dv λj=>?_
  by_cases hj:j < ys.length
  ·exact BX<|q j<|Bc.mpr hj
  ·rw[Bd ⋯,Bd<|⋯]
 ·rintro rfl j _;exact BW rfl
def k73{a b:Addr}{ys:Ñ}(ha:H a=some (Ls ys))(hb:H b=some (Ls zs)):lX X H 1 (.ref a) (.ref b) (decide (ys=zs)):=by
 by_cases hl:ys.length=zs.length
 ·have q:=Ij (λj=>decide (ys[j]?=zs[j]?)) (aj.of ha) (aj.of hb) (by rw[Aa,Aa,hl]) λj x y hx hy=>by
   rw[Ah,Ar]at hx hy;obtain⟨u,hu,rfl⟩:=hx;obtain⟨v,hv,rfl⟩:=hy;have:=q2f (X:=X) (H:=H) (k:=0) u v;have e:decide (ys[j]?=zs[j]?)=decide (u=v):=by
    rw[hu,hv,Cr,CK,CK];exact⟨Option.some.inj,λh=>by rw[h]⟩
   rwa[e]
  rwa[Aa,q8s ys zs hl]at q
 ·have e:decide (ys=zs)=false:=BR λq=>hl (by rw[q]);rw[e];exact q3j (aj.of ha) (aj.of hb)<|by rwa[Aa,Aa]
theorem TR(T:aw n)(t:Tells n ss ls)(h0:0 < n.length)(w:Way ls (bn n) x b):x∈n.map (·.1):=by
 have k:∀{x y:Str} {o:Bool},(x,y,o)∈ls->x∈n.map (·.1)/\y∈n.map (·.1):=λ{x y o} h=>by
  obtain⟨e,z,he,hl⟩:=t.JI _ h;have h1:x=aH n e.1:=BZ (·.1) hl;have h2:y=aH n (other n e).1:=BZ (·.2.1) hl;rw[h1,h2];exact⟨iI<|cS he,iI<|pj T he⟩
 cases w with
 | here=>exact iI h0
 | there w h=>exact(k h).2
 | back w h=>exact(k h).1
def k6e(T:aw n)(t:Tells n ss ls)(h0:0 < n.length)(I:b5 ls (bn n) none Y []):Y.length<=n.length:=by
 have:=aI I.de λk hk=>by
  obtain⟨x,rfl,_⟩:=I.txt k hk;have:∃ v,ao Y (Sum.inr x)=some v:=by
   cases hv:ao Y (Sum.inr x) with
   | some v=>exact⟨v,rfl⟩
   | none=>exact absurd hk<|I.je hv
  obtain⟨v,hv⟩:=this;obtain⟨b,_,w⟩:=I.val x v hv;exact Ai.mpr ⟨x,TR T t h0 w,rfl⟩
 rwa[Aa,Aa,Aa]at this
def k3n(T:aw n)(hh:ce n)(h0:0 < n.length){sd:Ñ}(t:Tells n ss ls)(I:b5 ls (bn n) none Y [])(hs:cD sd)(hm:∀ x,x∈sd↔ao Y (Sum.inr x)=some (.bl true)) :
  ((∀ z,z∈ss↔ig n sd z)->bg n ss sd)/\∀ fD,bg n ss fD->fD=sd:=by
 constructor
 ·intro hc;obtain⟨b,hb⟩:=I.whole (bn n) false .here;obtain⟨b',e,w⟩:=I.val _ _ hb;cases e;refine k1n T t hs (λx hx=>?_) hc w ?_
  ·obtain⟨b',e,w⟩:=I.val _ _<|(hm x).mp hx;exact TR T t h0 w
  ·rw[hm,hb];exact⟨λq=>V.bl.inj<|Option.some.inj q,λq=>by rw[q]⟩
 ·intro fD h;refine A1 h.fI hs λx=>?_;rw[hm]
  constructor
  ·intro hx;obtain⟨b,w⟩:=q52 T hh h0 t x<|h.mem x hx;obtain⟨b',kH⟩:=I.whole x b w;obtain⟨b2,e,w2⟩:=I.val _ _ kH;cases e;have:=A2 T t h w2;rw[BW hx]at this;rw[kH,<- this]
  ·intro hx;obtain⟨b2,e,w2⟩:=I.val _ _ hx;cases e;exact BX<|A2 T t h w2
open PyProof.Rows (sortedS)
theorem q2p{k:Key}(hg:ao Y k=none):k∉Y.map (·.1):=by
 induction Y with
 | nil=>intro h;cases h
 | cons c r ih=>
  intro h
  by_cases hc:c.1=k
  ·rw[gJ hc]at hg;cases hg
  ·rw[gK hc]at hg
   rcases Al.mp h with q | q
   ·exact hc q.symm
   ·exact ih hg q
theorem x1l{a b:Nat}(h:a≠b):¬(Sum.inl (a:Int):Key)=Sum.inl (b:Int):=λq=>h<|by have:=Sum.inl.inj q;omega
def tZ(hn:(n.map (·.1)).Nodup){j:Nat}(hi:i < n.length)(hj:j < n.length)(h:aH n i=aH n j):i=j:=by
 rw[gW hi,gW hj]at h;have:=(Ay.mp hn);rw[Cc]at this
 rcases RQ i j with q | q | q
 ·exact absurd (by rwa[Dy,Dy])<|this i j (by simpa using hi) (by simpa using hj) q
 ·exact q
 ·exact absurd (by rw[Dy,Dy];exact h.symm)<|this j i (by simpa using hj) (by simpa using hi) q
open PyProof.Rows (sortedS)
theorem TU(a b c:Ñ)(h:∀ z,z∈c↔(if z∈a then z∉b else z∈b)):∀ zs:Ñ,(zs.filter λz=>c.contains z).length % 2=((zs.filter λz=>a.contains z).length+(zs.filter λz=>b.contains z).length) % 2
 | []=>rfl
 | z :: r=>by
  have ih:=TU a b c h r;have hz:=h z;have ca:=λl=>(Cu (as:=l) (a:=z));simp only[Cv]
  by_cases ha:z∈a <;> by_cases hb:z∈b
  ·have hc:=λq=>by have:=hz.mp q;rw[BP ha]at this;exact this hb
   rw[BP<|(ca a).mpr ha,BP<|(ca b).mpr hb,BK λq=>hc<|(ca c).mp q,As,As];omega
  ·have hc:=hz.mpr (by rwa[BP ha]);rw[BP<|(ca a).mpr ha,BK λq=>hb<|(ca b).mp q,BP<|(ca c).mpr hc,As,As];omega
  ·have hc:=hz.mpr (by rwa[BK ha]);rw[BK λq=>ha<|(ca a).mp q,BP<|(ca b).mpr hb,BP<|(ca c).mpr hc,As,As];omega
  ·have hc:=λq=>by have:=hz.mp q;rw[BK ha]at this;exact hb this
   rwa[BK λq=>ha<|(ca a).mp q,BK λq=>hb<|(ca b).mp q,BK λq=>hc<|(ca c).mp q]
def eZ:du n ss=true↔∀ r∈n,(r.2.filter λz=>ss.contains z).length % 2=0:=by
 unfold du;rw[De];exact⟨λh r hr=>by simpa using h r hr,λh r hr=>by simpa using h r hr⟩
theorem q1f{a b c:Ñ}(ha:du n a=true)(hb:du n b=true)(h:∀ z,z∈c↔(if z∈a then z∉b else z∈b)):du n c=true:=by
 rw[eZ]at ha hb ⊢;intro r hr;have h1:=ha r hr;have h2:=hb r hr;rw[TU a b c h];omega
theorem T1{a:Ñ}(hn:a.Nodup):∀ l:Ñ,(l.filter λz=>a.contains z).length=(a.map λz=>l.count z).sum
 | []=>by
  have:∀ a:Ñ,(a.map λz=>([]:Ñ).count z).sum=0:=λa=>by
   induction a with
   | nil=>rfl
   | cons x r ih=>rw[Bn,Gn,ih];rfl
  rw[this];rfl
 | y :: l=>by
  have ih:=T1 hn l;have key:∀ a:Ñ,(a.map λz=>(y :: l).count z).sum=(a.map λz=>l.count z).sum+a.count y:=λa=>by
   induction a with
   | nil=>rfl
   | cons x r ih=>
    rw[Bn,Gn,ih,Bn,Gn,Dq,Dq]
    by_cases h:y=x
    ·rw[BP (by simp[h]),BP<|by simp[h]];omega
    ·rw[BK (by simpa using h),BK<|by simpa using λq=>h<|Eq.symm q];omega
  rw[key,Cv,<- ih,hn.count]
  by_cases h:y∈a
  ·rw[BP<|Cu.mpr h,BP h,As]
  ·rw[BK λq=>h<|Cu.mp q,BK h];rfl
theorem T4(T:aw n)(hn:ss.Nodup)(hm:∀ z∈ss,z∈ag n):2 * ss.length<=(ag n).length:=by
 have h:=T1 hn<|ag n;have e:∀ l:Ñ,(∀ z∈l,z∈ag n)->(l.map λz=>(ag n).count z).sum=2 * l.length:=λl=>by
  induction l with
  | nil=>intro _;rfl
  | cons x r ih=>
   intro hl;rw[Bn,Gn,ih λz hz=>hl z<|Ak _ hz,T x<|hl x<|Ag ..,As];omega
 rw[e ss hm]at h;rw[<- h];exact Cp _ _
structure f7(n:Net)(cs:Ñ):Prop where
 fI:cD cs
 cut:∃ ps,∀ z,z∈cs↔ig n ps z
def q56(T:aw n){a b c:Ñ}(ha:f7 n a)(hb:f7 n b)(hs:cD c)(h:∀ z,z∈c↔(if z∈a then z∉b else z∈b)):f7 n c:=by
 obtain⟨pa,ca⟩:=ha.cut;obtain⟨pb,cb⟩:=hb.cut;have hm:∀ x,x∈n.map (·.1)->(decide (x∈(n.map (·.1)).filter λx=>decide (x∈pa) != decide (x∈pb))=(decide (x∈pa) != decide (x∈pb))):=λx hx=>by
  rw[Cr,CK,Bg];exact⟨λq=>q.2,λq=>⟨hx,q⟩⟩
 refine⟨hs,(n.map (·.1)).filter λx=>decide (x∈pa) != decide (x∈pb),λz=>?_⟩;rw[h z]
 by_cases hz:z∈ag n
 ·obtain⟨e,he⟩:∃ e,e∈pos n z:=by
   cases hp:pos n z with
   | nil=>exact absurd hp<|eV.mp hz
   | cons a r=>exact⟨a,Ag ..⟩
  have he:=aK.mp he;rw[kS T he,hm _<|iI<|cS he,hm _<|iI<|pj T he];have h1:=(ca z).trans<|kS T he;have h2:=(cb z).trans<|kS T he
  by_cases q1:z∈a <;> by_cases q2:z∈b
  ·have h1:=h1.mp q1;have h2:=h2.mp q2;rw[BP q1];refine⟨λq=>absurd q2 q,λq=>?_⟩
   revert h1 h2 q
   cases decide (aH n e.1∈pa) <;> cases decide (aH n e.1∈pb) <;> cases decide (aH n (other n e).1∈pa) <;> cases decide (aH n (other n e).1∈pb) <;> simp
  ·have h1:=h1.mp q1;have h2:=λq=>q2<|h2.mpr q;rw[BP q1];refine⟨λ_=>?_,λ_=>q2⟩
   revert h1 h2
   cases decide (aH n e.1∈pa) <;> cases decide (aH n e.1∈pb) <;> cases decide (aH n (other n e).1∈pa) <;> cases decide (aH n (other n e).1∈pb) <;> simp
  ·have h1:=λq=>q1<|h1.mpr q;have h2:=h2.mp q2;rw[BK q1];refine⟨λ_=>?_,λ_=>q2⟩
   revert h1 h2
   cases decide (aH n e.1∈pa) <;> cases decide (aH n e.1∈pb) <;> cases decide (aH n (other n e).1∈pa) <;> cases decide (aH n (other n e).1∈pb) <;> simp
  ·have h1:=λq=>q1<|h1.mpr q;have h2:=λq=>q2<|h2.mpr q;rw[BK q1];refine⟨λq=>absurd q q2,λq=>?_⟩
   revert h1 h2 q
   cases decide (aH n e.1∈pa) <;> cases decide (aH n e.1∈pb) <;> cases decide (aH n (other n e).1∈pa) <;> cases decide (aH n (other n e).1∈pb) <;> simp
 ·have n1:=λq=>hz<|wB<|(ca z).mp q;have n2:=λq=>hz<|wB<|(cb z).mp q;rw[BK n1];exact⟨λq=>absurd q n2,λq=>absurd (wB q) hz⟩
def q8h{y:Str}(h:x≠y):x.cps.toList < y.cps.toList\/y.cps.toList < x.cps.toList:=by
 by_cases q:x.cps.toList < y.cps.toList
 ·exact .inl q
 ·rcases Gq.mp (List.not_lt.mp q)with q | q
  ·exact .inr q
  ·exact absurd (bK.fX q).symm h
theorem T5(x:Str):∀ sd:Ñ,cD sd->∃ fD,cD fD/\∀ y,y∈fD↔y=x\/y∈sd
 | [],_=>⟨[x],TJ _ _,λy=>by simp⟩
 | z :: r,h=>by
  have h:=Do.mp h
  by_cases e:x=z
  ·subst e;exact⟨x :: r,Do.mpr h,λy=>by simp⟩
  ·rcases q8h e with q | q
   ·refine⟨x :: z :: r,Do.mpr ⟨λy hy=>?_,Do.mpr h⟩,λy=>Al⟩
    rcases Al.mp hy with rfl | hy
    ·exact q
    ·exact Gm q<|h.1 y hy
   ·obtain⟨fD,hs,hm⟩:=T5 x r h.2;refine⟨z :: fD,Do.mpr ⟨λy hy=>?_,hs⟩,λy=>?_⟩
    ·rcases (hm y).mp hy with rfl | hy
     ·exact q
     ·exact h.1 y hy
    ·rw[Al,hm y,Al];exact⟨λk=>by rcases k with k | k | k <;> simp[k],λk=>by rcases k with k | k | k <;> simp[k]⟩
theorem A3:∀ l:Ñ,∃ sd,cD sd/\∀ x,x∈sd↔x∈l
 | []=>⟨[],List.Pairwise.nil,λ_=>WM⟩
 | x :: r=>by
  obtain⟨sd,hs,hm⟩:=A3 r;obtain⟨fD,gy,hm'⟩:=T5 x sd hs;exact⟨fD,gy,λy=>by rw[hm' y,hm y,Al]⟩
variable{cs:Ñ}
def q26(T:aw n)(h0:0 < n.length)(h:f7 n cs):∃ sd,bg n cs sd:=by
 obtain⟨ps,hc⟩:=h.cut
 by_cases hf:bn n∈ps
 ·obtain⟨sd,hs,hm⟩:=A3 ((n.map (·.1)).filter λx=>!decide (x∈ps));have hm:∀ x,x∈sd↔x∈n.map (·.1)/\x∉ps:=λx=>by
   rw[hm x,Bg,RM,JL]
  refine⟨sd,hs,λx hx=>((hm x).mp hx).1,λq=>((hm _).mp q).2 hf,λz=>(hc z).trans<|k8g T (λx hx=>?_) z⟩;rw[hm x];exact⟨λq=>q.2,λq=>⟨hx,q⟩⟩
 ·obtain⟨sd,hs,hm⟩:=A3 ((n.map (·.1)).filter λx=>decide (x∈ps));have hm:∀ x,x∈sd↔x∈n.map (·.1)/\x∈ps:=λx=>by
   rw[hm x,Bg,CK]
  refine⟨sd,hs,λx hx=>((hm x).mp hx).1,λq=>hf ((hm _).mp q).2,λz=>(hc z).trans ?_⟩;have k:∀{e:End},aJ n e=some z->(ig n ps z↔ig n sd z):=λ{e} he=>by
   rw[kS T he,kS T he];have a1:=hm<|aH n e.1;have a2:=hm<|aH n (other n e).1;have b1:=iI<|cS he;have b2:=iI<|pj T he;have c1:decide (aH n e.1∈sd)=decide (aH n e.1∈ps):=by rw[Cr,CK,CK,a1];exact⟨λq=>q.2,λq=>⟨b1,q⟩⟩
   have c2:decide (aH n (other n e).1∈sd)=decide (aH n (other n e).1∈ps):=by rw[Cr,CK,CK,a2];exact⟨λq=>q.2,λq=>⟨b2,q⟩⟩
   rw[c1,c2]
  constructor
  ·intro q;obtain⟨e,he,_⟩:=id q;exact(k he).mp q
  ·intro q;obtain⟨e,he,_⟩:=id q;exact(k he).mpr q
def HF(n:Net):Prop:=ce n/\Fl n
def q8d{nm:Str}:HF [(nm,[])]:=⟨q3k _,q95⟩
def q0a(T:aw n)(F:Full n)(hz:z∉ag n)(hc:fB n c) (hp:(ag<|ins n c z++[(pt,[z])]).Perm<|z :: z :: ag n) (P:HF n):HF (ins n c z++[(pt,[z])]):=
 ⟨k66 (JA P.1)<|q5p hc.1,k8r T F hz hc hp P.2⟩
def q5a(T:aw n)(F:Full n)(hz:z∉ag n)(h1:fB n k1)(h2:fB n k2) (hp:(ag<|ins (ins n k1 z) k2 z).Perm<|z :: z :: ag n) (ord:k2=k1\/sh k1 k2=k2) (same:(∃ k,it (step n) k k1=k2)\/∃ k,it (step n) k k2=k1) (P:HF n):HF (ins (ins n k1 z) k2 z):=
 ⟨JA<|JA P.1,q6v T F hz h1 h2 hp ord same P.2⟩
def q7w{n2 n0:Net}{j:Nat}(hj:j < n.length)(hi:i < max 1 (row n j).length)(T0:aw n0)(pt:(ag n++ag n2).Perm<|ag n0)
  (gU:(ag (n.eraseIdx j)++ag (n2++[(n[j].1,(row n j).drop i++(row n j).take i)])).Perm<|ag n0) (P:HF<|n++n2):HF (n.eraseIdx j++(n2++[(n[j].1,(row n j).drop i++(row n j).take i)])):=by
 refine⟨TD (λr hr=>?_) (λx hx=>?_) P.1,q6r hj hi T0 pt gU P.2⟩
 ·rcases An.mp hr with hx | hx
  ·rcases (bK.bM n j hj).symm.mem_iff.mp hx |> Al.mp with q | q
   ·refine⟨(n[j].1,(row n j).drop i++(row n j).take i),Av _<|Av _<|Af.mpr rfl,by rw[q],λt ht=>?_⟩;refine(Jh (row n j) i).mem_iff.mpr ?_;rwa[ic hj,<- q]
   ·exact⟨r,Az _ q,rfl,λt h=>h⟩
  ·exact⟨r,Av _<|Az _ hx,rfl,λt h=>h⟩
 ·rcases An.mp hx with hx | hx
  ·exact⟨x,Az _<|Fa hx,rfl⟩
  ·rcases An.mp hx with hx | hx
   ·exact⟨x,Av _ hx,rfl⟩
   ·rw[Af]at hx;exact⟨n[j],Az _<|Bp hj,by rw[hx]⟩
theorem JO(s:Str->Bool):∀ l:Ñ,aC (l.map s)=decide ((l.filter s).length % 2=1)
 | []=>rfl
 | x :: l=>by
  show(s x ^^ aC (l.map s))=_;rw[JO s l,Cv];cases h:s x
  ·rw[BK ∅,Gf]
  ·rw[BP rfl,As,Bool.true_xor,<- decide_not];exact decide_eq_decide.mpr<|⋯
theorem q8v(h:du n ss=true):fm n (λz=>ss.contains z):=λr=>by
 rw[JO]
 by_cases hr:r < n.length
 ·have:=eZ.mp h n[r]<|Bp hr;rw[ic hr];exact BR<|⋯
 ·have:row n r=[]:=by
   unfold row;rw[Bd<|⋯];rfl
  rw[this];rfl
theorem k7s(h:fm n s)(hs:∀ z∈ag n,ss.contains z=s z):du n ss=true:=eZ.mpr λr hr=>by
 obtain⟨i,hi,rfl⟩:=Co.mp hr;have:=h i;rw[JO,ic hi]at this;have e:=List.filter_congr λz hz=>hs z<|Di.mpr ⟨n[i],hr,hz⟩;rw[e];have:=GJ this;omega
theorem qY{α:Type}:∀ l:List α,aC (l.map λ_=>false)=false
 | []=>rfl
 | _ :: l=>by show(false ^^ aC _)=false;rw[qY l];rfl
theorem JP(x:Nat)(e:End):∀ m,aC ((List.range m).map λp=>decide ((x,p)=e))=decide (x=e.1/\e.2 < m)
 | 0=>by simp[aC]
 | m+1=>by
  rw[Dc,Aj,ni,JP x e m];show(decide (x=e.1/\e.2 < m) ^^ (decide ((x,m)=e) ^^ false))=_;rw[Gh];obtain⟨a,b⟩:=e
  by_cases h:x=a
  ·by_cases h2:b=m
   ·subst h;subst h2;simp
   ·have e1:((x,m)=(a,b))=False:=by simp[h];omega
    rw[BR (p:=(x,m)=(a,b)) (by rw[e1];exact id),Gh];exact decide_eq_decide.mpr ⟨λq=>⟨q.1,by have:=q.2;omega⟩,λq=>⟨q.1,by have:=q.2;show b < m;omega⟩⟩
  ·rw[BR λq=>h q.1,BR λq=>h<|BZ Prod.fst q,BR λq=>h q.1];rfl
def T6(T:aw n){t:Str}(h:aJ n e=some t)(x:Nat):aC ((row n x).map λy=>decide (y=t))=(decide (x=e.1) ^^ decide (x=(other n e).1)):=by
 have o:=dk T h;rw[Tz n x (λy=>decide (y=t)) (λa=>decide (a=e) ^^ decide (a=other n e)) λp z hz=>?_]
 ·rw[kL (λp=>decide ((x,p)=e)) λp=>decide ((x,p)=other n e),JP,JP];have l1:=iE h;have l2:=iE o.1
  congr 1
  ·exact decide_eq_decide.mpr ⟨λq=>q.1,λq=>⟨q,by rwa[q]⟩⟩
  ·exact decide_eq_decide.mpr ⟨λq=>q.1,λq=>⟨q,by rwa[q]⟩⟩
 ·have hz:aJ n (x,p)=some z:=hz
  by_cases q:z=t
  ·subst q
   rcases (iH T h).mp hz with k | k
   ·rw[k,BW rfl,BW rfl,BR<|CG o.2.2];rfl
   ·rw[k,BW rfl,BW rfl,BR o.2.2];rfl
  ·have h1:((x,p):End)≠e:=λk=>by rw[k,h]at hz;exact q (Option.some.inj hz).symm
   have h2:((x,p):End)≠other n e:=λk=>by rw[k,o.1]at hz;exact q (Option.some.inj hz).symm
   rw[BR q,BR h1,BR h2];rfl
end Nt
namespace Q1
open PySem L2 Nt bD
def JS:Sp:=λvs H Q _=>∃R as n b z pt,vs=[.ref R,.int b,.str z,.str pt]/\al H R as n/\aw n/\Full n/\z∉ag n/\n.length<=100/\(ag n).length<=100 /\
 ∀ i qZ n' H',al H' R qZ n'->qM H H' (R :: as.map (·.2))->(∀ a∈qZ,a∈as\/H a.2=none)->(ag n').Perm (z :: z :: ag n)->(n'.map (·.1)=n.map (·.1)\/n'.map (·.1)=n.map (·.1)++[pt])->Full n'->(HF n->HF n')->Q (.int i) H'
variable{Z:Heap}{mg:Ò}{K:PySem.W.Frag}{w:World}{P:Program}{ts:List Addr}{fd:FuncData}{f d:Addr}{xs:List V}{H H':Hp}{i:Nat}
abbrev NP:Ñ:=["_law_rows","_law_big_here","_law_tie","_law_point","_law_corners","_law_r","_law_place","_law_one","_law_kind","_law_face_here","_law_other_here","_law_spot"]
def pk:ak NP ["_law_rows","_law_big_here","_law_tie","_law_point"] (aP qI):=bZ
def T7{j:Nat}{t:Addr}(h:ts[j]?=some t):fG (ts.map V.ref) (j:Int)=some (.ref t):=oH<|by rw[Ah,h];rfl
theorem q93(F:bo K "_law_put" "_law_put" qI f fd)(T:Txt mg)
  (GS:aQ P w K mg Z 3 "_law_seats" ["_law_rows"] AF)
  (GF:aQ P w K mg Z 3 "_law_face" ["_law_rows","_law_seats_here","_law_end"] Jc) :
  aD P w K mg Z bz 4 f fd ["_law_rows","_law_big_here","_law_tie","_law_point"] JS:=by
 refine F.gc pk λb0 H vs Q E hr h=>?_;obtain⟨R,as,n,b,z,pt,rfl,hR,hT,hF,hz,hn,htn,q⟩:=h;have nd:=pk.nd;have hu:=hr.fQ;have b4:=hR.len;refine aT 4 nd<|dS<|ax ⟨Z0,λlc T8=>?_⟩;have g0:=aM T8<|.lst [];refine ke T.range (bP dH T.len DR<|ai<|ae 0<|ax ⟨R,_,rfl,.inl<|aj.of<|g0 _ _ hR.lst,_,rfl,⋯,by rw[Aa];omega,?_⟩);rw[Aa,b4,Bm];refine kg (λr σ H3=>∃ts cs u1 u2,ah H H3/\H3 lc=some (.lst<|ts.map V.ref)/\Pd H3 ts cs/\(∀ c∈cs,fB n c)/\(0 < r->cs≠[])/\cs.length<=101 * r/\σ=[⇑R,some<|.int b,some<|.str z,some<|.str pt,⇑lc,u1,u2,none,none,none,none,none]) ⟨[],[],_,_,g0,av,.nil,λc hc=>(nomatch hc),λh=>absurd h ∅,Am _,rfl⟩ ?_ ?_
 ·rintro r σ H3 hi ⟨ts,cs,u1,u2,sH,el,ep,hc,bA,hlen,rfl⟩;rw[Dw];refine a8 5 nd ?_;obtain⟨a,ea,fA,et,ell,er⟩:=(hR.same sH).at hi;have jU:=ju n r;refine ke T.range<|bP (PF rfl) T.max VL<|ai<|aE<|ai<|bP dH T.len DR<|ai<|bb cv<|bb cL<|ae 0<|ae 5 ⟨R,_,_,.ref a.1,rfl,rfl,aj.of<|sH _ _ hR.lst,fA,aE ⟨a.1,_,_,.ref a.2,rfl,rfl,aS.of et,rfl,ax ⟨a.2,_,rfl,.inl<|aj.of ell,?_⟩⟩⟩;rw[Aa];have em:(if((row n r).length:Int) > 1 then((row n r).length:Int)else 1)=((max 1 (row n r).length:Nat):Int):=by
   split <;> omega
  refine ax ⟨1,_,rfl,((max 1 (row n r).length:Nat):Int),by rw[em],⋯,⋯,?_⟩;rw[Bm];refine kg (λp σ H4=>∃ts cs u2,ah H H4/\H4 lc=some (.lst<|ts.map V.ref)/\Pd H4 ts cs/\(∀ c∈cs,fB n c)/\(0 < r+p->cs≠[])/\cs.length<=101 * r+p/\σ=[⇑R,some<|.int b,some<|.str z,some<|.str pt,⇑lc,some<|.int (r:Int),u2,none,none,none,none,none]) ⟨ts,cs,_,sH,el,ep,hc,bA,hlen,rfl⟩ ?_ ?_
  ·rintro p σ H4 hp ⟨ts,cs,u2,sH,el,ep,hc,bA,hlen,rfl⟩;rw[Dw];refine a8 6 nd<|gq<|jQ<|ae 4 ⟨lc,rfl,⟨_,el⟩,fv<|ai<|ae 5<|ai<|ae 6<|ax ⟨Z2,λt ht=>?_⟩⟩;have l7:=bh el ht;have s2:=aM ht<|Tp (r,p);have JU:=ep.length;refine⟨ts.map V.ref,by rwa[au l7],by rw[Aa];exact bI ⋯,?_⟩;refine a7 ⟨ts++[t],cs++[(r,p)],_,cX (sH.trans s2) T8,by rw[av,Aj];rfl,?_,λc h=>?_,λ_=>by simp,by rw[Ad];simp;omega,rfl⟩
   ·refine Pd.append (ep.keep λx e h=>?_)<|.cons ?_ .nil
    ·rw[au<|vQ h el];exact s2 _ _ h
    ·rw[au l7.symm,av]
   ·rcases An.mp h with h | h
    ·exact hc c h
    ·rw[Af]at h;subst h;exact⟨hi,hp⟩
  ·rintro σ H4 ⟨ts,cs,u2,sH,el,ep,hc,bA,hlen,rfl⟩;refine a7 ⟨ts,cs,_,_,sH,el,ep,hc,λ_=>bA ⋯,⋯,rfl⟩
 rintro σ H3 ⟨ts,cs,u1,u2,sH,el,ep,hc,bA,hlen,rfl⟩;have G0:=Du.mpr hF.some;have j4:=bA G0;have fu:0 < cs.length:=Du.mpr j4;have JU:=ep.length;have m0:0<=b % (cs.length:Int):=Bs _ ⋯;have m1:b % (cs.length:Int) < cs.length:=Ce _ ⋯;obtain⟨j,hj⟩:∃ j:Nat,b % (cs.length:Int)=j:=⟨(b % (cs.length:Int)).toNat,⋯⟩;have tM:j < cs.length:=⋯
 have A4:cs[j]?=some cs[j]:=Ab tM;obtain⟨t1,me,e1⟩:=ep.at A4;have iV:fB n cs[j]:=hc _<|Bp tM;generalize cs[j]=c1 at e1 iV;refine aT 7 nd<|bb cL<|ae 4<|aU cJ<|ae 1<|bP dH T.len DR<|ai<|ae 4<|ax ⟨lc,_,rfl,.inl<|aj.of el,?_⟩;rw[Aa,JU];refine⟨_,_,rfl,rfl,⋯,lc,_,_,.ref t1,rfl,rfl,aj.of el,by rw[hj];exact T7 me,?_⟩;refine aT 1 nd<|aU iY<|ae 1<|bP dH T.len DR<|ai<|ae 4<|ax ⟨lc,_,rfl,.inl<|aj.of el,?_⟩;rw[Aa,JU];refine⟨_,_,rfl,rfl,⟨⋯,⋯⟩,?_⟩;show Run _ _ _ [⇑R,some<|.int<|b / (cs.length:Int),some<|.str z,some<|.str pt,⇑lc,u1,u2,⇑t1,none,none,none,none] H3;generalize b / (cs.length:Int)=b2;refine aT 8 nd (aU cJ<|ae 1<|aE ⟨_,_,rfl,rfl,(by show(0:Int) < 3;decide),?_⟩);refine aT 1 nd (aU iY<|ae 1<|aE ⟨_,_,rfl,rfl,⟨∅,∅⟩,?_⟩);show Run _ _ _ [⇑R,some<|.int<|b2 / 3,some<|.str z,some<|.str pt,⇑lc,u1,u2,⇑t1,some<|.int<|b2 % 3,none,none,none] H3;generalize b2 / 3=b3;have nn:=hR.same sH;obtain⟨a,ea,fA,eta,T9,era⟩:=nn.at iV.1;have Ua:∀(m:Net),(ag m).length<=200->∀ i,(row m i).length<=200:=λm h i=>By (ju m i) h;have cin:c1.2<=(row n c1.1).length:=by
  have:=iV.2;omega
 refine fP<|cH jl<|ae 8<|aE ⟨rfl,_,rfl,?_⟩;refine iq (λ_=>?_) λ_=>a7 ?_
 ·
  have rl:=ju n c1.1;refine gq<|zG DW LR MF Ik<|bb cv<|bb cL<|ae 0<|bb cv<|ae 7<|aE ⟨t1,_,_,.int (c1.1:Int),rfl,rfl,aS.of e1,rfl,R,_,_,.ref a.1,rfl,rfl,aj.of nn.lst,fA,aE ⟨a.1,_,_,.ref a.2,rfl,rfl,aS.of eta,rfl,Or.inl ⟨rfl,_,aj.of T9⟩,?_⟩⟩;refine bb cv (ae 7<|aE ⟨t1,_,_,.int (c1.2:Int),rfl,rfl,aS.of e1,rfl,ae 2 ⟨a.2,_,_,_,rfl,rfl,T9,⋯,by rwa[Bm,Aa],by rw[Aa];exact bI ⋯,?_⟩⟩);rw[Bm,Sj];have R4:=nn.ins (z:=z) ea iV.1;refine gq<|jQ<|ae 0 ⟨R,rfl,⟨_,R4.lst⟩,fv<|ai<|ae 3<|ai<|dS<|ai<|ae 2<|ax ⟨Z1,λl1 hV=>?_⟩⟩;refine ax ⟨Z2,λt2 jP=>?_⟩;have s5:=aM hV<|Ls [z];have s6:=aM jP<|.tup [.str pt,.ref l1];have R6:=(R4.same s5).same s6;refine⟨_,R6.lst,by rw[Aa];exact bI ⋯,?_⟩;have l1f:H3 l1=none:=by
   by_cases q1:l1=a.2
   ·rw[q1,av]at hV;cases hV
   ·rwa[au q1]at hV
  have l1n:l1∉as.map (·.2):=λhm=>by
   obtain⟨x,hx,e⟩:=Ai.mp hm;exact R4.fresh hV hx e.symm
  have l1R:l1≠R:=λe=>by rw[e,R4.lst]at hV;cases hV
  have R7:=R6.more (t:=t2) (l:=l1) (pt:=pt) (zs:=[z]) av (s6 _ _ av) l1n l1R;have tp:(ag<|ins n c1 z++[(pt,[z])]).Perm (z :: z :: ag n):=by
   unfold ag;rw[Dj];show(ag (ins n c1 z)++[z]).Perm _;exact(Ci).trans<|(l' n c1 z iV.1).cons z
  refine bQ<|ae 1<|q _ _ _ _ R7 (λx o hx iJ=>?_) (λx hx=>?_) tp (.inr ?_) ?_ λhP=>q0a hT hF hz iV tp hP
  ·have x1:x≠R:=λe=>iJ (by rw[e];exact Ag);have x2:x≠a.2:=λe=>iJ (Ak _<|by rw[e];exact Ai.mpr ⟨a,At ea,rfl⟩);rw[au x1];refine s6 _ _<|s5 _ _ ?_;rw[au x2];exact sH _ _ hx
  ·rcases An.mp hx with hx | hx
   ·exact .inl hx
   ·rw[Af]at hx;subst hx;exact .inr<|sH.free l1f
  ·rw[Aj,Jd];rfl
  ·refine .inr ⟨by simp,λi hi=>?_⟩;have hfi:=(Je (z:=z) hF iV.1 hF.either).1;rw[Ad]at hi;simp at hi
   rcases Dr i (ins n c1 z).length with h | h
   ·have:=hfi i h;unfold row at this ⊢;rwa[Aq h]
   ·unfold row;rw[Ba h,show i - (ins n c1 z).length=0 by omega];simp
 ·
  refine aT 9 nd<|dS<|ai<|ae 7<|ax ⟨Z1,λlf Ub=>?_⟩;have s4:=aM Ub<|.lst [.ref t1];have A5:=sH.trans s4;have ra:=nn.same s4;obtain⟨a0,ea0,rd,JY,J0,er0⟩:=ra.at G0;have lf0:∀ x∈as,lf≠x.2:=λx hx=>nn.fresh Ub hx;show Run _ _ _ [⇑R,some<|.int b3,some<|.str z,some<|.str pt,⇑lc,u1,u2,⇑t1,some<|.int<|b2 % 3,⇑lf,none,none] (upd H3 lf<|.lst [.ref t1]);refine RF (λk H'=>ah (upd H3 lf<|.lst [.ref t1]) H'/\(k=true->row n 0≠[])) (λσ' H'=>∃(lf:Addr) (l9:List Addr) (fs:List Nt.End),ah H3 H'/\(∀ x∈as,lf≠x.2)/\H' lf=some (.lst<|l9.map V.ref)/\Pd H' l9 fs/\0 < fs.length/\fs.length<=1000/\(∀ c∈fs,fB n c/\∃ k,it (step n) k c1=c) /\
   σ'=[⇑R,some<|.int b3,some<|.str z,some<|.str pt,⇑lc,u1,u2,⇑t1,some<|.int<|b2 % 3,⇑lf,none,none]) ?_ ?_ (λH5 ⟨s5,_⟩=>a7 ⟨lf,[t1],[c1],s4.trans s5,lf0,s5 _ _ av,.cons (s5 _ _<|s4 _ _ e1) .nil,Fr,by show 1<=1000;decide,λc nq=>by rw[Af]at nq;rw[nq];exact⟨iV,0,rfl⟩,rfl⟩) ?_
  ·refine cH (qw hu)<|bb cv<|bb cL<|ae 0<|aE ⟨R,_,_,.ref a0.1,rfl,rfl,aj.of ra.lst,rd,aE ⟨a0.1,_,_,.ref a0.2,rfl,rfl,aS.of JY,rfl,dS<|ax ⟨Z0,λp hp=>?_⟩⟩⟩;have s5:=aM hp<|.lst []
   by_cases h0:row n 0=[]
   ·refine⟨1,_,∅,zE (k:=0) (xs:=[]) (ys:=[]) (λ_=>true) (aj.of<|by rw[s5 _ _ J0,h0];rfl) (aj.of av) rfl (λj x y hx _=>by simp at hx),_,rfl,s5,λh=>by cases h⟩
   ·refine⟨1,_,∅,RA (k:=1) (aj.of<|s5 _ _ J0) (aj.of (xs:=[]) av) (by rw[Aa];intro h;exact h0<|Cd.mp h),_,rfl,s5,λ_=>h0⟩
  ·rintro H4 ⟨J1,h0⟩;have h0:=h0 rfl;have ra:=ra.same J1;have qW:=hF.cT h0 iV;have pq:=jv n;refine aT 9 nd (bG GF hr<|ai<|ae 0<|ai<|bG GS hr<|ai<|ae 0<|ax ⟨R,as,n,rfl,ra,⋯,⋯,λd ks H5 s5 n5 S5=>?_⟩);refine ai (ae 7<|ax ⟨R,d,t1,as,n,ks,c1,rfl,ra.same s5,S5,hT,s5 _ _<|J1 _ _<|s4 _ _ e1,qW,⋯,λl6 ts6 fs6 H6 s6 n6 e6 p6 f6=>?_⟩);exact a7 ⟨l6,ts6,fs6,s4.trans<|J1.trans<|s5.trans s6,λx hx=>(ra.same s5).fresh n6 hx,e6,p6,f6.pos,by have:=f6.len;omega,λc nq=>⟨k9v<|f6.ends hT qW c nq,q57 f6 nq⟩,rfl⟩
  ·rintro σ' H5 ⟨lf,l9,fs,s5,lfn,J9,Hu,x0C,x0D,J',rfl⟩;have wD:=Hu.length;have n0:0<=b3 % (fs.length:Int):=Bs _ ⋯;have n1:b3 % (fs.length:Int) < fs.length:=Ce _ ⋯;obtain⟨j2,f9⟩:∃ j:Nat,b3 % (fs.length:Int)=j:=⟨(b3 % (fs.length:Int)).toNat,⋯⟩;have wF:j2 < fs.length:=⋯
   have Ka:fs[j2]?=some fs[j2]:=Ab wF;obtain⟨t2,A6,e2⟩:=Hu.at Ka;obtain⟨rg,Kb⟩:=J' _<|Bp wF;generalize fs[j2]=c2 at e2 rg Kb;have qi:=s5 _ _ e1;refine aT 10 nd<|bb cL<|ae 9<|aU cJ<|ae 1<|bP dH T.len DR<|ai<|ae 9<|ax ⟨lf,_,rfl,.inl<|aj.of J9,?_⟩;rw[Aa,wD];refine⟨_,_,rfl,rfl,⋯,lf,_,_,.ref t2,rfl,rfl,aj.of J9,by rw[f9];exact T7 A6,?_⟩;have A7:=nn.same s5;refine lS<|k6q T.sorted<|dS<|ai<|ae 7<|ai<|ae 10<|ax ⟨Z2,λl2 g9=>?_⟩;have s6:=aM g9<|.lst [.ref t1,.ref t2];refine⟨l2,t1,t2,(c1.1:Int),(c1.2:Int),(c2.1:Int),(c2.2:Int),rfl,av,s6 _ _ qi,s6 _ _ e2,λrr Uc=>?_⟩;have rn:∀ x∈as,rr≠x.2:=λx hx=>(A7.same s6).fresh Uc hx;obtain⟨x1,x2,k1,k2,fC,f1,f2,q1,q2,Kc,wG⟩:∃ x1 x2 k1 k2,(if lexLt ((c1.1:Int),(c1.2:Int)) ((c2.1:Int),(c2.2:Int))=true then [V.ref t2,.ref t1]else [.ref t1,.ref t2])=[.ref x1,.ref x2]/\(upd H5 l2<|.lst [.ref t1,.ref t2]) x1=some (Tp k1)/\(upd H5 l2<|.lst [.ref t1,.ref t2]) x2=some (Tp k2)/\fB n k1/\fB n k2/\(k2=k1\/sh k1 k2=k2)/\((∃ k,it (step n) k k1=k2)\/∃ k,it (step n) k k2=k1):=by
    cases Ud:lexLt ((c1.1:Int),(c1.2:Int)) ((c2.1:Int),(c2.2:Int)) with
    | true=>exact⟨t2,t1,c2,c1,rfl,s6 _ _ e2,s6 _ _ qi,rg,iV,.inr<|q1n Ud,.inr Kb⟩
    | false=>exact⟨t1,t2,c1,c2,rfl,s6 _ _ qi,s6 _ _ e2,iV,rg,q2a Ud,.inl Kb⟩
   rw[fC];have s7:=aM Uc<|.lst [.ref x1,.ref x2];have f1:=s7 _ _ f1;have f2:=s7 _ _ f2;have s6:=s6.trans s7;have fr:=av (H:=upd H5 l2<|.lst [.ref t1,.ref t2]) (a:=rr) (o:= .lst [.ref x1,.ref x2]);generalize upd (upd H5 l2<|.lst [.ref t1,.ref t2]) rr (.lst [.ref x1,.ref x2])=H6 at f1 f2 s6 fr ⊢;have nw:ah H H6:=sH.trans<|s5.trans s6;have hR6:=A7.same s6;have wH:qM H H6 (R :: as.map (·.2)):=λx o hx _=>nw _ _ hx;refine⟨rr,rfl,⟨_,aj.of fr⟩,lT (xs:=[.ref x1,.ref x2]) (λi σ H7=>∃(m:Net) (u:Option V),al H7 R as m/\qM H H7 (R :: as.map (·.2))/\H7 rr=some (.lst [.ref x1,.ref x2])/\H7 lf=some (.lst<|l9.map V.ref)/\H7 x1=some (Tp k1)/\H7 x2=some (Tp k2) /\
    ((i=0/\m=n)\/(i=1/\m=ins n k1 z)\/(i=2/\m=ins (ins n k1 z) k2 z))/\σ=[⇑R,some<|.int b3,some<|.str z,some<|.str pt,⇑lc,u1,u2,⇑t1,some<|.int<|b2 % 3,⇑lf,⇑t2,u]) ⟨n,_,hR6,wH,fr,s6 _ _ J9,f1,f2,.inl ⟨rfl,rfl⟩,rfl⟩ ?_ ?_ ?_⟩
   ·rintro i σ H7 _ ⟨m,u,_,_,Kd,_⟩;exact aj.of Kd
   ·rintro i v σ H7 hv ⟨m,u,wI,wJ,Kd,Ue,g1,g2,hm,rfl⟩;have ti1:=(l' n k1 z q1.1).length_eq;rw[As]at ti1;obtain⟨y,k,rfl,hy,hk,df,hml⟩:∃ y k,v = .ref y/\H7 y=some (Tp k)/\fB m k/\((i+1=0/\ins m k z=n)\/(i+1=1/\ins m k z=ins n k1 z)\/(i+1=2/\ins m k z=ins (ins n k1 z) k2 z))/\(ag m).length<=200:=by
     rcases hm with ⟨rfl,rfl⟩ | ⟨rfl,rfl⟩ | ⟨rfl,rfl⟩
     ·cases hv;exact⟨x1,k1,rfl,g1,q1,.inr<|.inl ⟨rfl,rfl⟩,⋯⟩
     ·cases hv;exact⟨x2,k2,rfl,g2,AG q2 q1.1,.inr<|.inr ⟨rfl,rfl⟩,⋯⟩
     ·simp at hv
    refine a8 11 nd ?_;obtain⟨a',Ug,Ke,Kf,nA,x0E⟩:=wI.at hk.1;have rl:=ju m k.1;have sy:k.2<=(row m k.1).length:=by
     have:=hk.2;omega
    refine gq<|zG DW LR MF Ik<|bb cv<|bb cL<|ae 0<|bb cv<|ae 11<|aE ⟨y,_,_,.int (k.1:Int),rfl,rfl,aS.of hy,rfl,R,_,_,.ref a'.1,rfl,rfl,aj.of wI.lst,Ke,aE ⟨a'.1,_,_,.ref a'.2,rfl,rfl,aS.of Kf,rfl,Or.inl ⟨rfl,_,aj.of nA⟩,?_⟩⟩;refine bb cv (ae 11<|aE ⟨y,_,_,.int (k.2:Int),rfl,rfl,aS.of hy,rfl,ae 2 ⟨a'.2,_,_,_,rfl,rfl,nA,⋯,by rwa[Bm,Aa],by rw[Aa];exact bI ⋯,?_⟩⟩);rw[Bm,Sj];have am:a'∈as:=At Ug;refine a7 ⟨ins m k z,_,wI.ins Ug hk.1,λx o hx iJ=>?_,by rwa[au<|rn a' am],by rwa[au<|lfn a' am],by rwa[au<|vQ g1 nA],by rwa[au<|vQ g2 nA],df,rfl⟩;have x2:x≠a'.2:=λe=>iJ (Ak _<|by rw[e];exact Ai.mpr ⟨a',am,rfl⟩);rw[au x2];exact wJ x o hx iJ
   ·rintro σ H7 ⟨m,u,wI,wJ,Kd,Ue,g1,g2,hm,rfl⟩;have em:m=ins (ins n k1 z) k2 z:=by
     rcases hm with ⟨h,_⟩ | ⟨h,_⟩ | ⟨_,h⟩
     ·exact absurd h<|by show ¬(2=0);decide
     ·exact absurd h<|by show ¬(2=1);decide
     ·exact h
    refine bQ<|aU iY<|ae 1<|bP dH T.len DR<|ai<|ae 9<|ax ⟨lf,_,rfl,.inl<|aj.of Ue,?_⟩;rw[Aa,wD];refine⟨_,_,rfl,rfl,⟨⋯,⋯⟩,?_⟩;have fi:=Je (z:=z) hF q1.1 hF.either;have F2:Full (ins n k1 z):= .inr ⟨fi.2,fi.1⟩;have Uh:=Je (z:=z) F2 (AG (z:=z) q2 q1.1).1 F2.either;subst em;exact q _ as _ H7 wI wJ (λx hx=> .inl hx) ((l' _ k2 z (AG (z:=z) q2 q1.1).1).trans<|(l' n k1 z q1.1).cons z) (.inl<|by rw[Jd,Jd]) (.inr ⟨Uh.2,Uh.1⟩) λhP=>q5a hT hF hz q1 q2 ((l' _ k2 z (AG (z:=z) q2 q1.1).1).trans<|(l' n k1 z q1.1).cons z) Kc wG hP
def Kg:Sp:=λvs H Q _=>∃b m sm,vs=[.int b,.int m,.int sm]/\0<=m/\m<=35 /\
 ∀ L as n H',ah H H'->H L=none->al H' L as n->aw n->(n.map (·.1)).Nodup->Full n->HF n->(ag n).length<=2 * m.toNat->n.length<=m.toNat+1->(∀ a∈as,H a.2=none)->Q (.ref L) H'
abbrev NB:Ñ:=["_law_big_here","_law_most","_law_stem","_law_many","_law_ties","_law_points","_law_rows","_law_k","_law_told","_law_row","_law_size"]
def pv:ak NB ["_law_big_here","_law_most","_law_stem"] (aP qJ):=bZ
def Ui(h:H d=some (.lst xs)):mF K "list" (.ref d) H:=Or.inl ⟨rfl,xs,aj.of h⟩
def iI{b:Int}{m:Nat}(h:i < m):fG ((namesOf b m).map V.str) (i:Int)=some (.str<|aW b i):=zK<|k6d h
theorem x0w(F:bo K "_law_net_by" "_law_net_by" qJ f fd)(T:Txt mg)
  (GN:aQ P w K mg Z 4 "_law_names" ["_law_stem","_law_many"] IZ)
  (GP:aQ P w K mg Z 4 "_law_put" ["_law_rows","_law_big_here","_law_tie","_law_point"] JS) :
  aD P w K mg Z bz 5 f fd ["_law_big_here","_law_most","_law_stem"] Kg:=by
 refine F.gc pv λb0 H vs Q E hr h=>?_;obtain⟨b,m,sm,rfl,m0,m35,q⟩:=h;have nd:=pv.nd;have hu:=hr.fQ;have k0:0<=b % (m+1):=Bs _ ⋯;have k1:b % (m+1) < m+1:=Ce _ ⋯;obtain⟨mn,hmn⟩:∃ k:Nat,b % (m+1)=k:=⟨(b % (m+1)).toNat,⋯⟩;have hmm:mn<=m.toNat:=⋯
 refine aT 3 nd<|aU cJ<|ae 0<|aU fj<|ae 1<|aE ⟨_,_,rfl,rfl,?_⟩;refine⟨_,_,rfl,rfl,(by show 0 < m+1;omega),?_⟩;refine aT 0 nd<|aU iY<|ae 0<|aU fj<|ae 1<|aE ⟨_,_,rfl,rfl,?_⟩;refine⟨_,_,rfl,rfl,(by show uN b (m+1);exact⟨⋯,⋯⟩),?_⟩;show Run _ _ _ [some<|.int<|b / (m+1),some<|.int m,some<|.int sm,some<|.int<|b % (m+1),none,none,none,none,none,none,none] H;rw[hmn];generalize b / (m+1)=b1;refine aT 4 nd (bG GN hr<|ai<|ae 2<|ai<|ae 3<|ax ⟨sm,(mn:Int),rfl,⋯,⋯,λlt H1 s1 n1 e1=>?_⟩);rw[Bm]at e1;refine aT 5 nd (bG GN hr<|ai<|bb cL<|dS<|ai<|aU fj<|aU iY<|ae 2<|aE ⟨_,_,rfl,rfl,⟨∅,∅⟩,aE ⟨_,_,rfl,rfl,ai<|ae 2<|ax ⟨Z2,λp hp=>?_⟩⟩⟩);refine mP Il T.m4 JZ (ai<|hG jl<|aU cJ<|ae 2<|aE ⟨_,_,rfl,rfl,(by show(0:Int) < 4;decide),aE ⟨rfl,ax ⟨_,rfl,?_⟩⟩⟩);have s2:=aM hp<|.lst [.int<|sm / 3+1,.int sm];obtain⟨kU,ex⟩:∃ kU:Int,fG [V.int<|sm / 3+1,.int sm] (if decide (V.int (sm % 4)=V.int 1)=true then 1 else 0)=some (.int kU):=by
  cases decide (V.int (sm % 4)=V.int 1) with
  | true=>exact⟨sm,rfl⟩
  | false=>exact⟨sm / 3+1,rfl⟩
 refine⟨p,_,_,.int kU,rfl,rfl,aj.of av,ex,?_⟩;refine ai (aU fj<|ae 3<|aE ⟨_,_,rfl,rfl,ax ⟨kU,(mn:Int)+1,rfl,⋯,⋯,λlp H2 s3 n3 e3=>?_⟩⟩);have em:((mn:Int)+1).toNat=mn+1:=⋯
 rw[em]at e3;have rh:=s1.trans<|s2.trans s3;have e1:=s3 _ _<|s2 _ _ e1;refine aT 6 nd<|dS<|ai<|fv<|ai<|bb cL<|ae 5<|aE ⟨lp,_,_,.str<|aW kU 0,rfl,rfl,aj.of e3,iI<|Gd _,ai<|dS<|ax ⟨Z0,λl1 hV=>?_⟩⟩;refine ax ⟨Z2,λt1 Kh=>ax ⟨Z1,λR Ki=>?_⟩⟩;have s4:=aM hV<|Ls [];have s5:=aM Kh<|.tup [.str<|aW kU 0,.ref l1];have s6:=aM Ki<|.lst [.ref t1];have hR0:al (upd (upd (upd H2 l1<|.lst []) t1<|.tup [.str<|aW kU 0,.ref l1]) R<|.lst [.ref t1]) R [(t1,l1)] [(aW kU 0,[])]:=by
  refine⟨rfl,av,λi a r h1 h2=>?_,by simp⟩;cases i with
  | zero=>
   cases h1;cases h2;exact⟨s6 _ _ av,s6 _ _<|s5 _ _ av⟩
  | succ i=>simp at h1
 have fR:=s4.free<|s5.free Ki;refine ke T.range (ae 3 ⟨(mn:Int),rfl,⋯,⋯,?_⟩);rw[Bm];refine kg (λk σ H3=>∃as n b u,al H3 R as n/\ah H2 H3/\(∀ a∈as,H2 a.2=none)/\Full n/\HF n/\(ag n).Perm (dbl<|namesOf sm k)/\n.map (·.1)=namesOf kU n.length/\n.length<=k+1 /\
  σ=[some<|.int b,some<|.int m,some<|.int sm,some<|.int (mn:Int),⇑lt,⇑lp,⇑R,u,none,none,none]) ⟨_,_,b1,_,hR0,s4.trans<|s5.trans s6,λa ha=>by rw[Af]at ha;rwa[ha],.inl ⟨_,rfl⟩,q8d,List.Perm.refl _,rfl,Am _,rfl⟩ ?_ ?_
 ·rintro k σ H3 hk ⟨as,n,b,u,hR,sH,i0,hF,A8,hp,Kj,hlen,rfl⟩;rw[Dw];refine a8 7 nd ?_;have b4:=hR.len;have tl:=hp.length_eq;rw[Jg,Iv]at tl;have nz:aW sm k∉ag n:=λh=>by
   have h1:=jb.mp<|hp.mem_iff.mp h;have h2:=zP (b:=sm) (m:=k+1) ⋯;rw[zQ,Cj]at h2;exact h2.2.2 _ h1 _ (Af.mpr rfl) rfl
  have n0:0 < n.length:=Du.mpr hF.some;refine aT 0 nd<|bG GP hr<|ai<|ae 6<|ai<|ae 0<|ai<|bb cL<|ae 4<|ae 7 ⟨lt,_,_,.str<|aW sm k,rfl,rfl,aj.of<|sH _ _ e1,iI hk,?_⟩;refine ai<|bb cL<|ae 5<|bP dH T.len DR<|ai<|ae 6<|ax ⟨R,_,rfl,.inl<|aj.of hR.lst,?_⟩;rw[Aa,b4];refine⟨lp,_,_,.str<|aW kU n.length,rfl,rfl,aj.of<|sH _ _ e3,iI ⋯,?_⟩;refine ax ⟨R,as,n,b,aW sm k,aW kU n.length,rfl,hR,Sl (zP<|⋯) hp,hF,nz,⋯,⋯,λi qZ n' H' hR' kp Kk pA wK hF' Kl=>?_⟩;have sH':ah H2 H':=λx o hx=>by
   refine kp x o (sH _ _ hx) λhm=>?_
   rcases Al.mp hm with h | h
   ·rw[h,fR]at hx;cases hx
   ·obtain⟨y,hy,e⟩:=Ai.mp h;rw[<- e,i0 y hy]at hx;cases hx
  refine a7 ⟨qZ,n',i,_,hR',sH',λy hy=>?_,hF',Kl A8,?_,?_,?_,rfl⟩
  ·rcases Kk y hy with h | h
   ·exact i0 y h
   ·exact sH.free h
  ·refine pA.trans ?_;rw[zQ,q3t];refine List.Perm.trans ?_ Ci;exact((hp.cons _).cons _)
  ·rcases wK with h | h
   ·have hl:=BZ List.length h;rw[Aa,Aa]at hl;rwa[h,hl]
   ·have hl:=BZ List.length h;rw[Aa,Ad,Aa]at hl;have oR:n'.length=n.length+1:=hl;rw[h,oR,zQ,Kj]
  ·rcases wK with h | h
   ·have hl:=BZ List.length h;rw[Aa,Aa]at hl;omega
   ·have hl:=BZ List.length h;rw[Aa,Ad,Aa]at hl;have oR:n'.length=n.length+1:=hl;omega
 rintro σ H3 ⟨as0,n0,b,u,hR,sH,i0,hF,x0F,hp,Kj,hlen,rfl⟩;have tl:=hp.length_eq;rw[Jg,Iv]at tl;have Uj:aw n0:=Sl (zP<|⋯) hp;have hN0:(n0.map (·.1)).Nodup:=by rw[Kj];exact zP<|⋯
 refine aT 8 nd<|dS<|ax ⟨Z0,λL hL=>?_⟩;have s7:=aM hL<|.lst [];have Uk:R≠L:=bh hR.lst hL;have fL:H2 L=none:=sH.free hL;have A9:al (upd H3 L<|.lst []) L [] []:=⟨rfl,av,λi a r h1=>by simp at h1,by simp⟩;refine vP (λk σ H4=>∃(as pB:Ï) (n n2:Net) (b:Int) (u9 Ul:Option V),k=n.length/\al H4 R as n/\al H4 L pB n2/\ah H2 H4/\(∀ a∈as,a.2≠L)/\(∀ a∈pB,a.2≠R)/\(∀ a∈pB,H2 a.2=none)/\n.length+n2.length=n0.length /\
   (ag n++ag n2).Perm (ag n0)/\(n.map (·.1)++n2.map (·.1)).Perm (n0.map (·.1))/\(NE n0->NE n/\NE n2)/\HF (n++n2) /\
   σ=[some<|.int b,some<|.int m,some<|.int sm,some<|.int (mn:Int),⇑lt,⇑lp,⇑R,u,⇑L,u9,Ul])
  (m0:=n0.length) ⟨as0,[],n0,[],b,_,_,rfl,hR.same s7,A9,sH.trans s7,λa ha=>(hR.fresh hL ha).symm,λa ha=>(nomatch ha),λa ha=>(nomatch ha),rfl,by simp[ag],by simp,λh=>⟨h,λr hr=>(nomatch hr)⟩,by rwa[Be],rfl⟩ ?_
 rintro k σ H4 ⟨as,pB,n,n2,b,u9,Ul,rfl,hR,nB,sH,aL,aR,Um,wL,pt,pn,bA,A8,rfl⟩;have b4:=hR.len;have Km:=nB.len;have Kn:(ag n).length<=70:=by
  have:=pt.length_eq;rw[Ad]at this;omega
 refine cH (qw hu)<|ae 6<|dS<|ax ⟨Z0,λp kd=>?_⟩;have s8:=aM kd<|.lst []
 by_cases h0:n=[]
 ·subst h0;have ea:as=[]:=Cd.mp (by simpa using b4);subst ea;refine⟨1,_,∅,zE (k:=0) (xs:=[]) (ys:=[]) (λ_=>true) (aj.of<|s8 _ _ hR.lst) (aj.of av) rfl (λj x y hx _=>by simp at hx),_,rfl,bH<|bQ<|ae 8 ?_⟩;have gU:(ag n2).Perm (ag n0):=pt;have pn':(n2.map (·.1)).Perm (n0.map (·.1)):=pn;have l2:n2.length=n0.length:=by simpa using wL
  refine q L pB n2 _ (rh.trans<|sH.trans s8) (rh.free fL) (nB.same s8) (λz hz=>?_) (pn'.nodup_iff.mpr hN0) ?_ A8 (by rw[gU.length_eq];omega) ⋯ λa ha=>rh.free<|Um a ha
  ·rw[gU.count_eq];exact Uj z<|gU.mem_iff.mp hz
  ·rcases hF.ne with ⟨nm,h⟩ | h
   ·subst h;have t0:ag n2=[]:=List.Perm.eq_nil gU
    match n2,l2,t0 with
    | [(nm2,zs)],_,t0=>
     have:zs=[]:=by simpa[ag]using t0
     subst this;exact .inl ⟨_,rfl⟩
   ·refine q7r (bA h).2 λe=>?_;rw[e]at l2;exact hF.some<|Cd.mp l2.symm
 ·have np:0 < n.length:=Du.mpr h0;refine⟨1,_,∅,RA (k:=1) (aj.of<|s8 _ _ hR.lst) (aj.of (xs:=[]) av) (by rw[Aa,b4];exact Cw np),_,rfl,cz ?_⟩;have hR:=hR.same s8;have nB:=nB.same s8;have sH:=sH.trans s8;generalize upd H4 p (.lst [])=H5 at hR nB sH ⊢;have r0:0<=b % (n.length:Int):=Bs _ ⋯;have r1:b % (n.length:Int) < n.length:=Ce _ ⋯;obtain⟨j,hj⟩:∃ k:Nat,b % (n.length:Int)=k:=⟨(b % (n.length:Int)).toNat,⋯⟩;have ri:j < n.length:=⋯
  obtain⟨a,ea,fA,et,el,er⟩:=hR.at ri;refine aT 9 nd<|zF DW VN VP ZO<|ae 6 ⟨Ui hR.lst,aU cJ<|ae 0<|bP dH T.len DR<|ai<|ae 6<|ax ⟨R,_,rfl,.inl<|aj.of hR.lst,?_⟩⟩;rw[Aa,b4];refine⟨_,_,rfl,rfl,⋯,R,_,_,j,.ref a.1,rfl,rfl,hR.lst,by rw[hj];omega,by rw[hj];omega,?_,?_,?_⟩
  ·rw[hj,Aa,b4];unfold seqIndex?;have c1:¬((j:Int) < 0):=⋯
   simp only[c1,CV];have c2:(decide (0<=(j:Int)) && decide ((j:Int) < (n.length:Int)))=true:=by
    rw[Bq,DN,DN];omega
   rw[BP c2,Bm]
  ·rw[Ah,ea];rfl
  have R6:=hR.erase ri;have am:a∈as:=At ea;have Ko:∀ x∈as,x.2≠R:=λx hx e=>by
   obtain⟨zs,e2⟩:=hR.lists hx;have h3:=hR.lst;rw[<- e,e2]at h3;have h4:=HO.lst.inj<|Option.some.inj h3;cases as with
   | nil=>cases hx
   | cons b' bs=>
    cases zs with
    | nil=>simp at h4
    | cons y r=>simp at h4
  have L6:=nB.upd (o:= .lst<|(as.map λa=>V.ref a.1).eraseIdx j) hR.lst Uk.symm aR;have pC:(upd H5 R<|.lst<|(as.map λa=>V.ref a.1).eraseIdx j) a.1=some (.tup [.str n[j].1,.ref a.2]):=by rwa[au<|bV et hR.lst λe=>nomatch e]
  have BA:(upd H5 R<|.lst<|(as.map λa=>V.ref a.1).eraseIdx j) a.2=some (Ls<|row n j):=by rwa[au<|Ko a am]
  have nw:ah H2 (upd H5 R<|.lst<|(as.map λa=>V.ref a.1).eraseIdx j):=cX sH fR;generalize upd H5 R (.lst<|(as.map λa=>V.ref a.1).eraseIdx j)=H6 at R6 L6 pC BA nw ⊢;have le6:=R6.len;have rj:(n.eraseIdx j).length=n.length - 1:=by rw[Dg,BP ri]
  refine aT 0 nd<|aU iY<|ae 0<|aU fj<|bP dH T.len DR<|ai<|ae 6<|ax ⟨R,_,rfl,.inl<|aj.of R6.lst,aE ⟨_,_,rfl,rfl,?_⟩⟩;rw[Aa,le6,rj];refine⟨_,_,rfl,rfl,⟨⋯,⋯⟩,?_⟩;have x0G:=ju n j;refine aT 10 nd<|bP (PF rfl) T.max VL<|ai<|aE<|ai<|bP dH T.len DR<|ai<|bb cv<|ae 9<|aE ⟨a.1,_,_,.ref a.2,rfl,rfl,aS.of pC,rfl,ax ⟨a.2,_,rfl,.inl<|aj.of BA,?_⟩⟩;rw[Aa];refine ax ⟨1,_,rfl,?_⟩;have emx:(if((row n j).length:Int) > 1 then((row n j).length:Int)else 1)=((max 1 (row n j).length:Nat):Int):=by
   split <;> omega
  rw[emx];show Run _ _ _ [some<|.int<|b / ((n.length - 1:Nat)+1:Int),some<|.int m,some<|.int sm,some<|.int (mn:Int),⇑lt,⇑lp,⇑R,u,⇑L,some<|.ref a.1,some<|.int ((max 1 (row n j).length:Nat):Int)] H6;generalize b / ((n.length - 1:Nat)+1:Int)=b2;have z0:0<=b2 % ((max 1 (row n j).length:Nat):Int):=Bs _ ⋯;obtain⟨i,hi⟩:∃ k:Nat,b2 % ((max 1 (row n j).length:Nat):Int)=k:=⟨(b2 % ((max 1 (row n j).length:Nat):Int)).toNat,⋯⟩;refine gq<|jQ<|ae 8 ⟨L,rfl,⟨_,L6.lst⟩,fv<|ai<|bb cv<|ae 9<|aE ⟨a.1,_,_,.str n[j].1,rfl,rfl,aS.of pC,rfl,?_⟩⟩;refine ai (aU yW<|y7 yU<|bb cv<|ae 9<|aE ⟨a.1,_,_,.ref a.2,rfl,rfl,aS.of pC,rfl,y9<|aU cJ<|ae 0<|ae 10 ⟨b2,((max 1 (row n j).length:Nat):Int),rfl,rfl,⋯,_,rfl,y8 ⟨a.2,_,rfl,aj.of BA,λp1 wM=>?_⟩⟩⟩);rw[hi,q05];have t1:=aM wM<|Ls<|(row n j).drop i;refine y7 yU (bb cv<|ae 9<|aE ⟨a.1,_,_,.ref a.2,rfl,rfl,aS.of<|t1 _ _ pC,rfl,y8<|y9<|aU cJ<|ae 0<|ae 10 ⟨b2,((max 1 (row n j).length:Nat):Int),rfl,rfl,⋯,_,rfl,a.2,_,rfl,aj.of<|t1 _ _ BA,λp2 kd=>?_⟩⟩);rw[hi,q9d];have t2:=aM kd<|Ls<|(row n j).take i;refine⟨p1,p2,_,_,rfl,rfl,t2 _ _ av,av,?_,λp3 nG=>?_⟩
  ·rw[Aa,Aa,Dd,Bh];exact small<|⋯
  rw[<- Aj];have t3:=aM nG<|Ls<|(row n j).drop i++(row n j).take i;refine ax ⟨Z2,λt4 ht4=>?_⟩;have s4:=aM ht4<|.tup [.str n[j].1,.ref p3];have rk:=t1.trans<|t2.trans<|t3.trans s4;have L7:=L6.same rk;have R7:=R6.same rk;have p3L:p3≠L:=λe=>by rw[e,(t1.trans t2) _ _ L6.lst]at nG;cases nG
  have p3R:p3≠R:=λe=>by rw[e,(t1.trans t2) _ _ R6.lst]at nG;cases nG
  have p3n:p3∉pB.map (·.2):=λhm=>by
   obtain⟨y,hy,e⟩:=Ai.mp hm;exact(L6.same<|t1.trans t2).fresh nG hy e.symm
  have L8:=L7.more (t:=t4) (l:=p3) (pt:=n[j].1) (zs:=(row n j).drop i++(row n j).take i) av (s4 _ _ av) p3n p3L;refine⟨_,L7.lst,by rw[Aa,Km];exact bI ⋯,?_⟩;have Uo:∀ x∈as.eraseIdx j,x.2≠L:=λx hx=>aL x<|Fa hx;have R8:=R7.upd (o:= .lst<|pB.map (λa=>V.ref a.1)++[.ref t4]) L7.lst Uk Uo;refine aT 0 nd (aU iY<|ae 0<|ae 10 ⟨b2,((max 1 (row n j).length:Nat):Int),rfl,rfl,⟨⋯,⋯⟩,?_⟩);have pe:=Sn n j ri;have ne:=k2z n j ri;have Uq:(ag (n.eraseIdx j)++ag (n2++[(n[j].1,(row n j).drop i++(row n j).take i)])).Perm (ag n0):=by
   refine List.Perm.trans ?_ pt;unfold ag;rw[Dj];show(ag (n.eraseIdx j)++(ag n2++(((row n j).drop i++(row n j).take i)++[]))).Perm _;rw[Be,er];have w1:(n[j].2.drop i++n[j].2.take i).Perm n[j].2:=Jh _ _;refine((w1.append_left _).append_left _).trans ?_;have w2:(ag n++ag n2).Perm ((n[j].2++ag (n.eraseIdx j))++ag n2):=pe.append_right _;refine List.Perm.trans ?_ w2.symm;rw[Au];refine List.Perm.trans ?_<|Ci (l₁:=ag (n.eraseIdx j)++ag n2);rw[Au]
  refine a7 ⟨n.length - 1,⋯,as.eraseIdx j,pB++[(t4,p3)],n.eraseIdx j,n2++[(n[j].1,(row n j).drop i++(row n j).take i)],_,_,_,rj.symm,R8,L8,cX (nw.trans rk) fL,Uo,λx hx=>?_,λx hx=>?_,?_,Uq,?_,λh=>⟨λr hr=>?_,λr hr=>?_⟩,q7w ri (by have:=Ce b2 (show(0:Int) < ((max 1 (row n j).length:Nat):Int) by omega);rw[hi]at this;exact Int.ofNat_lt.mp this) Uj pt Uq A8,rfl⟩
  ·rcases An.mp hx with hx | hx
   ·exact aR x hx
   ·rw[Af]at hx;rwa[hx]
  ·rcases An.mp hx with hx | hx
   ·exact Um x hx
   ·rw[Af]at hx;rw[hx];exact nw.free<|t1.free<|t2.free nG
  ·rw[Ad,rj];simp;omega
  ·refine List.Perm.trans ?_ pn;rw[Aj];show((n.eraseIdx j).map (·.1)++(n2.map (·.1)++[n[j].1])).Perm _;refine List.Perm.trans ?_ (ne.append_right _).symm;rw[<- Au];exact Ci
  ·exact(bA h).1 r<|Fa hr
  ·rcases An.mp hr with hr | hr
   ·exact(bA h).2 r hr
   ·rw[Af]at hr;rw[hr];intro e;have w1:=(Jh (row n j) i).length_eq;have e':(row n j).drop i++(row n j).take i=[]:=e;rw[e']at w1;have:=(bA h).1 n[j]<|Bp ri;rw[er]at w1;exact this<|Cd.mp w1.symm
def Kq:Sp:=λvs H Q _=>∃R as n,vs=[.ref R]/\al H R as n/\n.length<=1000/\∀ L qZ H',ah H H'->H L=none->(∀ a∈qZ,H a.1=none/\H a.2=none)->al H' L qZ n->Q (.ref L) H'
theorem jV{l:Addr}(s:ah H H')(h:H' l=none):H l=none:=by
 cases e:H l with
 | none=>rfl
 | some v=>rw[s _ _ e]at h;cases h
abbrev NC:Ñ:=["_law_rows"]
abbrev Ur:Ñ:=["_law_rows","_law_row"]
def kW:ak NC ["_law_rows"] (aP z6):=bZ
def Kr:Ur.Nodup:=by decide +kernel
theorem q7q(F:bo K "_law_copy" "_law_copy" z6 f fd)(T:Txt mg):aD P w K mg Z bz 1 f fd ["_law_rows"] Kq:=by
 refine F.gc kW λb0 H vs Q E hr h=>?_;obtain⟨R,as,n,rfl,hR,hn,q⟩:=h;have b4:=hR.len;refine bQ<|gu (aP z6) NC Ur 1 (eB bd)<|ae 0 ⟨R,rfl,⟨_,aj.of hR.lst⟩,λD hD=>?_⟩;refine jS (xs:=as.map λa=>V.ref a.1) (λi σ' H'=>(∃ v,σ'=[⇑R]++[v])/\∃ bs:Ï,bs.length=i/\H' D=some (.lst<|bs.map λa=> .ref a.1) /\
  (∀(j:Nat) a r,bs[j]?=some a->n[j]?=some r->H' a.1=some (.tup [.str r.1,.ref a.2])/\H' a.2=some (Ls r.2))/\(bs.map (·.2)).Nodup/\(∀ a∈bs,a.2≠D/\H a.1=none/\H a.2=none/\∃ zs,H' a.2=some (Ls zs))/\ah H H')
  ⟨⟨none,rfl⟩,[],rfl,av,λj a r h=>by simp at h,Cn,λa h=>by simp at h,aM hD _⟩ ?_ ?_ ?_
 ·rintro i σ' H' _ ⟨_,bs,_,_,_,_,_,sm⟩;exact aj.of<|sm _ _ hR.lst
 ·rintro i x σ' H' hx ⟨⟨v,rfl⟩,bs,mZ,jt,Ks,wN,t6,sm⟩;have hi:i < n.length:=by
   have:=(Ac.mp hx).1;rw[Aa]at this;omega
  obtain⟨a,ea,fA,et,el,er⟩:=(hR.same sm).at hi;rw[Ah,ea]at hx;cases hx;intro cl C' æ ç ex;refine a8 1 Kr ?_;intro cl C' æ ç ex;refine iA ?_;rw[BP rfl];intro cl C' æ ç ex;refine fv<|ai<|bb cv<|ae 1<|aE ⟨a.1,_,_,.str n[i].1,rfl,rfl,aS.of et,rfl,?_⟩;refine ai<|mP E5 T.gR IK<|ai<|bb cv<|ae 1<|aE ⟨a.1,_,_,.ref a.2,rfl,rfl,aS.of et,rfl,?_⟩;refine ax ⟨a.2,_,rfl,.inl<|aj.of el,λl hl=>ax ⟨Z2,λt ht=>?_⟩⟩;have iw:=jV sm hl;have Kt:t≠l:=λe=>by rw[e,av]at ht;cases ht
  have dX:H' t=none:=by rwa[au Kt]at ht
  have rm:=jV sm dX;have t7:l≠D:=λe=>by rw[e]at hl;rw[hl]at jt;cases jt
  have BD:t≠D:=λe=>by rw[e]at dX;rw[dX]at jt;cases jt
  refine⟨bs.map λa=> .ref a.1,?_,?_,⟨_,rfl⟩,bs++[(t,l)],by rw[Ad,mZ];rfl,?_,?_,?_,?_,?_⟩
  ·rwa[au<|CG BD,au<|CG t7]
  ·rw[Aa];exact bI<|⋯
  ·rw[av,Aj];rfl
  ·intro j b r hb kR
   by_cases hj:j < bs.length
   ·rw[Aq hj]at hb;obtain⟨q1,q2⟩:=Ks j b r hb kR;have hbD:=(t6 b<|At hb).1;have n1:b.1≠D:=bV q1 jt λz=>nomatch z;refine⟨?_,?_⟩
    ·rwa[au n1,au<|bh q1 dX,au<|bh q1 hl]
    ·rwa[au hbD,au<|bh q2 dX,au<|bh q2 hl]
   ·rw[Ba<|⋯]at hb;have f9:j - bs.length=0:=by
     have:=(Ac.mp hb).1;simp at this;omega
    have BE:j=i:=⋯
    rw[f9]at hb;cases hb;rw[BE,Ab hi]at kR;cases kR;refine⟨?_,?_⟩
    ·rw[au BD,av]
    ·rw[au t7,au<|CG Kt,av,er]
  ·rw[Aj];refine lQ wN λhm=>?_;obtain⟨b,hb,e⟩:=Ai.mp hm;obtain⟨_,_,_,zs,q⟩:=t6 b hb;have e':b.2=l:=e;rw[e',hl]at q;cases q
  ·intro b hb
   rcases An.mp hb with hb | hb
   ·obtain⟨q1,q2,q3,zs,q4⟩:=t6 b hb;refine⟨q1,q2,q3,zs,?_⟩;rwa[au q1,au<|bh q4 dX,au<|bh q4 hl]
   ·rw[Af.mp hb];refine⟨t7,rm,iw,row n i,?_⟩;rw[au t7,au<|CG Kt,av]
  ·intro c o hc;rw[au<|bh hc hD,au<|bh hc rm,au<|bh hc iw];exact sm _ _ hc
 ·rintro σ' H' ⟨_,bs,mZ,jt,Ks,wN,t6,sm⟩;rw[Aa]at mZ;exact q D bs H' sm hD (λa ha=>⟨(t6 a ha).2.1,(t6 a ha).2.2.1⟩) ⟨⋯,jt,Ks,wN⟩
abbrev Tn(p:Str)(j:Int):HO:= .tup [.str p,.int j]
def wO:Sp:=λvs H Q _=>∃(t l:Addr) (p:Str) (zs:Ñ),vs=[.ref t]/\H t=some (.tup [.str p,.ref l])/\H l=some (Ls zs)/\zs.length<=1000 /\
 ∀(L:Addr) (ts:List Addr) (H':Hp),ah H H'->H L=none->H' L=some (.lst<|ts.map V.ref)->ts.length=zs.length->(∀(j:Nat) t,ts[j]?=some t->H' t=some (Tn p j))->Q (.ref L) H'
variable{N':Ñ}{σ:St}{scope:Scope}{ifs:Ô}{tg:Expr}{X:Cx}
section
variable{elt:Expr}{A:Addr}{after:Hp->Prop}
theorem Ku{lo:Int}{n:Nat}(Pv:Nat->St->Hp->Prop)(h0:Pv 0 σ H)
  (hs : ∀ i σ' H', i < n → Pv i σ' H' → vw X N' scope tg (.int<|lo + i) σ' H' λσ2 H3 => vx X N' scope ifs σ2 H3 λb H4 =>
   if b=true then vt X N' scope elt σ2 H4 λv H5=>∃ ys,H5 A=some (.lst ys)/\ys.length < sizeLine/\Pv (i+1) σ2 (upd H5 A<|.lst<|ys++[v])else Pv (i+1) σ2 H4)
  (hd:∀ σ' H',Pv n σ' H'->after H'):lU X N' scope tg ifs elt (sN lo n) A after σ H:=by
 refine⟨λi m σ' H'=>m=n - i/\i<=n/\Pv i σ' H',⟨_,rfl,Bu _,h0⟩,?_⟩;rintro i m σ' H' ⟨rfl,hi,p⟩
 by_cases aV:i < n
 ·refine .inr ⟨aV,Pv<|i+1,λσ' H' p'=>⟨n - (i+1),⋯,rfl,aV,p'⟩,λx H2 y=>?_⟩;obtain⟨e,y⟩:=y;subst e y;exact hs i σ' _ aV p
 ·have e:i=n:=⋯
  subst e;exact .inl ⟨Am _,hd σ' H' p⟩
end
variable{Y:List (Key×V)}{r:Str×List Str}{as:Ï}{n:Net}
abbrev Us:Ñ:=["row","point","ties"]
abbrev Ut:Ñ:=["row","point","ties","place"]
def kX:ak Us ["row"] (aP zR):=bZ
def x2r:Ut.Nodup:=by decide +kernel
theorem q5d(F:bo K "ends_round" "ends_round" zR f fd)(T:Txt mg):aD P w K mg Z bz 1 f fd ["row"] wO:=by
 refine F.gc kX λb0 H vs Q E hr h=>?_;obtain⟨t,l,p,zs,rfl,ht,hl,hz,q⟩:=h;have nd:=kX.nd;refine F8<|ae 0<|jT rfl (aS.of ht) (a8 1 nd<|a8 2 nd ?_);refine bQ<|gu (aP zR) Us Ut 1 (yM rfl T.range (ta:=vh _ _) gL (qf _ [] _ rfl)) ?_;show Ea _ _ _ _ _;refine ai (bP dH T.len DR<|ai<|ae 2<|ax ⟨l,_,rfl,.inl<|aj.of hl,ax ⟨_,rfl,⋯,by rw[Aa];omega,λD hD=>?_⟩⟩);rw[Aa,Bm];refine Ku (λi σ' H'=>(∃ v,σ'=[⇑t,some<|.str p,⇑l]++[v])/\∃ ts:List Addr,ts.length=i/\H' D=some (.lst<|ts.map V.ref)/\(∀(j:Nat) t,ts[j]?=some t->H' t=some (Tn p j))/\ah H H')
  ⟨⟨none,rfl⟩,[],rfl,av,λj t h=>by simp at h,aM hD _⟩ ?_ ?_
 ·rintro i σ' H' hi ⟨⟨v,rfl⟩,ts,hV,eD,wQ,sm⟩;rw[Dw];intro cl C' æ ç ex;refine a8 3 x2r ?_;intro cl C' æ ç ex;refine iA ?_;rw[BP rfl];intro cl C' æ ç ex;refine fv<|ai<|ae 1<|ai<|ae 3<|ax ⟨Z2,λu hu=>?_⟩;have nu:u≠D:=λe=>by rw[e,eD]at hu;cases hu
  have hu0:=jV sm hu;refine⟨ts.map V.ref,by rwa[au<|CG nu],by rw[Aa];exact bI ⋯,⟨_,rfl⟩,ts++[u],by rw[Ad,hV];rfl,by rw[av,Aj];rfl,?_,?_⟩
  ·intro j t' dX
   by_cases hj:j < ts.length
   ·rw[Aq hj]at dX;have e:=wQ j t' dX;have n1:t'≠D:=bV e eD λz=>nomatch z;rwa[au n1,au<|bh e hu]
   ·rw[Ba<|⋯]at dX;have f9:j - ts.length=0:=by
     have:=(Ac.mp dX).1;simp at this;omega
    rw[f9]at dX;cases dX;have:j=i:=⋯
    rw[this,au nu,av]
  ·intro c o hc;rw[au<|bh hc hD,au<|bh hc hu0];exact sm _ _ hc
 ·rintro σ' H' ⟨_,ts,hV,eD,wQ,sm⟩;exact q D ts H' sm hD eD hV wQ
def iK(g:Int->Int):Sp:=λvs H Q _=>∃e p j m,vs=[.ref e,.int m]/\H e=some (Tn p j)/\0 < m/\∀ t H',ah H H'->H' t=some (Tn p<|g j % m)->Q (.ref t) H'
abbrev Uu:Ñ:=["end","many","point","place"]
def kY:ak Uu ["end","many"] (aP Iw):=bZ
def gX:ak Uu ["end","many"] (aP Iy):=bZ
def q6t(F:bo K "turned_left" "turned_left" Iw f fd)(T:Txt mg):aD P w K mg Z bz 1 f fd ["end","many"] (iK λj=>j+1):=by
 refine F.gc kY λb0 H vs Q E hr h=>?_;obtain⟨e,p,j,m,rfl,he,hm,q⟩:=h;have nd:=kY.nd;refine F8<|ae 0<|jT rfl (aS.of he) (a8 2 nd<|a8 3 nd ?_);refine bQ (fv<|ai<|ae 2<|ai<|aU cJ<|aU fj<|ae 3<|aE ⟨_,_,rfl,rfl,ae 1 ⟨_,_,rfl,rfl,(by show 0 < m;exact hm),ax ⟨Z2,λt ht=>?_⟩⟩⟩);exact q t _ (aM ht _) av
def k95(F:bo K "turned_right" "turned_right" Iy f fd)(T:Txt mg):aD P w K mg Z bz 1 f fd ["end","many"] (iK λj=>j - 1):=by
 refine F.gc gX λb0 H vs Q E hr h=>?_;obtain⟨e,p,j,m,rfl,he,hm,q⟩:=h;have nd:=gX.nd;refine F8<|ae 0<|jT rfl (aS.of he) (a8 2 nd<|a8 3 nd ?_);refine bQ (fv<|ai<|ae 2<|ai<|aU cJ<|aU Pq<|ae 3<|aE ⟨_,_,rfl,rfl,ae 1 ⟨_,_,rfl,rfl,(by show 0 < m;exact hm),ax ⟨Z2,λt ht=>?_⟩⟩⟩);exact q t _ (aM ht _) av
theorem q12:∀{acc},((acc++Y).map (·.1)).Nodup->Y.foldl (λa p=>putK a p.1 p.2) acc=acc++Y:=by
 induction Y with
 | nil=>intro acc _;simp
 | cons p r ih=>
  intro acc h;have hn:ao acc p.1=none:=by
   cases e:ao acc p.1 with
   | none=>rfl
   | some v=>
    have hm:=Ql e;rw[Aj,Bn]at h;exact absurd rfl ((Cj.mp h).2.2 _ hm _ Ag)
  rw[Dp,Qg _ hn,ih (by rwa[Au]),Au];rfl
theorem Uv:∀{Y:List (Key×V)} {i:Nat} {p:Key×V},(Y.map (·.1)).Nodup->Y[i]?=some p->ao Y p.1=some p.2
 | [],_,_,_,h=>by simp at h
 | q :: r,0,p,_,h=>by
  cases h;exact gJ rfl
 | q :: r,i+1,p,hn,h=>by
  rw[Bn,Bk]at hn;have hm:r[i]?=some p:=by simpa using h
  rw[gK λe=>hn.1<|by rw[e];exact Ai.mpr ⟨p,At hm,rfl⟩];exact Uv hn.2 hm
def iL(n:Net)(as:Ï):List (Key×V):=List.zipWith (λr a=>(Sum.inr r.1,V.ref a.2)) n as
theorem Uw:∀n as,as.length=n.length->(iL n as).map (·.1)=(n.map (·.1)).map Sum.inr
 | [],[],_=>rfl
 | [],_ :: _,h=>by simp at h
 | _ :: _,[],h=>by simp at h
 | r :: n,a :: as,h=>by
  have:=Uw n as (by simpa using h);show Sum.inr r.1 :: (iL n as).map (·.1)=_;rw[this];rfl
def Ux{a:Addr×Addr}(h1:n[i]?=some r)(h2:as[i]?=some a):(iL n as)[i]?=some (Sum.inr r.1,.ref a.2):=by
 unfold iL;rw[List.getElem?_zipWith,h1,h2]
def k9x{l:Ñ}(h:l.Nodup):(l.map (Sum.inr:Str->Key)).Nodup:=by
 rw[Ay,Cs];exact(Ay.mp h).imp λh q=>h<|Sum.inr.inj q
def nameAt(n:Net)(r:Nat):Str:=((n[r]?).map (·.1)).getD ⟨#[]⟩
def key(n:Net)(e:Nt.End):List Key:=[Sum.inr<|nameAt n e.1,Sum.inl (e.2:Int)]
abbrev TN(n:Net)(e:Nt.End):HO:=Tn (nameAt n e.1) (e.2:Int)
def ro{r:Nat}(h:r < n.length):nameAt n r=n[r].1:=by unfold nameAt;rw[Ab h];rfl
variable{a:Nt.End}
theorem t8(hN:(n.map (·.1)).Nodup){b:Nt.End}(ha:a.1 < n.length)(hb:b.1 < n.length)(h:key n a=key n b):a=b:=by
 unfold key at h
 injection h with h1 h2
 injection h2 with h2 _
 have e1:=Sum.inr.inj h1;have e2:=Sum.inl.inj h2;rw[ro ha,ro hb]at e1;have e3:a.1=b.1:=by
  have la:a.1 < (n.map (·.1)).length:=by rwa[Aa]
  have lb:b.1 < (n.map (·.1)).length:=by rwa[Aa]
  refine(Gj (h₀:=la) (h₁:=lb) hN).mp ?_;rwa[Dy,Dy]
 exact JC e3<|⋯
variable{z:Str}
def wR{r p:Nat}(hr:r < n.length)(hz:(row n r)[p]?=some z):∃ rest,bt n=(bt (n.take r)++bJ r ((row n r).take p) 0)++(z,(r,p)) :: rest:=by
 have e1:bt n=bt (n.take<|r+1)++ia (0+(n.take<|r+1).length) (n.drop<|r+1):=by
  have:=Ir (n.take<|r+1) (n.drop<|r+1) 0;rwa[Db]at this
 have e2:bJ r (row n r) 0=bJ r ((row n r).take<|p+1) 0++bJ r ((row n r).drop<|p+1) (0+((row n r).take<|p+1).length):=by
  unfold bJ;rw[<- Aj,<- List.zipIdx_append,Db]
 rw[e1,tJ hr,e2,qC hz];refine⟨bJ r ((row n r).drop<|p+1) (0+((row n r).take<|p+1).length)++ia (0+(n.take<|r+1).length) (n.drop<|r+1),?_⟩;simp only[Au,Ft,Gv]
def Uy{κ:Type} [DecidableEq κ] (Y:List<|κ×V) (k:κ) (v:V):(putK Y k v).map (·.1)=if k∈Y.map (·.1)then Y.map (·.1)else Y.map (·.1)++[k]:=by
 have e:(Y.any λkv=>decide (kv.1=k))=decide (k∈Y.map (·.1)):=by
  rw[Cr,Fc,CK,Ai];exact⟨λ⟨p,h1,h2⟩=>⟨p,h1,BX h2⟩,λ⟨p,h1,h2⟩=>⟨p,h1,BW h2⟩⟩
 unfold putK;rw[e]
 by_cases h:k∈Y.map (·.1)
 ·rw[BP<|BW h,BP h,Cg];refine Bo λp _=>?_;show(if p.1=k then(p.1,v)else p).1=p.1
  split <;> rfl
 ·rw[BK (by simpa using h),BK h,Aj];rfl
def gY{κ:Type} [DecidableEq κ] {Y:List (κ×V)} {k j:κ} {v:V}:j∈(putK Y k v).map (·.1)↔j∈Y.map (·.1)\/j=k:=by
 rw[Uy]
 split
 ·exact⟨.inl,λh=>h.elim id λe=>by rw[e];assumption⟩
 ·rw[An,Af]
def Uz{κ:Type} [DecidableEq κ] {Y:List (κ×V)} {k:κ} {v:V} (h:(Y.map (·.1)).Nodup):((putK Y k v).map (·.1)).Nodup:=by
 rw[Uy]
 split
 ·exact h
 ·rename_i hn;exact lQ h hn
structure jx(n:Net)(done:List<|Str×Nt.End)(H:Hp)(kM:List<|Key×V)(kO:List<|List Key×V):Prop where
 m0:∀ z,b8 done z=[]->ao kM (Sum.inr z)=none
 m1:∀ z a rest,b8 done z=a :: rest->∃ t,ao kM (Sum.inr z)=some (.ref t)/\H t=some (TN n a)
 o:∀ z a b rest,b8 done z=a :: b :: rest->(∃ u,ao kO (key n a)=some (.ref u)/\H u=some (TN n b))/\∃ u,ao kO (key n b)=some (.ref u)/\H u=some (TN n a)
 sub:∀ p∈done,aJ n p.2=some p.1
 eY:kM.length<=done.length
 gd:kO.length<=2 * done.length
 ks:∀ k∈kO.map (·.1),∃ p∈done,k=key n p.2
 nd:(kO.map (·.1)).Nodup
variable{kO:List (List Key×V)}{kM:List (Key×V)}{done:List (Str×Nt.End)}
def jx.keep(I:jx n done H kM kO)(k:∀ t p j,H t=some (Tn p j)->H' t=some (Tn p j)):jx n done H' kM kO where
 m0:=I.m0
 m1:=λz a rest h=>let ⟨t,e1,e2⟩:=I.m1 z a rest h;⟨t,e1,k _ _ _ e2⟩
 o:=λz a b rest h=>let ⟨⟨u,e1,e2⟩,⟨v,e3,e4⟩⟩:=I.o z a b rest h;⟨⟨u,e1,k _ _ _ e2⟩,⟨v,e3,k _ _ _ e4⟩⟩
 sub:=I.sub
 eY:=I.eY
 gd:=I.gd
 ks:=I.ks
 nd:=I.nd
def wU(h:a∈b8 done z):(z,a)∈done:=by
 unfold b8 at h;obtain⟨⟨y,b⟩,hm,rfl⟩:=Ai.mp h;obtain⟨h1,h2⟩:=Bg.mp hm;have:y=z:=BX h2;subst this;exact h1
variable{e:Nt.End}
theorem jx.new(I:jx n done H kM kO){t:Addr}(ht:H t=some (TN n e))(hz:aJ n e=some z)(h0:b8 done z=[]) :
  jx n (done++[(z,e)]) H (putK kM (Sum.inr z)<|.ref t) kO where
 m0:=λy hy=>by
  rw[dI]at hy;obtain⟨h1,h2⟩:=Fh.mp hy;have bA:¬ z=y:=λq=>by rw[BP q]at h2;cases h2
  rw[dC,BK λq=>bA (Sum.inr.inj q).symm];exact I.m0 y h1
 m1:=λy a rest hy=>by
  rw[dI]at hy
  by_cases q:z=y
  ·subst q;rw[h0,BP rfl]at hy;cases hy;exact⟨t,by rw[dC,BP rfl],ht⟩
  ·rw[BK q,Be]at hy;obtain⟨u,e1,e2⟩:=I.m1 y a rest hy;exact⟨u,by rwa[dC,BK λp=>q (Sum.inr.inj p).symm],e2⟩
 o:=λy a b rest hy=>by
  rw[dI]at hy
  by_cases q:z=y
  ·subst q;rw[h0,BP rfl]at hy;cases hy
  ·rw[BK q,Be]at hy;exact I.o y a b rest hy
 sub:=λp hp=>by
  rcases An.mp hp with h | h
  ·exact I.sub p h
  ·rwa[Af.mp h]
 eY:=by
  have:=jn kM (Sum.inr z)<|.ref t;have:=I.eY;rw[Ad,Cz];omega
 gd:=by
  have:=I.gd;rw[Ad,Cz];omega
 ks:=λk hk=>let ⟨p,hp,e⟩:=I.ks k hk;⟨p,Az _ hp,e⟩
 nd:=I.nd
theorem jx.old(hN:(n.map (·.1)).Nodup)(I:jx n done H kM kO){te tm:Addr}(ht:H te=some (TN n e))(hm:H tm=some (TN n a))(hz:aJ n e=some z)(h1:b8 done z=[a])(hae:a≠e) :
  jx n (done++[(z,e)]) H kM (putK (putK kO (key n e)<|.ref tm) (key n a)<|.ref te) where
 m0:=λy hy=>by
  rw[dI]at hy;exact I.m0 y (Fh.mp hy).1
 m1:=λy c rest hy=>by
  rw[dI]at hy
  by_cases q:z=y
  ·subst q;rw[h1,BP rfl]at hy;cases hy;exact I.m1 z a [] h1
  ·rw[BK q,Be]at hy;exact I.m1 y c rest hy
 o:=λy c b rest hy=>by
  rw[dI]at hy;have ta:=I.sub (z,a)<|wU<|by rw[h1];exact Af.mpr rfl
  by_cases q:z=y
  ·subst q;rw[h1,BP rfl]at hy;cases hy;refine⟨⟨te,by rw[dC,BP rfl],ht⟩,⟨tm,?_,hm⟩⟩;rw[dC,BK λp=>hae (t8 hN (cS hz) (cS ta) p).symm,dC,BP rfl]
  ·rw[BK q,Be]at hy;have tc:=I.sub (y,c) (wU<|by rw[hy];exact Ag);have tb:=I.sub (y,b) (wU<|by rw[hy];exact Ak _ Ag);have ne:∀ x:Nt.End,aJ n x=some y->¬ key n x=key n a/\¬ key n x=key n e:=λx hx=>by
    refine⟨λp=>?_,λp=>?_⟩
    ·have:=t8 hN (cS hx) (cS ta) p;rw[this,ta]at hx;exact q<|Option.some.inj hx
    ·have:=t8 hN (cS hx) (cS hz) p;rw[this,hz]at hx;exact q<|Option.some.inj hx
   obtain⟨⟨u,e1,e2⟩,⟨v,e3,e4⟩⟩:=I.o y c b rest hy;refine⟨⟨u,?_,e2⟩,⟨v,?_,e4⟩⟩
   ·rwa[dC,BK (ne c tc).1,dC,BK (ne c tc).2]
   ·rwa[dC,BK (ne b tb).1,dC,BK (ne b tb).2]
 sub:=λp hp=>by
  rcases An.mp hp with h | h
  ·exact I.sub p h
  ·rwa[Af.mp h]
 eY:=by
  have:=I.eY;rw[Ad,Cz];omega
 gd:=by
  have h1:=jn (putK kO (key n e)<|.ref tm) (key n a)<|.ref te;have h2:=jn kO (key n e)<|.ref tm;have:=I.gd;rw[Ad,Cz];omega
 ks:=λk hk=>by
  rcases gY.mp hk with hk | rfl
  ·rcases gY.mp hk with hk | rfl
   ·obtain⟨p,hp,e⟩:=I.ks k hk;exact⟨p,Az _ hp,e⟩
   ·exact⟨(z,e),Av _<|Af.mpr rfl,rfl⟩
  ·exact⟨(z,a),Az _ (wU<|by rw[h1];exact Af.mpr rfl),rfl⟩
 nd:=Uz<|Uz I.nd
def jx.whole(T:aw n)(I:jx n (bt n) H kM kO)(he:e∈ends n):∃ u,ao kO (key n e)=some (.ref u)/\H u=some (TN n<|other n e):=by
 obtain⟨z,hz⟩:=af.mp he;obtain⟨a,b,hp,fU,zD⟩:=qB T hz;have pA:=hp;have ta:aJ n a=some z:=aK.mp (by rw[hp];simp);have tb:aJ n b=some z:=aK.mp (by rw[hp];simp);obtain⟨o1,o2⟩:=I.o z a b [] pA
 rcases zD with rfl | rfl
 ·have:b=other n e:=((iH T hz).mp tb).resolve_left<|CG fU;rw[<- this];exact o1
 ·have:a=other n e:=((iH T hz).mp ta).resolve_left fU;rw[<- this];exact o2
def kZ:Sp:=λvs H Q _=>∃R as n,vs=[.ref R]/\al H R as n/\(n.map (·.1)).Nodup/\aw n/\n.length<=1000/\(ag n).length<=1000 /\
 ∀d Y H',ah H H'->H d=none->H' d=some (.dT Y)->(∀ e∈ends n,∃ u,ao Y (key n e)=some (.ref u)/\H' u=some (TN n<|other n e))->(Y.map (·.1)).Nodup->(∀ k∈Y.map (·.1),∃ e∈ends n,k=key n e)->Y.length<=2000->Q (.ref d) H'
variable{body:Õ}
section
variable{D:Ends}
theorem q3d{a b:Addr}{ys:List V}{after:St->Hp->Prop}(hlen:xs.length=ys.length)(Pv:Nat->St->Hp->Prop)(h0:Pv 0 σ H)(hl:∀ i σ H,i<=xs.length->Pv i σ H->aj X.K H a xs/\aj X.K H b ys)
  (hs:∀ i x y T σ H,xs[i]?=some x->ys[i]?=some y->Pv i σ H->H T=none->Eg X tg (.ref T) σ (upd H T<|.tup [x,y]) λσ2 H2=>Run X body {D with nx:=Pv<|i+1,ct:=Pv<|i+1,bk:=after} σ2 H2) (hd:∀ σ H,Pv xs.length σ H->after σ H):Loop X tg body (AI X.K a b) D after σ H:=by
 refine⟨λi m σ H=>m=xs.length - i/\i<=xs.length/\Pv i σ H,⟨xs.length,by simp,Bu _,h0⟩,?_⟩;rintro i m σ H ⟨rfl,hi,p⟩;obtain⟨q1,q2⟩:=hl i σ H hi p
 by_cases aV:i < xs.length
 ·refine .inr ⟨⟨xs,ys,xs[i],ys[i],q1,q2,Ab aV,Ab<|⋯⟩,Pv<|i+1,λσ' H' p'=>⟨xs.length - (i+1),⋯,rfl,aV,p'⟩,λv H' y=>?_⟩;obtain⟨T,x,y,hT,rfl,rfl,y1,y2⟩:=y;exact hs i x y T σ _ (y1 xs q1) (y2 ys q2) p hT
 ·have e:i=xs.length:=⋯
  subst e;exact .inl ⟨⟨xs,ys,q1,q2,.inl<|Am _⟩,hd σ H p⟩
end
abbrev NOE:Ñ:=["rows","met","others","row","end","tie"]
def wV:ak NOE ["rows"] (aP Iz):=bZ
def UA{t:Addr}(h:H t=some (.tup xs))(g:H d=some (.dK Y)):t≠d:=bV h g λz=>nomatch z
def rp{t:Addr}{Y:List (List Key×V)}(h:H t=some (.tup xs))(g:H d=some (.dT Y)):t≠d:=bV h g λz=>nomatch z
theorem x1r(F:bo K "other_ends" "other_ends" Iz f fd)(T:Txt mg)
  (GE:aQ P w K mg Z 1 "ends_round" ["row"] wO) :
  aD P w K mg Z bz 2 f fd ["rows"] kZ:=by
 refine F.gc wV λb0 H vs Q E hr h=>?_;obtain⟨R,as,n,rfl,hR,hN,hT,hn,ht,q⟩:=h;have nd:=wV.nd;have b4:=hR.len;have hu:=hr.u1;refine aT 1 nd<|Im λdm m6=>?_;refine aT 2 nd<|q3p λdO Kv=>?_;have wW:dO≠dm:=λe=>by rw[e,av]at Kv;cases Kv
 have rq:H dO=none:=by rwa[au wW]at Kv
 have em:(upd (upd H dm<|.dK []) dO<|.dT []) dm=some (.dK []):=by rw[au<|CG wW,av]
 have eo:(upd (upd H dm<|.dK []) dO<|.dT []) dO=some (.dT []):=av;have s0:ah H (upd (upd H dm<|.dK []) dO<|.dT []):=λb o h=>by rwa[au<|bh h rq,au<|bh h m6]
 generalize upd (upd H dm<|.dK []) dO (.dT [])=H1 at em eo s0 ⊢;refine lS<|ae 0 ⟨R,rfl,⟨_,aj.of<|s0 _ _ hR.lst⟩,lT (xs:=as.map λa=>V.ref a.1) (λr σ H'=>∃ kM kO u1 u2 u3,ah H H'/\H' dm=some (.dK kM)/\H' dO=some (.dT kO)/\jx n (bt<|n.take r) H' kM kO/\σ=[⇑R,⇑dm,⇑dO,u1,u2,u3])
  ⟨[],[],_,_,_,s0,em,eo,⟨λ_ _=>rfl,λz a rest h=>(by cases h),λz a b rest h=>(by cases h),λp h=>(by cases h),Bu _,Bu _,λk h=>(by cases h),Cn⟩,rfl⟩ ?_ ?_ ?_⟩
 ·rintro r σ H' _ ⟨kM,kO,u1,u2,u3,sm,_⟩;exact aj.of<|sm _ _ hR.lst
 ·rintro r x σ H' hx ⟨kM,kO,u1,u2,u3,sm,UB,Kw,I,rfl⟩;have hi:r < n.length:=by
   have:=(Ac.mp hx).1;rw[Aa]at this;omega
  obtain⟨a,ea,fA,et,el,er⟩:=(hR.same sm).at hi;rw[Ah,ea]at hx;cases hx;have jU:=By (ju n r) ht;have enm:=ro hi;refine a8 3 nd<|sZ (SH rfl T.zip (ta:=vh _ _) gL) ?_;show Ea _ _ _ _ _;refine ai<|bG GE hr<|ai<|ae 3<|ax ⟨a.1,a.2,n[r].1,row n r,rfl,et,el,jU,λL ts H5 s5 n5 e5 l5 t5=>?_⟩;refine ai<|bb cv<|ae 3<|aE ⟨a.1,_,_,.ref a.2,rfl,rfl,aS.of<|s5 _ _ et,rfl,ax ⟨L,a.2,rfl,⟨_,aj.of e5⟩,⟨_,aj.of<|s5 _ _ el⟩,?_⟩⟩;have BF:=s5 _ _ UB;have BG:=s5 _ _ Kw;have t9:=s5 _ _ el;refine q3d (xs:=ts.map V.ref) (ys:=(row n r).map V.str) (by rw[Aa,Aa,l5]) (λp σ' bS=>∃ kM kO u2 u3,(∀ b o,b≠dm->b≠dO->H5 b=some o->bS b=some o)/\bS dm=some (.dK kM)/\bS dO=some (.dT kO)/\jx n (bt (n.take r)++bJ r ((row n r).take p) 0) bS kM kO/\σ'=[⇑R,⇑dm,⇑dO,some<|.ref a.1,u2,u3])
   ⟨kM,kO,_,_,λb o _ _ h=>h,BF,BG,?_,rfl⟩ ?_ ?_ ?_
  ·have:bJ r ((row n r).take 0) 0=[]:=by simp[bJ]
   rw[this,Be];exact I.keep λt p j h=>s5 _ _ h
  ·rintro p σ' bS _ ⟨kM,kO,u2,u3,kb,_,_,_,rfl⟩;exact⟨aj.of (kb _ _ (bV e5 BF λz=>nomatch z) (bV e5 BG λz=>nomatch z) e5),aj.of<|kb _ _ (bV t9 BF λz=>nomatch z) (bV t9 BG λz=>nomatch z) t9⟩
  ·rintro p x y Tt σ' bS hx hy ⟨kM,kO,u2,u3,kb,BH,BI,I6,rfl⟩ k4;rw[Ah,Ar]at hx hy;obtain⟨te,mh,rfl⟩:=hx;obtain⟨z,hz,rfl⟩:=hy;have nH:=t5 p te mh;have BM:bS te=some (Tn n[r].1 p):=kb _ _ (UA nH BF) (rp nH BG) nH;have k6:aJ n (r,p)=some z:=hz;obtain⟨rest,dG⟩:=wR hi hz;have hlen:(bt (n.take r)++bJ r ((row n r).take p) 0).length < 1000:=by
    have h1:(bt n).length=(ag n).length:=by
     have:=BZ List.length<|lZ n 0;rwa[Aa]at this
    have h2:=BZ List.length dG;rw[Ad,As]at h2;omega
   have df:bt (n.take r)++bJ r ((row n r).take<|p+1) 0=(bt (n.take r)++bJ r ((row n r).take p) 0)++[(z,(r,p))]:=by
    rw[qC hz,Au]
   have k8:∀ b,b∈b8 (bt (n.take r)++bJ r ((row n r).take p) 0) z->b≠(r,p):=λb hb e=>by
    have hm:=wU hb;have jM:=tH n;unfold ends at jM;rw[dG,Aj,Bn]at jM;exact(Cj.mp jM).2.2 _ (Ai.mpr ⟨_,hm,rfl⟩) _ Ag e
   have wX:(b8 (bt (n.take r)++bJ r ((row n r).take p) 0) z).length<=1:=by
    have h1:(pos n z).length=2:=by rw[qA];exact hT z<|eG k6
    have h2:pos n z=b8 (bt (n.take r)++bJ r ((row n r).take p) 0) z++b8 ((z,(r,p)) :: rest) z:=by
     show b8 (bt n) z=_;rw[dG];unfold b8;rw[Ct,Aj]
    have h3:1<=(b8 ((z,(r,p)) :: rest) z).length:=by
     unfold b8;rw[Cv,BP<|by simp];simp
    rw[h2,Ad]at h1;omega
   generalize bt (n.take r)++bJ r ((row n r).take p) 0=done at I6 hlen df k8 wX;rw[df];have hTm:Tt≠dm:=λe=>by rw[e,BH]at k4;cases k4
   have hTo:Tt≠dO:=λe=>by rw[e,BI]at k4;cases k4
   have s7:=aM k4<|.tup [.ref te,.str z];have Kx:∀ b o,b≠dm->b≠dO->H5 b=some o->(upd bS Tt<|.tup [.ref te,.str z]) b=some o:=λb o h1 h2 h=>s7 _ _<|kb b o h1 h2 h;have wY:=s7 _ _ BH;have wZ:=s7 _ _ BI;have I7:=I6.keep (H':=upd bS Tt<|.tup [.ref te,.str z]) λt p j h=>s7 _ _ h;have rz:=s7 _ _ BM;refine jT rfl (aS.of av) (a8 4 nd<|a8 5 nd ?_);generalize upd bS Tt (.tup [.ref te,.str z])=H7 at Kx wY wZ I7 rz;have rA:H7 te=some (TN n (r,p)):=by
    show H7 te=some (Tn (nameAt n r) p);rwa[enm]
   have hM:kM.length < sizeLine:=bI (by have:=I7.eY;omega);have hO:kO.length < sizeLine:=bI (by have:=I7.gd;omega);refine fP<|zH hu<|ae 5<|ae 1 ⟨dm,_,rfl,aX.k (k:=Sum.inr z) wY,?_⟩
   match jW:b8 done z with
   | []=>
    rw[I7.m0 z jW];show if false=true then _ else _;rw[BK Ax];refine tG hu<|ae 4<|ae 1<|ae 5 ⟨dm,_,rfl,bX.k (k:=Sum.inr z) wY hM,a7<|a7 ⟨_,kO,_,_,λb o h1 h2 h=>?_,av,?_,?_,rfl⟩⟩
    ·rw[au h1];exact Kx b o h1 h2 h
    ·rwa[au wW]
    ·exact(I7.new rA k6 jW).keep λt p j h=>by rwa[au<|UA h wY]
   | b :: more=>
    have w5:more=[]:=by
     rw[jW,As]at wX;exact Cd.mp<|⋯
    subst w5;obtain⟨tm,vm,UC⟩:=I7.m1 z b [] jW;rw[vm];show if true=true then _ else _;rw[BP rfl];have gj:b≠(r,p):=k8 b (by rw[jW];exact Af.mpr rfl);refine tG hu (eU hu<|ae 1<|ae 5 ⟨dm,.ref tm,rfl,by rw[<- vm];exact aX.k (k:=Sum.inr z) wY,ae 2<|ae 4 ⟨dO,_,rfl,bX.t (k:=key n (r,p)) wZ rA hO,?_⟩⟩);have hO2:=jn kO (key n (r,p))<|.ref tm;have hO3:=I7.gd;have em8:(upd H7 dO<|.dT<|putK kO (key n (r,p))<|.ref tm) dm=some (.dK kM):=by rwa[au<|CG wW]
    have Ky:(upd H7 dO<|.dT<|putK kO (key n (r,p))<|.ref tm) tm=some (TN n b):=by rwa[au<|rp UC wZ]
    refine tG hu<|ae 4<|ae 2<|eU hu<|ae 1<|ae 5 ⟨dm,.ref tm,rfl,by rw[<- vm];exact aX.k (k:=Sum.inr z) em8,dO,_,rfl,bX.t (k:=key n b) av Ky (bI<|⋯),a7<|a7 ⟨kM,_,_,_,λb o h1 h2 h=>?_,?_,av,?_,rfl⟩⟩
    ·rw[au h2,au h2];exact Kx b o h1 h2 h
    ·rwa[au<|CG wW]
    ·exact(I7.old hN rA UC k6 jW gj).keep λt p j h=>by rwa[au<|rp h wZ,au<|rp h wZ]
  ·rintro σ' bS ⟨kM,kO,u2,u3,kb,BH,BI,I6,rfl⟩;refine a7 ⟨kM,kO,_,_,_,λb o h=>?_,BH,BI,?_,rfl⟩
   ·exact kb b o (bh h m6) (bh h rq)<|s5 _ _<|sm _ _ h
   ·rw[Aa,l5,Br]at I6;rwa[tJ hi]
 ·rintro σ H' ⟨kM,kO,u1,u2,u3,sm,UB,Kw,I,rfl⟩;rw[Aa,b4,Br]at I;have lO:=I.gd;have ls:(bt n).length=(ag n).length:=by rw[<- lZ n 0,Aa];rfl
  exact bQ<|ae 2<|q dO kO H' sm rq Kw (λe he=>I.whole hT he) I.nd (λk hk=>let ⟨p,hp,e⟩:=I.ks k hk;⟨p.2,Ai.mpr ⟨p,hp,rfl⟩,e⟩)<|⋯
def nI(n:Net)(H:Hp)(us:List Addr)(done:List<|Str×Nt.End):Prop:=us.length=done.length/\∀(j:Nat) u p,us[j]?=some u->done[j]?=some p->H u=some (TN n p.2)
variable{us:List Addr}
def nI.keep(h:nI n H us done)(k:∀ t p j,H t=some (Tn p j)->H' t=some (Tn p j)):nI n H' us done:=⟨h.1,λj u p h1 h2=>k _ _ _<|h.2 j u p h1 h2⟩
variable{p:Str×Nt.End}
theorem nI.snoc{u:Addr}(h:nI n H us done)(k:∀ t p j,H t=some (Tn p j)->H' t=some (Tn p j))(hu:H' u=some (TN n p.2)):nI n H' (us++[u]) (done++[p]):=by
 obtain⟨hl,ha⟩:=h;refine⟨by rw[Ad,Ad,hl];rfl,λj v x hv hx=>?_⟩
 by_cases hj:j < us.length
 ·rw[Aq hj]at hv;rw[Aq<|⋯]at hx;exact k _ _ _<|ha j v x hv hx
 ·rw[Ba<|⋯]at hv hx;have f9:j - us.length=0:=by
   have:=(Ac.mp hv).1;simp at this;omega
  have hj3:j - done.length=0:=⋯
  rw[f9]at hv;rw[hj3]at hx;cases hv;cases hx;exact hu
variable{inner:Sem Unit}
section
variable{a b:Addr}{ys:List V}{after:St->Hp->Prop}
theorem w6(Pv:Nat->St->Hp->Prop)(h0:Pv 0 σ H)(hl:∀ i σ' H',i<=xs.length->Pv i σ' H'->aj X.K H' a xs)
  (hs:∀ i x σ' H',xs[i]?=some x->Pv i σ' H'->Eg X tg x σ' H' λσ2 H3=>Ei X ifs σ2 H3 λb H4=>if b=true then lV X inner σ2 H4 (Pv<|i+1)else Pv (i+1) σ2 H4)
  (hd:∀ σ' H',Pv xs.length σ' H'->after σ' H'):iy X tg ifs inner (pV X.K a) after σ H:=by
 refine⟨λi m σ' H'=>m=xs.length - i/\i<=xs.length/\Pv i σ' H',⟨_,rfl,Bu _,h0⟩,?_⟩;rintro i m σ' H' ⟨rfl,hi,p⟩;have q:=hl i σ' H' hi p
 by_cases aV:i < xs.length
 ·refine .inr ⟨⟨xs,xs[i],q,by simp[aV]⟩,Pv<|i+1,λσ' H' p'=>⟨xs.length - (i+1),⋯,rfl,aV,p'⟩,λx H2 y=>?_⟩;obtain⟨e,y⟩:=y;subst e;exact hs i x σ' _ (y xs q) p
 ·have e:i=xs.length:=⋯
  subst e;exact .inl ⟨⟨xs,q,Am _⟩,hd σ' H' p⟩
theorem k2m(hlen:xs.length=ys.length)(Pv:Nat->St->Hp->Prop)(h0:Pv 0 σ H)(hl:∀ i σ' H',i<=xs.length->Pv i σ' H'->aj X.K H' a xs/\aj X.K H' b ys)
  (hs:∀ i x y T σ' H',xs[i]?=some x->ys[i]?=some y->Pv i σ' H'->H' T=none->Eg X tg (.ref T) σ' (upd H' T<|.tup [x,y]) λσ2 H3=>Ei X ifs σ2 H3 λb H4=>if b=true then lV X inner σ2 H4 (Pv<|i+1)else Pv (i+1) σ2 H4)
  (hd:∀ σ' H',Pv xs.length σ' H'->after σ' H'):iy X tg ifs inner (AI X.K a b) after σ H:=by
 refine⟨λi m σ' H'=>m=xs.length - i/\i<=xs.length/\Pv i σ' H',⟨_,rfl,Bu _,h0⟩,?_⟩;rintro i m σ' H' ⟨rfl,hi,p⟩;obtain⟨q1,q2⟩:=hl i σ' H' hi p
 by_cases aV:i < xs.length
 ·refine .inr ⟨⟨xs,ys,xs[i],ys[i],q1,q2,Ab aV,Ab<|⋯⟩,Pv<|i+1,λσ' H' p'=>⟨xs.length - (i+1),⋯,rfl,aV,p'⟩,λv H2 y=>?_⟩;obtain⟨T,x,y,hT,rfl,rfl,y1,y2⟩:=y;exact hs i x y T σ' _ (y1 xs q1) (y2 ys q2) p hT
 ·have e:i=xs.length:=⋯
  subst e;exact .inl ⟨⟨xs,ys,q1,q2,.inl<|Am _⟩,hd σ' H' p⟩
end
def Kz:Sp:=λvs H Q _=>∃R as n,vs=[.ref R]/\al H R as n/\n.length<=1000/\(ag n).length<=1000 /\
 ∀L ts H',ah H H'->H L=none->H' L=some (.lst<|ts.map V.ref)->nI n H' ts (bt n)->Q (.ref L) H'
abbrev UD:Ñ:=["rows"]
abbrev UE:Ñ:=["rows","row","end"]
def jf:ak UD ["rows"] (aP zS):=bZ
def UH:UE.Nodup:=by decide +kernel
theorem q1z(F:bo K "ends_in_order" "ends_in_order" zS f fd)(T:Txt mg)
  (GE:aQ P w K mg Z 1 "ends_round" ["row"] wO) :
  aD P w K mg Z bz 2 f fd ["rows"] Kz:=by
 refine F.gc jf λb0 H vs Q E hr h=>?_;obtain⟨R,as,n,rfl,hR,hn,ht,q⟩:=h;have b4:=hR.len;refine bQ<|q1h (aP zS) UD UE 2 (eB bd)<|ae 0 ⟨R,rfl,⟨_,aj.of hR.lst⟩,λD hD cl C æ ç ex=>?_⟩;refine w6 (xs:=as.map λa=>V.ref a.1) (λr σ' H'=>(∃ v1 v2,σ'=[⇑R]++[v1,v2])/\∃ ts:List Addr,ah H H'/\H' D=some (.lst<|ts.map V.ref)/\nI n H' ts (bt<|n.take r)) ⟨⟨none,none,rfl⟩,[],aM hD _,av,⟨rfl,λj u p h=>(by cases h)⟩⟩ ?_ ?_ ?_
 ·rintro r σ' H' _ ⟨_,ts,sm,_⟩;exact aj.of<|sm _ _ hR.lst
 ·rintro r x σ' H' hx ⟨⟨v1,v2,rfl⟩,ts,sm,eD,AN⟩;have hi:r < n.length:=by
   have:=(Ac.mp hx).1;rw[Aa]at this;omega
  obtain⟨a,ea,fA,et,el,er⟩:=(hR.same sm).at hi;rw[Ah,ea]at hx;cases hx;have jU:=By (ju n r) ht;refine a8 1 UH<|iA ?_;rw[BP rfl];refine q1u rfl rfl (eB bd) (bG GE hr<|ai<|ae 1<|ax ⟨a.1,a.2,n[r].1,row n r,rfl,et,el,jU,λL us H5 s5 n5 e5 l5 t5=>⟨L,rfl,⟨_,aj.of e5⟩,?_⟩⟩);have KA:L≠D:=λe=>by rw[e,eD]at n5;cases n5
  refine w6 (xs:=us.map V.ref) (λp σ' bS=>(∃ v2,σ'=[⇑R]++[some<|.ref a.1,v2])/\∃ ts:List Addr,(∀ b o,b≠D->H5 b=some o->bS b=some o)/\bS D=some (.lst<|ts.map V.ref)/\nI n bS ts (bt (n.take r)++bJ r ((row n r).take p) 0))
   ⟨⟨_,rfl⟩,ts,λb o _ h=>h,s5 _ _ eD,by simpa[bJ]using AN.keep λt p j h=>s5 _ _ h⟩ ?_ ?_ ?_
  ·rintro p σ' bS _ ⟨_,ts,kb,_⟩;exact aj.of<|kb _ _ KA e5
  ·rintro p x σ' bS hx ⟨⟨v2,rfl⟩,ts,kb,dY,BO⟩;rw[Ah,Ar]at hx;obtain⟨te,mh,rfl⟩:=hx;have hp:p < (row n r).length:=by have:=(Ac.mp mh).1;omega
   have hz:=Ab hp;generalize (row n r)[p]=z at hz;have nH:=t5 p te mh;have BQ:te≠D:=bV nH (s5 _ _ eD) λz=>nomatch z;have BM:=kb _ _ BQ nH;obtain⟨rest,dG⟩:=wR hi hz;have hlen:ts.length < 1000:=by
    have h1:(bt n).length=(ag n).length:=by
     have:=BZ List.length<|lZ n 0;rwa[Aa]at this
    have h2:=BZ List.length dG;rw[Ad,As]at h2;have:=BO.1;omega
   refine a8 2 UH ?_;refine iA ?_;rw[BP rfl];refine QP (ae 2 ⟨ts.map V.ref,dY,by rw[Aa];exact bI ⋯,⟨_,rfl⟩,ts++[te],λb o hb h=>by rw[au hb];exact kb b o hb h,by rw[av,Aj];rfl,?_⟩);rw[qC hz,<- Au];refine BO.snoc (λt p j h=>by rwa[au<|bV h dY λz=>nomatch z]) ?_;rw[au BQ];show bS te=some (Tn (nameAt n r) p);rwa[ro hi]
  ·rintro σ' bS ⟨⟨v2,rfl⟩,ts,kb,dY,BO⟩;refine⟨⟨_,_,rfl⟩,ts,λb o h=>kb b o (bh h hD)<|s5 _ _<|sm _ _ h,dY,?_⟩;rwa[Aa,l5,Br,<- tJ hi]at BO
 ·rintro σ' H' ⟨_,ts,sm,eD,AN⟩;rw[Aa,b4,Br]at AN;exact q D ts H' sm hD eD AN
variable{zs:Ñ}
def KE{k:Nat}(z:Str):jR X H k (.str z) (.str z) true:=by
 have:=qv (X:=X) (H:=H) (k:=k) (x:= .str z) (y:= .str z) rfl rfl;have e:cC (.str z) (.str z)=true:=by show(z == z)=true;simp
 rwa[e]at this
theorem q76{p p':Str}{j j':Int}:∀i u v,[V.str p,.int j][i]?=some u->[V.str p',.int j'][i]?=some v->jR X H 0 u v (if i=0 then cC (.str p) (.str p')else cC (.int j) (.int j'))
 | 0,u,v,h1,h2=>by
  cases h1;cases h2;exact qv rfl rfl
 | 1,u,v,h1,h2=>by
  cases h1;cases h2;exact qv rfl rfl
 | i+2,u,v,h1,h2=>by simp at h1
def x0c(p p':Str)(j j':Int):(cC (.str p) (.str p') && cC (.int j) (.int j'))=decide (p=p'/\j=j'):=by
 show((p == p') && (j == j'))=_
 by_cases h:p=p' <;> by_cases h2:j=j' <;> simp[h,h2]
def x0s{s t:Addr}{p p':Str}{j j':Int}(hs:H s=some (Tn p j))(ht:H t=some (Tn p' j')):oU X H 1 (.ref s) (.ref t) (decide (p=p'/\j=j')):=by
 have:=RE (X:=X) (λi=>if i=0 then cC (.str p) (.str p')else cC (.int j) (.int j')) (aS.of hs) (aS.of ht) rfl q76;rw[show([V.str p,.int j].length)=2 from rfl,all2]at this;have e:=x0c p p' j j';simp only[DP]at this;rwa[BK ∅,e]at this
def KG{a b:Addr}(ha:H a=some (Ls zs))(hb:H b=some (Ls zs)):lX X H 1 (.ref a) (.ref b) true:=by
 have q:=Ij (k:=0) (λ_=>true) (aj.of ha) (aj.of (K:=X.K) hb) rfl λj x y hx hy=>by
  rw[hx]at hy;cases hy;rw[Ah,Ar]at hx;obtain⟨z,_,rfl⟩:=hx;exact KE z
 rwa[vN]at q
def UI{k:Nat}{a b:Addr}(h:lX X H k (.ref a) (.ref b) true):jR X H k (.ref a) (.ref b) true:=by
 by_cases e:a=b
 ·subst e;exact q03
 ·exact q9p e h
theorem q2b{R R':Addr}{bs:Ï}(h:al H R as n)(g:al H R' bs n):lX X H 3 (.ref R) (.ref R') true:=by
 have q:=Ij (λ_=>true) (aj.of h.lst) (aj.of g.lst) (by rw[Aa,Aa,h.len,g.len]) λj x y hx hy=>by
  rw[Ah,Ar]at hx hy;obtain⟨a,ea,rfl⟩:=hx;obtain⟨b,eb,rfl⟩:=hy;have hj:j < n.length:=by
   have:=(Ac.mp ea).1;have:=h.len;omega
  obtain⟨q1,q2⟩:=h.tup j a n[j] ea<|Ab hj;obtain⟨q3,q4⟩:=g.tup j b n[j] eb<|Ab hj;have t:=RC (k:=1) (λ_=>true) (aS.of q1) (aS.of (K:=X.K) q3) rfl λi x y hx hy=>by
   match i with
   | 0=>cases hx;cases hy;exact KE _
   | 1=>cases hx;cases hy;exact UI<|KG q2 q4
   | i+2=>simp at hx
  rw[vN]at t;exact UI t
 rwa[vN]at q
def q3m{a b:Addr}(ha:H a=some (Ls zs))(hb:H b=some (Ls zs)):oU X H 1 (.ref a) (.ref b) true:=by
 have q:=zE (k:=0) (λ_=>true) (aj.of ha) (aj.of (K:=X.K) hb) rfl λj x y hx hy=>by
  rw[hx]at hy;cases hy;rw[Ah,Ar]at hx;obtain⟨z,_,rfl⟩:=hx;exact KE z
 rwa[vN]at q
def nJ:Sp:=λvs H Q _=>∃R as n,vs=[.ref R]/\al H R as n/\(n.map (·.1)).Nodup/\n.length<=1000/\(ag n).length<=1000 /\
 ∀d Y H',ah H H'->H d=none->H' d=some (.dT Y)->(∀ e z,aJ n e=some z->ao Y (key n e)=some (.str z))->Q (.ref d) H'
variable{c:Int}{es v:List Nt.End}{ws:List (List Nt.End)}
section
abbrev UK:Ñ:=["rows"]
abbrev UM:Ñ:=["rows","row","end","tie"]
def KI:ak UK ["rows"] (aP zT):=bZ
def KL:UM.Nodup:=by decide +kernel
theorem x2d(F:bo K "ties_by_end" "ties_by_end" zT f fd)(T:Txt mg)
  (GE:aQ P w K mg Z 1 "ends_round" ["row"] wO) :
  aD P w K mg Z bz 2 f fd ["rows"] nJ:=by
 refine F.gc KI λb0 H vs Q E hr h=>?_;obtain⟨R,as,n,rfl,hR,hN,hn,ht,q⟩:=h;have b4:=hR.len;have hu:=hr.u1;refine bQ<|k54 (aP zT) UK UM 3 (eB bd)<|ae 0 ⟨R,rfl,⟨_,aj.of hR.lst⟩,λD hD cl C æ ç ex=>?_⟩;refine w6 (xs:=as.map λa=>V.ref a.1) (λr σ' H'=>(∃ v1 v2 v3,σ'=[⇑R]++[v1,v2,v3])/\∃ Y:List<|List Key×V,ah H H'/\H' D=some (.dT Y)/\Y.length<=(bt<|n.take r).length/\∀ p∈bt (n.take r),aJ n p.2=some p.1/\ao Y (key n p.2)=some (.str p.1)) ⟨⟨none,none,none,rfl⟩,[],aM hD _,av,Bu _,λp h=>(by cases h)⟩ ?_ ?_ ?_
 ·rintro r σ' H' _ ⟨_,Y,sm,_⟩;exact aj.of<|sm _ _ hR.lst
 ·rintro r x σ' H' hx ⟨⟨v1,v2,v3,rfl⟩,Y,sm,eD,UN,BU⟩;have hi:r < n.length:=by
   have:=(Ac.mp hx).1;rw[Aa]at this;omega
  obtain⟨a,ea,fA,et,el,er⟩:=(hR.same sm).at hi;rw[Ah,ea]at hx;cases hx;have jU:=By (ju n r) ht;refine a8 1 KL<|iA ?_;rw[BP rfl];refine k7h rfl rfl (SH rfl T.zip gL) ?_;show Ea _ _ _ _ _;refine ai<|bG GE hr<|ai<|ae 1<|ax ⟨a.1,a.2,n[r].1,row n r,rfl,et,el,jU,λL us H5 s5 n5 e5 l5 t5=>?_⟩;refine ai<|bb cv<|ae 1<|aE ⟨a.1,_,_,.ref a.2,rfl,rfl,aS.of<|s5 _ _ et,rfl,ax ⟨L,a.2,rfl,⟨_,aj.of e5⟩,⟨_,aj.of<|s5 _ _ el⟩,?_⟩⟩;have mj:=s5 _ _ eD;have t9:=s5 _ _ el;refine k2m (xs:=us.map V.ref) (ys:=(row n r).map V.str) (by rw[Aa,Aa,l5]) (λp σ' bS=>(∃ v2 v3,σ'=[⇑R]++[some<|.ref a.1,v2,v3])/\∃ Y:List<|List Key×V,(∀ b o,b≠D->H5 b=some o->bS b=some o)/\bS D=some (.dT Y)/\Y.length<=(bt (n.take r)++bJ r ((row n r).take p) 0).length/\∀ x∈bt (n.take r)++bJ r ((row n r).take p) 0,aJ n x.2=some x.1/\ao Y (key n x.2)=some (.str x.1))
   ⟨⟨_,_,rfl⟩,Y,λb o _ h=>h,mj,by simpa[bJ]using UN,by simpa[bJ]using BU⟩ ?_ ?_ ?_
  ·rintro p σ' bS _ ⟨_,Y,kb,_⟩;exact⟨aj.of (kb _ _ (bV e5 mj λz=>nomatch z) e5),aj.of<|kb _ _ (bV t9 mj λz=>nomatch z) t9⟩
  ·rintro p x y Tt σ' bS hx hy ⟨⟨v2,v3,rfl⟩,Y,kb,dY,rB,nK⟩ k4;rw[Ah,Ar]at hx hy;obtain⟨te,mh,rfl⟩:=hx;obtain⟨z,hz,rfl⟩:=hy;have nH:=t5 p te mh;have BQ:=bV nH mj λz=>nomatch z;have BM:=kb _ _ BQ nH;have k6:aJ n (r,p)=some z:=hz;obtain⟨rest,dG⟩:=wR hi hz;have hlen:(bt (n.take r)++bJ r ((row n r).take p) 0).length < 1000:=by
    have h1:(bt n).length=(ag n).length:=by
     have:=BZ List.length<|lZ n 0;rwa[Aa]at this
    have h2:=BZ List.length dG;rw[Ad,As]at h2;omega
   have nTD:Tt≠D:=λe=>by rw[e,dY]at k4;cases k4
   have s7:=aM k4<|.tup [.ref te,.str z];refine jT rfl (aS.of av) (a8 2 KL<|a8 3 KL ?_);refine iA ?_;rw[BP rfl];have rz:(upd bS Tt<|.tup [.ref te,.str z]) te=some (.tup<|(key n (r,p)).map kV):=by
    rw[s7 _ _ BM];show some (Tn n[r].1 (p:Int))=some (Tn (nameAt n r) (p:Int));rw[ro hi]
   refine SL hu<|ae 2<|ae 3 ⟨_,bX.t (k:=key n (r,p)) (s7 _ _ dY) rz (bI<|⋯),⟨_,_,rfl⟩,_,λb o hb h=>?_,av,?_,?_⟩
   ·rw[au hb];exact s7 _ _<|kb b o hb h
   ·rw[qC hz,<- Au,Ad];have:=jn Y (key n (r,p))<|.str z;show _<=_+1;omega
   ·rw[qC hz,<- Au];intro x hx
    rcases An.mp hx with h | h
    ·obtain⟨q1,q2⟩:=nK x h;refine⟨q1,?_⟩;rw[dC]
     by_cases hk:key n x.2=key n (r,p)
     ·rw[BP hk];have:=t8 hN (cS q1) (cS k6) hk;rw[this,k6]at q1;rw[Option.some.inj q1]
     ·rwa[BK hk]
    ·rw[Af.mp h];exact⟨k6,by rw[dC,BP rfl]⟩
  ·rintro σ' bS ⟨⟨v2,v3,rfl⟩,Y,kb,dY,rB,nK⟩;rw[Aa,l5,Br,<- tJ hi]at rB nK;exact⟨⟨_,_,_,rfl⟩,Y,λb o h=>kb b o (bh h hD)<|s5 _ _<|sm _ _ h,dY,rB,nK⟩
 ·rintro σ' H' ⟨_,Y,sm,eD,UN,BU⟩;rw[Aa,b4,Br]at BU;exact q D Y H' sm hD eD λe z he=>(BU (z,e)<|aY.mpr he).2
def w8(K:PySem.W.Frag):PySem.W.kitOne K (.type "list") (.type "list")=some true:=by rfl
def KO(K:PySem.W.Frag):PySem.W.kitOne K (.type "str") (.type "str")=some true:=by rfl
def KP(K:PySem.W.Frag):PySem.W.kitOne K (.type "int") (.type "int")=some true:=by rfl
def KS(K:PySem.W.Frag):PySem.W.kitOne K (.type "int") (.type "bool")=some false:=by kernel_rfl
theorem UO{κ:Type} [DecidableEq κ]:∀{Y:List (κ×V)} {i:Nat} {p:κ×V},(Y.map (·.1)).Nodup->Y[i]?=some p->ao Y p.1=some p.2
 | [],_,_,_,h=>by simp at h
 | q :: r,0,p,_,h=>by
  cases h;exact gJ rfl
 | q :: r,i+1,p,hn,h=>by
  rw[Bn,Bk]at hn;have hm:r[i]?=some p:=by simpa using h
  rw[gK λe=>hn.1<|by rw[e];exact Ai.mpr ⟨p,At hm,rfl⟩];exact UO hn.2 hm
def q8q{κ:Type}{l:List κ}(h:l.Nodup){j:Nat}{a:κ}(hi:l[i]?=some a)(hj:l[j]?=some a):i=j:=by
 have h1:=(Ac.mp hi).1;have h2:=(Ac.mp hj).1;have e1:=(Ac.mp hi).2;have e2:=(Ac.mp hj).2
 rcases RQ i j with c | c | c
 ·exact absurd (e1.trans e2.symm)<|Cc.mp h i j h1 h2 c
 ·exact c
 ·exact absurd (e2.trans e1.symm)<|Cc.mp h j i h2 h1 c
def iM(c:Int):Sp:=λvs H Q _=>∃R as n,vs=[.ref R]/\al H R as n/\(n.map (·.1)).Nodup/\aw n/\n.length<=1000/\(ag n).length<=1000 /\
 ∀d Y H',ah H H'->H d=none->H' d=some (.dT Y)->(∀ e∈ends n,∃ u,ao Y (key n e)=some (.ref u)/\H' u=some (TN n<|go c n e))->Q (.ref d) H'
abbrev nM:Ñ:=["rows","lists"]
abbrev rC:Ñ:=["rows","lists","end","other"]
def UP:rC.Nodup:=by decide +kernel
theorem UQ{x y:Str}{st:Stmt}(h:(x = "left_steps"/\y = "turned_left"/\st=zU)\/(x = "right_steps"/\y = "turned_right"/\st=zV))(F:bo K x x st f fd)(T:Txt mg)
  (GO:aQ P w K mg Z 2 "other_ends" ["rows"] kZ) (GT:aQ P w K mg Z 2 y ["end","many"]<|iK λj=>j+c) :
  aD P w K mg Z bz 3 f fd ["rows"] (iM c):=by
 rcases h with ⟨rfl,rfl,rfl⟩ | ⟨rfl,rfl,rfl⟩
 all_goals
  refine F.gb (N:=nM) bZ (λvs H Q E h=>?_) λb0 H vs Q E hr h=>?_
  ·obtain⟨R,as,n,rfl,_⟩:=h;rfl
  obtain⟨R,as,n,rfl,hR,hN,hT,hn,ht,q⟩:=h;have nd:nM.Nodup:=by decide +kernel
  have b4:=hR.len;have hu:=hr.u1;have keys:=Uw n as b4;have knd:((iL n as).map (·.1)).Nodup:=by rw[keys];exact k9x hN
  have KU:(iL n as).length=n.length:=by have:=BZ List.length keys;simpa using this
  refine aT 1 nd (mP (j8d rfl) T.vX PyProof.Rows.boot_dict (ai (ae 0 (ax ⟨R,as.map (·.1),iL n as,rfl,?_,?_,?_,?_,λdl i5=>?_⟩))))
  ·rw[Cg];exact hR.lst
  ·rw[Aa,KU,b4]
  ·rw[Aa];exact bI<|⋯
  ·intro j t kv h1 h2;rw[Ah,Ar]at h1;obtain⟨a,ea,rfl⟩:=h1;have hj:j < n.length:=by have:=(Ac.mp ea).1;omega
   have e:=Ux (Ab hj) ea;rw[h2]at e;cases e;exact(hR.tup j a n[j] ea<|Ab hj).1
  have ef:(iL n as).foldl (λa p=>putK a p.1 p.2) []=iL n as:=by
   rw[q12 (by rwa[Gv]),Gv]
  rw[ef];have s1:=aM i5<|.dK<|iL n as;have el:(upd H dl<|.dK<|iL n as) dl=some (.dK<|iL n as):=av;generalize upd H dl (.dK<|iL n as)=H1 at s1 el
  first | refine bQ (SR (aP zU) nM rC 2 (SY bd) ?_) | refine bQ<|SR (aP zV) nM rC 2 (SY bd) ?_
  refine bG GO hr<|ai<|ae 0<|ax ⟨R,as,n,rfl,hR.same s1,hN,hT,hn,ht,λd Y H2 s2 wx ed val w9 kks UR=>?_⟩;refine⟨d,Y,rfl,ed,λo D hD cl C æ ç ex=>?_⟩;have nDd:D≠d:=λe=>by rw[e,av]at hD;cases hD
  have pD:=jV s1 wx;have sB:ah H (upd H2 d<|.bB o<|.dT Y):=cX (s1.trans s2) pD;have kB:∀ b o',b≠d->H2 b=some o'->(upd H2 d<|.bB o<|.dT Y) b=some o':=λb o' hb h=>by rwa[au hb]
  have tB:∀ b p j,H2 b=some (Tn p j)->(upd H2 d<|.bB o<|.dT Y) b=some (Tn p j):=λb p j h=>kB b _ (rp h ed) h;have UT:(upd H2 d<|.bB o<|.dT Y) d=some (.bB o<|.dT Y):=av;have UU:(upd H2 d<|.bB o<|.dT Y) dl=some (.dK<|iL n as):=kB _ _ (λe=>by rw[e,wx]at el;cases el)<|s2 _ _ el;have hRB:=hR.same sB;generalize upd H2 d (.bB o<|.dT Y)=HB at hD sB tB UT UU hRB;have KW:=jV sB hD;refine j9l (λi σ' H'=>(∃ v1 v2,σ'=[⇑R,⇑dl]++[v1,v2])/\∃ cO:List<|List Key×V,H' D=some (.dT cO)/\cO.length<=i/\ah HB H' /\
   (∀ j k x e,j < i->Y[j]?=some (k,x)->e∈ends n->k=key n e->∃ u,ao cO (key n e)=some (.ref u)/\H' u=some (TN n<|go c n e)))
   ⟨⟨none,none,rfl⟩,[],av,Am _,aM hD _,λj k x e h=>absurd h<|Eh _⟩ ?_ ?_ ?_
  ·rintro i σ' H' _ ⟨_,_,_,_,sm,_⟩;exact sm _ _ UT
  ·rintro i k x b Tt σ' H' hx ⟨⟨v1,v2,rfl⟩,cO,eD,l2,sm,all⟩ hb k4;have hi:i < Y.length:=(Ac.mp hx).1;obtain⟨e,he,rfl⟩:=kks k<|Ai.mpr ⟨_,At hx,rfl⟩;obtain⟨u,hv,Jn⟩:=val e he;have lg:ao Y (key n e)=some x:=UO w9 hx;rw[hv]at lg;cases lg;have zx:=dD hT he;obtain⟨zo,UX⟩:=af.mp zx;have jU:=cS UX;have pq:=iE UX;have nmE:nameAt n (other n e).1=n[(other n e).1].1:=ro jU;have sT:=aM k4<|.tup [.ref b,.ref u];have UY:=sT _ _<|sm _ _<|tB _ _ _ Jn;refine jT rfl (aS.of av) (a8 2 UP<|a8 3 UP ?_);refine iA ?_;rw[BP rfl];have UZ:as[(other n e).1]?=some (as[(other n e).1]'⋯):=Ab ⋯;have xa:n[(other n e).1]?=some n[(other n e).1]:=Ab jU;have ev:ao (iL n as) (Sum.inr<|nameAt n (other n e).1)=some (.ref (as[(other n e).1]'⋯).2):=by rw[nmE];exact Uv knd<|Ux xa UZ
   have K0:=(hR.tup _ _ _ UZ xa).2;have xc:row n (other n e).1=n[(other n e).1].2:=ic jU;refine SL hu<|ae 2<|bG GT hr<|ai<|ae 3<|ai<|bP dH T.len DR<|ai<|eU hu<|ae 1<|bb cv<|ae 3<|aE ⟨u,_,_,.str<|nameAt n (other n e).1,rfl,rfl,aS.of UY,rfl,?_⟩;refine⟨dl,.ref (as[(other n e).1]'⋯).2,rfl,by rw[<- ev];exact aX.k (k:=Sum.inr<|nameAt n (other n e).1)<|sT _ _<|sm _ _ UU,ax ⟨_,_,rfl,.inl<|aj.of<|sT _ _<|sm _ _<|sB _ _ K0,ax ⟨u,_,_,_,rfl,UY,?_,λt2 H4 s4 A6=>?_⟩⟩⟩
   ·rw[Aa,<- xc];omega
   rw[Aa,<- xc]at A6;have K1:H4 t2=some (TN n<|go c n e):=by
    rw[A6];have:=wj (c:=c) zx;show some (Tn _ _)=some (Tn _ (((go c n e).2:Nat):Int));unfold go;rw[this];rfl
   have wN:=s4 _ _<|sT _ _ hb;refine⟨_,bX.t (k:=key n e) (s4 _ _<|sT _ _ eD) wN (bI<|⋯),⟨_,_,rfl⟩,_,av,?_,cX ((sm.trans sT).trans s4) hD,λj k' x' e' hj g8 zB qj=>?_⟩
   ·have:=jn cO (key n e)<|.ref t2;omega
   ·subst qj
    by_cases BE:j=i
    ·subst BE;rw[hx]at g8;have hke:key n e=key n e':=BZ Prod.fst<|Option.some.inj g8;obtain⟨z1,qR⟩:=af.mp he;obtain⟨z2,AJ⟩:=af.mp zB;have:=t8 hN (cS qR) (cS AJ) hke;subst this;exact⟨t2,by rw[dC,BP rfl],by rwa[au<|rp K1<|s4 _ _<|sT _ _ eD]⟩
    ·obtain⟨u3,hu3,hu4⟩:=all j _ x' e' ⋯ g8 zB rfl;refine⟨u3,?_,?_⟩
     ·rw[dC,BK,hu3];intro hk;have h1:(Y.map (·.1))[j]?=some (key n e'):=by rw[Ah,g8];rfl
      have h2:(Y.map (·.1))[i]?=some (key n e'):=by rw[Ah,hx,hk];rfl
      exact BE<|q8q w9 h1 h2
     ·have q4:=s4 _ _<|sT _ _ hu4;rwa[au<|rp q4<|s4 _ _<|sT _ _ eD]
  ·rintro σ' H' ⟨_,cO,eD,_,sm,all⟩;refine q D cO H' (sB.trans sm) KW eD λe he=>?_;obtain⟨u,hv,_⟩:=val e he;obtain⟨i,hi⟩:∃ i:Nat,(Y.map (·.1))[i]?=some (key n e):=Bj<|Ql hv;rw[Ah,Ar]at hi;obtain⟨⟨k,x⟩,hx,hk⟩:=hi;exact all i k x e (Ac.mp hx).1 hx he hk
def x2g(F:bo K "left_steps" "left_steps" zU f fd)(T:Txt mg)(GO:aQ P w K mg Z 2 "other_ends" ["rows"] kZ)(GT:aQ P w K mg Z 2 "turned_left" ["end","many"]<|iK λj=>j+1):aD P w K mg Z bz 3 f fd ["rows"] (iM 1):=UQ (.inl ⟨rfl,rfl,rfl⟩) F T GO GT
def x2h(F:bo K "right_steps" "right_steps" zV f fd)(T:Txt mg)(GO:aQ P w K mg Z 2 "other_ends" ["rows"] kZ)(GT:aQ P w K mg Z 2 "turned_right" ["end","many"]<|iK λj=>j - 1):aD P w K mg Z bz 3 f fd ["rows"] (iM (-1)):=UQ (.inr ⟨rfl,rfl,rfl⟩) F T GO GT
def fb(n:Net)(H:Hp)(ts:List Addr)(es:List Nt.End):Prop:=ts.length=es.length/\∀(j:Nat) t e,ts[j]?=some t->es[j]?=some e->H t=some (TN n e)
def fb.keep(h:fb n H ts es)(k:∀ t p j,H t=some (Tn p j)->H' t=some (Tn p j)):fb n H' ts es:=⟨h.1,λj t e h1 h2=>k _ _ _<|h.2 j t e h1 h2⟩
def fb.same(h:fb n H ts es)(s:ah H H'):fb n H' ts es:=h.keep λ_ _ _ q=>s _ _ q
theorem fb.append{fs:List Nt.End}(h:fb n H ts es)(g:fb n H us fs):fb n H (ts++us) (es++fs):=by
 refine⟨by rw[Ad,Ad,h.1,g.1],λj t e h1 h2=>?_⟩;have hl:=h.1
 by_cases hj:j < ts.length
 ·rw[Aq hj]at h1;rw[Aq<|⋯]at h2;exact h.2 j t e h1 h2
 ·rw[Ba<|⋯]at h1 h2;rw[<- hl]at h2;exact g.2 _ t e h1 h2
theorem fb.two{t u:Addr}{b:Nt.End}(h1:H t=some (TN n a))(h2:H u=some (TN n b)):fb n H [t,u] [a,b]:=⟨rfl,λj x e h3 h4=>by
 match j with
 | 0=>cases h3;cases h4;exact h1
 | 1=>cases h3;cases h4;exact h2
 | j+2=>simp at h3⟩
def x2a(hN:(n.map (·.1)).Nodup){b:Nt.End}(ha:a∈ends n)(hb:b∈ends n):decide (nameAt n a.1=nameAt n b.1/\(a.2:Int)=(b.2:Int))=decide (a=b):=by
 obtain⟨z1,h1⟩:=af.mp ha;obtain⟨z2,h2⟩:=af.mp hb;refine decide_eq_decide.mpr ⟨λ⟨p,q⟩=>t8 hN (cS h1) (cS h2) (by unfold key;rw[p,q]),λe=>by rw[e];exact⟨rfl,rfl⟩⟩
def K2(h:H d=some (.lst xs)):mF K "list" (.ref d) H:=Or.inl ⟨rfl,xs,aj.of h⟩
def bE(n:Net)(H:Hp)(d:Addr)(c:Int):Prop:=∃ Y,H d=some (.dT Y)/\∀ e∈ends n,∃ u,ao Y (key n e)=some (.ref u)/\H u=some (TN n<|go c n e)
def bE.same(h:bE n H d c)(s:ah H H'):bE n H' d c:=let ⟨Y,h1,h2⟩:=h;⟨Y,s _ _ h1,λe he=>let ⟨u,a,b⟩:=h2 e he;⟨u,a,s _ _ b⟩⟩
def bE.get{n:Net}{H:Hp}{d t:Addr}{c:Int}{e:Nt.End}(h:bE n H d c)(he:e∈ends n)(ht:H t=some (TN n e)):∃ u,aX H d (.ref t) (⇑u)/\H u=some (TN n<|go c n e):=by
 obtain⟨Y,h1,h2⟩:=h;obtain⟨u,a,b⟩:=h2 e he;exact⟨u,by rw[<- a];exact aX.t h1 ht,b⟩
def rD:Sp:=λvs H Q _=>∃dl dr t n e,vs=[.ref dl,.ref dr,.ref t]/\bE n H dl 1/\bE n H dr (-1)/\(n.map (·.1)).Nodup/\aw n/\(ag n).length<=1000/\e∈ends n/\H t=some (TN n e) /\
 ∀l ts k H',ah H H'->H l=none->H' l=some (.lst<|ts.map V.ref)->fb n H' ts (wk n e k)->jw n e k->k<=(ends n).length->Q (.ref l) H'
abbrev NWf:Ñ:=["lefts","rights","first","walker","end"]
def xf:ak NWf ["lefts","rights","first"] (aP qG):=bZ
def K3(ts:List Addr)(a b:Addr):ts.map V.ref++[V.ref a,V.ref b]=(ts++[a]).map V.ref++[V.ref b]:=by rw[Aj,Au];rfl
theorem x2z(F:bo K "walker_from" "walker_from" qG f fd)(T:Txt mg):aD P w K mg Z bz 1 f fd ["lefts","rights","first"] rD:=by
 refine F.gc xf λb0 H vs Q E hr h=>?_;obtain⟨dl,dr,t,n,e,rfl,hL,U0,hN,hT,iN,he,ht,q⟩:=h;have nd:=xf.nd;have pq:=jv n;have hu:=hr.u1;have un:=hr.fQ;obtain⟨k,k0,k1,k2⟩:=Ip (λa ha=>m9 hT ha) (λa ha b hb=>wm hT ha hb) he;obtain⟨u1,g1,e1⟩:=hL.get he ht;refine aT 3 nd<|dS<|ai<|ae 2<|ai<|eU hu<|ae 0<|ae 2 ⟨dl,.ref u1,rfl,g1,ax ⟨Z2,λl hl=>?_⟩⟩;have s1:=aM hl<|.lst [.ref t,.ref u1];have el:(upd H l<|.lst [.ref t,.ref u1]) l=some (.lst<|[t,u1].map V.ref):=av;generalize upd H l (.lst [.ref t,.ref u1])=H1 at s1 el;obtain⟨u2,g2,e2⟩:=(U0.same s1).get (gB hT he)<|s1 _ _ e1;refine aT 4 nd<|eU hu<|ae 1<|bb cL<|ae 3<|y4 yR<|aE ⟨1,rfl,l,_,_,.ref u1,rfl,rfl,aj.of el,rfl,dr,.ref u2,rfl,g2,?_⟩;refine vP (λm σ H2=>∃j ts u,m=k - j/\0 < j/\j<=k/\ah H H2/\H2 l=some (.lst<|ts.map V.ref)/\fb n H2 ts (wk n e j)/\H2 u=some (TN n<|it (two n) j e)/\(∀ i,0 < i->i < j->it (two n) i e≠e)/\σ=[⇑dl,⇑dr,⇑t,⇑l,⇑u])
  (m0:=k - 1) ⟨1,[t,u1],u2,rfl,Fr,k0,s1,el,fb.two (s1 _ _ ht)<|s1 _ _ e1,e2,λi h1 h2=>⋯,rfl⟩ ?_
 rintro m σ H2 ⟨j,ts,u,rfl,j0,j1,sH,xg,at2,eu,hf,rfl⟩;have K4:=kz (λa ha=>m9 hT ha) he j;refine cH (qw un) (ae 4<|ae 2 ⟨1,_,∅,x0s eu<|sH _ _ ht,_,rfl,?_⟩);rw[x2a hN K4 he];have tl:=at2.1;rw[qU]at tl
 by_cases c:it (two n) j e=e
 ·rw[BW c];exact bH<|bQ<|ae 3<|q l ts j H2 sH hl xg at2 ⟨j0,c,hf⟩<|⋯
 ·rw[BR c];have jk:j < k:=by
   rcases Dr j k with h | h
   ·exact h
   ·have:j=k:=⋯
    subst this;exact absurd k2 c
  obtain⟨v1,g3,e3⟩:=(hL.same sH).get K4 eu;refine cz<|gq<|zF DW PySem.F.slot_list_extend PySem.F.type_list_extend ZK<|ae 3 ⟨K2 xg,dS<|ai<|ae 4<|ai<|eU hu<|ae 0<|ae 4 ⟨dl,.ref v1,rfl,g3,ax ⟨Z2,λp hp=>?_⟩⟩⟩;have s3:=aM hp<|.lst [.ref u,.ref v1];refine⟨l,p,ts.map V.ref,[.ref u,.ref v1],rfl,rfl,s3 _ _ xg,av,small (by rw[Aa];show _+2<=100000;omega),?_⟩;have rE:ah H (upd (upd H2 p<|.lst [.ref u,.ref v1]) l<|.lst<|ts.map V.ref++[.ref u,.ref v1]):=cX (sH.trans s3) hl;have K5:(upd (upd H2 p<|.lst [.ref u,.ref v1]) l<|.lst<|ts.map V.ref++[.ref u,.ref v1]) l=some (.lst<|(ts++[u,v1]).map V.ref):=by rw[av,Aj];rfl
  have kt:∀ b p' j',H2 b=some (Tn p' j')->(upd (upd H2 p<|.lst [.ref u,.ref v1]) l<|.lst<|ts.map V.ref++[.ref u,.ref v1]) b=some (Tn p' j'):=λb p' j' h=>by
   rw[au<|bV h xg λz=>nomatch z];exact s3 _ _ h
  generalize upd (upd H2 p<|.lst [.ref u,.ref v1]) l (.lst<|ts.map V.ref++[.ref u,.ref v1])=H3 at rE K5 kt;obtain⟨v2,g4,e4⟩:=(U0.same rE).get (gB hT K4)<|kt _ _ _ e3;refine aT 4 nd<|eU hu<|ae 1<|bb cL<|ae 3<|y4 yR<|aE ⟨1,rfl,l,_,_,.ref v1,rfl,rfl,aj.of K5,?_,dr,.ref v2,rfl,g4,?_⟩
  ·rw[Aj];show fG (ts.map V.ref++[V.ref u,V.ref v1]) (-1)=_;rw[K3];exact Zz _ _
  refine a7 ⟨k - (j+1),⋯,j+1,ts++[u,v1],v2,rfl,Gd _,jk,rE,K5,(at2.keep kt).append<|fb.two (kt _ _ _ eu)<|kt _ _ _ e3,e4,λi h1 h2=>?_,rfl⟩
  by_cases dQ:i=j
  ·subst dQ;exact c
  ·exact hf i h1<|⋯
open bK
theorem U1{α β:Type}(f:α->β):∀ xs:List α,aq (xs.map f)=(aq xs).map f
 | []=>rfl
 | [a]=>rfl
 | a :: b :: r=>by
  show f a :: aq (r.map f)=f a :: (aq r).map f;rw[U1 f r]
def fb.aq{n:Net}{H:Hp}{ts:List Addr}{es:List Nt.End}(h:fb n H ts es):fb n H (L2.aq ts) (L2.aq es):=by
 refine⟨by rw[wg,wg,h.1],λj t e h1 h2=>?_⟩;rw[qT]at h1 h2;exact h.2 _ t e h1 h2
def pE{a:Addr}{o:HO}(h:H a=some o)(g:H d=some (bj P w d zs))(ho:∀ φ,o ≠ .ext φ):a≠d:=λe=>by
 rw[e,g]at h;exact ho _ (Option.some.inj h).symm
structure jX(n:Net)(H:Hp)(L:Addr)(ls:List Addr)(ws:List<|List Nt.End):Prop where
 lst:H L=some (.lst<|ls.map V.ref)
 len:ls.length=ws.length
 de:ls.Nodup
 out:L∉ls
 at':∀(j:Nat) l w,ls[j]?=some l->ws[j]?=some w->∃ ts,H l=some (.lst<|ts.map V.ref)/\fb n H ts w
def jX.same{n:Net}{H H':Hp}{L:Addr}{ls:List Addr}{ws:List (List Nt.End)}(h:jX n H L ls ws)(s:ah H H'):jX n H' L ls ws:=
 ⟨s _ _ h.lst,h.len,h.de,h.out,λj l w h1 h2=>let ⟨ts,a,b⟩:=h.at' j l w h1 h2;⟨ts,s _ _ a,b.same s⟩⟩
def jX.keep{n:Net}{H H':Hp}{L:Addr}{ls:List Addr}{ws:List (List Nt.End)}(h:jX n H L ls ws)(hL:H' L=H L)(kl:∀ l∈ls,∀ o,H l=some o->H' l=some o)(kt:∀ t p j,H t=some (Tn p j)->H' t=some (Tn p j)):jX n H' L ls ws:=
 ⟨by rw[hL];exact h.lst,h.len,h.de,h.out,λj l w h1 h2=>let ⟨ts,a,b⟩:=h.at' j l w h1 h2;⟨ts,kl l (At h1) _ a,b.keep kt⟩⟩
theorem jX.snoc{L l:Addr}{ls:List Addr}(h:jX n H L ls ws)(hL:H' L=some (.lst<|ls.map V.ref++[.ref l]))(kl:∀ l∈ls,∀ o,H l=some o->H' l=some o)(kt:∀ t p j,H t=some (Tn p j)->H' t=some (Tn p j))
  (hl:H' l=some (.lst<|ts.map V.ref)) (hv:fb n H' ts v) (hn:l∉ls) (K6:L≠l):jX n H' L (ls++[l]) (ws++[v]):=by
 refine⟨by rw[hL,Aj];rfl,by rw[Ad,Ad,h.len];rfl,lQ h.de hn,λhm=>?_,λj a x h1 h2=>?_⟩
 ·rcases An.mp hm with hm | hm
  ·exact h.out hm
  ·exact K6<|Af.mp hm
 ·have hlen:=h.len
  by_cases hj:j < ls.length
  ·rw[Aq hj]at h1;rw[Aq<|⋯]at h2;obtain⟨us,q1,q2⟩:=h.at' j a x h1 h2;exact⟨us,kl a (At h1) _ q1,q2.keep kt⟩
  ·rw[Ba<|⋯]at h1 h2;have f9:j - ls.length=0:=by
    have:=(Ac.mp h1).1;simp at this;omega
   rw[f9]at h1;rw[<- hlen,f9]at h2;cases h1;cases h2;exact⟨ts,hl,hv⟩
def BV:Sp:=λvs H Q _=>∃R as n,vs=[.ref R]/\al H R as n/\(n.map (·.1)).Nodup/\aw n/\n.length<=1000/\(ag n).length<=400 /\
 ∀L ls H',ah H H'->H L=none->jX n H' L ls (eW n (ends n) [])->(∀ l∈ls,H l=none)->Q (.ref L) H'
def q63(h:(bt n)[i]?=some p):(ends n)[i]?=some p.2:=by unfold ends;rw[Ah,h];rfl
abbrev NWs:Ñ:=["rows","lefts","rights","names","told","walkers","first","walker","end"]
def xh:ak NWs ["rows"] (aP qF):=bZ
theorem q97(F:bo K "walkers_of" "walkers_of" qF f fd)(T:Txt mg)
  (GL:aQ P w K mg Z 3 "left_steps" ["rows"]<|iM 1)
  (GR:aQ P w K mg Z 3 "right_steps" ["rows"]<|iM (-1))
  (GN:aQ P w K mg Z 3 "ties_by_end" ["rows"] nJ)
  (GO:aQ P w K mg Z 3 "ends_in_order" ["rows"] Kz)
  (GW:aQ P w K mg Z 3 "walker_from" ["lefts","rights","first"] rD) :
  aD P w K mg Z bz 4 f fd ["rows"] BV:=by
 refine F.gc xh λb0 H vs Q E hr h=>?_;obtain⟨R,as,n,rfl,hR,hN,hT,hn,iN,q⟩:=h;have nd:=xh.nd;have pq:=jv n;have hu:=hr.u1;show Run _ _ _ [⇑R,none,none,none,none,none,none,none,none] H;refine aT 1 nd (bG GL hr<|ai<|ae 0<|ax ⟨R,as,n,rfl,hR,hN,hT,hn,⋯,λdl kl H1 s1 n1 e1 v1=>?_⟩);refine aT 2 nd (bG GR hr<|ai<|ae 0<|ax ⟨R,as,n,rfl,hR.same s1,hN,hT,hn,⋯,λdr kr H2 s2 n2 e2 v2=>?_⟩);refine aT 3 nd (bG GN hr<|ai<|ae 0<|ax ⟨R,as,n,rfl,hR.same<|s1.trans s2,hN,hn,⋯,λdn kn H3 s3 n3 e3 v3=>?_⟩);refine aT 4 nd<|q6n T.qK λD hD=>?_;refine aT 5 nd<|dS<|ax ⟨Z0,λL hL=>?_⟩;have hSL:=bE.same ⟨kl,e1,v1⟩<|s2.trans s3;have hSR:=bE.same ⟨kr,e2,v2⟩ s3;have rF:=(s1.trans s2).trans s3;have B0:L≠D:=λe=>by rw[e,av]at hL;cases hL
 have hL3:H3 L=none:=by rwa[au B0]at hL
 have KW:=jV rF hD;have A9:=jV rF hL3;have sB:ah H3 (upd (upd H3 D<|bj P w D []) L<|.lst []):=(aM hD _).trans<|aM hL _;have U2:(upd (upd H3 D<|bj P w D []) L<|.lst []) D=some (bj P w D []):=by rw[au<|CG B0,av]
 have ua:(upd (upd H3 D<|bj P w D []) L<|.lst []) L=some (.lst []):=av;have K7:=rF.trans sB;have xi:=hSL.same sB;have xj:=hSR.same sB;have U3:=sB _ _ e3;show Run _ _ _ [⇑R,⇑dl,⇑dr,⇑dn,⇑D,⇑L,none,none,none] (upd (upd H3 D<|bj P w D []) L<|.lst []);generalize upd (upd H3 D<|bj P w D []) L (.lst [])=HB at sB U2 ua K7 xi xj U3;refine lS (bG GO hr<|ai<|ae 0<|ax ⟨R,as,n,rfl,hR.same K7,hn,⋯,λú us H5 s5 n5 e5 K8=>⟨ú,rfl,⟨_,aj.of e5⟩,?_⟩⟩);have ub:=K7.trans s5;have mj:=s5 _ _ U2;have B1:=s5 _ _ ua;have K9:=xi.same s5;have K':=xj.same s5;have La:=s5 _ _ U3;have nUL:ú≠L:=λe=>by rw[e,ua]at n5;cases n5
 have rG:us.length=(ends n).length:=by rw[K8.1];unfold ends;rw[Aa]
 refine lT (xs:=us.map V.ref) (λi σ H'=>∃(zs told:Ñ) (ls:List Addr) (ws:List<|List Nt.End) (u1 u2 u3:Option V),(∀ b o,b≠D->b≠L->H5 b=some o->H' b=some o)/\H' D=some (bj P w D zs)/\zs.Nodup/\(∀ z∈zs,z∈ag n)/\(∀ z,z∈zs↔z∈told) /\
  jX n H' L ls ws/\(∀ l∈ls,H5 l=none)/\ls.length<=i/\eW n (ends n) []=ws++eW n ((ends n).drop i) told/\σ=[⇑R,⇑dl,⇑dr,⇑dn,⇑D,⇑L,u1,u2,u3])
  ⟨[],[],[],[],_,_,_,λb o _ _ h=>h,mj,Cn,λz h=>by simp at h,λz=>by simp,⟨B1,rfl,Cn,by simp,λj l w h=>by simp at h⟩,λl h=>by simp at h,Am _,rfl,rfl⟩ ?_ ?_ ?_
 ·rintro i σ H' _ ⟨_,_,_,_,_,_,_,kp,_⟩;exact aj.of<|kp _ _ (pE e5 mj λφ z=>nomatch z) nUL e5
 ·rintro i x σ H' hx ⟨zs,told,ls,ws,u1,u2,u3,kp,eD,zn,zt,zm,hW,hf,mV,xk,rfl⟩;have hi:i < us.length:=by
   have:=(Ac.mp hx).1;rwa[Aa]at this
  rw[Ah,Ab hi]at hx;cases hx;have Lb:i < (bt n).length:=by have:=K8.1;omega
  have B2:H5 us[i]=some (TN n (bt n)[i].2):=K8.2 i us[i] (bt n)[i] (Ab hi)<|Ab Lb;have nN:=q63<|Ab Lb;have jz:aJ n (bt n)[i].2=some (bt n)[i].1:=aY.mp (by have:=Bp Lb;exact this);generalize (bt n)[i]=pr at B2 nN jz;obtain⟨z,e⟩:=pr;have B2:H5 us[i]=some (TN n e):=B2;have jz:aJ n e=some z:=jz;have nN:(ends n)[i]?=some e:=nN;have he:e∈ends n:=At nN;have pF:(ends n).drop i=e :: (ends n).drop (i+1):=by
   have U4:i < (ends n).length:=⋯
   rw[RV U4]
   congr 1
   have:=Ab U4;rw[nN]at this;exact(Option.some.inj this).symm
  have U5:∀{b p j},H5 b=some (Tn p j)->H' b=some (Tn p j):=λ{b p j} h=>kp _ _ (pE h mj λφ z=>nomatch z) (bV h B1 λz=>nomatch z) h;have dX:=U5 B2;have Le:H' dn=some (.dT kn):=kp _ _ (pE La mj λφ z=>nomatch z) (bV La B1 λz=>nomatch z) La;have cP:∀{d c},bE n H5 d c->bE n H' d c:=λ{d c} ⟨Y,a,b⟩=>⟨Y,kp _ _ (pE a mj λφ z=>nomatch z) (bV a B1 λz=>nomatch z) a,λe he=>let ⟨u,p,r⟩:=b e he;⟨u,p,U5 r⟩⟩;have Lf:aX H' dn (.ref us[i]) (some<|.str z):=by rw[<- v3 e z jz];exact aX.t (k:=key n e) Le dX
  refine a8 6 nd ?_;refine fP<|cH k0x<|eU hu<|ae 3<|ae 6 ⟨dn,.str z,rfl,Lf,ae 4 ⟨z,D,zs,rfl,rfl,eD,_,rfl,?_⟩⟩;refine iq (λc=>?_) λc=>?_
  ·have hz:z∉zs:=BX c;have cU:ay n e∉told:=by rw[dJ jz];exact λh=>hz<|(zm z).mpr h
   refine aT 7 nd (bG GW hr<|ai<|ae 1<|ai<|ae 2<|ai<|ae 6<|ax ⟨dl,dr,us[i],n,e,rfl,cP K9,cP K',hN,hT,⋯,he,dX,λl ts k H6 s6 n6 e6 at6 pr hk=>?_⟩);have hpe:=wo pr;have rH:walker n e=wk n e k:=by unfold walker;rw[hpe]
   have Lh:=s6 _ _ hW.lst;have dY:=s6 _ _ eD;have Li:L≠l:=bh hW.lst n6;have t7:D≠l:=bh eD n6;refine gq (jQ<|ae 5 ⟨L,rfl,⟨_,Lh⟩,ae 7 ⟨_,Lh,by rw[Aa];exact bI ⋯,?_⟩⟩);have k7:∀ b o,b≠L->H6 b=some o->(upd H6 L<|.lst<|ls.map V.ref++[.ref l]) b=some o:=λb o hb h=>by rwa[au hb]
   have U6:(upd H6 L<|.lst<|ls.map V.ref++[.ref l]) L=some (.lst<|ls.map V.ref++[.ref l]):=av;generalize upd H6 L (.lst<|ls.map V.ref++[.ref l])=H7 at k7 U6;have U7:∀ t p j,H6 t=some (Tn p j)->H7 t=some (Tn p j):=λt p j h=>k7 _ _ (bV h Lh λz=>nomatch z) h;have e7:=k7 _ _ (CG Li) e6;have eD7:=k7 _ _ (CG B0) dY;have U8:=at6.keep U7;have uc:l∉ls:=λhm=>by
    obtain⟨j,hj⟩:=Bj hm;have hlen:=hW.len;have Lj:j < ws.length:=by have:=(Ac.mp hj).1;omega
    obtain⟨_,a,_⟩:=hW.at' j l ws[j] hj<|Ab Lj;rw[n6]at a;cases a
   have hW7:jX n H7 L (ls++[l]) (ws++[wk n e k]):=hW.snoc U6 (λa ha o ho=>k7 _ _ (λq=>hW.out<|q ▸ ha)<|s6 _ _ ho) (λt p j h=>U7 _ _ _<|s6 _ _ h) e7 U8 uc Li;have l57:H5 l=none:=by
    cases q5:H5 l with
    | none=>rfl
    | some o=>rw[kp _ _ (CG t7) (CG Li) q5]at n6;cases n6
   have hf7:∀ a∈ls++[l],H5 a=none:=λa ha=>by
    rcases An.mp ha with ha | ha
    ·exact hf a ha
    ·rwa[Af.mp ha]
   have wJ:∀ b o,b≠D->b≠L->H5 b=some o->H7 b=some o:=λb o h1 h2 h=>k7 _ _ h2<|s6 _ _<|kp b o h1 h2 h;have B3:(ls++[l]).length<=i+1:=by rw[Ad];show ls.length+1<=_;omega
   have Ln:eW n (ends n) []=(ws++[wk n e k])++eW n ((ends n).drop<|i+1) (told++(aq<|wk n e k).map (ay n)):=by
    rw[xk,pF];show ws++(if ay n e∈told then _ else _)=_;rw[BK cU,rH,Au];rfl
   have xl:=Jp hT he k;refine lS<|q18<|ae 7 ⟨l,_,rfl,aj.of e7,λp hp=>⟨p,rfl,⟨_,aj.of av⟩,?_⟩⟩;rw[U1];have s8:=aM hp<|.lst<|(aq ts).map V.ref;have e8:(upd H7 p<|.lst<|(aq ts).map V.ref) p=some (.lst<|(aq ts).map V.ref):=av;have pG:=s8 _ _ eD7;have ud:=hW7.same s8;have B4:=(U8.same s8).aq;have U9:∀ b o,b≠D->b≠L->H5 b=some o->(upd H7 p<|.lst<|(aq ts).map V.ref) b=some o:=λb o h1 h2 h=>s8 _ _<|wJ b o h1 h2 h;have Lp:=s8 _ _ (k7 _ _ (bV Le hW.lst λz=>nomatch z)<|s6 _ _ Le);generalize upd H7 p (.lst<|(aq ts).map V.ref)=H8 at s8 e8 pG ud B4 U9 Lp;have Lv:p≠D:=pE e8 pG λφ z=>nomatch z;refine lT (xs:=(aq ts).map V.ref) (λm σ H9=>∃(i4:Ñ) (u3:Option V),(∀ b o,b≠D->H8 b=some o->H9 b=some o)/\H9 D=some (bj P w D i4)/\i4.Nodup/\(∀ z∈i4,z∈ag n)/\(∀ z,z∈i4↔z∈told++((aq<|wk n e k).take m).map (ay n)) /\
    σ=[⇑R,⇑dl,⇑dr,⇑dn,⇑D,⇑L,some<|.ref us[i],⇑l,u3]) ⟨zs,_,λb o _ h=>h,pG,zn,zt,λz=>by rw[zm z];simp,rfl⟩ ?_ ?_ ?_
   ·rintro m σ H9 _ ⟨_,_,k9,_⟩;exact aj.of<|k9 _ _ Lv e8
   ·rintro m x σ H9 hx ⟨i4,u3,k9,pH,xm,B5,B6,rfl⟩;have hm:m < (aq ts).length:=by
     have:=(Ac.mp hx).1;rwa[Aa]at this
    have l8:=B4.1;rw[Ah,Ab hm]at hx;cases hx;have nq:m < (aq<|wk n e k).length:=⋯
    have Lw:=B4.2 m _ _ (Ab hm)<|Ab nq;have hcw:(aq<|wk n e k)[m]∈wk n e k:=by
     have h1:(aq<|wk n e k)[m]?=some (aq<|wk n e k)[m]:=Ab nq;rw[qT]at h1;exact At h1
    have A4:=xl _ hcw;obtain⟨y,hy⟩:=af.mp A4;have gZ:(aq<|wk n e k).take (m+1)=(aq<|wk n e k).take m++[(aq<|wk n e k)[m]]:=by rw[Bx,Ab nq];rfl
    generalize (aq<|wk n e k)[m]=c at Lw A4 hy gZ;have hc9:H9 (aq ts)[m]=some (TN n c):=k9 _ _ (pE Lw pG λφ z=>nomatch z) Lw;have ed9:H9 dn=some (.dT kn):=k9 _ _ (pE Lp pG λφ z=>nomatch z) Lp;have hd9:aX H9 dn (.ref (aq ts)[m]) (some<|.str y):=by rw[<- v3 c y hy];exact aX.t (k:=key n c) ed9 hc9
    have zl:i4.length<=(ag n).length:=aI xm B5;refine a8 8 nd ?_;refine gq<|q5h<|ae 4 ⟨D,rfl,⟨_,pH⟩,eU hu<|ae 3<|ae 8 ⟨dn,.str y,rfl,hd9,y,i4,rfl,pH,⋯,a7 ⟨added i4 y,_,λb o hb h=>?_,av,?_,λz hz=>?_,λz=>?_,rfl⟩⟩⟩
    ·rw[au hb];exact k9 b o hb h
    ·unfold added
     split
     ·exact xm
     ·rename_i hny;exact lQ xm hny
    ·rcases (Hz i4 y z).mp hz with h | h
     ·exact B5 z h
     ·rw[h];exact eG hy
    ·rw[Hz,B6 z,gZ,Aj,<- Au,An (s:=told++_)];show _\/z=y↔_\/z∈[ay n c];rw[dJ hy,Af]
   ·rintro σ H9 ⟨i4,u3,k9,pH,xm,B5,B6,rfl⟩;have l8:=B4.1;rw[Aa,l8,Br]at B6;refine a7<|a7 ⟨i4,told++(aq<|wk n e k).map (ay n),ls++[l],ws++[wk n e k],_,_,_,λb o h1 h2 h=>k9 _ _ h1<|U9 b o h1 h2 h,pH,xm,B5,B6,?_,hf7,B3,Ln,rfl⟩;refine ud.keep ?_ (λa ha o ho=>k9 _ _ ?_ ho) λt p j h=>k9 _ _ (pE h pG λφ z=>nomatch z) h
    ·rw[ud.lst];exact k9 _ _ B0 ud.lst
    ·intro q;rw[q,pG]at ho;obtain⟨j,hj⟩:=Bj ha;have hlen:=ud.len;have Lj:j < (ws++[wk n e k]).length:=by have:=(Ac.mp hj).1;omega
     obtain⟨_,b,_⟩:=ud.at' j a _ hj<|Ab Lj;rw[q,pG]at b;cases b
  ·have hz:z∈zs:=Classical.not_not.mp<|GJ<|Dk.mpr c;refine a7 (a7 ⟨zs,told,ls,ws,_,_,_,kp,eD,zn,zt,zm,hW,hf,⋯,?_,rfl⟩);rw[xk,pF];show ws++(if ay n e∈told then _ else _)=_;rw[BP<|by rw[dJ jz];exact(zm z).mp hz]
 ·rintro σ H' ⟨zs,told,ls,ws,u1,u2,u3,kp,eD,zn,zt,zm,hW,hf,mV,xk,rfl⟩;rw[Aa,rG,List.drop_length]at xk;have Lx:eW n (ends n) []=ws:=by rw[xk];show ws++[]=ws;rw[Be]
  refine bQ (ae 5<|q L ls H' (λb o h=>?_) A9 (by rwa[Lx]) λl hl=>jV ub<|hf l hl);exact kp _ _ (bh h KW) (bh h A9)<|ub _ _ h
end
end Q1
namespace pI
open PySem PySem.W PyProof.Rows
variable{n i m:Nat}{J:Shared->Prop}{cmp:Nat->Nat->(Bool->Shared->Prop)->Shared->Prop}{p:Array Nat}{s:Shared}{Q:Nat×Array Nat->Shared->Prop}
section
variable{lt:Nat->Nat->Bool}
structure fc(lt:Nat->Nat->Bool)(cmp:Nat->Nat->(Bool->Shared->Prop)->Shared->Prop)(J:Shared->Prop)(n:Nat):Prop where
 ask:∀i j C s,i < n->j < n->i≠j->J s->(∀ s',J s'->C (lt i j) s')->cmp i j C s
 fe:∀ i j,i < n->j < n->i≠j->lt i j=true\/lt j i=true
 asy:∀ i j,lt i j=true->lt j i=false
 B7:∀ i j k,lt i j=true->lt j k=true->lt i k=true
def g(p:Array Nat)(i:Nat):Nat:=p.getD i 0
structure Pm(p:Array Nat)(n:Nat):Prop where
 size:p.size=n
 lt:∀ i,i < n->g p i < n
 inj:∀ i j,i < n->j < n->g p i=g p j->i=j
def jA{v:Nat}(h:p[i]?=some v):g p i=v:=by
 unfold g;rw[Dz,h];rfl
def lh{q:Array Nat}{j:Nat}(h:p[i]?=q[j]?):g p i=g q j:=by
 unfold g;rw[Dz,Dz,h]
def U'(n:Nat):Pm (List.toArray<|List.range n) n:=by
 have e:∀ i,i < n->g (List.toArray<|List.range n) i=i:=λi hi=>jA (by simp[hi]);exact⟨by simp,λi hi=>by rwa[e i hi],λi j hi hj h=>by rwa[e i hi,e j hj]at h⟩
def Up(lt:Nat->Nat->Bool)(p:Array Nat)(m:Nat):Prop:=∀ i j,i < j->j < m->lt (g p i) (g p j)=true
def Dn(lt:Nat->Nat->Bool)(p:Array Nat)(m:Nat):Prop:=∀ i j,i < j->j < m->lt (g p j) (g p i)=true
theorem x0i(p:Array Nat):Up lt p 1:=λi j h1 h2=>⋯
theorem q4t(A:fc lt cmp J n)(h1:1<=m)(h:Up lt p m)(hm:lt (g p<|m - 1) (g p m)=true):Up lt p (m+1):=λi j hi hj=>by
 by_cases c:j < m
 ·exact h i j hi c
 ·have:j=m:=⋯
  subst this
  by_cases d:i=j - 1
  ·rwa[d]
  ·exact A.B7 _ _ _ (h i (j - 1) ⋯<|⋯) hm
theorem q42(A:fc lt cmp J n)(h1:1<=m)(h:Dn lt p m)(hm:lt (g p m) (g p<|m - 1)=true):Dn lt p (m+1):=λi j hi hj=>by
 by_cases c:j < m
 ·exact h i j hi c
 ·have:j=m:=⋯
  subst this
  by_cases d:i=j - 1
  ·rwa[d]
  ·exact A.B7 _ _ _ hm<|h i (j - 1) ⋯<|⋯
def Ly(A:fc lt cmp J n){j:Nat}(hi:i < n)(hj:j < n)(bA:i≠j)(h:lt i j=false):lt j i=true:=by
 rcases A.fe i j hi hj bA with q | q
 ·rw[h]at q;cases q
 ·exact q
theorem LA(A:fc lt cmp J n){p:Array Nat}(P:Pm p n):∀f m Q s,1<=m->m+f<=n->Up lt p m->J s ->
  (∀ k s',J s'->m<=k->k<=m+f->Up lt p k->(k < m+f->lt (g p k) (g p<|k - 1)=true)->Q k s')->(kas_asc p f m).kasWp cmp Q s
 | 0,m,Q,s,h1,h2,hu,hJ,k=>k m s hJ (Am _) (Am _) hu λh=>⋯
 | f+1,m,Q,s,h1,h2,hu,hJ,k=>by
  have bA:g p m≠g p (m - 1):=λh=>by have:=P.inj m (m - 1) ⋯ ⋯ h;omega
  refine A.ask _ _ _ _ (P.lt m<|⋯) (P.lt (m - 1)<|⋯) bA hJ λs' g6=>?_;cases e:lt (p.getD m 0) (p.getD (m - 1) 0) with
  | true=>exact k m s' g6 (Am _) ⋯ hu λ_=>e
  | false=>
   have mq:=q4t A h1 hu (Ly A (P.lt m<|⋯) (P.lt (m - 1)<|⋯) bA e);exact LA A P f (m+1) Q s' ⋯ ⋯ mq g6 λk' s2 j2 a b c d=>k k' s2 j2 ⋯ ⋯ c λh=>d<|⋯
theorem Va(A:fc lt cmp J n){p:Array Nat}(P:Pm p n):∀f m Q s,1<=m->m+f<=n->Dn lt p m->J s ->
  (∀ k s',J s'->m<=k->k<=m+f->Dn lt p k->Q (p,k,0) s')->(kas_desc f p m 0).kasWp cmp Q s
 | 0,m,Q,s,h1,h2,hd,hJ,k=>k m s hJ (Am _) (Am _) hd
 | f+1,m,Q,s,h1,h2,hd,hJ,k=>by
  have bA:g p m≠g p (m - 1):=λh=>by have:=P.inj m (m - 1) ⋯ ⋯ h;omega
  refine A.ask _ _ _ _ (P.lt m<|⋯) (P.lt (m - 1)<|⋯) bA hJ λs' g6=>?_;cases e:lt (p.getD m 0) (p.getD (m - 1) 0) with
  | true=>
   show(if true=true then(if 0 > 0 then _ else kas_desc f p (m+1) 0)else _:KasT _).kasWp cmp Q s';rw[BP rfl,BK<|⋯];exact Va A P f (m+1) Q s' ⋯ ⋯ (q42 A h1 hd e) g6 λk' s2 j2 a b c=>k k' s2 j2 ⋯ ⋯ c
  | false=>
   refine A.ask _ _ _ _ (P.lt (m - 1)<|⋯) (P.lt m<|⋯) (CG bA) g6 λs2 xn=>?_;have e2:lt (p.getD (m - 1) 0) (p.getD m 0)=true:=Ly A (P.lt m<|⋯) (P.lt (m - 1)<|⋯) bA e;rw[e2];exact k m s2 xn (Am _) ⋯ hd
theorem xo{k:Nat}(h:m<=p.size):g (kas_rev p 0 m) k=if k < m then g p (m - 1 - k)else g p k:=by
 have e:=getElem?_mirror_all (i:=0) h k
 by_cases c:k < m
 ·rw[BP c];rw[BP ⟨Bu _,c⟩]at e;refine lh<|e.trans ?_
  congr 1
  omega
 ·rw[BK c];rw[BK λq=>c q.2]at e;exact lh e
theorem Vb(P:Pm p n)(h:m<=n):Pm (kas_rev p 0 m) n:=by
 have hs:m<=p.size:=by rwa[P.size]
 refine⟨by rw[kas_rev_size];exact P.size,λi hi=>?_,λi j hi hj q=>?_⟩
 ·rw[xo hs]
  split
  ·exact P.lt _<|⋯
  ·exact P.lt _ hi
 ·rw[xo hs,xo hs]at q
  by_cases c:i < m <;> by_cases d:j < m
  ·rw[BP c,BP d]at q;have:=P.inj _ _ ⋯ ⋯ q;omega
  ·rw[BP c,BK d]at q;have:=P.inj _ _ ⋯ hj q;omega
  ·rw[BK c,BP d]at q;have:=P.inj _ _ hi ⋯ q;omega
  ·rw[BK c,BK d]at q;exact P.inj _ _ hi hj q
theorem q85(P:Pm p n)(h:m<=n)(hd:Dn lt p m):Up lt (kas_rev p 0 m) m:=λi j hi hj=>by
 have hs:m<=p.size:=by rwa[P.size]
 rw[xo hs,xo hs,BP ⋯,BP hj];exact hd (m - 1 - j) (m - 1 - i) ⋯<|⋯
theorem q1q(A:fc lt cmp J n)(P:Pm p n)(h1:1<=m)(h2:m<=n)(hd:Dn lt p m)(hJ:J s)
  (k:∀ r q s',J s'->1<=r->r<=n->Pm q n->Up lt q r->Q (r,q) s'):(kas_tail3 m n p).kasWp cmp Q s:=by
 unfold kas_tail3;rw[KY];exact LA A (Vb P h2) (n - m) m _ s h1 ⋯ (q85 P h2 hd) hJ λr s' j a b c _=>k r _ s' j ⋯ ⋯ (Vb P h2) c
theorem q1b(A:fc lt cmp J n)(P:Pm p n)(h2:2<=n)(hJ:J s)
  (k:∀ r q s',J s'->1<=r->r<=n->Pm q n->Up lt q r->Q (r,q) s'):(kas_count n p).kasWp cmp Q s:=by
 unfold kas_count;rw[KY];refine LA A P (n - 1) 1 _ s (Am _) ⋯ (x0i p) hJ λm s' g6 m1 m2 hu xq=>?_
 by_cases c:m=n
 ·subst c;rw[BP<|by simp];exact k m p s' g6 m1 (Am _) P hu
 ·rw[BK<|by simpa using c]
  by_cases d:m > 1
  ·rw[BP d];have bA:g p 0≠g p (m - 1):=λh=>by have:=P.inj 0 (m - 1) ⋯ ⋯ h;omega
   refine A.ask _ _ _ _ (P.lt 0<|⋯) (P.lt (m - 1)<|⋯) bA g6 λs2 xn=>?_;have e:lt (p.getD 0 0) (p.getD (m - 1) 0)=true:=hu 0 (m - 1) ⋯ ⋯;rw[e];exact k m p s2 xn m1 ⋯ P hu
  ·rw[BK d];have em:m=1:=⋯
   subst em;unfold kas_descPart;rw[KY];have hl:=xq ⋯;have hd2:Dn lt p 2:=λi j hi hj=>by
    have:i=0/\j=1:=⋯
    rwa[this.1,this.2]
   refine Va A P (n - (1+1)) (1+1) _ s' ⋯ ⋯ hd2 g6 λr s2 xn r1 r2 hd=>?_;show(if(0:Nat) > 0 then _ else kas_tail3 r n p:KasT _).kasWp cmp Q s2;rw[BK<|⋯];exact q1q A P ⋯ ⋯ hd xn k
theorem LD(A:fc lt cmp J n){p:Array Nat}(P:Pm p n){k:Nat}(hk:k < n)(hu:Up lt p k):∀f l r Q s,r<=k->l<=r->r - l<=f->J s->(∀ i,i < l->lt (g p i) (g p k)=true)->(∀ i,r<=i->i < k->lt (g p k) (g p i)=true) ->
  (∀ m s',J s'->m<=k->(∀ i,i < m->lt (g p i) (g p k)=true)->(∀ i,m<=i->i < k->lt (g p k) (g p i)=true)->Q m s')->(kas_place p k f l r).kasWp cmp Q s
 | 0,l,r,Q,s,h1,h2,h3,hJ,ha,hb,q=>q l s hJ ⋯ ha λi hi=>hb i<|⋯
 | f+1,l,r,Q,s,h1,h2,h3,hJ,ha,hb,q=>by
  unfold kas_place
  by_cases c:l>=r
  ·rw[BP c];exact q l s hJ ⋯ ha λi hi=>hb i<|⋯
  ·rw[BK c];have hmk:(l+r) / 2 < k:=⋯
   have bA:g p k≠g p ((l+r) / 2):=λh=>by have:=P.inj k _ hk ⋯ h;omega
   refine A.ask _ _ _ _ (P.lt k hk) (P.lt _<|⋯) bA hJ λs' g6=>?_;cases e:lt (p.getD k 0) (p.getD ((l+r) / 2) 0) with
   | true=>
    show(kas_place p k f l<|(l+r) / 2).kasWp cmp Q s';refine LD A P hk hu f l ((l+r) / 2) Q s' ⋯ ⋯ ⋯ g6 ha (λi hi Vc=>?_) q
    by_cases d:i=(l+r) / 2
    ·rwa[d]
    ·exact A.B7 _ _ _ e<|hu _ _ ⋯ Vc
   | false=>
    show(kas_place p k f ((l+r) / 2+1) r).kasWp cmp Q s';have e2:=Ly A (P.lt k hk) (P.lt _<|⋯) bA e;refine LD A P hk hu f ((l+r) / 2+1) r Q s' h1 ⋯ ⋯ g6 (λi hi=>?_) hb q
    by_cases d:i=(l+r) / 2
    ·rwa[d]
    ·exact A.B7 _ _ _ (hu _ _ ⋯ hmk) e2
theorem xr{k:Nat}(hk:k < p.size)(hm:m<=k):g (bubble p k<|k - m) i=if i=m then g p k else if m < i/\i<=k then g p (i - 1)else g p i:=by
 have e:=getElem?_bubble hk (k - m) ⋯ i;rw[show k - (k - m)=m by omega]at e
 by_cases c:i=m
 ·rw[BP c];rw[BP c]at e;exact lh e
 ·rw[BK c];rw[BK c]at e
  by_cases d:m < i/\i<=k
  ·rw[BP d];rw[BP d]at e;exact lh e
  ·rw[BK d];rw[BK d]at e;exact lh e
theorem q9j{k:Nat}(P:Pm p n)(hk:k < n)(hm:m<=k):Pm (bubble p k<|k - m) n:=by
 have hs:k < p.size:=by rwa[P.size]
 refine⟨by rw[bubble_size];exact P.size,λi hi=>?_,λi j hi hj q=>?_⟩
 ·rw[xr hs hm]
  split
  ·exact P.lt k hk
  ·split
   ·exact P.lt _<|⋯
   ·exact P.lt _ hi
 ·rw[xr hs hm,xr hs hm]at q;have src:∀ a,a < n->∃ b,b < n/\(if a=m then g p k else if m < a/\a<=k then g p (a - 1)else g p a)=g p b/\((a=m/\b=k)\/(a≠m/\(m < a/\a<=k)/\b=a - 1)\/(a≠m/\¬(m < a/\a<=k)/\b=a)):=λa ha=>by
   by_cases c:a=m
   ·exact⟨k,hk,by rw[BP c],.inl ⟨c,rfl⟩⟩
   ·by_cases d:m < a/\a<=k
    ·exact⟨a - 1,⋯,by rw[BK c,BP d],.inr<|.inl ⟨c,d,rfl⟩⟩
    ·exact⟨a,ha,by rw[BK c,BK d],.inr<|.inr ⟨c,d,rfl⟩⟩
  obtain⟨x,x1,x2,x3⟩:=src i hi;obtain⟨y,y1,y2,y3⟩:=src j hj;rw[x2,y2]at q;have e:=P.inj x y x1 y1 q;subst e
  rcases x3 with ⟨a1,a2⟩ | ⟨a1,a2,a3⟩ | ⟨a1,a2,a3⟩
  ·rcases y3 with ⟨b1,b2⟩ | ⟨b1,b2,b3⟩ | ⟨b1,b2,b3⟩
   ·exact a1.trans b1.symm
   ·exact absurd (a2.symm.trans b3)<|Cw<|Bf (Nat.sub_lt (Gi b2.1) Fr) b2.2
   ·exact absurd ⟨Ga (by rwa[<- b3,a2])<|CG b1,by rw[<- b3,a2];exact Am _⟩ b2
  ·rcases y3 with ⟨b1,b2⟩ | ⟨b1,b2,b3⟩ | ⟨b1,b2,b3⟩
   ·exact absurd (b2.symm.trans a3)<|Cw<|Bf (Nat.sub_lt (Gi a2.1) Fr) a2.2
   ·exact Nat.sub_one_cancel (Gi a2.1) (Gi b2.1)<|a3.symm.trans b3
   ·exact absurd ⟨Ga (by rw[<- b3,a3];exact Nat.le_sub_one_of_lt a2.1)<|CG b1,by rw[<- b3,a3];exact By (Nat.sub_le _ _) a2.2⟩ b2
  ·rcases y3 with ⟨b1,b2⟩ | ⟨b1,b2,b3⟩ | ⟨b1,b2,b3⟩
   ·exact absurd ⟨Ga (by rwa[<- a3,b2])<|CG a1,by rw[<- a3,b2];exact Am _⟩ a2
   ·exact absurd ⟨Ga (by rw[<- a3,b3];exact Nat.le_sub_one_of_lt b2.1)<|CG a1,by rw[<- a3,b3];exact By (Nat.sub_le _ _) b2.2⟩ a2
   ·exact a3.symm.trans b3
theorem q9m{k:Nat}(P:Pm p n)(hk:k < n)(hm:m<=k)(hu:Up lt p k)(ha:∀ i,i < m->lt (g p i) (g p k)=true)(hb:∀ i,m<=i->i < k->lt (g p k) (g p i)=true):Up lt (bubble p k<|k - m) (k+1):=λi j hi hj=>by
 have hs:k < p.size:=by rwa[P.size]
 rw[xr hs hm,xr hs hm]
 by_cases c:i=m
 ·rw[BP c,BK ⋯,BP<|⋯];exact hb _ ⋯<|⋯
 ·rw[BK c]
  by_cases d:j=m
  ·rw[BP d,BK<|⋯];exact ha i<|⋯
  ·rw[BK d]
   by_cases e:m < i/\i<=k
   ·rw[BP e,BP<|⋯];exact hu _ _ ⋯<|⋯
   ·rw[BK e]
    by_cases f:m < j/\j<=k
    ·rw[BP f];exact hu _ _ ⋯<|⋯
    ·rw[BK f];exact hu _ _ hi<|⋯
theorem Vd(A:fc lt cmp J n):∀f p k Q s,Pm p n->1<=k->k+f=n->Up lt p k->J s->(∀ q s',J s'->Pm q n->Up lt q n->Q q s')->(kas_bin f p k).kasWp cmp Q s
 | 0,p,k,Q,s,P,h1,h2,hu,hJ,q=>by
  have:k=n:=⋯
  subst this;exact q p s hJ P hu
 | f+1,p,k,Q,s,P,h1,h2,hu,hJ,q=>by
  unfold kas_bin;rw[KY];refine LD A P ⋯ hu k 0 k _ s (Am _) (Bu _) ⋯ hJ (λi hi=>⋯) (λi hi Vc=>⋯) λm s' g6 hm ha hb=>?_;exact Vd A f _ (k+1) Q s' (q9j P ⋯ hm) ⋯ ⋯ (q9m P ⋯ hm hu ha hb) g6 q
theorem q5r(A:fc lt cmp J n){Q:Array Nat->Shared->Prop}(h2:2<=n)(hJ:J s)(q:∀ p s',J s'->Pm p n->Up lt p n->Q p s'):(kas_sort n).kasWp cmp Q s:=by
 unfold kas_sort;rw[KY];refine q1b A (U' n) h2 hJ λr p s' g6 r1 r2 P hu=>?_;show(if r < n then kas_bin (n - max r 1) p (max r 1)else .ret p:KasT _).kasWp cmp Q s';have em:max r 1=r:=⋯
 rw[em]
 by_cases c:r < n
 ·rw[BP c];exact Vd A (n - r) p r Q s' P r1 ⋯ hu g6 q
 ·rw[BK c];have:r=n:=⋯
  subst this;exact q p s' g6 P hu
end
theorem Ve(P:Pm p n):p.toList.Nodup:=by
 rw[Ay,Cc];intro i j hi hj dQ e;have mL:i < n:=by rwa[Bv,P.size]at hi
 have kq:j < n:=by rwa[Bv,P.size]at hj
 have e1:=jA (by rw[<- Bw];exact Ab hi);have e2:=jA (by rw[<- Bw];exact Ab hj);have:=P.inj i j mL kq (by rw[e1,e2,e]);omega
def LI{v:Nat}(P:Pm p n)(h:v∈p.toList):v < n:=by
 obtain⟨i,hi⟩:=Bj h;have hl:i < n:=by have:=(Ac.mp hi).1;rwa[Bv,P.size]at this
 have e1:=jA (by rwa[<- Bw]);rw[<- e1];exact P.lt i hl
theorem q5f(P:Pm p n):p.toList.Perm (List.range n):=by
 rw[Dm (Ve P) RZ];intro v;rw[Bc];refine⟨λh=>LI P h,λh=>GK λhn=>?_⟩;have l1:=Nt.aI (Ve P) λz hz=>by
  have bA:z≠v:=λe=>hn<|e ▸ hz;exact(Fq bA).mpr<|Bc.mpr<|LI P hz
 rw[Fw<|Bc.mpr h,Bv,P.size,Cy]at l1;omega
def Hd(h:Heap)(v:Value)(z:Str):Prop:=∃ a o xs n t,v = .ref a/\h.get? a=some o/\o.cls = .type "tuple"/\o.data = .seq xs n/\xs[0]?=some (.str z t)
def Hd.keep{h h':Heap}{v:Value}{z:Str}(x:Hd h v z)(k:∀ a o,v = .ref a->h.get? a=some o->h'.get? a=some o):Hd h' v z:=by
 obtain⟨a,o,xs,n,t,e,h1,h2⟩:=x;exact⟨a,o,xs,n,t,e,k a o e h1,h2⟩
def rJ(h:Heap)(vs:Ó)(zs:Ñ):Prop:=vs.length=zs.length/\∀(i:Nat) v z,vs[i]?=some v->zs[i]?=some z->Hd h v z
def ltZ(zs:Ñ)(i j:Nat):Bool:=decide ((zs.getD i ⟨#[]⟩).cps.toList < (zs.getD j ⟨#[]⟩).cps.toList)
variable{E:Î}{U:Program}{zs:Ñ}{vs:Ó}{P:Fin->Shared->Prop}
section
variable{w:World}{A:Around}
theorem Vf:∀{h}{vs}{zs},rJ h vs zs->∃ fs,KatTups h vs fs/\fs.length=vs.length/\∀ f∈fs,∃ z t,f=Value.str z t
 | h,[],_,_=>⟨[],KatTups.nil,rfl,λf hf=>by cases hf⟩
 | h,v :: vs,[],hh=>by have:=hh.1;simp at this
 | h,v :: vs,z :: zs,hh=>by
  obtain⟨fs,k1,k2,k3⟩:=Vf ⟨by have:=hh.1;simpa using this,λi a b h1 h2=>hh.2 (i+1) a b (by simpa using h1)<|by simpa using h2⟩;obtain⟨a,o,xs,n,t,rfl,h1,h2,h3,h4⟩:=hh.2 0 v z rfl rfl;refine⟨.str z t :: fs,KatTups.cons h1 h2 h3 h4 k1,by rw[As,As,k2],λf hf=>?_⟩
  rcases Al.mp hf with rfl | hf
  ·exact⟨z,t,rfl⟩
  ·exact k3 f hf
def q9r{x y:Value}{z u:Str}{Q:Bool->Shared->Prop}(hx:Hd s.heap x z)(hy:Hd s.heap y u)(bA:z≠u)(h:Q (decide (z.cps.toList < u.cps.toList)) s):wpAny (model U w) A (keyLt' (tuples' true) x y) Q E s:=by
 obtain⟨a,o,xs,n,t,rfl,h1,h2,h3,h4⟩:=hx;obtain⟨b,o',ys,n',t',rfl,g1,g2,g3,g4⟩:=hy;refine kat_lt h1 h3 g1 g3 ?_;have ex:∃ r,xs.toList = .str z t :: r:=by
  have:xs.toList[0]?=some (.str z t):=by rwa[Bw]
  cases e:xs.toList with
  | nil=>rw[e]at this;cases this
  | cons c r=>rw[e]at this;cases this;exact⟨r,rfl⟩
 have ey:∃ r,ys.toList = .str u t' :: r:=by
  have:ys.toList[0]?=some (.str u t'):=by rwa[Bw]
  cases e:ys.toList with
  | nil=>rw[e]at this;cases this
  | cons c r=>rw[e]at this;cases this;exact⟨r,rfl⟩
 obtain⟨rx,ex⟩:=ex;obtain⟨ry,ey⟩:=ey;rw[ex,ey];show KatLex U w A true _ Q ((.str z t,.str u t') :: rx.zip ry) 0 s;refine kat_cons<|eqBool_str ?_;have:(z == u)=false:=beq_eq_false_iff_ne.mpr bA;rw[this];exact kat_no<|oneLt_str h
def q7k{a b:Str}(h:a.cps.toList=b.cps.toList):a=b:=by
 apply Str.ext';exact Array.toList_inj.mp h
theorem q2u(hh:rJ s.heap vs zs)(hn:zs.Nodup):fc (ltZ zs) (kas_ask U w A (tuples' true) vs) (λs'=>s'=s) vs.length:=by
 have hl:=hh.1;have gz:∀ i,(hi:i < zs.length)->zs.getD i ⟨#[]⟩=zs[i]:=λi hi=>by simp[hi]
 have gv:∀ i,(hi:i < vs.length)->vs.getD i Value.none=vs[i]:=λi hi=>by simp[hi]
 have ne:∀ i j,(hi:i < zs.length)->(hj:j < zs.length)->i≠j->zs[i]≠zs[j]:=λi j hi hj dQ e=>by
  rcases Nat.lt_or_gt_of_ne dQ with c | c
  ·exact Cc.mp (Ay.mp hn) i j hi hj c e
  ·exact Cc.mp (Ay.mp hn) j i hj hi c e.symm
 refine⟨λi j C s' hi hj dQ hs hC=>?_,λi j hi hj dQ=>?_,λi j h=>?_,λi j k h1 h2=>?_⟩
 ·subst hs;unfold kas_ask;rw[gv i hi,gv j hj];have e:ltZ zs i j=decide (zs[i].cps.toList < zs[j].cps.toList):=by unfold ltZ;rw[gz i ⋯,gz j<|⋯]
  refine q9r (hh.2 i _ zs[i] (Ab hi)<|Ab<|⋯) (hh.2 j _ zs[j] (Ab hj)<|Ab<|⋯) (ne i j ⋯ ⋯ dQ) ?_;rw[<- e];exact hC s' rfl
 ·unfold ltZ;rw[gz i ⋯,gz j ⋯,CK,CK]
  by_cases c:zs[i].cps.toList < zs[j].cps.toList
  ·exact .inl c
  ·by_cases d:zs[j].cps.toList < zs[i].cps.toList
   ·exact .inr d
   ·have:zs[i].cps.toList=zs[j].cps.toList:=List.le_antisymm (List.not_lt.mp d)<|List.not_lt.mp c;exact absurd (q7k this)<|ne i j ⋯ ⋯ dQ
 ·unfold ltZ at h ⊢;have:=BX h;exact BR λq=>Gg _<|Gm this q
 ·unfold ltZ at h1 h2 ⊢;exact BW<|Gm (BX h1)<|BX h2
def map_range(vs:Ó):(List.range vs.length).map (λi=>vs.getD i Value.none)=vs:=by
 apply SJ
 ·simp
 ·intro i h1 h2;simp[h2]
theorem q2w{a:Addr}(ho:s.heap.get? a=some (seqObj "list" vs.toArray n))(b4:∀ v∈vs,v ≠ .ref a)(hh:rJ s.heap vs zs)(hn:zs.Nodup)(vL:vs.length < 64)
  (h:∀ p:Array Nat,Pm p vs.length->Up (ltZ zs) p vs.length->P (.done<|.ret .none) {s with heap:=sortedHeap s.heap a vs (List.toArray<|p.toList.map λi=>vs.getD i Value.none)}) :
  wpAny (model U w) A (Builtin.«list.sort» ⟨[.ref a],[]⟩) P E s:=by
 rw[list_sort_plain];have hsl:vs.length<=sizeLine:=by rw[FJ];omega
 refine BJ<|QF ho rfl<|BJ<|OD ho rfl ?_;obtain⟨e1,mX⟩:∃ e1,(s.heap.update a<|Obj.mapSeq λ_=>#[]).get? a=some (seqObj "list" #[] e1):=⟨_,get?_update_seq ho λ_=>#[]⟩;refine BJ<|QV mX rfl<|BJ<|QS ?_;refine BJ<|KJ<|CJ ?_;have qz:(((s.heap.update a<|Obj.mapSeq λ_=>#[]).push<|seqObj "tuple" vs.toArray 0).push<|seqObj "list" #[] 0).get? a=some (seqObj "list" #[] e1):=Ae _<|Ae _ mX;show wpAny (model U w) A _ P E {s with heap:=((s.heap.update a<|Obj.mapSeq λ_=>#[]).push<|seqObj "tuple" vs.toArray 0).push (seqObj "list" #[] 0)};have Vg:rJ (((s.heap.update a<|Obj.mapSeq λ_=>#[]).push<|seqObj "tuple" vs.toArray 0).push<|seqObj "list" #[] 0) vs zs:=⟨hh.1,λi v z h1 h2=>(hh.2 i v z h1 h2).keep λb o e q=>by
  have hb:a≠b:=λe2=>b4 v (At h1) (by rw[e,e2]);exact Ae _<|Ae _<|(Cb _ _ hb).trans q⟩
 dsimp only
 have hsz:vs.toArray.size=vs.length:=by simp
 by_cases h2:vs.toArray.size < 2
 ·rw[BP h2,BP h2];refine BJ<|BL ?_;rw[StateT.run_pure];refine BJ<|BL ?_
  dsimp only
  have e5:(arrOf<|SortSt.mk' general' (vs.toArray.zip vs.toArray) #[] 7 none).map (·.2)=vs.toArray:=by
   show(vs.toArray.zip vs.toArray).map (·.2)=_;apply Array.toList_inj.mp;simp[List.map_snd_zip]
  refine BJ<|QV qz rfl ?_;refine BJ (OD qz rfl ?_ (hsz2:=by rw[e5,hsz];omega));simp only[FZ,Bb,CV];refine BL ?_;rw[e5];have fin:=h (List.toArray<|List.range vs.length) (U' _) λi j hi hj=>by rw[hsz]at h2;omega
  have e6:(List.toArray<|List.range vs.length).toList.map (λi=>vs.getD i Value.none)=vs:=map_range vs;rwa[e6]at fin
 ·rw[BK h2,BK h2];obtain⟨fs,k1,k2,k3⟩:=Vf Vg;rw[hsz]at h2;refine BJ<|kat_kind (T:= .type "str") k1 ⋯ (λf hf=>?_) ∅ ?_
  ·obtain⟨z,t,rfl⟩:=k3 f hf;exact Looks.of_pure rfl
  refine BJ<|CT (kat_run (prog:=U) (w:=w) (A:=A) (E:=E) (κ:=tuples' true) (ks:=vs) (vs:=vs) (Q:=λdz s'=>s'={s with heap:=((s.heap.update a<|Obj.mapSeq λ_=>#[]).push<|seqObj "tuple" vs.toArray 0).push (seqObj "list" #[] 0)}/\∃ p:Array Nat,Pm p vs.length/\Up (ltZ zs) p vs.length/\arrOf dz=p.map (kas_item<|vs.toArray.zip vs.toArray)/\failedOf dz=none)
   (G:=λp s'=>s'={s with heap:=((s.heap.update a<|Obj.mapSeq λ_=>#[]).push<|seqObj "tuple" vs.toArray 0).push (seqObj "list" #[] 0)}/\Pm p vs.length/\Up (ltZ zs) p vs.length) rfl ⋯ vL (λp dz s' _ a2 a3 a4=>⟨a4.1,p,a4.2.1,a4.2.2,a2,a3⟩)
   (q5r (q2u (s:={s with heap:=((s.heap.update a<|Obj.mapSeq λ_=>#[]).push<|seqObj "tuple" vs.toArray 0).push (seqObj "list" #[] 0)}) Vg hn) ⋯ rfl λp s' e P ú=>⟨e,P,ú⟩)) ?_ λ_ _ e=>e
  rintro ⟨⟨⟩,dz⟩ s' ⟨rfl,p,P,ú,zA,hf⟩
  dsimp only
  have e3:=kat_snds (ks:=vs) (vs:=vs) rfl zA;refine BJ<|QV qz rfl ?_;refine BJ (OD qz rfl ?_ (hsz2:=by rw[e3,Aw,Aa,Bv,P.size];omega));rw[hf];simp only[FZ,Bb,CV];refine BL ?_;rw[e3];exact h p P ú
theorem q70{l:Addr}{Q:Î}(hl:s.heap.IsList l vs.toArray)(hh:rJ s.heap vs zs)(hn:zs.Nodup)(vL:vs.length < 64)
  (h:∀h' e p,Pm p vs.length->Up (ltZ zs) p vs.length->(∀ b u,s.heap.get? b=some u->h'.get? b=some u)->h'.get? (s.heap.objs.size+1)=some (seqObj "list" (List.toArray<|p.toList.map λi=>vs.getD i Value.none) e)->Q (.ref<|s.heap.objs.size+1) {s with heap:=h'}) :
  wpAny (model U w) A (call (.builtin "sorted") [.ref l]) Q E s:=by
 have hsl:vs.length<=sizeLine:=by rw[FJ];omega
 refine Calls.call_function_entry kind_sorted plain_sorted entry_sorted (args_sorted1 _) ?_;unfold Builtin.«sorted»;refine BJ<|BL ?_;refine BJ<|collect_list hl ?_;refine BJ<|KJ ?_;have hsz:((s.heap.push<|seqObj "list" #[] 0).update s.heap.objs.size (Obj.mapSeq (·++vs.toArray))).objs.size=s.heap.objs.size+1:=by
  rw[Heap.size_update,size_push']
 have jI:(((s.heap.push<|seqObj "list" #[] 0).update s.heap.objs.size (Obj.mapSeq (·++vs.toArray))).push<|seqObj "list" vs.toArray 0).get? (s.heap.objs.size+1)=some (seqObj "list" vs.toArray 0):=by
  rw[<- hsz];exact Ao _ rfl
 have hhL:rJ (((s.heap.push<|seqObj "list" #[] 0).update s.heap.objs.size (Obj.mapSeq (·++vs.toArray))).push<|seqObj "list" vs.toArray 0) vs zs:=⟨hh.1,λi v z h1 h2=>(hh.2 i v z h1 h2).keep λb o e q=>
  Ae _ ((Cb _ _<|Cw<|Ap q).trans<|Ae _ q)⟩
 have bA:∀ v∈vs,v ≠ .ref (s.heap.objs.size+1):=λv hv e=>by
  obtain⟨i,hi⟩:=Bj hv;have hl:=hh.1;have hiz:i < zs.length:=by have:=(Ac.mp hi).1;omega
  obtain⟨b,o,xs,n,t,e2,h1,_⟩:=hh.2 i v zs[i] hi<|Ab hiz;rw[e2]at e;cases e;exact absurd (Nat.lt_of_succ_lt<|Ap h1)<|Cq _
 show wpAny _ _ _ _ _ {s with heap:=((s.heap.push<|seqObj "list" #[] 0).update s.heap.objs.size (Obj.mapSeq (·++vs.toArray))).push (seqObj "list" vs.toArray 0)};rw[hsz];refine BJ<|CJ<|DQ slot_list_sort ⟨_,jI,rfl⟩ entry_list_sort (q2w jI bA hhL hn vL λp P ú=>⟨_,rfl,?_⟩)<|args_list_sort _;obtain⟨e,he⟩:=sortedAll_at s.heap vs<|List.toArray<|p.toList.map λi=>vs.getD i Value.none;exact BL ⟨_,rfl,h _ e p P ú (λb u hb=>RK hb) he⟩
end
end pI
namespace L2
open PySem PySem.Spec PyProof.Rows pI
theorem Vh:∀{ts:List Addr} {è:Ó},az (ts.map V.ref) è->è=ts.map Value.ref
 | [],è,r=>r.zero
 | t :: ts,è,r=>by
  cases r with
  | cons h1 h2=>
   rw[Vh h2];have:_=Value.ref t:=h1;rw[this];rfl
theorem Vi:∀(ts:List Addr),az (ts.map V.ref)<|ts.map Value.ref
 | []=> .nil
 | t :: ts=> .cons rfl (Vi ts)
theorem k9r{α β:Type}(xs:List α)(ys:List β)(h:xs.length=ys.length)(a:α)(b:β):(List.range xs.length).map (λi=>(xs.getD i a,ys.getD i b))=xs.zip ys:=by
 apply SJ
 ·simp[h]
 ·intro i h1 h2;have hx:i < xs.length:=by simp at h1;exact h1
  have hy:i < ys.length:=⋯
  simp[hx,hy]
variable{R:St->Hp->Prop}
section
variable{X:Cx}{σ:St}{H:Hp}
theorem k0m:fE X (.builtin "sorted") (λxs H Q=>∃(l:Addr) (ts:List Addr) (zs:Ñ),xs=[.ref l]/\aj X.K H l (ts.map V.ref)/\ts.length=zs.length/\zs.Nodup/\ts.length < 64/\(∀(i:Nat) t z,ts[i]?=some t->zs[i]?=some z->∃ r,H t=some (.tup<|.str z :: r)) /\
  ∀(r:Addr) (ps:List<|Addr×Str),H r=none->ps.Perm (ts.zip zs)->ps.Pairwise (λa b=>a.2.cps.toList < b.2.cps.toList)->Q (.ref r) (upd H r<|.lst<|ps.map λp=> .ref p.1)):=by
 intro O s σ H xs us Q I r h;obtain⟨l,ts,zs,rfl,hl,hlen,hn,vL,hd,q⟩:=h;obtain⟨u,rfl,ru⟩:=vals1 r;cases (show u=Value.ref l from ru);obtain⟨è,rv,pl,_⟩:=I.list hl;have ei:=Vh rv;subst ei;have hh:rJ s.heap (ts.map Value.ref) zs:=by
  refine⟨by rwa[Aa],λi v z h1 h2=>?_⟩;rw[Ah,Ar]at h1;obtain⟨t,ht,rfl⟩:=h1;obtain⟨rr,hr⟩:=hd i t z ht h2;obtain⟨è,r3,tp,_⟩:=I.tuple<|aS.of hr;cases r3 with
  | cons a1 a2=>
   obtain⟨tk,rfl⟩:=a1;obtain⟨o,ho,hc,n,hd2⟩:=tp;exact⟨t,o,_,n,tk,rfl,ho,hc,hd2,rfl⟩
 refine q70 pl.isList hh hn (by rwa[Aa]) λh' e p P ú kp he=>?_;rw[Aa]at P ú;have gp:∀ i,i < ts.length->g p i < ts.length:=P.lt;have pl2:p.toList.length=ts.length:=by rw[Bv];exact P.size
 have e1:(p.toList.map λi=>(ts.map Value.ref).getD i Value.none)=((p.toList.map λi=>(ts.getD i 0,zs.getD i ⟨#[]⟩)).map λx=>x.1).map Value.ref:=by
  rw[Cg,Cg];refine Bo λi hi=>?_;have aV:=LI P hi;show(ts.map Value.ref).getD i Value.none=Value.ref (ts.getD i 0);simp[aV]
 refine⟨.ref _,_,I.eR (s':={s with heap:=h'}) kp rfl rfl (Ef _) (show aB X.U X.w _ h' _ (.lst<|(p.toList.map λi=>(ts.getD i 0,zs.getD i ⟨#[]⟩)).map λx=>V.ref x.1)from ?_),rfl,q _ (p.toList.map λi=>(ts.getD i 0,zs.getD i ⟨#[]⟩)) (I.aF.fresh<|Ef _) ?_ ?_⟩
 ·refine⟨by rw[Aa,Aa,pl2,FJ];omega,_,e,?_,he⟩;rw[e1];have:=Vi<|(p.toList.map λi=>(ts.getD i 0,zs.getD i (⟨#[]⟩:Str))).map λx=>x.1;rwa[Cg]at this
 ·rw[<- k9r ts zs hlen 0 ⟨#[]⟩];exact(q5f P).map _
 ·rw[Cc];intro i j hi hj dQ;rw[Aa]at hi hj;have:=ú i j dQ ⋯;have q1:g p i=p.toList[i]:=jA (by rw[<- Bw];exact Ab hi);have q2:g p j=p.toList[j]:=jA (by rw[<- Bw];exact Ab hj);rw[q1,q2]at this;rw[Dy,Dy];exact BX this
def LJ{e1 e2 e3:Expr}{k:Nat}{pos:Pos}{t:Addr}{x y z:V}(hc:X.calm=true)(ht:aS X.K H t [x,y,z])(h:Eg X e1 x σ H λσ1 H1=>Eg X e2 y σ1 H1 λσ2 H2=>Eg X e3 z σ2 H2 R)
  (hn:(assignEach [e1,e2,e3] X.env).length=3:=by rfl) (cP:(assignEach [e1,e2,e3] X.env).findIdx? (·.1)=none:=by rfl)
  (jO:(assignEach [e1,e2,e3] X.env).map (·.2)=assign e1 X.env :: (assignEach [e2,e3] X.env).map (·.2):=by rfl) (tL:(assignEach [e2,e3] X.env).map (·.2)=assign e2 X.env :: (assignEach [e3] X.env).map (·.2):=by rfl) (zp:(assignEach [e3] X.env).map (·.2)=assign e3 X.env :: (assignEach [] X.env).map (·.2):=by rfl) :
  Eg X (.Tuple [e1,e2,e3] k pos) (.ref t) σ H R:=
 F4 (Ph hc (uI qg (uI qg (uI qg Pg zp) tL) jO) hn cP)
  ⟨t,_,rfl,ht,rfl,_,_,rfl,h.mono λσ1 H1 h1=>⟨_,_,rfl,h1.mono λσ2 H2 h2=>⟨_,_,rfl,h2.mono λσ3 H3 q=>⟨rfl,q⟩⟩⟩⟩
end
end L2
namespace Q1
open PySem L2 Nt bD
abbrev T3(x:Lk):HO:= .tup [.str x.1,.str x.2.1,.str x.2.2]
def nO(H:Hp)(us:List Addr)(ls:List Lk):Prop:=us.length=ls.length/\∀(j:Nat) u x,us[j]?=some u->ls[j]?=some x->H u=some (T3 x)
variable{ls:List Lk}{us:List Addr}
def nO.keep{H H':Hp}(h:nO H us ls)(k:∀ t xs,H t=some (.tup xs)->H' t=some (.tup xs)):nO H' us ls:=⟨h.1,λj u x h1 h2=>k _ _<|h.2 j u x h1 h2⟩
theorem nO.snoc{H:Hp}{u:Addr}{x:Lk}(h:nO H us ls)(hu:H u=some (T3 x)):nO H (us++[u]) (ls++[x]):=by
 refine⟨by rw[Ad,Ad,h.1];rfl,λj v y h1 h2=>?_⟩;have hl:=h.1
 by_cases hj:j < us.length
 ·rw[Aq hj]at h1;rw[Aq<|⋯]at h2;exact h.2 j v y h1 h2
 ·rw[Ba<|⋯]at h1 h2;have f9:j - us.length=0:=by
   have:=(Ac.mp h1).1;simp at this;omega
  rw[f9]at h1;rw[<- hl,f9]at h2;cases h1;cases h2;exact hu
def B8(ls:List Lk):Prop:=ls.Pairwise λx y=>x.1.cps.toList < y.1.cps.toList
def B9:Sp:=λvs H Q _=>∃R as n,vs=[.ref R]/\al H R as n/\aw n/\n.length<=1000/\(ag n).length<=60 /\
 ∀L us ls H',ah H H'->H L=none->H' L=some (.lst<|us.map V.ref)->nO H' us ls->B8 ls->(∀ x,x∈ls↔ph n x)->ls.length<=60->Q (.ref L) H'
theorem q3h{n:Net}(T:aw n){r p:Nat}{z:Str}(hr:r < n.length)(hz:(row n r)[p]?=some z):(b8 (bt (n.take r)++bJ r ((row n r).take p) 0) z).length<=1:=by
 obtain⟨rest,h⟩:=wR hr hz;have h1:b8 (bt n) z=b8 (bt (n.take r)++bJ r ((row n r).take p) 0) z++(r,p) :: b8 rest z:=by
  rw[h];unfold b8;rw[Ct,Aj,TQ<|by simp];rfl
 have h2:(b8 (bt n) z).length=2:=by
  have:=qA n z;rwa[T z<|eG (e:=(r,p)) hz]at this
 rw[h1,Ad,As]at h2;omega
variable{Z:Heap}{mg:Ò}{K:PySem.W.Frag}{fd:FuncData}
section
variable{P:Program}{w:World}
abbrev NLk:Ñ:=["rows","met","links","point","ties","tie"]
def xt:ak NLk ["rows"] (aP IA):=bZ
theorem q2l{f:Addr}(F:bo K "links_of" "links_of" IA f fd)(T:Txt mg):aD P w K mg Z bz 1 f fd ["rows"] B9:=by
 refine F.gc xt λb0 H vs Q E hr h=>?_;obtain⟨R,as,n,rfl,hR,hT,hn,iN,q⟩:=h;have nd:=xt.nd;have b4:=hR.len;have hu:=hr.u1;refine aT 1 nd<|Im λdm m6=>?_;refine aT 2 nd<|dS<|ax ⟨Z0,λM hM=>?_⟩;have mr:M≠dm:=λe=>by rw[e,av]at hM;cases hM
 have xu:H M=none:=by rwa[au mr]at hM
 have s0:ah H (upd (upd H dm<|.dK []) M<|.lst []):=(aM m6 _).trans<|aM hM _;have xv:(upd (upd H dm<|.dK []) M<|.lst []) dm=some (.dK []):=by rw[au<|CG mr,av]
 have nP:(upd (upd H dm<|.dK []) M<|.lst []) M=some (.lst []):=av;generalize upd (upd H dm<|.dK []) M (.lst [])=H0 at s0 xv nP;have LL:(bt n).length=(ag n).length:=by rw[<- lZ n 0,Aa];rfl
 refine lS<|ae 0 ⟨R,rfl,⟨_,aj.of<|s0 _ _ hR.lst⟩,lT (xs:=as.map λa=>V.ref a.1) (λr σ H'=>∃(kM:List<|Key×V) (us:List Addr) (ls:List Lk) (u1 u2 u3:Option V),ah H H'/\H' dm=some (.dK kM)/\H' M=some (.lst<|us.map V.ref)/\nO H' us ls/\jd n (bt<|n.take r) kM ls/\σ=[⇑R,⇑dm,⇑M,u1,u2,u3])
  ⟨[],[],[],_,_,_,s0,xv,nP,⟨rfl,λj u x h=>by simp at h⟩,jd.start n,rfl⟩ ?_ ?_ ?_⟩
 ·rintro r σ H' _ ⟨_,_,_,_,_,_,sm,_⟩;exact aj.of<|sm _ _ hR.lst
 ·rintro r x σ H' hx ⟨kM,us,ls,u1,u2,u3,sm,ed,eM,cN,I,rfl⟩;have hi:r < n.length:=by
   have:=(Ac.mp hx).1;rw[Aa]at this;omega
  obtain⟨a,ea,fA,et,el,er⟩:=(hR.same sm).at hi;rw[Ah,ea]at hx;cases hx;refine jT rfl (aS.of et) (a8 3 nd<|a8 4 nd ?_);refine lS<|ae 4 ⟨a.2,rfl,⟨_,aj.of el⟩,lT (xs:=(row n r).map V.str) (λp σ bS=>∃(kM:List<|Key×V) (us:List Addr) (ls:List Lk) (u3:Option V),ah H bS/\bS a.2=some (Ls<|row n r)/\bS dm=some (.dK kM)/\bS M=some (.lst<|us.map V.ref)/\nO bS us ls/\jd n (bt (n.take r)++bJ r ((row n r).take p) 0) kM ls/\σ=[⇑R,⇑dm,⇑M,some<|.str n[r].1,some<|.ref a.2,u3])
   ⟨kM,us,ls,_,sm,el,ed,eM,cN,by simpa[bJ]using I,rfl⟩ ?_ ?_ ?_⟩
  ·rintro p σ bS _ ⟨_,_,_,_,_,e,_⟩;exact aj.of e
  ·rintro p x σ bS hx ⟨kM,us,ls,u3,sm,el,ed,eM,cN,I,rfl⟩;have hp:p < (row n r).length:=by
    have:=(Ac.mp hx).1;rwa[Aa]at this
   have hz:(row n r)[p]?=some (row n r)[p]:=Ab hp;rw[Ah,hz]at hx;cases hx;have jO:=qC (r:=r) hz;have hle:=q3h hT hi hz;have cn:(bt (n.take r)++bJ r ((row n r).take p) 0).length<=60:=by
    obtain⟨rest,xx⟩:=wR hi hz;have h1:=BZ List.length xx;simp only[Ad]at h1 ⊢;omega
   have lM:=I.eY;have lL:=I.nj;have lA:=cN.1;have Vj:aH n r=n[r].1:=gW hi;have naM:a.2≠M:=λe=>by
    have:=(hR.tup r a n[r] ea<|Ab hi).2;rw[e,xu]at this;cases this
   generalize (row n r)[p]=z at hz jO hle;refine a8 5 nd ?_;refine fP<|zH hu<|ae 5<|ae 1 ⟨dm,_,rfl,aX.k (k:=Sum.inr z) ed,?_⟩;cases jW:b8 (bt (n.take r)++bJ r ((row n r).take p) 0) z with
   | nil=>
    rw[I.m0 z jW];show if false=true then _ else _;rw[BK<|∅];refine tG hu<|ae 3<|ae 1<|ae 5 ⟨dm,_,rfl,bX.k (k:=Sum.inr z) ed (bI<|⋯),a7<|a7 ⟨_,us,ls,_,cX sm m6,?_,av,?_,cN.keep λt xs h=>?_,?_,rfl⟩⟩
    ·rwa[au<|bV el ed λz=>nomatch z]
    ·rwa[au mr]
    ·rwa[au<|bV h ed λz=>nomatch z]
    ·rw[jO,<- Au];have:=I.new (e:=(r,p)) jW;show jd n _ (putK kM (Sum.inr z)<|.str n[r].1) ls;rwa[<- Vj]
   | cons b rest=>
    have hr0:rest=[]:=by
     rw[jW]at hle;exact Cd.mp<|by have:rest.length+1<=1:=hle;omega
    subst hr0;have vm:=I.m1 z b [] jW;rw[vm];show if true=true then _ else _;rw[BP rfl];refine gq (jQ<|ae 2 ⟨M,rfl,⟨_,eM⟩,fv<|ai<|ae 5<|ai<|eU hu<|ae 1<|ae 5 ⟨dm,.str<|aH n b.1,rfl,by rw[<- vm];exact aX.k (k:=Sum.inr z) ed,ai<|ae 3<|ax ⟨Z3,λt ht=>?_⟩⟩⟩);have sT:=aM ht<|.tup [.str z,.str<|aH n b.1,.str n[r].1];have Vk:t≠M:=λe=>by rw[e,eM]at ht;cases ht
    have K1:(upd bS t<|.tup [.str z,.str<|aH n b.1,.str n[r].1]) t=some (T3 (z,aH n b.1,aH n (r,p).1)):=by
     rw[av];show _=some (HO.tup [.str z,.str<|aH n b.1,.str<|aH n r]);rw[Vj]
    have kT:∀ c xs,(upd bS t<|.tup [.str z,.str<|aH n b.1,.str n[r].1]) c=some (.tup xs)->(upd (upd bS t<|.tup [.str z,.str<|aH n b.1,.str n[r].1]) M<|.lst<|us.map V.ref++[.ref t]) c=some (.tup xs):=λc xs h=>by
     rwa[au<|bV h (sT _ _ eM) λz=>nomatch z]
    refine⟨_,sT _ _ eM,by rw[Aa];exact bI ⋯,a7<|a7 ⟨kM,us++[t],ls++[(z,aH n b.1,aH n (r,p).1)],_,cX (sm.trans sT) xu,?_,?_,?_,?_,?_,rfl⟩⟩
    ·rw[au naM];exact sT _ _ el
    ·rw[au<|CG mr];exact sT _ _ ed
    ·rw[av,Aj];rfl
    ·exact((cN.keep λc xs h=>sT _ _ h).snoc K1).keep kT
    ·rw[jO,<- Au];exact I.old (e:=(r,p)) jW
  ·rintro σ bS ⟨kM,us,ls,u3,sm,_,ed,eM,cN,I,rfl⟩;rw[Aa,Br]at I;refine a7 ⟨kM,us,ls,_,_,_,sm,ed,eM,cN,?_,rfl⟩;rwa[tJ hi]
 ·rintro σ H' ⟨kM,us,ls,u1,u2,u3,sm,ed,eM,cN,I,rfl⟩;rw[Aa,b4,Br]at I;have lL:=I.nj;have lA:=cN.1;have aV:us.length < 64:=⋯
  refine bQ (bP k0m T.sorted CW (ai (ae 2 (ax ⟨M,us,ls.map (·.1),rfl,aj.of eM,by rwa[Aa],I.de,aV,λi t z h1 h2=>?_,λL ps hL hp hs=>?_⟩))))
  ·rw[Ah,Ar]at h2;obtain⟨x,hx,rfl⟩:=h2;exact⟨_,cN.2 i t x h1 hx⟩
  have pick:∀ p∈ps,∃ x,x∈ls/\x.1=p.2/\H' p.1=some (T3 x):=λp db=>by
   have hz:=hp.mem_iff.mp db;obtain⟨i,hi⟩:=Bj hz;rw[List.getElem?_zip_eq_some]at hi;obtain⟨h1,h2⟩:=hi;rw[Ah,Ar]at h2;obtain⟨x,hx,e⟩:=h2;exact⟨x,At hx,e,cN.2 i _ x h1 hx⟩
  obtain⟨xs,fC⟩:∃ xs:List Lk,xs.length=ps.length/\∀(j:Nat) p x,ps[j]?=some p->xs[j]?=some x->x∈ls/\x.1=p.2/\H' p.1=some (T3 x):=by
   clear hs hp
   induction ps with
   | nil=>exact⟨[],rfl,λj p x h=>by simp at h⟩
   | cons p r ih=>
    obtain⟨x,q1,q2,q3⟩:=pick p<|Ag ..;obtain⟨xs,l1,l2⟩:=ih λc hc=>pick c<|Ak _ hc;refine⟨x :: xs,by rw[As,As,l1],λj c y h1 h2=>?_⟩;cases j with
    | zero=>
     cases h1;cases h2;exact⟨q1,q2,q3⟩
    | succ j=>exact l2 j c y (by simpa using h1)<|by simpa using h2
  obtain⟨lx,fC⟩:=fC;have lp:ps.length=ls.length:=by rw[hp.length_eq,List.length_zip,Aa];omega
  have sL:=aM hL<|.lst<|ps.map λp=> .ref p.1;have Vl:B8 xs:=by
   unfold B8;rw[Cc];intro i j hi hj dQ;have a1:=(fC i ps[i] xs[i] (Ab<|⋯)<|Ab hi).2.1;have a2:=(fC j ps[j] xs[j] (Ab<|⋯)<|Ab hj).2.1;rw[a1,a2];exact Cc.mp hs i j ⋯ ⋯ dQ
  have rK:(xs.map (·.1)).Nodup:=by
   rw[Ay,Cs];exact Vl.imp λh e=>by rw[e]at h;exact Gg _ h
  have gg:∀ x,x∈xs↔x∈ls:=λx=>by
   constructor
   ·intro h;obtain⟨j,hj⟩:=Bj h;have tM:=(Ac.mp hj).1;exact(fC j ps[j] x (Ab<|⋯) hj).1
   ·intro h;refine GK λhn=>?_;have LN:xs.Nodup:=by
     rw[Ay]at rK ⊢;rw[Cs]at rK;exact rK.imp λh e=>h<|by rw[e]
    have:=aI LN (b:=ls.erase x) λz hz=>by
     have hzl:z∈ls:=by
      obtain⟨j,hj⟩:=Bj hz;have tM:=(Ac.mp hj).1;exact(fC j ps[j] z (Ab<|⋯) hj).1
     exact(Fq λe:z=x=>hn<|e ▸ hz).mpr hzl
    rw[Fw h]at this;have:0 < ls.length:=VD h;omega
  refine q L (ps.map (·.1)) xs _ (sm.trans sL) (jV sm hL) (by rw[av,Cg];rfl) ⟨by rw[Aa];omega,λj u x h1 h2=>?_⟩ Vl (λx=>by rw[gg x];exact I.whole hT x) ⋯;rw[Ah,Ar]at h1;obtain⟨p,wM,rfl⟩:=h1;exact sL _ _ (fC j p x wM h2).2.2
end
end Q1
namespace Nz
open PySem L2 Nt
inductive Way {α:Type} (ls:List<|α×α×Bool) (f:α):α->Bool->Prop where
 | here:Way ls f f false
 | there {x y:α} {b o:Bool}:Way ls f x b->(x,y,o)∈ls->Way ls f y (b != o)
 | back {x y:α} {b o:Bool}:Way ls f x b->(y,x,o)∈ls->Way ls f y (b != o)
abbrev Bl(α:Type):=α×α×Bool
def has{α:Type}(φ:α->Key)(Y:List<|Key×V)(x:α):Prop:=∃ v,ao Y (φ x)=some v
def dL{α:Type}(ls:List<|Bl α)(x y:α)(o:Bool):Prop:=(x,y,o)∈ls\/(y,x,o)∈ls
def qX{α:Type}(ls:List<|Bl α):List α:=ls.flatMap λl=>[l.1,l.2.1]
theorem Vm{α:Type}:∀ ls:List<|Bl α,(qX ls).length=2 * ls.length
 | []=>rfl
 | l :: r=>by
  show(qX r).length+1+1=2 * (r.length+1);rw[Vm r];omega
def q2k{α:Type}{ls:List (Bl α)}{x y:α}{o:Bool}(h:dL ls x y o):y∈qX ls:=by
 rcases h with h | h
 ·exact Di.mpr ⟨_,h,by simp⟩
 ·exact Di.mpr ⟨_,h,by simp⟩
structure b5{α:Type}(φ:α->Key)(ls:List<|Bl α)(f:α)(hr:Option α)(Y:List<|Key×V)(wt:List α):Prop where
 de:(Y.map (·.1)).Nodup
 txt:∀ k∈Y.map (·.1),∃ x,k=φ x/\x∈f :: qX ls
 val:∀ x v,ao Y (φ x)=some v->∃ b,v = .bl b/\Way ls f x b
 fst:has φ Y f
 tW:∀ x∈wt,has φ Y x
 AZ:∀ x,some x=hr->has φ Y x
 cls:∀ x,has φ Y x->x∈wt\/some x=hr\/∀ y o,dL ls x y o->has φ Y y
variable{Y:List (Key×V)}
theorem b5.len{α:Type}{φ:α->Key}{ls:List (Bl α)}{f:α}{hr:Option α}{wt:List α}(I:b5 φ ls f hr Y wt):Y.length<=1+2 * ls.length:=by
 have:=aI I.de λk hk=>by
  obtain⟨x,e,hx⟩:=I.txt k hk;rw[e];exact Ai.mpr ⟨x,hx,rfl⟩
 rw[Aa,Aa,As,Vm]at this;omega
def dh{α:Type}{φ:α->Key}{k:Key}{v:V}{x:α}(h:has φ Y x):has φ (putK Y k v) x:=by
 obtain⟨u,hu⟩:=h;unfold has;rw[dC]
 split
 ·exact⟨_,rfl⟩
 ·exact⟨u,hu⟩
open Classical in
def b5.start{α:Type}{φ:α->Key}(ki:∀ x y,φ x=φ y->x=y)(ls:List<|Bl α)(f:α):b5 φ ls f none (putK [] (φ f)<|.bl false) [f]:=by
 have e:putK ([]:List<|Key×V) (φ f) (.bl false)=[(φ f,.bl false)]:=rfl;have hv:∀ x,ao ([(φ f,.bl false)]:List<|Key×V) (φ x)=if x=f then some (.bl false)else none:=λx=>by
  rw[<- e,dC]
  by_cases h:x=f
  ·rw[BP h,BP<|by rw[h]]
  ·rw[BK h,BK λq=>h<|ki _ _ q];rfl
 rw[e];refine⟨by simp,λk hk=>⟨f,by simpa using hk,Ag ..⟩,λx v h=>?_,⟨.bl false,by rw[hv f,BP rfl]⟩,λx hx=>?_,λx hx=>by(cases hx),λx hx=>?_⟩
 ·rw[hv x]at h
  by_cases c:x=f
  ·rw[BP c]at h;cases h;subst c;exact⟨false,rfl,.here⟩
  ·rw[BK c]at h;cases h
 ·rw[Af.mp hx];exact⟨.bl false,by rw[hv f,BP rfl]⟩
 ·obtain⟨v,h⟩:=hx;rw[hv x]at h
  by_cases c:x=f
  ·exact .inl<|Af.mpr c
  ·rw[BK c]at h;cases h
def b5.pop{α:Type}{φ:α->Key}{ls:List (Bl α)}{f h:α}{wt:List α}(I:b5 φ ls f none Y<|wt++[h]):b5 φ ls f (some h) Y wt:=by
 refine⟨I.de,I.txt,I.val,I.fst,λx hx=>I.tW x<|Az _ hx,λx hx=>(by cases hx;exact I.tW h<|Av _<|Af.mpr rfl),λx hx=>?_⟩
 rcases I.cls x hx with c | c | c
 ·rcases An.mp c with c | c
  ·exact .inl c
  ·exact .inr<|.inl<|by rw[Af.mp c]
 ·cases c
 ·exact .inr<|.inr c
def b5.close{α:Type}{φ:α->Key}{ls:List (Bl α)}{f h:α}{wt:List α}(I:b5 φ ls f (some h) Y wt)(c:∀ y o,dL ls h y o->has φ Y y):b5 φ ls f none Y wt:=by
 refine⟨I.de,I.txt,I.val,I.fst,I.tW,λx hx=>(by cases hx),λx hx=>?_⟩
 rcases I.cls x hx with d | d | d
 ·exact .inl d
 ·cases d;exact .inr<|.inr c
 ·exact .inr<|.inr d
def b5.je{α:Type}{φ:α->Key}{ls:List (Bl α)}{f:α}{hr:Option α}{wt:List α}(I:b5 φ ls f hr Y wt){g:α}(hg:ao Y (φ g)=none):φ g∉Y.map (·.1):=by
 intro hm;obtain⟨p,hp,e⟩:=Ai.mp hm;have:∃ i:Nat,Y[i]?=some p:=Bj hp;obtain⟨i,hi⟩:=this;have:∀{l},(∃ q∈l,q.1=φ g)->ao l (φ g)≠none:=λ{l}=>by
  induction l with
  | nil=>rintro ⟨q,hq,_⟩;cases hq
  | cons c r ih=>
   rintro ⟨q,hq,e⟩ hn
   by_cases hc:c.1=φ g
   ·rw[gJ hc]at hn;cases hn
   ·rw[gK hc]at hn
    rcases Al.mp hq with rfl | hq
    ·exact hc e
    ·exact ih ⟨q,hq,e⟩ hn
 exact this ⟨p,hp,e⟩ hg
def b5.hrk{α:Type}{φ:α->Key}{ls:List (Bl α)}{f h:α}{wt:List α}(I:b5 φ ls f (some h) Y wt):has φ Y h:=I.AZ h rfl
def b5.add{α:Type}{φ:α->Key}(ki:∀ x y,φ x=φ y->x=y){ls:List (Bl α)}{f h g:α}{wt:List α}{b o:Bool}(I:b5 φ ls f (some h) Y wt)(hg:ao Y (φ g)=none)(hh:ao Y (φ h)=some (.bl b))(t:dL ls h g o) :
  b5 φ ls f (some h) (putK Y (φ g)<|.bl<|b != o) (wt++[g]):=by
 have xA:=I.je hg;have hw:Way ls f g (b != o):=by
  obtain⟨b',e,hw⟩:=I.val h _ hh;cases e
  rcases t with t | t
  ·exact .there hw t
  ·exact .back hw t
 refine⟨?_,λk hk=>?_,λx v hv=>?_,dh I.fst,λx hx=>?_,λx hx=>dh<|I.AZ x hx,λx hx=>?_⟩
 ·rw[tV,BK xA];exact lQ I.de xA
 ·rw[tV,BK xA]at hk
  rcases An.mp hk with hk | hk
  ·exact I.txt k hk
  ·exact⟨g,Af.mp hk,Ak _<|q2k t⟩
 ·rw[dC]at hv
  by_cases c:φ x=φ g
  ·rw[BP c]at hv;cases hv;rw[ki _ _ c];exact⟨_,rfl,hw⟩
  ·rw[BK c]at hv;exact I.val x v hv
 ·rcases An.mp hx with hx | hx
  ·exact dh<|I.tW x hx
  ·rw[Af.mp hx];exact⟨_,by rw[dC,BP rfl]⟩
 ·obtain⟨v,hv⟩:=hx;rw[dC]at hv
  by_cases c:φ x=φ g
  ·exact .inl<|Av _<|Af.mpr<|ki _ _ c
  ·rw[BK c]at hv
   rcases I.cls x ⟨v,hv⟩with d | d | d
   ·exact .inl<|Az _ d
   ·exact .inr<|.inl d
   ·exact .inr<|.inr λy o' ht=>dh<|d y o' ht
def b5.whole{α:Type}{φ:α->Key}{ls:List (Bl α)}{f:α}(I:b5 φ ls f none Y []):∀ x b,Way ls f x b->∃ b',ao Y (φ x)=some (.bl b'):=by
 have j9:∀ x b,Way ls f x b->has φ Y x:=λx b w=>by
  induction w with
  | here=>exact I.fst
  | there w hm ih=>
   rcases I.cls _ ih with d | d | d
   ·cases d
   ·cases d
   ·exact d _ _<|.inl hm
  | back w hm ih=>
   rcases I.cls _ ih with d | d | d
   ·cases d
   ·cases d
   ·exact d _ _<|.inr hm
 intro x b w;obtain⟨v,hv⟩:=j9 x b w;obtain⟨b',e,_⟩:=I.val x v hv;exact⟨b',by rw[hv,e]⟩
def jB:V->Bool
 | .bl b=>b
 | _=>false
noncomputable def jY{α:Type}(φ:α->Key)(p:Key×V):List α:=open Classical in if h:jB p.2=true/\∃ x,p.1=φ x then [h.2.choose]else []
noncomputable def aZ{α:Type}(φ:α->Key)(Y:List<|Key×V):List α:=Y.flatMap<|jY φ
theorem iO{α:Type}{φ:α->Key}(ki:∀ x y,φ x=φ y->x=y)(x:α)(b:Bool):jY φ (φ x,.bl b)=if b=true then [x]else []:=by
 unfold jY;cases b with
 | true=>
  have h:jB (φ x,V.bl true).2=true/\∃ y,(φ x,V.bl true).1=φ y:=⟨rfl,x,rfl⟩;rw[dif_pos h,BP rfl,ki _ _ h.2.choose_spec.symm]
 | false=>rw[dif_neg (λh=>by cases h.1),BK<|∅]
def cV{α:Type}(φ:α->Key)(Y:List<|Key×V)(p:Key×V):aZ φ (Y++[p])=aZ φ Y++jY φ p:=by
 unfold aZ;rw[Dj];simp
theorem bY{α:Type}(φ:α->Key):∀ Y:List<|Key×V,(aZ φ Y).length<=Y.length
 | []=>Am _
 | p :: r=>by
  show(jY φ p++aZ φ r).length<=r.length+1;have:=bY φ r;have:(jY φ p).length<=1:=by unfold jY;split <;> simp
  rw[Ad];omega
def b5.mem{α:Type}{φ:α->Key}(ki:∀ x y,φ x=φ y->x=y){ls:List (Bl α)}{f:α}(I:b5 φ ls f none Y [])(x:α):x∈aZ φ Y↔ao Y (φ x)=some (.bl true):=by
 rw[<- wA I.de];unfold aZ;rw[Di]
 constructor
 ·rintro ⟨⟨k,v⟩,hp,hx⟩;obtain⟨y,rfl,_⟩:=I.txt k<|Ai.mpr ⟨_,hp,rfl⟩;obtain⟨b,rfl,_⟩:=I.val y v<|(wA I.de).mp hp;rw[iO ki]at hx;cases b with
  | true=>rw[BP rfl]at hx;rwa[Af.mp hx]
  | false=>cases hx
 ·intro h;exact⟨_,h,by rw[iO ki,BP rfl];exact Af.mpr rfl⟩
theorem fJ{α:Type}{φ:α->Key}(ki:∀ x y,φ x=φ y->x=y):∀ Y:List<|Key×V,(Y.map (·.1)).Nodup->(aZ φ Y).Nodup
 | [],_=>Cn
 | p :: r,h=>by
  rw[Bn,Bk]at h;show(jY φ p++aZ φ r).Nodup;have ih:=fJ ki r h.2;have key:∀(q:Key×V) (x:α),x∈jY φ q->q.1=φ x:=λq x hx=>by
   unfold jY at hx
   split at hx
   ·rename_i hq;rw[Af.mp hx];exact hq.2.choose_spec
   ·cases hx
  have n1:(jY φ p).Nodup:=by unfold jY;split <;> simp
  refine Cj.mpr ⟨n1,ih,λa ha b hb e=>?_⟩;subst e;obtain⟨q,hq,hx⟩:=Di.mp hb;exact h.1<|Ai.mpr ⟨q,hq,by rw[key q a hx,key p a ha]⟩
end Nz
namespace L2
open PySem PySem.Spec PyProof.Rows
section
variable{X:Cx}{σ:St}{H:Hp}{Q:VK}
def Vn{k v:Expr}{pos:Pos}(hu:X.A.units+1 < cLine)(h:∀ d,H d=none->Ev X k σ (upd H d<|.dK []) λy H1=>Ev X v σ H1 λx H2=>∃ H3,bX H2 d y x H3/\Q (.ref d) H3):Ev X (.Dict [some k] [v] pos) σ H Q:=by
 refine⟨λO s I=>wpAny_Dict_any rfl rfl (by simp) (by show 1<=15;decide) ?_⟩;have I0:=I.laid (t':=s.toks) (λ_ _ q=>Ae _ q) (Am _)<|Qk s.heap I.big;show wpAny _ _ (evalPairs [(eval k X.env,do let x <- eval v X.env;standAt pos;pure x)]) _ _ _;unfold evalPairs;refine BJ<|aN ((h _ I.fresh).run O _ I0) λkv s1 ⟨y,H1,I1,r1,h1⟩=>?_;refine BJ<|CJ<|BJ<|aN (h1.run O s1 I1) λvv s2 ⟨x,H2,I2,r2,H3,dp,q⟩=>?_;refine BJ<|FP<|BL ?_;unfold evalPairs;refine BJ<|CJ<|BL<|BL ?_;unfold storeAll;rw[Gs];exact BJ<|BJ<|SK hu I2 dp r1 r2 λs' I'=>BL<|BL ⟨.ref _,H3,I',rfl,q⟩
end
end L2
namespace Q1
open PySem L2 Nt bD
abbrev T3b(x:Bl):HO:= .tup [.str x.1,.str x.2.1,.bl x.2.2]
def Vo(H:Hp)(us:List Addr)(ls:List Bl):Prop:=us.length=ls.length/\∀(j:Nat) u x,us[j]?=some u->ls[j]?=some x->H u=some (T3b x)
def LO:Sp:=λvs H Q _=>∃f L us ls,vs=[.str f,.ref L]/\H L=some (.lst<|us.map V.ref)/\Vo H us ls/\ls.length<=60 /\
 ∀d Y H',ah H H'->H d=none->H' d=some (.dK Y)->b5 ls f none Y []->Q (.ref d) H'
abbrev Vp{α:Type}(φ:α->Key)(x:Nz.Bl α):HO:= .tup [kV<|φ x.1,kV<|φ x.2.1,.bl x.2.2]
def li{α:Type}(φ:α->Key)(H:Hp)(us:List Addr)(ls:List<|Nz.Bl α):Prop:=us.length=ls.length/\∀(j:Nat) u x,us[j]?=some u->ls[j]?=some x->H u=some (Vp φ x)
variable{us:List Addr}
def li.same{α:Type}{φ:α->Key}{H H':Hp}{ls:List (Nz.Bl α)}(h:li φ H us ls)(s:ah H H'):li φ H' us ls:=⟨h.1,λj u x h1 h2=>s _ _<|h.2 j u x h1 h2⟩
abbrev Lg{α:Type}(φ:α->Key)(l:List α):HO:= .lst<|l.map λx=>kV<|φ x
def Vq{α:Type}(φ:α->Key):Sp:=λvs H Q _=>∃f L us ls,vs=[kV<|φ f,.ref L]/\H L=some (.lst<|us.map V.ref)/\li φ H us ls/\ls.length<=60 /\
 ∀d Y H',ah H H'->H d=none->H' d=some (.dK Y)->Nz.b5 φ ls f none Y []->Q (.ref d) H'
def x0p{a b:Key}(h:kV a=kV b):a=b:=by
 cases a <;> cases b <;> cases h <;> rfl
variable{Z:Heap}{mg:Ò}{K:PySem.W.Frag}{fd:FuncData}{f:Addr}{Y:List (Key×V)}{ls:List Lk}{ps:Ñ}
section
variable{P:Program}{w:World}
abbrev NSp:Ñ:=["first","links","odds","waiting","here","one","other","odd","start","goal"]
def xB:ak NSp ["first","links"] (aP vR):=bZ
def x0a{α:Type}(φ:α->Key)(wt:List α)(h:α):(((wt++[h]).map λx=>kV<|φ x)[((wt++[h]).map λx=>kV<|φ x).length - 1]?=some (kV<|φ h))/\((wt++[h]).map λx=>kV<|φ x).dropLast=wt.map (λx=>kV<|φ x):=by
 rw[Aj]
 constructor
 ·simp
 ·exact List.dropLast_concat
theorem Vr{α:Type}{φ:α->Key}(ki:∀ x y,φ x=φ y->x=y)(iB:∀ x y,p7 (kV<|φ x) (kV<|φ y)=true)(F:bo K "spread" "spread" vR f fd)(T:Txt mg):aD P w K mg Z bz 1 f fd ["first","links"] (Vq φ):=by
 refine F.gc xB λb0 H vs Q E hr h=>?_;obtain⟨ft,L,us,ls,rfl,hL,cN,h60,q⟩:=h;have nd:=xB.nd;have hu:=hr.u1;have rG:=cN.1;refine aT 2 nd<|Vn hu λd hd=>ae 0<|sX ⟨_,bX.k av<|bI<|Bu _,?_⟩;rw[pO];refine aT 3 nd<|dS<|ai<|ae 0<|ax ⟨Z1,λM hM=>?_⟩;have mr:M≠d:=λe=>by rw[e,av]at hM;cases hM
 have xu:H M=none:=by rwa[au mr]at hM
 have s0:ah H (upd (upd H d<|.dK<|putK [] (φ ft)<|.bl false) M<|.lst [kV<|φ ft]):=(aM hd _).trans<|aM hM _;have xv:(upd (upd H d<|.dK<|putK [] (φ ft)<|.bl false) M<|.lst [kV<|φ ft]) d=some (.dK<|putK [] (φ ft)<|.bl false):=by rw[au<|CG mr,av]
 have nP:(upd (upd H d<|.dK<|putK [] (φ ft)<|.bl false) M<|.lst [kV<|φ ft]) M=some (Lg φ [ft]):=av;generalize upd (upd H d<|.dK<|putK [] (φ ft)<|.bl false) M (.lst [kV<|φ ft])=H0 at s0 xv nP;refine vP (λm σ H'=>m<=1000/\∃Y wt u4 u5 u6 u7 u8 u9,ah H H'/\H' d=some (.dK Y)/\H' M=some (Lg φ wt)/\Nz.b5 φ ls ft none Y wt/\m=2 * (1+2 * ls.length - Y.length)+wt.length /\
   σ=[some<|kV<|φ ft,⇑L,⇑d,⇑M,u4,u5,u6,u7,u8,u9]) (m0:=2 * (1+2 * ls.length - 1)+1)
  ⟨⋯,_,[ft],_,_,_,_,_,_,s0,xv,nP,Nz.b5.start ki ls ft,rfl,rfl⟩ ?_
 rintro m σ H1 ⟨hm,Y,wt,u4,u5,u6,u7,u8,u9,s1,ed1,LU,I,em,rfl⟩;refine Qw<|ae 3 (v:= .ref M) ⟨!wt.isEmpty,Or.inl ⟨wt.map λx=>kV<|φ x,aj.of LU,by cases wt <;> rfl⟩,?_⟩
 rcases List.eq_nil_or_concat wt with e | ⟨mv,hh,e⟩
 ·subst e;rw[BK λh=>nomatch h];exact bQ<|ae 2<|q d Y H1 s1 hd ed1 I
 rw[List.concat_eq_append]at e;subst e;rw[BP<|by cases mv <;> rfl];obtain⟨hy,i5⟩:=x0a φ mv hh;refine aT 4 nd<|x15 DW VN VP ZL<|ae 3 (v:= .ref M) ⟨Or.inl ⟨rfl,_,aj.of LU⟩,M,_,kV<|φ hh,rfl,rfl,LU,hy,?_⟩;rw[i5];have I1:=I.pop;have lw:(mv++[hh]).length=mv.length+1:=by rw[Ad];rfl
 rw[lw]at em;have uf:∀{H':Hp},ah H H'->H' L=some (.lst<|us.map V.ref):=λs=>s _ _ hL;have s2:ah H (upd H1 M<|Lg φ mv):=cX s1 xu;have Vs:(upd H1 M<|Lg φ mv) d=some (.dK Y):=by rwa[au<|CG mr]
 have Vt:(upd H1 M<|Lg φ mv) M=some (Lg φ mv):=av;generalize upd H1 M (Lg φ mv)=H2 at s2 Vs Vt;refine lS<|ae 1 ⟨L,rfl,⟨_,aj.of<|uf s2⟩,lT (xs:=us.map V.ref) (λj σ H'=>∃(Y:List<|Key×V) (wt:List α) (u5 u6 u7 u8 u9:Option V),ah H H'/\H' d=some (.dK Y)/\H' M=some (Lg φ wt)/\Nz.b5 φ ls ft (some hh) Y wt/\2 * (1+2 * ls.length - Y.length)+wt.length < m /\
   (∀ l∈ls.take j,(l.1=hh->Nz.has φ Y l.2.1)/\(l.2.1=hh->Nz.has φ Y l.1))/\σ=[some<|kV<|φ ft,⇑L,⇑d,⇑M,some<|kV<|φ hh,u5,u6,u7,u8,u9])
  ⟨Y,mv,_,_,_,_,_,s2,Vs,Vt,I1,⋯,λl hl=>by simp at hl,rfl⟩ ?_ ?_ ?_⟩
 ·rintro j σ H' _ ⟨_,_,_,_,_,_,_,sm,_⟩;exact aj.of<|uf sm
 ·rintro j x σ H3 hx ⟨Y,wt,u5,u6,u7,u8,u9,s3,ed,eM,I,aV,cn,rfl⟩;rw[Ah,Ar]at hx;obtain⟨u,cj,rfl⟩:=hx;have hj:j < ls.length:=by
   have:=(Ac.mp cj).1;omega
  have Vu:ls[j]?=some ls[j]:=Ab hj;have mq:=(cN.same s3).2 j u _ cj Vu;have gg:ls[j]∈ls:=Bp hj;have uQ:∀ l∈ls.take (j+1),l∈ls.take j\/l=ls[j]:=λl hl=>by
   rw[Bx,Vu]at hl
   rcases An.mp hl with q | q
   ·exact .inl q
   ·exact .inr<|by simpa using q
  generalize ls[j]=lx at mq gg uQ;obtain⟨on,ot,od⟩:=lx;refine LJ rfl (aS.of mq) (a8 5 nd<|a8 6 nd<|a8 7 nd ?_);refine Qx<|fv<|ai<|fv<|ai<|ae 5<|ai<|ae 6<|ax ⟨Z2,λt1 Kh=>?_⟩;refine ai<|fv<|ai<|ae 6<|ai<|ae 5<|ax ⟨Z2,λt2 jP=>ax ⟨Z2,λtt htt=>?_⟩⟩;have n1:=aM Kh<|.tup [kV<|φ on,kV<|φ ot];have n2:=aM jP<|.tup [kV<|φ ot,kV<|φ on];have n3:=aM htt<|.tup [.ref t1,.ref t2];have e1:=n3 _ _<|n2 _ _<|av (H:=H3) (a:=t1) (o:= .tup [kV<|φ on,kV<|φ ot]);have e2:=n3 _ _<|av (H:=upd H3 t1<|.tup [kV<|φ on,kV<|φ ot]) (a:=t2) (o:= .tup [kV<|φ ot,kV<|φ on]);have e3:=av (H:=upd (upd H3 t1<|.tup [kV<|φ on,kV<|φ ot]) t2<|.tup [kV<|φ ot,kV<|φ on]) (a:=tt) (o:= .tup [.ref t1,.ref t2]);have n:=n1.trans<|n2.trans n3;refine⟨tt,rfl,⟨_,aS.of e3⟩,?_⟩;generalize upd (upd (upd H3 t1<|.tup [kV<|φ on,kV<|φ ot]) t2<|.tup [kV<|φ ot,kV<|φ on]) tt (.tup [.ref t1,.ref t2])=H4 at e1 e2 e3 n;refine Qy (xs:=[.ref t1,.ref t2]) (λi σ H'=>∃(Y:List<|Key×V) (wt:List α) (u8 u9:Option V),ah H H'/\H' d=some (.dK Y)/\H' M=some (Lg φ wt)/\H' t1=some (.tup [kV<|φ on,kV<|φ ot])/\H' t2=some (.tup [kV<|φ ot,kV<|φ on])/\H' tt=some (.tup [.ref t1,.ref t2])/\Nz.b5 φ ls ft (some hh) Y wt/\2 * (1+2 * ls.length - Y.length)+wt.length < m /\
   (∀ l∈ls.take j,(l.1=hh->Nz.has φ Y l.2.1)/\(l.2.1=hh->Nz.has φ Y l.1))/\(0 < i->on=hh->Nz.has φ Y ot)/\(1 < i->ot=hh->Nz.has φ Y on)/\σ=[some<|kV<|φ ft,⇑L,⇑d,⇑M,some<|kV<|φ hh,some<|kV<|φ on,some<|kV<|φ ot,some<|.bl od,u8,u9])
   ⟨Y,wt,_,_,s3.trans n,n _ _ ed,n _ _ eM,e1,e2,e3,I,aV,cn,λh=>absurd h ∅,λh=>absurd h ∅,rfl⟩ ?_ ?_ ?_
  ·rintro i σ H' _ ⟨_,_,_,_,_,_,_,_,_,e,_⟩;exact aS.of e
  ·rintro i x σ H5 hx ⟨Y,wt,u8,u9,s5,ed,eM,e1,e2,e3,I,aV,cn,d1,d2,rfl⟩;obtain⟨st,gl,t,rfl,et,LV,df⟩:∃ st gl t,x = .ref t/\H5 t=some (.tup [kV<|φ st,kV<|φ gl])/\Nz.dL ls st gl od/\∀ jC,(∀ y,Nz.has φ Y y->Nz.has φ jC y)->(st=hh->Nz.has φ jC gl)->(0 < i+1->on=hh->Nz.has φ jC ot)/\(1 < i+1->ot=hh->Nz.has φ jC on):=by
    match i with
    | 0=>
     cases hx;exact⟨on,ot,t1,rfl,e1,.inl gg,λjC mo h=>⟨λ_=>h,λh=>absurd h<|∅⟩⟩
    | 1=>
     cases hx;exact⟨ot,on,t2,rfl,e2,.inr gg,λjC mo h=>⟨λ_ e=>mo _ (d1 ∅ e),λ_=>h⟩⟩
    | i+2=>simp at hx
   refine jT rfl (aS.of et) (a8 8 nd<|a8 9 nd ?_);have skip:(st=hh->Nz.has φ Y gl)->∃(Y:List<|Key×V) (wt:List α) (u8 u9:Option V),ah H H5/\H5 d=some (.dK Y)/\H5 M=some (Lg φ wt)/\H5 t1=some (.tup [kV<|φ on,kV<|φ ot])/\H5 t2=some (.tup [kV<|φ ot,kV<|φ on])/\H5 tt=some (.tup [.ref t1,.ref t2])/\Nz.b5 φ ls ft (some hh) Y wt/\2 * (1+2 * ls.length - Y.length)+wt.length < m /\
     (∀ l∈ls.take j,(l.1=hh->Nz.has φ Y l.2.1)/\(l.2.1=hh->Nz.has φ Y l.1))/\(0 < i+1->on=hh->Nz.has φ Y ot)/\(1 < i+1->ot=hh->Nz.has φ Y on)/\[some<|kV<|φ ft,⇑L,⇑d,⇑M,some<|kV<|φ hh,some<|kV<|φ on,some<|kV<|φ ot,some<|.bl od,some<|kV<|φ st,some<|kV<|φ gl]=[some<|kV<|φ ft,⇑L,⇑d,⇑M,some<|kV<|φ hh,some<|kV<|φ on,some<|kV<|φ ot,some<|.bl od,u8,u9]:=λh=>
    ⟨Y,wt,_,_,s5,ed,eM,e1,e2,e3,I,aV,cn,(df Y (λ_ h=>h) h).1,(df Y (λ_ h=>h) h).2,rfl⟩
   refine fP<|mQ<|zg<|cH jl<|ae 8<|ae 4 ⟨iB _ _,_,rfl,?_⟩
   by_cases cP:st=hh
   ·rw[BP<|BW<|by rw[cP]];refine zh<|Io hu<|ae 9<|ae 2 ⟨d,_,rfl,aX.k (k:=φ gl) ed,?_⟩;cases hg:ao Y (φ gl) with
    | some v=>
     show if false=true then _ else _;rw[BK<|∅];exact a7<|a7<|skip λ_=>⟨v,hg⟩
    | none=>
     show if true=true then _ else _;rw[BP rfl];have hhh:Nz.has φ Y hh:=by
      rcases I.hrk with q
      exact q
     obtain⟨v,hv⟩:=hhh;obtain⟨b,rfl,_⟩:=I.val hh v hv;subst cP;have I':=Nz.b5.add ki (o:=od) I hg hv LV;have lk:=I.len;have lk':=I'.len;have oZ:(putK Y (φ gl)<|.bl<|b != od).length=Y.length+1:=by
      have xA:=I.je hg;have:=BZ List.length<|tV Y (φ gl)<|.bl<|b != od;rwa[BK xA,Ad,Aa,Aa]at this
     refine tG hu (hG yS<|eU hu<|ae 2<|ae 4 ⟨d,.bl b,rfl,by rw[<- hv];exact aX.k (k:=φ st) ed,ae 7 ⟨rfl,?_⟩⟩);rw[uO];refine ae 2 (ae 9 ⟨d,_,rfl,bX.k (k:=φ gl) ed (bI<|⋯),?_⟩);have Vv:(upd H5 d<|.dK<|putK Y (φ gl)<|.bl<|b != od) M=some (Lg φ wt):=by rwa[au mr]
     refine gq (jQ<|ae 3 ⟨M,rfl,⟨_,Vv⟩,ae 9 ⟨_,Vv,by rw[Aa];exact bI ⋯,?_⟩⟩);have kT:∀ c xs,H5 c=some (.tup xs)->(upd (upd H5 d<|.dK<|putK Y (φ gl)<|.bl<|b != od) M<|.lst<|wt.map (λx=>kV<|φ x)++[kV<|φ gl]) c=some (.tup xs):=λc xs h=>by
      rwa[au (bV h eM λz=>nomatch z),au<|bV h ed λz=>nomatch z]
     have mo:∀ y,Nz.has φ Y y->Nz.has φ (putK Y (φ gl)<|.bl<|b != od) y:=λy h=>Nz.dh h;have hn:=df _ mo (λ_=>⟨.bl<|b != od,by rw[dC,BP rfl]⟩);refine a7<|a7 ⟨_,wt++[gl],_,_,cX (cX s5 hd) xu,?_,?_,kT _ _ e1,kT _ _ e2,kT _ _ e3,I',?_,λl hl=>⟨λe=>mo _<|(cn l hl).1 e,λe=>mo _<|(cn l hl).2 e⟩,hn.1,hn.2,rfl⟩
     ·rw[au<|CG mr];exact av
     ·rw[av];show some (HO.lst<|wt.map (λx=>kV<|φ x)++[kV<|φ gl])=some (HO.lst<|(wt++[gl]).map λx=>kV<|φ x);rw[Aj];rfl
     ·rw[oZ,Ad];rw[oZ]at lk';show _+(wt.length+1) < m;clear hn df d1 d2 skip;omega
   ·rw[BK λh=>cP<|ki _ _<|x0p<|BX h];show if false=true then _ else _;rw[BK<|∅];exact a7<|a7<|skip λh=>absurd h cP
  ·rintro σ H5 ⟨Y,wt,u8,u9,s5,ed,eM,_,_,_,I,aV,cn,d1,d2,rfl⟩;refine a7 ⟨Y,wt,_,_,_,_,_,s5,ed,eM,I,aV,λl hl=>?_,rfl⟩
   rcases uQ l hl with q | q
   ·exact cn l q
   ·subst q;exact⟨d1 (by show 0 < 2;decide),d2<|by show 1 < 2;decide⟩
 ·rintro σ H3 ⟨Y,wt,u5,u6,u7,u8,u9,s3,ed,eM,I,aV,cn,rfl⟩;rw[Aa,rG,Br]at cn;refine a7 ⟨_,aV,⋯,Y,wt,_,_,_,_,_,_,s3,ed,eM,I.close λy o ht=>?_,rfl,rfl⟩
  rcases ht with h | h
  ·exact(cn _ h).1 rfl
  ·exact(cn _ h).2 rfl
def x16{ls:List Bl}{f:Str}(I:Nz.b5 Sum.inr ls f none Y []):b5 ls f none Y []:=by
 have wy:∀{x:Str} {b:Bool},Nz.Way ls f x b->Way ls f x b:=λw=>by
  induction w with
  | here=>exact .here
  | there _ h ih=>exact .there ih h
  | back _ h ih=>exact .back ih h
 exact⟨I.de,I.txt,λx v h=>let ⟨b,e,w⟩:=I.val x v h;⟨b,e,wy w⟩,I.fst,I.tW,I.AZ,I.cls⟩
def k7c(F:bo K "spread" "spread" vR f fd)(T:Txt mg):aD P w K mg Z bz 1 f fd ["first","links"] LO:=
 (Vr (λ_ _ h=>Sum.inr.inj h) (λ_ _=>rfl) F T).imp λvs H Q E ⟨f,L,us,ls,e,h1,h2,h3,q⟩=>⟨f,L,us,ls,e,h1,h2,h3,λd Y H' s n e I=>q d Y H' s n e<|x16 I⟩
open PyProof.Rows (sortedS)
def LW:Sp:=λvs H Q _=>∃R p as n ps,vs=[.ref R,.ref p]/\al H R as n/\aw n/\n.length<=60/\(ag n).length<=60/\H p=some (Ls ps) /\
 ∀L cs H',ah H H'->H L=none->H' L=some (Ls cs)->cD cs->(∀ z,z∈cs↔ig n ps z)->cs.length<=60->Q (.ref L) H'
def LX:Sp:=λvs H Q _=>∃R p as n ss,vs=[.ref R,.ref p]/\al H R as n/\aw n/\ce n/\0 < n.length/\n.length<=60/\(ag n).length<=60/\H p=some (Ls ss)/\cD ss /\
 (∀L sd H',ah H H'->H L=none->H' L=some (Ls sd)->bg n ss sd->Q (.ref L) H')/\(∀ H',ah H H'->(∀ sd,¬ bg n ss sd)->Q .non H')
def xC(ps:Ñ)(x:Lk):Bool:=decide (x.2.1∈ps) != decide (x.2.2∈ps)
def dZ(ps:Ñ)(ls:List Lk):Ñ:=(ls.filter<|xC ps).map (·.1)
def q11(h:B8 ls):cD (dZ ps ls):=by
 unfold cD dZ;rw[Cs];exact h.sublist List.filter_sublist
def q08{n:Net}(T:aw n)(h:∀ x,x∈ls↔ph n x)(z:Str):z∈dZ ps ls↔ig n ps z:=by
 unfold dZ;rw[Ai]
 constructor
 ·rintro ⟨x,hx,rfl⟩;rw[Bg]at hx;exact(JE T<|(h x).mp hx.1).mpr hx.2
 ·intro hc;obtain⟨e,he,_⟩:=id hc
  rcases TK T he with q | q
  ·exact⟨_,Bg.mpr ⟨(h _).mpr q,(JE T q).mp hc⟩,rfl⟩
  ·exact⟨_,Bg.mpr ⟨(h _).mpr q,(JE T q).mp hc⟩,rfl⟩
def Vw(ps:Ñ)(ls:List Lk):(dZ ps ls).length<=ls.length:=by
 unfold dZ;rw[Aa];exact Cp _ _
def k6y(ps:Ñ)(ls:List Lk)(x:Lk):dZ ps (ls++[x])=dZ ps ls++(if xC ps x=true then [x.1]else []):=by
 unfold dZ;rw[Ct,Aj]
 congr 1
 cases h:xC ps x <;> simp[h]
def rL(zs:Ñ)(z:Str):zs.contains z=decide (z∈zs):=by
 rw[Cr,CK];exact Cu
abbrev Vx:Ñ:=["rows","points"]
abbrev xD:Ñ:=["rows","points","tie","one","other"]
def LY:ak Vx ["rows","points"] (aP zX):=bZ
def LZ:xD.Nodup:=by decide +kernel
theorem q8k(F:bo K "cut_of" "cut_of" zX f fd)(T:Txt mg)
  (G:aQ P w K mg Z 1 "links_of" ["rows"] B9) :
  aD P w K mg Z bz 2 f fd ["rows","points"] LW:=by
 refine F.gc LY λb0 H vs Q E hr h=>?_;obtain⟨R,p,as,n,ps,rfl,hR,hT,hn,ht,hp,q⟩:=h;refine bQ (gu (aP zX) Vx xD 3 (eB bd)<|bG G hr<|ai<|ae 0<|ax ⟨R,as,n,rfl,hR,hT,⋯,ht,λL us ls H1 s1 n1 eL cN gP gg hlen=>?_⟩);refine⟨L,rfl,⟨_,aj.of eL⟩,λD hD=>?_⟩;have KA:=bh eL hD;have Lv:=bh (s1 _ _ hp) hD;have rG:=cN.1;refine jS (xs:=us.map V.ref) (λi σ' H'=>(∃ v1 v2 v3,σ'=[⇑R,⇑p]++[v1,v2,v3])/\H'=upd H1 D (Ls<|dZ ps<|ls.take i)) ⟨⟨_,_,_,rfl⟩,rfl⟩ ?_ ?_ ?_
 ·rintro i σ' H' _ ⟨_,rfl⟩;exact aj.of<|by rwa[au KA]
 ·rintro i x σ' H' hx ⟨⟨v1,v2,v3,rfl⟩,rfl⟩;rw[Ah,Ar]at hx;obtain⟨u,cj,rfl⟩:=hx;have hi:i < ls.length:=by
   have:=(Ac.mp cj).1;omega
  have mV:=Ab hi;have mq:=cN.2 i u _ cj mV;have gZ:ls.take (i+1)=ls.take i++[ls[i]]:=by rw[Bx,mV];rfl
  rw[gZ,k6y];generalize ls[i]=lx at mq;obtain⟨ti,on,ot⟩:=lx;have L4:(upd H1 D<|Ls<|dZ ps<|ls.take i) u=some (.tup [.str ti,.str on,.str ot]):=by rwa[au<|bh mq hD]
  have pA:(upd H1 D<|Ls<|dZ ps<|ls.take i) p=some (Ls ps):=by rw[au Lv];exact s1 _ _ hp
  intro cl C' æ ç ex;refine LJ rfl (aS.of L4) (a8 2 LZ<|a8 3 LZ<|a8 4 LZ ?_);intro cl C' æ ç ex;refine hU<|cH yS<|hG lN<|ae 3<|ae 1 ⟨p,_,rfl,.inl<|aj.of pA,rfl,kE _,?_⟩;refine hG lN<|ae 4<|ae 1 ⟨p,_,rfl,.inl<|aj.of pA,rfl,kE _,rfl,_,rfl,?_⟩;have fF:∀(x y:Bool),(if false=true then x else y)=y:=λ_ _=>rfl;rw[fF,fF,kD,kD,rL,rL,uO];show if xC ps (ti,on,ot)=true then _ else _;have jN:=By (Vw ps<|ls.take i) (show(ls.take i).length<=ls.length by rw[Bh];omega)
  by_cases hc:xC ps (ti,on,ot)=true
  ·rw[BP hc];intro cl C' æ ç ex;refine ae 2 ⟨_,av,by rw[Aa];exact bI ⋯,⟨_,_,_,rfl⟩,?_⟩;rw[pO,BP hc];exact IU
  ·rw[BK hc];refine⟨⟨_,_,_,rfl⟩,?_⟩;rw[BK hc,Be]
 ·rintro σ' H' ⟨_,rfl⟩;rw[Aa,rG,Br];have jN:=Vw ps ls;exact q D _ _ (s1.trans<|aM hD _) (jV s1 hD) av (q11 gP) (q08 hT gg)<|⋯
abbrev xE(ss:Ñ)(x:Lk):Bl:=(x.2.1,x.2.2,decide (x.1∈ss))
abbrev L9:Ñ:=["rows","some","links","odds","side"]
abbrev xF:Ñ:=["rows","some","links","odds","side","tie","one","other"]
abbrev xG:Ñ:=["rows","some","links","odds","side","point"]
def xH:ak L9 ["rows","some"] (aP vS):=bZ
def Ma:xF.Nodup:=by decide +kernel
def x0e:xG.Nodup:=by decide +kernel
def xI:Key->Str
 | Sum.inr z=>z
 | _=>⟨#[]⟩
def jB:V->Bool
 | .bl b=>b
 | _=>false
def aZ(Y:List<|Key×V):Ñ:=(Y.filter λp=>jB p.2).map λp=>xI p.1
def bY(Y:List<|Key×V):(aZ Y).length<=Y.length:=by
 unfold aZ;rw[Aa];exact Cp _ _
def cV(Y:List<|Key×V)(p:Key×V):aZ (Y++[p])=aZ Y++(if jB p.2=true then [xI p.1]else []):=by
 unfold aZ;rw[Ct,Aj]
 congr 1
 cases h:jB p.2 <;> simp[h]
def k96(hn:(Y.map (·.1)).Nodup)(ht:∀ k∈Y.map (·.1),∃ x,k=Sum.inr x)(x:Str):x∈aZ Y↔ao Y (Sum.inr x)=some (.bl true):=by
 rw[<- wA hn];unfold aZ;rw[Ai]
 constructor
 ·rintro ⟨⟨k,v⟩,hp,rfl⟩;rw[Bg]at hp;obtain⟨y,hy⟩:=ht k<|Ai.mpr ⟨_,hp.1,rfl⟩;have hv:=hp.2;subst hy;cases v with
  | bl b=>
   have:b=true:=hv;subst this;exact hp.1
  | _=>cases hv
 ·intro h;exact⟨_,Bg.mpr ⟨h,rfl⟩,rfl⟩
def k2x(hn:(Y.map (·.1)).Nodup)(ht:∀ k∈Y.map (·.1),∃ x,k=Sum.inr x):(aZ Y).Nodup:=by
 have e:((Y.filter λp=>jB p.2).map (·.1)).Nodup:=hn.sublist<|List.filter_sublist.map _;unfold aZ;have e2:((Y.filter λp=>jB p.2).map λp=>xI p.1).map Sum.inr=(Y.filter λp=>jB p.2).map (λp=>(p.1:Key)):=by
  rw[Cg];refine Bo λp hp=>?_;obtain⟨y,hy⟩:=ht p.1<|Ai.mpr ⟨p,(Bg.mp hp).1,rfl⟩;show Sum.inr (xI p.1)=p.1;rw[hy];rfl
 rw[Ay];have e3:(((Y.filter λp=>jB p.2).map λp=>xI p.1).map (Sum.inr:Str->Key)).Nodup:=by rwa[e2]
 rw[Ay,Cs]at e3;exact e3.imp λh q=>h<|by rw[q]
theorem q5i(F:bo K "side_of" "side_of" vS f fd)(T:Txt mg)
  (GL:aQ P w K mg Z 2 "links_of" ["rows"] B9)
  (GS:aQ P w K mg Z 2 "spread" ["first","links"] LO)
  (GC:aQ P w K mg Z 2 "cut_of" ["rows","points"] LW) :
  aD P w K mg Z bz 3 f fd ["rows","some"] LX:=by
 refine F.gc xH λb0 H vs Q E hr h=>?_;obtain⟨R,p,as,n,ss,rfl,hR,hT,xJ,h0,hn,ht,hp,rM,q1,q2⟩:=h;have nd:=xH.nd;have hu:=hr.fQ;have cj:=hr.u1;refine tj 2 (aP vS) L9 xF 3 nd (eB bd) (bG GL hr<|ai<|ae 0<|ax ⟨R,as,n,rfl,hR,hT,⋯,ht,λL us ls H1 s1 n1 eL cN gP gg hlen=>?_⟩);refine⟨L,rfl,⟨_,aj.of eL⟩,λD hD=>?_⟩;have rG:=cN.1;have tl:=k7z (ss:=ss) hT gg;refine jS (xs:=us.map V.ref) (λi σ' H'=>(∃ v1 v2 v3,σ'=[⇑R,⇑p,none,none,none]++[v1,v2,v3])/\∃ ws:List Addr,ah H1 H'/\H' D=some (.lst<|ws.map V.ref)/\Vo H' ws ((ls.take i).map<|xE ss)) ⟨⟨_,_,_,rfl⟩,[],aM hD _,av,rfl,λj u x h=>by simp at h⟩ ?_ ?_ ?_
 ·rintro i σ' H' _ ⟨_,ws,sm,_⟩;exact aj.of<|sm _ _ eL
 ·rintro i x σ' H' hx ⟨⟨v1,v2,v3,rfl⟩,ws,sm,eD,iP⟩;rw[Ah,Ar]at hx;obtain⟨u,cj,rfl⟩:=hx;have hi:i < ls.length:=by
   have:=(Ac.mp cj).1;omega
  have mV:=Ab hi;have mq:=sm _ _<|cN.2 i u _ cj mV;have gZ:(ls.take<|i+1).map (xE ss)=(ls.take i).map (xE ss)++[xE ss ls[i]]:=by rw[Bx,mV,Aj];rfl
  rw[gZ];have lw:ws.length=i:=by
   have:=iP.1;rw[Aa,Bh]at this;omega
  generalize ls[i]=lx at mq;obtain⟨ti,on,ot⟩:=lx;have pA:=sm _ _<|s1 _ _ hp;intro cl C' æ ç ex;refine LJ rfl (aS.of mq) (a8 5 Ma<|a8 6 Ma<|a8 7 Ma ?_);intro cl C' æ ç ex;refine iA ?_;rw[BP rfl];intro cl C' æ ç ex;refine fv<|ai<|ae 6<|ai<|ae 7<|ai<|hG lN<|ae 5<|ae 1 ⟨p,_,rfl,.inl<|aj.of pA,rfl,kE _,ax ⟨Z3,λt dX=>?_⟩⟩;have fF:∀(x y:Bool),(if false=true then x else y)=y:=λ_ _=>rfl;rw[fF,kD,rL];have BD:t≠D:=λe=>by rw[e,eD]at dX;cases dX
  have sT:=aM dX<|.tup [.str on,.str ot,.bl<|decide (ti∈ss)];refine⟨_,sT _ _ eD,by rw[Aa];exact bI ⋯,⟨_,_,_,rfl⟩,ws++[t],cX (sm.trans sT) hD,?_,?_,?_⟩
  ·rw[av,Aj];rfl
  ·rw[Ad,Ad,iP.1];rfl
  ·intro j v y h1 h2;have hl:=iP.1
   by_cases hj:j < ws.length
   ·rw[Aq hj]at h1;rw[Aq<|⋯]at h2;have e:=iP.2 j v y h1 h2;rw[au<|bV (sT _ _ e) (sT _ _ eD) λz=>nomatch z];exact sT _ _ e
   ·rw[Ba<|⋯]at h1 h2;have f9:j - ws.length=0:=by
     have:=(Ac.mp h1).1;simp at this;omega
    rw[f9]at h1;rw[<- hl,f9]at h2;cases h1;cases h2;rw[au BD];exact av
 ·rintro σ' H2 ⟨_,ws,s2,eD,iP⟩;rw[Aa,rG,Br]at iP;have rh:=s1.trans s2;have Vy:=hR.same rh;obtain⟨a0,ea0,rd,JY,J0,er0⟩:=Vy.at h0;have hf:=(gW h0).symm;refine aT 3 nd<|bG GS hr<|ai<|bb cv<|bb cL<|ae 0<|aE ⟨R,_,_,.ref a0.1,rfl,rfl,aj.of Vy.lst,rd,aE ⟨a0.1,_,_,.str n[0].1,rfl,rfl,aS.of JY,rfl,?_⟩⟩;refine ai (ae 2<|ax ⟨n[0].1,D,ws,ls.map<|xE ss,rfl,eD,iP,by rwa[Aa],λd Y H3 s3 nd3 ed3 I=>?_⟩);rw[hf]at I;have rE:ah H H3:=rh.trans s3;have oZ:=k6e hT tl h0 I;have xK:∀ k∈Y.map (·.1),∃ x,k=Sum.inr x:=λk hk=>(I.txt k hk).imp λx h=>h.1;refine aT 4 nd<|bP vM T.sorted CW<|ai<|gu (aP vS) L9 xG 1 (Sw bd)<|ae 3 ⟨d,Y,rfl,ed3,λob E2 rN=>?_⟩;have nE:E2≠d:=λe=>by rw[e,av]at rN;cases rN
  have Mb:H3 E2=none:=by rwa[au nE]at rN
  have pD:H d=none:=rh.free nd3;refine Sx (λi σ' H'=>(∃ v,σ'=[⇑R,⇑p,⇑D,⇑d,none]++[v])/\H'=upd (upd H3 d<|.bB ob<|.dK Y) E2 (Ls<|aZ<|Y.take i)) ⟨⟨_,rfl⟩,rfl⟩ ?_ ?_ ?_
  ·rintro i σ' H' _ ⟨_,rfl⟩;rw[au<|CG nE,av]
  ·rintro i pr σ' H' nQ ⟨⟨v,rfl⟩,rfl⟩;have hm:pr∈Y:=At nQ;have gZ:Y.take (i+1)=Y.take i++[pr]:=by rw[Bx,nQ];rfl
   obtain⟨k,vv⟩:=pr;obtain⟨z,rfl⟩:=xK k<|Ai.mpr ⟨_,hm,rfl⟩;have hv:=(wA I.de).mp hm;obtain⟨b,rfl,_⟩:=I.val z vv hv;rw[gZ,cV];intro cl C' æ ç ex;refine a8 5 x0e ?_;intro cl C' æ ç ex;have dg:aX (upd (upd H3 d<|.bB ob<|.dK Y) E2<|Ls<|aZ<|Y.take i) d (kV<|Sum.inr z) (some<|.bl b):=by
    rw[<- hv];exact .inl ⟨Y,Sum.inr z,.inr ⟨ob,by rw[au<|CG nE,av]⟩,rfl,rfl⟩
   refine hU<|iu<|eU cj<|ae 3<|ae 5 ⟨d,.bl b,rfl,dg,b,rfl,?_⟩;have l7:=By (bY<|Y.take i) (show(Y.take i).length<=Y.length by rw[Bh];omega)
   by_cases hb:b=true
   ·rw[BP hb];intro cl C' æ ç ex;refine ae 5 ⟨_,av,by rw[Aa];exact bI ⋯,⟨_,rfl⟩,?_⟩;rw[pO,BP (show jB (.bl b)=true from hb)];exact IU
   ·rw[BK hb];refine⟨⟨_,rfl⟩,?_⟩;rw[BK (show ¬ jB (.bl b)=true from hb),Be]
  ·rintro σ' H' ⟨_,rfl⟩;rw[Br];have l7:=bY Y;refine ax ⟨E2,_,rfl,aj.of av,⋯,λl sd hl db rO=>?_⟩;have Md:l≠E2:=λe=>by rw[e,av]at hl;cases hl
   have Mf:l≠d:=λe=>by rw[e,au<|CG nE,av]at hl;cases hl
   have CA:H3 l=none:=by rwa[au Md,au Mf]at hl
   have iw:H l=none:=rE.free CA;have Mg:H E2=none:=rE.free Mb;have A5:ah H (upd (upd (upd H3 d<|.bB ob<|.dK Y) E2<|Ls<|aZ Y) l<|.lst<|sd.map V.str):=λc o' hc=>by
    rw[au<|bh hc iw,au<|bh hc Mg,au<|bh hc pD];exact rE _ _ hc
   have Mh:(upd (upd (upd H3 d<|.bB ob<|.dK Y) E2<|Ls<|aZ Y) l<|.lst<|sd.map V.str) l=some (Ls sd):=av;generalize upd (upd (upd H3 d<|.bB ob<|.dK Y) E2<|Ls<|aZ Y) l (.lst<|sd.map V.str)=H4 at A5 Mh ⊢;have nR:cD sd:=tX rO<|db.nodup_iff.mpr<|k2x I.de xK;have key:=k3n hT xJ h0 tl I nR λx=>by rw[db.mem_iff];exact k96 I.de xK x
   refine bQ<|q19<|cH (vO hu)<|bG GC hr<|ai<|ae 0<|ai<|ae 4<|ax ⟨R,l,as,n,sd,rfl,hR.same A5,hT,hn,ht,Mh,λL5 cs H5 s5 n5 e5 Mi m5 l5=>?_⟩;have ub:=A5.trans s5;refine ae 1 ⟨1,_,⋯,k73 e5<|ub _ _ hp,_,rfl,?_⟩
   by_cases dU:cs=ss
   ·rw[BP<|BW dU];exact ae 4<|q1 l sd H5 ub iw (s5 _ _ Mh)<|key.1 λz=>by rw[<- dU];exact m5 z
   ·rw[BK λh=>dU<|BX h];refine vi<|q2 H5 ub λfD gy=>?_;have e:=key.2 fD gy;subst e;exact dU<|A1 Mi rM λz=>(m5 z).trans (gy.cut z).symm
end
end Q1
namespace L2
open PySem PySem.Spec PyProof.Rows bK
variable{OK:Heap->Prop}{P:Nat->Value->Prop}{E:Î}{U:Program}
end L2
namespace L2
open PySem PySem.Spec PyProof.Rows
variable{tp:Pos}{elts:Ô}{K:PySem.W.Frag}
def Mj(K:PySem.W.Frag)(l:Addr):It:=
  ⟨λi H => ∃ xs x, aj K H l xs ∧ xs[i]? = some x,
   λi H v H'=>∃ T x,H T=none/\v = .ref T/\H'=upd H T (.tup [.int (i:Int),x])/\∀ xs,aj K H l xs->xs[i]?=some x,
   λi H=>∃ xs,aj K H l xs/\xs.length<=i⟩
def q87(m l:Addr)(i:Nat)(h:Heap):Prop:=(∃ old,IsEnum h (m+1) m (i:Int) old)/\h.IsListIter m l i
theorem k76{P:Program}{w:World}{k:Nat}(m l:Addr):Turn P w K (.Tuple elts k tp) (Mj K l) [m,m+1] (m+1) (q87 m l) where
 mem:=by simp
 obj:=λi h st c hc=>by
  obtain⟨⟨old,z1⟩,⟨o4,e4,c4,d4⟩⟩:=st;simp only[Al,Ch,FW]at hc
  rcases hc with rfl | rfl
  ·exact⟨_,e4,λv z=>by rw[d4]at z;cases z⟩
  ·exact⟨_,z1,λv z=>by cases z⟩
 keep:=λi h h' st kp=>by
  obtain⟨⟨old,z1⟩,⟨o4,e4,r4⟩⟩:=st;exact⟨⟨old,kp _ (by simp) _ z1⟩,⟨o4,kp _ (by simp) _ e4,r4⟩⟩
 item:=by
  intro X hP hw hK hc i O s σ H E I hf st hg;subst hP hw hK;obtain⟨xs,x,fC,hx⟩:=hg;obtain⟨kG,m7,p1,qR⟩:=I.list fC;obtain⟨u1,cj,Jm⟩:=m7.get hx;obtain⟨⟨old,z1⟩,z4⟩:=id st;refine wpAny_pyNext_enum_item z1 z4 p1.isList (by simpa using cj) (by simp) λh' a1 a2 a3 a4 kp=>?_;have hT:=I.aF.fresh<|Am _;have nT:∀ c∈[m,m+1],c≠s.heap.objs.size:=λc bu=>by
   have:∃ o,s.heap.get? c=some o:=by
    obtain⟨o4,e4,_⟩:=z4;simp only[Al,Ch,FW]at bu
    rcases bu with rfl | rfl
    ·exact⟨_,e4⟩
    ·exact⟨_,z1⟩
   obtain⟨o,e⟩:=this;exact Bi<|Ap e
  have I1:Inv X O σ (upd H s.heap.objs.size<|.tup [.int (i:Int),x]) {s with heap:=s.heap.push {cls:= .type "tuple",data:= .seq #[.int i s.toks,u1]},toks:=s.toks+1}:=
   I.laid (λb o e=>Ae _ e) (Am _) (show aB X.U X.w _ _ _ (.tup [.int (i:Int),x]) from⟨Z2,[.int i s.toks,u1],.cons ⟨_,rfl⟩<|.cons Jm .nil,⟨_,Ao _ rfl,rfl,_,rfl⟩⟩)
  have f1:∀ c∈[m,m+1],cr X O (upd H s.heap.objs.size<|.tup [.int (i:Int),x]) c:=λc bu=>⟨by rw[au<|nT c bu];exact(hf c bu).1,(hf c bu).2⟩;have qu:∀ c o,c∉[m,m+1]->(s.heap.push {cls:= .type "tuple",data:= .seq #[.int i s.toks,u1]}).get? c=some o->h'.get? c=some o:=λc o bu e=>by
   rcases Gp e with ⟨ec,eo⟩ | e'
   ·rwa[ec,eo]
   ·simp only[Al,Ch,FW,not_or]at bu;exact kp c o bu.2 bu.1 e'
  have I2:=Inv.bL (t':=s.toks+1) I1 f1 qu;refine⟨_,rfl,wpAny_letOwnedTupleGo_enum (s:={s with heap:=h',toks:=s.toks+1}) a1 λh2 b1 sb=>?_⟩;have AK:∀ c o,c∉[m+1]->h'.get? c=some o->h2.get? c=some o:=λc o bu e=>(sb.2 c<|by simpa using bu).trans e;have I3:=Inv.bL (h':=h2) (t':=s.toks+1) I2 (ch:=[m+1]) (λc bu=>f1 c<|by simp at bu;simp[bu]) AK;refine⟨.ref s.heap.objs.size,_,I3,rfl,⟨_,x,hT,rfl,rfl,λzs hz=>by rw[I.cZ hz fC];exact hx⟩,?_,λc bu=>(f1 c bu).1⟩;obtain⟨o3,e3,r3⟩:=a2;exact⟨⟨u1,b1⟩,⟨o3,AK _ _ (by simp) e3,r3⟩⟩
 done:=by
  intro X hP hw hK hc i O s σ H E I hf st hg;subst hP hw hK;obtain⟨xs,fC,wa⟩:=hg;obtain⟨kG,m7,p1,qR⟩:=I.list fC;have l1:=m7.length;obtain⟨⟨old,z1⟩,z4⟩:=id st;refine wpAny_pyNext_enum_end (I.ok.hd hc) z1 z4 p1.isList (by simp;omega) λh' kp=>⟨rfl,I.bL (t':=s.toks) (ch:=[m,m+1]) hf λc o bu e=>?_⟩;simp only[Al,Ch,FW,not_or]at bu;exact kp c o bu.1 e
 self:=λ_ _ _ _ _ st h=>by
  obtain⟨⟨old,z1⟩,_⟩:=st;exact wpAny_pyIter_enum z1 h
variable{X:Cx}
def x2n(K:PySem.W.Frag)(ta:TA):TI:=λσ H R=>ta σ H λvs H1=>∃ a,vs=[.ref a]/\(∃ xs,aj K H1 a xs)/\R (Mj K a) H1
theorem q40{k:Nat}{a:Expr}{ta:TA}{p pos:Pos}(hg:Gl X "enumerate")(hm:X.mg "enumerate" = none)(ha:PA X [a] ta)(hs:starEach [a] X.env=[(false,eval a X.env)]:=by rfl) :
  PI X (.Tuple elts k tp) (.Call (.Name "enumerate" p) [a] [] pos) (x2n X.K ta):=by
 intro O s σ H R I h;refine Call_<|oD I hg hm boot_enumerate<|IV (aN (ha pos O s σ H _ I h) λus s1 ⟨vs,H1,I1,r1,q1⟩=>?_) hs rfl;obtain⟨x,e,⟨xs,hx⟩,q⟩:=q1;subst e;obtain⟨u,rfl,ru⟩:=r1.one;cases (show u=Value.ref x from ru);obtain⟨kG,m7,p1,qR⟩:=I1.list hx;refine call_enumerate_list p1.isList λh' a1 a2 a3 kp=>?_;refine wpAny_pyIter_enum a1 ?_;refine⟨s1.heap.objs.size+1,[s1.heap.objs.size,s1.heap.objs.size+1],_,_,H1,rfl,I1.kept kp,k76 s1.heap.objs.size x,⟨⟨_,a1⟩,a2⟩,λb hb=>?_,q⟩;have hle:s1.heap.objs.size<=b:=by
  simp only[Al,Ch,FW]at hb
  rcases hb with rfl | rfl <;> omega
 exact I1.gF hle<|I1.aF.fresh hle
theorem Vz(z:Str):∀ zs:Ñ,countIn (.str z) (zs.map PyData.str)=(zs.count z:Int)
 | []=>rfl
 | y :: r=>by
  rw[Bn,countIn,Vz z r,Dq];simp only[same]
  rcases Bool.eq_false_or_eq_true (y == z)with hb | hb <;> simp only[hb,Bb,DP,CV] <;> push_cast <;> omega
def q9n(K:PySem.W.Frag):V->List V->Hp->VK->Prop:=λx vs H Q=>∃(l:Addr) (zs:Ñ) (z:Str),x = .ref l/\vs=[.str z]/\aj K H l (zs.map V.str)/\Q (.int (zs.count z:Int)) H
def VA:qd X "list.count" (q9n X.K):=by
 intro O s σ H x vs v us Q I rx rv h;obtain⟨l,zs,z,rfl,rfl,hH,q⟩:=h;cases rx;obtain⟨u,rfl,ru⟩:=rv.one;obtain⟨tk,rfl⟩:=ru;obtain⟨è,r,pl,hz⟩:=I.list hH;refine count_list_strs pl.isList (Ig r) ?_;rw[Vz];exact⟨.int (zs.count z:Int),H,I.tok _,⟨_,rfl⟩,q⟩
variable{body:Õ}{tg:Expr}{Y:List (Key×V)}
section
variable{σ:St}{H:Hp}{D:Ends}
def x0b(tl:TE):TI:=λσ H R=>tl σ H λx H1=>∃ d o Y,x = .ref d/\H1 d=some (.bB o<|.dK Y)/\R (vY d o Y) H1
def VC{l:Expr}{tl:TE}(hl:PE X l tl):PI X tg l (x0b tl):=by
 intro O s σ H R I h;refine aN (hl O s σ H _ I h) λv s1 ⟨x,H1,I1,r1,q1⟩=>?_;obtain⟨d,o,Y,e,hH,q⟩:=q1;subst e;cases (show v=Value.ref d from r1);obtain⟨ho,z,m6,vs,rel,dd⟩:=(show aB X.U X.w H1 s1.heap d (.bB o<|.dK Y)from I1.aF d _ hH);obtain⟨ep,o',es,cW,r1,r2,r3⟩:=dd.dictAt;have:o=o':=Option.some.inj<|ho.symm.trans cW;subst this;refine wpAny_pyIter_dict m6 ⟨o,es,cW,r1,r2,r3⟩<|⟨s1.heap.objs.size,[s1.heap.objs.size],_,_,_,rfl,I1.kept λb o e=>Ae _ e,Sv d _ o es ep Y r2,⟨_,Ao _ rfl,rfl,by rw[rel.length];rfl⟩,λb hb=>?_,q⟩;have e:b=s1.heap.objs.size:=by simpa using hb
 subst e;exact I1.gF (Am _)<|I1.aF.fresh<|Am _
theorem VE{d:Addr}{o:Obj}{after:St->Hp->Prop}(Pv:Nat->St->Hp->Prop)(h0:Pv 0 σ H)(hl:∀ i σ H,i<=Y.length->Pv i σ H->H d=some (.bB o<|.dK Y))
  (hs:∀ i p σ H,Y[i]?=some p->Pv i σ H->Eg X tg (kV p.1) σ H λσ2 H2=>Run X body {D with nx:=Pv<|i+1,ct:=Pv<|i+1,bk:=after} σ2 H2) (hd:∀ σ H,Pv Y.length σ H->after σ H):Loop X tg body (vY d o Y) D after σ H:=by
 refine⟨λi m σ H=>m=Y.length - i/\i<=Y.length/\Pv i σ H,⟨Y.length,by simp,Bu _,h0⟩,?_⟩;rintro i m σ H ⟨rfl,hi,p⟩;have q:=hl i σ H hi p
 by_cases aV:i < Y.length
 ·refine .inr ⟨⟨q,aV⟩,Pv<|i+1,λσ' H' p'=>⟨Y.length - (i+1),⋯,rfl,aV,p'⟩,λx H' y=>?_⟩;obtain⟨e,p',ep,y⟩:=y;subst e y;exact hs i p' σ _ ep p
 ·have e:i=Y.length:=⋯
  subst e;exact .inl ⟨⟨q,Am _⟩,hd σ H p⟩
end
end L2
namespace Q1
open PySem L2 Nt bD
open PyProof.Rows (sortedS)
open Classical
def ug:Sp:=λvs H Q _=>∃R a as n ss,vs=[.ref R,.ref a]/\al H R as n/\n.length<=60/\(ag n).length<=1000/\H a=some (Ls ss)/\∀ H',ah H H'->Q (.bl<|du n ss) H'
def dv(n:Net)(ss:Ñ):Prop:=du n ss=true/\∃ sd,bg n ss sd
noncomputable def Mk:Sp:=λvs H Q _=>∃R p as n ss,vs=[.ref R,.ref p]/\al H R as n/\aw n/\ce n/\0 < n.length/\n.length<=60/\(ag n).length<=60/\H p=some (Ls ss)/\cD ss/\∀ H',ah H H'->Q (.bl<|decide (dv n ss)) H'
variable{Z:Heap}{mg:Ò}{K:PySem.W.Frag}{ss:Ñ}{fd:FuncData}{f:Addr}
section
variable{P:Program}{w:World}
def q0o(n:Net)(ss:Ñ)(r:Str×List Str):du (n++[r]) ss=(du n ss && ((r.2.filter λz=>ss.contains z).length % 2 == 0)):=by
 unfold du;rw[List.all_append];simp
theorem q14{n:Net}{i:Nat}(hi:i < n.length)(h:¬((row n i).filter λz=>ss.contains z).length % 2=0):du n ss=false:=by
 cases e:du n ss with
 | false=>rfl
 | true=>
  unfold du at e;have:=De.mp e n[i]<|Bp hi;rw[JD,<- ic hi]at this;exact absurd this h
def q41{X:Cx}{a:Expr}{pos:Pos}{σ:St}{H:Hp}{Q:VK}(h:Ev X a σ H λx H1=>∃ k,mB X.K x H1 k/\Q (.bl (!k)) H1):Ev X (.UnaryOp .Not a pos) σ H Q:=by
 refine⟨λO s I=>PyProof.Rows.UnaryOp_<|aN (h.run O s I) λv s1 ⟨x,H1,I1,r1,k,tk,q1⟩=>?_⟩;exact PyProof.Rows.not_of<|aN (PD O s1 σ H1 x v (λc H2=>Q (.bl (!c)) H2) I1 r1 ⟨k,tk,q1⟩) λc s2 ⟨H2,I2,q2⟩=>⟨.bl (!c),H2,I2,rfl,q2⟩
def jD(ss:Ñ)(r:Str×List Str):Bool:=(r.2.filter λz=>ss.contains z).length % 2 == 0
def Ml:Sp:=λvs H Q _=>∃R a as n ss,vs=[.ref R,.ref a]/\al H R as n/\n.length<=60/\(ag n).length<=1000/\H a=some (Ls ss) /\
 ∀L zs H',ah H H'->H L=none->H' L=some (Ls zs)->zs.Perm ((n.filter λr=>!jD ss r).map (·.1))->Q (.ref L) H'
abbrev NR:Ñ:=["rows","some"]
abbrev Mm:Ñ:=["rows","some","point","ties"]
abbrev VI:Ñ:=["rows","some","point","ties","tie"]
def q75:ak NR ["rows","some"] (aP iF):=bZ
def x1y:ak NR ["rows","some"] (aP qD):=bZ
def xL:Mm.Nodup:=by decide +kernel
def x1v:VI.Nodup:=by decide +kernel
def x2b:Scope:=match gn iF with
 | [.Return (some<|.Call _ [.ListComp _ _ sc _] _ _) _]=>sc
 | _=>aP iF
def Mp:Scope:=relabel x2b<|PyProof.Rows.envOfC "odd_points" (aP iF) 0 0 .none
theorem x0y(F:bo K "odd_points" "odd_points" iF f fd)(T:Txt mg):aD P w K mg Z bz 1 f fd ["rows","some"] Ml:=by
 refine F.gc q75 λb0 H vs Q E hr h=>?_;obtain⟨R,a,as,n,ss,rfl,hR,hn,ht,ha,q⟩:=h;have b4:=hR.len;refine bQ<|bP vM T.sorted CW<|ai<|gu (aP iF) NR Mm 2 (eB bd)<|ae 0 ⟨R,rfl,⟨_,aj.of hR.lst⟩,λD hD=>?_⟩;refine jS (xs:=as.map λa=>V.ref a.1) (λi σ' H'=>(∃ v1 v2,σ'=[⇑R,⇑a]++[v1,v2])/\H' D=some (.lst<|((n.take i).filter λr=>!jD ss r).map λr=>V.str r.1)/\ah H H') ⟨⟨none,none,rfl⟩,av,aM hD _⟩ ?_ ?_ ?_
 ·rintro i σ' H' _ ⟨_,_,sm⟩;exact aj.of<|sm _ _ hR.lst
 ·rintro i x σ' H' hx ⟨⟨v1,v2,rfl⟩,eD,sm⟩;have hi:i < n.length:=by
   have:=(Ac.mp hx).1;rw[Aa]at this;omega
  obtain⟨b,eb,fA,et,el,er⟩:=(hR.same sm).at hi;rw[Ah,eb]at hx;cases hx;have jU:(row n i).length<=1000:=By (ju n i) ht;have me:n.take (i+1)=n.take i++[n[i]]:=by rw[Bx,Ab hi];rfl
  intro cl C' æ ç ex;refine jT rfl (aS.of et) (a8 2 xL<|a8 3 xL ?_);intro cl C' æ ç ex;refine hU<|cH jl<|aU cJ<|bP dH T.len DR<|ai<|gu Mp Mm VI 1 (eB bd)<|ae 3 ⟨b.2,rfl,⟨_,aj.of el⟩,λD2 jy=>?_⟩;refine qO (λz=>ss.contains z) (bI<|⋯) el jy (λcl C æ ç ex v v0 H' R' h=>a8 4 x1v h) (λcl C æ ç ex z ys T' h=>?_) (λcl C æ ç ex z H' R' h=>ae 4 h) ?_
  ·refine hU (cH lN<|ae 4<|ae 1 ⟨a,_,rfl,.inl (aj.of<|by rw[au<|bh (sm _ _ ha) jy];exact sm _ _ ha),rfl,kE _,_,rfl,?_⟩);show T' (j6 (.str z)<|ss.map V.str) _;rwa[kD]
  ·have nDD:=bh eD jy;have s2:=aM jy<|.lst<|((row n i).filter λz=>ss.contains z).map V.str;refine ax ⟨D2,_,rfl,.inl<|aj.of av,aE ⟨_,_,rfl,rfl,(by show(0:Int) < 2;decide),aE ⟨rfl,_,rfl,?_⟩⟩⟩;have ek:decide (V.int ((((((row n i).filter λz=>ss.contains z).map V.str).length:Nat):Int) % 2)=V.int 1) = !jD ss n[i]:=by
    unfold jD;rw[Aa,er]
    by_cases hc:(n[i].2.filter λz=>ss.contains z).length % 2=0
    ·rw[BR (λh=>by have:=V.int.inj h;omega),beq_iff_eq.mpr hc];rfl
    ·rw[BW (BZ V.int<|⋯),beq_eq_false_iff_ne.mpr hc];rfl
   show if decide (V.int ((((((row n i).filter λz=>ss.contains z).map V.str).length:Nat):Int) % 2)=V.int 1)=true then _ else _;rw[ek];refine iq (λc=>?_) λc=>?_
   ·intro cl C' æ ç ex;refine ae 2 ⟨_,s2 _ _ eD,?_,⟨_,_,rfl⟩,?_,cX (sm.trans s2) hD⟩
    ·rw[Aa];refine bI<|By (Cp ..) ?_;rw[Bh];omega
    ·rw[av,me,Ct,Aj];have:[n[i]].filter (λr=>!jD ss r)=[n[i]]:=by rw[TQ<|by simpa using c];rfl
     rw[this];rfl
   ·refine⟨⟨_,_,rfl⟩,?_,sm.trans s2⟩;rw[me,Ct];have:[n[i]].filter (λr=>!jD ss r)=[]:=by rw[List.filter_cons_of_neg<|by simpa using c];rfl
    rw[this,Be];exact s2 _ _ eD
 ·rintro σ' H' ⟨_,eD,sm⟩;rw[Aa,b4,Br]at eD;have e2:((n.filter λr=>!jD ss r).map λr=>V.str r.1)=(((n.filter λr=>!jD ss r).map (·.1)).map V.str):=by rw[Cg];rfl
  rw[e2]at eD;refine ax ⟨D,_,rfl,aj.of eD,?_,λl zs hl hp _=>?_⟩
  ·rw[Aa];exact QZ (Cp ..)<|⋯
  ·exact q l zs _ (sm.trans<|aM hl _) (jV sm hl) av hp
def q80(F:bo K "is_round" "is_round" qD f fd)(T:Txt mg)
  (G:aQ P w K mg Z 1 "odd_points" ["rows","some"] Ml):aD P w K mg Z bz 2 f fd ["rows","some"] ug:=by
 refine F.gc x1y λb0 H vs Q E hr h=>?_;obtain⟨R,a,as,n,ss,rfl,hR,hn,ht,ha,q⟩:=h;refine bQ<|q41<|bG G hr<|ai<|ae 0<|ai<|ae 1<|ax ⟨R,a,as,n,ss,rfl,hR,hn,ht,ha,λL zs H' s' nL eL hp=>?_⟩;refine⟨_,Or.inl ⟨_,aj.of eL,rfl⟩,?_⟩;have e:(!(!(zs.map V.str).isEmpty))=du n ss:=by
  rw[Bool.not_not];have e1:(zs.map V.str).isEmpty=(n.filter λr=>!jD ss r).isEmpty:=by
   have hl:=hp.length_eq;rw[Aa]at hl;have e0:∀{α β:Type} (x:List α) (y:List β),x.length=y.length->x.isEmpty=y.isEmpty:=λx y h=>by cases x <;> cases y <;> simp_all
   exact e0 _ _<|by rwa[Aa]
  rw[e1];unfold du;cases h1:(n.filter λr=>!jD ss r).isEmpty with
  | true=>
   have h2:=List.isEmpty_iff.mp h1;refine(De.mpr λr hr=>?_).symm;have:=Ec.mp h2 r hr
   simpa[jD]using this
  | false=>
   cases h3:n.all λr=>(r.2.filter λz=>ss.contains z).length % 2 == 0 with
   | false=>rfl
   | true=>
    exfalso
    have h4:(n.filter λr=>!jD ss r)=[]:=Ec.mpr λr hr=>by
     have:=De.mp h3 r hr;unfold jD;rw[this];simp
    rw[h4]at h1;cases h1
 rw[e];exact q H' s'
def Mq:ak ["rows","some"] ["rows","some"] (aP IC):=bZ
theorem x1n(F:bo K "is_double" "is_double" IC f fd)(T:Txt mg)
  (GQ:aQ P w K mg Z 3 "is_round" ["rows","some"] ug)
  (GI:aQ P w K mg Z 3 "side_of" ["rows","some"] LX) :
  aD P w K mg Z bz 4 f fd ["rows","some"] Mk:=by
 refine F.gc Mq λb0 H vs Q E hr h=>?_;obtain⟨R,p,as,n,ss,rfl,hR,hT,xJ,h0,hn,iN,hp,so,q⟩:=h;refine bQ (F6<|bG GQ hr<|ai<|ae 0<|ai<|ae 1<|ax ⟨R,p,as,n,ss,rfl,hR,hn,⋯,hp,λH1 s1=>⟨_,rfl,?_⟩⟩);cases xl:du n ss with
 | false=>
  rw[BK<|∅];have e:decide (dv n ss)=false:=BR λk=>by rw[k.1]at xl;cases xl
  rw[<- e];exact q H1 s1
 | true=>
  rw[BP rfl];refine F7<|hG Y6<|bG GI hr<|ai<|ae 0<|ai<|ae 1<|ax ⟨R,p,as,n,ss,rfl,hR.same s1,hT,xJ,h0,hn,iN,s1 _ _ hp,so,λL sd H2 s2 n2 e2 nR=>vi ⟨rfl,?_⟩,λH2 s2 Mr=>vi ⟨rfl,?_⟩⟩
  ·have e:decide (dv n ss)=true:=BW ⟨xl,sd,nR⟩;rw[BR (λk=>by cases k),Gx,<- e];exact q H2<|s1.trans s2
  ·have e:decide (dv n ss)=false:=BR λk=>by
    obtain⟨_,sd,nR⟩:=k;exact Mr sd nR
   rw[BW rfl,Eb,<- e];exact q H2<|s1.trans s2
open PyProof.Rows (sortedS)
def Mt:Sp:=λvs H Q _=>∃a b xs ys,vs=[.ref a,.ref b]/\H a=some (Ls xs)/\H b=some (Ls ys)/\xs.length+ys.length < 64/\xs.Nodup/\ys.Nodup /\
 ∀ l ss H',ah H H'->H l=none->H' l=some (Ls ss)->cD ss->(∀ z,z∈ss↔(if z∈xs then z∉ys else z∈ys))->Q (.ref l) H'
abbrev VM:Ñ:=["_law_rows","_law_some","_law_point","_law_names_here"]
abbrev xM:Ñ:=["_law_rows","_law_some","_law_point","_law_names_here","_law_tie"]
def xN:ak VM ["_law_rows","_law_some"] (aP z8):=bZ
def x2m:xM.Nodup:=by decide +kernel
theorem q64(F:bo K "_law_even" "_law_even" z8 f fd)(T:Txt mg):aD P w K mg Z bz 1 f fd ["_law_rows","_law_some"] ug:=by
 refine F.gc xN λb0 H vs Q E hr h=>?_;obtain⟨R,a,as,n,ss,rfl,hR,hn,ht,ha,q⟩:=h;have nd:=xN.nd;have b4:=hR.len;refine lS<|ae 0 ⟨R,rfl,⟨_,aj.of hR.lst⟩,lT (xs:=as.map λa=>V.ref a.1) (λi σ H3=>ah H H3/\du (n.take i) ss=true/\∃ u v,σ=[⇑R,⇑a,u,v]) ⟨ah.refl H,rfl,_,_,rfl⟩ ?_ ?_ ?_⟩
 ·rintro i σ H3 _ ⟨sm,_,_,_,_⟩;exact aj.of<|sm _ _ hR.lst
 ·rintro i x σ H3 hx ⟨sm,ev,u,v,rfl⟩;have hi:i < n.length:=by
   have:=(Ac.mp hx).1;rw[Aa]at this;omega
  obtain⟨b,eb,fA,et,el,er⟩:=(hR.same sm).at hi;rw[Ah,eb]at hx;cases hx;have jU:(row n i).length<=1000:=By (ju n i) ht;refine jT rfl (aS.of et) (a8 2 nd<|a8 3 nd ?_);refine RF (λk H4=>ah H3 H4/\k=decide (((row n i).filter λz=>ss.contains z).length % 2=1)) (λσ' H'=>ah H H'/\du (n.take<|i+1) ss=true/\∃ u v,σ'=[⇑R,⇑a,u,v]) ?_ ?_ ?_ λσ' H' h=>a7 h
  ·refine cH jl<|aU cJ<|bP dH T.len DR<|ai<|gu (aP z8) VM xM 1 (eB bd)<|ae 3 ⟨b.2,rfl,⟨_,aj.of el⟩,λD hD=>?_⟩;refine qO (σ:=[⇑R,⇑a,some<|.str n[i].1,some<|.ref b.2]) (λz=>ss.contains z) (bI<|⋯) el hD (λcl C æ ç ex v v0 H' R' h=>a8 4 x2m h) (λcl C æ ç ex z ys T' h=>?_) (λcl C æ ç ex z H' R' h=>ae 4 h) ?_
   ·refine hU (cH lN<|ae 4<|ae 1 ⟨a,_,rfl,.inl (aj.of<|by rw[au<|bh (sm _ _ ha) hD];exact sm _ _ ha),rfl,kE _,_,rfl,?_⟩);show T' (j6 (.str z)<|ss.map V.str) _;rwa[kD]
   ·refine ax ⟨D,_,rfl,.inl<|aj.of av,aE ⟨_,_,rfl,rfl,(by show(0:Int) < 2;decide),aE ⟨rfl,_,rfl,aM hD _,?_⟩⟩⟩;rw[Aa];refine decide_eq_decide.mpr ⟨λh=>?_,λh=>?_⟩
    ·have:=V.int.inj h;omega
    ·have:((((row n i).filter λz=>ss.contains z).length:Int)) % 2=1:=⋯
     exact BZ V.int this
  ·rintro H4 ⟨s4,e⟩;have hb:=BX e.symm;refine bQ<|sX ?_;rw[<- q14 (ss:=ss) hi<|⋯];exact q H4<|sm.trans s4
  ·rintro H4 ⟨s4,e⟩;have hb:=GJ e.symm;refine a7 ⟨sm.trans s4,?_,_,_,rfl⟩;rw[Bx,Ab hi];show du (n.take i++[n[i]]) ss=true;rw[q0o,ev,<- ic hi,Gz,JD];omega
 ·rintro σ H3 ⟨sm,ev,u,v,rfl⟩;rw[Aa,b4,Br]at ev;refine bQ<|sX ?_;rw[<- ev];exact q H3 sm
abbrev Mu:Ñ:=["_law_one","_law_other_here","_law_first","_law_second"]
abbrev rP:Ñ:=["_law_one","_law_other_here","_law_first","_law_second","_law_x"]
def xO:ak Mu ["_law_one","_law_other_here"] (aP vV):=bZ
def VO:rP.Nodup:=by decide +kernel
theorem q7v(F:bo K "_law_sum" "_law_sum" vV f fd)(T:Txt mg):aD P w K mg Z bz 1 f fd ["_law_one","_law_other_here"] Mt:=by
 refine F.gc xO λb0 H vs Q E hr h=>?_;obtain⟨a,b,xs,ys,rfl,ha,hb,hl,nx,ny,q⟩:=h;have nd:=xO.nd;refine tj 2 (aP vV) Mu rP 1 nd (eB bd)<|ae 0 ⟨a,rfl,⟨_,aj.of ha⟩,λD hD=>?_⟩;refine qO (λz=>!ys.contains z) (bI<|⋯) ha hD (λcl C s0 H0 ex v v0 H' R' h=>a8 4 VO h) (λcl C s0 H0 ex z zs T' h=>hU<|cH E4<|ae 4<|ae 1 ⟨b,_,rfl,.inl (aj.of<|by rwa[au<|bh hb hD]),rfl,kE _,_,rfl,?_⟩) (λcl C s0 H0 ex z H' R' h=>ae 4 h) ?_
 ·show T' (!j6 (.str z) (ys.map V.str)) _;rwa[kD]
 have s1:=aM hD<|.lst<|(xs.filter λz=>!ys.contains z).map V.str;have eD:(upd H D<|.lst<|(xs.filter λz=>!ys.contains z).map V.str) D=some (Ls<|xs.filter λz=>!ys.contains z):=av;generalize upd H D (.lst<|(xs.filter λz=>!ys.contains z).map V.str)=H1 at s1 eD;have ha1:=s1 _ _ ha;have mZ:=s1 _ _ hb;refine tj 3 (aP vV) Mu rP 1 nd (eB bd)<|ae 1 ⟨b,rfl,⟨_,aj.of mZ⟩,λD2 jy=>?_⟩;refine qO (λz=>!xs.contains z) (bI<|⋯) mZ jy (λcl C s0 H0 ex v v0 H' R' h=>a8 4 VO h) (λcl C s0 H0 ex z zs T' h=>hU<|cH E4<|ae 4<|ae 0 ⟨a,_,rfl,.inl (aj.of<|by rwa[au<|bh ha1 jy]),rfl,kE _,_,rfl,?_⟩) (λcl C s0 H0 ex z H' R' h=>ae 4 h) ?_
 ·show T' (!j6 (.str z) (xs.map V.str)) _;rwa[kD]
 have s2:=aM jy<|.lst<|(ys.filter λz=>!xs.contains z).map V.str;have pJ:(upd H1 D2<|.lst<|(ys.filter λz=>!xs.contains z).map V.str) D2=some (Ls<|ys.filter λz=>!xs.contains z):=av;have eD:=s2 _ _ eD;generalize upd H1 D2 (.lst<|(ys.filter λz=>!xs.contains z).map V.str)=H2 at s2 pJ eD;have f1:=Cp (λz=>!ys.contains z) xs;have f2:=Cp (λz=>!xs.contains z) ys;have Mv:((xs.filter λz=>!ys.contains z)++(ys.filter λz=>!xs.contains z)).Nodup:=Cj.mpr ⟨nx.filter _,ny.filter _,λx hx y hy e=>by
  rw[Bg]at hx hy;subst e;have:=hy.2;simp[hx.1]at this⟩
 have mem:∀ z,z∈(xs.filter λz=>!ys.contains z)++(ys.filter λz=>!xs.contains z)↔(if z∈xs then z∉ys else z∈ys):=λz=>by
  rw[An,Bg,Bg]
  by_cases q1:z∈xs <;> by_cases q2:z∈ys <;> simp[q1,q2]
 refine bQ<|bP vM T.sorted CW<|ai<|aU yW<|ae 2<|ae 3 ⟨D,D2,_,_,rfl,rfl,eD,pJ,?_,λl g9=>?_⟩
 ·rw[Aa,Aa];exact small<|⋯
 rw[<- Aj];generalize (xs.filter λz=>!ys.contains z)++(ys.filter λz=>!xs.contains z)=L at Mv mem g9 ⊢;have s3:=s2.trans<|aM g9<|Ls L;have lL:L.length < 64:=by
  have:=aI Mv λz hz=>by
   have:=(mem z).mp hz;rw[An]
   by_cases k:z∈xs
   ·exact .inl k
   ·rw[BK k]at this;exact .inr this
  rw[Ad]at this;omega
 refine ax ⟨l,L,rfl,aj.of av,lL,λl4 ss uh db gP=>?_⟩;have s4:=s1.trans s3;exact q l4 ss _ (s4.trans<|aM uh _) (s4.free uh) av (tX gP<|db.nodup_iff.mpr Mv) λz=>by rw[db.mem_iff];exact mem z
end
end Q1
namespace Nt
open PySem L2
theorem VQ(x:Str):∀{sd},cD sd->∃ fD,cD fD/\∀ y,y∈fD↔y=x\/y∈sd
 | [],_=>⟨[x],TJ _ _,λy=>by simp⟩
 | a :: r,h=>by
  have h':=Do.mp h
  by_cases q:x.cps.toList < a.cps.toList
  ·refine⟨x :: a :: r,Do.mpr ⟨λy hy=>?_,h⟩,λy=>by simp⟩
   rcases Al.mp hy with e | e
   ·rwa[e]
   ·exact Gm q<|h'.1 y e
  ·rcases Gq.mp (List.not_lt.mp q)with q2 | q2
   ·obtain⟨fD,s1,s2⟩:=VQ x h'.2;refine⟨a :: fD,Do.mpr ⟨λy hy=>?_,s1⟩,λy=>?_⟩
    ·rcases (s2 y).mp hy with e | e
     ·rwa[e]
     ·exact h'.1 y e
    ·rw[Al,s2,Al]
     constructor
     ·rintro (e | e | e)
      ·exact .inr<|.inl e
      ·exact .inl e
      ·exact .inr<|.inr e
     ·rintro (e | e | e)
      ·exact .inr<|.inl e
      ·exact .inl e
      ·exact .inr<|.inr e
   ·refine⟨a :: r,h,λy=>?_⟩;have:a=x:=bK.fX q2;subst this;simp
theorem Mw:∀ L:Ñ,∃ sd,cD sd/\∀ y,y∈sd↔y∈L
 | []=>⟨[],List.Pairwise.nil,λ_=>WM⟩
 | x :: L=>by
  obtain⟨sd,h1,h2⟩:=Mw L;obtain⟨fD,h3,h4⟩:=VQ x h1;exact⟨fD,h3,λy=>by rw[h4,h2,Al]⟩
abbrev vB(b:Bool):V:= .int (if b then 1 else 0)
variable{b:Bool}
def Mx{c:Bool}(h:vB b=vB c):b=c:=by
 cases b <;> cases c <;> first | rfl | (exact absurd (V.int.inj h)<|∅)
structure gC(n:Net)(ss:Ñ)(Y:List<|Key×V):Prop where
 de:(Y.map (·.1)).Nodup
 num:∀ k∈Y.map (·.1),∃ r:Nat,k=Sum.inl (r:Int)/\r < n.length
 val:∀(r:Nat) v,ao Y (Sum.inl (r:Int))=some v->∃ b,v=vB b/\Way (dE n ss) (bn n) (aH n r) b
 fst:ao Y (Sum.inl ((0:Nat):Int))=some (vB false)
variable{ss:Ñ}{n:Net}
theorem gC.start(h0:0 < n.length):gC n ss (putK [] (Sum.inl 0)<|.int 0):=by
 have hv:∀ r:Nat,ao (putK ([]:List<|Key×V) (Sum.inl 0)<|.int 0) (Sum.inl (r:Int))=if r=0 then some (.int 0)else none:=λr=>by
  rw[dC]
  by_cases h:r=0
  ·subst h;rfl
  ·rw[BK h,BK λq=>h<|by have:=Sum.inl.inj q;omega];rfl
 refine⟨by show([Sum.inl 0]:List Key).Nodup;simp,λk hk=>⟨0,by simpa[putK]using hk,h0⟩,λr v h=>?_,(hv 0).trans<|BP rfl⟩;rw[hv]at h
 by_cases c:r=0
 ·rw[BP c]at h;cases h;subst c;exact⟨false,rfl,.here⟩
 ·rw[BK c]at h;cases h
variable{Y:List (Key×V)}
def gC.len(I:gC n ss Y):Y.length<=n.length:=by
 have:=aI I.de λk hk=>by
  obtain⟨r,e,h⟩:=I.num k hk;exact Ai.mpr ⟨r,Bc.mpr h,e.symm⟩
 rwa[Aa,Aa,Cy]at this
variable{z:Str}{e:End}
def gC.way(I:gC n ss Y)(hz:aJ n e=some z)(hb:ao Y (Sum.inl (e.1:Int))=some (vB b)):Way (dE n ss) (bn n) (aH n (other n e).1) (b != decide (z∈ss)):=by
 obtain⟨b',q,w⟩:=I.val e.1 _ hb;have:=Mx q;subst this
 rcases (wC).to e z hz with t | t
 ·exact .there w t
 ·exact .back w t
def gC.add(T:aw n)(I:gC n ss Y)(hz:aJ n e=some z)(hb:ao Y (Sum.inl (e.1:Int))=some (vB b)) (hn:ao Y (Sum.inl ((other n e).1:Int))=none) :
  gC n ss (putK Y (Sum.inl ((other n e).1:Int))<|vB<|b != decide (z∈ss))/\(putK Y (Sum.inl ((other n e).1:Int))<|vB<|b != decide (z∈ss)).length=Y.length+1:=by
 have w:=I.way hz hb;have aV:=pj T hz;have CB:=q2p hn;refine⟨⟨?_,λk hk=>?_,λr v hv=>?_,?_⟩,?_⟩
 ·rw[tV,BK CB];exact lQ I.de CB
 ·rw[tV,BK CB]at hk
  rcases An.mp hk with hk | hk
  ·exact I.num k hk
  ·exact⟨_,Af.mp hk,aV⟩
 ·rw[dC]at hv
  by_cases q:r=(other n e).1
  ·rw[BP<|by rw[q]]at hv;cases hv;exact⟨_,rfl,by rwa[q]⟩
  ·rw[BK<|x1l q]at hv;exact I.val r v hv
 ·have hv:=I.fst;rwa[dC,BK λq=>by rw[q,hn]at hv;cases hv]
 ·have:=BZ List.length<|tV Y (Sum.inl ((other n e).1:Int))<|vB<|b != decide (z∈ss);rwa[BK CB,Ad,Aa,Aa]at this
def rQ(n:Net)(Y:List<|Key×V)(z:Str):Prop:=∀ e,aJ n e=some z->ao Y (Sum.inl (e.1:Int))≠none->ao Y (Sum.inl ((other n e).1:Int))≠none
def gC.all(T:aw n)(hg:ce n)(h0:0 < n.length)(hn:(n.map (·.1)).Nodup)(I:gC n ss Y)(hs:∀ z∈ag n,rQ n Y z):∀ r,r < n.length->∃ b,ao Y (Sum.inl (r:Int))=some (vB b):=λr hr=>by
 have one:∀ i,ao Y (Sum.inl ((i:Nat):Int))≠none->∃ b,ao Y (Sum.inl (i:Int))=some (vB b):=λi hi=>by
  obtain⟨v,hv⟩:=Option.ne_none_iff_exists'.mp hi;obtain⟨b,e,_⟩:=I.val i v hv;exact⟨b,by rw[hv,e]⟩
 refine one r ?_;have:=hg (λx=>∃ i,i < n.length/\aH n i=x/\ao Y (Sum.inl ((i:Nat):Int))≠none) ⟨n[0],Bp h0,0,h0,gW h0,by rw[I.fst];exact λz=>nomatch z⟩ (λr hr s gy t tr ts ⟨i,hi,e,hb⟩=>?_) n[r]<|Bp hr
 ·obtain⟨i,hi,e,hb⟩:=this;rw[<- gW hr]at e;rwa[<- tZ hn hi hr e]
 ·obtain⟨k,hk,rfl⟩:=Co.mp hr;obtain⟨j,hj,rfl⟩:=Co.mp gy;rw[<- gW hk]at e;have:=tZ hn hi hk e;subst this;obtain⟨p,hp⟩:=Bj tr;obtain⟨q,hq⟩:=Bj ts;have h1:aJ n (i,p)=some t:=by show(row n i)[p]?=_;rwa[ic hi]
  have h2:aJ n (j,q)=some t:=by show(row n j)[q]?=_;rwa[ic hj]
  refine⟨j,hj,gW hj,?_⟩
  rcases (iH T h1).mp h2 with e | e
  ·have:j=i:=BZ (·.1) e;subst this;exact hb
  ·have:=hs t (eG h1) (i,p) h1 hb;rwa[<- e]at this
def gC.bad(T:aw n)(I:gC n ss Y){c:Bool}(hz:aJ n e=some z)(hb:ao Y (Sum.inl (e.1:Int))=some (vB b)) (hc:ao Y (Sum.inl ((other n e).1:Int))=some (vB c))
  (bA:(b != c)≠decide (z∈ss)):∀ sd,¬ bg n ss sd:=λsd hs=>by
 obtain⟨c',q,w⟩:=I.val _ _ hc;have:=Mx q;subst this;have e1:=A2 T wC hs w;have e2:=A2 T wC hs<|I.way hz hb;rw[e1]at e2;apply bA;rw[e2];cases b <;> cases decide (z∈ss) <;> rfl
def gC.whole(T:aw n)(hn:(n.map (·.1)).Nodup)(h0:0 < n.length)(I:gC n ss Y)(ha:∀ r,r < n.length->∃ b,ao Y (Sum.inl (r:Int))=some (vB b))(rM:∀ z∈ss,z∈ag n)
  (aF:∀ z∈ag n,∃ e b c,aJ n e=some z/\ao Y (Sum.inl (e.1:Int))=some (vB b)/\ao Y (Sum.inl ((other n e).1:Int))=some (vB c)/\(b != c)=decide (z∈ss)):∃ sd,bg n ss sd:=by
 obtain⟨sd,h1,h2⟩:=Mw<|((List.range n.length).filter λ(r:Nat)=>decide (ao Y (Sum.inl (r:Int))=some (vB true))).map<|aH n;have mem:∀ r,r < n.length->∀ b,ao Y (Sum.inl (r:Int))=some (vB b)->decide (aH n r∈sd)=b:=λr hr b hb=>by
  have:aH n r∈sd↔b=true:=by
   rw[h2,Ai]
   constructor
   ·rintro ⟨i,hi,e⟩;rw[Bg,Bc]at hi;have:=tZ hn hi.1 hr e;subst this;have h3:=BX hi.2;rw[hb]at h3;exact Mx<|Option.some.inj h3
   ·intro e;subst e;exact⟨r,Bg.mpr ⟨Bc.mpr hr,BW hb⟩,rfl⟩
  by_cases q:b=true
  ·rw[q];exact BW<|this.mpr q
  ·rw[Bool.not_eq_true]at q;rw[q];exact BR λk=>by rw[this.mp k]at q;cases q
 refine⟨sd,h1,λx hx=>?_,λhx=>?_,λz=>?_⟩
 ·obtain⟨i,hi,rfl⟩:=Ai.mp<|(h2 x).mp hx;exact iI<|Bc.mp (Bg.mp hi).1
 ·have:=mem 0 h0 false I.fst;exact absurd hx<|GJ this
 ·by_cases hz:z∈ag n
  ·obtain⟨e,b,c,he,hb,hc,hbc⟩:=aF z hz;rw[kS T he,mem _ (cS he) b hb,mem _ (pj T he) c hc,hbc];exact⟨λh=>BW h,λh=>BX h⟩
  ·exact⟨λh=>absurd (rM z h) hz,λh=>absurd (wB h) hz⟩
end Nt
namespace L2
open PySem PySem.Spec PyProof.Rows
section
variable{X:Cx}{σ:St}{H:Hp}{D:Ends}{body rest:Õ}{a b:Expr}
def q7b(i j:Nat){x y:Str}{px py pt pos:Pos}{kt k2:Nat}{pU:Pos}(hN:X.N.Nodup)(dQ:i≠j) (h:Ea X [a,b] σ H λvs H1=>∃ v w,vs=[v,w]/\Run X rest D ((σ.set i<|some v).set j<|some w) H1)
  (hi:X.N[i]?=some x:=by rfl) (hj:X.N[j]?=some y:=by rfl) (hx:X.env.scope.names.lookup x=some .local:=by rfl) (hy:X.env.scope.names.lookup y=some .local:=by rfl) (hc:X.calm=true:=by rfl)
  (hw:swappedStores [.Tuple [.Name x px,.Name y py] kt pt] (.Tuple [a,b] k2 pU) X.env=pure (some [x,y]):=by rfl)
  (hs:swapsWithSole [.Tuple [.Name x px,.Name y py] kt pt] (.Tuple [a,b] k2 pU) pos.line X.env=pure false:=by rfl) :
  Run X (.Assign [.Tuple [.Name x px,.Name y py] kt pt] (.Tuple [a,b] k2 pU) pos :: rest) D σ H:=
 jL (YD hc hN hi hj dQ hx hy gL hw hs) h
end
end L2
namespace Q1
open PySem L2 Nt bD
open PyProof.Rows (sortedS)
structure lj(H:Hp)(d:Addr)(o:Obj)(n:Net)(ks:Ñ):Prop where
 dict:∃ Y,H d=some (.bB o<|.dK Y)/\Y.map (·.1)=ks.map Sum.inr/\∀ z∈ag n,∃ a ts,ao Y (Sum.inr z)=some (.ref a)/\H a=some (.lst<|ts.map V.ref)/\Pd H ts (pos n z)
 nodup:ks.Nodup
 mem:∀ z,z∈ks↔z∈ag n
def q50{n:Net}(T:aw n){z:Str}(h:z∈ag n):∃ x,aJ n x=some z/\aJ n (other n x)=some z/\pos n z=[x,other n x]:=by
 rw[eV]at h;obtain⟨e,he⟩:=Es _ h;obtain⟨a,b,hp,fU,_⟩:=qB T<|aK.mp he;have ha:=aK.mp (by rw[hp];exact Ag ..);have hb:aJ n b=some z:=aK.mp (by rw[hp];simp);have e:b=other n a:=by
  rcases (iH T ha).mp hb with q | q
  ·exact absurd q.symm fU
  ·exact q
 subst e;exact⟨a,ha,hb,hp⟩
def My:Sp:=λvs H Q _=>∃R d p as n ss ks ob,vs=[.ref R,.ref d,.ref p]/\al H R as n/\lj H d ob n ks/\aw n/\ce n/\(n.map (·.1)).Nodup/\0 < n.length/\n.length<=60/\H p=some (Ls ss)/\(∀ z∈ss,z∈ag n) /\
 (∀L H',ah H H'->(∃ sd,bg n ss sd)->Q (.ref L) H')/\(∀ H',ah H H'->(∀ sd,¬ bg n ss sd)->Q .non H')
variable{Z:Heap}{mg:Ò}{K:PySem.W.Frag}{ks:Ñ}{iQ:List (Key×V)}{fd:FuncData}{f:Addr}
section
variable{P:Program}{w:World}
abbrev VS:Ñ:=["_law_rows","_law_seats_here","_law_some","_law_side_here","_law_more","_law_tie","_law_one","_law_other_here"]
abbrev xP:Ñ:=["_law_rows","_law_seats_here","_law_some","_law_side_here","_law_more","_law_tie","_law_one","_law_other_here","_law_r"]
def xQ:ak VS ["_law_rows","_law_seats_here","_law_some"] (aP z7):=bZ
def x2t:xP.Nodup:=by decide +kernel
def VU(ek:iQ.map (·.1)=ks.map Sum.inr){i:Nat}{pr:Key×V}(h:iQ[i]?=some pr):∃ z,ks[i]?=some z/\pr.1=Sum.inr z:=by
 have e2:(iQ.map (·.1))[i]?=some pr.1:=by rw[Ah,h];rfl
 rw[ek,Ah,Ar]at e2;obtain⟨z,hz,e⟩:=e2;exact⟨z,hz,e.symm⟩
def q4z(b c:Bool):((if b then(1:Int)else 0)+(if c then 1 else 0)) % 2=if(b != c)then 1 else 0:=by cases b <;> cases c <;> decide
theorem q1x(F:bo K "_law_side" "_law_side" z7 f fd)(T:Txt mg):aD P w K mg Z bz 1 f fd ["_law_rows","_law_seats_here","_law_some"] My:=by
 refine F.gc xQ λb0 H vs Q E hr h=>?_;obtain⟨R,d,p,as,n,ss,ks,ob,rfl,hR,hS,hT,xJ,CD,h0,hn,hp,rM,q1,q2⟩:=h;have nd:=xQ.nd;have cj:=hr.u1;have b4:=hR.len;obtain⟨iQ,ed,ek,ev⟩:=hS.dict;have xR:∀{H':Hp} {z:Str},ah H H'->z∈ag n->∃ x a tx ty,aJ n x=some z/\aJ n (other n x)=some z/\aX H' d (.str z) (⇑a)/\H' a=some (.lst [.ref tx,.ref ty])/\H' tx=some (Tp x)/\H' ty=some (Tp<|other n x):=λ{H' z} sm hz=>by
  obtain⟨x,nS,lg,hp⟩:=q50 hT hz;obtain⟨a,ts,v1,v2,v3⟩:=ev z hz;rw[hp]at v3;cases v3 with
  | cons x1 v3=>
  cases v3 with
  | cons y1 v3=>
  cases v3;rename_i tx ty;exact⟨x,a,tx,ty,nS,lg,by rw[<- v1];exact .inl ⟨iQ,Sum.inr z,.inr ⟨ob,sm _ _ ed⟩,rfl,rfl⟩,sm _ _ v2,sm _ _ x1,sm _ _ y1⟩
 refine aT 3 nd<|Vn cj λd2 hd2=>aE<|aE ⟨_,bX.k (k:=Sum.inl 0) av<|bI<|Bu _,?_⟩;rw[pO];refine aT 4 nd<|sX ?_;have s0:ah H (upd H d2<|.dK<|putK [] (Sum.inl 0)<|.int 0):=aM hd2 _;have e0:(upd H d2<|.dK<|putK [] (Sum.inl 0)<|.int 0) d2=some (.dK<|putK [] (Sum.inl 0)<|.int 0):=av;generalize upd H d2 (.dK<|putK [] (Sum.inl 0)<|.int 0)=H0 at s0 e0;refine vP (λm σ H'=>∃Y mo u5 u6 u7,ah H H'/\H' d2=some (.dK Y)/\gC n ss Y/\(mo=false->∀ z∈ag n,rQ n Y z)/\m=2 * (n.length - Y.length)+(if mo then 1 else 0) /\
   σ=[⇑R,⇑d,⇑p,⇑d2,some<|.bl mo,u5,u6,u7])
  ⟨_,true,_,_,_,s0,e0,gC.start h0,λz=>(nomatch z),rfl,rfl⟩ ?_
 rintro m σ H2 ⟨Y,mo,u5,u6,u7,s2,e2,I,sh,em,rfl⟩;refine iu<|ae 4 ⟨mo,rfl,?_⟩;cases mo with
 | true=>
  rw[BP rfl];refine aT 4 nd<|sX ?_;refine sZ (VC bd)<|ae 1 ⟨d,ob,iQ,rfl,s2 _ _ ed,VE (λi σ H'=>∃cO mo u5 u6 u7,ah H H'/\H' d2=some (.dK cO)/\gC n ss cO/\Y.length<=cO.length/\(mo=true->Y.length < cO.length)/\(mo=false->cO=Y/\∀ j,j < i->∀ z,ks[j]?=some z->rQ n Y z) /\
    σ=[⇑R,⇑d,⇑p,⇑d2,some<|.bl mo,u5,u6,u7]) ⟨Y,false,_,_,_,s2,e2,I,Am _,λz=>(nomatch z),λ_=>⟨rfl,λj hj=>absurd hj<|Eh _⟩,rfl⟩ ?_ ?_ ?_⟩
  ·rintro i σ H' _ ⟨cO,mo,v5,v6,v7,s3,_⟩;exact s3 _ _ ed
  ·rintro i pr σ H3 nQ ⟨cO,mo,v5,v6,v7,s3,e3,I3,hl,Mz,MA,rfl⟩;obtain⟨z,hz,MB⟩:=VU ek nQ;rw[MB];have cU:=(hS.mem z).mp<|At hz;obtain⟨x,a,tx,ty,nS,lg,dg,ea,MC,MD⟩:=xR s3 cU;refine a8 5 nd<|aT 6 nd<|bb cv<|bb cL<|eU cj<|ae 1<|ae 5 ⟨d,.ref a,rfl,dg,aE ⟨a,_,_,.ref tx,rfl,rfl,aj.of ea,rfl,aE ⟨tx,_,_,.int (x.1:Int),rfl,rfl,aS.of MC,rfl,?_⟩⟩⟩;refine aT 7 nd<|bb cv<|bb cL<|eU cj<|ae 1<|ae 5 ⟨d,.ref a,rfl,dg,aE ⟨a,_,_,.ref ty,rfl,rfl,aj.of ea,rfl,aE ⟨ty,_,_,.int ((other n x).1:Int),rfl,rfl,aS.of MD,rfl,?_⟩⟩⟩;refine Ii (ao cO (Sum.inl (x.1:Int))=none/\ao cO (Sum.inl ((other n x).1:Int))≠none) (ao cO (Sum.inl (x.1:Int))=none->ao cO (Sum.inl ((other n x).1:Int))=none)
    (λσ' H'=>H'=H3/\∃ e,aJ n e=some z/\aJ n (other n e)=some z/\other n (other n e)=e/\(ao cO (Sum.inl (e.1:Int))=none->ao cO (Sum.inl ((other n e).1:Int))=none)/\σ'=[⇑R,⇑d,⇑p,⇑d2,some<|.bl mo,some<|.str z,some<|.int (e.1:Int),some<|.int ((other n e).1:Int)]) (λT' qq=>?_) (λc=>?_) (λc=>a7 ⟨rfl,x,nS,lg,(dk hT nS).2.1,c,rfl⟩) ?_
   ·refine mQ<|zg<|Io cj<|ae 6<|ae 3 ⟨d2,_,rfl,aX.k (k:=Sum.inl (x.1:Int)) e3,?_⟩;cases hg:ao cO (Sum.inl (x.1:Int)) with
    | none=>
     refine cz ?_;refine zh<|zH cj<|ae 7<|ae 3 ⟨d2,_,rfl,aX.k (k:=Sum.inl ((other n x).1:Int)) e3,?_⟩;cases rR:ao cO (Sum.inl ((other n x).1:Int)) with
     | none=>exact qq false (λz=>nomatch z) λ_ _=>rR
     | some v=>exact qq true (λ_=>⟨hg,by rw[rR];exact λz=>nomatch z⟩) λz=>nomatch z
    | some v=>
     refine bH ?_;exact qq false (λz=>nomatch z) λ_ k=>by rw[hg]at k;cases k
   ·refine q7b 6 7 nd ∅<|ai<|ae 7<|ai<|ae 6<|ax ⟨_,_,rfl,?_⟩;have oo:=(dk hT nS).2.1;exact a7 ⟨rfl,other n x,lg,by rwa[oo],by rw[oo],λk=>absurd k c.2,by rw[oo];rfl⟩
   rintro σ' H' ⟨rfl,e,qW,he2,oo,bA,rfl⟩;refine vq (ao cO (Sum.inl (e.1:Int))≠none/\ao cO (Sum.inl ((other n e).1:Int))=none) (¬(ao cO (Sum.inl (e.1:Int))≠none/\ao cO (Sum.inl ((other n e).1:Int))=none)) (λT' qq=>?_) (λc=>?_) λc=>?_
   ·refine mQ<|zg<|zH cj<|ae 6<|ae 3 ⟨d2,_,rfl,aX.k (k:=Sum.inl (e.1:Int)) e3,?_⟩;cases hg:ao cO (Sum.inl (e.1:Int)) with
    | some v=>
     refine cz ?_;refine zh<|Io cj<|ae 7<|ae 3 ⟨d2,_,rfl,aX.k (k:=Sum.inl ((other n e).1:Int)) e3,?_⟩;cases rR:ao cO (Sum.inl ((other n e).1:Int)) with
     | none=>exact qq true (λ_=>⟨by rw[hg];exact λz=>(nomatch z),rR⟩) λz=>nomatch z
     | some v=>exact qq false (λz=>nomatch z) λ_ k=>by rw[rR]at k;cases k.2
    | none=>
     refine bH ?_;exact qq false (λz=>nomatch z) λ_ k=>k.1 hg
   ·obtain⟨c1,c2⟩:=c;obtain⟨v,hv⟩:=Option.ne_none_iff_exists'.mp c1;obtain⟨b,rfl,wy⟩:=I3.val e.1 v hv;obtain⟨I4,uh⟩:=I3.add hT qW hv c2;have lk:=I3.len;refine tG cj (aU cJ<|aU fj<|eU cj<|ae 3<|ae 6 ⟨d2,vB b,rfl,by rw[<- hv];exact aX.k (k:=Sum.inl (e.1:Int)) e3,?_⟩);refine mP Il T.m4 JZ<|ai<|hG lN<|ae 5<|ae 2 ⟨p,_,rfl,.inl<|aj.of<|s3 _ _ hp,rfl,kE _,?_⟩;refine ax ⟨_,rfl,_,_,rfl,rfl,aE ⟨_,_,rfl,rfl,(by show(0:Int) < 2;decide),?_⟩⟩;rw[kD,rL];have e9:vB (b != decide (z∈ss)) = .int (((if b then(1:Int)else 0)+(if decide (z∈ss)then 1 else 0)) % 2):=BZ V.int (q4z b<|decide (z∈ss)).symm;rw[e9]at I4 uh;refine ae 3 (ae 7 ⟨d2,_,rfl,bX.k (k:=Sum.inl ((other n e).1:Int)) e3 (bI<|⋯),?_⟩);refine aT 4 nd<|sX ?_;refine a7<|a7 ⟨_,true,_,_,_,cX s3 hd2,av,I4,By (Nat.le_succ_of_le hl)<|WD uh.symm,λ_=>Bf (Nat.lt_succ_of_le hl)<|WD uh.symm,λz=>(nomatch z),rfl⟩
   ·refine a7<|a7 ⟨cO,mo,_,_,_,s3,e3,I3,hl,Mz,λq=>?_,rfl⟩;obtain⟨r1,r2⟩:=MA q;refine⟨r1,λj hj y hy=>?_⟩
    by_cases k:j < i
    ·exact r2 j k y hy
    ·have:j=i:=⋯
     subst this;rw[hz]at hy;cases hy;subst r1;intro x' g8 xS
     rcases (iH hT qW).mp g8 with q' | q'
     ·subst q';intro k';exact c ⟨xS,k'⟩
     ·subst q';rw[oo];intro k';exact xS<|bA k'
  ·rintro σ H3 ⟨cO,mo,v5,v6,v7,s3,e3,I3,hl,Mz,MA,rfl⟩;have CA:=I3.len;refine a7 ⟨_,?_,cO,mo,v5,v6,v7,s3,e3,I3,λq=>?_,rfl,rfl⟩
   ·cases mo with
    | true=>
     have:=Mz rfl;simp only[DP]at em ⊢;omega
    | false=>
     simp only[DP,Bb,CV]at em ⊢;omega
   ·obtain⟨r1,r2⟩:=MA q;subst r1;intro z hz;obtain⟨j,hj⟩:=Bj<|(hS.mem z).mpr hz;have lk:iQ.length=ks.length:=by have:=BZ List.length ek;rwa[Aa,Aa]at this
    exact r2 j (by rw[lk];exact(Ac.mp hj).1) z hj
 | false=>
  rw[BK<|∅];have all:=I.all hT xJ h0 CD<|sh rfl;refine sZ (VC bd)<|ae 1 ⟨d,ob,iQ,rfl,s2 _ _ ed,VE (λi σ H'=>∃(u5 u6 u7:Option V),H'=H2/\(∀ j,j < i->∀ z,ks[j]?=some z->∃ e b c,aJ n e=some z/\ao Y (Sum.inl (e.1:Int))=some (vB b)/\ao Y (Sum.inl ((other n e).1:Int))=some (vB c)/\(b != c)=decide (z∈ss)) /\
    σ=[⇑R,⇑d,⇑p,⇑d2,some<|.bl false,u5,u6,u7]) ⟨_,_,_,rfl,λj hj=>absurd hj<|Eh _,rfl⟩ ?_ ?_ ?_⟩
  ·rintro i σ H' _ ⟨v5,v6,v7,rfl,_⟩;exact s2 _ _ ed
  ·rintro i pr σ H3 nQ ⟨v5,v6,v7,rfl,hj,rfl⟩;obtain⟨z,hz,MB⟩:=VU ek nQ;rw[MB];have cU:z∈ag n:=(hS.mem z).mp<|At hz;obtain⟨x,a,tx,ty,nS,lg,dg,ea,MC,MD⟩:=xR s2 cU;obtain⟨b,hb⟩:=all x.1<|cS nS;obtain⟨c,hc⟩:=all (other n x).1<|cS lg;refine a8 5 nd ?_;refine aT 6 nd (eU cj<|ae 3<|bb cv<|bb cL<|eU cj<|ae 1<|ae 5 ⟨d,.ref a,rfl,dg,aE ⟨a,_,_,.ref tx,rfl,rfl,aj.of ea,rfl,aE ⟨tx,_,_,.int (x.1:Int),rfl,rfl,aS.of MC,rfl,d2,vB b,rfl,by rw[<- hb];exact aX.k (k:=Sum.inl (x.1:Int)) e2,?_⟩⟩⟩);refine aT 7 nd (eU cj<|ae 3<|bb cv<|bb cL<|eU cj<|ae 1<|ae 5 ⟨d,.ref a,rfl,dg,aE ⟨a,_,_,.ref ty,rfl,rfl,aj.of ea,rfl,aE ⟨ty,_,_,.int ((other n x).1:Int),rfl,rfl,aS.of MD,rfl,d2,vB c,rfl,by rw[<- hc];exact aX.k (k:=Sum.inl ((other n x).1:Int)) e2,?_⟩⟩⟩);show Run _ _ _ [⇑R,⇑d,⇑p,⇑d2,some<|.bl false,some<|.str z,some<|vB b,some<|vB c] H3;refine vq ((b != c)≠decide (z∈ss)) ((b != c)=decide (z∈ss)) (λT' qq=>?_) (λk=>?_) λk=>?_
   ·refine cH yS<|hG yS<|ae 6<|ae 7 ⟨rfl,?_⟩;refine hG lN<|ae 5<|ae 2 ⟨p,_,rfl,.inl<|aj.of<|s2 _ _ hp,rfl,kE _,rfl,_,rfl,?_⟩;rw[kD,rL];have e9:(!decide (V.bl (!decide (vB b=vB c))=V.bl (decide (z∈ss))))=((b != c) != decide (z∈ss)):=by
     rw[uO];cases b <;> cases c <;> rfl
    show T' (!decide (V.bl (!decide (vB b=vB c))=V.bl (decide (z∈ss)))) H3;rw[e9];exact qq _ (λk=>bne_iff_ne.mp k) λk=>by generalize (b != c)=u at k ⊢;cases u <;> cases hd:decide (z∈ss) <;> rw[hd]at k <;> first | rfl | cases k
   ·refine bQ<|vi ?_;exact q2 _ s2<|I.bad hT nS hb hc k
   ·refine a7<|a7 ⟨_,_,_,rfl,λj kq y hy=>?_,rfl⟩
    by_cases kk:j < i
    ·exact hj j kk y hy
    ·have:j=i:=⋯
     subst this;rw[hz]at hy;cases hy;exact⟨x,b,c,nS,hb,hc,k⟩
  ·rintro σ H3 ⟨v5,v6,v7,rfl,hj,rfl⟩;have whole:∃ sd,bg n ss sd:=I.whole hT CD h0 all rM λz hz=>by
    obtain⟨j,kq⟩:=Bj<|(hS.mem z).mpr hz;have lk:iQ.length=ks.length:=by have:=BZ List.length ek;rwa[Aa,Aa]at this
    exact hj j (by rw[lk];exact(Ac.mp kq).1) z kq
   have Ki:=(hR.same s2).len;refine bQ<|gu (aP z7) VS xP 1 (yM rfl T.range gL)<|ai<|bP dH T.len DR<|ai<|ae 0<|ax ⟨R,_,rfl,.inl<|aj.of (hR.same s2).lst,ax ⟨_,rfl,?_,?_,λD hD=>?_⟩⟩
   ·rw[Aa];omega
   ·rw[Aa];omega
   rw[Aa,Bm,b4];refine Ku (λi σ' H'=>(∃ v,σ'=[⇑R,⇑d,⇑p,⇑d2,some<|.bl false,v5,v6,v7]++[v])/\ah H H'/\H' d2=some (.dK Y)/\∃ ys,H' D=some (.lst ys)/\ys.length<=i) ⟨⟨_,rfl⟩,s2.trans<|aM hD _,by rwa[au<|bh e2 hD],[],av,Am _⟩ ?_ ?_
   ·rintro i σ' H' hi ⟨⟨v,rfl⟩,s4,e4,ys,eD,v9⟩;rw[Dw];obtain⟨b,hb⟩:=all i hi;intro cl C æ ç ex;refine a8 8 x2t ?_;intro cl C æ ç ex;refine hU (cH jl<|eU cj<|ae 3<|ae 8 ⟨d2,vB b,rfl,by rw[<- hb];exact aX.k (k:=Sum.inl (i:Int)) e4,aE ⟨rfl,_,rfl,?_⟩⟩);have nD:d2≠D:=bV e4 eD λz=>nomatch z;refine iq (λc=>?_) (λc=>⟨⟨_,rfl⟩,s4,e4,ys,eD,⋯⟩);intro cl C æ ç ex;refine ae 8 ⟨ys,eD,bI ⋯,⟨_,rfl⟩,cX s4<|s2.free hD,by rwa[au nD],_,av,by rw[Ad];show ys.length+1<=i+1;omega⟩
   ·rintro σ' H' ⟨_,s4,_⟩;exact q1 D H' s4 whole
open PyProof.Rows (sortedS)
def ME:Sp:=λvs H Q _=>∃R W as n ts es,vs=[.ref R,.ref W]/\al H R as n/\(n.map (·.1)).Nodup/\n.length<=1000/\H W=some (.lst<|ts.map V.ref)/\fb n H ts es/\(∀ e∈es,e∈ends n)/\es.length<=1000/\(∀ l:Ñ,l.Nodup->(∀ z∈l,z∈es.map (ay n))->l.length < 64) /\
 ∀l ss H',ah H H'->H l=none->H' l=some (Ls ss)->cD ss->(∀ z,z∈ss↔(es.map<|ay n).count z=1)->Q (.ref l) H'
abbrev MG:Ñ:=["_law_rows","_law_walker","_law_ties"]
abbrev rS:Ñ:=["_law_rows","_law_walker","_law_ties","_law_end"]
abbrev xT:Ñ:=["_law_rows","_law_walker","_law_ties","_law_end","_law_row"]
abbrev xU:Ñ:=["_law_rows","_law_walker","_law_ties","_law_tie"]
def xV:ak MG ["_law_rows","_law_walker"] (aP oW):=bZ
def q92:rS.Nodup:=by decide +kernel
def x1i:xT.Nodup:=by decide +kernel
def x0t:xU.Nodup:=by decide +kernel
def x3a:Scope:=match gn oW with
 | .Assign _ (.ListComp _ _ sc _) _ :: _=>sc
 | _=>aP oW
def x13:Scope:=relabel x3a<|PyProof.Rows.envOfC "_law_core" (aP oW) 0 0 .none
theorem CF(L:Ñ):(L.filter λz=>decide (L.count z=1)).Nodup:=by
 rw[List.nodup_iff_count];intro z
 by_cases h:L.count z=1
 ·rw[List.count_filter<|by simpa using h];omega
 ·rw[List.count_eq_zero_of_not_mem]
  ·omega
  ·intro hm;exact h<|BX (Bg.mp hm).2
theorem VV(L:Ñ)(z:Str):z∈(L.filter λz=>decide (L.count z=1))↔L.count z=1:=by
 rw[Bg,CK];exact⟨λh=>h.2,λh=>⟨Ed.mp ⋯,h⟩⟩
theorem q17(F:bo K "_law_core" "_law_core" oW f fd)(T:Txt mg):aD P w K mg Z bz 1 f fd ["_law_rows","_law_walker"] ME:=by
 refine F.gc xV λb0 H vs Q E hr h=>?_;obtain⟨R,W,as,n,ts,es,rfl,hR,hN,hn,hW,hE,qS,hle,ll,q⟩:=h;have nd:=xV.nd;have b4:=hR.len;have hl:=hE.1;refine aT 2 nd<|gu (aP oW) MG rS 1 (eB bd)<|ae 1 ⟨W,rfl,⟨_,aj.of hW⟩,λD hD=>?_⟩;refine jS (xs:=ts.map V.ref) (λi σ' H'=>(∃ v,σ'=[⇑R,⇑W,none]++[v])/\ah H H'/\H' D=some (Ls<|(es.take i).map<|ay n)) ⟨⟨none,rfl⟩,aM hD _,av⟩ ?_ ?_ ?_
 ·rintro i σ' H' _ ⟨_,sm,_⟩;exact aj.of<|sm _ _ hW
 ·rintro i x σ' H' hx ⟨⟨v,rfl⟩,sm,eD⟩;rw[Ah,Ar]at hx;obtain⟨t,ht,rfl⟩:=hx;have hi:i < es.length:=by have:=(Ac.mp ht).1;omega
  have he:=Ab hi;have me:es.take (i+1)=es.take i++[es[i]]:=by rw[Bx,he];rfl
  generalize nN:es[i]=e at he me;have mh:=hE.2 i t e ht he;have tQ:=qS e<|At he;obtain⟨z,hz⟩:=af.mp tQ;have k6:=dJ hz;intro cl C æ ç ex;refine a8 3 q92 ?_;intro cl C æ ç ex;refine iA ?_;rw[BP rfl];intro cl C æ ç ex;refine bb cL<|gu x13 rS xT 1 (eB bd)<|ae 0 ⟨R,rfl,⟨_,aj.of<|sm _ _ hR.lst⟩,λD2 jy=>?_⟩;refine jS (xs:=as.map λa=>V.ref a.1) (λj σ' H2=>(∃ v,σ'=[⇑R,⇑W,none,⇑t]++[v])/\ah H' H2/\H2 D2=some (Ls (if e.1 < j then [z]else []))) ⟨⟨none,rfl⟩,aM jy _,av⟩ ?_ ?_ ?_
  ·rintro j σ' H2 _ ⟨_,nU,_⟩;exact aj.of<|nU _ _<|sm _ _ hR.lst
  ·rintro j x σ' H2 hx ⟨⟨v,rfl⟩,nU,pJ⟩;have hj:j < n.length:=by
    have:=(Ac.mp hx).1;rw[Aa]at this;omega
   obtain⟨b,eb,fA,et,el,er⟩:=(hR.same<|sm.trans nU).at hj;rw[Ah,eb]at hx;cases hx;have xW:=(sm.trans nU) _ _ mh;intro cl C æ ç ex;refine a8 4 x1i ?_;intro cl C æ ç ex;refine hU<|cH jl<|bb cv<|ae 4<|aE ⟨b.1,_,_,.str n[j].1,rfl,rfl,aS.of et,rfl,bb cv<|ae 3<|aE ⟨t,_,_,.str<|nameAt n e.1,rfl,rfl,aS.of xW,rfl,rfl,_,rfl,?_⟩⟩;have pq:=cS hz;have ek:decide (V.str n[j].1=V.str (nameAt n e.1))=decide (e.1=j):=by
    refine decide_eq_decide.mpr ⟨λk=>?_,λk=>?_⟩
    ·have k:=V.str.inj k;exact(tZ hN hj pq<|by rw[gW hj];exact k).symm
    ·rw[<- ro hj,k]
   show if decide (V.str n[j].1=V.str (nameAt n e.1))=true then _ else _;rw[ek];refine iq (λc=>?_) λc=>?_
   ·have c:=BX c;subst c;intro cl C æ ç ex;have cN:=hz;refine bb cL<|bb cv<|ae 4<|aE ⟨b.1,_,_,.ref b.2,rfl,rfl,aS.of et,rfl,bb cv<|ae 3<|aE ⟨t,_,_,.int (e.2:Int),rfl,rfl,aS.of xW,rfl,b.2,_,_,.str z,rfl,rfl,aj.of el,zK cN,_,pJ,?_,⟨_,rfl⟩,cX nU jy,?_⟩⟩
    ·rw[BK<|Cq _];exact bI<|∅
    ·rw[av,BK<|Cq _,BP<|Fd _];rfl
   ·have c:=GJ<|Dk.mpr c;refine⟨⟨_,rfl⟩,nU,?_⟩;rw[pJ]
    by_cases k:e.1 < j
    ·rw[BP k,BP<|⋯]
    ·rw[BK k,BK<|⋯]
  ·rintro σ' H2 ⟨_,nU,pJ⟩;rw[Aa,b4,BP<|cS hz]at pJ;refine aE ⟨D2,_,_,.str z,rfl,rfl,aj.of pJ,rfl,_,nU _ _ eD,?_,⟨_,rfl⟩,cX (sm.trans nU) hD,?_⟩
   ·rw[Aa,Aa,Bh];exact bI<|⋯
   ·rw[av,me,Aj];show some (HO.lst<|((es.take i).map<|ay n).map V.str++[V.str z])=some (HO.lst<|((es.take i).map (ay n)++[ay n e]).map V.str);rw[Aj];show some (HO.lst<|((es.take i).map<|ay n).map V.str++[V.str z])=some (HO.lst<|((es.take i).map<|ay n).map V.str++[V.str<|ay n e]);rw[k6]
 rintro σ' H' ⟨_,sm,eD⟩;have rT:es.take (ts.map V.ref).length=es:=Ck (by rw[Aa];omega);rw[rT]at eD;generalize MH:es.map (ay n)=L at eD ll q;have K6:L.length<=1000:=by rwa[<- MH,Aa]
 refine bQ<|bP vM T.sorted CW<|ai<|gu (aP oW) MG xU 1 (eB bd)<|ae 2 ⟨D,rfl,⟨_,aj.of eD⟩,λD3 rV=>?_⟩;have n3:D≠D3:=bh eD rV;refine qO (λz=>decide (L.count z=1)) (bI<|⋯) eD rV (λcl C s0 H0 ex v v0 H' R' h=>a8 3 x0t h) (λcl C s0 H0 ex z zs T' h=>hU<|cH jl<|zF DW TV TX VA<|ae 2 (v:= .ref D) ⟨Or.inl ⟨rfl,_,aj.of<|by rwa[au n3]⟩,ae 3 ⟨D,L,z,rfl,rfl,aj.of (by rwa[au n3]),aE ⟨rfl,_,rfl,?_⟩⟩⟩) (λcl C s0 H0 ex z H' R' h=>ae 3 h) ?_
 ·have ek:decide (V.int (L.count z:Int)=V.int 1)=decide (L.count z=1):=decide_eq_decide.mpr ⟨λk=>by have:=V.int.inj k;omega,λk=>by rw[k];rfl⟩;show T' (decide (V.int (L.count z:Int)=V.int 1)) _;rwa[ek]
 refine ax ⟨D3,_,rfl,aj.of av,ll _ (CF L) λz hz=>(Bg.mp hz).1,λl ss g9 db gP=>?_⟩;have s3:=sm.trans<|aM rV<|Ls<|L.filter λz=>decide (L.count z=1);exact q l ss _ (s3.trans<|aM g9 _) (s3.free g9) av (tX gP<|db.nodup_iff.mpr<|CF L) λz=>by rw[db.mem_iff];exact VV L z
end
end Q1
namespace L2
open PySem PySem.Spec PyProof.Rows
variable{H:Hp}{σ:St}{X:Cx}
structure Xo(h:Heap)(e T:Addr)(C fl:Value):Prop where
 ex:∃ oe vs,h.get? e=some oe/\oe.cls=C/\oe.dict=none/\oe.data = .fields vs/\vs[1]?=some (.ref T)/\vs[2]?=some .none
 ne:T≠e
 tr:∃ oT ts,h.get? T=some oT/\oT.data = .fields ts/\ts[3]?=some fl
structure Kp(fs bad:List Addr)(h h':Heap):Prop where
 keep:∀ b o,h.get? b=some o->b∉fs->b∉bad->h'.get? b=some o
 slot:∀ b o,h.get? b=some o->b∈fs->∃ sl,h'.get? b=some {o with slots:=sl}
def j8c(o:Obj)(f:Array Value->Array Value):(o.mapFields f).dict=o.dict:=by
 obtain⟨c,d,dt,sl⟩:=o;cases dt <;> rfl
variable{s:Shared}{E:Î}{A:Around}{M:Model}{Q:Unit->Shared->Prop}{head:Value}{vs:Array Value}{oe:Obj}{outer:List Env}{env:Env}{Z:Heap}
theorem VW{L e:Addr}{nx:Bool}(i0:A.frames=some (env :: outer))(hl:s.heap.FunFrames Z<|env :: outer)(hf:env.frame=some L)
  (he:s.heap.get? e=some oe) (hd:oe.data = .fields vs) (rW:oe.dict=none) (h1:1 < vs.size) (h2:vs[2]?=some .none)
  (h:∀ h' T,s.heap.get? T=none->Xo h' e T oe.cls .none->Kp (dF<|env :: outer) [e] s.heap h'->Q () {s with heap:=h'}) :
  wpAny M A (do let a <- frameOf env;let pl <- entryPlaceOf L nx;let b <- EntryCells.newEntry head a .none (rawInt L) .none pl;setField (.ref e) 1 b) (λ_ s'=>wpAny M A (setFlight (.ref e) none) Q E s') E s:=by
 have VX:e∉dF (env :: outer):=λhm=>by
  obtain⟨_,o,ho,hn⟩:=hl.mem hm;rw[he]at ho;cases ho;exact hn vs hd
 refine BJ<|wpAny_frameOf_fun i0 hl hf λha sa=>?_;refine BJ<|wpAny_entryPlaceOf λpl ip=>?_;unfold EntryCells.newEntry newFields;refine BJ<|CZ ?_<|ip.sizeOk5 _ _ _ _ _;generalize hT:({cls:= .type "traceback",dict:=none,data:= .fields ([head,.ref L,.none,rawInt L,.none]++(if pl.isEmpty then List.replicate 6 Value.none else pl)).toArray}:Obj)=oT;have ea:ha.get? e=some oe:=(sa.2.1 e VX).trans he;have eb:(ha.push oT).get? e=some oe:=Ae _ ea;have tb:(ha.push oT).get? ha.objs.size=some oT:=Ao ha (by rw[<- hT];rfl);have MI:ha.objs.size≠e:=Cw<|Ap ea;refine DX eb hd h1 ?_;have dc:=MJ hd (·.setIfInBounds 1 (Value.ref ha.objs.size));have ec:=Da (Obj.mapFields (·.setIfInBounds 1 (Value.ref ha.objs.size))) eb<|KC dc;have tc:((ha.push oT).update e (Obj.mapFields (·.setIfInBounds 1 (Value.ref ha.objs.size)))).get? ha.objs.size=some oT:=(Cb _ _<|CG MI).trans tb;unfold setFlight;refine BJ (JH ec dc (x:= .ref ha.objs.size) (by simp[h1]) ?_);rw[BP (show(Value.ref ha.objs.size != Value.none)=true from by simp)];have dT:oT.data = .fields ([head,.ref L,.none,rawInt L,.none]++(if pl.isEmpty then List.replicate 6 Value.none else pl)).toArray:=by rw[<- hT]
 have sz:3 < ([head,.ref L,.none,rawInt L,.none]++(if pl.isEmpty then List.replicate 6 Value.none else pl)).toArray.size:=by
  simp only[Aw,Ad,As,Eu];omega
 refine DX tc dT sz<|h _ ha.objs.size (by
  cases hq:s.heap.get? ha.objs.size with
  | none=>rfl
  | some o=>
   obtain⟨sl,z⟩:=sa.2.2 _ o hq;exact absurd (Ap z)<|Cq _) ?_ ?_
 ·have dd:=MJ dT (·.setIfInBounds 3 ((none:Option Addr).elim Value.none λf=>rawInt f));refine⟨⟨_,_,(Cb _ _ MI).trans ec,Obj.cls_mapFields _ _,by rwa[j8c],dc,by simp[h1],by rwa[Array.getElem?_setIfInBounds_ne<|∅]⟩,MI,⟨_,_,Da _ tc<|KC dd,dd,?_⟩⟩;rw[Fo sz];rfl
 ·have kp:∀ b o,b≠e->ha.get? b=some o->(((ha.push oT).update e (Obj.mapFields (·.setIfInBounds 1 (Value.ref ha.objs.size)))).update ha.objs.size (Obj.mapFields (·.setIfInBounds 3 ((none:Option Addr).elim Value.none λf=>rawInt f)))).get? b=some o:=λb o hb q=>by
   rw[Cb _ _<|Cw<|Ap q,Cb _ _<|CG hb];exact Ae _ q
  refine⟨λb o q nf nb=>kp b o (λz=>nb<|by simp[z])<|(sa.2.1 b nf).trans q,λb o q hb=>?_⟩;obtain⟨sl,z⟩:=sa.2.2 b o q;exact⟨sl,kp b _ (λy=>VX<|y ▸ hb) z⟩
def q15{L e:Addr}(i0:A.frames=some (env :: outer))(hl:s.heap.FunFrames Z<|env :: outer)(hf:env.frame=some L)
  (he:s.heap.get? e=some oe) (hd:oe.data = .fields vs) (rW:oe.dict=none) (h1:vs[1]?=some .none) (h2:vs[2]?=some .none)
  (h:∀ h' T,s.heap.get? T=none->Xo h' e T oe.cls .none->Kp (dF<|env :: outer) [e] s.heap h'->Q () {s with heap:=h'}) :
  wpAny M A (noteFrame (.ref e) env) (λ_ s'=>wpAny M A (setFlight (.ref e) none) Q E s') E s:=by
 unfold noteFrame;simp only[hf];refine BJ<|JH he hd h1 ?_;rw[BK<|∅];exact VW i0 hl hf he hd rW (Er.mp h1).1 h2 h
def q5q{L e T:Addr}{C:Value}(i0:A.frames=some (env :: outer))(hl:s.heap.FunFrames Z<|env :: outer)(hf:env.frame=some L)(x:Xo s.heap e T C .none)
  (h:∀ h' T',s.heap.get? T'=none->Xo h' e T' C .none->Kp (dF<|env :: outer) [e,T] s.heap h'->Q () {s with heap:=h'}) :
  wpAny M A (noteFrame (.ref e) env) (λ_ s'=>wpAny M A (setFlight (.ref e) none) Q E s') E s:=by
 obtain⟨⟨oe,vs,he,hc,rW,hd,h1,h2⟩,bA,⟨oT,ts,hT,dT,h3⟩⟩:=x;subst hc;unfold noteFrame;simp only[hf];refine BJ<|JH he hd h1 ?_;rw[BP (show(Value.ref T != Value.none)=true from by simp)];refine BJ<|JH hT dT h3 ?_;rw[BK (show ¬((Value.none == rawInt L)=true)from by simp[rawInt])];refine BJ<|DX hT dT (Er.mp h3).1 ?_;have nT:∀ b,b≠T->(s.heap.update T (Obj.mapFields (·.setIfInBounds 3 Value.none))).get? b=s.heap.get? b:=λb hb=>Cb _ _<|CG hb;have VY:∀ b o,s.heap.get? b=some o->(∀ vs,o.data ≠ .fields vs)->b≠T:=λb o q hn z=>by
  rw[z,hT]at q;cases q;exact hn ts dT
 have nf:T∉dF (env :: outer):=λhm=>by
  obtain⟨_,o,ho,hn⟩:=hl.mem hm;exact VY T o ho hn rfl
 refine VW i0 (hl.of_keeps λb o q hn=>⟨o,(nT b<|VY b o q hn).trans q,rfl⟩) hf ((nT e<|CG bA).trans he) hd rW (Er.mp h1).1 h2 λh' T' z x k=>h h' T' ?_ x ⟨λb o q n1 n2=>?_,λb o q hb=>?_⟩
 ·cases hq:s.heap.get? T' with
  | none=>rfl
  | some o=>
   by_cases y:T'=T
   ·have:=Da (Obj.mapFields (·.setIfInBounds 3 Value.none)) hT<|KC<|MJ dT _;rw[y]at z;exact absurd (this.symm.trans z)<|by simp
   ·have:=(nT T' y).trans hq;exact absurd (this.symm.trans z)<|by simp
 ·have n3:b≠T:=λy=>n2 (by simp[y]);exact k.keep b o ((nT b n3).trans q) n1 λy=>n2<|by simp at y;simp[y]
 ·exact k.slot b o ((nT b λy=>nf<|y ▸ hb).trans q) hb
def k57{e T:Addr}{C:Value}(x:Xo s.heap e T C .none)(h:∀ h',Xo h' e T C .none->(∀ b o,b≠T->s.heap.get? b=some o->h'.get? b=some o)->Q () {s with heap:=h'}):wpAny M A (setFlight (.ref e) none) Q E s:=by
 obtain⟨⟨oe,vs,he,hc,rW,hd,h1,h2⟩,bA,⟨oT,ts,hT,dT,h3⟩⟩:=x;unfold setFlight;refine BJ<|JH he hd h1 ?_;rw[BP (show(Value.ref T != Value.none)=true from by simp)];have sz:=(Er.mp h3).1;have dd:=MJ dT (·.setIfInBounds 3 ((none:Option Addr).elim Value.none λf=>rawInt f));refine DX hT dT sz<|h _ ⟨⟨oe,vs,(Cb _ _ bA).trans he,hc,rW,hd,h1,h2⟩,bA,⟨_,_,Da _ hT<|KC dd,dd,?_⟩⟩ λb o hb q=>(Cb _ _<|CG hb).trans q;rw[Fo sz];rfl
variable{h h1:Heap}
def ML{fs f2 bad:List Addr}{H':Hp}{h2:Heap}(u:Un fs [] H H' h h1)(k:Kp f2 bad h1 h2)(hf:∀ b o,h.get? b=some o->b∈f2->b∈fs)(hb:∀ b∈bad,h.get? b=none):Un fs [] H H' h h2:=by
 have nb:∀ b o,h.get? b=some o->b∉bad:=λb o q z=>by rw[hb b z]at q;cases q
 refine⟨λb o q n nf _=>k.keep b o (u.keep b o q n nf<|by simp) (λz=>nf<|hf b o q z)<|nb b o q,λb o q n hm _=>?_,u.free,λb o q _=>?_,u.eJ,u.dN,u.eN⟩
 ·obtain⟨sl,z⟩:=u.slot b o q n hm<|by simp
  by_cases y:b∈f2
  ·obtain⟨yH,z'⟩:=k.slot b _ z y;exact⟨yH,z'⟩
  ·exact⟨sl,k.keep b _ z y<|nb b o q⟩
 ·obtain⟨o',z⟩:=u.there b o q<|by simp
  by_cases y:b∈f2
  ·obtain⟨yH,z'⟩:=k.slot b _ z y;exact⟨_,z'⟩
  ·exact⟨o',k.keep b _ z y<|nb b o q⟩
variable{w:World}{P:Program}
def VZ{f2 bad:List Addr}{h2:Heap}(x:cg P w H h1)(k:Kp f2 bad h1 h2)(hf:∀ b∈f2,H b=none)(hb:∀ b∈bad,H b=none):cg P w H h2:=λa o e=>by
 refine(x a o e).fK (λb u hh q=>k.keep b u q (λz=>?_) λz=>?_) (λ_ q=>q) λ_ _ q=>q
 ·have:=hf b z
  rcases hh with y | y
  ·rw[y,e]at this;cases this
  ·rw[y]at this;cases this
 ·have:=hb b z
  rcases hh with y | y
  ·rw[y,e]at this;cases this
  ·rw[y]at this;cases this
variable{o:HO}
theorem x1e{a:Addr}(x:aB P w H h a o):∃ u,h.get? a=some u:=by
 cases o with
 | lst xs=>obtain⟨_,_,_,_,q⟩:=x;exact⟨_,q⟩
 | tup xs=>obtain⟨_,_,_,u,q,_⟩:=x;exact⟨_,q⟩
 | dK Y=>obtain⟨_,_,_,_,u,_,_,q,_⟩:=x;exact⟨_,q⟩
 | dT Y=>obtain⟨_,_,_,_,u,_,_,q,_⟩:=x;exact⟨_,q⟩
 | set S n=>obtain⟨u,_,_,_,q,_⟩:=x;exact⟨_,q⟩
 | ins C dx fs=>obtain⟨_,_,_,q,_⟩:=x;exact⟨_,q⟩
 | own y=>exact x
 | xd fs=>obtain⟨_,⟨_,_,_,q,_⟩,_⟩:=x;exact⟨_,q⟩
 | oj lo hi=>obtain⟨_,_,_,q⟩:=x;exact⟨_,q⟩
 | bB ob u=>obtain⟨q,_⟩:=x;exact⟨_,q⟩
 | oq ps=>exact⟨_,x⟩
 | met f y=>exact⟨_,x⟩
 | ext φ=>obtain⟨_,q,_⟩:=x;exact q
def XF(P:Program)(w:World):jJ:=λouter H s E e s'=>∃ea T C H',e = .ref ea/\E C none H'/\s'.os=s.os/\AllBare s'.gens/\Un (dF outer) [] H H' s.heap s'.heap/\cg P w H' s'.heap/\Xo s'.heap ea T C .none /\
 s.heap.get? ea=none/\s.heap.get? T=none/\H' ea=none/\H' T=none
variable{cd:Value}{f b:Addr}{scope:Scope}{qual:Str}{N:Ñ}{mg:Ò}{K:PySem.W.Frag}{Ha:Hp}
section
variable{E:XK}
def q4v:dF (envOfC qual scope s.heap.objs.size f cd :: outer)=s.heap.objs.size :: dF outer:=rfl
theorem MM{fs ex:List Addr}{Hb:Hp}(u:Un fs ex Ha Hb h h1)(hx:b∉ex)(n:h1.get? b=none):h.get? b=none:=by
 cases q:h.get? b with
 | none=>rfl
 | some o=>obtain⟨o',z⟩:=u.there b o q hx;rw[n]at z;cases z
theorem MO(x:cg P w Ha h1)(n:h1.get? b=none):Ha b=none:=by
 cases q:Ha b with
 | none=>rfl
 | some o=>
  exfalso
  obtain⟨u,z⟩:=x1e<|x b o q;rw[n]at z;cases z
end
abbrev nV:Ó:=[.type "ValueError",.type "Exception",.type "BaseException",.type "object"]
def XC(K:PySem.W.Frag)(C:Addr):Prop:=PySem.W.excIn K C nV "ValueError.__new__" = true
variable{C:Addr}
def XC.obj(q:XC K C)(X:K.In h):∃ bm N nm qn bs hdct sn sub ab col dd k0 k1 k2 k3 k5 mN,h.get? C=some (excClassObj nm qn C N bs bm hdct sn sub ab col dd k0 k1 k2 k3 k5 "ValueError.__new__")/\h.Ns N mN/\mN "__init__" = none/\OwnTail h nV bm:=by
 unfold XC PySem.W.excIn at q
 split at q
 ·rename_i dd cd sl ho
  split at q
  ·rename_i D bm k0 k1 k2 k3 n k5 hm hs;simp only[Bq,JD,RM]at q;obtain⟨⟨⟨⟨⟨eD,en⟩,xX⟩,ht⟩,aF⟩,xa⟩:=q;obtain⟨nm,bs,mro,ns,qn,hd,sn,sub,ab,col,del⟩:=cd
   dsimp only at hm xX aF xa
   subst eD en hm xX;have esl:sl=#[k0,k1,k2,k3,some<|.builtin "ValueError.__new__",k5]:=by
    cases sl;simp only at hs;rw[hs]
   subst esl;exact⟨bm,ns,nm,qn,bs,hd,sn,sub,ab,col,dd,k0,k1,k2,k3,k5,_,X _ _ ho,.of_isNs<|PySem.W.isNs_of_in X aF,PySem.W.nsMap_none_of_in X aF xa,PySem.W.tail_of_in X ht⟩
  ·cases q
 ·cases q
variable{D:Ends}{x:Str}
section
variable{rest:Õ}
def Rz(X:Cx)(E:St->XK):Prop:=∀O σ H s h' e C args,Inv X O σ H s->Heap.MadeExcOf s.heap h' e (.ref C) args->E σ (.ref C) none H->X.xe (.ref e) {s with heap:=h'}
def V0{E:St->XK}(hz:Rz X E){a:Expr}{np cp pos:Pos}(hm:X.mg x=some (.ref C))(hC:XC X.K C)(hc:X.calm=true)(h:Ea X [a] σ H λvs H1=>vs.length<=sizeLine/\E σ (.ref C) none H1)(hg:Gl X x:=by rfl)(cQ:(x == ("__debug__" : Str))=false:=by decide)
  (he:starEach [a] X.env=(false,eval a X.env) :: starEach [] X.env:=by rfl):Run X (.Raise (some<|.Call (.Name x np) [a] [] cp) none pos :: rest) D σ H:=by
 refine jL (t:=λD σ H=>Ea X [a] σ H λvs H1=>vs.length<=sizeLine/\E σ (.ref C) none H1) ?_ h;intro O s σ H D I h;obtain⟨bm,N,nm,qn,bs,hdct,sn,sub,ab,col,dd,k0,k1,k2,k3,k5,mN,oC,oN,oi,oT⟩:=hC.obj I.ok.mod.sy;refine wpAny_Raise_call_subT (nm:=nm) (q:=qn) (N:=N) (bs:=bs) (bm:=bm) (hdct:=hdct) (sn:=sn) (sub:=sub) (ab:=ab) (col:=col) (dd:=dd) (k0:=k0) (k1:=k1) (k2:=k2) (k3:=k3) (k5:=k5) PySem.F.excBase_ValueError (mN:=mN) (oT.hasType PySem.F.excBase_ValueError.hasBase) (I.ok.hd hc) (by rw[he];rfl) oi<|uG I hg hm ⟨rfl,?_⟩ cQ;have q:=h.run cp O s I;rw[he]at q ⊢;refine PX<|aN q λus s2 ⟨vs,H2,I2,r,z2,q2⟩=>⟨rfl,by rwa[<- r.length],I2.bk _ _ oC,oN.keeps I2.bk,oT.keeps I2.bk,λh' e hx=>hz O σ H2 s2 h' e C us I2 hx q2⟩
end
variable{h':Heap}{sp:Sp}{ps:Ñ}{fd:FuncData}{st:Stmt}
section
variable{E:XK}
def q9h(k:∀ b o,h.get? b=some o->h'.get? b=some o):Kp [] [] h h':=⟨λb o q _ _=>k b o q,λb o q z=>absurd z<|by simp⟩
def x1w:Rz (fq (XF P w) P w K mg Z N qual scope f cd A outer s H E) (λ_=>E):=by
 intro O σ H1 s1 h' e C args I hx hE;obtain⟨t,he,_,_⟩:=hx.there;show wpAny (model P w) (A.deeper<|envOfC qual scope s.heap.objs.size f cd) (leaving (envOfC qual scope s.heap.objs.size f cd)<|.ref e) _ _ _;unfold leaving;have n0:=MO I.aF hx.new;have k1:=q9h hx.keeps;refine BJ<|q15 I.ok.frames (I.stack.of_keeps λb o q _=>⟨o,hx.keeps b o q,rfl⟩) rfl he rfl rfl rfl rfl λh2 T z x k=>?_;have MQ:=I.aF.kept hx.keeps;have un1:=ML I.Z k1 (λb o q hb=>absurd hb<|by simp) λb hb=>absurd hb (by simp);have nT:s1.heap.get? T=none:=by
  cases q:s1.heap.get? T with
  | none=>rfl
  | some o=>have:=hx.keeps _ _ q;exact absurd (this.symm.trans z)<|by simp
 have ns:=MM (ex:=[]) I.Z (by simp) hx.new;refine⟨e,T,.ref C,H1,rfl,hE,I.os,I.bare,ML un1 k (λb o q hb=>?_) λb hb=>?_,VZ MQ k (λb hb=>I.d8 b hb) λb hb=>?_,x,ns,MM (ex:=[]) I.Z (by simp) nT,n0,MO I.aF nT⟩
 ·rw[q4v]at hb
  rcases Al.mp hb with y | y
  ·exact absurd (Ap q)<|by rw[y];exact Cq _
  ·exact y
 ·rwa[Af.mp hb]
 ·rwa[Af.mp hb]
def V1(N:Ñ)(qual:Str)(scope:Scope)(P:Program)(w:World)(K:PySem.W.Frag)(mg:Ò)(Z:Heap)(b:tq):Cx:=fq (XF P w) P w K mg Z N qual scope b.f b.bF b.A b.outer b.s b.H b.E
def bo.gx{k:Nat}(F:bo K x qual st f fd)(S:ak N ps<|aP st)(len:∀ vs H Q E,sp vs H Q E->vs.length=ps.length)
  (cw:∀b H vs Q,bv k (b.A.deeper<|envOfC qual (aP st) b.s.heap.objs.size b.f b.bF)->sp vs H Q b.E->Run (V1 N qual (aP st) P w K mg Z b) (gn st) (En Q) (start N vs) H):aD P w K mg Z (XF P w) (k+1) f fd ps sp:=by
 obtain⟨oc,od,kV,doc,pm,an,bF,ct,j5,rfl,lk,iW⟩:=F.ex;refine P2 lk iW S len λA outer s H vs Q E hr dG=>?_;exact⟨_,oK,cw ⟨f,bF,A,outer,s,H,E⟩ H vs Q hr dG⟩
def V2{b:tq}:Rz (V1 N qual scope P w K mg Z b) (λ_=>b.E):=x1w
end
structure d3(P:Program)(w:World)(K:PySem.W.Frag)(mg:Ò)(Z:Heap)(k:Nat)(x:Str)(ps:Ñ)(sp:Sp):Prop where
 ex:∃ f fd,aD P w K mg Z (XF P w) k f fd ps sp/\Binds K fd ps []/\PySem.W.keepIn K (.ref f)=true/\mg x=some (.ref f)
def d3.mono{P:Program}{w:World}{K:PySem.W.Frag}{mg:Ò}{Z:Heap}{j k:Nat}{x:Str}{ps:Ñ}{sp:Sp}(h:d3 P w K mg Z j x ps sp)(le:j<=k):d3 P w K mg Z k x ps sp:=
 let ⟨f,fd,F,r⟩:=h.ex;⟨f,fd,F.mono le,r⟩
variable{es:Ô}{e:Expr}
def MR{k:Nat}{Q:VK}{E:XK}{p pos:Pos}(G:d3 X.U X.w X.K X.mg X.Z k x ps sp)(hr:bv k X.A)(hx:p9 (XF X.U X.w) X E)
  (h:Ea X (e :: es) σ H λvs H1=>sp vs H1 Q E) (hg:Gl X x:=by rfl) (cQ:(x == ("__debug__" : Str))=false:=by decide) (hs:noStar (e :: es)=true:=by rfl):Ev X (.Call (.Name x p) (e :: es) [] pos) σ H Q:=
 let ⟨_,_,F,b,kp,m⟩:=G.ex;Qv F hr m kp b hx h hg cQ hs
def Df.MS{k:Nat}(d:Df K x st)(X:K.In h)(G:h.Ns mainGlobals mg)
  (hb:∀kV doc pm an bF ct us,us.length=ps.length->bindArgs (PySem.W.fnOf x x (lP st) (gn st) (aP st) .none kV doc pm an bF ct) ⟨us,[]⟩=pure (ps.zip us))
  (ok:∀{f}{fd},bo K x x st f fd->aD P w K mg Z (XF P w) k f fd ps sp):d3 P w K mg Z k x ps sp:=
 let ⟨f,fd,a,F⟩:=d;⟨f,fd,ok F,F.binds hb,F.kp,NZ X G a⟩
def MT(CX:jJ)(X:Cx)(σ:St)(E:XK):Prop:=∀O H s e s',Inv X O σ H s->CX X.stack H s E e s'->X.xe e s'
section
variable{CX:jJ}{k:Nat}{E:XK}{p pos:Pos}{Q:VK}
theorem q3f(F:aD X.U X.w X.K X.mg X.Z CX k f fd ps sp)(hr:bv k X.A)(hm:X.mg x=some (.ref f))(hk:PySem.W.keepIn X.K (.ref f)=true)(hb:Binds X.K fd ps [])(hx:MT CX X σ E)(h:Ea X (e :: es) σ H λvs H1=>sp vs H1 Q E)
  (hg:Gl X x:=by rfl) (cQ:(x == ("__debug__" : Str))=false:=by decide) (he:starEach (e :: es) X.env=(false,eval e X.env) :: starEach es X.env:=by rfl) (jm:(backTo pos<|starEach es X.env).any (·.1)=false:=by rfl):Ev X (.Call (.Name x p) (e :: es) [] pos) σ H Q:=by
 refine⟨λO s I=>JR<|uG I hg hm ?_ cQ⟩;refine PySem.W.callWith_K I.ok.mod.sy hk (aN (h.run pos O s I) λus s1 ⟨vs,H1,I1,r,q⟩=>⟨I1.fh,?_⟩) he jm;have hl:us.length=ps.length:=by rw[<- r.length];exact F.len _ _ _ _ q
 have g9:(us++[]).length=ps.length:=by rwa[Be]
 have jt:=hb s1 us I1.fh g9;rw[Be]at jt;refine RT<|JK (F.run X.A X.stack s1 H1 ⟨us,[]⟩ us vs Q E hr I1.uR jt r q) λr s' hq=>?_;cases r with
 | error y=>exact hx O H1 s1 y s' I1 hq
 | ok fl=>
  cases fl with
  | ret u=>exact I1.after hq
  | next=>exact False.elim hq
  | brk=>exact False.elim hq
  | cont=>exact False.elim hq
def q6x(G:d3 X.U X.w X.K X.mg X.Z k x ps sp)(hr:bv k X.A)(hx:MT (XF X.U X.w) X σ E)(h:Ea X (e :: es) σ H λvs H1=>sp vs H1 Q E)
  (hg:Gl X x:=by rfl) (cQ:(x == ("__debug__" : Str))=false:=by decide) (he:starEach (e :: es) X.env=(false,eval e X.env) :: starEach es X.env:=by rfl) (jm:(backTo pos<|starEach es X.env).any (·.1)=false:=by rfl):Ev X (.Call (.Name x p) (e :: es) [] pos) σ H Q:=
 let ⟨_,_,F,b,kp,m⟩:=G.ex;q3f F hr m kp b hx h hg cQ he jm
end
abbrev XO(oe:Obj):HO:= .bB oe<|.own 0
structure CH(oe:Obj)(C:Value):Prop where
 cls:oe.cls=C
 dict:oe.dict=none
 data:∃ vs,oe.data = .fields vs/\vs[2]?=some .none
abbrev Cx.bU(X:Cx)(p:Ð):Cx:={X with pn:=X.pn++p}
structure xY(X:Cx)(O:Ð)(b:Addr):Prop where
 l:b≠X.env.locals
 c:∀ x c,X.env.cells.lookup x=some c->c≠b
 p:∀ q∈X.pn++O,q.1≠b
 f:b∉X.fs
 s:X.æ.heap.get? b=none
variable{O:Ð}
def MU(I:Inv X O σ H s)(hex:X.ex=[])(n:s.heap.get? b=none):xY X O b:=by
 refine⟨λz=>?_,λx c e z=>?_,λq hq z=>?_,λz=>?_,MM I.Z (by rw[hex];simp) n⟩
 ·obtain⟨m,⟨o,_,_,ho,_⟩,_⟩:=I.loc;rw[<- z,n]at ho;cases ho
 ·obtain⟨v,o,ho,_⟩:=I.cell x c e;rw[z,n]at ho;cases ho
 ·have:=(I.pin q hq).1;rw[z,n]at this;cases this
 ·obtain⟨_,o,ho,_⟩:=I.cF.mem z;rw[n]at ho;cases ho
def Inv.kp{bad:List Addr}{t':Nat}(I:Inv X O σ H s)(hex:X.ex=[])(k:Kp (dF X.stack) bad s.heap h')(ha:∀ b∈bad,xY X O b)(hn:∀ b∈bad,H b=none):Inv X O σ H {s with heap:=h',toks:=t'}:=by
 have kc:∀ x c,X.env.cells.lookup x=some c->∀ v,s.heap.IsCell c v->h'.IsCell c v:=λx c e v ⟨o,ho,hd⟩=>by
  by_cases y:c∈dF X.stack
  ·obtain⟨sl,z⟩:=k.slot c o ho y;exact⟨_,z,hd⟩
  ·exact⟨o,k.keep c o ho y λw=>(ha c w).c x c e rfl,hd⟩
 have kl:∀ m,s.heap.Ns X.env.locals m->h'.Ns X.env.locals m:=λm hm=>by
  obtain⟨o,es,ep,ho,r⟩:=hm
  by_cases y:X.env.locals∈dF X.stack
  ·obtain⟨sl,z⟩:=k.slot _ o ho y;exact⟨_,es,ep,z,r⟩
  ·exact⟨o,es,ep,k.keep _ o ho y λw=>(ha _ w).l rfl,r⟩
 refine⟨I.ok,I.os,I.bare,?_,?_,λx c e=>?_,I.free,I.bC,λp hp=>?_,VZ I.aF k (λb hb=>I.d8 b hb) hn,I.len⟩
 ·have u:=I.Z;rw[hex]at u ⊢;refine ML u k (λb o q hb=>?_) λb hb=>(ha b hb).s
  rcases Al.mp (I.dw b hb)with y | y
  ·exact absurd (Bf (Ap q) I.ok.above)<|by rw[y];exact Cq _
  ·exact y
 ·obtain⟨m,hm,hl⟩:=I.loc;refine⟨m,kl m hm,λi x v e1 e2 e3=>?_⟩;obtain⟨u,r,q⟩:=hl i x v e1 e2 e3;refine⟨u,r,?_⟩
  rcases q with q | ⟨y,c,e,z⟩
  ·exact .inl q
  ·exact .inr ⟨y,c,e,kc x c e _ z⟩
 ·obtain⟨v,z⟩:=I.cell x c e;exact⟨v,kc x c e v z⟩
 ·obtain⟨e,n,ne,nf,d⟩:=I.pin p hp;refine⟨k.keep _ _ e (λy=>?_) λw=>(ha _ w).p p hp rfl,n,ne,nf,d⟩
  rcases Al.mp (I.dw _ y)with z | z
  ·exact ne z
  ·exact nf z
def Inv.xZ(I:Inv X O σ H s)(hex:X.ex=[])(a:xY X O b)(n:H b=none)(ho:aB X.U X.w (upd H b o) s.heap b o):Inv X O σ (upd H b o) s:=by
 have u:=I.Z;have ne:∀ c o',H c=some o'->c≠b:=λc o' q z=>by rw[z,n]at q;cases q
 refine⟨I.ok,I.os,I.bare,⟨u.keep,u.slot,λc o' q n' hx=>?_,u.there,λc xs q=>?_,λc o' v q=>?_,λc ps q=>?_⟩,I.loc,I.cell,by rw[au<|CG a.l];exact I.free,λx c e=>by rw[au<|a.c x c e];exact I.bC x c e,λp hp=>?_,λc o' q=>?_,I.len⟩
 ·have:c≠b:=λz=>by rw[z,a.s]at q;cases q
  rw[au this];exact u.free c o' q n' hx
 ·have q':=u.eJ c xs q;rw[au<|ne _ _ q'];exact q'
 ·have q':=u.dN c o' v q;rw[au<|ne _ _ q'];exact q'
 ·obtain⟨m,q'⟩:=u.eN c ps q;exact⟨m,by rw[au<|ne _ _ q'];exact q'⟩
 ·obtain⟨e,n',r⟩:=I.pin p hp;exact⟨e,by rw[au<|a.p p hp];exact n',r⟩
 ·by_cases y:c=b
  ·subst y;rw[av]at q;cases q;exact ho
  ·rw[au y]at q;exact(I.aF c o' q).fK (λ_ _ _ z=>z) (λd z=>by rwa[au<|ne _ _ z]) λd xs z=>by rwa[au<|ne _ _ z]
def Cgt(X:Cx)(Φ:Value->St->Hp->Prop)(e:Value)(s':Shared):Prop:=∃O σ H ea T C,e = .ref ea/\Inv X O σ H s'/\Xo s'.heap ea T C .none/\xY X O ea/\xY X O T/\H ea=none/\H T=none/\Φ C σ H
abbrev CI(X:Cx)(p:Ð)(Φ:Value->St->Hp->Prop):Cx:=(X.bU p).dP<|Cgt (X.bU p) Φ
variable{Φ:Value->St->Hp->Prop}{p:Ð}
def x2q(hex:X.ex=[]):MT (XF X.U X.w) (CI X p Φ) σ (λC _ H'=>Φ C σ H'):=by
 rintro O H s e s' I ⟨ea,T,C,H',rfl,hE,os,bare,un,aF,x,n1,n2,n3,n4⟩;have I2:=I.call' os un aF bare (λb z=>absurd z<|by simp);have J:=I.bN;exact⟨O,σ,H',ea,T,C,rfl,I2.bN,x,MU J hex n1,MU J hex n2,n3,n4,hE⟩
abbrev g7(X:Cx)(p:Ð)(ea:Addr):Cx:={X with A:=X.A.mark<|some<|.ref ea,calm:=false,pn:=X.pn++p,xe:=λ_ _=>False}
variable{ea:Addr}
def Inv.hd(I:Inv (X.bU p) O σ H s):Inv (g7 X p ea) O σ H s:=
 ⟨⟨I.ok.mod,I.ok.kind,I.ok.glob,I.ok.blt,I.ok.above,I.ok.inj,I.ok.has,I.ok.mw,(λz=>(nomatch z)),I.ok.frames,I.ok.lI,I.ok.sG,I.ok.bs,I.ok.jH,I.ok.fN,I.ok.gE,I.ok.cF,I.ok.lJ⟩,I.os,I.bare,I.Z,I.loc,I.cell,I.free,I.bC,I.pin,I.aF,I.len⟩
def Inv.MV{x5:Ð}(I:Inv (g7 X p ea) O σ H s)(hc:X.calm=true->X.A.handled=none):Inv (X.bU p) O σ H s:=
 ⟨⟨I.ok.mod,I.ok.kind,I.ok.glob,I.ok.blt,I.ok.above,I.ok.inj,I.ok.has,I.ok.mw,hc,I.ok.frames,I.ok.lI,I.ok.sG,I.ok.bs,I.ok.jH,I.ok.fN,I.ok.gE,I.ok.cF,I.ok.lJ⟩,I.os,I.bare,I.Z,I.loc,I.cell,I.free,I.bC,I.pin,I.aF,I.len⟩
def Inv.rX{O:Ð}(I:Inv X p σ H s):Inv (X.bU p) [] σ H s:=
 ⟨⟨I.ok.mod,I.ok.kind,I.ok.glob,I.ok.blt,I.ok.above,I.ok.inj,I.ok.has,I.ok.mw,I.ok.hd,I.ok.frames,I.ok.lI,I.ok.sG,I.ok.bs,I.ok.jH,I.ok.fN,I.ok.gE,I.ok.cF,I.ok.lJ⟩,I.os,I.bare,I.Z,I.loc,I.cell,I.free,I.bC,λq hq=>I.pin q (by simpa using hq),I.aF,I.len⟩
def Inv.jg(I:Inv (X.bU p) O σ H s):Inv X p σ H s:=
 ⟨⟨I.ok.mod,I.ok.kind,I.ok.glob,I.ok.blt,I.ok.above,I.ok.inj,I.ok.has,I.ok.mw,I.ok.hd,I.ok.frames,I.ok.lI,I.ok.sG,I.ok.bs,I.ok.jH,I.ok.fN,I.ok.gE,I.ok.cF,I.ok.lJ⟩,I.os,I.bare,I.Z,I.loc,I.cell,I.free,I.bC,λq hq=>I.pin q<|Az _ hq,I.aF,I.len⟩
def uj(K:PySem.W.Frag)(C S:Addr):Bool:=match K.lookup C with
 | some ⟨_,_,.cls cd,_⟩=>cd.mro.contains<|.ref S
 | _=>false
variable{nid:String}{dd:Option Addr}{col:Option Bool}{sn:Ñ}{hdct:Bool}{S:Addr}
def q8r(X:K.In h)(q:uj K C S=true){nm qn:Str}{N:Addr}{bs bm:Ó}{sub:Ó}{ab:Bool}{k0 k1 k2 k3 k5:Option Value}
  (oC:h.get? C=some (excClassObj nm qn C N bs bm hdct sn sub ab col dd k0 k1 k2 k3 k5 nid)):(Value.ref C :: bm).contains (.ref S)=true:=by
 unfold uj at q
 split at q
 ·rename_i ho;have:=(X _ _ ho).symm.trans oC;cases this;exact q
 ·cases q
def k8o{e:Addr}{Q:Bool->Shared->Prop}(X:K.In s.heap)(hC:XC K C)(hS:XC K S)(hm:uj K C S=true)(he:s.heap.get? e=some oe)(hc:oe.cls = .ref C)(h:Q true s):wpAny M A (excMatches (.ref e)<|.ref S) Q E s:=by
 obtain⟨bm,N,nm,qn,bs,hdct,sn,sub,ab,col,dd,k0,k1,k2,k3,k5,mN,oC,oN,oi,oT⟩:=hC.obj X;obtain⟨bm',N',nm',qn',bs',V3,sn',x0H,ab',x0I,jo,k0',G',k2',k3',k5',mN',oS,oN',oi',oT'⟩:=hS.obj X;have c1:=q8r X hm oC;have c2:(Value.ref S :: bm').contains (.type "BaseException")=true:=by rw[List.contains_cons,oT'.hasType PySem.F.excBase_ValueError.hasBase,Bool.or_true]
 have f:=tc_notTuple;obtain⟨hh,g,d,tk,os⟩:=s;unfold excMatches
 repeat (first | (with_reducible refine wpAny_loadPart_at he ?_;rw[hc]) | with_reducible refine wpAny_loadPart_at oS ?_ | (with_reducible refine wpAny_isSubtype_exc oS ?_;rw[c2]) | (with_reducible refine wpAny_isSubtype_exc oC ?_;rw[c1]) | wp_step)
 exact h
def Inv.cE{i:Nat}{n:Str}{pos:Pos}(I:Inv X O σ H s)(hN:X.N.Nodup)(hi:X.N[i]?=some n)(hl:X.env.scope.names.lookup n=some .local)
  (h:∀ s',Inv X O (σ.set i none) H s'->Q () s'):wpAny M A (do bindName X.env n .none;unbindBehindTheSuite X.env n pos) Q E s:=by
 obtain⟨m,hn,MX⟩:=id I.loc;have pR:(X.env.scope.kind == .class || (X.env.scope.kind == .module && X.env.locals != X.env.globals))=false:=by rw[I.ok.kind];rfl
 have hiσ:i < σ.length:=by rw[I.len];exact(Ac.mp hi).1
 obtain⟨oL,_,_,jI,_⟩:=id hn;refine wpAny_nameGoes_keeps hl hn pR λh' v oB hs=>h _ ?_;have low:∀ b o,X.æ.heap.get? b=some o->b≠X.env.locals:=λb o q=>Bi<|Bf (Ap q) I.ok.above;refine⟨I.ok,I.os,I.bare,⟨λb o q n' hb hx=>(hs.2 b<|low b o q).trans<|I.Z.keep b o q n' hb hx,λb o q n' hb hx=>?_,I.Z.free,λb o q hx=>?_,I.Z.eJ,I.Z.dN,I.Z.eN⟩,⟨_,oB,λj y v' e1 e2 e3=>?_⟩,λy c q=>?_,I.free,I.bC,λp hp=>?_,λb u q=>?_,by rw[List.length_set];exact I.len⟩
 ·obtain⟨sl,z⟩:=I.Z.slot b o q n' hb hx;exact⟨sl,(hs.2 b<|low b o q).trans z⟩
 ·obtain⟨o',z⟩:=I.Z.there b o q hx;exact⟨o',(hs.2 b<|low b o q).trans z⟩
 ·by_cases hj:j=i
  ·subst hj;rw[Gc hiσ]at e2;cases e2
  ·rw[Go<|CG hj]at e2;obtain⟨u,r,q⟩:=MX j y v' e1 e2 e3;refine⟨u,r,?_⟩
   rcases q with ⟨k,z⟩ | ⟨k,c,z,w⟩
   ·have:y≠n:=λz=>hj<|DV hN e1<|z ▸ hi;exact .inl ⟨k,by simp[this,z]⟩
   ·exact .inr ⟨k,c,z,w.sameBut hs<|I.j4 y c z⟩
 ·obtain⟨v2,z⟩:=I.cell y c q;exact⟨v2,z.sameBut hs<|I.j4 y c q⟩
 ·obtain⟨e,n',ne,nf,d⟩:=I.pin p hp;exact⟨(hs.2 p.1 ne).trans e,n',ne,nf,d⟩
 ·refine(I.aF b u q).fK (λc w' hc z=>(hs.2 c ?_).trans z) (λ_ z=>z) λ_ _ z=>z;rintro rfl
  rcases hc with hc | hc
  ·rw[<- hc,I.free]at q;cases q
  ·rw[I.free]at hc;cases hc
def q91(X:Cx)(D:Ends)(rest:Õ)(i:Nat):Ends:={nx:=λσ H=>Run X rest D (σ.set i none) H,rt:=D.rt,bk:=λσ H=>D.bk (σ.set i none) H,ct:=λσ H=>D.ct (σ.set i none) H}
variable{Ë:Stmt}
def q5n{rest body pK:Õ}{n:Str}{np hp pos:Pos}(i:Nat)(Φ:Value->St->Hp->Prop)(hm:X.mg x=some (.ref S))(hS:XC X.K S)(hN:X.N.Nodup)
  (hb:∀ p,Run (CI X p Φ) body {D with nx:=λσ' H'=>Run X rest D σ' H'} σ H)
  (hh:∀ C σ' H',Φ C σ' H'->∃ Ca,C = .ref Ca/\XC X.K Ca/\uj X.K Ca S=true/\∀ p ea oe,CH oe C->H' ea=none->Run (g7 X p ea) (Ë :: pK) (q91 X D rest i) (σ'.set i<|some<|.ref ea) (upd H' ea<|XO oe))
  (hi:X.N[i]?=some n:=by rfl) (hl:X.env.scope.names.lookup n=some .local:=by rfl) (hex:X.ex=[]:=by rfl) (cP:X.stack=X.env :: X.outer:=by rfl) (i0:X.env.frame=some X.env.locals:=by rfl)
  (uE:X.fn n=true\/X.env.scope.names.lookup n=some .local:=by first | exact .inl rfl | exact .inr rfl) (hg:Gl X x:=by rfl) (cQ:(x == ("__debug__" : Str))=false:=by decide) :
  Run X (.Try body [.ExceptHandler (some<|.Name x np) (some n) (Ë :: pK) hp] [] [] pos :: rest) D σ H:=by
 refine jL (t:=λD' σ H=>∀ p,Run (CI X p Φ) body {D with nx:=λσ' H'=>Run X rest D σ' H'} σ H/\D'={D with nx:=λσ' H'=>Run X rest D σ' H'}) ?_ λp=>⟨hb p,rfl⟩;intro p0 s σ H D' I h;obtain⟨hb,rfl⟩:=h p0;refine wpAny_Try_except<|CT (hb.run [] s<|(I.rX (O:=[])).dP _) (λf s1 q=>?_) λe s1 q=>?_
 ·have out:∀{pp:Ð} {σ':St} {H':Hp},Inv (CI X p0 Φ) pp σ' H' s1->Inv X p0 σ' H' s1:=λJ=>(J.bN).jg;cases f with
  | next=>
   obtain⟨σ',H',J,q⟩:=q;exact Pa p0 s1 σ' H' _ (out J) q
  | brk=>obtain⟨σ',H',J,q⟩:=q;exact⟨σ',H',out J,q⟩
  | cont=>obtain⟨σ',H',J,q⟩:=q;exact⟨σ',H',out J,q⟩
  | ret u=>obtain⟨v,σ',H',J,r,q⟩:=q;exact⟨v,σ',H',out J,r,q⟩
 ·obtain⟨pp,σ',H',ea,T,C,rfl,J,x1,a1,a2,n1,n2,hΦ⟩:=q;obtain⟨Ca,rfl,hC,qo,MY⟩:=hh C σ' H' hΦ;have fr:(X.bU p0).A.frames=some (X.env :: X.outer):=by rw[<- cP];exact J.ok.frames
  have lI:s1.heap.FunFrames X.Z (X.env :: X.outer):=by rw[<- cP];exact J.stack
  refine q5q fr lI i0 x1 λh2 T' z x2 k=>?_;have k':Kp (dF (X.bU p0).stack) [ea,T] s1.heap h2:=by
   show Kp (dF X.stack) [ea,T] s1.heap h2;rw[cP];exact k
  have J2:Inv (X.bU p0) pp σ' H' {s1 with heap:=h2}:=J.kp (t':=s1.toks) hex k' (λb hb=>by
   rcases Al.mp hb with y | y
   ·rwa[y]
   ·rwa[Af.mp y]) (λb hb=>by
   rcases Al.mp hb with y | y
   ·rwa[y]
   ·rwa[Af.mp y])
  have a3:=MU J hex z;have n3:H' T'=none:=MO J.aF z;have J3:Inv (g7 X p0 ea) pp σ' H' {s1 with heap:=h2}:=J2.hd;obtain⟨⟨oe,vs,he,hc,rW,hd,h1,oM⟩,bA,MZ⟩:=id x2;refine wpAny_handleBy_cons (codeAny_handlers_test<|uG J3 hg hm ?_ cQ) (by intro q;cases q);refine k8o J3.fh hC hS qo he hc ?_;refine codeAny_handlers_suite_as<|k57 x2 λh3 x3 k3=>?_;have J4:Inv (g7 X p0 ea) pp σ' H' {s1 with heap:=h3}:=J3.kp (s:={s1 with heap:=h2}) (t':=s1.toks) (bad:=[T']) hex ⟨λb o q _ nb=>k3 b o (λy=>nb<|by simp[y]) q,λb o q hb=>⟨o.slots,k3 b o (λy=>by
   obtain⟨_,o',cW,oB⟩:=J3.stack.mem hb;obtain⟨oT,ts,hT,dT,_⟩:=MZ;rw[y]at cW;have:=cW.symm.trans hT;cases this;exact oB _ dT) q⟩⟩ (λb hb=>by rw[Af.mp hb];exact⟨a3.l,a3.c,a3.p,a3.f,a3.s⟩) λb hb=>by rwa[Af.mp hb]
  obtain⟨⟨V4,vs3,V5,hc3,M0,hd3,CM,x6⟩,_,_⟩:=x3;have J5:Inv (g7 X p0 ea) pp σ' (upd H' ea<|XO V4) {s1 with heap:=h3}:=J4.xZ hex ⟨a1.l,a1.c,a1.p,a1.f,a1.s⟩ n1 ⟨V5,⟨_,V5⟩⟩;refine uF (X:=g7 X p0 ea) J5 hN hi (Or.inl hl) (v:= .ref ea) rfl (λs4 J6=>?_) uE;refine CT ((MY p0 ea V4 ⟨hc3,M0,vs3,hd3,x6⟩ n1).run pp s4 J6) (λf s5 q=>?_) λ_ _ z=>z.elim;have out:∀{σ2:St} {H2:Hp} {s6:Shared},Inv (g7 X p0 ea) pp σ2 H2 s6->Inv X p0 σ2 H2 s6:=λJ=>((J.MV (x5:=[]) J2.ok.hd).jg);cases f with
  | next=>
   obtain⟨σ2,H2,J7,q⟩:=q;exact J7.cE hN hi hl λs6 J8=>⟨_,H2,out J8,q⟩
  | brk=>
   obtain⟨σ2,H2,J7,q⟩:=q;exact J7.cE hN hi hl λs6 J8=>⟨_,H2,out J8,q⟩
  | cont=>
   obtain⟨σ2,H2,J7,q⟩:=q;exact J7.cE hN hi hl λs6 J8=>⟨_,H2,out J8,q⟩
  | ret u=>
   obtain⟨v,σ2,H2,J7,r,q⟩:=q;exact J7.cE hN hi hl λs6 J8=>⟨v,_,H2,out J8,r,q⟩
open PySem.W
variable{U:Program}
section
variable{K:Frag}{a:Addr}{o:Obj}
def nW(K:Frag)(C:Addr):Bool:=findIn K (.ref C) "__getattribute__" == some (some<|.builtin "BaseException.__getattribute__") && findIn K (.ref C) "__getattr__" == some none && findIn K (.ref C) "__class__" == some (some<|.builtin "object.__class__") &&
 mroIn K C (.type "object") == some true && mroIn K C (.type "BaseException") == some true && (clsIn K C).isSome
def q3a{Q:Option Value->Shared->Prop}(X:K.In s.heap)(I:InstAt s.heap a o C none)(q:nW K C=true)(hq:Q (⇑C) {s with toks:=s.toks+1}):wpAny (model U w) A (getAttr? (.ref a) "__class__") Q E s:=by
 unfold nW at q;simp only[Bq,JD]at q;obtain⟨⟨⟨⟨⟨h1,h2⟩,h3⟩,h4⟩,h5⟩,_⟩:=q;obtain⟨hh,g,d,t,os⟩:=s;have L0:=I.type (M:=model U w);have L1:=looks_findIn (M:=model U w) X h1;have L2:=looks_findIn (M:=model U w) X h2;have L3:=looks_findIn (M:=model U w) X h3;have L5:=looks_mroIn (M:=model U w) X h5;unfold getAttr? getAttrBy? getAttrBy;refine BJ<|wpAny_mkText<|BJ<|JQ<|CJ<|BJ<|L0.at (BJ<|L1.at ?_);show wpAny _ _ (getAttrByItsOwn _ _ _ _ _ _) _ _ _;unfold getAttrByItsOwn hookBefore callGetattribute boundAndCalled;have f3:=F.attr_ValueError.ga.bind<|.ref a;refine BJ ?_;show wpAny _ _ (typeLookup (.ref C) "__getattr__") _ _ _;refine L2.at ?_;refine BJ<|JQ<|CJ ?_;rw[BK<|∅];rw[f3];refine BJ<|BL ?_;refine RT<|QD F.attr_ValueError.ga.plain F.entry_bexc_ga ?_;have hk:builtinKind "BaseException.__getattribute__" = some .slot:=by decide +kernel
 have dG:splitId "BaseException.__getattribute__" = some ("BaseException","__getattribute__"):=by decide +kernel
 have ha:=F.args_bexc_ga (.ref a)<|.str "__class__" t;simp only[checkBuiltinCall,hk,dG];refine BJ ?_;unfold isInstance;have LB:Looks (model U w) hh (isSubtype (.ref C)<|.type "BaseException") true:=L5
 repeat lk
 have hid:(toString "getset_descriptor"++toString "."++toString (Str.ofString "__get__").toString:String) = "getset_descriptor.__get__":=by decide +kernel
 rw[hid];refine wpAny_run (c:= .call (.builtin "getset_descriptor.__get__") ⟨[.builtin "object.__class__",.ref a,.ref C],[]⟩) (h:=none) ?_;refine class_get (s:=⟨hh,g,d,t+1,os⟩) (K:=K) X I h4 ?_
 repeat lk
 exact hq
def V6(q:nW K C=true):KitX K (.ref a) (.ref C) (λh=>∃ o,InstAt h a o C none) where
 ty:=λ_ _ _ ⟨_,I⟩=>I.type
 it:=λ_ _ X _=>by
  unfold nW at q;rw[Bq]at q;have z:=q.2;unfold clsIn at z
  split at z
  ·rename_i ho;intro A' Q' E' s' k r;unfold isType loadHead;exact BJ<|wpAny_loadPart (k _ _<|X _ _ ho)<|BL r
  ·cases z
 ne:=λh tp dd è n sl X x8=>by
  unfold nW at q;rw[Bq]at q;have z:=q.2;refine Dk.mpr λy=>?_;have e:=Value.ref.inj<|beq_iff_eq.mp y;subst e;unfold clsIn at z
  split at z
  ·rename_i ho;cases (X _ _ ho).symm.trans x8
  ·cases z
 ca:=λX ⟨_,I⟩ k=>q3a X I q k
end
end L2
namespace L2
open PySem PySem.Spec PyProof.Rows
def V7{h:Heap}{ea C:Addr}{oe:Obj}(he:h.get? ea=some oe)(x:CH oe<|.ref C):PySem.W.InstAt h ea oe C none:=by
 obtain⟨vs,hd,_⟩:=x.data;refine⟨he,x.cls,?_,?_⟩
 ·unfold PySem.W.notCls;rw[hd]
 ·rw[x.dict];exact True.intro
variable{X:Cx}
def V8:fE X (.builtin "isinstance") (λxs H Q=>∃ ea C oe c v b,xs=[.ref ea,v]/\(∀ u,RelV v u->u=c)/\H ea=some (XO oe)/\CH oe (.ref C)/\nW X.K C=true/\PySem.W.kitOne X.K (.ref C) c=some b/\Q (.bl b) H):=by
 intro O s σ H xs us Q I r h;obtain⟨ea,C,oe,c,v,b,rfl,hv,hH,ix,hl,e,q⟩:=h;obtain⟨u,w',rfl,ru,d9⟩:=vals2 r;cases (show u=Value.ref ea from ru);cases hv _ d9;have he:=(show aB X.U X.w H s.heap ea (XO oe)from I.aF ea _ hH).1;exact EY (V6 hl) I.fh ⟨oe,V7 he ix⟩ e (λz=>nomatch z) λtk=>⟨.bl b,H,I.tok tk,rfl,q⟩
variable{E:Î}{U:Program}
variable{tg:Expr}
variable{wi:TI}{N':Ñ}{scope:Scope}{ifs:Ô}
variable{T:Bool->Hp->Prop}{Q:VK}{H:Hp}{σ:St}
variable{es:Ô}{sp:Addr->Obj->Sp}{ps:Ñ}
end L2
namespace Q1
open PySem L2 Nt bD bK
open PyProof.Rows (sortedS)
def rY:Sp:=λvs H Q _=>∃R as n,vs=[.ref R]/\al H R as n/\n.length<=1000/\(ag n).length<=900/\(∀ zs:Ñ,zs.Nodup->(∀ z∈zs,z∈ag n)->zs.length < 64) /\
 ∀L ss H',ah H H'->H L=none->H' L=some (Ls ss)->ss.Nodup->sortedS ss=true->(∀ z,z∈ss↔z∈ag n)->Q (.ref L) H'
variable{zs:Ñ}
def k22{z:Str}(h:zs.Nodup):(added zs z).Nodup:=by
 unfold added
 split
 ·exact h
 ·rename_i hz;exact lQ h hz
def k7y{z y:Str}:y∈added zs z↔y∈zs\/y=z:=by
 unfold added
 split
 ·rename_i hz;refine⟨.inl,λh=>h.elim id λe=>?_⟩;rwa[e]
 ·rw[An,Af]
def V9{n:Net}{r:Nat}(h:r < n.length):ag (n.take<|r+1)=ag (n.take r)++row n r:=by
 rw[ic h];unfold ag;rw[Bx,Ab h,Dj];simp
def cB:Ñ:=["NoWalker","NoDouble","NoTie"]
structure Cl(K:PySem.W.Frag)(mg:Ò)(c:Str->Addr):Prop where
 net:mg "NetError" = some (.ref<|c "NetError")
 M1:XC K<|c "NetError"
 at':∀ x∈cB,mg x=some (.ref<|c x)/\XC K (c x)/\uj K (c x) (c "NetError")=true/\nW K (c x)=true/\PySem.W.kitOne K (.ref<|c x) (.type "ValueError")=some true
 M3:∀ x∈cB,∀ y∈cB,PySem.W.kitOne K (.ref<|c x) (.ref<|c y)=some (decide (x=y))
def jE(K:PySem.W.Frag)(x:Str):Addr:=match PySem.W.nsIn K mainGlobals x with
 | some (⇑a)=>a
 | _=>0
def M4(K:PySem.W.Frag):Bool:=(PySem.W.nsIn K mainGlobals "NetError" == some (some<|.ref<|jE K "NetError")) && PySem.W.excIn K (jE K "NetError") nV "ValueError.__new__" &&
 cB.all λx=>(PySem.W.nsIn K mainGlobals x == some (some<|.ref<|jE K x)) && PySem.W.excIn K (jE K x) nV "ValueError.__new__" && uj K (jE K x) (jE K "NetError") && nW K (jE K x) && (PySem.W.kitOne K (.ref<|jE K x) (.type "ValueError") == some true) &&
  cB.all λy=>PySem.W.kitOne K (.ref<|jE K x) (.ref<|jE K y) == some (decide (x=y))
variable{mg:Ò}{K:PySem.W.Frag}
def x2u{h:Heap}(X:K.In h)(G:h.Ns mainGlobals mg)(q:M4 K=true):Cl K mg (jE K):=by
 unfold M4 at q;simp only[Bq,De,JD]at q;obtain⟨⟨q1,q2⟩,q3⟩:=q;exact⟨NZ X G q1,q2,λx hx=>by obtain⟨⟨⟨⟨⟨a1,a2⟩,a3⟩,a4⟩,a5⟩,_⟩:=q3 x hx;exact⟨NZ X G a1,a2,a3,a4,a5⟩,λx hx y hy=>(q3 x hx).2 y hy⟩
def Few(n:Net):Prop:=∀ zs:Ñ,zs.Nodup->(∀ z∈zs,z∈ag n)->zs.length < 64
variable{Z:Heap}{fd:FuncData}
section
variable{P:Program}{w:World}
abbrev x9:Ñ:=["rows"]
abbrev ya:Ñ:=["rows","point","ties","tie"]
def lr:ak x9 ["rows"] (aP zW):=bZ
def M5:ya.Nodup:=by decide +kernel
theorem q54{f:Addr}(F:bo K "ties_of" "ties_of" zW f fd)(T:Txt mg):aD P w K mg Z bz 1 f fd ["rows"] rY:=by
 refine F.gc lr λb0 H vs Q E hr h=>?_;obtain⟨R,as,n,rfl,hR,hn,ht,dB,q⟩:=h;have b4:=hR.len;have M6:∀ r,r < n.length->∀ z,z∈ag (n.take r)\/z∈row n r->z∈ag n:=λr kR z hz=>by
  have e:ag n=ag (n.take<|r+1)++ag (n.drop<|r+1):=by
   unfold ag;rw[<- Dj,Db]
  rw[e,V9 kR]
  rcases hz with h | h <;> simp[h]
 refine bQ<|bP (Ry rfl) T.sorted CW<|ai<|q0r (aP zW) x9 ya 3 (eB bd)<|ae 0 ⟨R,rfl,⟨_,aj.of hR.lst⟩,λD hD cl C æ ç ex=>?_⟩;refine w6 (xs:=as.map λa=>V.ref a.1) (λr σ' H'=>(∃ v1 v2 v3,σ'=[⇑R]++[v1,v2,v3])/\∃ zs:Ñ,ah H H'/\H' D=some (bj P w D zs)/\zs.Nodup/\∀ z,z∈zs↔z∈ag (n.take r)) ⟨⟨none,none,none,rfl⟩,[],aM hD _,av,Cn,λz=>WM⟩ ?_ ?_ ?_
 ·rintro r σ' H' _ ⟨_,zs,sm,_⟩;exact aj.of<|sm _ _ hR.lst
 ·rintro r x σ' H' hx ⟨⟨v1,v2,v3,rfl⟩,zs,sm,eD,zn,zm⟩;have hi:r < n.length:=by
   have:=(Ac.mp hx).1;rw[Aa]at this;omega
  obtain⟨a,ea,fA,et,el,er⟩:=(hR.same sm).at hi;rw[Ah,ea]at hx;cases hx;refine jT rfl (aS.of et) (a8 1 M5<|a8 2 M5 ?_);refine iA ?_;rw[BP rfl];refine q0h rfl rfl (eB bd) (ae 2 ⟨a.2,rfl,⟨_,aj.of el⟩,?_⟩);have naD:=bV el eD λz=>nomatch z;refine w6 (xs:=(row n r).map V.str) (λp σ' bS=>(∃ v3,σ'=[⇑R]++[some<|.str n[r].1,some<|.ref a.2,v3])/\∃ zs:Ñ,(∀ b o,b≠D->H' b=some o->bS b=some o)/\bS D=some (bj P w D zs)/\zs.Nodup/\∀ z,z∈zs↔z∈ag (n.take r)\/z∈(row n r).take p)
   ⟨⟨_,rfl⟩,zs,λb o _ h=>h,eD,zn,λz=>by rw[zm z];simp⟩ ?_ ?_ ?_
  ·rintro p σ' bS _ ⟨_,zs,kb,_⟩;exact aj.of<|kb _ _ naD el
  ·rintro p x σ' bS hx ⟨⟨v3,rfl⟩,zs,kb,dY,CO,CU⟩;rw[Ah,Ar]at hx;obtain⟨z,hz,rfl⟩:=hx;refine a8 3 M5<|iA ?_;rw[BP rfl];have hl:=dB zs CO λy hy=>M6 r hi y<|((CU y).mp hy).imp id λh=>List.mem_of_mem_take h;refine k9n (ae 3 ⟨z,zs,rfl,dY,⋯,⟨_,rfl⟩,added zs z,λb o hb h=>by rw[au hb];exact kb b o hb h,av,k22 CO,λy=>?_⟩);rw[k7y,CU y,Bx,hz,or_assoc];simp
  ·rintro σ' bS ⟨⟨v3,rfl⟩,zs,kb,dY,CO,CU⟩;refine⟨⟨_,_,_,rfl⟩,zs,λb o h=>kb b o (bh h hD)<|sm _ _ h,dY,CO,λz=>?_⟩;rw[CU z,Aa,Br,V9 hi,An]
 ·rintro σ' H' ⟨_,zs,sm,eD,zn,zm⟩;rw[Aa,b4,Br]at zm;refine ax ⟨D,zs,rfl,eD,dB zs zn λy hy=>(zm y).mp hy,λl ss hl hp hs=>?_⟩;exact q l ss _ (sm.trans<|aM hl _) (jV sm hl) av (hp.nodup_iff.mpr zn) hs λz=>by rw[hp.mem_iff,zm z]
end
end Q1
namespace Q1
open PySem L2 Nt bD
open PyProof.Rows (sortedS)
def M7:Sp:=λvs H Q _=>∃R W as n ts es,vs=[.ref R,.ref W]/\al H R as n/\(n.map (·.1)).Nodup/\n.length<=1000/\(ag n).length<=1000/\H W=some (.lst<|ts.map V.ref)/\fb n H ts es/\(∀ e∈es,e∈ends n)/\es.length<=1000/\(∀ l:Ñ,l.Nodup->(∀ z∈l,z∈es.map (ay n))->l.length < 64) /\
 ∀l ss H',ah H H'->H l=none->H' l=some (Ls ss)->cD ss->(∀ z,z∈ss↔(es.map<|ay n).count z=1)->Q (.ref l) H'
variable{Z:Heap}{mg:Ò}{K:PySem.W.Frag}{fd:FuncData}{f:Addr}
section
variable{P:Program}{w:World}
abbrev M8:Ñ:=["rows","walker","names","gone"]
abbrev yb:Ñ:=["rows","walker","names","gone","end"]
abbrev yc:Ñ:=["rows","walker","names","gone","tie"]
def yd:ak M8 ["rows","walker"] (aP vT):=bZ
def q90:yb.Nodup:=by decide +kernel
def q9b:yc.Nodup:=by decide +kernel
theorem q6s(F:bo K "core_of" "core_of" vT f fd)(T:Txt mg)
  (GT:aQ P w K mg Z 2 "ties_by_end" ["rows"] nJ):aD P w K mg Z bz 3 f fd ["rows","walker"] M7:=by
 refine F.gc yd λb0 H vs Q E hr h=>?_;obtain⟨R,W,as,n,ts,es,rfl,hR,hN,hn,iN,hW,hE,qS,hle,ll,q⟩:=h;have nd:=yd.nd;have cj:=hr.u1;have hl:=hE.1;refine aT 2 nd<|bG GT hr<|ai<|ae 0<|ax ⟨R,as,n,rfl,hR,hN,hn,iN,λd Y H1 s1 Jt ed qm=>?_⟩;have V':=s1 _ _ hW;have hE1:=hE.same s1;refine aT 3 nd<|gu (aP vT) M8 yb 1 (eB bd)<|ae 1 ⟨W,rfl,⟨_,aj.of V'⟩,λD hD=>?_⟩;refine jS (xs:=ts.map V.ref) (λi σ' H'=>(∃ v,σ'=[⇑R,⇑W,⇑d,none]++[v])/\ah H1 H'/\H' D=some (Ls<|(es.take i).map<|ay n)) ⟨⟨none,rfl⟩,aM hD _,av⟩ ?_ ?_ ?_
 ·rintro i σ' H' _ ⟨_,sm,_⟩;exact aj.of<|sm _ _ V'
 ·rintro i x σ' H' hx ⟨⟨v,rfl⟩,sm,eD⟩;rw[Ah,Ar]at hx;obtain⟨t,ht,rfl⟩:=hx;have hi:i < es.length:=by have:=(Ac.mp ht).1;omega
  have he:=Ab hi;have me:es.take (i+1)=es.take i++[es[i]]:=by rw[Bx,he];rfl
  generalize nN:es[i]=e at he me;have mh:=sm _ _<|hE1.2 i t e ht he;have tQ:=qS e<|At he;obtain⟨z,hz⟩:=af.mp tQ;have k6:=dJ hz;intro cl C æ ç ex;refine a8 4 q90 ?_;intro cl C æ ç ex;refine iA ?_;rw[BP rfl];intro cl C æ ç ex;refine eU cj<|ae 2<|ae 4 ⟨d,.str z,rfl,(by rw[<- qm e z hz];exact aX.t (sm _ _ ed) mh),_,eD,?_,⟨_,rfl⟩,cX sm hD,?_⟩
  ·rw[Aa,Aa,Bh];exact bI<|⋯
  ·rw[av,me,Aj];show some (HO.lst<|((es.take i).map<|ay n).map V.str++[V.str z])=some (HO.lst<|((es.take i).map (ay n)++[ay n e]).map V.str);rw[Aj];show some (HO.lst<|((es.take i).map<|ay n).map V.str++[V.str z])=some (HO.lst<|((es.take i).map<|ay n).map V.str++[V.str<|ay n e]);rw[k6]
 rintro σ' H' ⟨_,sm,eD⟩;have rT:es.take (ts.map V.ref).length=es:=Ck (by rw[Aa];omega);rw[rT]at eD;generalize MH:es.map (ay n)=L at eD ll q;have K6:L.length<=1000:=by rwa[<- MH,Aa]
 refine bQ<|bP vM T.sorted CW<|ai<|gu (aP vT) M8 yc 1 (eB bd)<|ae 3 ⟨D,rfl,⟨_,aj.of eD⟩,λD3 rV=>?_⟩;have n3:D≠D3:=bh eD rV;refine qO (λz=>decide (L.count z=1)) (bI<|⋯) eD rV (λcl C s0 H0 ex v v0 H' R' h=>a8 4 q9b h) (λcl C s0 H0 ex z zs T' h=>hU<|cH jl<|zF DW TV TX VA<|ae 3 (v:= .ref D) ⟨Or.inl ⟨rfl,_,aj.of<|by rwa[au n3]⟩,ae 4 ⟨D,L,z,rfl,rfl,aj.of (by rwa[au n3]),aE ⟨rfl,_,rfl,?_⟩⟩⟩) (λcl C s0 H0 ex z H' R' h=>ae 4 h) ?_
 ·have ek:decide (V.int (L.count z:Int)=V.int 1)=decide (L.count z=1):=decide_eq_decide.mpr ⟨λk=>by have:=V.int.inj k;omega,λk=>by rw[k];rfl⟩;show T' (decide (V.int (L.count z:Int)=V.int 1)) _;rwa[ek]
 refine ax ⟨D3,_,rfl,aj.of av,ll _ (CF L) λz hz=>(Bg.mp hz).1,λl ss g9 db gP=>?_⟩;have s3:=s1.trans<|sm.trans<|aM rV<|Ls<|L.filter λz=>decide (L.count z=1);exact q l ss _ (s3.trans<|aM g9 _) (s3.free g9) av (tX gP<|db.nodup_iff.mpr<|CF L) λz=>by rw[db.mem_iff];exact VV L z
abbrev Lz(l:List Int):HO:= .lst<|l.map V.int
abbrev T3z(x:Nz.Bl Int):HO:= .tup [.int x.1,.int x.2.1,.bl x.2.2]
abbrev AtZ(H:Hp)(us:List Addr)(ls:List<|Nz.Bl Int):Prop:=li (Sum.inl:Int->Key) H us ls
abbrev M9:Sp:=Vq (Sum.inl:Int->Key)
def k5m(F:bo K "spread" "spread" vR f fd)(T:Txt mg):aD P w K mg Z bz 1 f fd ["first","links"] M9:=Vr (λ_ _ h=>Sum.inl.inj h) (λ_ _=>rfl) F T
end
end Q1
namespace Nt
open PySem L2
theorem Nb(z:Str):∀ L:Ñ,decide (L.count z % 2=1)=aC (L.map λy=>decide (z=y))
 | []=>rfl
 | y :: L=>by
  show _=(decide (z=y) ^^ aC (L.map λy=>decide (z=y)));rw[<- Nb z L,Dq]
  by_cases h:z=y
  ·subst h;rw[BW rfl,OJ,BP rfl,Bool.true_xor,<- decide_not];exact decide_eq_decide.mpr<|⋯
  ·rw[BR h,BK λq=>h (eq_of_beq q).symm,Gf];rfl
theorem Nc{α β:Type}(f:α->β->Bool)(M:List β):∀ L:List α,aC (L.map λa=>aC<|M.map λb=>f a b)=aC (M.map λb=>aC<|L.map λa=>f a b)
 | []=>(qY M).symm
 | a :: L=>by
  show(aC (M.map λb=>f a b) ^^ aC (L.map λa=>aC<|M.map λb=>f a b))=aC (M.map λb=>f a b ^^ aC (L.map λa=>f a b));rw[Nc f M L,kL (λb=>f a b) λb=>aC<|L.map λa=>f a b]
theorem map_range{α β:Type}(l:List α)(f:α->β)(g:Nat->β)(h:∀ k x,l[k]?=some x->g k=f x):l.map f=(List.range l.length).map g:=by
 apply Dv;intro k;rw[Ah,Ah]
 by_cases hk:k < l.length
 ·rw[Ab hk,Ek hk];exact BZ some (h k _<|Ab hk).symm
 ·rw[Bd ⋯,Bd<|by simp;omega];rfl
def q0j{α:Type}(l:List α)(f g:α->Bool)(h:∀ k,k < l.length->∃ x y,l[k]?=some x/\l[(k+1) % l.length]?=some y/\g x=f y):aC (l.map g)=aC (l.map f):=by
 let F:Nat->Bool:=λk=>match l[k]? with | some x=>f x | none=>false
 have hf:=map_range l f F λk x hk=>by show(match l[k]? with | some x=>f x | none=>false)=_;rw[hk]
 have hg:l.map g=(List.range l.length).map λk=>F ((k+1) % l.length):=map_range l g _ λk x hk=>by
  obtain⟨x',y,h1,h2,h3⟩:=h k (Ac.mp hk).1;rw[hk]at h1;cases h1;show(match l[(k+1) % l.length]? with | some x=>f x | none=>false)=_;rw[h2];exact h3.symm
 rw[hf,hg,Jw]
theorem Nf(F:Nat->Bool):∀ m,(∀ i,i < m->F (2 * i+1)=F (2 * i))->aC ((List.range<|2 * m).map F)=false
 | 0,_=>rfl
 | m+1,h=>by
  rw[show 2 * (m+1)=2 * m+1+1 by omega,Dc,Dc,Aj,Aj,ni,ni,Nf F m λi hi=>h i<|⋯];show((false ^^ (F (2 * m) ^^ false)) ^^ (F (2 * m+1) ^^ false))=false;rw[h m<|⋯];cases F (2 * m) <;> rfl
variable{e:End}{n:Net}
def Wa(T:aw n)(h:e∈ends n):step n (other n<|go (-1) n e)=other n e:=by
 have h1:=gB (c:=-1) T h;obtain⟨z,hz⟩:=af.mp h1;show left n (other n<|other n<|go (-1) n e)=_;rw[(dk T hz).2.1,AO h1];show dW 1 n (dW (-1) n<|other n e)=_;have:=o6 (c:=-1)<|dD T h;rwa[Int.neg_neg]at this
def di(n:Net)(w:List End)(z:Str):Bool:=decide ((w.map<|ay n).count z % 2=1)
variable{w:List End}
def q0i(T:aw n)(W:kI n w):fm n (di n w):=λr=>by
 have e1:(row n r).map (di n w)=(row n r).map λz=>aC (w.map λe=>decide (z=ay n e)):=Bo λz _=>by
  unfold di;rw[Nb,Cg];rfl
 rw[e1,Nc λz e=>decide (z=ay n e)];have e2:(w.map λe=>aC<|(row n r).map λz=>decide (z=ay n e))=w.map λe=>(decide (r=e.1) ^^ decide (r=(other n e).1)):=Bo λe he=>by
  obtain⟨z,hz⟩:=af.mp<|W.ends e he;rw[dJ hz];exact T6 T hz r
 rw[e2,kL (λe=>decide (r=e.1)) λe=>decide (r=(other n e).1)];rw[q0j w (λe=>decide (r=e.1)) (λe=>decide (r=(other n e).1)) λk hk=>by
  obtain⟨c,h1,h2⟩:=W.at' k hk;exact⟨c,_,h1,h2,rfl⟩]
 cases aC (w.map λe=>decide (r=e.1)) <;> rfl
variable{χ:End->Bool}
theorem k7i(T:aw n)(W:kI n w){t:Str->Bool}(h:a9 n t χ):aC (w.map λe=>t<|ay n e)=false:=by
 have e1:(w.map λe=>t<|ay n e)=w.map λe=>(χ e ^^ χ (other n e)):=Bo λe he=>by
  obtain⟨z,hz⟩:=af.mp<|W.ends e he;rw[dJ hz];exact h.dq e z hz
 rw[e1,kL χ λe=>χ<|other n e];obtain⟨m,hm⟩:∃ m,w.length=2 * m:=⟨w.length / 2,by have:=W.even;omega⟩;have a1:aC (w.map χ)=false:=by
  let F:Nat->Bool:=λk=>match w[k]? with | some x=>χ x | none=>false
  rw[map_range w χ F λk x hk=>by show(match w[k]? with | some x=>χ x | none=>false)=_;rw[hk],hm];refine Nf F m λi hi=>?_;obtain⟨c,h1,h2⟩:=W.at' (2 * i) ⋯;rw[Cf ⋯,show(1:Int) - 2 * (((2 * i:Nat):Int) % 2)=1 by omega]at h2;show(match w[2 * i+1]? with | some x=>χ x | none=>false)=(match w[2 * i]? with | some x=>χ x | none=>false);rw[h1,h2];have hc:=W.ends c<|At h1;show χ (go 1 n c)=χ c;rw[<- Tc T hc];exact h.go c hc
 have a2:aC (w.map λe=>χ<|other n e)=false:=by
  let F:Nat->Bool:=λk=>match w[k]? with | some x=>χ (other n x) | none=>false
  rw[map_range w (λe=>χ<|other n e) F λk x hk=>by show(match w[k]? with | some x=>χ (other n x) | none=>false)=_;rw[hk],<- Jw F,hm];refine Nf (λp=>F<|(p+1) % (2 * m)) m λi hi=>?_;obtain⟨c,h1,h2⟩:=W.at' (2 * i+1) ⋯;rw[hm,show(1:Int) - 2 * (((2 * i+1:Nat):Int) % 2)=-1 by omega]at h2;show(match w[(2 * i+1+1) % (2 * m)]? with | some x=>χ (other n x) | none=>false)=(match w[(2 * i+1) % (2 * m)]? with | some x=>χ (other n x) | none=>false);rw[h2,Cf (show 2 * i+1 < 2 * m by omega),h1];have hc:=W.ends c<|At h1;show χ (other n<|go (-1) n c)=χ (other n c);rw[<- Wa T hc];exact(h.go _<|dD T<|gB T hc).symm
 rw[a1,a2];rfl
def cf(zs:Ñ)(t s:Str->Bool):Bool:=aC<|zs.map λz=>t z && s z
def Wb(zs:Ñ)(t u s:Str->Bool):cf zs (λz=>t z ^^ u z) s=(cf zs t s ^^ cf zs u s):=by
 unfold cf;rw[<- kL (λz=>t z && s z) λz=>u z && s z]
 congr 1
 refine Bo λz _=>?_;show((t z ^^ u z) && s z)=_;cases t z <;> cases u z <;> cases s z <;> rfl
theorem Ng{s:Str->Bool}{y:Str}:∀{zs},zs.Nodup->y∈zs->cf zs (λz=>decide (z=y)) s=s y
 | z :: zs,hn,hy=>by
  have hn:=Bk.mp hn;show((decide (z=y) && s z) ^^ cf zs (λz=>decide (z=y)) s)=s y
  by_cases h:z=y
  ·subst h;have:cf zs (λx=>decide (x=z)) s=false:=by
    unfold cf;have e:(zs.map λx=>decide (x=z) && s x)=zs.map λ_=>false:=Bo λx hx=>by
     have ne:¬ x=z:=λq=>hn.1<|q ▸ hx;rw[BR ne];rfl
    rw[e,qY]
   rw[this,BW rfl];cases s z <;> rfl
  ·rw[BR h,Ng hn.2<|(Al.mp hy).resolve_left<|CG h];cases s y <;> rfl
variable{zs:Ñ}
theorem k98{n:Net}(hz:zs.Nodup){t:Str->Bool}:∀{L:Ñ},(∀ y∈L,y∈zs)->cf zs t (λz=>decide (L.count z % 2=1))=aC (L.map t)
 | L,hL=>by
  unfold cf;have e:(zs.map λz=>t z && decide (L.count z % 2=1))=zs.map λz=>aC (L.map λy=>t z && decide (z=y)):=Bo λz _=>by
   rw[Nb];cases t z
   ·show false=aC (L.map λ_=>false);rw[qY]
   ·rfl
  rw[e,Nc λz y=>t z && decide (z=y)]
  congr 1
  refine Bo λy hy=>?_;have:=Ng (s:=t) hz<|hL y hy;rw[<- this];unfold cf
  congr 1
  refine Bo λz _=>?_;rw[Bool.and_comm]
variable{ss:Ñ}
theorem Wc(T:aw n)(hN:(n.map (·.1)).Nodup)(hz:zs.Nodup)(hm:∀ z,z∈zs↔z∈ag n){x:Str}{b:Bool}(h:Way (dE n ss) (bn n) x b) :
  ∃ t:Str->Bool,(∀ r,r < n.length->aC ((row n r).map t)=(decide (aH n r=bn n) ^^ decide (aH n r=x)))/\cf zs t (λz=>decide (z∈ss))=b:=by
 have add:∀{x y}{o b},(∃ e z,aJ n e=some z/\((x=aH n e.1/\y=aH n (other n e).1)\/(y=aH n e.1/\x=aH n (other n e).1))/\o=decide (z∈ss))->(∃ t:Str->Bool,(∀ r,r < n.length->aC ((row n r).map t)=(decide (aH n r=bn n) ^^ decide (aH n r=x)))/\cf zs t (λz=>decide (z∈ss))=b) ->
   ∃ t:Str->Bool,(∀ r,r < n.length->aC ((row n r).map t)=(decide (aH n r=bn n) ^^ decide (aH n r=y)))/\cf zs t (λz=>decide (z∈ss))=(b != o):=by
  rintro x y o b ⟨e,z,cU,Sh,rfl⟩ ⟨t,h1,h2⟩;refine⟨λu=>t u ^^ decide (u=z),λr hr=>?_,?_⟩
  ·rw[kL t λu=>decide (u=z),h1 r hr,T6 T cU r];have e1:∀ i,i < n.length->decide (r=i)=decide (aH n r=aH n i):=λi hi=>decide_eq_decide.mpr ⟨λq=>by rw[q],λq=>tZ hN hr hi q⟩;rw[e1 _<|cS cU,e1 _<|pj T cU]
   rcases Sh with ⟨a1,a2⟩ | ⟨a1,a2⟩
   ·rw[<- a1,<- a2];cases decide (aH n r=bn n) <;> cases decide (aH n r=x) <;> cases decide (aH n r=y) <;> rfl
   ·rw[<- a1,<- a2];cases decide (aH n r=bn n) <;> cases decide (aH n r=x) <;> cases decide (aH n r=y) <;> rfl
  ·rw[Wb,h2,Ng hz<|(hm z).mpr<|eG cU]
 have lk:∀{x y:Str} {o:Bool},(x,y,o)∈dE n ss->∃ e z,aJ n e=some z/\((x=aH n e.1/\y=aH n (other n e).1))/\o=decide (z∈ss):=λ{x y o} hm=>by
  obtain⟨e,z,h1,h2⟩:=(wC).JI _ hm;exact⟨e,z,h1,⟨BZ (·.1) h2,BZ (·.2.1) h2⟩,BZ (·.2.2) h2⟩
 induction h with
 | here=>exact⟨λ_=>false,λr _=>by rw[qY];cases decide (aH n r=bn n) <;> rfl,by unfold cf;exact qY zs⟩
 | there _ ht ih=>
  obtain⟨e,z,h1,h2,h3⟩:=lk ht;exact add ⟨e,z,h1,.inl h2,h3⟩ ih
 | back _ ht ih=>
  obtain⟨e,z,h1,h2,h3⟩:=lk ht;exact add ⟨e,z,h1,.inr ⟨h2.1,h2.2⟩,h3⟩ ih
theorem k3m(T:aw n)(hg:ce n)(hN:(n.map (·.1)).Nodup)(h0:0 < n.length)(hz:zs.Nodup)(hm:∀ z,z∈zs↔z∈ag n)(hs:∀ z∈ss,z∈ag n)(Nh:∀ t,fm n t->cf zs t (λz=>decide (z∈ss))=false):∃ sd,bg n ss sd:=by
 classical
 have uniq:∀{x b c},Way (dE n ss) (bn n) x b->Way (dE n ss) (bn n) x c->b=c:=λ{x b c} h1 h2=>by
  obtain⟨t,t1,t2⟩:=Wc T hN hz hm h1;obtain⟨u,u1,u2⟩:=Wc T hN hz hm h2;have:=Nh (λz=>t z ^^ u z) λr=>by
   by_cases hr:r < n.length
   ·rw[kL t u,t1 r hr,u1 r hr];cases decide (aH n r=bn n) <;> cases decide (aH n r=x) <;> rfl
   ·have:row n r=[]:=by
     unfold row;rw[Bd<|⋯];rfl
    rw[this];rfl
  rw[Wb,t2,u2]at this;cases b <;> cases c <;> first | rfl | cases this
 have next:∀{e:End} {z:Str} {b:Bool},aJ n e=some z->Way (dE n ss) (bn n) (aH n e.1) b->Way (dE n ss) (bn n) (aH n (other n e).1) (b != decide (z∈ss)):=λ{e z b} he h=>by
  rcases (wC).to e z he with t | t
  ·exact .there h t
  ·exact .back h t
 have all:=λr hr=>by
  have:=hg (λx=>∃ b,Way (dE n ss) (bn n) x b) ⟨n[0],Bp h0,false,by rw[<- gW h0];exact .here⟩ (λr hr s gy t tr ts ⟨b,hb⟩=>?_) n[r]<|Bp hr
  ·rwa[<- gW hr]at this
  ·obtain⟨i,hi,rfl⟩:=Co.mp hr;obtain⟨j,hj,rfl⟩:=Co.mp gy;obtain⟨p,hp⟩:=Bj tr;obtain⟨q,hq⟩:=Bj ts;have h1:aJ n (i,p)=some t:=by show(row n i)[p]?=_;rwa[ic hi]
   have h2:aJ n (j,q)=some t:=by show(row n j)[q]?=_;rwa[ic hj]
   rcases (iH T h1).mp h2 with e | e
   ·have:j=i:=BZ (·.1) e;subst this;exact⟨b,hb⟩
   ·rw[<- gW hi]at hb;have:=next h1 hb;rw[<- e]at this;exact⟨_,by rwa[<- gW hj]⟩
 obtain⟨sd,h1,h2⟩:=Mw<|((List.range n.length).filter λr=>decide (Way (dE n ss) (bn n) (aH n r) true)).map<|aH n;have mem:∀ r,r < n.length->∀ b,Way (dE n ss) (bn n) (aH n r) b->decide (aH n r∈sd)=b:=λr hr b hb=>by
  have:aH n r∈sd↔b=true:=by
   rw[h2,Ai]
   constructor
   ·rintro ⟨i,hi,e⟩;rw[Bg,Bc]at hi;have:=tZ hN hi.1 hr e;subst this;exact uniq hb<|BX hi.2
   ·intro e;subst e;exact⟨r,Bg.mpr ⟨Bc.mpr hr,BW hb⟩,rfl⟩
  by_cases q:b=true
  ·rw[q];exact BW<|this.mpr q
  ·rw[Bool.not_eq_true]at q;rw[q];exact BR λk=>by rw[this.mp k]at q;cases q
 refine⟨sd,h1,λx hx=>?_,λhx=>?_,λz=>?_⟩
 ·obtain⟨i,hi,rfl⟩:=Ai.mp<|(h2 x).mp hx;exact iI<|Bc.mp (Bg.mp hi).1
 ·have:=mem 0 h0 false .here;exact absurd hx<|GJ this
 ·by_cases cU:z∈ag n
  ·obtain⟨p,hp⟩:∃ p,p∈pos n z:=by
    have:pos n z≠[]:=λq=>by have:=qA n z;rw[q,T z cU]at this;cases this
    exact Es _ this
   have he:=aK.mp hp;obtain⟨b,hb⟩:=all p.1<|cS he;have hc:=next he hb;rw[kS T he,mem _ (cS he) b hb,mem _ (pj T he) _ hc]
   constructor
   ·intro h;rw[BW h];cases b <;> rfl
   ·intro h;refine GK λk=>?_;rw[BR k]at h;cases b <;> cases h
  ·exact⟨λh=>absurd (hs z h) cU,λh=>absurd (wB h) cU⟩
def Ni(T:aw n)(h:e∈ends n):two n (other n<|two n e)=other n e:=by
 have g1:=gB (c:=1) T h;have h2:=m9 T h;obtain⟨z,hz⟩:=af.mp h2;obtain⟨y,hy⟩:=af.mp g1;have e1:go 1 n (other n<|two n e)=other n (go 1 n e):=by
  show dW 1 n (other n<|other n<|two n e)=_;rw[(dk T hz).2.1];show dW 1 n (dW (-1) n<|other n<|go 1 n e)=_;have:=o6 (c:=-1)<|dD T g1;rwa[Int.neg_neg]at this
 show go (-1) n (go 1 n<|other n<|two n e)=_;rw[e1];show dW (-1) n (other n<|other n<|go 1 n e)=_;rw[(dk T hy).2.1];exact o6<|dD T h
def jZ(T:aw n)(h:e∈ends n)(k:Nat):it (two n) k e∈ends n:=kz (λa ha=>m9 T ha) h k
theorem Wd{α:Type}(f:α->α)(a:α):∀ k,it f k (f a)=it f (k+1) a
 | 0=>rfl
 | k+1=>by show f (it f k<|f a)=f (it f (k+1) a);rw[Wd f a k]
theorem uk{α:Type}(f:α->α)(a:α)(i:Nat):∀ j,it f (i+j) a=it f j (it f i a)
 | 0=>rfl
 | j+1=>by show f (it f (i+j) a)=f (it f j<|it f i a);rw[uk f a i j]
def x0z(T:aw n)(h:e∈ends n):two n e≠other n e:=λq=>by
 have g1:=gB (c:=1) T h;obtain⟨y,hy⟩:=af.mp g1;have h1:dW (-1) n (go 1 n e)=other n e:=o6<|dD T h;have h2:=q;exact(dk T hy).2.2<|Ta (dD T g1) g1<|h2.trans h1.symm
theorem Wf{n:Net}(T:aw n):∀k{e},e∈ends n->it (two n) k e≠other n e
 | 0,e,h=>λq=>by
  obtain⟨z,hz⟩:=af.mp h;exact(dk T hz).2.2 q.symm
 | 1,e,h=>x0z T h
 | k+2,e,h=>λq=>by
  have e1:two n (it (two n) (k+1) e)=two n (other n<|two n e):=by rwa[Ni T h]
  have e2:=wm T (jZ T h<|k+1) (dD T<|m9 T h) e1;rw[<- Wd]at e2;exact Wf T k (m9 T h) e2
def ye(T:aw n){a b:End}(ha:a∈ends n)(hb:b∈ends n)(h:ay n a=ay n b):b=a\/b=other n a:=by
 obtain⟨z,hz⟩:=af.mp ha;obtain⟨y,hy⟩:=af.mp hb;rw[dJ hz,dJ hy]at h;subst h;exact(iH T hz).mp hy
theorem x2p(T:aw n)(h:e∈ends n){k:Nat}(p:jw n e k){i j:Nat}(dQ:i < j)(hj:j < k):it (two n) i e≠it (two n) j e:=λq=>by
 have inj:∀(m:Nat) {a b:End},a∈ends n->b∈ends n->it (two n) m a=it (two n) m b->a=b:=λm=>by
  induction m with
  | zero=>intro a b _ _ q;exact q
  | succ m ih=>intro a b ha hb q;exact ih ha hb<|wm T (jZ T ha m) (jZ T hb m) q
 have e1:it (two n) j e=it (two n) i (it (two n) (j - i) e):=by rw[<- uk,show j - i+i=j by omega]
 rw[e1]at q;have:=inj i h (jZ T h _) q;exact p.first (j - i) ⋯ ⋯ this.symm
theorem k8d(T:aw n)(h:e∈ends n){k:Nat}(p:jw n e k){i j:Nat}(dQ:i < j)(hj:j < k):ay n (it (two n) i e)≠ay n (it (two n) j e):=λq=>by
 rcases ye T (jZ T h i) (jZ T h j) q with c | c
 ·exact x2p T h p dQ hj c.symm
 ·rw[show j=i+(j - i) by omega,uk]at c;exact Wf T (j - i) (jZ T h i) c
variable{x:End}
def q6a(T:aw n){y:End}(hx:x∈ends n)(hy:y∈ends n)(q:ay n (go 1 n x)=ay n (go 1 n y)):x=y\/two n y=other n x:=by
 have g1:=gB (c:=1) T hx
 rcases ye T g1 (gB T hy) q with c | c
 ·exact .inl (go_inj T hy hx c).symm
 ·refine .inr ?_;obtain⟨z,hz⟩:=af.mp g1;show go (-1) n (go 1 n y)=_;rw[c];show dW (-1) n (other n<|other n<|go 1 n x)=_;rw[(dk T hz).2.1];exact o6<|dD T hx
theorem Wg(n:Net)(e:End):∀ k,((wk n e k).map<|ay n).Perm<|((List.range k).map λi=>ay n<|it (two n) i e)++(List.range k).map λi=>ay n<|go 1 n<|it (two n) i e
 | 0=>List.Perm.refl _
 | k+1=>by
  rw[Dc,Aj,Aj];show((wk n e k++[it (two n) k e,go 1 n<|it (two n) k e]).map<|ay n).Perm _;rw[Aj];refine((Wg n e k).append_right _).trans ?_;generalize ((List.range k).map λi=>ay n<|it (two n) i e)=A;generalize ((List.range k).map λi=>ay n<|go 1 n<|it (two n) i e)=B;show(A++B++[ay n<|it (two n) k e,ay n<|go 1 n<|it (two n) k e]).Perm ((A++[ay n<|it (two n) k e])++(B++[ay n<|go 1 n<|it (two n) k e]));rw[Au,Au];refine PB A ?_;show(B++([ay n<|it (two n) k e]++[ay n<|go 1 n<|it (two n) k e])).Perm ([ay n<|it (two n) k e]++(B++[ay n<|go 1 n<|it (two n) k e]));rw[<- Au,<- Au];exact VF _ Ci
noncomputable def cY(n:Net)(e:End):List End:=aq<|walker n e
def Nj{k:Nat}(p:jw n e k):cY n e=(List.range k).map λi=>it (two n) i e:=by
 unfold cY walker;rw[wo p,q2d]
theorem Wh{n:Net}{e:End}{k:Nat}(h:it (two n) k e=e):∀ m,it (two n) (k * m) e=e
 | 0=>rfl
 | m+1=>by rw[Nat.mul_succ,Nat.add_comm,uk,h,Wh h m]
def jF(T:aw n)(h:e∈ends n):x∈cY n e↔∃ i,it (two n) i e=x:=by
 obtain⟨k,p,_⟩:=tR T h;rw[Nj p,Ai]
 constructor
 ·rintro ⟨i,_,q⟩;exact⟨i,q⟩
 ·rintro ⟨i,q⟩;have p0:=p.pos;refine⟨i % k,Bc.mpr<|Gw _ p0,?_⟩;rw[<- q];have:=Nat.div_add_mod i k
  conv=>rhs;rw[<- this]
  rw[uk,Wh p.back]
def ul(T:aw n)(h:e∈ends n):∀ x∈cY n e,x∈ends n:=λx hx=>by
 obtain⟨i,q⟩:=(jF T h).mp hx;rw[<- q];exact jZ T h i
theorem Nk(T:aw n)(h:e∈ends n)(hx:x∈cY n e):∃ y∈cY n e,two n y=x:=by
 obtain⟨i,q⟩:=(jF T h).mp hx;obtain⟨k,p,_⟩:=tR T h;have p0:=p.pos;refine⟨it (two n) (i+k - 1) e,(jF T h).mpr ⟨_,rfl⟩,?_⟩;show it (two n) (i+k - 1+1) e=x;rw[show i+k - 1+1=k+i by omega,uk,p.back,q]
def Nm(T:aw n)(h:e∈ends n)(hx:x∈cY n e):two n x∈cY n e:=by
 obtain⟨i,q⟩:=(jF T h).mp hx;exact(jF T h).mpr ⟨i+1,by rw[<- q];rfl⟩
def Wi(T:aw n)(h:e∈ends n)(hx:x∈ends n):ay n x∈(cY n e).map (ay n)↔x∈cY n e\/other n x∈cY n e:=by
 rw[Ai]
 constructor
 ·rintro ⟨y,hy,q⟩
  rcases ye T hx (ul T h y hy) q.symm with c | c
  ·exact .inl<|c ▸ hy
  ·exact .inr<|c ▸ hy
 ·rintro (c | c)
  ·exact⟨x,c,rfl⟩
  ·refine⟨_,c,?_⟩;obtain⟨z,hz⟩:=af.mp hx;rw[dJ hz,dJ (dk T hz).1]
def Wj(T:aw n)(h:e∈ends n):other n (other n e)=e:=by
 obtain⟨z,hz⟩:=af.mp h;exact(dk T hz).2.1
def yf(n:Net)(told:Ñ):Prop:=∀ x∈ends n,(ay n (two n x)∈told↔ay n x∈told)
theorem Wk{n:Net}(T:aw n){told:Ñ}(C:yf n told){e:End}(h:e∈ends n):∀ i,ay n (it (two n) i e)∈told↔ay n e∈told
 | 0=>WM
 | i+1=>(C _<|jZ T h i).trans<|Wk T C h i
def q9c(T:aw n)(h:e∈ends n):yf n ((cY n e).map<|ay n):=λx hx=>by
 rw[Wi T h<|m9 T hx,Wi T h hx]
 constructor
 ·rintro (c | c)
  ·obtain⟨y,hy,q⟩:=Nk T h c;exact .inl<|wm T (ul T h y hy) hx q ▸ hy
  ·have:=Nm T h c;rw[Ni T hx]at this;exact .inr this
 ·rintro (c | c)
  ·exact .inl<|Nm T h c
  ·obtain⟨y,hy,q⟩:=Nk T h c;have um:=ul T h y hy;have e1:two n x=other n y:=by
    rw[<- Wj T hx,<- q,Ni T um]
   exact .inr<|by rwa[e1,Wj T um]
structure pL(n:Net)(es:List End)(told:Ñ)(ws:List<|List End):Prop where
 nd:((ws.flatMap aq).map<|ay n).Nodup
 new:∀ x∈ws.flatMap aq,x∈ends n/\ay n x∉told
 cov:∀ e∈es,ay n e∈told\/ay n e∈(ws.flatMap aq).map (ay n)
 wk:∀ w∈ws,∃ e,e∈ends n/\w=walker n e
theorem Nn{n:Net}(T:aw n):∀es told,(∀ e∈es,e∈ends n)->yf n told->pL n es told (eW n es told)
 | [],told,_,_=>by
  unfold eW;exact⟨Cn,λx hx=>(nomatch hx),λe he=>(nomatch he),λw hw=>(nomatch hw)⟩
 | e :: r,told,he,C=>by
  have h:=he e<|Ag ..;unfold eW
  by_cases q:ay n e∈told
  ·rw[BP q];have I:=Nn T r told (λa ha=>he a<|Ak _ ha) C;refine⟨I.nd,I.new,λa ha=>?_,I.wk⟩
   rcases Al.mp ha with rfl | ha
   ·exact .inl q
   ·exact I.cov a ha
  ·rw[BK q];have C':yf n (told++(aq<|walker n e).map (ay n)):=λx hx=>by
    rw[An,An];exact or_congr (C x hx)<|q9c T h x hx
   have I:=Nn T r _ (λa ha=>he a<|Ak _ ha) C';have fresh:∀ x∈cY n e,x∈ends n/\ay n x∉told:=λx hx=>by
    obtain⟨i,k⟩:=(jF T h).mp hx;refine⟨ul T h x hx,λz=>q ?_⟩;rw[<- k]at z;exact(Wk T C h i).mp z
   refine⟨?_,λx hx=>?_,λa ha=>?_,λw hw=>?_⟩
   ·rw[Cm,Aj,Cj];refine⟨?_,I.nd,λa ha b hb k=>?_⟩
    ·obtain⟨k,p,_⟩:=tR T h;show((cY n e).map<|ay n).Nodup;rw[Nj p,Cg,Ay,Cs,Cc];intro i j hi hj dQ;rw[Ff,Ff];rw[Cy]at hj;exact k8d T h p dQ hj
    ·subst k;obtain⟨x,hx,rfl⟩:=Ai.mp hb;exact(I.new x hx).2<|Av _ ha
   ·rw[Cm]at hx
    rcases An.mp hx with k | k
    ·exact fresh x k
    ·exact⟨(I.new x k).1,λz=>(I.new x k).2<|Az _ z⟩
   ·rw[Cm,Aj]
    rcases Al.mp ha with rfl | ha
    ·exact .inr<|Az _<|Ai.mpr ⟨a,(jF T h).mpr ⟨0,rfl⟩,rfl⟩
    ·rcases I.cov a ha with k | k
     ·rcases An.mp k with k | k
      ·exact .inl k
      ·exact .inr<|Az _ k
     ·exact .inr<|Av _ k
   ·rcases Al.mp hw with rfl | hw
    ·exact⟨e,h,rfl⟩
    ·exact I.wk w hw
def Wl(T:aw n)(h:e∈ends n):((walker n e).map<|ay n).Perm ((cY n e).map (ay n)++(cY n e).map λx=>ay n<|go 1 n x):=by
 obtain⟨k,p,_⟩:=tR T h;rw[Nj p,Cg,Cg];unfold walker;rw[wo p];exact Wg n e k
theorem Wm{n:Net}(T:aw n):∀{ws:List (List End)},(∀ w∈ws,∃ e,e∈ends n/\w=walker n e)->(ws.flatMap λw=>w.map<|ay n).Perm ((ws.flatMap aq).map (ay n)++(ws.flatMap aq).map λx=>ay n<|go 1 n x)
 | [],_=>List.Perm.refl _
 | w :: ws,h=>by
  obtain⟨e,he,rfl⟩:=h w<|Ag ..;have I:=Wm T λw hw=>h w<|Ak _ hw;rw[Cm,Cm,Aj,Aj];refine((Wl T he).append I).trans ?_;show(((cY n e).map (ay n)++(cY n e).map λx=>ay n<|go 1 n x)++_).Perm (((cY n e).map (ay n)++_)++((cY n e).map (λx=>ay n<|go 1 n x)++_));generalize (cY n e).map (ay n)=A;generalize ((cY n e).map λx=>ay n<|go 1 n x)=B;generalize (ws.flatMap aq).map (ay n)=D;generalize ((ws.flatMap aq).map λx=>ay n<|go 1 n x)=F;rw[Au,Au];refine PB A ?_;rw[<- Au,<- Au];exact VF _ Ci
noncomputable abbrev aG(n:Net):List (List End):=eW n (ends n) []
def q5j(n:Net):yf n []:=λx _=>by simp
def rZ(T:aw n):pL n (ends n) [] (aG n):=Nn T (ends n) [] (λ_ h=>h)<|q5j n
variable{z:Str}
def Np(T:aw n)(hz:z∈ag n):(((aG n).flatMap aq).map<|ay n).count z=1:=by
 have I:=rZ T;rw[List.Nodup.count I.nd,BP];have:pos n z≠[]:=λq=>by have:=qA n z;rw[q,T z hz]at this;cases this
 obtain⟨p,hp⟩:=Es _ this;have hp:=aK.mp hp;have:=I.cov p<|af.mpr ⟨z,hp⟩;rw[dJ hp]at this
 rcases this with k | k
 ·cases k
 ·exact k
def q5v(T:aw n)(hx:x∈(aG n).flatMap aq):two n x∈(aG n).flatMap aq:=by
 obtain⟨w,hw,hx⟩:=Di.mp hx;obtain⟨e,he,rfl⟩:=(rZ T).wk w hw;exact Di.mpr ⟨_,hw,Nm T he hx⟩
theorem Wn{α β:Type}{f:α->β}:∀{l:List α},l.Nodup->(∀ a∈l,∀ b∈l,f a=f b->a=b)->(l.map f).Nodup
 | [],_,_=>Cn
 | a :: l,h,inj=>by
  have h:=Bk.mp h;refine Bk.mpr ⟨λhm=>?_,Wn h.2 λx hx y hy=>inj x (Ak _ hx) y<|Ak _ hy⟩;obtain⟨b,hb,q⟩:=Ai.mp hm;have:=inj a (Ag ..) b (Ak _ hb) q.symm;exact h.1<|this ▸ hb
theorem CY{α β:Type}{f:α->β}:∀{l:List α},(l.map f).Nodup->∀ a∈l,∀ b∈l,f a=f b->a=b
 | c :: l,h,a,ha,b,hb,q=>by
  rw[Bn,Bk]at h
  rcases Al.mp ha with ea | A0
  ·rcases Al.mp hb with eb | kH
   ·rw[ea,eb]
   ·exact absurd (Ai.mpr ⟨b,kH,by rw[<- q,ea]⟩) h.1
  ·rcases Al.mp hb with eb | kH
   ·exact absurd (Ai.mpr ⟨a,A0,by rw[q,eb]⟩) h.1
   ·exact CY h.2 a A0 b kH q
theorem Wo{α β:Type}{f:α->β}:∀{l:List α},(l.map f).Nodup->l.Nodup
 | [],_=>Cn
 | a :: l,h=>by
  rw[Bn,Bk]at h;exact Bk.mpr ⟨λk=>h.1<|Ai.mpr ⟨a,k,rfl⟩,Wo h.2⟩
def Wp(T:aw n):(((aG n).flatMap aq).map λx=>ay n<|go 1 n x).Perm (((aG n).flatMap aq).map<|ay n):=by
 have I:=rZ T;refine wv (Wn (Wo I.nd) λx hx y hy q=>?_) (λz hz=>?_)<|by rw[Aa,Aa];exact Am _
 ·have js:=(I.new x hx).1;have um:=(I.new y hy).1
  rcases q6a T js um q with c | c
  ·exact c
  ·exfalso
   have t:ay n (two n y)=ay n x:=by
    obtain⟨z,hz⟩:=af.mp js;rw[c,dJ hz,dJ (dk T hz).1]
   have:=CY I.nd _ (q5v T hy) x hx t;obtain⟨z,hz⟩:=af.mp js;exact(dk T hz).2.2<|c.symm.trans this
 ·obtain⟨x,hx,rfl⟩:=Ai.mp hz;obtain⟨y,hy⟩:=af.mp<|gB (c:=1) T (I.new x hx).1;rw[dJ hy];refine Ed.mp ?_;rw[Np T<|eG hy];exact Fr
def k6u(T:aw n)(hz:z∈ag n):((aG n).flatMap λw=>w.map<|ay n).count z=2:=by
 rw[(Wm T (rZ T).wk).count_eq,Fm,(Wp T).count_eq,Np T hz]
theorem Wq(n:Net)(z:Str):∀ ws:List<|List End,(ws.flatMap λw=>w.map<|ay n).count z=(ws.map λw=>(w.map<|ay n).count z).sum
 | []=>rfl
 | w :: ws=>by rw[Cm,Fm,Wq n z ws];rfl
theorem Wr:∀(l:List Nat) (x:Nat),x∈l->x<=l.sum
 | y :: l,x,h=>by
  rw[Gn]
  rcases Al.mp h with rfl | h
  ·omega
  ·have:=Wr l x h;omega
theorem q3g(T:aw n)(hz:z∈ag n)(hw:w∈aG n):(w.map<|ay n).count z<=2:=by
 have h:=k6u T hz;rw[Wq]at h;have:=Wr ((aG n).map λw=>(w.map<|ay n).count z) _<|Ai.mpr ⟨w,hw,rfl⟩;omega
def C0(hw:∀ c∈w,c∈ends n)(h:∀ z,z∈ss↔(w.map<|ay n).count z=1):∀ z∈ss,z∈ag n:=λz hz=>by
 have:=Ed.mp (by rw[(h z).mp hz];exact Fr);obtain⟨e,he,rfl⟩:=Ai.mp this;obtain⟨y,hy⟩:=af.mp<|hw e he;rw[dJ hy];exact eG hy
theorem Nq(T:aw n)(hw:w∈aG n)(h:∀ z,z∈ss↔(w.map<|ay n).count z=1)(hz:z∈ag n):decide (z∈ss)=di n w z:=by
 have:=q3g T hz hw;unfold di;refine decide_eq_decide.mpr<|(h z).trans ?_;omega
def k6x(T:aw n)(hw:w∈aG n)(h:∀ z,z∈ss↔(w.map<|ay n).count z=1):du n ss=true:=by
 refine k7s (q0i T<|ng T (ends n) [] (λ_ h=>h) w hw) λz hz=>?_;rw[<- Nq T hw h hz]
 by_cases k:z∈ss
 ·rw[BW k];exact Cu.mpr k
 ·rw[BR k];exact Dk.mpr λq=>k<|Cu.mp q
def k69(T:aw n)(hf:HF n)(hN:(n.map (·.1)).Nodup)(h0:0 < n.length)(hw:w∈aG n)(h:∀ z,z∈ss↔(w.map<|ay n).count z=1):∃ sd,bg n ss sd:=by
 have W:=ng T (ends n) [] (λ_ h=>h) w hw;have inT:=C0 W.ends h;obtain⟨zs,sz,mz⟩:=A3<|ag n;refine k3m T hf.1 hN h0 (tY sz) mz inT λt ht=>?_;obtain⟨χ,hχ⟩:=hf.2.2 t ht;have:=k7i T W hχ;have e:cf zs t (λz=>decide (z∈ss))=cf zs t (λz=>decide ((w.map<|ay n).count z % 2=1)):=by
  unfold cf
  congr 1
  refine Bo λz hz=>?_;show(t z && decide (z∈ss))=(t z && decide ((w.map<|ay n).count z % 2=1));rw[Nq T hw h<|(mz z).mp hz];rfl
 rw[e,k98 (n:=n) (tY sz) λy hy=>?_]
 ·rwa[Cg]
 ·obtain⟨x,hx,rfl⟩:=Ai.mp hy;obtain⟨y,hy⟩:=af.mp<|W.ends x hx;rw[dJ hy];exact(mz y).mpr<|eG hy
end Nt
namespace L2
open PySem PySem.Spec PyProof.Rows bD
variable{es:Ô}
section
variable{X:Cx}{a b e:Expr}{σ:St}{H:Hp}{Q:VK}{pos p kp cp:Pos}{j:Nat}
theorem Ws:∀{ns}{us},az (ns.map V.int) us->IntsAre us ns
 | [],[],.nil=> .nil
 | n :: ns,u :: us,.cons r t=>by
  obtain⟨tk,rfl⟩:=(show ∃ t,u=Value.int n t from r);exact .cons _ _<|Ws t
theorem Wt{ns}{us}(h:IntsAre us ns):az (ns.map V.int) us:=by
 induction h with
 | nil=>exact .nil
 | cons _ _ _ i=>exact .cons ⟨_,rfl⟩ i
def k5r:fE X (.builtin "isinstance") (λxs H Q=>∃ ea C oe tp Nr vs b,xs=[.ref ea,.ref tp]/\H tp=some (.tup Nr)/\(∀ us,az Nr us->us=vs)/\H ea=some (XO oe)/\CH oe (.ref C)/\nW X.K C=true/\PySem.W.kitAny X.K (.ref C) vs=some b/\Q (.bl b) H):=by
 intro O s σ H xs us Q I r h;obtain⟨ea,C,oe,tp,Nr,vs,b,rfl,x8,hv,hH,ix,hl,e,q⟩:=h;obtain⟨u,w',rfl,ru,d9⟩:=vals2 r;cases (show u=Value.ref ea from ru);cases (show w'=Value.ref tp from d9);obtain⟨è,r2,pl,_⟩:=I.tuple<|aS.of x8;obtain rfl:=hv è r2;obtain⟨o,ho,hc,n,hd⟩:=pl;obtain⟨oc,od,oda,j5⟩:=o;have hc:=hc;have hd:=hd;subst hc hd;have he:=(show aB X.U X.w H s.heap ea (XO oe)from I.aF ea _ hH).1;exact PySem.W.kia_tup (V6 hl) I.fh ⟨oe,V7 he ix⟩ ho e (λz=>nomatch z) λtk=>⟨.bl b,H,I.tok tk,rfl,q⟩
end
end L2
namespace L2
open PySem PySem.Spec PyProof.Rows bK
variable{acc:Value}{H:Hp}{σ:St}{scope:Scope}{X:Cx}
variable{inner:Sem Unit}{ifs:Ô}
end L2
namespace Nt
open PySem L2 Classical
def gD{α:Type}(k:Nat)(w:List α):List α:=aq<|w.drop k
def d6(k:Nat):Nat->List (List End)->List (Nat×End)
 | _,[]=>[]
 | m,w :: ws=>((gD k w).map λe=>(m,e))++d6 k (m+1) ws
def d7(k:Nat)(ws:List<|List End):List (Nat×End):=d6 k 0 ws
theorem Wu(k:Nat):∀(m:Nat) (ws:List<|List End),(d6 k m ws).map (·.2)=ws.flatMap (gD k)
 | m,[]=>rfl
 | m,w :: ws=>by
  unfold d6;rw[Aj,Wu k (m+1) ws,Cg,Cm]
  congr 1
  exact List.map_id' _
variable{e:End}{n:Net}
theorem C1:gD 1 (walker n e)=(aq<|walker n e).map (go 1 n):=by
 unfold walker gD;have l:=qU n e<|wn n e;apply Dv;intro i;rw[Ah,qT,qT,RG]
 by_cases h:i < wn n e
 ·rw[show 1+2 * i=2 * i+1 by omega,AQ n e _ i h,qV n e _ i h];rfl
 ·rw[Bd ⋯,Bd<|⋯];rfl
theorem Wv{n:Net}:∀{ws:List (List End)},(∀ w∈ws,∃ e,e∈ends n/\w=walker n e)->ws.flatMap (gD 1)=(ws.flatMap aq).map (go 1 n)
 | [],_=>rfl
 | w :: ws,h=>by
  obtain⟨e,_,rfl⟩:=h w<|Ag ..;rw[Cm,Cm,Aj,C1,Wv λv hv=>h v<|Ak _ hv]
theorem Ww(T:aw n){k:Nat}(hk:k<=1):((d7 k<|aG n).map λp=>ay n p.2).Perm (((aG n).flatMap aq).map<|ay n):=by
 have e:((d7 k<|aG n).map λp=>ay n p.2)=((aG n).flatMap<|gD k).map (ay n):=by
  unfold d7;rw[<- Wu k 0<|aG n,Cg];rfl
 rw[e]
 match k,hk with
 | 0,_=>exact List.Perm.refl _
 | 1,_=>
  rw[Wv (rZ T).wk,Cg];exact Wp T
def Nu(T:aw n){k:Nat}(hk:k<=1):((d7 k<|aG n).map λp=>ay n p.2).Nodup:=(Ww T hk).nodup_iff.mpr (rZ T).nd
variable{z:Str}
def se(T:aw n){k:Nat}(hk:k<=1):z∈((d7 k<|aG n).map λp=>ay n p.2)↔z∈ag n:=by
 rw[(Ww T hk).mem_iff];refine⟨λh=>?_,λh=>Ed.mp<|by rw[Np T h];exact Fr⟩;obtain⟨x,hx,rfl⟩:=Ai.mp h;obtain⟨y,hy⟩:=af.mp ((rZ T).new x hx).1;rw[dJ hy];exact eG hy
noncomputable def cI(n:Net)(k:Nat)(z:Str):List (Nat×End):=(d7 k<|aG n).filter λp=>decide (ay n p.2=z)
theorem C2{α:Type}{f:α->Str}:∀{l:List α},(l.map f).Nodup->∀{p},p∈l->(l.filter λx=>decide (f x=f p))=[p]
 | a :: l,hn,p,hp=>by
  rw[Bn,Bk]at hn;rw[Cv]
  by_cases h:f a=f p
  ·rw[BP<|BW h];have e:a=p:=by
    rcases Al.mp hp with q | q
    ·exact q.symm
    ·exact absurd (by rw[h];exact Ai.mpr ⟨p,q,rfl⟩) hn.1
   subst e
   congr 1
   rw[Ec];intro x hx q;exact hn.1<|by rw[<- BX q];exact Ai.mpr ⟨x,hx,rfl⟩
  ·rw[BK λq=>h<|BX q]
   rcases Al.mp hp with q | q
   ·exact absurd (by rw[q]) h
   ·exact C2 hn.2 q
def j3(T:aw n){k:Nat}(hk:k<=1)(hz:z∈ag n):∃ p,p∈d7 k (aG n)/\ay n p.2=z/\cI n k z=[p]:=by
 obtain⟨p,hp,rfl⟩:=Ai.mp<|(se T hk).mpr hz;exact⟨p,hp,rfl,C2 (Nu T hk) hp⟩
theorem Nv{n:Net}(T:aw n):∀es told,(∀ e∈es,e∈ends n)->∀i w,(eW n es told)[i]?=some w ->
  ∃ e l r,es=l++e :: r/\(∀ x∈l,ay n x∈told++(((eW n es told).take i).flatMap aq).map (ay n))/\ay n e∉told++(((eW n es told).take i).flatMap aq).map (ay n)/\w=walker n e
 | [],told,_,i,w,h=>by simp[eW]at h
 | e :: r,told,hE,i,w,h=>by
  have hr:=λa ha=>hE a<|Ak _ ha;unfold eW at h ⊢
  by_cases c:ay n e∈told
  ·rw[BP c]at h ⊢;obtain⟨x,l,r',h1,h2,h3,h4⟩:=Nv T r told hr i w h;refine⟨x,e :: l,r',by rw[h1];rfl,λy hy=>?_,h3,h4⟩
   rcases Al.mp hy with q | q
   ·rw[q];exact Az _ c
   ·exact h2 y q
  ·rw[BK c]at h ⊢
   match i with
   | 0=>
    cases h;refine⟨e,[],r,rfl,λy hy=>(nomatch hy),?_,rfl⟩
    simpa using c
   | i+1=>
    obtain⟨x,l,r',h1,h2,h3,h4⟩:=Nv T r (told++(aq<|walker n e).map (ay n)) hr i w h;have eq:(told++(((walker n e :: eW n r (told++(aq<|walker n e).map (ay n))).take<|i+1).flatMap aq).map (ay n))=(told++(aq<|walker n e).map (ay n))++(((eW n r<|told++(aq<|walker n e).map (ay n)).take i).flatMap aq).map (ay n):=by
     rw[List.take_succ_cons,Cm,Aj,Au]
    rw[eq];refine⟨x,e :: l,r',by rw[h1];rfl,λy hy=>?_,h3,h4⟩
    rcases Al.mp hy with q | q
    ·rw[q];refine Az _<|Av _<|Ai.mpr ⟨e,?_,rfl⟩;exact(jF T<|hE e<|Ag ..).mpr ⟨0,rfl⟩
    ·exact h2 y q
noncomputable def Wx(n:Net)(i:Nat):Ñ:=(((aG n).take i).flatMap aq).map<|ay n
variable{w:List End}{i:Nat}
def k8s(T:aw n)(h:(aG n)[i]?=some w):∃ e l r,ends n=l++e :: r/\(∀ x∈l,ay n x∈Wx n i)/\ay n e∉Wx n i/\w=walker n e:=by
 obtain⟨e,l,r,h1,h2,h3,h4⟩:=Nv T (ends n) [] (λ_ h=>h) i w h;exact⟨e,l,r,h1,h2,h3,h4⟩
def k3t(T:aw n)(h:e∈ends n):(walker n e)[0]?=some e:=by
 obtain⟨k,p,_⟩:=tR T h;unfold walker;rw[wo p];have:=qV n e k 0 p.pos;exact this
structure dv(n:Net)(s:Str->Bool)(c:Nat->Bool)(χ:End->Bool):Prop where
 face:a9 n s χ
 cut:∀ e z,aJ n e=some z->s z=(c e.1 ^^ c (other n e).1)
def jG(n:Net)(c:Nat->Bool)(χ:End->Bool)(x:End):Bool:=c x.1 ^^ χ (other n x)
def uo(c:Nat->Bool)(χ:End->Bool)(y:End):Bool:=c y.1 ^^ χ y
variable{χ:End->Bool}{c:Nat->Bool}{s:Str->Bool}{x y:End}{ws:List (List End)}
def dv.odd(T:aw n)(D:dv n s c χ)(hx:x∈ends n):uo c χ (go 1 n x)=jG n c χ x:=by
 obtain⟨z,hz⟩:=af.mp hx;have h1:=D.face.go x hx;rw[Tc T hx]at h1;have h2:=D.face.dq x z hz;have h3:=D.cut x z hz;unfold uo jG;rw[h1,show(go 1 n x).1=(other n x).1 from rfl];rw[h2]at h3
 revert h3
 cases χ x <;> cases χ (other n x) <;> cases c x.1 <;> cases c (other n x).1 <;> simp
def dv.even(T:aw n)(D:dv n s c χ)(hy:y∈ends n):jG n c χ (go (-1) n y)=uo c χ y:=by
 obtain⟨z,hz⟩:=af.mp hy;have h1:=D.face.go _<|dD T<|gB T hy (c:=-1);rw[Wa T hy]at h1;have h2:=D.face.dq y z hz;have h3:=D.cut y z hz;unfold uo jG;rw[<- h1,show(go (-1) n y).1=(other n y).1 from rfl];rw[h2]at h3
 revert h3
 cases χ y <;> cases χ (other n y) <;> cases c y.1 <;> cases c (other n y).1 <;> simp
def dv.two(T:aw n)(D:dv n s c χ){x:End}(hx:x∈ends n):jG n c χ (Nt.two n x)=jG n c χ x:=by
 rw[show Nt.two n x=go (-1) n (go 1 n x)from rfl,D.even T<|gB T hx,D.odd T hx]
theorem dv.it(T:aw n)(D:dv n s c χ){x:End}(hx:x∈ends n):∀ k,jG n c χ (Nt.it (Nt.two n) k x)=jG n c χ x
 | 0=>rfl
 | k+1=>by
  show jG n c χ (Nt.two n<|Nt.it (Nt.two n) k x)=_;rw[D.two T<|jZ T hx k,D.it T hx k]
theorem Wy(k:Nat):∀(m:Nat) (ws:List<|List End) {i:Nat} {e:End},(i,e)∈d6 k m ws->∃ j w,ws[j]?=some w/\i=m+j/\e∈gD k w
 | m,[],i,e,h=>by simp[d6]at h
 | m,w :: ws,i,e,h=>by
  unfold d6 at h
  rcases An.mp h with h | h
  ·obtain⟨x,hx,q⟩:=Ai.mp h;cases q;exact⟨0,w,rfl,rfl,hx⟩
  ·obtain⟨j,v,h1,h2,h3⟩:=Wy k (m+1) ws h;exact⟨j+1,v,h1,⋯,h3⟩
def yg{k:Nat}(h:(i,e)∈d7 k ws):∃ w,ws[i]?=some w/\e∈gD k w:=by
 obtain⟨j,w,h1,h2,h3⟩:=Wy k 0 ws h;rw[Fe]at h2;subst h2;exact⟨w,h1,h3⟩
noncomputable def dj(n:Net)(c:Nat->Bool)(χ:End->Bool)(i:Nat):Bool:=match (aG n)[i]? with
 | some (e :: _)=>jG n c χ e
 | _=>false
theorem Wz(T:aw n)(he:e∈ends n)(h:(aG n)[i]?=some (walker n e)):dj n c χ i=jG n c χ e:=by
 have h0:=k3t T he;unfold dj;rw[h];cases hw:walker n e with
 | nil=>rw[hw]at h0;cases h0
 | cons a l=>rw[hw]at h0;cases h0;rfl
def sf(T:aw n)(h:(aG n)[i]?=some w):∃ e,e∈ends n/\w=walker n e:=by
 obtain⟨e,l,r,heq,_,_,hw⟩:=k8s T h;exact⟨e,by rw[heq];simp,hw⟩
def dv.ka(T:aw n)(D:dv n s c χ)(h:(i,x)∈d7 0 (aG n)):x∈ends n/\jG n c χ x=dj n c χ i:=by
 obtain⟨w,hw,hx⟩:=yg h;obtain⟨e,he,rfl⟩:=sf T hw;have hx:x∈cY n e:=hx;obtain⟨k,rfl⟩:=(jF T he).mp hx;rw[Wz T he hw];exact⟨jZ T he k,D.it T he k⟩
def dv.yh(T:aw n)(D:dv n s c χ)(h:(i,y)∈d7 1 (aG n)):y∈ends n/\uo c χ y=dj n c χ i:=by
 obtain⟨w,hw,hy⟩:=yg h;obtain⟨e,he,rfl⟩:=sf T hw;rw[C1]at hy;obtain⟨x,hx,rfl⟩:=Ai.mp hy;have hx:x∈cY n e:=hx;obtain⟨k,rfl⟩:=(jF T he).mp hx;rw[Wz T he hw];have:=jZ T he k;exact⟨gB T this,by rw[D.odd T this,D.it T he k]⟩
def dv.dq(T:aw n)(D:dv n s c χ){p q:Nat×End}(hp:p∈d7 0 (aG n))(hq:q∈d7 1 (aG n))(h:ay n p.2=ay n q.2):s (ay n p.2)=(dj n c χ p.1 ^^ dj n c χ q.1):=by
 obtain⟨i,x⟩:=p;obtain⟨j,y⟩:=q;obtain⟨hx,e1⟩:=D.ka T hp;obtain⟨hy,e2⟩:=D.yh T hq;show s (ay n x)=(dj n c χ i ^^ dj n c χ j);obtain⟨z,hz⟩:=af.mp hx;have h2:=D.face.dq x z hz;have h3:=D.cut x z hz;rw[<- e1,<- e2,dJ hz];unfold jG uo
 rcases ye T hx hy h with k | k
 ·subst k;rw[h2];cases χ y <;> cases χ (other n y) <;> cases c y.1 <;> rfl
 ·subst k;rw[h3];cases χ (other n x) <;> cases c x.1 <;> cases c (other n x).1 <;> rfl
def q5y{α:Type}(k:Nat):gD k ([]:List α)=[]:=by unfold gD;rw[List.drop_nil];rfl
theorem WB(k i:Nat):∀(m:Nat) (ws:List<|List End),((d6 k m ws).filter λp=>decide (p.1=i))=if m<=i then((gD k<|ws[i - m]?.getD []).map λe=>(i,e))else []
 | m,[]=>by
  rw[List.getElem?_nil];show []=if m<=i then((gD k ([]:List End)).map λe=>(i,e))else [];rw[q5y]
  split <;> rfl
 | m,w :: ws=>by
  unfold d6;rw[Ct,WB k i (m+1) ws]
  by_cases h:m=i
  ·subst h;rw[BP<|Am _,BK ⋯,Be,WL];rw[List.filter_eq_self.mpr λa ha=>by obtain⟨x,_,rfl⟩:=Ai.mp ha;exact BW rfl];rfl
  ·rw[Ec.mpr λa ha=>by obtain⟨x,_,rfl⟩:=Ai.mp ha;exact λq=>h<|BX q,Gv]
   by_cases c:m<=i
   ·rw[BP c,BP ⋯,show i - m=(i - (m+1))+1 by omega];rfl
   ·rw[BK c,BK<|⋯]
theorem WC{α:Type}(f:α->Str)(z:Str):∀ l:List α,(l.map f).count z=(l.filter λx=>decide (f x=z)).length
 | []=>rfl
 | a :: l=>by
  rw[Bn,Dq,WC f z l,Cv]
  by_cases h:f a=z
  ·rw[BP (by rw[h];exact OJ z),BP<|BW h,As]
  ·rw[BK (by rwa[JD]),BK λq=>h<|BX q];rfl
variable{p:Nat×End}
def WG{k:Nat}(hp:cI n k z=[p])(hw:(aG n)[i]?=some w):((gD k w).map<|ay n).count z=if p.1=i then 1 else 0:=by
 have h1:=WB k i 0<|aG n;rw[BP<|Bu _,SM,hw]at h1;have h1:(d7 k<|aG n).filter (λp=>decide (p.1=i))=(gD k w).map λe=>(i,e):=h1;have h2:(((d7 k<|aG n).filter λp=>decide (p.1=i)).filter λp=>decide (ay n p.2=z))=(cI n k z).filter λp=>decide (p.1=i):=by
  unfold cI;rw[List.filter_filter,List.filter_filter]
  congr 1
  funext p
  exact Bool.and_comm ..
 rw[h1,hp,List.filter_map]at h2;have h3:=BZ List.length h2;rw[Aa]at h3;rw[WC];refine Eq.trans h3 ?_;rw[Cv]
 by_cases c:p.1=i
 ·rw[BP<|BW c,BP c];rfl
 ·rw[BK λq=>c<|BX q,BK c];rfl
def WH(T:aw n){q:Nat×End}(hp:cI n 0 z=[p])(hq:cI n 1 z=[q])(hw:(aG n)[i]?=some w):di n w z=(decide (p.1=i) ^^ decide (q.1=i)):=by
 obtain⟨e,he,rfl⟩:=sf T hw;have c0:=WG hp hw;have c1:=WG hq hw;rw[C1,Cg]at c1;have c0:((cY n e).map<|ay n).count z=_:=c0;have c1:((cY n e).map λx=>ay n<|go 1 n x).count z=_:=c1;unfold di;rw[(Wl T he).count_eq,Fm,c0,c1]
 by_cases a:p.1=i <;> by_cases b:q.1=i <;> simp[a,b]
theorem WN(k:Nat):∀m ws{j}{w}{e},ws[j]?=some w->e∈gD k w->(m+j,e)∈d6 k m ws
 | m,[],j,w,e,h,_=>by simp at h
 | m,v :: ws,0,w,e,h,he=>by
  cases h;unfold d6;exact Az _<|Ai.mpr ⟨e,he,rfl⟩
 | m,v :: ws,j+1,w,e,h,he=>by
  unfold d6;refine Av _ ?_;have:=WN k (m+1) ws h he;rwa[show m+(j+1)=m+1+j by omega]
def yi{k:Nat}(h:ws[i]?=some w)(he:e∈gD k w):(i,e)∈d7 k ws:=by
 have:=WN k 0 ws h he;rwa[Fe]at this
def j90(T:aw n)(hx:x∈ends n):∃ p∈d7 0 (aG n),∃ q∈d7 1 (aG n),p.1=q.1/\ay n p.2=ay n x/\ay n q.2=ay n (left n x):=by
 obtain⟨z,hz⟩:=af.mp hx;obtain⟨p,hp,ez⟩:=Ai.mp ((se T (k:=0)<|∅).mpr<|eG hz);obtain⟨i,e⟩:=p;obtain⟨w,hw,he⟩:=yg hp;obtain⟨e0,h0,rfl⟩:=sf T hw;have Nw:e∈cY n e0:=he;have nN:=ul T h0 e Nw;have ht:ay n x=ay n e:=by rw[dJ hz];exact ez.symm
 have hO:∀ y∈cY n e0,go 1 n y∈gD 1 (walker n e0):=λy hy=>by
  rw[C1];exact Ai.mpr ⟨y,hy,rfl⟩
 rcases ye T hx nN ht with k | k
 ·obtain⟨y,hy,h2⟩:=Nk T h0 Nw;have um:=ul T h0 y hy;refine⟨(i,e),hp,(i,go 1 n y),yi hw<|hO y hy,rfl,ht.symm,?_⟩;have hg:=gB T um (c:=1);have h3:other n (go 1 n y)=left n x:=by
   have:dW (-1) n (other n<|go 1 n y)=x:=by rwa[<- k]
   have hb:=o6 (c:=-1)<|dD T hg;rw[this,show(-(-1):Int)=1 from rfl]at hb;rw[AO hx,hb]
  obtain⟨t,dX⟩:=af.mp hg;show ay n (go 1 n y)=_;rw[<- h3,dJ dX,dJ (dk T dX).1]
 ·refine⟨(i,e),hp,(i,go 1 n e),yi hw<|hO e Nw,rfl,ht.symm,?_⟩;show ay n (dW 1 n<|other n e)=_;rw[k,(dk T hz).2.1,AO hx]
def yj(T:aw n){k:Nat}(hk:k<=1){q:Nat×End}(hp:p∈d7 k (aG n))(hq:q∈d7 k (aG n))(h:ay n p.2=ay n q.2):p=q:=by
 have h1:=C2 (Nu T hk) hp;have h2:=C2 (Nu T hk) hq;have h3:(λx:Nat×End=>decide (ay n x.2=ay n p.2))=λx=>decide (ay n x.2=ay n q.2):=by rw[h]
 rw[h3]at h1;exact List.cons.inj (h1.symm.trans h2) |>.1
variable{S:Nat->Prop}
theorem WO(T:aw n)(hg:ce n)(hN:(n.map (·.1)).Nodup)(s0:∃ p∈d7 0 (aG n),S p.1)
  (cl:∀ p∈d7 0 (aG n),∀ q∈d7 1 (aG n),ay n p.2=ay n q.2->(S p.1↔S q.1)):∀ i,i < (aG n).length->S i:=by
 let B:Str->Prop:=λz=>∃ p∈d7 0 (aG n),ay n p.2=z/\S p.1
 have bp:∀{p:Nat×End},p∈d7 0 (aG n)->(B (ay n p.2)↔S p.1):=λ{p} hp=>⟨λ⟨q,hq,e,h⟩=>by rwa[yj T ∅ hp hq e.symm],λh=>⟨p,hp,rfl,h⟩⟩;have bq:∀{q:Nat×End},q∈d7 1 (aG n)->(B (ay n q.2)↔S q.1):=λ{q} hq=>by
  have hz:=(se T<|∅).mp<|Ai.mpr ⟨q,hq,rfl⟩;obtain⟨p,hp,e⟩:=Ai.mp ((se T (k:=0)<|∅).mpr hz);have e:=e;rw[<- e,bp hp];exact cl p hp q hq e
 have bl:∀ x∈ends n,(B (ay n x)↔B (ay n<|left n x)):=λx hx=>by
  obtain⟨p,hp,q,hq,e,e1,e2⟩:=j90 T hx;rw[<- e1,<- e2,bp hp,bq hq,e]
 have br:∀(r j:Nat) z,(row n r)[j]?=some z->∀ z0,(row n r)[0]?=some z0->(B z↔B z0):=λr j=>by
  induction j with
  | zero=>intro z h z0 h0;rw[h]at h0;cases h0;exact WM
  | succ j ih=>
   intro z h z0 h0;have hl:=(Ac.mp h).1;obtain⟨y,hy⟩:∃ y,(row n r)[j]?=some y:=⟨_,Ab<|⋯⟩;have yV:aJ n (r,j)=some y:=hy;have b:=bl (r,j)<|af.mpr ⟨y,yV⟩;have e:left n (r,j)=(r,j+1):=by
    unfold left;rw[show(j+1) % (row n r).length=j+1 from Cf hl]
   have h':aJ n (r,j+1)=some z:=h;rw[e,dJ yV,dJ h']at b;exact b.symm.trans<|ih y hy z0 h0
 have ba:∀ r∈n,∀ y∈r.2,∀ z∈r.2,B y->B z:=λr hr y hy z hz h=>by
  obtain⟨i,hi,rfl⟩:=List.getElem_of_mem hr;rw[<- ic hi]at hy hz;obtain⟨a,ha⟩:=Bj hy;obtain⟨b,hb⟩:=Bj hz;obtain⟨z0,h0⟩:∃ z0,(row n i)[0]?=some z0:=⟨_,Ab<|by have:=(Ac.mp ha).1;omega⟩;exact(br i b z hb z0 h0).mpr<|(br i a y ha z0 h0).mp h
 have all:∀ r∈n,∃ t∈r.2,B t:=by
  have:=hg (λx=>∃ r∈n,r.1=x/\∃ t∈r.2,B t) ?_ ?_
  ·intro r hr;obtain⟨r',kR,e,t,ht,b⟩:=this r hr;have:r'=r:=by
    have:=CY hN r' kR r hr e;exact this
   subst this;exact⟨t,ht,b⟩
  ·obtain⟨p,hp,sp⟩:=s0;have hz:ay n p.2∈ag n:=(se T (k:=0)<|∅).mp<|Ai.mpr ⟨p,hp,rfl⟩;unfold ag at hz;obtain⟨r,hr,ht⟩:=Di.mp hz;exact⟨r,hr,r,hr,rfl,_,ht,(bp hp).mpr sp⟩
  ·rintro r hr s hs t MZ wQ ⟨r',kR,e,y,hy,b⟩;have:=CY hN r' kR r hr e;subst this;exact⟨s,hs,rfl,t,wQ,ba r' hr y hy t MZ b⟩
 have every:∀ z∈ag n,B z:=λz hz=>by
  unfold ag at hz;obtain⟨r,hr,ht⟩:=Di.mp hz;obtain⟨y,hy,b⟩:=all r hr;exact ba r hr y hy z ht b
 intro i hi;have hw:=Ab hi;obtain⟨e,he,rH⟩:=sf T hw;rw[rH]at hw;have hm:e∈cY n e:=(jF T he).mpr ⟨0,rfl⟩;have hp:=yi (k:=0) hw hm;obtain⟨z,hz⟩:=af.mp he;exact(bp hp).mp<|every _<|by show ay n e∈_;rw[dJ hz];exact eG hz
theorem WQ{m a:Nat}(h:a < m)(f:Nat->Bool):aC ((List.range m).map λi=>f i && decide (a=i))=f a:=by
 induction m with
 | zero=>omega
 | succ m ih=>
  rw[Dc,Aj,ni];show(_ ^^ ((f m && decide (a=m)) ^^ false))=_;rw[Gh]
  by_cases c:a=m
  ·subst c;have:aC ((List.range a).map λi=>f i && decide (a=i))=false:=by
    have e:((List.range a).map λi=>f i && decide (a=i))=(List.range a).map λ_=>false:=Bo λi hi=>by
     rw[BR (λq=>by have:=Bc.mp hi;omega),VG]
    rw[e,qY]
   rw[this,BW rfl,Bool.and_true,Gf]
  ·rw[ih ⋯,BR c,VG,Gh]
def WR(T:aw n)(ch:Nat->Bool){q:Nat×End}(hp:cI n 0 z=[p])(hq:cI n 1 z=[q]) :
  aC ((List.range (aG n).length).map λi=>ch i && di n ((aG n)[i]?.getD []) z)=(ch p.1 ^^ ch q.1):=by
 have lt:∀{k:Nat} {p:Nat×End},cI n k z=[p]->p.1 < (aG n).length:=λ{k p} h=>by
  have:p∈cI n k z:=by rw[h];exact Af.mpr rfl
  obtain⟨w,hw,_⟩:=yg (i:=p.1) (Bg.mp this).1;exact(Ac.mp hw).1
 have e:((List.range (aG n).length).map λi=>ch i && di n ((aG n)[i]?.getD []) z)=(List.range (aG n).length).map λi=>(ch i && decide (p.1=i)) ^^ (ch i && decide (q.1=i)):=Bo λi hi=>by
  have hw:=Ab<|Bc.mp hi;have ho:=WH T hp hq hw;rw[hw,Option.getD_some,ho];cases ch i <;> rfl
 rw[e,kL,WQ<|lt hp,WQ<|lt hq]
def x09(T:aw n)(R:RS n){ss sd:Ñ}(he:du n ss=true)(hs:bg n ss sd):∃ c χ,dv n (λz=>decide (z∈ss)) c χ:=by
 obtain⟨χ,hχ⟩:=R _<|q8v he;have es:(λz=>ss.contains z)=λz=>decide (z∈ss):=by
  funext z
  by_cases h:z∈ss
  ·rw[BW h];exact Cu.mpr h
  ·rw[BR h];exact Dk.mpr λq=>h<|Cu.mp q
 rw[es]at hχ;refine⟨λr=>decide (aH n r∈sd),χ,hχ,λe z hz=>?_⟩;have ho:=dk T hz;have h1:=hs.cut z;show decide (z∈ss)=(decide (aH n e.1∈sd) ^^ decide (aH n (other n e).1∈sd))
 by_cases a:aH n e.1∈sd <;> by_cases b:aH n (other n e).1∈sd
 ·rw[BW a,BW b,BR]
  ·rfl
  ·intro k;obtain⟨x,hx,q1,q2⟩:=h1.mp k
   rcases (iH T hz).mp hx with rfl | rfl
   ·exact q2 b
   ·rw[ho.2.1]at q2;exact q2 a
 ·rw[BW a,BR b,BW]
  ·rfl
  ·exact h1.mpr ⟨e,hz,a,b⟩
 ·rw[BR a,BW b,BW]
  ·rfl
  ·exact h1.mpr ⟨other n e,ho.1,b,by rwa[ho.2.1]⟩
 ·rw[BR a,BR b,BR]
  ·rfl
  ·intro k;obtain⟨x,hx,q1,q2⟩:=h1.mp k
   rcases (iH T hz).mp hx with rfl | rfl
   ·exact a q1
   ·exact b q1
structure cq(n:Net)(cs:List<|List Str):Prop where
 len:cs.length=(aG n).length
 mem:∀(i:Nat) c w,cs[i]?=some c->(aG n)[i]?=some w->∀ z,z∈c↔(w.map<|ay n).count z=1
 fI:∀ c∈cs,cD c
noncomputable def iR(cs:List<|List Str)(z:Str):List Nat:=(List.range cs.length).filter λi=>decide (z∈cs[i]?.getD [])
theorem Nx{a b:Nat}(h:a < b):∀ m,((List.range m).filter λi=>decide (a=i) ^^ decide (b=i))=(if a < m then [a]else [])++(if b < m then [b]else [])
 | 0=>rfl
 | m+1=>by
  rw[Dc,Ct,Nx h m]
  by_cases h1:a=m
  ·subst h1;rw[BK ⋯,BK ⋯,BP ⋯,BK<|⋯];have:([a].filter λi=>decide (a=i) ^^ decide (b=i))=[a]:=by
    rw[Cv,BP<|by rw[BW rfl,BR<|⋯];rfl];rfl
   rw[this];rfl
  ·by_cases h2:b=m
   ·subst h2;rw[BP ⋯,BK ⋯,BP ⋯,BP<|⋯];have:([b].filter λi=>decide (a=i) ^^ decide (b=i))=[b]:=by
     rw[Cv,BP<|by rw[BR h1,BW rfl];rfl];rfl
    rw[this];rfl
   ·have:([m].filter λi=>decide (a=i) ^^ decide (b=i))=[]:=by
     rw[Cv,BK<|by rw[BR h1,BR h2];decide];rfl
    rw[this,Be]
    by_cases c1:a < m <;> by_cases c2:b < m
    ·rw[BP c1,BP c2,BP ⋯,BP<|⋯]
    ·rw[BP c1,BK c2,BP ⋯,BK<|⋯]
    ·rw[BK c1,BP c2,BK ⋯,BP<|⋯]
    ·rw[BK c1,BK c2,BK ⋯,BK<|⋯]
variable{cs:List Ñ}{is:List Int}{Y:List (Key×V)}
section
variable{ss zs:Ñ}
def cq.at'(C:cq n cs)(T:aw n)(hi:i < (aG n).length)(hz:z∈ag n):decide (z∈cs[i]?.getD [])=di n ((aG n)[i]?.getD []) z:=by
 have h1:=Ab hi;have h2:=Ab (show i < cs.length by rwa[C.len]);rw[h1,h2];exact Nq T (Bp hi) (C.mem i _ _ h2 h1) hz
def uq{k:Nat}(h:cI n k z=[p]):p.1 < (aG n).length:=by
 have:p∈cI n k z:=by rw[h];exact Af.mpr rfl
 obtain⟨w,hw,_⟩:=yg (Bg.mp this).1;exact(Ac.mp hw).1
theorem Ny(C:cq n cs)(T:aw n)(hz:z∈ag n){q:Nat×End}(hp:cI n 0 z=[p])(hq:cI n 1 z=[q]):iR cs z=if p.1=q.1 then []else [min p.1 q.1,max p.1 q.1]:=by
 have lp:=uq hp;have lq:=uq hq;have e:iR cs z=(List.range (aG n).length).filter λi=>decide (p.1=i) ^^ decide (q.1=i):=by
  unfold iR;rw[C.len];refine List.filter_congr λi hi=>?_;have hi:=Bc.mp hi;have hw:=Ab hi;rw[C.at' T hi hz,hw];exact WH T hp hq hw
 rw[e]
 by_cases h:p.1=q.1
 ·rw[BP h,h,Ec];intro i _;cases decide (q.1=i) <;> decide
 ·rw[BK h]
  by_cases l:p.1 < q.1
  ·rw[Nx l,BP lp,BP lq,Ex<|Bz l,SQ<|Bz l];rfl
  ·have l:q.1 < p.1:=⋯
   have e2:(λi=>decide (p.1=i) ^^ decide (q.1=i))=λi=>decide (q.1=i) ^^ decide (p.1=i):=by funext i;exact Bool.xor_comm ..
   rw[e2,Nx l,BP lp,BP lq,Ep<|Bz l,VB<|Bz l];rfl
noncomputable def lv(cs:List<|List Str)(ss:Ñ)(z:Str):List (Nz.Bl Int):=match iR cs z with
 | a :: b :: _=>[((a:Int),(b:Int),decide (z∈ss))]
 | _=>[]
noncomputable def iS(cs:List<|List Str)(ss zs:Ñ):List (Nz.Bl Int):=zs.flatMap<|lv cs ss
def q5w(cs:List<|List Str)(ss:Ñ)(z:Str):(lv cs ss z).length<=1:=by
 unfold lv
 split <;> simp
theorem NA(cs:List<|List Str)(ss:Ñ):∀ zs:Ñ,(iS cs ss zs).length<=zs.length
 | []=>Am _
 | z :: zs=>by
  show(lv cs ss z++iS cs ss zs).length<=zs.length+1;rw[Ad];have:=q5w cs ss z;have:=NA cs ss zs;omega
def q2j(cs:List<|List Str)(ss zs:Ñ)(z:Str):iS cs ss (zs++[z])=iS cs ss zs++lv cs ss z:=by
 unfold iS;rw[Dj];simp
theorem WT(C:cq n cs)(T:aw n)(D:dv n (λz=>decide (z∈ss)) c χ)(hz:∀ z∈zs,z∈ag n){x y:Int}{o:Bool}(h:(x,y,o)∈iS cs ss zs) :
  ∃ a b:Nat,x=(a:Int)/\y=(b:Int)/\a < (aG n).length/\b < (aG n).length/\o=(dj n c χ a ^^ dj n c χ b):=by
 obtain⟨z,ND,hm⟩:=Di.mp h;obtain⟨p,p1,p2,hp⟩:=j3 T (k:=0) ∅<|hz z ND;obtain⟨q,q1,q2,hq⟩:=j3 T (k:=1) ∅<|hz z ND;have hd:=D.dq T p1 q1<|p2.trans q2.symm;rw[p2]at hd;have hb:=Ny C T (hz z ND) hp hq;unfold lv at hm
 by_cases e:p.1=q.1
 ·rw[hb,BP e]at hm;cases hm
 ·rw[hb,BK e]at hm;have hm:=Af.mp hm;cases hm;have lp:=uq hp;have lq:=uq hq;refine⟨min p.1 q.1,max p.1 q.1,rfl,rfl,⋯,⋯,?_⟩;show decide (z∈ss)=_;have hd:decide (z∈ss)=_:=hd;rw[hd]
  by_cases l:p.1 < q.1
  ·rw[Ex<|Bz l,SQ<|Bz l]
  ·rw[Ep ⋯,VB ⋯,Bool.xor_comm]
theorem NI(C:cq n cs)(T:aw n)(D:dv n (λz=>decide (z∈ss)) c χ)(hz:∀ z∈zs,z∈ag n){x:Int}{b:Bool}(w:Nz.Way (iS cs ss zs) (0:Int) x b) :
  ∃ i:Nat,x=(i:Int)/\(i=0\/i < (aG n).length)/\b=(dj n c χ i ^^ dj n c χ 0):=by
 induction w with
 | here=>exact⟨0,rfl,.inl rfl,by rw[VR]⟩
 | there w hm ih=>
  obtain⟨i,rfl,_,rfl⟩:=ih;obtain⟨a,b,ea,rfl,_,hb,rfl⟩:=WT C T D hz hm;obtain rfl:i=a:=⋯
  refine⟨b,rfl,.inr hb,?_⟩;cases dj n c χ i <;> cases dj n c χ 0 <;> cases dj n c χ b <;> rfl
 | back w hm ih=>
  obtain⟨i,rfl,_,rfl⟩:=ih;obtain⟨a,b,rfl,ea,ha,_,rfl⟩:=WT C T D hz hm;obtain rfl:i=b:=⋯
  refine⟨a,rfl,.inr ha,?_⟩;cases dj n c χ i <;> cases dj n c χ 0 <;> cases dj n c χ a <;> rfl
theorem q09(C:cq n cs)(T:aw n)(hg:ce n)(hN:(n.map (·.1)).Nodup)(hz:∀ z,z∈zs↔z∈ag n):∀ i,i < (aG n).length->∃ b,Nz.Way (iS cs ss zs) (0:Int) (i:Int) b:=by
 intro i hi;have h0:0 < (aG n).length:=⋯
 have hw:=Ab h0;obtain⟨e,he,rH⟩:=sf T hw;rw[rH]at hw;have hp:=yi (k:=0) hw (show e∈gD 0 (walker n e) from(jF T he).mpr ⟨0,rfl⟩);refine WO T hg hN (S:=λi=>∃ b,Nz.Way (iS cs ss zs) (0:Int) (i:Int) b) ⟨_,hp,false,.here⟩ (λp hp q hq e=>?_) i hi;have cU:ay n p.2∈ag n:=(se T (k:=0)<|∅).mp<|Ai.mpr ⟨p,hp,rfl⟩;obtain⟨p',p1,p2,ur⟩:=j3 T (k:=0) ∅ cU;obtain⟨q',q1,q2,ut⟩:=j3 T (k:=1) ∅ cU;obtain rfl:=yj T ∅ hp p1 p2.symm;obtain rfl:=yj T ∅ hq q1<|e.symm.trans q2.symm
 by_cases k:p.1=q.1
 ·rw[k]
 ·have hb:=Ny C T cU ur ut;rw[BK k]at hb;have hm:(((min p.1 q.1:Nat):Int),((max p.1 q.1:Nat):Int),decide (ay n p.2∈ss))∈iS cs ss zs:=by
   refine Di.mpr ⟨ay n p.2,(hz _).mpr cU,?_⟩;unfold lv;rw[hb];exact Af.mpr rfl
  by_cases l:p.1 < q.1
  ·rw[Ex<|Bz l,SQ<|Bz l]at hm;exact⟨λ⟨b,w⟩=>⟨_,.there w hm⟩,λ⟨b,w⟩=>⟨_,.back w hm⟩⟩
  ·rw[Ep ⋯,VB<|⋯]at hm;exact⟨λ⟨b,w⟩=>⟨_,.back w hm⟩,λ⟨b,w⟩=>⟨_,.there w hm⟩⟩
theorem NM{α:Type}(g f:α->Bool):∀ l:List α,aC ((l.filter g).map f)=aC (l.map λi=>g i && f i)
 | []=>rfl
 | a :: l=>by
  rw[Cv];have ih:=NM g f l;cases h:g a with
  | true=>
   rw[BP rfl];show(f a ^^ aC ((l.filter g).map f))=((g a && f a) ^^ aC (l.map λi=>g i && f i));rw[ih,h,Gz]
  | false=>
   rw[BK ∅,ih];show _=((g a && f a) ^^ aC (l.map λi=>g i && f i));rw[h,Bool.false_and,Gf]
def q27(C:cq n cs)(T:aw n)(hz:∀ z∈zs,z∈ag n)(D:dv n (λz=>decide (z∈ss)) c χ)(I:Nz.b5 Sum.inl (iS cs ss zs) 0 none Y [])
   (h1:is.Nodup) (h2:∀ x,x∈is↔ao Y (Sum.inl x)=some (.bl true)):is.length<=(aG n).length:=by
 have:=aI h1 (b:=(List.range (aG n).length).map λi:Nat=>(i:Int)) λx hx=>by
  obtain⟨b,e,w⟩:=I.val x _<|(h2 x).mp hx;cases e;obtain⟨i,rfl,hi,hb⟩:=NI C T D hz w;have:i≠0:=λk=>by subst k;rw[VR]at hb;cases hb
  exact Ai.mpr ⟨i,Bc.mpr<|hi.resolve_left this,rfl⟩
 rwa[Aa,Cy]at this
structure iT(n:Net)(ss:Ñ)(ns:List Nat):Prop where
 fI:ns.Pairwise (· < ·)
 oj:∀ i∈ns,1<=i/\i < (aG n).length
 sum:∀ z∈ag n,aC (ns.map λi=>di n ((aG n)[i]?.getD []) z)=decide (z∈ss)
theorem q55(C:cq n cs)(T:aw n)(hg:ce n)(hN:(n.map (·.1)).Nodup)(hz:∀ z,z∈zs↔z∈ag n)(D:dv n (λz=>decide (z∈ss)) c χ)(I:Nz.b5 Sum.inl (iS cs ss zs) 0 none Y [])
   (h1:is.Pairwise (· < ·)) (h2:∀ x,x∈is↔ao Y (Sum.inl x)=some (.bl true)):∃ ns:List Nat,is=ns.map (λi:Nat=>(i:Int))/\iT n ss ns:=by
 have pos:∀ x∈is,∃ i:Nat,x=(i:Int)/\1<=i/\i < (aG n).length/\(dj n c χ i ^^ dj n c χ 0)=true:=λx hx=>by
  obtain⟨b,e,w⟩:=I.val x _<|(h2 x).mp hx;cases e;obtain⟨i,rfl,hi,hb⟩:=NI C T D (λz h=>(hz z).mp h) w;have:i≠0:=λk=>by subst k;rw[VR]at hb;cases hb
  exact⟨i,rfl,⋯,hi.resolve_left this,hb.symm⟩
 have back:∀ i,i < (aG n).length->(dj n c χ i ^^ dj n c χ 0)=true->((i:Nat):Int)∈is:=λi hi h=>by
  obtain⟨b,w⟩:=q09 (ss:=ss) C T hg hN hz i hi;obtain⟨b',hv⟩:=I.whole _ _ w;obtain⟨b2,e,w2⟩:=I.val _ _ hv;cases e;obtain⟨j,ej,_,hb⟩:=NI C T D (λz h=>(hz z).mp h) w2;obtain rfl:i=j:=⋯
  rw[h]at hb;subst hb;exact(h2 _).mpr hv
 refine⟨is.map Int.toNat,?_,?_,?_,?_⟩
 ·rw[Cg];refine(List.map_id is).symm.trans<|Bo λx hx=>?_;obtain⟨i,rfl,_⟩:=pos x hx;rfl
 ·rw[Cs];exact h1.imp_of_mem λ{a b} ha hb h=>by
   obtain⟨i,rfl,_⟩:=pos a ha;obtain⟨j,rfl,_⟩:=pos b hb;show i < j;omega
 ·intro i hi;obtain⟨x,hx,rfl⟩:=Ai.mp hi;obtain⟨i,rfl,a,b,_⟩:=pos x hx;exact⟨a,b⟩
 ·intro z cU;obtain⟨p,p1,p2,hp⟩:=j3 T (k:=0) ∅ cU;obtain⟨q,q1,q2,hq⟩:=j3 T (k:=1) ∅ cU;have hd:=D.dq T p1 q1<|p2.trans q2.symm;rw[p2]at hd;have perm:(is.map Int.toNat).Perm ((List.range (aG n).length).filter λi=>dj n c χ i ^^ dj n c χ 0):=by
   refine(Dm ?_<|List.nodup_range.filter _).mpr λi=>?_
   ·rw[Ay,Cs];exact h1.imp_of_mem λ{a b} ha hb h=>by
     obtain⟨i,rfl,_⟩:=pos a ha;obtain⟨j,rfl,_⟩:=pos b hb;show i≠j;omega
   ·rw[Bg,Bc]
    constructor
    ·intro h;obtain⟨x,hx,rfl⟩:=Ai.mp h;obtain⟨i,rfl,_,b,k⟩:=pos x hx;exact⟨b,k⟩
    ·exact λ⟨a,b⟩=>Ai.mpr ⟨_,back i a b,rfl⟩
  rw[Jv<|perm.map _,NM,WR T (λi=>dj n c χ i ^^ dj n c χ 0) hp hq];have hd:decide (z∈ss)=_:=hd;rw[hd];cases dj n c χ p.1 <;> cases dj n c χ q.1 <;> cases dj n c χ 0 <;> rfl
end
end Nt
namespace L2
open PySem PySem.Spec PyProof.Rows bD
variable{H:Hp}{l:Õ}{ns:List Int}
section
variable{X:Cx}
theorem WU:fE X (.builtin "sorted") (λxs H Q=>∃ p ns,xs=[.ref p]/\aj X.K H p (ns.map V.int)/\ns.length < 64/\∀ l ss,H l=none->List.Perm ss ns->ss.Pairwise (·<=·)->Q (.ref l) (upd H l<|.lst<|ss.map V.int)):=by
 intro O s σ H xs us Q I r h;obtain⟨p,ns,rfl,hp,hl,q⟩:=h;obtain⟨u,rfl,ru⟩:=vals1 r;cases (show u=Value.ref p from ru);obtain⟨è,rv,pl,hz⟩:=I.list hp;have e1:=rv.length;rw[Aa]at e1;refine PyProof.Rows.sorted_ints pl.isList (Ws rv) ⋯ λout ss hS db gP=>?_;obtain⟨e,he⟩:=sortedAll_at s.heap è out;have hlen:ss.length<=sizeLine:=by rw[db.length_eq,FJ];omega
 refine⟨.ref _,_,I.eR (s':={s with heap:=sortedAll s.heap è out}) (λb u hb=>RK hb) rfl rfl (Ef _) (show aB X.U X.w _ _ _ (.lst<|ss.map V.int) from⟨by rwa[Aa],out.toList,e,Wt hS,he⟩),rfl,q _ ss (I.aF.fresh<|Ef _) db gP⟩
def WV{D:Ends}{σ:St}(h:Run X.my l D σ H):Run X l D σ H:=⟨λO s I=>(oK (X:=X.my)).my O s σ H D I h⟩
def WW{a b:Addr}(ha:H a=some (.lst<|ns.map V.int))(hb:H b=some (.lst<|ns.map V.int)):oU X H 1 (.ref a) (.ref b) true:=by
 have q:=zE (λ_=>true) (aj.of ha) (aj.of hb) rfl λj x y hx hy=>by
  rw[hx]at hy;cases hy;rw[Ah,Ar]at hx;obtain⟨z,_,rfl⟩:=hx;have e:=qv (X:=X) (H:=H) (k:=0) (x:= .int z) (y:= .int z) rfl rfl;rwa[show cC (.int z) (.int z)=true from BW rfl]at e
 rwa[vN]at q
end
end L2
namespace bK
open PySem SetTable
variable{es:Array (Int×Value)}
variable{w:World}{U:Program}{E:Î}
end bK
namespace L2
open PySem PySem.Spec PyProof.Rows bK Classical
variable{ý:List Yt}{s:Shared}{E:Î}{U:Program}
variable{O:Ð}
end L2
namespace L2
open PySem PySem.Spec PyProof.Rows
variable{H:Hp}{σ:St}{X:Cx}
variable{N':Ñ}{scope:Scope}{ifs:Ô}
section
variable{elt tg:Expr}{A a:Addr}{xs:List V}{after:Hp->Prop}
theorem k53(Pv:Nat->St->Hp->Prop)(h0:Pv 0 σ H)(hl:∀ i σ' H',i<=xs.length->Pv i σ' H'->aj X.K H' a xs)
  (hs : ∀ (i : Nat) x T σ' H', xs[i]? = some x → Pv i σ' H' → H' T = none → vw X N' scope tg (.ref T) σ' (upd H' T<|.tup [.int (i : Int), x]) λσ2 H3 => vx X N' scope ifs σ2 H3 λb H4 =>
   if b=true then vt X N' scope elt σ2 H4 λv H5=>∃ ys,H5 A=some (.lst ys)/\ys.length < sizeLine/\Pv (i+1) σ2 (upd H5 A<|.lst<|ys++[v])else Pv (i+1) σ2 H4)
  (hd:∀ σ' H',Pv xs.length σ' H'->after H'):lU X N' scope tg ifs elt (Mj X.K a) A after σ H:=by
 refine⟨λi m σ' H'=>m=xs.length - i/\i<=xs.length/\Pv i σ' H',⟨_,rfl,Bu _,h0⟩,?_⟩;rintro i m σ' H' ⟨rfl,hi,p⟩;have q:=hl i σ' H' hi p
 by_cases aV:i < xs.length
 ·refine .inr ⟨⟨xs,xs[i],q,by simp[aV]⟩,Pv<|i+1,λσ' H' p'=>⟨xs.length - (i+1),⋯,rfl,aV,p'⟩,λv H2 y=>?_⟩;obtain⟨T,x,hT,rfl,rfl,hx⟩:=y;exact hs i x T σ' _ (hx xs q) p hT
 ·have e:i=xs.length:=⋯
  subst e;exact .inl ⟨⟨xs,q,Am _⟩,hd σ' H' p⟩
end
end L2
namespace Q1
open PySem L2 Nt bD bK
open PyProof.Rows (sortedS)
open Classical
def lz(H:Hp)(L:Addr)(us:List Addr)(cs:List<|List Str):Prop:=H L=some (.lst<|us.map V.ref)/\us.length=cs.length/\∀(i:Nat) u c,us[i]?=some u->cs[i]?=some c->H u=some (Ls c)
variable{cs:List Ñ}{us:List Addr}{H:Hp}
def lz.same{H':Hp}{L:Addr}(h:lz H L us cs)(s:ah H H'):lz H' L us cs:=⟨s _ _ h.1,h.2.1,λi u c a b=>s _ _<|h.2.2 i u c a b⟩
def C3:Sp:=λvs H Q _=>∃(R:Addr) (as:Ï) (n:Net),vs=[.ref R]/\al H R as n/\(n.map (·.1)).Nodup/\aw n/\n.length<=60/\(ag n).length<=60 /\
 ∀(L:Addr) (us:List Addr) (cs:List<|List Str) (H':Hp),ah H H'->H L=none->lz H' L us cs->cq n cs->Q (.ref L) H'
noncomputable def NU(c:Str->Addr):Sp:=λvs H Q E=>∃(R p:Addr) (as:Ï) (n:Net) (ss:Ñ),vs=[.ref R,.ref p]/\al H R as n/\(n.map (·.1)).Nodup/\aw n/\HF n/\0 < n.length/\n.length<=60/\(ag n).length<=60/\H p=some (Ls ss)/\cD ss /\
 (¬ dv n ss->∀ H',ah H H'->E (.ref<|c "NoDouble") none H')/\(dv n ss->∀(L:Addr) (ns:List Nat) (H':Hp),ah H H'->H L=none->H' L=some (Lz<|ns.map λi:Nat=>(i:Int))->iT n ss ns->Q (.ref L) H')
def nX:∀ x y:Int,(Sum.inl x:Key)=Sum.inl y->x=y:=λ_ _ h=>Sum.inl.inj h
structure lB(n:Net)(H:Hp)(D:Addr)(us:List Addr)(cs:List<|List Str)(i:Nat):Prop where
 lst:H D=some (.lst<|us.map V.ref)
 lu:us.length=i
 lc:cs.length=i
 at':∀(j:Nat) u c,us[j]?=some u->cs[j]?=some c->H u=some (Ls c)/\u≠D
 mem:∀(j:Nat) c w,cs[j]?=some c->(aG n)[j]?=some w->∀ z,z∈c↔(w.map<|ay n).count z=1
 fI:∀ c∈cs,cD c
variable{es:List Nt.End}{ks:Ñ}{D:Addr}{n:Net}
theorem lB.step{H2:Hp}{k:Addr}{i:Nat}(I:lB n H D us cs i)(s2:ah H H2)(nk:H k=none)(e2:H2 k=some (Ls ks))(so:cD ks)(hw:(aG n)[i]?=some es)(m2:∀ z,z∈ks↔(es.map<|ay n).count z=1):lB n (upd H2 D<|.lst<|us.map V.ref++[.ref k]) D (us++[k]) (cs++[ks]) (i+1):=by
 have lu:=I.lu;have lc:=I.lc;have WX:k≠D:=λe=>by rw[e,I.lst]at nk;cases nk
 have zero:∀{α:Type} {l:List α} {a b:α} {j:Nat},¬ j < l.length->(l++[a])[j]?=some b->j=l.length/\a=b:=λ{α l a b j} h e=>by
  rw[Ba<|⋯]at e;have hj:j - l.length=0:=by have:=(Ac.mp e).1;simp at this;omega
  rw[hj]at e;exact⟨⋯,by cases e;rfl⟩
 refine⟨by rw[av,Aj];rfl,by rw[Ad,lu];rfl,by rw[Ad,lc];rfl,λj u c h1 h2=>?_,λj c w h1 h2=>?_,λc hc=>?_⟩
 ·by_cases hj:j < us.length
  ·rw[Aq hj]at h1;rw[Aq<|⋯]at h2;obtain⟨q1,q2⟩:=I.at' j u c h1 h2;exact⟨by rw[au q2];exact s2 _ _ q1,q2⟩
  ·obtain⟨_,rfl⟩:=zero hj h1;obtain⟨_,rfl⟩:=zero ⋯ h2;exact⟨by rwa[au WX],WX⟩
 ·by_cases hj:j < cs.length
  ·rw[Aq hj]at h1;exact I.mem j c w h1 h2
  ·obtain⟨ej,rfl⟩:=zero hj h1;rw[ej,lc,hw]at h2;cases h2;exact m2
 ·rcases An.mp hc with h | h
  ·exact I.fI c h
  ·rwa[Af.mp h]
def lB.start(h:H D=some (.lst [])):lB n H D [] [] 0:=⟨h,rfl,rfl,λj u c h=>by simp at h,λj c w h=>by simp at h,λc h=>by cases h⟩
def lB.whole(I:lB n H D us cs (aG n).length):lz H D us cs/\cq n cs:=⟨⟨I.lst,I.lu.trans I.lc.symm,λi u c a b=>(I.at' i u c a b).1⟩,I.lc,I.mem,I.fI⟩
def WY(h:∀ e∈es,e∈ends n):∀ z∈es.map (ay n),z∈ag n:=λz hz=>by
 obtain⟨e,he,rfl⟩:=Ai.mp hz;obtain⟨y,hy⟩:=af.mp<|h e he;rw[dJ hy];exact eG hy
variable{Z:Heap}{mg:Ò}{K:PySem.W.Frag}{fd:FuncData}{f:Addr}{zs:List Int}{c:Str->Addr}
section
variable{P:Program}{w:World}
abbrev WZ:Ñ:=["rows"]
abbrev yk:Ñ:=["rows","walker"]
def yl:ak WZ ["rows"] (aP zZ):=bZ
def q96:yk.Nodup:=by decide +kernel
theorem q1k(F:bo K "cores_of" "cores_of" zZ f fd)(T:Txt mg)(GW:aQ P w K mg Z 4 "walkers_of" ["rows"] BV)(GC:aQ P w K mg Z 4 "core_of" ["rows","walker"] M7):aD P w K mg Z bz 5 f fd ["rows"] C3:=by
 refine F.gc yl λb0 H vs Q E hr h=>?_;obtain⟨R,as,n,rfl,hR,hN,hT,hn,iN,q⟩:=h;have nd:=yl.nd;have pq:=jv n;refine bQ (gu (aP zZ) WZ yk 1 (eB bd)<|bG GW hr<|ai<|ae 0<|ax ⟨R,as,n,rfl,hR,hN,hT,⋯,⋯,λW ls H1 s1 n1 hW fW=>⟨W,rfl,⟨_,aj.of hW.lst⟩,λD hD=>?_⟩⟩);have wl:(aG n).length<=(ends n).length:=wq n (ends n) [];have NV:=ng hT (ends n) [] λe he=>he;have ym:ls.length=(aG n).length:=hW.len;refine jS (xs:=ls.map V.ref) (λi σ' H'=>(∃ v,σ'=[⇑R]++[v])/\ah H1 H'/\∃ us cs,lB n H' D us cs i) ⟨⟨none,rfl⟩,aM hD _,[],[],lB.start av⟩ ?_ ?_ ?_
 ·rintro i σ' H' _ ⟨_,sm,_⟩;exact aj.of<|sm _ _ hW.lst
 ·rintro i x σ' H' hx ⟨⟨v,rfl⟩,sm,us,cs,I⟩;rw[Ah,Ar]at hx;obtain⟨l,hl,rfl⟩:=hx;have mW:i < (aG n).length:=by have:=(Ac.mp hl).1;rwa[<- ym]
  have nY:=Ab mW;obtain⟨ts,el,hE⟩:=(hW.same sm).at' i l _ hl nY;have wk:=NV _<|At nY;generalize (aG n)[i]=es at nY hE wk;have few:=wk.few;have lu:=I.lu;intro cl C æ ç ex;refine a8 1 q96 ?_;intro cl C æ ç ex;refine iA<|cz ?_;intro cl C æ ç ex;refine bG GC hr<|ai<|ae 0<|ai<|ae 1<|ax ⟨R,l,as,n,ts,es,rfl,hR.same<|s1.trans sm,hN,⋯,⋯,el,hE,wk.ends,⋯,λl hn hm=>?_,λk ks H2 s2 n2 e2 NX m2=>?_⟩
  ·have:=aI hn λz hz=>WY wk.ends z<|hm z hz;omega
  exact⟨_,s2 _ _ I.lst,by rw[Aa];exact bI ⋯,⟨_,rfl⟩,cX (sm.trans s2) hD,_,_,I.step s2 n2 e2 NX nY m2⟩
 ·rintro σ' H' ⟨_,sm,us,cs,I⟩;rw[Aa,ym]at I;exact q D us cs H' (s1.trans sm) (s1.free hD) I.whole.1 I.whole.2
abbrev NY:Ñ:=["rows","some","cores","links","tie","bearers","chosen"]
abbrev yn:Ñ:=["rows","some","cores","links","tie","bearers","chosen","number","core"]
abbrev yo:Ñ:=["rows","some","cores","links","tie","bearers","chosen","number"]
def yp:ak NY ["rows","some"] (aP vU):=bZ
def W0:yn.Nodup:=by decide +kernel
def q83:yo.Nodup:=by decide +kernel
noncomputable def sg(cs:List<|List Str)(z:Str)(i:Nat):List Int:=((List.range i).filter λk=>decide (z∈cs[k]?.getD [])).map λk:Nat=>(k:Int)
def k55(cs:List<|List Str)(z:Str)(i:Nat):sg cs z (i+1)=sg cs z i++(if z∈cs[i]?.getD []then [(i:Int)]else []):=by
 unfold sg;rw[Dc,Ct,Aj,Cv]
 by_cases h:z∈cs[i]?.getD []
 ·rw[BP<|BW h,BP h];rfl
 ·rw[BK λk=>h<|BX k,BK h];rfl
def k8c(cs:List<|List Str)(z:Str)(i:Nat):(sg cs z i).length<=i:=by
 unfold sg;rw[Aa];have:=Cp (λk=>decide (z∈cs[k]?.getD []))<|List.range i;rwa[Cy]at this
def li.keep{α:Type}{φ:α->Key}{H':Hp}{ls:List (Nz.Bl α)}(h:li φ H us ls)(k:∀ t xs,H t=some (.tup xs)->H' t=some (.tup xs)):li φ H' us ls:=⟨h.1,λj u x h1 h2=>k _ _<|h.2 j u x h1 h2⟩
theorem li.snoc{α:Type}{φ:α->Key}{ls:List (Nz.Bl α)}{u:Addr}{x:Nz.Bl α}(h:li φ H us ls)(hu:H u=some (Vp φ x)):li φ H (us++[u]) (ls++[x]):=by
 refine⟨by rw[Ad,Ad,h.1];rfl,λj v y h1 h2=>?_⟩;have hl:=h.1
 by_cases hj:j < us.length
 ·rw[Aq hj]at h1;rw[Aq<|⋯]at h2;exact h.2 j v y h1 h2
 ·rw[Ba<|⋯]at h1 h2;have f9:j - us.length=0:=by
   have:=(Ac.mp h1).1;simp at this;omega
  rw[f9]at h1;rw[<- hl,f9]at h2;cases h1;cases h2;exact hu
def N0{l:Addr}{y:Int}:upd H l (.lst<|zs.map V.int++[V.int y])=upd H l (Lz<|zs++[y]):=by
 show _=upd H l (.lst<|(zs++[y]).map V.int);rw[Aj];rfl
theorem q6f(F:bo K "numbers_by" "numbers_by" vU f fd)(T:Txt mg)(cl:Cl K mg c)(GD:aQ P w K mg Z 5 "is_double" ["rows","some"] Mk)(GC:aQ P w K mg Z 5 "cores_of" ["rows"] C3)(GT:aQ P w K mg Z 5 "ties_of" ["rows"] rY)(GS:aQ P w K mg Z 5 "spread" ["first","links"] M9) :
  aD P w K mg Z (XF P w) 6 f fd ["rows","some"] (NU c):=by
 refine F.gx yp (λvs H Q E h=>?_) λb0 H vs Q hr h=>?_
 ·obtain⟨R,p,as,n,ss,rfl,_⟩:=h;rfl
 obtain⟨R,p,as,n,ss,rfl,hR,hN,hT,hf,h0,hn,iN,hp,rM,qE,qQ⟩:=h;have nd:=yp.nd;have cj:=hr.u1;have few:Few n:=λzs h1 h2=>by have:=aI h1 h2;omega
 have mN:("NoDouble" : Str)∈cB:=∅
 refine fP<|lR<|iu<|bG GD hr<|ai<|ae 0<|ai<|ae 1<|ax ⟨R,p,as,n,ss,rfl,hR,hT,hf.1,h0,hn,iN,hp,rM,λH1 s1=>⟨_,rfl,?_⟩⟩
 by_cases hD:dv n ss
 case neg=>
  rw[BR hD];exact cz<|V0 V2 (cl.at' _ mN).1 (cl.at' _ mN).2.1 rfl (ai<|vj<|ax ⟨Z1,qE hD _ s1⟩)
 rw[BW hD];refine bH<|a7<|WV ?_;obtain⟨sd,nR⟩:=hD.2;obtain⟨cc,χ,DD⟩:=x09 hT hf.2.2 hD.1 nR;refine aT 2 nd<|bG GC hr<|ai<|ae 0<|ax ⟨R,as,n,rfl,hR.same s1,hN,hT,hn,iN,λC cu cs H2 s2 n2 hC dU=>?_⟩;refine aT 3 nd<|dS<|ax ⟨Z0,λM hM=>?_⟩;have nZ:=s1.trans s2;have sM:=aM hM<|.lst [];have nP:(upd H2 M<|.lst []) M=some (.lst []):=av;generalize upd H2 M (.lst [])=H3 at sM nP;have s13:=nZ.trans sM;refine lS (bG GT hr<|ai<|ae 0<|ax ⟨R,as,n,rfl,hR.same s13,⋯,⋯,few,λtl zs H4 s4 n4 e4 znd zso n8=>⟨tl,rfl,⟨_,aj.of e4⟩,?_⟩⟩);have x0J:=aI znd λz hz=>(n8 z).mp hz;have wl:(aG n).length<=(ends n).length:=wq n (ends n) [];have pq:=jv n;have lcs:=dU.len;have Vk:tl≠M:=λe=>by rw[e,nP]at n4;cases n4
 have sM4:=sM.trans s4;refine lT (xs:=zs.map V.str) (λj σ H'=>∃(us:List Addr) (u4 u5:Option V),ah H2 H'/\H' tl=some (Ls zs)/\H' M=some (.lst<|us.map V.ref)/\AtZ H' us (iS cs ss<|zs.take j)/\σ=[⇑R,⇑p,⇑C,⇑M,u4,u5,none]) ⟨[],_,_,sM4,e4,s4 _ _ nP,⟨rfl,λj u x h=>by simp at h⟩,rfl⟩ ?_ ?_ ?_
 ·rintro j σ H' _ ⟨us,u4,u5,sm,et,_⟩;exact aj.of et
 ·rintro j x σ H5 hx ⟨us,u4,u5,sm,et,eM,cN,rfl⟩;rw[Ah,Ar]at hx;obtain⟨z,hz,rfl⟩:=hx;have cU:=(n8 z).mp<|At hz;have gZ:zs.take (j+1)=zs.take j++[z]:=by rw[Bx,hz];rfl
  have oa:=hC.same sm;have lC:=oa.2.1;have B3:=NA cs ss<|zs.take j;rw[Bh]at B3;have b4:=cN.1;refine a8 4 nd ?_;refine tj 5 (aP vU) NY yn 2 nd (q40 rfl T.enum gL)<|ai<|ae 2<|ax ⟨C,rfl,⟨_,aj.of oa.1⟩,λD W1=>?_⟩;refine k53 (xs:=cu.map V.ref) (λi σ' H'=>(∃ v1 v2,σ'=[⇑R,⇑p,⇑C,⇑M,some<|.str z,u5,none]++[v1,v2])/\ah H5 H'/\H' D=some (Lz<|sg cs z i)) ⟨⟨_,_,rfl⟩,aM W1 _,av⟩ ?_ ?_ ?_
  ·rintro i σ' H' _ ⟨_,sm,_⟩;exact aj.of<|sm _ _ oa.1
  ·rintro i x Tq σ' H6 hx ⟨⟨v1,v2,rfl⟩,pM,dY⟩ hTq;rw[Ah,Ar]at hx;obtain⟨u,hu,rfl⟩:=hx;have hi:i < cs.length:=by have:=(Ac.mp hu).1;omega
   have si:=Ab hi;have W2:=oa.2.2 i u _ hu si;have sq:=aM hTq<|.tup [.int (i:Int),.ref u];have bl:=k8c cs z i;rw[k55,si,Option.getD_some];generalize cs[i]=ci at W2;intro cl C' æ ç ex;refine jT rfl (aS.of av) (a8 7 W0<|a8 8 W0 ?_);intro cl C' æ ç ex;refine hU<|cH lN<|ae 4<|ae 8 ⟨u,_,rfl,.inl<|aj.of<|sq _ _<|pM _ _ W2,rfl,kE _,_,rfl,?_⟩;have fF:∀(x y:Bool),(if false=true then x else y)=y:=λ_ _=>rfl;rw[fF,kD,rL]
   by_cases hb:z∈ci
   ·rw[BW hb,BP hb];refine cz ?_;intro cl C' æ ç ex;refine ae 7 ⟨_,sq _ _ dY,by rw[Aa];exact bI ⋯,⟨_,_,rfl⟩,cX (pM.trans sq) W1,?_⟩;rw[N0];exact av
   ·rw[BR hb,BK hb,Be];exact bH ⟨⟨_,_,rfl⟩,pM.trans sq,sq _ _ dY⟩
  rintro σ' H6 ⟨_,pM,dY⟩;rw[Aa,lC]at dY;have ebz:sg cs z cs.length=(iR cs z).map λk:Nat=>(k:Int):=rfl;rw[ebz]at dY;have pC:=pM _ _ et;have C4:=pM _ _ eM;have N2:=cN.same pM;have N3:=sm.trans pM;have elk:iS cs ss (zs.take<|j+1)=iS cs ss (zs.take j)++lv cs ss z:=by rw[gZ,q2j]
  rw[elk];obtain⟨p0,p1,p2,ur⟩:=j3 hT (k:=0) ∅ cU;obtain⟨q0,q1,q2,ut⟩:=j3 hT (k:=1) ∅ cU;have gj:=Ny dU hT cU ur ut;refine fP<|Qw<|ae 5 (v:= .ref D) ⟨!(iR cs z).isEmpty,Or.inl ⟨_,aj.of dY,by cases iR cs z <;> rfl⟩,?_⟩
  by_cases W3:p0.1=q0.1
  ·rw[BP W3]at gj;rw[gj];refine bH<|a7<|a7 ⟨us,_,_,N3,pC,C4,?_,rfl⟩;unfold lv;rwa[gj,Be]
  ·rw[BK W3]at gj;generalize min p0.1 q0.1=a at gj;generalize max p0.1 q0.1=b at gj;rw[gj]at dY ⊢;have el1:lv cs ss z=[((a:Int),(b:Int),decide (z∈ss))]:=by unfold lv;rw[gj]
   rw[el1];have hp6:=N3 _ _<|nZ _ _ hp;refine cz<|gq<|jQ<|ae 3 ⟨M,rfl,⟨_,C4⟩,fv<|ai<|bb cL<|ae 5<|aE ⟨D,_,_,.int (a:Int),rfl,rfl,aj.of dY,rfl,ai<|bb cL<|ae 5<|aE ⟨D,_,_,.int (b:Int),rfl,rfl,aj.of dY,rfl,?_⟩⟩⟩;refine ai<|hG lN<|ae 4<|ae 1 ⟨p,_,rfl,.inl<|aj.of hp6,rfl,kE _,ax ⟨Z3,λt dX=>?_⟩⟩;have fF:∀(x y:Bool),(if false=true then x else y)=y:=λ_ _=>rfl;rw[fF,kD,rL];have sT:=aM dX<|.tup [.int (a:Int),.int (b:Int),.bl<|decide (z∈ss)];have e3:(upd H6 t<|.tup [.int (a:Int),.int (b:Int),.bl<|decide (z∈ss)]) t=some (T3z ((a:Int),(b:Int),decide (z∈ss))):=av;refine⟨_,sT _ _ C4,by rw[Aa];exact bI ⋯,a7<|a7 ⟨us++[t],_,_,cX (N3.trans sT) hM,?_,?_,((N2.same sT).snoc e3).keep λt xs h=>?_,rfl⟩⟩
   ·rw[au Vk];exact sT _ _ pC
   ·rw[av,Aj];rfl
   ·rwa[au<|bV h (sT _ _ C4) λz=>nomatch z]
 ·rintro σ H5 ⟨us,u4,u5,sm,et,eM,cN,rfl⟩;rw[Aa,Br]at cN;have B3:=NA cs ss zs;refine aT 6 nd (bG GS hr<|ai<|aE<|ai<|ae 3<|ax ⟨(0:Int),M,us,_,rfl,eM,cN,⋯,λd Y H6 s6 n6 e6 I=>?_⟩);have s26:=sm.trans s6;have nw:=nZ.trans s26;have xK:∀ k∈Y.map (·.1),∃ x,k=Sum.inl x:=λk hk=>(I.txt k hk).imp λx h=>h.1;have pD:H d=none:=(nZ.trans sm).free n6;have oZ:=I.len;refine bQ<|bP WU T.sorted CW<|ai<|gu (aP vU) NY yo 1 (Sw bd)<|ae 6 ⟨d,Y,rfl,e6,λob E2 rN=>?_⟩;have nE:E2≠d:=λe=>by rw[e,av]at rN;cases rN
  have Mb:H6 E2=none:=by rwa[au nE]at rN
  refine Sx (λi σ' H'=>(∃ v,σ'=[⇑R,⇑p,⇑C,⇑M,u4,u5,⇑d]++[v])/\H'=upd (upd H6 d<|.bB ob<|.dK Y) E2 (Lz<|Nz.aZ Sum.inl<|Y.take i)) ⟨⟨_,rfl⟩,rfl⟩ ?_ ?_ ?_
  ·rintro i σ' H' _ ⟨_,rfl⟩;rw[au<|CG nE,av]
  ·rintro i pr σ' H' nQ ⟨⟨v,rfl⟩,rfl⟩;have hm:pr∈Y:=At nQ;have gZ:Y.take (i+1)=Y.take i++[pr]:=by rw[Bx,nQ];rfl
   obtain⟨k,vv⟩:=pr;obtain⟨z,rfl⟩:=xK k<|Ai.mpr ⟨_,hm,rfl⟩;have hv:=(wA I.de).mp hm;obtain⟨b,rfl,_⟩:=I.val z vv hv;rw[gZ,Nz.cV,Nz.iO nX];intro cl C' æ ç ex;refine a8 7 q83 ?_;intro cl C' æ ç ex;have dg:aX (upd (upd H6 d<|.bB ob<|.dK Y) E2<|Lz<|Nz.aZ Sum.inl<|Y.take i) d (kV<|Sum.inl z) (some<|.bl b):=by
    rw[<- hv];exact .inl ⟨Y,Sum.inl z,.inr ⟨ob,by rw[au<|CG nE,av]⟩,rfl,rfl⟩
   refine hU<|iu<|eU cj<|ae 6<|ae 7 ⟨d,.bl b,rfl,dg,b,rfl,?_⟩;have l7:=By (Nz.bY Sum.inl<|Y.take i) (show(Y.take i).length<=Y.length by rw[Bh];omega)
   by_cases hb:b=true
   ·rw[BP hb];intro cl C' æ ç ex;refine ae 7 ⟨_,av,by rw[Aa];exact bI ⋯,⟨_,rfl⟩,?_⟩;rw[pO,BP hb];exact N0
   ·rw[BK hb];refine⟨⟨_,rfl⟩,?_⟩;rw[BK hb,Be]
  ·rintro σ' H' ⟨_,rfl⟩;rw[Br];have W4:=Nz.fJ nX Y I.de;have Kn:(Nz.aZ (Sum.inl:Int->Key) Y).length<=(aG n).length:=q27 dU hT (λz hz=>(n8 z).mp hz) DD I W4 λx=>I.mem nX x;refine ax ⟨E2,_,rfl,aj.of av,⋯,λl sd hl db rO=>?_⟩;have Md:l≠E2:=λe=>by rw[e,av]at hl;cases hl
   have Mf:l≠d:=λe=>by rw[e,au<|CG nE,av]at hl;cases hl
   have CA:H6 l=none:=by rwa[au Md,au Mf]at hl
   have iw:H l=none:=nw.free CA;have Mg:H E2=none:=nw.free Mb;have aV:sd.Pairwise (· < ·):=by
    have jM:=db.nodup_iff.mpr W4;rw[Ay]at jM;exact(rO.and jM).imp λ⟨a,b⟩=>⋯
   obtain⟨ns,rfl,oI⟩:=q55 dU hT hf.1 hN n8 DD I aV λx=>by rw[db.mem_iff];exact I.mem nX x
   refine qQ hD l ns _ (λc o' hc=>?_) iw av oI;rw[au<|bh hc iw,au<|bh hc Mg,au<|bh hc pD];exact nw _ _ hc
end
end Q1
namespace Nt
open PySem L2 Classical
variable{l:List Nat}{z:Str}{ss:Ñ}{i:Nat}{cs:List Ñ}
section
variable{n:Net}
noncomputable def par(n:Net)(l:List Nat)(z:Str):Bool:=aC<|l.map λi=>di n ((aG n)[i]?.getD []) z
def C5{a b:List Nat}(h:a.Perm b)(z:Str):par n a z=par n b z:=Jv<|h.map _
def q9v(hn:l.Nodup)(hl:∀ i∈l,i < (aG n).length)(z:Str):par n l z=aC ((List.range (aG n).length).map λi=>decide (i∈l) && di n ((aG n)[i]?.getD []) z):=by
 have p:l.Perm ((List.range (aG n).length).filter λi=>decide (i∈l)):=(Dm hn<|List.nodup_range.filter _).mpr λi=>by
  rw[Bg,Bc,CK];exact⟨λh=>⟨hl i h,h⟩,λh=>h.2⟩
 rw[C5 p z];exact NM _ _ _
def C6(T:aw n)(hn:l.Nodup)(hl:∀ i∈l,i < (aG n).length){p q:Nat×End}(hp:cI n 0 z=[p])(hq:cI n 1 z=[q]):par n l z=(decide (p.1∈l) ^^ decide (q.1∈l)):=by
 rw[q9v hn hl,WR T (λi=>decide (i∈l)) hp hq]
theorem k62(T:aw n)(hg:ce n)(hN:(n.map (·.1)).Nodup){a b:List Nat}(ha:iT n ss a)(hb:b.Pairwise (· < ·))(hr:∀ i∈b,1<=i/\i < (aG n).length)(hs:∀ z∈ag n,par n b z=decide (z∈ss)):a=b:=by
 have na:=Ay.mpr<|ha.fI.imp λh=>Bi h;have nb:=Ay.mpr<|hb.imp λh=>Bi h;have mem:∀ i,i < (aG n).length->(i∈a↔i∈b):=by
  intro i hi;have h0:0 < (aG n).length:=⋯
  have hw:=Ab h0;obtain⟨e,he,rH⟩:=sf T hw;rw[rH]at hw;have hp:=yi (k:=0) hw (show e∈cY n e from(jF T he).mpr ⟨0,rfl⟩);refine WO T hg hN (S:=λi=>i∈a↔i∈b) ⟨_,hp,?_⟩ (λp hp q hq e=>?_) i hi
  ·exact⟨λh=>absurd (ha.oj 0 h).1 ∅,λh=>absurd (hr 0 h).1<|∅⟩
  ·have cU:=(se T<|∅).mp<|Ai.mpr ⟨p,hp,rfl⟩;obtain⟨p',p1,p2,ur⟩:=j3 T (k:=0) ∅ cU;obtain⟨q',q1,q2,ut⟩:=j3 T (k:=1) ∅ cU;obtain rfl:=yj T ∅ hp p1 p2.symm;obtain rfl:=yj T ∅ hq q1<|e.symm.trans q2.symm;have e1:=C6 T na (λi hi=>(ha.oj i hi).2) ur ut;have e2:=C6 T nb (λi hi=>(hr i hi).2) ur ut;have e3:par n a (ay n p.2)=par n b (ay n p.2):=(ha.sum _ cU).trans (hs _ cU).symm;rw[e1,e2]at e3
   by_cases x1:p.1∈a <;> by_cases x2:p.1∈b <;> by_cases x3:q.1∈a <;> by_cases x4:q.1∈b <;> simp[x1,x2,x3,x4]at e3 ⊢
 refine List.Perm.eq_of_pairwise (le:=λx y:Nat=>x<=y) (λx y _ _ h1 h2=>Nat.le_antisymm h1 h2) (ha.fI.imp λh=>Bz h) (hb.imp λh=>Bz h)<|(Dm na nb).mpr λi=>?_;exact⟨λh=>(mem i (ha.oj i h).2).mp h,λh=>(mem i (hr i h).2).mpr h⟩
def k6p(T:aw n){o:List Nat}(hn:l.Nodup)(hl:∀ i∈l,i < (aG n).length)(on:o.Nodup)(hm:∀ i,i∈o↔i < (aG n).length/\i∉l)(hz:z∈ag n):par n o z=par n l z:=by
 obtain⟨p,p1,p2,hp⟩:=j3 T (k:=0) ∅ hz;obtain⟨q,q1,q2,hq⟩:=j3 T (k:=1) ∅ hz;rw[C6 T hn hl hp hq,C6 T on (λi hi=>((hm i).mp hi).1) hp hq];have a:=hm p.1;have b:=hm q.1;have lp:=uq hp;have lq:=uq hq
 by_cases x:p.1∈l <;> by_cases y:q.1∈l <;> simp[a,b,x,y,lp,lq]
structure Sum(n:Net)(l:List Nat)(ss:Ñ):Prop where
 fI:cD ss
 mem:∀ z∈ss,z∈ag n
 sum:∀ z∈ag n,decide (z∈ss)=par n l z
def Sum.uniq{m:List Nat}{a b:Ñ}(ha:Sum n l a)(hb:Sum n m b)(h:∀ z∈ag n,par n l z=par n m z):a=b:=A1 ha.fI hb.fI λz=>by
 by_cases hz:z∈ag n
 ·exact decide_eq_decide.mp<|(ha.sum z hz).trans<|(h z hz).trans (hb.sum z hz).symm
 ·exact⟨λk=>absurd (ha.mem z k) hz,λk=>absurd (hb.mem z k) hz⟩
def Sum.nil:Sum n [] []:=⟨List.Pairwise.nil,λz h=>(by cases h),λz _=>rfl⟩
def Sum.snoc(C:cq n cs)(T:aw n){ms ci:Ñ}(h:Sum n l ss)(hi:cs[i]?=some ci)(so:cD ms)(hm:∀ z,z∈ms↔(if z∈ss then z∉ci else z∈ci)):Sum n (l++[i]) ms:=by
 have mW:=(Ac.mp hi).1;have hw:i < (aG n).length:=by rwa[<- C.len]
 have wk:=ng T (ends n) [] (λe he=>he) _<|Bp hw;have cin:=C0 wk.ends<|C.mem i _ _ hi<|Ab hw;refine⟨so,λz hz=>?_,λz hz=>?_⟩
 ·have:=(hm z).mp hz
  by_cases k:z∈ss
  ·exact h.mem z k
  ·rw[BK k]at this;exact cin z this
 ·have cN:=C.at' T hw hz;rw[hi,Option.getD_some]at cN;unfold par;rw[Aj,ni];show _=(par n l z ^^ (di n ((aG n)[i]?.getD []) z ^^ false));rw[Gh,<- h.sum z hz,<- cN];have h7:=hm z
  by_cases k1:z∈ss <;> by_cases k2:z∈ci <;> simp[k1,k2]at h7 <;> simp[h7,k1,k2]
def Sum.dbl(C:cq n cs)(T:aw n)(hf:HF n)(hN:(n.map (·.1)).Nodup)(h0:0 < n.length){ms ci:Ñ}(he:du n ss=true)(hc:f7 n ss)(hi:cs[i]?=some ci)(so:cD ms)(hm:∀ z,z∈ms↔(if z∈ss then z∉ci else z∈ci)):du n ms=true/\f7 n ms:=by
 have mW:=(Ac.mp hi).1;have hw:i < (aG n).length:=by rwa[<- C.len]
 have cm:=C.mem i _ _ hi<|Ab hw;have e2:=k6x T (Bp hw) cm;obtain⟨sd,nR⟩:=k69 T hf hN h0 (Bp hw) cm;have c2:f7 n ci:=⟨C.fI ci<|At hi,sd,nR.cut⟩;exact⟨q1f he e2 hm,q56 T hc c2 so hm⟩
def W5(n:Net):du n []=true/\f7 n []:=by
 refine⟨?_,List.Pairwise.nil,[],λz=>⟨λh=>(by cases h),λ⟨e,_,h,_⟩=>(by cases h)⟩⟩;unfold du;simp;intro a b _;rw[Ec.mpr λz _ h=>by cases h];rfl
end
end Nt
namespace Q1
open PySem L2 Nt bD bK
open PyProof.Rows (sortedS)
open Classical
def N4:Sp:=λvs H Q _=>∃a b xs ys,vs=[.ref a,.ref b]/\H a=some (Ls xs)/\H b=some (Ls ys)/\xs.length+ys.length < 64 /\
 ∀ l ss H',ah H H'->H l=none->H' l=some (Ls ss)->sortedS ss=true->ss.Nodup->(∀ z,z∈ss↔(if z∈xs then z∉ys else z∈ys))->Q (.ref l) H'
def og(c:Str->Addr):Sp:=λvs H Q E=>∃R L as n ns,vs=[.ref R,.ref L]/\al H R as n/\(n.map (·.1)).Nodup/\aw n/\n.length<=60/\(ag n).length<=32/\H L=some (Lz ns)/\ns.length<=100 /\
 ((∃ x∈ns,x < 0\/((aG n).length:Int)<=x)->∀ H',ah H H'->E (.ref<|c "NoWalker") none H')/\(∀ l:List Nat,ns=l.map (λi:Nat=>(i:Int))->(∀ i∈l,i < (aG n).length)->∀D ds H',ah H H'->H D=none->H' D=some (Ls ds)->Sum n l ds->Q (.ref D) H')
variable{Z:Heap}{mg:Ò}{K:PySem.W.Frag}{w:World}{P:Program}{fd:FuncData}{f:Addr}{c:Str->Addr}{X:Cx}{Y:List (Key×V)}{L:List V->Hp->Prop}{es:Ô}{l:List Nat}
section
def q20:ak ["one","other"] ["one","other"] (aP IB):=bZ
theorem k9k(F:bo K "summed" "summed" IB f fd)(T:Txt mg):aD P w K mg Z bz 1 f fd ["one","other"] N4:=by
 refine F.gc q20 λb0 H vs Q E hr h=>?_;obtain⟨a,b,xs,ys,rfl,ha,hb,hl,q⟩:=h;refine bQ (bP (Ry rfl) T.sorted CW<|ai<|aU k59<|mP (Rx rfl) T.qK PK<|ai<|ae 0<|ax ⟨a,xs,rfl,aj.of ha,⋯,λc hc=>?_⟩);have h1:=aM hc<|bj P w c<|made xs;refine mP (Rx rfl) T.qK PK (ai<|ae 1<|ax ⟨b,ys,rfl,aj.of<|h1 _ _ hb,⋯,λd hd=>?_⟩);have h2:=aM hd<|bj P w d<|made ys;have l1:=HM xs;have l2:=HM ys;refine⟨c,d,made xs,made ys,rfl,rfl,h2 _ _ av,av,⋯,⋯,λe zc he hn hm=>?_⟩;have h3:=aM he<|bj P w e zc;have W6:∀ z,z∈zc↔(if z∈xs then z∉ys else z∈ys):=λz=>by
  rw[hm z];simp only[q2g]
 have hlen:=aI hn λz hz=>by
  have:=(W6 z).mp hz;rw[An]
  by_cases c:z∈xs
  ·exact .inl c
  ·rw[BK c]at this;exact .inr this
 rw[Ad]at hlen;refine ax ⟨e,zc,rfl,av,⋯,λl ss hl hp hs=>?_⟩;have h4:=aM hl<|Ls ss;exact q l ss _ (h1.trans<|h2.trans<|h3.trans h4) (h1.free<|h2.free<|h3.free hl) av hs (hp.nodup_iff.mpr hn) λz=>by
  rw[hp.mem_iff];exact W6 z
abbrev W7:Ñ:=["rows","numbers","cores","double","number"]
abbrev yq:Ñ:=["rows","numbers","cores","double","?","number"]
def yr:ak W7 ["rows","numbers"] (aP zY):=bZ
def q9f:yq.Nodup:=by decide +kernel
def W8{f:Int->Bool}:∀ ns:List Int,((ns.map f).any id=true)↔∃ x∈ns,f x=true:=λns=>by
 rw[List.any_map,Fc];rfl
theorem q8f(F:bo K "double_by" "double_by" zY f fd)(T:Txt mg)(cl:Cl K mg c)(GC:aQ P w K mg Z 5 "cores_of" ["rows"] C3)(GS:aQ P w K mg Z 5 "summed" ["one","other"] N4) :
  aD P w K mg Z (XF P w) 6 f fd ["rows","numbers"] (og c):=by
 refine F.gx yr (λvs H Q E h=>?_) λb0 H vs Q hr h=>?_
 ·obtain⟨R,L,as,n,ns,rfl,_⟩:=h;rfl
 obtain⟨R,L,as,n,ns,rfl,hR,hN,hT,hn,iN,hL,uc,qE,qQ⟩:=h;have nd:=yr.nd;have mN:("NoWalker" : Str)∈cB:=∅
 refine aT 2 nd (bG GC hr<|ai<|ae 0<|ax ⟨R,as,n,rfl,hR,hN,hT,hn,⋯,λC cu cs H1 s1 n1 hC dU=>?_⟩);have uf:=s1 _ _ hL;have W9:(cu.map V.ref).length=(aG n).length:=by rw[Aa,hC.2.1,dU.len]
 have W':(ns.map V.int).length=ns.length:=Aa ..
 let bad:Int->Bool:=λx=>decide (x < 0) || decide (((aG n).length:Int)<=x)
 refine fP<|iu<|bP (q0n rfl) T.anyB PyProof.Rows.boot_any<|ai<|gu (aP zY) W7 yq 1 (eB bd)<|ae 1 ⟨L,rfl,⟨_,aj.of uf⟩,λD hD=>?_⟩;refine jS (xs:=ns.map V.int) (λi σ' H'=>(∃ v,σ'=[⇑R,⇑L,⇑C,none,none]++[v])/\ah H1 H'/\H' D=some (.lst<|((ns.take i).map bad).map V.bl)) ⟨⟨none,rfl⟩,aM hD _,av⟩ ?_ ?_ ?_
 ·rintro i σ' H' _ ⟨_,sm,_⟩;exact aj.of<|sm _ _ uf
 ·rintro i x σ' H' hx ⟨⟨v,rfl⟩,sm,eD⟩;rw[Ah,Ar]at hx;obtain⟨x,hx,rfl⟩:=hx;have gZ:((ns.take<|i+1).map bad).map V.bl=((ns.take i).map bad).map V.bl++[V.bl<|bad x]:=by rw[Bx,hx,Aj,Aj];rfl
  have lD:(((ns.take i).map bad).map V.bl).length < sizeLine:=by rw[Aa,Aa,Bh];exact bI<|⋯
  intro cl C' æ ç ex;refine a8 5 q9f ?_;intro cl C' æ ç ex;refine iA<|cz ?_;intro cl C' æ ç ex;refine x1o<|hG Py<|ae 5<|aE ⟨_,_,rfl,rfl,_,rfl,?_⟩
  by_cases k:x < 0
  ·rw[BW k];refine cz ⟨_,eD,lD,⟨_,rfl⟩,cX sm hD,?_⟩;rw[av,gZ,show bad x=true from by show(decide (x < 0) || _)=true;rw[BW k];rfl]
  ·rw[BR k];refine bH<|F7<|hG Y4<|ae 5<|bP dH T.len DR<|ai<|ae 2<|ax ⟨C,_,rfl,.inl<|aj.of<|sm _ _ hC.1,_,_,rfl,rfl,_,eD,lD,⟨_,rfl⟩,cX sm hD,?_⟩;rw[av,gZ,W9,show bad x=decide (((aG n).length:Int)<=x)from by show(decide (x < 0) || _)=_;rw[BR k];rfl]
 rintro σ' H2 ⟨_,s2,eD⟩;rw[W',Br]at eD;refine ax ⟨D,ns.map bad,rfl,aj.of eD,_,rfl,?_⟩;have nZ:=s1.trans s2;have Xa:∀ x,bad x=true↔(x < 0\/((aG n).length:Int)<=x):=λx=>by
  show(decide (x < 0) || decide (((aG n).length:Int)<=x))=true↔_;rw[Bool.or_eq_true,DN,DN]
 by_cases hb:(ns.map bad).any id=true
 ·rw[hb];obtain⟨x,hx,lg⟩:=(W8 ns).mp hb;exact cz<|V0 V2 (cl.at' _ mN).1 (cl.at' _ mN).2.1 rfl (ai<|vj<|ax ⟨Z1,qE ⟨x,hx,(Xa x).mp lg⟩ _ nZ⟩)
 have jt:=Dk.mpr hb;rw[jt];refine bH<|a7<|WV ?_;have good:=λx hx=>by
  have:¬ bad x=true:=λk=>hb<|(W8 ns).mpr ⟨x,hx,k⟩;rw[Xa]at this;omega
 obtain⟨l,el,hl⟩:∃ l:List Nat,ns=l.map (λi:Nat=>(i:Int))/\∀ i∈l,i < (aG n).length:=by
  refine⟨ns.map Int.toNat,?_,λi hi=>?_⟩
  ·rw[Cg];refine(List.map_id ns).symm.trans<|Bo λx hx=>?_;show x=((x.toNat:Nat):Int);have:=good x hx;omega
  ·obtain⟨x,hx,rfl⟩:=Ai.mp hi;have:=good x hx;omega
 have qQ:=qQ l el hl;have hC2:=hC.same s2;have nB:=s2 _ _ uf;refine aT 3 nd<|dS<|ax ⟨Z0,λd0 pD=>?_⟩;have s3:=aM pD<|.lst [];have e3:(upd H2 d0<|.lst []) d0=some (Ls []):=av;have nd0:H d0=none:=nZ.free pD;generalize upd H2 d0 (.lst [])=H3 at s3 e3;have uv:∀{xs:Ñ},cD xs->(∀ z∈xs,z∈ag n)->xs.length<=16:=λh1 h2=>by have:=T4 hT (tY h1) h2;omega
 refine lS<|ae 1 ⟨L,rfl,⟨_,aj.of<|s3 _ _ nB⟩,?_⟩;refine lT (xs:=ns.map V.int) (λi σ H'=>∃(D:Addr) (ds:Ñ) (u4:Option V),ah H2 H'/\H D=none/\H' D=some (Ls ds)/\Sum n (l.take i) ds/\σ=[⇑R,⇑L,⇑C,⇑D,u4]) ⟨d0,[],_,s3,nd0,e3,Sum.nil,rfl⟩ ?_ ?_ ?_
 ·rintro i σ H' _ ⟨_,_,_,sm,_⟩;exact aj.of<|sm _ _ nB
 ·rintro i x σ H4 hx ⟨D,ds,u4,sm,nD,eD,hS,rfl⟩;rw[el,Cg,Ah,Ar]at hx;obtain⟨k,hk,rfl⟩:=hx;have oZ:=hl k<|At hk;have N5:=hC2.same sm;have N6:=N5.2.1;obtain⟨ci,si⟩:∃ ci,cs[k]?=some ci:=⟨_,Ab<|by rwa[dU.len]⟩;obtain⟨ui,yt⟩:∃ ui,cu[k]?=some ui:=⟨_,Ab<|by rwa[N6,dU.len]⟩;have N7:=N5.2.2 k _ _ yt si;have C7:=dU.fI _<|At si;have wk:=ng hT (ends n) [] (λe he=>he) _<|Bp oZ;have cin:=C0 wk.ends<|dU.mem k _ _ si<|Ab oZ;have la:=uv hS.fI hS.mem;have lb:=uv C7 cin;have gZ:l.take (i+1)=l.take i++[k]:=by rw[Bx,hk];rfl
  refine a8 4 nd ?_;refine aT 3 nd (bG GS hr<|ai<|ae 3<|ai<|bb cL<|ae 2<|ae 4 ⟨C,_,_,.ref ui,rfl,rfl,aj.of N5.1,oH (by rw[Ah,yt];rfl),ax ⟨D,ui,ds,ci,rfl,eD,N7,⋯,λm ms H5 s5 n5 e5 Mi nd5 m5=>?_⟩⟩);refine a7 ⟨m,ms,_,sm.trans s5,nZ.free<|sm.free n5,e5,?_,rfl⟩;rw[gZ];exact hS.snoc dU hT si (tX Mi nd5) m5
 ·rintro σ H4 ⟨D,ds,u4,sm,nD,eD,hS,rfl⟩;rw[W',show ns.length=l.length by rw[el,Aa],Br]at hS;exact bQ<|ae 3<|qQ D ds H4 (nZ.trans sm) nD eD hS
open PyProof.Rows (sortedS)
open Classical
def k60:bootBuiltins "ValueError" = some (.type "ValueError"):=by decide +kernel
def N8:p9 (XF P w) X (λ_ _ _=>False):=λ_ _ _ _ _ _ _ h=>by
 obtain⟨_,_,_,_,_,h,_⟩:=h;exact h.elim
theorem k9y(zs:List Int)(i:Nat):dR (zs.map V.int) (some (i:Int)) none=(zs.drop i).map V.int:=by
 unfold dR;rw[HT.eF,HT.c7,Aa];rw[Ck (by rw[Dd,Aa];omega),He]
 rcases SN i zs.length with h | h
 ·rw[Ex h]
 ·rw[Ep h,Fg (by simp),Fg<|by simpa using h]
def q7o(zs:List Int)(i:Nat):dR (zs.map V.int) none (some (i:Int))=(zs.take i).map V.int:=by
 unfold dR;rw[HT.eF,HT.c7,Aa,List.drop_zero,SM,Hc]
 rcases SN i zs.length with h | h
 ·rw[Ex h]
 ·rw[Ep h,Ck (by simp),Ck<|by simpa using h]
theorem N9(z:Int):∀ zs:List Int,j6 (.int z) (zs.map V.int)=decide (z∈zs)
 | []=>by simp[j6]
 | y :: r=>by
  have ih:=N9 z r;unfold j6 at ih ⊢;rw[Bn,Fj,ih]
  by_cases e:y=z
  ·subst e;simp[cC]
  ·simp[cC,e,CG e]
def Xb(zs:List Int):(zs.map V.int).all jK=true:=by
 rw[De];intro x hx;obtain⟨z,_,rfl⟩:=Ai.mp hx;rfl
def q78{σ:St}{H:Hp}{d:Addr}(hd:H d=some (.dK Y)) (h:∀ o,Ea X es σ (upd H d<|.bB o<|.dK Y) L):Ea X es σ H L:=by
 refine⟨λpos O s I=>?_⟩;obtain⟨o,ho,I'⟩:=Sq I hd;exact(h o).run pos O s I'
def Oa:Sp:=λvs H Q _=>∃a b ss,vs=[.ref a,.ref b]/\H a=some (Ls ss)/\H b=some (Ls ss)/\ss.length<=1000/\∀ H',ah H H'->Q (.bl true) H'
def Ob:Sp:=λvs H Q _=>∃a b ns,vs=[.ref a,.ref b]/\H a=some (Lz ns)/\H b=some (Lz ns)/\∀ H',ah H H'->Q (.bl true) H'
def Oc:Sp:=λvs H Q _=>∃R L as n ns,vs=[.ref R,.ref L]/\al H R as n/\(n.map (·.1)).Nodup/\aw n/\n.length<=60/\(ag n).length<=32/\H L=some (Lz ns)/\ns.length<=100/\(∃ x∈ns,x < 0\/((aG n).length:Int)<=x)/\∀ H',ah H H'->Q (.bl true) H'
abbrev C8:Ñ:=["_law_found","_law_due"]
abbrev sj:Ñ:=["_law_found","_law_due","_law_one"]
def yu:ak C8 ["_law_found","_law_due"] (aP z9):=bZ
def yv:ak C8 ["_law_found","_law_due"] (aP AA):=bZ
def Xc:sj.Nodup:=by decide +kernel
theorem q2h(F:bo K "_law_is_set" "_law_is_set" z9 f fd)(T:Txt mg):aD P w K mg Z bz 1 f fd ["_law_found","_law_due"] Oa:=by
 refine F.gc yu λb0 H vs Q E hr h=>?_;obtain⟨a,b,ss,rfl,ha,hb,hl,q⟩:=h;have un:=hr.fQ;refine fP<|mQ<|vk<|lR<|iu<|bP vf T.oX DK<|ai<|ae 0<|ai<|sY (.ty "list") T.gR IK rfl (ax ⟨_,_,_,true,rfl,.lst ha,w8 K,true,rfl,bH ?_⟩);refine vp (cH (qw un)<|ae 0<|ae 1 ⟨1,true,∅,q3m ha hb,_,rfl,bH<|a7 ?_⟩);refine bQ<|hG (vO un)<|gu (aP z9) C8 sj 1 (eB bd)<|ae 0 ⟨a,rfl,⟨_,aj.of ha⟩,λD hD=>?_⟩;refine qO (λ_=>false) (bI<|⋯) ha hD (λcl C s0 H0 ex v v0 H' R' h=>a8 2 Xc h) (λcl C s0 H0 ex z zs T' h=>hU<|lR<|iu<|bP vf T.oX DK<|ai<|ae 2<|ai<|sY (.ty "str") T.IQ PyProof.Rows.boot_str rfl (ax ⟨_,_,_,true,rfl,.str _,KO K,true,rfl,h⟩)) (λcl C s0 H0 ex z H' R' h=>ae 2 h) ?_;have e:(ss.filter λ_=>false)=[]:=by simp
 rw[e];refine dS<|ax ⟨Z0,λp hp=>?_⟩;have s1:=aM hD<|.lst<|([]:Ñ).map V.str;have s2:=aM hp<|.lst [];exact⟨1,true,∅,KG (s2 _ _ av) av,q _<|s1.trans s2⟩
def q81(F:bo K "_law_numbers" "_law_numbers" AA f fd)(T:Txt mg):aD P w K mg Z bz 1 f fd ["_law_found","_law_due"] Ob:=by
 refine F.gc yv λb0 H vs Q E hr h=>?_;obtain⟨a,b,ns,rfl,ha,hb,q⟩:=h;have un:=hr.fQ;refine fP<|mQ<|vk<|lR<|iu<|bP vf T.oX DK<|ai<|ae 0<|ai<|sY (.ty "list") T.gR IK rfl (ax ⟨_,_,_,true,rfl,.lst ha,w8 K,true,rfl,bH ?_⟩);refine vp (cH (qw un)<|ae 0<|ae 1 ⟨1,true,∅,WW ha hb,_,rfl,bH<|a7 ?_⟩);refine bQ<|hG (vO un)<|gu (aP AA) C8 sj 1 (eB bd)<|ae 0 ⟨a,rfl,⟨_,aj.of ha⟩,λD hD=>?_⟩;refine jS (xs:=ns.map V.int) (λi σ' H'=>(∃ v,σ'=[⇑a,⇑b]++[v])/\H'=upd H D (.lst [])) ⟨⟨none,rfl⟩,rfl⟩ ?_ ?_ ?_
 ·rintro i σ' H' _ ⟨_,rfl⟩;exact aj.of<|aM hD _ _ _ ha
 ·rintro i x σ' H' hx ⟨⟨v,rfl⟩,rfl⟩;rw[Ah,Ar]at hx;obtain⟨x,hx,rfl⟩:=hx;intro cl C æ ç ex;refine a8 2 Xc ?_;intro cl C æ ç ex;refine hU<|mQ<|vk<|lR<|iu<|bP vf T.oX DK<|ai<|ae 2<|ai<|sY (.ty "int") T.m4 JZ rfl (ax ⟨_,_,_,true,rfl,.int _,KP K,true,rfl,bH ?_⟩);exact vp<|iu<|bP vf T.oX DK<|ai<|ae 2<|ai<|sY (.ty "bool") T.vW PyProof.Rows.boot_bool rfl (ax ⟨_,_,_,false,rfl,.int _,KS K,false,rfl,bH ⟨⟨_,rfl⟩,rfl⟩⟩)
 ·rintro σ' H' ⟨_,rfl⟩;refine dS<|ax ⟨Z0,λp hp=>?_⟩;have s1:=aM hD<|.lst [];have s2:=aM hp<|.lst [];exact⟨1,true,∅,KG (zs:=[]) (s2 _ _ av) av,q _<|s1.trans s2⟩
abbrev NNw:Ñ:=["_law_rows","_law_numbers_here","e"]
def yw:ak NNw ["_law_rows","_law_numbers_here"] (aP IM):=bZ
theorem x1h(F:bo K "_law_no_walker" "_law_no_walker" IM f fd)(T:Txt mg)(cl:Cl K mg c)(GP:d3 P w K mg Z 6 "double_by" ["rows","numbers"]<|og c):aD P w K mg Z bz 7 f fd ["_law_rows","_law_numbers_here"] Oc:=by
 refine F.gc yw λb0 H vs Q E hr h=>?_;obtain⟨R,L,as,n,ns,rfl,hR,hN,hT,hn,iN,hL,uc,iJ,q⟩:=h;have nd:=yw.nd;have mx:("NoWalker" : Str)∈cB:=∅
 refine q5n 2 (λC σ' H'=>C = .ref (c "NoWalker")/\σ'=[⇑R,⇑L,none]/\ah H H') cl.net cl.M1 nd (λp=>?_) ?_
 ·refine gq<|q6x GP hr (x2q rfl)<|ai<|ae 0<|ai<|ae 1<|ax ⟨R,L,as,n,ns,rfl,hR,hN,hT,hn,iN,hL,uc,λ_ H' s'=>⟨rfl,rfl,s'⟩,λl el hl=>?_⟩
  exfalso
  obtain⟨x,hx,hb⟩:=iJ;rw[el]at hx;obtain⟨i,hi,rfl⟩:=Ai.mp hx;have:=hl i hi;omega
 ·rintro C σ' H' ⟨rfl,rfl,s'⟩;refine⟨c "NoWalker",rfl,(cl.at' _ mx).2.1,(cl.at' _ mx).2.2.1,λp ea oe ix nea=>?_⟩;have s1:=aM nea<|XO oe;have hE:(upd H' ea<|XO oe) ea=some (XO oe):=av;have sE:=s'.trans s1;generalize upd H' ea (XO oe)=H6 at s1 hE sE;refine bQ (F6<|bP V8 T.oX DK<|ai<|ae 2<|ai<|F5 (cl.at' "NoWalker" ∅).1 (v:= .ref<|c "NoWalker") rfl (ax ⟨ea,c "NoWalker",oe,.ref<|c "NoWalker",.ref<|c "NoWalker",_,rfl,λu r=>r,hE,ix,(cl.at' _ mx).2.2.2.1,cl.M3 _ mx "NoWalker" ∅,_,rfl,?_⟩));rw[BW rfl];refine cz<|F6<|bP V8 T.oX DK<|ai<|ae 2<|ai<|sY (.ty "ValueError") T.IT k60 rfl (ax ⟨ea,c "NoWalker",oe,.type "ValueError",.ty "ValueError",true,rfl,λu r=>r,hE,ix,(cl.at' _ mx).2.2.2.1,(cl.at' _ mx).2.2.2.2,true,rfl,cz ?_⟩);refine F7 (q9e<|bP k5r T.oX DK<|ai<|ae 2<|ai<|fv<|ai<|F5 (cl.at' "NoDouble" ∅).1 (v:= .ref<|c "NoDouble") rfl (ai<|F5 (cl.at' "NoTie" ∅).1 (v:= .ref<|c "NoTie") rfl (ax ⟨Z2,λt ht=>?_⟩)));have s2:=aM ht<|.tup [.ref<|c "NoDouble",.ref<|c "NoTie"];refine ax ⟨ea,c "NoWalker",oe,t,_,[.ref<|c "NoDouble",.ref<|c "NoTie"],false,rfl,av,λus r=>?_,s2 _ _ hE,ix,(cl.at' _ mx).2.2.2.1,?_,false,rfl,q _<|sE.trans s2⟩
  ·obtain⟨u,v,rfl,r1,r2⟩:=vals2 r;cases r1;cases r2;rfl
  ·have k1:=cl.M3 _ mx "NoDouble" ∅;have k2:=cl.M3 _ mx "NoTie" ∅;rw[show decide (("NoWalker" : Str) = "NoDouble")=false by decide]at k1;rw[show decide (("NoWalker" : Str) = "NoTie")=false by decide]at k2;show PySem.W.kitAny K _ _=some false;unfold PySem.W.kitAny;rw[k1];show PySem.W.kitAny K _ _=_;unfold PySem.W.kitAny;rw[k2];rfl
open PyProof.Rows (sortedS)
open Classical
def C9(K:PySem.W.Frag):Sp:=λvs H Q _=>∃(a:Addr) (ns:List Int),vs=[.ref a]/\aj K H a (ns.map V.int)/\ns.length<=63/\∀ H',Q (.bl true) H'
abbrev ci(l:List Nat):List Int:=l.map λi:Nat=>(i:Int)
theorem Xd{a b:List Nat}(h:ci a=ci b):a=b:=(List.map_inj_right λx y e=>⋯).mp h
theorem Dt{i:Nat}:(i:Int)∈ci l↔i∈l:=⟨λh=>by
 obtain⟨j,hj,e⟩:=Ai.mp h;obtain rfl:j=i:=⋯
 exact hj,λh=>Ai.mpr ⟨i,h,rfl⟩⟩
def x0j{i k:Nat}:insertAt ((ci l).map V.int) i (.int (k:Int))=(ci<|l.take i++k :: l.drop i).map V.int:=by
 unfold insertAt;simp[ci,Hc,He]
abbrev NW:Ñ:=["_law_script","_law_big_here","_law_rows","_law_handed","_law_cores","_law_bits","_law_chosen","_law_total","_law_k","_law_others","_law_given","_law_turn","_law_told","_law_due","_law_far","_law_number","_law_spot"]
abbrev Xe:Ñ:=["_law_script","_law_big_here","_law_rows","_law_handed","_law_cores","_law_bits","_law_chosen","_law_total","_law_k","_law_others","_law_given","_law_turn","_law_told","_law_due","_law_far","_law_number","_law_spot","_law_walker"]
abbrev Xf:Ñ:=["_law_script","_law_big_here","_law_rows","_law_handed","_law_cores","_law_bits","_law_chosen","_law_total","?","_law_others","_law_given","_law_turn","_law_told","_law_due","_law_far","_law_number","_law_spot","_law_k"]
def pN:ak NW ["_law_script"] (aP iG):=bZ
def x2s:Xe.Nodup:=by decide +kernel
def x1z:Xf.Nodup:=by decide +kernel
structure Cho(n:Net)(t:Nat)(ch l:List Nat)(ts:Ñ):Prop where
 perm:ch.Perm l
 de:l.Nodup
 lt:∀ i∈l,i < t
 sum:Sum n l ts
 even:du n ts=true
 cut:f7 n ts
theorem q77(F:bo K "law" "law" iG f fd)(T:Txt mg)
  (GC:aQ P w K mg Z 7 "_law_cell_at" ["_law_script","_law_k"]<|AB K) (GB:aQ P w K mg Z 7 "_law_big" ["_law_script","_law_at"]<|IY K) (GN:aQ P w K mg Z 7 "_law_net_by" ["_law_big_here","_law_most","_law_stem"] Kg) (GY:aQ P w K mg Z 7 "_law_copy" ["_law_rows"] Kq) (GS:aQ P w K mg Z 7 "_law_seats" ["_law_rows"] AF)
  (GM:aQ P w K mg Z 7 "_law_sum" ["_law_one","_law_other_here"] Mt) (GO:aQ P w K mg Z 7 "_law_core" ["_law_rows","_law_walker"] ME) (GW:aQ P w K mg Z 7 "walkers_of" ["rows"] BV) (GE:aQ P w K mg Z 7 "_law_even" ["_law_rows","_law_some"] ug) (GI:aQ P w K mg Z 7 "_law_side" ["_law_rows","_law_seats_here","_law_some"] My)
  (GT:aQ P w K mg Z 7 "_law_is_set" ["_law_found","_law_due"] Oa) (GU:aQ P w K mg Z 7 "_law_numbers" ["_law_found","_law_due"] Ob) (GZ:aQ P w K mg Z 7 "_law_no_walker" ["_law_rows","_law_numbers_here"] Oc)  (GD:d3 P w K mg Z 7 "double_by" ["rows","numbers"]<|og c) (GA:d3 P w K mg Z 7 "numbers_by" ["rows","some"]<|NU c) :
  aD P w K mg Z bz 8 f fd ["_law_script"] (C9 K):=by
 refine F.gc pN λb0 H vs Q E hr h=>?_;obtain⟨a,ns,rfl,hS,h63,q⟩:=h;have nd:=pN.nd;have un:=hr.fQ;refine aT 1 nd (bG GB hr<|ai<|ae 0<|ai<|aE<|ax ⟨a,ns,0,rfl,hS,∅,λb H1 s1=>?_⟩);refine aT 2 nd (bG GN hr<|ai<|aU iY<|ae 1<|aE ⟨_,_,rfl,rfl,⟨∅,∅⟩,?_⟩);refine ai (aE<|ai<|aU fj<|aU cJ<|ae 1<|aE ⟨_,_,rfl,rfl,(by show(0:Int) < 97;decide),bG GC hr<|ai<|ae 0<|ai<|aE<|ax ⟨a,ns,9,rfl,s1.seq hS,∅,λc9=>⟨_,_,rfl,rfl,?_⟩⟩⟩);refine ax ⟨_,16,_,rfl,∅,∅,λR as n H2 s2 n2 hR hT hN hF hf iN uc has=>?_⟩;have e16:((16:Int)).toNat=16:=rfl;rw[e16]at iN uc;have pq:=jv n;have DA:0 < n.length:=Du.mpr<|Full.some hF;have wl:(aG n).length<=(ends n).length:=wq n (ends n) [];have uv:∀{xs:Ñ},cD xs->(∀ z∈xs,z∈ag n)->xs.length<=16:=λh1 h2=>by have:=T4 hT (tY h1) h2;omega
 refine aT 3 nd (bG GY hr<|ai<|ae 2<|ax ⟨R,as,n,rfl,hR,⋯,λM bs H3 s3 n3 f3 hM=>?_⟩);have nn:=hR.same s3;have vJ:=((s1.trans s2).trans s3).seq hS;refine tj 4 (aP iG) NW Xe 1 nd (eB bd) (bG GW hr<|ai<|ae 3<|ax ⟨M,bs,n,rfl,hM,hN,hT,⋯,⋯,λW ls H9 s9 n9 hW fW=>⟨W,rfl,⟨_,aj.of hW.lst⟩,λCL Xg=>?_⟩⟩);have ym:ls.length=(aG n).length:=hW.len;refine jS (xs:=ls.map V.ref) (λi σ' H'=>(∃ v,σ'=[⇑a,some<|.int b,⇑R,⇑M,none,none,none,none,none,none,none,none,none,none,none,none,none]++[v])/\ah H9 H'/\∃ us cs,lB n H' CL us cs i) ⟨⟨none,rfl⟩,aM Xg _,[],[],lB.start av⟩ ?_ ?_ ?_
 ·rintro i σ' H' _ ⟨_,sm,_⟩;exact aj.of<|sm _ _ hW.lst
 ·rintro i x σ' H' hx ⟨⟨v,rfl⟩,sm,us,cs,I⟩;rw[Ah,Ar]at hx;obtain⟨l,hl,rfl⟩:=hx;have mW:i < (aG n).length:=by have:=(Ac.mp hl).1;rwa[<- ym]
  have nY:=Ab mW;obtain⟨ts,el,hE⟩:=(hW.same sm).at' i l _ hl nY;have wk:=ng hT (ends n) [] (λe he=>he) _<|At nY;generalize (aG n)[i]=es at nY hE wk;have few:=wk.few;have lu:=I.lu;intro cl C æ ç ex;refine a8 17 x2s ?_;intro cl C æ ç ex;refine iA<|cz ?_;intro cl C æ ç ex;refine bG GO hr<|ai<|ae 2<|ai<|ae 17<|ax ⟨R,l,as,n,ts,es,rfl,(nn.same s9).same sm,hN,⋯,el,hE,wk.ends,⋯,λl hn hm=>?_,λk ks H2 s2 n2 e2 NX m2=>?_⟩
  ·have:=aI hn λz hz=>WY wk.ends z<|hm z hz;omega
  exact⟨_,s2 _ _ I.lst,by rw[Aa];exact bI ⋯,⟨_,rfl⟩,cX (sm.trans s2) Xg,_,_,I.step s2 n2 e2 NX nY m2⟩
 rintro σ' HA ⟨_,sA,cu,cs,I⟩;rw[Aa,ym]at I;obtain⟨Xh,dU⟩:=I.whole;have DB:=s9.trans sA;have hRA:=nn.same DB;have hMA:=hM.same DB;have lcs:=dU.len;have W9:=Xh.2.1;refine aT 5 nd (bG GB hr<|ai<|ae 0<|ai<|aE<|ax ⟨a,ns,10,rfl,DB.seq vJ,∅,λbi H5 s5=>?_⟩);have A7:=hRA.same s5;have hM5:=hMA.same s5;have oa:=Xh.same s5;have hS5:=s5.seq<|DB.seq vJ;refine aT 6 nd<|dS<|ax ⟨Z0,λLc Xi=>?_⟩;refine aT 7 nd<|dS<|ax ⟨Z0,λt0 rm=>?_⟩;have sL:=aM Xi<|.lst [];have sT:=aM rm<|.lst [];have Xj:t0≠Lc:=λe=>by rw[e,av]at rm;cases rm
 have ua:(upd (upd H5 Lc<|.lst []) t0<|.lst []) Lc=some (Lz<|ci []):=by rw[au<|CG Xj,av];rfl
 have Xk:(upd (upd H5 Lc<|.lst []) t0<|.lst []) t0=some (Ls []):=av;have Od:=sL.trans sT;generalize upd (upd H5 Lc<|.lst []) t0 (.lst [])=H6 at ua Xk Od;have lcm:(cu.map V.ref).length=(aG n).length:=by rw[Aa];omega
 refine ke T.range (bP dH T.len DR<|ai<|ae 4<|ax ⟨CL,_,rfl,.inl<|aj.of<|Od _ _ oa.1,_,rfl,⋯,⋯,?_⟩);rw[lcm,Bm];refine kg (n:=(aG n).length) (λt σ H'=>∃(ch l:List Nat) (fe:Addr) (ts:Ñ) (u8:Option V),ah H5 H'/\H' Lc=some (Lz<|ci ch)/\H' fe=some (Ls ts)/\fe≠Lc/\H5 fe=none/\Cho n t ch l ts/\ch.length<=t /\
   σ=[⇑a,some<|.int b,⇑R,⇑M,⇑CL,some<|.int bi,⇑Lc,⇑fe,u8,none,none,none,none,none,none,none,none])
  ⟨[],[],t0,[],_,Od,ua,Xk,Xj,sL.free rm,⟨List.Perm.refl _,Cn,λi h=>(by cases h),Sum.nil,(W5 n).1,(W5 n).2⟩,Am _,rfl⟩ ?_ ?_
 ·rintro t σ H7 ht ⟨ch,l,fe,ts,u8,s7,eL,eT,nT,fT,hc,lch,rfl⟩;rw[Dw];refine a8 8 nd ?_;refine vq True True (λR' qq=>?_) (λ_=>?_) λ_=>a7<|a7 ⟨ch,l,fe,ts,_,s7,eL,eT,nT,fT,⟨hc.perm,hc.de,λi hi=>Bt<|hc.lt i hi,hc.sum,hc.even,hc.cut⟩,⋯,rfl⟩
  ·refine cH jl<|aU YZ<|aU Pt<|ae 5<|ae 8 ⟨bi,(t:Int),rfl,rfl,?_,aE ⟨_,_,rfl,rfl,aE ⟨rfl,_,rfl,qq _ (λ_=>trivial) λ_=>trivial⟩⟩⟩;omega
  have lL:((ci ch).map V.int).length=ch.length:=by rw[Aa,Aa]
  refine gq<|zG DW LR MF Ik<|ae 6 (v:= .ref Lc) ⟨Ui eL,aU cJ<|aU Pt<|ae 5<|aU fj<|aE<|ae 8 ⟨_,_,rfl,rfl,bi,20+(t:Int),rfl,rfl,?_,?_⟩⟩
  ·omega
  refine aU fj<|bP dH T.len DR<|ai<|ae 6<|ax ⟨Lc,_,rfl,.inl<|aj.of eL,aE ⟨_,_,rfl,rfl,?_⟩⟩;rw[lL];have m0:∀ bx:Int,0<=bx % ((ch.length:Int)+1):=λbx=>Bs _ ⋯;have m1:∀ bx:Int,bx % ((ch.length:Int)+1) < (ch.length:Int)+1:=λbx=>Ce _ ⋯;refine⟨_,_,rfl,rfl,by show(0:Int) < (ch.length:Int)+1;omega,ae 8 ⟨Lc,_,_,.int (t:Int),rfl,rfl,eL,m0 _,by rw[lL];exact Int.toNat_le.mpr<|Int.le_of_lt_add_one<|m1 _,by rw[lL];exact bI ⋯,?_⟩⟩;rw[x0j];generalize (bi / 2 ^ (20+(t:Int)).toNat % ((ch.length:Int)+1)).toNat=sp;have pm:(ch.take sp++t :: ch.drop sp).Perm (l++[t]):=by
   refine List.perm_middle.trans ?_;rw[Db];exact((List.Perm.cons t hc.perm).trans<|Ci (l₁:=[t]) (l₂:=l))
  have DC:(upd H7 Lc<|.lst<|(ci<|ch.take sp++t :: ch.drop sp).map V.int) Lc=some (Lz<|ci<|ch.take sp++t :: ch.drop sp):=av;have Xl:(upd H7 Lc<|.lst<|(ci<|ch.take sp++t :: ch.drop sp).map V.int) fe=some (Ls ts):=by rwa[au nT]
  have s8:ah H5 (upd H7 Lc<|.lst<|(ci<|ch.take sp++t :: ch.drop sp).map V.int):=cX s7 Xi;have j8:(ch.take sp++t :: ch.drop sp).length<=t+1:=by have:=pm.length_eq;rw[Ad]at this;have:=hc.perm.length_eq;show _<=_;simp at *;omega
  generalize upd H7 Lc (.lst<|(ci<|ch.take sp++t :: ch.drop sp).map V.int)=H8 at DC Xl s8;generalize ch.take sp++t :: ch.drop sp=ch2 at DC pm j8;have Xm:=oa.same s8;obtain⟨c1,yx⟩:∃ c1,cs[t]?=some c1:=⟨_,Ab<|⋯⟩;obtain⟨u1,cj⟩:∃ u1,cu[t]?=some u1:=⟨_,Ab<|⋯⟩;have N7:=Xm.2.2 t _ _ cj yx;have C7:=dU.fI _<|At yx;have wk:=ng hT (ends n) [] (λe he=>he) _<|Bp ht;have cin:=C0 wk.ends<|dU.mem t _ _ yx<|Ab ht;have la:=uv hc.sum.fI hc.sum.mem;have lb:=uv C7 cin;refine aT 7 nd (bG GM hr<|ai<|ae 7<|ai<|bb cL<|ae 4<|ae 8 ⟨CL,_,_,.ref u1,rfl,rfl,aj.of Xm.1,oH (by rw[Ah,cj];rfl),ax ⟨fe,u1,ts,c1,rfl,Xl,N7,⋯,tY hc.sum.fI,tY C7,λm ms HC sC nC eC Xn mC=>?_⟩⟩);have dd:=Sum.dbl dU hT hf hN DA hc.even hc.cut yx Xn mC;refine a7<|a7 ⟨ch2,l++[t],m,ms,_,s8.trans sC,sC _ _ DC,eC,λk=>(by rw[k,DC]at nC;cases nC),s8.free nC,⟨pm,?_,λi hi=>?_,hc.sum.snoc dU hT yx Xn mC,dd.1,dd.2⟩,j8,rfl⟩
  ·exact lQ hc.de λk=>absurd (hc.lt t k)<|Cq _
  ·rcases An.mp hi with k | k
   ·exact Bt<|hc.lt i k
   ·rw[Af.mp k];exact Fd _
 rintro σ H7 ⟨ch,l,fe,ts,u8,s7,eL,eT,nT,fT,hc,lch,rfl⟩;have DE:ch.Nodup:=hc.perm.nodup_iff.mpr hc.de;have DF:∀ i∈ch,i < (aG n).length:=λi hi=>hc.lt i<|hc.perm.mem_iff.mp hi;have lts:=uv hc.sum.fI hc.sum.mem;have good:∀{m:List Nat},(∀ i∈m,i < (aG n).length)->¬ ∃ x∈ci m,x < 0\/((aG n).length:Int)<=x:=λ{m} h ⟨x,hx,hb⟩=>by
  obtain⟨i,hi,rfl⟩:=Ai.mp hx;have:=h i hi;omega
 refine tj 9 (aP iG) NW Xf 1 nd (yM rfl T.range gL) (ai<|bP dH T.len DR<|ai<|ae 4<|ax ⟨CL,_,rfl,.inl<|aj.of<|s7 _ _ oa.1,ax ⟨_,rfl,⋯,⋯,λD hD=>?_⟩⟩);rw[lcm,Bm];refine Ku (λi σ' H'=>(∃ v,σ'=[⇑a,some<|.int b,⇑R,⇑M,⇑CL,some<|.int bi,⇑Lc,⇑fe,u8,none,none,none,none,none,none,none,none]++[v])/\ah H7 H'/\H' D=some (Lz<|ci<|(List.range i).filter λk=>decide (k∉ch))) ⟨⟨_,rfl⟩,aM hD _,av⟩ ?_ ?_
 ·rintro i σ' H' hi ⟨⟨v,rfl⟩,sm,eD⟩;rw[Dw];have er:(List.range<|i+1).filter (λk=>decide (k∉ch))=(List.range i).filter (λk=>decide (k∉ch))++(if i∉ch then [i]else []):=by
   rw[Dc,Ct,Cv]
   by_cases k:i∉ch
   ·rw[BP<|BW k,BP k];rfl
   ·rw[BK λe=>k<|BX e,BK k];rfl
  have lf:=Cp (λk=>decide (k∉ch))<|List.range i;rw[Cy]at lf;rw[er];intro cl C æ ç ex;refine a8 17 x1z ?_;intro cl C æ ç ex;refine hU<|cH E4<|ae 17<|ae 6 ⟨Lc,_,rfl,.inl<|aj.of<|sm _ _ eL,rfl,Xb _,_,rfl,?_⟩;rw[BP rfl,N9];have ek:decide ((i:Int)∈ci ch)=decide (i∈ch):=decide_eq_decide.mpr Dt;rw[ek]
  by_cases k:i∈ch
  ·rw[BW k,BK (show ¬(i∉ch)from λh=>h k),Be];exact bH ⟨⟨_,rfl⟩,sm,eD⟩
  ·rw[BR k,BP (show i∉ch from k)];refine cz ?_;intro cl C æ ç ex;refine ae 17 ⟨_,eD,by rw[Aa,Aa];exact bI ⋯,⟨_,rfl⟩,cX sm hD,?_⟩;rw[N0,av];show some (Lz<|ci _++[(i:Int)])=some (Lz<|ci<|_++[i]);simp[ci]
 rintro σ' H8 ⟨_,s8,eD⟩;generalize ho:(List.range (aG n).length).filter (λk=>decide (k∉ch))=ot at eD;have om:∀ i,i∈ot↔i < (aG n).length/\i∉ch:=λi=>by rw[<- ho,Bg,Bc,CK]
 have Xp:ot.Pairwise (· < ·):=by rw[<- ho];exact List.pairwise_lt_range.filter _
 have on:ot.Nodup:=Ay.mpr<|Xp.imp λh=>Bi h;have x0K:ot.length<=40:=by have:=aI on (b:=List.range (aG n).length) λi hi=>Bc.mpr ((om i).mp hi).1;rw[Cy]at this;omega
 have yy:∀ z∈ag n,par n ot z=par n l z:=λz hz=>(k6p hT DE DF on om hz).trans<|C5 hc.perm z;have Xq:=s8 _ _ eL;have eT8:=s8 _ _ eT;have s58:=s7.trans s8;refine aT 10 nd<|mP E5 T.gR IK<|ai<|ae 6<|ax ⟨Lc,_,rfl,.inl<|aj.of Xq,λg hg=>?_⟩;have DH:=aM hg<|Lz<|ci ch;have Oe:(upd H8 g<|Lz<|ci ch) g=some (Lz<|ci ch):=av;have yz:=DH _ _ Xq;have uw:=DH _ _ eT8;have pH:=DH _ _ eD;have yA:=s58.trans DH;generalize upd H8 g (Lz<|ci ch)=H10 at Oe yz uw pH yA;have oh:=A7.same yA;have lE:=hM5.same yA;have Og:=oa.same yA;have Oh:=yA.seq hS5;refine ke T.range<|aE ⟨2,rfl,∅,∅,kg (n:=2) (λ_ σ H'=>ah H10 H'/\∃ lF lG:Option V,σ=[⇑a,some<|.int b,⇑R,⇑M,⇑CL,some<|.int bi,⇑Lc,⇑fe,u8,⇑D,⇑g,lF,lG,none,none,none,none]) ⟨ah.refl _,_,_,rfl⟩ ?_ ?_⟩
 ·rintro i σ HB _ ⟨sB,lF,lG,rfl⟩;refine a8 11 nd ?_;refine aT 12 nd (MR GD hr N8<|ai<|ae 3<|ai<|ae 10<|ax ⟨M,g,bs,n,ci ch,rfl,lE.same sB,hN,hT,⋯,⋯,sB _ _ Oe,by rw[Aa];omega,λk=>absurd k<|good DF,λm em hm DD ds HC sC nC eC sk=>?_⟩);obtain rfl:=Xd em;obtain rfl:ds=ts:=sk.uniq hc.sum λz _=>C5 hc.perm z;have yB:=sB.trans sC;refine fP (mQ<|vk<|lR<|iu<|bG GT hr<|ai<|ae 12<|ai<|ae 7<|ax ⟨DD,fe,_,rfl,eC,yB _ _ uw,⋯,λHD sD=>⟨true,rfl,bH ?_⟩⟩);have sr:=yB.trans sD;refine vp (cH (qw un)<|ae 10<|ae 6 ⟨1,true,∅,WW (sr _ _ Oe)<|sr _ _ yz,_,rfl,bH<|a7 ?_⟩);have Xr:=sD _ _ eC;refine gq (jQ<|ae 12 ⟨DD,rfl,⟨_,Xr⟩,vj ⟨_,Xr,by rw[Aa];exact bI ⋯,?_⟩⟩);exact a7 ⟨cX sr<|sB.free nC,_,_,rfl⟩
 rintro σ HB ⟨sB,lF,lG,rfl⟩;refine fP (mQ<|vk<|lR<|iu<|bG GT hr<|ai<|MR GD hr N8<|ai<|ae 3<|ai<|ae 9<|ax ⟨M,D,bs,n,ci ot,rfl,lE.same sB,hN,hT,⋯,⋯,sB _ _ pH,by rw[Aa];omega,λk=>absurd k<|good λi hi=>((om i).mp hi).1,λm em hm DD ds HC sC nC eC sk=>?_⟩);obtain rfl:=Xd em;obtain rfl:ds=ts:=sk.uniq hc.sum yy;have yB:=sB.trans sC;refine ai (ae 7<|ax ⟨DD,fe,_,rfl,eC,yB _ _ uw,⋯,λHD sD=>⟨true,rfl,bH ?_⟩⟩);have sr:=yB.trans sD;refine vp (lR<|iu<|bG GE hr<|ai<|ae 2<|ai<|ae 7<|ax ⟨R,fe,as,n,_,rfl,oh.same sr,⋯,⋯,sr _ _ uw,λHE sE=>⟨_,rfl,?_⟩⟩);rw[hc.even];refine bH<|a7 ?_;have Xs:=sr.trans sE;refine fP (cH Y5<|bG GI hr<|ai<|ae 2<|ai<|bG GS hr<|ai<|ae 2<|ax ⟨R,as,n,rfl,oh.same Xs,⋯,⋯,λsd ks HF sF nF Oi=>?_⟩);obtain⟨iQ,ed,ek,ev⟩:=Oi.dict;refine q78 ed λob=>?_;have kF:∀ b o,b≠sd->HF b=some o->(upd HF sd<|.bB ob<|.dK iQ) b=some o:=λb o hb h=>by rwa[au hb]
 have Xt:lj (upd HF sd<|.bB ob<|.dK iQ) sd ob n ks:=by
  refine⟨⟨iQ,av,ek,λz hz=>?_⟩,Oi.nodup,Oi.mem⟩;obtain⟨a,ts,q1,q2,q3⟩:=ev z hz;exact⟨a,ts,q1,kF _ _ (bV q2 ed λz=>nomatch z) q2,q3.keep λt e h=>kF _ _ (bV h ed λz=>nomatch z) h⟩
 have sEF:ah HE (upd HF sd<|.bB ob<|.dK iQ):=cX sF nF;have DI:=Xs.trans sEF;generalize upd HF sd (.bB ob<|.dK iQ)=HG at Xt DI;refine ai<|ae 7<|ax ⟨R,sd,fe,as,n,_,ks,ob,rfl,oh.same DI,Xt,hT,hf.1,hN,DA,⋯,DI _ _ uw,hc.sum.mem,λLq HH sH hex=>vi ⟨rfl,_,rfl,?_⟩,λHH sH Mr=>?_⟩
 rotate_left
 ·exfalso
  obtain⟨fD,Oj⟩:=q26 hT DA hc.cut;exact Mr fD Oj
 rw[BR λk=>by cases k];refine bH<|a7 ?_;have Xu:=DI.trans sH;have dbl:dv n ds:=⟨hc.even,hex⟩;have eLH:=Xu _ _ yz;have Xv:(ci ch).length=ch.length:=Aa ..;have x0L:ch.length<=40:=by have:=aI DE (b:=List.range (aG n).length) λi hi=>Bc.mpr<|DF i hi;rw[Cy]at this;omega
 refine aT 13 nd (bP WU T.sorted CW<|ai<|ae 6<|ax ⟨Lc,_,rfl,aj.of eLH,⋯,λd1 is Lf db gP=>?_⟩);have sS:=aM Lf<|.lst<|is.map V.int;have eS:(upd HH d1<|.lst<|is.map V.int) d1=some (Lz is):=av;have yC:=Xu.trans sS;generalize upd HH d1 (.lst<|is.map V.int)=HI at eS yC;have rest:∀(Ld:Addr) (dl:List Nat),HI Ld=some (Lz<|ci dl)->dl.Pairwise (· < ·)->(∀ i∈dl,1<=i/\i < (aG n).length)->(∀ z∈ag n,par n dl z=par n l z)->Run (Hm NW "law" (aP iG) P w K mg Z b0) ((gn iG).drop 15) (En Q) [⇑a,some<|.int b,⇑R,⇑M,⇑CL,some<|.int bi,⇑Lc,⇑fe,u8,⇑D,⇑g,lF,lG,⇑Ld,none,none,none] HI:=by
  intro Ld dl eLd Xw Xx Ol;refine ke T.range<|aE ⟨2,rfl,∅,∅,kg (n:=2) (λ_ σ H'=>ah HI H'/\∃ lF lG:Option V,σ=[⇑a,some<|.int b,⇑R,⇑M,⇑CL,some<|.int bi,⇑Lc,⇑fe,u8,⇑D,⇑g,lF,lG,⇑Ld,none,none,none]) ⟨ah.refl _,_,_,rfl⟩ ?_ ?_⟩
  ·rintro i σ HJ _ ⟨sJ,lF,lG,rfl⟩;have uz:=yC.trans sJ;refine a8 11 nd ?_;refine aT 12 nd<|MR GA hr N8<|ai<|ae 3<|ai<|mP E5 T.gR IK<|ai<|ae 7<|ax ⟨fe,_,rfl,.inl<|aj.of<|uz _ _ uw,λg2 rR=>?_⟩;have sK:=aM rR<|Ls ds;refine ax ⟨M,g2,bs,n,ds,rfl,(lE.same uz).same sK,hN,hT,hf,DA,⋯,⋯,av,hc.sum.fI,λk=>absurd dbl k,λ_ Lr nr HK sK2 nLr Xy oI=>?_⟩;have e9:nr=dl:=k62 hT hf.1 hN oI Xw Xx λz hz=>(Ol z hz).trans (hc.sum.sum z hz).symm;subst e9;have Xz:=sJ.trans<|sK.trans sK2;have Om:HI Lr=none:=sJ.free<|sK.free nLr;refine fP<|lR<|iu<|bG GU hr<|ai<|ae 12<|ai<|ae 13<|ax ⟨Lr,Ld,_,rfl,Xy,Xz _ _ eLd,λHL XA=>⟨true,rfl,bH<|a7 ?_⟩⟩;have yD:=XA _ _ Xy;have lnr:nr.length<=40:=by
    have CD:nr.Nodup:=Ay.mpr<|Xw.imp λh=>Bi h;have:=aI CD (b:=List.range (aG n).length) λi hi=>Bc.mpr (Xx i hi).2;rw[Cy]at this;omega
   refine gq (jQ<|ae 12 ⟨Lr,rfl,⟨_,yD⟩,aE ⟨_,yD,by rw[Aa,Aa];exact bI ⋯,?_⟩⟩);exact a7 ⟨cX (Xz.trans XA) Om,_,_,rfl⟩
  rintro σ HJ ⟨sJ,lF,lG,rfl⟩;have uz:=yC.trans sJ;refine aT 14 nd (aU cJ<|bG GC hr<|ai<|ae 0<|ai<|aE<|ax ⟨a,ns,19,rfl,uz.seq Oh,∅,λOo=>?_⟩);refine aU EG (aE<|aE ⟨_,_,rfl,rfl,⟨∅,∅,∅⟩,_,_,rfl,rfl,by show(0:Int) < 10 ^ Int.toNat 30;decide,?_⟩);have f0:0<=Oo % 10 ^ Int.toNat 30:=Bs _ ∅;show Run _ _ _ [⇑a,some<|.int b,⇑R,⇑M,⇑CL,some<|.int bi,⇑Lc,⇑fe,u8,⇑D,⇑g,lF,lG,⇑Ld,some<|.int<|Oo % 10 ^ Int.toNat 30,none,none] HJ;generalize Oo % 10 ^ Int.toNat 30=far at f0;have XB:=Og.same uz;refine Qx<|fv<|ai<|y4 yR<|aE ⟨1,rfl,ai<|aU Pq<|y4 yR<|aE ⟨1,rfl,ae 14 ⟨_,_,rfl,rfl,?_⟩⟩⟩;refine ai<|bP dH T.len DR<|ai<|ae 4<|ax ⟨CL,_,rfl,.inl<|aj.of XB.1,?_⟩;refine ai (aU fj<|bP dH T.len DR<|ai<|ae 4<|ax ⟨CL,_,rfl,.inl<|aj.of XB.1,ae 14 ⟨_,_,rfl,rfl,ax ⟨(by show 4<=sizeLine;decide),λtp x8=>⟨tp,rfl,⟨_,aS.of av⟩,?_⟩⟩⟩⟩);rw[lcm];have sP:=aM x8<|.tup [.int (-1),.int (-1 - far),.int ((aG n).length:Int),.int<|((aG n).length:Int)+far];have eP:(upd HJ tp<|.tup [.int (-1),.int (-1 - far),.int ((aG n).length:Int),.int<|((aG n).length:Int)+far]) tp=some (.tup [.int (-1),.int (-1 - far),.int ((aG n).length:Int),.int<|((aG n).length:Int)+far]):=av;have Oq:=uz.trans sP;generalize upd HJ tp (.tup [.int (-1),.int (-1 - far),.int ((aG n).length:Int),.int<|((aG n).length:Int)+far])=HP at eP Oq;refine Qy (xs:=[.int (-1),.int (-1 - far),.int ((aG n).length:Int),.int<|((aG n).length:Int)+far]) (λi σ H'=>ah HP H'/\∃ Ot u16:Option V,σ=[⇑a,some<|.int b,⇑R,⇑M,⇑CL,some<|.int bi,⇑Lc,⇑fe,u8,⇑D,⇑g,lF,lG,⇑Ld,some<|.int far,Ot,u16]) ⟨ah.refl _,_,_,rfl⟩ ?_ ?_ ?_
  ·rintro i σ H' _ ⟨sm,_⟩;exact aS.of<|sm _ _ eP
  ·rintro i x σ HQ hx ⟨sQ,Ot,u16,rfl⟩;obtain⟨y,rfl,hy⟩:∃ y:Int,x = .int y/\(y < 0\/((aG n).length:Int)<=y):=by
    match i with
    | 0=>cases hx;exact⟨_,rfl,.inl<|⋯⟩
    | 1=>cases hx;exact⟨_,rfl,.inl<|⋯⟩
    | 2=>cases hx;exact⟨_,rfl,.inr<|⋯⟩
    | 3=>cases hx;exact⟨_,rfl,.inr<|⋯⟩
    | i+4=>simp at hx
   have yE:=Oq.trans sQ;have Ou:=yE _ _ yz;have lL:((ci ch).map V.int).length=ch.length:=by rw[Aa,Aa]
   refine a8 15 nd ?_;refine aT 16 nd<|aU cJ<|ae 14<|aU fj<|bP dH T.len DR<|ai<|ae 6<|ax ⟨Lc,_,rfl,.inl<|aj.of Ou,aE ⟨_,_,rfl,rfl,?_⟩⟩;rw[lL];refine⟨_,_,rfl,rfl,by show(0:Int) < (ch.length:Int)+1;omega,?_⟩;have m0:0<=far % ((ch.length:Int)+1):=Bs _ ⋯;have m1:far % ((ch.length:Int)+1) < (ch.length:Int)+1:=Ce _ ⋯;obtain⟨sp,dG⟩:=TF m0;show Run _ _ _ [⇑a,some<|.int b,⇑R,⇑M,⇑CL,some<|.int bi,⇑Lc,⇑fe,u8,⇑D,⇑g,lF,lG,⇑Ld,some<|.int far,some<|.int y,some<|.int<|far % ((ch.length:Int)+1)] HQ;rw[dG];refine fP<|lR<|iu<|bG GZ hr<|ai<|ae 3<|ai<|aU yW<|aU yW<|y7 yU<|ae 6<|y8<|y9<|ae 16 ⟨_,rfl,Lc,_,rfl,aj.of Ou,λp1 wM=>?_⟩;rw[q7o];have t1:=aM wM<|.lst<|((ci ch).take sp).map V.int;have g1:(upd HQ p1<|.lst<|((ci ch).take sp).map V.int) p1=some (Lz<|(ci ch).take sp):=av;generalize upd HQ p1 (.lst<|((ci ch).take sp).map V.int)=HR at t1 g1;refine dS<|ai<|ae 15<|ax ⟨Z1,λp2 kd=>?_⟩;have t2:=aM kd<|.lst [.int y];have XD:(upd HR p2<|.lst [.int y]) p2=some (Lz [y]):=av;generalize upd HR p2 (.lst [.int y])=HS at t2 XD;have lt1:((ci ch).take sp).length<=40:=by rw[Bh,Xv];omega
   refine⟨p1,p2,_,_,rfl,rfl,t2 _ _ g1,XD,?_,λp3 nG=>?_⟩
   ·rw[Aa];exact small<|by show _+1<=_;omega
   have t3:=aM nG<|.lst<|((ci ch).take sp).map V.int++[y].map V.int;have g3:(upd HS p3<|.lst<|((ci ch).take sp).map V.int++[y].map V.int) p3=some (Lz<|(ci ch).take sp++[y]):=by rw[av];show _=some (HO.lst<|((ci ch).take sp++[y]).map V.int);rw[Aj]
   generalize upd HS p3 (.lst<|((ci ch).take sp).map V.int++[y].map V.int)=HT at t3 g3;have XE:=t1.trans<|t2.trans t3;refine y7 yU<|ae 6<|y9<|ae 16 ⟨_,rfl,y8 ⟨Lc,_,rfl,aj.of<|XE _ _ Ou,λp4 hp4=>?_⟩⟩;rw[k9y];have t4:=aM hp4<|.lst<|((ci ch).drop sp).map V.int;have g4:(upd HT p4<|.lst<|((ci ch).drop sp).map V.int) p4=some (Lz<|(ci ch).drop sp):=av;generalize upd HT p4 (.lst<|((ci ch).drop sp).map V.int)=HU at t4 g4;have lt2:((ci ch).drop sp).length<=40:=by rw[Dd,Xv];omega
   have lt3:((ci ch).take sp++[y]).length<=41:=by rw[Ad];show _+1<=_;omega
   refine⟨p3,p4,_,_,rfl,rfl,t4 _ _ g3,g4,?_,λp5 hp5=>?_⟩
   ·rw[Aa,Aa];exact small<|⋯
   have t5:=aM hp5<|.lst<|((ci ch).take sp++[y]).map V.int++((ci ch).drop sp).map V.int;have g5:(upd HU p5<|.lst<|((ci ch).take sp++[y]).map V.int++((ci ch).drop sp).map V.int) p5=some (Lz<|((ci ch).take sp++[y])++(ci ch).drop sp):=by rw[av];show _=some (HO.lst<|(((ci ch).take sp++[y])++(ci ch).drop sp).map V.int);rw[Aj (l₁:=(ci ch).take sp++[y])]
   generalize upd HU p5 (.lst<|((ci ch).take sp++[y]).map V.int++((ci ch).drop sp).map V.int)=HV at t5 g5;have XG:=XE.trans<|t4.trans t5;refine ax ⟨M,p5,bs,n,_,rfl,(lE.same yE).same XG,hN,hT,⋯,⋯,g5,by rw[Ad];omega,⟨y,Az _<|Av _<|Af.mpr rfl,hy⟩,λHW sW=>⟨true,rfl,bH<|a7<|a7 ⟨sQ.trans<|XG.trans sW,_,_,rfl⟩⟩⟩
  ·rintro σ HQ ⟨sQ,Ot,u16,rfl⟩;have yE:=Oq.trans sQ;exact bQ<|hG (vO un)<|ae 3<|ae 2 ⟨3,true,∅,q2b (lE.same yE)<|oh.same yE,q _⟩
 refine fP<|cH lN<|aE<|ae 6 ⟨Lc,_,rfl,.inl<|aj.of<|yC _ _ yz,rfl,Xb _,_,rfl,?_⟩;have fF:∀(x y:Bool),(if false=true then x else y)=y:=λ_ _=>rfl;rw[fF,N9];have e0:decide ((0:Int)∈ci ch)=decide (0∈ch):=decide_eq_decide.mpr<|Dt (i:=0);rw[e0]
 by_cases z0:0∈ch
 ·rw[BW z0];refine cz<|aT 13 nd<|ae 9<|a7 ?_;refine rest D ot (yC _ _ pH) Xp (λi hi=>?_) yy;have:=(om i).mp hi;exact⟨RB λe=>this.2 (by rwa[e]),this.1⟩
 ·rw[BR z0];refine bH<|a7 ?_;have pos:∀ x∈is,∃ i,i∈ch/\x=(i:Int):=λx hx=>by
   obtain⟨i,hi,rfl⟩:=Ai.mp<|db.mem_iff.mp hx;exact⟨i,hi,rfl⟩
  obtain⟨dl,rfl⟩:∃ dl:List Nat,is=ci dl:=by
   refine⟨is.map Int.toNat,?_⟩;unfold ci;rw[Cg];refine(List.map_id is).symm.trans<|Bo λx hx=>?_;obtain⟨i,_,rfl⟩:=pos x hx;rfl
  have dn:(ci dl).Nodup:=db.nodup_iff.mpr (by rw[Ay,Cs];exact(Ay.mp DE).imp λh e=>h<|⋯);have XH:dl.Perm ch:=(Dm (by rw[Ay,Cs]at dn;rw[Ay];exact dn.imp λh e=>h<|by rw[e]) DE).mpr λi=>by
   rw[<- Dt,db.mem_iff,Dt]
  refine rest d1 dl eS ?_ (λi hi=>?_) λz hz=>C5 (XH.trans hc.perm) z
  ·rw[Cs]at gP;rw[Ay,Cs]at dn;exact(gP.and dn).imp λ⟨a,b⟩=>⋯
  ·have:=XH.mem_iff.mp hi;exact⟨RB λe=>z0 (by rwa[<- e]),DF i this⟩
end
end Q1
namespace L2
open PySem PySem.Spec PyProof.Rows
variable{ps:Ñ}{mg:Ò}{K:PySem.W.Frag}
def Df.hx{P:Program}{w:World}{h Z:Heap}{k:Nat}{x:Str}{st:Stmt}{sp:Sp}(d:Df K x st)(X:K.In h)(G:h.Ns mainGlobals mg)
  (ok:∀{f:Addr} {fd:FuncData},bo K x x st f fd->aD P w K mg Z (XF P w) k f fd ps sp)
  (hb:∀(kV doc pm:Value) (an:Option Addr) (bF ct:Value) (us:Ó),us.length=ps.length->bindArgs (PySem.W.fnOf x x (lP st) (gn st) (aP st) .none kV doc pm an bF ct) ⟨us,[]⟩=pure (ps.zip us):=by intro _ _ _ _ _ _;(repeat (refine L2.vC λ_=>?_));exact L2.vD rfl):d3 P w K mg Z k x ps sp:=d.MS X G hb ok
end L2
namespace Q1
open PySem L2
variable{mg:Ò}{l:PySem.W.OpenLaw}
def all_mk{w:World}{K:PySem.W.Frag}{h:Heap}{fa:Addr}(X:K.In h)(G:h.Ns mainGlobals mg)(Hn:mg "law" = some (.ref fa))
  (h1:Df K "ends_round" zR) (h2:Df K "ends_in_order" zS) (h3:Df K "turned_left" Iw) (h4:Df K "turned_right" Iy) (h5:Df K "other_ends" Iz) (h6:Df K "ties_by_end" zT) (h7:Df K "left_steps" zU) (h8:Df K "right_steps" zV) (h9:Df K "ties_of" zW) (Ov:Df K "links_of" IA) (DJ:Df K "spread" vR) (Ow:Df K "odd_points" iF) (CM:Df K "is_round" qD) (Ox:Df K "cut_of" zX) (Oy:Df K "side_of" vS) (Oz:Df K "walkers_of" qF) (OA:Df K "walker_from" qG) (OB:Df K "core_of" vT) (OC:Df K "is_double" IC) (OG:Df K "numbers_by" vU) (OH:Df K "cores_of" zZ) (OI:Df K "_law_cell_at" IE) (x6:Df K "_law_big" qH) (OL:Df K "_law_names" IG) (OM:Df K "_law_seats" IH) (OO:Df K "_law_other" II) (OQ:Df K "_law_step" IJ) (OS:Df K "_law_face" IL) (OT:Df K "_law_put" qI) (OU:Df K "_law_net_by" qJ) (OV:Df K "_law_copy" z6) (OW:Df K "_law_side" z7) (OX:Df K "_law_even" z8) (OY:Df K "_law_sum" vV) (OZ:Df K "_law_core" oW) (O0:Df K "_law_is_set" z9) (O1:Df K "_law_numbers" AA) (O2:Df K "_law_no_walker" IM) (O3:Df K "summed" IB) (O4:Df K "double_by" zY) (hl:Df K "law" iG)
  (qc:M4 K=true)
  (z:∀ x∈(["isinstance","tuple","str","int","bool","list","dict","set","enumerate","zip","len","range","sorted","max","all","ValueError","any"]:Ñ),PySem.W.nsIn K mainGlobals x=some none) :
  ∃ fd:FuncData,(∀(s:Shared) (v:Value),BindsTo s fd ⟨[v],[]⟩ [("_law_script",v)])/\∀ Z:Heap,K.In Z->Z.Ns mainGlobals mg->aD l.prog w K mg Z bz 8 fa fd ["_law_script"] (C9 K):=by
 have T:Txt mg:=⟨CP X G (z _<|by simp),CP X G (z _<|by simp),CP X G (z _<|by simp),CP X G (z _<|by simp),CP X G (z _<|by simp),CP X G (z _<|by simp),CP X G (z _<|by simp),CP X G (z _<|by simp),CP X G (z _<|by simp),CP X G (z _<|by simp),CP X G (z _<|by simp),CP X G (z _<|by simp),CP X G (z _<|by simp),CP X G (z _<|by simp),CP X G (z _<|by simp),CP X G (z _<|by simp),CP X G<|z _<|by simp⟩;have cl:=x2u X G qc;refine hl.law X G Hn (λ_ _ _ _ _ _ s v=> .of_eq rfl) λZ f fd F=>?_;have G1:aQ l.prog w K mg Z 1 "ends_round" ["row"] wO:=h1.hs X G λF=>q5d F T;have G2:aQ l.prog w K mg Z 2 "ends_in_order" ["rows"] Kz:=h2.hs X G λF=>q1z F T (G1.mono<|∅);have G3:aQ l.prog w K mg Z 1 "turned_left" ["end","many"] (iK λj=>j+1):=h3.hs X G λF=>q6t F T;have G4:aQ l.prog w K mg Z 1 "turned_right" ["end","many"] (iK λj=>j - 1):=h4.hs X G λF=>k95 F T;have G5:aQ l.prog w K mg Z 2 "other_ends" ["rows"] kZ:=h5.hs X G λF=>x1r F T (G1.mono<|∅);have G6:aQ l.prog w K mg Z 2 "ties_by_end" ["rows"] nJ:=h6.hs X G λF=>x2d F T (G1.mono<|∅);have G7:aQ l.prog w K mg Z 3 "left_steps" ["rows"] (iM 1):=h7.hs X G λF=>x2g F T (G5.mono<|∅) (G3.mono<|∅);have G8:aQ l.prog w K mg Z 3 "right_steps" ["rows"] (iM (-1)):=h8.hs X G λF=>x2h F T (G5.mono<|∅) (G4.mono<|∅);have G17:aQ l.prog w K mg Z 1 "walker_from" ["lefts","rights","first"] rD:=OA.hs X G λF=>x2z F T;have XI:aQ l.prog w K mg Z 4 "walkers_of" ["rows"] BV:=Oz.hs X G λF=>q97 F T (G7.mono<|∅) (G8.mono<|∅) (G6.mono<|∅) (G2.mono<|∅) (G17.mono<|∅);have G9:aQ l.prog w K mg Z 1 "ties_of" ["rows"] rY:=h9.hs X G λF=>q54 F T;have G18:aQ l.prog w K mg Z 3 "core_of" ["rows","walker"] M7:=OB.hs X G λF=>q6s F T (G6.mono<|∅);have XJ:aQ l.prog w K mg Z 5 "cores_of" ["rows"] C3:=OH.hs X G λF=>q1k F T (XI.mono<|∅) (G18.mono<|∅);have XM:aQ l.prog w K mg Z 1 "links_of" ["rows"] B9:=Ov.hs X G λF=>q2l F T;have O5:aQ l.prog w K mg Z 1 "spread" ["first","links"] LO:=DJ.hs X G λF=>k7c F T;have G14:aQ l.prog w K mg Z 2 "cut_of" ["rows","points"] LW:=Ox.hs X G λF=>q8k F T (XM.mono<|∅);have G15:aQ l.prog w K mg Z 3 "side_of" ["rows","some"] LX:=Oy.hs X G λF=>q5i F T (XM.mono<|∅) (O5.mono<|∅) (G14.mono<|∅);have G12:aQ l.prog w K mg Z 1 "odd_points" ["rows","some"] Ml:=Ow.hs X G λF=>x0y F T;have G13:aQ l.prog w K mg Z 2 "is_round" ["rows","some"] ug:=CM.hs X G λF=>q80 F T (G12.mono<|∅);have G19:aQ l.prog w K mg Z 4 "is_double" ["rows","some"] Mk:=OC.hs X G λF=>x1n F T (G13.mono<|∅) (G15.mono<|∅);have O5:aQ l.prog w K mg Z 1 "spread" ["first","links"] M9:=DJ.hs X G λF=>k5m F T;have G20:d3 l.prog w K mg Z 6 "numbers_by" ["rows","some"] (NU<|jE K):=OG.hx X G λF=>q6f F T cl (G19.mono<|∅) (XJ.mono<|∅) (G9.mono<|∅) (O5.mono<|∅);have XN:aQ l.prog w K mg Z 1 "_law_cell_at" ["_law_script","_law_k"] (AB K):=OI.hs X G λF=>q59 F T;have G23:aQ l.prog w K mg Z 2 "_law_big" ["_law_script","_law_at"] (IY K):=x6.hs X G λF=>q9g F T (XN.mono<|∅);have G24:aQ l.prog w K mg Z 1 "_law_names" ["_law_stem","_law_many"] IZ:=OL.hs X G λF=>q13 F T;have XQ:aQ l.prog w K mg Z 1 "_law_seats" ["_law_rows"] AF:=OM.hs X G λF=>q2x F T;have G26:aQ l.prog w K mg Z 1 "_law_other" ["_law_rows","_law_seats_here","_law_end"] Ja:=OO.hs X G λF=>q3q F T;have G27:aQ l.prog w K mg Z 2 "_law_step" ["_law_rows","_law_seats_here","_law_end","_law_turn"] Jb:=OQ.hs X G λF=>q49 F T (G26.mono<|∅);have G28:aQ l.prog w K mg Z 3 "_law_face" ["_law_rows","_law_seats_here","_law_end"] Jc:=OS.hs X G λF=>q6y F T (G27.mono<|∅);have G29:aQ l.prog w K mg Z 4 "_law_put" ["_law_rows","_law_big_here","_law_tie","_law_point"] JS:=OT.hs X G λF=>q93 F T (XQ.mono<|∅) (G28.mono<|∅);have G30:aQ l.prog w K mg Z 5 "_law_net_by" ["_law_big_here","_law_most","_law_stem"] Kg:=OU.hs X G λF=>x0w F T (G24.mono<|∅) (G29.mono<|∅);have G31:aQ l.prog w K mg Z 1 "_law_copy" ["_law_rows"] Kq:=OV.hs X G λF=>q7q F T;have G32:aQ l.prog w K mg Z 1 "_law_side" ["_law_rows","_law_seats_here","_law_some"] My:=OW.hs X G λF=>q1x F T;have G33:aQ l.prog w K mg Z 1 "_law_even" ["_law_rows","_law_some"] ug:=OX.hs X G λF=>q64 F T;have G34:aQ l.prog w K mg Z 1 "_law_sum" ["_law_one","_law_other_here"] Mt:=OY.hs X G λF=>q7v F T;have G35:aQ l.prog w K mg Z 1 "_law_core" ["_law_rows","_law_walker"] ME:=OZ.hs X G λF=>q17 F T;have G36:aQ l.prog w K mg Z 1 "_law_is_set" ["_law_found","_law_due"] Oa:=O0.hs X G λF=>q2h F T;have G37:aQ l.prog w K mg Z 1 "_law_numbers" ["_law_found","_law_due"] Ob:=O1.hs X G λF=>q81 F T;have G39:aQ l.prog w K mg Z 1 "summed" ["one","other"] N4:=O3.hs X G λF=>k9k F T;have XR:d3 l.prog w K mg Z 6 "double_by" ["rows","numbers"] (og<|jE K):=O4.hx X G λF=>q8f F T cl (XJ.mono<|∅) (G39.mono<|∅);have G38:aQ l.prog w K mg Z 7 "_law_no_walker" ["_law_rows","_law_numbers_here"] Oc:=O2.hs X G λF=>x1h F T cl (XR.mono<|∅);exact q77 F T (XN.mono<|∅) (G23.mono<|∅) (G30.mono<|∅) (G31.mono<|∅) (XQ.mono<|∅) (G34.mono<|∅) (G35.mono<|∅) (XI.mono<|∅) (G33.mono<|∅) (G32.mono<|∅) (G36.mono<|∅) (G37.mono<|∅) (G38.mono<|∅) (XR.mono<|∅)<|G20.mono<|∅
variable{K:Params->PySem.W.Frag}{YP:World->Heap->Prop}{XP:Ò->Heap->Prop}{loose:Ñ}
def walk{q:Program}{d:DefRec}(hn:l.most=some 63)(mI:d.params.defaults=[])
  (hY:∀(w:World) (h:Heap),YP w h->(K w.params).In h)
  (F : ∀ (w : World) (mg : Str → Option Value) (fa : Addr) (h : Heap), (K w.params).In h → h.Ns mainGlobals mg → mg d.name = some (.ref fa) →
   ∃ fd:FuncData,(∀(s:Shared) (u:Value),BindsTo s fd ⟨[u],[]⟩ [("_law_script",u)])/\∀ Z:Heap,(K w.params).In Z->Z.Ns mainGlobals mg->aD l.prog w (K w.params) mg Z bz 8 fa fd ["_law_script"] (C9<|K w.params)) :
  PySem.W.WalkO q loose XP YP l.row.toRowW d [] (λf vs=>PySem.call f vs):=
 L2.mJ (n:=63) (k:=8) (x:= "_law_script") (CX:=λ_=>bz) (sp:=λw=>C9<|K w.params) hn ∅ mI ⟨rfl,∅,∅⟩ hY F (λ_ _ a ns hl _ hS=>⟨a,ns,rfl,hS,hl,λ_=>rfl⟩) λ_ _ _ _ _ z=>z
end Q1
-- see NOTE.md
namespace PySem.W.Fast
def tw5198852553965460092:=()
def tw5413368098861726706:=()
def tw9404029209458989457:=()
def tw7607012041587071243:=()
def tw10943256809225269558:=()
def tw4989411518479984771:=()
def tw17264839893696505500:=()
def tw398339335004258000:=()
def tw14581602829032078406:=()
def tw2661148619901098873:=()
def tw17952613060389540635:=()
def tw8673068921468203570:=()
def tw17293047543064944020:=()
def tw9918265047761791361:=()
def tw9814432611489961307:=()
def tw10266196955641720888:=()
def tw3734415714347311386:=()
def tw11290761788607028615:=()
def tw16993661786275044819:=()
def tw12502169983049884576:=()
def tw12029268362168908255:=()
def tw386842681635243525:=()
def tw15635955903566236729:=()
def tw3225253394809909616:=()
def tw17833188782597534344:=()
def tw14154338876017606130:=()
def tw5603726882113586733:=()
def tw12499534141834606470:=()
def tw12543340453424795815:=()
def tw16777514211333155659:=()
def tw8063171420835204932:=()
def tw4365426651820674297:=()
def tw14396320144307746328:=()
def tw2556121678054423675:=()
def tw14928133290269971863:=()
def tw3901583856272914625:=()
def tw5464841220611649972:=()
def tw15129452086219030103:=()
def tw6376531773606505141:=()
def tw18096165584239822546:=()
def tw17267272893114557542:=()
def tw15459962863965500408:=()
def tw15469093110642933936:=()
def tw2979987821769851522:=()
def tw6077590286365893594:=()
def tw8393038931872199990:=()
def tw12684964471910030185:=()
def tw16167963225084133726:=()
def tw12347999813387648981:=()
def tw7324053636509422123:=()
def tw4407823507720323660:=()
def tw8529047915006736361:=()
def tw18281664982387673842:=()
def tw4281986290026530513:=()
def tw4317527362669418404:=()
def tw3944503854513436786:=()
def tw10071628414170946047:=()
def tw5242182173058003926:=()
def tw639660650679107393:=()
def tw4729780270234700547:=()
def tw12620078146115082420:=()
def tw6073833766826523534:=()
def tw12765813426512373967:=()
def tw16206735808638016371:=()
def tw1658113211321242172:=()
def tw16595400984003045267:=()
def tw3665264015832702399:=()
def tw1083625061010906889:=()
def tw8132935064421566557:=()
def tw4528218937809811193:=()
def tw13604262065275407540:=()
def tw3459189831520634998:=()
def tw2547840526564614006:=()
def tw6819658571543918650:=()
def tw10302094927665973904:=()
def tw516465716293821627:=()
def tw2295005697369459864:=()
def tw8502523904736148772:=()
def tw9225316039620657062:=()
def tw15334119044104771826:=()
def tw17164605986487974450:=()
def tw7827110641631500999:=()
def tw15316389378943594799:=()
def tw14510784459359490115:=()
def tw11137264276876994072:=()
def tw16527667481467661949:=()
def tw8595610841635017422:=()
def tw16434307909947359071:=()
def tw5692954522154368561:=()
def tw15767154928919687737:=()
def tw3423555206475257503:=()
def tw15137325960660553171:=()
def tw2686610808474256023:=()
def tw5906677765857113050:=()
def tw18014856383831815326:=()
def tw11186367038267075698:=()
def tw10850091462277105203:=()
def tw14910632407823186892:=()
def tw5053650294758848932:=()
def tw9269077647872686515:=()
def tw685556534156028710:=()
def tw7251952500548217224:=()
def tw8087856056255767387:=()
def tw8248111037691431063:=()
def tw2407011931774729561:=()
def tw14018910310404245867:=()
def tw9102020506852775755:=()
def tw5793332091930822525:=()
def tw9645095951101569537:=()
def tw8705525822991879587:=()
def tw4065433093832493113:=()
def tw14428341744694255912:=()
def tw11354848308330525279:=()
def tw10903000648206372219:=()
def tw477869634285925778:=()
def tw3571468278829764165:=()
def tw1589972041402189789:=()
def tw5307360686942423928:=()
def tw2447885457421582234:=()
def tw7455653458042316260:=()
def tw3902861176829204715:=()
def tw1677850991850974594:=()
def tw10783050833635846936:=()
def tw17344284371821557643:=()
def tw10443889835759727819:=()
def tw17011766224620693022:=()
def tw8926123490904052938:=()
def tw8441060508004617031:=()
def tw15521942276062455813:=()
def tw17038525376472846346:=()
def tw6689022669151012824:=()
def tw433956908725935656:=()
def tw16642887925477903304:=()
def tw16348865871585440470:=()
def tw3632116105891941279:=()
def tw4724330165148566064:=()
def tw2498093504080841084:=()
def tw13212029231753721766:=()
def tw4569949814118936276:=()
def tw10764948385360886685:=()
def tw17630846263844803177:=()
def tw10549888411236519419:=()
def tw5627292528690146084:=()
def tw2408805740249637094:=()
def tw3193534722704862699:=()
def tw747837830791237362:=()
def tw12884740388692234205:=()
def tw6679345199856249086:=()
def tw12082630894633964831:=()
def tw18179480961208543716:=()
def tw1221320864273435988:=()
def tw2681879673606497023:=()
def tw7145371384538367951:=()
def tw14000406132119919285:=()
def tw17148681485846666033:=()
def tw1449202887672915140:=()
def tw16365805150547483264:=()
def tw2270261416425649109:=()
def tw15985065028980432836:=()
def tw17103602438684569181:=()
def tw15843276996713860285:=()
def tw17396883767838891076:=()
def tw7970217389443555036:=()
def tw2962696582641558045:=()
def tw1297353800532837708:=()
def tw9829648439486660398:=()
def tw12608984051264422048:=()
def tw14185135188457358862:=()
def tw4056487894830050709:=()
def tw1295128997061037907:=()
def tw3481161014085688700:=()
def tw10251325642940213831:=()
def tw8601524470382490703:=()
def tw5543202414129809607:=()
def tw14285310943420496212:=()
end PySem.W.Fast
open PySem PySem.W PyProof.Rows
set_option maxRecDepth 100000 in
set_option maxHeartbeats 0 in
theorem PySem.Challenge.cw_threewebs_k41_doubles_by_walkers_holds : PySem.Challenge.rw_threewebs_k41_doubles_by_walkers.Holds := by
 w_on;o_law;k_head;(case hw=>w_witness2)
 k_fill
 refine Q1.walk (l:=PySem.Challenge.rw_threewebs_k41_doubles_by_walkers) rfl rfl (λw h ý=>PySem.W.kIn_of ý) ?F
 case F=>
  intro w mg fa h KX G uZ;refine' Q1.all_mk KX G uZ ?h1 ?h2 ?h3 ?h4 ?h5 ?h6 ?h7 ?h8 ?h9 ?Ov ?DJ ?Ow ?CM ?Ox ?Oy ?Oz ?OA ?OB ?OC ?OG ?OH ?OI ?x6 ?OL ?OM ?OO ?OQ ?OS ?OT ?OU ?OV ?OW ?OX ?OY ?OZ ?O0 ?O1 ?O2 ?O3 ?O4 ?h0 ?qc ?zz
  case h1 | h2 | h3 | h4 | h5 | h6 | h7 | h8 | h9 | Ov | DJ | Ow | CM | Ox | Oy | Oz | OA | OB | OC | OG | OH | OI | x6 | OL | OM | OO | OQ | OS | OT | OU | OV | OW | OX | OY | OZ | O0 | O1 | O2 | O3 | O4 | h0=>refine' L2.vA ?a ?l ?c ?k;(case a=>k_is);(case l=>k_is);(case c=>k_is);(case k=>k_is)
  case qc=>kernel_rfl
  case zz=>
   refine' List.forall_mem_cons.mpr ⟨?_,?_⟩;k_is
   iterate 16 (refine' List.forall_mem_cons.mpr ⟨?_,?_⟩;k_is)
   exact λx hx=>nomatch hx


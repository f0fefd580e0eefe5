import PyProof.Rows.All
import Wide.All
import OpenK.AllK
import Wide.FinOn
import Lean
import PyProof.EqAt
import PyProof.EqKinds
import PyProof.TupleCall
import KE.KDictLaws
import KE.KDictList
import KE.KDictSum
import KE.KIsAll
import KE.KSortTup
import KE.KUnpack
import KE.KUnpackStar
import PyProof.AttrMissSeq
import PyProof.CallStr
import PyProof.Conv_int_bool
import PyProof.DictItems
import PyProof.DictIter
import PyProof.DictList
import PyProof.EnumFor
import PyProof.EnumMake
import PyProof.EnumStmt
import PyProof.ExcArgsOwn
import PyProof.ExcAttrAll.ValueError
import PyProof.ExcBaseAll.ValueError
import PyProof.FitsInt
import PyProof.NeKinds
import PyProof.NsDelKeeps
import PyProof.Rows.CatchOwn
import PyProof.Rows.CountFlat
import PyProof.Rows.EnumRows
import PyProof.Rows.FStr
import PyProof.Rows.SeqMore
import PyProof.Rows.SortRev
import PyProof.Rows.StrSplitJoin
import PyProof.Rows.StrWeight2
import PyProof.Rows.TupDisplay
import PyProof.RulesTry
import PyProof.SetNew
import PyProof.SetRoads
import PyProof.StationsW
import PyProof.TupleKey
import PyProof.WalkInts
import PyProof.ZipIter
import PySem.Challenge.RW_threewebs_k54_kinds_of_the_other_net
open List(range Perm replicate)
abbrev aa:=PySem.W.Frag
abbrev ba{α}(p w A):=PySem.wpAny (α:=α) (PySem.model p w) A
local macro_rules|`(tactic|omega)=>`(tactic|first|lia|omega +splitDisjunctions)
abbrev Í:=PySem.Value->PySem.Shared->Prop
abbrev Î:=List (PySem.Addr×PySem.Addr)
abbrev Ï:=List (PySem.Addr×PySem.Obj)
abbrev Ð:=List PySem.Str
abbrev Ñ:=PySem.Str->Option PySem.Value
abbrev Ò:=List PySem.Value
abbrev Ó:=List PySem.Expr
abbrev Ô:=List PySem.Stmt
abbrev BJ:=@PySem.wpAny_bind
abbrev BK:=@PySem.wpAny_pure
abbrev BL:=@if_neg
abbrev BP:=@if_pos
abbrev BR:=@decide_eq_false
abbrev BW:=@decide_eq_true
abbrev BX:=@of_decide_eq_true
abbrev BZ:=@congrArg
abbrev CG:=@PySem.wpAny_setState_of
abbrev CJ:=@PySem.wpAny_holding
abbrev CK:=@Ne.symm
abbrev CN:=@decide_eq_true_iff
abbrev CP:=@if_false
abbrev CQ:=@Classical.byContradiction
abbrev CT:=@PySem.Heap.SameBut.update
abbrev CV:=@PySem.W.mg_none_of
abbrev CW:=@PySem.wpAny_mono
abbrev CZ:=@if_true
abbrev DG:=@PySem.wpAny_call_entry
abbrev DK:=@PySem.mem_of_lookup
abbrev DN:=@PySem.wpAny_newObj_type
abbrev DQ:=@decide_eq_true_eq
abbrev DR:=@PyProof.Rows.boot_sorted
abbrev DW:=@PySem.wpAny_setField
abbrev DX:=@PySem.sizeLine_eq
abbrev DY:=@PySem.boot_len
abbrev EY:=@PySem.wpAny_truthy_bool
abbrev FJ:=@PySem.W.kia_one
abbrev FN:=@PySem.F.plainAttrs_list
abbrev FP:=@PySem.Around.under_plainId
abbrev FQ:=@PySem.wpAny_storeSet_of
abbrev FT:=@PySem.codeAny_builtin
abbrev FW:=@PySem.tupleKind_room_in1
abbrev FZ:=@beq_self_eq_true
abbrev GJ:=@PyProof.Rows.wpS_bind
abbrev GQ:=@or_false
abbrev GX:=@PySem.wpAny_standAt
abbrev GZ:=@decide_eq_false_iff_not
abbrev HD:=@bne_self_eq_false
abbrev HJ:=@Prod.ext
abbrev HN:=@PySem.wpAny_typeNameOfWhole_itemiter
abbrev HS:=@PySem.F.slot_dict_itemiterator_next
abbrev HW:=@PySem.Calls.callWith_builtin
abbrev HX:=@PySem.wpAny_rule
abbrev HY:=@beq_iff_eq
abbrev IK:=@PyProof.Rows.callWith_type1
abbrev IV:=@PyProof.Rows.F.plain_set_update_loop
abbrev IW:=@of_decide_eq_false
abbrev JB:=@PySem.wpAny_passesOwn
abbrev JC:=@PySem.wpAny_typeNameOf_itemiter
abbrev JD:=@PySem.F.slot_set_contains
abbrev JF:=@PySem.wpAny_of_eq
abbrev JG:=@PySem.wpAny_callSpecial?_slot
abbrev JH:=@PySem.plainId_quiet
abbrev JK:=@PySem.wpAny_setField_rec
abbrev JL:=@PySem.W.cellsFrom_some
abbrev JM:=@PyProof.Rows.wpS_pure
abbrev JN:=@PySem.wpAny_field
abbrev JQ:=@PySem.codeAny_mono
abbrev JR:=@PySem.wpAny_typeOf
abbrev JT:=@PyProof.Rows.boot_set
abbrev JV:=@PyProof.Rows.boot_isinstance
abbrev JW:=@PySem.Calls.evalArgs_plain
abbrev JX:=@PySem.wpAny_askSetting
abbrev JZ:=@PySem.wpAny_isInstance
abbrev KC:=@PySem.wpAny_newList
abbrev KD:=@PySem.wpAny_setEntries_of
abbrev KH:=@PySem.wpAny_specialOf
abbrev KJ:=@PySem.codeAny_of_tree
abbrev KN:=@PySem.W.KasT.kasWp_bind
abbrev KQ:=@PySem.wpAny_Call_Name_kw
abbrev KR:=@PySem.wpAny_comprehension_free
abbrev KY:=@PyProof.Rows.F.entry_set_update_loop
abbrev KZ:=@PySem.wpAny_seqItems
abbrev LC:=@PySem.wpAny_setEpoch_of
abbrev LK:=@PySem.wpAny_pyIter_slot
abbrev LQ:=@Bool.not_eq_true'
abbrev LR:=@PySem.wpAny_Call_method_late
abbrev MF:=@PySem.wpAny_isOneOf_itemiter
abbrev MJ:=@PySem.wpAny_callSpecialUnlessNone?_slot
abbrev MK:=@List.eraseIdx_append_of_lt_length
abbrev MN:=@PyProof.Rows.boot_list
abbrev MP:=@PySem.W.mg_of
abbrev NK:=@PySem.wpAny_attempt
abbrev NQ:=@PyProof.Rows.listUpdate_at
abbrev NZ:=@PySem.wpAny_forIn_list
abbrev OD:=@List.Perm.append_left
abbrev OJ:=@PySem.builtinLookup_eq_fast
abbrev PB:=@PySem.Obj.isFreed_of_fields
abbrev PJ:=@List.eraseIdxIfInBounds_toArray
abbrev PK:=@PySem.F.args_dict_itemiterator_next_1
abbrev PL:=@PySem.call_meets
abbrev PN:=@PySem.PassesOwn.never
abbrev PX:=@PySem.strKind_is
abbrev QB:=@PyProof.Rows.listItems_at
abbrev QC:=@PyProof.Rows.wpS_forRange
abbrev QD:=@PySem.F.entry_dict_itemiterator_next
abbrev QF:=@PySem.F.slot_dict_itemiterator_iter
abbrev QG:=@PySem.entryFor_alias
abbrev QJ:=@PySem.wpAny_fieldsOf
abbrev QK:=@PySem.wpAny_newTuple
abbrev QL:=@PySem.wpAny_alloc
abbrev QM:=@PyProof.Rows.seqEpoch_at
abbrev QS:=@List.lookup_append
abbrev QT:=@Nat.lt_of_le_of_lt
abbrev QV:=@PySem.MeetsSeq2.wpAny_forIn_array
abbrev QW:=@List.zipIdx_append
abbrev QX:=@PySem.F.args_set_contains_2
abbrev QZ:=@PyProof.Rows.callWith_type0
abbrev RB:=@PySem.Obj.data_mapFields
abbrev RD:=@PyProof.Rows.joinParts_cons
abbrev RG:=@Nat.mod_two_eq_zero_or_one
abbrev RJ:=@PySem.wpAny_pyIter_list
abbrev RK:=@Option.isSome_map
abbrev RL:=@List.Pairwise.map
abbrev RM:=@PySem.wpAny_dictEntries
abbrev RN:=@Eq.symm
abbrev RP:=@List.ext_getElem
abbrev RQ:=@Nat.sub_self
abbrev RT:=@PySem.F.slot_list_insert
abbrev RV:=@PySem.F.type_list_insert
abbrev RW:=@List.eraseIdx_cons_succ
abbrev RX:=@List.getElem?_cons_zero
abbrev RZ:=@List.filter_cons_of_pos
abbrev SJ:=@PyProof.Rows.boot_tuple
abbrev SM:=@PySem.wpAny_execs_nil
abbrev SQ:=@List.of_mem_zip
abbrev SX:=@PySem.typeLookup_type
abbrev TF:=@PySem.wpAny_dictEpoch
abbrev TJ:=@List.getElem?_set_self
abbrev TQ:=@Array.toList_filterMap
abbrev TV:=@List.drop_of_length_le
abbrev TX:=@PySem.F.plainAttrs_set
abbrev TY:=@List.Perm.append_right
abbrev UG:=@List.getElem?_toArray
abbrev UJ:=@PyProof.Rows.boot_int
abbrev UL:=@PySem.F.plain_set_new
abbrev UW:=@Iff.rfl
abbrev VB:=@PyProof.Rows.boot_max
abbrev VD:=@PySem.F.slot_list_pop
abbrev VF:=@PySem.F.type_list_pop
abbrev VG:=@List.take_zero
abbrev VH:=@PySem.ofString_length
abbrev VJ:=@Bool.and_true
abbrev VL:=@Nat.lt_trans
abbrev VN:=@Nat.add_zero
abbrev VP:=@Nat.sub_zero
def Z0:0<=PySem.sizeLine:=(by decide)
def Z2:2<=PySem.sizeLine:=(by decide)
def Z1:1<=PySem.sizeLine:=(by decide)
set_option Elab.async false
set_option linter.all false
set_option maxRecDepth 100000
set_option maxHeartbeats 4000000
abbrev Aa:=@List.length_map
abbrev Ab:=@List.getElem?_eq_getElem
abbrev Ac:=@List.getElem?_eq_some_iff
abbrev Ad:=@List.mem_singleton
abbrev Ae:=@List.mem_cons_self
abbrev Af:=@List.mem_cons_of_mem
abbrev Ag:=@List.length_append
abbrev Ah:=@List.getElem?_map
abbrev Ai:=@List.mem_cons
abbrev Aj:=@PySem.Heap.get?_push_of_some
abbrev Ak:=@List.mem_map
abbrev Al:=@List.map_append
abbrev Am:=@List.mem_append
abbrev An:=@Nat.le_refl
abbrev Ao:=@List.mem_of_getElem?
abbrev Ap:=@List.map_congr_left
abbrev Aq:=@Bool.false_eq_true
abbrev Ar:=@List.append_assoc
abbrev As:=@List.length_cons
abbrev At:=@PySem.Heap.get?_push_size
abbrev Au:=@List.mem_append_right
abbrev Av:=@PySem.Heap.lt_size
abbrev Aw:=@Bool.false_ne_true
abbrev Ax:=@List.getElem?_append_left
abbrev Ay:=@List.size_toArray
abbrev Az:=@Option.map_eq_some_iff
abbrev Ba:=@List.map_cons
abbrev Bb:=@List.mem_append_left
abbrev Bc:=@List.pairwise_iff_getElem
abbrev Bd:=@List.getElem?_append_right
abbrev Be:=@List.getElem?_of_mem
abbrev Bf:=@List.mem_filter
abbrev Bg:=@List.getElem?_eq_none
abbrev Bh:=@List.nodup_cons
abbrev Bj:=@Array.getElem?_toList
abbrev Bk:=@Int.toNat_natCast
abbrev Bm:=@List.contains_iff_mem
abbrev Bo:=@List.mem_range
abbrev Bp:=@List.append_nil
abbrev Bq:=@Nat.lt_of_lt_of_le
abbrev Br:=@List.length_take
abbrev Bs:=@List.map_map
abbrev Bt:=@List.getElem_mem
abbrev Bu:=@Array.length_toList
abbrev Bv:=@List.length_eq_zero_iff
abbrev Bw:=@Nat.ne_of_lt
abbrev Bx:=@Nat.zero_le
abbrev By:=@List.nodup_iff_pairwise_ne
abbrev Bz:=@Nat.mod_eq_of_lt
abbrev Ca:=@List.take_length
abbrev Cb:=@Bool.and_eq_true
abbrev Cc:=@List.not_mem_nil
abbrev Cd:=@List.nodup_nil
abbrev Ce:=@Array.getElem?_eq_getElem
abbrev Cf:=@Bool.eq_iff_iff
abbrev Cg:=@Int.emod_nonneg
abbrev Ch:=@Nat.le_trans
abbrev Ci:=@Nat.lt_succ_of_lt
abbrev Cj:=@List.take_add_one
abbrev Ck:=@List.mem_iff_getElem
abbrev Cm:=@PySem.Heap.get?_update_other
abbrev Cn:=@Int.emod_lt_of_pos
abbrev Co:=@List.nodup_append
abbrev Cp:=@List.flatMap_cons
abbrev Cq:=@List.perm_append_comm
abbrev Cr:=@List.flatten_cons
abbrev Cs:=@List.take_of_length_le
abbrev Ct:=@List.pairwise_cons
abbrev Cu:=@List.length_pos_iff
abbrev Cv:=@List.filter_append
abbrev Cw:=@List.take_append_drop
abbrev Cy:=@Nat.le_of_lt
abbrev Cz:=@Nat.ne_of_gt
abbrev Da:=@Nat.lt_or_ge
abbrev Db:=@Array.getD_eq_getD_getElem?
abbrev Dc:=@List.length_singleton
abbrev Dd:=@PySem.Heap.get?_update_self
abbrev De:=@Nat.lt_irrefl
abbrev Dg:=@List.length_eraseIdx
abbrev Dh:=@List.foldl_cons
abbrev Di:=@PySem.Heap.size_push
abbrev Dj:=@Nat.not_lt_zero
abbrev Dk:=@List.range_succ
abbrev Dl:=@List.count_cons
abbrev Dm:=@Bool.not_true
abbrev Do:=@List.filter_cons
abbrev Dp:=@List.flatMap_append
abbrev Dq:=@List.length_range
abbrev Dr:=@List.pairwise_map
abbrev Ds:=@List.count_pos_iff
abbrev Du:=@List.length_drop
abbrev Dv:=@Array.getElem?_eq_none
abbrev Dw:=@List.mem_flatten
abbrev Dx:=@List.getElem?_range
abbrev Dy:=@List.ext_getElem?
abbrev Dz:=@List.length_filter_le
abbrev Eb:=@List.getElem?_take_of_lt
abbrev Ec:=@List.lookup_cons
abbrev Ed:=@List.getElem_map
abbrev Ee:=@List.getElem?_cons_succ
abbrev Ef:=@Nat.mod_self
abbrev Eh:=@List.filterMap_cons
abbrev Ej:=@List.all_eq_true
abbrev Ek:=@Int.zero_add
abbrev El:=@Bool.eq_false_iff
abbrev Em:=@Nat.lt_trichotomy
abbrev Ep:=@Bool.and_false
abbrev Er:=@List.length_nil
abbrev Es:=@Nat.le_succ
abbrev Eu:=@Nat.le_of_succ_le
abbrev Ex:=@Nat.zero_add
abbrev Ey:=@Nat.succ_pos
abbrev Ez:=@List.count_append
abbrev Fa:=@Option.isSome_iff_exists
abbrev Fb:=@List.mem_of_mem_eraseIdx
abbrev Fc:=@List.getElem?_replicate
abbrev Fd:=@List.isEmpty_nil
abbrev Fe:=@Option.getD_some
abbrev Ff:=@Nat.one_pos
abbrev Fg:=@List.count_eq_zero_of_not_mem
abbrev Fh:=@List.find?_eq_none
abbrev Fi:=@List.getElem_range
abbrev Fj:=@List.append_of_mem
abbrev Fk:=@List.append_eq_nil_iff
abbrev Fm:=@List.find?_cons
abbrev Fn:=@Array.getElem?_setIfInBounds
abbrev Fo:=@Bool.and_comm
abbrev Fp:=@List.length_replicate
abbrev Fq:=@List.mem_zipIdx_iff_le_and_getElem?_sub
abbrev Fr:=@List.perm_ext_iff_of_nodup
abbrev Ft:=@List.mem_erase_of_ne
abbrev Fu:=@List.getElem?_modify
abbrev Fv:=@List.pairwise_append
abbrev Fw:=@Bool.false_xor
abbrev Fx:=@Bool.xor_false
abbrev Fy:=@Array.getElem?_eq_some_iff
abbrev Fz:=@List.cons_append
abbrev Ga:=@List.nodup_range
abbrev Gb:=@List.mem_flatMap
abbrev Gc:=@List.exists_mem_of_ne_nil
abbrev Gd:=@List.drop_eq_getElem_cons
abbrev Ge:=@List.flatten_append
abbrev Gf:=@List.any_cons
abbrev Gg:=@Array.getElem?_replicate
abbrev Gh:=@Bool.true_and
abbrev Gi:=@List.length_erase_of_mem
abbrev Gj:=@List.sum_cons
abbrev Gk:=@List.mem_filterMap
abbrev Gm:=@Nat.mod_lt
abbrev Gn:=@List.getElem?_drop
abbrev Go:=@Nat.lt_of_le_of_ne
abbrev Gp:=@List.pairwise_singleton
abbrev Gq:=@Bool.false_and
abbrev Gr:=@Bool.not_false
abbrev Gs:=@List.length_pos_of_mem
abbrev Gu:=@List.getElem?_eraseIdx
abbrev Gv:=@List.lt_irrefl
abbrev Gw:=@List.filter_eq_nil_iff
abbrev Gx:=@Nat.zero_lt_of_lt
abbrev Gy:=@List.getElem_inj
abbrev Gz:=@Nat.lt_succ_self
abbrev Hc:=@List.lt_trans
abbrev He:=@PySem.Heap.get?_push_cases
abbrev Hf:=@List.le_iff_lt_or_eq
abbrev Hg:=@List.nodup_iff_count
abbrev Hh:=@Option.map_some
abbrev Hi:=@List.forIn_cons
abbrev Hj:=@List.find?_some
abbrev Hk:=@List.nil_append
abbrev Hl:=@List.filter_sublist
abbrev Hm:=@List.all_cons
abbrev Hn:=@List.map_take
abbrev Ho:=@List.map_drop
namespace L2
open PySem PySem.Spec PyProof.Rows
abbrev Key:=Sum Int Str
def sQ:Key->Value->Bool
 |.inl k,v=>Value.isInt k v
 |.inr x,v=>Value.isStrOf x v
def DM(w:World):Key->Int
 |.inl k=>hashInt k
 |.inr x=>hashStr w x
theorem lR:∀{k}{v},sQ k v=true->(∃i t,k=Sum.inl i/\v=Value.int i t)\/(∃x t,k=Sum.inr x/\v=Value.str x t)
 |.inl i,v,h=>by
  obtain⟨t,e⟩:=Value.isInt_shape h;exact .inl ⟨i,t,rfl,e⟩
 |.inr x,v,h=>by
  obtain⟨t,e⟩:=Value.isStrOf_shape h;exact .inr ⟨x,t,rfl,e⟩
def XA(i:Int)(t:Tok):sQ (.inl i) (.int i t)=true:=by simp[sQ,Value.isInt]
def XB(x:Str)(t:Tok):sQ (.inr x) (.str x t)=true:=by simp[sQ,Value.isStrOf]
def XD(a b:Int):decide ((Sum.inl a:Key)=Sum.inl b)=(a == b):=by
 by_cases e:a=b
 ·subst e;simp
 ·have h:¬(Sum.inl a:Key)=Sum.inl b:=λq=>e<|Sum.inl.inj q;rw[BR h];exact(beq_eq_false_iff_ne.mpr e).symm
def XE(a b:Str):decide ((Sum.inr a:Key)=Sum.inr b)=decide (a=b):=by
 by_cases e:a=b
 ·subst e;simp
 ·have h:¬(Sum.inr a:Key)=Sum.inr b:=λq=>e<|Sum.inr.inj q;rw[BR h,BR e]
def XG(a:Int)(b:Str):decide ((Sum.inl a:Key)=Sum.inr b)=false:=BR λq=>nomatch q
def XH(a:Str)(b:Int):decide ((Sum.inr a:Key)=Sum.inl b)=false:=BR λq=>nomatch q
def bX(U:Program)(w:World):PySem.KeyKind U w Key where
 is:=sQ
 hash:=DM w
 inj:=λv a b ha hb=>by
  obtain⟨i,t,rfl,rfl⟩|⟨x,t,rfl,rfl⟩:=lR ha
  ·obtain⟨j,u,rfl,e⟩|⟨y,u,rfl,e⟩:=lR hb
   ·injection e with e1 _;rw[e1]
   ·exact nomatch e
  ·obtain⟨j,u,rfl,e⟩|⟨y,u,rfl,e⟩:=lR hb
   ·exact nomatch e
   ·injection e with e1 _;rw[e1]
 byValue:=λk v h=>by
  obtain⟨i,t,rfl,rfl⟩|⟨x,t,rfl,rfl⟩:=lR h<;>rfl
 pyHash:=λhv h=>by
  obtain⟨i,t,rfl,rfl⟩|⟨x,t,rfl,rfl⟩:=lR hv
  ·exact wpAny_pyHash_int h
  ·exact wpAny_pyHash_str h
 eqBool:=λhu hv h=>by
  obtain⟨i,t,rfl,rfl⟩|⟨x,t,rfl,rfl⟩:=lR hu
  ·obtain⟨j,u,rfl,rfl⟩|⟨y,u,rfl,rfl⟩:=lR hv
   ·rw[XD]at h;exact wpAny_eqBool_int h
   ·rw[XG]at h;exact SeqAt.EqAt.int_str i t y u _ _ _ _ h
  ·obtain⟨j,u,rfl,rfl⟩|⟨y,u,rfl,rfl⟩:=lR hv
   ·rw[XH]at h;exact SeqAt.EqAt.str_int x t j u _ _ _ _ h
   ·rw[XE]at h;exact wpAny_eqBool_str h
 «strs»:=λk x t v h=>by
  obtain⟨i,u,rfl,e⟩|⟨y,u,rfl,e⟩:=lR h
  ·exact nomatch e
  ·injection e with e1 _
   subst e1;cases v<;>rfl
def XI(U:Program)(w:World)(i:Int)(t:Tok):(bX U w).is (.inl i) (.int i t)=true:=XA i t
def XJ(U:Program)(w:World)(x:Str)(t:Tok):(bX U w).is (.inr x) (.str x t)=true:=XB x t
inductive V where
 |non|bl (b:Bool)|int (i:Int)|str (x:Str)|jy (b:Array UInt8)|sR (b:UInt64)|ref (a:Addr)|ty (n:String)
 deriving DecidableEq
def cc:V->Value->Prop
 |.non,u=>u=Value.none
 |.bl b,u=>u=Value.bool b
 |.int i,u=>∃t,u=Value.int i t
 |.str x,u=>∃t,u=Value.str x t
 |.jy b,u=>∃t,u=Value.bytes b t
 |.sR b,u=>∃t,u=Value.float b t
 |.ref a,u=>u=Value.ref a
 |.ty n,u=>u=Value.type n
abbrev ay:List V->Ò->Prop:=Paired cc
def ay.length{xs:List V}{a:Ò}(r:ay xs a):xs.length=a.length:=Paired.length r
theorem ay.get:∀{xs:List V}{a:Ò}{i:Nat}{x:V},ay xs a->xs[i]?=some x->∃u,a[i]?=some u/\cc x u
 |_,_,_,_,.nil,e=>by simp at e
 |_,_,0,_,.cons r _,e=>by simp at e;subst e;exact⟨_,rfl,r⟩
 |_,_,i+1,x,.cons _ t,e=>by
  obtain⟨u,b,c⟩:=ay.get t (by simpa using e);exact⟨u,(by simpa using b),c⟩
theorem ay.set{x:V}{u:Value}(r:cc x u):∀{xs}{a}i,ay xs a->ay (xs.set i x) (a.set i u)
 |_,_,_,.nil=> .nil
 |_,_,0,.cons _ t=> .cons r t
 |_,_,i+1,.cons q t=> .cons q<|ay.set r i t
theorem ay.append:∀{xs ys}{a b},ay xs a->ay ys b->ay (xs++ys) (a++b)
 |_,_,_,_,.nil,s=>s
 |_,_,_,_,.cons r t,s=> .cons r<|ay.append t s
theorem ay.take:∀{xs}{a}n,ay xs a->ay (xs.take n) (a.take n)
 |_,_,0,_=> .nil
 |_,_,_+1,.nil=> .nil
 |_,_,n+1,.cons r t=> .cons r<|ay.take n t
theorem ay.drop:∀{xs}{a}n,ay xs a->ay (xs.drop n) (a.drop n)
 |_,_,0,r=>r
 |_,_,_+1,.nil=> .nil
 |_,_,n+1,.cons _ t=>ay.drop n t
def d3:Option V->Option Value->Prop
 |some v,some u=>cc v u
 |none,none=>True
 |_,_=>False
def KV{κ:Type}:List (κ×V)->List (κ×Value)->Prop:=Paired λp q=>p.1=q.1/\cc p.2 q.2
def kV:Key->V
 |.inl i=> .int i
 |.inr x=> .str x
inductive HO where
 |lst (xs:List V)
 |tup (xs:List V)
 |dK (Y:List<|Key×V)|dT (Y:List<|List Key×V)
 |set (S:Int->Bool) (n:Nat)
 |ins (C dx:Addr) (fs:List<|Str×V)
 |own (x:Addr)
 |xd (fs:List<|Str×V)
 |met (f x:Addr)
 |yL (lo hi:Int)
 |b7 (o:Obj) (u:HO)
 |oz (ps:Array Value)
 |ext (φ:Heap->Prop)
abbrev Hp:=Addr->Option HO
def upd(H:Hp)(a:Addr)(o:HO):Hp:=λb=>if b=a then some o else H b
variable{a:Addr}{H:Hp}
def az{o:HO}:upd H a o a=some o:=by unfold upd;rw[BP rfl]
variable{b:Addr}
def aw{o:HO}(h:b≠a):upd H a o b=H b:=by unfold upd;rw[BL h]
def uN{o u:HO}:upd (upd H a o) a u=upd H a u:=by
 funext b;unfold upd;split<;>rfl
def cf{o u:HO}(h:H a=some o)(h':H b=some u)(d:o≠u):a≠b:=by
 intro e;subst e;rw[h]at h';exact d<|Option.some.inj h'
def bz{o:HO}(h:H a=some o)(h':H b=none):a≠b:=by
 intro e;subst e;rw[h]at h';cases h'
section
variable(P:Program)(w:World)
def aB(H:Hp)(h:Heap)(a:Addr):HO->Prop
 |.lst b=>b.length<=sizeLine/\∃d n,ay b d/\h.get? a=some {cls:= .type "list",data:= .seq d.toArray n}
 |.tup b=>b.length<=sizeLine/\∃d:Ò,ay b d/\IsTup h a d.toArray
 |.dK Y=>Y.length<=sizeLine/\(a == sysModules)=false/\∃k,KV Y k/\h.DictOf (bX P w) a k
 |.dT Y=>Y.length<=sizeLine/\(a == sysModules)=false/\∃b:List<|List Key×Addr×Value,
   Paired (λp q=>p.1=q.1/\H q.2.1=some (.tup<|p.1.map kV)/\cc p.2 q.2.2) Y b /\
   ∃o l s,h.get? a=some o/\o.ExactDict/\o.data=.dict l s/\l.toList=b.map (entryOfKey<|tupleKind<|bX P w)/\(b.map (·.1)).Nodup
 |.set S n=>h.SetOf (intKind P w) a S n
 |.ins C i e=>H i=some (.own a)/\e.length<=1000/\i≠a/\h.get? a=some (PySem.W.instObj C i) /\
   ∃c,h.Ns1 i c/\(∀f,d3 (e.lookup f)<|c f)/\PySem.Within c (e.map (·.1))
 |.own _=>∃o,h.get? a=some o
 |.xd e=>∃c,h.Ns1 a c/\∀f,d3 (e.lookup f)<|c f
 |.yL lo y=>∃t u v,h.get? a=some {cls:= .type "range",data:= .fields #[.int lo t,.int y u,.int 1 v]}
 |.b7 o u=>h.get? a=some o/\aB H h a u
 |.oz z=>h.get? a=some {cls:= .none,data:= .fields z}
 |.met f x=>h.get? a=some (PySem.W.methodObj (.ref f)<|.ref x)
 |.ext j=>j h/\(∃o,h.get? a=some o)/\∀m r:Heap,j m->(∀o,m.get? a=some o->r.get? a=some o)->j r
def cn(H:Hp)(h:Heap):Prop:=∀a o,H a=some o->aB P w H h a o
end
variable{h h':Heap}{H':Hp}{w:World}{P:Program}
section
variable{o:HO}
theorem aB.lt(x:aB P w H h a o):a<h.objs.size:=by
 cases o with
 |lst b=>obtain⟨_,_,_,_,e⟩:=x;exact Av e
 |tup b=>obtain⟨_,_,_,p⟩:=x;exact p.lt
 |dK Y=>obtain⟨_,_,_,_,o,_,_,e,_⟩:=x;exact Av e
 |dT Y=>obtain⟨_,_,_,_,o,_,_,e,_⟩:=x;exact Av e
 |set S n=>obtain⟨o,_,_,_,e,_⟩:=x;exact Av e
 |ins C d c=>obtain⟨_,_,_,e,_⟩:=x;exact Av e
 |own y=>obtain⟨_,e⟩:=x;exact Av e
 |xd c=>obtain⟨_,⟨_,_,_,e,_⟩,_⟩:=x;exact Av e
 |yL lo i=>obtain⟨_,_,_,e⟩:=x;exact Av e
 |b7 j u=>obtain⟨e,_⟩:=x;exact Av e
 |oz k=>exact Av (show h.get? a=some _ from x)
 |met f y=>exact Av (show h.get? a=some _ from x)
 |ext l=>obtain⟨_,⟨_,e⟩,_⟩:=x;exact Av e
theorem Paired.pU{α d:Type}{F G:α->d->Prop}:∀{l₁}{c},Paired F l₁ c->(∀a b,F a b->G a b)->Paired G l₁ c
 |_,_,.nil,_=> .nil
 |_,_,.cons r t,f=> .cons (f _ _ r)<|Paired.pU t f
theorem aB.iE(x:aB P w H h a o)(k:∀b u,(b=a\/H b=some (.own a))->h.get? b=some u->h'.get? b=some u)
  (B:∀b,H b=some (.own a)->H' b=some (.own a)) (D:∀b xs,H b=some (.tup xs)->H' b=some (.tup xs)):aB P w H' h' a o:=by
 induction o with
 |lst xs=>obtain⟨z,m,n,r,e⟩:=x;exact⟨z,m,n,r,k _ _ (.inl rfl) e⟩
 |tup xs=>obtain⟨z,m,r,i,e,c⟩:=x;exact⟨z,m,r,i,k _ _ (.inl rfl) e,c⟩
 |dK Y=>obtain⟨z,y,E,r,i,j,l,e,c⟩:=x;exact⟨z,y,E,r,i,j,l,k _ _ (.inl rfl) e,c⟩
 |dT Y=>
  obtain⟨z,y,xs,r,i,j,l,e,c⟩:=x;exact⟨z,y,xs,Paired.pU r λp q z=>⟨z.1,D _ _ z.2.1,z.2.2⟩,i,j,l,k _ _ (.inl rfl) e,c⟩
 |set S n=>obtain⟨i,j,l,t,e,c⟩:=x;exact⟨i,j,l,t,k _ _ (.inl rfl) e,c⟩
 |ins C M G=>
  obtain⟨d,z,ne,e,s,⟨A,j,l,I,c⟩,r⟩:=x;exact⟨B _ d,z,ne,k _ _ (.inl rfl) e,s,⟨A,j,l,k _ _ (.inr d) I,c⟩,r⟩
 |own y=>obtain⟨i,e⟩:=x;exact⟨i,k _ _ (.inl rfl) e⟩
 |xd G=>obtain⟨s,⟨A,j,l,e,c⟩,r⟩:=x;exact⟨s,⟨A,j,l,k _ _ (.inl rfl) e,c⟩,r⟩
 |yL lo N=>obtain⟨t,u,v,e⟩:=x;exact⟨t,u,v,k _ _ (.inl rfl) e⟩
 |b7 i u J=>obtain⟨e,q⟩:=x;exact⟨k _ _ (.inl rfl) e,J q⟩
 |oz L=>
  have e:=x;show h'.get? a=some {cls:= .none,data:= .fields L};exact k a _ (.inl rfl) e
 |met f y=>
  have e:=x;show h'.get? a=some (PySem.W.methodObj (.ref f)<|.ref y);exact k a _ (.inl rfl) e
 |ext O=>obtain⟨p,⟨o,e⟩,st⟩:=x;exact⟨st _ _ p λo q=>k _ _ (.inl rfl) q,⟨o,k _ _ (.inl rfl) e⟩,st⟩
def cn.lt(x:cn P w H h)(e:H a=some o):a<h.objs.size:=(x a o e).lt
theorem cn.fresh(x:cn P w H h)(e:h.objs.size<=a):H a=none:=by
 cases q:H a with
 |none=>rfl
 |some u=>exact absurd (Bq (x.lt q) e)<|De _
def cn.kept(x:cn P w H h)(k:∀b u,h.get? b=some u->h'.get? b=some u):cn P w H h':=λa o e=>
 (x a o e).iE (λb u _ q=>k b u q) (λ_ q=>q) λ_ _ q=>q
def cn.laid(x:cn P w H h)(k:∀b u,h.get? b=some u->h'.get? b=some u)(i:h.objs.size<=a)(new:aB P w (upd H a o) h' a o):cn P w (upd H a o) h':=λb u e=>by
 have d:=x.fresh i
 by_cases f:b=a
 ·subst f;rw[az]at e;cases e;exact new
 ·rw[aw f]at e;exact(x b u e).iE (λc v _ q=>k c v q) (λc q=>by rwa[aw<|bz q d]) λc j q=>by rwa[aw<|bz q d]
end
def Rd(H:Hp)(a:Addr)(u:HO):Prop:=H a=some u\/∃o,H a=some (.b7 o u)
def Rd.ok{u:HO}(r:Rd H a u)(x:cn P w H h):aB P w H h a u:=by
 obtain r|⟨o,r⟩:=r
 ·exact x a u r
 ·obtain⟨_,q⟩:=x a _ r;exact q
def uO:Option HO->Prop
 |some (.lst _)=>True
 |some (.dK _)=>True
 |some (.dT _)=>True
 |some (.set _ _)=>True
 |some (.ins _ _ _)=>True
 |some (.ext _)=>True
 |_=>False
section
variable{x e:Addr}{o':HO}
def cn.write(ok:cn P w H h)(j:uO<|H x)(l:e=x\/H e=some (.own x))(k:∀b u,b≠e->h.get? b=some u->h'.get? b=some u)(o:∃u,h'.get? e=some u)
  (new:aB P w (upd H x o') h' x o'):cn P w (upd H x o') h':=λb u q=>by
 have m:∀c y,H c=some (.own y)->c≠x:=λc y r z=>by subst z;rwa[r]at j
 have p:∀c a,H c=some (.tup a)->c≠x:=λc a r z=>by subst z;rwa[r]at j
 by_cases d:b=x
 ·subst d;rw[az]at q;cases q;exact new
 ·rw[aw d]at q
  by_cases f:b=e
  ·have n:H b=some (.own x):=by
    obtain z|z:=l
    ·exact absurd (f.trans z) d
    ·rwa[f]
   rw[q]at n;cases n;obtain⟨v,s⟩:=o;exact⟨v,by rwa[f]⟩
  ·refine(ok b u q).iE (λc v i r=>k c v ?_ r) (λc r=>by rwa[aw<|m c b r]) λc a r=>by rwa[aw<|p c a r]
   obtain rfl|i:=i
   ·exact f
   ·rintro rfl
    obtain z|z:=l
    ·exact m c b i z
    ·rw[i]at z;cases z;exact d rfl
end
structure Un(fs ex:(List Addr))(H H':Hp)(h h':Heap):Prop where
 keep:∀b o,h.get? b=some o->H b=none->b∉fs->b∉ex->h'.get? b=some o
 slot:∀b o,h.get? b=some o->H b=none->b∈fs->b∉ex->∃sl,h'.get? b=some {o with slots:=sl}
 free:∀b o,h.get? b=some o->H b=none->b∉ex->H' b=none
 there:∀b o,h.get? b=some o->b∉ex->∃o',h'.get? b=some o'
 fP:∀b xs,H b=some (.tup xs)->H' b=some (.tup xs)
 fc:∀b o u,H b=some (.b7 o u)->H' b=some (.b7 o u)
 fQ:∀b ps,H b=some (.oz ps)->∃more,H' b=some (.oz<|ps++more)
section
variable{fs XM ex Om:(List Addr)}{H1 H2:Hp}{h1 h2:Heap}{x e:Addr}{o:HO}
def Un.any(u:Un fs ex H H1 h h1){a:Obj}(q:h.get? b=some a)(n:H b=none)(c:b∉ex):∃e,h1.get? b=some {a with slots:=e}:=by
 by_cases d:b∈fs
 ·exact u.slot b a q n d c
 ·exact⟨a.slots,u.keep b a q n d c⟩
def Un.kept(k:∀b u,h.get? b=some u->h'.get? b=some u):Un fs ex H H h h':=
 ⟨λb a q _ _ _=>k b a q,λb a q _ _ _=>⟨a.slots,k b a q⟩,λ_ _ _ n _=>n,λb a q _=>⟨a,k b a q⟩,λ_ _ q=>q,λ_ _ _ q=>q,λ_ c q=>⟨#[],by rw[q];simp⟩⟩
def Un.refl:Un fs ex H H h h:=Un.kept λ_ _ q=>q
def Un.laid(k:∀b u,h.get? b=some u->h'.get? b=some u)(hp:h.objs.size<=a)(hn:H a=none):Un fs ex H (upd H a o) h h' where
 keep:=λb u q _ _ _=>k b u q
 slot:=λb u q _ _ _=>⟨u.slots,k b u q⟩
 free:=λb u q n _=>by rwa[aw<|Bw<|Bq (Av q) hp]
 there:=λb u q _=>⟨u,k b u q⟩
 fP:=λb xs q=>by rwa[aw<|bz q hn]
 fc:=λb u xs q=>by rwa[aw<|bz q hn]
 fQ:=λb ps q=>⟨#[],by rw[aw<|bz q hn,q];simp⟩
def Un.write(a:uO<|H x)(j:e=x\/H e=some (.own x))(k:∀b u,b≠e->h.get? b=some u->h'.get? b=some u)(l:∃u,h'.get? e=some u):Un fs ex H (upd H x o) h h':=by
 have d:∀b,H b=none->b≠x:=λb n z=>by subst z;rwa[n]at a
 have f:∀b,H b=none->b≠e:=λb n z=>by
  subst z
  obtain r|r:=j
  ·exact d b n r
  ·rw[n]at r;cases r
 have c:∀b u,H b=some u->¬ uO (some u)->b≠x:=λb u q nm z=>by subst z;rw[q]at a;exact nm a
 refine⟨λb u q n _ _=>k b u (f b n) q,λb u q n _ _=>⟨u.slots,k b u (f b n) q⟩,λb u q n _=>by rwa[aw<|d b n],λb u q _=>?_,
  λb m q=>by rwa[aw<|c b _ q λz=>z],λb u m q=>by rwa[aw<|c b _ q λz=>z],λb p q=>⟨#[],by rw[aw<|c b _ q λz=>z,q];simp⟩⟩
 by_cases i:b=e
 ·subst i;exact l
 ·exact⟨u,k b u i q⟩
end
def yM(h:Heap)(H:Hp):(List Addr):=(range h.objs.size).filter λa=>(H a).isSome
def fU(h:Heap)(H:Hp):Heap:=PySem.W.hideAll h<|yM h H
def XN(h:Heap)(H:Hp):(fU h H).objs.size=h.objs.size:=PySem.W.hideAll_size _ _
variable{o:Obj}
def XO(e:h.get? b=some o)(n:H b=none):(fU h H).get? b=some o:=
 PySem.W.hideAll_get _ e λa=>by
  have q:=(Bf.mp a).2;rw[n]at q;simp at q
theorem XQ(e:(fU h H).get? b=some o):h.get? b=some o/\H b=none:=by
 have a:=PySem.W.of_hideAll (yM h H) e;refine⟨a,?_⟩;cases q:H b with
 |none=>rfl
 |some x=>
  have c:b∈yM h H:=Bf.mpr ⟨Bo.mpr<|Av a,by simp[q]⟩;have z:(fU h H).get? b=none:=PySem.W.hideAll_none (yM h H) c;rw[z]at e;cases e
structure AR(K:aa)(mg:Ñ)(Z:Heap):Prop where
 uQ:K.In Z
 glob:Z.Ns mainGlobals mg
 blt:∃mb,Z.Ns builtinsNs mb/\∀x:Str,x ≠ "__name__"->mb x=bootBuiltins x
 nolimit:Z.NoLimit
structure Cx where
 U:Program
 w:World
 K:aa
 mg:Ñ
 Z:Heap
 A:Around
 N:Ð
 æ:Shared
 ç:Hp
 env:Env
 outer:List Env
 stack:List Env
 ex:(List Addr)
 fn:Str->Bool
 calm:Bool
 pn:List<|Addr×Obj
 xe:Í
abbrev ar{α}(X:Cx):=wpAny (α:=α) (model X.U X.w) X.A
def fe(l:List Env):(List Addr):=l.filterMap (·.frame)
abbrev Cx.fs(X:Cx):(List Addr):=fe X.outer
def DT(a:Scope)(x:Str):Prop:=a.names.lookup x=some .local\/a.names.lookup x=some .cell\/a.names.lookup x=some .free
def AL(a:Scope)(x:Str):Prop:=a.names.lookup x=some .local\/a.names.lookup x=some .cell
def BN(env:Env)(h:Heap)(m:Ñ)(x:Str)(u:Value):Prop:=
 (env.kindOf x=some .local/\m x=some u)\/((env.kindOf x=some .cell\/env.kindOf x=some .free)/\∃c,env.cells.lookup x=some c/\h.IsCell c (some u))
structure Cx.Ok(X:Cx):Prop where
 mod:AR X.K X.mg X.Z
 kind:X.env.scope.kind=.function
 glob:X.env.globals=mainGlobals
 blt:X.env.builtins=builtinsNs
 above:X.æ.heap.objs.size<=X.env.locals
 inj:∀x y c,(X.env.cells.lookup x)=some c->X.env.cells.lookup y=some c->x=y
 has:∀x,(X.env.kindOf x=some .cell\/X.env.kindOf x=some .free)->∃c,(X.env.cells.lookup x)=some c
 uR:∀x c,X.fn x=true->(X.env.cells.lookup x)=some c->X.æ.heap.objs.size<=c
 hd:X.calm=true->X.A.handled=none
 frames:X.A.frames=some X.stack
 yN:X.stack=X.outer\/(X.stack=X.env :: X.outer/\X.env.frame=some X.env.locals)
 Oo:∀b∈X.ex,b≠X.env.locals/\∀x c,(X.env.cells.lookup x)=some c->c≠b
 bs:∀b o,X.Z.get? b=some o->X.æ.heap.get? b=some o/\X.ç b=none
 oA:X.Z.objs.size<=X.æ.heap.objs.size
 kA:∀b o,X.Z.get? b=some o->b∉X.ex
 mO:∀b∈X.ex,b∉X.fs
 d6:X.æ.heap.FunFrames X.Z X.outer
 sV:∀b∈X.fs,X.ç b=none
structure be(X:Cx)(O:Ï)(σ:List<|Option V)(H:Hp)(s:Shared):Prop where
 ok:X.Ok
 os:s.os=X.æ.os
 bare:AllBare s.gens
 Z:Un X.fs X.ex X.ç H X.æ.heap s.heap
 loc:∃m,s.heap.Ns X.env.locals m/\∀(i:Nat)(x:Str)(v:V),X.N[i]?=some x->σ[i]?=some (some v)->DT X.env.scope x->∃u,cc v u/\BN X.env s.heap m x u
 cell:∀x c,(X.env.cells.lookup x)=some c->∃v,s.heap.IsCell c v
 free:H X.env.locals=none
 cD:∀x c,(X.env.cells.lookup x)=some c->H c=none
 pin:∀p∈X.pn++O,s.heap.get? p.1=some p.2/\H p.1=none/\p.1≠X.env.locals/\p.1∉X.fs/\∀v,p.2.data ≠ .cell v
 aH:cn X.U X.w H s.heap
 len:σ.length=X.N.length
variable{s s':Shared}{O oB:Ï}{X:Cx}{ch:(List Addr)}{d':Drawn}{t' i:Nat}{g':Array GenState}{x:Str}{N:Ð}{u:Value}{v:V}{E:Í}{A:Around}{M:Model}
section
variable{σ:List (Option V)}
def Cx.Ok.DU(ok:X.Ok)(e:X.Z.get? b=some o):b∉X.fs:=λa=>by
 have:=(ok.d6.mem a).1;rw[e]at this;cases this
def be.bs(I:(be X O σ H s)):∀b o,X.Z.get? b=some o->s.heap.get? b=some o/\H b=none:=λb o e=>
 ⟨I.Z.keep b o (I.ok.bs b o e).1 (I.ok.bs b o e).2 (I.ok.DU e)<|I.ok.kA b o e,I.Z.free b o (I.ok.bs b o e).1 (I.ok.bs b o e).2<|I.ok.kA b o e⟩
def be.bk(I:(be X O σ H s)):∀b o,X.Z.get? b=some o->s.heap.get? b=some o:=λb o e=>(I.bs b o e).1
def be.mod(I:(be X O σ H s)):AR X.K X.mg X.Z:=I.ok.mod
def be.gQ(I:(be X O σ H s)):X.K.In s.heap:=I.ok.mod.uQ.keeps I.bk
def be.lt(I:(be X O σ H s)):X.env.locals<s.heap.objs.size:=let ⟨_,a,_⟩:=I.loc;a.lt
def be.sz(I:(be X O σ H s)):X.æ.heap.objs.size<=s.heap.objs.size:=Ch I.ok.above<|Cy I.lt
def be.DV(I:(be X O σ H s))(h:s.heap.objs.size<=a):a∉X.fs:=λb=>by
 obtain⟨_,o,c,_⟩:=I.ok.d6.mem b;exact absurd (Bq (Av c)<|Ch I.sz h)<|De _
def be.mP(I:(be X O σ H s)):∀x c,(X.env.cells.lookup x)=some c->c≠X.env.locals:=λx c e z=>by
 obtain⟨v,o,a,hd⟩:=I.cell x c e;obtain⟨m,⟨f,h,i,b,d,_⟩,_⟩:=I.loc;rw[z,b]at a;cases a;rw[d]at hd;cases hd
def be.d6(I:(be X O σ H s)):s.heap.FunFrames X.Z X.outer:=by
 have all:∀l,(∀b∈fe l,b∈X.fs)->X.æ.heap.FunFrames X.Z l->s.heap.FunFrames X.Z l:=by
  intro l
  induction l with
  |nil=>intro _ _;trivial
  |cons h r i=>
   intro f j;obtain⟨k,⟨L,o,a,m,n,hd⟩,p⟩:=j;have c:=f L (by unfold fe;rw[Eh,a];exact Ae);obtain⟨q,e⟩:=I.Z.slot L o n (I.ok.sV L c) c λz=>I.ok.mO L z c;exact⟨k,⟨L,_,a,m,e,hd⟩,i (λb d=>f b<|by unfold fe;rw[Eh,a];exact Af _ d) p⟩
 exact all X.outer (λ_ d=>d) I.ok.d6
def be.stack(I:(be X O σ H s)):s.heap.FunFrames X.Z X.stack:=by
 obtain e|⟨e,a⟩:=I.ok.yN
 ·rw[e];exact I.d6
 ·rw[e];obtain⟨m,b,_⟩:=I.loc;refine .cons (by rw[I.ok.kind];decide) a b ?_ I.d6;exact Heap.get?_none_of_le<|Ch I.ok.oA I.ok.above
def be.fV(I:(be X O σ H s)):∀b∈fe X.stack,b∈X.env.locals :: X.fs:=λb a=>by
 obtain e|⟨e,c⟩:=I.ok.yN
 ·rw[e]at a;exact Af _ a
 ·rw[e]at a;unfold fe at a;rwa[Eh,c]at a
def be.dW(I:(be X O σ H s)):∀b∈fe X.stack,H b=none:=λb a=>by
 obtain e|a:=Ai.mp (I.fV b a)
 ·rw[e];exact I.free
 ·obtain⟨_,o,c,_⟩:=I.ok.d6.mem a;exact I.Z.free b o c (I.ok.sV b a) λz=>I.ok.mO b z a
def be.step(I:(be X O σ H s))
  (w:∀b∈ch,(b∈X.ex\/X.æ.heap.objs.size<=b)/\b≠X.env.locals/\(∀x c,(X.env.cells.lookup x)=some c->c≠b)/\∀p∈X.pn++O,p.1≠b)
  (keep:∀b o,b≠X.env.locals->b∉X.fs->b∉ch->s.heap.get? b=some o->H b=none->h'.get? b=some o)
  (slot:∀b o,b≠X.env.locals->b∈X.fs->b∉ch->s.heap.get? b=some o->H b=none->∃D,h'.get? b=some {o with slots:=D}) (free:∀b o,b∉ch->s.heap.get? b=some o->H b=none->H' b=none)
  (there:∀b o,b∉ch->s.heap.get? b=some o->∃y,h'.get? b=some y)
  (fP:∀b xs,H b=some (.tup xs)->H' b=some (.tup xs)) (fc:∀b o u,H b=some (.b7 o u)->H' b=some (.b7 o u)) (fQ:∀b ps,H b=some (.oz ps)->∃more,H' b=some (.oz<|ps++more))
  (ns:∀m,s.heap.Ns X.env.locals m->h'.Ns X.env.locals m) (M:cn X.U X.w H' h') (N:AllBare g'):
  be X O σ H' {s with heap:=h',gens:=g',drawn:=d',toks:=t'}:=by
 have E:∀b o,X.æ.heap.get? b=some o->b≠X.env.locals:=λb o e=>Bw<|Bq (Av e) I.ok.above;have C:∀b o,X.æ.heap.get? b=some o->b∉X.ex->b∉ch:=λb o e a j=>by
  obtain z|z:=(w b j).1
  ·exact a z
  ·exact absurd (Bq (Av e) z)<|De _
 have f:∀x c,(X.env.cells.lookup x)=some c->∀v,s.heap.IsCell c v->h'.IsCell c v:=λx c e v⟨o,t,hd⟩=>by
  have A:=λz=>(w c z).2.2.1 x c e rfl
  by_cases G:c∈X.fs
  ·obtain⟨D,q⟩:=slot c o (I.mP x c e) G A t<|I.cD x c e;exact⟨_,q,hd⟩
  ·exact⟨o,keep c o (I.mP x c e) G A t<|I.cD x c e,hd⟩
 refine⟨I.ok,I.os,N,⟨λb o e n j a=>?_,λb o e n j a=>?_,λb o e n a=>?_,λb o e a=>?_,λb xs e=>fP b xs<|I.Z.fP b xs e,λb o xs e=>fc b o xs<|I.Z.fc b o xs e,λb ps e=>?_⟩,?_,λx c e=>?_,?_,λx c e=>?_,λp J=>?_,M,I.len⟩
 ·exact keep b o (E b o e) j (C b o e a) (I.Z.keep b o e n j a)<|I.Z.free b o e n a
 ·obtain⟨D,h⟩:=I.Z.slot b o e n j a;obtain⟨Q,B⟩:=slot b _ (E b o e) j (C b o e a) h<|I.Z.free b o e n a;exact⟨Q,B⟩
 ·obtain⟨y,h⟩:=I.Z.there b o e a;exact free b y (C b o e a) h<|I.Z.free b o e n a
 ·obtain⟨y,h⟩:=I.Z.there b o e a;exact there b y (C b o e a) h
 ·obtain⟨T,h⟩:=I.Z.fQ b ps e;obtain⟨U,B⟩:=fQ b _ h;exact⟨T++U,by rw[B,Array.append_assoc]⟩
 ·obtain⟨m,Y,hl⟩:=I.loc;refine⟨m,ns m Y,λi x v h B e3=>?_⟩;obtain⟨u,r,l⟩:=hl i x v h B e3;refine⟨u,r,?_⟩
  obtain l|⟨k,c,e,z⟩:=l
  ·exact .inl l
  ·exact .inr ⟨k,c,e,f x c e _ z⟩
 ·obtain⟨v,z⟩:=I.cell x c e;exact⟨v,f x c e v z⟩
 ·obtain⟨m,⟨o,_,_,t,_⟩,_⟩:=I.loc;exact free _ o (λz=>(w _ z).2.1 rfl) t I.free
 ·obtain⟨v,o,t,hd⟩:=I.cell x c e;exact free c o (λz=>(w c z).2.2.1 x c e rfl) t<|I.cD x c e
 ·obtain⟨e,n,ne,L,d⟩:=I.pin p J;have A:=λz=>(w p.1 z).2.2.2 p J rfl;exact⟨keep p.1 p.2 ne L A e n,free p.1 p.2 A e n,ne,L,d⟩
def be.un(I:(be X O σ H s))(u:Un X.fs [] H H' s.heap h')(f:cn X.U X.w H' h'):be X O σ H' {s with heap:=h',toks:=t'}:=by
 obtain⟨m,⟨o,p,q,c,r⟩,_⟩:=id I.loc;obtain⟨t,h⟩:=u.any c I.free (by simp);exact I.step (ch:=[]) (λ_ z=>nomatch z) (λb o _ a _ e n=>u.keep b o e n a<|by simp) (λb o _ a _ e n=>u.slot b o e n a<|by simp) (λb o _ e n=>u.free b o e n<|by simp) (λb o _ e=>u.there b o e<|by simp) u.fP u.fc u.fQ (λv i=>by
  obtain⟨w,j,k,d,l⟩:=i;rw[c]at d;cases d;exact⟨_,j,k,h,l⟩) f I.bare
def be.call(I:(be X O σ H s))(u:Un (fe X.stack) ch H H' s.heap h')(j:cn X.U X.w H' h')(k:AllBare g')
  (f:∀b∈ch,(b∈X.ex\/X.æ.heap.objs.size<=b)/\b≠X.env.locals/\(∀x c,(X.env.cells.lookup x)=some c->c≠b)/\∀p∈X.pn++O,p.1≠b):
  be X O σ H' {s with heap:=h',gens:=g',drawn:=d',toks:=t'}:=by
 obtain⟨m,⟨o,y,A,h,r⟩,_⟩:=id I.loc;obtain⟨B,d⟩:=u.any h I.free λz=>(f _ z).2.1 rfl;exact I.step f (λb o d l a e n=>u.keep b o e n (λz=>(Ai.mp<|I.fV b z).elim d l) a) (λb o _ _ a e n=>u.any e n a) (λb o a e n=>u.free b o e n a) (λb o a e=>u.there b o e a) u.fP u.fc u.fQ (λC q=>by
  obtain⟨D,t,v,i,w⟩:=q;rw[h]at i;cases i;exact⟨_,t,v,d,w⟩) j k
def be.turned{it:Addr}(I:(be X O σ H s))(k:∀b o,b≠it->s.heap.get? b=some o->h'.get? b=some o)(h:H it=none)(d:it≠X.env.locals)
  (i:it∈X.ex\/X.æ.heap.objs.size<=it) (j:∀x c,(X.env.cells.lookup x)=some c->c≠it) (l:∀p∈X.pn++O,p.1≠it):be X O σ H {s with heap:=h',toks:=t'}:=by
 have f:∀b u,H b=some u->b≠it:=λb u e z=>by rw[z,h]at e;cases e
 refine I.step (ch:=[it]) (λb t=>?_) (λb o _ _ a e _=>k b o (λz=>a<|by simp[z]) e) (λb o _ _ a e _=>⟨o.slots,k b o (λz=>a<|by simp[z]) e⟩) (λ_ _ _ _ n=>n)
  (λb o a e=>⟨o,k b o (λz=>a<|by simp[z]) e⟩) (λ_ _ e=>e) (λ_ _ _ e=>e) (λb C e=>⟨#[],by rw[e];simp⟩) (λm w=>?_) (λb u e=>?_) I.bare
 ·have e:b=it:=by simpa using t
  subst e;exact⟨i,d,j,l⟩
 ·obtain⟨o,y,A,B,r⟩:=w;exact⟨o,y,A,k _ o (CK d) B,r⟩
 ·refine(I.aH b u e).iE (λc v a q=>k c v ?_ q) (λ_ q=>q) λ_ _ q=>q
  obtain z|z:=a
  ·rw[z];exact f b u e
  ·exact f c _ z
def be.tok(I:(be X O σ H s))(t:Nat):be X O σ H {s with toks:=t}:=I.un Un.refl I.aH
def be.kept{t':Nat}(I:(be X O σ H s))(k:∀b u,s.heap.get? b=some u->h'.get? b=some u):be X O σ H {s with heap:=h',toks:=t'}:=I.un (Un.kept k)<|I.aH.kept k
def be.laid{a:Addr}{o:HO}{t':Nat}(I:(be X O σ H s))(k:∀b u,s.heap.get? b=some u->h'.get? b=some u)(c:s.heap.objs.size<=a)(new:aB X.U X.w (upd H a o) h' a o):
  be X O σ (upd H a o) {s with heap:=h',toks:=t'}:=I.un (Un.laid k c<|I.aH.fresh c)<|I.aH.laid k c new
def be.write{x e:Addr}{o:HO}{t':Nat}(I:(be X O σ H s))(a:uO<|H x)(c:e=x\/H e=some (.own x))(k:∀b u,b≠e->s.heap.get? b=some u->h'.get? b=some u)(d:∃u,h'.get? e=some u)
  (new:aB X.U X.w (upd H x o) h' x o):be X O σ (upd H x o) {s with heap:=h',toks:=t'}:=I.un (Un.write a c k d)<|I.aH.write a c k d new
def be.iZ(I:(be X O σ H s))(h:∀p∈oB,s.heap.get? p.1=some p.2/\H p.1=none/\p.1≠X.env.locals/\p.1∉X.fs/\∀v,p.2.data ≠ .cell v):be X oB σ H s:=
 ⟨I.ok,I.os,I.bare,I.Z,I.loc,I.cell,I.free,I.cD,λp a=>(Am.mp a).elim (λz=>I.pin p<|Bb _ z)<|h p,I.aH,I.len⟩
def Ot(c:N.Nodup){j:Nat}(a:N[i]?=some x)(b:N[j]?=some x):i=j:=by
 obtain⟨f,d⟩:=Ac.mp a;obtain⟨h,e⟩:=Ac.mp b;exact(Gy c).mp<|d.trans e.symm
def Ou{Q:Unit->Shared->Prop}(I:(be X O σ H s))(hN:X.N.Nodup)(N:X.N[i]?=some x)(B:AL X.env.scope x)(r:cc v u)
  (h:∀s',be X O (σ.set i<|some v) H s'->(∃a,Heap.SameBut a s.heap s'.heap/\(a=X.env.locals\/(X.env.cells.lookup x)=some a))->Q () s') (hf:X.fn x=true\/X.env.scope.names.lookup x=some .local:=by first|exact .inl rfl|exact .inr rfl|assumption):wpAny M A (storeName X.env x u) Q E s:=by
 obtain⟨m,Y,hl⟩:=id I.loc;have DZ:(X.env.scope.kind == .class || (X.env.scope.kind == .module && X.env.locals != X.env.globals))=false:=by rw[I.ok.kind];rfl
 have D:i<σ.length:=by rw[I.len];exact(Ac.mp N).1
 have mP:=I.mP;have l:∀{a:Addr}{h':Heap},(∃o,s.heap.get? a=some o/\H a=none)->Heap.SameBut a s.heap h'->cn X.U X.w H h':=λ{a h'}ha f b ob e=>by
  obtain⟨_,_,oE⟩:=ha;refine(I.aH b ob e).iE (λc T w q=>(f.2 c ?_).trans q) (λ_ q=>q) λ_ _ q=>q;rintro rfl
  obtain rfl|w:=w
  ·rw[oE]at e;cases e
  ·rw[oE]at w;cases w
 obtain G|G:=B
 ·refine wpAny_storeName_local G Y (λh' yQ f=>?_) DZ;obtain⟨oL,_,_,kC,_⟩:=id Y;refine h _ ⟨I.ok,I.os,I.bare,⟨λb o e n J B=>?_,λb o e n J B=>?_,I.Z.free,λb o e B=>?_,I.Z.fP,I.Z.fc,I.Z.fQ⟩,⟨_,yQ,λj y v' t C e3=>?_⟩,λy c e=>?_,I.free,I.cD,λp hp=>?_,l ⟨oL,kC,I.free⟩ f,by simpa using I.len⟩ ⟨_,f,.inl rfl⟩
  ·exact(f.2 b<|Bw<|Bq (Av e) I.ok.above).trans<|I.Z.keep b o e n J B
  ·obtain⟨sl,t⟩:=I.Z.slot b o e n J B;exact⟨sl,(f.2 b<|Bw<|Bq (Av e) I.ok.above).trans t⟩
  ·obtain⟨o',t⟩:=I.Z.there b o e B;exact⟨o',(f.2 b<|Bw<|Bq (Av e) I.ok.above).trans t⟩
  ·by_cases L:j=i
   ·subst L;rw[N]at t;cases t;rw[TJ D]at C;cases C;exact⟨u,r,.inl ⟨G,by simp⟩⟩
   ·rw[List.getElem?_set_ne<|CK L]at C;obtain⟨u',r',q⟩:=hl j y v' t C e3;refine⟨u',r',?_⟩
    obtain⟨k,e⟩|⟨k,c,e,z⟩:=q
    ·refine .inl ⟨k,?_⟩;have:y≠x:=λe=>L<|Ot hN t<|e ▸ N;simp[this,e]
    ·exact .inr ⟨k,c,e,z.sameBut f<|mP y c e⟩
  ·obtain⟨T,z⟩:=I.cell y c e;exact⟨T,z.sameBut f<|mP y c e⟩
  ·obtain⟨e,n,ne,nf,d⟩:=I.pin p hp;exact⟨(f.2 p.1 ne).trans e,n,ne,nf,d⟩
 ·have D0:X.fn x=true:=by
   obtain z|z:=hf
   ·exact z
   ·rw[z]at G;cases G
  obtain⟨c,w⟩:=I.ok.has x<|.inl G;obtain⟨T,z⟩:=I.cell x c w;refine wpAny_storeName_cell I.ok.kind G w z λh' bj f=>?_;obtain⟨oc,Ov,XR⟩:=id z;refine h {s with heap:=h'} ⟨I.ok,I.os,I.bare,⟨λb o e n J B=>?_,λb o e n J B=>?_,I.Z.free,λb o e B=>?_,I.Z.fP,I.Z.fc,I.Z.fQ⟩,⟨m,Y.sameBut f<|CK<|mP x c w,λj y v' t C e3=>?_⟩,λy U e=>?_,I.free,I.cD,λp hp=>?_,l ⟨oc,Ov,I.cD x c w⟩ f,by simpa using I.len⟩ ⟨c,f,.inr w⟩
  ·exact(f.2 b<|Bw<|Bq (Av e)<|I.ok.uR x c D0 w).trans<|I.Z.keep b o e n J B
  ·obtain⟨sl,t⟩:=I.Z.slot b o e n J B;exact⟨sl,(f.2 b<|Bw<|Bq (Av e)<|I.ok.uR x c D0 w).trans t⟩
  ·obtain⟨o',t⟩:=I.Z.there b o e B;exact⟨o',(f.2 b<|Bw<|Bq (Av e)<|I.ok.uR x c D0 w).trans t⟩
  ·by_cases L:j=i
   ·subst L;rw[N]at t;cases t;rw[TJ D]at C;cases C;exact⟨u,r,.inr ⟨.inl G,c,w,bj⟩⟩
   ·rw[List.getElem?_set_ne<|CK L]at C;obtain⟨u',r',q⟩:=hl j y v' t C e3;refine⟨u',r',?_⟩
    obtain q|⟨k,U,e,z'⟩:=q
    ·exact .inl q
    ·refine .inr ⟨k,U,e,z'.sameBut f ?_⟩;rintro rfl;exact L<|Ot hN t<|I.ok.inj _ _ _ e w ▸ N
  ·by_cases i0:U=c
   ·subst i0;exact⟨_,bj⟩
   ·obtain⟨w2,z2⟩:=I.cell y U e;exact⟨w2,z2.sameBut f i0⟩
  ·obtain⟨e,n,ne,nf,d⟩:=I.pin p hp;refine⟨(f.2 p.1 ?_).trans e,n,ne,nf,d⟩;intro q;rw[q,Ov]at e;have q':=Option.some.inj e;exact d T<|by rwa[<-q']
def Ow{Q:Unit->Shared->Prop}(I:(be X O σ H s))(a:X.N.Nodup)(b:X.N[i]?=some x)(c:AL X.env.scope x)(r:cc v u)
  (h:∀s',be X O (σ.set i<|some v) H s'->Q () s') (d:X.fn x=true\/X.env.scope.names.lookup x=some .local:=by first|exact .inl rfl|exact .inr rfl|assumption):wpAny M A (storeName X.env x u) Q E s:=
 Ou I a b c r (λs' e _=>h s' e) d
def be.call'(I:(be X O σ H s))(a:s'.os=s.os)(u:Un (fe X.stack) ch H H' s.heap s'.heap)(d:cn X.U X.w H' s'.heap)(f:AllBare s'.gens)
  (h:∀b∈ch,(b∈X.ex\/X.æ.heap.objs.size<=b)/\b≠X.env.locals/\(∀x c,(X.env.cells.lookup x)=some c->c≠b)/\∀p∈X.pn++O,p.1≠b):be X O σ H' s':=by
 obtain⟨h',g',d',t',i⟩:=s';have e:=a;subst e;exact I.call u d f h
end
abbrev XK:=Value->Option Addr->Hp->Prop
abbrev St:=List<|Option V
abbrev VK:=V->Hp->Prop
abbrev TE:=St->Hp->VK->Prop
abbrev TT:=St->Hp->(Bool->Hp->Prop)->Prop
abbrev TA:=St->Hp->(List V->Hp->Prop)->Prop
structure wf where
 nx:St->Hp->Prop
 rt:VK
 bk:St->Hp->Prop:=λ_ _=>False
 ct:St->Hp->Prop:=λ_ _=>False
abbrev TS:=wf->St->Hp->Prop
def EP(X:Cx)(O:Ï)(σ:St)(Q:VK)(u:Value)(s':Shared):Prop:=∃v H',be X O σ H' s'/\cc v u/\Q v H'
def TP(X:Cx)(O:Ï)(σ:St)(Q:Bool->Hp->Prop)(b:Bool)(s':Shared):Prop:=∃H',be X O σ H' s'/\Q b H'
def AP(X:Cx)(O:Ï)(σ:St)(Q:List V->Hp->Prop)(b:Ò)(s':Shared):Prop:=∃a H',be X O σ H' s'/\ay a b/\Q a H'
def SP(X:Cx)(O:Ï)(D:wf)(f:Flow)(s':Shared):Prop:=
 match f with
 |.next=>∃a H',be X O a H' s'/\D.nx a H'
 |.brk=>∃a H',be X O a H' s'/\D.bk a H'
 |.cont=>∃a H',be X O a H' s'/\D.ct a H'
 |.ret u=>∃v a H',be X O a H' s'/\cc v u/\D.rt v H'
def PE(X:Cx)(e:Expr)(t:TE):Prop:=
 ∀O s a H Q,(be X O a H s)->t a H Q->(ar X) (eval e X.env) (EP X O a Q) X.xe s
def PT(X:Cx)(e:Expr)(t:TT):Prop:=
 ∀O s a H Q,(be X O a H s)->t a H Q->(ar X) (isTrue e X.env<|eval e X.env) (TP X O a Q) X.xe s
def PW(X:Cx)(e:Expr)(t:TT):Prop:=
 ∀whole O s a H Q,(be X O a H s)->t a H Q->(ar X) (isTrue e X.env whole) (TP X O a Q) X.xe s
def PA(X:Cx)(es:Ó)(t:TA):Prop:=
 ∀pos O s a H Q,(be X O a H s)->t a H Q->(ar X) (spliced<|backTo pos<|starEach es X.env) (AP X O a Q) X.xe s
def PS(X:Cx)(st:Stmt)(t:TS):Prop:=
 ∀O s a H D,(be X O a H s)->t D a H->(ar X) (exec st X.env) (SP X O D) X.xe s
def jz(X:Cx)(st:Ô)(t:TS):Prop:=
 ∀O s a H D,(be X O a H s)->t D a H->(ar X) (execs st X.env) (SP X O D) X.xe s
def aO{α:Type}{t:Sem α}{Q b:α->Shared->Prop}(h:wpAny M A t Q E s)(c:∀a s,Q a s->b a s):wpAny M A t b E s:=CW h c λ_ _ x=>x
variable{R:V->V->Hp->Prop}{σ:St}{ta:TE}{Q:Í}{op:CmpOp}{e c:Expr}
section
def SN{a b:Expr}{i:TE}(j:PE X a ta)(k:PE X b i)(I:(be X O σ H s))(h:ta σ H λx e=>i σ e λy c=>R x y c)
  {α:Type} {Q:α->Shared->Prop} {f:Value->Value->Sem α}
  (l:∀v u d x y c,be X O σ c d->cc x v->cc y u->R x y c->(ar X) (f v u) Q X.xe d):
  (ar X) (eval a X.env) (λv m=>(ar X) (eval b X.env) (λu n=>(ar X) (f v u) Q X.xe n) X.xe m) X.xe s:=by
 refine aO (j O s σ H _ I h) λv o⟨x,e,p,q,r⟩=>?_;refine aO (k O o σ e _ p r) λu d⟨y,c,t,w,z⟩=>?_;exact l v u d x y c t q w z
def D1(i:Nat):TE:=λσ H Q=>∃v,σ[i]?=some (some v)/\Q v H
def tC(v:V):TE:=λ_ H Q=>Q v H
def XS{pos:Pos}(f:X.N[i]?=some x)(j:DT X.env.scope x)(hd:(x == ("__debug__" : Str))=false:=by decide)(k:(x == ("__classdict__" : Str))=false:=by decide):PE X (.Name x pos) (D1 i):=by
 intro O s σ H Q I h;obtain⟨v,e,h⟩:=h;obtain⟨m,n,o⟩:=I.loc;obtain⟨u,r,l⟩:=o i x v f e j;have fin:EP X O σ Q u s:=⟨v,H,I,r,h⟩
 obtain⟨a,p⟩|⟨a,c,b,d⟩:=l
 ·exact wpAny_Name (wpAny_loadName_local I.ok.kind a n p fin) hd
 ·obtain a|a:=a
  ·exact wpAny_Name (wpAny_loadName_cell I.ok.kind a b d fin) hd
  ·exact wpAny_Name (wpAny_loadName_free I.ok.kind a b d fin k) hd
def XT{i j pos}:PE X (.Constant (.int i) j pos) (tC<|.int i):=λ_ _ _ H _ I h=>wpAny_Constant_int ⟨.int i,H,I.tok _,⟨_,rfl⟩,h⟩
def XU{b j pos}:PE X (.Constant (.bool b) j pos) (tC<|.bl b):=λ_ _ _ H _ I h=>Constant_bool ⟨.bl b,H,I,rfl,h⟩
def XW{j pos}:PE X (.Constant .none j pos) (tC .non):=λ_ _ _ H _ I h=>Constant_none ⟨.non,H,I,rfl,h⟩
def XX{x j pos}:PE X (.Constant (.str x) j pos) (tC<|.str x):=λ_ _ _ H _ I h=>Calls.Constant_str ⟨.str x,H,I.tok _,⟨_,rfl⟩,h⟩
def Gl(X:Cx)(x:Str):Prop:=X.env.kindOf x=some .globalImplicit
def Ox{pos:Pos}(I:(be X O σ H s))(a:Gl X x)(b:X.mg x=some u)(h:Q u s)
  (hd:(x == ("__debug__" : Str))=false:=by decide):(ar X) (eval (.Name x pos) X.env) Q E s:=
 Calls.Name_function_global I.ok.kind a (Calls.loadGlobal_global (by rw[I.ok.glob];exact I.mod.glob.keeps I.bk) b h) hd
def mQ{pos:Pos}(I:(be X O σ H s))(a:Gl X x)(b:X.mg x=none)(c:bootBuiltins x=some u)(h:Q u s)
  (d:x ≠ "__name__":=by decide) (hd:(x == ("__debug__" : Str))=false:=by decide):(ar X) (eval (.Name x pos) X.env) Q E s:=by
 obtain⟨i,e,f⟩:=I.mod.blt;exact Calls.Name_function_global I.ok.kind a (Calls.loadGlobal_builtin (by rw[I.ok.glob];exact I.mod.glob.keeps I.bk) b (by rw[I.ok.blt];exact e.keeps I.bk) ((f x d).trans c) h) hd
def XY{pos:Pos}(a:Gl X x)(b:X.mg x=none)(c:bootBuiltins x=some u)(r:cc v u)(d:x ≠ "__name__":=by decide)(hd:(x == ("__debug__" : Str))=false:=by decide):PE X (.Name x pos) (tC v):=
 λ_ _ _ H _ I h=>mQ I a b c ⟨v,H,I,r,h⟩ d hd
variable{a b:Expr}{tb:TE}{pos:Pos}
def PC(X:Cx)(op:CmpOp)(a b:Expr)(t:TE):Prop:=
 ∀O s σ H Q,(be X O σ H s)->t σ H Q ->
  (ar X) (eval a X.env) (λv c=>(ar X) (eval b X.env) (λu d=>(ar X) (compareOp op v u) (EP X O σ Q) X.xe d) X.xe c) X.xe s
def tB(t:TE):TT:=λσ H Q=>t σ H λx a=>∃c,x=.bl c/\Q c a
def Oy{t:TE}(h:PC X op a b t)(e:behindInMarks op b=false:=by first|exact n _ (by decide) (by decide)|rfl):PT X (.Compare a [op] [b] pos) (tB t):=by
 intro O s σ H Q I f;refine wpAny_isTrue_Compare1 (aO (h O s σ H _ I f) λv o e=>aO e λu p i=>aO i λc r⟨x,j,k,l,m⟩=>?_) e;obtain⟨d,rfl,q⟩:=m;cases l;exact EY ⟨j,k,q⟩
def XZ{t:TE}(h:PE X e t)(a:∀whole,isTrue e X.env whole=(do let v <-whole;standAt e.pos;holding [v] (truthy v)):=by intro _;rfl):PT X e (tB t):=by
 intro O s σ H Q I b;refine isTrue_plain (aO (h O s σ H _ I b) λv k⟨x,c,f,i,j⟩=>?_)<|a _;obtain⟨d,rfl,q⟩:=j;cases i;exact EY ⟨c,f,q⟩
variable{tA yR:TT}{rest:Ó}
def D4(t u:TT):TT:=λσ H Q=>t σ H λc a=>if c=true then u σ a Q else Q false a
def X0(t u:TT):TT:=λσ H Q=>t σ H λc a=>if c=true then Q true a else u σ a Q
def D5(t:TT):TT:=λσ H Q=>t σ H λc a=>Q (!c) a
theorem X1(b:PT X a tA):PW X (.BoolOp .And [a] pos) tA:=by
 intro d O s σ H Q I h;refine isTrue_and<|aO (b O s σ H Q I h) λc f e=>?_;cases c with
 |true=>exact isTrue_and_nil e
 |false=>exact e
theorem X2(b:PT X a tA):PW X (.BoolOp .Or [a] pos) tA:=by
 intro d O s σ H Q I h;refine isTrue_or<|aO (b O s σ H Q I h) λc f e=>?_;cases c with
 |false=>exact isTrue_or_nil e
 |true=>exact e
theorem X3(i:PT X a tA)(j:PW X (.BoolOp .And (b :: rest) pos) yR):PW X (.BoolOp .And (a :: b :: rest) pos) (D4 tA yR):=by
 intro k O s σ H Q I h;refine isTrue_and<|aO (i O s σ H _ I h) λc l⟨d,e,f⟩=>?_;cases c with
 |true=>exact j k O l σ d Q e f
 |false=>exact⟨d,e,f⟩
theorem X4(i:PT X a tA)(j:PW X (.BoolOp .Or (b :: rest) pos) yR):PW X (.BoolOp .Or (a :: b :: rest) pos) (X0 tA yR):=by
 intro k O s σ H Q I h;refine isTrue_or<|aO (i O s σ H _ I h) λc l⟨d,e,f⟩=>?_;cases c with
 |true=>exact⟨d,e,f⟩
 |false=>exact j k O l σ d Q e f
def X5(b:PT X a tA):PT X (.UnaryOp .Not a pos) (D5 tA):=by
 intro O s σ H Q I h;exact isTrue_not<|b O s σ H (λc d=>Q (!c) d) I h
def X6(ta tb:TE):TE:=λσ H Q=>ta σ H λx a=>∃c,x=.bl c/\if c=true then tb σ a Q else Q (.bl false) a
def X7{op}{t:TE}(h:PE X a t):PE X (.BoolOp op [a] pos) t:=λO s σ H Q I b=>BoolOp_one<|h O s σ H Q I b
theorem X8(i:PE X a ta)(j:PE X (.BoolOp .And (b :: rest) pos) tb):PE X (.BoolOp .And (a :: b :: rest) pos) (X6 ta tb):=by
 intro O s σ H Q I h;refine BoolOp_and<|aO (i O s σ H _ I h) λv k⟨x,e,f,l,d⟩=>?_;obtain⟨c,rfl,d⟩:=d;cases l;refine EY ?_;cases c with
 |true=>exact j O k σ e Q f d
 |false=>exact⟨.bl false,e,f,rfl,d⟩
def X9(t:TT)(ta tb:TE):TE:=λσ H Q=>t σ H λc a=>if c=true then ta σ a Q else tb σ a Q
theorem Ya(k:PT X c tA)(l:PE X a ta)(m:PE X b tb):PE X (.IfExp c a b pos) (X9 tA ta tb):=by
 intro O s σ H Q I h;refine wpAny_IfExp<|aO (k O s σ H _ I h) λd e⟨f,i,j⟩=>?_;cases d with
 |true=>exact l O e σ f Q i j
 |false=>exact m O e σ f Q i j
end
def au(K:aa)(H:Hp)(a:Addr)(xs:List V):Prop:=
 Rd H a (.lst xs) \/
  ∃o b n,K.lookup a=some o/\o.cls=.type "list"/\o.dict=none/\o.data=.seq b n/\b.size<=sizeLine/\ay xs b.toList
def aQ(K:aa)(H:Hp)(a:Addr)(xs:List V):Prop:=
 Rd H a (.tup xs) \/
  ∃o b n,K.lookup a=some o/\o.cls=.type "tuple"/\o.data=.seq b n/\b.size<=sizeLine/\ay xs b.toList
def D6:Value->Option V
 |.none=>some .non
 |.bool b=>some<|.bl b
 |.int i _=>some<|.int i
 |.str x _=>some<|.str x
 |.bytes b _=>some<|.jy b
 |.float b _=>some<|.sR b
 |.ref a=>some<|.ref a
 |.type n=>some<|.ty n
 |_=>none
theorem cc.abs{x:V}(r:cc x u):D6 u=some x:=by
 cases x with
 |non=>cases r;rfl
 |bl _=>cases r;rfl
 |int _=>obtain⟨t,rfl⟩:=r;rfl
 |str _=>obtain⟨t,rfl⟩:=r;rfl
 |jy _=>obtain⟨t,rfl⟩:=r;rfl
 |sR _=>obtain⟨t,rfl⟩:=r;rfl
 |ref _=>cases r;rfl
 |ty _=>cases r;rfl
def cc.inj{x y:V}{u:Value}(r:cc x u)(q:cc y u):x=y:=Option.some.inj<|r.abs.symm.trans q.abs
theorem ay.inj:∀{xs ys}{a},ay xs a->ay ys a->xs=ys
 |_,_,_,.nil,.nil=>rfl
 |_,_,_,.cons r t,.cons b t'=>by rw[r.inj b,ay.inj t t']
variable{xs:List V}{K:aa}
section
variable{ys:List V}
def au.of(h:H a=some (.lst xs)):au K H a xs:= .inl<|.inl h
def aQ.of(h:H a=some (.tup xs)):aQ K H a xs:= .inl<|.inl h
theorem be.list(I:(be X O σ H s))(h:au X.K H a xs):∃b:Ò,ay xs b/\PlainL s.heap a b.toArray/\xs.length<=sizeLine:=by
 obtain h|⟨o,b,n,c,d,hd,f,i,r⟩:=h
 ·obtain⟨z,b,n,r,e⟩:=h.ok I.aH;exact⟨b,r,⟨_,n,e,rfl,rfl,rfl⟩,z⟩
 ·refine⟨b.toList,r,⟨o,n,I.gQ a o c,d,hd,(by simpa using f)⟩,?_⟩;have e:=r.length;simp only[Bu]at e;omega
theorem be.tuple(I:(be X O σ H s))(h:aQ X.K H a xs):∃b:Ò,ay xs b/\IsTup s.heap a b.toArray/\xs.length<=sizeLine:=by
 obtain h|⟨o,b,n,c,d,f,i,r⟩:=h
 ·obtain⟨z,b,r,p⟩:=h.ok I.aH;exact⟨b,r,p,z⟩
 ·refine⟨b.toList,r,⟨o,I.gQ a o c,d,n,(by simpa using f)⟩,?_⟩;have e:=r.length;simp only[Bu]at e;omega
def be.cY(I:(be X O σ H s))(h:au X.K H a xs)(h':au X.K H a ys):xs=ys:=by
 obtain⟨f,r,⟨o,n,e,_,_,d⟩,_⟩:=I.list h;obtain⟨b,i,⟨k,l,c,_,_,d'⟩,_⟩:=I.list h';rw[e]at c;cases c;rw[d]at d'
 injection d' with j _
 have:f=b:=by simpa using BZ Array.toList j
 subst this;exact r.inj i
end
abbrev Cx.fh(X:Cx)(E:Í):Cx:={X with xe:=E}
abbrev Cx.sW(X:Cx):Cx:=X.fh λ_ _=>False
def Cx.Ok.fh{X:Cx}(ok:X.Ok)(E:Í):(X.fh E).Ok:=
 ⟨ok.mod,ok.kind,ok.glob,ok.blt,ok.above,ok.inj,ok.has,ok.uR,ok.hd,ok.frames,ok.yN,ok.Oo,ok.bs,ok.oA,ok.kA,ok.mO,ok.d6,ok.sV⟩
def Cx.Ok.cE(ok:(X.fh E).Ok):X.Ok:=
 ⟨ok.mod,ok.kind,ok.glob,ok.blt,ok.above,ok.inj,ok.has,ok.uR,ok.hd,ok.frames,ok.yN,ok.Oo,ok.bs,ok.oA,ok.kA,ok.mO,ok.d6,ok.sV⟩
def be.fh(I:(be X O σ H s))(E:Í):be (X.fh E) O σ H s:=⟨I.ok.fh E,I.os,I.bare,I.Z,I.loc,I.cell,I.free,I.cD,I.pin,I.aH,I.len⟩
def be.cE(I:be (X.fh E) O σ H s):(be X O σ H s):=⟨I.ok.cE,I.os,I.bare,I.Z,I.loc,I.cell,I.free,I.cD,I.pin,I.aH,I.len⟩
theorem SP.cE{D:wf}{f:Flow}{s':Shared}(h:SP (X.fh E) O D f s'):SP X O D f s':=by
 cases f with
 |next=>obtain⟨a,H',I,q⟩:=h;exact⟨a,H',I.cE,q⟩
 |brk=>obtain⟨a,H',I,q⟩:=h;exact⟨a,H',I.cE,q⟩
 |cont=>obtain⟨a,H',I,q⟩:=h;exact⟨a,H',I.cE,q⟩
 |ret u=>obtain⟨v,a,H',I,r,q⟩:=h;exact⟨v,a,H',I.cE,r,q⟩
def jz.sW{st:Ô}{t:TS}(h:jz X.sW st t):jz X st t:=λO s σ H D I a=>
 CW (h O s σ H D (I.fh _) a) (λ_ _ q=>q.cE) λ_ _ z=>False.elim z
variable{te:TE}{tc:TT}
section
variable{st:Stmt}{rest:Ô}{t u:TS}{pos:Pos}
def Yb:TS:=λD σ H=>D.nx σ H
def D7(t u:TS):TS:=λD σ H=>t {D with nx:=u D} σ H
def Yc:jz X [] Yb:=λ_ _ σ H _ I h=>SM ⟨σ,H,I,h⟩
theorem Yd(b:PS X st t)(c:jz X rest u):jz X (st :: rest) (D7 t u):=by
 intro O s σ H D I h;refine wpAny_execs_cons<|aO (b O s σ H {D with nx:=u D} I h) λf d q=>?_;cases f with
 |next=>
  obtain⟨a,H',e,q⟩:=q;exact c O d a H' D e q
 |ret v=>exact q
 |brk=>exact q
 |cont=>exact q
def be.quiet(I:(be X O σ H s)):interactive X.env=false:=by simp[interactive,I.ok.kind]
def Ye(te:TE):TS:=λD σ H=>te σ H λ_ a=>D.nx σ a
def Yf(a:PE X e te)(b:swapsWith e none pos.line X.env=pure false:=by rfl):PS X (.Expr e pos) (Ye te):=by
 intro O s σ H D I h;exact wpAny_Expr_any (aO (a O s σ H _ I h) λv i⟨x,c,d,j,f⟩=>⟨σ,c,d,f⟩) I.quiet b
def D8(te:TE):TS:=λD σ H=>te σ H D.rt
def Yg(a:PE X e te):PS X (.Return (some e) pos) (D8 te):=by
 intro O s σ H D I h;exact wpAny_Return_some<|aO (a O s σ H _ I h) λv i⟨x,b,c,d,f⟩=>⟨x,σ,b,c,d,f⟩
def D9(c:TT)(t u:TS):TS:=λD σ H=>c σ H λb a=>if b=true then t D σ a else u D σ a
theorem Yh{a b:Ô}(k:PT X c tc)(l:jz X a t)(m:jz X b u):PS X (.If c a b pos) (D9 tc t u):=by
 intro O s σ H D I h;refine wpAny_If<|aO (k O s σ H _ I h) λd e⟨f,i,j⟩=>?_;cases d with
 |true=>exact l O e σ f D i j
 |false=>exact m O e σ f D i j
end
abbrev TG:=V->St->Hp->(St->Hp->Prop)->Prop
abbrev pW:=List V->St->Hp->(St->Hp->Prop)->Prop
def PG(X:Cx)(target:Expr)(t:TG):Prop:=
 ∀O s σ H v u Q,(be X O σ H s)->cc v u->t v σ H Q ->
  (ar X) (assign target X.env u) (λ_ s'=>∃a H',be X O a H' s'/\Q a H') X.xe s
def yS(X:Cx)(d:Ó)(t:pW):Prop:=
 ∀O s σ H b c Q,(be X O σ H s)->ay b c->t b σ H Q ->
  (ar X) (assignInOrder ((assignEach d X.env).map (·.2)) c) (λ_ s'=>∃a H',be X O a H' s'/\Q a H') X.xe s
variable{es:Ó}{n:Nat}{tg:Expr}{pos':Pos}{tb:TS}{body:Ô}
section
variable{pos:Pos}
def Oz(i:Nat):TG:=λv σ H Q=>Q (σ.set i<|some v) H
def Yi(a:X.N.Nodup)(b:X.N[i]?=some x)(c:AL X.env.scope x)(d:X.fn x=true\/X.env.scope.names.lookup x=some .local:=by first|exact .inl rfl|exact .inr rfl|assumption):PG X (.Name x pos) (Oz i):=by
 intro O s σ H v u Q I r h;exact wpAny_assign_Name<|Ow I a b c r (λs' e=>⟨_,H,e,h⟩) d
def pX:pW:=λa σ H Q=>a=[]/\Q σ H
def sX(t:TG)(u:pW):pW:=λb σ H Q=>∃v r,b=v :: r/\t v σ H λa H'=>u r a H' Q
def OA:yS X [] pX:=by
 intro O s σ H a b Q I r h;obtain⟨e,h⟩:=h;subst e;cases r;exact assignInOrder_nil ⟨σ,H,I,h⟩
theorem uV{t:TG}{u:pW}(b:PG X e t)(c:yS X es u)
  (d:(assignEach (e :: es) X.env).map (·.2)=assign e X.env :: (assignEach es X.env).map (·.2):=by rfl):yS X (e :: es) (sX t u):=by
 intro O s σ H n o Q I r h;obtain⟨v,p,f,h⟩:=h;subst f;cases r with
 |cons r i=>
  rw[d];refine assignInOrder_cons<|aO (b O s σ H _ _ _ I r h) λ_ j⟨a,k,l,m⟩=>?_;exact c O j a k _ _ Q l i m
def EA(K:aa)(n:Nat)(t:pW):TG:=λv σ H Q=>∃a xs,v=.ref a/\aQ K H a xs/\xs.length=n/\t xs σ H Q
def OB{k:Nat}{t:pW}(f:X.calm=true)(h:yS X es t)
  (i:(assignEach es X.env).length=n:=by rfl) (j:(assignEach es X.env).findIdx? (·.1)=none:=by rfl):PG X (.Tuple es k pos) (EA X.K n t):=by
 intro O s σ H v u Q I r c;obtain⟨a,xs,l,m,p,c⟩:=c;subst l;cases r;obtain⟨y,d,q,z⟩:=I.tuple m;refine assign_Tuple_tuple (I.ok.hd f) q (by simp[i,<-p,d.length]) j λh' w=>?_;have x:=I.kept (t':=s.toks) λb o e=>w b o (Bw<|Av e) e;exact h O _ σ H xs _ Q x (by simpa using d) c
def uW(te:TE)(g:TG):TS:=λD σ H=>te σ H λx a=>g x σ a D.nx
def Yj{g:TG}(a:PE X e te)(b:PG X tg g)(c:swapsWithSole [tg] e pos.line X.env=pure false:=by rfl)(d:swappedStores [tg] e X.env=pure none:=by rfl)
  (f:(assignEach [tg] X.env).map (·.2)=[assign tg X.env]:=by rfl):PS X (.Assign [tg] e pos) (uW te g):=by
 intro O s σ H D I h;refine wpAny_Assign_stores (aO (a O s σ H _ I h) λv i⟨x,j,k,l,m⟩=>?_) c d;rw[f];exact aO (b O i σ j x v _ k l m) λ_ n q=>q
def Yk(a:X.N.Nodup)(b:X.N[i]?=some x)(c:AL X.env.scope x)(d:PE X e te)(f:swapsWith e (some<|.Name x pos') pos.line X.env=pure false:=by rfl)(j:X.fn x=true\/X.env.scope.names.lookup x=some .local:=by first|exact .inl rfl|exact .inr rfl|assumption):
  PS X (.Assign [.Name x pos'] e pos) (uW te<|Oz i):=by
 intro O s σ H D I h;refine wpAny_Assign_Name (aO (d O s σ H _ I h) λv p⟨y,k,l,m,n⟩=>?_) f;exact Ow l a b c m (λq o=>⟨_,k,o,n⟩) j
def Yl(c:TT)(tb:TS):TS:=λD σ H=>∃W:Nat->St->Hp->Prop,(∃m,W m σ H)/\∀m σ H,W m σ H ->
 c σ H λb d=>if b=true then ∃N:St->Hp->Prop,(∀a H',N a H'->∃e,e<m/\W e a H')/\tb {D with nx:=N,ct:=N,bk:=D.nx} σ d else D.nx σ d
theorem Ym(r:PassesOwn (model X.U X.w) X.A X.env X.xe)(y:PT X c tc)(z:jz X body tb):PS X (.While c body [] pos) (Yl tc tb):=by
 intro O s σ H D I h;obtain⟨W,⟨A,B⟩,turn⟩:=h;refine wpAny_While<|codeAny_whileLoop (λn s'=>∃e H',be X O e H' s'/\W n e H') ?_ A ⟨σ,H,I,B⟩;rintro n C ⟨d,t,E,G⟩;refine JB r<|aO (y O C d t _ E<|turn n d t G) λb J⟨u,w,j⟩=>?_;cases b with
 |true=>
  obtain⟨N,x,j⟩:=j;rw[BP rfl];refine JB r<|aO (z O J d u _ w j) λf L k=>?_;cases f with
  |next=>
   obtain⟨a,i,l,m⟩:=k;obtain⟨o,p,q⟩:=x a i m;exact⟨o,p,a,i,l,q⟩
  |cont=>
   obtain⟨a,i,l,m⟩:=k;obtain⟨o,p,q⟩:=x a i m;exact⟨o,p,a,i,l,q⟩
  |brk=>exact k
  |ret v=>exact k
 |false=>
  rw[BL Aw];exact SM ⟨d,u,w,j⟩
end
structure It where
 go:Nat->Hp->Prop
 uX:Nat->Hp->V->Hp->Prop
 stop:Nat->Hp->Prop
def cr(X:Cx)(O:Ï)(H:Hp)(b:Addr):Prop:=
 H b=none/\b≠X.env.locals/\b∉X.fs/\(b∈X.ex\/X.æ.heap.objs.size<=b)/\(∀x c,(X.env.cells.lookup x)=some c->c≠b)/\∀p∈X.pn++O,p.1≠b
def be.jA(I:(be X O σ H s))(a:s.heap.objs.size<=b)(d:H' b=none):cr X O H' b:=by
 refine⟨d,Cz<|Bq I.lt a,I.DV a,.inr<|Ch I.sz a,λx c e z=>?_,λp f z=>?_⟩
 ·obtain⟨v,q⟩:=I.cell x c e;exact absurd (Bq q.lt<|by rwa[z])<|De _
 ·exact absurd (Bq (Av (I.pin p f).1)<|by rwa[z])<|De _
structure ue(P:Program)(w:World)(K:aa)(tg:Expr)(J:It)(fp:(List Addr))(it:Addr)(tn:Nat->Heap->Prop):Prop where
 mem:it∈fp
 obj:∀i h,tn i h->∀b∈fp,∃o,h.get? b=some o/\∀v,o.data ≠ .cell v
 keep:∀i h h',tn i h->(∀b∈fp,∀o,h.get? b=some o->h'.get? b=some o)->tn i h'
 item:∀X,X.U=P->X.w=w->X.K=K->X.calm=true->∀i O s σ H E,(be X O σ H s)->(∀b∈fp,cr X O H b)->tn i s.heap->J.go i H ->
  wpAny (model P w) X.A (pyNext<|.ref it) (λr s1=>∃ u,r=some u /\
   wpAny (model P w) X.A (letOwnedTupleGo tg (.ref it) u) (λ_ s2=>∃x H',be X O σ H' s2/\cc x u/\J.uX i H x H'/\tn (i+1) s2.heap/\∀b∈fp,H' b=none) E s1) E s
 done:∀X,X.U=P->X.w=w->X.K=K->X.calm=true->∀i O s σ H E,(be X O σ H s)->(∀b∈fp,cr X O H b)->tn i s.heap->J.stop i H ->
  wpAny (model P w) X.A (pyNext<|.ref it) (λr s1=>r=none/\be X O σ H s1) E s
 self:∀A i s Q E,tn i s.heap->Q (.ref it) s->ba P w A (pyIter<|.ref it) Q E s
abbrev TI:=St->Hp->(It->Hp->Prop)->Prop
def OC(X:Cx)(O:Ï)(σ:St)(tg:Expr)(R:It->Hp->Prop)(e:Value)(a:Shared):Prop:=
 ∃it c d J H',e=.ref it/\be X O σ H' a/\ue X.U X.w X.K tg J c it d/\d 0 a.heap/\(∀b∈c,cr X O H' b)/\R J H'
def PI(X:Cx)(tg iter:Expr)(a:TI):Prop:=
 ∀O s σ H R,(be X O σ H s)->a σ H R ->
  (ar X) (eval iter X.env) (λv b=>(ar X) (pyIter v) (OC X O σ tg R) X.xe b) X.xe s
def EB{it:Addr}{n:String}{vs:Array Value}{Q:Unit->Shared->Prop}(b:s.heap.get? it=some o)(c:o.cls=.type n)(hd:o.data=.fields vs)
    (d:["enumerate","zip","dict_itemiterator","dict_reverseitemiterator","odict_iterator","itertools.zip_longest","itertools.pairwise"].contains n=false) (a:Q () s):wpAny M A (letOwnedTupleGo tg (.ref it) u) Q E s:=by
  unfold letOwnedTupleGo;cases tg<;>first
    |exact BK a
    | (cases u <;> first
        |exact BK a
        | (refine BJ<|wpAny_load b ?_
           rw[c,hd];show wpAny M A (if(["enumerate","zip","dict_itemiterator","dict_reverseitemiterator","odict_iterator","itertools.zip_longest","itertools.pairwise"].contains n && vs[0]? == some (rawInt _))=true then _ else _) Q E s;rw[BL<|by intro h;rw[d,Gq]at h;cases h];exact BK a))
def pY(K:aa)(a:Addr):It:=
 ⟨λi H=>∃xs x,au K H a xs/\xs[i]?=some x,λi H x H'=>H'=H/\∀xs,au K H a xs->xs[i]?=some x,λi H=>∃xs,au K H a xs/\xs.length<=i⟩
def Yn(K:aa)(a:Addr):It:=
 ⟨λi H=>∃xs x,aQ K H a xs/\xs[i]?=some x,λi H x H'=>H'=H/\∀xs,aQ K H a xs->xs[i]?=some x,λi H=>∃xs,aQ K H a xs/\xs.length<=i⟩
def sY(lo:Int)(n:Nat):It:=⟨λi _=>i<n,λi H x H'=>H'=H/\x=.int (lo+i),λi _=>n<=i⟩
theorem Yo(a it:Addr):ue P w K tg (pY K a) [it] it (λi h=>h.IsListIter it a i) where
 mem:=by simp
 obj:=λi h st b hb=>by
  have e:b=it:=by simpa using hb
  subst e;obtain⟨o,e,c,d⟩:=st;exact⟨o,e,λv z=>by rw[d]at z;cases z⟩
 keep:=λi h h' st k=>st.at λo e=>k it (by simp) o e
 item:=by
  intro X hP hw hK hc i O s σ H E I hf st hg;subst hP hw hK;obtain⟨xs,x,hq,hx⟩:=hg;obtain⟨è,rv,p,hz⟩:=I.list hq;obtain⟨u,hu,ru⟩:=rv.get hx;obtain⟨f0,f1,f2,f3,f4,f5⟩:=hf it (by simp);refine wpAny_pyNext_list_item st p.isList (by simpa using hu) λh' dX sb=>?_;have I1:=I.turned (t':=s.toks) (λb o hb e=>(sb.2 b hb).trans e) f0 f1 f3 f4 f5;obtain⟨o,e,c,d⟩:=id dX;exact⟨u,rfl,EB e c d (by decide) ⟨x,H,I1,ru,⟨rfl,λys hy=>by rw[I.cY hy hq];exact hx⟩,dX,λb hb=>(hf b hb).1⟩⟩
 done:=by
  intro X hP hw hK hc i O s σ H E I hf st hg;subst hP hw hK;obtain⟨xs,hq,hx⟩:=hg;obtain⟨è,rv,p,hz⟩:=I.list hq;obtain⟨f0,f1,f2,f3,f4,f5⟩:=hf it (by simp);have hl:=rv.length;exact wpAny_pyNext_list_end (I.ok.hd hc) st p.isList (by simp;omega) λh' eb=>⟨rfl,I.turned (t':=s.toks) (λb o hb e=>eb b o hb e) f0 f1 f3 f4 f5⟩
 self:=λ_ _ _ _ _ st h=>wpAny_pyIter_listiter st h
theorem Yp(it:Addr)(lo:Int)(n:Nat):ue P w K tg (sY lo n) [it] it (λi h=>IsRangeIter h it (lo+(i:Nat)*1) ((n:Int)-(i:Nat)) 1) where
 mem:=by simp
 obj:=λi h st b hb=>by
  have e:b=it:=by simpa using hb
  subst e;exact⟨_,st,λv z=>by
   have z':=z;cases z'⟩
 keep:=λi h h' st k=>k it (by simp) _ st
 item:=by
  intro X hP hw hK hc i O s σ H E I hf st hg;subst hP hw hK;obtain⟨f0,f1,f2,f3,f4,f5⟩:=hf it (by simp);have W:=Walks.range (prog:=X.U) (w:=X.w) (I.ok.hd hc) it lo 1 n;refine W.item i s _ _ hg st λv h' tk hv dX kk=>?_;obtain⟨t,rfl⟩:=hv;have I1:be X O σ H {s with heap:=h',toks:=tk}:=I.turned (λb o hb e=>kk b o (by simpa using hb) e) f0 f1 f3 f4 f5;refine⟨_,rfl,EB (s:={s with heap:=h',toks:=tk}) (n:= "range_iterator") dX rfl rfl (by decide) ⟨.int<|lo+i,H,I1,⟨t,?_⟩,⟨rfl,rfl⟩,dX,λb hb=>(hf b hb).1⟩⟩;rw[Int.mul_one]
 done:=by
  intro X hP hw hK hc i O s σ H E I hf st hg;subst hP hw hK;obtain⟨f0,f1,f2,f3,f4,f5⟩:=hf it (by simp);exact wpAny_pyNext_range_end (I.ok.hd hc) st (by have:n<=i:=hg;omega) λh' eb=>⟨rfl,I.turned (t':=s.toks) (λb o hb e=>eb b o hb e) f0 f1 f3 f4 f5⟩
 self:=λ_ _ _ _ _ st h=>wpAny_pyIter_rangeiter st h
variable{fp:(List Addr)}{p:Addr×Obj}{iter:Expr}
def Yq(K:aa)(c:TE):TI:=λσ H R=>c σ H λx b=>∃a,x=.ref a/\(∃xs,au K b a xs)/\R (pY K a) b
def gD{l:Expr}{f:TE}(i:PE X l f):PI X tg l (Yq X.K f):=by
 intro O s σ H R I h;refine aO (i O s σ H _ I h) λv d⟨x,j,c,k,m⟩=>?_;obtain⟨a,e,⟨xs,n⟩,q⟩:=m;subst e;cases k;obtain⟨t,u,p,w⟩:=c.list n;refine RJ p.isList<|⟨d.heap.objs.size,[d.heap.objs.size],_,_,j,rfl,c.kept λb o e=>Aj _ e,Yo a _,⟨_,At _ rfl,rfl,rfl⟩,λb r=>?_,q⟩;have e:b=d.heap.objs.size:=by simpa using r
 subst e;exact c.jA (An _)<|c.aH.fresh<|An _
theorem Yr{R:It->Hp->Prop}{lo a:Int}{t u v:Tok}{d:Nat}(I:(be X O σ H s))(f:-(2 ^ 62)<=lo)(h:lo<2 ^ 62)(i:-(2 ^ 62)<=a)(j:a<2 ^ 62)
  (q:R (sY lo (a-lo).toNat) H):(ar X) (pyIter<|.ref s.heap.objs.size) (OC X O σ tg R) E {s with heap:=s.heap.push {cls:= .type "range",data:= .fields #[.int lo t,.int a u,.int 1 v]},toks:=d}:=by
 refine wpAny_pyIter_range (IsRange.new ..) (small_one f h i j) ?_;have c:be X O σ H {s with heap:=s.heap.push {cls:= .type "range",data:= .fields #[.int lo t,.int a u,.int 1 v]},toks:=d}:=I.kept λb o e=>Aj _ e;refine⟨(s.heap.push {cls:= .type "range",data:= .fields #[.int lo t,.int a u,.int 1 v]}).objs.size,[(s.heap.push {cls:= .type "range",data:= .fields #[.int lo t,.int a u,.int 1 v]}).objs.size],_,_,H,rfl,
  c.kept λb o e=>Aj _ e,Yp _ lo (a-lo).toNat,?_,λb k=>?_,q⟩
 ·have l:lo+((0:Nat):Int)*1=lo:=by simp
  have m:(((a-lo).toNat:Nat):Int)-((0:Nat):Int)=Builtin.Range.rangeSize lo a 1:=by rw[rangeSize_one];split<;>omega
  show IsRangeIter _ _ (lo+((0:Nat):Int)*1) ((((a-lo).toNat:Nat):Int)-((0:Nat):Int)) 1;rw[l,m];exact At _ rfl
 ·have e:b=(s.heap.push {cls:= .type "range",data:= .fields #[.int lo t,.int a u,.int 1 v]}).objs.size:=by simpa using k
  subst e;exact c.jA (An _)<|c.aH.fresh<|An _
def OG(ta:TA):TI:=λσ H R=>ta σ H λa b=>∃j:Int,a=[.int j]/\-(2 ^ 62)<=j/\j<2 ^ 62/\R (sY 0 j.toNat) b
theorem OH{a:Expr}{ta:TA}{p pos:Pos}(c:Gl X "range")(d:X.mg "range" = none)(f:PA X [a] ta)(i:starEach [a] X.env=[(false,eval a X.env)]:=by rfl):PI X tg (.Call (.Name "range" p) [a] [] pos) (OG ta):=by
 intro O s σ H R I h;refine Call_<|mQ I c d boot_range<|IK (aO (f pos O s σ H _ I h) λo u⟨v,w,k,l,b⟩=>?_) i rfl;obtain⟨j,e,b,m,q⟩:=b;subst e;cases l with
 |cons r n=>
  cases n;obtain⟨t,rfl⟩:=r;exact call_range_1<|Yr k (by omega) (by omega) b m<|(by simpa using q)
def EC(d:TI)(g:TG)(tb:TS):TS:=λD σ H=>d σ H λJ e=>∃W:Nat->Nat->St->Hp->Prop,(∃m,W 0 m σ e)/\∀i m σ H,W i m σ H ->
 (J.stop i H/\D.nx σ H)\/(J.go i H/\∃N:St->Hp->Prop,(∀a H',N a H'->∃c,c<m/\W (i+1) c a H')/\∀x H',J.uX i H x H'->g x σ H' λb f=>tb {D with nx:=N,ct:=N,bk:=D.nx} b f)
def uY(fp:(List Addr))(h:Heap):Ï:=fp.filterMap λb=>(h.get? b).map λo=>(b,o)
def yT(a:b∈fp)(e:h.get? b=some o):(b,o)∈uY fp h:=Gk.mpr ⟨b,a,by rw[e];rfl⟩
theorem Ys(a:p∈uY fp h):p.1∈fp/\h.get? p.1=some p.2:=by
 obtain⟨b,c,e⟩:=Gk.mp a;cases q:h.get? b with
 |none=>rw[q]at e;cases e
 |some o=>
  rw[q]at e;have d:=Option.some.inj e;subst d;exact⟨c,q⟩
def be.pinned(I:(be X O σ H s))(f:∀b∈fp,cr X O H b)(h:∀b∈fp,∃o,s.heap.get? b=some o/\∀v,o.data ≠ .cell v):be X (O++uY fp s.heap) σ H s:=
 I.iZ λp i=>(Am.mp i).elim (λz=>I.pin p<|Au _ z) λz=>by
  obtain⟨a,e⟩:=Ys z;obtain⟨j,f1,f2,_⟩:=f p.1 a;obtain⟨o,c,d⟩:=h p.1 a;rw[e]at c;cases c;exact⟨e,j,f1,f2,d⟩
def be.cZ{a:Ï}(I:be X (O++a) σ H s):(be X O σ H s):=I.iZ λp b=>I.pin p<|Au _<|Bb _ b
def Yu{G:TI}{g:TG}{pos:Pos}(w:PassesOwn (model X.U X.w) X.A X.env X.xe)(L:X.calm=true)(hi:PI X tg iter G)(hg:PG X tg g)(c:jz X body tb)
  (hs:∀x,foldedSetIterable iter X.env x=pure x:=by intro _;rfl):PS X (.For tg iter body [] pos) (EC G g tb):=by
 intro O s σ H D I h;refine wpAny_For (aO (hi O s σ H _ I h) λv s1 h1=>aO h1 λoF s2 h2=>?_) hs;obtain⟨it,fp,M,J,H2,e,I2,T,gE,f2,W,⟨m0,w0⟩,turn⟩:=h2;subst e;have j:∀{H':Hp},(∀b∈fp,H' b=none)->∀b∈fp,cr X O H' b:=λhn b c=>⟨hn b c,(f2 b c).2⟩;refine codeAny_forLoop_any (λn s'=>∃i k H',be X O k H' s'/\M i s'.heap/\(∀b∈fp,H' b=none)/\W i n k H') ?_ m0 ⟨0,σ,H2,I2,gE,λb c=>(f2 b c).1,w0⟩;rintro n Q ⟨i,l,z,U,Y,OL,w3⟩
 obtain⟨stop,qn⟩|⟨go,N,hN,step⟩:=turn i n l z w3
 ·refine JB w<|aO (T.done X rfl rfl rfl L i O Q l z X.xe U (j OL) Y stop) λr s4⟨A,I4⟩=>?_;subst A;exact SM ⟨l,z,I4,qn⟩
 ·refine JB w<|aO (T.item X rfl rfl rfl L i O Q l z X.xe U (j OL) Y go) λr s4⟨u,A,h4⟩=>?_;subst A;refine JB w<|aO h4 λ_ s5⟨x,H5,I5,r5,y5,B,Yv⟩=>?_;have Yw:=I5.pinned (j Yv)<|T.obj _ _ B;refine JB w<|aO (hg _ s5 l H5 x u _ Yw r5<|step x H5 y5) λ_ s6⟨C,H6,I6,q6⟩=>?_;refine JB w<|aO (c _ s6 C H6 _ I6 q6) λf E t=>?_;have again:∀{a:St}{p:Hp},be X (O++uY fp s5.heap) a p E->N a p->∃m,m<n/\∃i k H',be X O k H' E/\M i E.heap/\(∀b∈fp,H' b=none)/\W i m k H':=λ{a p}q y=>by
   obtain⟨m',hm,w7⟩:=hN a p y;refine⟨m',hm,i+1,a,p,q.cZ,T.keep _ _ _ B λb c o e=>(q.pin (b,o)<|Au _<|Au _<|yT c e).1,λb c=>?_,w7⟩;obtain⟨o,e,d⟩:=T.obj _ _ B b c;exact(q.pin (b,o)<|Au _<|Au _<|yT c e).2.1
  cases f with
  |next=>obtain⟨a,p,q,y⟩:=t;exact again q y
  |cont=>obtain⟨a,p,q,y⟩:=t;exact again q y
  |brk=>obtain⟨a,p,q,t⟩:=t;exact⟨a,p,q.cZ,t⟩
  |ret v=>obtain⟨x7,a,p,q,r7,t⟩:=t;exact⟨x7,a,p,q.cZ,r7,t⟩
abbrev R2:=V->V->Hp->VK->Prop
def cX(X:Cx)(f:Value->Value->Sem Value)(r:R2):Prop:=
 ∀O s σ H x y v u Q,(be X O σ H s)->cc x v->cc y u->r x y H Q ->
  (ar X) (f v u) (EP X O σ Q) X.xe s
def yU(X:Cx)(f:Value->Sem Value)(r:V->Hp->VK->Prop):Prop:=
 ∀O s σ H x v Q,(be X O σ H s)->cc x v->r x H Q ->
  (ar X) (f v) (EP X O σ Q) X.xe s
def gR(X:Cx)(f:Value)(r:List V->Hp->VK->Prop):Prop:=
 ∀O s σ H xs a Q,(be X O σ H s)->ay xs a->r xs H Q ->
  (ar X) (call f a) (EP X O σ Q) X.xe s
def EE(X:Cx)(r:V->Hp->(Bool->Hp->Prop)->Prop):Prop:=
 ∀O s σ H x v Q,(be X O σ H s)->cc x v->r x H Q ->
  (ar X) (truthy v) (TP X O σ Q) X.xe s
def yV(r:R2)(ta tb:TE):TE:=λσ H Q=>ta σ H λx a=>tb σ a λy b=>r x y b Q
def Yx(r:V->Hp->VK->Prop)(ta:TE):TE:=λσ H Q=>ta σ H λx a=>r x a Q
def rI(C:Int->Int->Prop)(g:Int->Int->V):R2:=λx y H Q=>∃i j,x=.int i/\y=.int j/\C i j/\Q (g i j) H
def sZ(g:Int->Int->V):R2:=λx y H Q=>∃i j,x=.int i/\y=.int j/\Q (g i j) H
def rU(g:Int->V):V->Hp->VK->Prop:=λx H Q=>∃i,x=.int i/\Q (g i) H
variable{f:Value->Value->Sem Value}{C:Int->Int->Prop}{è us:Ò}
section
variable{a b:Expr}{tb tc:TE}{pos:Pos}
def p7(i:PE X a ta)(j:PE X b tb)(I:(be X O σ H s))
  (h:ta σ H λx e=>tb σ e λy c=>R x y c)  
  (k:∀v u d x y c,be X O σ c d->cc x v->cc y u->R x y c->(ar X) (f v u) Q X.xe d):
  (ar X) (eval a X.env) (λv l=>(ar X) (eval b X.env) (λu m=>(ar X) (f v u) Q X.xe m) X.xe l) X.xe s:=by
 refine aO (i O s σ H _ I h) λv n⟨x,e,o,p,q⟩=>?_;refine aO (j O n σ e _ o q) λu d⟨y,c,r,t,w⟩=>?_;exact k v u d x y c r p t w
def Yy{op:Operator}{r:R2}(c:cX X (binaryOp op) r)(d:PE X a ta)(e:PE X b tb):PE X (.BinOp a op b pos) (yV r ta tb):=by
 intro O s σ H Q I h;exact wpAny_BinOp<|p7 d e I h λv u f x y i j k l q=>c O f σ i x y v u Q j k l q
def Yz{op:UnaryOp}{r:V->Hp->VK->Prop}(b:yU X (unaryOp op) r)(c:PE X a ta):PE X (.UnaryOp op a pos) (Yx r ta):=by
 intro O s σ H Q I h;exact UnaryOp_<|aO (c O s σ H _ I h) λv d⟨x,e,f,i,j⟩=>b O d σ e x v Q f i j
def yW{g:Int->Int->Int}
  (rule:∀i j t u s Q E,C i j->Q (.int (g i j) s.toks) {s with toks:=s.toks+1}->(ar X) (f (.int i t)<|.int j u) Q E s):
  cX X f (rI C λi j=> .int<|g i j):=by
 intro O s σ H x y v u Q I a b h;obtain⟨i,j,rfl,rfl,c,q⟩:=h;obtain⟨t,rfl⟩:=a;obtain⟨t',rfl⟩:=b;exact rule i j t t' s _ _ c ⟨.int<|g i j,H,I.tok _,⟨_,rfl⟩,q⟩
def uZ{g:Int->Int->Int}
  (rule:∀i j t u s Q E,Q (.int (g i j) s.toks) {s with toks:=s.toks+1}->(ar X) (f (.int i t)<|.int j u) Q E s):
  cX X f (sZ λi j=> .int<|g i j):=by
 intro O s σ H x y v u Q I a b h;obtain⟨i,j,rfl,rfl,q⟩:=h;obtain⟨t,rfl⟩:=a;obtain⟨t',rfl⟩:=b;exact rule i j t t' s _ _ ⟨.int<|g i j,H,I.tok _,⟨_,rfl⟩,q⟩
def va{g:Int->Int->Bool}
  (rule:∀i j t u s Q E,Q (.bool<|g i j) s->(ar X) (f (.int i t)<|.int j u) Q E s):
  cX X f (sZ λi j=> .bl<|g i j):=by
 intro O s σ H x y v u Q I a b h;obtain⟨i,j,rfl,rfl,q⟩:=h;obtain⟨t,rfl⟩:=a;obtain⟨t',rfl⟩:=b;exact rule i j t t' s _ _ ⟨.bl<|g i j,H,I,rfl,q⟩
def vb(i j:Int):Prop:=0<j/\j<1073741824
def EF(i j:Int):Prop:=0<=j/\j<=1000000/\i.natAbs<2 ^ 64
def p8(i j:Int):Prop:=(-(2 ^ 64)<i/\i<2 ^ 64)\/(-(2 ^ 64)<j/\j<2 ^ 64)
def p8.ok{i j:Int}(h:p8 i j):IntMulOk i j:=by
 obtain⟨a,b⟩|⟨a,b⟩:=h
 ·exact .of_left<|intBits_le_64 a b
 ·exact .of_right<|intBits_le_64 a b
def iu:cX X (binaryOp .Add) (sZ λi j=> .int<|i+j):=uZ λ_ _ _ _ _ _ _ q=>add_int q
def YB:cX X (binaryOp .Sub) (sZ λi j=> .int<|i-j):=uZ λ_ _ _ _ _ _ _ q=>sub_int q
def yX:cX X (binaryOp .Mult) (rI p8 λi j=> .int<|i*j):=yW λ_ _ _ _ _ _ _ a q=>mul_int q a.ok
theorem jB:cX X (binaryOp .FloorDiv) (rI vb λi j=> .int<|i/j):=yW λi j _ _ _ _ _ a q=>by
 have b:(0:Int)<j:=a.1;have c:j<1073741824:=a.2;exact floordiv_int (by omega) (by rwa[Int.fdiv_eq_ediv_of_nonneg i<|(by omega)])<|.inl<|PyProof.noPylong_small<|(by omega)
theorem dh:cX X (binaryOp .Mod) (rI (λ_ j=>0<j) λi j=> .int<|i%j):=yW λi j _ _ _ _ _ a q=>by
 exact mod_int' (by omega)<|by rwa[Int.fmod_eq_emod_of_nonneg i<|(by omega)]
def OM:cX X (binaryOp .Pow) (rI EF λi j=> .int<|i ^ j.toNat):=yW λ_ _ _ _ _ _ _ a q=>pow_int_small a.1 a.2.1 a.2.2 q
def YC{f:Value->Sem Value}{g:Int->Int}
  (rule:∀i t s Q E,Q (.int (g i) s.toks) {s with toks:=s.toks+1}->(ar X) (f<|.int i t) Q E s):
  yU X f (rU λi=> .int<|g i):=by
 intro O s σ H x v Q I a h;obtain⟨i,rfl,q⟩:=h;obtain⟨t,rfl⟩:=a;exact rule i t s _ _ ⟨.int<|g i,H,I.tok _,⟨_,rfl⟩,q⟩
def OO:yU X (unaryOp .USub) (rU λi=> .int (-i)):=YC λ_ _ _ _ _ q=>neg_int q
def vd:V->V->Bool
 |.non,.non=>true|.non,.int _=>true|.int _,.non=>true|.non,.bl _=>true|.bl _,.non=>true|.non,.str _=>true|.str _,.non=>true
 |.int _,.int _=>true|.bl _,.bl _=>true|.str _,.str _=>true|.jy _,.jy _=>true
 |.int _,.str _=>true|.str _,.int _=>true|.bl _,.str _=>true|.str _,.bl _=>true
 |_,_=>false
def YD:R2:=λx y H Q=>vd x y=true/\Q (.bl<|decide (x=y)) H
def YF:R2:=λx y H Q=>vd x y=true/\Q (.bl (!decide (x=y))) H
def OQ{i j:Int}:decide (V.int i=V.int j)=(i == j):=by
 rw[Cf];simp
def yY{i j:Bool}:decide (V.bl i=V.bl j)=(i == j):=by
 rw[Cf];simp
def OS{i j:Str}:decide (V.str i=V.str j)=(i == j):=by
 rw[Cf];simp
def OT{i j:Array UInt8}:decide (V.jy i=V.jy j)=(i.toList == j.toList):=by
 rw[Cf];cases i;cases j;simp
def cT{Q:VK}{k a:Bool}(I:(be X O σ H s))(q:Q (.bl k) H)(e:k=a):EP X O σ Q (.bool a) s:=by
 subst e;exact⟨.bl k,H,I,rfl,q⟩
theorem fX:cX X (compareOp .Eq) YD:=by
 intro O s σ H x y v u Q I c a h;obtain⟨b,q⟩:=h;cases x with
 |non=>
  cases c;cases y with
  |non=>cases a;exact PySem.EqNone.eq_none_none<|cT I q<|by simp
  |bl j=>cases a;exact PySem.EqNone.eq_none_bool<|cT I q<|by simp
  |int j=>obtain⟨t',rfl⟩:=a;exact PySem.EqNone.eq_none_int<|cT I q<|by simp
  |str j=>obtain⟨t',rfl⟩:=a;exact PySem.EqNone.eq_none_str<|cT I q<|by simp
  |_=>exact absurd (show false=true from b) Aw
 |bl i=>
  cases c;cases y with
  |non=>cases a;exact PySem.EqNone.eq_bool_none<|cT I q<|by simp
  |bl j=>cases a;exact eq_bool<|cT I q yY
  |str j=>obtain⟨t',rfl⟩:=a;exact PySem.EqMixed.eq_bool_str<|cT I q<|by simp
  |_=>exact absurd (show false=true from b) Aw
 |int i=>
  obtain⟨t,rfl⟩:=c;cases y with
  |non=>cases a;exact PySem.EqNone.eq_int_none<|cT I q<|by simp
  |int j=>obtain⟨t',rfl⟩:=a;exact eq_int<|cT I q OQ
  |str j=>obtain⟨t',rfl⟩:=a;exact PySem.EqMixed.eq_int_str<|cT I q<|by simp
  |_=>exact absurd (show false=true from b) Aw
 |str i=>
  obtain⟨t,rfl⟩:=c;cases y with
  |non=>cases a;exact PySem.EqNone.eq_str_none<|cT I q<|by simp
  |bl j=>cases a;exact PySem.EqMixed.eq_str_bool<|cT I q<|by simp
  |int j=>obtain⟨t',rfl⟩:=a;exact PySem.EqMixed.eq_str_int<|cT I q<|by simp
  |str j=>obtain⟨t',rfl⟩:=a;exact eq_str<|cT I q OS
  |_=>exact absurd (show false=true from b) Aw
 |jy i=>
  obtain⟨t,rfl⟩:=c;cases y with
  |jy j=>obtain⟨t',rfl⟩:=a;exact PySem.W.eq_bytes<|cT I q OT
  |_=>exact absurd (show false=true from b) Aw
 |_=>cases y<;>exact absurd (show false=true from b) Aw
theorem tj:cX X (compareOp .NotEq) YF:=by
 intro O s σ H x y v u Q I c a h;obtain⟨b,q⟩:=h;cases x with
 |non=>
  cases c;cases y with
  |non=>cases a;exact PySem.EqNone.ne_none_none<|cT I q<|by simp
  |bl j=>cases a;exact PySem.EqNone.ne_none_bool<|cT I q<|by simp
  |int j=>obtain⟨t',rfl⟩:=a;exact PySem.EqNone.ne_none_int<|cT I q<|by simp
  |str j=>obtain⟨t',rfl⟩:=a;exact PySem.EqNone.ne_none_str<|cT I q<|by simp
  |_=>exact absurd (show false=true from b) Aw
 |bl i=>
  cases c;cases y with
  |non=>cases a;exact PySem.EqNone.ne_bool_none<|cT I q<|by simp
  |bl j=>cases a;exact ne_bool<|cT I q<|BZ not yY
  |str j=>obtain⟨t',rfl⟩:=a;exact PySem.EqMixed.ne_bool_str<|cT I q<|by simp
  |_=>exact absurd (show false=true from b) Aw
 |int i=>
  obtain⟨t,rfl⟩:=c;cases y with
  |non=>cases a;exact PySem.EqNone.ne_int_none<|cT I q<|by simp
  |int j=>obtain⟨t',rfl⟩:=a;exact ne_int<|cT I q<|BZ not OQ
  |str j=>obtain⟨t',rfl⟩:=a;exact PySem.EqMixed.ne_int_str<|cT I q<|by simp
  |_=>exact absurd (show false=true from b) Aw
 |str i=>
  obtain⟨t,rfl⟩:=c;cases y with
  |non=>cases a;exact PySem.EqNone.ne_str_none<|cT I q<|by simp
  |bl j=>cases a;exact PySem.EqMixed.ne_str_bool<|cT I q<|by simp
  |int j=>obtain⟨t',rfl⟩:=a;exact PySem.EqMixed.ne_str_int<|cT I q<|by simp
  |str j=>obtain⟨t',rfl⟩:=a;exact ne_str<|cT I q<|BZ not OS
  |_=>exact absurd (show false=true from b) Aw
 |jy i=>
  obtain⟨t,rfl⟩:=c;cases y with
  |jy j=>obtain⟨t',rfl⟩:=a;exact PySem.W.ne_bytes<|cT I q<|BZ not OT
  |_=>exact absurd (show false=true from b) Aw
 |_=>cases y<;>exact absurd (show false=true from b) Aw
def YG:cX X (compareOp .Lt) (sZ λi j=> .bl<|decide (i<j)):=va λ_ _ _ _ _ _ _ q=>lt_int q
def YH:cX X (compareOp .Gt) (sZ λi j=> .bl<|decide (j<i)):=va λ_ _ _ _ _ _ _ q=>gt_int q
def EG:cX X (compareOp .IsNot) (λx y H Q=>y=.non/\Q (.bl (!decide (x=.non))) H):=by
 intro O s σ H x y v u Q I a b h;obtain⟨rfl,q⟩:=h;cases b;refine isnot_none_gen<|cT I q ?_;cases x<;>first
  |(cases a;rfl)
  |(obtain⟨t,rfl⟩:=a;rfl)
def YJ{r:R2}(c:cX X (compareOp op) r)(d:PE X a ta)(e:PE X b tb)(f:behindInMarks op b=false):PE X (.Compare a [op] [b] pos) (yV r ta tb):=by
 intro O s σ H Q I h;exact wpAny_Compare1 (p7 d e I h λv u i x y j k l m q=>c O i σ j x y v u Q k l m q) f
def YK(t:TE):TT:=λσ H Q=>t σ H λx H'=>∃k,x=.bl k/\Q k H'
def YL{r:R2}(d:cX X (compareOp op) r)(f:PE X a ta)(i:PE X b tb)(j:behindInMarks op b=false):PT X (.Compare a [op] [b] pos) (YK<|yV r ta tb):=by
 intro O s σ H Q I h;refine wpAny_isTrue_Compare1 (aO (f O s σ H _ I h) λv l⟨x,m,n,o,p⟩=>aO (i O l σ m _ n p) λu q⟨y,t,w,A,B⟩=>
  aO (d O q σ t x y v u _ w o A B) λc J⟨z,C,D,E,k,e,G⟩=>?_) j
 subst e;cases E;exact EY ⟨C,D,G⟩
def p9(K:aa)(x:V)(H:Hp)(k:Bool):Prop:=
 match x with
 |.non=>k=false
 |.bl b=>k=b
 |.int i=>k=(i != 0)
 |.str y=>y.length<=sizeLine/\k=((y.length:Int) != 0)
 |.jy y=>y.size<=sizeLine/\k=((y.size:Int) != 0)
 |.ref p=>(∃xs,au K H p xs/\k = !xs.isEmpty)\/(∃xs,aQ K H p xs/\k = !xs.isEmpty)\/∃Y,H p=some (.dK Y)/\k = !Y.isEmpty
 |_=>False
def YM{κ:Type}{Y:List (κ×V)}{vs:List (κ×Value)}(r:KV Y vs):(!vs.isEmpty) = !Y.isEmpty:=by
 cases r<;>rfl
def OU(r:ay xs è):(!è.toArray.isEmpty) = !xs.isEmpty:=by
 cases r<;>simp
def ve:(sizeLine:Nat)<2 ^ 63:=by rw[DX];decide
theorem YN:EE X (λx H Q=>∃k,p9 X.K x H k/\Q k H):=by
 intro O s σ H x v Q I d h;obtain⟨k,e,q⟩:=h;have w:sizeLine=16777216:=DX;cases x with
 |non=>
  cases d;have a:=e;subst a;exact truthy_none ⟨H,I,q⟩
 |bl b=>
  cases d;have a:=e;subst a;exact EY ⟨H,I,q⟩
 |int i=>
  obtain⟨t,rfl⟩:=d;have a:=e;subst a;exact PySem.P.truthy_int ⟨H,I,q⟩
 |str y=>
  obtain⟨t,rfl⟩:=d;obtain⟨o,a⟩:y.length<=sizeLine/\k=((y.length:Int) != 0):=e;subst a;exact PySem.P.truthy_str (by omega) ⟨H,I.tok _,q⟩
 |jy y=>
  obtain⟨t,rfl⟩:=d;obtain⟨o,a⟩:y.size<=sizeLine/\k=((y.size:Int) != 0):=e;subst a;exact PySem.W.truthy_bytes (by omega) ⟨H,I.tok _,q⟩
 |ref p=>
  cases d;have a:(∃xs,au X.K H p xs/\k = !xs.isEmpty)\/(∃xs,aQ X.K H p xs/\k = !xs.isEmpty)\/∃Y,H p=some (.dK Y)/\k = !Y.isEmpty:=e
  obtain⟨xs,f,a⟩|⟨xs,f,a⟩|⟨Y,f,a⟩:=a
  ·subst a;obtain⟨è,r,l,n⟩:=I.list f;have c:=r.length;exact wpAny_truthy_list l.isList (by simp only[Ay];omega) ⟨H,I.tok _,by rwa[OU r]⟩
  ·subst a;obtain⟨è,r,l,n⟩:=I.tuple f;have c:=r.length;exact truthy_tuple l (by simp only[Ay];omega) ⟨H,I.tok _,by rwa[OU r]⟩
  ·subst a;obtain⟨n,u,j,r,m⟩:Y.length<=sizeLine/\(p == sysModules)=false/\∃j,KV Y j/\s.heap.DictOf (bX X.U X.w) p j:=I.aH p _ f;have c:Y.length=j.length:=Paired.length r;exact wpAny_truthy_dict u m (by omega) ⟨H,I.tok _,by rwa[YM r]⟩
 |_=>exact(show False from e).elim
def YQ(b:PE X a ta)(c:∀whole,isTrue a X.env whole=(do let v <-whole;standAt a.pos;holding [v] (truthy v))):
  PT X a (λσ H Q=>ta σ H λx H'=>∃k,p9 X.K x H' k/\Q k H'):=by
 intro O s σ H Q I h;exact isTrue_plain (aO (b O s σ H _ I h) λv d⟨x,e,f,i,j⟩=>YN O d σ e x v Q f i j)<|c _
def YR:cX X (binaryOp .Add) (λx y H Q=>∃i j,x=.str i/\y=.str j/\i.length+j.length<=sizeLine/\Q (.str<|i++j) H):=by
 intro O s σ H x y v u Q I a b h;obtain⟨i,j,rfl,rfl,c,q⟩:=h;obtain⟨t,rfl⟩:=a;obtain⟨t',rfl⟩:=b;exact add_str (λt' d=>⟨.str<|i++j,H,I.tok _,⟨_,rfl⟩,q⟩) c
theorem ma{x:V}(r:ay [x] us):∃u,us=[u]/\cc x u:=by
 cases r with
 |cons a b=>cases b;exact⟨_,rfl,a⟩
theorem xb{x y:V}(r:ay [x,y] us):∃u a,us=[u,a]/\cc x u/\cc y a:=by
 cases r with
 |cons b c=>
  cases c with
  |cons d e=>cases e;exact⟨_,_,rfl,b,d⟩
def OV(b:X.calm=true):gR X (.builtin "max") (λxs H Q=>∃i j,xs=[.int i,.int j]/\Q (.int (if j>i then j else i)) H):=by
 intro O s σ H xs us Q I r h;obtain⟨i,j,rfl,q⟩:=h;obtain⟨u,c,rfl,⟨t,rfl⟩,⟨t',rfl⟩⟩:=xb r;refine max_two_ints (I.ok.hd b) λh' d k=>⟨_,H,I.kept k,?_,q⟩
 by_cases a:j>i
 ·rw[BP a,BP a];exact⟨_,rfl⟩
 ·rw[BL a,BL a];exact⟨_,rfl⟩
end
structure qb(h:Heap)(x dx C:Addr)(mA:Ñ):Prop where
 obj:h.get? x=some (PySem.W.instObj C dx)
 ns:h.Ns1 dx mA
 ne:dx≠x
variable{mA:Ñ}{dx:Addr}
def YS(n:h.Ns1 dx mA):∃b,h.get? dx=some b/\∀name,PySem.W.lookIn name b=some (mA name):=by
 obtain⟨o,es,l,c,hd,d,_,f⟩:=n;refine⟨o,c,λname=>?_⟩;have e:=f name;unfold nsFind findBy at e;rw[<-Array.find?_toList]at e;unfold PySem.W.lookIn;rw[hd]
 dsimp only
 split
 ·rename_i y q;rw[q]at e;exact BZ some e
 ·rename_i q;rw[q]at e;have a:es.toList.any (·.refKey)=false:=by
   rw[List.any_eq_false];intro y i;obtain⟨z,t,j⟩:=d y<|Array.mem_toList_iff.mp i;simp[DictEntry.refKey,j]
  have k:¬ es.toList.any (·.refKey)=true:=by rw[a];exact Aw
  rw[BL k];exact BZ some e
def qb.look{x C:Addr}(I:qb h x dx C mA):∃a,PySem.W.InstAt h x (PySem.W.instObj C dx) C (some a)/\∀name,PySem.W.lookIn name a=some (mA name):=
 let ⟨a,b,c⟩:=YS I.ns
 ⟨a,⟨I.obj,rfl,rfl,b⟩,c⟩
variable{name:Str}{U:Program}
theorem d3.some_of{o:Option Value}(r:d3 (some v) o):∃u,o=some u/\cc v u:=by
 cases o with
 |none=>exact(show False from r).elim
 |some u=>exact⟨u,rfl,r⟩
section
variable{C:Addr}{fs XM:List (Str×V)}
def YT(b:cn P w H h)(e:H a=some (.ins C dx fs)):∃mA,qb h a dx C mA/\(∀f,d3 (fs.lookup f)<|mA f)/\PySem.Within mA (fs.map (·.1))/\fs.length<=1000/\H dx=some (.own a):=by
 obtain⟨d,z,ne,c,mA,n,r,q⟩:=(show aB P w H h a (.ins C dx fs)from b a _ e);exact⟨mA,⟨c,n,ne⟩,r,q,z,d⟩
end
structure EI(K:aa)(C:Addr):Prop where
 pg:PySem.W.plainGet K C Str.empty=true
 hd:PySem.W.hasDictIn K C=true
 po:PySem.W.plainOver K C=true
 sa:PySem.W.findIn K (.ref C) "__setattr__" = some (some<|.builtin "object.__setattr__")
def EI.get{K:aa}{C:Addr}(c:EI K C)(f:Str):PySem.W.plainGet K C f=true:=c.pg
section
variable{c:Value}{b:Bool}
inductive du(K:aa)(H:Hp):V->Value->Prop where
 |non:du K H .non<|.type "NoneType"
 |bl (x:Bool):du K H (.bl x)<|.type "bool"
 |int (i:Int):du K H (.int i)<|.type "int"
 |str (x:Str):du K H (.str x)<|.type "str"
 |sR (x:UInt64):du K H (.sR x)<|.type "float"
 |lst {a:Addr} {xs:List V} (e:H a=some (.lst xs)):du K H (.ref a)<|.type "list"
 |b7 {a:Addr} {o:Obj} {xs:List V} (e:H a=some (.b7 o<|.lst xs)):du K H (.ref a)<|.type "list"
 |tup {a:Addr} {xs:List V} (e:H a=some (.tup xs)):du K H (.ref a)<|.type "tuple"
 |dK {a:Addr} {Y:List (Key×V)} (e:H a=some (.dK Y)):du K H (.ref a)<|.type "dict"
 |dT {a:Addr} {Y:List (List Key×V)} (e:H a=some (.dT Y)):du K H (.ref a)<|.type "dict"
 | ins {a C dx:Addr} {fs:List (Str×V)} (e:H a=some (.ins C dx fs)) (cl:EI K C) (ha:PySem.W.findIn K (.ref C) "__class__" = some (some<|.builtin "object.__class__"))
   (hn:PySem.W.specialIn K (.builtin "object.__class__") "__get__" = some (some<|.builtin "getset_descriptor.__get__")) (OW:PySem.W.takesIn K (.builtin "object.__class__")=some true)
   (hm:PySem.W.mroIn K C (.type "object")=some true):du K H (.ref a)<|.ref C
theorem YV{x:V}{t:Value}(I:(be X O σ H s))(d:cc x u)(ty:du X.K H x t)(e:PySem.W.kitOne X.K t c=some b)(h:∀m,Q (.bool b) {s with toks:=m}):
  wpAny (model X.U X.w) A (call (.builtin "isinstance") [u,c]) Q E s:=by
 cases ty with
 |non=>cases (show u=Value.none from d);exact FJ PySem.W.kitx_none I.gQ True.intro e (λz=>nomatch z) h
 |bl y=>cases (show u=Value.bool y from d);exact FJ PySem.W.kitx_bool I.gQ True.intro e (λz=>nomatch z) h
 |int i=>obtain⟨t,q⟩:=(show ∃t,u=Value.int i t from d);cases q;exact FJ PySem.W.kitx_int I.gQ True.intro e (λz=>nomatch z) h
 |str y=>obtain⟨t,q⟩:=(show ∃t,u=Value.str y t from d);cases q;exact FJ PySem.W.kitx_str I.gQ True.intro e (λz=>nomatch z) h
 |sR y=>obtain⟨t,q⟩:=(show ∃t,u=Value.float y t from d);cases q;exact FJ PySem.W.kitx_float I.gQ True.intro e (λz=>nomatch z) h
 | @lst a xs f=>
  cases (show u=Value.ref a from d);obtain⟨_,_,n,_,j⟩:=(show aB X.U X.w H s.heap a (.lst xs)from I.aH a _ f);exact FJ PySem.W.kitx_list I.gQ ⟨_,j,rfl⟩ e (λz=>nomatch z) h
 | @b7 a r xs f=>
  cases (show u=Value.ref a from d);obtain⟨_,_,_,n,_,j⟩:=(show aB X.U X.w H s.heap a (.b7 r<|.lst xs)from I.aH a _ f);exact FJ PySem.W.kitx_list I.gQ ⟨_,j,rfl⟩ e (λz=>nomatch z) h
 | @tup a xs f=>
  cases (show u=Value.ref a from d);obtain⟨_,_,_,p⟩:=(show aB X.U X.w H s.heap a (.tup xs)from I.aH a _ f);obtain⟨o,j,k,_⟩:=p;exact FJ PySem.W.kitx_tuple I.gQ ⟨o,j,k⟩ e (λz=>nomatch z) h
 | @dK a Y f=>
  cases (show u=Value.ref a from d);obtain⟨_,_,M,_,p⟩:=(show aB X.U X.w H s.heap a (.dK Y)from I.aH a _ f);obtain⟨o,es,v,j,k,_⟩:=p;exact FJ PySem.W.kitx_dict I.gQ ⟨o,j,k.1⟩ e (λz=>nomatch z) h
 | @dT a Y f=>
  cases (show u=Value.ref a from d);obtain⟨_,_,xs,_,o,es,v,j,k,_⟩:=(show aB X.U X.w H s.heap a (.dT Y)from I.aH a _ f);exact FJ PySem.W.kitx_dict I.gQ ⟨o,j,k.1⟩ e (λz=>nomatch z) h
 | @ins a C dx N f l w B D G=>
  cases (show u=Value.ref a from d);obtain⟨mA,L,_⟩:=YT I.aH f;obtain⟨T,J,_⟩:=L.look;exact FJ (PySem.W.kitx_own (l.get _) l.hd w B D G) I.gQ J e (λz=>nomatch z) h
end
structure bH(k:Nat)(A:Around):Prop where
 hd:A.handled=none
 dp:A.depth+3*k+5<recursionLimit
 un:A.units+16*k+200<cLine
theorem bH.mono{j k:Nat}(r:bH k A)(h:j<=k):bH j A:=⟨r.hd,by have:=r.dp;omega,by have:=r.un;omega⟩
theorem bH.deeper{k:Nat}{A:Around}(r:bH (k+1) A)(env:Env):bH k (A.deeper env):=
 ⟨r.hd,by have:=r.dp;show A.depth+1+3*k+5<_;omega,by have:=r.un;show A.units+3+16*k+200<_;omega⟩
theorem bH.depth{k:Nat}{A:Around}(r:bH k A):A.depth<recursionLimit:=by have:=r.dp;omega
def EJ:TA:=λ_ H Q=>Q [] H
def OX(ta:TE)(a:TA):TA:=λσ H Q=>ta σ H λx b=>a σ b λxs c=>Q (x :: xs) c
section
variable{t:TA}{pos:Pos}
def YW:PA X [] EJ:=λ_ _ _ _ H Q I h=>Calls.spliced_nil ⟨[],H,I,.nil,h⟩
def YX(a:PE X e te)(b:PA X es t)(c:starEach (e :: es) X.env=(false,eval e X.env):: starEach es X.env:=by rfl):PA X (e :: es) (OX te t):=by
 intro pos O s σ H Q I h;rw[c];show wpAny _ _ (spliced<|(false,eval e X.env):: backTo pos (starEach es X.env)) _ _ s;refine Calls.spliced_cons<|aO (a O s σ H _ I h) λu d⟨x,f,i,j,k⟩=>?_;exact aO (b pos O d σ f _ i k) λus p⟨xs,l,m,n,o⟩=>⟨x :: xs,l,m,.cons j n,o⟩
def EK(t:TA):TE:=λσ H Q=>t σ H λxs a=>xs.length<=sizeLine/\∀p,a p=none->Q (.ref p) (upd a p<|.tup xs)
def EL(t:TA):TE:=λσ H Q=>t σ H λxs a=>xs.length<=sizeLine/\∀p,a p=none->Q (.ref p) (upd a p<|.lst xs)
def YY{d}(h:PA X es t):PE X (.Tuple es d pos) (EK t):=by
 intro O s σ H Q I f;refine wpAny_Tuple_spliced (aO (h pos O s σ H _ I f) λus a⟨xs,i,c,r,z,q⟩=>⟨by rwa[<-r.length],?_⟩);have j:=c.aH.fresh<|An _;refine⟨.ref a.heap.objs.size,upd i a.heap.objs.size<|.tup xs,c.laid (λb u e=>Aj _ e) (An _) ?_,rfl,q _ j⟩;exact⟨z,us,r,⟨_,At _ rfl,rfl,_,rfl⟩⟩
def YZ(h:PA X es t):PE X (.List es pos) (EL t):=by
 intro O s σ H Q I d;refine wpAny_List_spliced (aO (h pos O s σ H _ I d) λus a⟨xs,f,c,r,z,q⟩=>⟨by rwa[<-r.length],?_⟩);have i:=c.aH.fresh<|An _;refine⟨.ref a.heap.objs.size,upd f a.heap.objs.size<|.lst xs,c.laid (λb u e=>Aj _ e) (An _) ?_,rfl,q _ i⟩;exact⟨z,us,0,r,At _ rfl⟩
end
abbrev Sp:=List V->Hp->VK->XK->Prop
abbrev lT:=List Env->Hp->Shared->XK->Í
structure mR(P:Program)(w:World)(K:aa)(mg:Ñ)(Z:Heap)(A:Around)(outer:List Env)(s:Shared)(H:Hp):Prop where
 frames:A.frames=some outer
 mod:AR K mg Z
 bs:∀b o,Z.get? b=some o->s.heap.get? b=some o/\H b=none
 oA:Z.objs.size<=s.heap.objs.size
 d6:s.heap.FunFrames Z outer
 sV:∀b∈fe outer,H b=none
 aH:cn P w H s.heap
 bare:AllBare s.gens
def CE(outer:List Env)(P:Program)(w:World)(H:Hp)(s:Shared)(Q:VK)(u:Value)(s':Shared):Prop:=
 ∃v H',s'.os=s.os/\AllBare s'.gens/\Un (fe outer) [] H H' s.heap s'.heap/\cn P w H' s'.heap/\cc v u/\Q v H'
def CR(CX:lT)(outer:List Env)(P:Program)(w:World)(H:Hp)(s:Shared)(Q:VK)(E:XK)(r:Result)(s':Shared):Prop:=
 match r with
 |.ok (.ret u)=>CE outer P w H s Q u s'
 |.ok _=>False
 |.error e=>CX outer H s E e s'
structure aE(P:Program)(w:World)(K:aa)(mg:Ñ)(Z:Heap)(CX:lT)(k:Nat)(f:Addr)(fd:FuncData)(ps:Ð)(sp:Sp):Prop where
 len:∀vs H Q E,sp vs H Q E->vs.length=ps.length
 run:∀(A:Around)(outer:List Env)(s:Shared)(H:Hp)(args:Args)(us:Ò)(vs:List V)(Q:VK)(E:XK),bH k A->mR P w K mg Z A outer s H->BindsTo s fd args (ps.zip us)->ay vs us->sp vs H Q E ->
  codeAny (model P w) A (.call (.ref f) args) (CR CX outer P w H s Q E) s
def aE.mono{P:Program}{w:World}{K:aa}{mg:Ñ}{Z:Heap}{CX:lT}{j k:Nat}{f:Addr}{b:FuncData}{ps:Ð}{sp:Sp}(F:aE P w K mg Z CX j f b ps sp)(h:j<=k):
  aE P w K mg Z CX k f b ps sp:=⟨F.len,λA a s H args us c Q E d=>F.run A a s H args us c Q E<|d.mono h⟩
def be.ER(I:(be X O σ H s)):mR X.U X.w X.K X.mg X.Z X.A X.stack s H:=
 ⟨I.ok.frames,I.ok.mod,I.bs,Ch I.ok.oA I.sz,I.stack,I.dW,I.aH,I.bare⟩
def be.after{Q:VK}(I:(be X O σ H s))(h:CE X.stack X.U X.w H s Q u s'):EP X O σ Q u s':=by
 obtain⟨v,H',os,a,un,c,r,q⟩:=h;obtain⟨f,g,d,t,e⟩:=s';obtain rfl:e=s.os:=os;exact⟨v,H',I.call un c a (λb z=>absurd z<|by simp),r,q⟩
def OY(sp:Sp)(a:List V)(E:XK)(t:TA):TE:=λσ H Q=>t σ H λb c=>sp (b++a) c Q E
def pi(K:aa)(b:FuncData)(ps:Ð)(a:Ò):Prop:=
 ∀(s:Shared)(us:Ò),K.In s.heap->(us++a).length=ps.length->BindsTo s b ⟨us,[]⟩ (ps.zip<|us++a)
variable{ps:Ð}{fd:FuncData}
def pi.all(h:∀us:Ò,us.length=ps.length->bindArgs fd ⟨us,[]⟩=pure (ps.zip us)):pi K fd ps []:=λs us _ a=>by
 rw[Bp]at a ⊢;exact .of_eq<|h us a
def mU(CX:lT)(X:Cx)(E:XK):Prop:=∀(O:Ï)(σ:St)(H:Hp)(s:Shared)(e:Value)(s':Shared),(be X O σ H s)->CX X.stack H s E e s'->X.xe e s'
variable{apos:Pos}{ds:Ò}{mS vs:List V}{sp:Sp}{CX:lT}
section
variable{k:Nat}{f C:Addr}{E:XK}{m:Str}{p pos:Pos}{o:Expr}{t:TA}
theorem Y1{Q:VK}(F:aE X.U X.w X.K X.mg X.Z CX k f fd ps sp)(c:bH k X.A)(d:pi X.K fd ps ds)(hd:ay mS ds)(i:mU CX X E)
  (I:(be X O σ H s)) (r:ay vs us) (h:sp (vs++mS) H Q E):(ar X) (call (.ref f) us) (EP X O σ Q) X.xe s:=by
 have b:ay (vs++mS) (us++ds):=r.append hd;have j:(us++ds).length=ps.length:=by rw[<-b.length];exact F.len _ _ _ _ h
 refine wpAny_call<|JQ (F.run X.A X.stack s H ⟨us,[]⟩ (us++ds) (vs++mS) Q E c I.ER (d s us I.gQ j) b h) λr s' a=>?_;cases r with
 |error e=>exact i O σ H s e s' I a
 |ok fl=>
  cases fl with
  |ret u=>exact I.after a
  |next=>exact False.elim a
  |brk=>exact False.elim a
  |cont=>exact False.elim a
def Y6(F:aE X.U X.w X.K X.mg X.Z CX k f fd ps sp)(b:bH k X.A)(c:Gl X x)(d:X.mg x=some (.ref f))(i:PySem.W.keepIn X.K (.ref f)=true)(j:pi X.K fd ps ds)(hd:ay mS ds)(l:mU CX X E)
  (m:PA X (e :: es) t) (n:(x == ("__debug__" : Str))=false:=by decide) (o:starEach (e :: es) X.env=(false,eval e X.env):: starEach es X.env:=by rfl) (u:(backTo pos<|starEach es X.env).any (·.1)=false:=by rfl):
  PE X (.Call (.Name x p) (e :: es) [] pos) (OY sp mS E t):=by
 intro O s σ H Q I h;refine KQ<|Ox I c d ?_ n;refine PySem.W.callWith_K (h₀:=X.Z) I.ok.mod.uQ i (aO (m pos O s σ H _ I h) λus v⟨vs,w,a,r,q⟩=>⟨a.gQ,?_⟩) o u;exact Y1 F b j hd l a r q
end
variable{kws:List Keyword}{gV:List V->List V->List V}
structure ak(N P:Ð)(sc:Scope):Prop where
 kind:sc.kind=.function
 co:sc.isCoroutine=false
 gen:sc.isGenerator=false
 nd:N.Nodup
 pre:N.take P.length=P
 par:∀x∈P,sc.names.lookup x=some .local\/sc.names.lookup x=some .cell
 iF:∀y∈sc.names,y.2 ≠ .free
theorem OZ{kindOf:Str->Option NameKind}{x:Str}:∀{a:List (Str×Value)}{m:Ñ},(∀v,(x,v)∉a)->bindL kindOf a m x=m x
 |[],_,_=>rfl
 |(n,v):: r,m,h=>by
  unfold bindL;rw[OZ λw b=>h w<|Af _ b]
  split
  ·have:x≠n:=by rintro rfl;exact h v Ae
   simp[this]
  ·rfl
theorem O0{kindOf:Str->Option NameKind}{x:Str}:∀{a:List (Str×Value)}{m:Ñ},(∀v,(x,v)∉a)->bindC kindOf a m x=m x
 |[],_,_=>rfl
 |(n,v):: r,m,h=>by
  unfold bindC;rw[O0 λw b=>h w<|Af _ b]
  split
  ·rfl
  ·have:x≠n:=by rintro rfl;exact h v Ae
   simp[this]
theorem O1{kindOf:Str->Option NameKind}{x:Str}{v:Value}:∀{P:Ð}{vs:Ò}{i:Nat}{m:Ñ},P.Nodup->P[i]?=some x->vs[i]?=some v->kindOf x=some .local ->
  bindL kindOf (P.zip vs) m x=some v
 |[],_,_,_,_,h,_,_=>by simp at h
 |_ :: _,[],_,_,_,_,h,_=>by simp at h
 |p :: P,w :: vs,0,m,nd,a,b,c=>by
  simp at a b;subst a;subst b;show bindL kindOf ((p,w):: P.zip vs) m p=_;unfold bindL;rw[OZ λv d=>(Bh.mp nd).1 (SQ d).1,BP c];simp
 |p :: P,w :: vs,i+1,m,nd,a,b,c=>by
  show bindL kindOf ((p,w):: P.zip vs) m x=_;unfold bindL;exact O1 (i:=i) (Bh.mp nd).2 (by simpa using a) (by simpa using b) c
theorem O2{kindOf:Str->Option NameKind}{x:Str}{v:Value}:∀{P:Ð}{vs:Ò}{i:Nat}{m:Ñ},P.Nodup->P[i]?=some x->vs[i]?=some v->kindOf x≠some .local ->
  bindC kindOf (P.zip vs) m x=some v
 |[],_,_,_,_,h,_,_=>by simp at h
 |_ :: _,[],_,_,_,_,h,_=>by simp at h
 |p :: P,w :: vs,0,m,nd,a,b,c=>by
  simp at a b;subst a;subst b;show bindC kindOf ((p,w):: P.zip vs) m p=_;unfold bindC;rw[O0 λv d=>(Bh.mp nd).1 (SQ d).1,BL c];simp
 |p :: P,w :: vs,i+1,m,nd,a,b,c=>by
  show bindC kindOf ((p,w):: P.zip vs) m x=_;unfold bindC;exact O2 (i:=i) (Bh.mp nd).2 (by simpa using a) (by simpa using b) c
def mf(N:Ð)(vs:List V):St:=vs.map some++replicate (N.length-vs.length) none
def dv(CX:lT)(P:Program)(w:World)(K:aa)(mg:Ñ)(Z:Heap)(N:Ð)(qual:Str)(scope:Scope)(f:Addr)(cd:Value)(A:Around)(outer:List Env)(s:Shared)(H:Hp)(E:XK):Cx where
 U:=P
 w:=w
 K:=K
 mg:=mg
 Z:=Z
 A:=A.deeper<|envOfC qual scope s.heap.objs.size f cd
 N:=N
 æ:=s
 ç:=H
 env:=envOfC qual scope s.heap.objs.size f cd
 outer:=outer
 stack:=envOfC qual scope s.heap.objs.size f cd :: outer
 ex:=[]
 calm:=true
 fn:=λ_=>true
 pn:=[]
 xe:=λe s'=>wpAny (model P w) (A.deeper<|envOfC qual scope s.heap.objs.size f cd) (leaving (envOfC qual scope s.heap.objs.size f cd) e) (λ_ qe=>CX outer H s E e qe) (λe' qe=>CX outer H s E e' qe) s'
def O3{a:Scope}(h:a.names.lookup x=some .cell):∃c,(cellsFrom n a.names []).lookup x=some c:=by
 have q:=JL a.names n []<|.inl h;exact Fa.mp q
variable{outer:List Env}{scope:Scope}{qual:Str}{Z:Heap}{mg:Ñ}
theorem Y7{f:Addr}{o:Value}{D:Shared}{E:XK}
  (S:ak N ps scope) (hd:A.handled=none) (j:mR P w K mg Z A outer s H) (O:vs.length=ps.length) (r:ay vs us)
  (x:InCallC s s.heap.objs.size (bindL (envOfC qual scope s.heap.objs.size f o).kindOf (ps.zip us) λ_=>none) (cellsFrom (s.heap.objs.size+1) scope.names []) (bindC (envOfC qual scope s.heap.objs.size f o).kindOf (ps.zip us) λ_=>none) D):
  be (dv CX P w K mg Z N qual scope f o A outer s H E) [] (mf N vs) H D:=by
 have Q:ps.length<=N.length:=by have:=BZ List.length S.pre;rw[Br]at this;omega
 obtain⟨B,T,rfl,G⟩:=x.done;have C:∀b:Addr,b∉(dv CX P w K mg Z N qual scope f o A outer s H E).ex:=λb z=>absurd (show b∈([]:(List Addr))from z) (by simp);refine⟨⟨j.mod,S.kind,rfl,rfl,An _,λy z c B d=>?_,λy l=>?_,λy c _ h=>?_,λ_=>hd,Around.frames_deeper j.frames,.inr ⟨rfl,rfl⟩,λb z=>absurd z<|C b,j.bs,j.oA,λb _ _=>C b,λb z=>absurd z<|C b,j.d6,j.sV⟩,
  rfl,j.bare,Un.kept G,⟨_,x.toInCall.ns,λi y v B d U=>?_⟩,λy c h=>⟨_,x.cell y c h⟩,j.aH.fresh<|An _,λy c h=>?_,λp m=>absurd (show p∈([]:Ï)from m) (by simp),j.aH.kept G,?_⟩
 ·exact name_of_addr x.apart (DK B)<|DK d
 ·have l:scope.names.lookup y=some .cell\/scope.names.lookup y=some .free:=l
  obtain l|l:=l
  ·exact O3 l
  ·exact absurd rfl (S.iF _<|DK l)
 ·exact Cy<|x.above y c<|DK h
 ·have t:i<vs.length:=by
   unfold mf at d
   by_cases t:i<vs.length
   ·exact t
   ·rw[Bd<|(by simpa using t)]at d;rw[Fc]at d
    split at d<;>cases d
  have L:vs[i]?=some v:=by
   unfold mf at d;rw[Ax (by simpa using t),Ah]at d;cases e:vs[i]? with
   |none=>rw[e]at d;cases d
   |some a=>rw[e]at d;cases d;rfl
  obtain⟨u,I,M⟩:=r.get L;have m:ps[i]?=some y:=by
   rwa[<-S.pre,Eb<|(by omega)]
  have J:ps.Nodup:=by rw[<-S.pre];exact S.nd.sublist<|List.take_sublist _ _
  refine⟨u,M,?_⟩
  obtain k|k:=S.par y (Ao m)
  ·exact .inl ⟨k,O1 J m I k⟩
  ·obtain⟨c,e⟩:=O3 (n:=s.heap.objs.size+1) k;refine .inr ⟨.inl k,c,e,?_⟩;have q:=x.cell y c e;rwa[O2 J m I<|by show scope.names.lookup y≠_;rw[k];decide]at q
 ·exact j.aH.fresh<|Cy<|x.above y c<|DK h
 ·unfold mf;show _=N.length;rw[Ag,Aa,Fp];omega
variable{lU:Array (Option Value)}{params:Arguments}
theorem O5{k:Nat}{f:Addr}{p kV h pm c ct G:Value}{z L:Option Addr}
     (lk:K.lookup f=some ⟨G,L,.func<|PySem.W.fnOf name qual params body scope p kV h pm z c ct,lU⟩) (M:PySem.W.codeIn K c qual=true) (S:ak N ps scope)
  (len:∀vs H Q E,sp vs H Q E->vs.length=ps.length)
  (O : ∀A outer s H vs Q E, bH k (A.deeper<|envOfC qual scope s.heap.objs.size f c) → sp vs H Q E →
   ∃t,jz (dv CX P w K mg Z N qual scope f c A outer s H E) body t/\t {nx:=λ_ H'=>Q .non H',rt:=Q} (mf N vs) H):
  aE P w K mg Z CX (k+1) f (PySem.W.fnOf name qual params body scope p kV h pm z c ct) ps sp:=by
 refine⟨len,λA outer s H args us vs Q E j i T r B=>?_⟩;have U:=len _ _ _ _ B;have C:=i.mod.uQ.keeps λb o e=>(i.bs b o e).1;have l:=i.mod.nolimit.keeps λb o e=>(i.bs b o e).1;have Y:∀y∈ps.zip us,scope.names.lookup y.1=some .local\/(scope.names.lookup y.1=some .cell/\((cellsFrom (s.heap.objs.size+1) scope.names []).lookup y.1).isSome=true):=λ⟨n,v⟩hy=>by
  obtain q|q:=S.par n (SQ hy).1
  ·exact .inl q
  ·exact .inr ⟨q,JL _ _ _<|.inl q⟩
 refine codeAny_call_function j.depth (C _ _ lk) rfl S.co S.gen rfl (PySem.W.codeRec_of C M) (T _ _ _ _ ?_);refine wpAny_newFunctionEnv_cells S.kind Y λÕ he D x=>?_;subst he;refine⟨l.keeps x.toInCall.keep,codeAny_func ?_⟩;obtain⟨t,ht,hq⟩:=O A outer s H vs Q E (j.deeper _) B;have I:be (dv CX P w K mg Z N qual scope f c A outer s H E) [] (mf N vs) H D:=Y7 S j.hd i U r x;refine CW (ht [] D (mf N vs) H _ I hq) (λfl s' d=>?_) λe s' d=>d;have fin:∀{a:St}{H':Hp}{v:V}{u:Value},be (dv CX P w K mg Z N qual scope f c A outer s H E) [] a H' s'->cc v u->Q v H'->CE outer P w H s Q u s':=
  λ{a H' v u}J m q=>⟨v,H',J.os,J.bare,J.Z,J.aH,m,q⟩
 cases fl with
 |ret u=>
  obtain⟨v,a,H',J,m,q⟩:=d;exact fin J m q
 |next=>
  obtain⟨a,H',J,q⟩:=d;exact fin (v:=V.non) (u:=Value.none) J rfl q
 |brk=>
  obtain⟨_,_,_,q⟩:=d;exact False.elim q
 |cont=>
  obtain⟨_,_,_,q⟩:=d;exact False.elim q
variable{r:List V->Hp->VK->Prop}
section
variable{p pos:Pos}{t:TA}{id T:String}
def yZ(r:List V->Hp->VK->Prop)(t:TA):TE:=λσ H Q=>t σ H λvs a=>r vs a Q
def Y8(a:gR X (.builtin id) r)(b:Gl X x)(c:X.mg x=none)(d:bootBuiltins x=some (.builtin id))(f:PA X (e :: es) t)(i:x ≠ "__name__":=by decide)(j:(x == ("__debug__" : Str))=false:=by decide)
  (k:starEach (e :: es) X.env=(false,eval e X.env):: starEach es X.env:=by rfl) (l:(backTo pos<|starEach es X.env).any (·.1)=false:=by rfl):PE X (.Call (.Name x p) (e :: es) [] pos) (yZ r t):=by
 intro O s σ H Q I h;refine KQ<|mQ I b c d ?_ i j;exact PyProof.Rows.callWith_builtin1 (aO (f pos O s σ H _ I h) λus m⟨vs,n,o,q,u⟩=>a O m σ n vs us Q o q u) k l
def Y9(a:gR X (.type T) r)(b:Gl X x)(c:X.mg x=none)(d:bootBuiltins x=some (.type T))(f:PA X (e :: es) t)(i:x ≠ "__name__":=by decide)(j:(x == ("__debug__" : Str))=false:=by decide)
  (k:starEach (e :: es) X.env=(false,eval e X.env):: starEach es X.env:=by rfl) (l:(backTo pos<|starEach es X.env).any (·.1)=false:=by rfl):PE X (.Call (.Name x p) (e :: es) [] pos) (yZ r t):=by
 intro O s σ H Q I h;refine KQ<|mQ I b c d ?_ i j;exact IK (aO (f pos O s σ H _ I h) λus m⟨vs,n,o,q,u⟩=>a O m σ n vs us Q o q u) k l
end
end L2
namespace HT
open PySem PyProof.Rows
variable{E:Í}{U:Program}
section
variable{w:World}{A:Around}{s:Shared}
def gS(n d:Nat):Option Int->Nat
 |none=>d
 |some v=>if v<0 then(v+(n:Int)).toNat else min v.toNat n
def gT(n d:Nat):gS n d none=d:=rfl
theorem i6(n d k:Nat):gS n d (some (k:Int))=min k n:=by
 show(if(k:Int)<0 then((k:Int)+(n:Int)).toNat else min (k:Int).toNat n)=min k n;rw[BL (by omega),Bk]
end
end HT
namespace L2
open PySem PySem.Spec PyProof.Rows
abbrev TO:=St->Hp->(Option Int->Hp->Prop)->Prop
def PO(X:Cx)(e:Option Expr)(t:TO):Prop:=
 ∀O s a H Q,(be X O a H s)->t a H Q ->
  (ar X) (evalPart e X.env) (λu c=>∃o b,be X O a b c/\IsPart u o/\Q o b) X.xe s
def Za:TO:=λ_ H Q=>Q none H
def Zb(t:TE):TO:=λa H Q=>t a H λx b=>∃i,x=.int i/\Q (some i) b
variable{X:Cx}{r:V->Option Int->Option Int->Hp->VK->Prop}
section
variable{e:Expr}{te:TE}{lo hi:Option Expr}{tl th:TO}{pos p2:Pos}
def Zc:PO X none Za:=by
 intro O s a H Q I h;rw[evalPart_none];exact BK ⟨none,H,I,.none,h⟩
def Zd(h:PE X e te):PO X (some e) (Zb te):=by
 intro O s a H Q I b;rw[evalPart_some];refine aO (h O s a H _ I b) λu k⟨x,c,d,f,j⟩=>?_;obtain⟨i,rfl,q⟩:=j;obtain⟨t,rfl⟩:=f;exact⟨some i,c,d,.int i t,q⟩
def EV(X:Cx)(r:V->Option Int->Option Int->Hp->VK->Prop):Prop:=
 ∀O s a H x v b c lo hi d Q,(be X O a H s)->cc x v->s.heap.IsSliceOf d b c .none->IsPart b lo->IsPart c hi->r x lo hi H Q ->
  ∃T id,typeLookup (.type T) "__getitem__" = pure (some<|.builtin id)/\s.TypeIs v T/\(ar X) (getItem v<|.ref d) (EP X O a Q) X.xe s
def Zf(r:V->Option Int->Option Int->Hp->VK->Prop)(te:TE)(tl th:TO):TE:=λa H Q=>te a H λx b=>tl a b λl c=>th a c λu d=>r x l u d Q
def Zg(j:EV X r)(k:PE X e te)(m:PO X lo tl)(n:PO X hi th):PE X (.Subscript e (.Slice lo hi none p2) pos) (Zf r te tl th):=by
 intro O s c H Q I h;refine Subscript_<|aO (k O s c H _ I h) λv o ⟨x,p,t,w,y⟩=>?_;refine wpAny_Slice<|aO (m O o c p _ t y) λd z ⟨l,A,B,C,D⟩=>aO (n O z c A _ B D) λf a ⟨u,i,E,G,J⟩=>?_;rw[evalPart_none];refine BK ?_;have L:be X O c i {a with heap:=a.heap.push {cls:= .type "slice",data:= .fields #[d,f,.none]}}:=E.kept λb Y q=>Aj _ q;obtain⟨T,id,M,N,U⟩:=j O {a with heap:=a.heap.push {cls:= .type "slice",data:= .fields #[d,f,.none]}} c i x v d f l u a.heap.objs.size Q L w (Heap.IsSliceOf.new ..) C G J;show (ar X) (subscriptTail e (.Slice lo hi none p2) v<|.ref a.heap.objs.size) (EP X O c Q) X.xe {a with heap:=a.heap.push {cls:= .type "slice",data:= .fields #[d,f,.none]}};exact tail_any N M U<|by with_unfolding_all rfl
def gU(xs:List V)(lo hi:Option Int):List V:=(xs.drop<|HT.gS xs.length 0 lo).take<|HT.gS xs.length xs.length hi-HT.gS xs.length 0 lo
theorem Zh(xs:List V)(lo hi:Option Int):(gU xs lo hi).length<=xs.length:=by
 unfold gU;rw[Br,Du];omega
end
def oG(n:Nat)(i:Int):Option Nat:=if 0<=i then(if i<n then some i.toNat else none)else if -(n:Int)<=i then some (i+n).toNat else none
def fj{α:Type}(xs:List α)(i:Int):Option α:=(oG xs.length i).bind λj=>xs[j]?
variable{j n:Nat}{i:Int}
theorem Zi(h:oG n i=some j):seqIndex? i n=some j/\j<n/\-(n:Int)<=i/\i<n:=by
 unfold oG at h
 by_cases b:0<=i
 ·rw[BP b]at h
  by_cases a:i<n
  ·rw[BP a]at h;have e:=Option.some.inj h;exact⟨by rw[seqIndex_of b a,e],(by omega),(by omega),a⟩
  ·rw[BL a]at h;cases h
 ·rw[BL b]at h
  by_cases a:-(n:Int)<=i
  ·rw[BP a]at h;have e:=Option.some.inj h;exact⟨by rw[seqIndex_neg (by omega) a,e],(by omega),a,(by omega)⟩
  ·rw[BL a]at h;cases h
theorem EW{α:Type}{xs:List α}{v:α}(h:fj xs i=some v):∃j,seqIndex? i xs.length=some j/\xs[j]?=some v/\j<xs.length/\-(xs.length:Int)<=i/\i<xs.length:=by
 unfold fj at h;cases e:oG xs.length i with
 |none=>rw[e]at h;cases h
 |some j=>
  rw[e]at h;obtain⟨a,b,c,d⟩:=Zi e;exact⟨j,a,h,b,c,d⟩
theorem tq{α:Type}{xs:List α}{v:α}(h:xs[j]?=some v):fj xs (j:Int)=some v:=by
 have a:j<xs.length:=(Ac.mp h).1;have e:oG xs.length (j:Int)=some j:=by
  unfold oG;rw[BP (by omega),BP<|(by omega)];simp
 unfold fj;rwa[e]
theorem Zj{α:Type}(xs:List α)(v:α):fj (xs++[v]) (-1)=some v:=by
 have a:(xs++[v]).length=xs.length+1:=by simp
 have e:oG (xs++[v]).length (-1)=some xs.length:=by
  unfold oG;rw[a,BL (by decide),BP<|(by omega)]
  congr 1
  omega
 unfold fj;rw[e];show(xs++[v])[xs.length]?=some v;simp
def O6(b:Expr):Prop:=∀o i,subscripted b false o i=operate [o,i] (getItem o i)
def vh(X:Cx)(r:R2):Prop:=
 ∀value slice O s a H x y v u Q,(be X O a H s)->cc x v->cc y u->r x y H Q ->
  subscripted slice false v u=operate [v,u] (getItem v u)->(ar X) (subscriptTail value slice v u) (EP X O a Q) X.xe s
def vi(X:Cx)(id:String)(r:V->List V->Hp->VK->Prop):Prop:=
 ∀O s a H x b v c Q,(be X O a H s)->cc x v->ay b c->r x b H Q ->
  (ar X) (call (.builtin id)<|v :: c) (EP X O a Q) X.xe s
variable{u v:Value}{x:V}{s:Shared}{A:Around}{T:String}{H:Hp}{σ:St}{O:Ï}{name:Str}{es:Ó}
section
variable{a b:Expr}{ta tb:TE}{pos:Pos}
def Zk{r:R2}(c:vh X r)(d:PE X a ta)(e:PE X b tb)(f:O6 b):PE X (.Subscript a b pos) (yV r ta tb):=by
 intro O s σ H Q I h;exact Subscript_<|p7 d e I h λv u i x y j k l m q=>c a b O i σ j x y v u Q k l m q<|f _ _
def EX(K:aa):R2:=λx y H Q=>∃p a i v,x=.ref p/\y=.int i/\au K H p a/\fj a i=some v/\Q v H
def EZ(K:aa):R2:=λx y H Q=>∃p a i v,x=.ref p/\y=.int i/\aQ K H p a/\fj a i=some v/\Q v H
def E1:R2:=λx y H Q=>∃z i c,x=.str z/\y=.int i/\z.length<=sizeLine/\fj z.cps.toList i=some c/\Q (.str ⟨#[c]⟩) H
theorem dF:vh X (EX X.K):=by
 intro value slice O s σ H x y v u Q I k l h d;obtain⟨p,G,i,z,rfl,rfl,m,n,q⟩:=h;cases k;obtain⟨t,rfl⟩:=l;obtain⟨o,r,b,J⟩:=I.list m;obtain⟨j,a,A,L,B,C⟩:=EW n;obtain⟨w,e,D⟩:=r.get A;have E:=r.length;have M:=ve;have fin:EP X O σ Q w s:=⟨z,H,I,D,q⟩
 by_cases f:0<=i
 ·have c:i.toNat=j:=by
   rw[seqIndex_of f C]at a;exact Option.some.inj a
  exact item_listR b.isList f (by omega) (by rw[c];simpa using e) fin d
 ·have c:(i+(o.toArray.size:Int)).toNat=j:=by
   rw[seqIndex_neg (by omega) B]at a;rw[Ay,<-E];exact Option.some.inj a
  exact subscriptTail_builtinR b.isList.typeIs slot_list_getitem.lookup
   (wpAny_getItem_list_neg b.isList (by omega) (by rw[Ay]<;>omega) (by omega) (by rw[c];simpa using e) ⟨rfl,fin⟩) d
theorem bQ:vh X (EZ X.K):=by
 intro value slice O s σ H x y v u Q I b c h d;obtain⟨p,o,i,z,rfl,rfl,e,f,q⟩:=h;cases b;obtain⟨t,rfl⟩:=c;obtain⟨A,r,a,B⟩:=I.tuple e;obtain⟨j,C,k,D,E,G⟩:=EW f;obtain⟨w,l,m⟩:=r.get k;have n:=r.length;have J:=ve;have fin:EP X O σ Q w s:=⟨z,H,I,m,q⟩;exact subscriptTail_builtinR a.typeIs slot_tuple_getitem.lookup
  (getItem_tuple a (by omega) (by omega) (by rwa[Ay,<-n]) (by simpa using l) ⟨rfl,fin⟩) d
theorem O7:vh X E1:=by
 intro value slice O s σ H x y v u Q I b d h e;obtain⟨z,i,c,rfl,rfl,r,f,q⟩:=h;obtain⟨t,rfl⟩:=b;obtain⟨w,rfl⟩:=d;obtain⟨j,a,k,A,l,m⟩:=EW f;have n:z.cps.toList.length=z.length:=by simp[Str.length]
 rw[n]at a l m;have B:=ve;exact tail_any (typeIs_str s z t) slot_str_getitem.lookup (getItem_str (by
  have o:decide (i < -(2 ^ 63:Int))=false:=BR (by omega);have p:decide (i>=2 ^ 63)=false:=BR (by omega);rw[o,p,Bool.or_false]) (by rw[a];simpa using k) ⟨.str ⟨#[c]⟩,H,I.tok _,⟨_,rfl⟩,q⟩) e
theorem Zm(lo a:Option Int)(n:Nat):(sliceBounds lo a none n).1=((HT.gS n 0 lo:Nat):Int)/\(sliceBounds lo a none n).2.1=((HT.gS n n a:Nat):Int)/\(sliceBounds lo a none n).2.2=1:=by
 refine⟨?_,?_,rfl⟩
 ·cases lo with
  |none=>simp[sliceBounds,HT.gS]
  |some i=>
   simp only[sliceBounds,HT.gS,Option.getD_none,show(1:Int)>0 by decide,CZ]
   by_cases h:i<0
   ·simp only[h,CZ]<;>omega
   ·simp only[h,CP]<;>omega
 ·cases a with
  |none=>simp[sliceBounds,HT.gS]
  |some i=>
   simp only[sliceBounds,HT.gS,Option.getD_none,show(1:Int)>0 by decide,CZ]
   by_cases h:i<0
   ·simp only[h,CZ]<;>omega
   ·simp only[h,CP]<;>omega
def Zn(a:Ò)(lo b:Option Int):slicePick a.toArray lo b none=((a.drop<|HT.gS a.length 0 lo).take<|HT.gS a.length a.length b-HT.gS a.length 0 lo).toArray:=by
 obtain⟨c,d,e⟩:=Zm lo b a.toArray.size;unfold slicePick;rw[c,d,e];simp only[sliceRange_one,pick_run,Ay]<;>rfl
def E3(K:aa):V->Option Int->Option Int->Hp->VK->Prop:=λx lo c H Q=>∃a b,x=.ref a/\au K H a b/\∀p,H p=none->Q (.ref p) (upd H p<|.lst<|gU b lo c)
theorem O8:EV X (E3 X.K):=by
 intro O s σ H x v o p lo e t Q I i j k l h;obtain⟨a,c,rfl,m,q⟩:=h;cases i;obtain⟨u,r,f,n⟩:=I.list m;have d:=r.length;refine⟨"list",_,slot_list_getitem.lookup,f.isList.typeIs,?_⟩;refine wpAny_getItem_list_slice f.isList j k l .none (by simp) ?_ (by rw[Ay]<;>omega);rw[Zn,<-d];refine⟨.ref s.heap.objs.size,_,I.laid (λb w q=>Aj _ q) (An _) ?_,rfl,q _<|I.aH.fresh<|An _⟩;exact⟨Ch (Zh c lo e) n,_,0,(r.drop<|HT.gS c.length 0 lo).take<|HT.gS c.length c.length e-HT.gS c.length 0 lo,At _ rfl⟩
def kD:V->Bool
 |.non=>true
 |.bl _=>true
 |.int _=>true
 |.str _=>true
 |_=>false
def c6:V->V->Bool
 |.non,.non=>true
 |.bl a,.bl b=>a == b
 |.bl a,.int b=>(if a then 1 else 0) == b
 |.int a,.bl b=>a == (if b then 1 else 0)
 |.int a,.int b=>a == b
 |.str a,.str b=>a == b
 |_,_=>false
theorem O9{y:V}(e:cc y u)(c:cc x v)(h:kD y=true)(f:kD x=true):SeqAt.EqAt A s u v (c6 y x):=by
 cases y with
 |non=>
  cases e;cases x with
  |non=>cases c;exact SeqAt.EqAt.same _
  |bl b=>cases c;exact SeqAt.EqAt.none_bool b
  |int b=>obtain⟨t,rfl⟩:=c;exact SeqAt.EqAt.none_int b t
  |str b=>obtain⟨t,rfl⟩:=c;exact SeqAt.EqAt.none_str b t
  |_=>exact absurd (show false=true from f) Aw
 |bl a=>
  cases e;cases x with
  |non=>cases c;exact SeqAt.EqAt.bool_none a
  |bl b=>cases c;exact SeqAt.EqAt.bool_bool a b
  |int b=>obtain⟨t,rfl⟩:=c;exact SeqAt.EqAt.bool_int a b t
  |str b=>obtain⟨t,rfl⟩:=c;exact SeqAt.EqAt.bool_str a b t
  |_=>exact absurd (show false=true from f) Aw
 |int a=>
  obtain⟨d,rfl⟩:=e;cases x with
  |non=>cases c;exact SeqAt.EqAt.int_none a d
  |bl b=>cases c;exact SeqAt.EqAt.int_bool a d b
  |int b=>obtain⟨t,rfl⟩:=c;exact SeqAt.EqAt.int_int a d b t
  |str b=>obtain⟨t,rfl⟩:=c;exact SeqAt.EqAt.int_str a d b t
  |_=>exact absurd (show false=true from f) Aw
 |str a=>
  obtain⟨d,rfl⟩:=e;cases x with
  |non=>cases c;exact SeqAt.EqAt.str_none a d
  |bl b=>cases c;exact SeqAt.EqAt.str_bool a d b
  |int b=>obtain⟨t,rfl⟩:=c;exact SeqAt.EqAt.str_int a d b t
  |str b=>obtain⟨t,rfl⟩:=c;exact SeqAt.EqAt.str_str a d b t
  |_=>exact absurd (show false=true from f) Aw
 |_=>exact absurd (show false=true from h) Aw
def iG(x:V)(u:Value):Bool:=match u with
 |.none=>c6 .non x
 |.bool b=>c6 (.bl b) x
 |.int i _=>c6 (.int i) x
 |.str z _=>c6 (.str z) x
 |_=>false
theorem O'{y:V}(r:cc y u)(f:kD y=true):iG x u=c6 y x:=by
 cases y with
 |non=>cases r;rfl
 |bl b=>cases r;rfl
 |int i=>obtain⟨t,rfl⟩:=r;rfl
 |str z=>obtain⟨t,rfl⟩:=r;rfl
 |_=>exact absurd (show false=true from f) Aw
theorem vj{x:V}:∀{xs}{a},ay xs a->xs.all kD=true->a.any (iG x)=xs.any λy=>c6 y x
 |_,_,.nil,_=>rfl
 |y :: xs,u :: a,.cons r t,f=>by
  rw[Hm,Cb]at f;rw[Gf,Gf,O' r f.1,vj t f.2]
theorem vk{A:Around}{s:Shared}{x:V}{v:Value}(c:cc x v)(d:kD x=true):∀{xs}{b},ay xs b->xs.all kD=true->∀u∈b,SeqAt.EqAt A s u v<|iG x u
 |_,_,.nil,_=>λu a=>by cases a
 |y :: xs,u :: b,.cons r t,f=>λe a=>by
  rw[Hm,Cb]at f
  obtain rfl|a:=Ai.mp a
  ·rw[O' r f.1];exact O9 r c f.1 d
  ·exact vk c d t f.2 e a
def tu(x:V)(xs:List V):Bool:=xs.any λy=>c6 y x
def Pa(K:aa)(neg:Bool):R2:=λx y H Q=>∃p a,y=.ref p/\(au K H p a\/aQ K H p a)/\kD x=true/\a.all kD=true/\Q (.bl (if neg then !tu x a else tu x a)) H
def oH:cX X (compareOp .In) (Pa X.K false):=by
 intro O s σ H x y v u Q I f j h;obtain⟨p,l,rfl,a,i,c,q⟩:=h;cases j
 obtain a|a:=a
 ·obtain⟨b,r,d,k⟩:=I.list a;refine SeqAt.in_listAt (iG x) d.isList (λw e=>vk f i r c w<|(by simpa using e)) ⟨.bl _,H,I,rfl,?_⟩;rwa[show b.toArray.any (iG x)=b.any (iG x) by simp,vj r c]
 ·obtain⟨b,r,d,k⟩:=I.tuple a;refine SeqAt.in_tupleAt (iG x) d (λw e=>vk f i r c w<|(by simpa using e)) ⟨.bl _,H,I,rfl,?_⟩;rwa[show b.toArray.any (iG x)=b.any (iG x) by simp,vj r c]
def Pb:cX X (compareOp .NotIn) (Pa X.K true):=by
 intro O s σ H x y v u Q I f j h;obtain⟨p,l,rfl,a,i,c,q⟩:=h;cases j
 obtain a|a:=a
 ·obtain⟨b,r,d,k⟩:=I.list a;refine SeqAt.notIn_listAt (iG x) d.isList (λw e=>vk f i r c w<|(by simpa using e)) ⟨.bl _,H,I,rfl,?_⟩;rwa[show b.toArray.any (iG x)=b.any (iG x) by simp,vj r c]
 ·obtain⟨b,r,d,k⟩:=I.tuple a;refine SeqAt.notIn_tupleAt (iG x) d (λw e=>vk f i r c w<|(by simpa using e)) ⟨.bl _,H,I,rfl,?_⟩;rwa[show b.toArray.any (iG x)=b.any (iG x) by simp,vj r c]
theorem eU:gR X (.builtin "len") (λxs H Q=>∃p ys,xs=[.ref p]/\(au X.K H p ys\/aQ X.K H p ys)/\Q (.int ys.length) H):=by
 intro O s σ H xs j Q I r h;obtain⟨p,ys,rfl,b,q⟩:=h;obtain⟨u,rfl,e⟩:=ma r;cases e;have k:=ve
 obtain b|b:=b
 ·obtain⟨f,c,d,i⟩:=I.list b;have a:=c.length;exact Calls.call_len_list d.isList (by simp only[Ay]<;>omega) ⟨.int ys.length,H,I.tok _,⟨s.toks+1,by rw[Ay,a]⟩,q⟩
 ·obtain⟨f,c,d,i⟩:=I.tuple b;have a:=c.length;exact len_tuple d (by simp only[Ay]<;>omega) ⟨.int ys.length,H,I.tok _,⟨s.toks+1,by rw[Ay,a]⟩,q⟩
theorem Zo:gR X (.type "list") (λxs H Q=>∃p ys,xs=[.ref p]/\(au X.K H p ys\/aQ X.K H p ys)/\∀l,H l=none->Q (.ref l) (upd H l<|.lst ys)):=by
 intro O s σ H xs z Q I r h;obtain⟨p,ys,rfl,i,q⟩:=h;obtain⟨u,rfl,y⟩:=ma r;cases y;have fin:∀(c:Ò),ay ys c->ys.length<=sizeLine->∀(a:Heap)(d:Nat),(∀b x,s.heap.get? b=some x->a.get? b=some x) ->
   a.get? s.heap.objs.size=some {cls:= .type "list",dict:=none,data:= .seq c.toArray d,slots:=#[]}->EP X O σ Q (.ref s.heap.objs.size) {s with heap:=a}:=λc f j a d k e=>
  ⟨.ref s.heap.objs.size,_,I.laid k (An _) (show aB X.U X.w _ a _ (.lst ys) from⟨j,c,d,f,e⟩),rfl,q _<|I.aH.fresh<|An _⟩
 obtain i|i:=i
 ·obtain⟨c,f,t,j⟩:=I.list i;have m:=f.length;obtain⟨o,v,w,n,hd⟩:=t.isList;exact call_list_seq p (.inl rfl) v w hd (λa d k e=>fin c f j a d k e)<|by simp only[Ay]<;>omega
 ·obtain⟨c,f,t,j⟩:=I.tuple i;have m:=f.length;obtain⟨o,v,w,n,hd⟩:=t;exact call_list_seq p (.inr rfl) v w hd (λa d k e=>fin c f j a d k e)<|by simp only[Ay]<;>omega
def mV(K:aa)(T:String)(x:V)(H:Hp):Prop:=match x with
 |.str _=>T = "str"
 |.int _=>T = "int"
 | .ref p=>(T = "list"/\∃a,au K H p a)\/(T = "tuple"/\∃o,K.lookup p=some o/\o.cls=.type "tuple"/\o.dict=none) \/
   (T = "dict"/\((∃Y,H p=some (.dK Y))\/∃Y,H p=some (.dT Y)))\/(T = "set"/\∃S n,H p=some (.set S n))
 |_=>False
theorem Pg(I:(be X O σ H s))(r:cc x v)(ty:mV X.K T x H):
  s.TypeIs v T/\∀a,v=.ref a->∃h,s.heap.get? a=some h/\h.dict=none:=by
 cases x with
 |str z=>
  obtain⟨t,rfl⟩:=r;cases (show T = "str" from ty);exact⟨typeIs_str s z t,λ_ e=>nomatch e⟩
 |int i=>
  obtain⟨t,rfl⟩:=r;cases (show T = "int" from ty);exact⟨typeIs_int s i t,λ_ e=>nomatch e⟩
 |ref p=>
  cases r
  obtain⟨rfl,m,k⟩|⟨rfl,o,b,l,hd⟩|⟨rfl,b⟩|⟨rfl,S,n,b⟩:=ty
  ·obtain⟨q,_,j,_⟩:=I.list k;refine⟨j.isList.typeIs,λa e=>?_⟩;cases e;obtain⟨o,n,e,c,hd,_⟩:=j;exact⟨o,e,hd⟩
  ·refine⟨⟨o,I.gQ p o b,l⟩,λa e=>?_⟩;cases e;exact⟨o,I.gQ _ o b,hd⟩
  ·have z:∃o,s.heap.get? p=some o/\o.ExactDict:=by
    obtain⟨Y,b⟩|⟨Y,b⟩:=b
    ·obtain⟨_,_,_,_,o,_,_,e,d,_⟩:=I.aH p _ b;exact⟨o,e,d⟩
    ·obtain⟨_,_,_,_,o,_,_,e,d,_⟩:=I.aH p _ b;exact⟨o,e,d⟩
   obtain⟨o,e,d⟩:=z;refine⟨⟨o,e,d.1⟩,λa f=>?_⟩;cases f;exact⟨o,e,d.2.1⟩
  ·obtain⟨o,_,_,_,e,d,_⟩:=I.aH p _ b;refine⟨⟨o,e,d.1⟩,λa f=>?_⟩;cases f;exact⟨o,e,d.2.1⟩
 |_=>exact False.elim ty
def E4(K:aa)(T:String)(r:V->List V->Hp->VK->Prop)(b:TE):TE:=λσ H Q=>b σ H λx a=>mV K T x a/\r x [] a Q
def Zq(K:aa)(T:String)(r:V->List V->Hp->VK->Prop)(b:TE)(t:TA):TE:=λσ H Q=>b σ H λx a=>mV K T x a/\t σ a λc d=>r x c d Q
variable{o e:Expr}{to:TE}{t:TA}{apos fk:Pos}{id:String}{r:V->List V->Hp->VK->Prop}
def Zr(d:PlainAttrs T)(slot:Slot T name id)(e:typeOf (.builtin id)=pure (.type "method_descriptor"))(f:vi X id r)(i:PE X o to)
  (j:attributeBase o name X.env (eval o X.env)=eval o X.env:=by rfl) (a:(apos.endLine == fk.line)=true:=by rfl):PE X (.Call (.Attribute o name apos) [] [] fk) (E4 X.K T r to):=by
 intro O s σ H Q I h;refine wpAny_Call_method0_late j a<|aO (i O s σ H _ I h) λv k⟨x,l,b,c,ty,m⟩=>?_;obtain⟨n,p⟩:=Pg b c ty;exact⟨T,id,d,slot,e,n,p,HW rfl (PySem.evalArgs_none<|f O k σ l x [] v [] Q b c .nil m)⟩
def E5(f:PlainAttrs T)(slot:Slot T name id)(i:typeOf (.builtin id)=pure (.type "method_descriptor"))(j:vi X id r)(k:PE X o to)(l:PA X (e :: es) t)
  (m:attributeBase o name X.env (eval o X.env)=eval o X.env:=by rfl)
  (n : ((backTo fk<|starEach (e :: es) X.env).all (λx => !x.1) && (backToKw fk<|keywordEach [] X.env).all (λx => x.1.isSome)
   && decide ((e :: es).length+([]:List Keyword).length+(if([]:List Keyword).isEmpty then 0 else 1)<30))=true:=by rfl)
  (a:(apos.endLine == fk.line)=true:=by rfl) (p:starEach (e :: es) X.env=(false,eval e X.env):: starEach es X.env:=by rfl) (q:(backTo fk<|starEach es X.env).any (·.1)=false:=by rfl):
  PE X (.Call (.Attribute o name apos) (e :: es) [] fk) (Zq X.K T r to t):=by
 intro O s σ H Q I h;refine LR m n a rfl (aO (k O s σ H _ I h) λv u⟨x,w,b,c,ty,y⟩=>?_);obtain⟨z,A⟩:=Pg b c ty;refine⟨T,id,f,slot,i,z,A,?_⟩;have d:=l fk O u σ w _ b y;rw[p]at d ⊢;refine HW (by show(false || (backTo fk<|starEach es X.env).any (·.1))=false;rw[q]<;>rfl)<|JW ?_;exact aO d λB C⟨D,E,G,J,L⟩=>j O C σ E x D v B Q G c J L
end
def qf(X:Cx)(id:String)(r:V->List V->Hp->VK->Prop):Prop:=
 ∀O s σ H x a v b Q,(be X O σ H s)->cc x v->ay a b->r x a H Q ->
  (ar X) (call (.builtin id)<|v :: b) (EP X O σ Q) X.xe s
variable{us:Ò}{xs:List V}
theorem ay.hd(h:ay (x :: xs) us):∃u vs,us=u :: vs/\cc x u/\ay xs vs:=by
 cases h with
 |cons r t=>exact⟨_,_,rfl,r,t⟩
def ay.nl(h:ay [] us):us=[]:=by
 cases h;rfl
def ay.one(h:ay [x] us):∃u,us=[u]/\cc x u:=by
 obtain⟨u,a,rfl,r,t⟩:=h.hd;rw[t.nl];exact⟨u,rfl,r⟩
def ay.two{y:V}(h:ay [x,y] us):∃u v,us=[u,v]/\cc x u/\cc y v:=by
 obtain⟨u,a,rfl,r,t⟩:=h.hd;obtain⟨v,b,rfl,q,t⟩:=t.hd;rw[t.nl];exact⟨u,v,rfl,r,q⟩
theorem ay.zero:∀{us},ay [] us->us=[]
 |_,.nil=>rfl
theorem ay.dropLast{xs:List V}{us:Ò}(h:ay xs us):ay xs.dropLast us.dropLast:=by
 induction h with
 |nil=>exact .nil
 |cons r t a=>
  cases t with
  |nil=>exact .nil
  |cons q b=>exact .cons r a
theorem ay.eraseIdx:∀{xs}{us}i,ay xs us->ay (xs.eraseIdx i) (us.eraseIdx i)
 |_,_,_,.nil=> .nil
 |_,_,0,.cons _ t=>t
 |_,_,i+1,.cons r t=> .cons r<|ay.eraseIdx i t
theorem Zt{α:Type}(l:List α):l.eraseIdx (l.length-1)=l.dropLast:=by
 induction l with
 |nil=>rfl
 |cons a r c=>
  cases r with
  |nil=>rfl
  |cons b r=>
   have e:(a :: b :: r).length-1=((b :: r).length-1)+1:=by
    have d:(a :: b :: r).length=r.length+2:=rfl;have f:(b :: r).length=r.length+1:=rfl;omega
   rw[e,RW,c]
   all_goals rfl
theorem Ph{α:Type}:∀(l:List α)(i:Nat),(l.eraseIdx i).length<=l.length
 |[],_=>An _
 |_ :: _,0=>Es _
 |_ :: r,i+1=>Nat.succ_le_succ<|Ph r i
variable{t':Nat}{f:Array Value->Array Value}{è:Ò}
section
variable{l b:Addr}{ys zs:List V}
def be.kE{a:Ò}(I:(be X O σ H s))(b:H l=some (.lst xs))
  (e:s.heap.get? l=some {cls:= .type "list",data:= .seq è.toArray n}) (c:f è.toArray=a.toArray) (d:ay ys a) (h:ys.length<=sizeLine):
  be X O σ (upd H l<|.lst ys) {s with heap:=s.heap.update l<|Obj.mapSeq f,toks:=t'}:=by
 have q:=PySem.IsL.update e f;rw[c]at q;refine I.write (by rw[b];exact trivial) (.inl rfl) (λk u i j=>(Cm s.heap (Obj.mapSeq f)<|CK i).trans j) ⟨_,q⟩ ?_;exact⟨h,a,_,d,q⟩
def be.vp(I:(be X O σ H s))(a:ay ys è)(b:ys.length<=sizeLine):
  be X O σ (upd H s.heap.objs.size<|.lst ys) {s with heap:=s.heap.push {cls:= .type "list",data:= .seq è.toArray},toks:=t'}:=
 I.laid (λ_ _ q=>Aj _ q) (An _) ⟨b,è,0,a,At _ rfl⟩
def be.fresh(I:(be X O σ H s)):H s.heap.objs.size=none:=I.aH.fresh<|An _
def be.gW(I:(be X O σ H s))(a:H l=some (.lst xs)):xs.length<=sizeLine/\∃è n,ay xs è/\xs.length=è.length/\s.heap.get? l=some {cls:= .type "list",data:= .seq è.toArray n}:=by
 obtain⟨z,è,n,r,e⟩:=I.aH l _ a;exact⟨z,è,n,r,r.length,e⟩
theorem Zu(h:n<=sizeLine):Builtin.List.listTooLong n=false:=by
 unfold Builtin.List.listTooLong;exact BR<|(by omega)
end
def Zv:V->List V->Hp->VK->Prop:=λx a H Q=>∃l xs y,x=.ref l/\a=[y]/\H l=some (.lst xs)/\xs.length<sizeLine/\Q .non (upd H l<|.lst<|xs++[y])
theorem Pj:qf X "list.append" Zv:=by
 intro O s σ H x f v us Q I b c h;obtain⟨l,xs,y,rfl,rfl,a,i,q⟩:=h;cases b;obtain⟨u,rfl,d⟩:=c.one;obtain⟨z,è,n,r,j,e⟩:=I.gW a;refine PL F.slot_list_append ⟨_,e,rfl⟩ F.entry_list_append (F.args_list_append_2 _ _) (PySem.list_append l è.toArray n u<|by rw[Ay];omega) ⟨e,?_⟩;refine⟨.non,_,I.kE a e (by simp) (r.append<|.cons d .nil) ?_,rfl,q⟩;rw[Ag,Dc];omega
def Zw:V->List V->Hp->VK->Prop:=λx c H Q=>∃l b xs a,x=.ref l/\c=[.ref b]/\H l=some (.lst xs)/\H b=some (.lst a)/\xs.length+a.length<=sizeLine/\Q .non (upd H l<|.lst<|xs++a)
theorem Zx:qf X "list.extend" Zw:=by
 intro O s σ H x w v us Q I f i h;obtain⟨l,b,xs,y,rfl,rfl,d,j,A,q⟩:=h;cases f;obtain⟨u,rfl,k⟩:=i.one;cases k;obtain⟨z,è,n,r,B,e⟩:=I.gW d;obtain⟨C,a,m,o,D,p⟩:=I.gW j;have c:è.toArray.size+a.toArray.size<=sizeLine:=by rw[Ay,Ay];omega
 have t:¬(!è.toArray.isEmpty && Builtin.List.listTooLong (è.toArray.size+a.toArray.size))=true:=by
  rw[Zu c,Ep];exact Aw
 refine PL F.slot_list_extend ⟨_,e,rfl⟩ F.entry_list_extend (F.args_list_extend_2 _ _)
  (AutoSeq1.list_extend_list_list_0 l è.toArray n b a.toArray m t (by rw[Ay];omega)<|(by omega)) ⟨e,p,?_⟩
 refine⟨.non,_,I.kE d e (by simp) (r.append o) ?_,rfl,q⟩;rw[Ag];omega
def E6:V->List V->Hp->VK->Prop:=λx a H Q=>∃l xs y,x=.ref l/\a=[]/\H l=some (.lst xs)/\xs[xs.length-1]?=some y/\Q y (upd H l<|.lst xs.dropLast)
theorem Zy:qf X "list.pop" E6:=by
 intro O s σ H x m v us Q I b c h;obtain⟨l,xs,y,rfl,rfl,a,d,q⟩:=h;cases b;have f:=c.zero;subst f;obtain⟨z,è,n,r,i,e⟩:=I.gW a;obtain⟨u,o,j⟩:=r.get d;have k:è.toArray[è.toArray.size-1]?=some u:=by
  show è.toArray[è.length-1]?=some u;rwa[<-Bj,<-i]
 refine PL F.slot_list_pop ⟨_,e,rfl⟩ F.entry_list_pop (F.args_list_pop_1 _) (MeetsSeq.list_pop_last l è.toArray n u k<|by rw[Ay];omega) ⟨e,?_⟩;refine⟨y,_,I.kE a e ?_ r.dropLast ?_,j,q⟩
 ·show è.toArray.eraseIdxIfInBounds (è.toArray.size-1)=è.dropLast.toArray;rw[Ay,PJ,Zt]
 ·rw[List.length_dropLast];omega
def Zz:V->List V->Hp->VK->Prop:=λx a H Q=>∃l xs i k y,x=.ref l/\a=[.int i]/\H l=some (.lst xs)/\-(2 ^ 63)<=i/\i<2 ^ 63/\seqIndex? i xs.length=some k/\xs[k]?=some y/\Q y (upd H l<|.lst<|xs.eraseIdx k)
theorem ZA:qf X "list.pop" Zz:=by
 intro O s σ H x A v us Q I b c h;obtain⟨l,xs,i,k,y,rfl,rfl,a,d,f,B,j,q⟩:=h;cases b;obtain⟨u,rfl,m⟩:=c.one;obtain⟨t,rfl⟩:=m;obtain⟨z,è,n,r,o,e⟩:=I.gW a;obtain⟨w,C,p⟩:=r.get j;refine PL F.slot_list_pop ⟨_,e,rfl⟩ F.entry_list_pop (F.args_list_pop_2 _ _)
  (MeetsSeq.list_pop_at l è.toArray n i t k w (fitsIndex_both d f) (by rwa[Ay,<-o]) (by rwa[<-Bj])<|by rw[Ay];omega) ⟨e,?_⟩
 refine⟨y,_,I.kE a e ?_ (r.eraseIdx k) ?_,p,q⟩
 ·show è.toArray.eraseIdxIfInBounds k=(è.eraseIdx k).toArray;rw[PJ]
 ·have:=Ph xs k;omega
def E8:R2:=λx y H Q=>∃l b xs a,x=.ref l/\y=.ref b/\H l=some (.lst xs)/\H b=some (.lst a)/\xs.length+a.length<=sizeLine/\∀p,H p=none->Q (.ref p) (upd H p<|.lst<|xs++a)
theorem ZC:cX X (binaryOp .Add) E8:=by
 intro O s σ H x y v u Q I c d h;obtain⟨l,b,xs,o,rfl,rfl,f,i,p,q⟩:=h;cases c;cases d;obtain⟨z,è,n,r,t,e⟩:=I.gW f;obtain⟨w,a,A,j,B,k⟩:=I.gW i;refine PySem.P.add_list e k ?_ (by rw[Ay,Ay];omega);have m:è.toArray++a.toArray=(è++a).toArray:=by simp
 rw[m];exact⟨.ref _,_,I.vp (r.append j) (by rw[Ag];omega),rfl,q _ I.fresh⟩
variable{E:Í}{U:Program}
end L2
namespace Pk
open PySem PySem.W PySem.Calls PyProof.Rows
variable{h:Heap}{P:Params}
theorem ZD:∀ns vs,WellAll P h vs (ns.map WData.int)->IntsAre vs ns:=by
 intro ns
 induction ns with
 |nil=>
  intro vs w;rw[List.map_nil]at w;cases w;exact .nil
 |cons n ns c=>
  intro vs w;rw[Ba]at w;cases w with
  |cons a b=>
   cases a;exact .cons _ _<|c _ b
variable{vals:Ò}{args:List WData}{n:Nat}{l:OpenLaw}
theorem ZE(j:l.most=some n)
  (f:l.row.toRowW.claim.pre args=true) (k:WellAll P h vals args):
  ∃a vs ns,vals=[Value.ref a]/\args=[WData.list<|ns.map WData.int]/\h.get? a=some {cls:= .type "list",data:= .seq vs.toArray}/\IntsAre vs ns/\ns.length<=n:=by
 have m:=(pre_splitW f).1;have i:l.pre.holds [] {args:=args}=true:=(pre_splitW f).2;obtain⟨d,r,rfl,o,p⟩:=hasAllW_cons m;obtain rfl:=hasAllW_nil p;obtain⟨y,rfl,s⟩:=hasW_list o;obtain⟨ns,rfl⟩:=items_int s;have b:ns.length<=n:=by
  unfold OpenLaw.pre at i;have e:(WTm.not<|.lt (.lit<|.int (n:Int))<|.len<|.arg 0).holds [] {args:=[.list<|ns.map .int]}=true:=by
   have e:=(holds_andW i).1;rwa[j]at e
  have c:=condW_of e<|w_not<|w_lt w_lit<|w_len_list<|w_arg rfl;rw[Aa]at c;refine Nat.le_of_not_lt λq=>?_;have t:(n:Int)<((ns.length:Nat):Int):=(by omega)
  first
   |(rw[BW t]at c;exact absurd c<|(by decide))
   |(simp at c;omega)
 cases k with
 |cons u v=>
  cases v;cases u with
  |list w x=>exact⟨_,_,ns,rfl,rfl,w,ZD ns _ x,b⟩
def ZG(l:OpenLaw)(args:List WData):l.row.toRowW.claim.post args (.bool true) args=true:=
 postW_of
  (show WShape.has [] (.bool true) .bool=true by first|rfl|decide|simp[WShape.has,WShape.arms,WShape.armsAll])
  (show(WTm.eq .res<|.lit<|.bool true).value [] {args:=args,res:=some<|.bool true,after:=args}=some (.bool<|true == true)from w_eq_bool (w_res rfl) w_lit) rfl
variable{YP:World->Heap->Prop}{XP:Ñ->Heap->Prop}{loose:Ð}
def gX{q:Program}{d:DefRec}
  (s:l.most=some n) (t:d.params.defaults=[])
  (call : ∀(w : World)(æ b : Shared)(mg k : Str → Option Value)(h : Addr)(o : Obj)(pm j c : Value)(a : Addr)(vs : List Value)(ns : List Int),
   Ground q loose [] XP w æ mg k b.heap->YP w b.heap ->
   b.heap.get? h=some o->o.data=.func (docDef d.name d.params d.body d.scope pm j c)->b.heap.CodeRec j d.name->mg d.name=some (.ref h) ->
   b.heap.get? a=some {cls:= .type "list",data:= .seq vs.toArray}->IntsAre vs ns->ns.length<=n->b.gens=#[] ->
   codeAny (model l.prog w) callerA (.call (.ref h) ⟨[.ref a],[]⟩) (λr s'=>r=.ok (.ret<|.bool true)/\OldK b.heap s'.heap/\s'.os=b.os/\AllBare s'.gens) b):
  WalkO q loose XP YP l.row.toRowW d [] (λf vs=>PySem.call f vs):=by
 intro w æ b mg k G u h o pm j c v kV x hd y m z A args vals as B p C D E;obtain rfl:v=.none:=Dflts.none m t;obtain rfl:kV=.none:=Dflts.noKw m;obtain⟨a,vs,ns,rfl,rfl,H,e,i⟩:=ZE s B D;refine enter_call<|JQ (call w æ b mg k h o pm j c a vs ns G u x (fd_plain hd) y z H e i A) λr s' I=>?_;obtain⟨rfl,J,L,M⟩:=I;exact⟨.inl ⟨.bool true,.bool true,[],rfl,λ_=>rfl,.bool true,ZG l _,λ_=>⟨List.Pairwise.nil,λ_ N=>(nomatch N)⟩⟩,J,L,M⟩
variable{E:Í}{U:Program}
end Pk
namespace L2
open PySem PySem.Spec PyProof.Rows
theorem Pn:∀{vs}{ns},IntsAre vs ns->ay (ns.map V.int) vs
 |_,_,.nil=> .nil
 |_,_,.cons n t h=> .cons ⟨t,rfl⟩<|Pn h
def AE(H:Hp):Prop:=∀b,H b=none\/∃o a,H b=some (.b7 o<|.lst a)
variable{ns:List Int}{À:Shared}{sp:Sp}{x:Str}{fd:FuncData}{fa a:Addr}{CX:lT}{mg:Ñ}{K:aa}{w:World}{P:Program}
theorem ZH{y:Ñ}{k:Nat}{vs:Ò}
  (C:K.In À.heap) (D:À.heap.Ns mainGlobals mg) (c:À.heap.Ns builtinsNs y) (Q:∀ x:Str,x ≠ "__name__"->y x=bootBuiltins x) (T:À.heap.NoLimit) (U:À.gens=#[])
  (p:À.heap.get? a=some {cls:= .type "list",data:= .seq vs.toArray}) (E:IntsAre vs ns) (hl:ns.length<=sizeLine) (Y:bH k callerA)
  (F:∀Z:Heap,K.In Z->Z.Ns mainGlobals mg->aE P w K mg Z CX k fa fd [x] sp) (vx:∀(s:Shared)(u:Value),BindsTo s fd ⟨[u],[]⟩ [(x,u)])
  (eS:∀H:Hp,AE H->au K H a (ns.map V.int)->sp [.ref a] H (λv _=>v=.bl true) λ_ _ _=>False)
  (FA:∀H e s',CX [] H À (λ_ _ _=>False) e s'->False):
  codeAny (model P w) callerA (.call (.ref fa) ⟨[.ref a],[]⟩) (λr s'=>r=.ok (.ret<|.bool true)/\OldK À.heap s'.heap/\s'.os=À.os/\AllBare s'.gens) À:=by
 have G:=Pn E;have FC:=E.length;have core:∀H:Hp,AE H->au K H a (ns.map V.int)->cn P w H À.heap->(∀b,H b≠none->b=a)->(H a≠none->K.lookup a=none) ->
   codeAny (model P w) callerA (.call (.ref fa) ⟨[.ref a],[]⟩) (λr s'=>r=.ok (.ret<|.bool true)/\OldK À.heap s'.heap/\s'.os=À.os/\AllBare s'.gens) À:=by
  intro H I hS J L hK;have M:∀{b:Addr}{o:Obj},À.heap.get? b=some o->H b=none->(fU À.heap H).get? b=some o:=λe n=>XO e n;have vf:∀{b:Addr}{o:Obj}{f:Array DictEntry}{i:Nat},À.heap.get? b=some o->o.data=.dict f i->H b=none:=λ{b o f i}e d=>by
   cases q:H b with
   |none=>rfl
   |some u=>
    have A:b=a:=L b (by rw[q];simp);subst A;rw[p]at e;cases e;have d':Data.seq vs.toArray _=Data.dict f i:=d;cases d'
  have t:∀{b:Addr}{m:Ñ},À.heap.Ns b m->(fU À.heap H).Ns b m:=λ{b m}⟨o,f,i,e,d,r⟩=>⟨o,f,i,M e<|vf e d,d,r⟩;have N:K.In (fU À.heap H):=λb o e=>M (C b o e)<|by
   cases q:H b with
   |none=>rfl
   |some u=>
    have A:b=a:=L b (by rw[q];simp);subst A;rw[hK<|by rw[q];simp]at e;cases e
  have hM:AR K mg (fU À.heap H):=⟨N,t D,⟨y,t c,Q⟩,let ⟨mc,h1,h2⟩:=T;⟨mc,t h1,h2⟩⟩;have e0:mR P w K mg (fU À.heap H) callerA [] À H:=⟨rfl,hM,λb o e=>XQ e,Nat.le_of_eq<|XN _ _,trivial,λb c=>absurd (show b∈([]:(List Addr))from c) (by simp),J,.of_eq U⟩;refine JQ ((F _ N<|t D).run callerA [] À H ⟨[.ref a],[]⟩ [.ref a] [.ref a] _ _ Y e0 (vx À<|.ref a) (.cons rfl .nil)<|eS H I hS) λr s' h=>?_;cases r with
  |error e=>exact(FA H e s' h).elim
  |ok fl=>
   cases fl with
   |next=>exact False.elim h
   |brk=>exact False.elim h
   |cont=>exact False.elim h
   |ret u=>
    obtain⟨v,H',os,j,un,FD,r',q⟩:=h;have q':v=.bl true:=q;subst q';obtain rfl:u=Value.bool true:=r';refine⟨rfl,OldK.of_keep λb o e=>?_,os,j⟩;cases q:H b with
    |none=>exact un.keep b o e q (by intro z;exact absurd (show b∈([]:(List Addr))from z)<|by simp)<|by simp
    |some u=>
     obtain z|⟨ob,xs,z⟩:=I b
     ·rw[q]at z;cases z
     ·have z2:=un.fc b ob _ z;obtain⟨O,_⟩:=J b _ z;obtain⟨e2,_⟩:=FD b _ z2;rw[e]at O;cases O;exact e2
 cases B:K.lookup a with
 |some o=>
  have e:=C a o B;rw[p]at e;cases e;refine core (λ_=>none) (λ_=> .inl rfl) (.inr ⟨_,vs.toArray,_,B,rfl,rfl,rfl,by rwa[Ay,FC],(by simpa using G)⟩) (λb u z=>by have l:(none:Option HO)=some u:=z;cases l) (λb z=>absurd rfl z) λz=>absurd rfl z
 |none=>
  refine core (λb=>if b=a then some (.b7 {cls:= .type "list",data:= .seq vs.toArray}<|.lst<|ns.map V.int)else none) (λb=>?_) (.inl<|.inr ⟨{cls:= .type "list",data:= .seq vs.toArray},BP rfl⟩) (λb u z=>?_) (λb z=>?_) λ_=>B
  ·by_cases c:b=a
   ·exact .inr ⟨_,_,BP c⟩
   ·exact .inl<|BL c
  ·by_cases c:b=a
   ·have l:=(BP c).symm.trans z;cases l;subst c;exact⟨p,by rwa[Aa],vs,_,G,p⟩
   ·have l:=(BL c).symm.trans z;cases l
  ·by_cases c:b=a
   ·exact c
   ·exact absurd (BL c) z
variable{YP:World->Heap->Prop}{XP:Ñ->Heap->Prop}{loose:Ð}{n:Nat}{l:PySem.W.OpenLaw}
def mZ{k:Nat}{q:Program}{d:DefRec}{K:Params->aa}{CX:World->lT}{sp:World->Sp}
  (j:l.most=some n) (m:n<=sizeLine) (p:d.params.defaults=[]) (r:bH k callerA)
  (t:∀(w:World)(h:Heap),YP w h->(K w.params).In h)
  (F : ∀(w : World)(mg : Str → Option Value)(fa : Addr)(h : Heap), (K w.params).In h → h.Ns mainGlobals mg → mg d.name = some (.ref fa) →
   ∃fd:FuncData,(∀(s:Shared)(u:Value),BindsTo s fd ⟨[u],[]⟩ [(x,u)]) /\
    ∀Z:Heap,(K w.params).In Z->Z.Ns mainGlobals mg->aE l.prog w (K w.params) mg Z (CX w) k fa fd [x] (sp w))
  (y:∀(w:World)(H:Hp)(a:Addr)(ns:List Int),ns.length<=n->AE H->au (K w.params) H a (ns.map V.int)->sp w [.ref a] H (λv _=>v=.bl true) λ_ _ _=>False)
  (z:∀(w:World)(H:Hp)(s:Shared)(e:Value)(s':Shared),CX w [] H s (λ_ _ _=>False) e s'->False):
  PySem.W.WalkO q loose XP YP l.row.toRowW d [] (λf vs=>PySem.call f vs):=by
 refine Pk.gX j p λw N À mg O fa o pm Q A a vs ns G B T hd U C D c b E=>?_;have i:=t w _ B;obtain⟨fd,I,J⟩:=F w mg fa _ i G.T.g C;exact ZH i G.T.g G.T.b G.T.builtins G.T.nolimit E D c (Ch b m) r J I (λH L M=>y w H a ns b L M) λH e s'=>z w H À e s'
def lV(s:Stmt):Arguments:=match s with
 |.FunctionDef _ a _ _ _ _ _ _ _ _=>a
 |_=>{posonlyargs:=[],args:=[],vararg:=none,kwonlyargs:=[],kw_defaults:=[],kwarg:=none,defaults:=[]}
def gY(s:Stmt):Ô:=match s with
 |.FunctionDef _ _ b _ _ _ _ _ _ _=>b
 |_=>[]
def aW(s:Stmt):Scope:=match s with
 |.FunctionDef _ _ _ _ _ _ a _ _ _=>a
 |_=>{kind:= .function,names:=[],isGenerator:=false,isCoroutine:=false}
abbrev bK:lT:=λ_ _ _ _ _ _=>False
abbrev E0:XK:=λ_ _ _=>False
variable{X:Cx}
def kG:mU bK X E0:=λ_ _ _ _ _ _ _ h=>h.elim
structure bB(K:aa)(x qual:Str)(st:Stmt)(f:Addr)(fd:FuncData):Prop where
 ex:∃oc od kV doc pm an bL ct lU,
  fd=PySem.W.fnOf x qual (lV st) (gY st) (aW st) .none kV doc pm an bL ct/\K.lookup f=some ⟨oc,od,.func fd,lU⟩/\PySem.W.codeIn K bL qual=true
 kp:PySem.W.keepIn K (.ref f)=true
variable{Z:Heap}{ps:Ð}{f:Addr}{st:Stmt}{qual:Str}{lU:Array (Option Value)}{oc:Value}
def bB.ok{N:Ð}{k:Nat}(F:bB K x qual st f fd)(S:ak N ps<|aW st)(len:∀vs H Q E,sp vs H Q E->vs.length=ps.length)
  (b : ∀a A outer s H vs Q E, bH k (A.deeper<|envOfC qual (aW st) s.heap.objs.size f a) → sp vs H Q E →
   ∃t,jz (dv bK P w K mg Z N qual (aW st) f a A outer s H E).sW (gY st) t/\t {nx:=λ_ H'=>Q .non H',rt:=Q} (mf N vs) H):(aE P w K mg Z bK) (k+1) f fd ps sp:=by
 obtain⟨oc,j,kV,c,pm,l,a,m,lU,rfl,lk,d⟩:=F.ex;refine O5 lk d S len λA outer s H vs Q E e i=>?_;obtain⟨t,h,q⟩:=b a A outer s H vs Q E e i;exact⟨t,h.sW,q⟩
def bB.binds(F:bB K x qual st f fd)
  (h:∀kV a pm b c ct d,d.length=ps.length->bindArgs (PySem.W.fnOf x qual (lV st) (gY st) (aW st) .none kV a pm b c ct) ⟨d,[]⟩=pure (ps.zip d)):pi K fd ps []:=by
 obtain⟨oc,e,kV,a,pm,b,c,ct,lU,rfl,lk,i⟩:=F.ex;exact .all<|h kV a pm b c ct
def ZJ{e d:Option Addr}{kV a pm b ct:Value}(l:K.lookup f=some ⟨oc,e,.func<|PySem.W.fnOf x qual (lV st) (gY st) (aW st) .none kV a pm d b ct,lU⟩)
  (c:PySem.W.codeIn K b qual=true) (k:PySem.W.keepIn K (.ref f)=true):bB K x qual st f (PySem.W.fnOf x qual (lV st) (gY st) (aW st) .none kV a pm d b ct):=⟨⟨oc,e,kV,a,pm,d,b,ct,lU,rfl,l,c⟩,k⟩
def bR{A B:Prop}(h:B):if false=true then A else B:=by
 rwa[BL Aw]
def cv{A B:Prop}(h:A):if true=true then A else B:=by
 rwa[BP rfl]
def jC{c A B:Prop}[Decidable c](a:c->A)(b:¬ c->B):if c then A else B:=by
 by_cases h:c
 ·rw[BP h];exact a h
 ·rw[BL h];exact b h
def aj(H H':Hp):Prop:=∀b o,H b=some o->H' b=some o
def aj.refl(H:Hp):aj H H:=λ_ _ h=>h
variable{H H2:Hp}
def aj.trans{d:Hp}(a:aj H d)(b:aj d H2):aj H H2:=λc o h=>b c o<|a c o h
variable{H':Hp}
theorem aj.free(e:aj H H'){l:Addr}(h:H' l=Option.none):H l=Option.none:=by
 cases q:H l with
 |none=>rfl
 |some o=>
  rw[e l o q]at h;cases h
def aj.seq{xs:List V}(e:aj H H')(h:au K H a xs):au K H' a xs:=by
 obtain(h|⟨o,h⟩)|h:=h
 ·exact .inl<|.inl<|e _ _ h
 ·exact .inl<|.inr ⟨o,e _ _ h⟩
 ·exact .inr h
variable{o:Option V}{u:Value}{y:V}
section
variable{κ:Type} [DecidableEq κ]
def aF(Y:List<|κ×V)(k:κ):Option V:=(Y.find? λa=>decide (a.1=k)).map (·.2)
def putK(Y:List<|κ×V)(k:κ)(v:V):List (κ×V):=
 if(Y.any λa=>decide (a.1=k))=true then Y.map (λa=>if a.1=k then(a.1,v)else a)else Y++[(k,v)]
def iJ{p:κ×V}{r:List (κ×V)}{k:κ}(e:p.1=k):aF (p :: r) k=some p.2:=by simp[aF,Fm,e]
def iw{p:κ×V}{r:List (κ×V)}{k:κ}(e:¬ p.1=k):aF (p :: r) k=aF r k:=by simp[aF,Fm,e]
theorem tE(k:κ):∀Y:List<|κ×V,(Y.any λa=>decide (a.1=k))=(aF Y k).isSome
 |[]=>rfl
 |p :: r=>by
  rw[Gf]
  by_cases e:p.1=k
  ·simp only[iJ e,BW e,Bool.true_or,Option.isSome_some]
  ·rw[iw e,BR e,Bool.false_or];exact tE k r
theorem Pq(k j:κ)(y:V):∀Y:List<|κ×V,aF (Y.map λa=>if a.1=k then(a.1,y)else a) j=(aF Y j).map λx=>if j=k then y else x
 |[]=>rfl
 |p :: r=>by
  have b:=Pq k j y r;rw[Ba]
  by_cases h:p.1=k
  ·rw[BP h]
   by_cases e:p.1=j
   ·rw[iJ (p:=(p.1,y)) e,iJ e,Hh,BP<|e.symm.trans h]
   ·rw[iw (p:=(p.1,y)) e,iw e,b]
  ·rw[BL h]
   by_cases e:p.1=j
   ·rw[iJ e,iJ e,Hh,BL λz=>h<|e.trans z]
   ·rw[iw e,iw e,b]
theorem Pt(k j:κ)(y:V):∀Y:List<|κ×V,aF Y k=none->aF (Y++[(k,y)]) j=if j=k then some y else aF Y j
 |[],_=>by
  by_cases e:k=j
  ·rw[BP e.symm];exact iJ (p:=(k,y)) e
  ·rw[BL λz=>e z.symm];exact iw (p:=(k,y)) e
 |p :: r,a=>by
  rw[Fz];have b:¬ p.1=k:=λz=>by rw[iJ z]at a;cases a
  rw[iw b]at a;have c:=Pt k j y r a
  by_cases e:p.1=j
  ·rw[iJ e,iJ e,BL λz=>b<|e.trans z]
  ·rw[iw e,iw e,c]
def d8(Y:List<|κ×V)(k j:κ)(y:V):aF (putK Y k y) j=if j=k then some y else aF Y j:=by
 unfold putK
 by_cases a:(Y.any λb=>decide (b.1=k))=true
 ·rw[BP a,Pq];rw[tE]at a
  by_cases e:j=k
  ·obtain⟨x,c⟩:=Fa.mp a;rw[BP e,e,c,Hh,BP rfl]
  ·rw[BL e];cases aF Y j with
   |none=>rfl
   |some x=>rw[Hh,BL e]
 ·rw[BL a];refine Pt k j y Y ?_;rw[tE]at a;cases q:aF Y k with
  |none=>rfl
  |some x=>rw[q]at a;exact(a rfl).elim
theorem jD(Y:List<|κ×V)(k:κ)(v:V):(putK Y k v).length<=Y.length+1:=by
 unfold putK
 split
 ·rw[Aa];omega
 ·rw[Ag,As,Er];omega
def Pu{Y:List (κ×V)}{k:κ}(v:V)(h:aF Y k=none):putK Y k v=Y++[(k,v)]:=by
 unfold putK;rw[tE,h];exact BL<|(by decide)
theorem d3.b9{u:Option Value}(r:d3 o u):o.isSome=u.isSome:=by
 cases o with
 |none=>cases u with
  |none=>rfl
  |some _=>exact(show False from r).elim
 |some _=>cases u with
  |none=>exact(show False from r).elim
  |some _=>rfl
theorem KV.val{Y:List (κ×V)}{vs:List (κ×Value)}(r:KV Y vs)(k:κ):d3 (aF Y k) (valueAt vs k):=by
 unfold KV at r
 induction r with
 |nil=>exact True.intro
 | @cons p q ps a h t f=>
  obtain⟨d,i⟩:=h
  by_cases e:p.1=k
  ·have c:=d.symm.trans e;have b:valueAt (q :: a) k=some q.2:=by simp[valueAt,Fm,c]
   rwa[iJ e,b]
  ·have c:¬ q.1=k:=λz=>e<|d.trans z;have b:valueAt (q :: a) k=valueAt a k:=by simp[valueAt,Fm,c]
   rwa[iw e,b]
theorem KV.any{Y:List (κ×V)}{vs:List (κ×Value)}(r:KV Y vs)(k:κ):(Y.any λa=>decide (a.1=k))=vs.any λa=>decide (a.1=k):=by
 unfold KV at r
 induction r with
 |nil=>rfl
 |cons h t b=>rw[Gf,Gf,b,h.1]
theorem KV.repl{Y:List (κ×V)}{vs:List (κ×Value)}(r:KV Y vs)(k:κ)(c:cc y u):
  KV (Y.map λa=>if a.1=k then(a.1,y)else a) (vs.map λa=>if a.1=k then(a.1,u)else a):=by
 unfold KV at r ⊢
 induction r with
 |nil=>exact .nil
 | @cons p q ps i h t d=>
  rw[Ba,Ba];refine .cons ?_ d;obtain⟨b,f⟩:=h
  by_cases e:p.1=k
  ·rw[BP e,BP<|b.symm.trans e];exact⟨b,c⟩
  ·rw[BL e,BL λz=>e<|b.trans z];exact⟨b,f⟩
def KV.put{Y:List (κ×V)}{vs:List (κ×Value)}(r:KV Y vs)(k:κ)(a:cc y u):KV (putK Y k y) (stored vs k u):=by
 unfold putK stored;rw[r.any k]
 by_cases e:(vs.any λb=>decide (b.1=k))=true
 ·rw[BP e,BP e];exact r.repl k a
 ·rw[BL e,BL e];exact Paired.snoc r ⟨rfl,a⟩
theorem KV.keys{Y:List (κ×V)}{vs:List (κ×Value)}(r:KV Y vs):Y.map (·.1)=vs.map (·.1):=by
 unfold KV at r
 induction r with
 |nil=>rfl
 |cons h t a=>rw[Ba,Ba,a,h.1]
def KV.length{Y:List (κ×V)}{vs:List (κ×Value)}(r:KV Y vs):Y.length=vs.length:=Paired.length r
end
theorem oJ{k:Key}(r:cc (kV k) u):(bX P w).is k u=true:=by
 cases k with
 |inl i=>obtain⟨t,e⟩:=(show ∃t,u=Value.int i t from r);subst e;exact XI P w i t
 |inr x=>obtain⟨t,e⟩:=(show ∃t,u=Value.str x t from r);subst e;exact XJ P w x t
theorem Pw{P:Program}{w:World}:∀{ks}{a},ay (ks.map kV) a->ItemsAre (bX P w) ks a
 |[],_,r=>by rw[List.map_nil]at r;cases r;exact .nil
 |k :: ks,_,r=>by
  rw[Ba]at r;cases r with
  |cons h t=>exact .cons (oJ h)<|Pw t
abbrev KT(H:Hp):List (List Key×V)->List (List Key×Addr×Value)->Prop:=Paired λp q=>p.1=q.1/\H q.2.1=some (.tup<|p.1.map kV)/\cc p.2 q.2.2
variable{xs:List (List Key×Addr×Value)}{Y:List (List Key×V)}
theorem KT.val(r:KT H Y xs)(k:List Key):d3 (aF Y k) ((atKey xs k).map (·.2)):=by
 induction r with
 |nil=>exact True.intro
 | @cons p q ps a h t f=>
  obtain⟨d,_,i⟩:=h
  by_cases e:p.1=k
  ·have c:=d.symm.trans e;have b:atKey (q :: a) k=some q.2:=by simp[atKey,Fm,c]
   rwa[iJ e,b]
  ·have c:¬ q.1=k:=λz=>e<|d.trans z;have b:atKey (q :: a) k=atKey a k:=by simp[atKey,Fm,c]
   rwa[iw e,b]
theorem KT.repl(r:KT H Y xs)(k:List Key)(d:cc y u):
  KT H (Y.map λb=>if b.1=k then(b.1,y)else b) (xs.map<|putAt k u):=by
 induction r with
 |nil=>exact .nil
 | @cons p q ps j h t f=>
  rw[Ba,Ba];refine .cons ?_ f;obtain⟨a,c,i⟩:=h;unfold putAt
  by_cases e:p.1=k
  ·rw[BP e,BP<|a.symm.trans e];exact⟨a,c,d⟩
  ·rw[BL e,BL λz=>e<|a.trans z];exact⟨a,c,i⟩
variable{b:Addr}
def KT.put(r:KT H Y xs)(k:List Key)(c:H b=some (.tup<|k.map kV))(a:cc y u):
  KT H (putK Y k y) (storedH xs k b u):=by
 have e:(Y.any λd=>decide (d.1=k))=(atKey xs k).isSome:=by
  rw[tE,(r.val k).b9,RK]
 unfold putK storedH;rw[e]
 by_cases q:(atKey xs k).isSome=true
 ·rw[BP q,BP q];exact r.repl k a
 ·rw[BL q,BL q];exact Paired.snoc r ⟨rfl,c,a⟩
def KT.keeps(r:KT H Y xs)(a:∀b ys,H b=some (.tup ys)->H' b=some (.tup ys)):KT H' Y xs:=
 Paired.pU r λ_ _ z=>⟨z.1,a _ _ z.2.1,z.2.2⟩
variable{h:Heap}{ks:List Key}
def Px{u:HO}(ok:cn P w H h)(e:Rd H a u):aB P w H h a u:=e.ok ok
def tF{Y:List (Key×V)}(ok:cn P w H h)(e:Rd H a<|.dK Y):Y.length<=sizeLine/\(a == sysModules)=false/\∃vs,KV Y vs/\h.DictOf (bX P w) a vs:=
 show aB P w H h a (.dK Y)from Px ok e
def vy{Y:List (Key×V)}(ok:cn P w H h)(e:H a=some (.dK Y)):Y.length<=sizeLine/\(a == sysModules)=false/\∃vs,KV Y vs/\h.DictOf (bX P w) a vs:=tF ok<|.inl e
def lW(ok:cn P w H h)(e:H a=some (.tup<|ks.map kV)):(tupleKind<|bX P w).is h ks a:=by
 obtain⟨_,b,r,o,c,d,n,f⟩:=(show aB P w H h a (.tup<|ks.map kV)from ok a _ e);exact⟨o,b.toArray,n,c,d,f,by simpa using Pw r⟩
def vz(ok:cn P w H h)(e:Rd H a<|.dT Y):Y.length<=sizeLine/\(a == sysModules)=false /\
  ∃xs,KT H Y xs/\h.DictOfH (tupleKind<|bX P w) a xs:=by
 obtain⟨z,y,xs,r,o,d,f,i,j,k,n,s⟩:=(show aB P w H h a (.dT Y)from Px ok e);refine⟨z,y,xs,r,o,d,f,i,j,k,n,λx b=>?_,s⟩;have all:∀{l}{m},KT H l m->∀x∈m,(tupleKind<|bX P w).is h x.1 x.2.1:=by
  intro l m q
  induction q with
  |nil=>intro x b;exact nomatch b
  | @cons p q ps v c t u=>
   intro x b
   obtain e|b:=Ai.mp b
   ·subst e;exact lW ok<|by rw[<-c.1];exact c.2.1
   ·exact u x b
 exact all r x b
def Py(ok:cn P w H h)(e:H a=some (.dT Y)):Y.length<=sizeLine/\(a == sysModules)=false /\
  ∃xs,KT H Y xs/\h.DictOfH (tupleKind<|bX P w) a xs:=vz ok<|.inl e
def bb(H:Hp)(a:Addr)(y:V)(r:Option V):Prop:=
 (∃Y k,Rd H a (.dK Y)/\y=kV k/\r=aF Y k)\/∃Y k b,Rd H a (.dT Y)/\y=.ref b/\H b=some (.tup<|k.map kV)/\r=aF Y k
def cw(H:Hp)(a:Addr)(y v:V)(H':Hp):Prop:=
 (∃Y k,H a=some (.dK Y)/\y=kV k/\Y.length<sizeLine/\H'=upd H a (.dK<|putK Y k v)) \/
 ∃Y k b,H a=some (.dT Y)/\y=.ref b/\H b=some (.tup<|k.map kV)/\Y.length<sizeLine/\H'=upd H a (.dT<|putK Y k v)
def bb.k{H:Hp}{a:Addr}{Y:List (Key×V)}{k:Key}(e:H a=some (.dK Y)):bb H a (kV k) (aF Y k):= .inl ⟨Y,k,.inl e,rfl,rfl⟩
def bb.t{k:List Key}(e:H a=some (.dT Y))(c:H b=some (.tup<|k.map kV)):bb H a (.ref b) (aF Y k):= .inr ⟨Y,k,b,.inl e,rfl,c,rfl⟩
def cw.k{H:Hp}{a:Addr}{Y:List (Key×V)}{k:Key}{v:V}(e:H a=some (.dK Y))(b:Y.length<sizeLine):cw H a (kV k) v (upd H a<|.dK<|putK Y k v):= .inl ⟨Y,k,e,rfl,b,rfl⟩
variable{v:V}
def cw.t{k:List Key}(e:H a=some (.dT Y))(c:H b=some (.tup<|k.map kV))(d:Y.length<sizeLine):
  cw H a (.ref b) v (upd H a<|.dT<|putK Y k v):= .inr ⟨Y,k,b,e,rfl,c,d,rfl⟩
variable{E Q:Í}{A:Around}{s:Shared}{σ:St}{O:Ï}{t':Nat}{h':Heap}{vs:List (Key×Value)}
section
variable{r:Value}
def be.big(I:(be X O σ H s)):sysModules<s.heap.objs.size:=by
 have h:=(I.mod.glob.keeps I.bk).lt;exact VL (by decide) h
def ZK(n:A.units+1<cLine)(I:(be X O σ H s))(g:bb H a y<|some v)(m:cc y u)(h:∀c s',be X O σ H s'->cc v c->Q c s'):
  wpAny (model X.U X.w) A (getItem (.ref a) u) Q E s:=by
 obtain⟨Y,k,e,d,l⟩|⟨Y,k,b,e,d,o,l⟩:=g
 ·subst d;obtain⟨z,hd,vs,rel,f⟩:=tF I.aH e;obtain⟨c,i,j⟩:=d3.some_of (by rw[l];exact rel.val k);exact wpAny_getItem_of (oJ m) f.mapOf i<|h c _ (I.tok _) j
 ·subst d;cases (show u=Value.ref b from m);obtain⟨z,hd,xs,rel,f⟩:=vz I.aH e;obtain⟨c,i,j⟩:=d3.some_of (by rw[l];exact rel.val k);obtain⟨p,q,r⟩:=Az.mp i;refine wpAny_getItem_heap (FW n) (lW I.aH o) f q ?_;rw[r];exact h c _ (I.tok _) j
def FG(i:A.units+1<cLine)(I:(be X O σ H s))(g:bb H a y o)(f:cc y u)(h:∀s',be X O σ H s'->Q (.bool o.isSome) s'):
  wpAny (model X.U X.w) A (compareOp .In u<|.ref a) Q E s:=by
 obtain⟨Y,k,e,c,l⟩|⟨Y,k,b,e,c,j,l⟩:=g
 ·subst c;obtain⟨z,hd,vs,rel,d⟩:=tF I.aH e;refine wpAny_in_of (oJ f) hd d.mapOf ?_;rw[<-(rel.val k).b9,<-l];exact h _<|I.tok _
 ·subst c;cases (show u=Value.ref b from f);obtain⟨z,hd,xs,rel,d⟩:=vz I.aH e;refine wpAny_in_heap (FW i) (lW I.aH j) hd d ?_;have q:=(rel.val k).b9;rw[RK]at q;rw[<-q,<-l];exact h _<|I.tok _
def ZL(i:A.units+1<cLine)(I:(be X O σ H s))(g:bb H a y o)(f:cc y u)(h:∀s',be X O σ H s'->Q (.bool (!o.isSome)) s'):
  wpAny (model X.U X.w) A (compareOp .NotIn u<|.ref a) Q E s:=by
 obtain⟨Y,k,e,c,l⟩|⟨Y,k,b,e,c,j,l⟩:=g
 ·subst c;obtain⟨z,hd,vs,rel,d⟩:=tF I.aH e;refine wpAny_notIn_of (oJ f) hd d.mapOf ?_;rw[<-(rel.val k).b9,<-l];exact h _<|I.tok _
 ·subst c;cases (show u=Value.ref b from f);obtain⟨z,hd,xs,rel,d⟩:=vz I.aH e;refine wpAny_notIn_heap (FW i) (lW I.aH j) hd d ?_;have q:=(rel.val k).b9;rw[RK]at q;rw[<-q,<-l];exact h _<|I.tok _
def lX{c:HO}(I:(be X O σ H s))(d:uO<|H a)(e:Heap.SameBut a s.heap h')(f:∃q,h'.get? a=some q)(new:aB X.U X.w (upd H a c) h' a c):
  be X O σ (upd H a c) {s with heap:=h',toks:=t'}:=
 I.write d (.inl rfl) (λb q h z=>(e.2 b h).trans z) f new
def FH{Y:List (Key×V)}(z:Y.length<=sizeLine)(hd:(a == sysModules)=false)(rel:KV Y vs)(dd:h'.DictOf (bX P w) a vs):
  aB P w H' h' a (.dK Y):=⟨z,hd,vs,rel,dd⟩
theorem ZM{Q:Unit->Shared->Prop}(x:A.units+1<cLine)(I:(be X O σ H s))(g:cw H a y v H')(p:cc y u)(t:cc v r)(h:∀s',be X O σ H' s'->Q () s'):
  wpAny (model X.U X.w) A (setItem (.ref a) u r) Q E s:=by
 obtain⟨Y,k,e,i,l,j⟩|⟨Y,k,b,e,i,w,l,j⟩:=g
 ·subst i j;obtain⟨z,hd,vs,rel,m⟩:=vy I.aH e;have B:vs.length<=sizeLine:=by rwa[<-rel.length]
  have n:(putK Y k v).length<=sizeLine:=by have:=jD Y k v;omega
  refine wpAny_setItem_pairs (oJ p) m λh' d o=>h _ ?_;have C:∃q,h'.get? a=some q:=let ⟨q,_,_,f,_⟩:=d;⟨q,f⟩
  exact lX I (by rw[e];exact True.intro) o C<|FH n hd (rel.put k t) d
 ·subst i j;cases (show u=Value.ref b from p);obtain⟨z,hd,xs,rel,m⟩:=Py I.aH e;have B:xs.length<=sizeLine:=by rwa[<-Paired.length rel]
  have n:(putK Y k v).length<=sizeLine:=by have:=jD Y k v;omega
  refine wpAny_setItem_heap (FW x) (lW I.aH w) m λh' d o=>h _ ?_;obtain⟨q,D,G,f,J,L,M,_,N⟩:=d;refine lX I (by rw[e];exact True.intro) o ⟨q,f⟩ ⟨n,hd,_,(rel.put k w t).keeps λc U T=>?_,q,D,G,f,J,L,M,N⟩;rwa[aw<|cf T e λz=>nomatch z]
end
def qg(i:Expr):Prop:=∀a b,subscripted i false a b=operate [a,b] (getItem a b)
variable{value:Expr}{env:Env}{U:Program}
def ZN{slice:Expr}{pos:Pos}{T id:String}
  (f:typeLookup (.type T) "__getitem__" = pure (some<|.builtin id)) (j:qg slice)
  (h:(ba U w A) (eval value env) (λo À=>(ba U w A) (eval slice env) (λi b=>b.TypeIs o T/\(ba U w A) (getItem o i) Q E b) E À) E s):
  (ba U w A) (eval (.Subscript value slice pos) env) Q E s:=by
 refine Subscript_<|CW h (λo À a=>CW a (λi b c=>?_) λ_ _ x=>x) λ_ _ x=>x;obtain⟨d,c⟩:=c;unfold subscriptTail;refine BJ ?_;rw[getitemInPython_of_ne d.not_modules];refine BJ<|KH d f ?_;have fin:(ba U w A) (subscripted slice false o i) (λr e=>(ba U w A) (letTemporaryGo value o r >>= λ_=>pure r) Q E e) E b:=by
  rw[j o i];exact wpAny_operating<|CW c (λr e k=>BJ<|wpAny_letTemporaryGo<|BK k) λ_ _ x=>x
 first
  |exact BK<|BJ fin
  |exact BJ<|BK<|BJ fin
  |exact BJ fin
def ZO(I:(be X O σ H s))(g:bb H a y o):s.TypeIs (.ref a) "dict":=by
 obtain⟨Y,k,e,_,_⟩|⟨Y,k,b,e,_,_,_⟩:=g
 ·obtain⟨_,_,vs,_,c⟩:=tF I.aH e;exact c.typeIs
 ·obtain⟨_,_,xs,_,c⟩:=vz I.aH e;exact c.typeIs
def ZP(b ty:TE):TE:=λσ H Q=>b σ H λx c=>ty σ c λy H2=>∃a v,x=.ref a/\bb H2 a y (some v)/\Q v H2
def FI(ty b:TE):TE:=λσ H Q=>ty σ H λy c=>b σ c λx H2=>∃a o,x=.ref a/\bb H2 a y o/\Q (.bl o.isSome) H2
def ZQ(ty b:TE):TE:=λσ H Q=>ty σ H λy c=>b σ c λx H2=>∃a o,x=.ref a/\bb H2 a y o/\Q (.bl (!o.isSome)) H2
def ZR(c ty d:TE):TS:=λD σ H=>d σ H λv e=>c σ e λx H2=>ty σ H2 λy f=>∃a b,x=.ref a/\cw f a y v b/\D.nx σ b
variable{pos':Pos}{e:Expr}
section
variable{o i:Expr}{pos ZS:Pos}{td ty tv:TE}
def ZT(c:X.A.units+1<cLine)(d:PE X o td)(e:PE X i ty)(f:qg i):PE X (.Subscript o i pos) (ZP td ty):=by
 intro O s σ H Q I h;refine ZN PySem.F.slot_dict_getitem.lookup f<|aO (d O s σ H _ I h) λu j⟨x,k,l,m,n⟩=>aO (e O j σ k _ l n) λz A⟨y,H2,b,p,a,v,q,g,r⟩=>?_;subst q;obtain rfl:u=Value.ref a:=m;exact⟨ZO b g,ZK c b g p λB C t w=>⟨v,H2,t,w,r⟩⟩
def ZU(b:X.A.units+1<cLine)(c:PE X i ty)(d:PE X o td):PC X .In i o (FI ty td):=by
 intro O s σ H Q I h;refine aO (c O s σ H _ I h) λv e⟨y,f,j,k,l⟩=>aO (d O e σ f _ j l) λu w⟨x,H2,m,n,a,p,q,g,r⟩=>?_;subst q;obtain rfl:u=Value.ref a:=n;exact FG b m g k λz t=>⟨.bl p.isSome,H2,t,rfl,r⟩
def ZV(b:X.A.units+1<cLine)(c:PE X i ty)(d:PE X o td):PC X .NotIn i o (ZQ ty td):=by
 intro O s σ H Q I h;refine aO (c O s σ H _ I h) λv e⟨y,f,j,k,l⟩=>aO (d O e σ f _ j l) λu w⟨x,H2,m,n,a,p,q,g,r⟩=>?_;subst q;obtain rfl:u=Value.ref a:=n;exact ZL b m g k λz t=>⟨.bl (!p.isSome),H2,t,rfl,r⟩
def ZW(b:X.A.units+1<cLine)(c:PE X o td)(d:PE X i ty)(e:PE X value tv)(f:swapsWith value (some<|.Subscript o i pos') pos.line X.env=pure false):
  PS X (.Assign [.Subscript o i pos'] value pos) (ZR td ty tv):=by
 intro O s σ H D I h;refine wpAny_Assign_Subscript (aO (e O s σ H _ I h) λr j⟨v,k,l,m,n⟩=>aO (c O j σ k _ l n) λu p⟨x,H2,q,t,w⟩=>aO (d O p σ H2 _ q w) λJ L⟨y,M,z,A,a,B,C,g,E⟩=>?_) f;subst C;obtain rfl:u=Value.ref a:=t;exact ZM b z g A m λN G=>⟨σ,B,G,E⟩
end
def Pz(h:Heap)(a:sysModules < h.objs.size):aB P w H (h.push {cls:= .type "dict",data:= .dict #[]}) h.objs.size (.dK []):=
 ⟨Bx _,beq_eq_false_iff_ne.mpr<|CK<|Bw a,[],.nil,Heap.DictOf.new h⟩
def FK(h:Heap)(a:sysModules < h.objs.size):aB P w H (h.push {cls:= .type "dict",data:= .dict #[]}) h.objs.size (.dT []):=
 ⟨Bx _,beq_eq_false_iff_ne.mpr<|CK<|Bw a,[],.nil,_,#[],0,At _ rfl,⟨rfl,rfl,rfl⟩,rfl,rfl,Cd⟩
def ZX:TE:=λ_ H Q=>∀p,H p=none->Q (.ref p) (upd H p<|.dK [])
def ZY:TE:=λ_ H Q=>∀p,H p=none->Q (.ref p) (upd H p<|.dT [])
section
variable{pos:Pos}
def ZZ:PE X (.Dict [] [] pos) ZX:=λO s σ H Q I h=>
 wpAny_Dict_empty ⟨.ref s.heap.objs.size,_,I.laid (λ_ _ q=>Aj _ q) (An _)<|Pz s.heap I.big,rfl,h _<|I.aH.fresh<|An _⟩
def Z4:PE X (.Dict [] [] pos) ZY:=λO s σ H Q I h=>
 wpAny_Dict_empty ⟨.ref s.heap.objs.size,_,I.laid (λ_ _ q=>Aj _ q) (An _)<|FK s.heap I.big,rfl,h _<|I.aH.fresh<|An _⟩
end
variable{apos:Pos}
section
variable{κ:Type} [DecidableEq κ]
def PD{Y:List (κ×V)}{k:κ}(h:aF Y k=some v):k∈Y.map (·.1):=by
 have q:(Y.any λa=>decide (a.1=k))=true:=by
  rw[tE,h]
  all_goals rfl
 obtain⟨p,b,e⟩:=List.any_eq_true.mp q;exact Ak.mpr ⟨p,b,BX e⟩
theorem oK:∀{l:List κ}{k:κ},l.Nodup->¬ k∈l->(l++[k]).Nodup
 |[],k,_,_=>by simp
 |a :: r,k,h,b=>by
  obtain⟨c,d⟩:=Bh.mp h;show(a :: (r++[k])).Nodup;refine Bh.mpr ⟨λm=>?_,oK d λm=>b<|Ai.mpr<|Or.inr m⟩
  obtain q|q:=Am.mp m
  ·exact c q
  ·exact b<|Ai.mpr<|Or.inl (Ad.mp q).symm
end
variable{tg:Expr}
theorem PF{env:Env}:∀{names:List (Str×NameKind)}{x:Str}{a:NameKind},
  (names.map λ(n,k)=>if(k == NameKind.free && env.scope.kind == .function && env.kindOf n == some .cell) then(n,NameKind.cell) else(n,k)).lookup x=some a ->
  ∃k,names.lookup x=some k/\(a=k\/(k=.free/\a=.cell))
 |[],_,_,h=>by simp at h
 |(n,k):: r,x,a,h=>by
  have d:=@PF env r x a
  change List.lookup x ((if(k == NameKind.free && env.scope.kind == .function && env.kindOf n == some .cell)=true then(n,NameKind.cell) else(n,k)):: _)=_ at h
  cases b:x == n with
  |true=>
   by_cases c:(k == NameKind.free && env.scope.kind == .function && env.kindOf n == some .cell)=true
   ·rw[BP c]at h;simp only[Ec,b]at h;cases h;have e:k=.free:=by
     have:=(Cb _ _ ▸ (Cb _ _ ▸ c).1).1;cases k<;>first|rfl|(exact absurd this<|(by decide))
    exact⟨k,by simp[Ec,b],.inr ⟨e,rfl⟩⟩
   ·rw[BL c]at h;simp only[Ec,b]at h;cases h;exact⟨k,by simp[Ec,b],.inl rfl⟩
  |false=>
   have f:∃k,r.lookup x=some k/\(a=k\/(k=.free/\a=.cell)):=by
    by_cases c:(k == NameKind.free && env.scope.kind == .function && env.kindOf n == some .cell)=true
    ·rw[BP c]at h;simp only[Ec,b]at h;exact d h
    ·rw[BL c]at h;simp only[Ec,b]at h;exact d h
   obtain⟨i,j,l⟩:=f;exact⟨i,by simp[Ec,b,j],l⟩
def cQ(names:List<|Str×NameKind)(b:List<|Str×Addr)(acc:List<|Str×Addr):List (Str×Addr):=
 names.foldl (λa x=>if x.2 == .free then(match b.lookup x.1 with|some c=>(x.1,c):: a|none=>a)else a) acc
variable{scope:Scope}
def FL(h:∀x∈scope.names,x.2=.free->∃c,env.cells.lookup x.1=some c):closureFor scope env=pure (cQ scope.names env.cells []):=by
 have all:∀l a,(∀x∈l,x.2=.free->∃c,env.cells.lookup x.1=some c) ->
   (forIn l a λx d=>(if x.2 == .free then(do let c <-cellOf env x.1;pure (ForInStep.yield<|(x.1,c):: d))else pure (ForInStep.yield d):Sem _))=pure (cQ l env.cells a):=by
  intro l
  induction l with
  |nil=>intro a _;rfl
  |cons x r e=>
   intro a f;rw[Hi];have i:=λy k=>f y<|Af _ k;cases b:x.2 == .free with
   |true=>
    have m:x.2=.free:=by
     revert b
     cases x.2<;>intro b<;>first|rfl|(exact absurd b<|(by decide))
    obtain⟨c,j⟩:=f x Ae m;simp only[CZ,cellOf,j];rw[show cQ (x :: r) env.cells a=cQ r env.cells ((x.1,c):: a) by unfold cQ;rw[Dh];simp[b,j]];exact e _ i
   |false=>
    simp only[Aq,CP];rw[show cQ (x :: r) env.cells a=cQ r env.cells a by unfold cQ;rw[Dh];simp[b]];exact e _ i
 have q:=all scope.names [] h;simp only[closureFor];exact(BZ (· >>= λr=>pure r) q).trans rfl
theorem FO:∀names a acc,(∀x c,(x,c)∈acc->a.lookup x=some c)->∀x c,(x,c)∈cQ names a acc->a.lookup x=some c
 |[],_,_,h=>h
 |y :: r,a,acc,h=>by
  have e:cQ (y :: r) a acc=cQ r a (if y.2 == .free then(match a.lookup y.1 with|some c=>(y.1,c):: acc|none=>acc)else acc):=rfl;rw[e];refine FO r a _ ?_;cases i:y.2 == .free with
  |false=>simpa using h
  |true=>
   cases f:a.lookup y.1 with
   |none=>simpa using h
   |some c=>
    intro x d b;simp only[CZ]at b
    obtain e|b:=Ai.mp b
    ·cases e;exact f
    ·exact h x d b
theorem PH:∀names a acc x c,(x,c)∈acc->(x,c)∈cQ names a acc
 |[],_,_,_,_,h=>h
 |y :: r,a,acc,x,c,h=>by
  have e:cQ (y :: r) a acc=cQ r a (if y.2 == .free then(match a.lookup y.1 with|some c=>(y.1,c):: acc|none=>acc)else acc):=rfl;rw[e];refine PH r a _ x c ?_;cases b:y.2 == .free with
  |false=>simpa using h
  |true=>
   cases f:a.lookup y.1 with
   |none=>simpa using h
   |some d=>simp only[CZ];exact Af _ h
theorem FR:∀names a acc x c,(x,NameKind.free)∈names->a.lookup x=some c->(x,c)∈cQ names a acc
 |[],_,_,_,_,h,_=>by cases h
 |y :: r,a,acc,x,c,h,b=>by
  have e:cQ (y :: r) a acc=cQ r a (if y.2 == .free then(match a.lookup y.1 with|some c=>(y.1,c):: acc|none=>acc)else acc):=rfl;rw[e]
  obtain d|h:=Ai.mp h
  ·subst d;refine PH r a _ x c ?_;have:(NameKind.free == NameKind.free)=true:=rfl;simp only[b,this,CZ];exact Ae
  ·exact FR r a _ x c h b
theorem FU{α:Type}:∀{l:List (Str×α)}{x:Str}{c:α},(x,c)∈l->∃d,l.lookup x=some d
 |[],_,_,h=>by cases h
 |(n,d):: r,x,c,h=>by
  cases a:x == n with
  |true=>exact⟨d,by simp[Ec,a]⟩
  |false=>
   obtain e|h:=Ai.mp h
   ·cases e;simp at a
   ·obtain⟨b,e⟩:=FU h;exact⟨b,by simp[Ec,a,e]⟩
variable{R:Result->Shared->Prop}{acc:Value}{ifs:Ó}{elt iter:Expr}
theorem S3{target:Expr}{pos:Pos}{it:Value}(I:Nat->Shared->Prop)
  (turn : ∀ n s, I n s → (ba U w A) (pyNext it) (λr À => match r with
   |none=>R (.ok .next) À
   | some v=>(ba U w A) (letOwnedTupleGo target it v) (λ_ a=>(ba U w A) (assign target env v) (λ_ i=>
     (ba U w A) (forIn ifs true λc r=>if r=true then do let ok <- isTrue c env<|eval c env;pure (ForInStep.yield ok)else pure (ForInStep.yield r)) (λok f=>
      if ok=true then (ba U w A) (eval elt env) (λx j=>
       (ba U w A) (call (.builtin "list.append") [acc,x]) (λ_ k=>∃m,m<n/\I m k) (notedBy (model U w) A env λe s'=>R (.error e) s') j) (notedBy (model U w) A env λe s'=>R (.error e) s') f
      else ∃m,m<n/\I m f) (notedBy (model U w) A env λe s'=>R (.error e) s') i) (notedBy (model U w) A env λe s'=>R (.error e) s') a) (notedBy (model U w) A env λe s'=>R (.error e) s') À) (notedBy (model U w) A env λe s'=>R (.error e) s') s)
  (n:Nat) (h:I n s):
  codeAny (model U w) A (.compLoop (.ListComp elt [⟨target,iter,ifs,0⟩] scope pos) 0 it acc env) R s:=by
 refine codeAny_loop rfl I (λn s o=>?_) n h;show wpAny _ A ((compTurn (.ListComp elt [⟨target,iter,ifs,0⟩] scope pos) 0 it acc env).onRaise λx=>do noteFrame x env;theTreesLotGoes x) _ _ s;refine wpAny_noted ?_;rw[compTurn_list];refine BJ<|GX<|BJ<|CW (turn n s o) (λr À b=>?_) λ_ _ h'=>h';cases r with
 |none=>exact BK b
 |some v=>
  refine BJ<|CW b (λ_ a d=>?_) λ_ _ h'=>h';refine BJ<|CW d (λ_ i p=>BJ<|CW p (λok f l=>?_) λ_ _ h'=>h') λ_ _ h'=>h';cases ok with
  |false=>exact BK ⟨rfl,l⟩
  |true=>
   exact BJ<|BJ<|CW l (λx j q=>BJ<|CW q (λ_ k t=>BK<|BK ⟨rfl,t⟩) λ_ _ h'=>h') λ_ _ h'=>h'
def PQ(X:Cx)(ifs:Ó)(t:TT):Prop:=
 ∀O s σ H Q,(be X O σ H s)->t σ H Q ->
  (ar X) (forIn ifs true λc r=>if r=true then do let ok <-isTrue c X.env<|eval c X.env;pure (ForInStep.yield ok)else pure (ForInStep.yield r)) (TP X O σ Q) X.xe s
def FV:TT:=λ_ H Q=>Q true H
def Z6:PQ X [] FV:=λ_ _ _ H _ I h=>wpAny_tests_nil ⟨H,I,h⟩
variable{c:Expr}
def Z7{t:TT}(h:PT X c t):PQ X [c] t:=λO s σ H Q I a=>wpAny_tests_one<|h O s σ H Q I a
def fY(X:Cx)(N':Ð)(scope:Scope)(a:List<|Str×Addr)(C:Addr)(æ:Shared)(ç:Hp)(ex:(List Addr)):Cx:=
 {U:=X.U,w:=X.w,K:=X.K,mg:=X.mg,Z:=X.Z,A:=X.A,N:=N',æ:=æ,ç:=ç,env:=compEnvC scope a C X.env,outer:=X.stack,stack:=X.stack,ex:=ex,fn:=λx=>match scope.names.lookup x with|some .cell=>true|_=>false,calm:=X.calm,pn:=[],xe:=λ_ _=>False}
variable{M:Model}
def jE{α:Type}{t:Sem α}{Q b:α->Shared->Prop}(h:wpAny M A t Q (λ_ _=>False) s)(c:∀a s,Q a s->b a s):wpAny M A t b E s:=CW h c λ_ _ z=>z.elim
def FX:gR X (.builtin "isinstance") (λxs H Q=>∃x t T b,xs=[x,.ty T]/\du X.K H x t/\PySem.W.kitOne X.K t (.type T)=some b/\Q (.bl b) H):=by
 intro O s σ H xs i Q I r h;obtain⟨x,t,T,b,rfl,ty,e,q⟩:=h;obtain⟨u,a,rfl,c,d⟩:=xb r;cases (show a=Value.type T from d);exact YV I c ty e λf=>⟨.bl b,H,I.tok f,rfl,q⟩
theorem Z8:cX X (binaryOp .Mult) (λx y H Q=>∃z i,x=.str z/\y=.int i/\0<=i/\i<=100000/\z.length*i.toNat<=100000/\Q (.str<|Txt.mul z i) H):=by
 intro O s σ H x y v u Q I b c h;obtain⟨z,i,rfl,rfl,l,d,m,q⟩:=h;obtain⟨t,rfl⟩:=b;obtain⟨t',rfl⟩:=c;have a:=DX;refine SB.mul ⟨?_,λf j=>?_,λf j=>?_⟩ λt' k=>⟨.str _,H,I.tok k,⟨_,rfl⟩,q⟩
 ·rw[BR (by omega),BR<|(by omega)];rfl
 ·have n:(z.length:Int)<=100000:=by
   have o:z.length*1<=z.length*i.toNat:=Nat.mul_le_mul_left _ (by omega);omega
  have p:(100000:Int)<=(2 ^ 63-1)/i:=by
   rw[Int.le_ediv_iff_mul_le<|(by omega)];have:(100000:Int)*i<=100000*100000:=Int.mul_le_mul_of_nonneg_left d (by decide);have e:(2:Int) ^ 63-1=9223372036854775807:=(by decide)
   omega
  omega
 ·unfold Builtin.Str.tooLong;rw[a];exact BR<|(by omega)
def f8:Expr->Bool
 |.Starred _ _=>true
 |_=>false
def gf(es:Ó):Bool:=es.all λe=>!f8 e
def qh(e:Expr)(es:Ó)(env:Env)(h:f8 e=false):starEach (e :: es) env=(false,eval e env):: starEach es env:=by
 cases e<;>first|rfl|(exact absurd h<|by simp[f8])
theorem y8(pos:Pos)(env:Env):∀es:Ó,gf es=true->(backTo pos<|starEach es env).any (·.1)=false
 |[],_=>rfl
 |e :: es,h=>by
  have h':(!f8 e)=true/\gf es=true:=by
   have:=h;unfold gf at this ⊢;rwa[Hm,Cb]at this
  have a:f8 e=false:=by
   have:=h'.1;cases q:f8 e with
   |true=>rw[q]at this;cases this
   |false=>rfl
  rw[qh e es env a];show(false || (backTo pos<|starEach es env).any (·.1))=false;rw[y8 pos env es h'.2];rfl
variable{es:Ó}
theorem tG(h:gf (e :: es)=true):f8 e=false/\gf es=true:=by
 unfold gf at h ⊢;rw[Hm,Cb]at h;refine⟨?_,h.2⟩;cases q:f8 e with
 |true=>rw[q]at h;cases h.1
 |false=>rfl
variable{r:List V->Hp->VK->Prop}{ds:Ò}{mS:List V}
section
variable{k:Nat}{C:Addr}{E:XK}{m:Str}{p pos:Pos}{o:Expr}{ta te:TE}{t:TA}{id T:String}
def Z9(a:PE X e te)(b:PA X es t)(c:f8 e=false:=by rfl):PA X (e :: es) (OX te t):=YX a b<|qh _ _ _ c
def Mr(F:aE X.U X.w X.K X.mg X.Z CX k f fd ps sp)(b:bH k X.A)(c:X.mg x=some (.ref f))(d:PySem.W.keepIn X.K (.ref f)=true)(h:pi X.K fd ps [])(i:mU CX X E)
  (j:PA X (e :: es) t) (l:Gl X x:=by rfl) (m:(x == ("__debug__" : Str))=false:=by decide) (a:gf (e :: es)=true:=by rfl):PE X (.Call (.Name x p) (e :: es) [] pos) (OY sp [] E t):=
 Y6 F b l c d h .nil i j m (qh _ _ _ (tG a).1) (y8 _ _ _ (tG a).2)
def FY(b:gR X (.builtin id) r)(c:X.mg x=none)(d:bootBuiltins x=some (.builtin id))(f:PA X (e :: es) t)(h:Gl X x:=by rfl)(i:x ≠ "__name__":=by decide)(j:(x == ("__debug__" : Str))=false:=by decide)
  (a:gf (e :: es)=true:=by rfl):PE X (.Call (.Name x p) (e :: es) [] pos) (yZ r t):=
 Y8 b h c d f i j (qh _ _ _ (tG a).1) (y8 _ _ _ (tG a).2)
def F0(b:gR X (.type T) r)(c:X.mg x=none)(d:bootBuiltins x=some (.type T))(f:PA X (e :: es) t)(h:Gl X x:=by rfl)(i:x ≠ "__name__":=by decide)(j:(x == ("__debug__" : Str))=false:=by decide)
  (a:gf (e :: es)=true:=by rfl):PE X (.Call (.Name x p) (e :: es) [] pos) (yZ r t):=
 Y9 b h c d f i j (qh _ _ _ (tG a).1) (y8 _ _ _ (tG a).2)
end
structure Ev(X:Cx)(e:Expr)(σ:St)(H:Hp)(Q:VK):Prop where
 run:∀O s,(be X O σ H s)->(ar X) (eval e X.env) (EP X O σ Q) X.xe s
structure Et(X:Cx)(e:Expr)(σ:St)(H:Hp)(Q:Bool->Hp->Prop):Prop where
 run:∀O s,(be X O σ H s)->(ar X) (isTrue e X.env<|eval e X.env) (TP X O σ Q) X.xe s
structure Ew(X:Cx)(e:Expr)(σ:St)(H:Hp)(Q:Bool->Hp->Prop):Prop where
 run:∀whole O s,(be X O σ H s)->(ar X) (isTrue e X.env whole) (TP X O σ Q) X.xe s
structure Ea(X:Cx)(es:Ó)(σ:St)(H:Hp)(Q:List V->Hp->Prop):Prop where
 run:∀pos O s,(be X O σ H s)->(ar X) (spliced<|backTo pos<|starEach es X.env) (AP X O σ Q) X.xe s
structure Eo(X:Cx)(e:Option Expr)(σ:St)(H:Hp)(Q:Option Int->Hp->Prop):Prop where
 run:∀O s,(be X O σ H s)->(ar X) (evalPart e X.env) (λu s'=>∃o H',be X O σ H' s'/\IsPart u o/\Q o H') X.xe s
structure Eg(X:Cx)(e:Expr)(v:V)(σ:St)(H:Hp)(Q:St->Hp->Prop):Prop where
 run:∀O s u,(be X O σ H s)->cc v u->(ar X) (assign e X.env u) (λ_ s'=>∃σ' H',be X O σ' H' s'/\Q σ' H') X.xe s
structure ge(X:Cx)(l:Ô)(D:wf)(σ:St)(H:Hp):Prop where
 run:∀O s,(be X O σ H s)->(ar X) (execs l X.env) (SP X O D) X.xe s
def EQ(X:Cx)(e:Expr):TE:=λσ H Q=>Ev X e σ H Q
def OE(X:Cx)(e:Expr):TT:=λσ H Q=>Et X e σ H Q
def Ji(X:Cx)(e:Expr):TT:=λσ H Q=>Ew X e σ H Q
def vA(X:Cx)(es:Ó):TA:=λσ H Q=>Ea X es σ H Q
def hX(X:Cx)(e:Option Expr):TO:=λσ H Q=>Eo X e σ H Q
def gH(X:Cx)(e:Expr):TG:=λv σ H Q=>Eg X e v σ H Q
def F1(X:Cx)(l:Ô):TS:=λD σ H=>ge X l D σ H
variable{D:wf}{L L':List V->Hp->Prop}{T T':Bool->Hp->Prop}{j:Nat}{op:CmpOp}{wi:TI}{at_:Addr}
section
variable{a b o:Expr}{rest body m6:Ô}{Q:VK}{pos p p2:Pos}
def bI:PE X e (EQ X e):=λO s _ _ _ I h=>h.run O s I
def m7:PT X e (OE X e):=λO s _ _ _ I h=>h.run O s I
def PR:PW X e (Ji X e):=λa O s _ _ _ I h=>h.run a O s I
def i8:PA X es (vA X es):=λpos O s _ _ _ I h=>h.run pos O s I
def PU{e:Option Expr}:PO X e (hX X e):=λO s _ _ _ I h=>h.run O s I
def qi:PG X e (gH X e):=λO s _ _ _ u _ I r h=>h.run O s u I r
def qj{l:Ô}:jz X l (F1 X l):=λO s _ _ _ I h=>h.run O s I
def dG{t:TE}(a:PE X e t)(b:t σ H Q):Ev X e σ H Q:=⟨λO s I=>a O s σ H Q I b⟩
def tH{t:TT}(a:PT X e t)(b:t σ H T):Et X e σ H T:=⟨λO s I=>a O s σ H T I b⟩
def y9{t:TT}(a:PW X e t)(b:t σ H T):Ew X e σ H T:=⟨λc O s I=>a c O s σ H T I b⟩
def PV{t:TA}(a:PA X es t)(b:t σ H L):Ea X es σ H L:=⟨λpos O s I=>a pos O s σ H L I b⟩
def PY{e:Option Expr}{t:TO}{R:Option Int->Hp->Prop}(a:PO X e t)(b:t σ H R):Eo X e σ H R:=⟨λO s I=>a O s σ H R I b⟩
def F3{t:TG}{R:St->Hp->Prop}(a:PG X e t)(b:t v σ H R):Eg X e v σ H R:=⟨λO s u I r=>a O s σ H v u R I r b⟩
def lY{t:TS}(b:PS X st t)(c:t {D with nx:=λa H'=>ge X rest D a H'} σ H):ge X (st :: rest) D σ H:=⟨λO s I=>Yd b qj O s σ H D I c⟩
def a9(h:D.nx σ H):ge X [] D σ H:=⟨λO s I=>Yc O s σ H D I h⟩
def Ev.mono{a:VK}(h:Ev X e σ H Q)(f:∀v H',Q v H'->a v H'):Ev X e σ H a:=⟨λO s I=>aO (h.run O s I) λ_ _⟨v,H',b,r,q⟩=>⟨v,H',b,r,f v H' q⟩⟩
def Et.mono(h:Et X e σ H T)(f:∀v H',T v H'->T' v H'):Et X e σ H T':=⟨λO s I=>aO (h.run O s I) λv _⟨H',a,q⟩=>⟨H',a,f v H' q⟩⟩
def Ea.mono(h:Ea X es σ H L)(f:∀v H',L v H'->L' v H'):Ea X es σ H L':=⟨λpos O s I=>aO (h.run pos O s I) λ_ _⟨v,H',a,r,q⟩=>⟨v,H',a,r,f v H' q⟩⟩
def ae(i:Nat)(h:Q v H)(a:σ[i]?=some (some v):=by rfl)(b:X.N[i]?=some x:=by rfl)(c:DT X.env.scope x:=by first | exact Or.inl rfl | exact Or.inr (Or.inl rfl) | exact Or.inr<|Or.inr rfl)(hd:(x == ("__debug__" : Str))=false:=by decide)
  (d:(x == ("__classdict__" : Str))=false:=by decide):Ev X (.Name x p) σ H Q:=dG (XS b c hd d) ⟨v,a,h⟩
def aG{i:Int}(h:Q (.int i) H):Ev X (.Constant (.int i) j p) σ H Q:=dG (XT) h
def zg{i:Bool}(h:Q (.bl i) H):Ev X (.Constant (.bool i) j p) σ H Q:=dG (XU) h
def zh(h:Q .non H):Ev X (.Constant .none j p) σ H Q:=dG (XW) h
def fZ{i:Str}(h:Q (.str i) H):Ev X (.Constant (.str i) j p) σ H Q:=dG (XX) h
def F4(v:V)(a:X.mg x=none)(b:bootBuiltins x=some u)(r:cc v u)(h:Q v H)(c:Gl X x:=by rfl)(d:x ≠ "__name__":=by decide)(hd:(x == ("__debug__" : Str))=false:=by decide):Ev X (.Name x p) σ H Q:=dG (XY c a b r d hd) h
def bh{op:Operator}{r:R2}(c:cX X (binaryOp op) r)(h:Ev X a σ H λx d=>Ev X b σ d λy H2=>r x y H2 Q):Ev X (.BinOp a op b pos) σ H Q:=dG (Yy c bI bI) h
def PZ{op:UnaryOp}{r:V->Hp->VK->Prop}(b:yU X (unaryOp op) r)(h:Ev X a σ H λx c=>r x c Q):Ev X (.UnaryOp op a pos) σ H Q:=dG (Yz b bI) h
def j6{r:R2}(c:cX X (compareOp op) r)(h:Ev X a σ H λx d=>Ev X b σ d λy H2=>r x y H2 Q)(e:behindInMarks op b=false:=by with_unfolding_all rfl):Ev X (.Compare a [op] [b] pos) σ H Q:=dG (YJ c bI bI e) h
def tI(h:Ev X a σ H λx c=>∃k,x=.bl k/\if k=true then Ev X (.BoolOp .And (b :: es) pos) σ c Q else Q (.bl false) c):Ev X (.BoolOp .And (a :: b :: es) pos) σ H Q:=dG (X8 bI bI) h
def F5{op:BoolOp}(h:Ev X a σ H Q):Ev X (.BoolOp op [a] pos) σ H Q:=dG (X7 bI) h
def q3o(h:Et X c σ H λk d=>if k=true then Ev X a σ d Q else Ev X b σ d Q):Ev X (.IfExp c a b pos) σ H Q:=dG (Ya m7 bI bI) h
def a8{r:R2}(c:vh X r)(h:Ev X a σ H λx d=>Ev X b σ d λy H2=>r x y H2 Q)(e:O6 b:=by intro _ _;rfl):Ev X (.Subscript a b pos) σ H Q:=dG (Zk c bI bI e) h
def P1{r:V->Option Int->Option Int->Hp->VK->Prop}{lo b:Option Expr}(c:EV X r)(h:Ev X a σ H λx d=>Eo X lo σ d λl H2=>Eo X b σ H2 λu e=>r x l u e Q):Ev X (.Subscript a (.Slice lo b none p2) pos) σ H Q:=dG (Zg c bI PU PU) h
def P2{R:Option Int->Hp->Prop}(h:R none H):Eo X none σ H R:=PY (Zc) h
def P4{R:Option Int->Hp->Prop}(h:Ev X a σ H λx b=>∃i,x=.int i/\R (some i) b):Eo X (some a) σ H R:=PY (Zd bI) h
def ax(h:L [] H):Ea X [] σ H L:=PV (YW) h
def ah(h:Ev X e σ H λx a=>Ea X es σ a λxs H2=>L (x :: xs) H2)(b:f8 e=false:=by rfl):Ea X (e :: es) σ H L:=PV (Z9 bI i8 b) h
def d9{k:Nat}(h:Ea X es σ H λxs a=>xs.length<=sizeLine/\∀p,a p=none->Q (.ref p) (upd a p<|.tup xs)):Ev X (.Tuple es k pos) σ H Q:=dG (YY i8) h
def di(h:Ea X es σ H λxs a=>xs.length<=sizeLine/\∀p,a p=none->Q (.ref p) (upd a p<|.lst xs)):Ev X (.List es pos) σ H Q:=dG (YZ i8) h
def P5{k:Nat}{E:XK}(F:aE X.U X.w X.K X.mg X.Z CX k f fd ps sp)(b:bH k X.A)(c:X.mg x=some (.ref f))(d:PySem.W.keepIn X.K (.ref f)=true)(i:pi X.K fd ps [])(j:mU CX X E)
  (h:Ea X (e :: es) σ H λvs a=>sp vs a Q E) (l:Gl X x:=by rfl) (m:(x == ("__debug__" : Str))=false:=by decide) (n:gf (e :: es)=true:=by rfl):Ev X (.Call (.Name x p) (e :: es) [] pos) σ H Q:=
 dG (Mr F b c d i j i8 l m n) (show Ea X (e :: es) σ H _ from h.mono λvs a q=>by rwa[Bp])
def cM{id:String}(a:gR X (.builtin id) r)(b:X.mg x=none)(c:bootBuiltins x=some (.builtin id))(h:Ea X (e :: es) σ H λvs d=>r vs d Q)(f:Gl X x:=by rfl)(i:x ≠ "__name__":=by decide)(j:(x == ("__debug__" : Str))=false:=by decide)
  (k:gf (e :: es)=true:=by rfl):Ev X (.Call (.Name x p) (e :: es) [] pos) σ H Q:=dG (FY a b c i8 f i j k) h
def qk{T:String}(a:gR X (.type T) r)(b:X.mg x=none)(c:bootBuiltins x=some (.type T))(h:Ea X (e :: es) σ H λvs d=>r vs d Q)(f:Gl X x:=by rfl)(i:x ≠ "__name__":=by decide)(j:(x == ("__debug__" : Str))=false:=by decide)
  (k:gf (e :: es)=true:=by rfl):Ev X (.Call (.Name x p) (e :: es) [] pos) σ H Q:=dG (F0 a b c i8 f i j k) h
def cz{r:R2}(c:cX X (compareOp op) r)(h:Ev X a σ H λx d=>Ev X b σ d λy H2=>r x y H2 λz e=>∃k,z=.bl k/\T k e)(f:behindInMarks op b=false:=by with_unfolding_all rfl):Et X (.Compare a [op] [b] pos) σ H T:=tH (YL c bI bI f) h
def vB(h:Et X a σ H λk b=>T (!k) b):Et X (.UnaryOp .Not a pos) σ H T:=tH (X5 m7) h
def vC(h:Ev X e σ H λx a=>∃k,x=.bl k/\T k a)(b:∀whole,isTrue e X.env whole=(do let v <-whole;standAt e.pos;holding [v] (truthy v)):=by intro _;rfl):Et X e σ H T:=tH (XZ bI b) h
def P6(h:Ev X e σ H λx a=>∃k,p9 X.K x a k/\T k a)(b:∀whole,isTrue e X.env whole=(do let v <-whole;standAt e.pos;holding [v] (truthy v)):=by intro _;rfl):Et X e σ H T:=tH (YQ bI b) h
def F6(h:Ew X e σ H T):Et X e σ H T:=⟨λO s I=>h.run _ O s I⟩
def RC(h:Et X a σ H λk c=>if k=true then Ew X (.BoolOp .And (b :: es) pos) σ c T else T false c):Ew X (.BoolOp .And (a :: b :: es) pos) σ H T:=y9 (X3 m7 PR) h
def zi(h:Et X a σ H λk c=>if k=true then T true c else Ew X (.BoolOp .Or (b :: es) pos) σ c T):Ew X (.BoolOp .Or (a :: b :: es) pos) σ H T:=y9 (X4 m7 PR) h
def NJ(h:Et X a σ H T):Ew X (.BoolOp .And [a] pos) σ H T:=y9 (X1 m7) h
def P7(h:Et X a σ H T):Ew X (.BoolOp .Or [a] pos) σ H T:=y9 (X2 m7) h
def bw(i:Nat){R:St->Hp->Prop}(a:X.N.Nodup)(h:R (σ.set i<|some v) H)(b:X.N[i]?=some x:=by rfl)(c:AL X.env.scope x:=by first|exact Or.inl rfl|exact Or.inr rfl)(d:X.fn x=true\/X.env.scope.names.lookup x=some .local:=by first|exact .inl rfl|exact .inr rfl|assumption):Eg X (.Name x p) v σ H R:=F3 (Yi a b c d) h
def aZ(i:Nat)(a:X.N.Nodup)(h:Ev X e σ H λv b=>ge X rest D (σ.set i<|some v) b)(c:X.N[i]?=some x:=by rfl)(d:AL X.env.scope x:=by first|exact Or.inl rfl|exact Or.inr rfl)(f:swapsWith e (some<|.Name x pos') pos.line X.env=pure false:=by rfl)
  (j:X.fn x=true\/X.env.scope.names.lookup x=some .local:=by first|exact .inl rfl|exact .inr rfl|assumption):ge X (.Assign [.Name x pos'] e pos :: rest) D σ H:=lY (Yk a c d bI f j) h
def dP(h:Et X c σ H λk b=>if k=true then ge X body {D with nx:=λa H'=>ge X rest D a H'} σ b else ge X m6 {D with nx:=λa H'=>ge X rest D a H'} σ b):ge X (.If c body m6 pos :: rest) D σ H:=lY (Yh m7 qj qj) h
def P8(b ψ:Prop)(d:∀T:Bool->Hp->Prop,(∀k:Bool,(k=true->b)->(k=false->ψ)->T k H)->Et X c σ H T)(e:b->ge X body {D with nx:=λa H'=>ge X rest D a H'} σ H)(f:ψ->ge X m6 {D with nx:=λa H'=>ge X rest D a H'} σ H):ge X (.If c body m6 pos :: rest) D σ H:=
 dP (d _ λk p q=>by
  cases k with
  |true=>rw[BP rfl];exact e<|p rfl
  |false=>rw[BL Aw];exact f<|q rfl)
def bS(h:Ev X e σ H D.rt):ge X (.Return (some e) pos :: rest) D σ H:=lY (Yg bI) h
def gG(h:Ev X e σ H λ_ a=>ge X rest D σ a)(b:swapsWith e none pos.line X.env=pure false:=by rfl):ge X (.Expr e pos :: rest) D σ H:=lY (Yf bI b) h
def zp(h:Ev X e σ H λv b=>Eg X tg v σ b λa H'=>ge X rest D a H')(c:swapsWithSole [tg] e pos.line X.env=pure false:=by rfl)(d:swappedStores [tg] e X.env=pure none:=by rfl)
  (f:(assignEach [tg] X.env).map (·.2)=[assign tg X.env]:=by rfl):ge X (.Assign [tg] e pos :: rest) D σ H:=lY (Yj bI qi c d f) h
def wP(X:Cx)(tg:Expr)(body:Ô)(J:It)(D:wf)(after:St->Hp->Prop)(σ:St)(H:Hp):Prop:=
 ∃ W:Nat->Nat->St->Hp->Prop,(∃ m,W 0 m σ H)/\∀ i m σ H,W i m σ H->(J.stop i H/\after σ H)\/(J.go i H/\∃ N:St->Hp->Prop,(∀ a H',N a H'->∃ c,c < m/\W (i+1) c a H') /\
  ∀x H',J.uX i H x H'->Eg X tg x σ H' λb H2=>ge X body {D with nx:=N,ct:=N,bk:=after} b H2)
def F7(b:PI X tg iter wi)(h:wi σ H λJ c=>wP X tg body J D (λa H'=>ge X rest D a H') σ c)(d:PassesOwn (model X.U X.w) X.A X.env X.xe:=by exact PN)(e:X.calm=true:=by rfl)
  (f:∀x,foldedSetIterable iter X.env x=pure x:=by intro _;rfl):ge X (.For tg iter body [] pos :: rest) D σ H:=lY (Yu d e b qi qj f) h
def m8{q:Pos}(f:X.mg "range" = none)(h:Ev X a σ H λx c=>∃j:Int,x=.int j/\-(2 ^ 62)<=j/\j<2 ^ 62/\wP X tg body (sY 0 j.toNat) D (λb H'=>ge X rest D b H') σ c)(i:Gl X "range":=by rfl)(k:PassesOwn (model X.U X.w) X.A X.env X.xe:=by exact PN)(l:X.calm=true:=by rfl)(d:f8 a=false:=by rfl):
  ge X (.For tg (.Call (.Name "range" q) [a] [] p) body [] pos :: rest) D σ H:=
 F7 (OH i f i8<|qh a [] _ d) (show Ea X [a] σ H _ from ah (h.mono λx c⟨j,e,m,n,o⟩=>ax ⟨j,by rw[e],m,n,o⟩) d) k l (by intro _;rfl)
def jF(h:Ev X iter σ H λx c=>∃a,x=.ref a/\(∃xs,au X.K c a xs)/\wP X tg body (pY X.K a) D (λb H'=>ge X rest D b H') σ c)(d:PassesOwn (model X.U X.w) X.A X.env X.xe:=by exact PN)(e:X.calm=true:=by rfl)
  (f:∀x,foldedSetIterable iter X.env x=pure x:=by intro _;rfl):ge X (.For tg iter body [] pos :: rest) D σ H:=F7 (gD bI) h d e f
theorem m9{lo:Int}{after:St->Hp->Prop}(Pv:Nat->St->Hp->Prop)(c:Pv 0 σ H)
  (d:∀i σ H,i<n->Pv i σ H->Eg X tg (.int<|lo+i) σ H λa H2=>ge X body {D with nx:=Pv<|i+1,ct:=Pv<|i+1,bk:=after} a H2) (hd:∀σ H,Pv n σ H->after σ H):wP X tg body (sY lo n) D after σ H:=by
 refine⟨λi m σ H=>m=n-i/\i<=n/\Pv i σ H,⟨n,by simp,Bx _,c⟩,?_⟩;rintro i m σ H ⟨rfl,j,p⟩
 by_cases b:i<n
 ·refine .inr ⟨b,Pv<|i+1,λf H' h=>⟨n-(i+1),(by omega),rfl,b,h⟩,λx H' y=>?_⟩;obtain⟨e,y⟩:=y;subst e y;exact d i σ _ b p
 ·have e:i=n:=(by omega)
  subst e;exact .inl ⟨An _,hd σ H p⟩
theorem SE{xs:List V}{after:St->Hp->Prop}(Pv:Nat->St->Hp->Prop)(c:Pv 0 σ H)(d:∀i σ H,i<=xs.length->Pv i σ H->aQ X.K H at_ xs)
  (f:∀i x σ H,xs[i]?=some x->Pv i σ H->Eg X tg x σ H λa H2=>ge X body {D with nx:=Pv<|i+1,ct:=Pv<|i+1,bk:=after} a H2) (hd:∀σ H,Pv xs.length σ H->after σ H):wP X tg body (Yn X.K at_) D after σ H:=by
 refine⟨λi m σ H=>m=xs.length-i/\i<=xs.length/\Pv i σ H,⟨xs.length,by simp,Bx _,c⟩,?_⟩;rintro i m σ H ⟨rfl,h,p⟩;have q:=d i σ H h p
 by_cases b:i<xs.length
 ·refine .inr ⟨⟨xs,xs[i],q,by simp[b]⟩,Pv<|i+1,λj H' k=>⟨xs.length-(i+1),(by omega),rfl,b,k⟩,λx H' y=>?_⟩;obtain⟨e,y⟩:=y;subst e;exact f i x σ _ (y xs q) p
 ·have e:i=xs.length:=(by omega)
  subst e;exact .inl ⟨⟨xs,q,An _⟩,hd σ H p⟩
theorem jG{xs:List V}{after:St->Hp->Prop}(Pv:Nat->St->Hp->Prop)(c:Pv 0 σ H)(d:∀i σ H,i<=xs.length->Pv i σ H->au X.K H at_ xs)
  (f:∀i x σ H,xs[i]?=some x->Pv i σ H->Eg X tg x σ H λa H2=>ge X body {D with nx:=Pv<|i+1,ct:=Pv<|i+1,bk:=after} a H2) (hd:∀σ H,Pv xs.length σ H->after σ H):wP X tg body (pY X.K at_) D after σ H:=by
 refine⟨λi m σ H=>m=xs.length-i/\i<=xs.length/\Pv i σ H,⟨xs.length,by simp,Bx _,c⟩,?_⟩;rintro i m σ H ⟨rfl,h,p⟩;have q:=d i σ H h p
 by_cases b:i<xs.length
 ·refine .inr ⟨⟨xs,xs[i],q,by simp[b]⟩,Pv<|i+1,λj H' k=>⟨xs.length-(i+1),(by omega),rfl,b,k⟩,λx H' y=>?_⟩;obtain⟨e,y⟩:=y;subst e;exact f i x σ _ (y xs q) p
 ·have e:i=xs.length:=(by omega)
  subst e;exact .inl ⟨⟨xs,q,An _⟩,hd σ H p⟩
def bB.go{N:Ð}{k:Nat}(F:bB K x qual st f fd)(S:ak N ps<|aW st)(len:∀vs H Q E,sp vs H Q E->vs.length=ps.length)
  (b : ∀a A outer s H vs Q E, bH k (A.deeper<|envOfC qual (aW st) s.heap.objs.size f a) → sp vs H Q E →
   ge (dv bK P w K mg Z N qual (aW st) f a A outer s H E).sW (gY st) {nx:=λ_ H'=>Q .non H',rt:=Q} (mf N vs) H):(aE P w K mg Z bK) (k+1) f fd ps sp:=
 F.ok S len λa A outer s H vs Q E c d=>⟨_,qj,b a A outer s H vs Q E c d⟩
end
structure Ei(X:Cx)(ifs:Ó)(σ:St)(H:Hp)(Q:Bool->Hp->Prop):Prop where
 run:∀O s,(be X O σ H s) ->
  (ar X) (forIn ifs true λc r=>if r=true then do let ok <-isTrue c X.env<|eval c X.env;pure (ForInStep.yield ok)else pure (ForInStep.yield r)) (TP X O σ Q) X.xe s
def vD(X:Cx)(N':Ð)(scope:Scope)(e:Expr)(σ:St)(H:Hp)(Q:VK):Prop:=∀a C b c d,Ev ((fY X N' scope a C b c d)) e σ H Q
def vE(X:Cx)(N':Ð)(scope:Scope)(e:Expr)(v:V)(σ:St)(H:Hp)(Q:St->Hp->Prop):Prop:=∀a C b c d,Eg ((fY X N' scope a C b c d)) e v σ H Q
def vF(X:Cx)(N':Ð)(scope:Scope)(ifs:Ó)(σ:St)(H:Hp)(Q:Bool->Hp->Prop):Prop:=∀a C b c d,Ei ((fY X N' scope a C b c d)) ifs σ H Q
def lZ(X:Cx)(N':Ð)(scope:Scope)(tg:Expr)(ifs:Ó)(elt:Expr)(J:It)(D:Addr)(after:Hp->Prop)(σ:St)(H:Hp):Prop:=
 ∃W:Nat->Nat->St->Hp->Prop,(∃m,W 0 m σ H)/\∀i m a H',W i m a H' ->
  (J.stop i H' ∧ after H') ∨ (J.go i H' ∧ ∃ N : St → Hp → Prop, (∀ a H', N a H' → ∃ e, e < m ∧ W (i + 1) e a H') ∧ ∀ x H2, J.uX i H' x H2 → vE X N' scope tg x a H2 λc j => vF X N' scope ifs c j λb f =>
   if b=true then vD X N' scope elt c f λv h=>∃d,h D=some (.lst d)/\d.length<sizeLine/\N c (upd h D<|.lst<|d++[v])else N c f)
theorem ql:∀names n acc,cellsFrom n names acc=cellsFrom n names []++acc
 |[],_,_=>rfl
 |(y,k):: r,n,acc=>by
  unfold cellsFrom
  split
  ·rw[ql r (n+1)<|(y,n):: acc,ql r (n+1) [(y,n)],Ar];rfl
  ·exact ql r n acc
theorem vG:∀names n{x}{c},(x,c)∈cellsFrom n names []->(x,NameKind.cell)∈names/\n<=c
 |[],_,_,_,h=>by cases h
 |(y,k):: r,n,x,c,h=>by
  unfold cellsFrom at h
  split at h
  ·rename_i d;rw[ql,Am]at h
   obtain h|h:=h
   ·obtain⟨a,b⟩:=vG r (n+1) h;exact⟨Af _ a,(by omega)⟩
   ·cases Ad.mp h;have:k=.cell:=by cases k<;>first|rfl|exact absurd d<|(by decide)
    subst this;exact⟨Ae,An _⟩
  ·obtain⟨a,b⟩:=vG r n h;exact⟨Af _ a,b⟩
variable{cl:List (Str×Addr)}{names:List (Str×NameKind)}
theorem P9{c:Addr}(h:(cellsFrom n names cl).lookup x=some c):((x,c)∈cellsFrom n names []/\n<=c)\/cl.lookup x=some c:=by
 rw[ql,QS]at h;cases e:(cellsFrom n names []).lookup x with
 |some d=>
  rw[e]at h;cases h;have a:=DK e;exact .inl ⟨a,(vG _ _ a).2⟩
 |none=>
  rw[e]at h;exact .inr h
theorem Sc(h:(x,NameKind.cell)∉names):(cellsFrom n names cl).lookup x=cl.lookup x:=by
 rw[ql,QS];cases e:(cellsFrom n names []).lookup x with
 |some d=>exact absurd (vG _ _<|DK e).1 h
 |none=>rfl
variable{builtins globals:Addr}{outer:Env}{code:Value}{func:Option Addr}{closure:List (Str×Addr)}
def k1k{Q:Env->Shared->Prop}
  (d : ∀ h', h'.Ns s.heap.objs.size (λ_ => none) → (∀ b o, s.heap.get? b = some o → h'.get? b = some o) → CellsOk h' (s.heap.objs.size + 1) (cellsFrom (s.heap.objs.size + 1) scope.names []) →
   Q (newEnv scope s.heap.objs.size globals (cellsFrom (s.heap.objs.size+1) scope.names closure) qual func code (some outer) builtins) {s with heap:=h'}):
  wpAny M A (newFunctionEnv scope globals closure [] qual func code (some outer) builtins) Q E s:=by
 simp only[newFunctionEnv,Option.isSome_some,CZ];refine BJ<|QL<|BJ (wpAny_layCells _ (λname kind a=>by cases c:kind == NameKind.cell <;> simp[c]) _ _ _ _ ?_);have ok:=cellsFrom_ok scope.names (s.heap.push {cls:= .type "dict",data:= .dict #[]}) (s.heap.objs.size+1) [] ⟨λ_ _ f=>(nomatch f),List.Pairwise.nil⟩ (by rw[Di];exact An _);rw[Di]at ok;rw[show({s with heap:=s.heap.push {cls:= .type "dict",data:= .dict #[]}}:Shared).heap.objs.size=s.heap.objs.size+1 from Di ..];rw[List.forIn_nil];exact BJ<|BK<|BK<|d _ ((Heap.Ns.new s.heap<|.type "dict").keeps<|pushCells_keeps _ _) (λb o e=>pushCells_keeps _ _ b o<|Aj _ e) ok
def ng(a scope:Scope)(N N':Ð):Bool:=
 (match scope.kind with|.function=>true|_=>false) &&
 scope.names.all (λy=>match y.2 with
  |.cell=>(match scope.names.lookup y.1 with|some .cell=>true|_=>false)
  |.local=>(match scope.names.lookup y.1 with|some .local=>true|_=>false)
  |.free=>(match a.names.lookup y.1 with|some .cell=>true|some .free=>true|_=>false) && (match scope.names.lookup y.1 with|some .free=>true|_=>false)
  |_=>true) &&
 (range N'.length).all λi => match N'[i]? with
  |none=>true
  |some x=>match scope.names.lookup x with
   |some .local=>decide (N.length<=i)
   |some .cell=>decide (N.length<=i)
   |some .free=>decide (N[i]?=some x)
   |_=>true
structure cH(sc scope:Scope)(N N':Ð):Prop where
 kind:scope.kind=.function
 cell:∀y∈scope.names,y.2=.cell->scope.names.lookup y.1=some .cell
 names:∀y∈scope.names,y.2=.local->scope.names.lookup y.1=some .local
 free:∀y∈scope.names,y.2=.free->sc.names.lookup y.1=some .cell\/sc.names.lookup y.1=some .free
 P':∀y∈scope.names,y.2=.free->scope.names.lookup y.1=some .free
 own:∀i x,N'[i]?=some x->scope.names.lookup x=some .local->N.length<=i
 F8:∀i x,N'[i]?=some x->scope.names.lookup x=some .cell->N.length<=i
 out:∀(i:Nat)x,N'[i]?=some x->scope.names.lookup x=some .free->N[i]?=some x
variable{N':Ð}{sc:Scope}
def cH.of{N:Ð}(h:ng sc scope N N'=true):cH sc scope N N':=by
 unfold ng at h;rw[Cb,Cb]at h;obtain⟨⟨d,j⟩,k⟩:=h;have c:=Ej.mp j;have f:=Ej.mp k;refine⟨?_,λy b e=>?_,λy b e=>?_,λy b e=>?_,λy b e=>?_,λi x a e=>?_,λi x a e=>?_,λi x a e=>?_⟩
 ·revert d;cases scope.kind<;>intro d<;>first|rfl|cases d
 ·have q:=c y b;rw[e]at q;simp only at q
  split at q
  ·assumption
  ·cases q
 ·have q:=c y b;rw[e]at q;simp only at q
  split at q
  ·assumption
  ·cases q
 ·have q:=c y b;rw[e]at q;simp only at q;rw[Cb]at q;have q:=q.1
  split at q
  ·exact .inl<|by assumption
  ·exact .inr<|by assumption
  ·cases q
 ·have q:=c y b;rw[e]at q;simp only at q;rw[Cb]at q;have q:=q.2
  split at q
  ·assumption
  ·cases q
 ·have q:=f i<|Bo.mpr (Ac.mp a).1;rw[a]at q;simp only[e]at q;exact BX q
 ·have q:=f i<|Bo.mpr (Ac.mp a).1;rw[a]at q;simp only[e]at q;exact BX q
 ·have q:=f i<|Bo.mpr (Ac.mp a).1;rw[a]at q;simp only[e]at q;exact BX q
variable{m:Ñ}{h₁:Heap}{fp:(List Addr)}
theorem uy(I:(be X O σ H s))(l:cH X.env.scope scope X.N N')(hl:N'.length=X.N.length+n)
  (y4:h₁.Ns s.heap.objs.size m) (old:∀b o,s.heap.get? b=some o->h₁.get? b=some o) (oM:CellsOk h₁ (s.heap.objs.size+1)<|cellsFrom (s.heap.objs.size+1) scope.names [])
  (w:∀b∈fp,cr X O H b/\b<s.heap.objs.size):
  be (fY X N' scope (cellsFrom (s.heap.objs.size+1) scope.names<|(cQ scope.names X.env.cells) []) s.heap.objs.size s H fp) [] (σ++replicate n none) H {s with heap:=h₁,toks:=t'}:=by
 have sub:∀x c,((cQ scope.names X.env.cells) []).lookup x=some c->(X.env.cells.lookup x)=some c:=λx c e=>FO _ _ _ (λ_ _ z=>by simp at z) x c<|DK e;have both:∀x c,(cellsFrom (s.heap.objs.size+1) scope.names<|(cQ scope.names X.env.cells) []).lookup x=some c->((x,c)∈cellsFrom (s.heap.objs.size+1) scope.names []/\s.heap.objs.size+1<=c)\/(X.env.cells.lookup x)=some c:=λx c e=>by
  obtain z|z:=P9 e
  ·exact .inl z
  ·exact .inr<|sub x c z
 have oP:∀x c,(X.env.cells.lookup x)=some c->c<s.heap.objs.size:=λx c e=>by
  obtain⟨v,o,A,_⟩:=I.cell x c e;exact Av A
 have G:H s.heap.objs.size=none:=I.aH.fresh<|An _;have kindOf:∀{x:Str}{f:NameKind},(relabel scope X.env).names.lookup x=some f->∃k,scope.names.lookup x=some k/\(f=k\/(k=.free/\f=.cell)):=λz=>PF z;have Qa:∀x,scope.names.lookup x=some .free->(cellsFrom (s.heap.objs.size+1) scope.names<|(cQ scope.names X.env.cells) []).lookup x=((cQ scope.names X.env.cells) []).lookup x:=λx e=>Sc λq=>by
  have:=l.cell _ q rfl;rw[e]at this;cases this
 have F':∀x,scope.names.lookup x=some .cell->∃c,(cellsFrom (s.heap.objs.size+1) scope.names<|(cQ scope.names X.env.cells) []).lookup x=some c:=λx e=>Fa.mp<|JL _ _ _<|.inl e;have J:(fY X N' scope (cellsFrom (s.heap.objs.size+1) scope.names<|(cQ scope.names X.env.cells) []) s.heap.objs.size s H fp).Ok:=by
  refine⟨I.ok.mod,l.kind,I.ok.glob,I.ok.blt,An _,λx y c L a=>?_,λx M=>?_,λx c N e=>?_,I.ok.hd,I.ok.frames,.inl rfl,λb h=>⟨Bw (w b h).2,λx c e=>?_⟩,
   I.bs,Ch I.ok.oA I.sz,λb o e h=>?_,λb h N=>?_,I.stack,I.dW⟩
  ·obtain B|B:=both x c L
   ·obtain t|t:=both y c a
    ·exact name_of_addr oM.apart B.1 t.1
    ·exact absurd (oP y c t)<|Nat.not_lt.mpr<|Eu B.2
   ·obtain t|t:=both y c a
    ·exact absurd (oP x c B)<|Nat.not_lt.mpr<|Eu t.2
    ·exact I.ok.inj x y c B t
  ·have j7:(relabel scope X.env).names.lookup x=some .cell\/(relabel scope X.env).names.lookup x=some .free:=M;have:∃k,scope.names.lookup x=some k/\(k=.free\/k=.cell):=by
    obtain z|z:=j7
    ·obtain⟨k,e,r⟩:=kindOf z
     obtain r|⟨r,_⟩:=r
     ·exact⟨k,e,.inr r.symm⟩
     ·exact⟨k,e,.inl r⟩
    ·obtain⟨k,e,r⟩:=kindOf z
     obtain r|⟨r,_⟩:=r
     ·exact⟨k,e,.inl r.symm⟩
     ·exact⟨k,e,.inl r⟩
   obtain⟨k,e,rfl|rfl⟩:=this
   ·have q:=DK e;obtain⟨c,E⟩:=I.ok.has x<|l.free _ q rfl;obtain⟨d,hd⟩:=FU<|FR scope.names X.env.cells [] x c q E;exact⟨d,(Qa x e).trans hd⟩
   ·exact F' x e
  ·have M:scope.names.lookup x=some .cell:=by
    have zq:(match scope.names.lookup x with|some .cell=>true|_=>false)=true:=N
    split at zq
    ·assumption
    ·cases zq
   have j:(cellsFrom (s.heap.objs.size+1) scope.names<|(cQ scope.names X.env.cells) []).lookup x=some c:=e;have q1:=Fa.mp<|JL scope.names (s.heap.objs.size+1) []<|.inl M;obtain⟨d,hd⟩:=q1;rw[ql,QS,hd]at j;have a:d=c:=Option.some.inj j;have:=(vG _ _<|DK hd).2;rw[<-a];exact Eu this
  ·have j:(cellsFrom (s.heap.objs.size+1) scope.names<|(cQ scope.names X.env.cells) []).lookup x=some c:=e
   obtain z|z:=both x c j
   ·have h1:=(w b h).2;have h2:=z.2;exact λk=>absurd h1<|Nat.not_lt.mpr<|by rw[<-k];exact Eu h2
   ·exact(w b h).1.2.2.2.2.1 x c z
  ·have:=(w b h).1.2.2.2.1
   obtain z|z:=this
   ·exact I.ok.kA b o e z
   ·exact absurd (Bq (Av e)<|Ch I.ok.oA z)<|De _
  ·obtain z|z:=Ai.mp (I.fV b N)
   ·exact(w b h).1.2.1 z
   ·exact(w b h).1.2.2.1 z
 refine⟨J,rfl,I.bare,Un.kept old,⟨m,y4,λi x v L a e3=>?_⟩,λx c e=>?_,G,λx c e=>?_,λp hp=>absurd hp (by simp[fY]),I.aH.kept old,?_⟩
 ·have C:i<σ.length:=by
   by_cases C:i<σ.length
   ·exact C
   ·rw[Bd (by omega),Fc]at a
    split at a<;>cases a
  rw[Ax C]at a;have Q:N'[i]?=some x:=L;have T:∃f,(relabel scope X.env).names.lookup x=some f/\(f=.local\/f=.cell\/f=.free):=by
   obtain z|z|z:=e3
   ·exact⟨_,z,.inl rfl⟩
   ·exact⟨_,z,.inr<|.inl rfl⟩
   ·exact⟨_,z,.inr<|.inr rfl⟩
  obtain⟨f,U,qp⟩:=T;obtain⟨k,D,r⟩:=kindOf U;have kf:k=.free:=by
   obtain r|⟨r,_⟩:=r
   ·subst r
    obtain z|z|z:=qp
    ·subst z;have:=l.own i x Q D;rw[I.len]at C;omega
    ·subst z;have:=l.F8 i x Q D;rw[I.len]at C;omega
    ·exact z
   ·exact r
  subst kf;have q:=DK D;have Y:=l.out i x Q D;obtain⟨m0,GH,nh⟩:=I.loc;have kx:=l.free _ q rfl;obtain⟨u,ru,lk⟩:=nh i x v Y a (by obtain z|z:=kx;exact .inr<|.inl z;exact .inr<|.inr z);refine⟨u,ru,.inr ⟨?_,?_⟩⟩
  ·obtain r|⟨_,r⟩:=r
   ·subst r;exact .inr U
   ·subst r;exact .inl U
  ·obtain⟨k1,_⟩|⟨_,c,E,i5⟩:=lk
   ·have Qb:X.env.scope.names.lookup x=some .local:=k1
    obtain z|z:=kx
    ·rw[Qb]at z;cases z
    ·rw[Qb]at z;cases z
   ·have qt:=FR scope.names X.env.cells [] x c q E;obtain⟨d,hd⟩:=FU qt;have:d=c:=Option.some.inj<|(sub x d hd).symm.trans E;subst this;obtain⟨o,A,jH⟩:=i5;exact⟨d,(Qa x D).trans hd,o,old _ _ A,jH⟩
 ·have j:(cellsFrom (s.heap.objs.size+1) scope.names<|(cQ scope.names X.env.cells) []).lookup x=some c:=e
  obtain z|z:=both x c j
  ·exact⟨none,(oM.empty x c z.1).1⟩
  ·obtain⟨v,o,A,jH⟩:=I.cell x c z;exact⟨v,o,old _ _ A,jH⟩
 ·have j:(cellsFrom (s.heap.objs.size+1) scope.names<|(cQ scope.names X.env.cells) []).lookup x=some c:=e
  obtain z|z:=both x c j
  ·exact I.aH.fresh<|Eu z.2
  ·exact I.cD x c z
 ·rw[Ag,Fp,I.len];exact hl.symm
structure gr(e:Expr)(d:Nat)(tg iter:Expr)(ifs:Ó)(acc:Value)(env:Env)(inner:Sem Unit):Prop where
 at':(clausesOf e)[d]?=some ⟨tg,iter,ifs,0⟩
 quiet:∀it,(Code.compLoop e d it acc env).quiet=true
 den:∀(U:Program)(w:World)it,(model U w).den (.compLoop e d it acc env)=(compTurn e d it acc env).onRaise (λx=>do noteFrame x env;theTreesLotGoes x)
 und:∀(A:Around)it,A.under (.compLoop e d it acc env)=A
 GI:∀(U:Program)(w:World)it,(model U w).den (.compStart e d it acc env)=(compStart e d it acc env).onRaise (λx=>do noteFrame x env;standAt theWindowsPlace)
 GU:∀(A:Around)it,A.under (.compStart e d it acc env)=A
 turn:∀ it,compTurn e d it acc env=(do
   standAt iter.pos
   match <-pyNext it with
   |none=>pure<|.done .next
   |some v=>
    letOwnedTupleGo tg it v
    assign tg env v
    let mut ok:=true
    for c in ifs do
     if ok then ok <-isTrue c env<|eval c env
    if ok then
     inner
    again (.compLoop e d it acc env))
variable{inner:Sem Unit}{d:Nat}
theorem p0{it:Value}(C:gr e d tg iter ifs acc env inner)(I:Nat->Shared->Prop)
  (turn : ∀ n s, I n s → (ba U w A) (pyNext it) (λr À => match r with
   |none=>R (.ok .next) À
   | some v=>(ba U w A) (letOwnedTupleGo tg it v) (λ_ a=>(ba U w A) (assign tg env v) (λ_ i=>
     (ba U w A) (forIn ifs true λc r=>if r=true then do let ok <- isTrue c env<|eval c env;pure (ForInStep.yield ok)else pure (ForInStep.yield r)) (λok f=>
      if ok=true then (ba U w A) inner (λ_ j=>∃m,m<n/\I m j) (notedBy (model U w) A env λe s'=>R (.error e) s') f
      else ∃m,m<n/\I m f) (notedBy (model U w) A env λe s'=>R (.error e) s') i) (notedBy (model U w) A env λe s'=>R (.error e) s') a) (notedBy (model U w) A env λe s'=>R (.error e) s') À) (notedBy (model U w) A env λe s'=>R (.error e) s') s)
  (n:Nat) (h:I n s):
  codeAny (model U w) A (.compLoop e d it acc env) R s:=by
 refine codeAny_loop (C.quiet it) I (λn s l=>?_) n h;rw[C.und,C.den];refine wpAny_noted ?_;rw[C.turn];refine BJ<|GX<|BJ<|CW (turn n s l) (λr À h₁=>?_) λ_ _ h'=>h';cases r with
 |none=>exact BK h₁
 |some v=>
  refine BJ<|CW h₁ (λ_ a b=>?_) λ_ _ h'=>h';refine BJ<|CW b (λ_ i o=>BJ<|CW o (λok f k=>?_) λ_ _ h'=>h') λ_ _ h'=>h';cases ok with
  |false=>exact BK ⟨rfl,k⟩
  |true=>exact BJ<|CW k (λ_ j p=>BK ⟨rfl,p⟩) λ_ _ h'=>h'
def fu{it:Value}(C:gr e d tg iter ifs acc env inner)
  (b:codeAny (model U w) A (.compLoop e d it acc env) R s)
  (h:(ba U w A) (pyIter it) (λa s'=>codeAny (model U w) A (.compLoop e d a acc env) R s') (notedBy (model U w) A env λx s'=>R (.error x) s') s):
  codeAny (model U w) A (.compStart e d it acc env) R s:=by
 refine KJ ?_;rw[C.GU,C.GI];refine wpAny_notedAt ?_;unfold compStart;rw[C.at'];show wpAny _ _ (ask >>= _) _ _ s;refine BJ<|JX<|wpAny_ite ?_
 split
 ·first
   |exact BJ<|BK<|BK<|And.intro (C.quiet _) b
   |exact BK<|And.intro (C.quiet _) b
 ·first
   |exact BJ<|HX<|BJ<|GX<|BJ<|CW h (λa s' h'=>BK<|And.intro (C.quiet _) h') λ_ _ x=>x
   |(refine BJ<|HX ?_;show wpAny _ _ (standAt iter.pos >>= _) _ _ s;exact BJ<|GX<|BJ<|CW h (λa s' h'=>BK<|And.intro (C.quiet _) h') λ_ _ x=>x)
structure l7(X:Cx)(m:Sem Unit)(σ:St)(H:Hp)(Q:St->Hp->Prop):Prop where
 run:∀(O:Ï)(s:Shared),(be X O σ H s)->(ar X) m (λ_ s'=>∃σ' H',be X O σ' H' s'/\Q σ' H') X.xe s
def iK(X:Cx)(tg:Expr)(ifs:Ó)(inner:Sem Unit)(J:It)(after:St->Hp->Prop)(σ:St)(H:Hp):Prop:=
 ∃W:Nat->Nat->St->Hp->Prop,(∃m,W 0 m σ H)/\∀i m a H',W i m a H' ->
  (J.stop i H' ∧ after a H') ∨ (J.go i H' ∧ ∃ N : St → Hp → Prop, (∀ a H', N a H' → ∃ d, d < m ∧ W (i + 1) d a H') ∧ ∀ x H2, J.uX i H' x H2 → Eg X tg x a H2 λc f => Ei X ifs c f λb e =>
   if b=true then l7 X inner c e N else N c e)
variable{J:It}{tn:Nat->Heap->Prop}
def zu(w:X.xe=λ_ _=>False)(G:X.calm=true)(C:gr e d tg iter ifs acc X.env inner)
  {it:Addr}    {after:St->Hp->Prop}  (I:(be X O σ H s)) (T:ue X.U X.w X.K tg J fp it tn) (st:tn 0 s.heap) (L:∀b∈fp,cr X O H b) (h:iK X tg ifs inner J after σ H)
  (hR:∀a H' s',be X O a H' s'->after a H'->R (.ok .next) s'):
  codeAny (model X.U X.w) X.A (.compStart e d (.ref it) acc X.env) R s:=by
 obtain⟨W,⟨m0,w0⟩,turn⟩:=h;have f:∀{H':Hp},(∀b∈fp,H' b=none)->∀b∈fp,cr X O H' b:=λhn b j=>⟨hn b j,(L b j).2⟩;have l:codeAny (model X.U X.w) X.A (.compLoop e d (.ref it) acc X.env) R s:=by
  refine p0 C (λk s'=>∃i a H',be X O a H' s'/\tn i s'.heap/\(∀b∈fp,H' b=none)/\W i k a H') ?_ m0 ⟨0,σ,H,I,st,λb j=>(L b j).1,w0⟩;rintro k M ⟨i,n,y,Q,U,Y,w4⟩
  obtain⟨stop,qn⟩|⟨go,N,hN,step⟩:=turn i k n y w4
  ·have z:=T.done X rfl rfl rfl G i O M n y (λ_ _=>False) Q (f Y) U stop;refine jE z λr s5⟨A,I5⟩=>?_;subst A;exact hR _ _ _ I5 qn
  ·have z:=T.item X rfl rfl rfl G i O M n y (λ_ _=>False) Q (f Y) U go;refine jE z λr s5⟨u,A,h5⟩=>?_;subst A;refine jE h5 λ_ s6⟨x,H6,I6,r6,y6,B,D⟩=>?_;have E:=I6.pinned (f D)<|T.obj _ _ B;have again:∀{c:St}{p:Hp}{q:Shared},be X (O++uY fp s6.heap) c p q->N c p->∃m,m<k/\∃i a H',be X O a H' q/\tn i q.heap/\(∀b∈fp,H' b=none)/\W i m a H':=λ{c p q}t n7=>by
    obtain⟨m',hm,w7⟩:=hN c p n7;refine⟨m',hm,i+1,c,p,t.cZ,T.keep _ _ _ B λb j o e=>(t.pin (b,o)<|Au _<|Au _<|yT j e).1,λb j=>?_,w7⟩;obtain⟨o,e,d⟩:=T.obj _ _ B b j;exact(t.pin (b,o)<|Au _<|Au _<|yT j e).2.1
   have a1:=(step x H6 y6).run _ s6 u E r6;rw[w]at a1;refine jE a1 λ_ q⟨c,p,t,q7⟩=>?_;have a2:=q7.run _ q t;rw[w]at a2;refine jE a2 λok s8⟨H8,I8,v⟩=>?_;cases ok with
   |false=>
    rw[BL Aw]at v ⊢;exact again I8 v
   |true=>
    rw[BP rfl]at v ⊢;have a3:=v.run _ s8 I8;rw[w]at a3;exact jE a3 λ_ s9⟨Õ,H9,I9,q9⟩=>again I9 q9
 exact fu C l<|T.self _ 0 _ _ _ st l
variable{RR:Value->Addr->Result->Shared->Prop}{s2:Shared}{u0:Addr->HO}{newAcc:Sem Value}
def Qe{o0:Obj}{inner:Value->Env->Sem Unit}{it:Addr}{Q:VK}
  (fm:∀(Q:Í)(E:Í)(s:Shared),Q (.ref s.heap.objs.size) {s with heap:=s.heap.push o0}->(ar X) newAcc Q E s) (iI:∀(H:Hp)(h:Heap),sysModules<h.objs.size->aB X.U X.w H (h.push o0) h.objs.size (u0 h.objs.size))
  (hc:X.calm=true) (ck:cH X.env.scope scope X.N N') (hl:N'.length=X.N.length+n) (hC:∀acc env,gr e 0 tg iter ifs acc env<|inner acc env)
  (y:be X O σ H2 s2) (T:ue X.U X.w X.K tg J fp it tn) (U:tn 0 s2.heap) (f2:∀b∈fp,cr X O H2 b)
  (q:∀D,H2 D=none->∀cl C æ ç ex,iK ((fY X N' scope cl C æ ç ex)) tg ifs (inner (.ref D)<|compEnvC scope cl C X.env) J (λ_ H'=>Q (.ref D) H') (σ++replicate n none)<|upd H2 D<|u0 D)
  (G':∀D C H' s' m,be X O σ H' s'->s'.heap.Ns C m->H' C=none->C≠X.env.locals->X.æ.heap.objs.size<=C->(∀x c,(X.env.cells.lookup x)=some c->c≠C)->(∀p∈X.pn++O,p.1≠C)->Q (.ref D) H'->RR (.ref D) C (.ok .next) s'):
  (ar X) newAcc (λacc Â=>(ar X) (newFunctionEnv scope X.env.globals ((cQ scope.names X.env.cells) []) [] X.env.qual none .none<|some X.env) (λY Ã=>
   codeAny (model X.U X.w) X.A (.compStart e 0 (.ref it) acc {Y with scope:=relabel scope X.env}) (RR acc Y.locals) Ã) E Â) E s2:=by
 refine fm _ _ _<|k1k λh₁ È É Ê=>?_;have hD:H2 s2.heap.objs.size=none:=y.aH.fresh<|An _;have q0:=q s2.heap.objs.size hD;have fl:∀b∈fp,b<s2.heap.objs.size:=λb a=>by
  obtain⟨o,e,_⟩:=T.obj 0 _ U b a;exact Av e
 have l:be X O σ (upd H2 s2.heap.objs.size<|u0 s2.heap.objs.size) {s2 with heap:=s2.heap.push o0}:=
  y.laid (t':=s2.toks) (λb o e=>Aj _ e) (An _) (iI _ _ y.big)
 generalize zv:({s2 with heap:=s2.heap.push o0}:Shared)=d at l È É Ê ⊢;have A:d.heap.objs.size=s2.heap.objs.size+1:=by rw[<-zv];exact Di ..
 have Hq:∀b o,s2.heap.get? b=some o->d.heap.get? b=some o:=λb o e=>by rw[<-zv];exact Aj _ e
 have old:∀b o,d.heap.get? b=some o->h₁.get? b=some o:=É;have j:∀b∈fp,cr X O (upd H2 s2.heap.objs.size<|u0 s2.heap.objs.size) b/\b<d.heap.objs.size:=λb a=>by
  refine⟨⟨?_,(f2 b a).2⟩,by rw[A];exact Ci<|fl b a⟩;rw[aw<|Bw<|fl b a];exact(f2 b a).1
 have I4:=λ(t':Nat)=>uy (N':=N') (scope:=scope) (n:=n) (fp:=fp) (h₁:=h₁) (t':=t') l ck hl È old Ê j;generalize i:fY X N' scope (cellsFrom (d.heap.objs.size+1) scope.names<|(cQ scope.names X.env.cells) []) d.heap.objs.size d (upd H2 s2.heap.objs.size<|u0 s2.heap.objs.size) fp=f at I4;have B:f.U=X.U:=by rw[<-i];rfl
 have G:f.w=X.w:=by rw[<-i];rfl
 have eK:f.K=X.K:=by rw[<-i];rfl
 have eA:f.A=X.A:=by rw[<-i];rfl
 have u:f.env=compEnvC scope (cellsFrom (d.heap.objs.size+1) scope.names<|(cQ scope.names X.env.cells) []) d.heap.objs.size X.env:=by rw[<-i];rfl
 have ec:f.calm=true:=by rwa[<-i]
 have Om:f.xe=λ_ _=>False:=by rw[<-i];rfl
 have w:∀{H':Hp},(∀b∈fp,H' b=none)->∀b∈fp,cr f [] H' b:=λhn b a=>by
  refine⟨hn b a,?_,?_,?_,?_,?_⟩
  ·rw[u];exact Bw (j b a).2
  ·rw[<-i];intro hf
   obtain z|z:=Ai.mp (l.fV b hf)
   ·exact(j b a).1.2.1 z
   ·exact(j b a).1.2.2.1 z
  ·rw[<-i];exact .inl a
  ·rw[u];intro x c e
   obtain z|z:=P9 e
   ·exact λk=>absurd (j b a).2<|Nat.not_lt.mpr<|by rw[<-k];exact Eu z.2
   ·exact(j b a).1.2.2.2.2.1 x c<|FO _ _ _ (λ_ _ z=>by simp at z) x c<|DK z
  ·rw[<-i];intro p I;exact absurd I<|by simp[fY]
 have fin:∀{t:St}{H':Hp}{s':Shared},be f [] t H' s'->Q (.ref s2.heap.objs.size) H'->RR (.ref s2.heap.objs.size) d.heap.objs.size (.ok .next) s':=λ{t H' s'}r q'=>by
  obtain⟨m',yQ,_⟩:=id r.loc;rw[u]at yQ;have L:s'.os=d.os:=by have:=r.os;rwa[<-i]at this
  have M:Un (fe X.stack) fp (upd H2 s2.heap.objs.size<|u0 s2.heap.objs.size) H' d.heap s'.heap:=by have:=r.Z;rwa[<-i]at this
  have aH:cn X.U X.w H' s'.heap:=by have:=r.aH;rwa[B,G]at this
  have IX:be X O σ H' s':=l.call' (ch:=fp) L M aH r.bare λb a=>⟨(j b a).1.2.2.2.1,(j b a).1.2.1,(j b a).1.2.2.2.2.1,(j b a).1.2.2.2.2.2⟩;have j8:=r.free;rw[u]at j8;refine G' _ _ H' s' m' IX yQ j8 (Cz l.lt) l.sz (λx c e z=>?_) (λp I z=>?_) q'
  ·obtain⟨v,o,ho,_⟩:=l.cell x c e;exact absurd (Av ho)<|by rw[z];exact De _
  ·exact absurd (Av (l.pin p I).1)<|by rw[z];exact De _
 have N:∀b∈fp,cr f [] (upd H2 s2.heap.objs.size<|u0 s2.heap.objs.size) b:=w λb a=>(j b a).1.1;have q1:iK f tg ifs (inner (.ref s2.heap.objs.size) f.env) J (λ_ H'=>Q (.ref s2.heap.objs.size) H') (σ++replicate n none) (upd H2 s2.heap.objs.size<|u0 s2.heap.objs.size):=by
  rw[u,<-i];exact q0 _ _ _ _ _
 have T':ue f.U f.w f.K tg J fp it tn:=by rwa[B,G,eK]
 have fin2:=zu (s:={d with heap:=h₁,toks:=d.toks}) Om ec (hC (.ref s2.heap.objs.size) f.env) (I4 d.toks) T' (T.keep 0 _ _ U λb _ o e=>old b o<|Hq b o e) N q1 (R:=RR (.ref s2.heap.objs.size) d.heap.objs.size) λt H' s' r a'=>fin r a';rwa[B,G,eA,u]at fin2
def xw(elt:Expr)(acc:Value)(env:Env):Sem Unit:=do let _ <- call (.builtin "list.append") [acc,<-eval elt env]
section
variable{pos:Pos}
def ON:gr (.ListComp elt [⟨tg,iter,ifs,0⟩] scope pos) 0 tg iter ifs acc env (xw elt acc env):=⟨rfl,λ_=>rfl,λ_ _ _=>rfl,λ_ _=>rfl,λ_ _ _=>rfl,λ_ _=>rfl,λ_=>rfl⟩
def Qf{D:Addr}{Q:St->Hp->Prop}(h:Ev X elt σ H λv a=>∃ys,a D=some (.lst ys)/\ys.length<sizeLine/\Q σ (upd a D<|.lst<|ys++[v])):l7 X (xw elt (.ref D) X.env) σ H Q:=by
 refine⟨λO s I=>?_⟩;unfold xw;refine BJ<|aO (h.run O s I) λv b⟨x,a,c,d,ys,e,f,q⟩=>?_;refine BJ<|aO (Pj (X:=X) _ b σ a (.ref D) [x] (.ref D) [v] (λ_ H'=>Q σ H') c rfl (.cons d .nil) ⟨_,ys,x,rfl,rfl,e,f,q⟩) λ_ s2⟨_,H2,i,_,j⟩=>BK ⟨σ,H2,i,j⟩
def Eg.mono{R b:St->Hp->Prop}(h:Eg X elt v σ H R)(f:∀a H',R a H'->b a H'):Eg X elt v σ H b:=⟨λO s u I r=>aO (h.run O s u I r) λ_ _⟨a,H',c,q⟩=>⟨a,H',c,f _ _ q⟩⟩
def Ei.mono(h:Ei X ifs σ H T)(f:∀b H',T b H'->T' b H'):Ei X ifs σ H T':=⟨λO s I=>aO (h.run O s I) λ_ _⟨H',a,q⟩=>⟨H',a,f _ _ q⟩⟩
theorem Ol{D:Addr}{after:Hp->Prop}(h:lZ X N' scope tg ifs elt J D after σ H)(cl:List<|Str×Addr)(C:Addr)(æ:Shared)(ç:Hp)(ex:(List Addr)):iK ((fY X N' scope cl C æ ç ex)) tg ifs (xw elt (.ref D)<|compEnvC scope cl C X.env) J (λ_ H'=>after H') σ H:=by
 obtain⟨W,d,t⟩:=h;refine⟨W,d,λi m c H' w=>(t i m c H' w).imp id λ⟨g,N,e,st⟩=>⟨g,N,e,λx H2 y=>(st x H2 y cl C æ ç ex).mono λf k j=>(j cl C æ ç ex).mono λb l a=>?_⟩⟩;cases b with
 |true=>
  rw[BP rfl]at a ⊢;exact Qf (X:=fY X N' scope cl C æ ç ex)<|a cl C æ ç ex
 |false=>
  rw[BL Aw]at a ⊢;exact a
def Qg{it:Addr}{Q:VK}
  (d:X.calm=true) (e:cH X.env.scope scope X.N N') (f:N'.length=X.N.length+n) (i:be X O σ H2 s2) (T:ue X.U X.w X.K tg J fp it tn) (j:tn 0 s2.heap) (f2:∀b∈fp,cr X O H2 b)
  (q:∀D,H2 D=none->lZ X N' scope tg ifs elt J D (λH'=>Q (.ref D) H') (σ++replicate n none) (upd H2 D<|.lst []))
  (k:∀D C H' s' m,be X O σ H' s'->s'.heap.Ns C m->H' C=none->C≠X.env.locals->X.æ.heap.objs.size<=C->(∀x c,(X.env.cells.lookup x)=some c->c≠C)->(∀p∈X.pn++O,p.1≠C)->Q (.ref D) H'->RR (.ref D) C (.ok .next) s'):
  (ar X) (newList []) (λacc l=>(ar X) (newFunctionEnv scope X.env.globals ((cQ scope.names X.env.cells) []) [] X.env.qual none .none<|some X.env) (λa o=>
   codeAny (model X.U X.w) X.A (.compStart (.ListComp elt [⟨tg,iter,ifs,0⟩] scope pos) 0 (.ref it) acc {a with scope:=relabel scope X.env}) (RR acc a.locals) o) E l) E s2:=
 Qe (newAcc:=newList []) (o0:={cls:= .type "list",dict:=none,data:= .seq ([]:Ò).toArray}) (u0:=λ_=> .lst []) (λ_ _ _ h=>DN h<|by show(0:Nat)<=sizeLine;exact Bx _) (λ_ _ _=>⟨Bx _,[],0,.nil,At _ rfl⟩) d e f (λ_ _=>ON) i T j f2 (λD r=>Ol<|q D r) k
end
section
variable{pos p:Pos}{Q:VK}{rest:Ô}
def ja(h:T true H):Ei X [] σ H T:=⟨λO s I=>Z6 O s σ H T I h⟩
def oQ(h:Et X c σ H T):Ei X [c] σ H T:=⟨λO s I=>Z7 m7 O s σ H T I h⟩
def jb(sc:Scope)(N N':Ð)(n:Nat)(d:PI X tg iter wi)
  (h:wi σ H λJ c=>∀D,c D=none->lZ X N' scope tg ifs elt J D (λH'=>Q (.ref D) H') (σ++replicate n none) (upd c D<|.lst []))
  (f:X.calm=true:=by rfl) (i:X.env.scope=sc:=by rfl) (j:X.N=N:=by rfl) (k:ng sc scope N N'=true:=by decide +kernel) (l:N'.length=N.length+n:=by rfl)
  (p:∀x,foldedSetIterable iter X.env x=pure x:=by intro _;rfl):Ev X (.ListComp elt [⟨tg,iter,ifs,0⟩] scope pos) σ H Q:=by
 refine⟨λO s I=>?_⟩;subst i j;have a:=cH.of k;rw[eval_ListComp];refine KR rfl p (FL λx r t=>I.ok.has x.1<|a.free x r t) a.kind a.names (aO (d O s σ H _ I h) λv s1 u=>aO u λoF s2 w=>?_);obtain⟨it,fp,tn,J,H2,e,y,T,z,f2,q⟩:=w;subst e;refine Qg f a l y T z f2 q ?_;intro D C H' s' m A B E G L M U Y;exact⟨m,B,λh' gZ=>⟨.ref D,H',A.turned (λb o hb e=>gZ.extBut b o hb e) E (CK<|CK G) (.inr L) M U,rfl,Y⟩⟩
def oq(i:Nat){y:Str}{py z:Pos}(sc:Scope)(N N':Ð)(n:Nat)(E:X.N.Nodup)(G:PI X tg iter wi)
  (h:wi σ H λJ c=>∀A,c A=none->lZ X N' scope tg ifs elt J A (λH'=>ge X rest D (σ.set i<|some<|.ref A) H') (σ++replicate n none) (upd c A<|.lst []))
  (k:X.N[i]?=some y:=by rfl) (L:AL X.env.scope y:=by first|exact Or.inl rfl|exact Or.inr rfl)
  (l:swapsWith (.ListComp elt [⟨tg,iter,ifs,0⟩] scope pos) (some<|.Name y py) z.line X.env=pure true:=by rfl)
  (M:X.calm=true:=by rfl) (U:X.env.scope=sc:=by rfl) (Y:X.N=N:=by rfl) (hk:ng sc scope N N'=true:=by decide +kernel) (hl:N'.length=N.length+n:=by rfl)
  (hs:∀x,foldedSetIterable iter X.env x=pure x:=by intro _;rfl) (p:X.fn y=true\/X.env.scope.names.lookup y=some .local:=by first|exact .inl rfl|exact .inr rfl|assumption):
  ge X (.Assign [.Name y py] (.ListComp elt [⟨tg,iter,ifs,0⟩] scope pos) z :: rest) D σ H:=by
 refine lY (t:=λf σ H=>wi σ H λJ c=>∀ A,c A=none->lZ X N' scope tg ifs elt J A (λH'=>f.nx (σ.set i<|some<|.ref A) H') (σ++replicate n none) (upd c A<|.lst [])) ?_ h;intro O s σ H D I h;subst U Y;have j:=cH.of hk;rw[exec_Assign_Name_used _ _ _ _ l];refine BJ<|GX<|BJ ?_;show wpAny _ X.A (do let _ <- comprehension (.ListComp elt [⟨tg,iter,ifs,0⟩] scope pos) scope X.env _ (newList []) false (eval iter X.env)<|some<|assign (.Name y py) X.env) _ _ s;refine BJ<|CW (KR rfl hs (FL λx hx p=>I.ok.has x.1<|j.free x hx p) j.kind j.names
  (aO (G O s σ H _ I h) λv s1 h1=>aO h1 λoF s2 h2=>?_)) (λ_ s' hq=>BK<|BK hq) λ_ _ e=>e
 obtain⟨it,fp,tn,J,H2,e,I2,T,gE,f2,q⟩:=h2;subst e;refine Qg (Q:=λx c=>D.nx (σ.set i<|some x) c) M j hl I2 T gE f2 q ?_;intro f C H' s' m IX hn hC c1 c2 B c4 qq;show wpAny _ X.A (assign (.Name y py) X.env<|.ref f) _ _ _;refine wpAny_assign_Name<|Ou IX E k L (v:= .ref f) rfl (λqe r u=>?_) p;obtain⟨a,u,d⟩:=u;have w:C≠a:=by
  obtain d|d:=d
  ·rwa[d]
  ·exact CK<|B _ _ d
 refine⟨m,hn.sameBut u w,λh' gZ=>⟨_,H',r.turned (t':=qe.toks) (λb o hb e=>gZ.extBut b o hb e) hC c1 (.inr c2) B c4,qq⟩⟩
end
structure aP(P:Program)(w:World)(K:aa)(mg:Ñ)(Z:Heap)(k:Nat)(x:Str)(ps:Ð)(sp:Sp):Prop where
 ex:∃f fd,(aE P w K mg Z bK) k f fd ps sp/\pi K fd ps []/\PySem.W.keepIn K (.ref f)=true/\mg x=some (.ref f)
def aP.mono{P:Program}{w:World}{K:aa}{mg:Ñ}{Z:Heap}{j k:Nat}{x:Str}{ps:Ð}{sp:Sp}(h:(aP P w K mg Z) j x ps sp)(le:j<=k):(aP P w K mg Z) k x ps sp:=
 let ⟨f,fd,F,r⟩:=h.ex;⟨f,fd,F.mono le,r⟩
def bC{k:Nat}{Q:VK}{p pos:Pos}(G:aP X.U X.w X.K X.mg X.Z k x ps sp)(a:bH k X.A)
  (h:Ea X (e :: es) σ H λvs c=>sp vs c Q E0) (d:Gl X x:=by rfl) (f:(x == ("__debug__" : Str))=false:=by decide) (i:gf (e :: es)=true:=by rfl):Ev X (.Call (.Name x p) (e :: es) [] pos) σ H Q:=
 let ⟨_,_,F,b,j,m⟩:=G.ex;P5 F a m j b kG h d f i
theorem _root_.L2.bH.iL{k:Nat}(a:bH k A):A.units+100<cLine:=by have:=a.un;omega
theorem _root_.L2.bH.u1{k:Nat}(a:bH k A):A.units+1<cLine:=by have:=a.un;omega
def Df(K:aa)(x:Str)(st:Stmt):Prop:=∃f fd,PySem.W.nsIn K mainGlobals x=some ((some (.ref f)))/\bB K x x st f fd
variable{sl:Array (Option Value)}
def vI{kV b pm d ct:Value}{e h:Option Addr}(a:PySem.W.nsIn K mainGlobals x=some ((some (.ref f))))
  (l:K.lookup f=some ⟨oc,e,.func<|PySem.W.fnOf x x (lV st) (gY st) (aW st) .none kV b pm h d ct,sl⟩) (c:PySem.W.codeIn K d x=true) (k:PySem.W.keepIn K (.ref f)=true):Df K x st:=⟨f,_,a,ZJ l c k⟩
structure qu where
 f:Addr
 bL:Value
 A:Around
 outer:List Env
 s:Shared
 H:Hp
 E:XK
def Qh(N:Ð)(qual:Str)(scope:Scope)(P:Program)(w:World)(K:aa)(mg:Ñ)(Z:Heap)(b:qu):Cx:=(dv bK P w K mg Z N qual scope b.f b.bL b.A b.outer b.s b.H b.E).sW
def En(Q:VK):wf:={nx:=λ_ H'=>Q .non H',rt:=Q}
def bB.gb{N:Ð}{k:Nat}(F:bB K x qual st f fd)(S:ak N ps<|aW st)(len:∀vs H Q E,sp vs H Q E->vs.length=ps.length)
  (a:∀b H vs Q E,bH k (b.A.deeper<|envOfC qual (aW st) b.s.heap.objs.size b.f b.bL)->sp vs H Q E->ge (Qh N qual (aW st) P w K mg Z b) (gY st) (En Q) (mf N vs) H):(aE P w K mg Z bK) (k+1) f fd ps sp:=
 F.go S len λc A outer s H vs Q E d e=>a ⟨f,c,A,outer,s,H,E⟩ H vs Q E d e
def Df.has{k:Nat}(d:Df K x st)(X:K.In h)(G:h.Ns mainGlobals mg)
  (e:∀kV b pm i j ct c,c.length=ps.length->bindArgs (PySem.W.fnOf x x (lV st) (gY st) (aW st) .none kV b pm i j ct) ⟨c,[]⟩=pure (ps.zip c))
  (ok:∀{f}{fd},bB K x x st f fd->(aE P w K mg Z bK) k f fd ps sp):(aP P w K mg Z) k x ps sp:=
 let ⟨f,fd,a,F⟩:=d;⟨f,fd,ok F,F.binds e,F.kp,MP X G a⟩
def Df.law{k:Nat}{y:Str}(d:Df K x st)(X:K.In h)(G:h.Ns mainGlobals mg)(j:mg x=some (.ref fa))
  (l:∀kV b pm c i ct s v,BindsTo s (PySem.W.fnOf x x (lV st) (gY st) (aW st) .none kV b pm c i ct) ⟨[v],[]⟩ [(y,v)])
  (ok:∀Z{f}{fd},bB K x x st f fd->(aE P w K mg Z bK) k f fd [y] sp):
  ∃fd:FuncData,(∀s v,BindsTo s fd ⟨[v],[]⟩ [(y,v)])/\∀Z:Heap,K.In Z->Z.Ns mainGlobals mg->(aE P w K mg Z bK) k fa fd [y] sp:=by
 obtain⟨f,fd,a,F⟩:=d;have e:=j.symm.trans<|MP X G a;cases e;obtain⟨oc,m,kV,b,pm,c,i,ct,lU,rfl,lk,n⟩:=id F.ex;exact⟨_,l kV b pm c i ct,λZ _ _=>ok Z F⟩
variable{p:Ò->Prop}
theorem vJ{k:Nat}(f:∀a r,r.length=k->p (a :: r)):∀b:Ò,b.length=k+1->p b
 |a :: r,h=>f a r<|Nat.succ.inj h
theorem vK(f:p []):∀a:Ò,a.length=0->p a
 |[],_=>f
def cm{N P:Ð}(nd:N.Nodup:=by decide +kernel)(a:∀x∈P,sc.names.lookup x=some .local\/sc.names.lookup x=some .cell:=by decide +kernel)(b:∀y∈sc.names,y.2 ≠ .free:=by decide +kernel)
  (kind:sc.kind=.function:=by rfl) (co:sc.isCoroutine=false:=by rfl) (gen:sc.isGenerator=false:=by rfl) (pre:N.take P.length=P:=by rfl):ak N P sc:=⟨kind,co,gen,nd,pre,a,b⟩
def bB.gc{N:Ð}{k:Nat}(F:bB K x qual st f fd)(S:ak N ps<|aW st)
  (a:∀b H vs Q E,bH k (b.A.deeper<|envOfC qual (aW st) b.s.heap.objs.size b.f b.bL)->sp vs H Q E->ge (Qh N qual (aW st) P w K mg Z b) (gY st) (En Q) (mf N vs) H)
  (len:∀vs H Q E,sp vs H Q E->vs.length=ps.length:=by intro vs H Q E h;repeat (first|(obtain⟨rfl,_⟩:=h;rfl)|obtain⟨_,h⟩:=h)):(aE P w K mg Z bK) (k+1) f fd ps sp:=F.gb S len a
def Df.hs{k:Nat}(d:Df K x st)(X:K.In h)(G:h.Ns mainGlobals mg)
  (ok:∀{f}{fd},bB K x x st f fd->(aE P w K mg Z bK) k f fd ps sp)
  (c:∀kV a pm e i ct b,b.length=ps.length->bindArgs (PySem.W.fnOf x x (lV st) (gY st) (aW st) .none kV a pm e i ct) ⟨b,[]⟩=pure (ps.zip b):=by intro _ _ _ _ _ _;(repeat (refine L2.vJ λ_=>?_));exact L2.vK rfl):(aP P w K mg Z) k x ps sp:=d.has X G c ok
end L2
namespace bP
open PySem
def tJ(m i:Nat):Nat:=(i*5+1)%m
def g5(m:Nat):Nat->Nat->List Nat
 |0,_=>[]
 |n+1,i=>i :: g5 m n (tJ m i)
def nj(m:Nat):Nat->Nat->Nat
 |0,i=>i
 |n+1,i=>nj m n<|tJ m i
theorem zx(m:Nat):∀a b i,nj m (a+b) i=nj m b (nj m a i)
 |0,b,i=>by rw[Ex];rfl
 |a+1,b,i=>by
  rw[show a+1+b=(a+b)+1 by omega];exact zx m a b<|tJ m i
theorem Ht(m:Nat):∀n t i,t<n->nj m t i∈g5 m n i
 |0,_,_,h=>(by omega)
 |n+1,0,i,_=>Ae
 |n+1,t+1,i,h=>Af _<|Ht m n t (tJ m i)<|(by omega)
theorem Hu(m:Nat):∀n i j,j∈g5 m n i->∃t,t<n/\nj m t i=j
 |0,_,_,h=>by cases h
 |n+1,i,j,h=>by
  obtain rfl|h:=Ai.mp h
  ·exact⟨0,Ey _,rfl⟩
  ·obtain⟨t,a,e⟩:=Hu m n (tJ m i) j h;exact⟨t+1,Nat.succ_lt_succ a,e⟩
def rf(m:Nat):Bool:=nj m m 0 == 0 && (range m).all λj=>(g5 m m 0).contains j
def NH:rf 8=true:=by decide +kernel
def d0:rf 16=true:=by decide +kernel
def Lp:rf 32=true:=by decide +kernel
def B8:rf 64=true:=by decide +kernel
def u6:rf 128=true:=by decide +kernel
def RO:rf 512=true:=by decide +kernel
def r9(m:Nat):Prop:=m=8\/m=16\/m=32\/m=64\/m=128\/m=512
def r9.covers{m:Nat}(h:r9 m):bP.rf m=true:=by
 obtain rfl|rfl|rfl|rfl|rfl|rfl:=h
 ·exact NH
 ·exact d0
 ·exact Lp
 ·exact B8
 ·exact u6
 ·exact RO
variable{m:Nat}
def r9.pos(h:r9 m):8<=m/\m<=512:=by obtain rfl|rfl|rfl|rfl|rfl|rfl:=h<;>decide
variable{i j:Nat}
theorem r9.mem(h:r9 m)(k:i<m)(l:j<m):j∈g5 m m i:=by
 have q:=h.covers;unfold bP.rf at q;rw[Cb,Ej,HY]at q;obtain⟨z,q⟩:=q;obtain⟨a,n,d⟩:=Hu m m 0 i<|Bm.mp<|q i<|Bo.mpr k;obtain⟨b,o,f⟩:=Hu m m 0 j<|Bm.mp<|q j<|Bo.mpr l
 obtain c|c:=Da b a
 ·have e:nj m (b+m-a) i=j:=by
   rw[<-d,<-zx,show a+(b+m-a)=m+b by omega,zx,z,f]
  rw[<-e];exact Ht m m _ i<|(by omega)
 ·have e:nj m (b-a) i=j:=by
   rw[<-d,<-zx,show a+(b-a)=b by omega,f]
  rw[<-e];exact Ht m m _ i<|(by omega)
def qv(mask:Nat):Nat->Nat->Nat->List Nat
 |0,_,_=>[]
 |n+1,i,p=>i :: qv mask n (SetTable.leap mask i p).1 (SetTable.leap mask i p).2
theorem Qi(mask:Nat):∀n i,qv mask n i 0=g5 (mask+1) n i
 |0,_=>rfl
 |n+1,i=>by
  show i :: qv mask n ((i*5+1+0/32)%(mask+1)) (0/32)=i :: g5 (mask+1) n (tJ (mask+1) i);rw[show(0/32:Nat)=0 by decide,VN,Qi mask n];rfl
variable{mask:Nat}
def Qj{p:Nat}:(SetTable.leap mask i p).1<mask+1:=Gm _<|Ey _
theorem Qk{mask:Nat}:∀t n i p,i<mask+1->p<32 ^ t->∃a,a<mask+1/\∀j∈g5 (mask+1) n a,j∈qv mask (t+n) i p
 |0,n,i,p,c,b=>by
  have e:p=0:=by simpa using b
  subst e;refine⟨i,c,λj d=>?_⟩;rwa[Ex,Qi]
 |t+1,n,i,p,c,b=>by
  have f:p/32<32 ^ t:=by
   rw[Nat.div_lt_iff_lt_mul<|(by decide)];rwa[Nat.pow_succ]at b
  obtain⟨a,h,q⟩:=Qk t n (SetTable.leap mask i p).1 (p/32) Qj f;refine⟨a,h,λj d=>?_⟩;rw[show t+1+n=(t+n)+1 by omega];exact Af _<|q j d
theorem Ql{p:Nat}(a:r9<|mask+1)(b:i<mask+1)(c:p<2 ^ 64)(d:j<mask+1):j∈qv mask (mask+15) i p:=by
 obtain⟨f,e,q⟩:=Qk 14 (mask+1) i p b (Bq c<|(by decide));have:=q j<|a.mem e d;rwa[show 14+(mask+1)=mask+15 by omega]at this
abbrev g6:=Array<|Option Nat
def wb(owner:g6)(j:Nat):Bool:=(owner.getD j<|some 0).isNone
theorem Hv(mask i:Nat):i<=SetTable.runEnd mask i:=by unfold SetTable.runEnd;split<;>omega
theorem Qm{mask:Nat}{owner:g6}:∀{a i p},SetTable.layClean.free mask owner a i p=none->∀j∈qv mask a i p,wb owner j=false
 |0,_,_,_,j,b=>by cases b
 |a+1,i,p,h,j,b=>by
  unfold SetTable.layClean.free at h
  split at h
  ·cases h
  ·rename_i c
   obtain rfl|b:=Ai.mp b
   ·have:=Fh.mp c 0 (Bo.mpr<|by have:=Hv mask j;omega);rw[VN]at this;exact El.mpr this
   ·exact Qm h j b
theorem Qn{mask:Nat}{owner:g6}:∀{a i p j},SetTable.layClean.free mask owner a i p=some j->wb owner j=true
 |0,_,_,_,h=>by cases h
 |a+1,i,p,j,h=>by
  unfold SetTable.layClean.free at h
  split at h
  ·rename_i k b;cases h;have:=Hj b;exact this
  ·exact Qn h
variable{owner:g6}
theorem uu:wb owner j=true↔owner[j]?=some none:=by
 unfold wb;rw[Db];cases h:owner[j]? with
 |none=>simp
 |some v=>cases v<;>simp
structure ir(m:Nat)(owner:g6)(k:Nat):Prop where
 size:owner.size=m
 lt:∀(j v:Nat),owner[j]?=some (some v)->v<k
 has:∀v:Nat,v<k->∃j:Nat,owner[j]?=some (some v)
 inj:∀(i j v:Nat),owner[i]?=some (some v)->owner[j]?=some (some v)->i=j
theorem ir.start(m:Nat):ir m (Array.replicate m none) 0 where
 size:=by simp
 lt:=λj v h=>by
  rw[Gg]at h
  split at h<;>cases h
 has:=λv h=>(by omega)
 inj:=λi j v h=>by
  rw[Gg]at h
  split at h<;>cases h
theorem ir.put{k:Nat}(L:ir m owner k)(l:owner[j]?=some none):ir m (owner.setIfInBounds j<|some k) (k+1):=by
 have o:j<owner.size:=by
  obtain h|h:=Da j owner.size
  ·exact h
  ·rw[Dv h]at l;cases l
 have c:∀i:Nat,(owner.setIfInBounds j<|some k)[i]?=if j=i then some (some k)else owner[i]?:=by
  intro i;rw[Fn]
  split
  ·rename_i e;subst e;first|rfl|rw[BP o]
  ·rfl
 refine⟨by rw[Array.size_setIfInBounds];exact L.size,λi v h=>?_,λv h=>?_,λa b v f d=>?_⟩
 ·rw[c]at h
  split at h
  ·cases h;exact Gz _
  ·exact Ci<|L.lt i v h
 ·obtain h|rfl:=Nat.lt_succ_iff_lt_or_eq.mp h
  ·obtain⟨i,n⟩:=L.has v h;refine⟨i,?_⟩;rwa[c,BL λe=>by subst e;rw[l]at n;cases n]
  ·exact⟨j,by rw[c,BP rfl]⟩
 ·rw[c]at f d
  split at f
  ·rename_i e;cases f
   split at d
   ·rename_i p;exact e.symm.trans p
   ·have:=L.lt b k d;omega
  ·split at d
   ·cases d;have:=L.lt a k f;omega
   ·exact L.inj a b v f d
def jp(m:Nat)(owner:g6):List (Nat×Nat):=(range m).filterMap λj=>(owner.getD j none).map (j,·)
theorem getD_some{owner:g6}{j v:Nat}:owner.getD j none=some v↔owner[j]?=some (some v):=by
 rw[Db];cases h:owner[j]? with
 |none=>simp
 |some x=>simp
def c7{p:Nat×Nat}:p∈jp m owner↔p.1<m/\owner[p.1]?=some (some p.2):=by
 unfold jp;rw[Gk]
 constructor
 ·rintro ⟨j,b,e⟩;cases a:owner.getD j none with
  |none=>rw[a]at e;cases e
  |some v=>
   rw[a]at e;cases e;exact⟨Bo.mp b,getD_some.mp a⟩
 ·rintro ⟨c,d⟩;exact⟨p.1,Bo.mpr c,by rw[getD_some.mpr d];rfl⟩
def ir.nodup{k:Nat}(L:ir m owner k):((jp m owner).map (·.2)).Nodup:=by
 have q:∀l:List Nat,l.Nodup->((l.filterMap λj=>(owner.getD j none).map (j,·)).map (·.2)).Nodup:=by
  intro l
  induction l with
  |nil=>intro _;exact Cd
  |cons a r f=>
   intro b;rw[Bh]at b;rw[Eh];cases i:owner.getD a none with
   |none=>exact f b.2
   |some v=>
    show(v :: (r.filterMap λj=>(owner.getD j none).map (j,·)).map (·.2)).Nodup;rw[Bh];refine⟨λh=>?_,f b.2⟩;obtain⟨p,n,e⟩:=Ak.mp h;obtain⟨j,o,c⟩:=Gk.mp n;cases d:owner.getD j none with
    |none=>rw[d]at c;cases c
    |some u=>
     rw[d]at c;cases c;have s:=e;subst s;have:=L.inj a j u (getD_some.mp i)<|getD_some.mp d;subst this;exact b.1 o
 exact q _ Ga
def ir.perm{k:Nat}(L:ir m owner k):((jp m owner).map (·.2)).Perm (range k):=by
 rw[Fr L.nodup Ga];intro v;rw[Bo,Ak]
 constructor
 ·rintro ⟨p,b,rfl⟩;exact L.lt _ _ (c7.mp b).2
 ·intro h;obtain⟨j,a⟩:=L.has v h;have c:j<m:=by
   rw[<-L.size]
   obtain h|h:=Da j owner.size
   ·exact h
   ·rw[Dv h]at a;cases a
  exact⟨(j,v),c7.mpr ⟨c,a⟩,rfl⟩
def ir.length{m k:Nat}{owner:g6}(L:ir m owner k):(jp m owner).length=k:=by
 have:=L.perm.length_eq;rwa[Aa,Dq]at this
theorem ir.room{k:Nat}(L:ir m owner k)(h:k<m):∃j,j<m/\wb owner j=true:=by
 refine CQ λn=>?_;have all:∀j,j<m->∃v,owner.getD j none=some v:=by
  intro j b;have d:j<owner.size:=by rwa[L.size]
  cases c:owner[j] with
  |none=>exact absurd ⟨j,b,uu.mpr<|by rw[Ce d,c]⟩ n
  |some v=>exact⟨v,getD_some.mpr<|by rw[Ce d,c]⟩
 have len:∀l:List Nat,(∀j∈l,j<m)->(l.filterMap λj=>(owner.getD j none).map (j,·)).length=l.length:=by
  intro l
  induction l with
  |nil=>intro _;rfl
  |cons a r o=>
   intro f;obtain⟨v,c⟩:=all a<|f a Ae;rw[Eh,c];show(_ :: _).length=_;rw[As,As,o λj b=>f j<|Af _ b]
 have e:=len (range m) λj b=>Bo.mp b;have i:=L.length;unfold jp at i;rw[e,Dq]at i;omega
theorem Qo(h:Int):SetTable.bits h<2 ^ 64:=by
 unfold SetTable.bits;omega
theorem ir.free{mask k:Nat}{owner:g6}(L:ir (mask+1) owner k)(a:r9<|mask+1)(h:k<mask+1)(x:Int):
  ∃j,SetTable.layClean.free mask owner (SetTable.turns mask) (SetTable.bits x%(mask+1)) (SetTable.bits x)=some j/\owner[j]?=some none:=by
 cases e:SetTable.layClean.free mask owner (SetTable.turns mask) (SetTable.bits x%(mask+1)) (SetTable.bits x) with
 |some j=>exact⟨j,rfl,uu.mp<|Qn e⟩
 |none=>
  obtain⟨j,b,q⟩:=L.room h;have:=Qm e j<|Ql a (Gm _<|Ey _) (Qo x) b;rw[q]at this;cases this
def oR(mask:Nat)(acc:Option<|g6×Nat)(h:Int):Option (g6×Nat):=do
 let (owner,k) <-acc
 let j <-SetTable.layClean.free mask owner (SetTable.turns mask) (SetTable.bits h%(mask+1))<|SetTable.bits h
 pure (owner.setIfInBounds j<|some k,k+1)
theorem Qp{mask:Nat}(b:r9<|mask+1):∀(a:List Int)(owner:g6)(k:Nat),ir (mask+1) owner k->k+a.length<mask+1+1 ->
  ∃c,a.foldl (oR mask) (some (owner,k))=some (c,k+a.length)/\ir (mask+1) c (k+a.length)
 |[],owner,k,L,_=>⟨owner,rfl,L⟩
 |h :: r,owner,k,L,d=>by
  rw[As]at d ⊢;obtain⟨j,e,f⟩:=L.free b (by omega) h;obtain⟨i,l,m⟩:=Qp b r _ (k+1) (L.put f) (by omega);refine⟨i,?_,?_⟩
  ·rw[Dh,show oR mask (some (owner,k)) h=some (owner.setIfInBounds j<|some k,k+1) by unfold oR;simp[e],l]
   congr 2
   omega
  ·rw[show k+(r.length+1)=k+1+r.length by omega];exact m
def tx(b:r9<|mask+1)(a:Array Int)(c:a.size<mask+1+1):∃owner,SetTable.layClean mask a=some owner/\ir (mask+1) owner a.size:=by
 obtain⟨d,e,L⟩:=Qp b a.toList _ 0 (ir.start<|mask+1) (by simpa using c);refine⟨d,?_,(by simpa using L)⟩;have f:SetTable.layClean mask a=(a.foldl (oR mask)<|some (Array.replicate (mask+1) none,0)).map (·.1):=rfl;rw[f,<-Array.foldl_toList,e];rfl
theorem Qq{finger moves:Nat}{led plain:Bool}(c:r9<|mask+1)(a:Array Int)(d:a.size<=mask):
  ∃t order,SetTable.laid mask finger moves led plain a=some (t,order)/\order.toList.Perm (range a.size)/\t.fits a.size=true/\t.led=led/\t.plain=plain/\t.mask=mask/\t.dummies=#[]/\t.place.size=a.size:=by
 obtain⟨o,e,L⟩:=tx c a (by omega);have b:((jp (mask+1) o).map (·.1)).toArray.size=a.size:=by
  rw[Ay,Aa,L.length]
 refine⟨_,_,by unfold SetTable.laid;rw[e];rfl,?_,?_,rfl,rfl,rfl,rfl,b⟩
 ·show((jp (mask+1) o).map (·.2)).Perm _;exact L.perm
 ·unfold SetTable.fits SetTable.fill;show(((jp (mask+1) o).map (·.1)).toArray.size == a.size && decide (((jp (mask+1) o).map (·.1)).toArray.size+0<=mask))=true;rw[b];simp only[FZ,Gh,VN,DQ];exact d
def cU(w:World):Bool:=w.params.followText "set-order"
def gh(e:Int×Value):Str:=match e.2 with
 |.str x _=>x
 |_=>⟨#[]⟩
section
variable(U:Program)(w:World)
def oS(e:Int×Value):Prop:=∃z t,e=((strKind U w).hash z,Value.str z t)
structure mT(es:Array<|Int×Value)(t:SetTable)(zs:Ð):Prop where
 elts:∀e∈es.toList,oS U w e
 keys:(es.toList.map gh).Perm zs
 nodup:zs.Nodup
 few:zs.length<1000
 fits:t.fits es.size=true
 led:t.led = !cU w
 plain:es=#[]\/t.plain=false
def aA(h:Heap)(a:Addr)(zs:Ð):Prop:=∃o b c t,h.get? a=some o/\o.ExactSet/\o.data=.set b c t/\mT U w b t zs
end
variable{a:Addr}{h:Heap}{zs jc:Ð}{es dM:Array (Int×Value)}{w:World}{U:Program}{t':SetTable}{s:Shared}{ep:Nat}{o:Obj}{e:Int×Value}{z:Str}
section
variable{t:SetTable}{h':Heap}
def mT.elems(T:mT U w es t zs):ElemsOf (strKind U w) es.toList:=λe a=>by
 obtain⟨z,u,rfl⟩:=T.elts e a;exact⟨⟨z,PX _ _ _ _,rfl⟩,rfl⟩
def mT.size(T:mT U w es t zs):es.size=zs.length:=by
 have:=T.keys.length_eq;rwa[Aa,Bu]at this
def mT.ga(T:mT U w es t zs):es.size<1000:=by rw[T.size];exact T.few
theorem mT.scan(T:mT U w es t zs):es.size<scanBound:=by have:=T.ga;unfold scanBound;omega
def mT.perm(T:mT U w es t zs)(p:dM.toList.Perm es.toList)(a:t'.fits dM.size=true)(b:t'.led=t.led)(c:dM=#[]\/t'.plain=false):mT U w dM t' zs:=
 ⟨λe d=>T.elts e<|p.mem_iff.mp d,(p.map gh).trans T.keys,T.nodup,T.few,a,b.trans T.led,c⟩
def aA.keep(S:aA U w h a zs)(k:∀o,h.get? a=some o->h'.get? a=some o):aA U w h' a zs:=let ⟨o,es,ep,t,b,c⟩:=S;⟨o,es,ep,t,k o b,c⟩
def aA.typeIs(S:aA U w s.heap a zs):s.TypeIs (.ref a) "set":=let ⟨o,_,_,_,b,c,_⟩:=S;⟨o,b,c.1⟩
def aA.lt(S:aA U w h a zs):a<h.objs.size:=let ⟨_,_,_,_,b,_⟩:=S;Av b
def aA.few(S:aA U w h a zs):zs.length<1000:=let ⟨_,_,_,_,_,_,_,T⟩:=S;T.few
def aA.nodup(S:aA U w h a zs):zs.Nodup:=let ⟨_,_,_,_,_,_,_,T⟩:=S;T.nodup
def qw(b:h.get? a=some o)(c:o.ExactSet)(hd:o.data=.set es ep t)(d:mT U w dM t' jc):
  (h.update a<|Obj.putSet dM t').get? a=some {o with data:= .set dM (ep+1) t'}/\aA U w (h.update a<|Obj.putSet dM t') a jc:=by
 have q:=Dd (Obj.putSet dM t') b (by rw[putSet_of dM t' hd];rfl);rw[putSet_of dM t' hd]at q;exact⟨q,_,dM,ep+1,t',q,c,rfl,d⟩
def Hw(a:oS U w e)(z:Str):(strKind U w).is z e.2=decide (z=gh e):=by
 obtain⟨y,u,rfl⟩:=a;exact KeyKind.is_eq_decide (PX U w y u) z
def ww(T:mT U w es t zs)(b:z∉zs):es.toList.findIdx? (λe=>(strKind U w).is z e.2)=none:=by
 rw[List.findIdx?_eq_none_iff];intro e a;rw[Hw<|T.elts e a,GZ];rintro rfl;exact b<|T.keys.mem_iff.mp<|List.mem_map_of_mem a
theorem wp(T:mT U w es t zs)(c:z∈zs):∃j,∃a:j<es.toList.length,es.toList.findIdx? (λe=>(strKind U w).is z e.2)=some j/\gh es.toList[j]=z:=by
 obtain⟨e,b,d⟩:=Ak.mp<|T.keys.mem_iff.mpr c;cases q:es.toList.findIdx? (λe=>(strKind U w).is z e.2) with
 |none=>
  have:=List.findIdx?_eq_none_iff.mp q e b;rw[Hw<|T.elts e b,GZ]at this;exact absurd d.symm this
 |some j=>
  obtain⟨a,p,_⟩:=List.findIdx?_eq_some_iff_getElem.mp q;rw[Hw<|T.elts _<|Bt a,DQ]at p;exact⟨j,a,rfl,p.symm⟩
def i3(t:SetTable)(n:Nat):(t.orStandIn n).led=t.led/\((t.orStandIn n).plain=true->t.plain=true):=by
 unfold SetTable.orStandIn
 split
 ·exact⟨rfl,id⟩
 ·exact⟨rfl,λh=>by cases h⟩
def dc(t:SetTable)(es:Array<|Int×Value)(x:Int)(v:Value):(layNew t es x v).2.1.led=t.led:=by
 unfold layNew
 split
 ·exact(i3 _ _).1
 ·rfl
theorem v8{f:Nat}{l p:Bool}{a:Array Int}{o:Array Nat}(e:SetTable.laid mask f m l p a=some (t',o)):t'.led=l/\t'.plain=p:=by
 unfold SetTable.laid at e;cases c:SetTable.layClean mask a with
 |none=>rw[c]at e;cases e
 |some b=>rw[c]at e;cases e;exact⟨rfl,rfl⟩
def Qr(t:SetTable)(es:Array<|Int×Value)(n:Nat)(a:t.plain=false):(relayAll t es n).2.1.led=t.led/\(relayAll t es n).2.1.plain=false:=by
 unfold relayAll
 split
 ·rename_i t' o e;have q:=v8 e
  dsimp only
  split
  ·exact⟨q.1,q.2.trans a⟩
  ·exact⟨rfl,rfl⟩
 ·exact⟨rfl,rfl⟩
end
variable{E:Í}{A:Around}{n:Nat}{R:Option Bool->Shared->Prop}{t2:SetTable}{c8:Array (Int×Value)}{tk:Tok}{src:Source}{zf:Ð}
section
theorem jJ(h:n<1001):n<=sizeLine:=by rw[DX];omega
theorem Qs{g:Bool->Sem Unit}(m:∀(b:Bool)(d:Shared)(e:Unit->Shared->Prop),e () d->(ba U w A) (g b) e E d)
     {t:SetTable} (f:s.heap.get? a=some o) (h:o.ExactSet) (hd:o.data=.set es ep t)
    (T:mT U w c8 t2 zs) (i:t2.plain=false) {c:Bool} 
  (k:∀h',Heap.SameBut a s.heap h'->aA U w h' a zs->R (some true) {s with heap:=h'}):
  (ba U w A) (do
   storeSet a c8 t2
   if c=true then do
     g (relayAll t2 c8<|SetTable.grown c8.size).2.2
     storeSet a (relayAll t2 c8<|SetTable.grown c8.size).1 (relayAll t2 c8<|SetTable.grown c8.size).2.1
     pure (some true)
    else pure (some true)) R E s:=by
 refine BJ<|FQ f hd ?_<|jJ<|Ci T.ga;obtain⟨j,n⟩:=qw f h hd T;have l:=CT s.heap a<|Obj.putSet c8 t2;cases c with
 |false=>exact BK<|k _ l n
 |true=>
  have p:=relayAll_perm t2 c8<|SetTable.grown c8.size;have T3:=T.perm p (relayAll_fits t2 c8<|SetTable.grown c8.size) (Qr t2 c8 _ i).1<|.inr (Qr t2 c8 _ i).2;refine BJ<|m _ _ _<|BJ<|FQ j rfl ?_ (jJ<|Ci T3.ga);exact BK<|k _ (l.trans<|CT _ a _) (qw j h rfl T3).2
def added(zs:Ð)(z:Str):Ð:=if z∈zs then zs else zs++[z]
def Hx{Q:Bool->Shared->Prop}(S:aA U w s.heap a zs)(J:zs.length+1<1000)
  (k:∀(b:Bool)h',Heap.SameBut a s.heap h'->aA U w h' a (added zs z)->Q b {s with heap:=h'}):
  (ba U w A) (setAddHashed a (.str z tk)<|(strKind U w).hash z) Q E s:=by
 obtain⟨o,es,ep,t,c,d,hd,T⟩:=S;unfold setAddHashed setAddHashedIn;refine CJ<|BJ<|CG c hd T.fits ?_
 dsimp only
 rw[byScan_of (knd:=strKind U w) (x:= .str z tk) rfl T.scan T.elems];simp only[↓reduceIte];unfold setAddByScan;refine BJ<|BJ<|HX<|BJ<|wpAny_setScan_of (knd:=strKind U w) (k:=z) (PX _ _ _ _) c hd T.fits T.elems ?_
 by_cases h:z∈zs
 ·obtain⟨j,M,e,_⟩:=wp T h;rw[e]
  dsimp only
  refine BK<|BK<|k false s.heap (Heap.SameBut.refl a s.heap) ?_;unfold added;rw[BP h];exact⟨o,es,ep,t,c,d,hd,T⟩
 ·rw[ww T h]
  dsimp only
  have r:∀(b:Bool) (u:Shared) (v:Unit->Shared->Prop),v () u->(ba U w A) (match b with | true=>rule "set.scan.the-table-gave-way" |false=>pure ()) v E u:=
   λb u v q=>by cases b<;>first|exact BK q|exact HX q
  have p:=layNew_perm t es ((strKind U w).hash z)<|.str z tk;have f:=layNew_fits t es ((strKind U w).hash z)<|.str z tk;have l:=dc t es ((strKind U w).hash z)<|.str z tk;generalize layNew t es ((strKind U w).hash z) (.str z tk)=L at p f l ⊢;obtain⟨c8,B,N,O⟩:=L
  dsimp only at p f l ⊢
  rw[Array.toList_push]at p;have tab:∀t2:SetTable,t2.fits c8.size=true->t2.led=B.led->t2.plain=false->mT U w c8 t2 (zs++[z]):=λt2 G H I=>{
   elts:=λe i=>by
    obtain i|i:=Am.mp (p.mem_iff.mp i)
    ·exact T.elts e i
    ·exact⟨z,tk,Ad.mp i⟩
   keys:=by
    refine(p.map gh).trans ?_;rw[Al];exact T.keys.append<|List.Perm.refl _
   nodup:=by
    rw[Co];refine⟨T.nodup,by simp,λx d y D e=>?_⟩;rw[Ad]at D;subst D e;exact h d
   few:=by rwa[Ag]
   fits:=G
   led:=H.trans<|l.trans T.led
   plain:= .inr I}
  have fin:∀h',Heap.SameBut a s.heap h'->aA U w h' a (zs++[z])->Q true {s with heap:=h'}:=λh' m n=>k true h' m (by unfold added;rwa[BL h]);refine BJ<|r _ _ _ ?_
  split
  ·rename_i C;refine BJ ?_;rw[hashByValue_scannable 8 rfl];refine BK ?_;refine Qs r c d hd (tab {B with plain:=false} (SetTable.fits_plain_off f) rfl rfl) rfl λh' m n=>?_
   dsimp only
   exact BK<|fin h' m n
  ·rename_i C;refine BJ<|BK ?_;simp only[↓reduceIte];refine Qs r c d hd (tab B f rfl (El.mpr C)) (El.mpr C) λh' m n=>?_
   dsimp only
   exact BK<|fin h' m n
def Qt{Q:Option Nat->Shared->Prop}{t:SetTable}(c:s.heap.get? a=some o)(hd:o.data=.set es ep t)(T:mT U w es t zs)
  (k0:z∉zs->Q none s) (k1:∀j,(d:j<es.toList.length)->gh es.toList[j]=z->Q (some j) s):(ba U w A) (setFind a (.str z tk)<|(strKind U w).hash z) Q E s:=by
 unfold setFind setFindIn;refine BJ<|CG c hd T.fits ?_
 dsimp only
 rw[byScan_of rfl T.scan T.elems];simp only[↓reduceIte];refine BJ<|HX<|BJ<|wpAny_setScan_of (PX _ _ _ _) c hd T.fits T.elems ?_
 by_cases b:z∈zs
 ·obtain⟨j,d,e,q⟩:=wp T b;rw[e]
  dsimp only
  rw[Ex];exact BK<|k1 j d q
 ·rw[ww T b];exact BK<|k0 b
def zy{α:Type}(xs:Array α)(i:Nat):(SetTable.eraseAt xs i).toList=xs.toList.eraseIdx i:=by
 unfold SetTable.eraseAt;rw[Array.toList_append,Array.toList_extract,Array.toList_extract,List.eraseIdx_eq_take_drop_succ];simp[List.extract_eq_drop_take];exact Cs<|by simp
theorem bW{α:Type}:∀(l:List α)(j:Nat)(a:j<l.length),(l[j]:: l.eraseIdx j).Perm l
 |[],_,h=>by simp at h
 |x :: r,0,_=>List.Perm.refl _
 |x :: r,j+1,h=>(List.Perm.swap x _ _).trans<|(bW r j<|Nat.lt_of_succ_lt_succ h).cons x
theorem DI{t:SetTable}(h:t.fits n=true)(e:i<n):(t.drop i).fits (n-1)=true/\(t.drop i).led=t.led/\(t.drop i).plain=t.plain:=by
 unfold SetTable.fits at h;rw[Cb,HY,DQ]at h;have a:i<t.place.size:=by rwa[h.1]
 unfold SetTable.drop;rw[Ce a]
 dsimp only
 refine⟨?_,rfl,rfl⟩;have b:(SetTable.eraseAt t.place i).size=n-1:=by
  rw[<-Bu,zy,Dg,Bu,BP a,h.1]
 have c:=λj=>by
  have:=(SetTable.insertAt_perm t.dummies (SetTable.below t.dummies j) j).length_eq
  simpa using this
 have d:=h.2;unfold SetTable.fill at d;unfold SetTable.fits SetTable.fill
 dsimp only
 rw[b,c];simp only[FZ,Gh,DQ];omega
def k62{Q:Bool->Shared->Prop}(S:aA U w s.heap a zs)
  (k0:z∉zs->Q false s) (k1:∀h',z∈zs->Heap.SameBut a s.heap h'->aA U w h' a (zs.erase z)->Q true {s with heap:=h'}):
  (ba U w A) (setDiscardHashed a (.str z tk)<|(strKind U w).hash z) Q E s:=by
 obtain⟨o,es,ep,t,b,c,hd,T⟩:=S;unfold setDiscardHashed;refine BJ<|Qt b hd T (λd=>?_) λj f e=>?_
 ·exact BK<|k0 d
 ·dsimp only
  have h:j<es.size:=by simpa using f
  have d:=T.keys.mem_iff.mp<|Ak.mpr ⟨_,Bt f,e⟩;obtain⟨f1,f2,l⟩:=DI T.fits h;have i:(gh es.toList[j]:: (es.toList.eraseIdx j).map gh).Perm zs:=by
   refine List.Perm.trans ?_ T.keys;rw[<-Ba];exact(bW _ j f).map gh
  rw[e]at i;have k:mT U w (SetTable.eraseAt es j) (t.drop j) (zs.erase z):={
   elts:=λx c=>by
    rw[zy]at c;exact T.elts x<|Fb c
   keys:=by
    rw[zy];refine List.Perm.cons_inv<|i.trans ?_;exact List.perm_cons_erase d
   nodup:=T.nodup.erase z
   few:=QT (List.length_erase_le) T.few
   fits:=by
    have:(SetTable.eraseAt es j).size=es.size-1:=by
     rw[<-Bu,zy,Dg,Bu,BP h]
    rwa[this]
   led:=f2.trans T.led
   plain:=by
    obtain q|q:=T.plain
    ·subst q;simp at h
    ·exact .inr (l.trans q)}
  refine BJ<|CG b hd T.fits ?_
  dsimp only
  refine BJ<|FQ b hd ?_<|jJ<|Ci k.ga;refine BJ<|wpAny_point<|BK<|k1 _ d (CT _ a _) (qw b c hd k).2
theorem Qu{α:Type}(next:Nat->Nat):∀(a k:Nat)(left:List α)(out:Array α),left.length<=a->(pickOrder.go next a k left out).toList.Perm (out.toList++left)
 |0,k,left,out,h=>by
  have:left=[]:=Bv.mp (by omega);subst this;unfold pickOrder.go;simp
 |a+1,k,left,out,h=>by
  unfold pickOrder.go;cases e:left[next k%left.length]? with
  |none=>
   have:left=[]:=by
    cases left with
    |nil=>rfl
    |cons x r=>
     have b:next k%(x :: r).length<(x :: r).length:=Gm _ (by simp);rw[Ab b]at e;cases e
   subst this;simp
  |some x=>
   dsimp only
   obtain⟨b,c⟩:=Ac.mp e;refine(Qu next a (k+1) _ _ (by rw[Dg,BP b];omega)).trans ?_;rw[Array.toList_push,Ar];refine OD _ ?_;have:=bW left _ b;rwa[c]at this
def Qv{α:Type}(next:Nat->Nat)(xs:Array α):(pickOrder next xs).toList.Perm xs.toList:=by
 have:=Qu next xs.size 0 xs.toList #[] (by simp)
 simpa[pickOrder]using this
def xy{Q:Nat->Shared->Prop}(a:n≠0)(h:∀i d,i<n->Q i {s with drawn:=d}):(ba U w A) (choose src n) Q E s:=
 λb p _=>⟨a,h _ _<|Gm _<|Nat.pos_of_ne_zero a⟩
theorem Hy{α:Type}:∀(n:Nat)(xs:List α)(s:Shared)(Q:List α->Shared->Prop),xs.length<=n->(∀ys d,ys.Perm xs->Q ys {s with drawn:=d})->(ba U w A) (drawOrder n xs) Q E s
 |0,xs,s,Q,h,k=>by
  have:xs=[]:=Bv.mp (by omega);subst this;unfold drawOrder;exact BK<|k [] s.drawn<|List.Perm.refl _
 |n+1,[],s,Q,h,k=>by
  unfold drawOrder;exact BK<|k [] s.drawn<|List.Perm.refl _
 |n+1,x :: r,s,Q,h,k=>by
  unfold drawOrder;refine BJ (xy (by simp) λi d a=>?_);rw[Ab a]
  dsimp only
  refine BJ (Hy n _ _ _ (by rw[Dg,BP a];omega) λys b p=>?_);exact BK<|k _ b<|(p.cons _).trans<|bW _ i a
def wp_text{Q:Bool->Shared->Prop}(k:Q (cU w) s):(ba U w A) setsByText Q E s:=by
 unfold setsByText;exact BJ<|JX<|BK k
variable{t:SetTable}
theorem dO{Q:Array (Int×Value)->Shared->Prop}(c:s.heap.get? a=some o)(hd:o.data=.set es ep t)(T:mT U w es t zs)
  (k:∀b d,b.toList.Perm es.toList->Q b {s with drawn:=d}):(ba U w A) (setWalk a) Q E s:=by
 unfold setWalk;refine BJ<|CG c hd T.fits ?_
 dsimp only
 refine BJ<|wp_text ?_;cases e:cU w with
 |true=>
  simp only[CZ];refine BJ<|JX ?_;exact BK<|k _ s.drawn<|Qv _ _
 |false=>
  simp only[Aq,CP];show wpAny _ _ (if(!t.plain && decide (es.size>1))=true then _ else _) _ _ _
  split
  ·refine BJ (Hy _ _ _ _ (by simp) λf d p=>?_);exact BK<|k _ d<|(by simpa using p)
  ·refine BJ ?_;show wpAny _ _ (if(!t.led && decide (es.size>1))=true then _ else _) _ _ _;rw[BL<|by rw[T.led,e];simp];exact BK<|BK<|k _ s.drawn<|List.Perm.refl _
def q3h{Q:Bool->Shared->Prop}(l:(List Addr))(j:∀b∈l,∃ys,aA U w s.heap b ys)(k:Q true s):(ba U w A) (setsQuiet l) Q E s:=by
 unfold setsQuiet;refine BJ<|NZ _ (λa b d=>b.1=none/\d=s/\∀c∈a,∃ys,aA U w s.heap c ys) _ ?_ ?_ l _ ⟨rfl,rfl,j⟩
 ·rintro x a b d ⟨q,rfl,f⟩;obtain⟨ys,o,es,ep,t,m,r,hd,T⟩:=f x Ae;refine BJ<|KD m hd T.fits<|BJ<|QV _ (λa b n=>b.1=none/\n=d/\∀e∈a,oS U w e) _ ?_ ?_ es _ ⟨rfl,rfl,T.elts⟩
  ·rintro e v y p ⟨B,rfl,i⟩;obtain⟨z,u,rfl⟩:=i _ Ae;exact BK ⟨rfl,rfl,λe h=>i e<|Af _ h⟩
  ·rintro ⟨_,_⟩ p ⟨rfl,rfl,_⟩;exact BK ⟨rfl,rfl,λc h=>f c<|Af _ h⟩
 ·rintro ⟨_,_⟩ d ⟨rfl,rfl,_⟩;exact BK k
def k8z{f:Addr}{Q:Array (Int×Value)->Shared->Prop}(m:s.heap.get? a=some o)(x:o.ExactSet)(hd:o.data=.set es ep t)(T:mT U w es t zs)(j:aA U w s.heap f zf)
  (k:∀l h' d,l.toList.Perm es.toList->Heap.SameBut f s.heap h'->aA U w h' f zf->Q l {s with heap:=h',drawn:=d}):(ba U w A) (setWalkUnseen a [f]<|some f) Q E s:=by
 unfold setWalkUnseen;refine BJ<|CG m hd T.fits ?_
 dsimp only
 refine BJ<|wp_text ?_
 split
 ·exact dO m hd T λl d p=>k l s.heap d p (Heap.SameBut.refl _ _) j
 ·rename_i v;have h:cU w=false:=by
   cases e:cU w with
   |false=>rfl
   |true=>rw[e]at v;simp at v
  refine BJ<|q3h [a,f] (λb h=>?_) ?_
  ·obtain rfl|h:=Ai.mp h
   ·exact⟨zs,o,es,ep,t,m,x,hd,T⟩
   ·rw[Ad]at h;subst h;exact⟨zf,j⟩
  ·simp only[Dm,Aq,CP];refine BJ<|HX ?_;obtain⟨of,y,B,i,n,r,u,c⟩:=id j;refine BJ<|CG n u c.fits ?_
   dsimp only
   have z:mT U w y {i with led:=i.led && t.led,plain:=i.plain && t.plain} zf:=
    ⟨c.elts, c.keys, c.nodup, c.few, c.fits, by show (i.led && t.led)=_; rw[c.led, T.led]; simp, by
     obtain q|q:=c.plain
     ·exact .inl q
     ·exact .inr<|by show(i.plain && t.plain)=false;rw[q];rfl⟩
   split
   ·refine BJ<|FQ n u ?_<|jJ<|Ci c.ga;exact BK<|k es _ s.drawn (List.Perm.refl _) (CT _ f _) (qw n r u z).2
   ·exact BK<|k es s.heap s.drawn (List.Perm.refl _) (Heap.SameBut.refl _ _) j
end
open Builtin.Frozenset
def qA(m:Nat):Bool:=m == 8 || m == 16 || m == 32 || m == 64 || m == 128
theorem b5(h:qA m=true):r9 m:=by
 unfold qA at h;simp only[Bool.or_eq_true,HY]at h;unfold r9;omega
def oN:((range 64).all λn=>qA (SetTable.sizeAbove<|n*2) && decide (n<SetTable.sizeAbove (n*2)))=true:=by decide +kernel
def ry(h:n<64):r9 (SetTable.sizeAbove<|n*2)/\n<SetTable.sizeAbove (n*2):=by
 have q:=oN;rw[Ej]at q;have:=q n<|Bo.mpr h;rw[Cb,DQ]at this;exact⟨b5 this.1,this.2⟩
variable{order:Array Nat}
def Mf(p:order.toList.Perm<|range es.size):(order.filterMap (es[·]?)).toList.Perm es.toList:=by
 rw[TQ];have:=p.filterMap λi=>es[i]?;rwa[filterMap_getElem?_range]at this
variable{Q:Í}{each:Sem Unit}{b:Addr}
section
structure fq(w:World)(t:SetTable):Prop where
 place:t.place=#[]
 dummies:t.dummies=#[]
 led:t.led = !cU w
 plain:t.plain=true
def fq.tab{t:SetTable}(B:fq w t):mT U w #[] t []:=
 ⟨λe a=>by simp at a,by simp,Cd,(by decide),by unfold SetTable.fits SetTable.fill;rw[B.place,B.dummies];simp,B.led,.inl rfl⟩
def fq.fill{t:SetTable}(B:fq w t):t.fill=0:=by unfold SetTable.fill;rw[B.place,B.dummies];rfl
def q0n
  (k:∀ o,o.ExactSet->(∃ t,o.data = .set #[] 0 t/\fq w t/\t.mask=7)->o.isFreed=false->Q (.ref s.heap.objs.size) {s with heap:=s.heap.push o}):(ba U w A) (newSet<|.type "set") Q E s:=by
 unfold newSet;refine BJ<|wp_text ?_
 dsimp only
 simp only[newObj];exact BJ<|QL<|BK<|k _ ⟨rfl,rfl,rfl⟩ ⟨_,rfl,⟨rfl,rfl,rfl,rfl⟩,rfl⟩ rfl
variable{t:SetTable}
theorem q7c{Q:Unit->Shared->Prop}(b:s.heap.get? a=some o)(d:o.ExactSet)(hd:o.data=.set #[] ep t)(B:fq w t)(h:t.mask=7)(m:n<64)
  (k:∀h' i r t',Heap.SameBut a s.heap h'->h'.get? a=some i->i.ExactSet->i.data=.set #[] r t'->fq w t'->r9 (t'.mask+1)->n<=t'.mask->Q () {s with heap:=h'}):
  (ba U w A) (setRoomFor a n) Q E s:=by
 have T:mT U w #[] t []:=B.tab;unfold setRoomFor;refine BJ<|CG b hd T.fits ?_
 dsimp only
 unfold SetTable.roomFor;rw[B.fill,h]
 by_cases c:(0+n)*5>=7*3
 ·rw[BP c]
  dsimp only
  have u:(t.place.size+n)*2=n*2:=by rw[B.place];simp
  rw[u];obtain⟨v,J⟩:=ry m;unfold setRelay;refine BJ<|CG b hd T.fits ?_
  dsimp only
  have x:SetTable.sizeAbove (n*2)<=512:=v.pos.2;rw[BL<|by rw[DX];omega];have em:SetTable.sizeAbove (n*2)-1+1=SetTable.sizeAbove (n*2):=(by omega)
  obtain⟨t',order,e,p,f,y,z,j,C,D⟩:=Qq (plain:=t.plain) (by rwa[em]) (#[]:Array Int) (by simp);have G:t.relaid ((#[]:Array<|Int×Value).map (·.1)) (n*2)=some (t',order):=by
   unfold SetTable.relaid;rwa[show((#[]:Array<|Int×Value).map (·.1))=#[] by simp]
  rw[G];have H:order=#[]:=by
   have:=p.length_eq;simp at this;exact this
  subst H;refine BJ ?_;show wpAny _ _ (if(((#[]:Array Nat).filterMap ((#[]:Array<|Int×Value)[·]?)).size != (#[]:Array<|Int×Value).size)=true then(unsupported "internal:set-table-lost-an-element" : Sem<|Array (Int×Value)×SetTable)else pure ((#[]:Array Nat).filterMap ((#[]:Array<|Int×Value)[·]?),t')) _ _ _;rw[BL<|by simp];refine BK ?_
  dsimp only
  have I:((#[]:Array Nat).filterMap ((#[]:Array<|Int×Value)[·]?))=#[]:=by simp
  rw[I];have l:fq w t':=⟨by
   have:=D
   simpa using this,C,y.trans B.led,z.trans B.plain⟩
  refine FQ b hd ?_ (by simp);have q:=(qw b d hd<|l.tab (U:=U)).1;exact k _ _ _ _ (CT _ a _) q d rfl l (by rwa[j,em]) (by rw[j];omega)
 ·rw[BL c];exact BK<|k s.heap o ep t (Heap.SameBut.refl _ _) b d hd B (by rw[h];exact .inl rfl)<|by rw[h];omega
def DS{Q:Unit->Shared->Prop}(y:s.heap.get? a=some o)(m:o.ExactSet)(hd:o.data=.set #[] ep t)(B:fq w t)(I:t.mask=7)(J:a≠b)(S:aA U w s.heap b zs)(hz:zs.length<64)
  (k:∀h',Heap.SameBut a s.heap h'->aA U w h' a zs->Q () {s with heap:=h'}):(ba U w A) (setMerge a b each) Q E s:=by
 obtain⟨ob,h,L,i,M,N,O,d⟩:=S;unfold setMerge;have T:(a == b)=false:=by simpa using J
 rw[T];simp only[Aq,CP];refine BJ<|CG M O d.fits ?_
 dsimp only
 by_cases c:h.isEmpty=true
 ·rw[BP c];have:h=#[]:=by simpa using c
  subst this;have Y:zs=[]:=by
   have:=d.size;exact Bv.mp<|by simpa using this.symm
  subst Y;exact BK<|k s.heap (Heap.SameBut.refl _ _) ⟨o,#[],ep,t,y,m,hd,B.tab⟩
 ·rw[BL c];have r:h.size<64:=by rwa[d.size]
  refine BJ<|q7c y m hd B I r λh' o' oD t' z j C l u hp hl=>?_;refine BJ<|CG j l (u.tab (U:=U)).fits ?_
  dsimp only
  have ld:(t'.led && i.led) = !cU w:=by rw[u.led,d.led];simp
  have D:i.plain=false:=by
   obtain q|q:=d.plain
   ·rw[q]at c;simp at c
   ·exact q
  unfold SetTable.road;rw[u.fill];simp only[HD,Aq,CP]
  by_cases G:(t'.mask == i.mask && i.dummies.isEmpty)=true
  ·rw[BP G]
   dsimp only
   have n:mT U w h {i with finger:=t'.finger,led:=t'.led && i.led,moves:=t'.moves,plain:=t'.plain && i.plain} zs:=
    ⟨d.elts,d.keys,d.nodup,d.few,d.fits,ld,.inr<|by show(t'.plain && i.plain)=false;rw[D];simp⟩
   refine FQ j l ?_<|jJ<|Ci d.ga;exact k _ (z.trans<|CT _ a _) (qw j C l n).2
  ·rw[BL G]
   dsimp only
   obtain⟨t2,order,e,p,f,l1,l2,l3,l4,l5⟩:=Qq hp (h.map (·.1)) (by simpa using hl);rw[e];have p2:order.toList.Perm (range h.size):=by simpa using p
   have v:=Mf p2;have H:(order.filterMap (h[·]?)).size=h.size:=by
    have:=v.length_eq;rwa[Bu,Bu]at this
   refine BJ ?_;show wpAny _ _ (if((order.filterMap (h[·]?)).size != h.size)=true then _ else pure (order.filterMap (h[·]?),t2)) _ _ _;rw[BL<|by rw[H];simp];refine BK ?_
   dsimp only
   have n:mT U w (order.filterMap (h[·]?)) t2 zs:=⟨λx m=>d.elts x<|v.mem_iff.mp m,(v.map gh).trans d.keys,d.nodup,d.few,by rw[H];simpa using f,l1.trans ld,.inr<|l2.trans<|by rw[D];simp⟩;refine FQ j l ?_<|jJ<|Ci n.ga;exact k _ (z.trans<|CT _ a _) (qw j C l n).2
def zB{Q:Bool->Shared->Prop}(S:aA U w s.heap a zs)(k:Q true s):(ba U w A) (isAnySet<|.ref a) Q E s:=by
 unfold isAnySet;exact BJ<|JZ S.typeIs sub_set_self<|BK k
def q8k(S:aA U w s.heap a zs)(k:Q (.type "set") s):(ba U w A) (baseOf a) Q E s:=by
 unfold baseOf;exact BJ<|JZ S.typeIs sub_set_self<|BK k
def Qw{Q:Nat->Shared->Prop}(S:aA U w s.heap a zs)(k:∀n,(∀s':Shared,s'.heap.get? a=s.heap.get? a->∀b:Nat->Shared->Prop,b n s'->(ba U w A) (setEpoch a) b E s')->Q n s):(ba U w A) (setEpoch a) Q E s:=by
 obtain⟨o,es,ep,t,c,d,hd,T⟩:=S;exact LC c hd T.fits<|k ep λs' e b q=>LC (e.trans c) hd T.fits q
def q8t{id:String}(S:aA U w s.heap b zs)(d:zs.length<64)
  (k:∀ h',(∀ c o,s.heap.get? c=some o->h'.get? c=some o)->aA U w h' s.heap.objs.size zs->Q (.ref s.heap.objs.size) {s with heap:=h'}):(ba U w A) (newFrom id (.type "set")<|.ref b) Q E s:=by
 unfold newFrom;refine BJ<|q0n λo f⟨t,hd,B,h⟩i=>?_;have j:(s.heap.push o).get? s.heap.objs.size=some o:=At _ i;have l:=S.lt;have a:aA U w (s.heap.push o) b zs:=S.keep λr e=>Aj _ e;unfold addrOf;refine BJ<|BK<|BJ<|CJ ?_;unfold updateFrom;refine BJ<|zB a ?_;simp only[CZ];refine BJ<|BK ?_;unfold merge;refine BJ<|Qw a λn _=>?_;refine DS j f hd B h (Cz l) a d λh' m p=>?_;refine BK<|k h' (λc u e=>?_) p;have q:=Bw<|Av e;rw[m.2 c q];exact Aj _ e
def fg(zs:Ð)(z:Str):Ð:=if z∈zs then zs.erase z else zs++[z]
def HG(a:zs.Nodup)(z y:Str):y∈fg zs z↔(if y=z then y∉zs else y∈zs):=by
 unfold fg
 by_cases c:z∈zs
 ·rw[BP c,a.mem_erase_iff]
  by_cases e:y=z
  ·subst e;simp[c]
  ·simp[e]
 ·rw[BL c,Am,Ad]
  by_cases e:y=z
  ·subst e;simp[c]
  ·simp[e]
def dy(zs:Ð)(z:Str):(fg zs z).length<=zs.length+1:=by
 unfold fg
 split
 ·exact Nat.le_succ_of_le<|List.length_erase_le
 ·simp
theorem Qx:∀(ps zs:Ð),zs.Nodup->ps.Nodup->∀y,y∈ps.foldl fg zs↔(if y∈ps then y∉zs else y∈zs)
 |[],zs,_,_,y=>by simp
 |p :: r,zs,a,b,y=>by
  rw[Bh]at b;have f:(fg zs p).Nodup:=by
   unfold fg
   split
   ·exact a.erase p
   ·rename_i c;rw[Co];exact⟨a,by simp,λx i y d e=>by rw[Ad]at d;subst d e;exact c i⟩
  rw[Dh,Qx r _ f b.2 y]
  by_cases e:y=p
  ·subst e;rw[BL b.1,HG a,BP rfl,BP Ae]
  ·by_cases c:y∈r
   ·rw[BP c,BP<|Af _ c,HG a,BL e]
   ·rw[BL c,BL (λh=>by obtain h|h:=Ai.mp h;exact e h;exact c h),HG a,BL e]
end
def IR:entryFor table "set.__xor__" = some Builtin.«frozenset.__xor__»:=
 QG (id':= "frozenset.__xor__") (by kernel_rfl) rfl (by decide +kernel) (by kernel_rfl)
variable{zb:Ð}
section
variable{r:Addr}{za zr:Ð}
theorem gv{nm:String}{Q:Unit->Shared->Prop}(v:aA U w s.heap a za)(N:aA U w s.heap r zr)(J:a≠r)(hl:za.length+zr.length<900)
  (k:∀h' d(i:Ð),i.Perm za->Heap.SameBut r s.heap h'->aA U w h' r (i.foldl fg zr)->Q () {s with heap:=h',drawn:=d}):(ba U w A) (symmetricDifferenceUpdate nm r<|.ref a) Q E s:=by
 unfold symmetricDifferenceUpdate;have O:(Value.ref a == Value.ref r)=false:=by
  refine El.mpr λh=>J ?_;have:=eq_of_beq h;exact Value.ref.inj this
 rw[O];simp only[Aq,CP];refine BJ<|JR v.typeIs ?_;rw[show(Value.type "set" == Value.type "dict")=false by decide];simp only[Aq,CP];refine BJ<|zB v ?_;simp only[CZ];refine BJ<|BK ?_;unfold addrOf;refine BJ<|BK ?_;refine BJ<|Qw v λn Y=>?_;refine CJ ?_;obtain⟨o,es,ep,t,ho,hx,hd,T⟩:=id v;refine BJ<|k8z ho hx hd T N λi h1 l p sb S1=>?_;have L:(i.toList.map gh).Perm za:=(p.map gh).trans T.keys;have el:∀e∈i.toList,oS U w e:=λe x=>T.elts e<|p.mem_iff.mp x;refine BJ<|QV _ (λc _ D=>∃h' m,D={s with heap:=h',drawn:=l}/\Heap.SameBut r s.heap h'/\aA U w h' r m/\m.length+c.length<900/\(∀e∈c,oS U w e) /\
   (c.map gh).foldl fg m=(i.toList.map gh).foldl fg zr) _ ?_ ?_ i _ ⟨h1,zr,rfl,sb,S1,?_,el,rfl⟩
 ·rintro e c b D ⟨h',m,rfl,u,y,iM,x,G⟩;obtain⟨z,tk,rfl⟩:=x _ Ae;have zD:∀e∈c,oS U w e:=λe h=>x e<|Af _ h;rw[As]at iM;have M:∀(f:Heap)(B:Nat->Shared->Prop),Heap.SameBut r s.heap f->B n {s with heap:=f,drawn:=l}->(ba U w A) (setEpoch a) B E {s with heap:=f,drawn:=l}:=
   λf B j q=>Y _ (j.2 a J) B q
  have fin:∀f H,Heap.SameBut r s.heap f->aA U w f r H->H=fg m z->∃h' I,({s with heap:=f,drawn:=l}:Shared)={s with heap:=h',drawn:=l}/\Heap.SameBut r s.heap h'/\aA U w h' r I/\I.length+c.length<900/\(∀e∈c,oS U w e) /\
    (c.map gh).foldl fg I=(i.toList.map gh).foldl fg zr:=by
   rintro f H j q rfl;refine⟨f,_,rfl,j,q,?_,zD,G⟩;have:=dy m z;omega
  dsimp only
  refine BJ<|CJ<|BJ<|k62 (s:={s with heap:=h',drawn:=l}) y (λC=>?_) λf C j q=>?_
  ·simp only[Gr,CZ];refine BJ (Hx (s:={s with heap:=h',drawn:=l}) y (by omega) λb f j q=>BK ?_);unfold unchanged;refine BJ<|BJ<|M f _ (u.trans j) ?_;simp only[HD,Aq,CP];refine BK<|BK<|fin f _ (u.trans j) q ?_;unfold added fg;rw[BL C,BL C]
  ·simp only[Dm,Aq,CP];refine BK ?_;unfold unchanged;refine BJ<|BJ<|M f _ (u.trans j) ?_;simp only[HD,Aq,CP];refine BK<|BK<|fin f _ (u.trans j) q ?_;unfold fg;rw[BP C]
 ·rintro b D ⟨h',m,rfl,u,y,_,_,G⟩;have zq:m=(i.toList.map gh).foldl fg zr:=G;subst zq;exact BK<|k h' l _ L u y
 ·have:=L.length_eq;rw[Aa]at this;omega
theorem rN(f:aA U w s.heap a za)(h:aA U w s.heap b zb)(z:za.length<64)(n:zb.length<64)
  (k:∀h' d j,(∀c o,s.heap.get? c=some o->h'.get? c=some o)->aA U w h' s.heap.objs.size j->(∀y,y∈j↔(if y∈za then y∉zb else y∈zb))->Q (.ref s.heap.objs.size) {s with heap:=h',drawn:=d}):
  (ba U w A) (binaryOp .BitXor (.ref a)<|.ref b) Q E s:=by
 refine wpAny_binaryOp_same (op:= .BitXor) (T:= "set") f.typeIs h.typeIs F.fills_set_xor F.slot_set_xor<|DG F.slot_set_xor f.typeIs IR ?_<|F.args_set_xor_2 _ _;show wpAny _ _ (slot1 "__xor__" ⟨[.ref a,.ref b],[]⟩ >>= _) _ _ _;unfold slot1 slotArgs;simp only[Fd,Dm,Aq,↓reduceIte,bind_assoc,As,Er,HD];refine BJ<|BK ?_
 dsimp only
 refine BJ<|BK ?_
 dsimp only
 refine BJ<|BJ<|zB f ?_;refine zB h ?_;simp only[Dm,Aq,CP];unfold addrOf;refine BJ<|BK ?_;refine BJ ?_;show wpAny _ _ (baseOf a >>= λc=>newFrom (toString "frozenset."++toString "__xor__") c (.ref b) >>= λres=>addrOf res >>= λq=>holding [res] (symmetricDifferenceUpdate (toString "frozenset."++toString "__xor__") q<|.ref a) >>= λ_=>pure res) _ _ _;refine BJ<|q8k f ?_;refine BJ<|q8t h n λl m r=>?_;unfold addrOf;refine BJ<|BK<|BJ<|CJ ?_;have i:aA U w l a za:=f.keep<|m a;refine gv (s:={s with heap:=l}) i r (Bw f.lt) (by omega) λt d u p v x=>?_;refine BK<|BK ⟨_,rfl,by simp,k t d _ (λc o e=>?_) x λy=>?_⟩
 ·rw[v.2 c<|Bw<|Av e];exact m c o e
 ·rw[Qx u zb h.nodup (p.nodup_iff.mpr f.nodup) y];simp only[p.mem_iff]
end
def made(zs:Ð):Ð:=zs.foldl added []
def HK(zs:Ð)(z y:Str):y∈added zs z↔y∈zs\/y=z:=by
 unfold added
 split
 ·rename_i h;exact⟨.inl,λq=>q.elim id λe=>e ▸ h⟩
 ·rw[Am,Ad]
def Kn(zs:Ð)(z:Str):(added zs z).length<=zs.length+1:=by
 unfold added
 split<;>simp
theorem Qz:∀(ps zs:Ð)(y:Str),y∈ps.foldl added zs↔y∈zs\/y∈ps
 |[],zs,y=>by simp
 |p :: r,zs,y=>by
  rw[Dh,Qz r,HK,Ai]
  constructor
  ·rintro ((h|h)|h)
   ·exact .inl h
   ·exact .inr<|.inl h
   ·exact .inr<|.inr h
  ·rintro (h|h|h)
   ·exact .inl<|.inl h
   ·exact .inl<|.inr h
   ·exact .inr h
theorem QA:∀(ps zs:Ð),(ps.foldl added zs).length<=zs.length+ps.length
 |[],zs=>by simp
 |p :: r,zs=>by
  rw[Dh,As];have a:=QA r<|added zs p;have b:=Kn zs p;omega
def l0(zs:Ð)(y:Str):y∈made zs↔y∈zs:=by
 unfold made;rw[Qz];simp
def HL(zs:Ð):(made zs).length<=zs.length:=by
 have:=QA zs []
 simpa[made]using this
variable{P:Nat->Value->Prop}{G:Array GenState->Array GenState->Prop}{items:Array Value}
section
def gI(w:World):Obj:={cls:= .type "set",dict:=none,data:= .set #[] 0 (.fresh 0 0 (!cU w))}
def HM(e:h.get? a=some (gI w)):aA U w h a []:=⟨_,_,_,_,e,⟨rfl,rfl,rfl⟩,rfl,fq.tab ⟨rfl,rfl,rfl,rfl⟩⟩
def BS(v:Value)(k:Q (.ref s.heap.objs.size) {s with heap:=s.heap.push (gI w)}):
  codeAny (model U w) A (.call (.builtin "set.__new__") ⟨[.type "set",v],[]⟩) (wants Q E) s:=by
 refine KJ ?_;show wpAny _ A.in1 (checkBuiltinCall "set.__new__" ⟨[.type "set",v],[]⟩ >>= λ_=>again<|.builtin "set.__new__" ⟨[.type "set",v],[]⟩) _ _ s;refine BJ<|JF (F.newCall_set_1 v)<|BK ⟨JH F.plain_set_new _,FT F.entry_set_new ?_⟩;rw[FP F.plain_set_new _];unfold Builtin.«set.__new__» newClass
 dsimp only
 refine BJ<|BJ<|JF (show isType (.type "set")=pure true from rfl)<|BK ?_;simp only[Dm,Aq,CP];unfold newSet;refine BJ<|BJ<|wp_text ?_
 dsimp only
 simp only[newObj];exact BJ<|QL<|BK<|BK k
variable{R:Result->Shared->Prop}{I:Addr}{fp wr:(List Addr)}{St:Nat->Shared->Prop}
theorem iN(W:WalksS U w A.in1 I fp wr G n P St)(a:Addr)(j:a∉fp)(zs:Ð)(T:zs.length=n)(x:∀i v,P i v->∃z t,zs[i]?=some z/\v=Value.str z t)(l:n<900):
  ∀k i s,n-i=k->i<=n->St i s->aA U w s.heap a (made<|zs.take i)->(∀s',Moved (a :: wr) G s s'->aA U w s'.heap a (made zs)->R (.ok<|.ret .none) s') ->
   codeAny (model U w) A (.builtin "set.update.loop" ⟨[.ref a,.ref I],[]⟩) R s:=by
 have p:=λh=>j<|W.sub _ h;have q:∀b∈wr,b∈a :: wr:=λb l=>Af _ l;intro k
 induction k with
 |zero=>
  intro i s y B st S d;have e:i=n:=(by omega)
  subst e;refine FT KY ?_;rw[FP IV _];show wpAny _ A.in1 (pyNext (.ref I) >>= _) _ _ s;refine BJ<|W.done s _ _ st λs' m=>?_;show wpAny _ A.in1 (ret Value.none) _ _ s';rw[Cs<|(by omega)]at S;exact BK<|d s' (m.mono q)<|S.keep λo e=>m.heap a o p e
 |succ k C=>
  intro i s y B st S d;have r:i<n:=(by omega)
  refine FT KY ?_;rw[FP IV _];show wpAny _ A.in1 (pyNext (.ref I) >>= _) _ _ s;refine BJ<|W.item i s _ _ r st λv s' D E m=>?_;obtain⟨z,t,H,rfl⟩:=x i v D;have J:=S.keep λo e=>m.heap a o p e;show wpAny _ A.in1 (holding [Value.str z t] (setAdd a<|.str z t) >>= _) _ _ s';refine BJ<|CJ ?_;unfold setAdd;refine CJ<|BJ<|(strKind U w).pyHash (PX _ _ _ _) ?_;have Y:(made<|zs.take i).length<=i:=Ch (HL _) (by rw[Br];omega);refine Hx (s:={s' with toks:=s'.toks+1}) J (by omega) λb L u S2=>?_;have M:aA U w L a (made<|zs.take<|i+1):=by
   rw[Cj,H];unfold made;rwa[List.foldl_append]
  refine BK ⟨JH IV _,C (i+1) _ (by omega) r (W.frame _ s' _ _ E (Es _) λc f o e=>?_) M λN O Q=>?_⟩
  ·rwa[u.2 c λh=>j<|h ▸ f]
  ·refine d N (Moved.trans W.gtrans ((m.mono q).then_heap (Es _) λc o f e=>?_) O) Q;rwa[u.2 c λh=>f<|h ▸ Ae]
theorem Ln{l:Addr}(G:A.handled=none)(H:s.heap.IsList l items)(I:∀(i:Nat)v,items[i]?=some v->∃z t,zs[i]?=some z/\v=Value.str z t)(J:zs.length=items.size)(a:items.size<900)
  (k:∀ h' tk,(∀ b o,s.heap.get? b=some o->h'.get? b=some o)->aA U w h' s.heap.objs.size (made zs)->Q (.ref s.heap.objs.size) {s with heap:=h',toks:=tk}):(ba U w A) (call (.type "set") [.ref l]) Q E s:=by
 obtain⟨c,tl,HP⟩:=F.called_set.mro;have vL:=F.called_set.made;have nn:=F.called_set.sub;refine wpAny_call<|KJ ?_;show wpAny _ _ (callAny (.type "set") _) _ _ _;refine BK ⟨Code.quiet_builtin _ (by decide +kernel),FT F.entry_type_call ?_⟩;rw[Around.under_plain (weight_type_call_type "set" [.ref l] []) rfl];have h1:=F.called_set.notType;have h2:=F.called_set.canCreate;have h3:=F.typeCall_set_1<|.ref l
 repeat (any_goals (first|assumption|wp_step))
 refine JQ (BS (.ref l) (E:=E) (Q:=λv u=>v=.ref s.heap.objs.size/\u={s with heap:=s.heap.push (gI w)}) ⟨rfl,rfl⟩) λr u d=>?_;cases r with
 |error e=>exact d
 |ok fl=>
  cases fl with
  |ret v=>
   obtain⟨rfl,rfl⟩:=d;have f:(s.heap.push<|gI w).get? s.heap.objs.size=some (gI w):=At _ rfl;have L:Shared.TypeIs {s with heap:=s.heap.push (gI w)} (.ref s.heap.objs.size) "set":=⟨_,f,rfl⟩;have oV:=F.called_set.init.lookup;have HQ:=F.called_set.init.bind<|.ref s.heap.objs.size
   repeat (any_goals (first|assumption|wp_step))
   refine JQ (codeAny_call_builtin (R:=wants (λr M=>r=.none/\∃h' tk,M={s with heap:=h',toks:=tk}/\(∀b o,s.heap.get? b=some o->h'.get? b=some o)/\aA U w h' s.heap.objs.size (made zs)) E) F.called_set.init.plain F.entry_set_init<|check_set_init_1 L ?_) λN s2 j=>?_
   ·obtain⟨ol,x,y,nl,B⟩:=H;obtain⟨O,T,QH,Y⟩:=ol;simp only at y B;subst y B;have HR:(s.heap.push<|gI w).get? l=some {cls:= .type "list",dict:=T,data:= .seq items nl,slots:=Y}:=Aj _ x;have n1:=F.sub_list_set;have n2:=F.sub_list_frozenset;have n3:(Value.type "list" == Value.type "dict")=false:=(by decide)
    have C:(s.heap.push<|gI w).IsList l items:=⟨_,HR,rfl,nl,rfl⟩;have HU:(s.heap.push<|gI w).get? s.heap.objs.size=some {cls:= .type "set",dict:=none,data:= .set #[] 0 (.fresh 0 0 (!cU w))}:=f;unfold Builtin.«set.__init__» noKeywords updateFrom;generalize n:pyIter=PI
    wp_walk
    subst n;refine RJ C ?_;refine BJ<|wpAny_runValue ?_;have D:l<s.heap.objs.size:=Av x;have bD:l≠(s.heap.push<|gI w).objs.size:=by
     rw[Di];exact Bw<|Ci D
    have p:s.heap.objs.size∉[(s.heap.push<|gI w).objs.size,l]:=by
     rw[Di];intro h
     obtain h|h:=Ai.mp h
     ·exact absurd h<|Bw<|Gz _
     ·rw[Ad]at h;exact absurd h<|Cz D
    refine iN ((Walks.list (by simp[G]) _ l bD items).toS) s.heap.objs.size p zs J (λi v hv=>I i v hv) a (items.size-0) 0 _ (by omega) (Bx _)
     ⟨⟨_,At _ rfl,rfl,rfl⟩,(C.push _)⟩ ?_ λs' m S'=>?_
    ·exact HM<|Aj _ f
    ·obtain⟨h',g',d',zE,cA⟩:=s';have eg:g'=s.gens:=m.gens;have ed:d'=s.drawn:=m.drawn;have eo:cA=s.os:=m.os;subst eg ed eo;refine BK ?_;refine BK ⟨rfl,h',zE,rfl,λb o e=>?_,S'⟩;have a:=Av e;refine m.heap b o (λh=>?_)<|Aj _<|Aj _ e;rw[Di]at h
     obtain h|h:=Ai.mp h
     ·exact absurd h<|Bw a
     ·rw[Ad]at h;exact absurd h<|Bw<|Ci a
   ·cases N with
    |error e=>exact j
    |ok q=>
     cases q with
     |ret r=>
      obtain⟨rfl,h',tk,rfl,q1,q2⟩:=j
      repeat (any_goals (first|assumption|wp_step))
      exact k _ _ q1 q2
     |_=>exact j.elim
  |_=>exact d.elim
end
def gt:Slot "set_iterator" "__next__" "set_iterator.__next__":=
 .of (owner:= "set_iterator") (n:= "__next__") (by rw[SX,OJ];kernel_rfl) (by decide +kernel) (by decide +kernel) (by decide +kernel)
  (by first|exact .inl (by decide +kernel)|exact .inr<|by decide +kernel) (by rw[isSubtype_type];kernel_rfl)
def vc:entryFor table "set_iterator.__next__" = some Builtin.«set_iterator.__next__»:=entryFor_of_fast<|by kernel_rfl
def args_next(a:Value):argsOk "set_iterator.__next__" ⟨[a],[]⟩:=by unfold argsOk;kernel_rfl
def Zs:entryFor table "set.__iter__" = some Builtin.«frozenset.__iter__»:=
 QG (id':= "frozenset.__iter__") (by kernel_rfl) rfl (by decide +kernel) (by kernel_rfl)
def l9(first:Value)(i:Nat)(a:Addr)(n ep:Nat):Obj:={cls:= .type "set_iterator",data:= .fields #[first,.int i 0,.ref a,.int n 0,.int ep 0]}
def gg(ys:List Nat):Obj:={cls:= .type "tuple",data:= .seq (ys.map λ(i:Nat)=>rawInt i).toArray}
inductive Way(w:World)(h:Heap)(a tp:Addr)(es:Array<|Int×Value)(ep:Nat)(t:SetTable)(ws:List<|Int×Value)(i:Nat):Value->Prop where
 |drawn (ys:List Nat) (ht:h.get? tp=some (gg ys)) (hl:ys.length=es.size) (hw:∀j:Nat,∀y,ys[j]?=some y->es[y]?=ws[j]?):Way w h a tp es ep t ws i<|.ref tp
 |text (c:Int) (hb:cU w=true) (hw:ws=(pickOrder (w.params.setOrder a ep) es).toList):Way w h a tp es ep t ws i<|.int c 0
 |one (c:Nat) (hb:cU w=false) (hs:es.size<=1) (hw:ws=es.toList) (hc:SetTable.below t.place c=i):Way w h a tp es ep t ws i<|.int c 0
variable{first:Value}{ws:List (Int×Value)}{p:Array Nat}
section
variable{tp it:Addr}{t:SetTable}
def QI(j c:Nat):SetTable.below #[j] c=if j<c then 1 else 0:=by
 unfold SetTable.below;show SetTable.below.go #[j] c 1 0 1=_;unfold SetTable.below.go;simp only[Nat.zero_lt_one,CZ];show(if(#[j]:Array Nat).getD 0 c<c then SetTable.below.go #[j] c 0 1 1 else SetTable.below.go #[j] c 0 0 0)=_;rw[show(#[j]:Array Nat).getD 0 c=j by rfl]
 split<;>rfl
theorem Way.keep{h':Heap}(W:Way w h a tp es ep t ws i first)(k:∀o,h.get? tp=some o->h'.get? tp=some o):Way w h' a tp es ep t ws i first:=by
 cases W with
 |drawn e f j b=>exact .drawn e (k _ f) j b
 |text c d b=>exact .text c d b
 |one c d l b m=>exact .one c d l b m
def vO(x:Value)(e:h.get? it=some (l9 first i a n ep)):(h.update it (Obj.mapFields (·.setIfInBounds 0 x))).get? it=some (l9 x i a n ep):=Dd _ e rfl
def BB(e:h.get? it=some (l9 first i a n ep)):(h.update it (Obj.mapFields (·.setIfInBounds 1 (rawInt<|(i:Int)+1)))).get? it=some (l9 first (i+1) a n ep):=Dd _ e rfl
theorem QN(h:p.size=1):∃j,p=#[j]:=by
 obtain⟨l⟩:=p
 match l,h with
 |[j],_=>exact⟨j,rfl⟩
def QO(T:mT U w es t zs):t.place.size=es.size:=by
 have:=T.fits;unfold SetTable.fits at this;rw[Cb,HY]at this;exact this.1
theorem LO{Q:Option Value->Shared->Prop}(b:s.heap.get? it=some (l9 first i a es.size ep))(l:s.heap.get? a=some o)(hd:o.data=.set es ep t)(T:mT U w es t zs)(H:Way w s.heap a tp es ep t ws i first)
  (I:tp≠it) (J:ws.Perm es.toList)  (u:ws[i]?=some e) (k:∀h' v,Heap.SameBut it s.heap h'->h'.get? it=some (l9 v (i+1) a es.size ep)->Way w h' a tp es ep t ws (i+1) v->Q (some e.2) {s with heap:=h'}):
  (ba U w A) (pyNext<|.ref it) Q E s:=by
 have z:s.TypeIs (.ref it) "set_iterator":=⟨_,b,rfl⟩;unfold pyNext;refine BJ<|NK<|JG (name:=Str.ofString "__next__") z gt<|DG gt z vc ?_<|args_next _;unfold Builtin.«set_iterator.__next__»;refine BJ<|BK<|BJ<|QJ b rfl ?_
 dsimp only
 refine BJ<|KD l hd T.fits ?_;rw[BL<|by simp];have B:∀x,Heap.SameBut it s.heap ((s.heap.update it (Obj.mapFields (·.setIfInBounds 0 x))).update it (Obj.mapFields (·.setIfInBounds 1 (rawInt<|(i:Int)+1)))):=λx=>(CT ..).trans<|CT ..;have me:i<es.size:=by
  have h1:ws.length=es.size:=by simpa using J.length_eq
  obtain h|h:=Da i ws.length
  ·omega
  ·rw[Bg h]at u;cases u
 have C:Heap.SameBut it s.heap (s.heap.update it (Obj.mapFields (·.setIfInBounds 1 (rawInt<|(i:Int)+1)))):=CT ..;cases H with
 |drawn m L M d=>
  dsimp only
  have p:m[i]?=some (m[i]'(by omega)):=Ab _;generalize m[i]'(by omega)=y at p;refine BJ<|KZ L rfl ?_
  dsimp only
  have n:(m.map λ(i:Nat)=>rawInt i).toArray[(i:Int).toNat]?=some (.int y 0):=by
   rw[Bk,UG,Ah,p];rfl
  rw[n]
  dsimp only
  unfold setNextDrawn;refine BJ<|BJ<|CG l hd T.fits ?_
  dsimp only
  rw[BL<|by simp];have q:es[(y:Int).toNat]?=some e:=by
   rwa[Bk,d i y p]
  rw[q]
  dsimp only
  refine BK (BJ<|DW b rfl (by simp) ?_);refine BK ⟨_,rfl,BK<|k _ _ C (BB b)<|.drawn m ?_ M d⟩;rwa[C.2 tp I]
 |text c f d=>
  dsimp only
  unfold setNext;refine BJ<|BJ<|CG l hd T.fits ?_
  dsimp only
  refine BJ<|wp_text ?_;rw[f];simp only[CZ];rw[BL<|by simp];unfold setWalk;refine BJ<|BJ<|CG l hd T.fits ?_
  dsimp only
  refine BJ<|wp_text ?_;rw[f];simp only[CZ];refine BJ<|JX ?_;refine BK ?_;have n:(pickOrder ((model U w).w.params.setOrder a ep) es)[(i:Int).toNat]?=some e:=by
   rw[Bk,<-Bj];show(pickOrder (w.params.setOrder a ep) es).toList[i]?=_;rwa[<-d]
  rw[n];refine BK ?_
  dsimp only[Option.map]
  refine BJ (DW b rfl (by simp) ?_);refine BJ (DW (vO _ b) rfl (by simp) ?_);exact BK ⟨_,rfl,BK<|k _ _ (B _) (BB<|vO _ b)<|.text _ f d⟩
 |one c f N d O=>
  have r:i=0:=(by omega)
  have D:es.size=1:=(by omega)
  subst r;have Y:t.place.size=1:=(QO T).trans D;obtain⟨j,G⟩:=QN Y
  dsimp only
  unfold setNext;refine BJ<|BJ<|CG l hd T.fits ?_
  dsimp only
  refine BJ<|wp_text ?_;rw[f];simp only[Aq,CP];show wpAny _ _ (if(!t.plain && decide (es.size>1))=true then _ else _) _ _ _;rw[BL<|by rw[D];simp];refine BJ ?_;show wpAny _ _ (if(!t.led && !es.isEmpty)=true then _ else _) _ _ _;rw[BL<|by rw[T.led,f];simp];refine BK ?_;rw[Bk,O];have n:es[0]?=some e:=by
   rwa[<-Bj,<-d]
  have q:t.place[0]?=some j:=by rw[G];rfl
  rw[n,q];refine BK ?_
  dsimp only
  refine BJ (DW b rfl (by simp) ?_);refine BJ (DW (vO _ b) rfl (by simp) ?_);refine BK ⟨_,rfl,BK<|k _ _ (B _) (BB<|vO _ b)<|.one (j+1) f N d ?_⟩;rw[G,QI,BP<|Gz _]
theorem Jh{Q:Option Value->Shared->Prop}(q:A.handled=none)(d:s.heap.get? it=some (l9 first i a es.size ep))(j:s.heap.get? a=some o)(hd:o.data=.set es ep t)(T:mT U w es t zs)(r:Way w s.heap a tp es ep t ws i first)
  (u:ws.Perm es.toList) (D:i=es.size) (k:∀h',Heap.ExtBut it s.heap h'->Q none {s with heap:=h'}):
  (ba U w A) (pyNext<|.ref it) Q E s:=by
 have p:s.TypeIs (.ref it) "set_iterator":=⟨_,d,rfl⟩;have G:ws.length=es.size:=by simpa using u.length_eq
 unfold pyNext;refine BJ<|NK<|JG (name:=Str.ofString "__next__") p gt<|DG gt p vc ?_<|args_next _;unfold Builtin.«set_iterator.__next__»;refine BJ<|BK<|BJ<|QJ d rfl ?_
 dsimp only
 refine BJ<|KD j hd T.fits ?_;rw[BL<|by simp];have fin:∀ l:Heap,Heap.SameBut it s.heap l->wpAny (model U w) A.in1 (newExc (Value.type "StopIteration") [] >>= λx=>(raiseNew x:Sem Fin)) (λfin m=>∃v,fin=Fin.done (Flow.ret v)/\(ba U w A) (pure<|some v) Q E m)
   (λe m=>(ba U w A) (isInstance e (Value.type "StopIteration") >>= λb=>if b=true then pure none else throw e) Q E m) {s with heap:=l}:=by
  intro l y;refine BJ ?_;simp only[newExc,newTuple];refine BJ (DN ?_<|by size_fits);refine BJ (JF (by first | rfl | (simp only[firstArgMember];rfl)) ?_);refine DN ?_ (by size_fits);simp only[raiseNew];refine BJ<|wpAny_handled ?_;rw[show A.in1.handled=none from q];refine BJ<|BK<|wpAny_throw ?_;refine BJ<|JZ (T:= "StopIteration") (b:=true) ⟨_,At _ rfl,rfl⟩ isSubtype_stop ?_;exact BK<|k _<|(y.extBut.push _).push _
 cases r with
 |drawn z B H n=>
  dsimp only
  refine BJ<|KZ B rfl ?_
  dsimp only
  have f:(z.map λ(i:Nat)=>rawInt i).toArray[(i:Int).toNat]?=none:=by
   rw[Bk,UG,Bg];rw[Aa];omega
  rw[f]
  dsimp only
  refine BJ (DW d rfl (by simp) ?_);refine BJ (DW (vO _ d) rfl (by simp) ?_);exact fin _<|(CT ..).trans<|CT ..
 |text c h n=>
  dsimp only
  unfold setNext;refine BJ<|BJ<|CG j hd T.fits ?_
  dsimp only
  refine BJ<|wp_text ?_;rw[h];simp only[CZ];rw[BL<|by simp];unfold setWalk;refine BJ<|BJ<|CG j hd T.fits ?_
  dsimp only
  refine BJ<|wp_text ?_;rw[h];simp only[CZ];refine BJ<|JX ?_;refine BK ?_;have f:(pickOrder ((model U w).w.params.setOrder a ep) es)[(i:Int).toNat]?=none:=by
   rw[Bk,<-Bj];show(pickOrder (w.params.setOrder a ep) es).toList[i]?=_;rw[<-n,Bg];omega
  rw[f];refine BK ?_
  dsimp only[Option.map]
  refine BJ (DW d rfl (by simp) ?_);exact fin _<|CT ..
 |one c h I n C=>
  dsimp only
  unfold setNext;refine BJ<|BJ<|CG j hd T.fits ?_
  dsimp only
  refine BJ<|wp_text ?_;rw[h];simp only[Aq,CP];show wpAny _ _ (if(!t.plain && decide (es.size>1))=true then _ else _) _ _ _;rw[BL<|by rw[BR<|(by omega)];simp];refine BJ ?_;show wpAny _ _ (if(!t.led && !es.isEmpty)=true then _ else _) _ _ _;rw[BL<|by rw[T.led,h];simp];refine BK ?_;rw[Bk,C];have f:es[i]?=none:=Dv (by omega);rw[f];refine BK ?_
  dsimp only
  refine BJ (DW d rfl (by simp) ?_);exact fin _<|CT ..
open PySem.Spec
def QR:Slot "set_iterator" "__iter__" "set_iterator.__iter__":=
 .of (owner:= "set_iterator") (n:= "__iter__") (by rw[SX,OJ];kernel_rfl) (by decide +kernel) (by decide +kernel) (by decide +kernel)
  (by first|exact .inl (by decide +kernel)|exact .inr<|by decide +kernel) (by rw[isSubtype_type];kernel_rfl)
def xG:entryFor table "set_iterator.__iter__" = some Builtin.«dict_keyiterator.__iter__»:=
 QG (id':= "dict_keyiterator.__iter__") (by kernel_rfl) rfl (by decide +kernel) (by kernel_rfl)
def k63(a:Value):argsOk "set_iterator.__iter__" ⟨[a],[]⟩:=by unfold argsOk;kernel_rfl
theorem pE(hh:A.handled=none)(h1:a≠it)(h2:tp≠it)(hd:o.data=.set es ep t)(T:mT U w es t zs)(hp:ws.Perm es.toList):
  Walks U w A it [it,a,tp] [it] es.size (λi v=>∃e,ws[i]?=some e/\v=e.2) (λi h=>∃first,h.get? it=some (l9 first i a es.size ep)/\h.get? a=some o/\Way w h a tp es ep t ws i first) where
 sub:=λb hb=>by simp at hb;simp[hb]
 frame:=λi h h'⟨first,q1,q2,q3⟩k=>⟨first,k it (by simp) _ q1,k a (by simp) _ q2,q3.keep<|k tp<|by simp⟩
 item:=λi s Q E hi⟨first,q1,q2,q3⟩k=>by
  have wl:ws.length=es.size:=by simpa using hp.length_eq
  obtain⟨e,he⟩:∃e,ws[i]?=some e:=⟨ws[i]'(by omega),Ab _⟩;refine LO q1 q2 hd T q3 h2 hp he λh' f' sb g1 g2=>?_;exact k _ h' s.toks ⟨e,he,rfl⟩ ⟨f',g1,by rwa[sb.2 a h1],g2⟩ λb o hb e=>by rwa[sb.2 b λh=>hb<|by simp[h]]
 done:=λs Q E⟨first,q1,q2,q3⟩k=>Jh hh q1 q2 hd T q3 hp rfl λh' e=>k h' s.toks λb o hb e2=>e b o (λh=>hb<|by simp[h]) e2
 self:=λi s Q E⟨first,q1,q2,q3⟩k=>by
  have hT:s.TypeIs (.ref it) "set_iterator":=⟨_,q1,rfl⟩;refine LK hT QR<|DG QR hT xG ?_<|k63 _;show wpAny _ _ (ret<|.ref it) _ _ s;exact BK ⟨_,rfl,"set_iterator",_,hT,gt.lookup,k⟩
def IS(es:Array<|Int×Value):(range es.size).map (λy=>(es[y]?).getD (0,Value.none))=es.toList:=by
 refine RP (by simp) λj b a=>?_;rw[Ed,Fi];have:j<es.size:=by simpa using a
 rw[Ce this];simp
theorem q9f(i:s.heap.get? a=some o)(z:o.ExactSet)(hd:o.data=.set es ep t)(T:mT U w es t zs)
  (k:∀h' d it tp ws first,(∀b u,s.heap.get? b=some u->h'.get? b=some u)->s.heap.objs.size<=it->it<h'.objs.size->tp<h'.objs.size->(tp=a\/s.heap.objs.size<=tp)->tp≠it->h'.get? it=some (l9 first 0 a es.size ep)->Way w h' a tp es ep t ws 0 first->ws.Perm es.toList->Q (.ref it) {s with heap:=h',drawn:=d}):
  (ba U w A) (pyIter<|.ref a) Q E s:=by
 have m:s.TypeIs (.ref a) "set":=⟨o,i,z.1⟩;have n:a<s.heap.objs.size:=Av i;refine LK m F.slot_set_iter<|DG F.slot_set_iter m Zs ?_<|F.args_set_iter_1 _;unfold Builtin.«frozenset.__iter__» slot0 slotArgs;simp only[Fd,Dm,Aq,↓reduceIte,bind_assoc,Er,HD];unfold addrOf Builtin.Frozenset.sizeOf;refine BJ<|BK<|BJ<|BK ?_;refine BJ<|BJ<|KD i hd T.fits<|BK ?_;unfold setDrawn;refine BJ<|BJ<|CG i hd T.fits ?_
 dsimp only
 refine BJ<|wp_text<|BK ?_
 by_cases c:(!cU w && (!t.plain && decide (es.size>1)))=true
 ·show wpAny _ _ (if(!cU w && (!t.plain && decide (es.size>1)))=true then _ else _) _ _ _;rw[BP c];refine BJ (Hy _ _ _ _ (by simp) λf d p=>?_);have r:f.length=es.size:=by simpa using p.length_eq
  refine BJ (QK ?_<|by rw[Aa,r];exact jJ<|Ci T.ga);have B:(s.heap.push<|gg f).get? a=some o:=Aj _ i;refine BJ<|LC (s:={s with heap:=s.heap.push<|gg f,drawn:=d}) B hd T.fits ?_;refine BJ<|DN<|BK ⟨_,rfl,"set_iterator",_,⟨_,At _ rfl,rfl⟩,gt.lookup,?_⟩;have C:(s.heap.push<|gg f).objs.size=s.heap.objs.size+1:=Di ..;refine k _ d _ s.heap.objs.size (f.map λy=>(es[y]?).getD (0,Value.none)) (.ref s.heap.objs.size) (λb u e=>Aj _<|Aj _ e) (by show s.heap.objs.size<=(s.heap.push<|gg f).objs.size;omega) ?_ ?_ (.inr<|An _) ?_ (At _ rfl) ?_ ?_
  ·show(s.heap.push<|gg f).objs.size<((s.heap.push<|gg f).push _).objs.size;simp only[Di];omega
  ·show s.heap.objs.size<((s.heap.push<|gg f).push _).objs.size;rw[Di,C];omega
  ·show s.heap.objs.size≠(s.heap.push<|gg f).objs.size;omega
  ·refine .drawn f (Aj _<|At _ rfl) r λj y v=>?_;have D:y<es.size:=by
    have:=p.mem_iff.mp<|Ao v
    simpa using this
   rw[Ah,v];show _=some ((es[y]?).getD (0,Value.none));rw[Ce D];rfl
  ·have:=p.map λy=>(es[y]?).getD (0,Value.none);rwa[IS]at this
 ·show wpAny _ _ (if(!cU w && (!t.plain && decide (es.size>1)))=true then _ else _) _ _ _;rw[BL c];refine BJ<|BK ?_;refine BJ<|LC i hd T.fits ?_;refine BJ<|DN<|BK ⟨_,rfl,"set_iterator",_,⟨_,At _ rfl,rfl⟩,gt.lookup,?_⟩;have x:=λws G H=>k (s.heap.push<|l9 (.int 0 0) 0 a es.size ep) s.drawn s.heap.objs.size a ws (.int 0 0) (λb u e=>Aj _ e) (An _) (by rw[Di];exact Gz _) (by rw[Di];exact Ci n) (.inl rfl) (Bw n) (At _ rfl) G H;cases l:cU w with
  |true=>exact x _ (.text 0 l rfl)<|Qv _ _
  |false=>
   have I:es.size<=1:=by
    obtain q|q:=T.plain
    ·rw[q];simp
    ·rw[l,q]at c;simp at c;exact c
   refine x es.toList (.one 0 l I rfl ?_)<|List.Perm.refl _;have L:=QO T
   obtain h|h:=Da es.size 1
   ·have:t.place=#[]:=Array.eq_empty_of_size_eq_zero (by omega);rw[this];rfl
   ·obtain⟨j,J⟩:=QN (p:=t.place) (by omega);rw[J,QI,BL<|Dj _]
def cy:typeLookup (.type "set") "__len__" = pure (some<|.builtin "set.__len__"):=F.slot_set_len.lookup
def q87{Q:Bool->Shared->Prop}(b:s.TypeIs (.ref a) "set")(k:Q false s):(ba U w A) (Builtin.List.listLengthHint<|.ref a) Q E s:=by
 unfold Builtin.List.listLengthHint;refine BJ<|KH b cy ?_
 dsimp only
 have c:splitId "set.__len__" = some ("set","__len__"):=by kernel_rfl
 rw[c]
 dsimp only
 refine BJ<|JZ b sub_set_self ?_;simp only[Dm,Aq,CP];rw[BP]
 ·exact BJ<|JR b<|BK k
 ·decide +kernel
def g9{Q:Ò->Shared->Prop}(hh:A.handled=none)(I:s.heap.get? a=some o)(y:o.ExactSet)(hd:o.data=.set es ep t)(T:mT U w es t zs)
  (k:∀s'(acc:List<|Int×Value),(∀b u,s.heap.get? b=some u->s'.heap.get? b=some u)->s'.gens=s.gens->s'.os=s.os->s.heap.objs.size<s'.heap.objs.size->acc.Perm es.toList->Q (acc.map (·.2)) s'):(ba U w A) (collect<|.ref a) Q E s:=by
 have z:a < s.heap.objs.size:=Av I;unfold collect;refine BJ<|wpAny_runValue<|FT F.entry_proto_collect ?_;rw[FP F.plain_proto_collect _];show wpAny _ A.in1 (newList [] >>= λl=>again<|.builtin "list.__iadd__" ⟨[l,.ref a],[]⟩) _ _ s;refine BJ<|KC ?_;refine BK ⟨JH F.plain_list_iadd _,FT F.entry_list_iadd ?_⟩;rw[FP F.plain_list_iadd _];generalize f:s.heap.objs.size=L;have B:(s.heap.push {cls:= .type "list",data:= .seq ([]:Ò).toArray}).get? a=some o:=Aj _ I;have C:(s.heap.push {cls:= .type "list",data:= .seq ([]:Ò).toArray}).get? L=some {cls:= .type "list",data:= .seq ([]:Ò).toArray}:=by rw[<-f];exact At _ rfl
 have hT:Shared.TypeIs {s with heap:=s.heap.push {cls:= .type "list",data:= .seq ([]:Ò).toArray}} (.ref a) "set":=⟨o,B,y.1⟩;show wpAny _ A.in1 (Builtin.List.listExtendWith (.ref L) (.ref a)<|.ref L) _ _ _;unfold Builtin.List.listExtendWith;refine BJ<|JR hT ?_;have n1:Builtin.List.listSameRef (.ref L) (.ref a)=false:=by
  have:L≠a:=by rw[<-f];exact Cz z
  simp[Builtin.List.listSameRef,this]
 have n2:(Value.type "set" == Value.type "list")=false:=(by decide)
 have n3:(Value.type "set" == Value.type "tuple")=false:=(by decide)
 simp only[n1,n2,n3,Bool.or_false,Aq,CP];refine BJ<|q9f B y hd T λn d it tp ws first D HV Õ mh tL bD gi W p=>?_;have J:=D a o B;have M:=D L _ C;have x:(s.heap.push {cls:= .type "list",data:= .seq ([]:Ò).toArray}).objs.size=L+1:=by rw[Di,f]
 refine BJ<|CJ<|q87 (a:=a) (s:={s with heap:=n,drawn:=d}) ⟨o,J,y.1⟩ ?_;show wpAny _ A.in1 (rule "list.extend.makes-room" >>= λ_=>Builtin.List.listTouch (.ref L) >>= λ_=>again<|.builtin "list.extend.loop" ⟨[.ref L,.ref it,.ref L],[]⟩) _ _ _;refine BJ<|HX ?_;refine BJ ?_;show wpAny _ A.in1 (updateSeq L (·.push .none) >>= λ_=>updateSeq L (·.pop)) _ _ _;refine BJ<|wpAny_updateSeq M rfl ?_;have N:=Dd (Obj.mapSeq (·.push Value.none)) M rfl;refine wpAny_updateSeq N rfl ?_;have G:=Dd (Obj.mapSeq (·.pop)) N rfl;have aI:∀b u,b≠L->n.get? b=some u->((n.update L (Obj.mapSeq (·.push Value.none))).update L (Obj.mapSeq (·.pop))).get? b=some u:=
  λb u r e=>(Cm _ _<|CK r).trans<|(Cm _ _<|CK r).trans e
 have O:it≠L:=by
  have i:L+1<=it:=by rwa[<-x]
  exact Cz i
 have Y:a≠L:=by rw[<-f];exact Bw z
 have H:a≠it:=by
  have i:L+1<=it:=by rwa[<-x]
  intro e;rw[<-f,<-e]at i;exact absurd i<|Nat.not_le.mpr<|Ci z
 have Q1:tp≠L:=by
  obtain h|h:=tL
  ·rwa[h]
  ·have h':L+1<=tp:=by rwa[<-x]
   exact Cz h'
 have oO:L∉[it,a,tp]:=by
  intro h
  obtain h|h:=Ai.mp h
  ·exact O h.symm
  ·obtain h|h:=Ai.mp h
   ·exact Y h.symm
   ·exact Q1 (Ad.mp h).symm
 refine BK ⟨JH F.plain_extend_loop _,codeAny_extend_loopS ((pE (by simp[hh]) H bD hd T p).toS) (jJ<|Ci T.ga) L oO (.ref L) es.size 0 _ _ _ rfl (Bx _) ⟨first,aI it _ O gi,aI a _ Y J,W.keep λu e=>aI tp u Q1 e⟩ G (ItemsOf.nil _) λs' acc c m Q2 hI=>?_⟩;show wpAny _ A (load L >>= _) _ _ s';refine BJ<|wpAny_load Q2 ?_;have wl:ws.length=es.size:=by simpa using p.length_eq
 have el:acc.toList=ws.map (·.2):=by
  refine Dy λj=>?_;rw[Bj,Ah];cases hj:acc[j]? with
  |none=>
   have:ws[j]?=none:=by
    rw[Bg];rw[wl,<-hI.1];exact Array.getElem?_eq_none_iff.mp hj
   rw[this];rfl
  |some v=>
   obtain⟨e,h1,n⟩:=hI.2 j v hj;rw[h1,n];rfl
 refine BK ?_;rw[el];refine k s' ws (λb u e=>?_) m.gens m.os (by rw[f];exact Av Q2) p;have r:b<s.heap.objs.size:=Av e;have Q3:b≠L:=by rw[<-f];exact Bw r
 have HQ:b≠it:=by
  intro q;have i:L+1<=it:=by rwa[<-x]
  rw[<-f,<-q]at i;exact absurd i<|Nat.not_le.mpr<|Ci r
 refine m.heap b u (λh=>?_)<|aI b u Q3<|D b u<|Aj _ e
 obtain h|h:=Ai.mp h
 ·exact Q3 h
 ·exact HQ<|Ad.mp h
end
end bP
namespace bP
open PySem PySem.Spec PyProof.Rows
def QE(a b:List Nat):ltCps a b=decide (a<b):=ltCps_eq a b
theorem eF:∀l p,risingS p l=true->∀x∈l,p.cps.toList<=x.cps.toList
 |[],_,_,x,a=>by cases a
 |y :: r,p,h,x,a=>by
  unfold risingS at h;rw[Cb,LQ,QE,GZ]at h;have b:=h.1
  obtain rfl|a:=Ai.mp a
  ·exact b
  ·exact List.le_trans b<|eF r y h.2 x a
theorem ft{p:Str}:∀{l},risingS p l=true->sortedS l=true
 |[],_=>rfl
 |y :: r,h=>by
  unfold risingS at h;rw[Cb]at h;exact h.2
def gj{a b:Str}(h:a.cps.toList=b.cps.toList):a=b:=by
 cases a;cases b;simp only at h;have:=Array.toList_inj.mp h;rw[this]
theorem Q4{U:Program}{w:World}:∀(l:List<|Int×Value),(∀e∈l,oS U w e)->StrsAre (l.map (·.2)) (l.map gh)
 |[],_=> .nil
 |e :: r,h=>by
  obtain⟨z,t,rfl⟩:=h e Ae;exact .cons z t<|Q4 r λx a=>h x<|Af _ a
variable{zs:Ð}{E Q:Í}{U:Program}
section
variable{w:World}{A:Around}{s:Shared}{a:Addr}
theorem eZ(x:A.handled=none)(S:aA U w s.heap a zs)(O:zs.length<64)
  (k:∀s' l out e ss,(∀ b u,s.heap.get? b=some u->s'.heap.get? b=some u)->s'.gens=s.gens->s'.os=s.os->s.heap.objs.size<=l->s'.heap.get? l=some (seqObj "list" out e)->StrsAre out.toList ss->ss.Perm zs->sortedS ss=true->Q (.ref l) s'):
  (ba U w A) (call (.builtin "sorted") [.ref a]) Q E s:=by
 obtain⟨o,Y,ep,t,y,z,hd,T⟩:=S;refine Calls.call_function_entry kind_sorted plain_sorted entry_sorted (args_sorted1 _) ?_;unfold Builtin.«sorted»;refine BJ<|BK ?_;refine BJ (g9 (by simp[x]) y z hd T λf c B g1 C D p=>?_);have m:=Q4 (w:=w) c λe h=>T.elts e<|p.mem_iff.mp h;have d:(c.map (·.2)).length=zs.length:=by
  rw[Aa,p.length_eq,Bu,T.size]
 refine BJ (KC ?_<|by rw[d];exact jJ<|(by omega));have i:(f.heap.push (seqObj "list" (c.map (·.2)).toArray 0)).get? f.heap.objs.size=some (seqObj "list" (c.map (·.2)).toArray 0):=At _ rfl;have j:s.heap.objs.size<=f.heap.objs.size:=Cy D;refine BJ (CJ<|DG slot_list_sort ⟨_,i,rfl⟩ entry_list_sort (list_sort_treeK strKind_oneLt i m.keysOf (λn Ì q e=>keyKind_strs<|by rwa[<-e]) (by rwa[d]) λG H I=>⟨_,rfl,?_⟩)<|args_list_sort _);obtain⟨ss,J,L,M⟩:=sorted_out_str m H I;obtain⟨e,h⟩:=sortedHeap_at (out:=(arrOf G).map (·.2)) i;refine BK ⟨_,rfl,k _ _ _ e ss (λb u N=>?_) g1 C j h J (L.trans<|(p.map gh).trans T.keys) M⟩;have r:=B b u N;have v:=Av r;show(sortedHeap (f.heap.push _) f.heap.objs.size _ _).get? b=some u;rw[sortedHeap_old (Bw v)<|by rw[size_push'];exact Ci v];exact Aj _ r
end
end bP
namespace L2
open PySem PySem.Spec PyProof.Rows bP
def bq(U:Program)(w:World)(a:Addr)(zs:Ð):HO:= .ext λh=>aA U w h a zs
variable{zs:Ð}{O:Ï}
section
variable{X:Cx}{σ:St}{H:Hp}{s s':Shared}{a:Addr}
def be.like(I:(be X O σ H s))(e1:s'.heap=s.heap)(e2:s'.gens=s.gens)(a:s'.os=s.os):be X O σ H s':=by
 obtain⟨h,g,d,t,o⟩:=s;obtain⟨b,c,e,f,i⟩:=s';simp only at e1 e2 a;subst e1 e2 a;exact⟨I.ok,I.os,I.bare,I.Z,I.loc,I.cell,I.free,I.cD,I.pin,I.aH,I.len⟩
def be.fH{o:HO}(I:(be X O σ H s))(k:∀b u,s.heap.get? b=some u->s'.heap.get? b=some u)(e2:s'.gens=s.gens)(c:s'.os=s.os)(d:s.heap.objs.size<=a)(new:aB X.U X.w (upd H a o) s'.heap a o):be X O σ (upd H a o) s':=
 (I.laid (t':=s.toks) k d new).like rfl e2 c
def tN{h:Heap}(S:aA X.U X.w h a zs):aB X.U X.w H h a (bq X.U X.w a zs):=by
 refine⟨S,?_,λc d q k=>q.keep k⟩;obtain⟨o,_,_,_,b,_⟩:=S;exact⟨o,b⟩
def be.set(I:(be X O σ H s))(h:H a=some (bq X.U X.w a zs)):aA X.U X.w s.heap a zs:=(I.aH a _ h).1
theorem Q5:∀{zs:Ð}{a:Ò},ay (zs.map V.str) a->∀(i:Nat)v,a[i]?=some v->∃z t,zs[i]?=some z/\v=Value.str z t
 |[],_,.nil,i,v,h=>by simp at h
 |z :: r,_,.cons q b,0,v,h=>by
  obtain⟨t,e⟩:=q;simp at h;exact⟨z,t,rfl,h ▸ e⟩
 |z :: r,_,.cons q b,i+1,v,h=>by
  simp only[Ee]at h ⊢;exact Q5 b i v h
theorem HZ:∀{zs}{a},ay (zs.map V.str) a->StrsAre a zs
 |[],_,.nil=> .nil
 |z :: r,_,.cons q b=>by
  obtain⟨t,rfl⟩:=q;exact .cons z t<|HZ b
theorem Ia:∀{a}{zs},StrsAre a zs->ay (zs.map V.str) a
 |_,_,.nil=> .nil
 |_,_,.cons z t q=> .cons ⟨t,rfl⟩<|Ia q
theorem Q6(d:X.calm=true):gR X (.type "set") (λxs H Q=>∃p zs,xs=[.ref p]/\au X.K H p (zs.map V.str)/\zs.length<900/\∀a,H a=none->Q (.ref a) (upd H a<|bq X.U X.w a<|made zs)):=by
 intro O s σ H xs o Q I r h;obtain⟨p,zs,rfl,e,t,q⟩:=h;obtain⟨u,rfl,f⟩:=ma r;cases (show u=Value.ref p from f);obtain⟨w,b,j,x⟩:=I.list e;have c:=b.length;rw[Aa]at c;refine Ln (I.ok.hd d) j.isList (λi v k=>Q5 b i v<|(by simpa using k)) (by simpa using c) (by simp;omega) λl m n S=>?_;exact⟨.ref _,_,I.fH (s':={s with heap:=l,toks:=m}) n rfl rfl (An _) (tN S),rfl,q _<|I.aH.fresh<|An _⟩
def tf:cX X (binaryOp .BitXor) (λx y H Q=>∃ a b i e,x = .ref a/\y = .ref b/\H a=some (bq X.U X.w a i)/\H b=some (bq X.U X.w b e)/\i.length < 64/\e.length < 64 /\
  ∀c f,H c=none->f.Nodup->(∀y,y∈f↔(if y∈i then y∉e else y∈e))->Q (.ref c) (upd H c<|bq X.U X.w c f)):=by
 intro O s σ H x y v u Q I j k h;obtain⟨a,b,i,e,rfl,rfl,l,n,o,p,q⟩:=h;cases j;cases k;refine rN (I.set l) (I.set n) o p λt d f r S m=>?_;exact⟨.ref _,_,I.fH r rfl rfl (An _) (tN S),rfl,q _ f (I.aH.fresh<|An _) S.nodup m⟩
theorem Q7(f:X.calm=true):gR X (.builtin "sorted") (λxs H Q=>∃p zs,xs=[.ref p]/\H p=some (bq X.U X.w p zs)/\zs.length<64/\∀l ss,H l=none->ss.Perm zs->sortedS ss=true->Q (.ref l) (upd H l<|.lst<|ss.map V.str)):=by
 intro O s σ H xs x Q I r h;obtain⟨p,zs,rfl,i,j,q⟩:=h;obtain⟨u,rfl,k⟩:=ma r;cases (show u=Value.ref p from k);refine eZ (I.ok.hd f) (I.set i) j λs' l a e ss m n o b t v c w=>?_;have d:ss.length<=sizeLine:=by rw[c.length_eq];exact jJ<|(by omega)
 refine⟨.ref _,_,I.fH m n o b (show aB X.U X.w _ s'.heap l (.lst<|ss.map V.str) from⟨by rwa[Aa],a.toList,e,Ia v,t⟩),rfl,q _ ss (I.aH.fresh b) c w⟩
theorem zG:gR X (.builtin "sorted") (λxs H Q=>∃p zs,xs=[.ref p]/\au X.K H p (zs.map V.str)/\zs.length<64/\∀l ss,H l=none->ss.Perm zs->sortedS ss=true->Q (.ref l) (upd H l<|.lst<|ss.map V.str)):=by
 intro O s σ H xs x Q I r h;obtain⟨p,zs,rfl,i,y,q⟩:=h;obtain⟨u,rfl,j⟩:=ma r;cases (show u=Value.ref p from j);obtain⟨k,c,m,z⟩:=I.list i;have n:=c.length;rw[Aa]at n;refine PyProof.Rows.sorted_strs m.isList (HZ c) (by omega) λa ss o d t=>?_;obtain⟨e,v⟩:=sortedAll_at s.heap k a;have f:ss.length<=sizeLine:=by rw[d.length_eq];exact jJ<|(by omega)
 refine⟨.ref _,_,I.fH (λb u w=>sortedAll_old w) rfl rfl (Es _) (show aB X.U X.w _ _ _ (.lst<|ss.map V.str) from⟨by rwa[Aa],a.toList,e,Ia o,v⟩),rfl,q _ ss (I.aH.fresh<|Es _) d t⟩
end
end L2
namespace L2
open PySem PySem.Spec PyProof.Rows
variable{Q:VK}{H:Hp}{σ:St}{X:Cx}
section
variable{o e:Expr}{ap cp:Pos}
def ka(h:Ev X o σ H λx b=>∃l,x=.ref l/\(∃xs,b l=some (.lst xs))/\Ev X e σ b λy c=>∃xs,c l=some (.lst xs)/\xs.length<sizeLine/\Q .non (upd c l<|.lst<|xs++[y]))
  (d:attributeBase o "append" X.env (eval o X.env)=eval o X.env:=by rfl)
  (f:((backTo cp<|starEach [e] X.env).all (λx=>!x.1) && (backToKw cp<|keywordEach [] X.env).all (λx=>x.1.isSome) && decide ([e].length+([]:List Keyword).length+(if([]:List Keyword).isEmpty then 0 else 1)<30))=true:=by rfl)
  (a:(ap.endLine == cp.line)=true:=by rfl) (i:starEach [e] X.env=(false,eval e X.env):: starEach [] X.env:=by rfl) (j:(backTo cp<|starEach [] X.env).any (·.1)=false:=by rfl) (k:f8 e=false:=by rfl):
  Ev X (.Call (.Attribute o "append" ap) [e] [] cp) σ H Q:=by
 refine dG (E5 FN PySem.F.slot_list_append PySem.F.type_list_append Pj bI (i8) d f a i j)<|h.mono λx b⟨l,m,⟨xs,n⟩,p⟩=>?_;subst m;refine⟨.inl ⟨rfl,xs,au.of n⟩,?_⟩;exact ah (p.mono λy c⟨r,s,t,q⟩=>ax ⟨l,r,y,rfl,rfl,s,t,q⟩) k
end
variable{D:wf}{m6:Ô}
section
variable{c:Expr}{body rest:Ô}{pos:Pos}
def ge.nx{M b:St->Hp->Prop}{l:Ô}(h:ge X l {D with nx:=M} σ H)(f:∀a H',M a H'->b a H'):ge X l {D with nx:=b} σ H:=
 ⟨λO s I => aO (h.run O s I) λfl d q => by
  cases fl with
  |next=>
   obtain⟨a,H',c,m⟩:=q;exact⟨a,H',c,f a H' m⟩
  |_=>exact q⟩
def Q8(b ψ:Prop)(M:St->Hp->Prop)(e:∀T:Bool->Hp->Prop,(∀k:Bool,(k=true->b)->(k=false->ψ)->T k H)->Et X c σ H T)(f:b->ge X body {D with nx:=M} σ H)(h:ψ->ge X m6 {D with nx:=M} σ H)
  (d:∀a H',M a H'->ge X rest D a H'):ge X (.If c body m6 pos :: rest) D σ H:=
 P8 b ψ e (λp=>(f p).nx d) (λp=>(h p).nx d)
end
def qG(X:Cx)(H:Hp)(k:Nat)(x y:V)(b:Bool):Prop:=∀O σ s A u v,(be X O σ H s)->A.units+k<cLine->cc x u->cc y v->SeqAt.EqAt A s u v b
def vS(X:Cx)(H:Hp)(k:Nat)(x y:V)(b:Bool):Prop:=∀O σ s A u v,(be X O σ H s)->A.units+k<cLine->cc x u->cc y v->SeqAt.RcAt A s u v b
def tO(X:Cx)(H:Hp)(k:Nat)(x y:V)(b:Bool):Prop:=∀O σ s A u v,(be X O σ H s)->A.units+k<cLine->cc x u->cc y v->SeqAt.RcNeAt A s u v (!b)
variable{us:Ò}
section
variable{k:Nat}{a b:Addr}{xs ys:List V}
def zH{x y:V}(a:kD x=true)(b:kD y=true):qG X H k x y (c6 x y):=λ_ _ _ _ _ _ _ _ c d=>O9 c d a b
theorem oW(r:ay xs us){j:Nat}(h:j<us.length):∃x,xs[j]?=some x/\cc x us[j]:=by
 have b:=r.length;have a:j<xs.length:=(by omega)
 obtain⟨u,e,q⟩:=r.get<|Ab a;rw[Ab h]at e;cases e;exact⟨_,Ab a,q⟩
theorem SV(e:Nat->Bool)(f:au X.K H a xs)(h:au X.K H b ys)(D:xs.length=ys.length)(i:∀j x y,xs[j]?=some x->ys[j]?=some y->qG X H k x y (e j)):vS X H (k+1) (.ref a) (.ref b) ((range xs.length).all e):=λO σ s A u v I E l m=>by
 cases l;cases m;obtain⟨G,c,n,_⟩:=I.list f;obtain⟨J,d,o,_⟩:=I.list h;have p:=c.length;have L:=d.length;have q:=SeqAt.RcAt.lists (A:=A) n.isList o.isList (by simp;omega) (by omega) λj r t=>by
  obtain⟨x,w,z⟩:=oW c (j:=j) (by simpa using r);obtain⟨y,B,C⟩:=oW d (j:=j) (by simpa using t);exact i j x y w B O σ s A.in1 _ _ I (by show A.units+1+k<cLine;omega) (by simpa using z)<|(by simpa using C)
 rwa[Ay,<-p]at q
theorem Ib(e:Nat->Bool)(f:au X.K H a xs)(h:au X.K H b ys)(D:xs.length=ys.length)(i:∀j x y,xs[j]?=some x->ys[j]?=some y->qG X H k x y (e j)):tO X H (k+1) (.ref a) (.ref b) ((range xs.length).all e):=λO σ s A u v I E l m=>by
 cases l;cases m;obtain⟨G,c,n,_⟩:=I.list f;obtain⟨J,d,o,_⟩:=I.list h;have p:=c.length;have L:=d.length;have q:=SeqAt.RcNeAt.lists (A:=A) n.isList o.isList (by simp;omega) (by omega) λj r t=>by
  obtain⟨x,w,z⟩:=oW c (j:=j) (by simpa using r);obtain⟨y,B,C⟩:=oW d (j:=j) (by simpa using t);exact i j x y w B O σ s A.in1 _ _ I (by show A.units+1+k<cLine;omega) (by simpa using z)<|(by simpa using C)
 rwa[Ay,<-p]at q
theorem SR(c:au X.K H a xs)(d:au X.K H b ys)(m:xs.length≠ys.length):vS X H k (.ref a) (.ref b) false:=λO σ s A u v I n e f=>by
 cases e;cases f;obtain⟨o,h,i,_⟩:=I.list c;obtain⟨p,j,l,_⟩:=I.list d;have q:=h.length;have r:=j.length;exact SeqAt.RcAt.lists_lengths i.isList l.isList (by simp;omega)<|(by omega)
theorem Ic(c:au X.K H a xs)(d:au X.K H b ys)(m:xs.length≠ys.length):tO X H k (.ref a) (.ref b) false:=λO σ s A u v I n e f=>by
 cases e;cases f;obtain⟨o,h,i,_⟩:=I.list c;obtain⟨p,j,l,_⟩:=I.list d;have q:=h.length;have r:=j.length;exact SeqAt.RcNeAt.lists_lengths i.isList l.isList (by simp;omega)<|(by omega)
theorem SA(e:Nat->Bool)(h:aQ X.K H a xs)(i:aQ X.K H b ys)(c:xs.length=ys.length)(l:∀j x y,xs[j]?=some x->ys[j]?=some y->qG X H k x y (e j)):vS X H (k+1) (.ref a) (.ref b) ((range xs.length).all e):=λO σ s A u v I G m n=>by
 cases m;cases n;obtain⟨J,d,o,_⟩:=I.tuple h;obtain⟨L,f,p,_⟩:=I.tuple i;have r:=d.length;have t:=f.length;have q:=SeqAt.RcAt.tuples (A:=A) o p (by omega) λj w z=>by
  obtain⟨x,B,C⟩:=oW d (by simpa using w);obtain⟨y,D,E⟩:=oW f (j:=j) (by simpa using z);exact l j x y B D O σ s A.in1 _ _ I (by show A.units+1+k<cLine;omega) (by simpa using C)<|(by simpa using E)
 rw[Ay,Ay,<-r,<-t,c,Nat.min_self,<-c]at q
 simpa using q
theorem Sj(e:X.A.units+100<cLine):cX X (compareOp .Eq) (λx y H Q=>∃k c,k<=100/\vS X H k x y c/\Q (.bl c) H):=by
 intro O s σ H x y v u Q I a b h;obtain⟨k,c,f,d,q⟩:=h;exact d O σ s X.A v u I (by omega) a b X.U X.w X.xe _ ⟨.bl c,H,I,rfl,q⟩
theorem tP(e:X.A.units+100<cLine):cX X (compareOp .NotEq) (λx y H Q=>∃k c,k<=100/\tO X H k x y c/\Q (.bl (!c)) H):=by
 intro O s σ H x y v u Q I a b h;obtain⟨k,c,f,d,q⟩:=h;exact d O σ s X.A v u I (by omega) a b X.U X.w X.xe _ ⟨.bl (!c),H,I,rfl,q⟩
theorem Q9(e:Nat->Bool)(h:aQ X.K H a xs)(i:aQ X.K H b ys)(c:xs.length=ys.length)(l:∀j x y,xs[j]?=some x->ys[j]?=some y->qG X H k x y (e j)):tO X H (k+1) (.ref a) (.ref b) ((range xs.length).all e):=λO σ s A u v I G m n=>by
 cases m;cases n;obtain⟨J,d,o,_⟩:=I.tuple h;obtain⟨L,f,p,_⟩:=I.tuple i;have r:=d.length;have t:=f.length;have q:=SeqAt.RcNeAt.tuples (A:=A) o p (by omega) λj w z=>by
  obtain⟨x,B,C⟩:=oW d (by simpa using w);obtain⟨y,D,E⟩:=oW f (j:=j) (by simpa using z);exact l j x y B D O σ s A.in1 _ _ I (by show A.units+1+k<cLine;omega) (by simpa using C)<|(by simpa using E)
 rw[Ay,Ay,<-r,<-t,c,Nat.min_self,<-c]at q
 simpa using q
end
variable{T:Bool->Hp->Prop}{r:V->List V->Hp->VK->Prop}{name:Str}
section
variable{o e f c:Expr}{ap cp pos:Pos}{body rest:Ô}
def x4u{Ty id:String}(c:PlainAttrs Ty)(slot:Slot Ty name id)(d:typeOf (.builtin id)=pure (.type "method_descriptor"))(e:vi X id r)
  (h:Ev X o σ H λx b=>mV X.K Ty x b/\r x [] b Q) (f:attributeBase o name X.env (eval o X.env)=eval o X.env:=by rfl) (a:(ap.endLine == cp.line)=true:=by rfl):Ev X (.Call (.Attribute o name ap) [] [] cp) σ H Q:=
 dG (Zr c slot d e bI f a) h
def Ie{Ty id:String}(d:PlainAttrs Ty)(slot:Slot Ty name id)(f:typeOf (.builtin id)=pure (.type "method_descriptor"))(i:vi X id r)
  (h:Ev X o σ H λx b=>mV X.K Ty x b/\Ev X e σ b λy c=>r x [y] c Q) (j:attributeBase o name X.env (eval o X.env)=eval o X.env:=by rfl)
  (k:((backTo cp<|starEach [e] X.env).all (λx=>!x.1) && (backToKw cp<|keywordEach [] X.env).all (λx=>x.1.isSome) && decide ([e].length+([]:List Keyword).length+(if([]:List Keyword).isEmpty then 0 else 1)<30))=true:=by rfl)
  (a:(ap.endLine == cp.line)=true:=by rfl) (l:starEach [e] X.env=(false,eval e X.env):: starEach [] X.env:=by rfl) (m:(backTo cp<|starEach [] X.env).any (·.1)=false:=by rfl) (n:f8 e=false:=by rfl):Ev X (.Call (.Attribute o name ap) [e] [] cp) σ H Q:=
 dG (E5 d slot f i bI (i8) j k a l m) (h.mono λx b⟨t,p⟩=>⟨t,ah (p.mono λy c q=>ax q) n⟩)
def Ig{Ty id:String}(j:PlainAttrs Ty)(slot:Slot Ty name id)(k:typeOf (.builtin id)=pure (.type "method_descriptor"))(l:vi X id r)
  (h:Ev X o σ H λx b=>mV X.K Ty x b/\Ev X e σ b λy d=>Ev X f σ d λz i=>r x [y,z] i Q) (m:attributeBase o name X.env (eval o X.env)=eval o X.env:=by rfl)
  (n:((backTo cp<|starEach [e,f] X.env).all (λx=>!x.1) && (backToKw cp<|keywordEach [] X.env).all (λx=>x.1.isSome) && decide ([e,f].length+([]:List Keyword).length+(if([]:List Keyword).isEmpty then 0 else 1)<30))=true:=by rfl)
  (a:(ap.endLine == cp.line)=true:=by rfl) (p:starEach [e,f] X.env=(false,eval e X.env):: starEach [f] X.env:=by rfl) (s:(backTo cp<|starEach [f] X.env).any (·.1)=false:=by rfl) (u:f8 e=false:=by rfl) (c:f8 f=false:=by rfl):Ev X (.Call (.Attribute o name ap) [e,f] [] cp) σ H Q:=
 dG (E5 j slot k l bI (i8) m n a p s) (h.mono λx b⟨t,v⟩=>⟨t,ah (v.mono λy d w=>ah (w.mono λz i q=>ax q) c) u⟩)
def insertAt(xs:List V)(i:Nat)(y:V):List V:=xs.take i++y :: xs.drop i
def Op:V->List V->Hp->VK->Prop:=λx b H Q=>∃l a i y,x=.ref l/\b=[.int i,y]/\H l=some (.lst a)/\0<=i/\i.toNat<=a.length/\a.length<sizeLine/\Q .non (upd H l<|.lst<|insertAt a i.toNat y)
theorem QY{i:Int}(a:0<=i)(h:i<=16777216):¬(!Builtin.List.listFitsIndex i)=true:=by
 have e:Builtin.List.listFitsIndex i=true:=by
  unfold Builtin.List.listFitsIndex;rw[Cb,DQ,DQ];omega
 rw[e];exact Aw
theorem Ra:qf X "list.insert" Op:=by
 intro O s σ H x G v us Q I f j h;obtain⟨l,b,i,y,rfl,rfl,d,m,J,L,q⟩:=h;cases f;obtain⟨u,c,rfl,o,p⟩:=j.two;obtain⟨t,rfl⟩:=o;obtain⟨z,a,n,r,w,e⟩:=I.gW d;have M:sizeLine=16777216:=DX;have A:a.toArray.size<=sizeLine:=by rwa[Ay,<-w]
 have B:=AutoSeq1.list_insert_list_int_val_1 l a.toArray n i t c (QY m<|(by omega)) A;refine PL F.slot_list_insert ⟨_,e,rfl⟩ F.entry_list_insert (F.args_list_insert_3 _ _ _) B ⟨e,?_⟩;have C:(λb:Array Value=>have k:=if i<0 then(i+(b.size:Int)).toNat else min i.toNat b.size;(b.extract 0 k).push c++b.extract k) a.toArray=(a.take i.toNat++c :: a.drop i.toNat).toArray:=by
  have D:¬ i<0:=(by omega)
  have E:min i.toNat a.length=i.toNat:=(by omega)
  simp only[D,CP,Ay,E];apply Array.ext';simp;exact Cs<|by simp
 refine⟨.non,_,I.kE d e C ((r.take i.toNat).append<|.cons p<|r.drop i.toNat) ?_,rfl,q⟩;rw[Ag,As,Br,Du];omega
def NL:V->List V->Hp->VK->Prop:=λx b H Q=>∃a Y k y,x=.ref a/\b=[kV k,y]/\H a=some (.dK Y)/\Y.length<sizeLine /\
 ((∃v,aF Y k=some v/\Q v H)\/(aF Y k=none/\Q y (upd H a<|.dK<|putK Y k y)))
theorem DJ:qf X "dict.setdefault" NL:=by
 intro O s σ H x E v us Q I l m h;obtain⟨a,Y,k,y,rfl,rfl,d,G,q⟩:=h;cases l;obtain⟨u,n,rfl,o,e⟩:=m.two;obtain⟨z,hd,p,rel,f⟩:=vy I.aH d;have J:=rel.length;refine call_meetsIn F.slot_dict_setdefault f.typeIs F.entry_dict_setdefault (F.args_dict_setdefault_3 _ _ _) (kt_meets_setdefault (bX X.U X.w) a (oJ o) hd n) ⟨p,f,(by omega),λv r=>?_,λt w i A=>?_⟩
 ·have b:=rel.val k;rw[r]at b
  obtain⟨j,c,q⟩|⟨c,_⟩:=q
  ·rw[c]at b;exact⟨j,H,I.tok _,b,q⟩
  ·rw[c]at b;exact b.elim
 ·have b:=rel.val k;rw[t]at b
  obtain⟨j,c,_⟩|⟨c,q⟩:=q
  ·rw[c]at b;exact b.elim
  ·have B:∃q,w.get? a=some q:=let ⟨q,_,_,C,_⟩:=i;⟨q,C⟩
   have D:(putK Y k y).length<=sizeLine:=by have:=jD Y k y;omega
   exact⟨y,_,lX I (by rw[d];exact True.intro) A B<|FH D hd (rel.put k e) i,e,q⟩
def Rb:gR X (.type "int") (λxs H Q=>∃b:Bool,xs=[.bl b]/\Q (.int (if b then 1 else 0)) H):=by
 intro O s σ H xs us Q I r h;obtain⟨b,rfl,q⟩:=h;obtain⟨u,rfl,a⟩:=ma r;cases (show u=Value.bool b from a);exact call_int_bool ⟨.int (if b then 1 else 0),H,I.tok _,⟨_,rfl⟩,q⟩
def Rc(d:Bool->Hp->Prop)(M:St->Hp->Prop)(f:Et X c σ H d)(h:∀a,d true a->ge X body {D with nx:=M} σ a)(i:∀a,d false a->ge X m6 {D with nx:=M} σ a)
  (e:∀b H',M b H'->ge X rest D b H'):ge X (.If c body m6 pos :: rest) D σ H:=
 dP (f.mono λk a p=>by
  cases k with
  |true=>rw[BP rfl];exact(h a p).nx e
  |false=>rw[BL Aw];exact(i a p).nx e)
theorem vT(W:Nat->St->Hp->Prop){m0:Nat}(i:W m0 σ H)
  (turn:∀m σ H,W m σ H->Et X c σ H λb e=>if b=true then ge X body {D with nx:=λa H'=>∃d,d<m/\W d a H',ct:=λa H'=>∃d,d<m/\W d a H',bk:=λa H'=>ge X rest D a H'} σ e else ge X rest D σ e)
  (j:PassesOwn (model X.U X.w) X.A X.env X.xe:=by exact PN):ge X (.While c body [] pos :: rest) D σ H:=by
 refine lY (Ym j m7 qj) ⟨W,⟨m0,i⟩,λm f e k=>(turn m f e k).mono λb l q=>?_⟩;cases b with
 |true=>
  rw[BP rfl]at q;exact⟨λa H'=>∃d,d<m/\W d a H',λ_ _ h=>h,q⟩
 |false=>
  rwa[BL Aw]at q
def Ih(h:∀p,H p=none->Q (.ref p) (upd H p<|.dK [])):Ev X (.Dict [] [] pos) σ H Q:=dG ZZ h
def q15(h:∀p,H p=none->Q (.ref p) (upd H p<|.dT [])):Ev X (.Dict [] [] pos) σ H Q:=dG Z4 h
def gJ(c:X.A.units+1<cLine)(h:Ev X o σ H λx d=>Ev X e σ d λy b=>∃a v,x=.ref a/\bb b a y (some v)/\Q v b)(f:qg e:=by intro _ _;rfl):Ev X (.Subscript o e pos) σ H Q:=dG (ZT c bI bI f) h
def Rf(d:X.A.units+1<cLine)(h:Ev X e σ H λy c=>Ev X o σ c λx b=>∃a r,x=.ref a/\bb b a y r/\T r.isSome b)(f:behindInMarks .In o=false:=by with_unfolding_all rfl):Et X (.Compare e [.In] [o] pos) σ H T:=
 tH (Oy (ZU d bI bI) f) (h.mono λy c i=>i.mono λx b⟨a,r,j,k,l⟩=>⟨a,r,j,k,_,rfl,l⟩)
def k7x(d:X.A.units+1<cLine)(h:Ev X e σ H λy c=>Ev X o σ c λx b=>∃a r,x=.ref a/\bb b a y r/\T (!r.isSome) b)(f:behindInMarks .NotIn o=false:=by with_unfolding_all rfl):Et X (.Compare e [.NotIn] [o] pos) σ H T:=
 tH (Oy (ZV d bI bI) f) (h.mono λy c i=>i.mono λx b⟨a,r,j,k,l⟩=>⟨a,r,j,k,_,rfl,l⟩)
def vU{b:Pos}(d:X.A.units+1<cLine)(h:Ev X f σ H λv i=>Ev X o σ i λx j=>Ev X e σ j λy k=>∃a c,x=.ref a/\cw k a y v c/\ge X rest D σ c)(l:swapsWith f (some<|.Subscript o e b) pos.line X.env=pure false:=by rfl):
  ge X (.Assign [.Subscript o e b] f pos :: rest) D σ H:=lY (ZW d bI bI bI l) h
end
end L2
namespace bE
open PySem PySem.Spec PyProof.Rows
def lexLt(a b:Int×Int):Bool:=if a.1=b.1 then decide (a.2<b.2)else decide (a.1<b.1)
def YO(b:Bool)(x y:Value):keyLt' (tuples' b) x y=(do
  let xs <-Builtin.List.listItems x
  let ys <-Builtin.List.listItems y
  for ((p,q),i) in (xs.toList.zip ys.toList).zipIdx do
   if !(<-eqBool p q)then return <-oneLt' (b && i == 0) p q
  return xs.size<ys.size):=rfl
variable{E:Í}{U:Program}{Q:Bool->Shared->Prop}{p q:Int×Int}{x y:Addr}{P:Fin->Shared->Prop}
section
variable{w:World}{A:Around}{s:Shared}
def Pr(h:Heap)(a:Addr)(p:Int×Int):Prop:=∃o n t u,h.get? a=some o/\o.cls=.type "tuple"/\o.data=.seq #[.int p.1 t,.int p.2 u] n
def Rg{a b:Int}{t u:Tok}(h:Q (decide (a=b)) s):(ba U w A) (eqBool (.int a t)<|.int b u) Q E s:=by
 refine SeqAt.EqAt.int_int a t b u U w E Q ?_;have e:(a == b)=decide (a=b):=rfl;rwa[e]
def x2i{a b:Int}{t u:Tok}(h:Q (decide (a<b)) s):(ba U w A) (oneLt' false (.int a t)<|.int b u) Q E s:=by
 rw[oneLt'_eq];simp only[Aq,CP];refine BJ ?_;show wpAny _ _ (compareOp .Lt (.int a t)<|.int b u) _ _ _;exact lt_int<|EY h
def q2p(d:Pr s.heap x p)(f:Pr s.heap y q)(h:Q (lexLt p q) s):(ba U w A) (keyLt' (tuples' true) (.ref x)<|.ref y) Q E s:=by
 obtain⟨o,r,i,j,k,t,l⟩:=d;obtain⟨u,v,ty,m,a,z,n⟩:=f;rw[YO];refine BJ<|QB k l<|BJ<|QB a n ?_;show wpAny _ _ (forIn [((Value.int p.1 i,Value.int q.1 ty),0),((Value.int p.2 j,Value.int q.2 m),1)] _ _ >>= _) _ _ _;rw[Hi];refine BJ<|BJ ?_
 dsimp only
 refine BJ<|Rg ?_
 by_cases c:p.1=q.1
 ·rw[BW c];simp only[Dm,Aq,CP];refine BK ?_
  dsimp only
  rw[Hi];refine BJ ?_
  dsimp only
  refine BJ<|Rg ?_
  by_cases b:p.2=q.2
  ·rw[BW b];simp only[Dm,Aq,CP];refine BK ?_
   dsimp only
   rw[List.forIn_nil];refine BK<|BK ?_;have e:lexLt p q=false:=by unfold lexLt;rw[BP c,b];simp
   rw[e]at h
   simpa using h
  ·rw[BR b];simp only[Gr,CZ];refine BJ<|x2i<|BK ?_
   dsimp only
   refine BK<|BK ?_;have e:lexLt p q=decide (p.2<q.2):=by unfold lexLt;rw[BP c]
   rwa[e]at h
 ·rw[BR c];simp only[Gr,CZ];refine BJ<|oneLt_int<|BK ?_
  dsimp only
  refine BK<|BK ?_;have e:lexLt p q=decide (p.1<q.1):=by unfold lexLt;rw[BL c]
  rwa[e]at h
def ux{x y:Value}:(#[x,y]:Array Value).size<=sizeLine+1:=by
 rw[DX];show 2<=_;decide
def zc(v:Value):firstOfTuple' v=(do
  if(<-typeOf v) != .type "tuple" then return none
  return (<-Builtin.List.listItems v)[0]?):=rfl
def Rh{Q:Option Value->Shared->Prop}(b:Pr s.heap x p)(h:∀t,Q (some<|.int p.1 t) s):(ba U w A) (firstOfTuple'<|.ref x) Q E s:=by
 obtain⟨c,i,d,j,a,e,f⟩:=b;rw[zc];refine BJ<|JR ⟨c,a,e⟩ ?_;rw[show(Value.type "tuple" != Value.type "tuple")=false by decide];simp only[Aq,CP];exact BJ<|QB a f<|BK<|h d
def q8e{Q:SortKind->Shared->Prop}(a:Pr s.heap x p)(b:Pr s.heap y q)(h:Q (tuples' true) s):(ba U w A) (keyKind' #[.ref x,.ref y]) Q E s:=by
 rw[keyKind'_eq,show(#[.ref x,.ref y]:Array Value)=[.ref x,.ref y].toArray from rfl,List.mapM_toArray];refine BJ<|wpAny_map ?_;rw[List.mapM_cons];refine BJ<|Rh a λt=>?_;rw[List.mapM_cons];refine BJ<|BJ<|Rh b λu=>?_;rw[List.mapM_nil];refine BJ<|BK<|BK<|BK ?_;rw[BP<|by simp];refine BJ<|HX ?_;rw[oneTypeOnly'_eq];show wpAny _ _ ((Array.mapM typeOf [Value.int p.1 t,Value.int q.1 u].toArray >>= _) >>= _) _ _ _;rw[List.mapM_toArray];have c:[Value.int p.1 t,Value.int q.1 u].mapM typeOf=(pure [Value.type "int",Value.type "int"]:Sem _):=rfl;rw[c];refine BK ?_;have d:(if((#[Value.type "int",Value.type "int"]:Array Value).all λx=>x == (#[Value.type "int",Value.type "int"]:Array Value)[0])=true then some (#[Value.type "int",Value.type "int"]:Array Value)[0]else none)=some (Value.type "int"):=by
  rw[BP]
  ·rfl
  ·simp
 show Q (tuples'<|Option.any (λx=>x != Value.type "tuple") _) s;rwa[d]
def wp_at{st:SortSt}{i j:Nat}{Q:Option Bool->SortSt->Prop}(c:kindOf st=tuples' true)(d:(arrOf st)[i]?=some (.ref x,.ref x))(e:(arrOf st)[j]?=some (.ref y,.ref y))(f:Pr s.heap x p)(k:Pr s.heap y q)(h:Q (some<|lexLt p q) st):
  wpS (model U w) A E s (ltAt' i j) Q st:=by
 rw[ltAt'_eq];refine GJ<|wpS_get ?_;show wpS _ _ _ _ (elem' (arrOf st) i >>= λa=>elem' (arrOf st) j >>= λb=>lt' a b) Q st;rw[elem'_eq,elem'_eq,d,e];refine GJ<|JM<|GJ<|JM ?_;rw[lt'_eq];refine GJ<|wpS_get ?_;rw[c];refine GJ<|wpS_lift<|NK<|q2p f k ⟨rfl,?_⟩;exact JM h
def mj(x y:Addr)(p q:Int×Int):Array Keyed:=if lexLt q p then #[(.ref y,.ref y),(.ref x,.ref x)]else #[(.ref x,.ref x),(.ref y,.ref y)]
theorem ED{Q:Option Nat->SortSt->Prop}(j:Pr s.heap x p)(k:Pr s.heap y q)
  (h:Q (some 2)<|SortSt.mk' (tuples' true) (mj x y p q) #[] 7 none):wpS (model U w) A E s (countRun' 0 2) Q (SortSt.mk' (tuples' true) #[(.ref x,.ref x),(.ref y,.ref y)] #[] 7 none):=by
 rw[countRun0_eq];refine GJ ?_;unfold ascLoop;refine wpS_mono (QC (I:=λi c st=>st=SortSt.mk' (tuples' true) #[(.ref x,.ref x),(.ref y,.ref y)] #[] 7 none/\c=(none,i)/\(i=2->lexLt q p=false))
  (Q:=λc st=>st=SortSt.mk' (tuples' true) #[(.ref x,.ref x),(.ref y,.ref y)] #[] 7 none/\((c=(none,1)/\lexLt q p=true)\/(c=(none,2)/\lexLt q p=false))) ?_ ?_ ⟨rfl,rfl,λh=>by cases h⟩) ?_
 ·rintro i c st b d ⟨rfl,rfl,f⟩;have e:i=1:=(by omega)
  subst e;refine GJ<|wp_at rfl rfl rfl k j ?_
  dsimp only
  cases a:lexLt q p with
  |true=>
   rw[BP rfl];exact JM ⟨rfl,.inl ⟨rfl,rfl⟩⟩
  |false=>
   rw[BL Aw];exact JM ⟨rfl,rfl,λ_=>rfl⟩
 ·rintro c st ⟨rfl,rfl,f⟩;exact⟨rfl,.inr ⟨rfl,f rfl⟩⟩
 ·rintro c st ⟨rfl,⟨rfl,a⟩|⟨rfl,a⟩⟩
  ·dsimp only
   rw[BL (by decide),BL<|(by decide)];unfold descPart;refine GJ<|wpS_lift<|HX ⟨rfl,?_⟩;unfold descLoop;refine GJ (wpS_mono (QC (I:=λi c st=>c=(none,2,0)/\st=SortSt.mk' (tuples' true) #[(.ref x,.ref x),(.ref y,.ref y)] #[] 7 none) (λi c st b d _=>(by omega)) (λc st h=>h) ⟨rfl,rfl⟩) ?_);rintro c st ⟨rfl,rfl⟩
   dsimp only
   rw[BL<|(by decide)];unfold tail3;refine GJ<|wpS_reverse ?_;unfold ascLoop;refine GJ (wpS_mono (QC (I:=λi c st=>c=(none,2)/\st=SortSt.mk' (tuples' true) #[(.ref y,.ref y),(.ref x,.ref x)] #[] 7 none) (Q:=λc st=>c=(none,2)/\st=SortSt.mk' (tuples' true) #[(.ref y,.ref y),(.ref x,.ref x)] #[] 7 none) (λi c st b d _=>(by omega)) (λc st h=>h) ⟨rfl,rfl⟩) ?_);rintro c st ⟨rfl,rfl⟩
   dsimp only
   refine JM ?_;unfold mj at h;rwa[BP a]at h
  ·dsimp only
   rw[BP<|(by decide)];refine JM ?_;unfold mj at h;rwa[BL<|by rw[a];exact Aw]at h
def ny{Q:Unit->SortSt->Prop}(d:Pr s.heap x p)(e:Pr s.heap y q)(h:∀st,arrOf st=mj x y p q->failedOf st=none->Q () st):
  wpS (model U w) A E s sortRuns' Q (SortSt.mk' (tuples' true) #[(.ref x,.ref x),(.ref y,.ref y)] #[] 7 none):=by
 rw[sortRuns'_eq];refine GJ<|wpS_get ?_
 dsimp only
 have a:minRun' 2 2 0=2:=by rw[minRun'_succ,BP<|(by decide)]
 show wpS _ _ _ _ ((forIn [0:2] _ _) >>= _) _ _;refine GJ<|wpS_mono (QC (I:=λi c st=>(i=0/\c=(none,0)/\st=SortSt.mk' (tuples' true) #[(.ref x,.ref x),(.ref y,.ref y)] #[] 7 none)\/(1<=i/\c=(none,2)/\st=SortSt.mk' (tuples' true) (mj x y p q) #[(0,2,0)] 7 none))
  (Q:=λc st=>c=(none,2)/\st=SortSt.mk' (tuples' true) (mj x y p q) #[(0,2,0)] 7 none) ?_ ?_ (.inl ⟨rfl,rfl,rfl⟩)) ?_
 ·rintro i c st b l (⟨rfl,rfl,rfl⟩|⟨m,rfl,rfl⟩)
  ·dsimp only
   rw[BL<|by show ¬(0>=2);decide];refine GJ ?_;show wpS _ _ _ _ (countRun' 0 2) _ _;refine ED d e ?_
   dsimp only
   rw[BL<|by show ¬(2<minRun' 2 2 0);rw[a];decide];refine GJ<|wpS_get ?_;show wpS _ _ _ _ (modify _ >>= _) _ _;exact GJ<|wpS_modify<|JM<|.inr ⟨An _,rfl,rfl⟩
  ·dsimp only
   rw[BP<|by show 2>=2;decide];exact JM ⟨rfl,rfl⟩
 ·rintro c st (⟨b,_,_⟩|⟨_,f,j⟩)
  ·exact absurd b<|(by decide)
  ·exact⟨f,j⟩
 ·rintro c st ⟨rfl,rfl⟩
  dsimp only
  refine GJ<|wpS_mono (QC (I:=λ_ c st=>st=SortSt.mk' (tuples' true) (mj x y p q) #[(0,2,0)] 7 none/\c=(none,())) ?_ (λ_ _ k=>k) ⟨rfl,rfl⟩) ?_
  ·rintro i c st _ _ ⟨rfl,rfl⟩;refine GJ<|wpS_get ?_;rw[BP<|by show 1<=1;decide];exact JM ⟨rfl,rfl⟩
  ·rintro c st ⟨rfl,rfl⟩;exact JM<|h _ rfl rfl
def Pf{a:Addr}{n:Nat}(c:s.heap.get? a=some (seqObj "list" #[.ref x,.ref y] n))(d:a≠x)(f:a≠y)(C:Pr s.heap x p)(D:Pr s.heap y q)
  (h:P (.done<|.ret .none) {s with heap:=sortedHeap s.heap a [.ref x,.ref y] (if lexLt p q then #[.ref y,.ref x]else #[.ref x,.ref y])}):
  (ba U w A) (Builtin.«list.sort» ⟨[.ref a],[(Str.ofString "reverse",.bool true)]⟩) P E s:=by
 rw[list_sort_rev];refine BJ<|QB c rfl<|BJ<|NQ c rfl ?_;obtain⟨i,j⟩:∃ i,(s.heap.update a<|Obj.mapSeq λ_=>#[]).get? a=some (seqObj "list" #[] i):=⟨_,get?_update_seq c λ_=>#[]⟩;refine BJ<|QM j rfl<|BJ<|QK ?_;refine BJ<|KC<|CJ ?_;have k:(((s.heap.update a<|Obj.mapSeq λ_=>#[]).push<|seqObj "tuple" [Value.ref x,Value.ref y].toArray 0).push<|seqObj "list" #[] 0).get? a=some (seqObj "list" #[] i):=
  Aj _ (Aj _ j)
 show (ba U w A) _ P E {s with heap:=((s.heap.update a<|Obj.mapSeq λ_=>#[]).push<|seqObj "tuple" [Value.ref x,Value.ref y].toArray 0).push (seqObj "list" #[] 0)};have keep:∀ z r,a≠z->Pr s.heap z r->Pr (((s.heap.update a<|Obj.mapSeq λ_=>#[]).push<|seqObj "tuple" [Value.ref x,Value.ref y].toArray 0).push<|seqObj "list" #[] 0) z r:=by
  rintro z r G ⟨o,m,t,u,H,I⟩;exact⟨o,m,t,u,Aj _<|Aj _<|(Cm _ _ G).trans H,I⟩
 have l:=keep x p d C;have v:=keep y q f D
 dsimp only
 rw[BP rfl];refine BJ<|HX ?_;rw[BL<|by show ¬(2<2);decide];refine BJ<|q8e l v ?_;rw[BL<|by show ¬(2<2);decide];have J:(if true=true then((#[Value.ref x,Value.ref y]:Array Value).zip #[Value.ref x,Value.ref y]).reverse else(#[Value.ref x,Value.ref y]:Array Value).zip #[Value.ref x,Value.ref y])=#[(Value.ref y,Value.ref y),(Value.ref x,Value.ref x)]:=by
  rw[BP rfl];simp
 rw[J];refine BJ<|CW (ny (Q:=λ_ st=>arrOf st=mj y x q p/\failedOf st=none) v l λst L M=>⟨L,M⟩) ?_ λ_ _ e=>e;rintro ⟨⟨⟩,b⟩ Y ⟨rfl,N,O⟩
 dsimp only
 have B:(if true=true then((arrOf b).map (·.2)).reverse else(arrOf b).map (·.2))=(if lexLt p q then #[.ref y,.ref x]else #[.ref x,.ref y]):=by
  rw[BP rfl,N];unfold mj
  split<;>simp
 refine BJ<|QM k rfl<|BJ (NQ k rfl ?_ (hsz2:=by rw[B];split<;>exact ux));rw[O];simp only[HD,Aq,CP];refine BK ?_;have T:(λ_:Array Value=>if True then((arrOf b).map (·.2)).reverse else(arrOf b).map (·.2))=λ_=>(if lexLt p q then #[.ref y,.ref x]else #[.ref x,.ref y]):=by
  funext _
  rw[BP trivial];rwa[BP rfl]at B
 rwa[T]
def p5{l:Addr}{Q:Í}(j:s.heap.IsList l #[.ref x,.ref y])(c:Pr s.heap x p)(d:Pr s.heap y q)
  (h:∀h' e,(∀ b u,s.heap.get? b=some u->h'.get? b=some u)->h'.get? (s.heap.objs.size+1)=some (seqObj "list" (if lexLt p q then #[.ref y,.ref x]else #[.ref x,.ref y]) e)->Q (.ref<|s.heap.objs.size+1) {s with heap:=h'}):
  (ba U w A) (call (.builtin "sorted") [.ref l] [(Str.ofString "reverse",.bool true)]) Q E s:=by
 refine call_function_entry_kw kind_sorted plain_sorted entry_sorted (args_sorted_rev _ _) ?_;unfold Builtin.«sorted»;refine BJ<|BK ?_;refine BJ<|collect_list j ?_;refine BJ<|KC ?_;have a:((s.heap.push<|seqObj "list" #[] 0).update s.heap.objs.size (Obj.mapSeq (·++[Value.ref x,Value.ref y].toArray))).objs.size=s.heap.objs.size+1:=by
  rw[Heap.size_update,size_push']
 have f:(((s.heap.push<|seqObj "list" #[] 0).update s.heap.objs.size (Obj.mapSeq (·++[Value.ref x,Value.ref y].toArray))).push<|seqObj "list" [Value.ref x,Value.ref y].toArray 0).get? (s.heap.objs.size+1)=some (seqObj "list" [Value.ref x,Value.ref y].toArray 0):=by
  rw[<-a];exact At _ rfl
 have lx:=let ⟨_,_,_,_,e,_⟩:=c;Av e
 have k:=let ⟨_,_,_,_,e,_⟩:=d;Av e
 have keep:∀ z r,Pr s.heap z r->Pr (((s.heap.push<|seqObj "list" #[] 0).update s.heap.objs.size (Obj.mapSeq (·++[Value.ref x,Value.ref y].toArray))).push<|seqObj "list" [Value.ref x,Value.ref y].toArray 0) z r:=by
  rintro z r ⟨o,m,t,u,i,n⟩;have v:=Av i;exact⟨o,m,t,u,Aj _<|(Cm _ _<|Cz v).trans<|Aj _ i,n⟩
 show wpAny _ _ _ _ _ {s with heap:=((s.heap.push<|seqObj "list" #[] 0).update s.heap.objs.size (Obj.mapSeq (·++[Value.ref x,Value.ref y].toArray))).push (seqObj "list" [Value.ref x,Value.ref y].toArray 0)};rw[a];refine BJ<|CJ<|wpAny_call_entry_kw slot_list_sort ⟨_,f,rfl⟩ entry_list_sort (Pf f (Cz<|Ci lx) (Cz<|Ci k) (keep x p c) (keep y q d) ⟨_,rfl,?_⟩)<|args_list_sort_rev _ _;obtain⟨e,B⟩:=sortedAll_at s.heap [Value.ref x,Value.ref y] (if lexLt p q then #[.ref y,.ref x]else #[.ref x,.ref y]);exact BK ⟨_,rfl,h _ e (λb u C=>sortedAll_old C) B⟩
end
end bE
namespace L2
open PySem PySem.Spec PyProof.Rows bE
variable{O:Ï}
section
variable{X:Cx}{e:Expr}{σ:St}{H:Hp}{Q:VK}{pos p kp cp:Pos}{j:Nat}
def Ri{s:Shared}{a:Addr}{i j:Int}(I:(be X O σ H s))(h:H a=some (.tup [.int i,.int j])):Pr s.heap a (i,j):=by
 obtain⟨f,r,b,_⟩:=I.tuple<|aQ.of h;obtain⟨u,v,rfl,⟨t,rfl⟩,⟨c,rfl⟩⟩:=xb r;obtain⟨o,d,e,n,hd⟩:=b;exact⟨o,n,t,c,d,e,hd⟩
def k6g(w:X.mg "sorted" = none) (h:Ev X e σ H λv f=>∃l x y a b c d,v=.ref l/\f l=some (.lst [.ref x,.ref y])/\f x=some (.tup [.int a,.int b])/\f y=some (.tup [.int c,.int d]) /\
   ∀r,f r=none->Q (.ref r) (upd f r<|.lst (if lexLt (a,b) (c,d)then [.ref y,.ref x]else [.ref x,.ref y]))) (z:Gl X "sorted":=by rfl)
  (i:backTo pos (starEach [e] X.env)=(false,eval e X.env):: backTo pos (starEach [] X.env):=by rfl) (A:(backTo pos<|starEach [e] X.env).any (·.1)=false:=by rfl) (B:f8 e=false:=by rfl):
  Ev X (.Call (.Name "sorted" p) [e] [⟨some "reverse",.Constant (.bool true) j cp,kp⟩] pos) σ H Q:=by
 refine⟨λO s I=>?_⟩;refine KQ<|mQ I z w DR ?_;have C:Ea X [e] σ H λt f=>∃l x y a b c d,t=[.ref l]/\f l=some (.lst [.ref x,.ref y])/\f x=some (.tup [.int a,.int b])/\f y=some (.tup [.int c,.int d]) /\
   ∀r,f r=none->Q (.ref r) (upd f r<|.lst (if lexLt (a,b) (c,d)then [.ref y,.ref x]else [.ref x,.ref y])):=
  ah (h.mono λv f⟨l,x,y,a,b,c,d,D,m⟩=>ax ⟨l,x,y,a,b,c,d,by rw[D],m⟩) B
 refine callWith_kw (aO (C.run pos O s I) λY s1⟨t,f,k,m,l,x,y,a,b,c,d,E,G,J,L,q⟩=>?_) i A;subst E;obtain⟨u,rfl,n⟩:=ma m;cases (show u=Value.ref l from n);refine kws_cons<|BK<|kws_nil ?_;obtain⟨è,M,N,_⟩:=k.list<|au.of G;obtain⟨u,v,rfl,n,T⟩:=xb M;cases (show u=Value.ref x from n);cases (show v=Value.ref y from T);refine p5 N.isList (Ri k J) (Ri k L) λU e kp i=>?_;refine⟨.ref _,_,k.fH kp rfl rfl (Es _) (show aB X.U X.w _ U _ (.lst (if lexLt (a,b) (c,d)then [.ref y,.ref x]else [.ref x,.ref y]))from ?_),rfl,q _<|k.aH.fresh<|Es _⟩
 split at i
 ·rename_i o;rw[BP o];exact⟨by show 2<=sizeLine;rw[DX];decide,[.ref y,.ref x],e,.cons rfl (.cons rfl .nil),i⟩
 ·rename_i o;rw[BL o];exact⟨by show 2<=sizeLine;rw[DX];decide,[.ref x,.ref y],e,.cons rfl (.cons rfl .nil),i⟩
end
end L2
namespace Nt
open PySem
abbrev bi:=List<|Str×List Str
abbrev bc:=Nat×Nat
def row(n:bi)(r:Nat):Ð:=((n[r]?).map (·.2)).getD []
def aJ(n:bi)(e:bc):Option Str:=(row n e.1)[e.2]?
def bF(r:Nat)(a:Ð)(p:Nat):List (Str×bc):=(a.zipIdx p).map λx=>(x.1,(r,x.2))
def fv(r:Nat):bi->List (Str×bc)
 |[]=>[]
 |a :: n=>bF r a.2 0++fv (r+1) n
def bn(n:bi):List (Str×bc):=fv 0 n
def ends(n:bi):List bc:=(bn n).map (·.2)
def ag(n:bi):Ð:=n.flatMap (·.2)
def pos(n:bi)(z:Str):List bc:=((bn n).filter λx=>decide (x.1=z)).map (·.2)
variable{e:bc}{z:Str}{p r:Nat}
def bf{a:Ð}:(z,e)∈bF r a p↔e.1=r/\p<=e.2/\a[e.2-p]?=some z:=by
 unfold bF;rw[Ak]
 constructor
 ·rintro ⟨⟨y,k⟩,b,c⟩;cases c;have:=Fq.mp b;exact⟨rfl,this.1,this.2⟩
 ·rintro ⟨d,f,h⟩;refine⟨(z,e.2),Fq.mpr ⟨f,h⟩,?_⟩;rw[<-d]
theorem bM:∀{n}{k}{z}{e},(z,e)∈fv k n↔k<=e.1/\(row n<|e.1-k)[e.2]?=some z
 |[],k,z,e=>by
  constructor
  ·intro h;cases h
  ·rintro ⟨_,h⟩;simp[row]at h
 |a :: n,k,z,e=>by
  unfold fv;rw[Am,bf,bM]
  constructor
  ·rintro (⟨c,_,d⟩|⟨c,b⟩)
   ·refine⟨(by omega),?_⟩;rw[show e.1-k=0 by omega]
    simpa[row]using d
   ·refine⟨(by omega),?_⟩;rw[show e.1-k=(e.1-(k+1))+1 by omega]
    simpa[row]using b
  ·rintro ⟨c,b⟩
   obtain h|h:=Da k e.1
   ·refine .inr ⟨h,?_⟩;rw[show e.1-k=(e.1-(k+1))+1 by omega]at b
    simpa[row]using b
   ·refine .inl ⟨(by omega),Bx _,?_⟩;rw[show e.1-k=0 by omega]at b
    simpa[row]using b
variable{n:bi}
def aT:(z,e)∈bn n↔aJ n e=some z:=by
 unfold bn aJ;rw[bM];simp
def af:e∈ends n↔∃z,aJ n e=some z:=by
 unfold ends;rw[Ak]
 constructor
 ·rintro ⟨⟨z,a⟩,h,rfl⟩;exact⟨z,aT.mp h⟩
 ·rintro ⟨z,h⟩;exact⟨(z,e),aT.mpr h,rfl⟩
def aK:e∈pos n z↔aJ n e=some z:=by
 unfold pos;rw[Ak]
 constructor
 ·rintro ⟨⟨y,c⟩,h,rfl⟩;rw[Bf,DQ]at h;obtain⟨a,b⟩:=h;subst b;exact aT.mp a
 ·intro h;exact⟨(z,e),Bf.mpr ⟨aT.mpr h,by simp⟩,rfl⟩
def pb(r:Nat):∀a p,(bF r a p).map (·.1)=a:=by
 intro a p;unfold bF;rw[Bs];have:((λx:Str×bc=>x.1) ∘ λx:Str×Nat=>(x.1,(r,x.2)))=Prod.fst:=rfl;rw[this,List.zipIdx_map_fst]
theorem kJ:∀n k,(fv k n).map (·.1)=ag n
 |[],_=>rfl
 |a :: n,k=>by
  unfold fv ag;rw[Al,pb,kJ n<|k+1,Cp];rfl
def YI(r:Nat)(c:Ð)(p:Nat):((bF r c p).map (·.2)).Nodup:=by
 unfold bF;rw[Bs];have e:((λx:Str×bc=>x.2) ∘ λx:Str×Nat=>(x.1,(r,x.2)))=(λk:Nat=>(r,k)) ∘ Prod.snd:=rfl;rw[e,<-Bs,List.zipIdx_map_snd];refine RL _ ?_ List.nodup_range';intro a b h d;exact h (Prod.mk.inj d).2
theorem Rj:∀n k,((fv k n).map (·.2)).Nodup
 |[],_=>Cd
 |a :: n,k=>by
  unfold fv;rw[Al,Co];refine⟨YI _ _ _,Rj n<|k+1,?_⟩;intro x c y d e;subst e;obtain⟨⟨z,i⟩,f,rfl⟩:=Ak.mp c;obtain⟨⟨j,l⟩,h,b⟩:=Ak.mp d;simp only at b;subst b;have m:=(bf.mp f).1;have o:=(bM.mp h).1;omega
def kc(n:bi):(ends n).Nodup:=Rj n 0
def Rk(n:bi)(z:Str):(pos n z).Nodup:=by
 unfold pos;exact(kc n).sublist<|List.Sublist.map _<|Hl
def qI(n:bi)(z:Str):(pos n z).length=(ag n).count z:=by
 unfold pos;rw[Aa,<-kJ n 0,<-List.countP_eq_length_filter,List.count,List.countP_map];rfl
def aq(n:bi):Prop:=∀z∈ag n,(ag n).count z=2
def eV(h:aJ n e=some z):z∈ag n:=by
 have:=aT.mpr h;rw[<-kJ n 0];exact Ak.mpr ⟨_,this,rfl⟩
def other(n:bi)(e:bc):bc:=match aJ n e with
 | some z=>(match pos n z with
  |[a,b]=>if a=e then b else a
  |_=>e)
 |none=>e
theorem qJ(T:aq n)(h:aJ n e=some z):∃a b,pos n z=[a,b]/\a≠b/\(e=a\/e=b):=by
 have c:=qI n z;rw[T z<|eV h]at c;have d:=Rk n z;have f:=aK.mpr h
 match i:pos n z,c with
 |[a,b],_=>
  rw[i]at d f;refine⟨a,b,rfl,?_,?_⟩
  ·intro e;subst e;simp at d
  ·simpa using f
def dH(T:aq n)(h:aJ n e=some z):aJ n ((other n e))=some z/\other n ((other n e))=e/\(other n e)≠e:=by
 obtain⟨a,b,c,d,l⟩:=qJ T h;have j:aJ n a=some z:=aK.mp (by rw[c];simp);have k:aJ n b=some z:=aK.mp<|by rw[c];simp
 obtain rfl|rfl:=l
 ·have f:(other n e)=b:=by unfold other;simp only[h,c];simp
  have i:other n b=e:=by unfold other;simp only[k,c];simp[d]
  rw[f];exact⟨k,i,d.symm⟩
 ·have f:(other n e)=a:=by unfold other;simp only[h,c];simp[d]
  have i:other n a=e:=by unfold other;simp only[j,c];simp
  rw[f];exact⟨j,i,d⟩
def left(n:bi)(e:bc):bc:=(e.1,(e.2+1)%(row n e.1).length)
def step(n:bi)(e:bc):bc:=left n ((other n e))
def gk(h:aJ n e=some z):e.2<(row n e.1).length:=(Ac.mp h).1
def cB(h:aJ n e=some z):e.1<n.length:=by
 obtain c|c:=Da e.1 n.length
 ·exact c
 ·have:=gk h;unfold row at this;rw[Bg c]at this;simp at this
def vV(h:e.2<(row n e.1).length):∃z,aJ n e=some z:=⟨_,Ab h⟩
theorem Ii(h:e∈ends n):left n e∈ends n:=by
 obtain⟨z,h⟩:=af.mp h;have:=gk h;exact af.mpr<|vV (show(e.2+1)%(row n e.1).length<(row n e.1).length from Gm _<|(by omega))
def cR(T:aq n)(h:e∈ends n):(other n e)∈ends n:=by
 obtain⟨z,h⟩:=af.mp h;exact af.mpr ⟨z,(dH T h).1⟩
def mq(T:aq n)(h:e∈ends n):step n e∈ends n:=Ii<|cR T h
theorem x3{a b:bc}(i:a∈ends n)(j:b∈ends n)(h:left n a=left n b):a=b:=by
 obtain⟨z,i⟩:=af.mp i;obtain⟨y,j⟩:=af.mp j;have l:=gk i;have m:=gk j;unfold left at h;obtain⟨k,f⟩:=Prod.mk.inj h;rw[k]at l f;have:a.2=b.2:=by
  obtain c|c:=Da (a.2+1) (row n b.1).length<;>obtain d|d:=Da (b.2+1) (row n b.1).length
  ·rw[Bz c,Bz d]at f;omega
  ·have e:b.2+1=(row n b.1).length:=(by omega)
   rw[Bz c,e,Ef]at f;omega
  ·have e:a.2+1=(row n b.1).length:=(by omega)
   rw[Bz d,e,Ef]at f;omega
  ·omega
 exact HJ k this
def Rl(T:aq n){a b:bc}(c:a∈ends n)(d:b∈ends n)(h:other n a=other n b):a=b:=by
 obtain⟨z,c⟩:=af.mp c;obtain⟨y,d⟩:=af.mp d;rw[<-(dH T c).2.1,h,(dH T d).2.1]
def zJ(T:aq n){a b:bc}(c:a∈ends n)(d:b∈ends n)(h:step n a=step n b):a=b:=
 Rl T c d (x3 (cR T c) (cR T d) h)
theorem aU{α:Type}[DecidableEq α]:∀{a b:List α},a.Nodup->(∀z∈a,z∈b)->a.length<=b.length
 |[],b,_,_=>Bx _
 |x :: r,b,c,d=>by
  rw[Bh]at c;have f:=d x Ae;have:=aU c.2 λz h=>by
   have i:z≠x:=λe=>c.1<|e ▸ h;exact(Ft i).mpr<|d z<|Af _ h
  rw[Gi f]at this;have j:0<b.length:=Gs f;rw[As];omega
def it{α:Type}(f:α->α):Nat->α->α
 |0,a=>a
 |k+1,a=>f<|it f k a
theorem je{α:Type}{f:α->α}{S:List α}(b:∀a∈S,f a∈S){a:α}(h:a∈S):∀k,it f k a∈S
 |0=>h
 |k+1=>b _<|je b h k
theorem zK{α:Type}[DecidableEq α]{f:α->α}{S:List α}(c:∀a∈S,f a∈S)(inj:∀a∈S,∀b∈S,f a=f b->a=b){a:α}(h:a∈S):∃k,0<k/\k<=S.length/\it f k a=a:=by
 have cancel:∀i j,it f i a=it f (i+j) a->it f j a=a:=by
  intro i
  induction i with
  |zero=>intro j e;rw[Ex]at e;exact e.symm
  |succ i l=>
   intro j e;refine l j ?_;rw[show i+1+j=(i+j)+1 by omega]at e;exact inj _ (je c h i) _ (je c h<|i+j) e
 refine CQ λm=>?_;have nd:((range<|S.length+1).map λi=>it f i a).Nodup:=by
  refine RL _ (R:=λi j=>i<j/\j<S.length+1) ?_ ?_
  ·rintro i j ⟨p,q⟩ e;refine m ⟨j-i,(by omega),(by omega),cancel i (j-i) ?_⟩;rwa[show i+(j-i)=j by omega]
  ·rw[Bc];intro i j r d n;simp only[Fi];simp at d;exact⟨n,d⟩
 have:=aU nd λz o=>by
  obtain⟨i,_,rfl⟩:=Ak.mp o;exact je c h i
 simp at this;omega
theorem jf:∀n r,(row n r).length<=(ag n).length
 |[],r=>by simp[row,ag]
 |a :: n,0=>by simp[row,ag]
 |a :: n,r+1=>by
  have:=jf n r;simp[row,ag]at this ⊢;omega
theorem Rm:∀n r,(ag<|n.take r).length<=(ag n).length
 |[],r=>by simp[ag]
 |a :: n,0=>by simp[ag]
 |a :: n,r+1=>by
  have:=Rm n r;simp[ag]at this ⊢;omega
structure dz(n:bi)(e:Nt.bc)(fs:List bc):Prop where
 pos:0<fs.length
 len:fs.length<=(ends n).length
 at':∀i,i<fs.length->fs[i]?=some ((it (step n)) i e)
 back:(it (step n)) fs.length e=e
 first:∀i,0<i->i<fs.length->(it (step n)) i e≠e
open L2
abbrev Ls(zs:Ð):HO:= .lst<|zs.map V.str
abbrev Tp(e:bc):HO:= .tup [.int e.1,.int e.2]
structure ai(H:Hp)(R:Addr)(as:Î)(n:bi):Prop where
 len:as.length=n.length
 lst:H R=some (.lst<|as.map λa=> .ref a.1)
 tup:∀(i:Nat)a r,as[i]?=some a->n[i]?=some r->H a.1=some (.tup [.str r.1,.ref a.2])/\H a.2=some (Ls r.2)
 inj:(as.map (·.2)).Nodup
variable{as:Î}{R:Addr}{H:Hp}
def ai.same{H':Hp}(h:ai H R as n)(s:aj H H'):ai H' R as n:=
 ⟨h.len,s _ _ h.lst,λi a r b c=>⟨s _ _ (h.tup i a r b c).1,s _ _ (h.tup i a r b c).2⟩,h.inj⟩
theorem ai.at(h:ai H R as n){i:Nat}(b:i<n.length):
  ∃a,as[i]?=some a/\fj (as.map λa=>V.ref a.1) (i:Int)=some (.ref a.1)/\H a.1=some (.tup [.str n[i].1,.ref a.2])/\H a.2=some (Ls<|row n i)/\row n i=n[i].2:=by
 have d:=h.len;have e:as[i]?=some as[i]:=Ab (by omega);have c:row n i=n[i].2:=by unfold row;rw[Ab b];rfl
 have q:=h.tup i as[i] n[i] e<|Ab b;refine⟨as[i],e,tq (by rw[Ah,e];rfl),q.1,?_,c⟩;rw[c];exact q.2
variable{zs:Ð}
def vW{j:Nat}(h:zs[j]?=some z):fj (zs.map V.str) (j:Int)=some (.str z):=tq<|by rw[Ah,h];rfl
inductive Pd(H:Hp):(List Addr)->List bc->Prop where
 |nil:Pd H [] []
 |cons {t:Addr} {e:bc} {ts:(List Addr)} {es:List bc}:H t=some (Tp e)->Pd H ts es->Pd H (t :: ts) (e :: es)
variable{es:List bc}{ts:(List Addr)}
theorem Pd.append{a:(List Addr)}{b:List bc}(h:Pd H ts es)(g:Pd H a b):Pd H (ts++a) (es++b):=by
 induction h with
 |nil=>exact g
 |cons c _ d=>exact .cons c d
theorem Pd.keep{H':Hp}(h:Pd H ts es)(k:∀t e,H t=some (Tp e)->H' t=some (Tp e)):Pd H' ts es:=by
 induction h with
 |nil=>exact .nil
 |cons a _ b=>exact .cons (k _ _ a) b
theorem Pd.length{H:Hp}{ts:(List Addr)}{es:List bc}(h:Pd H ts es):ts.length=es.length:=by
 induction h with
 |nil=>rfl
 |cons _ _ a=>rw[As,As,a]
theorem Pd.at{H:Hp}{ts:(List Addr)}{es:List bc}(h:Pd H ts es):∀{i:Nat}{e:bc},es[i]?=some e->∃t,ts[i]?=some t/\H t=some (Tp e):=by
 induction h with
 |nil=>intro i e h;simp at h
 |cons a _ b=>
  intro i e h;cases i with
  |zero=>simp at h;subst h;exact⟨_,rfl,a⟩
  |succ i=>simp only[Ee]at h ⊢;exact b h
def bT(done:List<|Str×bc)(z:Str):List bc:=(done.filter λx=>decide (x.1=z)).map (·.2)
def dI(done:List<|Str×bc)(y z:Str)(e:bc):bT (done++[(y,e)]) z=bT done z++(if y=z then [e]else []):=by
 unfold bT;rw[Cv,Al]
 congr 1
 by_cases h:y=z
 ·rw[BP h];simp[h]
 ·rw[BL h];simp[h]
structure bg(H0 H:Hp)(d:Addr)(done:List<|Str×bc)(Y:List<|Key×V)(ks:Ð)(A:Str->Option (Addr×List Addr)):Prop where
 same:aj H0 H
 free:H0 d=none
 dict:H d=some (.dK Y)
 keys:Y.map (·.1)=ks.map Sum.inr
 nodup:ks.Nodup
 mem:∀z,z∈ks↔(A z).isSome=true
 val:∀z,aF Y (Sum.inr z)=(A z).map λa=> .ref a.1
 at':∀z a ts,A z=some (a,ts)->H0 a=none/\a≠d/\H a=some (.lst<|(ts.map V.ref))/\Pd H ts (bT done z)
 inj:∀z y a ts us,A z=some (a,ts)->A y=some (a,us)->z=y
 g7:∀z,A z=none->bT done z=[]
 some':∀z a ts,A z=some (a,ts)->bT done z≠[]
variable{d:Addr}
def bg.start(h:H d=none):bg H (upd H d<|.dK []) d [] [] [] (λ_=>none) where
 same:=λb u q=>by rwa[aw<|bz q h]
 free:=h
 dict:=az
 keys:=rfl
 nodup:=Cd
 mem:=λz=>by simp
 val:=λz=>rfl
 at':=λz a ts h=>by cases h
 inj:=λz y a ts us h=>by cases h
 g7:=λz _=>rfl
 some':=λz a ts h=>by cases h
def vX{t a:Addr}{xs:List V}(h:H t=some (Tp e))(g:H a=some (.lst xs)):t≠a:=cf h g λz=>nomatch z
variable{A:Str->Option (Addr×List Addr)}{ks:Ð}{Y:List (Key×V)}{done:List (Str×bc)}
def bg.old{r:Hp}(S:bg r H d done Y ks A){a k t:Addr}
  (m:A z=some (a,ts)) (D:H k=none) (p:(upd H k<|.lst []) t=none):
  bg r (upd (upd (upd H k<|.lst []) t<|Tp e) a<|.lst<|(ts.map V.ref)++[.ref t]) d (done++[(z,e)]) Y ks (λy=>if y=z then some (a,ts++[t])else A y):=by
 obtain⟨s,v,w,E⟩:=S.at' z a ts m;have x:H t=none:=by
  by_cases c:t=k
  ·rw[c,az]at p;cases p
  ·rwa[aw c]at p
 have G:=(bz w x).symm;have keep:∀b u,b≠a->H b=some u->(upd (upd (upd H k<|.lst []) t<|Tp e) a<|.lst<|(ts.map V.ref)++[.ref t]) b=some u:=λb u j i=>by
  rwa[aw j,aw<|bz i x,aw<|bz i D]
 have B:∀b f,H b=some (Tp f)->(upd (upd (upd H k<|.lst []) t<|Tp e) a<|.lst<|(ts.map V.ref)++[.ref t]) b=some (Tp f):=λb f h=>keep b _ (vX h w) h;have I:(upd (upd (upd H k<|.lst []) t<|Tp e) a<|.lst<|(ts.map V.ref)++[.ref t]) t=some (Tp e):=by rw[aw G,az]
 refine⟨λb u h=>?_,S.free,keep d _ (CK v) S.dict,S.keys,S.nodup,λy=>?_,λy=>?_,λy n l h=>?_,λy q n l C j i=>?_,λy h=>?_,λy n l h=>?_⟩
 ·exact keep b u (bz h s)<|S.same _ _ h
 ·rw[S.mem y]
  by_cases c:y=z
  ·rw[BP c,c,m];simp
  ·rw[BL c]
 ·rw[S.val y]
  by_cases c:y=z
  ·rw[BP c,c,m];rfl
  ·rw[BL c]
 ·by_cases c:y=z
  ·rw[BP c]at h;cases h;refine⟨s,v,by rw[az,Al];rfl,?_⟩;rw[dI,c,BP rfl];exact(E.keep B).append<|.cons I .nil
  ·rw[BL c]at h;obtain⟨J,L,M,N⟩:=S.at' y n l h;have O:n≠a:=λQ=>c<|S.inj y z a l ts (Q ▸ h) m;refine⟨J,L,keep _ _ O M,?_⟩;rw[dI,BL λh=>c h.symm,Bp];exact N.keep B
 ·by_cases c:y=z<;>by_cases o:q=z
  ·rw[c,o]
  ·rw[BP c]at j;rw[BL o]at i;cases j;exact absurd (S.inj q z a C ts i m) o
  ·rw[BL c]at j;rw[BP o]at i;cases i;exact absurd (S.inj y z a l ts j m) c
  ·rw[BL c]at j;rw[BL o]at i;exact S.inj y q n l C j i
 ·by_cases c:y=z
  ·rw[BP c]at h;cases h
  ·rw[BL c]at h;rw[dI,BL λh=>c h.symm,Bp];exact S.g7 y h
 ·by_cases c:y=z
  ·rw[dI,BP c.symm];simp
  ·rw[BL c]at h;rw[dI,BL λh=>c h.symm,Bp];exact S.some' y n l h
def bg.new{p:Hp}(S:bg p H d done Y ks A){a t:Addr}
  (q:A z=none) (k:H a=none) (m:(upd (upd H a<|.lst []) d<|.dK<|putK Y (Sum.inr z)<|.ref a) t=none):
  bg p (upd (upd (upd (upd H a<|.lst []) d<|.dK<|putK Y (Sum.inr z)<|.ref a) t<|Tp e) a<|.lst [.ref t]) d (done++[(z,e)]) (putK Y (Sum.inr z)<|.ref a) (ks++[z]) (λy=>if y=z then some (a,[t])else A y):=by
 have w:=bz S.dict k;have r:t≠d:=λc=>by rw[c,az]at m;cases m
 have B:t≠a:=λc=>by rw[aw r,c,az]at m;cases m
 have G:H t=none:=by rwa[aw r,aw B]at m
 have I:aF Y (Sum.inr z)=none:=by rw[S.val z,q];rfl
 have keep:∀b u,b≠d->H b=some u->(upd (upd (upd (upd H a<|.lst []) d<|.dK<|putK Y (Sum.inr z)<|.ref a) t<|Tp e) a<|.lst [.ref t]) b=some u:=λb u j i=>by
  rwa[aw<|bz i k,aw<|bz i G,aw j,aw<|bz i k]
 have J:∀b f,H b=some (Tp f)->(upd (upd (upd (upd H a<|.lst []) d<|.dK<|putK Y (Sum.inr z)<|.ref a) t<|Tp e) a<|.lst [.ref t]) b=some (Tp f):=λb f h=>keep b _ (cf h S.dict λz=>nomatch z) h;have s:p a=none:=S.same.free k;have L:z∉ks:=λh=>by
  have:=(S.mem z).mp h;rw[q]at this;cases this
 refine⟨λb u h=>?_,S.free,?_,?_,?_,λy=>?_,λy=>?_,λy n l h=>?_,λy v n l C j i=>?_,λy h=>?_,λy n l h=>?_⟩
 ·exact keep b u (bz h S.free)<|S.same _ _ h
 ·rw[aw w,aw r.symm,az]
 ·rw[Pu _ I,Al,S.keys,Al];rfl
 ·rw[Co];exact⟨S.nodup,by simp,λx M y D e=>by rw[Ad]at D;subst D e;exact L M⟩
 ·rw[Am,Ad,S.mem y]
  by_cases c:y=z
  ·rw[BP c];simp[c]
  ·rw[BL c];simp[c]
 ·rw[d8]
  by_cases c:y=z
  ·rw[BP (by rw[c]),BP c];rfl
  ·rw[BL λh=>c<|Sum.inr.inj h,BL c,S.val y]
 ·by_cases c:y=z
  ·rw[BP c]at h;cases h;refine⟨s,w.symm,by rw[az];rfl,?_⟩;rw[dI,c,BP rfl,S.g7 z q];exact .cons (by rw[aw B,az]) .nil
  ·rw[BL c]at h;obtain⟨N,E,O,Q⟩:=S.at' y n l h;refine⟨N,E,keep _ _ E O,?_⟩;rw[dI,BL λh=>c h.symm,Bp];exact Q.keep J
 ·by_cases c:y=z<;>by_cases o:v=z
  ·rw[c,o]
  ·rw[BP c]at j;rw[BL o]at i;cases j;exact absurd k<|by rw[(S.at' v a C i).2.2.1];exact λh=>nomatch h
  ·rw[BL c]at j;rw[BP o]at i;cases i;exact absurd k<|by rw[(S.at' y a l j).2.2.1];exact λh=>nomatch h
  ·rw[BL c]at j;rw[BL o]at i;exact S.inj y v n l C j i
 ·by_cases c:y=z
  ·rw[BP c]at h;cases h
  ·rw[BL c]at h;rw[dI,BL λh=>c h.symm,Bp];exact S.g7 y h
 ·by_cases c:y=z
  ·rw[dI,BP c.symm];simp
  ·rw[BL c]at h;rw[dI,BL λh=>c h.symm,Bp];exact S.some' y n l h
theorem Ik:∀n m k,fv k (n++m)=fv k n++fv (k+n.length) m
 |[],m,k=>rfl
 |a :: n,m,k=>by
  show bF k a.2 0++fv (k+1) (n++m)=(bF k a.2 0++fv (k+1) n)++fv (k+(n.length+1)) m;rw[Ik n m<|k+1,Ar,show k+1+n.length=k+(n.length+1) by omega]
theorem tQ(h:r<n.length):bn (n.take<|r+1)=bn (n.take r)++bF r (row n r) 0:=by
 unfold bn;rw[Cj,Ab h,Ik];have e:(n.take r).length=r:=by rw[Br];omega
 rw[e,Ex];have a:row n r=n[r].2:=by unfold row;rw[Ab h];rfl
 rw[a];show _++(bF r n[r].2 0++[])=_;rw[Bp]
theorem qK{ts:Ð}(h:ts[p]?=some z):bF r (ts.take<|p+1) 0=bF r (ts.take p) 0++[(z,(r,p))]:=by
 unfold bF;have a:=(Ac.mp h).1;rw[Cj,h,QW,Al];have e:(ts.take p).length=p:=by rw[Br];omega
 rw[e,Ex];rfl
structure bY(H:Hp)(d:Addr)(n:bi)(ks:Ð):Prop where
 dict:∃Y,H d=some (.dK Y)/\Y.map (·.1)=ks.map Sum.inr/\∀z∈ag n,∃a ts,aF Y (Sum.inr z)=some (.ref a)/\H a=some (.lst<|(ts.map V.ref))/\Pd H ts (pos n z)
 nodup:ks.Nodup
 mem:∀z,z∈ks↔z∈ag n
def bY.same{H':Hp}(S:bY H d n ks)(s:aj H H'):bY H' d n ks:=by
 obtain⟨Y,b,c,f⟩:=S.dict;refine⟨⟨Y,s _ _ b,c,λz i=>?_⟩,S.nodup,S.mem⟩;obtain⟨a,ts,j,k,l⟩:=f z i;exact⟨a,ts,j,s _ _ k,l.keep λt e h=>s _ _ h⟩
def cI:z∈ag n↔pos n z≠[]:=by
 rw[<-Ds,<-qI,Cu]
theorem bg.whole{c:Hp}(S:bg c H d (bn n) Y ks A):bY H d n ks:=by
 have b:∀z,z∈ks↔z∈ag n:=λz=>by
  rw[S.mem z,cI];cases h:A z with
  |none=>simp;exact S.g7 z h
  |some p=>
   obtain⟨a,ts⟩:=p;simp;exact S.some' z a ts h
 refine⟨⟨Y,S.dict,S.keys,λz e=>?_⟩,S.nodup,b⟩;have:=(S.mem z).mp<|(b z).mpr e;cases h:A z with
 |none=>rw[h]at this;cases this
 |some p=>
  obtain⟨a,ts⟩:=p;obtain⟨j,k,f,i⟩:=S.at' z a ts h;exact⟨a,ts,by rw[S.val z,h];rfl,f,i⟩
def AD(e:Nat->Bool):(range 2).all e=(e 0 && e 1):=by
 show(([0,1]:List Nat).all e)=_;simp
theorem Rn(x y:bc):(c6 (.int x.1) (.int y.1) && c6 (.int x.2) (.int y.2))=decide (x=y):=by
 obtain⟨a,b⟩:=x;obtain⟨c,d⟩:=y
 by_cases h:a=c<;>by_cases f:b=d
 ·subst h f;simp[c6]
 ·have:¬(b:Int)=(d:Int):=λe=>f (by omega);simp[c6,f,this]
 ·have:¬(a:Int)=(c:Int):=λe=>h (by omega);simp[c6,h,this]
 ·have:¬(a:Int)=(c:Int):=λe=>h (by omega);simp[c6,h,this]
section
variable{X:Cx}{s t:Addr}{x y:bc}
theorem Ro:∀j u v,[V.int x.1,.int x.2][j]?=some u->[V.int y.1,.int y.2][j]?=some v->qG X H 0 u v (if j=0 then c6 (.int x.1) (.int y.1)else c6 (.int x.2) (.int y.2))
 |0,u,v,a,b=>by
  cases a;cases b;exact zH rfl rfl
 |1,u,v,a,b=>by
  cases a;cases b;exact zH rfl rfl
 |j+2,u,v,a,b=>by simp at a
def tU(a:H s=some (Tp x))(b:H t=some (Tp y)):vS X H 1 (.ref s) (.ref t) (decide (x=y)):=by
 have:=SA (X:=X) (λj=>if j=0 then c6 (.int x.1) (.int y.1)else c6 (.int x.2) (.int y.2)) (aQ.of a) (aQ.of b) rfl Ro;rw[show([V.int (x.1:Int),.int x.2].length)=2 from rfl,AD]at this;have e:=Rn x y;simp only[CZ]at this;rwa[BL (by decide),e]at this
def Th(a:H s=some (Tp x))(b:H t=some (Tp y)):tO X H 1 (.ref s) (.ref t) (decide (x=y)):=by
 have:=Q9 (X:=X) (λj=>if j=0 then c6 (.int x.1) (.int y.1)else c6 (.int x.2) (.int y.2)) (aQ.of a) (aQ.of b) rfl Ro;rw[show([V.int (x.1:Int),.int x.2].length)=2 from rfl,AD]at this;have e:=Rn x y;simp only[CZ]at this;rwa[BL (by decide),e]at this
end
abbrev mi:Str:= "abcdefghijklmnopqrstuvwxyz0123456789"
def Rq:mi.cps.toList.length=36:=by decide +kernel
def la:mi.cps.toList.Nodup:=by decide +kernel
def sgn(i:Int):Nat:=(fj mi.cps.toList<|i%36).getD 0
theorem Il(i:Int):fj mi.cps.toList (i%36)=some (sgn i):=by
 have a:(i%36).toNat<mi.cps.toList.length:=by rw[Rq];omega
 have q:=tq (xs:=mi.cps.toList) (j:=(i%36).toNat) (v:=mi.cps.toList[(i%36).toNat]) (by simp[a]);rw[show(((i%36).toNat:Nat):Int)=i%36 by omega]at q;unfold sgn;rw[q];rfl
theorem Rr{i j:Int}(h:sgn i=sgn j):i%36=j%36:=by
 have ff:∀k:Int,mi.cps.toList[(k%36).toNat]?=some (sgn k):=λk=>by
  have l:0<=k%36:=Cg _ (by decide);have m:k%36<36:=Cn _ (by decide);have a:(k%36).toNat<mi.cps.toList.length:=by rw[Rq];omega
  have q:=tq (xs:=mi.cps.toList) (j:=(k%36).toNat) (v:=mi.cps.toList[(k%36).toNat]) (by simp[a]);rw[show(((k%36).toNat:Nat):Int)=k%36 by omega,Il]at q;rw[Ab a,Option.some.inj q]
 have b:=ff i;have a:=ff j;rw[h]at b;obtain⟨c,d⟩:=Ac.mp b;obtain⟨e,f⟩:=Ac.mp a;have:=(Gy (xs:=mi.cps.toList) (h₀:=c) (h₁:=e) la).mp<|d.trans f.symm;have n:0<=i%36:=Cg _ (by decide);have o:0<=j%36:=Cg _ (by decide);omega
def turn(b:Int)(sp:Int)(v k:Nat):Int:=b/64+(k:Int)*(b/7%5)+(if(k:Int)=sp then(v:Int)else 0)
def nm(b sp:Int)(v:Nat):Nat->Str
 |0=>⟨#[]⟩
 |k+1=>nm b sp v k++⟨#[sgn<|turn b sp v k]⟩
def xz(x y:Str):(x++y).cps.toList=x.cps.toList++y.cps.toList:=by
 show(x.cps++y.cps).toList=_;simp
theorem zO(b sp:Int)(v:Nat):∀k,(nm b sp v k).cps.toList=(range k).map λj=>sgn<|turn b sp v j
 |0=>rfl
 |k+1=>by
  show(nm b sp v k++⟨#[sgn<|turn b sp v k]⟩).cps.toList=_;rw[xz,zO b sp v k,Dk,Al];rfl
variable{b:Int}
theorem HI{sp:Int}{u v k:Nat}(f:u<36)(i:v<36)(l:0<=sp)(m:sp<(k:Int))(h:nm b sp u k=nm b sp v k):u=v:=by
 have e:(nm b sp u k).cps.toList=(nm b sp v k).cps.toList:=by rw[h]
 rw[zO,zO]at e;have c:sp.toNat<k:=(by omega)
 have q:((range k).map λj=>sgn<|turn b sp u j)[sp.toNat]?=((range k).map λj=>sgn<|turn b sp v j)[sp.toNat]?:=by rw[e]
 rw[Ah,Ah,Dx c]at q;have d:=Option.some.inj q;have a:=Rr d;unfold turn at a;rw[show((sp.toNat:Nat):Int)=sp by omega,BP rfl,BP rfl]at a;omega
theorem wE(c:Nat):∀k acc,((replicate k (#[c]:Array Nat)).foldl (·++·) acc).toList=acc.toList++replicate k c
 |0,acc=>by simp
 |k+1,acc=>by
  rw[List.replicate_succ,Dh,wE c k,List.replicate_succ];simp
theorem mul_list(c:Nat){i:Int}(h:1<=i):(Txt.mul ⟨#[c]⟩ i).cps.toList=replicate i.toNat c:=by
 unfold Txt.mul;rw[BL<|(by omega)]
 by_cases e:i=1
 ·subst e;rfl
 ·have a:(i == 1 || (⟨#[c]⟩:Str).length == 0)=false:=by
   have:(i == 1)=false:=by simpa using e
   rw[this];rfl
  rw[a];simp only[Aq,CP];have:=wE c i.toNat #[]
  simpa using this
def aV(b:Int)(v:Nat):Str:=if b%3=2 then Txt.mul ⟨#[sgn<|b/64+(v:Int)/8]⟩ (1+(v:Int)%8)else nm b (b/8%(1+b%8)) v (1+b%8).toNat
theorem qQ{u v:Nat}(a:u<36)(d:v<36)(h:aV b u=aV b v):u=v:=by
 have f:0<=b%8:=Cg _ (by decide);unfold aV at h
 by_cases c:b%3=2
 ·rw[BP c,BP c]at h;have i:0<=(u:Int)%8:=Cg _ (by decide);have v0:0<=(v:Int)%8:=Cg _ (by decide);have e:(Txt.mul ⟨#[sgn<|b/64+(u:Int)/8]⟩<|1+(u:Int)%8).cps.toList=(Txt.mul ⟨#[sgn<|b/64+(v:Int)/8]⟩<|1+(v:Int)%8).cps.toList:=by rw[h]
  rw[mul_list _ (by omega),mul_list _<|(by omega)]at e;have l:=BZ List.length e;rw[Fp,Fp]at l;have hd:(replicate (1+(u:Int)%8).toNat<|sgn<|b/64+(u:Int)/8)[0]?=(replicate (1+(v:Int)%8).toNat<|sgn<|b/64+(v:Int)/8)[0]?:=by rw[e]
  rw[Fc,Fc,BP (by omega),BP<|(by omega)]at hd;have q:=Rr<|Option.some.inj hd;omega
 ·rw[BL c,BL c]at h;refine HI a d (Cg _<|(by omega)) ?_ h;have:=Cn (b/8) (show 0<1+b%8 by omega);omega
def namesOf(b:Int)(m:Nat):Ð:=(range m).map<|aV b
theorem zP{m:Nat}(h:m<=36):(namesOf b m).Nodup:=by
 unfold namesOf;refine RL _ (R:=λi j=>i<j/\j<m) ?_ ?_
 ·rintro i j ⟨d,f⟩ e;have:=qQ (by omega) (by omega) e;omega
 ·rw[Bc];intro i j k a c;simp only[Fi];simp at a;exact⟨c,a⟩
def zQ(b:Int)(m:Nat):namesOf b (m+1)=namesOf b m++[aV b m]:=by
 unfold namesOf;rw[Dk,Al];rfl
def Im(b:Int)(m:Nat):(namesOf b m).length=m:=by unfold namesOf;simp
def k7a{m i:Nat}(h:i<m):(namesOf b m)[i]?=some (aV b i):=by
 unfold namesOf;rw[Ah,Dx h];rfl
end Nt
namespace E9
open PySem L2
def kw(i:Nat):Stmt:=PySem.Challenge.pw_threewebs_k54_kinds_of_the_other_net.main.body.getD i<|.Pass ⟨0,0,0,0⟩
abbrev zR:Stmt:=kw 1
abbrev zS:Stmt:=kw 2
abbrev Io:Stmt:=kw 3
abbrev Ip:Stmt:=kw 4
abbrev Iq:Stmt:=kw 5
abbrev zT:Stmt:=kw 6
abbrev zU:Stmt:=kw 7
abbrev zV:Stmt:=kw 8
abbrev Ir:Stmt:=kw 10
abbrev Iu:Stmt:=kw 11
abbrev qL:Stmt:=kw 13
abbrev zW:Stmt:=kw 18
abbrev zX:Stmt:=kw 19
abbrev Iv:Stmt:=kw 20
abbrev Iw:Stmt:=kw 21
abbrev Iy:Stmt:=kw 23
abbrev iP:Stmt:=kw 24
abbrev zY:Stmt:=kw 25
abbrev qM:Stmt:=kw 27
abbrev qN:Stmt:=kw 28
abbrev vY:Stmt:=kw 29
abbrev zZ:Stmt:=kw 31
abbrev z6:Stmt:=kw 33
abbrev Iz:Stmt:=kw 34
abbrev IA:Stmt:=kw 35
abbrev IB:Stmt:=kw 37
abbrev IC:Stmt:=kw 39
abbrev qO:Stmt:=kw 40
abbrev IE:Stmt:=kw 41
abbrev IG:Stmt:=kw 42
abbrev IH:Stmt:=kw 43
abbrev II:Stmt:=kw 44
abbrev IJ:Stmt:=kw 45
abbrev qP:Stmt:=kw 46
abbrev qR:Stmt:=kw 47
abbrev z7:Stmt:=kw 48
abbrev z8:Stmt:=kw 49
abbrev z9:Stmt:=kw 51
abbrev AA:Stmt:=kw 52
abbrev qS:Stmt:=kw 53
structure Txt(mg:Ñ):Prop where
 IL:mg "isinstance" = none
 kK:mg "tuple" = none
 x0C:mg "str" = none
 vZ:mg "int" = none
 Rt:mg "bool" = none
 kL:mg "list" = none
 v5:mg "dict" = none
 nC:mg "set" = none
 enum:mg "enumerate" = none
 zip:mg "zip" = none
 len:mg "len" = none
 range:mg "range" = none
 sorted:mg "sorted" = none
 max:mg "max" = none
 all:mg "all" = none
 x0D:mg "ValueError" = none
open Nt bE
variable{n:Nat}
theorem xp(h:n<=100000):n<=sizeLine:=by rw[DX];omega
theorem cg(h:n<=100000):n<sizeLine:=by rw[DX];omega
variable{H:Hp}
def aS{p:Addr}(h:H p=none)(o:HO):aj H (upd H p o):=λb u q=>by rwa[aw<|bz q h]
def fI{a c:Hp}{r:Addr}{o:HO}(s:aj a c)(h:a r=none):aj a (upd c r o):=λb u q=>by
 rw[aw<|bz q h];exact s _ _ q
variable{zs:Ð}
def IM{l:Addr}{y:Str}:upd H l (.lst<|zs.map V.str++[V.str y])=upd H l (Ls<|zs++[y]):=by
 show _=upd H l (.lst<|(zs++[y]).map V.str);rw[Al];rfl
def AB(K:aa):Sp:=λb H Q _=>∃(a:Addr)(c:List Int)(k:Int),b=[.ref a,.int k]/\au K H a (c.map V.int)/\0<=k/\∀i,Q (.int i) H
def IP(K:aa):Sp:=λc H Q _=>∃(a:Addr)(d:List Int)(k:Int),c=[.ref a,.int k]/\au K H a (d.map V.int)/\0<=k/\∀i b,aj H b->Q (.int i) b
def IQ:Sp:=λc H Q _=>∃b m,c=[.int b,.int m]/\0<=m/\m<=36/\∀l a,aj H a->H l=none->a l=some (Ls<|namesOf b m.toNat)->Q (.ref l) a
def tR:Sp:=λb H Q _=>∃R as n,b=[.ref R]/\ai H R as n/\n.length<=1000/\(ag n).length<=1000/\∀d c a,aj H a->H d=none->bY a d n c->Q (.ref d) a
def AF:Sp:=λa H Q _=>∃R d t as n b e,a=[.ref R,.ref d,.ref t]/\ai H R as n/\bY H d n b/\aq n/\H t=some (Tp e)/\e∈ends n/\∀u,H u=some (Tp<|(other n e))->Q (.ref u) H
def IT:Sp:=λb H Q _=>∃R d t as n c e,b=[.ref R,.ref d,.ref t,.int 1]/\ai H R as n/\bY H d n c/\aq n/\H t=some (Tp e)/\e∈ends n/\∀u a,aj H a->H u=none->a u=some (Tp<|step n e)->Q (.ref u) a
def IU:Sp:=λf H Q _=>∃R d t as n h e,f=[.ref R,.ref d,.ref t]/\ai H R as n/\bY H d n h/\aq n/\H t=some (Tp e)/\e∈ends n/\(ends n).length<=1000 /\
 ∀l b c a,aj H a->H l=none->a l=some (.lst<|(b.map V.ref))->Pd a b c->dz n e c->Q (.ref l) a
variable{Z:Heap}{mg:Ñ}{K:aa}{ns:List Int}{fd:FuncData}{f:Addr}{i:Int}{Y:List (Key×V)}
section
variable{P:Program}{w:World}
def ug:ak ["_law_script","_law_k"] ["_law_script","_law_k"] (aW IC):=cm
theorem CI{k:Int}(b:0<=k)(c:k<(ns.length:Int)):∃v:Int,fj (ns.map V.int) k=some (.int v):=by
 have a:k.toNat<ns.length:=(by omega)
 have q:=tq (xs:=ns.map V.int) (j:=k.toNat) (v:= .int ns[k.toNat]) (by simp[a]);rw[show((k.toNat:Nat):Int)=k by omega]at q;exact⟨_,q⟩
def br(F:bB K "_law_cell_at" "_law_cell_at" IC f fd)(T:Txt mg):(aE P w K mg Z bK) 1 f fd ["_law_script","_law_k"] (AB K):=by
 refine F.gc ug λj H l Q E m h=>?_;obtain⟨a,ns,k,rfl,b,e,q⟩:=h;refine dP<|cz YG<|ae 1<|cM eU T.len DY<|ah<|ae 0<|ax ⟨a,_,rfl,.inl b,_,_,rfl,rfl,_,rfl,?_⟩;refine jC (λc=>?_) λc=>?_
 ·have d:=BX c;obtain⟨v,i⟩:=CI (ns:=ns) e (by rw[Aa]at d;exact d);exact bS<|a8 dF<|ae 0<|ae 1 ⟨a,_,_,.int v,rfl,rfl,b,i,q v⟩
 ·exact a9<|bS<|aG<|q 0
abbrev qT:List V:=[.int 48271,.int 69621,.int 16807,.int 39373,.int 21401,.int 60493,.int 87721,.int 31337]
abbrev g8:List V:=[.int 99991,.int 99989,.int 99971,.int 99961,.int 99929,.int 99923,.int 99907,.int 99901]
def AC(a:0<=i)(b:i<8):i=0\/i=1\/i=2\/i=3\/i=4\/i=5\/i=6\/i=7:=by
 obtain⟨k,rfl⟩:=Int.eq_ofNat_of_zero_le a;exact(by decide:∀k:Fin 8,(k.1:Int)=0\/(k.1:Int)=1\/(k.1:Int)=2\/(k.1:Int)=3\/(k.1:Int)=4\/(k.1:Int)=5\/(k.1:Int)=6\/(k.1:Int)=7) ⟨k,Int.ofNat_lt.mp b⟩
def sI(a:0<=i)(b:i<8):∃m:Int,fj qT i=some (.int m)/\0<m/\m<100000:=by
 obtain rfl|rfl|rfl|rfl|rfl|rfl|rfl|rfl:=AC a b<;>exact⟨_,rfl,(by decide),(by decide)⟩
def sC(a:0<=i)(b:i<8):∃m:Int,fj g8 i=some (.int m)/\0<m/\m<100000:=by
 obtain rfl|rfl|rfl|rfl|rfl|rfl|rfl|rfl:=AC a b<;>exact⟨_,rfl,(by decide),(by decide)⟩
def oX:ak ["_law_script","_law_at","_law_by","_law_prime","_law_cell","_law_big_here","_law_k","_law_one"] ["_law_script","_law_at"] (aW qO):=cm
theorem Sb(F:bB K "_law_big" "_law_big" qO f fd)(T:Txt mg)(G:(aP P w K mg Z) 1 "_law_cell_at" ["_law_script","_law_k"]<|AB K):
  (aE P w K mg Z bK) 2 f fd ["_law_script","_law_at"] (IP K):=by
 refine F.gc oX λL H M Q E s h=>?_;obtain⟨a,ns,k,rfl,t,C,q⟩:=h;have nd:=oX.nd;refine aZ 2 nd (d9<|ah<|aG<|ah<|aG<|ah<|aG<|ah<|aG<|ah<|aG<|ah<|aG<|ah<|aG<|ah<|aG<|ax ⟨(by show 8<=sizeLine;decide),λp D=>?_⟩);refine aZ 3 nd (d9<|ah<|aG<|ah<|aG<|ah<|aG<|ah<|aG<|ah<|aG<|ah<|aG<|ah<|aG<|ah<|aG<|ax ⟨(by show 8<=sizeLine;decide),λd l=>?_⟩);have m:p≠d:=by
  intro e;rw[<-e,az]at l;cases l
 have I:aj H (upd H p<|.tup qT):=aS D _;have j:aj H (upd (upd H p<|.tup qT) d<|.tup g8):=I.trans<|aS l _;have y:(upd (upd H p<|.tup qT) d<|.tup g8) p=some (.tup qT):=by rw[aw m,az]
 have A:(upd (upd H p<|.tup qT) d<|.tup g8) d=some (.tup g8):=az;generalize upd (upd H p<|.tup qT) d (.tup g8)=J at j y A ⊢;refine aZ 4 nd<|bC G s<|ah<|ae 0<|ah<|ae 1<|ax ⟨a,ns,k,rfl,j.seq t,C,λb=>?_⟩;refine P8 True True (λR B=>?_) (λ_=>?_) λ_=>a9 ?_
 ·refine F6 (RC<|cz fX<|bh dh<|ae 4<|aG ⟨_,_,rfl,rfl,(by show(0:Int)<2;decide),aG ⟨rfl,_,rfl,?_⟩⟩);refine jC (λc=>?_) (λc=>B false (λz=>nomatch z) λ_=>trivial);exact NJ<|cz YH<|ae 4<|bh OM<|aG<|aG ⟨_,_,rfl,rfl,⟨(by decide),(by decide),(by decide)⟩,_,_,rfl,rfl,_,rfl,B _ (λ_=>trivial) λ_=>trivial⟩
 ·exact bS<|bh jB<|ae 4<|aG ⟨_,_,rfl,rfl,⟨(by decide),(by decide)⟩,q _ _ j⟩
 refine aZ 5 nd<|aG ?_;refine m8 T.range<|aG ⟨60,rfl,(by decide),(by decide),m9 (n:=60) (λ_ o r=>r=J/\∃(x:Int)(u v:Option V),o=[(some (.ref a)),some<|.int k,(some (.ref p)),(some (.ref d)),some<|.int b,some<|.int x,u,v]) ⟨rfl,0,_,_,rfl⟩ ?_ ?_⟩
 ·rintro i o r N ⟨rfl,x,u,v,rfl⟩;have O:0<=(0+(i:Int))%9:=Cg _ (by decide);obtain⟨U,f1,g1,g2⟩:=sI (i:=(0+(i:Int))%8) (Cg _<|(by decide)) (Cn _<|(by decide));obtain⟨Y,f2,g3,g4⟩:=sC (i:=(0+(i:Int))%8) (Cg _<|(by decide)) (Cn _<|(by decide));refine bw 6 nd ?_;refine aZ 7 nd<|bh iu<|bh iu<|bh dh<|bC G s<|ah<|ae 0<|ah<|bh iu<|ae 1<|bh dh<|ae 6<|aG ?_;refine⟨_,_,rfl,rfl,(by show(0:Int)<9;decide),_,_,rfl,rfl,ax ⟨a,ns,_,rfl,j.seq t,?_,λc=>?_⟩⟩
  ·show 0<=k+(0+(i:Int))%9;omega
  refine bh OM (aG<|aG ⟨_,_,rfl,rfl,⟨(by decide),(by decide),(by decide)⟩,_,_,rfl,rfl,(by show(0:Int)<10 ^ (18:Int).toNat;decide),aG ⟨_,_,rfl,rfl,?_⟩⟩);refine bh yX<|ae 6<|ae 6 ?_;refine⟨_,_,rfl,rfl,.inl ⟨(by omega),(by omega)⟩,_,_,rfl,rfl,?_⟩;refine aZ 5 nd (bh iu<|bh yX<|ae 5<|aG ⟨_,_,rfl,rfl,.inr ⟨(by decide),(by decide)⟩,?_⟩);refine bh dh (bh dh<|bh yX<|ae 7<|a8 bQ<|ae 2<|bh dh<|ae 6<|aG ⟨_,_,rfl,rfl,(by show(0:Int)<8;decide),p,_,_,_,rfl,rfl,aQ.of y,f1,_,_,rfl,rfl,.inr ⟨(by omega),(by omega)⟩,?_⟩);refine a8 bQ (ae 3<|bh dh<|ae 6<|aG ⟨_,_,rfl,rfl,(by show(0:Int)<8;decide),d,_,_,_,rfl,rfl,aQ.of A,f2,_,_,rfl,rfl,g3,aG ⟨_,_,rfl,rfl,(by show(0:Int)<7919;decide),_,_,rfl,rfl,?_⟩⟩);exact a9 ⟨rfl,_,_,_,rfl⟩
 ·rintro o r ⟨rfl,x,u,v,rfl⟩;exact bS<|ae 5<|q x _ j
abbrev NN:Ð:=["_law_stem","_law_many","_law_signs","_law_size","_law_spot","_law_names_here","_law_v","_law_name","_law_k","_law_turn"]
def jh:ak NN ["_law_stem","_law_many"] (aW IE):=cm
theorem tM(F:bB K "_law_names" "_law_names" IE f fd)(T:Txt mg):(aE P w K mg Z bK) 1 f fd ["_law_stem","_law_many"] IQ:=by
 refine F.gc jh λA H B Q E C h=>?_;obtain⟨b,m,rfl,D,G,q⟩:=h;have nd:=jh.nd;have I:0<=b%8:=Cg _ (by decide);have J:b%8<8:=Cn _ (by decide);refine aZ 2 nd<|fZ ?_;refine aZ 3 nd (bh iu<|aG<|bh dh<|ae 0<|aG ⟨_,_,rfl,rfl,(by show(0:Int)<8;decide),_,_,rfl,rfl,?_⟩);refine aZ 4 nd (bh dh<|bh jB<|ae 0<|aG ⟨_,_,rfl,rfl,⟨(by decide),(by decide)⟩,ae 3 ⟨_,_,rfl,rfl,(by show 0<1+b%8;omega),?_⟩⟩);refine aZ 5 nd<|di<|ax ⟨Z0,λl x=>?_⟩;have z:b/8%(1+b%8)=b/8%(1+b%8):=rfl;refine m8 T.range<|ae 1 ⟨m,rfl,(by omega),(by omega),m9 (n:=m.toNat) (λi d s=>s=upd H l (Ls<|namesOf b i)/\∃t u k o,d=[some<|.int b,some<|.int m,some<|.str mi,some<|.int<|1+b%8,some<|.int<|b/8%(1+b%8),(some (.ref l)),t,u,k,o]) ⟨rfl,_,_,_,_,rfl⟩ ?_ ?_⟩
 ·rintro i d s L ⟨rfl,t,u,k,o,rfl⟩;refine bw 6 nd ?_;refine aZ 7 nd<|fZ ?_;refine m8 T.range<|ae 3 ⟨_,rfl,(by omega),(by omega),m9 (n:=(1+b%8).toNat) (λj d v=>v=upd H l (Ls<|namesOf b i)/\∃(k o:Option V),d=[some<|.int b,some<|.int m,some<|.str mi,some<|.int<|1+b%8,some<|.int<|b/8%(1+b%8),(some (.ref l)),some<|.int<|0+(i:Int),some<|.str<|nm b (b/8%(1+b%8)) i j,k,o]) ⟨rfl,_,_,rfl⟩ ?_ ?_⟩
  ·rintro j d v M ⟨rfl,y,v4,rfl⟩;have N:0<=b/7%5:=Cg _ (by decide);have O:b/7%5<5:=Cn _ (by decide);have nl:(nm b (b/8%(1+b%8)) i j).length=j:=by
    have:=BZ List.length<|zO b (b/8%(1+b%8)) i j;show(nm b (b/8%(1+b%8)) i j).cps.size=j
    simpa using this
   refine bw 8 nd ?_;refine aZ 9 nd (bh iu<|bh jB<|ae 0<|aG ⟨_,_,rfl,rfl,⟨(by decide),(by decide)⟩,bh yX<|ae 8<|bh dh<|bh jB<|ae 0<|aG ⟨_,_,rfl,rfl,⟨(by decide),(by decide)⟩,aG ⟨_,_,rfl,rfl,(by show(0:Int)<5;decide),?_⟩⟩⟩);refine⟨_,_,rfl,rfl,.inr ⟨(by omega),(by omega)⟩,_,_,rfl,rfl,?_⟩;refine Q8 ((0+(j:Int))=b/8%(1+b%8)) (¬(0+(j:Int))=b/8%(1+b%8)) (λc p=>p=upd H l (Ls<|namesOf b i)/\c=[some<|.int b,some<|.int m,some<|.str mi,some<|.int<|1+b%8,some<|.int<|b/8%(1+b%8),(some (.ref l)),some<|.int<|0+(i:Int),some<|.str<|nm b (b/8%(1+b%8)) i j,some<|.int<|0+(j:Int),some<|.int<|turn b (b/8%(1+b%8)) i j]) (λR r=>?_) (λa=>?_) (λa=>a9 ⟨rfl,?_⟩) ?_
   ·refine cz fX<|ae 8<|ae 4 ⟨rfl,_,rfl,?_⟩
    by_cases a:(0+(j:Int))=b/8%(1+b%8)
    ·rw[BW (show V.int (0+(j:Int))=V.int (b/8%(1+b%8)) by rw[a])];exact r true (λ_=>a) λh=>by cases h
    ·rw[BR λh=>a<|V.int.inj h];exact r false (λh=>by cases h) λ_=>a
   ·refine aZ 9 nd<|bh iu<|ae 9<|ae 6 ⟨_,_,rfl,rfl,a9 ⟨rfl,?_⟩⟩;have e:b/64+(0+(j:Int))*(b/7%5)+(0+(i:Int))=turn b (b/8%(1+b%8)) i j:=by
     unfold turn;rw[BP (by omega),Ek,Ek]
    rw[<-e];rfl
   ·have e:b/64+(0+(j:Int))*(b/7%5)=turn b (b/8%(1+b%8)) i j:=by
     unfold turn;rw[BL (by omega),Ek,Int.add_zero]
    rw[<-e];rfl
   ·rintro c p ⟨rfl,rfl⟩;refine aZ 7 nd<|bh YR<|ae 7<|a8 O7<|ae 2<|bh dh<|ae 9<|aG ⟨_,_,rfl,rfl,(by show(0:Int)<36;decide),mi,_,sgn<|turn b (b/8%(1+b%8)) i j,rfl,rfl,by decide +kernel,Il _,_,_,rfl,rfl,xp (by show(nm b (b/8%(1+b%8)) i j).length+1<=100000;omega),a9 ⟨rfl,_,_,rfl⟩⟩
  ·rintro d v ⟨rfl,y,v4,rfl⟩;refine Q8 (b%3=2) (¬ b%3=2) (λc p=>p=upd H l (Ls<|namesOf b i)/\c=[some<|.int b,some<|.int m,some<|.str mi,some<|.int<|1+b%8,some<|.int<|b/8%(1+b%8),(some (.ref l)),some<|.int<|0+(i:Int),some<|.str<|aV b i,y,v4]) (λR r=>?_) (λa=>?_) (λa=>a9 ⟨rfl,?_⟩) ?_
   ·refine cz fX<|bh dh<|ae 0<|aG ⟨_,_,rfl,rfl,(by show(0:Int)<3;decide),aG ⟨rfl,_,rfl,?_⟩⟩
    by_cases a:b%3=2
    ·rw[BW (show V.int (b%3)=V.int 2 by rw[a])];exact r true (λ_=>a) λh=>by cases h
    ·rw[BR λh=>a<|V.int.inj h];exact r false (λh=>by cases h) λ_=>a
   ·have U:0<=(0+(i:Int))%8:=Cg _ (by decide);have Y:(0+(i:Int))%8<8:=Cn _ (by decide);refine aZ 7 nd (bh Z8<|a8 O7<|ae 2<|bh dh<|bh iu<|bh jB<|ae 0<|aG ⟨_,_,rfl,rfl,⟨(by decide),(by decide)⟩,bh jB<|ae 6<|aG ⟨_,_,rfl,rfl,⟨(by decide),(by decide)⟩,_,_,rfl,rfl,aG ⟨_,_,rfl,rfl,(by show(0:Int)<36;decide),mi,_,sgn<|b/64+(0+(i:Int))/8,rfl,rfl,by decide +kernel,Il _,?_⟩⟩⟩);refine bh iu (aG<|bh dh<|ae 6<|aG ⟨_,_,rfl,rfl,(by show(0:Int)<8;decide),_,_,rfl,rfl,?_⟩);refine⟨_,_,rfl,rfl,(by omega),(by omega),?_,a9 ⟨rfl,?_⟩⟩
    ·show 1*_<=_;omega
    ·have e:Txt.mul ⟨#[sgn<|b/64+(0+(i:Int))/8]⟩ (1+(0+(i:Int))%8)=aV b i:=by
      unfold aV;rw[BP a,Ek]
     rw[<-e];rfl
   ·have e:nm b (b/8%(1+b%8)) i (1+b%8).toNat=aV b i:=by
     unfold aV;rw[BL a]
    rw[<-e]
   ·rintro c p ⟨rfl,rfl⟩;refine gG<|ka<|ae 5 ⟨l,rfl,⟨_,az⟩,ae 7 ⟨_,az,?_,?_⟩⟩
    ·rw[Aa,Im];exact cg<|(by omega)
    ·rw[uN];refine a9 ⟨?_,_,_,_,_,rfl⟩;rw[zQ];exact IM
 ·rintro d s ⟨rfl,t,u,k,o,rfl⟩;exact bS<|ae 5<|q l _ (aS x _) x az
def uU{d:Addr}(h:H d=some (.dK Y)):mV K "dict" (.ref d) H:=Or.inr<|Or.inr<|Or.inl ⟨rfl,Or.inl ⟨Y,h⟩⟩
abbrev NS:Ð:=["_law_rows","_law_seats_here","_law_r","_law_place"]
def ji:ak NS ["_law_rows"] (aW IG):=cm
theorem dw(F:bB K "_law_seats" "_law_seats" IG f fd)(T:Txt mg):(aE P w K mg Z bK) 1 f fd ["_law_rows"] tR:=by
 refine F.gc ji λb0 H vs Q E hr h=>?_;obtain⟨R,as,n,rfl,v,hn,ht,q⟩:=h;have nd:=ji.nd;have cq:=v.len;refine aZ 1 nd<|Ih λd hd=>?_;refine m8 T.range (cM eU T.len DY<|ah<|ae 0<|ax ⟨R,_,rfl,.inl<|au.of<|aS hd _ _ _ v.lst,_,rfl,(by omega),by rw[Aa];omega,?_⟩);rw[Aa,cq,Bk];refine m9 (λr l J=>∃Y c A O m,bg H J d (bn<|n.take r) Y c A/\l=[(some (.ref R)),(some (.ref d)),O,m]) ⟨_,_,_,_,_,bg.start hd,rfl⟩ ?_ ?_
 ·rintro r l J U ⟨Y,c,i,O,m,S,rfl⟩;rw[Ek];refine bw 2 nd ?_;obtain⟨a,ea,dJ,et,el,er⟩:=(v.same S.same).at U;refine m8 T.range<|cM eU T.len DY<|ah<|a8 bQ<|a8 dF<|ae 0<|ae 2 ⟨R,_,_,.ref a.1,rfl,rfl,au.of<|S.same _ _ v.lst,dJ,aG ⟨a.1,_,_,.ref a.2,rfl,rfl,aQ.of et,rfl,ax ⟨a.2,_,rfl,.inl<|au.of el,_,rfl,(by omega),?_,?_⟩⟩⟩
  ·have:(row n r).length<=1000:=by
    have L:(row n r).length<=(ag n).length:=by
     exact jf n r
    omega
   rw[Aa];omega
  rw[Aa,Bk];refine m9 (λp l H4=>∃Y c A m,bg H H4 d (bn (n.take r)++bF r ((row n r).take p) 0) Y c A/\l=[(some (.ref R)),(some (.ref d)),some<|.int (r:Int),m]) ⟨Y,c,i,_,by simpa[bF]using S,rfl⟩ ?_ ?_
  ·rintro p l H4 hp ⟨Y,c,i,m,S,rfl⟩;rw[Ek];refine bw 3 nd ?_;obtain⟨a,ea,dJ,et,el,er⟩:=(v.same S.same).at U;have hz:(row n r)[p]?=some (row n r)[p]:=Ab hp;generalize (row n r)[p]=z at hz;have next:bn (n.take r)++bF r ((row n r).take<|p+1) 0=(bn (n.take r)++bF r ((row n r).take p) 0)++[(z,(r,p))]:=by
    rw[qK hz,Ar]
   have C:Y.length<sizeLine:=by
    have L:c.length<=1000:=by
     refine Ch (aU (b:=ag n) S.nodup λy hy=>?_) ht;have D:=(S.mem y).mp hy;cases j:i y with
     |none=>rw[j]at D;cases D
     |some pr=>
      obtain⟨o,G⟩:=pr;have h3:=S.some' y o G j;unfold bT at h3;obtain⟨x,hx⟩:=Gc _ h3;obtain⟨⟨y2,e2⟩,k,_⟩:=Ak.mp hx;rw[Bf,DQ]at k;obtain⟨k,rfl⟩:=k;have:(y2,e2)∈bn n:=by
       obtain k|k:=Am.mp k
       ·have s:=aT.mp k;refine aT.mpr ?_;have q2:=cB s;unfold aJ row at s ⊢;rw[Br]at q2;rwa[Eb<|(by omega)]at s
       ·have s:=bf.mp k;refine aT.mpr ?_;unfold aJ;rw[s.1];have B:=s.2.2;rw[VP]at B;have q4:=(Ac.mp B).1;rw[Br]at q4;rwa[Eb<|(by omega)]at B
      exact eV<|aT.mp this
    have D:=BZ List.length S.keys;rw[Aa,Aa]at D;exact cg<|(by omega)
   refine gG<|ka<|Ig PySem.F.plainAttrs_dict PySem.F.slot_dict_setdefault PySem.F.type_dict_setdefault DJ<|ae 1 ⟨uU S.dict,a8 dF<|a8 bQ<|a8 dF<|ae 0<|ae 2 ⟨R,_,_,.ref a.1,rfl,rfl,au.of<|S.same _ _ v.lst,dJ,aG ⟨a.1,_,_,.ref a.2,rfl,rfl,aQ.of et,rfl,ae 3 ⟨a.2,_,_,.str z,rfl,rfl,au.of el,vW hz,?_⟩⟩⟩⟩;refine di<|ax ⟨Z0,λI M=>?_⟩;have N:=bz S.dict M;refine⟨d,Y,Sum.inr z,.ref I,rfl,rfl,by rw[aw N];exact S.dict,C,?_⟩;cases j:i z with
   |some pr=>
    obtain⟨o,G⟩:=pr;obtain⟨s,q2,B,q4⟩:=S.at' z o G j;have zM:=bz B M;refine .inl ⟨.ref o,by rw[S.val z,j];rfl,o,rfl,⟨_,by rwa[aw zM]⟩,?_⟩;refine d9<|ah<|ae 2<|ah<|ae 3<|ax ⟨Z2,λt u=>?_⟩;have zN:o≠t:=λe=>by rw[<-e,aw zM,B]at u;cases u
    refine⟨G.map V.ref,by rwa[aw zN,aw zM],?_,?_⟩
    ·rw[Aa,q4.length];have L:(bT (bn (n.take r)++bF r ((row n r).take p) 0) z).length<=100000:=by
      unfold bT;rw[Aa];refine Ch (Dz _ _) ?_;rw[Ag];have D:(bn<|n.take r).length<=1000:=by
       have:=BZ List.length<|kJ (n.take r) 0;rw[Aa]at this;unfold bn;rw[this];exact Ch (Rm n r) ht
      have h3:(bF r ((row n r).take p) 0).length<=1000:=by
       unfold bF;rw[Aa,List.length_zipIdx,Br];have L:(row n r).length<=(ag n).length:=by
        exact jf n r
       omega
      omega
     exact cg L
    ·refine a9 ⟨Y,c,(λy=>if y=z then some (o,G++[t])else i y),_,?_,rfl⟩;rw[next];exact S.old (e:=(r,p)) j M u
   |none=>
    refine .inr ⟨by rw[S.val z,j];rfl,I,rfl,⟨_,by rw[aw N.symm];exact az⟩,?_⟩;refine d9<|ah<|ae 2<|ah<|ae 3<|ax ⟨Z2,λt u=>?_⟩;have nA:I≠t:=λe=>by rw[<-e,aw N.symm,az]at u;cases u
    refine⟨[],by rw[aw nA,aw N.symm,az],by show 0<sizeLine;decide,?_⟩;refine a9 ⟨putK Y (Sum.inr z)<|.ref I,c++[z],(λy=>if y=z then some (I,[t])else i y),_,?_,rfl⟩;rw[next];exact S.new (e:=(r,p)) j M u
  ·rintro l H4 ⟨Y,c,i,m,S,rfl⟩;refine a9 ⟨Y,c,i,_,_,?_,rfl⟩;rw[tQ U];rwa[Ca]at S
 ·rintro l J ⟨Y,c,i,O,m,S,rfl⟩;rw[Ca]at S;exact bS<|ae 1<|q d c J S.same S.free S.whole
abbrev NO:Ð:=["_law_rows","_law_seats_here","_law_end","_law_pair"]
def jj:ak NO ["_law_rows","_law_seats_here","_law_end"] (aW IH):=cm
theorem Pc(F:bB K "_law_other" "_law_other" IH f fd)(T:Txt mg):(aE P w K mg Z bK) 1 f fd ["_law_rows","_law_seats_here","_law_end"] AF:=by
 refine F.gc jj λU H vs Q E s h=>?_;obtain⟨R,d,t,as,n,ks,e,rfl,u,v,A,m,B,q⟩:=h;have nd:=jj.nd;have C:=s.iL;obtain⟨z,b⟩:=af.mp B;have D:=cB b;obtain⟨a,ea,G,I,J,er⟩:=u.at D;obtain⟨Y,L,h2,M⟩:=v.dict;obtain⟨l,ts,v1,o,i⟩:=M z<|eV b;obtain⟨x,y,p,IY,tL⟩:=qJ A b;rw[p]at i;cases i with
 |cons N i=>
 cases i with
 |cons y1 i=>
 cases i;rename_i j ty;have O:=s.u1;refine aZ 3 nd<|gJ O<|ae 1<|a8 dF<|a8 bQ<|a8 dF<|ae 0<|a8 bQ<|ae 2<|aG ⟨t,_,_,.int (e.1:Int),rfl,rfl,aQ.of m,rfl,R,_,_,.ref a.1,rfl,rfl,au.of u.lst,G,aG ⟨a.1,_,_,.ref a.2,rfl,rfl,aQ.of I,rfl,?_⟩⟩;refine a8 bQ (ae 2<|aG ⟨t,_,_,.int (e.2:Int),rfl,rfl,aQ.of m,rfl,a.2,_,_,.str z,rfl,rfl,au.of J,vW b,d,.ref l,rfl,by rw[<-v1];exact bb.k (k:=Sum.inr z) L,?_⟩);refine bS<|a8 dF<|ae 3<|qk Rb T.vZ UJ<|ah<|j6 (Sj C)<|a8 dF<|ae 3<|aG ⟨l,_,_,.ref j,rfl,rfl,au.of o,rfl,ae 2 ⟨1,_,(by decide),tU N m,?_⟩⟩
 by_cases c:x=e
 ·rw[BW c];refine ax ⟨_,rfl,l,[.ref j,.ref ty],1,.ref ty,rfl,rfl,au.of o,rfl,q ty ?_⟩;have r:(other n e)=y:=by unfold other;simp only[b,p];simp[c]
  rwa[r]
 ·rw[BR c];refine ax ⟨_,rfl,l,[.ref j,.ref ty],0,.ref j,rfl,rfl,au.of o,rfl,q j ?_⟩;have r:(other n e)=x:=by unfold other;simp only[b,p];simp[c]
  rwa[r]
abbrev NT:Ð:=["_law_rows","_law_seats_here","_law_end","_law_turn","_law_other_here"]
def kN:ak NT ["_law_rows","_law_seats_here","_law_end","_law_turn"] (aW II):=cm
theorem tK(F:bB K "_law_step" "_law_step" II f fd)(T:Txt mg)(G:(aP P w K mg Z) 1 "_law_other" ["_law_rows","_law_seats_here","_law_end"] AF):
  (aE P w K mg Z bK) 2 f fd ["_law_rows","_law_seats_here","_law_end","_law_turn"] IT:=by
 refine F.gc kN λC H D Q E m h=>?_;obtain⟨R,d,t,as,n,o,e,rfl,b,r,i,s,j,q⟩:=h;have nd:=kN.nd;have v:=cR i j;obtain⟨z,k⟩:=af.mp v;have x:=cB k;have I:=gk k;obtain⟨a,J,y,A,B,L⟩:=b.at x;refine aZ 4 nd<|bC G m<|ah<|ae 0<|ah<|ae 1<|ah<|ae 2<|ax ⟨R,d,t,as,n,o,e,rfl,b,r,i,s,j,λu c=>?_⟩;refine bS<|d9<|ah<|a8 bQ<|ae 4<|aG ⟨u,_,_,.int (((other n e)).1:Int),rfl,rfl,aQ.of c,rfl,?_⟩;refine ah<|bh dh<|bh iu<|a8 bQ<|ae 4<|aG ⟨u,_,_,.int (((other n e)).2:Int),rfl,rfl,aQ.of c,rfl,ae 3 ⟨_,_,rfl,rfl,?_⟩⟩;refine cM eU T.len DY<|ah<|a8 bQ<|a8 dF<|ae 0<|a8 bQ<|ae 4<|aG ⟨u,_,_,.int (((other n e)).1:Int),rfl,rfl,aQ.of c,rfl,R,_,_,.ref a.1,rfl,rfl,au.of b.lst,y,aG ⟨a.1,_,_,.ref a.2,rfl,rfl,aQ.of A,rfl,ax ⟨a.2,_,rfl,.inl<|au.of B,?_⟩⟩⟩;rw[Aa];refine⟨_,_,rfl,rfl,(by omega),ax ⟨Z2,λp l=>?_⟩⟩;refine q p _ (aS l _) l ?_;rw[az];unfold Nt.step Nt.left;show some (HO.tup [.int (((other n e)).1:Int),.int<|((((other n e)).2:Int)+1)%((row n ((other n e)).1).length:Int)])=some (HO.tup [.int (((other n e)).1:Int),.int (((((other n e)).2+1)%(row n ((other n e)).1).length:Nat):Int)]);rw[Int.natCast_emod];rfl
abbrev NF:Ð:=["_law_rows","_law_seats_here","_law_end","_law_face_here","_law_here"]
def kP:ak NF ["_law_rows","_law_seats_here","_law_end"] (aW IJ):=cm
def g5(n:bi)(e:Nt.bc)(j:Nat):List Nt.bc:=(range j).map λi=>(it (step n)) i e
def UF(n:bi)(e:Nt.bc)(j:Nat):g5 n e (j+1)=g5 n e j++[(it (step n)) j e]:=by
 unfold g5;rw[Dk,Al];rfl
theorem HH(F:bB K "_law_face" "_law_face" IJ f fd)(T:Txt mg)(G:(aP P w K mg Z) 2 "_law_step" ["_law_rows","_law_seats_here","_law_end","_law_turn"] IT):
  (aE P w K mg Z bK) 3 f fd ["_law_rows","_law_seats_here","_law_end"] IU:=by
 refine F.gc kP λb0 H vs Q E B h=>?_;obtain⟨R,d,t,as,n,U,e,rfl,Y,hS,r,C,D,hb,q⟩:=h;have nd:=kP.nd;have hu:=B.iL;obtain⟨k,k0,k1,k2⟩:=zK (f:=step n) (S:=ends n) (λa s=>mq r s) (λa s b hb=>zJ r s hb) D;refine aZ 3 nd<|di<|ah<|ae 2<|ax ⟨Z1,λl I=>?_⟩;have g1:=aS I<|.lst [.ref t];refine aZ 4 nd<|bC G B<|ah<|ae 0<|ah<|ae 1<|ah<|ae 2<|ah<|aG<|ax ⟨R,d,t,as,n,U,e,rfl,Y.same g1,hS.same g1,r,g1 _ _ C,D,λu H1 J nu x=>?_⟩;refine vT (λm σ o=>∃(j:Nat)(p:(List Addr))(u:Addr),m=k-j/\0<j/\j<=k/\aj H o/\o l=some (.lst<|(p.map V.ref))/\Pd o p (g5 n e j)/\o u=some (Tp<|(it (step n)) j e)/\(∀i,0<i->i<j->(it (step n)) i e≠e)/\σ=[(some (.ref R)),(some (.ref d)),(some (.ref t)),(some (.ref l)),(some (.ref u))])
  (m0:=k-1) ⟨1,[t],u,rfl,Ff,k0,g1.trans J,J _ _ az,.cons (J _ _<|g1 _ _ C) .nil,x,λi y L=>(by omega),rfl⟩ ?_
 rintro m σ o ⟨j,p,u,rfl,j0,j1,M,z,N,x,hf,rfl⟩;refine cz (tP hu) (ae 4<|ae 2 ⟨1,_,(by decide),Th x<|M _ _ C,_,rfl,?_⟩);have pl:=N.length;have ol:(g5 n e j).length=j:=by unfold g5;simp
 by_cases c:(it (step n)) j e=e
 ·rw[BW c];refine bR (bS<|ae 3<|q l p (g5 n e j) o M I z N ⟨(by omega),(by omega),λi hi=>?_,by rwa[ol],λi y L=>hf i y<|(by omega)⟩);unfold g5;rw[Ah,Dx<|(by omega)];rfl
 ·rw[BR c];have jk:j<k:=by
   obtain h|h:=Da j k
   ·exact h
   ·have:j=k:=(by omega)
    subst this;exact absurd k2 c
  refine cv (gG<|ka<|ae 3 ⟨l,rfl,⟨_,z⟩,ae 4 ⟨_,z,by rw[Aa];exact cg (by omega),?_⟩⟩);have O:aj H (upd o l<|.lst<|(p.map V.ref)++[.ref u]):=fI M I;have kt:∀b f,o b=some (Tp f)->(upd o l<|.lst<|(p.map V.ref)++[.ref u]) b=some (Tp f):=λb f h=>by
   rwa[aw<|vX h z]
  have Ru:=kt u _ x;refine aZ 4 nd<|bC G B<|ah<|ae 0<|ah<|ae 1<|ah<|ae 4<|ah<|aG<|ax ⟨R,d,u,as,n,U,(it (step n)) j e,rfl,Y.same O,hS.same O,r,Ru,je (λa s=>mq r s) D j,λv H3 A nv ev=>?_⟩;refine a9 ⟨k-(j+1),(by omega),j+1,p++[u],v,rfl,Ey _,jk,O.trans A,?_,?_,ev,λi y L=>?_,rfl⟩
  ·rw[Al];exact A _ _ az
  ·rw[UF];exact(N.keep λb f h=>A _ _<|kt b f h).append<|.cons (A _ _ Ru) .nil
  ·obtain h|h:=Nat.lt_succ_iff_lt_or_eq.mp L
   ·exact hf i y h
   ·rwa[h]
end
end E9
namespace Nt
open PySem L2
def io(n:bi):Prop:=(∃nm,n=[(nm,[])])\/(n≠[]/\∀i,i<n.length->row n i≠[])
def fw(n:bi)(c:bc):Prop:=c.1<n.length/\c.2<max 1 (row n c.1).length
def ins(n:bi)(c:bc)(z:Str):bi:=n.modify c.1 λr=>(r.1,r.2.take c.2++z :: r.2.drop c.2)
def iz(n:bi)(c:bc)(z:Str):(ins n c z).length=n.length:=by unfold ins;rw[List.length_modify]
theorem IZ(n:bi)(c:bc)(z:Str):(ins n c z).map (·.1)=n.map (·.1):=by
 unfold ins;refine Dy λi=>?_;rw[Ah,Ah,Fu];cases n[i]? with
 |none=>rfl
 |some r=>by_cases h:c.1=i<;>simp[h]
def tT(n:bi)(c:bc)(z:Str)(i:Nat)(a:c.1<n.length):row (ins n c z) i=if c.1=i then(row n i).take c.2++z :: (row n i).drop c.2 else row n i:=by
 unfold row ins;rw[Fu]
 by_cases h:c.1=i
 ·subst h;rw[Ab a];simp
 ·rw[BL h];cases n[i]? with
  |none=>simp[h]
  |some r=>simp[h]
theorem mv:∀n c z,c.1<n.length->(ag<|ins n c z).Perm (z :: ag n)
 |[],c,z,h=>by simp at h
 |a :: n,(0,p),z,h=>by
  unfold ins ag;simp only[List.modify_zero_cons,Cp];have:(a.2.take p++z :: a.2.drop p).Perm (z :: a.2):=by
   refine List.perm_middle.trans ?_;rw[Cw]
  exact this.append_right _
 |a :: n,(i+1,p),z,h=>by
  have b:=mv n (i,p) z (by simpa using h);unfold ins ag at b ⊢;simp only[List.modify_succ_cons,Cp];refine(b.append_left a.2).trans ?_;exact List.perm_middle
variable{z:Str}{c:bc}{n:bi}
theorem Ja(F:io n)(b:c.1<n.length):n.length=1\/(∀i,i<n.length->row n i≠[])->(∀i,i<(ins n c z).length->row (ins n c z) i≠[])/\ins n c z≠[]:=by
 intro h;have a:=iz n c z;refine⟨λi d=>?_,λe=>?_⟩
 ·rw[tT n c z i b]
  by_cases q:c.1=i
  ·rw[BP q];simp
  ·rw[BL q]
   obtain h|h:=h
   ·rw[a]at d;omega
   ·exact h i<|(by omega)
 ·rw[e]at a;simp at a;omega
def io.some(F:io n):n≠[]:=by
 obtain⟨nm,rfl⟩|h:=F
 ·simp
 ·exact h.1
def io.either(F:io n):n.length=1\/(∀i,i<n.length->row n i≠[]):=by
 obtain⟨nm,rfl⟩|h:=F
 ·exact .inl rfl
 ·exact .inr h.2
theorem io.cV(F:io n)(b:row n 0≠[])(a:fw n c):c∈ends n:=by
 obtain⟨nm,rfl⟩|h:=F
 ·exact absurd rfl b
 ·have:=h.2 c.1 a.1;have e:0<(row n c.1).length:=Cu.mpr this;have d:c.2<(row n c.1).length:=by
   have:=a.2;omega
  exact af.mpr<|vV d
theorem Su{e:bc}(h:e∈ends n):fw n e:=by
 obtain⟨z,h⟩:=af.mp h;have:=gk h;exact⟨cB h,(by omega)⟩
def qU(H H':Hp)(bad:(List Addr)):Prop:=∀b o,H b=some o->b∉bad->H' b=some o
def Rv(zs:Ð)(i:Nat)(z:Str):insertAt (zs.map V.str) i (.str z)=(zs.take i++z :: zs.drop i).map V.str:=by
 unfold insertAt;rw[Al,Ba,Hn,Ho]
theorem ai.ins{H:Hp}{R:Addr}{as:Î}{n:bi}(h:ai H R as n){c:bc}{z:Str}{a:Addr×Addr}(m:as[c.1]?=some a)(j:c.1<n.length):
  ai (upd H a.2<|Ls<|(row n c.1).take c.2++z :: (row n c.1).drop c.2) R as (Nt.ins n c z):=by
 have s:=h.tup c.1 a n[c.1] m<|Ab j;have p:R≠a.2:=by
  intro e;have t:=h.lst;rw[e,s.2]at t;have f:=HO.lst.inj<|Option.some.inj t;have L:=BZ List.length f;cases u:n[c.1].2 with
  |nil=>
   rw[u]at f;have:as.map (λa=>V.ref a.1)=[]:=f.symm;have v:=BZ List.length this;rw[Aa,h.len]at v;rw[v]at j;exact absurd j<|Dj _
  |cons y r=>
   rw[u]at f;cases as with
   |nil=>simp at f
   |cons b M=>
    simp at f
 have x:row n c.1=n[c.1].2:=by unfold row;rw[Ab j];rfl
 refine⟨by rw[iz];exact h.len,by rw[aw p];exact h.lst,λi b r k d=>?_,h.inj⟩;unfold Nt.ins at d;rw[Fu]at d;cases l:n[i]? with
 |none=>rw[l]at d;by_cases q:c.1=i<;>simp[q]at d
 |some A=>
  rw[l]at d;have o:=h.tup i b A k l;have w:b.1≠a.2:=cf o.1 s.2 λe=>nomatch e
  by_cases q:c.1=i
  ·subst q;rw[Ab j]at l;cases l;rw[m]at k;cases k;simp at d;subst d;refine⟨by rw[aw w];exact o.1,?_⟩;rw[az,x]
  ·simp[q]at d;subst d;have B:b.2≠a.2:=λe=>by
    have N:i<as.length:=(Ac.mp k).1;have O:c.1<as.length:=(Ac.mp m).1;have C:(as.map (·.2))[i]?=some b.2:=by rw[Ah,k];rfl
    have D:(as.map (·.2))[c.1]?=some a.2:=by rw[Ah,m];rfl
    obtain⟨E,G⟩:=Ac.mp C;obtain⟨I,J⟩:=Ac.mp D;exact q<|(Gy (h₀:=I) (h₁:=E) h.inj).mp<|J.trans<|e.symm.trans G.symm
   exact⟨by rw[aw w];exact o.1,by rw[aw B];exact o.2⟩
variable{zs:Ð}{as:Î}{R:Addr}{H:Hp}
theorem ai.more{t l:Addr}{pt:Str}(h:ai H R as n)(u:H t=some (.tup [.str pt,.ref l]))(B:H l=some (Ls zs))(v:l∉as.map (·.2))(w:l≠R):
  ai (upd H R<|.lst<|as.map (λa=>V.ref a.1)++[.ref t]) R (as++[(t,l)]) (n++[(pt,zs)]):=by
 have m:=h.len;refine⟨by rw[Ag,Ag,m];rfl,by rw[az,Al];rfl,λi b r d f=>?_,?_⟩
 ·obtain c|c:=Da i as.length
  ·rw[Ax c]at d;rw[Ax<|(by omega)]at f;have q:=h.tup i b r d f;have k:=cf q.1 h.lst λe=>nomatch e;have z:b.2≠R:=by
    intro e;have o:=h.lst;rw[<-e,q.2]at o;have j:=HO.lst.inj<|Option.some.inj o;cases as with
    |nil=>simp at c
    |cons C D=>
     cases p:r.2 with
     |nil=>rw[p]at j;simp at j
     |cons y r=>rw[p]at j;simp at j
   exact⟨by rw[aw k];exact q.1,by rw[aw z];exact q.2⟩
  ·have e:i=as.length:=by
    have:=(Ac.mp d).1;rw[Ag]at this;simp at this;omega
   subst e;rw[Bd<|An _]at d;rw[m,Bd<|An _]at f;simp at d f;subst d f;have k:=cf u h.lst λe=>nomatch e;exact⟨by rwa[aw k],by rwa[aw w]⟩
 ·rw[Al,Co];exact⟨h.inj,by simp,λx A y s e=>by simp at s;subst s e;exact v A⟩
variable{x:Addr×Addr}
theorem ai.lists(h:ai H R as n)(a:x∈as):∃zs,H x.2=some (Ls zs):=by
 obtain⟨i,b,e⟩:=Ck.mp a;have c:=h.len;exact⟨_,(h.tup i x (n[i]'(by omega)) (by rw[<-e];exact Ab b)<|Ab<|(by omega)).2⟩
def ai.fresh{l:Addr}(h:ai H R as n)(a:H l=none)(b:x∈as):l≠x.2:=by
 obtain⟨zs,e⟩:=h.lists b;exact(bz e a).symm
def fz(n:bi):(ends n).length=(ag n).length:=by
 unfold ends bn;rw[Aa,<-kJ n 0,Aa]
def dz.ends{n:bi}(T:aq n){e:bc}{b:List bc}(h:dz n e b)(f:e∈ends n):∀c∈b,c∈Nt.ends n:=by
 intro c j;obtain⟨i,d,k⟩:=Ck.mp j;have:=h.at' i d;rw[Ab d,k]at this;rw[Option.some.inj this];exact je (λa l=>mq T l) f i
theorem AG{k:bc}(a:fw n c)(b:k.1<n.length):fw (ins n k z) c:=by
 refine⟨by rw[iz];exact a.1,?_⟩;rw[tT n k z c.1 b];have:=a.2
 split
 ·rw[Ag,As,Br,Du];omega
 ·exact this
def dbl(zs:Ð):Ð:=zs.flatMap λz=>[z,z]
theorem Jb(y:Str):∀zs:Ð,(dbl zs).count y=2*zs.count y
 |[]=>rfl
 |z :: r=>by
  unfold dbl;rw[Cp];have a:=Jb y r;unfold dbl at a;rw[Ez,a,Dl,Dl,Dl,List.count_nil];omega
theorem jl{y:Str}:y∈dbl zs↔y∈zs:=by
 rw[<-Ds,Jb,<-Ds];omega
theorem Jc:∀zs:Ð,(dbl zs).length=2*zs.length
 |[]=>rfl
 |z :: r=>by
  unfold dbl;rw[Cp,Ag];have a:=Jc r;unfold dbl at a;rw[a,As];simp;omega
def sS(zs:Ð)(z:Str):dbl (zs++[z])=dbl zs++[z,z]:=by
 unfold dbl;rw[Dp];rfl
def Rw(a:zs.Nodup)(p:(ag n).Perm<|dbl zs):aq n:=λz b=>by
 rw[p.count_eq,Jb];have c:=jl.mp<|p.mem_iff.mp b;rw[a.count,BP c]
def NE(n:bi):Prop:=∀r∈n,r.2≠[]
def jm{i:Nat}(h:i<n.length):row n i=n[i].2:=by unfold row;rw[Ab h];rfl
def wh(h:NE n)(b:n≠[]):io n:= .inr ⟨b,λi a=>by rw[jm a];exact h _<|Bt a⟩
def io.ne(h:io n):(∃nm,n=[(nm,[])])\/NE n:=by
 obtain h|⟨_,h⟩:=h
 ·exact .inl h
 ·refine .inr λr b=>?_;obtain⟨i,a,rfl⟩:=Ck.mp b;have:=h i a;rwa[jm a]at this
theorem Rx:∀n k h,(ag n).Perm<|n[k].2++ag (n.eraseIdx k)
 |[],k,h=>by simp at h
 |a :: n,0,h=>by unfold ag;simp
 |a :: n,k+1,h=>by
  have b:=Rx n k (by simpa using h);unfold ag at b ⊢;simp only[Cp,List.getElem_cons_succ,RW];refine(b.append_left a.2).trans ?_;rw[<-Ar,<-Ar];exact List.perm_append_comm.append_right _
def UV(n:bi)(k:Nat)(h:k<n.length):(n.map (·.1)).Perm (n[k].1 :: (n.eraseIdx k).map (·.1)):=by
 have:=(bP.bW n k h).map (·.1);exact this.symm
def Jd(zs:Ð)(i:Nat):(zs.drop i++zs.take i).Perm zs:=by
 refine Cq.trans ?_;rw[Cw]
def ai.upd{H:Hp}{R x:Addr}{as:Î}{n:bi}(h:ai H R as n){xs:List V}{o:HO}(c:H x=some (.lst xs))(d:R≠x)(f:∀a∈as,a.2≠x):ai (upd H x o) R as n:=by
 refine⟨h.len,by rw[aw d];exact h.lst,λi a r b j=>?_,h.inj⟩;have q:=h.tup i a r b j;exact⟨by rw[aw<|cf q.1 c λe=>nomatch e];exact q.1,by rw[aw<|f a<|Ao b];exact q.2⟩
def Je{α:Type}(l:List α)(k i:Nat):(l.eraseIdx k)[i]?=if i<k then l[i]? else l[i+1]?:=by
 rw[Gu]
def ai.erase(h:ai H R as n){k:Nat}(p:k<n.length):
  ai (L2.upd H R<|.lst<|(as.map λa=>V.ref a.1).eraseIdx k) R (as.eraseIdx k) (n.eraseIdx k):=by
 have l:=h.len;refine⟨by rw[Dg,Dg,l],?_,λi a r d f=>?_,?_⟩
 ·rw[az]
  congr 2
  refine Dy λi=>?_;rw[Je,Ah,Ah,Ah,Je]
  split<;>rfl
 ·rw[Je]at d f;have q:H a.1=some (.tup [.str r.1,.ref a.2])/\H a.2=some (Ls r.2):=by
   by_cases c:i<k
   ·rw[BP c]at d f;exact h.tup i a r d f
   ·rw[BL c]at d f;exact h.tup (i+1) a r d f
  have s:a.2≠R:=by
   intro e;have m:=h.lst;rw[<-e,q.2]at m;have j:=HO.lst.inj<|Option.some.inj m;cases as with
   |nil=>simp at l;simp[<-l]at p
   |cons b t=>
    cases o:r.2 with
    |nil=>rw[o]at j;simp at j
    |cons y r=>rw[o]at j;simp at j
  exact⟨by rw[aw<|cf q.1 h.lst λe=>nomatch e];exact q.1,by rw[aw s];exact q.2⟩
 ·have:((as.eraseIdx k).map (·.2)).Sublist (as.map (·.2)):=(List.eraseIdx_sublist as k).map _;exact h.inj.sublist this
theorem kb(zs:Ð)(i:Nat):gU (zs.map V.str) (some (i:Int)) none=(zs.drop i).map V.str:=by
 unfold gU;rw[HT.i6,HT.gT,Aa];rw[Cs (by rw[Du,Aa];omega),Ho]
 obtain h|h:=Nat.le_total i zs.length
 ·rw[Nat.min_eq_left h]
 ·rw[Nat.min_eq_right h,TV (by simp),TV<|(by simpa using h)]
def hZ(zs:Ð)(i:Nat):gU (zs.map V.str) none (some (i:Int))=(zs.take i).map V.str:=by
 unfold gU;rw[HT.i6,HT.gT,Aa,List.drop_zero,VP,Hn]
 obtain h|h:=Nat.le_total i zs.length
 ·rw[Nat.min_eq_left h]
 ·rw[Nat.min_eq_right h,Cs (by simp),Cs<|(by simpa using h)]
end Nt
namespace L2
open PySem PySem.Spec PyProof.Rows
variable{H:Hp}{σ:St}{inner:Value->Env->Sem Unit}{u0:Addr->HO}{newAcc:Sem Value}{gs:List Comprehension}{scope:Scope}{ifs:Ó}{tg:Expr}{X:Cx}
def AH{e iter:Expr}{k:Pos}{o0:Obj}{d:TI}{Q:VK}
  (l:∀(Q:Í)(E:Í)(s:Shared),Q (.ref s.heap.objs.size) {s with heap:=s.heap.push o0}->(ar X) newAcc Q E s) (p:∀(H:Hp)(h:Heap),sysModules<h.objs.size->aB X.U X.w H (h.push o0) h.objs.size (u0 h.objs.size))
  (c:∀acc env,gr e 0 tg iter ifs acc env<|inner acc env) (r:eval e X.env=comprehension e scope X.env k newAcc false (eval iter X.env) none) (t:clausesOf e=⟨tg,iter,ifs,0⟩ :: gs)
  (f:Scope) (N N':Ð) (n:Nat) (u:PI X tg iter d)
  (h:d σ H λJ i=>∀D,i D=none->∀j C æ ç ex,iK ((fY X N' scope j C æ ç ex)) tg ifs (inner (.ref D)<|compEnvC scope j C X.env) J (λ_ H'=>Q (.ref D) H') (σ++replicate n none)<|upd i D<|u0 D)
  (w:X.calm=true) (y:X.env.scope=f) (z:X.N=N) (A:ng f scope N N'=true) (B:N'.length=N.length+n) (G:∀x,foldedSetIterable iter X.env x=pure x):Ev X e σ H Q:=by
 refine⟨λO s I=>?_⟩;subst y z;have a:=cH.of A;rw[r];refine KR (use:=none) t G (FL λx L M=>I.ok.has x.1<|a.free x L M) a.kind a.names<|aO (u O s σ H _ I h) λv s1 U=>aO U λoF s2 Y=>?_;obtain⟨it,fp,tn,J,H2,e,I2,T,gE,f2,q⟩:=Y;subst e;refine Qe l p (Q:=Q) (RR:=λacc C=>compPost (model X.U X.w) X.A X.xe none (EP X O σ Q) acc C) w a B c I2 T gE f2 q ?_;intro D C H' s' m IX hn c c1 c2 c3 c4 qq;exact⟨m,hn,λh' gZ=>⟨.ref D,H',IX.turned (t':=s'.toks) (λb o hb e=>gZ.extBut b o hb e) c (CK<|CK c1) (.inr c2) c3 c4,rfl,qq⟩⟩
variable{w:World}{P:Program}
def Ry{k:Key}{u:Value}(h:(bX P w).is k u=true):cc (kV k) u:=by
 obtain⟨i,t,rfl,rfl⟩|⟨x,t,rfl,rfl⟩:=lR h<;>exact⟨t,rfl⟩
variable{O:Ï}{xs:List V}{Y:List (Key×V)}{d:Addr}{es:Array DictEntry}{o:Obj}{K:aa}
section
variable{s:Shared}
theorem v9:∀{vs},vs.length=xs.length->(∀(j:Nat)u,vs[j]?=some u->∃x,xs[j]?=some x/\cc x u)->ay xs vs:=by
 induction xs with
 |nil=>
  intro vs h _;cases vs with
  |nil=>exact .nil
  |cons a b=>simp at h
 |cons x r c=>
  intro vs h g;cases vs with
  |nil=>simp at h
  |cons u q=>
   obtain⟨i,e,d⟩:=g 0 u rfl;simp only[RX,Option.some.injEq]at e;subst e;exact .cons d<|c (by simpa using h) λj u f=>by simpa using g (j+1) u (by simpa using f)
theorem wg(d:X.calm=true):gR X (.type "list") (λxs H Q=>∃a Y,xs=[.ref a]/\Rd H a (.dK Y)/\∀l,H l=none->Q (.ref l) (upd H l<|.lst<|Y.map λp=>kV p.1)):=by
 intro O s σ H xs B Q I r h;obtain⟨a,Y,rfl,f,q⟩:=h;obtain⟨u,rfl,i⟩:=ma r;cases (show u=Value.ref a from i);obtain⟨z,hd,C,rel,m⟩:=tF I.aH f;obtain⟨D,n⟩:=m.dictAt;have E:=rel.length;refine PySem.W.kdl_call (PySem.W.kdl_dict hd) (I.ok.hd d) n (by omega) λo G b t v J v6=>?_;have w:ay (Y.map λp=>kV p.1) b.toList:=by
  refine v9 (by rw[Bu,v6.1,Aa];omega) λj u L=>?_;obtain⟨k,x,e,g⟩:=v6.2 j u (by rwa[<-Bj]);refine⟨kV k,?_,Ry g⟩;have c:(Y.map (·.1))[j]?=some k:=by rw[rel.keys,Ah,e];rfl
  rw[Ah,Az]at c;obtain⟨p,y,A⟩:=c;rw[Ah,y,<-A];rfl
 exact⟨.ref s.heap.objs.size,_,I.laid v (An _) (show aB X.U X.w _ o _ (.lst<|Y.map λp=>kV p.1) from⟨by rwa[Aa],b.toList,t,w,by rwa[Array.toArray_toList]⟩),rfl,q _<|I.aH.fresh<|An _⟩
def dn(I:(be X O σ H s))(e:H d=some (.dK Y)):∃o,s.heap.get? d=some o/\be X O σ (upd H d<|.b7 o<|.dK Y) s:=by
 obtain⟨z,hd,f,rel,b⟩:=vy I.aH e;obtain⟨o,es,h,a,c⟩:=id b;refine⟨o,a,?_⟩;exact lX I (by rw[e];exact True.intro) ⟨rfl,λ_ _=>rfl⟩ ⟨o,a⟩ (show aB X.U X.w _ s.heap d (.b7 o<|.dK Y) from⟨a,z,hd,f,rel,b⟩)
def Jf(d:Addr)(o:Obj)(Y:List<|Key×V):It:=
 ⟨λi H=>H d=some (.b7 o<|.dK Y)/\i<Y.length,λi H x a=>a=H/\∃p,Y[i]?=some p/\x=kV p.1,λi H=>H d=some (.b7 o<|.dK Y)/\Y.length<=i⟩
def RA{h:Heap}{ep:Nat}(c:cn P w H h)(e:H d=some (.b7 o<|.dK Y))(hd:o.data=.dict es ep):∃vs,KV Y vs/\h.DictAt (bX P w) d vs ep:=by
 obtain⟨f,z,_,vs,rel,i⟩:=(show aB P w H h d (.b7 o<|.dK Y)from c d _ e);obtain⟨p,j,q,a,k,b,l⟩:=i.dictAt;have:o=j:=Option.some.inj<|f.symm.trans a;subst this;rw[hd]at b
 injection b with m n
 subst m;subst n;exact⟨vs,rel,o,es,a,k,hd,l⟩
theorem HE(d it:Addr)(o:Obj)(es:Array DictEntry)(ep:Nat)(Y:List<|Key×V)(nD:o.data=.dict es ep):ue P w K tg (Jf d o Y) [it] it (λi h=>h.IsKeyIter it d i Y.length ep) where
 mem:=by simp
 obj:=λi h st b hb=>by
  have e:b=it:=by simpa using hb
  subst e;obtain⟨o,e,c,d⟩:=st;exact⟨o,e,λv z=>by rw[d]at z;cases z⟩
 keep:=λi h h' st k=>let ⟨o,ho,r⟩:=st;⟨o,k it (by simp) o ho,r⟩
 item:=by
  intro X hP hw hK hc i O s σ H E I hf st hg;subst hP hw hK;obtain⟨f0,f1,f2,f3,f4,f5⟩:=hf it (by simp);obtain⟨hd,hi⟩:=hg;obtain⟨vs,rel,da⟩:=RA I.aH hd nD;have hl:=rel.length;have jK:i<vs.length:=(by omega)
  have hx:=Ab jK;rw[hl]at st;refine wpAny_pyNext_dict_item st da hx λff h' hk dX gZ=>?_;have I1:=I.turned (t':=s.toks) (λb o hb e=>gZ.extBut b o hb e) f0 f1 f3 f4 f5;obtain⟨o2,e2,c2,d2⟩:=id dX;refine⟨_,rfl,EB (s:={s with heap:=h'}) e2 c2 d2 (by decide) ⟨kV vs[i].1,H,I1,Ry hk,⟨rfl,Y[i],Ab hi,?_⟩,by rw[hl];exact dX,λb hb=>(hf b hb).1⟩⟩;have ek:=rel.keys;have e3:(Y.map (·.1))[i]?=(vs.map (·.1))[i]?:=by rw[ek]
  rw[Ah,Ah,Ab hi,hx]at e3;have e4:Y[i].1=vs[i].1:=Option.some.inj e3;rw[e4]
 done:=by
  intro X hP hw hK hc i O s σ H E I hf st hg;subst hP hw hK;obtain⟨f0,f1,f2,f3,f4,f5⟩:=hf it (by simp);obtain⟨hd,hi⟩:=hg;obtain⟨vs,rel,da⟩:=RA I.aH hd nD;have hl:=rel.length;rw[hl]at st;exact wpAny_pyNext_dict_end (I.ok.hd hc) st da (by rw[Bg];omega) λh' eb=>⟨rfl,I.turned (t':=s.toks) (λb o hb e=>eb b o hb e) f0 f1 f3 f4 f5⟩
 self:=λ_ _ _ _ _ st h=>wpAny_pyIter_keyiter st h
def Qy(b:TE):TI:=λσ H R=>b σ H λx a=>∃d Y,x=.ref d/\a d=some (.dK Y)/\∀o,R (Jf d o Y)<|upd a d<|.b7 o<|.dK Y
def vu{l:Expr}{i:TE}(p:PE X l i):PI X tg l (Qy i):=by
 intro O s σ H R I h;refine aO (p O s σ H _ I h) λv a⟨x,D,j,c,r⟩=>?_;obtain⟨d,Y,e,k,q⟩:=r;subst e;cases (show v=Value.ref d from c);obtain⟨o,t,f⟩:=dn j k;obtain⟨z,u,E,rel,w⟩:=vy j.aH k;obtain⟨y,A,es,m,c,n,B⟩:=w.dictAt;have:o=A:=Option.some.inj<|t.symm.trans m;subst this;refine wpAny_pyIter_dict u ⟨o,es,m,c,n,B⟩<|⟨a.heap.objs.size,[a.heap.objs.size],_,_,_,rfl,f.kept λb o e=>Aj _ e,HE d _ o es y Y n,⟨_,At _ rfl,rfl,by rw[rel.length];rfl⟩,λb C=>?_,q o⟩;have e:b=a.heap.objs.size:=by simpa using C
 subst e;exact f.jA (An _)<|f.aH.fresh<|An _
end
variable{N' zs:Ð}{R:St->Hp->Prop}
section
variable{elt:Expr}{A a:Addr}{after:Hp->Prop}
theorem oY(Pv:Nat->St->Hp->Prop)(k:Pv 0 σ H)(l:∀i c H',i<=xs.length->Pv i c H'->au X.K H' a xs)
  (n : ∀ i x c H', xs[i]? = some x → Pv i c H' → vE X N' scope tg x c H' λd o => vF X N' scope ifs d o λb f =>
   if b=true then vD X N' scope elt d f λv h=>∃ys,h A=some (.lst ys)/\ys.length<sizeLine/\Pv (i+1) d (upd h A<|.lst<|ys++[v])else Pv (i+1) d f)
  (hd:∀c H',Pv xs.length c H'->after H'):lZ X N' scope tg ifs elt (pY X.K a) A after σ H:=by
 refine⟨λi m c H'=>m=xs.length-i/\i<=xs.length/\Pv i c H',⟨_,rfl,Bx _,k⟩,?_⟩;rintro i m c H' ⟨rfl,r,p⟩;have q:=l i c H' r p
 by_cases j:i<xs.length
 ·refine .inr ⟨⟨xs,xs[i],q,by simp[j]⟩,Pv<|i+1,λc H' s=>⟨xs.length-(i+1),(by omega),rfl,j,s⟩,λx t y=>?_⟩;obtain⟨e,y⟩:=y;subst e;exact n i x c _ (y xs q) p
 ·have e:i=xs.length:=(by omega)
  subst e;exact .inl ⟨⟨xs,q,An _⟩,hd c H' p⟩
theorem cF(Pv:Nat->St->Hp->Prop)(l:Pv 0 σ H)(n:∀i a H',i<=Y.length->Pv i a H'->H' d=some (.b7 o<|.dK Y))
  (r : ∀ i p a H', Y[i]? = some p → Pv i a H' → vE X N' scope tg (kV p.1) a H' λc s => vF X N' scope ifs c s λb h =>
   if b=true then vD X N' scope elt c h λv j=>∃ys,j A=some (.lst ys)/\ys.length<sizeLine/\Pv (i+1) c (upd j A<|.lst<|ys++[v])else Pv (i+1) c h)
  (hd:∀a H',Pv Y.length a H'->after H'):lZ X N' scope tg ifs elt (Jf d o Y) A after σ H:=by
 refine⟨λi m a H'=>m=Y.length-i/\i<=Y.length/\Pv i a H',⟨_,rfl,Bx _,l⟩,?_⟩;rintro i m a H' ⟨rfl,t,p⟩;have q:=n i a H' t p
 by_cases k:i<Y.length
 ·refine .inr ⟨⟨q,k⟩,Pv<|i+1,λa H' f=>⟨Y.length-(i+1),(by omega),rfl,k,f⟩,λx w y=>?_⟩;obtain⟨e,f,u,y⟩:=y;subst e y;exact r i f a _ u p
 ·have e:i=Y.length:=(by omega)
  subst e;exact .inl ⟨⟨q,An _⟩,hd a H' p⟩
theorem v7(f:Str->Bool)(t:zs.length<sizeLine)(l:H a=some (.lst<|zs.map V.str))(m:H A=none)
  (n:∀b C æ ç ex v v0 H' R,R (σ++[some v]) H'->Eg ((fY X N' scope b C æ ç ex)) tg v (σ++[v0]) H' R)
  (o:∀b C æ ç ex z ys T,T (f z) (upd H A<|.lst ys)->Ei ((fY X N' scope b C æ ç ex)) ifs (σ++[some<|.str z]) (upd H A<|.lst ys) T)
  (p:∀b C æ ç ex z H' R,R (V.str z) H'->Ev ((fY X N' scope b C æ ç ex)) elt (σ++[some<|.str z]) H' R) (q:after<|upd H A<|.lst<|(zs.filter f).map V.str):
  lZ X N' scope tg ifs elt (pY X.K a) A after (σ++replicate 1 none) (upd H A<|.lst []):=by
 have ne:=bz l m;refine oY (xs:=zs.map V.str) (λk c H'=>(∃v,c=σ++[v])/\H'=upd H A (.lst<|((zs.take k).filter f).map V.str)) ⟨⟨none,rfl⟩,by simp⟩ ?_ ?_ ?_
 ·rintro i c H' _ ⟨_,rfl⟩;exact au.of<|by rwa[aw ne]
 ·rintro i x c H' h ⟨⟨v,rfl⟩,rfl⟩;rw[Ah,Az]at h;obtain⟨z,r,rfl⟩:=h;intro b C æ ç ex;refine n b C æ ç ex _ _ _ _ ?_;intro b C æ ç ex;refine o b C æ ç ex z _ _ ?_;have e:(zs.take<|i+1).filter f=(zs.take i).filter f++(if f z=true then [z]else []):=by
   rw[Cj,r,Cv]
   congr 1
   cases d:f z<;>simp[d]
  have j:((zs.take i).filter f).length<=zs.length:=Ch (Dz _ _)<|by rw[Br];omega
  by_cases d:f z=true
  ·rw[BP d];intro b C æ ç ex;refine p b C æ ç ex z _ _ ⟨_,az,by rw[Aa];omega,⟨_,rfl⟩,?_⟩;rw[uN,e,BP d,Al];rfl
  ·rw[BL d];refine⟨⟨_,rfl⟩,?_⟩;rw[e,BL d,Bp]
 ·rintro c H' ⟨_,rfl⟩;have s:zs.take (zs.map V.str).length=zs:=Cs (by simp);rwa[s]
theorem mw(z:Str)(zs:Ð):tu (.str z) (zs.map V.str)=zs.contains z:=by
 unfold tu
 induction zs with
 |nil=>rfl
 |cons y r a=>
  rw[Ba,Gf,a,List.contains_cons]
  congr 1
  show c6 (.str y) (.str z)=(z == y)
  by_cases h:y=z
  ·subst h;simp[c6]
  ·have b:z≠y:=λq=>h q.symm;show(y == z)=(z == y);rw[beq_eq_false_iff_ne.mpr h,beq_eq_false_iff_ne.mpr b]
def my(zs:Ð):(zs.map V.str).all kD=true:=by
 rw[Ej];intro x a;obtain⟨z,_,rfl⟩:=Ak.mp a;rfl
def jN{e1 e2:Expr}{k:Nat}{pos:Pos}{t:Addr}{x y:V}(c:X.calm=true)(d:aQ X.K H t [x,y])(h:Eg X e1 x σ H λa b=>Eg X e2 y a b R)
  (e:(assignEach [e1,e2] X.env).length=2:=by rfl) (f:(assignEach [e1,e2] X.env).findIdx? (·.1)=none:=by rfl)
  (i:(assignEach [e1,e2] X.env).map (·.2)=assign e1 X.env :: (assignEach [e2] X.env).map (·.2):=by rfl) (j:(assignEach [e2] X.env).map (·.2)=assign e2 X.env :: (assignEach [] X.env).map (·.2):=by rfl):
  Eg X (.Tuple [e1,e2] k pos) (.ref t) σ H R:=
 F3 (OB c (uV qi (uV qi OA j) i) e f) ⟨t,_,rfl,d,rfl,_,_,rfl,h.mono λa b l=>⟨_,_,rfl,l.mono λm n q=>⟨rfl,q⟩⟩⟩
end
end L2
namespace PySem
variable{Q:Option Value->Shared->Prop}{name:Str}{xs:Array Value}{s:Shared}{E:Í}{A:Around}{w:World}{U:Program}
def no{a:Addr}{o:Obj}{k:Nat}
  (f:s.heap.get? a=some o) (i:o.cls = .type "list") (j:o.data = .seq xs k) (hd:o.dict=none) (q:typeLookup (.type "list") name=pure none) (r:(["__module__","__name__","__qualname__","__doc__","__annotations__"]:Ð).contains name=false) (t:A.handled=none)
  (h:∀ h' l e,Heap.NewExcOf s.heap h' e "AttributeError"->Q none {s with heap:=h',toks:=l}) (b:name.length+100<=sizeLine:=by size_fits):
  (ba U w A) (getAttr? (.ref a) name) Q E s:=by
 obtain⟨c,u,v,x⟩:=o;simp only at i j hd;subst i j hd;obtain⟨y,g,d,l,os⟩:=s;have m:∀n,(⟨y,g,d,n,os⟩:Shared).TypeIs (.ref a) "list":=λ_=>⟨_,f,rfl⟩;have f1:=sub_AttributeError;have z:=F.slot_list_getattribute.lookup;have B:=F.slot_list_getattribute.bind<|.ref a;have C:=am_list_getattr_none;unfold getAttr? getAttrBy? getAttrBy
 repeat (any_goals (first | assumption | exact m _ | ((with_reducible show wpAny _ _ (call (Value.builtin "list.__getattribute__") _ _) _ _ _);refine PL F.slot_list_getattribute (m _) am_entry_list_getattribute (F.args_list_getattribute_2 _ _) (meets_getattribute_miss_list a xs k x name _ q r b) ⟨f,t,λh' n e p=>?_⟩)|wp_step))
 obtain⟨D,G,H⟩:=p.there;show wpAny _ _ (getattributeRaised _ _ _ _ _ _ _) _ _ _;unfold getattributeRaised
 repeat (any_goals (first|assumption|wp_step))
 exact h _ _ _ p.of
namespace F
def bG:entryFor table "dict.update.loop" = some Builtin.«dict.update.loop»:=entryFor_of_tree<|by kernel_rfl
def aM:plainId "dict.update.loop" = true:=by decide +kernel
def gl:typeLookup (.type "list") "keys" = pure none:=by rw[SX,OJ];kernel_rfl
end F
variable{R:Result->Shared->Prop}{items:Ò}
section
variable{K:Type} [DecidableEq K] {knd:KeyKind U w K}  
def Jg(knd:KeyKind U w K)(h:Heap)(items:Ò)(g8:List<|K×Value):Prop:=
 items.length=g8.length/\∀(j:Nat) it,items[j]?=some it->∃T ff k v o n,it=.ref T/\g8[j]?=some (k,v)/\knd.is k ff=true/\h.get? T=some o/\o.cls=.type "tuple"/\o.data=.seq #[ff,v] n
theorem LM(Y:List<|K×Value)(k:K)(v:Value):(stored Y k v).length<=Y.length+1:=by
 unfold stored
 split
 ·rw[Aa];omega
 ·rw[Ag];simp
theorem na{hB:Heap}{d I l:Addr}{g8:List (K×Value)}(hd:hB.objs.size<=d)(hI:hB.objs.size<=I)(j:d≠I)(G:hB.IsList l items.toArray)(H:Jg knd hB items g8)(hn:items.length<sizeLine)(hh:A.handled=none):
  ∀(k i:Nat)(s:Shared)(acc:List<|K×Value),items.length-i=k->i<=items.length->(∀b o,hB.get? b=some o->s.heap.get? b=some o)->s.heap.IsListIter I l i->s.heap.DictOf knd d acc->acc.length<=i ->
   (∀h' m,(∀b o,b≠I->b≠d->s.heap.get? b=some o->h'.get? b=some o)->h'.DictOf knd d ((g8.drop i).foldl (λa p=>stored a p.1 p.2) acc)->R (.ok<|.ret .none) {s with heap:=h',toks:=m}) ->
   codeAny (model U w) A (.builtin "dict.update.loop" ⟨[.ref d,.ref I,rawInt i,.none],[]⟩) R s:=by
 have q:∀b o,hB.get? b=some o->b≠I/\b≠d:=λb o e=>⟨Bw<|Bq (Av e) hI,Bw<|Bq (Av e) hd⟩;intro k
 induction k with
 |zero=>
  intro i s acc hk hi c t u cq y;have qt:i=items.length:=(by omega)
  refine FT F.bG ?_;rw[FP F.aM _];show wpAny _ A.in1 (pyNext (.ref I) >>= _) _ _ s;have z:s.heap.IsList l items.toArray:=let ⟨o,B,r⟩:=G;⟨o,c _ _ B,r⟩
  refine BJ (wpAny_pyNext_list_end hh t z (by simp;omega) λh' J=>?_);show wpAny _ A.in1 (Builtin.Dict.addKeywords d [] >>= _) _ _ _;refine BJ<|BK<|BK ?_;refine y h' s.toks (λb o hb _ e=>J b o hb e) ?_;rw[List.drop_eq_nil_of_le<|by have:=H.1;omega];exact u.extBut J j
 |succ k ih=>
  intro i s acc hk hi c t u cq y;have L:i<items.length:=(by omega)
  have C:items[i]?=some items[i]:=Ab L;obtain⟨T,ff,f,v,o,n,e1,e2,e3,M,e5,e6⟩:=H.2 i _ C;rw[e1]at C;refine FT F.bG ?_;rw[FP F.aM _];show wpAny _ A.in1 (pyNext (.ref I) >>= _) _ _ s;have z:s.heap.IsList l items.toArray:=let ⟨o,B,r⟩:=G;⟨o,c _ _ B,r⟩
  refine BJ (wpAny_pyNext_list_item t z (x:= .ref T) (by simpa using C) λh' dX D=>?_);have N:h'.get? T=some o:=(D.2 T (q T o M).1).trans<|c _ _ M;refine BJ<|CJ<|BJ<|wpAny_tryCatch ?_;unfold Builtin.Dict.pairItems;refine BJ<|JR (T:= "tuple") ⟨o,N,e5⟩ ?_;rw[BP<|(by decide)];refine BJ<|KZ (s:={s with heap:=h'}) N e6<|BK ?_;show wpAny _ _ (holding [ff,v]<|dictSet d ff v) _ _ _;refine CJ (wpAny_dictSet_pairs (knd:=knd) (s:={s with heap:=h'}) (k:=f) e3 (u.extBut D.extBut j) (λO D2 Q=>?_)<|(by omega));refine BK ⟨JH F.aM _,?_⟩;have Y:∀b o,b≠I->b≠d->s.heap.get? b=some o->O.get? b=some o:=λb o h E e=>(Q.2 b E).trans<|(D.2 b h).trans e;refine ih (i+1) {s with heap:=O,toks:=s.toks+1} (stored acc f v) (by omega) L (λb o e=>Y b o (q b o e).1 (q b o e).2<|c _ _ e) (dX.extBut Q.extBut<|CK j) D2 (by have:=LM acc f v;omega) λE m k3 D3=>?_;refine y E m (λb o h qm e=>k3 b o h qm<|Y b o h qm e) ?_;have e7:g8.drop i=(f,v):: g8.drop (i+1):=by
   obtain⟨hj,e8⟩:=Ac.mp e2;rw[Gd hj,e8]
  rwa[e7]
def YU{Q:Í}{l:Addr}{ol:Obj}{nl:Nat}{g8:List (K×Value)}(c:s.heap.get? l=some ol)(f:ol.cls = .type "list")(B:ol.dict=none)(j:ol.data=.seq items.toArray nl)(C:Jg knd s.heap items g8)(D:items.length<sizeLine)(n:A.handled=none)
  (h:∀h' q,(∀b o,s.heap.get? b=some o->h'.get? b=some o)->h'.DictOf knd s.heap.objs.size (g8.foldl (λa p=>stored a p.1 p.2) [])->Q (.ref s.heap.objs.size) {s with heap:=h',toks:=q}):
  (ba U w A) (call (.type "dict") [.ref l]) Q E s:=by
 refine callType_codes (Q₁:=λobj t=>obj = .ref s.heap.objs.size/\t={s with heap:=s.heap.push {cls:= .type "dict",data:= .dict #[]}}) F.kt_called_dict (F.kt_typeCall_dict_1 _) F.entry_dict_init (kt_code_dict_new _ ⟨rfl,rfl⟩) ?_;rintro obj t ⟨rfl,rfl⟩;have k:(s.heap.push {cls:= .type "dict",data:= .dict #[]}).DictOf knd s.heap.objs.size []:=Heap.DictOf.new s.heap;have u:(s.heap.push {cls:= .type "dict",data:= .dict #[]}).get? l=some ol:=Aj _ c;refine⟨k.typeIs,F.args_dict_init_2 _ _,?_⟩;unfold Builtin.«dict.__init__»;refine BJ ?_;unfold Builtin.Dict.selfAndRest;refine BJ<|wpAny_notOrdered_dict k.typeIs ?_;show wpAny _ _ (pure (s.heap.objs.size,[Value.ref l])) _ _ _;refine BK ?_;show wpAny _ _ (Builtin.Dict.updateFrom "dict.__init__" s.heap.objs.size (.ref l) [] .none) _ _ _;unfold Builtin.Dict.updateFrom;refine BJ<|JR (T:= "list") ⟨ol,u,f⟩ ?_;rw[BP<|(by decide)];refine BJ (no u f j B F.gl (by decide) (by exact n) λh' q e ne=>?_);rw[BP (show(none:Option Value).isNone=true from rfl)];have i:∀b o,s.heap.get? b=some o->h'.get? b=some o:=λb o e=>ne.keeps b o<|Aj _ e;refine BJ<|HX ?_;have G:h'.IsList l items.toArray:=⟨ol,i _ _ c,f,nl,j⟩;refine BJ<|RJ G ?_;refine BK ⟨JH F.aM _,?_⟩;have v:h'.DictOf knd s.heap.objs.size []:=let ⟨o,x,y,c,r⟩:=k;⟨o,x,y,ne.keeps _ _ c,r⟩
 have z:s.heap.objs.size<h'.objs.size:=let ⟨o,x,y,c,r⟩:=v;Av c
 refine na (hB:=s.heap) (d:=s.heap.objs.size) (I:=h'.objs.size) (l:=l) (An _) (Cy z) (Bw z) ⟨ol,c,f,nl,j⟩ C D (by exact n) _ 0 _ [] rfl (Bx _) (λb o e=>Aj _<|i b o e) ⟨_,At _ rfl,rfl,rfl⟩ (v.push _) (Bx _) λH m J L=>?_;refine⟨rfl,h H m (λb o e=>J b o (Bw<|Av<|i b o e) (Bw<|Av e)<|Aj _<|i b o e) L⟩
end
end PySem
namespace L2
open PySem PySem.Spec PyProof.Rows
variable{s:Shared}{H:Hp}{σ:St}{O:Ï}{X:Cx}{Y:List (Key×V)}
theorem yK:∀{ps}{acc}{b},KV ps acc->KV Y b->KV (Y.foldl (λa p=>putK a p.1 p.2) ps) (b.foldl (λa p=>stored a p.1 p.2) acc):=by
 induction Y with
 |nil=>intro ps acc b h g;cases g;exact h
 |cons p r c=>
  intro ps acc b h g;cases g with
  | @cons _ q _ j d e=>
   obtain⟨f,i⟩:=d;rw[Dh,Dh];refine c ?_ e;rw[<-f];exact h.put p.1 i
theorem RH{P:Program}{w:World}{h:Heap}:∀{Y:List (Key×V)} {b:(List Addr)},b.length=Y.length->(∀(j:Nat) t a,b[j]?=some t->Y[j]?=some a->∃ ff v o m,(bX P w).is a.1 ff=true/\cc a.2 v/\h.get? t=some o/\o.cls = .type "tuple"/\o.data=.seq #[ff,v] m) ->
  ∃d:List<|Key×Value,KV Y d/\∀(j:Nat) t,b[j]?=some t->∃ff k v o m,d[j]?=some (k,v)/\(bX P w).is k ff=true/\h.get? t=some o/\o.cls=.type "tuple"/\o.data=.seq #[ff,v] m
 |[],b,c,_=>by
  have:b=[]:=Bv.mp c;subst this;exact⟨[],.nil,λj t h=>by simp at h⟩
 |a :: r,[],c,_=>by simp at c
 |a :: r,t :: b,c,f=>by
  obtain⟨ff,v,o,m,l,n,p,q,s⟩:=f 0 t a rfl rfl;obtain⟨d,u,x⟩:=RH (by simpa using c) λj t a y A=>f (j+1) t a (by simpa using y) (by simpa using A);refine⟨(a.1,v):: d,.cons ⟨rfl,n⟩ u,λj B i=>?_⟩;cases j with
  |zero=>
   cases i;exact⟨ff,a.1,v,o,m,rfl,l,p,q,s⟩
  |succ j=>
   obtain⟨ff,k,v,o,m,e,z⟩:=x j B (by simpa using i);exact⟨ff,k,v,o,m,(by simpa using e),z⟩
theorem sN(M:X.calm=true):gR X (.type "dict") (λxs H Q=>∃(a:Addr) (b:(List Addr)) (Y:List<|Key×V),xs=[.ref a]/\H a=some (.lst<|(b.map V.ref))/\b.length=Y.length/\b.length<sizeLine/\(∀(j:Nat) t c,b[j]?=some t->Y[j]?=some c->H t=some (.tup [kV c.1,c.2])) /\
  ∀d,H d=none->Q (.ref d) (upd H d<|.dK<|Y.foldl (λa p=>putK a p.1 p.2) [])):=by
 intro O s σ H xs us Q I r h;obtain⟨a,b,Y,rfl,N,T,hz,U,q⟩:=h;obtain⟨u,rfl,y⟩:=ma r;cases (show u=Value.ref a from y);obtain⟨z,A,n,B,e⟩:=(show aB X.U X.w H s.heap a (.lst<|(b.map V.ref))from I.aH a _ N);have me:=B.length;rw[Aa]at me;have qW:∀(j:Nat)t,b[j]?=some t->A[j]?=some (.ref t):=λj t w=>by
  obtain⟨u,hu,y⟩:=B.get (i:=j) (x:= .ref t) (by rw[Ah,w];rfl);cases (show u=Value.ref t from y);exact hu
 have pair:∀(j:Nat) t c,b[j]?=some t->Y[j]?=some c->∃ff v o m,(bX X.U X.w).is c.1 ff=true/\cc c.2 v/\s.heap.get? t=some o/\o.cls=.type "tuple"/\o.data=.seq #[ff,v] m:=λj t c C E=>by
  obtain⟨z2,d7,iy,o,eo,co,m,dm⟩:=(show aB X.U X.w H s.heap t (.tup [kV c.1,c.2])from I.aH t _<|U j t c C E);obtain⟨ff,v,e3,r1,r2⟩:=iy.two;refine⟨ff,v,o,m,oJ r1,r2,eo,co,?_⟩;rw[dm,e3]
 obtain⟨rs,G,hr⟩:=RH T pair;have wc:=G.length;have hP:Jg (bX X.U X.w) s.heap A rs:=by
  refine⟨(by omega),λj it w=>?_⟩;have oZ:j<b.length:=by have:=(Ac.mp w).1;omega
  have J:b[j]?=some b[j]:=Ab oZ;have L:=qW j _ J;rw[w]at L;obtain⟨ff,k,v,o,m,q1,q2,q3,q4,q5⟩:=hr j _ J;exact⟨b[j],ff,k,v,o,m,Option.some.inj L,q1,q2,q3,q4,q5⟩
 refine YU (knd:=bX X.U X.w) e rfl rfl rfl hP (by omega) (I.ok.hd M) λh' tk kp D=>?_;have f:∀(l:List<|Key×V)(a:List<|Key×V),(l.foldl (λa p=>putK a p.1 p.2) a).length<=a.length+l.length:=by
  intro l
  induction l with
  |nil=>intro a;exact An _
  |cons p r ih=>
   intro a;rw[Dh,As];have C:=ih<|putK a p.1 p.2;have E:=jD a p.1 p.2;omega
 have hb:=I.big;refine⟨.ref s.heap.objs.size,_,I.laid (t':=tk) kp (An _) (show aB X.U X.w _ h' _ (.dK<|Y.foldl (λa p=>putK a p.1 p.2) []) from⟨?_,?_,_,yK (Y:=Y) (ps:=[]) (acc:=[]) .nil G,D⟩),rfl,q _<|I.aH.fresh<|An _⟩
 ·have:=f Y [];rw[Er]at this;omega
 ·exact beq_eq_false_iff_ne.mpr<|Cz hb
variable{ch:(List Addr)}{a:Addr}{tp:Pos}{elts:Ó}{K:aa}{w:World}
section
variable{h':Heap}
def be.bU{t':Nat}(I:(be X O σ H s))(d:∀b∈ch,cr X O H b)(k:∀b o,b∉ch->s.heap.get? b=some o->h'.get? b=some o):be X O σ H {s with heap:=h',toks:=t'}:=by
 have f:∀b u,H b=some u->b∉ch:=λb u e z=>by rw[(d b z).1]at e;cases e
 refine I.step (λb h=>?_) (λb o _ _ a e _=>k b o a e) (λb o _ _ a e _=>⟨o.slots,k b o a e⟩) (λ_ _ _ _ n=>n)
  (λb o a e=>⟨o,k b o a e⟩) (λ_ _ e=>e) (λ_ _ _ e=>e) (λb y e=>⟨#[],by rw[e];simp⟩) (λm i=>?_) (λb u e=>?_) I.bare
 ·obtain⟨A,f1,f2,j,l,p⟩:=d b h;exact⟨j,f1,l,p⟩
 ·obtain⟨o,t,w,x,r⟩:=i;exact⟨o,t,w,k _ o (λz=>(d _ z).2.1 rfl) x,r⟩
 ·refine(I.aH b u e).iE (λc v a q=>k c v ?_ q) (λ_ q=>q) λ_ _ q=>q
  obtain z|z:=a
  ·rw[z];exact f b u e
  ·exact f c _ z
def AI(K:aa)(a b:Addr):It:=
  ⟨λi H => ∃c d x y, au K H a c ∧ au K H b d ∧ c[i]?=some x ∧ d[i]?=some y,
   λi H v e=>∃T x y,H T=none/\v=.ref T/\e=upd H T (.tup [x,y])/\(∀c,au K H a c->c[i]?=some x)/\∀d,au K H b d->d[i]?=some y,
   λi H=>∃c d,au K H a c/\au K H b d/\(c.length<=i\/d.length<=i)⟩
def RU(m a b:Addr)(i:Nat)(h:Heap):Prop:=
 IsZip h (m+4) (m+2) (m+3) .none/\IsPair h (m+2) (.ref m) (.ref<|m+1)/\(∃x y,IsPair h (m+3) x y)/\h.IsListIter m a i/\h.IsListIter (m+1) b i
def RY{h:Heap}{m b:Addr}{i:Nat}{xs ys:Array Value}(z:RU m a b i h)(d:h.IsList a xs)(f:h.IsList b ys):ZipApart (m+4) (m+2) (m+3) m (m+1) a b:=by
  obtain⟨j,B,⟨x,y,k⟩,⟨C,n,p,_⟩,⟨D,q,r,_⟩⟩:=z;have cls:∀{l:Addr} {t:Array Value} {c:Addr} {o:Obj},h.IsList l t->h.get? c=some o->o.cls ≠ .type "list"->l≠c:=λu v w e=>by
    obtain⟨ol,s,A,_⟩:=u;rw[e,v]at s;cases s;exact w A
  exact { TIz := by simp, TOz := by simp, i1z := by simp, i2z := by simp, TITO := by simp, TIi1 := by simp, TIi2 := by simp, TOi1 := by simp, TOi2 := by simp, i12 := by simp
          l1z:=cls d j (by show Value.type "zip"≠Value.type "list";decide),l1TO:=cls d k (by show Value.type "tuple"≠Value.type "list";decide),l1i1:=cls d n (by rw[p];decide),l1i2:=cls d q<|by rw[r];decide
          l2z:=cls f j (by show Value.type "zip"≠Value.type "list";decide),l2TO:=cls f k (by show Value.type "tuple"≠Value.type "list";decide),l2i1:=cls f n (by rw[p];decide),l2i2:=cls f q (by rw[r];decide)}
theorem C3{P:Program}{k:Nat}(m a b:Addr):ue P w K (.Tuple elts k tp) (AI K a b) [m,m+1,m+2,m+3,m+4] (m+4) (RU m a b) where
 mem:=by simp
 obj:=λi h st c hc=>by
  obtain⟨z1,z2,⟨x,y,z3⟩,⟨o4,e4,c4,d4⟩,⟨o5,e5,c5,d5⟩⟩:=st;simp only[Ai,Cc,GQ]at hc
  obtain rfl|rfl|rfl|rfl|rfl:=hc
  ·exact⟨_,e4,λv z=>by rw[d4]at z;cases z⟩
  ·exact⟨_,e5,λv z=>by rw[d5]at z;cases z⟩
  ·exact⟨_,z2,λv z=>by cases z⟩
  ·exact⟨_,z3,λv z=>by cases z⟩
  ·exact⟨_,z1,λv z=>by cases z⟩
 keep:=λi h h' st kp=>by
  obtain⟨z1,z2,⟨x,y,z3⟩,⟨o4,e4,r4⟩,⟨o5,e5,r5⟩⟩:=st;exact⟨kp _ (by simp) _ z1,kp _ (by simp) _ z2,⟨x,y,kp _ (by simp) _ z3⟩,⟨o4,kp _ (by simp) _ e4,r4⟩,⟨o5,kp _ (by simp) _ e5,r5⟩⟩
 item:=by
  intro X hP hw hK hc i O s σ H E I hf st hg;subst hP hw hK;obtain⟨xs,ys,x,y,fA,AJ,hx,hy⟩:=hg;obtain⟨kQ,nF,p1,qX⟩:=I.list fA;obtain⟨d7,iy,p2,AK⟩:=I.list AJ;obtain⟨u1,eX,Jj⟩:=nF.get hx;obtain⟨u2,tV,ru2⟩:=iy.get hy;have D:=RY st p1.isList p2.isList;obtain⟨z1,z2,⟨x0,y0,z3⟩,z4,z5⟩:=id st;refine wpAny_pyNext_zip_item D z1 z2 z3 z4 z5 p1.isList p2.isList (by simpa using eX) (by simpa using tV) λh' a1 a2 a3 a4 a5 a6 kp=>?_;have hT:=I.aH.fresh<|An _;have nT:∀c∈[m,m+1,m+2,m+3,m+4],c≠s.heap.objs.size:=λc bj=>by
   have:∃o,s.heap.get? c=some o:=by
    obtain⟨o4,e4,_⟩:=z4;obtain⟨o5,e5,_⟩:=z5;simp only[Ai,Cc,GQ]at bj
    obtain rfl|rfl|rfl|rfl|rfl:=bj
    ·exact⟨_,e4⟩
    ·exact⟨_,e5⟩
    ·exact⟨_,z2⟩
    ·exact⟨_,z3⟩
    ·exact⟨_,z1⟩
   obtain⟨o,e⟩:=this;exact Bw<|Av e
  have I1:be X O σ (upd H s.heap.objs.size<|.tup [x,y]) {s with heap:=s.heap.push {cls:= .type "tuple",data:= .seq #[u1,u2]}}:=
   I.laid (t':=s.toks) (λb o e=>Aj _ e) (An _) (show aB X.U X.w _ _ _ (.tup [x,y]) from⟨Z2,[u1,u2],.cons Jj<|.cons ru2 .nil,⟨_,At _ rfl,rfl,_,rfl⟩⟩)
  have f1:∀ c∈[m,m+1,m+2,m+3,m+4],cr X O (upd H s.heap.objs.size<|.tup [x,y]) c:=λc bj=>⟨by rw[aw<|nT c bj];exact(hf c bj).1,(hf c bj).2⟩;have qF:∀ c o,c∉[m,m+1,m+2,m+3,m+4]->(s.heap.push {cls:= .type "tuple",data:= .seq #[u1,u2]}).get? c=some o->h'.get? c=some o:=λc o bj e=>by
   obtain⟨ec,eo⟩|e':=He e
   ·rwa[ec,eo]
   ·simp only[Ai,Cc,GQ,not_or]at bj;exact kp c o bj.2.2.2.2 bj.2.2.2.1 bj.1 bj.2.1 e'
  have I2:=be.bU (h':=h') (t':=s.toks) I1 f1 qF;refine⟨_,rfl,wpAny_letOwnedTupleGo_zip (s:={s with heap:=h'}) a1 λh2 b1 sb=>?_⟩;have z2':IsPair h' (m+2) (.ref m) (.ref<|m+1):=kp _ _ (by simp) (by simp) (by simp) (by simp) z2;have AO:∀c o,c∉[m+4]->h'.get? c=some o->h2.get? c=some o:=λc o bj e=>(sb.2 c<|(by simpa using bj)).trans e;have I3:=be.bU (h':=h2) (t':=s.toks) I2 (ch:=[m+4]) (λc bj=>f1 c<|by simp at bj;simp[bj]) AO;refine⟨.ref s.heap.objs.size,_,I3,rfl,⟨_,x,y,hT,rfl,rfl,λzs hz=>by rw[I.cY hz fA];exact hx,λzs hz=>by rwa[I.cY hz AJ]⟩,?_,λc bj=>(f1 c bj).1⟩;have sx:∀c o,c≠m+4->h'.get? c=some o->h2.get? c=some o:=λc o bj e=>(sb.2 c bj).trans e;obtain⟨o3,e3,r3⟩:=a3;obtain⟨o4,e4,r4⟩:=a4;exact⟨b1,sx _ _ (by simp) z2',⟨u1,u2,sx _ _ (by simp) a2⟩,⟨o3,sx _ _ (by simp) e3,r3⟩,⟨o4,sx _ _ (by simp) e4,r4⟩⟩
 done:=by
  intro X hP hw hK hc i O s σ H E I hf st hg;subst hP hw hK;obtain⟨xs,ys,fA,AJ,we⟩:=hg;obtain⟨kQ,nF,p1,qX⟩:=I.list fA;obtain⟨d7,iy,p2,AK⟩:=I.list AJ;have l1:=nF.length;have l2:=iy.length;have D:=RY st p1.isList p2.isList;obtain⟨z1,z2,⟨x0,y0,z3⟩,z4,z5⟩:=id st;refine wpAny_pyNext_zip_end (I.ok.hd hc) D z1 z2 z3 z4 z5 p1.isList p2.isList ?_ λh' kp=>⟨rfl,I.bU (t':=s.toks) (ch:=[m,m+1,m+2,m+3,m+4]) hf λc o bj e=>?_⟩
  ·obtain h|h:=we
   ·exact .inl<|by simp;omega
   ·exact .inr<|by simp;omega
  ·simp only[Ai,Cc,GQ,not_or]at bj;exact kp c o bj.2.2.2.2 bj.2.2.2.1 bj.1 bj.2.1 e
 self:=λ_ _ _ _ _ st h=>wpAny_pyIter_zip st.1 h
end
def Jk(K:aa)(ta:TA):TI:=λσ H R=>ta σ H λd c=>∃a b,d=[.ref a,.ref b]/\(∃e,au K c a e)/\(∃f,au K c b f)/\R (AI K a b) c
theorem R0{k:Nat}{a b:Expr}{ta:TA}{p pos:Pos}(m:Gl X "zip")(n:X.mg "zip" = none)(o:PA X [a,b] ta)(r:starEach [a,b] X.env=[(false,eval a X.env),(false,eval b X.env)]:=by rfl)(i:starEach [b] X.env=[(false,eval b X.env)]:=by rfl):
  PI X (.Tuple elts k tp) (.Call (.Name "zip" p) [a,b] [] pos) (Jk X.K ta):=by
 intro O s σ H R I h;refine Call_ (mQ I m n boot_zip<|IK (aO (o pos O s σ H _ I h) λT c⟨U,t,d,w,z⟩=>?_) (by rw[r,i])<|by rw[i];rfl);obtain⟨x,y,e,⟨Y,A⟩,⟨ys,B⟩,q⟩:=z;subst e;obtain⟨u,v,rfl,C,D⟩:=w.two;cases (show u=Value.ref x from C);cases (show v=Value.ref y from D);obtain⟨kQ,nF,E,qX⟩:=d.list A;obtain⟨d7,iy,G,AK⟩:=d.list B;refine call_zip_2 E.isList G.isList λh' j J L M N a6 Q=>?_;refine wpAny_pyIter_zip j ?_;refine⟨c.heap.objs.size+4,[c.heap.objs.size,c.heap.objs.size+1,c.heap.objs.size+2,c.heap.objs.size+3,c.heap.objs.size+4],_,_,t,rfl,d.kept Q,C3 c.heap.objs.size x y,⟨j,J,⟨_,_,L⟩,M,N⟩,λb l=>?_,q⟩;have f:c.heap.objs.size<=b:=by
  simp only[Ai,Cc,GQ]at l
  obtain rfl|rfl|rfl|rfl|rfl:=l<;>omega
 exact d.jA f<|d.aH.fresh f
def tW(b c d:Expr)(f1:Ó)(e a:Expr)(f2:Ó)(scope:Scope)(pos:Pos)(acc:Value)(env:Env):Sem Unit:=do
 let x <-eval a env
 standAt a.pos
 let x <-foldedSetIterable a env x
 let _ <-runOwn (.compStart (.ListComp b [⟨c,d,f1,0⟩,⟨e,a,f2,0⟩] scope pos) 1 (<-holding [x]<|pyIter x) acc env) env
variable{env:Env}{acc:Value}{scope:Scope}{Q:St->Hp->Prop}{wi:TI}
section
variable{elt t1 i1 t2 i2:Expr}{f1 f2:Ó}{pos:Pos}
def al:gr (.ListComp elt [⟨t1,i1,f1,0⟩,⟨t2,i2,f2,0⟩] scope pos) 0 t1 i1 f1 acc env (tW elt t1 i1 f1 t2 i2 f2 scope pos acc env):=⟨rfl,λ_=>rfl,λ_ _ _=>rfl,λ_ _=>rfl,λ_ _ _=>rfl,λ_ _=>rfl,λit=>by
 unfold tW;simp only[bind_assoc,pure_bind];rfl⟩
def jI:gr (.ListComp elt [⟨t1,i1,f1,0⟩,⟨t2,i2,f2,0⟩] scope pos) 1 t2 i2 f2 acc env (xw elt acc env):=⟨rfl,λ_=>rfl,λ_ _ _=>rfl,λ_ _=>rfl,λ_ _ _=>rfl,λ_ _=>rfl,λ_=>rfl⟩
def pz(b:X.xe=λ_ _=>False)(c:X.calm=true)(d:PI X t2 i2 wi)(h:wi σ H λJ f=>iK X t2 f2 (xw elt acc X.env) J Q σ f)
  (i:∀x,foldedSetIterable i2 X.env x=pure x:=by intro _;rfl):l7 X (tW elt t1 i1 f1 t2 i2 f2 scope pos acc X.env) σ H Q:=by
 refine⟨λO s I=>?_⟩;unfold tW;refine BJ<|aO (d O s σ H _ I h) λx t j=>?_;refine BJ<|GX<|BJ<|JF (i x)<|BJ<|CJ<|CW j (λu v k=>?_) λ_ _ e=>e;obtain⟨it,w,y,J,z,e,l,T,m,n,q⟩:=k;subst e;refine BJ<|wpAny_runOwn ?_;exact zu b c jI l T m n q λa o A p r=>BK ⟨a,o,p,r⟩
def q3i{Q:VK}(a:Scope)(N N':Ð)(n:Nat)(d:PI X t1 i1 wi)
  (h:wi σ H λJ b=>∀D,b D=none->∀c C æ ç ex,iK ((fY X N' scope c C æ ç ex)) t1 f1 (tW elt t1 i1 f1 t2 i2 f2 scope pos (.ref D)<|compEnvC scope c C X.env) J (λ_ H'=>Q (.ref D) H') (σ++replicate n none)<|upd b D<|.lst [])
  (e:X.calm=true:=by rfl) (f:X.env.scope=a:=by rfl) (i:X.N=N:=by rfl) (j:ng a scope N N'=true:=by decide +kernel) (k:N'.length=N.length+n:=by rfl)
  (l:∀x,foldedSetIterable i1 X.env x=pure x:=by intro _;rfl):Ev X (.ListComp elt [⟨t1,i1,f1,0⟩,⟨t2,i2,f2,0⟩] scope pos) σ H Q:=
 AH (u0:=λ_=> .lst []) (λ_ _ _ h=>DN h<|by show(0:Nat)<=sizeLine;exact Bx _) (λ_ _ _=>⟨Bx _,[],0,.nil,At _ rfl⟩) (λ_ _=>al) rfl rfl a N N' n d h e f i j k l
end
variable{E:Í}{A:Around}
section
variable{y v:V}{u r:Value}
theorem R1{H':Hp}{Q:Unit->Shared->Prop}(i:A.units+1<cLine)(I:(be X O σ H s))(g:cw H a y v H')(t:cc y u)(w:cc v r)(h:∀s',be X O σ H' s'->Q () s'):
  wpAny (model X.U X.w) A (dictSet a u r) Q E s:=by
 obtain⟨Y,k,e,j,l,m⟩|⟨Y,k,b,e,j,x,l,m⟩:=g
 ·subst j m;obtain⟨z,hd,C,rel,n⟩:=vy I.aH e;have D:C.length<=sizeLine:=by rwa[<-rel.length]
  have o:(putK Y k v).length<=sizeLine:=by have:=jD Y k v;omega
  refine wpAny_dictSet_pairs (oJ t) n λB d p=>h _ ?_;have G:∃q,B.get? a=some q:=let ⟨q,_,_,f,_⟩:=d;⟨q,f⟩
  exact lX I (by rw[e];exact True.intro) p G<|FH o hd (rel.put k w) d
 ·subst j m;cases (show u=Value.ref b from t);obtain⟨z,hd,J,rel,n⟩:=Py I.aH e;have D:J.length<=sizeLine:=by rwa[<-Paired.length rel]
  have o:(putK Y k v).length<=sizeLine:=by have:=jD Y k v;omega
  have room:(tupleKind<|bX X.U X.w).room A:=by first|exact i|exact Nat.lt_of_succ_lt i|exact QT (Es _) i
  refine wpAny_dictSet_heap room (lW I.aH x) n λB d p=>h _ ?_;obtain⟨q,L,M,f,N,T,U,_,h5⟩:=d;refine lX I (by rw[e];exact True.intro) p ⟨q,f⟩ ⟨o,hd,_,(rel.put k x w).keeps λc ys ec=>?_,q,L,M,f,N,T,U,h5⟩;rwa[aw<|cf ec e λz=>nomatch z]
end
def nG(k v:Expr)(acc:Value)(env:Env):Sem Unit:=do
 let a <-eval k env
 let b <-holding [a]<|eval v env
 match acc with
 |.ref d=>do
  standAt {k.pos with endLine:=v.pos.endLine,endCol:=v.pos.endCol}
  holding [a,b] (dictSet d a b)
 |_=>unsupported "internal:dictcomp"
def tX(k v b c:Expr)(f1:Ó)(d a:Expr)(f2:Ó)(scope:Scope)(pos:Pos)(acc:Value)(env:Env):Sem Unit:=do
 let x <-eval a env
 standAt a.pos
 let x <-foldedSetIterable a env x
 let _ <-runOwn (.compStart (.DictComp k v [⟨b,c,f1,0⟩,⟨d,a,f2,0⟩] scope pos) 1 (<-holding [x]<|pyIter x) acc env) env
variable{D:Addr}
section
variable{k v t1 i1 t2 i2:Expr}{f1 f2:Ó}{pos:Pos}
def jg:gr (.DictComp k v [⟨t1,i1,f1,0⟩] scope pos) 0 t1 i1 f1 acc env (nG k v acc env):=⟨rfl,λ_=>rfl,λ_ _ _=>rfl,λ_ _=>rfl,λ_ _ _=>rfl,λ_ _=>rfl,λit=>by
 unfold nG;cases acc<;>first|rfl|(simp only[bind_assoc,pure_bind];rfl)⟩
def qs:gr (.DictComp k v [⟨t1,i1,f1,0⟩,⟨t2,i2,f2,0⟩] scope pos) 0 t1 i1 f1 acc env (tX k v t1 i1 f1 t2 i2 f2 scope pos acc env):=⟨rfl,λ_=>rfl,λ_ _ _=>rfl,λ_ _=>rfl,λ_ _ _=>rfl,λ_ _=>rfl,λit=>by
 unfold tX;simp only[bind_assoc,pure_bind];rfl⟩
def i9:gr (.DictComp k v [⟨t1,i1,f1,0⟩,⟨t2,i2,f2,0⟩] scope pos) 1 t2 i2 f2 acc env (nG k v acc env):=⟨rfl,λ_=>rfl,λ_ _ _=>rfl,λ_ _=>rfl,λ_ _ _=>rfl,λ_ _=>rfl,λit=>by
 unfold nG;cases acc<;>first|rfl|(simp only[bind_assoc,pure_bind];rfl)⟩
def R3(f:X.A.units+1<cLine)(h:Ev X k σ H λy b=>Ev X v σ b λx c=>∃a,cw c D y x a/\Q σ a):l7 X (nG k v (.ref D) X.env) σ H Q:=by
 refine⟨λO s I=>?_⟩;unfold nG;refine BJ<|aO (h.run O s I) λd i⟨y,b,j,l,m⟩=>?_;refine BJ<|CJ<|aO (m.run O i j) λe t⟨x,c,n,o,a,p,q⟩=>?_;show wpAny _ _ (standAt _ >>= λ_=>holding [d,e]<|dictSet D d e) _ _ _;exact BJ<|GX<|CJ<|R1 f n p l o λu r=>⟨σ,a,r,q⟩
def ou(b:X.xe=λ_ _=>False)(c:X.calm=true)(d:PI X t2 i2 wi)(h:wi σ H λJ f=>iK X t2 f2 (nG k v acc X.env) J Q σ f)
  (i:∀x,foldedSetIterable i2 X.env x=pure x:=by intro _;rfl):l7 X (tX k v t1 i1 f1 t2 i2 f2 scope pos acc X.env) σ H Q:=by
 refine⟨λO s I=>?_⟩;unfold tX;refine BJ<|aO (d O s σ H _ I h) λx u j=>?_;refine BJ<|GX<|BJ<|JF (i x)<|BJ<|CJ<|CW j (λw y l=>?_) λ_ _ e=>e;obtain⟨it,z,A,J,B,e,m,T,n,o,q⟩:=l;subst e;refine BJ<|wpAny_runOwn ?_;exact zu b c i9 m T n o q λa p C r t=>BK ⟨a,p,r,t⟩
def R5{Q:VK}(a:Scope)(N N':Ð)(n:Nat)(d:PI X t1 i1 wi)
  (h:wi σ H λJ b=>∀D,b D=none->∀c C æ ç ex,iK ((fY X N' scope c C æ ç ex)) t1 f1 (nG k v (.ref D)<|compEnvC scope c C X.env) J (λ_ H'=>Q (.ref D) H') (σ++replicate n none)<|upd b D<|.dT [])
  (e:X.calm=true:=by rfl) (f:X.env.scope=a:=by rfl) (i:X.N=N:=by rfl) (j:ng a scope N N'=true:=by decide +kernel) (l:N'.length=N.length+n:=by rfl)
  (m:∀x,foldedSetIterable i1 X.env x=pure x:=by intro _;rfl):Ev X (.DictComp k v [⟨t1,i1,f1,0⟩] scope pos) σ H Q:=
 AH (λ_ _ _ h=>DN h) (λ_ h o=>FK h o) (λ_ _=>jg) rfl rfl a N N' n d h e f i j l m
def k6p{Q:VK}(a:Scope)(N N':Ð)(n:Nat)(d:PI X t1 i1 wi)
  (h:wi σ H λJ b=>∀D,b D=none->∀c C æ ç ex,iK ((fY X N' scope c C æ ç ex)) t1 f1 (tX k v t1 i1 f1 t2 i2 f2 scope pos (.ref D)<|compEnvC scope c C X.env) J (λ_ H'=>Q (.ref D) H') (σ++replicate n none)<|upd b D<|.dT [])
  (e:X.calm=true:=by rfl) (f:X.env.scope=a:=by rfl) (i:X.N=N:=by rfl) (j:ng a scope N N'=true:=by decide +kernel) (l:N'.length=N.length+n:=by rfl)
  (m:∀x,foldedSetIterable i1 X.env x=pure x:=by intro _;rfl):Ev X (.DictComp k v [⟨t1,i1,f1,0⟩,⟨t2,i2,f2,0⟩] scope pos) σ H Q:=
 AH (λ_ _ _ h=>DN h) (λ_ h o=>FK h o) (λ_ _=>qs) rfl rfl a N N' n d h e f i j l m
end
open bP
variable{zs:Ð}{U:Program}
def R9{z:Str}{c:Tok}{Q:Í}(S:aA U w s.heap a zs)(d:zs.length+1<1000)
  (h:∀h',Heap.SameBut a s.heap h'->aA U w h' a (added zs z)->Q .none {s with heap:=h',toks:=s.toks+1}):
  (ba U w A) (call (.builtin "set.add") [.ref a,.str z c]) Q E s:=by
 have e:s.TypeIs (.ref a) "set":=let ⟨o,_,_,_,f,i,_⟩:=S;⟨o,f,i.1⟩
 refine DG F.slot_set_add e F.entry_set_add ?_<|F.args_set_add_2 _ _;unfold Builtin.«set.add» Builtin.Frozenset.oneOther;simp only[Fd,bind_assoc];unfold Builtin.Frozenset.addrOf setAdd;refine BJ<|BK ?_
 try dsimp only
 refine BJ<|BK ?_
 try dsimp only
 refine BJ<|CJ ?_;refine BJ ((PySem.strKind U w).pyHash (k:=z) (by simp[PySem.strKind,Value.isStrOf]) ?_);refine Hx S d λb h' j l=>?_;show wpAny _ _ (ret Value.none) _ _ _;exact BK ⟨_,rfl,h h' j l⟩
def WI{Q:Í}(k:Q (.ref s.heap.objs.size) {s with heap:=s.heap.push (gI w)}):(ba U w A) (newSet<|.type "set") Q E s:=by
 unfold newSet;refine BJ<|wp_text ?_
 dsimp only
 simp only[newObj];exact BJ<|QL<|BK k
def wj(a:Expr)(acc:Value)(env:Env):Sem Unit:=do let v <- eval a env;standAt a.pos;let _ <- call (.builtin "set.add") [acc,v]
def tY(b c d:Expr)(f1:Ó)(e a:Expr)(f2:Ó)(scope:Scope)(pos:Pos)(acc:Value)(env:Env):Sem Unit:=do
 let x <-eval a env
 standAt a.pos
 let x <-foldedSetIterable a env x
 let _ <-runOwn (.compStart (.SetComp b [⟨c,d,f1,0⟩,⟨e,a,f2,0⟩] scope pos) 1 (<-holding [x]<|pyIter x) acc env) env
section
variable{elt t1 i1 t2 i2:Expr}{f1 f2:Ó}{pos:Pos}
def OP:gr (.SetComp elt [⟨t1,i1,f1,0⟩,⟨t2,i2,f2,0⟩] scope pos) 0 t1 i1 f1 acc env (tY elt t1 i1 f1 t2 i2 f2 scope pos acc env):=⟨rfl,λ_=>rfl,λ_ _ _=>rfl,λ_ _=>rfl,λ_ _ _=>rfl,λ_ _=>rfl,λit=>by
 unfold tY;simp only[bind_assoc,pure_bind];rfl⟩
def Lu:gr (.SetComp elt [⟨t1,i1,f1,0⟩,⟨t2,i2,f2,0⟩] scope pos) 1 t2 i2 f2 acc env (wj elt acc env):=⟨rfl,λ_=>rfl,λ_ _ _=>rfl,λ_ _=>rfl,λ_ _ _=>rfl,λ_ _=>rfl,λit=>by
 unfold wj
 first|rfl|(simp only[bind_assoc,pure_bind];rfl)⟩
def oU(h:Ev X elt σ H λv a=>∃z zs,v=.str z/\a D=some (bq X.U X.w D zs)/\zs.length+1<1000/\Q σ (upd a D<|bq X.U X.w D<|added zs z)):l7 X (wj elt (.ref D) X.env) σ H Q:=by
 refine⟨λO s I=>?_⟩;unfold wj;refine BJ<|aO (h.run O s I) λv l⟨x,a,b,f,z,zs,e,c,i,q⟩=>?_;subst e;obtain⟨m,rfl⟩:=f;refine BJ (GX<|BJ<|R9 (b.set c) i λn j d=>BK ⟨σ,_,lX b (by rw[c];exact True.intro) j ?_<|tN d,q⟩);obtain⟨o,_,_,_,k,_⟩:=d;exact⟨o,k⟩
def nq(b:X.xe=λ_ _=>False)(c:X.calm=true)(d:PI X t2 i2 wi)(h:wi σ H λJ f=>iK X t2 f2 (wj elt acc X.env) J Q σ f)
  (i:∀x,foldedSetIterable i2 X.env x=pure x:=by intro _;rfl):l7 X (tY elt t1 i1 f1 t2 i2 f2 scope pos acc X.env) σ H Q:=by
 refine⟨λO s I=>?_⟩;unfold tY;refine BJ<|aO (d O s σ H _ I h) λx t j=>?_;refine BJ<|GX<|BJ<|JF (i x)<|BJ<|CJ<|CW j (λu v k=>?_) λ_ _ e=>e;obtain⟨it,w,y,J,z,e,l,T,m,n,q⟩:=k;subst e;refine BJ<|wpAny_runOwn ?_;exact zu b c Lu l T m n q λa o A p r=>BK ⟨a,o,p,r⟩
def k9i{Q:VK}(a:Scope)(N N':Ð)(n:Nat)(d:PI X t1 i1 wi)
  (h:wi σ H λJ b=>∀D,b D=none->∀c C æ ç ex,iK ((fY X N' scope c C æ ç ex)) t1 f1 (tY elt t1 i1 f1 t2 i2 f2 scope pos (.ref D)<|compEnvC scope c C X.env) J (λ_ H'=>Q (.ref D) H') (σ++replicate n none)<|upd b D<|bq X.U X.w D [])
  (e:X.calm=true:=by rfl) (f:X.env.scope=a:=by rfl) (i:X.N=N:=by rfl) (j:ng a scope N N'=true:=by decide +kernel) (k:N'.length=N.length+n:=by rfl)
  (l:∀x,foldedSetIterable i1 X.env x=pure x:=by intro _;rfl):Ev X (.SetComp elt [⟨t1,i1,f1,0⟩,⟨t2,i2,f2,0⟩] scope pos) σ H Q:=
 AH (λ_ _ _ h=>WI h) (λ_ h _=>tN<|HM<|At _ rfl) (λ_ _=>OP) rfl rfl a N N' n d h e f i j k l
end
end L2
namespace L2
open PySem PySem.Builtin PySem.Builtin.Str
end L2
namespace PySem
def wT(h:Heap)(d:Addr)(es:Array DictEntry)(ep:Nat):Prop:=∃o,h.get? d=some o/\o.ExactDict/\o.data=.dict es ep
variable{E:Í}{ep:Nat}{es:Array DictEntry}{Q:Option Value->Shared->Prop}{en:DictEntry}
section
variable{P:Program}{w:World}{A:Around}{s:Shared}
def bO(d:Addr)(hd:(d == sysModules)=false):MeetsIn P w (Builtin.«dict.items» ⟨[.ref d],[]⟩) (λ_ R u=>u.TypeIs (.ref d) "dict" /\
  R (.ok<|.ret<|.ref u.heap.objs.size) {u with heap:=u.heap.push {cls:= .type "dict_items",data:= .fields #[.ref d]}}):=by
 refine .of_wp λB R u⟨a,k⟩=>?_;unfold Builtin.«dict.items» Builtin.Dict.noArgs;refine BJ<|BJ<|wpAny_notOrdered_dict a ?_;show wpAny _ _ (pure d) _ _ u;refine BK ?_;show wpAny _ _ (Builtin.Dict.showsAll d >>= _) _ _ u;unfold Builtin.Dict.showsAll;rw[BL<|by rw[hd];exact Aw];exact BJ<|BK<|BJ<|DN<|BK ⟨_,rfl,k⟩
theorem zL{v d:Addr}{Q:Í}(a:s.heap.IsItemsView v d)(c:wT s.heap d es ep)
  (k:Q (.ref s.heap.objs.size) {s with heap:=s.heap.push {cls:= .type "dict_itemiterator",data:= .fields #[.none,.bool false,.ref d,.int 0 0,.int es.size 0,.int ep 0,.none,.none]}}):
  ba P w A (pyIter<|.ref v) Q E s:=by
 obtain⟨i,e,j,f⟩:=id a;obtain⟨o,f1,f2,b⟩:=c;refine LK a.typeIs F.slot_dict_items_iter<|DG F.slot_dict_items_iter a.typeIs F.entry_dict_items_iter ?_<|F.args_dict_items_iter_1 _;unfold Builtin.«dict_items.__iter__» Builtin.Dict_items.dictOf Builtin.Dict_items.newIterator;refine BJ<|BK<|BJ<|BJ<|JN e f rfl (BK ?_);refine BJ<|BJ<|RM f1 b<|BJ<|TF f1 b ?_;have h:Builtin.Dict_items.ownsTuple "dict_itemiterator" = true:=(by decide)
 simp only[h,CZ];refine DN (BK ⟨_,rfl,"dict_itemiterator",_,⟨_,At _ rfl,rfl⟩,F.slot_dict_itemiterator_next.lookup,?_⟩) ?_
 ·simpa[rawInt,Builtin.Dict_items.ownedTupleFields]using k
 ·simp only[sizeOk,Builtin.Dict_items.ownedTupleFields,Ay,Ag,As,Er,DX];omega
theorem ET{it d:Addr}{i:Nat}{y z:Value}(hit:IsItemIter s.heap it d i es.size ep y z)(hm:wT s.heap d es ep)(q:es[i]?=some en)
  (k : ∀ h', IsItemIterOut h' it d (i + 1) es.size ep en.key en.val s.heap.objs.size → h'.get? s.heap.objs.size = some { cls := .type "tuple", data := .seq #[en.key, en.val] } →
   (∀b o,b≠it->s.heap.get? b=some o->h'.get? b=some o)->Q (some<|.ref s.heap.objs.size) {s with heap:=h'}):ba P w A (pyNext<|.ref it) Q E s:=by
 obtain⟨a,g,f,j,os⟩:=s;obtain⟨o,f1,f2,N⟩:=hm;have ty:Shared.TypeIs ⟨a,g,f,j,os⟩ (.ref it) "dict_itemiterator":=⟨_,hit,rfl⟩;have lt:i<es.size:=by
  obtain h|h:=Da i es.size
  ·exact h
  ·rw[Dv h]at q;cases q
 have ow:Builtin.Dict_items.ownsTuple "dict_itemiterator" = true:=(by decide)
 unfold pyNext;refine BJ<|NK<|JG ty HS<|DG HS ty QD ?_<|PK _;refine BJ<|BK<|BJ<|BJ ?_
 first|refine BJ (HN ty<|BK ?_)|refine BJ<|JC ty<|BK ?_
 refine BJ<|QJ hit rfl ?_;simp only[ow,CZ];show wpAny _ _ (if(Value.ref d == Value.none)=true then _ else _) _ _ _;rw[BL (show ¬((Value.ref d == Value.none)=true)from Aw)];refine BJ<|BK<|BJ<|RM f1 N ?_;rw[BL<|by simp];refine BJ<|BK<|BJ<|TF f1 N ?_;rw[BL<|by simp];refine BK ?_;simp only[show ¬((i:Int)<0)from by omega,CP,Bk,q];refine BJ ?_
 first|refine BJ (HN ty<|BK ?_)|refine BJ<|JC ty<|BK ?_
 refine BJ<|MF ty ?_;show wpAny _ _ (setField (.ref it) 3 (rawInt<|(i:Int)+1) >>= _) _ _ ⟨a,g,f,j,os⟩;refine BJ (JK hit (by simp) λc n p=>?_);replace p:Heap.SameBut it a c:=p;replace n:IsItemIter c it d (i+1) es.size ep y z:=by
  have e:((i+1:Nat):Int)=(i:Int)+1:=(by omega)
  unfold IsItemIter;rw[e]
  simpa[rawInt]using n
 have O:Shared.TypeIs ⟨c,g,f,j,os⟩ (.ref it) "dict_itemiterator":=⟨_,n,rfl⟩;refine BJ<|CJ<|BJ<|MF O<|BJ<|MF O ?_;show wpAny _ _ (Builtin.Dict_items.pairFromOwner (.ref it) 6 en.key en.val) _ _ ⟨c,g,f,j,os⟩;unfold Builtin.Dict_items.pairFromOwner Builtin.Dict_items.ownedTupleIsFree;refine BJ<|QK ?_;have m:IsItemIter (c.push {cls:= .type "tuple",data:= .seq #[en.key,en.val]}) it d (i+1) es.size ep y z:=Aj _ n;have T:c.objs.size=a.objs.size:=p.1;have il:it<a.objs.size:=Av hit;have U:(c.push {cls:= .type "tuple",data:= .seq #[en.key,en.val]}).get? a.objs.size=some {cls:= .type "tuple",data:= .seq #[en.key,en.val]}:=by rw[<-T];exact At _ rfl
 have Y:∀ b u,b≠it->a.get? b=some u->(c.push {cls:= .type "tuple",data:= .seq #[en.key,en.val]}).get? b=some u:=λb u l e=>Aj _<|p.extBut b u l e;rw[T];generalize c.push {cls:= .type "tuple",data:= .seq #[en.key,en.val]}=l at m U Y;refine BJ<|BJ<|JN (s:=⟨l,g,f,j,os⟩) m rfl (x:= .none) rfl (BK ?_);simp only[CZ];refine BJ<|JN (s:=⟨l,g,f,j,os⟩) m rfl (x:=y) rfl (BJ<|JN (s:=⟨l,g,f,j,os⟩) m rfl (x:=z) rfl ?_);refine BJ (JK m (by simp) λr t v=>?_);replace v:Heap.SameBut it l r:=v;replace t:IsItemIter r it d (i+1) es.size ep en.key z:=t;refine BJ (JK t (by simp) λB C D=>?_);replace D:Heap.SameBut it r B:=D;replace C:IsItemIter B it d (i+1) es.size ep en.key en.val:=C;refine BJ (JK C (by simp) λG H I=>?_);replace I:Heap.SameBut it B G:=I;replace H:IsItemIterOut G it d (i+1) es.size ep en.key en.val a.objs.size:=H;refine BJ (JK H (by simp) λJ L M=>?_);replace M:Heap.SameBut it G J:=M;replace L:IsItemIterOut J it d (i+1) es.size ep en.key en.val a.objs.size:=L;have all:=((v.trans D).trans I).trans M;exact BJ<|wpAny_letGo<|BK<|BK ⟨_,rfl,BK<|k J L (all.extBut _ _ (Cz il) U) λb u hG e=>all.extBut b u hG<|Y b u hG e⟩
theorem vQ{it d:Addr}{i:Nat}{y z:Value}(c:A.handled=none)(hit:IsItemIter s.heap it d i es.size ep y z)(e:wT s.heap d es ep)(f:es.size<=i)
  (k:∀h',Heap.ExtBut it s.heap h'->Q none {s with heap:=h'}):ba P w A (pyNext<|.ref it) Q E s:=by
 obtain⟨o,f1,f2,a⟩:=e;have ty:s.TypeIs (.ref it) "dict_itemiterator":=⟨_,hit,rfl⟩;have h:Builtin.Dict_items.ownsTuple "dict_itemiterator" = true:=(by decide)
 unfold pyNext;refine BJ<|NK<|JG ty HS<|DG HS ty QD ?_<|PK _;refine BJ<|BK<|BJ<|BJ ?_
 first|refine BJ (HN ty<|BK ?_)|refine BJ<|JC ty<|BK ?_
 refine BJ<|QJ hit rfl ?_;simp only[h,CZ];show wpAny _ _ (if(Value.ref d == Value.none)=true then _ else _) _ _ s;rw[BL (show ¬((Value.ref d == Value.none)=true)from Aw)];refine BJ<|BK<|BJ<|RM f1 a ?_;rw[BL<|by simp];refine BJ<|BK<|BJ<|TF f1 a ?_;rw[BL<|by simp];refine BK ?_;simp only[show ¬((i:Int)<0)from by omega,CP,Bk,Dv f];refine BJ ?_
 first|refine BJ (HN ty<|BK ?_)|refine BJ<|JC ty<|BK ?_
 show wpAny _ _ (setField (.ref it) 2 .none >>= _) _ _ s;refine BJ (DW hit rfl (by simp) ?_);show wpAny _ _ (newExc (.type "StopIteration") [] >>= _) _ _ _;refine BJ ?_;simp only[newExc,newTuple];refine BJ (DN ?_<|by size_fits);refine BJ (JF (by first|rfl|(simp only[firstArgMember];rfl)) ?_);refine DN ?_ (by size_fits);simp only[raiseNew];refine BJ<|wpAny_handled ?_;rw[show A.in1.handled=none from c];refine BJ<|BK<|wpAny_throw ?_;exact BJ<|JZ (T:= "StopIteration") (b:=true) ⟨_,At _ rfl,rfl⟩ isSubtype_stop<|BK<|k _<|((CT ..).extBut.push _).push _
def EO:entryFor table "dict_itemiterator.__iter__" = some Builtin.«dict_keyiterator.__iter__»:=
 QG (id':= "dict_keyiterator.__iter__") (by kernel_rfl) rfl (by decide +kernel) (by kernel_rfl)
def c0{it d:Addr}{i n:Nat}{y z:Value}{Q:Í}(e:IsItemIter s.heap it d i n ep y z)(h:Q (.ref it) s):ba P w A (pyIter<|.ref it) Q E s:=by
 have ty:s.TypeIs (.ref it) "dict_itemiterator":=⟨_,e,rfl⟩;refine LK ty QF<|DG QF ty EO ?_<|F.args_dict_itemiterator_iter_1 _;show wpAny _ _ (ret<|.ref it) _ _ s;exact BK ⟨_,rfl,"dict_itemiterator",_,ty,F.slot_dict_itemiterator_next.lookup,h⟩
end
end PySem
namespace L2
open PySem PySem.Spec PyProof.Rows
variable{s:Shared}{H:Hp}{σ:St}{O:Ï}{X:Cx}{Y:List (List Key×V)}{d:Addr}{es:Array DictEntry}{o:Obj}{w:World}{P:Program}{tp:Pos}{elts:Ó}{K:aa}
def cG(I:(be X O σ H s))(e:H d=some (.dT Y)):∃o,s.heap.get? d=some o/\be X O σ (upd H d<|.b7 o<|.dT Y) s:=by
 obtain⟨z,hd,c,r,o,es,f,a,h,i,j,k⟩:=(show aB X.U X.w H s.heap d (.dT Y)from I.aH d _ e);refine⟨o,a,?_⟩;have l:KT (upd H d<|.b7 o<|.dT Y) Y c:=KT.keeps r λb m q=>by
  rwa[aw<|cf q e λz=>nomatch z]
 exact lX I (by rw[e];exact True.intro) ⟨rfl,λ_ _=>rfl⟩ ⟨o,a⟩ (show aB X.U X.w _ s.heap d (.b7 o<|.dT Y) from⟨a,z,hd,c,l,o,es,f,a,h,i,j,k⟩)
def AS(d:Addr)(o:Obj)(Y:List<|List Key×V):It:=
  ⟨λi H => H d=some (.b7 o<|.dT Y) ∧ i<Y.length,
   λi H v a=>∃T b k x,Y[i]?=some (k,x)/\H b=some (.tup<|k.map kV)/\H T=none/\v=.ref T/\a=upd H T (.tup [.ref b,x]),
   λi H=>H d=some (.b7 o<|.dT Y)/\Y.length<=i⟩
def Se{h:Heap}{ep:Nat}(c:cn P w H h)(e:H d=some (.b7 o<|.dT Y))(hd:o.data=.dict es ep):
  wT h d es ep/\∃xs,KT H Y xs/\es.toList=xs.map (entryOfKey<|tupleKind<|bX P w):=by
 obtain⟨a,z,_,xs,r,f,n,p,i,j,b,k,q⟩:=(show aB P w H h d (.b7 o<|.dT Y)from c d _ e);have:o=f:=Option.some.inj<|a.symm.trans i;subst this;rw[hd]at b
 injection b with l m
 subst l;subst m;exact⟨⟨o,a,j,hd⟩,xs,r,k⟩
theorem kt_len:∀{Y}{xs},KT H Y xs->Y.length=xs.length:=λr=>by
 induction r with
 |nil=>rfl
 |cons _ _ a=>simp only[As,a]
theorem kt_at:∀{Y}{xs},KT H Y xs->∀{i:Nat}{k:List Key}{x:V},Y[i]?=some (k,x)->∃b u,xs[i]?=some (k,b,u)/\H b=some (.tup<|k.map kV)/\cc x u:=λr=>by
 induction r with
 |nil=>intro i k x h;simp at h
 | @cons p q m n e t f=>
  intro i k x h;cases i with
  |zero=>
   simp only[RX,Option.some.injEq]at h;subst h;obtain⟨a,b,c⟩:=q;obtain⟨d,j,l⟩:=e;have d:=d;subst d;exact⟨b,c,rfl,j,l⟩
  |succ i=>exact f<|(by simpa using h)
theorem ei{kk:Nat}(d it:Addr)(o:Obj)(es:Array DictEntry)(ep:Nat)(Y:List<|List Key×V)(nD:o.data=.dict es ep):
  ue P w K (.Tuple elts kk tp) (AS d o Y) [it] it (λi h=>∃y z,IsItemIter h it d i es.size ep y z) where
 mem:=by simp
 obj:=λi h st b hb=>by
  have e:b=it:=by simpa using hb
  subst e;obtain⟨y,z,e⟩:=st;exact⟨_,e,λv z=>by cases z⟩
 keep:=λi h h' st k=>let ⟨y,z,e⟩:=st;⟨y,z,k it (by simp) _ e⟩
 item:=by
  intro X hP hw hK hc i O s σ H E I hf st hg;subst hP hw hK;obtain⟨f0,f1,f2,f3,f4,f5⟩:=hf it (by simp);obtain⟨hd,hi⟩:=hg;obtain⟨pd,xs,r,wm⟩:=Se I.aH hd nD;obtain⟨y,z,st⟩:=st;have hx:Y[i]?=some (Y[i].1,Y[i].2):=Ab hi;obtain⟨b,u,fA,hb,ru⟩:=kt_at r hx;have qY:=entry_at wm i;rw[fA]at qY;refine ET st pd qY λh' q1 q2 kp=>?_;have hT:=I.aH.fresh<|An _;have nT:=Bw<|Av st;have I1:be X O σ (upd H s.heap.objs.size<|.tup [.ref b,Y[i].2]) {s with heap:=s.heap.push {cls:= .type "tuple",data:= .seq #[Value.ref b,u]}}:=
   I.laid (t':=s.toks) (λb o e=>Aj _ e) (An _) (show aB X.U X.w _ _ _ (.tup [.ref b,Y[i].2]) from⟨Z2,[Value.ref b,u],.cons rfl (.cons ru .nil),⟨_,At _ rfl,rfl,_,rfl⟩⟩)
  have fp:∀c∈[it],cr X O (upd H s.heap.objs.size<|.tup [.ref b,Y[i].2]) c:=λc bj=>by
   have e:c=it:=by simpa using bj
   subst e;exact⟨by rwa[aw nT],f1,f2,f3,f4,f5⟩
  have I2:=be.bU (h':=h') (t':=s.toks) I1 fp λc v bj e=>by
   have nc:c≠it:=by simpa using bj
   obtain⟨ec,eo⟩|e':=He e
   ·rwa[ec,eo]
   ·exact kp c v nc e'
  refine⟨_,rfl,wpAny_letOwnedTupleGo_items (s:={s with heap:=h'}) q1 λh2 b1 sb=>?_⟩;have I3:=be.bU (h':=h2) (t':=s.toks) I2 fp λc v bj e=>(sb.2 c<|(by simpa using bj)).trans e;exact⟨.ref s.heap.objs.size,_,I3,rfl,⟨_,b,Y[i].1,Y[i].2,hx,hb,hT,rfl,rfl⟩,⟨_,_,b1⟩,λc bj=>(fp c bj).1⟩
 done:=by
  intro X hP hw hK hc i O s σ H E I hf st hg;subst hP hw hK;obtain⟨hd,hi⟩:=hg;obtain⟨pd,xs,r,wm⟩:=Se I.aH hd nD;obtain⟨y,z,st⟩:=st;have hl:es.size=Y.length:=by rw[kt_len r,<-Bu,wm,Aa]
  exact vQ (I.ok.hd hc) st pd (by omega) λh' eb=>⟨rfl,I.bU (t':=s.toks) hf λc v bj e=>eb c v (by simpa using bj) e⟩
 self:=λ_ _ _ _ _ st h=>let ⟨y,z,e⟩:=st;c0 e h
def bo(b:TE):TI:=λσ H R=>b σ H λx a=>∃d Y,x=.ref d/\a d=some (.dT Y)/\∀o,R (AS d o Y)<|upd a d<|.b7 o<|.dT Y
def Sg{y:Nat}{ap n:Pos}{l:Expr}{p:TE}(z:PE X l p)(A:attributeBase l "items" X.env (eval l X.env)=eval l X.env:=by rfl)(c:(ap.endLine == n.line)=true:=by rfl):
  PI X (.Tuple elts y tp) (.Call (.Attribute l "items" ap) [] [] n) (bo p):=by
 intro O s σ H R I h;refine wpAny_Call_method0_late A c<|aO (z O s σ H _ I h) λv f ⟨x,B,r,C,D⟩=>?_;obtain⟨d,Y,e,hd,q⟩:=D;subst e;cases (show v=Value.ref d from C);obtain⟨_,j,_,_,o,es,t,i,k,w,_⟩:=(show aB X.U X.w B f.heap d (.dT Y)from r.aH d _ hd);have ty:f.TypeIs (.ref d) "dict":=⟨o,i,k.1⟩;refine⟨"dict","dict.items",F.plainAttrs_dict,F.slot_dict_items,F.type_dict_items,ty,λa E=>?_,HW rfl (PySem.evalArgs_none ?_)⟩
 ·cases E;exact⟨o,i,k.2.1⟩
 refine call_meetsIn F.slot_dict_items ty F.entry_dict_items (F.args_dict_items_1 _) (bO d j) ⟨ty,?_⟩;obtain⟨G,J,L⟩:=cG r hd;have:o=G:=Option.some.inj<|i.symm.trans J;subst this;have m:=L.kept (t':=f.toks) (h':=f.heap.push {cls:= .type "dict_items",data:= .fields #[.ref d]}) λb u e=>Aj _ e;refine zL (d:=d) (es:=es) (ep:=t) ⟨_,At _ rfl,rfl,rfl⟩ ⟨o,Aj _ i,k,w⟩ ?_;refine⟨_,[(f.heap.push {cls:= .type "dict_items",data:= .fields #[.ref d]}).objs.size],_,_,_,rfl,m.kept (t':=f.toks) λb u e=>Aj _ e,ei d _ o es t Y w,⟨_,_,At _ rfl⟩,λb M=>?_,q o⟩;have e:b=(f.heap.push {cls:= .type "dict_items",data:= .fields #[.ref d]}).objs.size:=by simpa using M
 subst e;exact m.jA (An _)<|m.aH.fresh<|An _
variable{inner:Sem Unit}{ifs:Ó}
section
variable{tg:Expr}{after:St->Hp->Prop}
theorem N1(Pv:Nat->St->Hp->Prop)(l:Pv 0 σ H)(n:∀i a H',i<=Y.length->Pv i a H'->H' d=some (.b7 o<|.dT Y))
  (r:∀i k x b T a H',Y[i]?=some (k,x)->Pv i a H'->H' b=some (.tup<|k.map kV)->H' T=none->Eg X tg (.ref T) a (upd H' T<|.tup [.ref b,x]) λf s=>Ei X ifs f s λc h=>if c=true then l7 X inner f h (Pv<|i+1)else Pv (i+1) f h)
  (hd:∀a H',Pv Y.length a H'->after a H'):iK X tg ifs inner (AS d o Y) after σ H:=by
 refine⟨λi m a H'=>m=Y.length-i/\i<=Y.length/\Pv i a H',⟨_,rfl,Bx _,l⟩,?_⟩;rintro i m a H' ⟨rfl,t,p⟩;have q:=n i a H' t p
 by_cases j:i<Y.length
 ·refine .inr ⟨⟨q,j⟩,Pv<|i+1,λa H' u=>⟨Y.length-(i+1),(by omega),rfl,j,u⟩,λv B y=>?_⟩;obtain⟨T,b,k,x,w,z,A,rfl,rfl⟩:=y;exact r i k x b T a _ w p z A
 ·have e:i=Y.length:=(by omega)
  subst e;exact .inl ⟨⟨q,An _⟩,hd a H' p⟩
end
open bP
def av{α:Type}:List α->List α
 |[]=>[]
 |[a]=>[a]
 |a :: _ :: r=>a :: av r
theorem qZ{α:Type}:∀(xs:List α)(k:Nat),(av xs)[k]?=xs[2*k]?
 |[],k=>by simp[av]
 |[a],0=>rfl
 |[a],k+1=>by
  show([]:List α)[k]?=[a][2*(k+1)]?;rw[Bg<|Bx _,Bg<|by show 1<=_;omega]
 |a :: b :: r,0=>rfl
 |a :: b :: r,k+1=>by
  show(av r)[k]?=(a :: b :: r)[2*(k+1)]?;rw[qZ r k,show 2*(k+1)=2*k+1+1 by omega];rfl
theorem wn{α:Type}:∀(xs:List α),(av xs).length=(xs.length+1)/2
 |[]=>by
  show 0=(0+1)/2;omega
 |[a]=>by
  show 1=(1+1)/2;omega
 |a :: b :: r=>by
  show(av r).length+1=(r.length+1+1+1)/2;rw[wn r];omega
theorem EU{α:Type}(xs:List α):(av xs).length<=xs.length:=by
 rw[wn];omega
theorem Sh:∀{xs}{c},ay xs c->ay (av xs) (av c)
 |[],c,r=>by
  have:=r.zero;subst this;exact .nil
 |[a],c,r=>by
  obtain⟨u,rfl,d⟩:=r.one;exact .cons d .nil
 |a :: b :: r,c,h=>by
  cases h with
  |cons e f=>
   cases f with
   |cons j i=>exact .cons e<|Sh i
theorem Si{α:Type}(g:Nat->Option α):∀c,(∀k,k<c->∃v,g k=some v)->((range c).filterMap g).length=c/\∀k,k<c->((range c).filterMap g)[k]?=g k
 |0,_=>⟨rfl,λk h=>absurd h<|Dj _⟩
 |c+1,h=>by
  obtain⟨a,d⟩:=Si g c λk f=>h k (by omega);obtain⟨v,b⟩:=h c (by omega);have e:(range<|c+1).filterMap g=(range c).filterMap g++[v]:=by
   rw[Dk,List.filterMap_append,Eh,b];rfl
  rw[e];refine⟨by rw[Ag,a];rfl,λk f=>?_⟩
  by_cases i:k<c
  ·rw[Ax<|(by omega)];exact d k i
  ·have:k=c:=(by omega)
   subst this;rw[Bd (by omega),a,RQ,b];rfl
theorem Rp(a:Ò):slicePick a.toArray none none (some 2)=(av a).toArray:=by
 unfold slicePick;have c:sliceBounds none none (some 2) a.toArray.size=(0,(a.length:Int),2):=rfl;rw[c]
 congr 1
 show((sliceRange 0 (a.length:Int) 2).filterMap (a.toArray[·]?))=av a;have d:sliceRange 0 (a.length:Int) 2=(range<|(a.length+1)/2).map λk=>2*k:=by
  unfold sliceRange;have e:(if(2:Int)>0 then(if(0:Int)<(a.length:Int) then((a.length:Int)-0+2-1)/2 else 0) else(if(0:Int)>(a.length:Int) then(0-(a.length:Int)-2-1)/(-2)else 0)).toNat=(a.length+1)/2:=by
   rw[BP<|(by decide)]
   split<;>omega
  show(range _).map _=_;rw[e];exact Ap λk _=>(by omega)
 rw[d,List.filterMap_map];obtain⟨h,f⟩:=Si (λk=>a.toArray[2*k]?) ((a.length+1)/2) λk b=>⟨a[2*k]'(by omega),by rw[<-Bj];exact Ab (l:=a)<|(by omega)⟩;apply Dy;intro k;show((range<|(a.length+1)/2).filterMap λk=>a.toArray[2*k]?)[k]?=_
 by_cases b:k<(a.length+1)/2
 ·rw[f k b,qZ,<-Bj]
 ·rw[Bg (by omega),Bg<|by rw[wn];omega]
section
variable{Q:VK}
theorem q41{e:Expr}{j:Nat}{n o pos:Pos}(h:Ev X e σ H λx d=>∃a xs,x=.ref a/\au X.K d a xs/\∀p,d p=none->Q (.ref p) (upd d p<|.lst<|av xs)):
  Ev X (.Subscript e (.Slice none none (some<|.Constant (.int 2) j n) o) pos) σ H Q:=by
 refine⟨λO s I=>Subscript_<|aO (h.run O s I) λv u ⟨x,d,w,z,a,xs,A,B,q⟩=>?_⟩;subst A;cases (show v=Value.ref a from z);refine wpAny_Slice ?_;rw[evalPart_none];refine BK<|BK ?_;rw[evalPart_some];refine aO ((aG (Q:=λy f=>y=.int 2/\f=d) ⟨rfl,rfl⟩).run O u w) λL c ⟨y,f,i,C,D,E⟩=>?_;subst D E;obtain⟨t,rfl⟩:=C;obtain⟨M,r,G,J⟩:=i.list B;have k:=r.length;have l:be X O σ f {c with heap:=c.heap.push {cls:= .type "slice",data:= .fields #[.none,.none,.int 2 t]}}:=i.kept (t':=c.toks) λb N q=>Aj _ q;have m:=G.isList.push {cls:= .type "slice",data:= .fields #[.none,.none,.int 2 t]};show (ar X) (subscriptTail e _ (.ref a)<|.ref c.heap.objs.size) (EP X O σ Q) X.xe {c with heap:=c.heap.push {cls:= .type "slice",data:= .fields #[.none,.none,.int 2 t]}};refine tail_any (ops:=[.ref a,.ref c.heap.objs.size]) (T:= "list") (Heap.IsList.typeIs (s:={c with heap:=c.heap.push {cls:= .type "slice",data:= .fields #[.none,.none,.int 2 t]}}) m) slot_list_getitem.lookup ?_ (by with_unfolding_all rfl);refine wpAny_getItem_list_slice (s:={c with heap:=c.heap.push {cls:= .type "slice",data:= .fields #[.none,.none,.int 2 t]}}) m (Heap.IsSliceOf.new ..) .none .none (.int 2 t) (by decide) ?_ (by rw[Ay];omega);rw[Rp];exact⟨.ref _,_,l.vp (t':=c.toks) (Sh r)<|Ch (EU _) J,rfl,q _ l.fresh⟩
end
variable{E Q:Í}{U:Program}{zs:Ð}
section
variable{A:Around}
def vn(k:Q (.ref s.heap.objs.size) {s with heap:=s.heap.push (gI w)}):codeAny (model U w) A (.call (.builtin "set.__new__") ⟨[.type "set"],[]⟩) (wants Q E) s:=by
 refine KJ ?_;show wpAny _ A.in1 (checkBuiltinCall "set.__new__" ⟨[.type "set"],[]⟩ >>= λ_=>again<|.builtin "set.__new__" ⟨[.type "set"],[]⟩) _ _ s;refine BJ<|JF PySem.F.newCall_set_0<|BK ⟨JH UL _,FT PySem.F.entry_set_new ?_⟩;rw[FP UL _];unfold Builtin.«set.__new__» Builtin.Frozenset.newClass
 dsimp only
 refine BJ<|BJ<|JF (show isType (.type "set")=pure true from rfl)<|BK ?_;simp only[Dm,Aq,CP];unfold newSet;refine BJ<|BJ<|wp_text ?_
 dsimp only
 simp only[newObj];exact BJ<|QL<|BK<|BK k
theorem Sl(k:Q (.ref s.heap.objs.size) {s with heap:=s.heap.push (gI w)}):(ba U w A) (call (.type "set") []) Q E s:=by
 obtain⟨c,h,i⟩:=PySem.F.called_set.mro;have j:=PySem.F.called_set.made;have l:=PySem.F.called_set.sub;refine wpAny_call<|KJ ?_;show wpAny _ _ (callAny (.type "set") _) _ _ _;refine BK ⟨Code.quiet_builtin _ (by decide +kernel),FT PySem.F.entry_type_call ?_⟩;rw[Around.under_plain (weight_type_call_type "set" [] []) rfl];have m:=PySem.F.typeCall_set_0
 repeat (any_goals (first|assumption|wp_step))
 refine JQ (vn (E:=E) (Q:=λv u=>v=.ref s.heap.objs.size/\u={s with heap:=s.heap.push (gI w)}) ⟨rfl,rfl⟩) λr u a=>?_;cases r with
 |error e=>exact a
 |ok fl=>
  cases fl with
  |ret v=>
   obtain⟨rfl,rfl⟩:=a;have d:Shared.TypeIs {s with heap:=s.heap.push (gI w)} (.ref s.heap.objs.size) "set":=⟨_,At _ rfl,rfl⟩;have n:=PySem.F.called_set.init.lookup;have o:=PySem.F.called_set.init.bind<|.ref s.heap.objs.size
   repeat (any_goals (first|assumption|wp_step))
   refine JQ (codeAny_call_builtin (R:=wants (λr u=>r=.none/\Q (.ref s.heap.objs.size) u) E) PySem.F.called_set.init.plain PySem.F.entry_set_init<|check_set_init d ?_) λf p b=>?_
   ·unfold Builtin.«set.__init__» noKeywords
    wp_walk
    exact⟨rfl,k⟩
   ·cases f with
    |error e=>exact b
    |ok f2=>
     cases f2 with
     |ret r=>
      obtain⟨rfl,q⟩:=b
      repeat (any_goals (first|assumption|wp_step))
     |_=>exact b.elim
  |_=>exact a.elim
def ov{a:Addr}{z:Str}{d:Tok}(S:aA U w s.heap a zs)(h:Q (.bool<|decide (z∉zs)) {s with toks:=s.toks+1}):(ba U w A) (compareOp .NotIn (.str z d)<|.ref a) Q E s:=by
 have b:=S.typeIs;show wpAny _ _ (do return .bool (!(<-contains (.ref a)<|.str z d))) Q E s;refine BJ ?_;unfold contains
 try with_reducible refine CJ ?_
 refine BJ<|KH b PySem.F.slot_set_contains.lookup ?_;show wpAny _ _ (if(some (Value.builtin "set.__contains__") == some Value.none)=true then _ else _) _ E s;rw[BL<|by rw[beq_builtin_none];exact Aw];refine BJ<|MJ b JD<|DG JD b entry_set_contains ?_<|QX _ _;unfold Builtin.«frozenset.__contains__» Builtin.Frozenset.oneOther;simp only[Fd,bind_assoc];unfold Builtin.Frozenset.addrOf Builtin.Frozenset.withSetAsKey setContains;refine BJ<|BK ?_
 try dsimp only
 refine BJ<|BK ?_
 try dsimp only
 refine BJ<|wpAny_tryCatch<|CJ<|BJ<|(strKind U w).pyHash (PX _ _ _ _) ?_;obtain⟨o,es,k,t,f,l,hd,T⟩:=S;refine BJ<|Qt f hd T (λc=>?_) λj i e=>?_
 ·refine BK ?_;show wpAny _ _ (ret<|Value.bool false) _ _ _;rw[BW c]at h;exact BK ⟨_,rfl,EY<|BK h⟩
 ·refine BK ?_;show wpAny _ _ (ret<|Value.bool true) _ _ _;have c:z∈zs:=T.keys.mem_iff.mp (by rw[<-e];exact Ak.mpr ⟨_,Bt i,rfl⟩);rw[BR<|not_not_intro c]at h;exact BK ⟨_,rfl,EY<|BK h⟩
end
section
variable{Q:VK}
def q84{p pos:Pos}(a:X.mg "set" = none)(h:∀D,H D=none->Q (.ref D) (upd H D<|bq X.U X.w D []))(c:Gl X "set":=by rfl):Ev X (.Call (.Name "set" p) [] [] pos) σ H Q:=by
 refine⟨λO s I=>Call_<|mQ I c a JT<|QZ<|Sl ?_⟩;exact⟨.ref s.heap.objs.size,_,I.laid (λb o e=>Aj _ e) (An _)<|tN<|HM<|At _ rfl,rfl,h _ I.fresh⟩
def b4:cX X (compareOp .NotIn) (λx y H Q=>∃z a zs,x=.str z/\y=.ref a/\H a=some (bq X.U X.w a zs)/\Q (.bl<|decide (z∉zs)) H):=by
 intro O s σ H x y v u Q I b c h;obtain⟨z,a,zs,rfl,rfl,d,q⟩:=h;obtain⟨t,rfl⟩:=b;cases (show u=Value.ref a from c);exact ov (I.set d) ⟨.bl _,H,I.tok _,rfl,q⟩
def q9x{o e:Expr}{ap f:Pos}(h:Ev X o σ H λx i=>∃a,x=.ref a/\(∃zs,i a=some (bq X.U X.w a zs))/\Ev X e σ i λy c=>∃z zs,y=.str z/\c a=some (bq X.U X.w a zs)/\zs.length+1<1000/\Q .non (upd c a<|bq X.U X.w a<|added zs z))
  (t:attributeBase o "add" X.env (eval o X.env)=eval o X.env:=by rfl)
  (w:((backTo f<|starEach [e] X.env).all (λx=>!x.1) && (backToKw f<|keywordEach [] X.env).all (λx=>x.1.isSome) && decide ([e].length+([]:List Keyword).length+(if([]:List Keyword).isEmpty then 0 else 1)<30))=true:=by rfl)
  (d:(ap.endLine == f.line)=true:=by rfl) (A:starEach [e] X.env=(false,eval e X.env) :: starEach [] X.env:=by rfl) (B:f8 e=false:=by rfl):Ev X (.Call (.Attribute o "add" ap) [e] [] f) σ H Q:=by
 refine⟨λO s I=>LR t w d rfl (aO (h.run O s I) λv C ⟨x,i,k,D,a,E,⟨zs,G⟩,J⟩=>?_)⟩;subst E;cases (show v=Value.ref a from D);have S:=k.set G;refine⟨"set","set.add",TX,PySem.F.slot_set_add,PySem.F.type_set_add,S.typeIs,λb L=>?_,?_⟩
 ·cases L;obtain⟨o,_,_,_,j,M,_⟩:=S;exact⟨o,j,M.2.1⟩
 have N:Ea X [e] σ i (λl c=>∃z zs,l=[.str z]/\c a=some (bq X.U X.w a zs)/\zs.length+1<1000/\Q .non (upd c a<|bq X.U X.w a<|added zs z)):=ah (J.mono λy c⟨z,zs,T,q⟩=>ax ⟨z,zs,by rw[T],q⟩) B;have m:=N.run f O C k;rw[A]at m ⊢;refine HW rfl (JW ?_);refine aO m λus s2⟨vs,c,n,U,z,l,Y,p,hl,q⟩=>?_;subst Y;obtain⟨u,rfl,ru⟩:=ma U;obtain⟨tk,rfl⟩:=ru;refine R9 (n.set p) hl λh' sb r=>⟨.non,_,lX n (by rw[p];exact True.intro) sb ?_<|tN r,rfl,q⟩;obtain⟨o,_,_,_,j,_⟩:=r;exact⟨o,j⟩
end
end L2
namespace Nt
open PySem L2
def eG(c:Int)(n:bi)(e:bc):bc:=(e.1,(((e.2:Int)+c)%((row n e.1).length:Int)).toNat)
variable{e:bc}{n:bi}{c:Int}
theorem wq(h:e∈ends n):(((eG c n e).2:Nat):Int)=((e.2:Int)+c)%((row n e.1).length:Int):=by
 obtain⟨z,a⟩:=af.mp h;have:=gk a;exact Int.toNat_of_nonneg<|Cg _<|(by omega)
theorem Sq(h:e∈ends n):eG c n e∈ends n:=by
 obtain⟨z,a⟩:=af.mp h;have b:=gk a;have d:=wq (c:=c) h;have f:((e.2:Int)+c)%((row n e.1).length:Int)<((row n e.1).length:Int):=Cn _ (by omega);exact af.mpr<|vV<|by show(eG c n e).2<(row n e.1).length;omega
theorem ra(h:e∈ends n):eG (-c) n (eG c n e)=e:=by
 have b:=wq (c:=c) h;have a:=wq (c:=-c)<|Sq (c:=c) h;obtain⟨z,d⟩:=af.mp h;have k:=gk d;have f:(eG c n e).1=e.1:=rfl;rw[f,b]at a;have i:(((e.2:Int)+c)%((row n e.1).length:Int)+-c)%((row n e.1).length:Int)=(e.2:Int):=by
  have:(((e.2:Int)+c)%((row n e.1).length:Int)+-c)%((row n e.1).length:Int)=((e.2:Int)+c+-c)%((row n e.1).length:Int):=by
   rw[Int.add_emod,Int.emod_emod,<-Int.add_emod]
  rw[this,show(e.2:Int)+c+-c=(e.2:Int) by omega];exact Int.emod_eq_of_lt (by omega)<|(by omega)
 rw[i]at a;have j:(eG (-c) n<|eG c n e).2=e.2:=(by omega)
 exact HJ rfl j
def Ss{a b:bc}(d:a∈ends n)(e:b∈ends n)(h:eG c n a=eG c n b):a=b:=by
 rw[<-ra d,<-ra e,h]
theorem Jl(h:e∈ends n):left n e=eG 1 n e:=by
 have a:=wq (c:=1) h;refine HJ rfl ?_;show(e.2+1)%(row n e.1).length=(eG 1 n e).2;have:(((e.2+1)%(row n e.1).length:Nat):Int)=((e.2:Int)+1)%((row n e.1).length:Int):=by simp
 omega
def go(c:Int)(n:bi)(e:bc):bc:=eG c n<|(other n e)
def gK(T:aq n)(h:e∈ends n):go c n e∈ends n:=Sq<|cR T h
def go_inj(T:aq n){a b:bc}(d:a∈ends n)(e:b∈ends n)(h:go c n a=go c n b):a=b:=Rl T d e<|Ss (cR T d) (cR T e) h
def tZ(T:aq n)(h:e∈ends n):step n e=go 1 n e:=Jl<|cR T h
def two(n:bi)(e:bc):bc:=go (-1) n<|go 1 n e
def nH(T:aq n)(h:e∈ends n):two n e∈ends n:=gK T<|gK T h
def wt(T:aq n){a b:bc}(c:a∈ends n)(d:b∈ends n)(h:two n a=two n b):a=b:=go_inj T c d<|go_inj T (gK T c) (gK T d) h
def wk(n:bi)(e:bc):Nat->List bc
 |0=>[]
 |k+1=>wk n e k++[(it (two n)) k e,go 1 n<|(it (two n)) k e]
theorem rd(n:bi)(e:bc):∀k,(wk n e k).length=2*k
 |0=>rfl
 |k+1=>by
  show(wk n e k++_).length=_;rw[Ag,rd n e k];show 2*k+2=_;omega
theorem rg(n:bi)(e:bc):∀k i,i<k->(wk n e k)[2*i]?=some ((it (two n)) i e)
 |0,i,h=>absurd h<|Dj _
 |k+1,i,h=>by
  show(wk n e k++[(it (two n)) k e,go 1 n<|(it (two n)) k e])[2*i]?=_;have l:=rd n e k
  by_cases a:i<k
  ·rw[Ax<|(by omega)];exact rg n e k i a
  ·have:i=k:=(by omega)
   subst this;rw[Bd (by omega),l,RQ];rfl
theorem AQ(n:bi)(e:bc):∀k i,i<k->(wk n e k)[2*i+1]?=some (go 1 n<|(it (two n)) i e)
 |0,i,h=>absurd h<|Dj _
 |k+1,i,h=>by
  show(wk n e k++[(it (two n)) k e,go 1 n<|(it (two n)) k e])[2*i+1]?=_;have l:=rd n e k
  by_cases a:i<k
  ·rw[Ax<|(by omega)];exact AQ n e k i a
  ·have:i=k:=(by omega)
   subst this;rw[Bd (by omega),l,show 2*i+1-2*i=1 by omega];rfl
theorem SI(n:bi)(e:bc)(k:Nat):av (wk n e k)=(range k).map λi=>(it (two n)) i e:=by
 apply Dy;intro i;rw[qZ,Ah]
 by_cases h:i<k
 ·rw[rg n e k i h,Dx h];rfl
 ·rw[Bg (by rw[rd];omega),Bg<|by rw[Dq];omega];rfl
theorem Jm{n:bi}(T:aq n){e:bc}(h:e∈ends n):∀k,∀c∈wk n e k,c∈ends n
 |0,c,b=>by cases b
 |k+1,c,b=>by
  have d:=je (λa f=>nH T f) h k
  obtain b|b:=Am.mp b
  ·exact Jm T h k c b
  ·obtain rfl|b:=Ai.mp b
   ·exact d
   ·rw[Ad.mp b];exact gK T d
structure jO(n:bi)(e:bc)(k:Nat):Prop where
 pos:0<k
 back:(it (two n)) k e=e
 first:∀i,0<i->i<k->(it (two n)) i e≠e
def jO.unique{k l:Nat}(a:jO n e k)(b:jO n e l):k=l:=by
 obtain h|h|h:=Em k l
 ·exact absurd a.back<|b.first k a.pos h
 ·exact h
 ·exact absurd b.back<|a.first l b.pos h
noncomputable def wu(n:bi)(e:bc):Nat:=by classical exact if h:∃k,jO n e k then h.choose else 0
def wv{k:Nat}(h:jO n e k):wu n e=k:=by
 have a:∃k,jO n e k:=⟨k,h⟩;unfold wu;rw[dif_pos a];exact a.choose_spec.unique h
noncomputable def walker(n:bi)(e:bc):List bc:=wk n e<|wu n e
structure kR(n:bi)(ws:List bc):Prop where
 ends:∀c∈ws,c∈Nt.ends n
 ne0:0<ws.length
 even:ws.length%2=0
 few:ws.length<=2*(Nt.ends n).length
 at':∀k,k<ws.length->∃c,ws[k]?=some c/\ws[(k+1)%ws.length]?=some (go (1-2*((k:Int)%2)) n c)
theorem px(T:aq n)(h:e∈Nt.ends n){k:Nat}(p:jO n e k)(m:k<=(Nt.ends n).length):kR n (wk n e k):=by
 have l:=rd n e k;have o:=p.pos;refine⟨Jm T h k,(by omega),(by omega),(by omega),λj a=>?_⟩;rw[l]at a ⊢
 obtain b|b:=RG j
 ·obtain⟨i,rfl⟩:∃i,j=2*i:=⟨j/2,(by omega)⟩;refine⟨_,rg n e k i (by omega),?_⟩;rw[Bz (by omega),AQ n e k i<|(by omega)];have:(1:Int)-2*(((2*i:Nat):Int)%2)=1:=(by omega)
  rw[this]
 ·obtain⟨i,rfl⟩:∃i,j=2*i+1:=⟨j/2,(by omega)⟩;refine⟨_,AQ n e k i (by omega),?_⟩;have c:(1:Int)-2*(((2*i+1:Nat):Int)%2)=-1:=(by omega)
  rw[c];show _=some (two n<|(it (two n)) i e)
  by_cases d:i+1<k
  ·rw[Bz (by omega),show 2*i+1+1=2*(i+1) by omega];exact rg n e k (i+1) d
  ·have:i+1=k:=(by omega)
   rw[show 2*i+1+1=2*k by omega,Ef];have f:two n ((it (two n)) i e)=(it (two n)) k e:=by rw[<-this];rfl
   rw[f,p.back];exact rg n e k 0<|(by omega)
def aD(n:bi)(e:bc):Str:=(aJ n e).getD ⟨#[]⟩
def eY{z:Str}(h:aJ n e=some z):aD n e=z:=by unfold aD;rw[h];rfl
noncomputable def eI(n:bi):List bc->Ð->List (List bc)
 |[],_=>[]
 |e :: r,a=>if aD n e∈a then eI n r a else walker n e :: eI n r (a++(av<|walker n e).map (aD n))
theorem t6(T:aq n)(h:e∈ends n):∃k,jO n e k/\k<=(ends n).length:=by
 obtain⟨k,s,z,t⟩:=zK (λa d=>nH T d) (λa d b u=>wt T d u) h;have f:∀m,∀k,k<=m->0<k->(it (two n)) k e=e->∃j,j<=k/\jO n e j:=by
  intro m
  induction m with
  |zero=>intro k v q;omega
  |succ m w=>
   intro k v q x
   by_cases c:∃i,0<i/\i<k/\(it (two n)) i e=e
   ·obtain⟨i,l,r,o⟩:=c;obtain⟨j,y,p⟩:=w i (by omega) l o;exact⟨j,(by omega),p⟩
   ·exact⟨k,An _,q,x,λi l r o=>c ⟨i,l,r,o⟩⟩
 obtain⟨j,y,p⟩:=f k k (An _) s t;exact⟨j,p,(by omega)⟩
def rb(T:aq n)(h:e∈ends n):kR n (walker n e):=by
 obtain⟨k,p,a⟩:=t6 T h;unfold walker;rw[wv p];exact px T h p a
theorem o6{n:bi}(T:aq n):∀es b,(∀e∈es,e∈ends n)->∀w∈eI n es b,kR n w
 |[],_,_,w,c=>by cases c
 |e :: r,b,h,w,c=>by
  unfold eI at c
  split at c
  ·exact o6 T r b (λa d=>h a<|Af _ d) w c
  ·obtain rfl|c:=Ai.mp c
   ·exact rb T<|h e<|Ae ..
   ·exact o6 T r _ (λa d=>h a<|Af _ d) w c
theorem AT(n:bi):∀es a,(eI n es a).length<=es.length
 |[],_=>An _
 |e :: r,a=>by
  unfold eI
  split
  ·have:=AT n r a;show _<=r.length+1;omega
  ·have:=AT n r<|a++(av<|walker n e).map (aD n);show _+1<=r.length+1;omega
structure gm(n:bi)(e:bc)(k:Nat):Prop where
 pos:0<k
 back:(it (step n)) k e=e
 first:∀i,0<i->i<k->(it (step n)) i e≠e
def gm.unique{k l:Nat}(a:gm n e k)(b:gm n e l):k=l:=by
 obtain h|h|h:=Em k l
 ·exact absurd a.back<|b.first k a.pos h
 ·exact h
 ·exact absurd b.back<|a.first l b.pos h
noncomputable def jP(n:bi)(e:bc):Nat:=by classical exact if h:∃k,gm n e k then h.choose else 0
def Sv{k:Nat}(h:gm n e k):jP n e=k:=by
 have a:∃k,gm n e k:=⟨k,h⟩;unfold jP;rw[dif_pos a];exact a.choose_spec.unique h
theorem Sw(T:aq n)(h:e∈ends n):∃k,gm n e k/\k<=(ends n).length:=by
 obtain⟨k,s,z,t⟩:=zK (λa d=>mq T d) (λa d b u=>zJ T d u) h;have f:∀m,∀k,k<=m->0<k->(it (step n)) k e=e->∃j,j<=k/\gm n e j:=by
  intro m
  induction m with
  |zero=>intro k v q;omega
  |succ m w=>
   intro k v q x
   by_cases c:∃i,0<i/\i<k/\(it (step n)) i e=e
   ·obtain⟨i,l,r,o⟩:=c;obtain⟨j,y,p⟩:=w i (by omega) l o;exact⟨j,(by omega),p⟩
   ·exact⟨k,An _,q,x,λi l r o=>c ⟨i,l,r,o⟩⟩
 obtain⟨j,y,p⟩:=f k k (An _) s t;exact⟨j,p,(by omega)⟩
def fl(n:bi)(e:bc)(k:Nat):List bc:=(range k).map λi=>(it (step n)) i e
def Sx(n:bi)(e:bc)(k:Nat):fl n e (k+1)=fl n e k++[(it (step n)) k e]:=by
 unfold fl;rw[Dk,Al];rfl
def rh(n:bi)(e:bc)(k:Nat):(fl n e k).length=k:=by unfold fl;simp
def MW(n:bi)(e:bc){k i:Nat}(h:i<k):(fl n e k)[i]?=some ((it (step n)) i e):=by
 unfold fl;rw[Ah,Dx h];rfl
noncomputable def face(n:bi)(e:bc):List bc:=fl n e<|jP n e
def JP{k:Nat}(p:gm n e k)(b:k<=(ends n).length):dz n e (fl n e k):=
 ⟨by rw[rh];exact p.pos,by rwa[rh],λi a=>MW n e (by rwa[rh]at a),by rw[rh];exact p.back,by rw[rh];exact p.first⟩
def nI(T:aq n)(h:e∈ends n):dz n e (face n e):=by
 obtain⟨k,p,a⟩:=Sw T h;unfold face;rw[Sv p];exact JP p a
def wx(T:aq n)(h:e∈ends n):∀c∈face n e,c∈ends n:=(nI T h).ends T h
noncomputable def jn(n:bi):List bc->List bc->List (List bc)
 |[],_=>[]
 |e :: r,a=>if e∈a then jn n r a else face n e :: jn n r (a++face n e)
theorem AU{n:bi}(T:aq n):∀es b,(∀e∈es,e∈ends n)->∀w∈jn n es b,∃e∈es,w=face n e/\e∉b
 |[],_,_,w,c=>by cases c
 |e :: r,b,h,w,c=>by
  unfold jn at c
  split at c
  ·obtain⟨d,f,i⟩:=AU T r b (λa j=>h a<|Af _ j) w c;exact⟨d,Af _ f,i⟩
  ·rename_i k
   obtain rfl|c:=Ai.mp c
   ·exact⟨e,Ae ..,rfl,k⟩
   ·obtain⟨d,f,i,l⟩:=AU T r _ (λa j=>h a<|Af _ j) w c;exact⟨d,Af _ f,i,λq=>l<|Bb _ q⟩
theorem Jn(n:bi):∀es a,(jn n es a).length<=es.length
 |[],_=>An _
 |e :: r,a=>by
  unfold jn
  split
  ·have:=Jn n r a;show _<=r.length+1;omega
  ·have:=Jn n r<|a++face n e;show _+1<=r.length+1;omega
noncomputable def ci(n:bi):List (List bc):=if ends n=[]then [[]]else jn n (ends n) []
theorem ij(n:bi):(ci n).length<=(ends n).length+1:=by
 unfold ci
 split
 ·show 1<=_;omega
 ·have:=Jn n (ends n) [];omega
def Sy(T:aq n):∀w∈ci n,w.length<=(ends n).length/\∀c∈w,c∈ends n:=λw a=>by
 unfold ci at a
 split at a
 ·rw[Ad.mp a];exact⟨Bx _,λc h=>by cases h⟩
 ·obtain⟨e,b,rfl,_⟩:=AU T (ends n) [] (λe b=>b) w a;exact⟨(nI T b).len,wx T b⟩
end Nt
namespace Nt
variable{α β:Type}
def e9(f:α->α):List α->α->α->Prop
 |[],a,b=>a=b
 |x :: l,a,b=>x=a/\e9 f l (f x) b
theorem bN{f:α->α}:∀{l k}{a b},e9 f (l++k) a b↔∃c,e9 f l a c/\e9 f k c b
 |[],k,a,b=>⟨λh=>⟨a,rfl,h⟩,λ⟨c,e,h⟩=>by cases e;exact h⟩
 |x :: l,k,a,b=>by
  show(x=a/\e9 f (l++k) (f x) b)↔∃c,(x=a/\e9 f l (f x) c)/\e9 f k c b;rw[bN];exact⟨λ⟨e,c,d,i⟩=>⟨c,⟨e,d⟩,i⟩,λ⟨c,⟨e,d⟩,i⟩=>⟨e,c,d,i⟩⟩
theorem Jo{f:α->α}{f':β->β}{g:α->β}:∀{l}{a b},(∀x∈l,f' (g x)=g (f x))->e9 f l a b->e9 f' (l.map g) (g a) (g b)
 |[],_,_,_,h=>BZ g h
 |x :: l,a,b,c,h=>⟨BZ g h.1,by rw[c x Ae];exact Jo (λy d=>c y<|Af _ d) h.2⟩
theorem AV{f:α->α}:∀{l}{x a b y},e9 f (x :: l) a b->y∈x :: l->f y∈l\/f y=b
 |[],x,a,b,y,h,c=>by
  rw[Ad]at c;subst c;exact .inr h.2
 |z :: l,x,a,b,y,h,c=>by
  obtain rfl|c:=Ai.mp c
  ·exact .inl<|by rw[<-h.2.1];exact Ae
  ·obtain q|q:=AV h.2 c
   ·exact .inl<|Af _ q
   ·exact .inr q
theorem t7{f:α->α}{l:List α}{a y:α}(h:e9 f l a a)(c:a∈l)(b:y∈l):f y∈l:=by
 cases l with
 |nil=>cases b
 |cons x l=>
  obtain q|q:=AV h b
  ·exact Af _ q
  ·rwa[q]
theorem AW{f:α->α}{f':β->β}{g:α->β}{c:α}{h:β}:∀{l}{x},(∀y∈x :: l,f y=c->f' (g y)=h)->(∀y∈x :: l,f y≠c->f' (g y)=g (f y))->c∉l->e9 f (x :: l) x c->e9 f' ((x :: l).map g) (g x) h
 |[],x,a,_,_,p=>⟨rfl,a x Ae p.2⟩
 |y :: l,x,a,d,i,p=>by
  have e:=p.2.1;have ne:f x≠c:=λq=>i (by rw[<-q,<-e];exact Ae);refine⟨rfl,?_⟩;rw[d x Ae ne,<-e];exact AW (λz b=>a z<|Af _ b) (λz b=>d z<|Af _ b) (λq=>i<|Af _ q)<|⟨rfl,p.2.2⟩
structure lm(f:α->α)(D:List α)(Ls:List<|List α):Prop where
 hU:∀l∈Ls,∃a,a∈l/\e9 f l a a
 all:Ls.flatten.Perm D
 nd:D.Nodup
def lm.sub{f:α->α}{D:List α}{Ls:List (List α)}(d:lm f D Ls){l:List α}(a:l∈Ls){x:α}(b:x∈l):x∈D:=
 d.all.mem_iff.mp (Dw.mpr ⟨l,a,b⟩)
def lm.pick{f:α->α}{D:List α}{Ls:List (List α)}(d:lm f D Ls){c:α}(n:c∈D):∃l Ms,Ls.length=Ms.length+1/\lm f D ((c :: l):: Ms):=by
 obtain⟨l,i,o⟩:=Dw.mp<|d.all.mem_iff.mpr n;obtain⟨A,B,rfl⟩:=Fj i;obtain⟨p,q,rfl⟩:=Fj o;obtain⟨a,t,h⟩:=d.hU _ i;obtain⟨m,r,j⟩:=bN.mp h;have e:c=m:=j.1;subst e;refine⟨q++p,A++B,by simp[Nat.add_assoc],λk b=>?_,?_,d.nd⟩
 ·obtain rfl|b:=Ai.mp b
  ·exact⟨c,Ae,bN (l:=c :: q).mpr ⟨a,j,r⟩⟩
  ·refine d.hU k ?_
   obtain q|q:=Am.mp b
   ·exact Bb _ q
   ·exact Au _<|Af _ q
 ·refine List.Perm.trans ?_ d.all;simp only[Cr,Ge,Fz];have s:(c :: (q++p)).Perm (p++c :: q):=by
   rw[<-Fz];exact Cq
  refine((s.append_right _).trans ?_);rw[<-Ar,<-Ar];exact(Cq).append_right _
def lm.apart{f:α->α}{D:List α}{l:List α}{Ms:List (List α)}(d:lm f D<|l :: Ms):l.Nodup/\∀m∈Ms,∀x∈l,x∉m:=by
 have h:=d.all.nodup_iff.mpr d.nd;rw[Cr,Co]at h;exact⟨h.1,λm a x b c=>h.2.2 x b x (Dw.mpr ⟨m,a,c⟩) rfl⟩
theorem AX{g:α->β}:∀(Ls:List<|List α),(Ls.map<|List.map g).flatten=Ls.flatten.map g
 |[]=>rfl
 |l :: Ls=>by rw[Ba,Cr,AX Ls,Cr,Al]
def lm.rest{f:α->α}{f':β->β}{g:α->β}{D:List α}{l:List α}{Ms:List (List α)}(d:lm f D<|l :: Ms)(h:∀x∈D,f x∉l->f' (g x)=g (f x)):∀m∈Ms.map (List.map g),∃a,a∈m/\e9 f' m a a:=by
 intro m i;obtain⟨k,b,rfl⟩:=Ak.mp i;obtain⟨a,c,p⟩:=d.hU k<|Af _ b;refine⟨g a,Ak.mpr ⟨a,c,rfl⟩,Jo (λx e=>h x (d.sub (Af _ b) e) λq=>?_) p⟩;exact d.apart.2 k b _ q<|t7 p c e
def lm.grow{f:α->α}{f':β->β}{g:α->β}{D:List α}{c:α}{l:List α}{Ms:List (List α)}(d:lm f D<|(c :: l):: Ms){new:List β}{h:β}(m:e9 f' new h<|g c)(n:∀x∈D,f x=c->f' (g x)=h)(j:∀x∈D,f x≠c->f' (g x)=g (f x))(nd:(D.map g++new).Nodup):
  lm f' (D.map g++new) (((c :: l).map g++new):: Ms.map (List.map g)):=by
 have ap:=d.apart;have o:c∉l:=(Bh.mp ap.1).1;refine⟨λk b=>?_,?_,nd⟩
 ·obtain rfl|b:=Ai.mp b
  ·obtain⟨a,s,p⟩:=d.hU _ Ae;have e:c=a:=p.1;subst e;exact⟨g c,Bb _ Ae,bN.mpr ⟨h,AW (λy i=>n y<|d.sub Ae i) (λy i=>j y<|d.sub Ae i) o p,m⟩⟩
  ·exact d.rest (λx r q=>j x r λe=>q<|by rw[e];exact Ae) k b
 ·rw[Cr,AX];have:=d.all.map g;rw[Cr,Al]at this;refine List.Perm.trans ?_<|this.append_right new;rw[Ar,Ar];exact(Cq).append_left _
theorem lm.split{f:α->α}{f':β->β}{g:α->β}{D:List α}{c j:α}{l:List α}{Ms:List (List α)}(d:lm f D<|(c :: l):: Ms)(hd:j∈l){e1 e2:β}(Q:f' e1=g j)(T:f' e2=g c)(U:∀x∈D,f x=c->f' (g x)=e1)(r:∀x∈D,f x=j->f' (g x)=e2)(s:∀x∈D,f x≠c->f x≠j->f' (g x)=g (f x))(nd:(D.map g++[e1,e2]).Nodup):
  ∃Ls,Ls.length=Ms.length+2/\lm f' (D.map g++[e1,e2]) Ls/\∃l∈Ls,e2∈l/\e1∉l:=by
 have ap:=d.apart;obtain⟨p,q,rfl⟩:=Fj hd;have t:=Bh.mp ap.1;have J:=Co.mp t.2;have u:=Bh.mp J.2.1;have v:j∉p:=λx=>J.2.2 j x j Ae rfl;have w:c∉p:=λx=>t.1<|Bb _ x;have E:c∉q:=λx=>t.1<|Au _<|Af _ x;obtain⟨a,ha,L⟩:=d.hU _ Ae;have e:c=a:=L.1;subst e;obtain⟨m,M,G⟩:=(bN (l:=c :: p)).mp L;have e:j=m:=G.1;subst e;have n:∀ y∈c :: p,y∈D:=λy i=>d.sub Ae (by
  obtain rfl|i:=Ai.mp i
  ·exact Ae
  ·exact Af _<|Bb _ i)
 have N:∀y∈j :: q,y∈D:=λy i=>d.sub Ae<|Af _<|Au _ i;have O:=Co.mp nd;have H:e1≠e2:=λe=>by
  have:=O.2.1;rw[e]at this;simp at this
 refine⟨((c :: p).map g++[e2]):: ((j :: q).map g++[e1]):: Ms.map (List.map g),by simp,⟨λk o=>?_,?_,nd⟩,_,Ae,Au _<|Ad.mpr rfl,λh=>?_⟩
 ·obtain rfl|o:=Ai.mp o
  ·refine⟨g c,Bb _ Ae,bN.mpr ⟨e2,AW (λy i=>r y<|n y i) (λy i ne=>s y (n y i) (λI=>?_) ne) v M,rfl,T⟩⟩
   obtain z|z:=AV M i
   ·exact w<|by rwa[<-I]
   ·exact ne z
  ·obtain rfl|o:=Ai.mp o
   ·refine⟨g j,Bb _ Ae,bN.mpr ⟨e1,AW (λy i=>U y<|N y i) (λy i ne=>s y (N y i) ne λI=>?_) E G,rfl,Q⟩⟩
    obtain z|z:=AV G i
    ·exact u.1<|by rwa[<-I]
    ·exact ne z
   ·exact d.rest (λx Y q=>s x Y (λe=>q<|by rw[e];exact Ae) λe=>q<|by rw[e];exact Af _<|Au _ Ae) k o
 ·simp only[Cr,AX];have:=d.all.map g;rw[Cr,Al,<-Fz,Al]at this;refine List.Perm.trans ?_<|this.append_right [e1,e2];generalize (c :: p).map g=A;generalize (j :: q).map g=B;generalize Ms.flatten.map g=C
  letI:DecidableEq β:=λa b=>Classical.propDecidable<|a=b
  rw[List.perm_iff_count];intro z;simp only[Ez,Dl,List.count_nil];omega
 ·obtain h|h:=Am.mp h
  ·obtain⟨y,i,e⟩:=Ak.mp h;exact O.2.2 e1 (Ak.mpr ⟨y,n y i,e⟩) e1 Ae rfl
  ·exact H<|Ad.mp h
def lm.more{f:β->β}{D:List β}{Ls:List (List β)}(d:lm f D Ls){b:β}(a:f b=b)(nd:(D++[b]).Nodup):lm f (D++[b]) (Ls++[[b]]):=by
 refine⟨λl c=>?_,?_,nd⟩
 ·obtain h|h:=Am.mp c
  ·exact d.hU l h
  ·rw[Ad]at h;subst h;exact⟨b,Ae,rfl,a⟩
 ·rw[Ge];exact d.all.append_right _
def lm.carry{f:α->α}{f':β->β}{g:α->β}{D:List α}{b:List β}{Ls:List (List α)}(d:lm f D Ls)(e:∀x∈D,f' (g x)=g (f x))(h:(D.map g).Perm b)(nd:b.Nodup):lm f' b (Ls.map<|List.map g):=by
 refine⟨λm i=>?_,?_,nd⟩
 ·obtain⟨k,c,rfl⟩:=Ak.mp i;obtain⟨a,j,p⟩:=d.hU k c;exact⟨g a,Ak.mpr ⟨a,j,rfl⟩,Jo (λx l=>e x<|d.sub c l) p⟩
 ·rw[AX];exact(d.all.map g).trans h
open PySem
theorem nJ{α:Type}[DecidableEq α]:∀{a b:List α},a.Nodup->(∀z∈a,z∈b)->b.length<=a.length->a.Perm b
 |[],b,_,_,c=>by
  have:b=[]:=Bv.mp<|Nat.le_zero.mp c;rw[this]
 |x :: a,b,nd,sub,c=>by
  have d:=Bh.mp nd;have h:=sub x Ae;have f:=List.perm_cons_erase h;refine List.Perm.trans ((nJ d.2 (λz i=>?_) ?_).cons x) f.symm
  ·exact(Ft λe=>d.1<|by rwa[<-e]).mpr<|sub z<|Af _ i
  ·have:=f.length_eq;rw[As]at this c;omega
variable{z:Str}{b:bc}{n:bi}
def kS(T:aq n){a:bc}(d:aJ n a=some z)(i:aJ n b=some z)(ne:a≠b):other n a=b:=by
 obtain⟨j,_,k⟩:=dH T d;obtain⟨p,q,e,_,_⟩:=qJ T d;have f:=aK.mpr d;have h:=aK.mpr i;have c:=aK.mpr j;rw[e]at f h c;simp only[Ai,Cc,GQ]at f h c
 obtain rfl|rfl:=f<;>obtain rfl|rfl:=h<;>obtain c|c:=c<;>first|exact c|exact absurd rfl ne|exact absurd c k
def sh(c e:bc):bc:=if e.1=c.1/\c.2<=e.2 then(e.1,e.2+1)else e
def nK(c e:bc):(sh c e).1=e.1:=by unfold sh;split<;>rfl
variable{c:bc}
theorem o7{a:bc}(h:sh c a=sh c b):a=b:=by
 have e:a.1=b.1:=by rw[<-nK c a,h,nK]
 have d:=BZ Prod.snd h;unfold sh at d;refine HJ e ?_
 by_cases x:a.1=c.1/\c.2<=a.2
 ·rw[BP x]at d
  by_cases y:b.1=c.1/\c.2<=b.2
  ·rw[BP y]at d;exact Nat.succ.inj d
  ·rw[BL y]at d;have d:a.2+1=b.2:=d;exact absurd ⟨e ▸ x.1,(by omega)⟩ y
 ·rw[BL x]at d
  by_cases y:b.1=c.1/\c.2<=b.2
  ·rw[BP y]at d;have d:a.2=b.2+1:=d;exact absurd ⟨e ▸ y.1,(by omega)⟩ x
  ·rwa[BL y]at d
theorem o8(c e:bc):sh c e≠c:=by
 intro h;have b:e.1=c.1:=by rw[<-nK c e,h]
 have a:=BZ Prod.snd h;unfold sh at a
 by_cases x:e.1=c.1/\c.2<=e.2
 ·rw[BP x]at a;have a:e.2+1=c.2:=a;omega
 ·rw[BL x]at a;exact x ⟨b,(by omega)⟩
variable{e:bc}
theorem t9(a:c.1<n.length)(b:c.2<=(row n c.1).length)(i:Nat):(row (ins n c z) i).length=if c.1=i then(row n i).length+1 else(row n i).length:=by
 rw[tT n c z i a]
 by_cases h:c.1=i
 ·subst h;rw[BP rfl,BP rfl,Ag,As,Br,Du];omega
 ·rw[BL h,BL h]
theorem Jr(a:c.1<n.length)(b:c.2<=(row n c.1).length):aJ (ins n c z) c=some z:=by
 unfold aJ;rw[tT n c z c.1 a,BP rfl,Bd (by rw[Br];omega),Br,show c.2-min c.2 (row n c.1).length=0 by omega];rfl
theorem ua(a:c.1<n.length)(b:c.2<=(row n c.1).length)(e:bc):aJ (ins n c z) (sh c e)=aJ n e:=by
 unfold aJ;rw[nK,tT n c z e.1 a];unfold sh
 by_cases h:c.1=e.1
 ·rw[BP h]
  by_cases k:c.2<=e.2
  ·rw[BP ⟨h.symm,k⟩,Bd (by rw[Br];show _<=e.2+1;omega),Br];show(z :: (row n e.1).drop c.2)[e.2+1-min c.2 (row n e.1).length]?=_;rw[<-h,show e.2+1-min c.2 (row n c.1).length=(e.2-c.2)+1 by omega,Ee,Gn,show c.2+(e.2-c.2)=e.2 by omega]
  ·rw[BL λq=>k q.2,Ax (by rw[Br,<-h];omega),Eb<|(by omega)]
 ·rw[BL h,BL λq=>h q.1.symm]
theorem o9(a:c.1<n.length)(b:c.2<(row n c.1).length):left (ins n c z) c=sh c c:=by
 unfold left sh;rw[t9 a<|Cy b,BP rfl,BP ⟨rfl,An _⟩,Bz<|(by omega)]
theorem jo(b:c.1<n.length)(a:c.2<(row n c.1).length)(p:e.2<(row n e.1).length):left (ins n c z) (sh c e)=if left n e=c then c else sh c (left n e):=by
 by_cases h:c.1=e.1
 ·have r:(left n e).1=e.1:=rfl;have d:(left n e).2=(e.2+1)%(row n e.1).length:=rfl;have q:(left n e=c)↔(e.2+1)%(row n e.1).length=c.2:=⟨λx=>by rw[<-d,x],λx=>HJ h.symm x⟩;have L:(left (ins n c z) (sh c e))=(e.1,((sh c e).2+1)%((row n e.1).length+1)):=by
   unfold left;rw[nK,t9 b<|Cy a,BP h]
  rw[L];rw[h]at a;have S:(sh c e).2=if c.2<=e.2 then e.2+1 else e.2:=by
   unfold sh
   by_cases k:c.2<=e.2
   ·rw[BP ⟨h.symm,k⟩,BP k]
   ·rw[BL λq=>k q.2,BL k]
  have f:sh c (left n e)=(e.1,if c.2<=(e.2+1)%(row n e.1).length then(e.2+1)%(row n e.1).length+1 else(e.2+1)%(row n e.1).length):=by
   unfold sh
   by_cases k:c.2<=(e.2+1)%(row n e.1).length
   ·rw[BP ⟨h.symm,k⟩,BP k];rfl
   ·rw[BL λq=>k q.2,BL k];rfl
  rw[S,f];generalize (row n e.1).length=m at *
  by_cases k:e.2+1<m
  ·rw[Bz k]at q ⊢
   by_cases j:e.2+1=c.2
   ·rw[BP<|q.mpr j,BL (by omega),Bz<|(by omega)];exact HJ h.symm j
   ·rw[BL λx=>j<|q.mp x]
    by_cases i:c.2<=e.2
    ·rw[BP i,BP (by omega),Bz<|(by omega)]
    ·rw[BL i,BL (by omega),Bz<|(by omega)]
  ·have em:e.2+1=m:=(by omega)
   rw[em,Ef]at q ⊢;rw[BP (by omega),Ef]
   by_cases j:0=c.2
   ·rw[BP<|q.mpr j];exact HJ h.symm j
   ·rw[BL λx=>j<|q.mp x,BL<|(by omega)]
 ·have ne:left n e≠c:=λx=>h (by rw[<-x];rfl);rw[BL ne];have l:sh c e=e:=by unfold sh;rw[BL λq=>h q.1.symm]
  have o:sh c (left n e)=left n e:=by unfold sh;rw[BL λq=>h q.1.symm]
  rw[l,o];unfold left;rw[t9 b<|Cy a,BL h]
def Pl(n:bi):Prop:=(ag n=[]/\n.length=1)\/∃Ls,lm (step n) (ends n) Ls/\2*(n.length+Ls.length)=(ag n).length+4
structure fb(n m:bi)(g:bc->bc)(e1 e2:bc)(z:Str):Prop where
 dj:∀e∈ends n,aJ m (g e)=aJ n e
 t1:aJ m e1=some z
 t2:aJ m e2=some z
 inj:∀a b,g a=g b->a=b
 n1:∀a∈ends n,g a≠e1
 n2:∀a∈ends n,g a≠e2
 ne:e1≠e2
 len:(ag m).length=(ag n).length+2
variable{m:bi}{k1 k2:bc}
section
variable{g:bc->bc}{e1 e2:bc}
def fb.nd(p:fb n m g e1 e2 z):((ends n).map g++[e1,e2]).Nodup:=by
 rw[Co];refine⟨?_,?_,?_⟩
 ·exact(Dr.mpr<|(kc n).imp λ{a b}h e=>h<|p.inj a b e)
 ·simp[p.ne]
 ·rintro a f b c rfl;obtain⟨x,d,rfl⟩:=Ak.mp f;simp only[Ai,Cc,GQ]at c
  obtain h|h:=c
  ·exact p.n1 x d h
  ·exact p.n2 x d h
def fb.perm(p:fb n m g e1 e2 z):((ends n).map g++[e1,e2]).Perm (ends m):=by
 refine nJ p.nd (λa c=>?_)<|by rw[fz,p.len,Ag,Aa,fz];exact An _
 obtain h|h:=Am.mp c
 ·obtain⟨x,b,rfl⟩:=Ak.mp h;obtain⟨y,d⟩:=af.mp b;exact af.mpr ⟨y,by rwa[p.dj x b]⟩
 ·simp only[Ai,Cc,GQ]at h
  obtain rfl|rfl:=h
  ·exact af.mpr ⟨z,p.t1⟩
  ·exact af.mpr ⟨z,p.t2⟩
def fb.aI(p:fb n m g e1 e2 z)(T:aq n)(b:aq m)(a:e∈ends n):other m (g e)=g ((other n e)):=by
 obtain⟨y,c⟩:=af.mp a;obtain⟨d,_,f⟩:=dH T c;exact kS b (by rwa[p.dj e a]) (by rwa[p.dj _<|af.mpr ⟨y,d⟩]) λh=>f (p.inj _ _ h).symm
def fb.o1(p:fb n m g e1 e2 z)(a:aq m):other m e1=e2:=kS a p.t1 p.t2 p.ne
def fb.o2(p:fb n m g e1 e2 z)(a:aq m):other m e2=e1:=kS a p.t2 p.t1 p.ne.symm
def lm.perm{α:Type}{f:α->α}{D a:List α}{Ls:List (List α)}(d:lm f D Ls)(h:D.Perm a):lm f a Ls:=⟨d.hU,d.all.trans h,h.nodup_iff.mp d.nd⟩
def AY{α:Type}{f:α->α}{l:List α}(h:∀x∈l,f x∈l){a:α}(b:a∈l):∀k,it f k a∈l:=λk=>je h b k
def lm.one{α:Type}{f:α->α}{D:List α}{a b:α}{l:List α}{Ms:List (List α)}(d:lm f D<|(a :: l):: Ms)(o:b∈D)(h:(∃k,it f k a=b)\/∃k,it f k b=a)(ne:b≠a):b∈l:=by
 have i:∀k∈(a :: l):: Ms,∀x∈k,f x∈k:=λk q x r=>by
  obtain⟨c,s,p⟩:=d.hU k q;exact t7 p s r
 have t:b∈a :: l:=by
  obtain⟨k,rfl⟩|⟨k,e⟩:=h
  ·exact AY (i _ Ae) Ae k
  ·obtain⟨j,m,n⟩:=Dw.mp<|d.all.mem_iff.mpr o
   obtain rfl|u:=Ai.mp m
   ·exact n
   ·have:=AY (i j m) n k;rw[e]at this;exact absurd this<|d.apart.2 j u a Ae
 obtain h|h:=Ai.mp t
 ·exact absurd h ne
 ·exact h
theorem vg(p:fb n m g e1 e2 z)(T:aq n)(f:aq m)(t:m.length=n.length)(h:k1∈ends n)(i:k2∈ends n)(ne:k2≠k1)(same:(∃k,(it (step n)) k k1=k2)\/∃k,(it (step n)) k k2=k1)
  (u:left m e1=g k1) (v:left m e2=g k2) (lf:∀e∈ends n,left m (g e)=if left n e=k1 then e1 else if left n e=k2 then e2 else g (left n e)) (P:Pl n):Pl m:=by
 have st:∀x∈ends n,step m (g x)=if step n x=k1 then e1 else if step n x=k2 then e2 else g (step n x):=λx c=>by
  unfold step;rw[p.aI T f c];exact lf _<|cR T c
 obtain⟨e,_⟩|⟨Ls,d,w⟩:=P
 ·obtain⟨y,j⟩:=af.mp h;have:=eV j;rw[e]at this;cases this
 ·obtain⟨l,A,B,d⟩:=d.pick h;have o:=d.one i same ne;obtain⟨q,r,s,_⟩:=d.split (f':=step m) (g:=g) o (e1:=e1) (e2:=e2) (by unfold step;rwa[p.o1 f]) (by unfold step;rwa[p.o2 f])
   (λx c e=>by rw[st x c,BP e]) (λx c e=>by rw[st x c,BL (by rw[e];exact ne),BP e]) (λx c a b=>by rw[st x c,BL a,BL b]) p.nd
  refine .inr ⟨q,s.perm p.perm,?_⟩;have:=p.len;omega
theorem ox(p:fb n m g e1 e2 z)(T:aq n)(f:aq m)(r:m.length=n.length)(i:c∈ends n)
  (s:left m e1=g c) (t:left m e2=e1) (lf:∀e∈ends n,left m (g e)=if left n e=c then e2 else g (left n e)) (P:Pl n):Pl m:=by
 have st:∀x∈ends n,step m (g x)=if step n x=c then e2 else g (step n x):=λx a=>by
  unfold step;rw[p.aI T f a];exact lf _<|cR T a
 obtain⟨e,_⟩|⟨Ls,d,u⟩:=P
 ·obtain⟨y,k⟩:=af.mp i;have:=eV k;rw[e]at this;cases this
 ·obtain⟨l,v,w,d⟩:=d.pick i;have nd:=p.nd;have j:((ends n).map g++[e2]++[e1]).Nodup:=by
   rw[Ar];exact((List.Perm.swap e1 e2 []).append_left _).nodup_iff.mpr nd
  have o:=d.grow (f':=step m) (g:=g) (new:=[e2]) (h:=e2) ⟨rfl,by unfold step;rwa[p.o2 f]⟩ (λx a e=>by rw[st x a,BP e]) (λx a e=>by rw[st x a,BL e]) (Co.mp j).1;have q:=o.more (b:=e1) (by unfold step;rwa[p.o1 f]) j;have pm:((ends n).map g++[e2]++[e1]).Perm (ends m):=by
   refine List.Perm.trans ?_ p.perm;rw[Ar];exact(List.Perm.swap e1 e2 []).append_left _
  refine .inr ⟨_,q.perm pm,?_⟩;have:=p.len;simp only[Ag,As,Aa,Er];omega
theorem BM(p:fb n m g e1 e2 z)(T:aq n)(b:aq m)(q:m.length=n.length+1)(f:c∈ends n)
  (r:left m e1=g c) (s:left m e2=e2) (lf:∀e∈ends n,left m (g e)=if left n e=c then e1 else g (left n e)) (P:Pl n):Pl m:=by
 have st:∀x∈ends n,step m (g x)=if step n x=c then e1 else g (step n x):=λx a=>by
  unfold step;rw[p.aI T b a];exact lf _<|cR T a
 obtain⟨e,_⟩|⟨Ls,d,t⟩:=P
 ·obtain⟨y,i⟩:=af.mp f;have:=eV i;rw[e]at this;cases this
 ·obtain⟨l,u,v,d⟩:=d.pick f;have j:step m e1=e2:=by unfold step;rwa[p.o1 b]
  have k:step m e2=g c:=by unfold step;rwa[p.o2 b]
  have o:=d.grow (f':=step m) (new:=[e1,e2]) (h:=e1) ⟨rfl,by rw[j];exact⟨rfl,k⟩⟩ (λx a e=>by rw[st x a,BP e]) (λx a e=>by rw[st x a,BL e]) p.nd;refine .inr ⟨_,o.perm p.perm,?_⟩;have:=p.len;simp only[As,Aa];omega
end
def fJ(h:e∈ends n):e.1<n.length/\e.2<(row n e.1).length:=by
 obtain⟨z,a⟩:=af.mp h;exact⟨cB a,gk a⟩
variable{i:Nat}{a:bi}{x:Str×List Str}{pt:Str}
theorem SF(c:k1.1<n.length/\k1.2<=(row n k1.1).length)(f:k2.1<n.length/\k2.2<=(row n k2.1).length):fb n (ins (ins n k1 z) k2 z) (λe=>sh k2<|sh k1 e) (sh k2 k1) k2 z:=by
 have d:k2.1<(ins n k1 z).length:=by rw[iz];exact f.1
 have i:k2.2<=(row (ins n k1 z) k2.1).length:=by
  rw[t9 c.1 c.2]
  split
  ·have:=f.2;omega
  ·exact f.2
 refine⟨λe _=>?_,?_,Jr d i,λa b h=>o7<|o7 h,λa _ h=>o8 k1 a<|o7 h,λa _=>o8 k2 _,o8 k2 k1,?_⟩
 ·show aJ _ (sh k2<|sh k1 e)=_;rw[ua d i,ua c.1 c.2]
 ·rw[ua d i];exact Jr c.1 c.2
 ·rw[(mv _ k2 z d).length_eq,As,(mv _ k1 z c.1).length_eq,As]
theorem qC(T:aq n)(r:aq<|ins (ins n k1 z) k2 z)(o:k1∈ends n)(s:k2∈ends n)(ord:k2=k1\/sh k1 k2=k2)(same:(∃k,(it (step n)) k k1=k2)\/∃k,(it (step n)) k k2=k1)(P:Pl n):Pl (ins (ins n k1 z) k2 z):=by
 have a:=fJ o;have j:=fJ s;have p:=SF (z:=z) ⟨a.1,Cy a.2⟩ ⟨j.1,Cy j.2⟩;have f:k2.1<(ins n k1 z).length:=by rw[iz];exact j.1
 have t:∀i,(row n i).length<=(row (ins n k1 z) i).length:=λi=>by
  rw[t9 a.1<|Cy a.2]
  split<;>omega
 have h:=Bq j.2<|t _;have u:=Bq a.2<|t _;have v:(ins (ins n k1 z) k2 z).length=n.length:=by rw[iz,iz]
 have w:∀e∈ends n,(sh k1 e).2<(row (ins n k1 z) (sh k1 e).1).length:=λe b=>by
  obtain⟨y,B⟩:=af.mp b;exact gk (z:=y)<|by rwa[ua a.1<|Cy a.2]
 have A:left (ins n k1 z) k1=sh k1 k1:=o9 a.1 a.2
 by_cases e:k2=k1
 ·subst e;refine ox p T r v o ?_ (o9 f h) (λe b=>?_) P
  ·rw[jo f h u,A,BL<|o8 _ _]
  ·show left _ (sh k2<|sh k2 e)=_;rw[jo f h<|w e b,jo a.1 a.2 (fJ b).2]
   by_cases q:left n e=k2
   ·rw[BP q,BP rfl,BP q]
   ·rw[BL q,BL<|o8 _ _,BL q]
 ·have l:sh k1 k2=k2:=ord.resolve_left e;refine vg p T r v o s e same ?_ ?_ (λd b=>?_) P
  ·rw[jo f h u,A,BL λq=>e<|o7 (c:=k1)<|by rw[l,q]]
  ·show left _ k2=sh k2 (sh k1 k2);rw[l];exact o9 f h
  ·show left _ (sh k2<|sh k1 d)=if left n d=k1 then sh k2 k1 else if left n d=k2 then k2 else sh k2 (sh k1<|left n d);rw[jo f h<|w d b,jo a.1 a.2 (fJ b).2]
   by_cases q:left n d=k1
   ·rw[BP q,BP q,BL λx=>e x.symm]
   ·rw[BL q,BL q]
    by_cases m:left n d=k2
    ·rw[BP m,m,l,BP rfl]
    ·rw[BL m,BL λx=>m<|o7 (c:=k1)<|by rw[x,l]]
def pc{b:bi}(h:i<a.length):row (a++b) i=row a i:=by
 unfold row;rw[Ax h]
def AZ:row (a++[x]) a.length=x.2:=by
 unfold row;rw[Bd<|An _];simp
def SG(d:c.1<n.length/\c.2<=(row n c.1).length):fb n (ins n c z++[(pt,[z])]) (sh c) c (n.length,0) z:=by
 have f:∀e:bc,e.1<n.length->aJ (ins n c z++[(pt,[z])]) e=aJ (ins n c z) e:=λe i=>by
  unfold aJ;rw[pc<|by rwa[iz]]
 refine⟨λe i=>?_,?_,?_,λa b h=>o7 h,λa _=>o8 c a,λa j h=>?_,λh=>?_,?_⟩
 ·rw[f _ (by rw[nK];exact(fJ i).1),ua d.1 d.2]
 ·rw[f _ d.1,Jr d.1 d.2]
 ·unfold aJ;have:=AZ (a:=ins n c z) (x:=(pt,[z]));rw[iz]at this;show(row _ n.length)[0]?=_;rw[this];rfl
 ·have:=(fJ j).1;rw[<-nK c a,h]at this;exact absurd this<|De _
 ·have:=d.1;rw[h]at this;exact absurd this<|De _
 ·unfold ag;rw[Dp,Ag];have:=(mv _ c z d.1).length_eq;unfold ag at this;rw[this];rfl
def Jp(T:aq n)(i:aq<|ins n c z++[(pt,[z])])(f:c∈ends n)(P:Pl n):Pl (ins n c z++[(pt,[z])]):=by
 have b:=fJ f;have p:=SG (z:=z) (pt:=pt) ⟨b.1,Cy b.2⟩;have h:∀e:bc,e.1<n.length->left (ins n c z++[(pt,[z])]) e=left (ins n c z) e:=λe d=>by
  unfold left;rw[pc<|by rwa[iz]]
 refine BM p T i (by rw[Ag,iz];rfl) f ?_ ?_ (λe d=>?_) P
 ·rw[h _ b.1];exact o9 b.1 b.2
 ·unfold left;have:=AZ (a:=ins n c z) (x:=(pt,[z]));rw[iz]at this;show(n.length,(0+1)%(row _ n.length).length)=_;rw[this];exact BZ (Prod.mk _)<|Ef 1
 ·rw[h _<|by rw[nK];exact(fJ d).1];exact jo b.1 b.2 (fJ d).2
def SH{e1 e2:bc}(f:aq m)(b:ends m=[e1,e2])(i:aJ m e1=some z)(j:aJ m e2=some z)(ne:e1≠e2)
  (h:(m.length=2/\left m e1=e1/\left m e2=e2)\/(m.length=1/\left m e1=e2/\left m e2=e1)):Pl m:=by
 have k:=kS f i j ne;have n:=kS f j i ne.symm;have a:(ag m).length=2:=by rw[<-fz,b];rfl
 have nd:[e1,e2].Nodup:=by simp[ne]
 obtain⟨c,d,e⟩|⟨c,d,e⟩:=h
 ·refine .inr ⟨[[e1,e2]],?_,by rw[c,a];rfl⟩;rw[b];refine⟨λl a=>?_,List.Perm.refl _,nd⟩;rw[Ad]at a;subst a;refine⟨e1,Ae,rfl,?_⟩;unfold step;rw[k,e];exact⟨rfl,by show left m (other m e2)=e1;rw[n,d]⟩
 ·refine .inr ⟨[[e1],[e2]],?_,by rw[c,a];rfl⟩;rw[b];refine⟨λl a=>?_,List.Perm.refl _,nd⟩;simp only[Ai,Cc,GQ]at a
  obtain rfl|rfl:=a
  ·exact⟨e1,Ae,rfl,by show left m (other m e1)=e1;rw[k,e]⟩
  ·exact⟨e2,Ae,rfl,by show left m (other m e2)=e2;rw[n,d]⟩
def wo{nm:Str}(a:aq [(nm,[z]),(pt,[z])]):Pl [(nm,[z]),(pt,[z])]:=
 SH (e1:=(0,0)) (e2:=(1,0)) a rfl rfl rfl (by decide) (.inl ⟨rfl,by simp[left,row],by simp[left,row]⟩)
def qx{nm:Str}(a:aq [(nm,[z,z])]):Pl [(nm,[z,z])]:=
 SH (e1:=(0,0)) (e2:=(0,1)) a rfl rfl rfl (by decide) (.inr ⟨rfl,by simp[left,row],by simp[left,row]⟩)
def Tk{g:bc->bc}(T:aq n)(q:aq m)(p:m.length=n.length)(i:(ag m).length=(ag n).length)(j:∀e∈ends n,aJ m (g e)=aJ n e)(inj:∀a∈ends n,∀b∈ends n,g a=g b->a=b)
  (lf:∀e∈ends n,left m (g e)=g (left n e)) (P:Pl n):Pl m:=by
 obtain⟨e,h⟩|⟨Ls,d,v⟩:=P
 ·exact .inl ⟨Bv.mp (by rw[i,e];rfl),by rw[p,h]⟩
 ·have nd:((ends n).map g).Nodup:=by
   have:∀(l:List bc),(∀x∈l,x∈ends n)->l.Nodup->(l.map g).Nodup:=by
    intro l
    induction l with
    |nil=>intro _ _;exact Cd
    |cons x l r=>
     intro k h;have h:=Bh.mp h;rw[Ba];refine Bh.mpr ⟨λc=>?_,r (λy f=>k y<|Af _ f) h.2⟩;obtain⟨y,f,e⟩:=Ak.mp c;have:=inj y (k y<|Af _ f) x (k x Ae) e;exact h.1<|this ▸ f
   exact this _ (λx c=>c)<|kc n
  have pm:((ends n).map g).Perm (ends m):=by
   refine nJ nd (λa s=>?_) (by rw[Aa,fz,fz,i];exact An _);obtain⟨x,c,rfl⟩:=Ak.mp s;obtain⟨y,f⟩:=af.mp c;exact af.mpr ⟨y,by rwa[j x c]⟩
  refine .inr ⟨_,d.carry (f':=step m) (g:=g) (λx c=>?_) pm<|kc m,by rwa[Aa,p,i]⟩;obtain⟨y,f⟩:=af.mp c;obtain⟨t,_,u⟩:=dH T f;have o:other n x∈ends n:=af.mpr ⟨y,t⟩;have:other m (g x)=g (other n x):=kS q (by rwa[j x c]) (by rwa[j _ o]) λh=>u (inj _ c _ o h).symm;unfold step;rw[this];exact lf _ o
def ph(i len q:Nat):Nat:=if i<=q then q-i else q+len-i
def eJ(N j i len:Nat)(e:bc):bc:=if e.1<j then e else if e.1=j then(N-1,ph i len e.2) else(e.1-1,e.2)
variable{j:Nat}
theorem SK(d:j<a.length)(r:Nat)(e:r<a.length):row (a.eraseIdx j++[x]) (if r<j then r else if r=j then a.length-1 else r-1)=if r=j then x.2 else row a r:=by
 have le:(a.eraseIdx j).length=a.length-1:=by rw[Dg,BP d]
 by_cases c:r<j
 ·rw[BP c,BL (by omega),pc<|by rw[le];omega];unfold row;rw[Gu,BP c]
 ·rw[BL c]
  by_cases b:r=j
  ·rw[BP b,BP b,<-le,AZ]
  ·rw[BL b,BL b,pc<|by rw[le];omega];unfold row;rw[Gu,BL (by omega),show r-1+1=r by omega]
theorem Ix{len q:Nat}(a:i<len)(b:q<len):(ph i len q+1)%len=ph i len ((q+1)%len):=by
 unfold ph
 by_cases k:q+1<len
 ·rw[Bz k]
  by_cases h:i<=q
  ·rw[BP h,BP (by omega),Bz<|(by omega)];omega
  ·rw[BL h]
   by_cases c:q+1=i
   ·rw[BP (by omega),show q+len-i+1=len by omega,Ef];omega
   ·rw[BL (by omega),Bz<|(by omega)];omega
 ·have e:q+1=len:=(by omega)
  rw[e,Ef,BP<|(by omega)]
  by_cases h:i=0
  ·rw[BP (by omega),show q-i+1=len by omega,Ef];omega
  ·rw[BL (by omega),Bz<|(by omega)];omega
theorem QQ{l:Ð}{q:Nat}(a:i<l.length)(b:q<l.length):(l.drop i++l.take i)[ph i l.length q]?=l[q]?:=by
 unfold ph
 by_cases h:i<=q
 ·rw[BP h,Ax (by rw[Du];omega),Gn,show i+(q-i)=q by omega]
 ·rw[BL h,Bd (by rw[Du];omega),Du,Eb (by omega),show q+l.length-i-(l.length-i)=q by omega]
theorem SL{x:Str}(t:j<a.length)(w:i<max 1 (row a j).length):∃g:bc->bc,(∀e∈ends a,aJ (a.eraseIdx j++[(x,(row a j).drop i++(row a j).take i)]) (g e)=aJ a e)/\(∀b∈ends a,∀c∈ends a,g b=g c->b=c) /\
  ∀e∈ends a,left (a.eraseIdx j++[(x,(row a j).drop i++(row a j).take i)]) (g e)=g (left a e):=by
 have fst:∀e:bc,(eJ a.length j i (row a j).length e).1=if e.1<j then e.1 else if e.1=j then a.length-1 else e.1-1:=λe=>by
  unfold eJ
  by_cases h:e.1<j
  ·rw[BP h,BP h]
  ·rw[BL h,BL h]
   by_cases d:e.1=j
   ·rw[BP d,BP d]
   ·rw[BL d,BL d]
 have snd:∀e:bc,(eJ a.length j i (row a j).length e).2=if e.1=j then ph i (row a j).length e.2 else e.2:=λe=>by
  unfold eJ
  by_cases h:e.1<j
  ·rw[BP h,BL<|(by omega)]
  ·rw[BL h]
   by_cases d:e.1=j
   ·rw[BP d,BP d]
   ·rw[BL d,BL d]
 have n:∀e:bc,e.1<a.length->row (a.eraseIdx j++[(x,(row a j).drop i++(row a j).take i)]) (eJ a.length j i (row a j).length e).1=if e.1=j then(row a j).drop i++(row a j).take i else row a e.1:=λe k=>by
  rw[fst,SK t e.1 k]
 refine⟨eJ a.length j i (row a j).length,λe k=>?_,λb y c z h=>?_,λe k=>?_⟩
 ·have r:=fJ k;unfold aJ;rw[n e r.1,snd]
  by_cases h:e.1=j
  ·rw[BP h,BP h,<-h,QQ (by have:=w;rw[<-h]at this;omega) r.2]
  ·rw[BL h,BL h]
 ·have l:=fJ y;have m:=fJ z;have f:=BZ Prod.fst h;have d:=BZ Prod.snd h;rw[fst,fst]at f;rw[snd,snd]at d
  by_cases p:b.1=j
  ·by_cases q:c.1=j
   ·rw[BP p,BP q]at d;refine HJ (by rw[p,q]) ?_;have l:=l.2;have m:=m.2;rw[p]at l;rw[q]at m;unfold ph at d
    by_cases u:i<=b.2
    ·rw[BP u]at d
     by_cases v:i<=c.2
     ·rw[BP v]at d;omega
     ·rw[BL v]at d;omega
    ·rw[BL u]at d
     by_cases v:i<=c.2
     ·rw[BP v]at d;omega
     ·rw[BL v]at d;omega
   ·exfalso
    rw[BL (by omega),BP p]at f;have:=m.1
    by_cases u:c.1<j
    ·rw[BP u]at f;omega
    ·rw[BL u,BL q]at f;omega
  ·by_cases q:c.1=j
   ·exfalso
    have:=l.1;rw[BL (show ¬ c.1<j by omega),BP q]at f
    by_cases u:b.1<j
    ·rw[BP u]at f;omega
    ·rw[BL u,BL p]at f;omega
   ·rw[BL p,BL q]at d;refine HJ ?_ d;rw[BL p,BL q]at f
    by_cases u:b.1<j
    ·rw[BP u]at f
     by_cases v:c.1<j
     ·rwa[BP v]at f
     ·rw[BL v]at f;omega
    ·rw[BL u]at f
     by_cases v:c.1<j
     ·rw[BP v]at f;omega
     ·rw[BL v]at f;omega
 ·have r:=fJ k;have o:(left a e).1=e.1:=rfl;have L2:(left a e).2=(e.2+1)%(row a e.1).length:=rfl;refine HJ ?_ ?_
  ·show(eJ a.length j i (row a j).length e).1=(eJ a.length j i (row a j).length<|left a e).1;rw[fst,fst,o]
  ·show((eJ a.length j i (row a j).length e).2+1)%(row _ (eJ a.length j i (row a j).length e).1).length=(eJ a.length j i (row a j).length<|left a e).2;rw[n e r.1,snd,snd,o,L2]
   by_cases h:e.1=j
   ·rw[BP h,BP h,BP h,Ag,Du,Br];have s:=r.2;rw[h]at s ⊢;rw[show(row a j).length-i+min i (row a j).length=(row a j).length by omega];exact Ix (by omega) s
   ·rw[BL h,BL h,BL h]
theorem p4{x:Str}(b:j<a.length)(c:i<max 1 (row a j).length)(T:aq a)(d:aq<|a.eraseIdx j++[(x,(row a j).drop i++(row a j).take i)])
  (e:(ag<|a.eraseIdx j++[(x,(row a j).drop i++(row a j).take i)]).length=(ag a).length) (P:Pl a):Pl (a.eraseIdx j++[(x,(row a j).drop i++(row a j).take i)]):=by
 obtain⟨g,f,h,k⟩:=SL b c;exact Tk T d (by rw[Ag,Dg,BP b,Dc];omega) e f h k P
theorem SU{α:Type}(f:α->α)(a:α):∀k,it f k (f a)=it f (k+1) a
 |0=>rfl
 |k+1=>by show f (it f k<|f a)=f (it f (k+1) a);rw[SU f a k]
theorem Js{α:Type}{f:α->α}:∀{l}{a b x},e9 f l a b->x∈l->∃k,it f k a=x
 |y :: l,a,b,x,h,c=>by
  obtain rfl|c:=Ai.mp c
  ·exact⟨0,h.1.symm⟩
  ·obtain⟨k,e⟩:=Js h.2 c;refine⟨k+1,?_⟩;rwa[<-SU,<-h.1]
theorem lm.unique{α:Type}[DecidableEq α]{f:α->α}:∀{Ls Ms}{D},lm f D Ls->lm f D Ms->Ls.length=Ms.length
 |[],Ms,D,d,b=>by
  have e:=List.Perm.eq_nil d.all.symm;subst e;cases Ms with
  |nil=>rfl
  |cons m Ms=>
   obtain⟨a,w,_⟩:=b.hU m Ae;have:=b.sub Ae w;cases this
 |l :: Ls,Ms,D,d,b=>by
  obtain⟨c,i,p⟩:=d.hU l Ae;obtain⟨j,t,z,h⟩:=b.pick<|d.sub Ae i;obtain⟨C,u,n⟩:=h.hU _ Ae;have e:=n.1;subst e;have A:∀x∈l,x∈c :: j:=λx o=>by
   obtain⟨k,rfl⟩:=Js p o;exact AY (λy r=>t7 n u r) u k
  have B:∀x∈c :: j,x∈l:=λx o=>by
   obtain⟨k,rfl⟩:=Js n o;exact AY (λy r=>t7 p i r) i k
  have pm:l.Perm (c :: j):=nJ d.apart.1 A<|aU h.apart.1 B;have q:Ls.flatten.Perm t.flatten:=by
   have v:=d.all.trans h.all.symm;rw[Cr,Cr]at v;exact(List.perm_append_left_iff l).mp<|v.trans<|pm.symm.append_right _
  have nd:=d.all.nodup_iff.mpr d.nd;rw[Cr,Co]at nd;have:=lm.unique (Ls:=Ls) (Ms:=t) (D:=Ls.flatten) ⟨λk s=>d.hU k<|Af _ s,List.Perm.refl _,nd.2.1⟩ ⟨λk s=>h.hU k<|Af _ s,q.symm,nd.2.1⟩;rw[As,this,z]
theorem SW(n:bi)(e:bc):∀k,e9 (step n) (fl n e k) e<|(it (step n)) k e
 |0=>rfl
 |k+1=>by
  rw[Sx];exact bN.mpr ⟨_,SW n e k,rfl,rfl⟩
def wA(T:aq n)(h:e∈ends n):e∈face n e/\e9 (step n) (face n e) e e:=by
 have f:=nI T h;have b:=f.at' 0 f.pos;refine⟨Ao b,?_⟩;have:=SW n e<|jP n e;have c:face n e=fl n e (jP n e):=rfl;have a:(face n e).length=jP n e:=by rw[c,rh]
 rwa[<-a,f.back,a]at this
theorem Sn(T:aq n)(h:e∈ends n):∀i j,(it (step n)) i e=(it (step n)) (i+j) e->(it (step n)) j e=e:=by
 have b:∀a∈ends n,step n a∈ends n:=λa c=>mq T c;intro i
 induction i with
 |zero=>intro j e;rw[Ex]at e;exact e.symm
 |succ i d=>
  intro j e;refine d j ?_;rw[show i+1+j=(i+j)+1 by omega]at e;exact zJ T (je b h i) (je b h<|i+j) e
theorem TW(T:aq n)(h:e∈ends n):(face n e).Nodup:=by
 have f:=nI T h;unfold List.Nodup;rw[Bc];intro i j c d k q;have a:=f.at' i c;have b:=f.at' j d;rw[Ab c]at a;rw[Ab d]at b;have a:=Option.some.inj a;have b:=Option.some.inj b;rw[q,b]at a;refine f.first (j-i) (by omega) (by omega) (Sn T h i (j-i) ?_);rw[show i+(j-i)=j by omega];exact a.symm
def lx(a b:bc):Prop:=a.1<b.1\/(a.1=b.1/\a.2<b.2)
theorem SY(r:Nat):∀a p,((bF r a p).map (·.2)).Pairwise lx
 |[],p=>List.Pairwise.nil
 |t :: a,p=>by
  show(((r,p):bc):: (bF r a<|p+1).map (·.2)).Pairwise lx;refine List.Pairwise.cons (λb c=>?_)<|SY r a<|p+1;obtain⟨⟨z,e⟩,d,rfl⟩:=Ak.mp c;obtain⟨f,h,_⟩:=bf.mp d;exact .inr ⟨f.symm,by show p<e.2;omega⟩
theorem SZ:∀n k,((fv k n).map (·.2)).Pairwise lx
 |[],k=>List.Pairwise.nil
 |a :: n,k=>by
  unfold fv;rw[Al,Fv];refine⟨SY k a.2 0,SZ n<|k+1,λx b y c=>?_⟩;obtain⟨⟨z,e⟩,d,rfl⟩:=Ak.mp b;obtain⟨⟨i,f⟩,h,rfl⟩:=Ak.mp c;have j:=(bf.mp d).1;have l:=(bM.mp h).1;exact .inl<|by show e.1<f.1;omega
def Ll(n:bi):(ends n).Pairwise lx:=SZ n 0
theorem S0{a:bc}(h:lx a b):¬ lx b a:=by
 unfold lx at *;omega
def Told(n:bi)(a:List bc):Prop:=∀x∈a,step n x∈a
variable{told:List bc}
def ln(T:aq n)(k:Told n told)(h:e∈ends n)(o:e∉told):∀c∈face n e,c∉told:=by
 intro c d f;obtain⟨t,p⟩:=wA T h;obtain⟨A,B,q⟩:=Fj d;rw[q]at p;obtain⟨m,u,i⟩:=bN.mp p;have r:=i.1;subst r;have:∀l a b,e9 (step n) l a b->a∈told->b∈told:=by
  intro l
  induction l with
  |nil=>intro a b h j;rwa[<-(show a=b from h)]
  |cons x l s=>intro a b h j;exact s _ _ h.2<|k _<|h.1 ▸ j
 exact o<|this _ _ _ i f
def q1d(T:aq n)(a:Told n told)(h:e∈ends n):Told n (told++face n e):=by
 intro x b
 obtain q|q:=Am.mp b
 ·exact Bb _<|a x q
 ·obtain⟨c,p⟩:=wA T h;exact Au _<|t7 p c q
structure wB(n:bi)(es told:List bc)(Fs:List<|List bc):Prop where
 face:∀w∈Fs,∃e∈es,w=Nt.face n e/\e∈ends n/\∀c∈w,¬ lx c e
 cov:∀e∈es,e∈told\/∃w∈Fs,e∈w
 nd:Fs.flatten.Nodup
 out:∀w∈Fs,∀c∈w,c∉told
 ord:Fs.Pairwise λv w=>∀a b,v[0]?=some a->w[0]?=some b->lx a b
theorem Jt{n:bi}(T:aq n):∀es told pre,ends n=pre++es->(∀x∈pre,x∈told)->Told n told->wB n es told (jn n es told)
 |[],told,pre,_,_,_=>by
  unfold jn;exact⟨λw d=>(nomatch d),λe i=>(nomatch i),Cd,λw d=>(nomatch d),List.Pairwise.nil⟩
 |e :: r,told,pre,l,m,o=>by
  have v:ends n=(pre++[e])++r:=by rw[l,Ar];rfl
  have i:e∈ends n:=by rw[l];exact Au _ Ae
  have y:=Ll n;rw[l,Fv]at y;have z:=(Ct.mp y.2.1).1;unfold jn
  split
  ·rename_i p;have I:=Jt T r told (pre++[e]) v (λx h=>by
    obtain q|q:=Am.mp h
    ·exact m x q
    ·rw[Ad]at q;rwa[q]) o
   exact⟨λw d=>by obtain⟨a,f,j⟩:=I.face w d;exact⟨a,Af _ f,j⟩,λx h=>by
    obtain rfl|h:=Ai.mp h
    ·exact .inl p
    ·exact I.cov x h,I.nd,I.out,I.ord⟩
  ·rename_i p;have A:=wA T i;have ap:=ln T o i p;have I:=Jt T r (told++face n e) (pre++[e]) v (λx h=>by
    obtain q|q:=Am.mp h
    ·exact Bb _<|m x q
    ·rw[Ad]at q;rw[q];exact Au _ A.1)<|q1d T o i
   refine⟨λw d=>?_,λx h=>?_,?_,λw d c k=>?_,?_⟩
   ·obtain rfl|d:=Ai.mp d
    ·refine⟨e,Ae,rfl,i,λc k q=>?_⟩;have f:=wx T i c k;rw[l]at f
     obtain f|f:=Am.mp f
     ·exact ap c k<|m c f
     ·obtain rfl|f:=Ai.mp f
      ·exact S0 q q
      ·exact S0 q<|z c f
    ·obtain⟨a,f,j⟩:=I.face w d;exact⟨a,Af _ f,j⟩
   ·obtain rfl|h:=Ai.mp h
    ·exact .inr ⟨_,Ae,A.1⟩
    ·obtain q|⟨w,f,j⟩:=I.cov x h
     ·obtain q|q:=Am.mp q
      ·exact .inl q
      ·exact .inr ⟨_,Ae,q⟩
     ·exact .inr ⟨w,Af _ f,j⟩
   ·rw[Cr,Co];refine⟨TW T i,I.nd,λa s b t q=>?_⟩;obtain⟨w,d,u⟩:=Dw.mp t;exact I.out w d b u<|Au _<|q ▸ s
   ·obtain rfl|d:=Ai.mp d
    ·exact ap c k
    ·exact λq=>I.out w d c k<|Bb _ q
   ·refine List.Pairwise.cons (λw d a b s t=>?_) I.ord;obtain⟨B,f,rfl,j,_⟩:=I.face w d;have f1:=(nI T i).at' 0 (nI T i).pos;have f2:=(nI T j).at' 0 (nI T j).pos;rw[s]at f1;rw[t]at f2;rw[Option.some.inj f1,Option.some.inj f2];exact z B f
def Ju(T:aq n)(b:ends n≠[]):wB n (ends n) [] (ci n):=by
 unfold ci;rw[BL b];exact Jt T (ends n) [] [] rfl (λx a=>by cases a) (λx a=>by cases a)
def Jv(T:aq n)(f:ends n≠[]):lm (step n) (ends n) (ci n):=by
 have g:=Ju T f;refine⟨λl h=>?_,?_,kc n⟩
 ·obtain⟨e,_,rfl,a,_⟩:=g.face l h;exact⟨e,wA T a⟩
 ·refine nJ g.nd (λz b=>?_)<|aU (kc n) λz b=>?_
  ·obtain⟨w,c,d⟩:=Dw.mp b;obtain⟨e,_,rfl,a,_⟩:=g.face w c;exact wx T a z d
  ·obtain q|⟨w,c,q⟩:=g.cov z b
   ·cases q
   ·exact Dw.mpr ⟨w,c,q⟩
def S7(T:aq n)(F:io n)(P:Pl n):2*(n.length+(ci n).length)=(ag n).length+4:=by
 obtain⟨e,h⟩|⟨Ls,d,c⟩:=P
 ·have:ends n=[]:=Bv.mp (by rw[fz,e];rfl);unfold ci;rw[BP this,h,e];rfl
 ·by_cases b:ends n=[]
  ·have f:(ag n).length=0:=by rw[<-fz,b];rfl
   have:Ls=[]:=by
    cases Ls with
    |nil=>rfl
    |cons l Ls=>
     obtain⟨a,i,_⟩:=d.hU l Ae;have:=d.sub Ae i;rw[b]at this;cases this
   subst this
   exfalso
   obtain⟨nm,rfl⟩|⟨j,h⟩:=F
   ·rw[f]at c;exact absurd (show 2=4 from c)<|(by decide)
   ·have k:=Cu.mpr j;have m:=h 0 k;have:((0,0):bc)∈ends n:=af.mpr (vV<|by show 0<(row n 0).length;exact Cu.mpr m);rw[b]at this;cases this
  ·rwa[<-lm.unique d<|Jv T b]
def A1(b:(ag m).Perm<|z :: z :: ag n)(T:aq n)(c:z∉ag n):aq m:=by
 intro y a;rw[b.count_eq,Dl,Dl]
 by_cases e:z=y
 ·subst e;rw[List.count_eq_zero.mpr c];simp
 ·have a:=b.mem_iff.mp a
  obtain h|a:=Ai.mp a
  ·exact absurd h.symm e
  ·obtain h|a:=Ai.mp a
   ·exact absurd h.symm e
   ·rw[T y a];have:(z == y)=false:=by simpa using e
    rw[this];rfl
theorem ub{nm:Str}(h:fw [(nm,[])] c):c=(0,0):=by
 obtain⟨b,a⟩:=h;have b:c.1<1:=b;have e:c.1=0:=(by omega)
 have a:=a;rw[e]at a;have a:c.2<1:=a;exact HJ e<|by show c.2=0;omega
def A2(F:io n):(∃nm,n=[(nm,[])])\/row n 0≠[]:=by
 obtain h|⟨a,b⟩:=F
 ·exact .inl h
 ·exact .inr<|b 0<|Cu.mpr a
def ES(T:aq n)(F:io n)(d:z∉ag n)(a:fw n c)(e:(ag<|ins n c z++[(pt,[z])]).Perm<|z :: z :: ag n)(P:Pl n):Pl (ins n c z++[(pt,[z])]):=by
 have b:=A1 e T d
 obtain⟨nm,rfl⟩|f:=A2 F
 ·have:=ub a;subst this;exact wo b
 ·exact Jp T b (F.cV f a) P
def GA(T:aq n)(F:io n)(e:z∉ag n)(a:fw n k1)(b:fw n k2)(f:(ag<|ins (ins n k1 z) k2 z).Perm<|z :: z :: ag n)(ord:k2=k1\/sh k1 k2=k2)(same:(∃k,(it (step n)) k k1=k2)\/∃k,(it (step n)) k k2=k1)(P:Pl n):Pl (ins (ins n k1 z) k2 z):=by
 have c:=A1 f T e
 obtain⟨nm,rfl⟩|d:=A2 F
 ·have:=ub a;subst this;have:=ub b;subst this;exact qx c
 ·exact qC T c (F.cV d a) (F.cV d b) ord same P
theorem q3x{a:bc}(h:bE.lexLt ((a.1:Int),(a.2:Int)) ((b.1:Int),(b.2:Int))=true):sh b a=a:=by
 unfold bE.lexLt at h;unfold sh;refine BL λq=>?_;rw[BP<|by rw[q.1]]at h;have:=BX h;omega
theorem tz{a:bc}(h:bE.lexLt ((a.1:Int),(a.2:Int)) ((b.1:Int),(b.2:Int))=false):b=a\/sh a b=b:=by
 unfold bE.lexLt at h
 by_cases e:(a.1:Int)=(b.1:Int)
 ·rw[BP e]at h;have h:=IW h
  by_cases c:a.2=b.2
  ·exact .inl<|HJ (by omega) c.symm
  ·refine .inr<|BL λq=>?_;omega
 ·exact .inr<|BL λq=>e<|by rw[q.1]
def S8(a b:bi):ag (a++b)=ag a++ag b:=by
 unfold ag;rw[Dp]
theorem qa{a b:bi}{x:Str}(d:j<n.length)(l:i<max 1 (row n j).length)(T0:aq b)(pt:(ag n++ag a).Perm<|ag b)
  (c:(ag (n.eraseIdx j)++ag (a++[(x,(row n j).drop i++(row n j).take i)])).Perm<|ag b) (P:Pl<|n++a):Pl (n.eraseIdx j++(a++[(x,(row n j).drop i++(row n j).take i)])):=by
 have e:∀m:bi,(ag m).Perm (ag b)->aq m:=λm p y h=>by rw[p.count_eq];exact T0 y<|p.mem_iff.mp h
 rw[<-S8]at pt c;have f:row (n++a) j=row n j:=pc d;have k:n.eraseIdx j++(a++[(x,(row n j).drop i++(row n j).take i)])=(n++a).eraseIdx j++[(x,(row (n++a) j).drop i++(row (n++a) j).take i)]:=by
  rw[MK d,Ar,f]
 rw[k]at c ⊢;exact p4 (by rw[Ag];omega) (by rwa[f]) (e _ pt) (e _ c) (by rw[c.length_eq,pt.length_eq]) P
end Nt
namespace Nt
variable{e c:bc}{n:bi}
def GD{a:List bc}(f:dz n e a)(h:c∈a):∃k,(it (step n)) k e=c:=by
 obtain⟨i,b,d⟩:=Ck.mp h;have:=f.at' i b;rw[Ab b,d]at this;exact⟨i,(Option.some.inj this).symm⟩
open PySem
def ao:List Bool->Bool
 |[]=>false
 |b :: l=>b ^^ ao l
theorem nN:∀a b,ao (a++b)=(ao a ^^ ao b)
 |[],b=>by simp[ao]
 |x :: a,b=>by
  show(x ^^ ao (a++b))=((x ^^ ao a) ^^ ao b);rw[nN a b,Bool.xor_assoc]
theorem S9{a b:List Bool}(h:a.Perm b):ao a=ao b:=by
 induction h with
 |nil=>rfl
 |cons x _ c=>show(x ^^ _)=(x ^^ _);rw[c]
 |swap x y l=>show(y ^^ (x ^^ ao l))=(x ^^ (y ^^ ao l));cases x<;>cases y<;>simp
 |trans _ _ d e=>exact d.trans e
theorem fK{α:Type}(f g:α->Bool):∀l:List α,ao (l.map λx=>f x ^^ g x)=(ao (l.map f) ^^ ao (l.map g))
 |[]=>rfl
 |x :: l=>by
  show((f x ^^ g x) ^^ ao (l.map λx=>f x ^^ g x))=((f x ^^ ao (l.map f)) ^^ (g x ^^ ao (l.map g)));rw[fK f g l];cases f x<;>cases g x<;>cases ao (l.map f)<;>cases ao (l.map g)<;>rfl
def cN(n:bi)(s:Str->Bool):Prop:=∀r,ao ((row n r).map s)=false
structure aY(n:bi)(s:Str->Bool)(χ:bc->Bool):Prop where
 go:∀e∈ends n,χ (step n e)=χ e
 dj:∀e z,aJ n e=some z->s z=(χ e ^^ χ ((other n e)))
def RS(n:bi):Prop:=∀s:Str->Bool,cN n s->∃a,aY n s a
theorem Ta(n:bi)(r:Nat)(s:Str->Bool)(g:bc->Bool)(h:∀p z,(row n r)[p]?=some z->s z=g (r,p)):(row n r).map s=(range (row n r).length).map λp=>g (r,p):=by
 apply Dy;intro p;rw[Ah,Ah]
 by_cases a:p<(row n r).length
 ·rw[Ab a,Dx a];exact BZ some<|h p _<|Ab a
 ·rw[Bg (by omega),Bg<|by simp;omega];rfl
theorem Jw(f:Nat->Bool)(m:Nat):ao ((range m).map λp=>f<|(p+1)%m)=ao ((range m).map f):=by
 cases m with
 |zero=>rfl
 |succ k=>
  have e:(range<|k+1).map (λp=>f<|(p+1)%(k+1))=((range k).map λp=>f<|p+1)++[f 0]:=by
   rw[Dk,Al]
   congr 1
   ·refine Ap λp a=>?_;have:=Bo.mp a;show f ((p+1)%(k+1))=f (p+1);rw[Bz<|(by omega)]
   ·simp
  rw[e,List.range_succ_eq_map,Ba,Bs,nN];show _=(f 0 ^^ ao ((range k).map<|f ∘ Nat.succ));show(ao ((range k).map λp=>f<|p+1) ^^ (f 0 ^^ false))=(f 0 ^^ ao ((range k).map λp=>f<|p+1));cases f 0<;>cases ao ((range k).map λp=>f<|p+1)<;>rfl
variable{χ:bc->Bool}{s:Str->Bool}
def aY.even(T:aq n)(h:aY n s χ):cN n s:=by
 intro r;rw[Ta n r s (λe=>χ e ^^ χ ((other n e))) λp z a=>h.dj (r,p) z a];rw[fK (λp=>χ (r,p)) λp=>χ<|other n (r,p)];have e:((range (row n r).length).map λp=>χ<|other n (r,p))=(range (row n r).length).map λp=>χ (r,(p+1)%(row n r).length):=by
  refine Ap λp b=>?_;have b:=Bo.mp b;obtain⟨z,a⟩:=vV (e:=(r,p)) b;obtain⟨c,d,_⟩:=dH T a;have:=h.go (other n (r,p))<|af.mpr ⟨z,c⟩;rw[<-this];show χ (left n (other n<|other n (r,p)))=_;rw[d];rfl
 rw[e,Jw λp=>χ (r,p)];cases ao ((range (row n r).length).map λp=>χ (r,p))<;>rfl
variable{ψ:bc->Bool}
def aY.xor{t:Str->Bool}(h:aY n s χ)(g:aY n t ψ):aY n (λz=>s z ^^ t z) (λe=>χ e ^^ ψ e):=by
 refine⟨λe a=>?_,λe z b=>?_⟩
 ·rw[h.go e a,g.go e a]
 ·show(s z ^^ t z)=((χ e ^^ ψ e) ^^ (χ ((other n e)) ^^ ψ ((other n e))));rw[h.dj e z b,g.dj e z b];cases χ e<;>cases ψ e<;>cases χ ((other n e))<;>cases ψ ((other n e))<;>rfl
def cN.xor{t:Str->Bool}(h:cN n s)(g:cN n t):cN n (λz=>s z ^^ t z):=λr=>by
 rw[fK s t,h r,g r];rfl
variable{z:Str}{k1 k2:bc}
section
variable{m:bi}{g:bc->bc}{e1 e2:bc}
def fb.mark(p:fb n m g e1 e2 z)(χ:bc->Bool)(a:Bool):∃b:bc->Bool,(∀e∈ends n,b (g e)=χ e)/\b e1=a/\b e2=a:=by
 refine⟨λx=>if x=e1 then a else if x=e2 then a else match (ends n).find? (λe=>decide (g e=x))with|some e=>χ e|none=>false,λe d=>?_,?_,?_⟩
 ·show(if g e=e1 then a else if g e=e2 then a else match (ends n).find? (λc=>decide (g c=g e))with|some e=>χ e|none=>false)=χ e;rw[BL<|p.n1 e d,BL<|p.n2 e d];cases h:(ends n).find? (λc=>decide (g c=g e)) with
  |none=>exact absurd (BW (rfl:g e=g e))<|by simpa using Fh.mp h e d
  |some c=>
   have f:=Hj h;have f:=BX f;rw[p.inj _ _ f]
 ·simp
 ·simp
def fb.kU(p:fb n m g e1 e2 z)(T:aq n)(o:aq m)(h:aY n s χ)(u:s z=false){a:Bool}
  (st:∀x∈ends n,step m (g x)=g (step n x)\/((step m (g x)=e1\/step m (g x)=e2)/\χ (step n x)=a))
  (w:step m e1=e1\/step m e1=e2\/∃k∈ends n,step m e1=g k/\χ k=a) (A:step m e2=e1\/step m e2=e2\/∃k∈ends n,step m e2=g k/\χ k=a):∃d,aY m s d:=by
 obtain⟨d,i,j,l⟩:=p.mark χ a;have v:∀x∈ends m,(∃e∈ends n,x=g e)\/x=e1\/x=e2:=λx r=>by
  have:=p.perm.mem_iff.mpr r
  obtain q|q:=Am.mp this
  ·obtain⟨e,b,rfl⟩:=Ak.mp q;exact .inl ⟨e,b,rfl⟩
  ·simp only[Ai,Cc,GQ]at q;exact .inr q
 refine⟨d,λx r=>?_,λx y c=>?_⟩
 ·obtain⟨e,b,rfl⟩|rfl|rfl:=v x r
  ·rw[i e b]
   obtain q|⟨q,f⟩:=st e b
   ·rw[q,i _<|mq T b,h.go e b]
   ·rw[h.go e b]at f
    obtain q|q:=q
    ·rw[q,j,f]
    ·rw[q,l,f]
  ·obtain q|q|⟨k,t,q,f⟩:=w
   ·rw[q]
   ·rw[q,j,l]
   ·rw[q,i k t,j,f]
  ·obtain q|q|⟨k,t,q,f⟩:=A
   ·rw[q,j,l]
   ·rw[q]
   ·rw[q,i k t,l,f]
 ·obtain⟨e,b,rfl⟩|rfl|rfl:=v x (af.mpr ⟨y,c⟩)
  ·rw[p.dj e b]at c;obtain⟨B,_,_⟩:=dH T c;rw[p.aI T o b,i e b,i _<|af.mpr ⟨y,B⟩];exact h.dj e y c
  ·rw[p.t1]at c;cases c;rw[p.o1 o,j,l,u];cases a<;>rfl
  ·rw[p.t2]at c;cases c;rw[p.o2 o,j,l,u];cases a<;>rfl
def Tc(d:aq m)(f:∀e∈ends m,ψ (step m e)=ψ e)(p:aJ m e1=some z)(r:other m e1=e2)(ne:ψ e1≠ψ e2)(k:∀s,cN m s->s z=false->∃χ,aY m s χ):RS m:=by
 intro s l
 by_cases b:s z=false
 ·exact k s l b
 ·have b:s z=true:=by cases h:s z with|true=>rfl|false=>exact absurd h b
  let t:Str->Bool:=λy=>match (ends m).find? (λe=>decide (aJ m e=some y))with|some e=>ψ e ^^ ψ (other m e)|none=>false
  have i:aY m t ψ:=by
   refine⟨f,λe y a=>?_⟩;show(match (ends m).find? (λe=>decide (aJ m e=some y))with|some e=>ψ e ^^ ψ (other m e)|none=>false)=_;cases n:(ends m).find? (λe=>decide (aJ m e=some y)) with
   |none=>exact absurd (BW a)<|by simpa using Fh.mp n e (af.mpr ⟨y,a⟩)
   |some c=>
    have u:=Hj n;have o:=BX u
    by_cases q:c=e
    ·rw[q]
    ·have v:=kS d o a q;have w:=kS d a o<|CK q;show(ψ c ^^ ψ (other m c))=_;rw[v,w];cases ψ e<;>cases ψ c<;>rfl
  have x:t z=true:=by
   rw[i.dj e1 z p,r];cases A:ψ e1<;>cases B:ψ e2<;>simp_all
  obtain⟨χ,j⟩:=k (λy=>s y ^^ t y) (l.xor<|i.even d) (by show(s z ^^ t z)=false;rw[b,x];rfl);have:=j.xor i;refine⟨λe=>χ e ^^ ψ e,this.go,λe y a=>?_⟩;rw[<-this.dj e y a];show s y=((s y ^^ t y) ^^ t y);cases s y<;>cases t y<;>rfl
def Jx(a:c.1<n.length)(b:s z=false)(r:Nat):ao ((row (ins n c z) r).map s)=ao ((row n r).map s):=by
 rw[tT n c z r a]
 by_cases h:c.1=r
 ·rw[BP h,Al,Ba,nN];show(ao (((row n r).take c.2).map s) ^^ (s z ^^ ao (((row n r).drop c.2).map s)))=_;rw[b,Fw,<-nN,<-Al,Cw]
 ·rw[BL h]
def lm.mark{α:Type}[DecidableEq α]{f:α->α}{D:List α}{Ls:List (List α)}(d:lm f D Ls){l:List α}(i:l∈Ls):∀x∈D,(f x∈l↔x∈l):=by
 intro x b;obtain⟨A,B,rfl⟩:=Fj i;have e:lm f D (l :: (A++B)):=⟨λk a=>d.hU k (by
  obtain rfl|a:=Ai.mp a
  ·exact i
  ·obtain q|q:=Am.mp a
   ·exact Bb _ q
   ·exact Au _<|Af _ q),by
  refine List.Perm.trans ?_ d.all;rw[Cr,Ge,Ge,Cr,<-Ar,<-Ar];exact(Cq).append_right _,d.nd⟩
 have j:∀k∈l :: (A++B),∀x∈k,f x∈k:=λk a x b=>by
  obtain⟨c,n,p⟩:=e.hU k a;exact t7 p n b
 by_cases h:x∈l
 ·exact⟨λ_=>h,λ_=>j l Ae x h⟩
 ·refine⟨λq=>?_,λq=>absurd q h⟩
  exfalso
  obtain⟨k,a,m⟩:=Dw.mp<|e.all.mem_iff.mpr b
  obtain rfl|o:=Ai.mp a
  ·exact h m
  ·exact e.apart.2 k o _ q<|j k a x m
theorem Jy{s:Str->Bool}{χ:bc->Bool}(T:aq n)(h:aY n s χ){a:bc}(b:a∈ends n):∀k,χ ((it (step n)) k a)=χ a
 |0=>rfl
 |k+1=>by
  show χ (step n<|(it (step n)) k a)=_;rw[h.go _<|je (λx c=>mq T c) b k,Jy T h b k]
def Ps(p:fb n m g e1 e2 z)(T:aq n)(h:aq m)(i:k1∈ends n)(j:k2∈ends n)(ne:k2≠k1)(same:(∃k,(it (step n)) k k1=k2)\/∃k,(it (step n)) k k2=k1)
  (J:left m e1=g k1) (L:left m e2=g k2) (lf:∀e∈ends n,left m (g e)=if left n e=k1 then e1 else if left n e=k2 then e2 else g (left n e))
  {Ls:List (List bc)} (d:lm (step n) (ends n) Ls) (y:∀s,cN m s->s z=false->cN n s) (R:RS n):RS m:=by
 have st:∀x∈ends n,step m (g x)=if step n x=k1 then e1 else if step n x=k2 then e2 else g (step n x):=λx c=>by
  unfold step;rw[p.aI T h c];exact lf _<|cR T c
 have r:step m e1=g k2:=by unfold step;rwa[p.o1 h]
 have t:step m e2=g k1:=by unfold step;rwa[p.o2 h]
 obtain⟨l,M,N,d⟩:=d.pick i;have A:=d.one j same ne;obtain⟨O,B,C,w,D,E,G⟩:=d.split A r t
  (λx c e=>by rw[st x c,BP e]) (λx c e=>by rw[st x c,BL (by rw[e];exact ne),BP e]) (λx c a b=>by rw[st x c,BL a,BL b]) p.nd
 have H:=C.perm p.perm;refine Tc h (ψ:=λx=>decide (x∈w)) (λx c=>decide_eq_decide.mpr<|H.mark D x c) p.t1 (p.o1 h) (by show decide (e1∈w)≠decide (e2∈w);rw[BR G,BW E];decide) λs I u=>?_;obtain⟨χ,f⟩:=R s<|y s I u;have v:χ k2=χ k1:=by
  obtain⟨k,e⟩|⟨k,e⟩:=same
  ·rw[<-e];exact Jy T f i k
  ·rw[<-e];exact(Jy T f j k).symm
 refine p.kU T h f u (a:=χ k1) (λx c=>?_) (.inr<|.inr ⟨k2,j,r,v⟩)<|.inr<|.inr ⟨k1,i,t,rfl⟩;rw[st x c]
 by_cases o:step n x=k1
 ·rw[BP o];exact .inr ⟨.inl rfl,by rw[o]⟩
 ·rw[BL o]
  by_cases q:step n x=k2
  ·rw[BP q];exact .inr ⟨.inr rfl,by rw[q,v]⟩
  ·rw[BL q];exact .inl rfl
def j5(p:fb n m g e1 e2 z)(T:aq n)(a:aq m)(j:c∈ends n)(t:left m e1=g c)(u:left m e2=e1)(lf:∀e∈ends n,left m (g e)=if left n e=c then e2 else g (left n e))
  (k:∀s,cN m s->s z=false->cN n s) (R:RS n):RS m:=by
 have st:∀x∈ends n,step m (g x)=if step n x=c then e2 else g (step n x):=λx b=>by
  unfold step;rw[p.aI T a b];exact lf _<|cR T b
 have d:step m e1=e1:=by unfold step;rwa[p.o1 a]
 have l:step m e2=g c:=by unfold step;rwa[p.o2 a]
 have o:=af.mpr ⟨z,p.t1⟩;refine Tc a (ψ:=λx=>decide (x=e1)) (λx b=>?_) p.t1 (p.o1 a) (by show decide (e1=e1)≠decide (e2=e1);rw[BW rfl,BR p.ne.symm];decide) λs r i=>?_
 ·by_cases q:x=e1
  ·rw[q,d]
  ·show decide (step m x=e1)=decide (x=e1);rw[BR q];exact BR λe=>q<|zJ a b o<|by rw[e,d]
 obtain⟨χ,f⟩:=R s<|k s r i;refine p.kU T a f i (λx b=>?_) (.inl d)<|.inr<|.inr ⟨c,j,l,rfl⟩;rw[st x b]
 by_cases h:step n x=c
 ·rw[BP h];exact .inr ⟨.inr rfl,by rw[h]⟩
 ·rw[BL h];exact .inl rfl
def EH(p:fb n m g e1 e2 z)(T:aq n)(a:aq m)(j:c∈ends n)(q:left m e1=g c)(r:left m e2=e2)(lf:∀e∈ends n,left m (g e)=if left n e=c then e1 else g (left n e))
  (b:∀s,cN m s->s z=false) (k:∀s,cN m s->s z=false->cN n s) (R:RS n):RS m:=by
 have st:∀x∈ends n,step m (g x)=if step n x=c then e1 else g (step n x):=λx d=>by
  unfold step;rw[p.aI T a d];exact lf _<|cR T d
 have l:step m e1=e2:=by unfold step;rwa[p.o1 a]
 have o:step m e2=g c:=by unfold step;rwa[p.o2 a]
 intro s i;have b:=b s i;obtain⟨χ,f⟩:=R s<|k s i b;refine p.kU T a f b (λx d=>?_) (.inr<|.inl l)<|.inr<|.inr ⟨c,j,o,rfl⟩;rw[st x d]
 by_cases h:step n x=c
 ·rw[BP h];exact .inr ⟨.inl rfl,by rw[h]⟩
 ·rw[BL h];exact .inl rfl
end
variable{pt:Str}
theorem QP(T:aq n)(u:aq<|ins (ins n k1 z) k2 z)(m:k1∈ends n)(v:k2∈ends n)(ord:k2=k1\/sh k1 k2=k2)(same:(∃k,(it (step n)) k k1=k2)\/∃k,(it (step n)) k k2=k1)(P:Pl n)(R:RS n):RS (ins (ins n k1 z) k2 z):=by
 have a:=fJ m;have o:=fJ v;have p:=SF (z:=z) ⟨a.1,Cy a.2⟩ ⟨o.1,Cy o.2⟩;have b:k2.1<(ins n k1 z).length:=by rw[iz];exact o.1
 have w:∀i,(row n i).length<=(row (ins n k1 z) i).length:=λi=>by
  rw[t9 a.1<|Cy a.2]
  split<;>omega
 have j:=Bq o.2<|w _;have A:=Bq a.2<|w _;have B:∀e∈ends n,(sh k1 e).2<(row (ins n k1 z) (sh k1 e).1).length:=λe f=>by
  obtain⟨y,C⟩:=af.mp f;exact gk (z:=y)<|by rwa[ua a.1<|Cy a.2]
 have D:left (ins n k1 z) k1=sh k1 k1:=o9 a.1 a.2;have E:∀s,cN (ins (ins n k1 z) k2 z) s->s z=false->cN n s:=λs l G r=>by
  rw[<-Jx a.1 G r,<-Jx b G r];exact l r
 by_cases e:k2=k1
 ·subst e;refine j5 p T u m ?_ (o9 b j) (λe f=>?_) E R
  ·rw[jo b j A,D,BL<|o8 _ _]
  ·show left _ (sh k2<|sh k2 e)=_;rw[jo b j<|B e f,jo a.1 a.2 (fJ f).2]
   by_cases q:left n e=k2
   ·rw[BP q,BP rfl,BP q]
   ·rw[BL q,BL<|o8 _ _,BL q]
 ·have l:sh k1 k2=k2:=ord.resolve_left e
  obtain⟨H,_⟩|⟨Ls,d,_⟩:=P
  ·obtain⟨y,C⟩:=af.mp m;have:=eV C;rw[H]at this;cases this
  refine Ps p T u m v e same ?_ ?_ (λh f=>?_) d E R
  ·rw[jo b j A,D,BL λq=>e<|o7 (c:=k1)<|by rw[l,q]]
  ·show left _ k2=sh k2 (sh k1 k2);rw[l];exact o9 b j
  ·show left _ (sh k2<|sh k1 h)=if left n h=k1 then sh k2 k1 else if left n h=k2 then k2 else sh k2 (sh k1<|left n h);rw[jo b j<|B h f,jo a.1 a.2 (fJ f).2]
   by_cases q:left n h=k1
   ·rw[BP q,BP q,BL λx=>e x.symm]
   ·rw[BL q,BL q]
    by_cases t:left n h=k2
    ·rw[BP t,t,l,BP rfl]
    ·rw[BL t,BL λx=>t<|o7 (c:=k1)<|by rw[x,l]]
theorem Sa(T:aq n)(l:aq<|ins n c z++[(pt,[z])])(j:c∈ends n)(R:RS n):RS (ins n c z++[(pt,[z])]):=by
 have b:=fJ j;have p:=SG (z:=z) (pt:=pt) ⟨b.1,Cy b.2⟩;have k:∀e:bc,e.1<n.length->left (ins n c z++[(pt,[z])]) e=left (ins n c z) e:=λe d=>by
  unfold left;rw[pc<|by rwa[iz]]
 have f:=AZ (a:=ins n c z) (x:=(pt,[z]));rw[iz]at f;refine EH p T l j ?_ ?_ (λe d=>?_) (λs i=>?_) (λs i m r=>?_) R
 ·rw[k _ b.1];exact o9 b.1 b.2
 ·unfold left;show(n.length,(0+1)%(row _ n.length).length)=_;rw[f];exact BZ (Prod.mk _)<|Ef 1
 ·rw[k _<|by rw[nK];exact(fJ d).1];exact jo b.1 b.2 (fJ d).2
 ·have:=i n.length;rw[f]at this;have:(s z ^^ false)=false:=this
  simpa using this
 ·by_cases h:r<n.length
  ·have:=i r;rwa[pc (by rwa[iz]),Jx b.1 m r]at this
  ·have:row n r=[]:=by
    unfold row;rw[Bg<|(by omega)];rfl
   rw[this];rfl
def rx{nm:Str}:RS [(nm,[])]:=λs _=>⟨λ_=>false,λe b=>rfl,λe y a=>by
 have:=eV a;cases this⟩
def iv{nm:Str}(c:aq [(nm,[z]),(pt,[z])]):RS [(nm,[z]),(pt,[z])]:=λs a=>⟨λ_=>false,λe d=>rfl,λe y b=>by
 have h:=eV b;have:y=z:=by simpa[ag]using h
 rw[this];have:=a 0;have:(s z ^^ false)=false:=this
 simpa using this⟩
def hH{nm:Str}(b:aq [(nm,[z,z])]):RS [(nm,[z,z])]:=λs _=>by
 have c:aJ [(nm,[z,z])] (0,0)=some z:=rfl;have d:aJ [(nm,[z,z])] (0,1)=some z:=rfl;have f:=kS b c d (by decide);have i:=kS b d c (by decide);have j:ends [(nm,[z,z])]=[(0,0),(0,1)]:=rfl;refine⟨λe=>decide (e=(0,0)) && s z,λe a=>?_,λe y k=>?_⟩
 ·rw[j]at a;simp only[Ai,Cc,GQ]at a
  obtain rfl|rfl:=a
  ·show(decide (left [(nm,[z,z])] (other [(nm,[z,z])] (0,0))=(0,0)) && s z)=_;rw[f];simp[left,row]
  ·show(decide (left [(nm,[z,z])] (other [(nm,[z,z])] (0,1))=(0,0)) && s z)=_;rw[i];simp[left,row]
 ·have h:=eV k;have l:y=z:=by simpa[ag]using h
  have a:=af.mpr ⟨y,k⟩;rw[j]at a;simp only[Ai,Cc,GQ]at a;rw[l]
  obtain rfl|rfl:=a
  ·rw[f];simp
  ·rw[i];simp
def Fl(n:bi):Prop:=Pl n/\RS n
def i7{nm:Str}:Fl [(nm,[])]:=⟨.inl ⟨rfl,rfl⟩,rx⟩
def hJ(T:aq n)(F:io n)(b:z∉ag n)(a:fw n c)(d:(ag<|ins n c z++[(pt,[z])]).Perm<|z :: z :: ag n)(P:Fl n):Fl (ins n c z++[(pt,[z])]):=by
 refine⟨ES T F b a d P.1,?_⟩;have e:=A1 d T b
 obtain⟨nm,rfl⟩|f:=A2 F
 ·have:=ub a;subst this;exact iv e
 ·exact Sa T e (F.cV f a) P.2
def jZ(T:aq n)(F:io n)(c:z∉ag n)(a:fw n k1)(b:fw n k2)(d:(ag<|ins (ins n k1 z) k2 z).Perm<|z :: z :: ag n)(ord:k2=k1\/sh k1 k2=k2)(same:(∃k,(it (step n)) k k1=k2)\/∃k,(it (step n)) k k2=k1)(P:Fl n):Fl (ins (ins n k1 z) k2 z):=by
 refine⟨GA T F c a b d ord same P.1,?_⟩;have e:=A1 d T c
 obtain⟨nm,rfl⟩|f:=A2 F
 ·have:=ub a;subst this;have:=ub b;subst this;exact hH e
 ·exact QP T e (F.cV f a) (F.cV f b) ord same P.1 P.2
def rk{m:bi}{g:bc->bc}(T:aq n)(z:aq m)(A:(ag m).length=(ag n).length)(r:∀e∈ends n,aJ m (g e)=aJ n e)(inj:∀a∈ends n,∀b∈ends n,g a=g b->a=b)
  (lf:∀e∈ends n,left m (g e)=g (left n e)) (B:∀s,cN m s->cN n s) (R:RS n):RS m:=by
 have v:∀x∈ends m,∃e∈ends n,x=g e:=by
  have nd:((ends n).map g).Nodup:=by
   have:∀(l:List bc),(∀x∈l,x∈ends n)->l.Nodup->(l.map g).Nodup:=by
    intro l
    induction l with
    |nil=>intro _ _;exact Cd
    |cons x l C=>
     intro j h;have h:=Bh.mp h;rw[Ba];refine Bh.mpr ⟨λf=>?_,C (λy d=>j y<|Af _ d) h.2⟩;obtain⟨y,d,e⟩:=Ak.mp f;have:=inj y (j y<|Af _ d) x (j x Ae) e;exact h.1<|this ▸ d
   exact this _ (λx f=>f)<|kc n
  have pm:((ends n).map g).Perm (ends m):=by
   refine nJ nd (λa D=>?_) (by rw[Aa,fz,fz,A];exact An _);obtain⟨x,f,rfl⟩:=Ak.mp D;obtain⟨y,d⟩:=af.mp f;exact af.mpr ⟨y,by rwa[r x f]⟩
  intro x f;obtain⟨e,c,q⟩:=Ak.mp<|pm.mem_iff.mpr f;exact⟨e,c,q.symm⟩
 intro s j;obtain⟨χ,k⟩:=R s<|B s j
 let o:bc->Bool:=λx=>match (ends n).find? (λe=>decide (g e=x))with|some e=>χ e|none=>false
 have i:∀e∈ends n,o (g e)=χ e:=λe c=>by
  show(match (ends n).find? (λp=>decide (g p=g e))with|some e=>χ e|none=>false)=χ e;cases t:(ends n).find? (λp=>decide (g p=g e)) with
  |none=>exact absurd (BW (rfl:g e=g e))<|by simpa using Fh.mp t e c
  |some p=>
   have u:=Hj t;have u:g p=g e:=BX u;rw[inj _ (List.mem_of_find?_eq_some t) _ c u]
 have aI:∀e∈ends n,other m (g e)=g ((other n e)):=λe c=>by
  obtain⟨y,d⟩:=af.mp c;obtain⟨i,_,E⟩:=dH T d;have w:(other n e)∈ends n:=af.mpr ⟨y,i⟩;exact kS z (by rwa[r e c]) (by rwa[r _ w]) λh=>E (inj _ c _ w h).symm
 refine⟨o,λx f=>?_,λx y d=>?_⟩
 ·obtain⟨e,c,rfl⟩:=v x f;have:step m (g e)=g (step n e):=by
   unfold step;rw[aI e c];exact lf _<|cR T c
  rw[this,i _<|mq T c,i e c,k.go e c]
 ·obtain⟨e,c,rfl⟩:=v x<|af.mpr ⟨y,d⟩;rw[r e c]at d;rw[aI e c,i e c,i _<|cR T c];exact k.dj e y d
variable{x:Str}{i:Nat}
theorem QU{a:bi}{j:Nat}(b:j<a.length)(c:i<max 1 (row a j).length)(T:aq a)(d:aq<|a.eraseIdx j++[(x,(row a j).drop i++(row a j).take i)])
  (f:(ag<|a.eraseIdx j++[(x,(row a j).drop i++(row a j).take i)]).length=(ag a).length) (R:RS a):RS (a.eraseIdx j++[(x,(row a j).drop i++(row a j).take i)]):=by
 obtain⟨g,h,k,l⟩:=SL b c;refine rk T d f h k l (λs m r=>?_) R
 by_cases n:r<a.length
 ·have:=m (if r<j then r else if r=j then a.length-1 else r-1);rw[SK b r n]at this
  by_cases e:r=j
  ·rw[BP e]at this;rw[<-this,e];refine S9<|List.Perm.map s ?_;show(row a j).Perm ((row a j).drop i++(row a j).take i);refine List.Perm.trans ?_ Cq;rw[Cw]
  ·rwa[BL e]at this
 ·have:row a r=[]:=by
   unfold row;rw[Bg<|(by omega)];rfl
  rw[this];rfl
theorem I0{a c:bi}{j:Nat}(d:j<n.length)(h:i<max 1 (row n j).length)(T0:aq c)(pt:(ag n++ag a).Perm<|ag c)
  (b:(ag (n.eraseIdx j)++ag (a++[(x,(row n j).drop i++(row n j).take i)])).Perm<|ag c) (P:Fl<|n++a):Fl (n.eraseIdx j++(a++[(x,(row n j).drop i++(row n j).take i)])):=by
 refine⟨qa d h T0 pt b P.1,?_⟩;have e:∀m:bi,(ag m).Perm (ag c)->aq m:=λm p y k=>by rw[p.count_eq];exact T0 y<|p.mem_iff.mp k
 rw[<-S8]at pt b;have f:row (n++a) j=row n j:=pc d;have l:n.eraseIdx j++(a++[(x,(row n j).drop i++(row n j).take i)])=(n++a).eraseIdx j++[(x,(row (n++a) j).drop i++(row (n++a) j).take i)]:=by
  rw[MK d,Ar,f]
 rw[l]at b ⊢;exact QU (by rw[Ag];omega) (by rwa[f]) (e _ pt) (e _ b) (by rw[b.length_eq,pt.length_eq]) P.2
open L2
def aC(n:bi)(r:Nat):Str:=((n[r]?).map (·.1)).getD ⟨#[]⟩
variable{r:Nat}
def gn(h:r<n.length):aC n r=n[r].1:=by unfold aC;rw[Ab h];rfl
abbrev Lk:=Str×Str×Str
def pj(n:bi)(x:Lk):Prop:=∃a b,pos n x.1=[a,b]/\x.2.1=aC n a.1/\x.2.2=aC n b.1
structure jq(n:bi)(done:List<|Str×bc)(kM:List<|Key×V)(ls:List Lk):Prop where
 m0:∀z,bT done z=[]->aF kM (Sum.inr z)=none
 m1:∀z a rest,bT done z=a :: rest->aF kM (Sum.inr z)=some (.str<|aC n a.1)
 mem:∀x:Lk,x∈ls↔∃a b rest,bT done x.1=a :: b :: rest/\x.2.1=aC n a.1/\x.2.2=aC n b.1
 fM:(ls.map (·.1)).Nodup
 eQ:kM.length<=done.length
 nO:ls.length<=done.length
def jq.start(n:bi):jq n [] [] []:=⟨λ_ _=>rfl,λz a c h=>(by cases h),λx=>⟨λh=>(by cases h),λ⟨a,b,c,h,_⟩=>(by cases h)⟩,Cd,An _,An _⟩
variable{ls:List Lk}{kM:List (Key×V)}{done:List (Str×bc)}
theorem jq.new(I:jq n done kM ls)(f:bT done z=[]):jq n (done++[(z,e)]) (putK kM (Sum.inr z)<|.str<|aC n e.1) ls:=by
 refine⟨λy d=>?_,λy a c d=>?_,λx=>?_,I.fM,?_,?_⟩
 ·rw[dI]at d;obtain⟨j,i⟩:=Fk.mp d;have k:¬ z=y:=λq=>by rw[BP q]at i;cases i
  rw[d8,BL λq=>k (Sum.inr.inj q).symm];exact I.m0 y j
 ·rw[dI]at d
  by_cases q:z=y
  ·subst q;rw[f,BP rfl]at d;cases d;rw[d8,BP rfl]
  ·rw[BL q,Bp]at d;rw[d8,BL λp=>q (Sum.inr.inj p).symm];exact I.m1 y a c d
 ·rw[I.mem x]
  by_cases q:z=x.1
  ·constructor
   ·rintro ⟨a,b,c,h,_⟩;rw[<-q,f]at h;cases h
   ·rintro ⟨a,b,c,h,_⟩;rw[dI,<-q,f,BP rfl]at h;cases h
  ·constructor
   ·rintro ⟨a,b,c,h,r⟩;exact⟨a,b,c,by rwa[dI,BL q,Bp],r⟩
   ·rintro ⟨a,b,c,h,r⟩;rw[dI,BL q,Bp]at h;exact⟨a,b,c,h,r⟩
 ·have:=jD kM (Sum.inr z)<|.str<|aC n e.1;have:=I.eQ;rw[Ag,Dc];omega
 ·have:=I.nO;rw[Ag,Dc];omega
theorem jq.old(I:jq n done kM ls){a:bc}(i:bT done z=[a]):jq n (done++[(z,e)]) kM (ls++[(z,aC n a.1,aC n e.1)]):=by
 have j:bT (done++[(z,e)]) z=[a,e]:=by rw[dI,i,BP rfl];rfl
 have k:z∉ls.map (·.1):=λh=>by
  obtain⟨x,s,l⟩:=Ak.mp h;obtain⟨b,c,d,p,_⟩:=(I.mem x).mp s;have l:=l;rw[l,i]at p;cases p
 refine⟨λy f=>?_,λy b d f=>?_,λx=>?_,?_,?_,?_⟩
 ·rw[dI]at f;exact I.m0 y (Fk.mp f).1
 ·by_cases q:z=y
  ·subst q;rw[j]at f;cases f;exact I.m1 z a [] i
  ·rw[dI,BL q,Bp]at f;exact I.m1 y b d f
 ·rw[Am,Ad,I.mem x]
  by_cases q:z=x.1
  ·constructor
   ·rintro (⟨b,c,d,h,_⟩|h)
    ·rw[<-q,i]at h;cases h
    ·subst h;exact⟨a,e,[],j,rfl,rfl⟩
   ·rintro ⟨b,c,d,h,m,o⟩;rw[<-q,j]at h;cases h;obtain⟨t,u,v⟩:=x;have q:=q;have m:=m;have o:=o;subst q m o;exact .inr rfl
  ·constructor
   ·rintro (⟨b,c,d,h,r⟩|h)
    ·exact⟨b,c,d,by rwa[dI,BL q,Bp],r⟩
    ·subst h;exact absurd rfl q
   ·rintro ⟨b,c,d,h,r⟩;rw[dI,BL q,Bp]at h;exact .inl ⟨b,c,d,h,r⟩
 ·rw[Al];exact oK I.fM k
 ·have:=I.eQ;rw[Ag,Dc];omega
 ·have:=I.nO;rw[Ag,Ag];show _+1<=_+1;omega
theorem jq.whole(T:aq n)(I:jq n (bn n) kM ls)(x:Lk):x∈ls↔pj n x:=by
 rw[I.mem x]
 constructor
 ·rintro ⟨a,b,c,h,r⟩;have d:pos n x.1=a :: b :: c:=h;have f:=aK.mp (by rw[d];exact Ae ..);have e:=qI n x.1;rw[d,T x.1<|eV f]at e;have:c=[]:=by
   have:c.length+1+1=2:=e;exact Bv.mp<|(by omega)
  rw[this]at d;exact⟨a,b,d,r⟩
 ·rintro ⟨a,b,h,r⟩;exact⟨a,b,[],h,r⟩
inductive Way(ls:List<|Str×Str×Bool)(f:Str):Str->Bool->Prop where
 |here:Way ls f f false
 |there {x y:Str} {b o:Bool}:Way ls f x b->(x,y,o)∈ls->Way ls f y (b != o)
 |back {x y:Str} {b o:Bool}:Way ls f x b->(y,x,o)∈ls->Way ls f y (b != o)
def cC(n:bi)(ss:Ð):Bool:=n.all λr=>(r.2.filter λz=>ss.contains z).length%2 == 0
def kd(T:aq n){x:bc}(h:aJ n e=some z):aJ n x=some z↔x=e\/x=(other n e):=by
 obtain⟨k,p,l⟩:=dH T h;refine⟨λj=>?_,λj=>?_⟩
 ·obtain⟨a,b,o,q,c⟩:=qJ T h;have f:=aK.mpr j;have i:=aK.mpr k;rw[o]at f i;simp only[Ai,Cc,GQ]at f i
  obtain c|c:=c
  ·obtain m|m:=f
   ·exact .inl<|m.trans c.symm
   ·obtain d|d:=i
    ·exact absurd (d.trans c.symm) l
    ·exact .inr<|m.trans d.symm
  ·obtain m|m:=f
   ·obtain d|d:=i
    ·exact .inr<|m.trans d.symm
    ·exact absurd (d.trans c.symm) l
   ·exact .inl<|m.trans c.symm
 ·obtain rfl|rfl:=j
  ·exact h
  ·exact k
abbrev Bl:=Str×Str×Bool
def EN(ls:List Bl)(x y:Str)(o:Bool):Prop:=(x,y,o)∈ls\/(y,x,o)∈ls
def Jz{κ:Type}[DecidableEq κ](Y:List<|κ×V)(k:κ)(v:V):(putK Y k v).map (·.1)=if k∈Y.map (·.1)then Y.map (·.1)else Y.map (·.1)++[k]:=by
 have e:(Y.any λc=>decide (c.1=k))=decide (k∈Y.map (·.1)):=by
  rw[Cf,List.any_eq_true,CN,Ak];exact⟨λ⟨p,a,b⟩=>⟨p,a,BX b⟩,λ⟨p,a,b⟩=>⟨p,a,BW b⟩⟩
 unfold putK;rw[e]
 by_cases h:k∈Y.map (·.1)
 ·rw[BP<|BW h,BP h,Bs];refine Ap λp _=>?_;show(if p.1=k then(p.1,v)else p).1=p.1
  split<;>rfl
 ·rw[BL (by simpa using h),BL h,Al];rfl
open PyProof.Rows (sortedS)
def db(n:bi):Prop:=∀P:Str->Prop,(∃r∈n,P r.1)->(∀r∈n,∀s∈n,∀t,t∈r.2->t∈s.2->P r.1->P s.1)->∀r∈n,P r.1
def Te{m:bi}(d:∀r∈n,∃s∈m,s.1=r.1/\∀t∈r.2,t∈s.2)(e:∀s∈m,∃r∈n,r.1=s.1)(h:db n):db m:=by
 rintro P ⟨s,f,H⟩ i j k;obtain⟨r,l,o⟩:=e s f;obtain⟨p,q,c⟩:=e j k;rw[<-c];refine h P ⟨r,l,by rwa[o]⟩ (λa u b v t w x I=>?_) p q;obtain⟨y,z,A,B⟩:=d a u;obtain⟨C,D,E,G⟩:=d b v;rw[<-E];exact i y z C D t (B t w) (G t x)<|by rwa[A]
def mz(r:Str×List Str):db [r]:=by
 rintro P ⟨s,a,c⟩ _ x b;rw[Ad]at a b;rwa[b,<-a]
def JA(n:bi)(c:bc)(z:Str)(i:Nat):(ins n c z)[i]?=(n[i]?).map λr=>if c.1=i then(r.1,r.2.take c.2++z :: r.2.drop c.2)else r:=by
 unfold ins;rw[Fu]
 by_cases h:c.1=i
 ·simp[h]
 ·simp[h]
def JE(h:db n):db (ins n c z):=by
 refine Te (λr b=>?_) (λs f=>?_) h
 ·obtain⟨i,a⟩:=Be b;have e:=JA n c z i;rw[a]at e;refine⟨_,Ao e,?_,λt d=>?_⟩
  ·split<;>rfl
  ·split
   ·show t∈r.2.take c.2++z :: r.2.drop c.2;rw[<-Cw c.2 r.2]at d
    obtain q|q:=Am.mp d
    ·exact Bb _ q
    ·exact Au _<|Af _ q
   ·exact d
 ·obtain⟨i,a⟩:=Be f;rw[JA,Az]at a;obtain⟨r,b,e⟩:=a;refine⟨r,Ao b,?_⟩;rw[<-e]
  split<;>rfl
def q76(a:c.1<n.length):∃r∈ins n c z,z∈r.2:=by
 have e:=JA n c z c.1;rw[Ab a]at e;refine⟨_,Ao e,?_⟩;show z∈(if c.1=c.1 then((n[c.1].1,n[c.1].2.take c.2++z :: n[c.1].2.drop c.2):Str×List Str)else n[c.1]).2;rw[BP rfl];exact Au _<|Ae ..
def Nd(h:db n)(k:∃r∈n,z∈r.2):db (n++[(pt,[z])]):=by
 obtain⟨r,c,f⟩:=k;rintro P ⟨s,l,i⟩ e x m;have j:((pt,[z]):Str×List Str)∈n++[(pt,[z])]:=Au _<|Ad.mpr rfl;have d:∀{y},y∈n->y∈n++[(pt,[z])]:=λo=>Bb _ o;have all:∀y∈n,P y.1:=by
  refine h P ?_ λa p b u t v w A=>e a (d p) b (d u) t v w A
  obtain q|q:=Am.mp l
  ·exact⟨s,q,i⟩
  ·rw[Ad]at q;subst q;exact⟨r,c,e _ j r (d c) z (Ad.mpr rfl) f i⟩
 obtain q|q:=Am.mp m
 ·exact all x q
 ·rw[Ad]at q;subst q;exact e r (d c) _ j z f (Ad.mpr rfl)<|all r c
def b8(zs:Ð):Prop:=zs.Pairwise λa b=>a.cps.toList<b.cps.toList
theorem wD:∀{zs},sortedS zs=true->zs.Nodup->b8 zs
 |[],_,_=>List.Pairwise.nil
 |z :: r,h,a=>by
  rw[Bh]at a;refine List.Pairwise.cons (λx b=>?_)<|wD (bP.ft h) a.2;have c:=bP.eF r z h x b
  obtain q|q:=Hf.mp c
  ·exact q
  ·exact absurd b<|by rw[<-bP.gj q];exact a.1
variable{zs:Ð}
def gq(h:b8 zs):zs.Nodup:=h.imp λq e=>by rw[e]at q;exact Gv _ q
theorem JI:∀{a b},b8 a->b8 b->(∀x,x∈a↔x∈b)->a=b
 |[],[],_,_,_=>rfl
 |[],y :: b,_,_,h=>by have:=(h y).mpr<|Ae ..;cases this
 |x :: a,[],_,_,h=>by have:=(h x).mp<|Ae ..;cases this
 |x :: a,y :: b,c,d,h=>by
  unfold b8 at c d;rw[Ct]at c d;have i:x=y:=by
   obtain e|e:=Ai.mp ((h x).mp<|Ae ..)
   ·exact e
   ·obtain j|j:=Ai.mp ((h y).mpr<|Ae ..)
    ·exact j.symm
    ·exact absurd (Hc (c.1 y j)<|d.1 x e)<|Gv _
  subst i;have k:∀(l:Ð),(∀z∈l,x.cps.toList<z.cps.toList)->x∉l:=λl m n=>Gv _<|m x n;have:a=b:=JI c.2 d.2 λz=>by
   constructor
   ·intro f
    obtain e|e:=Ai.mp ((h z).mp<|Af _ f)
    ·exact absurd (e ▸ f)<|k a c.1
    ·exact e
   ·intro f
    obtain e|e:=Ai.mp ((h z).mpr<|Af _ f)
    ·exact absurd (e ▸ f)<|k b d.1
    ·exact e
  rw[this]
def dA(n:bi)(ps:Ð)(z:Str):Prop:=∃e,aJ n e=some z/\aC n e.1∈ps/\aC n ((other n e)).1∉ps
variable{ps:Ð}
def pq(h:dA n ps z):z∈ag n:=by
 obtain⟨e,a,_⟩:=h;exact eV a
def jQ(T:aq n)(c:aJ n e=some z):dA n ps z↔(decide (aC n e.1∈ps) != decide (aC n ((other n e)).1∈ps))=true:=by
 have o:=dH T c
 constructor
 ·rintro ⟨x,d,b,a⟩
  obtain q|q:=(kd T c).mp d
  ·subst q;simp[b,a]
  ·subst q;rw[o.2.1]at a;simp[b,a]
 ·intro h
  by_cases b:aC n e.1∈ps
  ·by_cases a:aC n ((other n e)).1∈ps
   ·simp[b,a]at h
   ·exact⟨e,c,b,a⟩
  ·by_cases a:aC n ((other n e)).1∈ps
   ·exact⟨(other n e),o.1,a,by rwa[o.2.1]⟩
   ·simp[b,a]at h
def su(T:aq n){x:Lk}(h:pj n x):∃e,aJ n e=some x.1/\x.2.1=aC n e.1/\x.2.2=aC n ((other n e)).1:=by
 obtain⟨a,b,c,i,j⟩:=h;have f:=aK.mp (by rw[c];exact Ae ..);have k:aJ n b=some x.1:=aK.mp (by rw[c];simp);have d:=Rk n x.1;rw[c]at d;have l:b≠a:=λq=>by rw[q]at d;simp at d
 obtain q|q:=(kd T f).mp k
 ·exact absurd q l
 ·exact⟨a,f,i,by rw[j,q]⟩
def LJ(T:aq n)(h:aJ n e=some z):pj n (z,aC n e.1,aC n ((other n e)).1)\/pj n (z,aC n ((other n e)).1,aC n e.1):=by
 obtain⟨a,b,c,d,f⟩:=qJ T h;have i:=aK.mp (by rw[c];exact Ae ..);have j:aJ n b=some z:=aK.mp<|by rw[c];simp
 obtain q|q:=f
 ·subst q;refine .inl ⟨e,b,c,rfl,?_⟩
  obtain q|q:=(kd T h).mp j
  ·exact absurd q.symm d
  ·show aC n ((other n e)).1=aC n b.1;rw[q]
 ·subst q;refine .inr ⟨a,e,c,?_,rfl⟩
  obtain q|q:=(kd T h).mp i
  ·exact absurd q d
  ·show aC n ((other n e)).1=aC n a.1;rw[q]
def A4(T:aq n){x:Lk}(h:pj n x):dA n ps x.1↔(decide (x.2.1∈ps) != decide (x.2.2∈ps))=true:=by
 obtain⟨e,a,b,c⟩:=su T h;rw[b,c];exact jQ T a
def bV(n:bi):Str:=aC n 0
structure aN(n:bi)(ss sd:Ð):Prop where
 gL:b8 sd
 mem:∀x∈sd,x∈n.map (·.1)
 fst:bV n∉sd
 cut:∀z,z∈ss↔dA n sd z
structure wS(n:bi)(ss:Ð)(ls:List Bl):Prop where
 to:∀e z,aJ n e=some z->EN ls (aC n e.1) (aC n ((other n e)).1) (decide (z∈ss))
 Tg:∀l∈ls,∃e z,aJ n e=some z/\l=(aC n e.1,aC n ((other n e)).1,decide (z∈ss))
variable{b:Bool}{ss:Ð}
theorem Ti(T:aq n){a:Ð}{ls:List Bl}(t:wS n ss ls)(i:∀z,z∈ss↔dA n a z){f:Str}(w:Way ls f x b):decide (x∈a)=(decide (f∈a) != b):=by
 have step:∀{x y:Str}{o:Bool},(x,y,o)∈ls->o=(decide (x∈a) != decide (y∈a)):=λ{x y o}h=>by
  obtain⟨e,z,j,c⟩:=t.Tg _ h;have k:x=aC n e.1:=BZ (·.1) c;have l:y=aC n ((other n e)).1:=BZ (·.2.1) c;have m:o=decide (z∈ss):=BZ (·.2.2) c;rw[k,l,m,Cf,CN,i z];exact jQ T j
 induction w with
 |here=>simp
 | @there x y b o w h d=>
  rw[step h,d];cases decide (f∈a)<;>cases b<;>cases decide (y∈a)<;>rfl
 | @back x y b o w h d=>
  rw[step h,d];cases decide (f∈a)<;>cases b<;>cases decide (y∈a)<;>rfl
def Tj(T:aq n){a:Ð}{ls:List Bl}(t:wS n ss ls)(h:aN n ss a)(w:Way ls (bV n) x b):decide (x∈a)=b:=by
 rw[Ti T t h.cut w,BR h.fst];simp
def jr(h:i<n.length):aC n i∈n.map (·.1):=by
 rw[gn h];exact Ak.mpr ⟨_,Bt h,rfl⟩
noncomputable def dB(n:bi)(ss:Ð):List Bl:=(ends n).map λe=>(aC n e.1,aC n ((other n e)).1,decide ((aJ n e).getD ⟨#[]⟩∈ss))
def uc:wS n ss (dB n ss):=by
 refine⟨λe z h=> .inl (Ak.mpr ⟨e,af.mpr ⟨z,h⟩,by rw[h];rfl⟩),λl b=>?_⟩;obtain⟨e,c,q⟩:=Ak.mp b;obtain⟨z,a⟩:=af.mp c;exact⟨e,z,a,by rw[<-q,a];rfl⟩
def vH(T:aq n){a:Ð}{ls:List Bl}(t:wS n ss ls)(f:b8 a)(h:∀x∈a,x∈n.map (·.1))(c:∀z,z∈ss↔dA n a z)(w:Way ls (bV n) (bV n) b)(i:bV n∈a↔b=true):aN n ss a:=by
 refine⟨f,h,λd=>?_,c⟩;have e:=Ti T t c w;rw[i.mp d,BW d]at e;cases e
def pv(T:aq n)(h:aJ n e=some z):((other n e)).1<n.length:=cB (dH T h).1
def k71(T:aq n){b:Ð}(h:∀x∈n.map (·.1),x∈b↔x∉ps)(z:Str):dA n ps z↔dA n b z:=by
 have k:∀{e:bc},aJ n e=some z->(dA n ps z↔dA n b z):=λ{e}a=>by
  rw[jQ T a,jQ T a];have d:=h _<|jr<|cB a;have f:=h _<|jr<|pv T a
  by_cases i:aC n e.1∈ps<;>by_cases j:aC n ((other n e)).1∈ps<;>simp[d,f,i,j]
 constructor
 ·intro c;obtain⟨e,a,_⟩:=c;exact(k a).mp ⟨e,a,by assumption⟩
 ·intro c;obtain⟨e,a,_⟩:=c;exact(k a).mpr ⟨e,a,by assumption⟩
open PyProof.Rows (sortedS)
abbrev dC(Y:List<|Key×V)(r:Nat)(b:Bool):Prop:=aF Y (Sum.inl (r:Int))=some (.bl b)
structure dk(n:bi)(ss:Ð)(hr:Option<|Nat×Nat)(Y:List<|Key×V)(lf:List Nat):Prop where
 fM:(Y.map (·.1)).Nodup
 num:∀k∈Y.map (·.1),∃r:Nat,k=Sum.inl (r:Int)/\r<n.length
 val:∀(r:Nat)v,aF Y (Sum.inl (r:Int))=some v->∃b,v=.bl b/\Way (dB n ss) (bV n) (aC n r) b
 fst:∃b,dC Y 0 b
 wF:∀r∈lf,∃b,dC Y r b
 A5:∀x p,hr=some (x,p)->∃b,dC Y x b
 cls:∀r b,dC Y r b->r∈lf\/(∃p,hr=some (r,p))\/∀p z,aJ n (r,p)=some z->dC Y (other n (r,p)).1 (b != decide (z∈ss))
 JO:∀x p,hr=some (x,p)->∀b,dC Y x b->∀p',p'<p->∀z,aJ n (x,p')=some z->dC Y (other n (x,p')).1 (b != decide (z∈ss))
variable{Y:List (Key×V)}
theorem Tl{k:Key}(a:aF Y k=none):k∉Y.map (·.1):=by
 induction Y with
 |nil=>intro h;cases h
 |cons c r d=>
  intro h
  by_cases b:c.1=k
  ·rw[iJ b]at a;cases a
  ·rw[iw b]at a
   obtain q|q:=Ai.mp h
   ·exact b q.symm
   ·exact d a q
theorem q4c{k:Key}{v:V}(a:aF Y k=some v):k∈Y.map (·.1):=by
 refine CQ λb=>?_
 induction Y with
 |nil=>cases a
 |cons c r d=>
  rw[Ba,Ai]at b;rw[iw λq=>b<|.inl q.symm]at a;exact d a λq=>b<|.inr q
variable{lf:List Nat}{hr:Option (Nat×Nat)}
theorem dk.lt(I:dk n ss hr Y lf)(h:dC Y r b):r<n.length:=by
 obtain⟨a,e,c⟩:=I.num _<|q4c h;have:=Sum.inl.inj e;omega
def dk.len(I:dk n ss hr Y lf):Y.length<=n.length:=by
 have:=aU I.fM λk a=>by
  obtain⟨r,e,h⟩:=I.num k a;exact Ak.mpr ⟨r,Bo.mpr h,e.symm⟩
 rwa[Aa,Aa,Dq]at this
theorem To{a b:Nat}(h:a≠b):¬(Sum.inl (a:Int):Key)=Sum.inl (b:Int):=λq=>h<|by have:=Sum.inl.inj q;omega
theorem dk.start(e:0<n.length):dk n ss none (putK [] (Sum.inl 0)<|.bl false) [0]:=by
 have a:∀r:Nat,aF (putK ([]:List<|Key×V) (Sum.inl 0)<|.bl false) (Sum.inl (r:Int))=if r=0 then some (.bl false)else none:=λr=>by
  rw[d8]
  by_cases h:r=0
  ·subst h;rfl
  ·rw[BL h,BL λq=>h<|by have:=Sum.inl.inj q;omega];rfl
 have d:dC (putK ([]:List<|Key×V) (Sum.inl 0)<|.bl false) 0 false:=by
  show aF _ _=_;rw[a,BP rfl]
 refine⟨by show([Sum.inl 0]:List Key).Nodup;simp,λk f=>⟨0,by simpa[putK]using f,e⟩,λr v h=>?_,⟨false,d⟩,λr hr=>⟨false,by rwa[Ad.mp hr]⟩,λx p h=>(by cases h),λr b h=>?_,λx p h=>(by cases h)⟩
 ·rw[a]at h
  by_cases c:r=0
  ·rw[BP c]at h;cases h;subst c;exact⟨false,rfl,.here⟩
  ·rw[BL c]at h;cases h
 ·have h:aF _ _=_:=h;rw[a]at h
  by_cases c:r=0
  ·exact .inl<|Ad.mpr c
  ·rw[BL c]at h;cases h
variable{h:Nat}
def dk.pop(I:dk n ss none Y<|lf++[h]):dk n ss (some (h,0)) Y lf:=by
 refine⟨I.fM,I.num,I.val,I.fst,λr hr=>I.wF r<|Bb _ hr,λx p e=>?_,λr b a=>?_,λx p e b a f d=>?_⟩
 ·cases e;exact I.wF h<|Au _<|Ad.mpr rfl
 ·obtain c|c|c:=I.cls r b a
  ·obtain c|c:=Am.mp c
   ·exact .inl c
   ·exact .inr<|.inl ⟨0,by rw[Ad.mp c]⟩
  ·obtain⟨p,e⟩:=c;cases e
  ·exact .inr<|.inr c
 ·cases e;exact absurd d<|Dj _
variable{p:Nat}
def dk.close(I:dk n ss (some (h,p)) Y lf)(i:(row n h).length<=p):dk n ss none Y lf:=by
 refine⟨I.fM,I.num,I.val,I.fst,I.wF,λx p e=>(by cases e),λr b a=>?_,λx p e=>(by cases e)⟩
 obtain c|c|c:=I.cls r b a
 ·exact .inl c
 ·obtain⟨d,e⟩:=c;cases e;exact .inr<|.inr λd z f=>I.JO h p rfl b a d (Bq (gk f) i) z f
 ·exact .inr<|.inr c
theorem dk.step(I:dk n ss (some (h,p)) Y lf)(j:aJ n (h,p)=some z)(i:dC Y h b)(l:dC Y (other n (h,p)).1<|b != decide (z∈ss)):dk n ss (some (h,p+1)) Y lf:=by
 refine⟨I.fM,I.num,I.val,I.fst,I.wF,λx q e=>?_,λr c a=>?_,λx q e c a d m y f=>?_⟩
 ·cases e;exact⟨b,i⟩
 ·obtain k|k|k:=I.cls r c a
  ·exact .inl k
  ·obtain⟨q,e⟩:=k;cases e;exact .inr<|.inl ⟨_,rfl⟩
  ·exact .inr<|.inr k
 ·cases e
  by_cases k:d<p
  ·exact I.JO h p rfl c a d k y f
  ·have:d=p:=(by omega)
   subst this;rw[j]at f;cases f;have a:aF _ _=_:=a;rw[i]at a;cases a;exact l
def dk.way(I:dk n ss hr Y lf)(a:aJ n (r,p)=some z)(c:dC Y r b):Way (dB n ss) (bV n) (aC n (other n (r,p)).1) (b != decide (z∈ss)):=by
 obtain⟨d,e,w⟩:=I.val r _ c;cases e
 obtain t|t:=(uc).to (r,p) z a
 ·exact .there w t
 ·exact .back w t
def dk.new(T:aq n)(I:dk n ss (some (h,p)) Y lf)(i:aJ n (h,p)=some z)(s:dC Y h b)(j:aF Y (Sum.inl ((other n (h,p)).1:Int))=none):
  dk n ss (some (h,p+1)) (putK Y (Sum.inl ((other n (h,p)).1:Int))<|.bl<|b != decide (z∈ss)) (lf++[(other n (h,p)).1]):=by
 have w:=I.way i s;have B:=pv T i;have l:=Tl j;have t:dC (putK Y (Sum.inl ((other n (h,p)).1:Int))<|.bl<|b != decide (z∈ss)) (other n (h,p)).1 (b != decide (z∈ss)):=by
  show aF _ _=_;rw[d8,BP rfl]
 have up:∀{r:Nat}{c:Bool},dC Y r c->dC (putK Y (Sum.inl ((other n (h,p)).1:Int))<|.bl<|b != decide (z∈ss)) r c:=λ{r c}a=>by
  show aF _ _=_;rw[d8,BL λq=>?_]
  ·exact a
  ·have a:aF _ _=_:=a;rw[q,j]at a;cases a
 have u:∀{r:Nat}{c:Bool},dC (putK Y (Sum.inl ((other n (h,p)).1:Int))<|.bl<|b != decide (z∈ss)) r c->r=(other n (h,p)).1\/dC Y r c:=λ{r c}a=>by
  have a:aF _ _=_:=a;rw[d8]at a
  by_cases q:r=(other n (h,p)).1
  ·exact .inl q
  ·rw[BL<|To q]at a;exact .inr a
 have C:dk n ss (some (h,p)) (putK Y (Sum.inl ((other n (h,p)).1:Int))<|.bl<|b != decide (z∈ss)) (lf++[(other n (h,p)).1]):=by
  refine⟨?_,λk d=>?_,λr v f=>?_,?_,λr hr=>?_,λx q e=>?_,λr c a=>?_,λx q e c a m D y o=>?_⟩
  ·rw[Jz,BL l];exact oK I.fM l
  ·rw[Jz,BL l]at d
   obtain d|d:=Am.mp d
   ·exact I.num k d
   ·exact⟨_,Ad.mp d,B⟩
  ·rw[d8]at f
   by_cases q:r=(other n (h,p)).1
   ·rw[BP<|by rw[q]]at f;cases f;exact⟨_,rfl,by rwa[q]⟩
   ·rw[BL<|To q]at f;exact I.val r v f
  ·obtain⟨c,a⟩:=I.fst;exact⟨c,up a⟩
  ·obtain hr|hr:=Am.mp hr
   ·obtain⟨c,a⟩:=I.wF r hr;exact⟨c,up a⟩
   ·rw[Ad.mp hr];exact⟨_,t⟩
  ·obtain⟨c,a⟩:=I.A5 x q e;exact⟨c,up a⟩
  ·obtain q|a:=u a
   ·exact .inl<|Au _<|by rw[q];exact Ad.mpr rfl
   ·obtain k|k|k:=I.cls r c a
    ·exact .inl<|Bb _ k
    ·exact .inr<|.inl k
    ·exact .inr<|.inr λm y o=>up<|k m y o
  ·obtain E|a:=u a
   ·obtain⟨G,A⟩:=I.A5 x q e;rw[E]at A;have:aF _ _=_:=A;rw[j]at this;cases this
   ·exact up<|I.JO x q e c a m D y o
 exact C.step i (up s) t
def dk.bad(T:aq n)(I:dk n ss hr Y lf){c:Bool}(f:aJ n (r,p)=some z)(h:dC Y r b)(i:dC Y (other n (r,p)).1 c)(j:c≠(b != decide (z∈ss))):∀a,¬ aN n ss a:=λa d=>by
 obtain⟨m,e,w⟩:=I.val _ _ i;cases e;have k:=Tj T uc d w;have l:=Tj T uc d<|I.way f h;exact j<|by rw[<-k,l]
def ud(c:(n.map (·.1)).Nodup){j:Nat}(a:i<n.length)(b:j<n.length)(h:aC n i=aC n j):i=j:=by
 rw[gn a,gn b]at h;have:=(By.mp c);rw[Bc]at this
 obtain q|q|q:=Em i j
 ·exact absurd (by rwa[Ed,Ed])<|this i j (by simpa using a) (by simpa using b) q
 ·exact q
 ·exact absurd (by rw[Ed,Ed];exact h.symm)<|this j i (by simpa using b) (by simpa using a) q
def dk.whole(T:aq n)(H:db n)(u:0<n.length)(v:(n.map (·.1)).Nodup){l:Ð}(I:dk n ss none Y [])(J:∀z∈ss,z∈ag n)(y:b8 l)(C:∀x,x∈l↔∃r:Nat,dC Y r true/\x=aC n r):aN n ss l:=by
 have ok:∀r b,dC Y r b->∀p z,aJ n (r,p)=some z->dC Y (other n (r,p)).1 (b != decide (z∈ss)):=λr b d=>by
  obtain c|c|c:=I.cls r b d
  ·cases c
  ·obtain⟨p,e⟩:=c;cases e
  ·exact c
 have all:∀r,r<n.length->∃b,dC Y r b:=λr hr=>by
  have:=H (λx=>∃i,i<n.length/\aC n i=x/\∃b,dC Y i b) ⟨n[0],Bt u,0,u,gn u,I.fst⟩ (λr hr s y t L M⟨i,o,e,b,d⟩=>?_) n[r]<|Bt hr
  ·obtain⟨i,o,e,d⟩:=this;rw[<-gn hr]at e;rwa[<-ud v o hr e]
  ·obtain⟨k,D,rfl⟩:=Ck.mp hr;obtain⟨j,A,rfl⟩:=Ck.mp y;rw[<-gn D]at e;have:=ud v o D e;subst this;obtain⟨p,E⟩:=Be L;obtain⟨q,U⟩:=Be M;have G:aJ n (i,p)=some t:=by show(row n i)[p]?=_;rwa[jm o]
   have N:aJ n (j,q)=some t:=by show(row n j)[q]?=_;rwa[jm A]
   refine⟨j,A,gn A,?_⟩
   obtain e|e:=(kd T G).mp N
   ·have:j=i:=BZ (·.1) e;subst this;exact⟨b,d⟩
   ·have:=ok i b d p t G;rw[<-e]at this;exact⟨_,this⟩
 have B:∀r b,dC Y r b->decide (aC n r∈l)=b:=λr b d=>by
  rw[Cf,CN,C]
  constructor
  ·rintro ⟨r',m,e⟩;have:=ud v (I.lt d) (I.lt m) e;subst this;have m:aF _ _=_:=m;rw[d]at m;cases m;rfl
  ·rintro rfl;exact⟨r,d,rfl⟩
 have O:∀z,z∈ss↔dA n l z:=λz=>by
  have k:∀{e:bc},aJ n e=some z->(z∈ss↔dA n l z):=λ{e}f=>by
   obtain⟨i,p⟩:=e;obtain⟨b,d⟩:=all i<|cB f;rw[jQ T f,B i b d,B _ _<|ok i b d p z f]
   by_cases h:z∈ss<;>cases b<;>simp[h]
  constructor
  ·intro h;obtain⟨e,f⟩:∃e,e∈pos n z:=by
    cases E:pos n z with
    |nil=>exact absurd E<|cI.mp<|J z h
    |cons a r=>exact⟨a,Ae ..⟩
   exact(k<|aK.mp f).mp h
  ·intro h;obtain⟨e,f,_⟩:=id h;exact(k f).mpr h
 obtain⟨b,d⟩:=I.fst;obtain⟨b',e,w⟩:=I.val 0 _ d;cases e;refine vH T uc y (λx Q=>?_) O w ?_
 ·obtain⟨r,hr,e⟩:=(C x).mp Q;rw[e];exact jr<|I.lt hr
 ·have:=B 0 b d;rw[<-this,CN];rfl
open PyProof.Rows (sortedS)
theorem Tq(a b c:Ð)(h:∀z,z∈c↔(if z∈a then z∉b else z∈b)):∀zs:Ð,(zs.filter λz=>c.contains z).length%2=((zs.filter λz=>a.contains z).length+(zs.filter λz=>b.contains z).length)%2
 |[]=>rfl
 |z :: r=>by
  have k:=Tq a b c h r;have j:=h z;have d:=λl=>(Bm (as:=l) (a:=z));simp only[Do]
  by_cases e:z∈a<;>by_cases i:z∈b
  ·have f:z∉c:=λq=>by have:=j.mp q;rw[BP e]at this;exact this i
   rw[BP<|(d a).mpr e,BP<|(d b).mpr i,BL λq=>f<|(d c).mp q,As,As];omega
  ·have f:z∈c:=j.mpr (by rwa[BP e]);rw[BP<|(d a).mpr e,BL λq=>i<|(d b).mp q,BP<|(d c).mpr f,As,As];omega
  ·have f:z∈c:=j.mpr (by rwa[BL e]);rw[BL λq=>e<|(d a).mp q,BP<|(d b).mpr i,BP<|(d c).mpr f,As,As];omega
  ·have f:z∉c:=λq=>by have:=j.mp q;rw[BL e]at this;exact i this
   rwa[BL λq=>e<|(d a).mp q,BL λq=>i<|(d b).mp q,BL λq=>f<|(d c).mp q]
def cJ:cC n ss=true↔∀r∈n,(r.2.filter λz=>ss.contains z).length%2=0:=by
 unfold cC;rw[Ej];exact⟨λh r hr=>by simpa using h r hr,λh r hr=>by simpa using h r hr⟩
theorem A0{a b c:Ð}(d:cC n a=true)(e:cC n b=true)(h:∀z,z∈c↔(if z∈a then z∉b else z∈b)):cC n c=true:=by
 rw[cJ]at d e ⊢;intro r hr;have f:=d r hr;have i:=e r hr;rw[Tq a b c h];omega
theorem Tr(k:Nat)(z:Str):∀b p,(bT (bF k b p) z).length=b.count z
 |[],p=>rfl
 |t :: r,p=>by
  have a:=Tr k z r<|p+1;have e:bF k (t :: r) p=(t,(k,p)):: bF k r (p+1):=by unfold bF;rfl
  rw[e];unfold bT at a ⊢;rw[Do,Dl]
  by_cases h:t=z
  ·rw[BP<|BW h,Ba,As,a,BP<|(by simpa using h)]
  ·rw[BL λq=>h<|BX q,a,BL<|(by simpa using h)];rfl
def yh(a b:List<|Str×bc)(z:Str):bT (a++b) z=bT a z++bT b z:=by
 unfold bT;rw[Cv,Al]
variable{ts:Ð}
def Ts{k:Nat}(h:e∈bT (bF k ts p) z):e.1=k:=by
 unfold bT at h;obtain⟨x,a,rfl⟩:=Ak.mp h;obtain⟨y,e⟩:=x;exact(bf.mp (Bf.mp a).1).1
theorem Tv(ps:Ð)(f:Nat->Str)(z:Str):∀m k,(∀i r,m[i]?=some r->f (k+i)=r.1)->((bT (fv k m) z).filter λe=>decide (f e.1∈ps)).length=(ag<|m.filter λr=>decide (r.1∈ps)).count z
 |[],k,_=>rfl
 |r :: m,k,h=>by
  have c:=Tv ps f z m (k+1) λi s d=>by
   have:=h (i+1) s (by simpa using d);rw[<-this]
   congr 1
   omega
  have e:fv k (r :: m)=bF k r.2 0++fv (k+1) m:=rfl;have b:f k=r.1:=h 0 r rfl;rw[e,yh,Cv,Ag,c,Do]
  by_cases hr:r.1∈ps
  ·rw[BP<|BW hr];have:ag (r :: m.filter λr=>decide (r.1∈ps))=r.2++ag (m.filter λr=>decide (r.1∈ps)):=by unfold ag;rfl
   rw[this,Ez,List.filter_eq_self.mpr (λe a=>by rw[Ts a,b];exact BW hr),Tr]
  ·rw[BL λq=>hr<|BX q];have:(bT (bF k r.2 0) z).filter (λe=>decide (f e.1∈ps))=[]:=Gw.mpr λe a q=>by
    rw[Ts a,b]at q;exact hr<|BX q
   rw[this];simp
def Tw(T:aq n)(ps:Ð)(z:Str):dA n ps z↔(ag<|n.filter λr=>decide (r.1∈ps)).count z%2=1:=by
 have e:=Tv ps (aC n) z n 0 λi r h=>by
  rw[Ex];unfold aC;rw[h];rfl
 rw[<-e];show dA n ps z↔((pos n z).filter λe=>decide (aC n e.1∈ps)).length%2=1
 by_cases c:z∈ag n
 ·obtain⟨a,d⟩:∃a,a∈pos n z:=by
   cases b:pos n z with
   |nil=>exact absurd b<|cI.mp c
   |cons a r=>exact⟨a,Ae ..⟩
  obtain⟨x,y,b,l,m⟩:=qJ T<|aK.mp d;have f:pj n (z,aC n x.1,aC n y.1):=⟨x,y,b,rfl,rfl⟩;rw[show dA n ps z↔_ from A4 T f,b]
  by_cases j:aC n x.1∈ps<;>by_cases k:aC n y.1∈ps<;>simp[j,k]
 ·have b:=CQ λh=>c<|cI.mpr h;rw[b];exact⟨λh=>absurd (pq h) c,λh=>by cases h⟩
theorem JS{a:Ð}(c:a.Nodup):∀l:Ð,(l.filter λz=>a.contains z).length=(a.map λz=>l.count z).sum
 |[]=>by
  have:∀a:Ð,(a.map λz=>([]:Ð).count z).sum=0:=λa=>by
   induction a with
   |nil=>rfl
   |cons x r b=>rw[Ba,Gj,b];rfl
  rw[this];rfl
 |y :: l=>by
  have b:=JS c l;have ff:∀a:Ð,(a.map λz=>(y :: l).count z).sum=(a.map λz=>l.count z).sum+a.count y:=λa=>by
   induction a with
   |nil=>rfl
   |cons x r b=>
    rw[Ba,Gj,b,Ba,Gj,Dl,Dl]
    by_cases h:y=x
    ·rw[BP (by simp[h]),BP<|by simp[h]];omega
    ·rw[BL (by simpa using h),BL<|by simpa using λq=>h<|RN q];omega
  rw[ff,Do,<-b,c.count]
  by_cases h:y∈a
  ·rw[BP<|Bm.mpr h,BP h,As]
  ·rw[BL λq=>h<|Bm.mp q,BL h];rfl
theorem Tx{a:Ð}:∀m:bi,(∀r∈m,(r.2.filter λz=>a.contains z).length%2=0)->((ag m).filter λz=>a.contains z).length%2=0
 |[],_=>rfl
 |r :: m,h=>by
  have c:=Tx m λs b=>h s<|Af _ b;have d:=h r<|Ae ..;have:ag (r :: m)=r.2++ag m:=by unfold ag;rfl
  rw[this,Cv,Ag];omega
theorem Tz(b:Ð)(g:Str->Nat)(h:∀z,z∈b↔g z%2=1):∀a:Ð,(a.filter λz=>b.contains z).length%2=(a.map g).sum%2
 |[]=>rfl
 |z :: r=>by
  have d:=Tz b g h r;rw[Do,Ba,Gj]
  by_cases c:z∈b
  ·rw[BP<|Bm.mpr c,As];have:=(h z).mp c;omega
  ·rw[BL λq=>c<|Bm.mp q];have:¬ g z%2=1:=λq=>c<|(h z).mpr q;omega
variable{cs:Ð}
def AN(T:aq n){a:Ð}(b:cC n a=true)(c:a.Nodup)(d:∀z,z∈cs↔dA n ps z):(a.filter λz=>cs.contains z).length%2=0:=by
 rw[Tz cs (λz=>(ag<|n.filter λr=>decide (r.1∈ps)).count z) (λz=>(d z).trans<|Tw T ps z) a,<-JS c];exact Tx _ λr hr=>cJ.mp b r (Bf.mp hr).1
def mn{a b:Ð}(c:a.Nodup)(d:b.Nodup):(a.filter λz=>b.contains z).length=(b.filter λz=>a.contains z).length:=by
 refine((Fr (c.filter _)<|d.filter _).mpr λz=>?_).length_eq;rw[Bf,Bf,Bm,Bm];exact⟨λh=>⟨h.2,h.1⟩,λh=>⟨h.2,h.1⟩⟩
theorem A6(T:aq n)(b:ss.Nodup)(c:∀z∈ss,z∈ag n):2*ss.length<=(ag n).length:=by
 have h:=JS b<|ag n;have e:∀l:Ð,(∀z∈l,z∈ag n)->(l.map λz=>(ag n).count z).sum=2*l.length:=λl=>by
  induction l with
  |nil=>intro _;rfl
  |cons x r d=>
   intro a;rw[Ba,Gj,d λz f=>a z<|Af _ f,T x<|a x<|Ae ..,As];omega
 rw[e ss c]at h;rw[<-h];exact Dz _ _
structure kY(n:bi)(cs:Ð):Prop where
 gL:b8 cs
 cut:∃ps,∀z,z∈cs↔dA n ps z
def pS(T:aq n){a b c:Ð}(u:kY n a)(v:kY n b)(w:b8 c)(h:∀z,z∈c↔(if z∈a then z∉b else z∈b)):kY n c:=by
 obtain⟨i,p⟩:=u.cut;obtain⟨j,s⟩:=v.cut;have t:∀x,x∈n.map (·.1)->(decide (x∈(n.map (·.1)).filter λx=>decide (x∈i) != decide (x∈j))=(decide (x∈i) != decide (x∈j))):=λx y=>by
  rw[Cf,CN,Bf];exact⟨λq=>q.2,λq=>⟨y,q⟩⟩
 refine⟨w,(n.map (·.1)).filter λx=>decide (x∈i) != decide (x∈j),λz=>?_⟩;rw[h z]
 by_cases o:z∈ag n
 ·obtain⟨e,m⟩:∃e,e∈pos n z:=by
   cases A:pos n z with
   |nil=>exact absurd A<|cI.mp o
   |cons a r=>exact⟨a,Ae ..⟩
  have m:=aK.mp m;rw[jQ T m,t _<|jr<|cB m,t _<|jr<|pv T m];have d:=(p z).trans<|jQ T m;have f:=(s z).trans<|jQ T m
  by_cases k:z∈a<;>by_cases l:z∈b
  ·have d:=d.mp k;have f:=f.mp l;rw[BP k];refine⟨λq=>absurd l q,λq=>?_⟩
   revert d f q
   cases decide (aC n e.1∈i)<;>cases decide (aC n e.1∈j)<;>cases decide (aC n ((other n e)).1∈i)<;>cases decide (aC n ((other n e)).1∈j)<;>simp
  ·have d:=d.mp k;have f:=λq=>l<|f.mpr q;rw[BP k];refine⟨λ_=>?_,λ_=>l⟩
   revert d f
   cases decide (aC n e.1∈i)<;>cases decide (aC n e.1∈j)<;>cases decide (aC n ((other n e)).1∈i)<;>cases decide (aC n ((other n e)).1∈j)<;>simp
  ·have d:=λq=>k<|d.mpr q;have f:=f.mp l;rw[BL k];refine⟨λ_=>?_,λ_=>l⟩
   revert d f
   cases decide (aC n e.1∈i)<;>cases decide (aC n e.1∈j)<;>cases decide (aC n ((other n e)).1∈i)<;>cases decide (aC n ((other n e)).1∈j)<;>simp
  ·have d:=λq=>k<|d.mpr q;have f:=λq=>l<|f.mpr q;rw[BL k];refine⟨λq=>absurd q l,λq=>?_⟩
   revert d f q
   cases decide (aC n e.1∈i)<;>cases decide (aC n e.1∈j)<;>cases decide (aC n ((other n e)).1∈i)<;>cases decide (aC n ((other n e)).1∈j)<;>simp
 ·have B:=λq=>o<|pq<|(p z).mp q;have C:=λq=>o<|pq<|(s z).mp q;rw[BL B];exact⟨λq=>absurd q C,λq=>absurd (pq q) o⟩
def DD{y:Str}(h:x≠y):x.cps.toList<y.cps.toList\/y.cps.toList<x.cps.toList:=by
 by_cases q:x.cps.toList<y.cps.toList
 ·exact .inl q
 ·obtain q|q:=Hf.mp (List.not_lt.mp q)
  ·exact .inr q
  ·exact absurd (bP.gj q).symm h
theorem TB(x:Str):∀c:Ð,b8 c->∃b,b8 b/\∀y,y∈b↔y=x\/y∈c
 |[],_=>⟨[x],Gp _ _,λy=>by simp⟩
 |z :: r,h=>by
  have h:=Ct.mp h
  by_cases e:x=z
  ·subst e;exact⟨x :: r,Ct.mpr h,λy=>by simp⟩
  ·obtain q|q:=DD e
   ·refine⟨x :: z :: r,Ct.mpr ⟨λy a=>?_,Ct.mpr h⟩,λy=>Ai⟩
    obtain rfl|a:=Ai.mp a
    ·exact q
    ·exact Hc q<|h.1 y a
   ·obtain⟨b,f,d⟩:=TB x r h.2;refine⟨z :: b,Ct.mpr ⟨λy a=>?_,f⟩,λy=>?_⟩
    ·obtain rfl|a:=(d y).mp a
     ·exact q
     ·exact h.1 y a
    ·rw[Ai,d y,Ai];exact⟨λk=>by obtain k|k|k:=k<;>simp[k],λk=>by obtain k|k|k:=k<;>simp[k]⟩
theorem ke:∀l:Ð,∃a,b8 a/\∀x,x∈a↔x∈l
 |[]=>⟨[],List.Pairwise.nil,λ_=>UW⟩
 |x :: r=>by
  obtain⟨a,b,c⟩:=ke r;obtain⟨d,e,f⟩:=TB x a b;exact⟨d,e,λy=>by rw[f y,c y,Ai]⟩
def JU(T:aq n)(t:0<n.length)(h:kY n cs):∃b,aN n cs b:=by
 obtain⟨ps,i⟩:=h.cut
 by_cases j:bV n∈ps
 ·obtain⟨b,f,a⟩:=ke ((n.map (·.1)).filter λx=>!decide (x∈ps));have a:∀x,x∈b↔x∈n.map (·.1)/\x∉ps:=λx=>by
   rw[a x,Bf,LQ,GZ]
  refine⟨b,f,λx d=>((a x).mp d).1,λq=>((a _).mp q).2 j,λz=>(i z).trans<|k71 T (λx d=>?_) z⟩;rw[a x];exact⟨λq=>q.2,λq=>⟨d,q⟩⟩
 ·obtain⟨b,f,a⟩:=ke ((n.map (·.1)).filter λx=>decide (x∈ps));have a:∀x,x∈b↔x∈n.map (·.1)/\x∈ps:=λx=>by
   rw[a x,Bf,CN]
  refine⟨b,f,λx d=>((a x).mp d).1,λq=>j ((a _).mp q).2,λz=>(i z).trans ?_⟩;have k:∀{e:bc},aJ n e=some z->(dA n ps z↔dA n b z):=λ{e}c=>by
   rw[jQ T c,jQ T c];have l:=a<|aC n e.1;have m:=a<|aC n ((other n e)).1;have o:=jr<|cB c;have p:=jr<|pv T c;have r:decide (aC n e.1∈b)=decide (aC n e.1∈ps):=by rw[Cf,CN,CN,l];exact⟨λq=>q.2,λq=>⟨o,q⟩⟩
   have s:decide (aC n ((other n e)).1∈b)=decide (aC n ((other n e)).1∈ps):=by rw[Cf,CN,CN,m];exact⟨λq=>q.2,λq=>⟨p,q⟩⟩
   rw[r,s]
  constructor
  ·intro q;obtain⟨e,c,_⟩:=id q;exact(k c).mp q
  ·intro q;obtain⟨e,c,_⟩:=id q;exact(k c).mpr q
def HF(n:bi):Prop:=db n/\Fl n
def bZ{nm:Str}:HF [(nm,[])]:=⟨mz _,i7⟩
def ID(T:aq n)(F:io n)(b:z∉ag n)(a:fw n c)(d:(ag<|ins n c z++[(pt,[z])]).Perm<|z :: z :: ag n)(P:HF n):HF (ins n c z++[(pt,[z])]):=
 ⟨Nd (JE P.1)<|q76 a.1,hJ T F b a d P.2⟩
def mu(T:aq n)(F:io n)(a:z∉ag n)(b:fw n k1)(c:fw n k2)(d:(ag<|ins (ins n k1 z) k2 z).Perm<|z :: z :: ag n)(ord:k2=k1\/sh k1 k2=k2)(same:(∃k,(it (step n)) k k1=k2)\/∃k,(it (step n)) k k2=k1)(P:HF n):HF (ins (ins n k1 z) k2 z):=
 ⟨JE<|JE P.1,jZ T F a b c d ord same P.2⟩
def rO{b d:bi}{j:Nat}(c:j<n.length)(e:i<max 1 (row n j).length)(T0:aq d)(pt:(ag n++ag b).Perm<|ag d)
  (f:(ag (n.eraseIdx j)++ag (b++[(n[j].1,(row n j).drop i++(row n j).take i)])).Perm<|ag d) (P:HF<|n++b):HF (n.eraseIdx j++(b++[(n[j].1,(row n j).drop i++(row n j).take i)])):=by
 refine⟨Te (λr hr=>?_) (λx a=>?_) P.1,I0 c e T0 pt f P.2⟩
 ·obtain a|a:=Am.mp hr
  ·obtain q|q:=(bP.bW n j c).symm.mem_iff.mp a |> Ai.mp
   ·refine⟨(n[j].1,(row n j).drop i++(row n j).take i),Au _<|Au _<|Ad.mpr rfl,by rw[q],λt k=>?_⟩;refine(Jd (row n j) i).mem_iff.mpr ?_;rwa[jm c,<-q]
   ·exact⟨r,Bb _ q,rfl,λt h=>h⟩
  ·exact⟨r,Au _<|Bb _ a,rfl,λt h=>h⟩
 ·obtain a|a:=Am.mp a
  ·exact⟨x,Bb _<|Fb a,rfl⟩
  ·obtain a|a:=Am.mp a
   ·exact⟨x,Au _ a,rfl⟩
   ·rw[Ad]at a;exact⟨n[j],Bb _<|Bt c,by rw[a]⟩
theorem rm(s:Str->Bool):∀l:Ð,ao (l.map s)=decide ((l.filter s).length%2=1)
 |[]=>rfl
 |x :: l=>by
  show(s x ^^ ao (l.map s))=_;rw[rm s l,Do];cases h:s x
  ·rw[BL (by decide),Fw]
  ·rw[BP rfl,As,Bool.true_xor,<-decide_not];exact decide_eq_decide.mpr<|(by omega)
theorem qD(h:cC n ss=true):cN n (λz=>ss.contains z):=λr=>by
 rw[rm]
 by_cases hr:r<n.length
 ·have:=cJ.mp h n[r]<|Bt hr;rw[jm hr];exact BR<|(by omega)
 ·have:row n r=[]:=by
   unfold row;rw[Bg<|(by omega)];rfl
  rw[this];rfl
theorem JY(h:cN n s)(a:∀z∈ag n,ss.contains z=s z):cC n ss=true:=cJ.mpr λr hr=>by
 obtain⟨i,b,rfl⟩:=Ck.mp hr;have:=h i;rw[rm,jm b]at this;have e:=List.filter_congr λz c=>a z<|Gb.mpr ⟨n[i],hr,c⟩;rw[e];have:=IW this;omega
theorem gM{α:Type}:∀l:List α,ao (l.map λ_=>false)=false
 |[]=>rfl
 |_ :: l=>by show(false ^^ ao _)=false;rw[gM l];rfl
theorem J0(x:Nat)(e:bc):∀m,ao ((range m).map λp=>decide ((x,p)=e))=decide (x=e.1/\e.2<m)
 |0=>by simp[ao]
 |m+1=>by
  rw[Dk,Al,nN,J0 x e m];show(decide (x=e.1/\e.2<m) ^^ (decide ((x,m)=e) ^^ false))=_;rw[Fx];obtain⟨a,b⟩:=e
  by_cases h:x=a
  ·by_cases c:b=m
   ·subst h;subst c;simp
   ·have d:((x,m)=(a,b))=False:=by simp[h];omega
    rw[BR (p:=(x,m)=(a,b)) (by rw[d];exact id),Fx];exact decide_eq_decide.mpr ⟨λq=>⟨q.1,by have:=q.2;omega⟩,λq=>⟨q.1,by have:=q.2;show b<m;omega⟩⟩
  ·rw[BR λq=>h q.1,BR λq=>h<|BZ Prod.fst q,BR λq=>h q.1];rfl
def J1(T:aq n){t:Str}(h:aJ n e=some t)(x:Nat):ao ((row n x).map λy=>decide (y=t))=(decide (x=e.1) ^^ decide (x=((other n e)).1)):=by
 have o:=dH T h;rw[Ta n x (λy=>decide (y=t)) (λa=>decide (a=e) ^^ decide (a=(other n e))) λp z b=>?_]
 ·rw[fK (λp=>decide ((x,p)=e)) λp=>decide ((x,p)=(other n e)),J0,J0];have f:=gk h;have i:=gk o.1
  congr 1
  ·exact decide_eq_decide.mpr ⟨λq=>q.1,λq=>⟨q,by rwa[q]⟩⟩
  ·exact decide_eq_decide.mpr ⟨λq=>q.1,λq=>⟨q,by rwa[q]⟩⟩
 ·have b:aJ n (x,p)=some z:=b
  by_cases q:z=t
  ·subst q
   obtain k|k:=(kd T h).mp b
   ·rw[k,BW rfl,BW rfl,BR<|CK o.2.2];rfl
   ·rw[k,BW rfl,BW rfl,BR o.2.2];rfl
  ·have c:((x,p):bc)≠e:=λk=>by rw[k,h]at b;exact q (Option.some.inj b).symm
   have d:((x,p):bc)≠(other n e):=λk=>by rw[k,o.1]at b;exact q (Option.some.inj b).symm
   rw[BR q,BR c,BR d];rfl
end Nt
namespace E9
open PySem L2 Nt bE
def J2:Sp:=λh H Q _=>∃R as n b z e,h=[.ref R,.int b,.str z,.str e]/\ai H R as n/\aq n/\io n/\z∉ag n/\n.length<=100/\(ag n).length<=100 /\
 ∀i f c d,ai d R f c->qU H d (R :: as.map (·.2))->(∀a∈f,a∈as\/H a.2=none)->(ag c).Perm (z :: z :: ag n)->(c.map (·.1)=n.map (·.1)\/c.map (·.1)=n.map (·.1)++[e])->io c->(HF n->HF c)->Q (.int i) d
variable{Z:Heap}{mg:Ñ}{K:aa}{w:World}{P:Program}{ts:(List Addr)}{fd:FuncData}{f d:Addr}{xs:List V}{H H':Hp}{i:Nat}
abbrev NP:Ð:=["_law_rows","_law_big_here","_law_tie","_law_point","_law_corners","_law_r","_law_place","_law_one","_law_kind","_law_face_here","_law_other_here","_law_spot"]
def pA:ak NP ["_law_rows","_law_big_here","_law_tie","_law_point"] (aW qP):=cm
def TC{j:Nat}{t:Addr}(h:ts[j]?=some t):fj ((ts.map V.ref)) (j:Int)=some (.ref t):=tq<|by rw[Ah,h];rfl
theorem Sd(F:bB K "_law_put" "_law_put" qP f fd)(T:Txt mg)
  (GS:(aP P w K mg Z) 3 "_law_seats" ["_law_rows"] tR)
  (GF:(aP P w K mg Z) 3 "_law_face" ["_law_rows","_law_seats_here","_law_end"] IU):
  (aE P w K mg Z bK) 4 f fd ["_law_rows","_law_big_here","_law_tie","_law_point"] J2:=by
 refine F.gc pA λb0 H vs Q E hr h=>?_;obtain⟨R,as,n,b,z,pt,rfl,hR,hT,hF,hz,hn,ä,q⟩:=h;have nd:=pA.nd;have hu:=hr.iL;have cq:=hR.len;refine aZ 4 nd<|di<|ax ⟨Z0,λL TD=>?_⟩;have g0:=aS TD<|.lst [];refine m8 T.range (cM eU T.len DY<|ah<|ae 0<|ax ⟨R,_,rfl,.inl<|au.of<|g0 _ _ hR.lst,_,rfl,(by omega),by rw[Aa];omega,?_⟩);rw[Aa,cq,Bk];refine m9 (λr σ H3=>∃ts s u1 u2,aj H H3/\H3 L=some (.lst<|(ts.map V.ref))/\Pd H3 ts s/\(∀c∈s,fw n c)/\(0<r->s≠[])/\s.length<=101*r/\σ=[(some (.ref R)),some<|.int b,some<|.str z,some<|.str pt,(some (.ref L)),u1,u2,none,none,none,none,none]) ⟨[],[],_,_,g0,az,.nil,λc hc=>(nomatch hc),λh=>absurd h (by decide),An _,rfl⟩ ?_ ?_
 ·rintro r σ H3 hi ⟨ts,s,u1,u2,Y,el,ep,hc,bD,M,rfl⟩;rw[Ek];refine bw 5 nd ?_;obtain⟨a,ea,dJ,et,Ö,er⟩:=(hR.same Y).at hi;have iQ:=jf n r;refine m8 T.range<|cM (OV rfl) T.max VB<|ah<|aG<|ah<|cM eU T.len DY<|ah<|a8 bQ<|a8 dF<|ae 0<|ae 5 ⟨R,_,_,.ref a.1,rfl,rfl,au.of<|Y _ _ hR.lst,dJ,aG ⟨a.1,_,_,.ref a.2,rfl,rfl,aQ.of et,rfl,ax ⟨a.2,_,rfl,.inl<|au.of Ö,?_⟩⟩⟩;rw[Aa];have em:(if((row n r).length:Int)>1 then((row n r).length:Int)else 1)=((max 1 (row n r).length:Nat):Int):=by
   split<;>omega
  refine ax ⟨1,_,rfl,((max 1 (row n r).length:Nat):Int),by rw[em],(by omega),(by omega),?_⟩;rw[Bk];refine m9 (λp σ H4=>∃(ts:(List Addr))(s:List Nt.bc)(u2:Option V),aj H H4/\H4 L=some (.lst<|(ts.map V.ref))/\Pd H4 ts s/\(∀c∈s,fw n c)/\(0<r+p->s≠[])/\s.length<=101*r+p/\σ=[(some (.ref R)),some<|.int b,some<|.str z,some<|.str pt,(some (.ref L)),some<|.int (r:Int),u2,none,none,none,none,none]) ⟨ts,s,_,Y,el,ep,hc,bD,M,rfl⟩ ?_ ?_
  ·rintro p σ H4 hp ⟨ts,s,u2,Y,el,ep,hc,bD,M,rfl⟩;rw[Ek];refine bw 6 nd ?_;refine gG<|ka<|ae 4 ⟨L,rfl,⟨_,el⟩,d9<|ah<|ae 5<|ah<|ae 6<|ax ⟨Z2,λt ht=>?_⟩⟩;have nA:L≠t:=bz el ht;have s2:=aS ht<|Tp (r,p);have J3:=ep.length;refine⟨(ts.map V.ref),by rwa[aw nA],by rw[Aa];exact cg (by omega),?_⟩;refine a9 ⟨ts++[t],s++[(r,p)],_,fI (Y.trans s2) TD,by rw[az,Al];rfl,?_,λc h=>?_,λ_=>by simp,by rw[Ag];simp;omega,rfl⟩
   ·refine Pd.append (ep.keep λx e h=>?_)<|.cons ?_ .nil
    ·rw[aw<|vX h el];exact s2 _ _ h
    ·rw[aw nA.symm,az]
   ·obtain h|h:=Am.mp h
    ·exact hc c h
    ·rw[Ad]at h;subst h;exact⟨hi,hp⟩
  ·rintro σ H4 ⟨ts,s,u2,Y,el,ep,hc,bD,M,rfl⟩;refine a9 ⟨ts,s,_,_,Y,el,ep,hc,λ_=>bD (by omega),(by omega),rfl⟩
 rintro σ H3 ⟨ts,s,u1,u2,Y,el,ep,hc,bD,M,rfl⟩;have GH:0<n.length:=Cu.mpr hF.some;have mP:=bD GH;have fk:0<s.length:=Cu.mpr mP;have J3:=ep.length;have m0:0<=b%(s.length:Int):=Cg _ (by omega);have m1:b%(s.length:Int)<s.length:=Cn _ (by omega);obtain⟨j,hj⟩:∃j:Nat,b%(s.length:Int)=j:=⟨(b%(s.length:Int)).toNat,(by omega)⟩;have oZ:j<s.length:=(by omega)
 have A7:s[j]?=some s[j]:=Ab oZ;obtain⟨B,mB,e1⟩:=ep.at A7;have i0:fw n s[j]:=hc _<|Bt oZ;generalize s[j]=C at e1 i0;refine aZ 7 nd<|a8 dF<|ae 4<|bh dh<|ae 1<|cM eU T.len DY<|ah<|ae 4<|ax ⟨L,_,rfl,.inl<|au.of el,?_⟩;rw[Aa,J3];refine⟨_,_,rfl,rfl,(by omega),L,_,_,.ref B,rfl,rfl,au.of el,by rw[hj];exact TC mB,?_⟩;refine aZ 1 nd<|bh jB<|ae 1<|cM eU T.len DY<|ah<|ae 4<|ax ⟨L,_,rfl,.inl<|au.of el,?_⟩;rw[Aa,J3];refine⟨_,_,rfl,rfl,⟨(by omega),(by omega)⟩,?_⟩;show ge _ _ _ [(some (.ref R)),some<|.int<|b/(s.length:Int),some<|.str z,some<|.str pt,(some (.ref L)),u1,u2,(some (.ref B)),none,none,none,none] H3;generalize b/(s.length:Int)=b2;refine aZ 8 nd (bh dh<|ae 1<|aG ⟨_,_,rfl,rfl,(by show(0:Int)<3;decide),?_⟩);refine aZ 1 nd (bh jB<|ae 1<|aG ⟨_,_,rfl,rfl,⟨(by decide),(by decide)⟩,?_⟩);show ge _ _ _ [(some (.ref R)),some<|.int<|b2/3,some<|.str z,some<|.str pt,(some (.ref L)),u1,u2,(some (.ref B)),some<|.int<|b2%3,none,none,none] H3;generalize b2/3=b3;have uf:=hR.same Y;obtain⟨a,ea,dJ,Ø,TH,å⟩:=uf.at i0.1;have TK:∀(m:bi),(ag m).length<=200->∀i,(row m i).length<=200:=λm h i=>Ch (jf m i) h;have é:C.2<=(row n C.1).length:=by
  have:=i0.2;omega
 refine dP<|cz fX<|ae 8<|aG ⟨rfl,_,rfl,?_⟩;refine jC (λ_=>?_) λ_=>a9 ?_
 ·
  have rl:=jf n C.1;refine gG<|Ig FN RT RV Ra<|a8 bQ<|a8 dF<|ae 0<|a8 bQ<|ae 7<|aG ⟨B,_,_,.int (C.1:Int),rfl,rfl,aQ.of e1,rfl,R,_,_,.ref a.1,rfl,rfl,au.of uf.lst,dJ,aG ⟨a.1,_,_,.ref a.2,rfl,rfl,aQ.of Ø,rfl,Or.inl ⟨rfl,_,au.of TH⟩,?_⟩⟩;refine a8 bQ (ae 7<|aG ⟨B,_,_,.int (C.2:Int),rfl,rfl,aQ.of e1,rfl,ae 2 ⟨a.2,_,_,_,rfl,rfl,TH,(by omega),by rwa[Bk,Aa],by rw[Aa];exact cg (by omega),?_⟩⟩);rw[Bk,Rv];have R4:=uf.ins (z:=z) ea i0.1;refine gG<|ka<|ae 0 ⟨R,rfl,⟨_,R4.lst⟩,d9<|ah<|ae 3<|ah<|di<|ah<|ae 2<|ax ⟨Z1,λl1 ix=>?_⟩⟩;refine ax ⟨Z2,λN mh=>?_⟩;have D:=aS ix<|Ls [z];have G:=aS mh<|.tup [.str pt,.ref l1];have R6:=(R4.same D).same G;refine⟨_,R6.lst,by rw[Aa];exact cg (by omega),?_⟩;have Ù:H3 l1=none:=by
   by_cases q1:l1=a.2
   ·rw[q1,az]at ix;cases ix
   ·rwa[aw q1]at ix
  have Ú:l1∉as.map (·.2):=λhm=>by
   obtain⟨x,A,e⟩:=Ak.mp hm;exact R4.fresh ix A e.symm
  have Û:l1≠R:=λe=>by rw[e,R4.lst]at ix;cases ix
  have R7:=R6.more (t:=N) (l:=l1) (pt:=pt) (zs:=[z]) az (G _ _ az) Ú Û;have tp:(ag<|ins n C z++[(pt,[z])]).Perm (z :: z :: ag n):=by
   unfold ag;rw[Dp];show(ag (ins n C z)++[z]).Perm _;exact(Cq).trans<|(mv n C z i0.1).cons z
  refine bS<|ae 1<|q _ _ _ _ R7 (λx o A kZ=>?_) (λx A=>?_) tp (.inr ?_) ?_ λhP=>ID hT hF hz i0 tp hP
  ·have x1:x≠R:=λe=>kZ (by rw[e];exact Ae);have O:x≠a.2:=λe=>kZ (Af _<|by rw[e];exact Ak.mpr ⟨a,Ao ea,rfl⟩);rw[aw x1];refine G _ _<|D _ _ ?_;rw[aw O];exact Y _ _ A
  ·obtain A|A:=Am.mp A
   ·exact .inl A
   ·rw[Ad]at A;subst A;exact .inr<|Y.free Ù
  ·rw[Al,IZ];rfl
  ·refine .inr ⟨by simp,λi hi=>?_⟩;have Ü:=(Ja (z:=z) hF i0.1 hF.either).1;rw[Ag]at hi;simp at hi
   obtain h|h:=Da i (ins n C z).length
   ·have:=Ü i h;unfold row at this ⊢;rwa[Ax h]
   ·unfold row;rw[Bd h,show i-(ins n C z).length=0 by omega];simp
 ·
  refine aZ 9 nd<|di<|ah<|ae 7<|ax ⟨Z1,λlf TL=>?_⟩;have s4:=aS TL<|.lst [.ref B];have ê:=Y.trans s4;have mD:=uf.same s4;obtain⟨a0,ë,J5,Ý,TR,ì⟩:=mD.at GH;have Þ:∀ x∈as,lf≠x.2:=λx A=>uf.fresh TL A;show ge _ _ _ [(some (.ref R)),some<|.int b3,some<|.str z,some<|.str pt,(some (.ref L)),u1,u2,(some (.ref B)),some<|.int<|b2 % 3,(some (.ref lf)),none,none] (upd H3 lf<|.lst [.ref B]);refine Rc (λk H'=>aj (upd H3 lf<|.lst [.ref B]) H'/\(k=true->row n 0≠[])) (λÕ H'=>∃(lf:Addr)(mr:(List Addr))(U:List Nt.bc),aj H3 H'/\(∀ x∈as,lf≠x.2)/\H' lf=some (.lst<|mr.map V.ref)/\Pd H' mr U/\0 < U.length/\U.length<=1000/\(∀ c∈U,fw n c/\∃ k,(it (step n)) k C=c) /\
   Õ=[(some (.ref R)),some<|.int b3,some<|.str z,some<|.str pt,(some (.ref L)),u1,u2,(some (.ref B)),some<|.int<|b2%3,(some (.ref lf)),none,none]) ?_ ?_ (λH5⟨D,_⟩=>a9 ⟨lf,[B],[C],s4.trans D,Þ,D _ _ az,.cons (D _ _<|s4 _ _ e1) .nil,Ff,by show 1<=1000;decide,λc iB=>by rw[Ad]at iB;rw[iB];exact⟨i0,0,rfl⟩,rfl⟩) ?_
  ·refine cz (tP hu)<|a8 bQ<|a8 dF<|ae 0<|aG ⟨R,_,_,.ref a0.1,rfl,rfl,au.of mD.lst,J5,aG ⟨a0.1,_,_,.ref a0.2,rfl,rfl,aQ.of Ý,rfl,di<|ax ⟨Z0,λp hp=>?_⟩⟩⟩;have D:=aS hp<|.lst []
   by_cases h0:row n 0=[]
   ·refine⟨1,_,(by decide),Ib (k:=0) (xs:=[]) (ys:=[]) (λ_=>true) (au.of<|by rw[D _ _ TR,h0];rfl) (au.of az) rfl (λj x y A _=>by simp at A),_,rfl,D,λh=>by cases h⟩
   ·refine⟨1,_,(by decide),Ic (k:=1) (au.of<|D _ _ TR) (au.of (xs:=[]) az) (by rw[Aa];intro h;exact h0<|Bv.mp h),_,rfl,D,λ_=>h0⟩
  ·rintro H4 ⟨J6,h0⟩;have h0:=h0 rfl;have mD:=mD.same J6;have A3:=hF.cV h0 i0;have pB:=fz n;refine aZ 9 nd (bC GF hr<|ah<|ae 0<|ah<|bC GS hr<|ah<|ae 0<|ax ⟨R,as,n,rfl,mD,(by omega),(by omega),λd ks H5 D n5 S5=>?_⟩);refine ah (ae 7<|ax ⟨R,d,B,as,n,ks,C,rfl,mD.same D,S5,hT,D _ _<|J6 _ _<|s4 _ _ e1,A3,(by omega),λl6 ß à H6 G n6 e6 p6 f6=>?_⟩);exact a9 ⟨l6,ß,à,s4.trans<|J6.trans<|D.trans G,λx A=>(mD.same D).fresh n6 A,e6,p6,f6.pos,by have:=f6.len;omega,λc iB=>⟨Su<|f6.ends hT A3 c iB,GD f6 iB⟩,rfl⟩
  ·rintro Õ H5 ⟨lf,mr,U,D,á,J7,Hz,í,î,J8,rfl⟩;have wH:=Hz.length;have n0:0<=b3%(U.length:Int):=Cg _ (by omega);have n1:b3%(U.length:Int)<U.length:=Cn _ (by omega);obtain⟨j2,gN⟩:∃j:Nat,b3%(U.length:Int)=j:=⟨(b3%(U.length:Int)).toNat,(by omega)⟩;have wI:j2<U.length:=(by omega)
   have J9:U[j2]?=some U[j2]:=Ab wI;obtain⟨N,pC,e2⟩:=Hz.at J9;obtain⟨rp,iC⟩:=J8 _<|Bt wI;generalize U[j2]=c2 at e2 rp iC;have qo:=D _ _ e1;refine aZ 10 nd<|a8 dF<|ae 9<|bh dh<|ae 1<|cM eU T.len DY<|ah<|ae 9<|ax ⟨lf,_,rfl,.inl<|au.of J7,?_⟩;rw[Aa,wH];refine⟨_,_,rfl,rfl,(by omega),lf,_,_,.ref N,rfl,rfl,au.of J7,by rw[gN];exact TC pC,?_⟩;have wJ:=uf.same D;refine jF<|k6g T.sorted<|di<|ah<|ae 7<|ah<|ae 10<|ax ⟨Z2,λl2 kF=>?_⟩;have G:=aS kF<|.lst [.ref B,.ref N];refine⟨l2,B,N,(C.1:Int),(C.2:Int),(c2.1:Int),(c2.2:Int),rfl,az,G _ _ qo,G _ _ e2,λrr TU=>?_⟩;have rn:∀x∈as,rr≠x.2:=λx A=>(wJ.same G).fresh TU A;obtain⟨x1,O,I,J,fA,f1,f2,q1,q2,J',js⟩:∃x1 O I J,(if lexLt ((C.1:Int),(C.2:Int)) ((c2.1:Int),(c2.2:Int))=true then [V.ref N,.ref B]else [.ref B,.ref N])=[.ref x1,.ref O]/\(upd H5 l2<|.lst [.ref B,.ref N]) x1=some (Tp I)/\(upd H5 l2<|.lst [.ref B,.ref N]) O=some (Tp J)/\fw n I/\fw n J/\(J=I\/sh I J=J)/\((∃k,(it (step n)) k I=J)\/∃k,(it (step n)) k J=I):=by
    cases T1:lexLt ((C.1:Int),(C.2:Int)) ((c2.1:Int),(c2.2:Int)) with
    |true=>exact⟨N,B,c2,C,rfl,G _ _ e2,G _ _ qo,rp,i0,.inr<|q3x T1,.inr iC⟩
    |false=>exact⟨B,N,C,c2,rfl,G _ _ qo,G _ _ e2,i0,rp,tz T1,.inl iC⟩
   rw[fA];have s7:=aS TU<|.lst [.ref x1,.ref O];have f1:=s7 _ _ f1;have f2:=s7 _ _ f2;have G:=G.trans s7;have fr:=az (H:=upd H5 l2<|.lst [.ref B,.ref N]) (a:=rr) (o:= .lst [.ref x1,.ref O]);generalize upd (upd H5 l2<|.lst [.ref B,.ref N]) rr (.lst [.ref x1,.ref O])=H6 at f1 f2 G fr ⊢;have wK:aj H H6:=Y.trans<|D.trans G;have â:=wJ.same G;have wL:qU H H6 (R :: as.map (·.2)):=λx o A _=>wK _ _ A;refine⟨rr,rfl,⟨_,au.of fr⟩,jG (xs:=[.ref x1,.ref O]) (λi σ H7=>∃(m:bi)(u:Option V),ai H7 R as m/\qU H H7 (R :: as.map (·.2))/\H7 rr=some (.lst [.ref x1,.ref O])/\H7 lf=some (.lst<|mr.map V.ref)/\H7 x1=some (Tp I)/\H7 O=some (Tp J) /\
    ((i=0/\m=n)\/(i=1/\m=ins n I z)\/(i=2/\m=ins (ins n I z) J z))/\σ=[(some (.ref R)),some<|.int b3,some<|.str z,some<|.str pt,(some (.ref L)),u1,u2,(some (.ref B)),some<|.int<|b2%3,(some (.ref lf)),(some (.ref N)),u]) ⟨n,_,â,wL,fr,G _ _ J7,f1,f2,.inl ⟨rfl,rfl⟩,rfl⟩ ?_ ?_ ?_⟩
   ·rintro i σ H7 _ ⟨m,u,_,_,Ka,_⟩;exact au.of Ka
   ·rintro i v σ H7 hv ⟨m,u,wM,rq,Ka,T4,g1,g2,hm,rfl⟩;have ã:=(mv n I z q1.1).length_eq;rw[As]at ã;obtain⟨y,k,rfl,hy,hk,jt,ï⟩:∃y k,v=.ref y/\H7 y=some (Tp k)/\fw m k/\((i+1=0/\ins m k z=n)\/(i+1=1/\ins m k z=ins n I z)\/(i+1=2/\ins m k z=ins (ins n I z) J z))/\(ag m).length<=200:=by
     obtain⟨rfl,rfl⟩|⟨rfl,rfl⟩|⟨rfl,rfl⟩:=hm
     ·cases hv;exact⟨x1,I,rfl,g1,q1,.inr<|.inl ⟨rfl,rfl⟩,(by omega)⟩
     ·cases hv;exact⟨O,J,rfl,g2,AG q2 q1.1,.inr<|.inr ⟨rfl,rfl⟩,(by omega)⟩
     ·simp at hv
    refine bw 11 nd ?_;obtain⟨a',T5,Kb,Kc,nQ,ð⟩:=wM.at hk.1;have rl:=jf m k.1;have uQ:k.2<=(row m k.1).length:=by
     have:=hk.2;omega
    refine gG<|Ig FN RT RV Ra<|a8 bQ<|a8 dF<|ae 0<|a8 bQ<|ae 11<|aG ⟨y,_,_,.int (k.1:Int),rfl,rfl,aQ.of hy,rfl,R,_,_,.ref a'.1,rfl,rfl,au.of wM.lst,Kb,aG ⟨a'.1,_,_,.ref a'.2,rfl,rfl,aQ.of Kc,rfl,Or.inl ⟨rfl,_,au.of nQ⟩,?_⟩⟩;refine a8 bQ (ae 11<|aG ⟨y,_,_,.int (k.2:Int),rfl,rfl,aQ.of hy,rfl,ae 2 ⟨a'.2,_,_,_,rfl,rfl,nQ,(by omega),by rwa[Bk,Aa],by rw[Aa];exact cg (by omega),?_⟩⟩);rw[Bk,Rv];have am:a'∈as:=Ao T5;refine a9 ⟨ins m k z,_,wM.ins T5 hk.1,λx o A kZ=>?_,by rwa[aw<|rn a' am],by rwa[aw<|á a' am],by rwa[aw<|vX g1 nQ],by rwa[aw<|vX g2 nQ],jt,rfl⟩;have O:x≠a'.2:=λe=>kZ (Af _<|by rw[e];exact Ak.mpr ⟨a',am,rfl⟩);rw[aw O];exact rq x o A kZ
   ·rintro σ H7 ⟨m,u,wM,rq,Ka,T4,g1,g2,hm,rfl⟩;have em:m=ins (ins n I z) J z:=by
     obtain⟨h,_⟩|⟨h,_⟩|⟨_,h⟩:=hm
     ·exact absurd h<|by show ¬(2=0);decide
     ·exact absurd h<|by show ¬(2=1);decide
     ·exact h
    refine bS<|bh jB<|ae 1<|cM eU T.len DY<|ah<|ae 9<|ax ⟨lf,_,rfl,.inl<|au.of T4,?_⟩;rw[Aa,wH];refine⟨_,_,rfl,rfl,⟨(by omega),(by omega)⟩,?_⟩;have fi:=Ja (z:=z) hF q1.1 hF.either;have F2:io (ins n I z):= .inr ⟨fi.2,fi.1⟩;have T6:=Ja (z:=z) F2 (AG (z:=z) q2 q1.1).1 F2.either;subst em;exact q _ as _ H7 wM rq (λx A=> .inl A) ((mv _ J z (AG (z:=z) q2 q1.1).1).trans<|(mv n I z q1.1).cons z) (.inl<|by rw[IZ,IZ]) (.inr ⟨T6.2,T6.1⟩) λhP=>mu hT hF hz q1 q2 ((mv _ J z (AG (z:=z) q2 q1.1).1).trans<|(mv n I z q1.1).cons z) J' js hP
def Kd:Sp:=λc H Q _=>∃b m d,c=[.int b,.int m,.int d]/\0<=m/\m<=35 /\
 ∀L as n H',aj H H'->H L=none->ai H' L as n->aq n->(n.map (·.1)).Nodup->io n->HF n->(ag n).length<=2*m.toNat->n.length<=m.toNat+1->(∀a∈as,H a.2=none)->Q (.ref L) H'
abbrev NB:Ð:=["_law_big_here","_law_most","_law_stem","_law_many","_law_ties","_law_points","_law_rows","_law_k","_law_told","_law_row","_law_size"]
def pD:ak NB ["_law_big_here","_law_most","_law_stem"] (aW qR):=cm
def hQ(h:H d=some (.lst xs)):mV K "list" (.ref d) H:=Or.inl ⟨rfl,xs,au.of h⟩
def jr{b:Int}{m:Nat}(h:i<m):fj ((namesOf b m).map V.str) (i:Int)=some (.str<|aV b i):=vW<|k7a h
theorem GY(F:bB K "_law_net_by" "_law_net_by" qR f fd)(T:Txt mg)
  (GN:(aP P w K mg Z) 4 "_law_names" ["_law_stem","_law_many"] IQ)
  (GP:(aP P w K mg Z) 4 "_law_put" ["_law_rows","_law_big_here","_law_tie","_law_point"] J2):
  (aE P w K mg Z bK) 5 f fd ["_law_big_here","_law_most","_law_stem"] Kd:=by
 refine F.gc pD λb0 H vs Q E A h=>?_;obtain⟨b,m,v,rfl,m0,å,q⟩:=h;have nd:=pD.nd;have hu:=A.iL;have k0:0<=b%(m+1):=Cg _ (by omega);have k1:b%(m+1)<m+1:=Cn _ (by omega);obtain⟨J,Ö⟩:∃k:Nat,b%(m+1)=k:=⟨(b%(m+1)).toNat,(by omega)⟩;have é:J<=m.toNat:=(by omega)
 refine aZ 3 nd<|bh dh<|ae 0<|bh iu<|ae 1<|aG ⟨_,_,rfl,rfl,?_⟩;refine⟨_,_,rfl,rfl,(by show 0<m+1;omega),?_⟩;refine aZ 0 nd<|bh jB<|ae 0<|bh iu<|ae 1<|aG ⟨_,_,rfl,rfl,?_⟩;refine⟨_,_,rfl,rfl,(by show vb b (m+1);exact⟨(by omega),(by omega)⟩),?_⟩;show ge _ _ _ [some<|.int<|b/(m+1),some<|.int m,some<|.int v,some<|.int<|b%(m+1),none,none,none,none,none,none,none] H;rw[Ö];generalize b/(m+1)=b1;refine aZ 4 nd (bC GN A<|ah<|ae 2<|ah<|ae 3<|ax ⟨v,(J:Int),rfl,(by omega),(by omega),λlt H1 s1 n1 e1=>?_⟩);rw[Bk]at e1;refine aZ 5 nd (bC GN A<|ah<|a8 dF<|di<|ah<|bh iu<|bh jB<|ae 2<|aG ⟨_,_,rfl,rfl,⟨(by decide),(by decide)⟩,aG ⟨_,_,rfl,rfl,ah<|ae 2<|ax ⟨Z2,λp O=>?_⟩⟩⟩);refine qk Rb T.vZ UJ (ah<|j6 fX<|bh dh<|ae 2<|aG ⟨_,_,rfl,rfl,(by show(0:Int)<4;decide),aG ⟨rfl,ax ⟨_,rfl,?_⟩⟩⟩);have s2:=aS O<|.lst [.int<|v/3+1,.int v];obtain⟨G,ex⟩:∃G:Int,fj [V.int<|v/3+1,.int v] (if decide (V.int (v%4)=V.int 1)=true then 1 else 0)=some (.int G):=by
  cases decide (V.int (v%4)=V.int 1) with
  |true=>exact⟨v,rfl⟩
  |false=>exact⟨v/3+1,rfl⟩
 refine⟨p,_,_,.int G,rfl,rfl,au.of az,ex,?_⟩;refine ah (bh iu<|ae 3<|aG ⟨_,_,rfl,rfl,ax ⟨G,(J:Int)+1,rfl,(by omega),(by omega),λlp I s3 n3 e3=>?_⟩⟩);have em:((J:Int)+1).toNat=J+1:=(by omega)
 rw[em]at e3;have Ke:aj H I:=s1.trans<|s2.trans s3;have e1:I lt=some (Ls<|namesOf v J):=s3 _ _<|s2 _ _ e1;refine aZ 6 nd<|di<|ah<|d9<|ah<|a8 dF<|ae 5<|aG ⟨lp,_,_,.str<|aV G 0,rfl,rfl,au.of e3,jr<|Ey _,ah<|di<|ax ⟨Z0,λl1 ix=>?_⟩⟩;refine ax ⟨Z2,λD Ø=>ax ⟨Z1,λR T7=>?_⟩⟩;have s4:=aS ix<|Ls [];have s5:=aS Ø<|.tup [.str<|aV G 0,.ref l1];have s6:=aS T7<|.lst [.ref D];have Ù:ai (upd (upd (upd I l1<|.lst []) D<|.tup [.str<|aV G 0,.ref l1]) R<|.lst [.ref D]) R [(D,l1)] [(aV G 0,[])]:=by
  refine⟨rfl,az,λi a r h1 h2=>?_,by simp⟩;cases i with
  |zero=>
   cases h1;cases h2;exact⟨s6 _ _ az,s6 _ _<|s5 _ _ az⟩
  |succ i=>simp at h1
 have fR:I R=none:=s4.free<|s5.free T7;refine m8 T.range (ae 3 ⟨(J:Int),rfl,(by omega),(by omega),?_⟩);rw[Bk];refine m9 (λk σ H3=>∃(as:Î)(n:bi)(b:Int)(u:Option V),ai H3 R as n/\aj I H3/\(∀ a∈as,I a.2=none)/\io n/\HF n/\(ag n).Perm (dbl<|namesOf v k)/\n.map (·.1)=namesOf G n.length/\n.length<=k+1 /\
  σ=[some<|.int b,some<|.int m,some<|.int v,some<|.int (J:Int),(some (.ref lt)),(some (.ref lp)),(some (.ref R)),u,none,none,none]) ⟨_,_,b1,_,Ù,s4.trans<|s5.trans s6,λa M=>by rw[Ad]at M;rwa[M],.inl ⟨_,rfl⟩,bZ,List.Perm.refl _,rfl,An _,rfl⟩ ?_ ?_
 ·rintro k σ H3 hk ⟨as,n,b,u,d,B,j8,hF,A8,O,Kf,Õ,rfl⟩;rw[Ek];refine bw 7 nd ?_;have cq:=d.len;have tl:=O.length_eq;rw[Jc,Im]at tl;have nz:aV v k∉ag n:=λh=>by
   have h1:=jl.mp<|O.mem_iff.mp h;have h2:=zP (b:=v) (m:=k+1) (by omega);rw[zQ,Co]at h2;exact h2.2.2 _ h1 _ (Ad.mpr rfl) rfl
  have C:0<n.length:=Cu.mpr hF.some;refine aZ 0 nd<|bC GP A<|ah<|ae 6<|ah<|ae 0<|ah<|a8 dF<|ae 4<|ae 7 ⟨lt,_,_,.str<|aV v k,rfl,rfl,au.of<|B _ _ e1,jr hk,?_⟩;refine ah<|a8 dF<|ae 5<|cM eU T.len DY<|ah<|ae 6<|ax ⟨R,_,rfl,.inl<|au.of d.lst,?_⟩;rw[Aa,cq];refine⟨lp,_,_,.str<|aV G n.length,rfl,rfl,au.of<|B _ _ e3,jr (by omega),?_⟩;refine ax ⟨R,as,n,b,aV v k,aV G n.length,rfl,d,Rw (zP<|(by omega)) O,hF,nz,(by omega),(by omega),λi ro n' H' Ú kp Kg jR wN Û Kh=>?_⟩;have Ü:aj I H':=λx o c=>by
   refine kp x o (B _ _ c) λhm=>?_
   obtain h|h:=Ai.mp hm
   ·rw[h,fR]at c;cases c
   ·obtain⟨y,hy,e⟩:=Ak.mp h;rw[<-e,j8 y hy]at c;cases c
  refine a9 ⟨ro,n',i,_,Ú,Ü,λy hy=>?_,Û,Kh A8,?_,?_,?_,rfl⟩
  ·obtain h|h:=Kg y hy
   ·exact j8 y h
   ·exact B.free h
  ·refine jR.trans ?_;rw[zQ,sS];refine List.Perm.trans ?_ Cq;exact((O.cons _).cons _)
  ·obtain h|h:=wN
   ·have N:=BZ List.length h;rw[Aa,Aa]at N;rwa[h,N]
   ·have N:=BZ List.length h;rw[Aa,Ag,Aa]at N;have iM:n'.length=n.length+1:=N;rw[h,iM,zQ,Kf]
  ·obtain h|h:=wN
   ·have N:=BZ List.length h;rw[Aa,Aa]at N;omega
   ·have N:=BZ List.length h;rw[Aa,Ag,Aa]at N;have iM:n'.length=n.length+1:=N;omega
 rintro σ H3 ⟨Ý,C,b,u,d,B,j8,hF,ê,O,Kf,Õ,rfl⟩;have tl:=O.length_eq;rw[Jc,Im]at tl;have T8:aq C:=Rw (zP<|(by omega)) O;have Þ:(C.map (·.1)).Nodup:=by rw[Kf];exact zP<|(by omega)
 refine aZ 8 nd<|di<|ax ⟨Z0,λL hL=>?_⟩;have s7:=aS hL<|.lst [];have T9:R≠L:=bz d.lst hL;have fL:I L=none:=B.free hL;have rA:ai (upd H3 L<|.lst []) L [] []:=⟨rfl,az,λi a r h1=>by simp at h1,by simp⟩;refine vT (λk σ H4=>∃(as U:Î)(n s:bi)(b:Int)(u9 Ua:Option V),k=n.length/\ai H4 R as n/\ai H4 L U s/\aj I H4/\(∀ a∈as,a.2≠L)/\(∀ a∈U,a.2≠R)/\(∀ a∈U,I a.2=none)/\n.length+s.length=C.length /\
   (ag n++ag s).Perm (ag C)/\(n.map (·.1)++s.map (·.1)).Perm (C.map (·.1))/\(NE C->NE n/\NE s)/\HF (n++s) /\
   σ=[some<|.int b,some<|.int m,some<|.int v,some<|.int (J:Int),(some (.ref lt)),(some (.ref lp)),(some (.ref R)),u,(some (.ref L)),u9,Ua])
  (m0:=C.length) ⟨Ý,[],C,[],b,_,_,rfl,d.same s7,rA,B.trans s7,λa M=>(d.fresh hL M).symm,λa M=>(nomatch M),λa M=>(nomatch M),rfl,by simp[ag],by simp,λh=>⟨h,λr A=>(nomatch A)⟩,by rwa[Bp],rfl⟩ ?_
 rintro k σ H4 ⟨as,U,n,s,b,u9,Ua,rfl,d,nR,B,aL,aR,Ub,wO,pt,pn,bD,A8,rfl⟩;have cq:=d.len;have Ki:=nR.len;have ë:(ag n).length<=70:=by
  have:=pt.length_eq;rw[Ag]at this;omega
 refine cz (tP hu)<|ae 6<|di<|ax ⟨Z0,λp m4=>?_⟩;have Y:=aS m4<|.lst []
 by_cases h0:n=[]
 ·subst h0;have ea:as=[]:=Bv.mp (by simpa using cq);subst ea;refine⟨1,_,(by decide),Ib (k:=0) (xs:=[]) (ys:=[]) (λ_=>true) (au.of<|Y _ _ d.lst) (au.of az) rfl (λj x y c _=>by simp at c),_,rfl,bR<|bS<|ae 8 ?_⟩;have hV:(ag s).Perm (ag C):=pt;have ß:(s.map (·.1)).Perm (C.map (·.1)):=pn;have l2:s.length=C.length:=by simpa using wO
  refine q L U s _ (Ke.trans<|B.trans Y) (Ke.free fL) (nR.same Y) (λz hz=>?_) (ß.nodup_iff.mpr Þ) ?_ A8 (by rw[hV.length_eq];omega) (by omega) λa M=>Ke.free<|Ub a M
  ·rw[hV.count_eq];exact T8 z<|hV.mem_iff.mp hz
  ·obtain⟨nm,h⟩|h:=hF.ne
   ·subst h;have t0:ag s=[]:=List.Perm.eq_nil hV
    match s,l2,t0 with
    |[(ì,zs)],_,t0=>
     have:zs=[]:=by simpa[ag]using t0
     subst this;exact .inl ⟨_,rfl⟩
   ·refine wh (bD h).2 λe=>?_;rw[e]at l2;exact hF.some<|Bv.mp l2.symm
 ·have np:0<n.length:=Cu.mpr h0;refine⟨1,_,(by decide),Ic (k:=1) (au.of<|Y _ _ d.lst) (au.of (xs:=[]) az) (by rw[Aa,cq];exact Cz np),_,rfl,cv ?_⟩;have d:=d.same Y;have nR:=nR.same Y;have B:=B.trans Y;generalize upd H4 p (.lst [])=H5 at d nR B ⊢;have r0:0<=b%(n.length:Int):=Cg _ (by omega);have r1:b%(n.length:Int)<n.length:=Cn _ (by omega);obtain⟨j,hj⟩:∃k:Nat,b%(n.length:Int)=k:=⟨(b%(n.length:Int)).toNat,(by omega)⟩;have rB:j<n.length:=(by omega)
  obtain⟨a,ea,dJ,et,el,er⟩:=d.at rB;refine aZ 9 nd<|Ie FN VD VF ZA<|ae 6 ⟨hQ d.lst,bh dh<|ae 0<|cM eU T.len DY<|ah<|ae 6<|ax ⟨R,_,rfl,.inl<|au.of d.lst,?_⟩⟩;rw[Aa,cq];refine⟨_,_,rfl,rfl,(by omega),R,_,_,j,.ref a.1,rfl,rfl,d.lst,by rw[hj];omega,by rw[hj];omega,?_,?_,?_⟩
  ·rw[hj,Aa,cq];unfold seqIndex?;have c1:¬((j:Int)<0):=(by omega)
   simp only[c1,CP];have c2:(decide (0<=(j:Int)) && decide ((j:Int)<(n.length:Int)))=true:=by
    rw[Cb,DQ,DQ];omega
   rw[BP c2,Bk]
  ·rw[Ah,ea];rfl
  have R6:=d.erase rB;have am:a∈as:=Ao ea;have Kj:∀x∈as,x.2≠R:=λx c e=>by
   obtain⟨zs,e2⟩:=d.lists c;have h3:=d.lst;rw[<-e,e2]at h3;have h4:=HO.lst.inj<|Option.some.inj h3;cases as with
   |nil=>cases c
   |cons b' bs=>
    cases zs with
    |nil=>simp at h4
    |cons y r=>simp at h4
  have L6:=nR.upd (o:= .lst<|(as.map λa=>V.ref a.1).eraseIdx j) d.lst T9.symm aR;have wQ:(upd H5 R<|.lst<|(as.map λa=>V.ref a.1).eraseIdx j) a.1=some (.tup [.str n[j].1,.ref a.2]):=by rwa[aw<|cf et d.lst λe=>nomatch e]
  have A9:(upd H5 R<|.lst<|(as.map λa=>V.ref a.1).eraseIdx j) a.2=some (Ls<|row n j):=by rwa[aw<|Kj a am]
  have wK:aj I (upd H5 R<|.lst<|(as.map λa=>V.ref a.1).eraseIdx j):=fI B fR;generalize upd H5 R (.lst<|(as.map λa=>V.ref a.1).eraseIdx j)=H6 at R6 L6 wQ A9 wK ⊢;have à:=R6.len;have rC:(n.eraseIdx j).length=n.length-1:=by rw[Dg,BP rB]
  refine aZ 0 nd<|bh jB<|ae 0<|bh iu<|cM eU T.len DY<|ah<|ae 6<|ax ⟨R,_,rfl,.inl<|au.of R6.lst,aG ⟨_,_,rfl,rfl,?_⟩⟩;rw[Aa,à,rC];refine⟨_,_,rfl,rfl,⟨(by omega),(by omega)⟩,?_⟩;have í:=jf n j;refine aZ 10 nd<|cM (OV rfl) T.max VB<|ah<|aG<|ah<|cM eU T.len DY<|ah<|a8 bQ<|ae 9<|aG ⟨a.1,_,_,.ref a.2,rfl,rfl,aQ.of wQ,rfl,ax ⟨a.2,_,rfl,.inl<|au.of A9,?_⟩⟩;rw[Aa];refine ax ⟨1,_,rfl,?_⟩;have á:(if((row n j).length:Int)>1 then((row n j).length:Int)else 1)=((max 1 (row n j).length:Nat):Int):=by
   split<;>omega
  rw[á];show ge _ _ _ [some<|.int<|b/((n.length-1:Nat)+1:Int),some<|.int m,some<|.int v,some<|.int (J:Int),(some (.ref lt)),(some (.ref lp)),(some (.ref R)),u,(some (.ref L)),some<|.ref a.1,some<|.int ((max 1 (row n j).length:Nat):Int)] H6;generalize b/((n.length-1:Nat)+1:Int)=b2;have z0:0<=b2%((max 1 (row n j).length:Nat):Int):=Cg _ (by omega);obtain⟨i,hi⟩:∃k:Nat,b2%((max 1 (row n j).length:Nat):Int)=k:=⟨(b2%((max 1 (row n j).length:Nat):Int)).toNat,(by omega)⟩;refine gG<|ka<|ae 8 ⟨L,rfl,⟨_,L6.lst⟩,d9<|ah<|a8 bQ<|ae 9<|aG ⟨a.1,_,_,.str n[j].1,rfl,rfl,aQ.of wQ,rfl,?_⟩⟩;refine ah (bh ZC<|P1 O8<|a8 bQ<|ae 9<|aG ⟨a.1,_,_,.ref a.2,rfl,rfl,aQ.of wQ,rfl,P4<|bh dh<|ae 0<|ae 10 ⟨b2,((max 1 (row n j).length:Nat):Int),rfl,rfl,(by omega),_,rfl,P2 ⟨a.2,_,rfl,au.of A9,λp1 Kk=>?_⟩⟩⟩);rw[hi,kb];have D:=aS Kk<|Ls<|(row n j).drop i;refine P1 O8 (a8 bQ<|ae 9<|aG ⟨a.1,_,_,.ref a.2,rfl,rfl,aQ.of<|D _ _ wQ,rfl,P2<|P4<|bh dh<|ae 0<|ae 10 ⟨b2,((max 1 (row n j).length:Nat):Int),rfl,rfl,(by omega),_,rfl,a.2,_,rfl,au.of<|D _ _ A9,λp2 m4=>?_⟩⟩);rw[hi,hZ];have t2:=aS m4<|Ls<|(row n j).take i;refine⟨p1,p2,_,_,rfl,rfl,t2 _ _ az,az,?_,λp3 rD=>?_⟩
  ·rw[Aa,Aa,Du,Br];exact xp<|(by omega)
  rw[<-Al];have t3:=aS rD<|Ls<|(row n j).drop i++(row n j).take i;refine ax ⟨Z2,λt4 â=>?_⟩;have s4:=aS â<|.tup [.str n[j].1,.ref p3];have rE:=D.trans<|t2.trans<|t3.trans s4;have L7:=L6.same rE;have R7:=R6.same rE;have ã:p3≠L:=λe=>by rw[e,(D.trans t2) _ _ L6.lst]at rD;cases rD
  have î:p3≠R:=λe=>by rw[e,(D.trans t2) _ _ R6.lst]at rD;cases rD
  have ä:p3∉U.map (·.2):=λhm=>by
   obtain⟨y,hy,e⟩:=Ak.mp hm;exact(L6.same<|D.trans t2).fresh rD hy e.symm
  have L8:=L7.more (t:=t4) (l:=p3) (pt:=n[j].1) (zs:=(row n j).drop i++(row n j).take i) az (s4 _ _ az) ä ã;refine⟨_,L7.lst,by rw[Aa,Ki];exact cg (by omega),?_⟩;have Uc:∀x∈as.eraseIdx j,x.2≠L:=λx c=>aL x<|Fb c;have R8:=R7.upd (o:= .lst<|U.map (λa=>V.ref a.1)++[.ref t4]) L7.lst T9 Uc;refine aZ 0 nd (bh jB<|ae 0<|ae 10 ⟨b2,((max 1 (row n j).length:Nat):Int),rfl,rfl,⟨(by omega),(by omega)⟩,?_⟩);have pe:=Rx n j rB;have ne:=UV n j rB;have Ud:(ag (n.eraseIdx j)++ag (s++[(n[j].1,(row n j).drop i++(row n j).take i)])).Perm (ag C):=by
   refine List.Perm.trans ?_ pt;unfold ag;rw[Dp];show(ag (n.eraseIdx j)++(ag s++(((row n j).drop i++(row n j).take i)++[]))).Perm _;rw[Bp,er];have w1:(n[j].2.drop i++n[j].2.take i).Perm n[j].2:=Jd _ _;refine((w1.append_left _).append_left _).trans ?_;have w2:(ag n++ag s).Perm ((n[j].2++ag (n.eraseIdx j))++ag s):=pe.append_right _;refine List.Perm.trans ?_ w2.symm;rw[Ar];refine List.Perm.trans ?_<|Cq (l₁:=ag (n.eraseIdx j)++ag s);rw[Ar]
  refine a9 ⟨n.length-1,(by omega),as.eraseIdx j,U++[(t4,p3)],n.eraseIdx j,s++[(n[j].1,(row n j).drop i++(row n j).take i)],_,_,_,rC.symm,R8,L8,fI (wK.trans rE) fL,Uc,λx c=>?_,λx c=>?_,?_,Ud,?_,λh=>⟨λr A=>?_,λr A=>?_⟩,rO rB (by have:=Cn b2 (show(0:Int)<((max 1 (row n j).length:Nat):Int) by omega);rw[hi]at this;exact Int.ofNat_lt.mp this) T8 pt Ud A8,rfl⟩
  ·obtain c|c:=Am.mp c
   ·exact aR x c
   ·rw[Ad]at c;rwa[c]
  ·obtain c|c:=Am.mp c
   ·exact Ub x c
   ·rw[Ad]at c;rw[c];exact wK.free<|D.free<|t2.free rD
  ·rw[Ag,rC];simp;omega
  ·refine List.Perm.trans ?_ pn;rw[Al];show((n.eraseIdx j).map (·.1)++(s.map (·.1)++[n[j].1])).Perm _;refine List.Perm.trans ?_ (ne.append_right _).symm;rw[<-Ar];exact Cq
  ·exact(bD h).1 r<|Fb A
  ·obtain A|A:=Am.mp A
   ·exact(bD h).2 r A
   ·rw[Ad]at A;rw[A];intro e;have w1:=(Jd (row n j) i).length_eq;have e':(row n j).drop i++(row n j).take i=[]:=e;rw[e']at w1;have:=(bD h).1 n[j]<|Bt rB;rw[er]at w1;exact this<|Bv.mp w1.symm
def Kl:Sp:=λc H Q _=>∃R as n,c=[.ref R]/\ai H R as n/\n.length<=1000/\∀L b H',aj H H'->H L=none->(∀a∈b,H a.1=none/\H a.2=none)->ai H' L b n->Q (.ref L) H'
theorem iR{l:Addr}(s:aj H H')(h:H' l=none):H l=none:=by
 cases e:H l with
 |none=>rfl
 |some v=>rw[s _ _ e]at h;cases h
abbrev NC:Ð:=["_law_rows"]
abbrev Ue:Ð:=["_law_rows","_law_row"]
def k6:ak NC ["_law_rows"] (aW z7):=cm
def Km:Ue.Nodup:=by decide +kernel
theorem zI(F:bB K "_law_copy" "_law_copy" z7 f fd)(T:Txt mg):(aE P w K mg Z bK) 1 f fd ["_law_rows"] Kl:=by
 refine F.gc k6 λb0 H vs Q E hr h=>?_;obtain⟨R,as,n,rfl,C,hn,q⟩:=h;have cq:=C.len;refine bS<|jb (aW z7) NC Ue 1 (gD bI)<|ae 0 ⟨R,rfl,⟨_,au.of C.lst⟩,λD M=>?_⟩;refine oY (xs:=as.map λa=>V.ref a.1) (λi m H'=>(∃ v,m=[(some (.ref R))]++[v])/\∃ k:Î,k.length=i/\H' D=some (.lst<|k.map λa=> .ref a.1) /\
  (∀(j:Nat)a r,k[j]?=some a->n[j]?=some r->H' a.1=some (.tup [.str r.1,.ref a.2])/\H' a.2=some (Ls r.2))/\(k.map (·.2)).Nodup/\(∀a∈k,a.2≠D/\H a.1=none/\H a.2=none/\∃G,H' a.2=some (Ls G))/\aj H H')
  ⟨⟨none,rfl⟩,[],rfl,az,λj a r h=>by simp at h,Cd,λa h=>by simp at h,aS M _⟩ ?_ ?_ ?_
 ·rintro i m H' _ ⟨_,k,_,_,_,_,_,p⟩;exact au.of<|p _ _ C.lst
 ·rintro i x m H' N ⟨⟨v,rfl⟩,k,O,s,U,Y,y,p⟩;have hi:i<n.length:=by
   have:=(Ac.mp N).1;rw[Aa]at this;omega
  obtain⟨a,ea,dJ,et,el,er⟩:=(C.same p).at hi;rw[Ah,ea]at N;cases N;intro cl C' æ ç ex;refine bw 1 Km ?_;intro cl C' æ ç ex;refine ja ?_;rw[BP rfl];intro cl C' æ ç ex;refine d9<|ah<|a8 bQ<|ae 1<|aG ⟨a.1,_,_,.str n[i].1,rfl,rfl,aQ.of et,rfl,?_⟩;refine ah<|qk Zo T.kL MN<|ah<|a8 bQ<|ae 1<|aG ⟨a.1,_,_,.ref a.2,rfl,rfl,aQ.of et,rfl,?_⟩;refine ax ⟨a.2,_,rfl,.inl<|au.of el,λl u=>ax ⟨Z2,λt ht=>?_⟩⟩;have nh:=iR p u;have Ko:t≠l:=λe=>by rw[e,az]at ht;cases ht
  have A:H' t=none:=by rwa[aw Ko]at ht
  have Ug:=iR p A;have I:l≠D:=λe=>by rw[e]at u;rw[u]at s;cases s
  have Uh:t≠D:=λe=>by rw[e]at A;rw[A]at s;cases s
  refine⟨k.map λa=> .ref a.1,?_,?_,⟨_,rfl⟩,k++[(t,l)],by rw[Ag,O];rfl,?_,?_,?_,?_,?_⟩
  ·rwa[aw<|CK Uh,aw<|CK I]
  ·rw[Aa];exact cg<|(by omega)
  ·rw[az,Al];rfl
  ·intro j b r d nP
   by_cases hj:j<k.length
   ·rw[Ax hj]at d;obtain⟨B,J⟩:=U j b r d nP;have Õ:=(y b<|Ao d).1;have n1:b.1≠D:=cf B s λz=>nomatch z;refine⟨?_,?_⟩
    ·rwa[aw n1,aw<|bz B A,aw<|bz B u]
    ·rwa[aw Õ,aw<|bz J A,aw<|bz J u]
   ·rw[Bd<|(by omega)]at d;have gN:j-k.length=0:=by
     have:=(Ac.mp d).1;simp at this;omega
    have BA:j=i:=(by omega)
    rw[gN]at d;cases d;rw[BA,Ab hi]at nP;cases nP;refine⟨?_,?_⟩
    ·rw[aw Uh,az]
    ·rw[aw I,aw<|CK Ko,az,er]
  ·rw[Al];refine oK Y λhm=>?_;obtain⟨b,d,e⟩:=Ak.mp hm;obtain⟨_,_,_,G,q⟩:=y b d;have e':b.2=l:=e;rw[e',u]at q;cases q
  ·intro b d
   obtain d|d:=Am.mp d
   ·obtain⟨B,J,q3,G,q4⟩:=y b d;refine⟨B,J,q3,G,?_⟩;rwa[aw B,aw<|bz q4 A,aw<|bz q4 u]
   ·rw[Ad.mp d];refine⟨I,Ug,nh,row n i,?_⟩;rw[aw I,aw<|CK Ko,az]
  ·intro c o L;rw[aw<|bz L M,aw<|bz L Ug,aw<|bz L nh];exact p _ _ L
 ·rintro m H' ⟨_,k,O,s,U,Y,y,p⟩;rw[Aa]at O;exact q D k H' p M (λa ha=>⟨(y a ha).2.1,(y a ha).2.2.1⟩) ⟨(by omega),s,U,Y⟩
abbrev Tn(p:Str)(j:Int):HO:= .tup [.str p,.int j]
def wU:Sp:=λb H Q _=>∃(t l:Addr)(p:Str)(a:Ð),b=[.ref t]/\H t=some (.tup [.str p,.ref l])/\H l=some (Ls a)/\a.length<=1000 /\
 ∀(L:Addr)(ts:(List Addr))(H':Hp),aj H H'->H L=none->H' L=some (.lst<|(ts.map V.ref))->ts.length=a.length->(∀(j:Nat)t,ts[j]?=some t->H' t=some (Tn p j))->Q (.ref L) H'
variable{N':Ð}{σ:St}{scope:Scope}{ifs:Ó}{tg:Expr}{X:Cx}
section
variable{elt:Expr}{A:Addr}{after:Hp->Prop}
theorem ky{lo:Int}{n:Nat}(Pv:Nat->St->Hp->Prop)(j:Pv 0 σ H)
  (k : ∀ i a H', i < n → Pv i a H' → vE X N' scope tg (.int<|lo + i) a H' λc l => vF X N' scope ifs c l λb f =>
   if b=true then vD X N' scope elt c f λv h=>∃ys,h A=some (.lst ys)/\ys.length<sizeLine/\Pv (i+1) c (upd h A<|.lst<|ys++[v])else Pv (i+1) c f)
  (hd:∀a H',Pv n a H'->after H'):lZ X N' scope tg ifs elt (sY lo n) A after σ H:=by
 refine⟨λi m a H'=>m=n-i/\i<=n/\Pv i a H',⟨_,rfl,Bx _,j⟩,?_⟩;rintro i m a H' ⟨rfl,q,p⟩
 by_cases d:i<n
 ·refine .inr ⟨d,Pv<|i+1,λa H' o=>⟨n-(i+1),(by omega),rfl,d,o⟩,λx r y=>?_⟩;obtain⟨e,y⟩:=y;subst e y;exact k i a _ d p
 ·have e:i=n:=(by omega)
  subst e;exact .inl ⟨An _,hd a H' p⟩
end
variable{Y:List (Key×V)}{r:Str×List Str}{as:Î}{n:bi}
abbrev Ui:Ð:=["row","point","ties"]
abbrev Uj:Ð:=["row","point","ties","place"]
def k8:ak Ui ["row"] (aW zR):=cm
def pV:Uj.Nodup:=by decide +kernel
theorem FF(F:bB K "ends_round" "ends_round" zR f fd)(T:Txt mg):(aE P w K mg Z bK) 1 f fd ["row"] wU:=by
 refine F.gc k8 λb0 H vs Q E hr h=>?_;obtain⟨t,l,p,zs,rfl,M,N,hz,q⟩:=h;have nd:=k8.nd;refine zp<|ae 0<|jN rfl (aQ.of M) (bw 1 nd<|bw 2 nd ?_);refine bS<|jb (aW zR) Ui Uj 1 (OH rfl T.range (ta:=vA _ _) i8 (qh _ [] _ rfl)) ?_;show Ea _ _ _ _ _;refine ah (cM eU T.len DY<|ah<|ae 2<|ax ⟨l,_,rfl,.inl<|au.of N,ax ⟨_,rfl,(by omega),by rw[Aa];omega,λD n=>?_⟩⟩);rw[Aa,Bk];refine ky (λi a H'=>(∃v,a=[(some (.ref t)),some<|.str p,(some (.ref l))]++[v])/\∃ts:(List Addr),ts.length=i/\H' D=some (.lst<|(ts.map V.ref))/\(∀(j:Nat)t,ts[j]?=some t->H' t=some (Tn p j))/\aj H H')
  ⟨⟨none,rfl⟩,[],rfl,az,λj t h=>by simp at h,aS n _⟩ ?_ ?_
 ·rintro i a H' hi ⟨⟨v,rfl⟩,ts,r,d,s,k⟩;rw[Ek];intro A B C G I;refine bw 3 pV ?_;intro A B C G I;refine ja ?_;rw[BP rfl];intro A B C G I;refine d9<|ah<|ae 1<|ah<|ae 3<|ax ⟨Z2,λu m=>?_⟩;have J:u≠D:=λe=>by rw[e,d]at m;cases m
  have x:=iR k m;refine⟨(ts.map V.ref),by rwa[aw<|CK J],by rw[Aa];exact cg (by omega),⟨_,rfl⟩,ts++[u],by rw[Ag,r];rfl,by rw[az,Al];rfl,?_,?_⟩
  ·intro j L b
   by_cases O:j<ts.length
   ·rw[Ax O]at b;have e:=s j L b;have U:L≠D:=cf e d λz=>nomatch z;rwa[aw U,aw<|bz e m]
   ·rw[Bd<|(by omega)]at b;have Y:j-ts.length=0:=by
     have:=(Ac.mp b).1;simp at this;omega
    rw[Y]at b;cases b;have:j=i:=(by omega)
    rw[this,aw J,az]
  ·intro c o y;rw[aw<|bz y n,aw<|bz y x];exact k _ _ y
 ·rintro a H' ⟨_,ts,r,d,s,k⟩;exact q D ts H' k n d r s
def iS(g:Int->Int):Sp:=λa H Q _=>∃e p j m,a=[.ref e,.int m]/\H e=some (Tn p j)/\0<m/\∀t H',aj H H'->H' t=some (Tn p<|g j%m)->Q (.ref t) H'
abbrev Uk:Ð:=["end","many","point","place"]
def lg:ak Uk ["end","many"] (aW Io):=cm
def ia:ak Uk ["end","many"] (aW Ip):=cm
def qH(F:bB K "turned_left" "turned_left" Io f fd)(T:Txt mg):(aE P w K mg Z bK) 1 f fd ["end","many"] (iS λj=>j+1):=by
 refine F.gc lg λd H i Q E k h=>?_;obtain⟨e,p,j,m,rfl,a,b,q⟩:=h;have nd:=lg.nd;refine zp<|ae 0<|jN rfl (aQ.of a) (bw 2 nd<|bw 3 nd ?_);refine bS (d9<|ah<|ae 2<|ah<|bh dh<|bh iu<|ae 3<|aG ⟨_,_,rfl,rfl,ae 1 ⟨_,_,rfl,rfl,(by show 0<m;exact b),ax ⟨Z2,λt c=>?_⟩⟩⟩);exact q t _ (aS c _) az
def xO(F:bB K "turned_right" "turned_right" Ip f fd)(T:Txt mg):(aE P w K mg Z bK) 1 f fd ["end","many"] (iS λj=>j-1):=by
 refine F.gc ia λd H i Q E k h=>?_;obtain⟨e,p,j,m,rfl,a,b,q⟩:=h;have nd:=ia.nd;refine zp<|ae 0<|jN rfl (aQ.of a) (bw 2 nd<|bw 3 nd ?_);refine bS (d9<|ah<|ae 2<|ah<|bh dh<|bh YB<|ae 3<|aG ⟨_,_,rfl,rfl,ae 1 ⟨_,_,rfl,rfl,(by show 0<m;exact b),ax ⟨Z2,λt c=>?_⟩⟩⟩);exact q t _ (aS c _) az
theorem i4:∀{acc},((acc++Y).map (·.1)).Nodup->Y.foldl (λa p=>putK a p.1 p.2) acc=acc++Y:=by
 induction Y with
 |nil=>intro acc _;simp
 |cons p r b=>
  intro acc h;have c:aF acc p.1=none:=by
   cases e:aF acc p.1 with
   |none=>rfl
   |some v=>
    have d:=PD e;rw[Al,Ba]at h;exact absurd rfl ((Co.mp h).2.2 _ d _ Ae)
  rw[Dh,Pu _ c,b (by rwa[Ar]),Ar];rfl
theorem Ul:∀{Y:List (Key×V)}{i:Nat}{p:Key×V},(Y.map (·.1)).Nodup->Y[i]?=some p->aF Y p.1=some p.2
 |[],_,_,_,h=>by simp at h
 |q :: r,0,p,_,h=>by
  cases h;exact iJ rfl
 |q :: r,i+1,p,a,h=>by
  rw[Ba,Bh]at a;have b:r[i]?=some p:=by simpa using h
  rw[iw λe=>a.1<|by rw[e];exact Ak.mpr ⟨p,Ao b,rfl⟩];exact Ul a.2 b
def iT(n:bi)(as:Î):List (Key×V):=List.zipWith (λr a=>(Sum.inr r.1,V.ref a.2)) n as
theorem Um:∀n as,as.length=n.length->(iT n as).map (·.1)=(n.map (·.1)).map Sum.inr
 |[],[],_=>rfl
 |[],_ :: _,h=>by simp at h
 |_ :: _,[],h=>by simp at h
 |r :: n,a :: as,h=>by
  have:=Um n as (by simpa using h);show Sum.inr r.1 :: (iT n as).map (·.1)=_;rw[this];rfl
def Uo{a:Addr×Addr}(b:n[i]?=some r)(c:as[i]?=some a):(iT n as)[i]?=some (Sum.inr r.1,.ref a.2):=by
 unfold iT;rw[List.getElem?_zipWith,b,c]
def mY{l:Ð}(h:l.Nodup):(l.map (Sum.inr:Str->Key)).Nodup:=by
 rw[By,Dr];exact(By.mp h).imp λh q=>h<|Sum.inr.inj q
def nameAt(n:bi)(r:Nat):Str:=((n[r]?).map (·.1)).getD ⟨#[]⟩
def ff(n:bi)(e:Nt.bc):List Key:=[Sum.inr<|nameAt n e.1,Sum.inl (e.2:Int)]
abbrev TN(n:bi)(e:Nt.bc):HO:=Tn (nameAt n e.1) (e.2:Int)
def uh{r:Nat}(h:r<n.length):nameAt n r=n[r].1:=by unfold nameAt;rw[Ab h];rfl
variable{a:Nt.bc}
theorem rF(d:(n.map (·.1)).Nodup){b:Nt.bc}(e:a.1<n.length)(f:b.1<n.length)(h:ff n a=ff n b):a=b:=by
 unfold ff at h
 injection h with i c
 injection c with c _
 have j:=Sum.inr.inj i;have o:=Sum.inl.inj c;rw[uh e,uh f]at j;have k:a.1=b.1:=by
  have l:a.1<(n.map (·.1)).length:=by rwa[Aa]
  have m:b.1<(n.map (·.1)).length:=by rwa[Aa]
  refine(Gy (h₀:=l) (h₁:=m) d).mp ?_;rwa[Ed,Ed]
 exact HJ k<|(by omega)
variable{z:Str}
def wV{r p:Nat}(b:r<n.length)(c:(row n r)[p]?=some z):∃a,bn n=(bn (n.take r)++bF r ((row n r).take p) 0)++(z,(r,p)):: a:=by
 have d:bn n=bn (n.take<|r+1)++fv (0+(n.take<|r+1).length) (n.drop<|r+1):=by
  have:=Ik (n.take<|r+1) (n.drop<|r+1) 0;rwa[Cw]at this
 have e:bF r (row n r) 0=bF r ((row n r).take<|p+1) 0++bF r ((row n r).drop<|p+1) (0+((row n r).take<|p+1).length):=by
  unfold bF;rw[<-Al,<-QW,Cw]
 rw[d,tQ b,e,qK c];refine⟨bF r ((row n r).drop<|p+1) (0+((row n r).take<|p+1).length)++fv (0+(n.take<|r+1).length) (n.drop<|r+1),?_⟩;simp only[Ar,Fz,Hk]
def Uq{κ:Type}[DecidableEq κ](Y:List<|κ×V)(k:κ)(v:V):(putK Y k v).map (·.1)=if k∈Y.map (·.1)then Y.map (·.1)else Y.map (·.1)++[k]:=by
 have e:(Y.any λc=>decide (c.1=k))=decide (k∈Y.map (·.1)):=by
  rw[Cf,List.any_eq_true,CN,Ak];exact⟨λ⟨p,a,b⟩=>⟨p,a,BX b⟩,λ⟨p,a,b⟩=>⟨p,a,BW b⟩⟩
 unfold putK;rw[e]
 by_cases h:k∈Y.map (·.1)
 ·rw[BP<|BW h,BP h,Bs];refine Ap λp _=>?_;show(if p.1=k then(p.1,v)else p).1=p.1
  split<;>rfl
 ·rw[BL (by simpa using h),BL h,Al];rfl
def ib{κ:Type}[DecidableEq κ]{Y:List (κ×V)}{k j:κ}{v:V}:j∈(putK Y k v).map (·.1)↔j∈Y.map (·.1)\/j=k:=by
 rw[Uq]
 split
 ·exact⟨.inl,λh=>h.elim id λe=>by rw[e];assumption⟩
 ·rw[Am,Ad]
def Ur{κ:Type}[DecidableEq κ]{Y:List (κ×V)}{k:κ}{v:V}(h:(Y.map (·.1)).Nodup):((putK Y k v).map (·.1)).Nodup:=by
 rw[Uq]
 split
 ·exact h
 ·rename_i a;exact oK h a
structure jS(n:bi)(done:List<|Str×Nt.bc)(H:Hp)(kM:List<|Key×V)(kO:List<|List Key×V):Prop where
 m0:∀z,bT done z=[]->aF kM (Sum.inr z)=none
 m1:∀z a rest,bT done z=a :: rest->∃t,aF kM (Sum.inr z)=some (.ref t)/\H t=some (TN n a)
 o:∀z a b rest,bT done z=a :: b :: rest->(∃u,aF kO (ff n a)=some (.ref u)/\H u=some (TN n b))/\∃u,aF kO (ff n b)=some (.ref u)/\H u=some (TN n a)
 sub:∀p∈done,aJ n p.2=some p.1
 eQ:kM.length<=done.length
 gy:kO.length<=2*done.length
 ks:∀k∈kO.map (·.1),∃p∈done,k=ff n p.2
 nd:(kO.map (·.1)).Nodup
variable{kO:List (List Key×V)}{kM:List (Key×V)}{done:List (Str×Nt.bc)}
def jS.keep(I:jS n done H kM kO)(k:∀t p j,H t=some (Tn p j)->H' t=some (Tn p j)):jS n done H' kM kO where
 m0:=I.m0
 m1:=λz a rest h=>let ⟨t,e1,e2⟩:=I.m1 z a rest h;⟨t,e1,k _ _ _ e2⟩
 o:=λz a b rest h=>let ⟨⟨u,e1,e2⟩,⟨v,e3,e4⟩⟩:=I.o z a b rest h;⟨⟨u,e1,k _ _ _ e2⟩,⟨v,e3,k _ _ _ e4⟩⟩
 sub:=I.sub
 eQ:=I.eQ
 gy:=I.gy
 ks:=I.ks
 nd:=I.nd
def wW(h:a∈bT done z):(z,a)∈done:=by
 unfold bT at h;obtain⟨⟨y,b⟩,c,rfl⟩:=Ak.mp h;obtain⟨d,e⟩:=Bf.mp c;have:y=z:=BX e;subst this;exact d
variable{e:Nt.bc}
theorem jS.new(I:jS n done H kM kO){t:Addr}(ht:H t=some (TN n e))(hz:aJ n e=some z)(h0:bT done z=[]):
  jS n (done++[(z,e)]) H (putK kM (Sum.inr z)<|.ref t) kO where
 m0:=λy hy=>by
  rw[dI]at hy;obtain⟨h1,h2⟩:=Fk.mp hy;have bD:¬ z=y:=λq=>by rw[BP q]at h2;cases h2
  rw[d8,BL λq=>bD (Sum.inr.inj q).symm];exact I.m0 y h1
 m1:=λy a rest hy=>by
  rw[dI]at hy
  by_cases q:z=y
  ·subst q;rw[h0,BP rfl]at hy;cases hy;exact⟨t,by rw[d8,BP rfl],ht⟩
  ·rw[BL q,Bp]at hy;obtain⟨u,e1,e2⟩:=I.m1 y a rest hy;exact⟨u,by rwa[d8,BL λp=>q (Sum.inr.inj p).symm],e2⟩
 o:=λy a b rest hy=>by
  rw[dI]at hy
  by_cases q:z=y
  ·subst q;rw[h0,BP rfl]at hy;cases hy
  ·rw[BL q,Bp]at hy;exact I.o y a b rest hy
 sub:=λp hp=>by
  obtain h|h:=Am.mp hp
  ·exact I.sub p h
  ·rwa[Ad.mp h]
 eQ:=by
  have:=jD kM (Sum.inr z)<|.ref t;have:=I.eQ;rw[Ag,Dc];omega
 gy:=by
  have:=I.gy;rw[Ag,Dc];omega
 ks:=λk hk=>let ⟨p,hp,e⟩:=I.ks k hk;⟨p,Bb _ hp,e⟩
 nd:=I.nd
theorem jS.old(hN:(n.map (·.1)).Nodup)(I:jS n done H kM kO){te tm:Addr}(ht:H te=some (TN n e))(hm:H tm=some (TN n a))(hz:aJ n e=some z)(h1:bT done z=[a])(hae:a≠e):
  jS n (done++[(z,e)]) H kM (putK (putK kO (ff n e)<|.ref tm) (ff n a)<|.ref te) where
 m0:=λy hy=>by
  rw[dI]at hy;exact I.m0 y (Fk.mp hy).1
 m1:=λy c rest hy=>by
  rw[dI]at hy
  by_cases q:z=y
  ·subst q;rw[h1,BP rfl]at hy;cases hy;exact I.m1 z a [] h1
  ·rw[BL q,Bp]at hy;exact I.m1 y c rest hy
 o:=λy c b rest hy=>by
  rw[dI]at hy;have ta:=I.sub (z,a)<|wW<|by rw[h1];exact Ad.mpr rfl
  by_cases q:z=y
  ·subst q;rw[h1,BP rfl]at hy;cases hy;refine⟨⟨te,by rw[d8,BP rfl],ht⟩,⟨tm,?_,hm⟩⟩;rw[d8,BL λp=>hae (rF hN (cB hz) (cB ta) p).symm,d8,BP rfl]
  ·rw[BL q,Bp]at hy;have tc:=I.sub (y,c) (wW<|by rw[hy];exact Ae);have tb:=I.sub (y,b) (wW<|by rw[hy];exact Af _ Ae);have ne:∀x:Nt.bc,aJ n x=some y->¬ ff n x=ff n a/\¬ ff n x=ff n e:=λx hx=>by
    refine⟨λp=>?_,λp=>?_⟩
    ·have:=rF hN (cB hx) (cB ta) p;rw[this,ta]at hx;exact q<|Option.some.inj hx
    ·have:=rF hN (cB hx) (cB hz) p;rw[this,hz]at hx;exact q<|Option.some.inj hx
   obtain⟨⟨u,e1,e2⟩,⟨v,e3,e4⟩⟩:=I.o y c b rest hy;refine⟨⟨u,?_,e2⟩,⟨v,?_,e4⟩⟩
   ·rwa[d8,BL (ne c tc).1,d8,BL (ne c tc).2]
   ·rwa[d8,BL (ne b tb).1,d8,BL (ne b tb).2]
 sub:=λp hp=>by
  obtain h|h:=Am.mp hp
  ·exact I.sub p h
  ·rwa[Ad.mp h]
 eQ:=by
  have:=I.eQ;rw[Ag,Dc];omega
 gy:=by
  have h1:=jD (putK kO (ff n e)<|.ref tm) (ff n a)<|.ref te;have h2:=jD kO (ff n e)<|.ref tm;have:=I.gy;rw[Ag,Dc];omega
 ks:=λk hk=>by
  obtain hk|rfl:=ib.mp hk
  ·obtain hk|rfl:=ib.mp hk
   ·obtain⟨p,hp,e⟩:=I.ks k hk;exact⟨p,Bb _ hp,e⟩
   ·exact⟨(z,e),Au _<|Ad.mpr rfl,rfl⟩
  ·exact⟨(z,a),Bb _ (wW<|by rw[h1];exact Ad.mpr rfl),rfl⟩
 nd:=Ur<|Ur I.nd
def jS.whole(T:aq n)(I:jS n (bn n) H kM kO)(h:e∈ends n):∃u,aF kO (ff n e)=some (.ref u)/\H u=some (TN n<|(other n e)):=by
 obtain⟨z,c⟩:=af.mp h;obtain⟨a,b,d,f,i⟩:=qJ T c;have j:=d;have k:aJ n a=some z:=aK.mp (by rw[d];simp);have l:aJ n b=some z:=aK.mp (by rw[d];simp);obtain⟨m,o⟩:=I.o z a b [] j
 obtain rfl|rfl:=i
 ·have:b=(other n e):=((kd T c).mp l).resolve_left<|CK f;rw[<-this];exact m
 ·have:a=(other n e):=((kd T c).mp k).resolve_left f;rw[<-this];exact o
def lh:Sp:=λa H Q _=>∃R as n,a=[.ref R]/\ai H R as n/\(n.map (·.1)).Nodup/\aq n/\n.length<=1000/\(ag n).length<=1000 /\
 ∀d Y H',aj H H'->H d=none->H' d=some (.dT Y)->(∀e∈ends n,∃u,aF Y (ff n e)=some (.ref u)/\H' u=some (TN n<|(other n e)))->(Y.map (·.1)).Nodup->(∀k∈Y.map (·.1),∃e∈ends n,k=ff n e)->Y.length<=2000->Q (.ref d) H'
variable{body:Ô}
section
variable{D:wf}
theorem TZ{a b:Addr}{ys:List V}{after:St->Hp->Prop}(h:xs.length=ys.length)(Pv:Nat->St->Hp->Prop)(k:Pv 0 σ H)(l:∀i σ H,i<=xs.length->Pv i σ H->au X.K H a xs/\au X.K H b ys)
  (n:∀i x y T σ H,xs[i]?=some x->ys[i]?=some y->Pv i σ H->H T=none->Eg X tg (.ref T) σ (upd H T<|.tup [x,y]) λc o=>ge X body {D with nx:=Pv<|i+1,ct:=Pv<|i+1,bk:=after} c o) (hd:∀σ H,Pv xs.length σ H->after σ H):wP X tg body (AI X.K a b) D after σ H:=by
 refine⟨λi m σ H=>m=xs.length-i/\i<=xs.length/\Pv i σ H,⟨xs.length,by simp,Bx _,k⟩,?_⟩;rintro i m σ H ⟨rfl,q,p⟩;obtain⟨d,f⟩:=l i σ H q p
 by_cases j:i<xs.length
 ·refine .inr ⟨⟨xs,ys,xs[i],ys[i],d,f,Ab j,Ab<|(by omega)⟩,Pv<|i+1,λr H' s=>⟨xs.length-(i+1),(by omega),rfl,j,s⟩,λv H' y=>?_⟩;obtain⟨T,x,y,t,rfl,rfl,u,w⟩:=y;exact n i x y T σ _ (u xs d) (w ys f) p t
 ·have e:i=xs.length:=(by omega)
  subst e;exact .inl ⟨⟨xs,ys,d,f,.inl<|An _⟩,hd σ H p⟩
end
abbrev Ij:Ð:=["rows","met","others","row","end","tie"]
def wX:ak Ij ["rows"] (aW Iq):=cm
def Us{t:Addr}(h:H t=some (.tup xs))(g:H d=some (.dK Y)):t≠d:=cf h g λz=>nomatch z
def rG{t:Addr}{Y:List (List Key×V)}(h:H t=some (.tup xs))(g:H d=some (.dT Y)):t≠d:=cf h g λz=>nomatch z
theorem WE(F:bB K "other_ends" "other_ends" Iq f fd)(T:Txt mg)
  (GE:(aP P w K mg Z) 1 "ends_round" ["row"] wU):
  (aE P w K mg Z bK) 2 f fd ["rows"] lh:=by
 refine F.gc wX λb0 H vs Q E hr h=>?_;obtain⟨R,as,n,rfl,hR,hN,hT,hn,ht,q⟩:=h;have nd:=wX.nd;have cq:=hR.len;have J:=hr.u1;refine aZ 1 nd<|Ih λd qV=>?_;refine aZ 2 nd<|q15 λc Kr=>?_;have Y:c≠d:=λe=>by rw[e,az]at Kr;cases Kr
 have rH:H c=none:=by rwa[aw Y]at Kr
 have em:(upd (upd H d<|.dK []) c<|.dT []) d=some (.dK []):=by rw[aw<|CK Y,az]
 have eo:(upd (upd H d<|.dK []) c<|.dT []) c=some (.dT []):=az;have s0:aj H (upd (upd H d<|.dK []) c<|.dT []):=λb o h=>by rwa[aw<|bz h rH,aw<|bz h qV]
 generalize upd (upd H d<|.dK []) c (.dT [])=H1 at em eo s0 ⊢;refine jF<|ae 0 ⟨R,rfl,⟨_,au.of<|s0 _ _ hR.lst⟩,jG (xs:=as.map λa=>V.ref a.1) (λr σ H'=>∃kM kO u1 s u,aj H H'/\H' d=some (.dK kM)/\H' c=some (.dT kO)/\jS n (bn<|n.take r) H' kM kO/\σ=[(some (.ref R)),(some (.ref d)),(some (.ref c)),u1,s,u])
  ⟨[],[],_,_,_,s0,em,eo,⟨λ_ _=>rfl,λz a i h=>(by cases h),λz a b i h=>(by cases h),λp h=>(by cases h),Bx _,Bx _,λk h=>(by cases h),Cd⟩,rfl⟩ ?_ ?_ ?_⟩
 ·rintro r σ H' _ ⟨kM,kO,u1,s,u,M,_⟩;exact au.of<|M _ _ hR.lst
 ·rintro r x σ H' N ⟨kM,kO,u1,s,u,M,Ut,Ks,I,rfl⟩;have hi:r<n.length:=by
   have:=(Ac.mp N).1;rw[Aa]at this;omega
  obtain⟨a,ea,dJ,et,el,er⟩:=(hR.same M).at hi;rw[Ah,ea]at N;cases N;have iQ:(row n r).length<=1000:=Ch (jf n r) ht;have Ö:nameAt n r=n[r].1:=uh hi;refine bw 3 nd ?_;refine F7 (R0 rfl T.zip (ta:=vA _ _) i8) ?_;show Ea _ _ _ _ _;refine ah<|bC GE hr<|ah<|ae 3<|ax ⟨a.1,a.2,n[r].1,row n r,rfl,et,el,iQ,λL ts H5 D n5 e5 l5 t5=>?_⟩;refine ah<|a8 bQ<|ae 3<|aG ⟨a.1,_,_,.ref a.2,rfl,rfl,aQ.of<|D _ _ et,rfl,ax ⟨L,a.2,rfl,⟨_,au.of e5⟩,⟨_,au.of<|D _ _ el⟩,?_⟩⟩;have BD:=D _ _ Ut;have BE:=D _ _ Ks;have ui:=D _ _ el;refine TZ (xs:=(ts.map V.ref)) (ys:=(row n r).map V.str) (by rw[Aa,Aa,l5]) (λp v l=>∃kM kO s u,(∀b o,b≠d->b≠c->H5 b=some o->l b=some o)/\l d=some (.dK kM)/\l c=some (.dT kO)/\jS n (bn (n.take r)++bF r ((row n r).take p) 0) l kM kO/\v=[(some (.ref R)),(some (.ref d)),(some (.ref c)),some<|.ref a.1,s,u])
   ⟨kM,kO,_,_,λb o _ _ h=>h,BD,BE,?_,rfl⟩ ?_ ?_ ?_
  ·have:bF r ((row n r).take 0) 0=[]:=by simp[bF]
   rw[this,Bp];exact I.keep λt p j h=>D _ _ h
  ·rintro p v l _ ⟨kM,kO,s,u,G,_,_,_,rfl⟩;exact⟨au.of (G _ _ (cf e5 BD λz=>nomatch z) (cf e5 BE λz=>nomatch z) e5),au.of<|G _ _ (cf ui BD λz=>nomatch z) (cf ui BE λz=>nomatch z) ui⟩
  ·rintro p x y Tt v l N hy ⟨kM,kO,s,u,G,BF,BG,I6,rfl⟩ jT;rw[Ah,Az]at N hy;obtain⟨B,lq,rfl⟩:=N;obtain⟨z,hz,rfl⟩:=hy;have nU:=t5 p B lq;have BH:l B=some (Tn n[r].1 p):=G _ _ (Us nU BD) (rG nU BE) nU;have nV:aJ n (r,p)=some z:=hz;obtain⟨i,eS⟩:=wV hi hz;have Õ:(bn (n.take r)++bF r ((row n r).take p) 0).length<1000:=by
    have A:(bn n).length=(ag n).length:=by
     have:=BZ List.length<|kJ n 0;rwa[Aa]at this
    have m:=BZ List.length eS;rw[Ag,As]at m;omega
   have jt:bn (n.take r)++bF r ((row n r).take<|p+1) 0=(bn (n.take r)++bF r ((row n r).take p) 0)++[(z,(r,p))]:=by
    rw[qK hz,Ar]
   have lv:∀b,b∈bT (bn (n.take r)++bF r ((row n r).take p) 0) z->b≠(r,p):=λb hb e=>by
    have hm:=wW hb;have ni:=kc n;unfold ends at ni;rw[eS,Al,Ba]at ni;exact(Co.mp ni).2.2 _ (Ak.mpr ⟨_,hm,rfl⟩) _ Ae e
   have wZ:(bT (bn (n.take r)++bF r ((row n r).take p) 0) z).length<=1:=by
    have A:(pos n z).length=2:=by rw[qI];exact hT z<|eV nV
    have m:pos n z=bT (bn (n.take r)++bF r ((row n r).take p) 0) z++bT ((z,(r,p)):: i) z:=by
     show bT (bn n) z=_;rw[eS];unfold bT;rw[Cv,Al]
    have h3:1<=(bT ((z,(r,p)):: i) z).length:=by
     unfold bT;rw[Do,BP<|by simp];simp
    rw[m,Ag]at A;omega
   generalize bn (n.take r)++bF r ((row n r).take p) 0=done at I6 Õ jt lv wZ;rw[jt];have Ù:Tt≠d:=λe=>by rw[e,BF]at jT;cases jT
   have Ú:Tt≠c:=λe=>by rw[e,BG]at jT;cases jT
   have s7:=aS jT<|.tup [.ref B,.str z];have Kt:∀b o,b≠d->b≠c->H5 b=some o->(upd l Tt<|.tup [.ref B,.str z]) b=some o:=λb o A m h=>s7 _ _<|G b o A m h;have w5:=s7 _ _ BF;have w6:=s7 _ _ BG;have C:=I6.keep (H':=upd l Tt<|.tup [.ref B,.str z]) λt p j h=>s7 _ _ h;have rJ:=s7 _ _ BH;refine jN rfl (aQ.of az) (bw 4 nd<|bw 5 nd ?_);generalize upd l Tt (.tup [.ref B,.str z])=H7 at Kt w5 w6 C rJ;have rK:H7 B=some (TN n (r,p)):=by
    show H7 B=some (Tn (nameAt n r) p);rwa[Ö]
   have hM:kM.length<sizeLine:=cg (by have:=C.eQ;omega);have hO:kO.length<sizeLine:=cg (by have:=C.gy;omega);refine dP<|Rf J<|ae 5<|ae 1 ⟨d,_,rfl,bb.k (k:=Sum.inr z) w5,?_⟩
   match O:bT done z with
   |[]=>
    rw[C.m0 z O];show if false=true then _ else _;rw[BL Aw];refine vU J<|ae 4<|ae 1<|ae 5 ⟨d,_,rfl,cw.k (k:=Sum.inr z) w5 hM,a9<|a9 ⟨_,kO,_,_,λb o A m h=>?_,az,?_,?_,rfl⟩⟩
    ·rw[aw A];exact Kt b o A m h
    ·rwa[aw Y]
    ·exact(C.new rK nV O).keep λt p j h=>by rwa[aw<|Us h w5]
   |b :: more=>
    have w8:more=[]:=by
     rw[O,As]at wZ;exact Bv.mp<|(by omega)
    subst w8;obtain⟨U,vm,Uu⟩:=C.m1 z b [] O;rw[vm];show if true=true then _ else _;rw[BP rfl];have mK:b≠(r,p):=lv b (by rw[O];exact Ad.mpr rfl);refine vU J (gJ J<|ae 1<|ae 5 ⟨d,.ref U,rfl,by rw[<-vm];exact bb.k (k:=Sum.inr z) w5,ae 2<|ae 4 ⟨c,_,rfl,cw.t (k:=ff n (r,p)) w6 rK hO,?_⟩⟩);have Û:=jD kO (ff n (r,p))<|.ref U;have Ü:=C.gy;have Ø:(upd H7 c<|.dT<|putK kO (ff n (r,p))<|.ref U) d=some (.dK kM):=by rwa[aw<|CK Y]
    have Ku:(upd H7 c<|.dT<|putK kO (ff n (r,p))<|.ref U) U=some (TN n b):=by rwa[aw<|rG Uu w6]
    refine vU J<|ae 4<|ae 2<|gJ J<|ae 1<|ae 5 ⟨d,.ref U,rfl,by rw[<-vm];exact bb.k (k:=Sum.inr z) Ø,c,_,rfl,cw.t (k:=ff n b) az Ku (cg<|(by omega)),a9<|a9 ⟨kM,_,_,_,λb o A m h=>?_,?_,az,?_,rfl⟩⟩
    ·rw[aw m,aw m];exact Kt b o A m h
    ·rwa[aw<|CK Y]
    ·exact(C.old hN rK Uu nV O mK).keep λt p j h=>by rwa[aw<|rG h w6,aw<|rG h w6]
  ·rintro v l ⟨kM,kO,s,u,G,BF,BG,I6,rfl⟩;refine a9 ⟨kM,kO,_,_,_,λb o h=>?_,BF,BG,?_,rfl⟩
   ·exact G b o (bz h qV) (bz h rH)<|D _ _<|M _ _ h
   ·rw[Aa,l5,Ca]at I6;rwa[tQ hi]
 ·rintro σ H' ⟨kM,kO,u1,s,u,M,Ut,Ks,I,rfl⟩;rw[Aa,cq,Ca]at I;have lO:=I.gy;have ls:(bn n).length=(ag n).length:=by rw[<-kJ n 0,Aa];rfl
  exact bS<|ae 2<|q c kO H' M rH Ks (λe he=>I.whole hT he) I.nd (λk hk=>let ⟨p,hp,e⟩:=I.ks k hk;⟨p.2,Ak.mpr ⟨p,hp,rfl⟩,e⟩)<|(by omega)
def nW(n:bi)(H:Hp)(a:(List Addr))(done:List<|Str×Nt.bc):Prop:=a.length=done.length/\∀(j:Nat)u p,a[j]?=some u->done[j]?=some p->H u=some (TN n p.2)
variable{us:(List Addr)}
def nW.keep(h:nW n H us done)(k:∀t p j,H t=some (Tn p j)->H' t=some (Tn p j)):nW n H' us done:=⟨h.1,λj u p a b=>k _ _ _<|h.2 j u p a b⟩
variable{p:Str×Nt.bc}
theorem nW.snoc{u:Addr}(h:nW n H us done)(k:∀t p j,H t=some (Tn p j)->H' t=some (Tn p j))(d:H' u=some (TN n p.2)):nW n H' (us++[u]) (done++[p]):=by
 obtain⟨e,f⟩:=h;refine⟨by rw[Ag,Ag,e];rfl,λj v x a b=>?_⟩
 by_cases i:j<us.length
 ·rw[Ax i]at a;rw[Ax<|(by omega)]at b;exact k _ _ _<|f j v x a b
 ·rw[Bd<|(by omega)]at a b;have l:j-us.length=0:=by
   have:=(Ac.mp a).1;simp at this;omega
  have c:j-done.length=0:=(by omega)
  rw[l]at a;rw[c]at b;cases a;cases b;exact d
variable{inner:Sem Unit}
section
variable{a b:Addr}{ys:List V}{after:St->Hp->Prop}
theorem w9(Pv:Nat->St->Hp->Prop)(j:Pv 0 σ H)(k:∀i c H',i<=xs.length->Pv i c H'->au X.K H' a xs)
  (l:∀i x c H',xs[i]?=some x->Pv i c H'->Eg X tg x c H' λd n=>Ei X ifs d n λb f=>if b=true then l7 X inner d f (Pv<|i+1)else Pv (i+1) d f)
  (hd:∀c H',Pv xs.length c H'->after c H'):iK X tg ifs inner (pY X.K a) after σ H:=by
 refine⟨λi m c H'=>m=xs.length-i/\i<=xs.length/\Pv i c H',⟨_,rfl,Bx _,j⟩,?_⟩;rintro i m c H' ⟨rfl,o,p⟩;have q:=k i c H' o p
 by_cases h:i<xs.length
 ·refine .inr ⟨⟨xs,xs[i],q,by simp[h]⟩,Pv<|i+1,λc H' r=>⟨xs.length-(i+1),(by omega),rfl,h,r⟩,λx s y=>?_⟩;obtain⟨e,y⟩:=y;subst e;exact l i x c _ (y xs q) p
 ·have e:i=xs.length:=(by omega)
  subst e;exact .inl ⟨⟨xs,q,An _⟩,hd c H' p⟩
theorem WP(j:xs.length=ys.length)(Pv:Nat->St->Hp->Prop)(n:Pv 0 σ H)(o:∀i c H',i<=xs.length->Pv i c H'->au X.K H' a xs/\au X.K H' b ys)
  (q:∀i x y T c H',xs[i]?=some x->ys[i]?=some y->Pv i c H'->H' T=none->Eg X tg (.ref T) c (upd H' T<|.tup [x,y]) λd r=>Ei X ifs d r λb k=>if b=true then l7 X inner d k (Pv<|i+1)else Pv (i+1) d k)
  (hd:∀c H',Pv xs.length c H'->after c H'):iK X tg ifs inner (AI X.K a b) after σ H:=by
 refine⟨λi m c H'=>m=xs.length-i/\i<=xs.length/\Pv i c H',⟨_,rfl,Bx _,n⟩,?_⟩;rintro i m c H' ⟨rfl,s,p⟩;obtain⟨f,h⟩:=o i c H' s p
 by_cases l:i<xs.length
 ·refine .inr ⟨⟨xs,ys,xs[i],ys[i],f,h,Ab l,Ab<|(by omega)⟩,Pv<|i+1,λc H' t=>⟨xs.length-(i+1),(by omega),rfl,l,t⟩,λv A y=>?_⟩;obtain⟨T,x,y,u,rfl,rfl,w,z⟩:=y;exact q i x y T c _ (w xs f) (z ys h) p u
 ·have e:i=xs.length:=(by omega)
  subst e;exact .inl ⟨⟨xs,ys,f,h,.inl<|An _⟩,hd c H' p⟩
end
def BI:Sp:=λa H Q _=>∃R as n,a=[.ref R]/\ai H R as n/\n.length<=1000/\(ag n).length<=1000 /\
 ∀L ts H',aj H H'->H L=none->H' L=some (.lst<|(ts.map V.ref))->nW n H' ts (bn n)->Q (.ref L) H'
abbrev Uv:Ð:=["rows"]
abbrev Uw:Ð:=["rows","row","end"]
def ju:ak Uv ["rows"] (aW zS):=cm
def Ux:Uw.Nodup:=by decide +kernel
theorem vq(F:bB K "ends_in_order" "ends_in_order" zS f fd)(T:Txt mg)
  (GE:(aP P w K mg Z) 1 "ends_round" ["row"] wU):
  (aE P w K mg Z bK) 2 f fd ["rows"] BI:=by
 refine F.gc ju λb0 H vs Q E hr h=>?_;obtain⟨R,as,n,rfl,v,hn,ht,q⟩:=h;have cq:=v.len;refine bS<|q3i (aW zS) Uv Uw 2 (gD bI)<|ae 0 ⟨R,rfl,⟨_,au.of v.lst⟩,λD M cl C æ ç ex=>?_⟩;refine w9 (xs:=as.map λa=>V.ref a.1) (λr c H'=>(∃v1 i,c=[(some (.ref R))]++[v1,i])/\∃ts:(List Addr),aj H H'/\H' D=some (.lst<|(ts.map V.ref))/\nW n H' ts (bn<|n.take r)) ⟨⟨none,none,rfl⟩,[],aS M _,az,⟨rfl,λj u p h=>(by cases h)⟩⟩ ?_ ?_ ?_
 ·rintro r c H' _ ⟨_,ts,k,_⟩;exact au.of<|k _ _ v.lst
 ·rintro r x c H' l ⟨⟨v1,i,rfl⟩,ts,k,s,y⟩;have A:r<n.length:=by
   have:=(Ac.mp l).1;rw[Aa]at this;omega
  obtain⟨a,ea,dJ,et,el,er⟩:=(v.same k).at A;rw[Ah,ea]at l;cases l;have iQ:=Ch (jf n r) ht;refine bw 1 Ux ?_;refine ja ?_;rw[BP rfl];refine pz rfl rfl (gD bI) (bC GE hr<|ah<|ae 1<|ax ⟨a.1,a.2,n[r].1,row n r,rfl,et,el,iQ,λL us O B U Y l5 t5=>⟨L,rfl,⟨_,au.of Y⟩,?_⟩⟩);have Kv:L≠D:=λe=>by rw[e,s]at U;cases U
  refine w9 (xs:=us.map V.ref) (λp c d=>(∃i,c=[(some (.ref R))]++[some<|.ref a.1,i])/\∃ts:(List Addr),(∀b o,b≠D->O b=some o->d b=some o)/\d D=some (.lst<|(ts.map V.ref))/\nW n d ts (bn (n.take r)++bF r ((row n r).take p) 0))
   ⟨⟨_,rfl⟩,ts,λb o _ h=>h,B _ _ s,by simpa[bF]using y.keep (H':=O) λt p j h=>B _ _ h⟩ ?_ ?_ ?_
  ·rintro p c d _ ⟨_,ts,m,_⟩;exact au.of<|m _ _ Kv Y
  ·rintro p x c d l ⟨⟨i,rfl⟩,ts,m,G,I⟩;rw[Ah,Az]at l;obtain⟨J,lq,rfl⟩:=l;have hp:p<(row n r).length:=by have:=(Ac.mp lq).1;omega
   have N:(row n r)[p]?=some (row n r)[p]:=Ab hp;generalize (row n r)[p]=z at N;have nU:=t5 p J lq;have BO:J≠D:=cf nU (B _ _ s) λz=>nomatch z;have BH:=m _ _ BO nU;obtain⟨Õ,eS⟩:=wV A N;have Ö:ts.length<1000:=by
    have h1:(bn n).length=(ag n).length:=by
     have:=BZ List.length<|kJ n 0;rwa[Aa]at this
    have h2:=BZ List.length eS;rw[Ag,As]at h2;have:=I.1;omega
   refine bw 2 Ux ?_;refine ja ?_;rw[BP rfl];refine Qf (ae 2 ⟨(ts.map V.ref),G,by rw[Aa];exact cg (by omega),⟨_,rfl⟩,ts++[J],λb o hb h=>by rw[aw hb];exact m b o hb h,by rw[az,Al];rfl,?_⟩);rw[qK N,<-Ar];refine I.snoc (λt p j h=>by rwa[aw<|cf h G λz=>nomatch z]) ?_;rw[aw BO];show d J=some (Tn (nameAt n r) p);rwa[uh A]
  ·rintro c d ⟨⟨i,rfl⟩,ts,m,G,I⟩;refine⟨⟨_,_,rfl⟩,ts,λb o h=>m b o (bz h M)<|B _ _<|k _ _ h,G,?_⟩;rwa[Aa,l5,Ca,<-tQ A]at I
 ·rintro c H' ⟨_,ts,k,s,y⟩;rw[Aa,cq,Ca]at y;exact q D ts H' k M s y
theorem vo{p c:Str}{j d:Int}:∀i u v,[V.str p,.int j][i]?=some u->[V.str c,.int d][i]?=some v->qG X H 0 u v (if i=0 then c6 (.str p) (.str c)else c6 (.int j) (.int d))
 |0,u,v,a,b=>by
  cases a;cases b;exact zH rfl rfl
 |1,u,v,a,b=>by
  cases a;cases b;exact zH rfl rfl
 |i+2,u,v,a,b=>by simp at a
def WF(p a:Str)(j b:Int):(c6 (.str p) (.str a) && c6 (.int j) (.int b))=decide (p=a/\j=b):=by
 show((p == a) && (j == b))=_
 by_cases h:p=a<;>by_cases c:j=b<;>simp[h,c]
def Uy{s t:Addr}{p a:Str}{j b:Int}(c:H s=some (Tn p j))(d:H t=some (Tn a b)):tO X H 1 (.ref s) (.ref t) (decide (p=a/\j=b)):=by
 have:=Q9 (X:=X) (λi=>if i=0 then c6 (.str p) (.str a)else c6 (.int j) (.int b)) (aQ.of c) (aQ.of d) rfl vo;rw[show([V.str p,.int j].length)=2 from rfl,AD]at this;have e:=WF p a j b;simp only[CZ]at this;rwa[BL (by decide),e]at this
def lz:Sp:=λa H Q _=>∃R as n,a=[.ref R]/\ai H R as n/\(n.map (·.1)).Nodup/\n.length<=1000/\(ag n).length<=1000 /\
 ∀d Y H',aj H H'->H d=none->H' d=some (.dT Y)->(∀e z,aJ n e=some z->aF Y (ff n e)=some (.str z))->Q (.ref d) H'
variable{c:Int}{es v:List Nt.bc}{zs:Ð}{ws:List (List Nt.bc)}
section
abbrev Uz:Ð:=["rows"]
abbrev UA:Ð:=["rows","row","end","tie"]
def Kw:ak Uz ["rows"] (aW zT):=cm
def Kx:UA.Nodup:=by decide +kernel
theorem rz(F:bB K "ties_by_end" "ties_by_end" zT f fd)(T:Txt mg)
  (GE:(aP P w K mg Z) 1 "ends_round" ["row"] wU):
  (aE P w K mg Z bK) 2 f fd ["rows"] lz:=by
 refine F.gc Kw λb0 H vs Q E hr h=>?_;obtain⟨R,as,n,rfl,v,hN,hn,ht,q⟩:=h;have cq:=v.len;have hu:=hr.u1;refine bS<|k6p (aW zT) Uz UA 3 (gD bI)<|ae 0 ⟨R,rfl,⟨_,au.of v.lst⟩,λD O cl C æ ç ex=>?_⟩;refine w9 (xs:=as.map λa=>V.ref a.1) (λr c H'=>(∃v1 j l,c=[(some (.ref R))]++[v1,j,l])/\∃Y:List<|List Key×V,aj H H'/\H' D=some (.dT Y)/\Y.length<=(bn<|n.take r).length/\∀p∈bn (n.take r),aJ n p.2=some p.1/\aF Y (ff n p.2)=some (.str p.1)) ⟨⟨none,none,none,rfl⟩,[],aS O _,az,Bx _,λp h=>(by cases h)⟩ ?_ ?_ ?_
 ·rintro r c H' _ ⟨_,Y,m,_⟩;exact au.of<|m _ _ v.lst
 ·rintro r x c H' d ⟨⟨v1,j,l,rfl⟩,Y,m,U,UB,A⟩;have B:r<n.length:=by
   have:=(Ac.mp d).1;rw[Aa]at this;omega
  obtain⟨a,ea,dJ,et,el,er⟩:=(v.same m).at B;rw[Ah,ea]at d;cases d;have iQ:=Ch (jf n r) ht;refine bw 1 Kx<|ja ?_;rw[BP rfl];refine ou rfl rfl (R0 rfl T.zip (ta:=vA _ _) i8) ?_;show Ea _ _ _ _ _;refine ah<|bC GE hr<|ah<|ae 1<|ax ⟨a.1,a.2,n[r].1,row n r,rfl,et,el,iQ,λL us H5 t n5 e5 l5 t5=>?_⟩;refine ah<|a8 bQ<|ae 1<|aG ⟨a.1,_,_,.ref a.2,rfl,rfl,aQ.of<|t _ _ et,rfl,ax ⟨L,a.2,rfl,⟨_,au.of e5⟩,⟨_,au.of<|t _ _ el⟩,?_⟩⟩;have G:=t _ _ U;have ui:=t _ _ el;refine WP (xs:=us.map V.ref) (ys:=(row n r).map V.str) (by rw[Aa,Aa,l5]) (λp c s=>(∃j l,c=[(some (.ref R))]++[some<|.ref a.1,j,l])/\∃Y:List<|List Key×V,(∀b o,b≠D->H5 b=some o->s b=some o)/\s D=some (.dT Y)/\Y.length<=(bn (n.take r)++bF r ((row n r).take p) 0).length/\∀x∈bn (n.take r)++bF r ((row n r).take p) 0,aJ n x.2=some x.1/\aF Y (ff n x.2)=some (.str x.1))
   ⟨⟨_,_,rfl⟩,Y,λb o _ h=>h,G,by simpa[bF]using UB,by simpa[bF]using A⟩ ?_ ?_ ?_
  ·rintro p c s _ ⟨_,Y,i,_⟩;exact⟨au.of (i _ _ (cf e5 G λz=>nomatch z) e5),au.of<|i _ _ (cf ui G λz=>nomatch z) ui⟩
  ·rintro p x y Tt c s d hy ⟨⟨j,l,rfl⟩,Y,i,I,rL,J⟩ jT;rw[Ah,Az]at d hy;obtain⟨u,lq,rfl⟩:=d;obtain⟨z,M,rfl⟩:=hy;have nU:=t5 p u lq;have BO:u≠D:=cf nU G λz=>nomatch z;have BH:=i _ _ BO nU;have nV:aJ n (r,p)=some z:=M;obtain⟨Õ,eS⟩:=wV B M;have Ö:(bn (n.take r)++bF r ((row n r).take p) 0).length<1000:=by
    have h1:(bn n).length=(ag n).length:=by
     have:=BZ List.length<|kJ n 0;rwa[Aa]at this
    have h2:=BZ List.length eS;rw[Ag,As]at h2;omega
   have Ø:Tt≠D:=λe=>by rw[e,I]at jT;cases jT
   have s7:=aS jT<|.tup [.ref u,.str z];refine jN rfl (aQ.of az) (bw 2 Kx<|bw 3 Kx ?_);refine ja ?_;rw[BP rfl];have rJ:(upd s Tt<|.tup [.ref u,.str z]) u=some (.tup<|(ff n (r,p)).map kV):=by
    rw[s7 _ _ BH];show some (Tn n[r].1 (p:Int))=some (Tn (nameAt n r) (p:Int));rw[uh B]
   refine R3 hu<|ae 2<|ae 3 ⟨_,cw.t (k:=ff n (r,p)) (s7 _ _ I) rJ (cg<|(by omega)),⟨_,_,rfl⟩,_,λb o hb h=>?_,az,?_,?_⟩
   ·rw[aw hb];exact s7 _ _<|i b o hb h
   ·rw[qK M,<-Ar,Ag];have:=jD Y (ff n (r,p))<|.str z;show _<=_+1;omega
   ·rw[qK M,<-Ar];intro x d
    obtain h|h:=Am.mp d
    ·obtain⟨N,q2⟩:=J x h;refine⟨N,?_⟩;rw[d8]
     by_cases hk:ff n x.2=ff n (r,p)
     ·rw[BP hk];have:=rF hN (cB N) (cB nV) hk;rw[this,nV]at N;rw[Option.some.inj N]
     ·rwa[BL hk]
    ·rw[Ad.mp h];exact⟨nV,by rw[d8,BP rfl]⟩
  ·rintro c s ⟨⟨j,l,rfl⟩,Y,i,I,rL,J⟩;rw[Aa,l5,Ca,<-tQ B]at rL J;exact⟨⟨_,_,_,rfl⟩,Y,λb o h=>i b o (bz h O)<|t _ _<|m _ _ h,I,rL,J⟩
 ·rintro c H' ⟨_,Y,m,U,UB,A⟩;rw[Aa,cq,Ca]at A;exact q D Y H' m O U λe z he=>(A (z,e)<|aT.mpr he).2
def Ky(K:aa):PySem.W.kitOne K (.type "list") (.type "list")=some true:=by rfl
def xa(K:aa):PySem.W.kitOne K (.type "tuple") (.type "tuple")=some true:=by rfl
theorem UC{κ:Type}[DecidableEq κ]:∀{Y:List (κ×V)}{i:Nat}{p:κ×V},(Y.map (·.1)).Nodup->Y[i]?=some p->aF Y p.1=some p.2
 |[],_,_,_,h=>by simp at h
 |q :: r,0,p,_,h=>by
  cases h;exact iJ rfl
 |q :: r,i+1,p,a,h=>by
  rw[Ba,Bh]at a;have b:r[i]?=some p:=by simpa using h
  rw[iw λe=>a.1<|by rw[e];exact Ak.mpr ⟨p,Ao b,rfl⟩];exact UC a.2 b
def x1a{κ:Type}{l:List κ}(h:l.Nodup){j:Nat}{a:κ}(b:l[i]?=some a)(d:l[j]?=some a):i=j:=by
 have e:=(Ac.mp b).1;have f:=(Ac.mp d).1;have k:=(Ac.mp b).2;have m:=(Ac.mp d).2
 obtain c|c|c:=Em i j
 ·exact absurd (k.trans m.symm)<|Bc.mp h i j e f c
 ·exact c
 ·exact absurd (m.trans k.symm)<|Bc.mp h j i f e c
def ic(c:Int):Sp:=λa H Q _=>∃R as n,a=[.ref R]/\ai H R as n/\(n.map (·.1)).Nodup/\aq n/\n.length<=1000/\(ag n).length<=1000 /\
 ∀d Y H',aj H H'->H d=none->H' d=some (.dT Y)->(∀e∈ends n,∃u,aF Y (ff n e)=some (.ref u)/\H' u=some (TN n<|go c n e))->Q (.ref d) H'
abbrev nY:Ð:=["rows","lists"]
abbrev rM:Ð:=["rows","lists","end","other"]
def UD:rM.Nodup:=by decide +kernel
theorem UE{x y:Str}{st:Stmt}(h:(x = "left_steps"/\y = "turned_left"/\st=zU)\/(x = "right_steps"/\y = "turned_right"/\st=zV))(F:bB K x x st f fd)(T:Txt mg)
  (GO:(aP P w K mg Z) 2 "other_ends" ["rows"] lh) (GT:(aP P w K mg Z) 2 y ["end","many"]<|iS λj=>j+c):
  (aE P w K mg Z bK) 3 f fd ["rows"] (ic c):=by
 obtain⟨rfl,rfl,rfl⟩|⟨rfl,rfl,rfl⟩:=h
 all_goals
  refine F.gb (N:=nY) cm (λvs H Q E h=>?_) λb0 H vs Q E hr h=>?_
  ·obtain⟨R,as,n,rfl,_⟩:=h;rfl
  obtain⟨R,as,n,rfl,B,hN,hT,hn,ht,q⟩:=h;have nd:nY.Nodup:=by decide +kernel
  have cq:=B.len;have hu:=hr.u1;have keys:=Um n as cq;have Õ:((iT n as).map (·.1)).Nodup:=by rw[keys];exact mY hN
  have Kz:(iT n as).length=n.length:=by have:=BZ List.length keys;simpa using this
  refine aZ 1 nd (qk (sN rfl) T.v5 PyProof.Rows.boot_dict (ah (ae 0 (ax ⟨R,as.map (·.1),iT n as,rfl,?_,?_,?_,?_,λdl jd=>?_⟩))))
  ·rw[Bs];exact B.lst
  ·rw[Aa,Kz,cq]
  ·rw[Aa];exact cg<|(by omega)
  ·intro j t kv M h2;rw[Ah,Az]at M;obtain⟨a,ea,rfl⟩:=M;have hj:j<n.length:=by have:=(Ac.mp ea).1;omega
   have e:=Uo (Ab hj) ea;rw[h2]at e;cases e;exact(B.tup j a n[j] ea<|Ab hj).1
  have ef:(iT n as).foldl (λa p=>putK a p.1 p.2) []=iT n as:=by
   rw[i4 (by rwa[Hk]),Hk]
  rw[ef];have O:=aS jd<|.dK<|iT n as;have U:(upd H dl<|.dK<|iT n as) dl=some (.dK<|iT n as):=az;generalize upd H dl (.dK<|iT n as)=H1 at O U
  first|refine bS (R5 (aW zU) nY rM 2 (Sg bI) ?_)|refine bS<|R5 (aW zV) nY rM 2 (Sg bI) ?_
  refine bC GO hr<|ah<|ae 0<|ax ⟨R,as,n,rfl,B.same O,hN,hT,hn,ht,λd Y l s2 wz ed val xc Ö UH=>?_⟩;refine⟨d,Y,rfl,ed,λo D z cl C æ ç ex=>?_⟩;have Ø:D≠d:=λe=>by rw[e,az]at z;cases z
  have lB:l D=none:=by rwa[aw Ø]at z
  have KA:H d=none:=iR O wz;have J:aj H (upd l d<|.b7 o<|.dT Y):=fI (O.trans s2) KA;have kB:∀b o',b≠d->l b=some o'->(upd l d<|.b7 o<|.dT Y) b=some o':=λb o' hb h=>by rwa[aw hb]
  have tB:∀ b p j,l b=some (Tn p j)->(upd l d<|.b7 o<|.dT Y) b=some (Tn p j):=λb p j h=>kB b _ (rG h ed) h;have UI:(upd l d<|.b7 o<|.dT Y) d=some (.b7 o<|.dT Y):=az;have UK:(upd l d<|.b7 o<|.dT Y) dl=some (.dK<|iT n as):=kB _ _ (λe=>by rw[e,wz]at U;cases U)<|s2 _ _ U;have Ù:=B.same J;generalize upd l d (.b7 o<|.dT Y)=HB at z J tB UI UK Ù;have xf:=iR J z;refine N1 (λi m H'=>(∃ v1 v2,m=[(some (.ref R)),(some (.ref dl))]++[v1,v2])/\∃ A:List<|List Key×V,H' D=some (.dT A)/\A.length<=i/\aj HB H' /\
   (∀j k x e,j<i->Y[j]?=some (k,x)->e∈ends n->k=ff n e->∃u,aF A (ff n e)=some (.ref u)/\H' u=some (TN n<|go c n e)))
   ⟨⟨none,none,rfl⟩,[],az,An _,aS z _,λj k x e h=>absurd h<|Dj _⟩ ?_ ?_ ?_
  ·rintro i m H' _ ⟨_,_,_,_,s,_⟩;exact s _ _ UI
  ·rintro i k x b Tt m H' v ⟨⟨v1,v2,rfl⟩,A,L,l2,s,all⟩ hb jT;have hi:i<Y.length:=(Ac.mp v).1;obtain⟨e,G,rfl⟩:=Ö k<|Ak.mpr ⟨_,Ao v,rfl⟩;obtain⟨u,hv,tV⟩:=val e G;have xg:aF Y (ff n e)=some x:=UC xc v;rw[hv]at xg;cases xg;have zA:=cR hT G;obtain⟨zo,uj⟩:=af.mp zA;have iQ:=cB uj;have pB:=gk uj;have Ú:nameAt n ((other n e)).1=n[((other n e)).1].1:=uh iQ;have r:=aS jT<|.tup [.ref b,.ref u];have UM:=r _ _<|s _ _<|tB _ _ _ tV;refine jN rfl (aQ.of az) (bw 2 UD<|bw 3 UD ?_);refine ja ?_;rw[BP rfl];have UN:as[((other n e)).1]?=some (as[((other n e)).1]'(by omega)):=Ab (by omega);have xh:n[((other n e)).1]?=some n[((other n e)).1]:=Ab iQ;have ev:aF (iT n as) (Sum.inr<|nameAt n ((other n e)).1)=some (.ref (as[((other n e)).1]'(by omega)).2):=by rw[Ú];exact Ul Õ<|Uo xh UN
   have rP:=(B.tup _ _ _ UN xh).2;have xk:row n ((other n e)).1=n[((other n e)).1].2:=jm iQ;refine R3 hu<|ae 2<|bC GT hr<|ah<|ae 3<|ah<|cM eU T.len DY<|ah<|gJ hu<|ae 1<|a8 bQ<|ae 3<|aG ⟨u,_,_,.str<|nameAt n ((other n e)).1,rfl,rfl,aQ.of UM,rfl,?_⟩;refine⟨dl,.ref (as[((other n e)).1]'(by omega)).2,rfl,by rw[<-ev];exact bb.k (k:=Sum.inr<|nameAt n ((other n e)).1)<|r _ _<|s _ _ UK,ax ⟨_,_,rfl,.inl<|au.of<|r _ _<|s _ _<|J _ _ rP,ax ⟨u,_,_,_,rfl,UM,?_,λt2 H4 I pC=>?_⟩⟩⟩
   ·rw[Aa,<-xk];omega
   rw[Aa,<-xk]at pC;have KE:H4 t2=some (TN n<|go c n e):=by
    rw[pC];have:=wq (c:=c) zA;show some (Tn _ _)=some (Tn _ (((go c n e).2:Nat):Int));unfold go;rw[this];rfl
   have wR:=I _ _<|r _ _ hb;refine⟨_,cw.t (k:=ff n e) (I _ _<|r _ _ L) wR (cg<|(by omega)),⟨_,_,rfl⟩,_,az,?_,fI ((s.trans r).trans I) z,λj k' x' e' hj j7 zD qp=>?_⟩
   ·have:=jD A (ff n e)<|.ref t2;omega
   ·subst qp
    by_cases BA:j=i
    ·subst BA;rw[v]at j7;have Û:ff n e=ff n e':=BZ Prod.fst<|Option.some.inj j7;obtain⟨z1,qX⟩:=af.mp G;obtain⟨z2,AK⟩:=af.mp zD;have:=rF hN (cB qX) (cB AK) Û;subst this;exact⟨t2,by rw[d8,BP rfl],by rwa[aw<|rG KE<|I _ _<|r _ _ L]⟩
    ·obtain⟨u3,Ü,Ý⟩:=all j _ x' e' (by omega) j7 zD rfl;refine⟨u3,?_,?_⟩
     ·rw[d8,BL,Ü];intro hk;have M:(Y.map (·.1))[j]?=some (ff n e'):=by rw[Ah,j7];rfl
      have h2:(Y.map (·.1))[i]?=some (ff n e'):=by rw[Ah,v,hk];rfl
      exact BA<|x1a xc M h2
     ·have q4:=I _ _<|r _ _ Ý;rwa[aw<|rG q4<|I _ _<|r _ _ L]
  ·rintro m H' ⟨_,A,L,_,s,all⟩;refine q D A H' (J.trans s) xf L λe G=>?_;obtain⟨u,hv,_⟩:=val e G;obtain⟨i,hi⟩:∃i:Nat,(Y.map (·.1))[i]?=some (ff n e):=Be<|PD hv;rw[Ah,Az]at hi;obtain⟨⟨k,x⟩,v,hk⟩:=hi;exact all i k x e (Ac.mp v).1 v G hk
def Oq(F:bB K "left_steps" "left_steps" zU f fd)(T:Txt mg)(a:(aP P w K mg Z) 2 "other_ends" ["rows"] lh)(GT:(aP P w K mg Z) 2 "turned_left" ["end","many"]<|iS λj=>j+1):(aE P w K mg Z bK) 3 f fd ["rows"] (ic 1):=UE (.inl ⟨rfl,rfl,rfl⟩) F T a GT
def NG(F:bB K "right_steps" "right_steps" zV f fd)(T:Txt mg)(a:(aP P w K mg Z) 2 "other_ends" ["rows"] lh)(GT:(aP P w K mg Z) 2 "turned_right" ["end","many"]<|iS λj=>j-1):(aE P w K mg Z bK) 3 f fd ["rows"] (ic (-1)):=UE (.inr ⟨rfl,rfl,rfl⟩) F T a GT
def dY(n:bi)(H:Hp)(ts:(List Addr))(es:List Nt.bc):Prop:=ts.length=es.length/\∀(j:Nat)t e,ts[j]?=some t->es[j]?=some e->H t=some (TN n e)
def dY.keep(h:dY n H ts es)(k:∀t p j,H t=some (Tn p j)->H' t=some (Tn p j)):dY n H' ts es:=⟨h.1,λj t e a b=>k _ _ _<|h.2 j t e a b⟩
def dY.same(h:dY n H ts es)(s:aj H H'):dY n H' ts es:=h.keep λ_ _ _ q=>s _ _ q
theorem dY.append{c:List Nt.bc}(h:dY n H ts es)(g:dY n H us c):dY n H (ts++us) (es++c):=by
 refine⟨by rw[Ag,Ag,h.1,g.1],λj t e b a=>?_⟩;have d:=h.1
 by_cases f:j<ts.length
 ·rw[Ax f]at b;rw[Ax<|(by omega)]at a;exact h.2 j t e b a
 ·rw[Bd<|(by omega)]at b a;rw[<-d]at a;exact g.2 _ t e b a
theorem dY.two{t u:Addr}{b:Nt.bc}(f:H t=some (TN n a))(h:H u=some (TN n b)):dY n H [t,u] [a,b]:=⟨rfl,λj x e c d=>by
 match j with
 |0=>cases c;cases d;exact f
 |1=>cases c;cases d;exact h
 |j+2=>simp at c⟩
def UO(c:(n.map (·.1)).Nodup){b:Nt.bc}(d:a∈ends n)(f:b∈ends n):decide (nameAt n a.1=nameAt n b.1/\(a.2:Int)=(b.2:Int))=decide (a=b):=by
 obtain⟨j,h⟩:=af.mp d;obtain⟨k,i⟩:=af.mp f;refine decide_eq_decide.mpr ⟨λ⟨p,q⟩=>rF c (cB h) (cB i) (by unfold ff;rw[p,q]),λe=>by rw[e];exact⟨rfl,rfl⟩⟩
def KG(h:H d=some (.lst xs)):mV K "list" (.ref d) H:=Or.inl ⟨rfl,xs,au.of h⟩
def bp(n:bi)(H:Hp)(d:Addr)(c:Int):Prop:=∃Y,H d=some (.dT Y)/\∀e∈ends n,∃u,aF Y (ff n e)=some (.ref u)/\H u=some (TN n<|go c n e)
def bp.same(h:bp n H d c)(s:aj H H'):bp n H' d c:=let ⟨Y,f,i⟩:=h;⟨Y,s _ _ f,λe j=>let ⟨u,a,b⟩:=i e j;⟨u,a,s _ _ b⟩⟩
def bp.get{n:bi}{H:Hp}{d t:Addr}{c:Int}{e:Nt.bc}(h:bp n H d c)(f:e∈ends n)(i:H t=some (TN n e)):∃u,bb H d (.ref t) ((some (.ref u)))/\H u=some (TN n<|go c n e):=by
 obtain⟨Y,j,k⟩:=h;obtain⟨u,a,b⟩:=k e f;exact⟨u,by rw[<-a];exact bb.t j i,b⟩
def rQ:Sp:=λb H Q _=>∃dl a t n e,b=[.ref dl,.ref a,.ref t]/\bp n H dl 1/\bp n H a (-1)/\(n.map (·.1)).Nodup/\aq n/\(ag n).length<=1000/\e∈ends n/\H t=some (TN n e) /\
 ∀l ts k H',aj H H'->H l=none->H' l=some (.lst<|(ts.map V.ref))->dY n H' ts (wk n e k)->jO n e k->k<=(ends n).length->Q (.ref l) H'
abbrev de:Ð:=["lefts","rights","first","walker","end"]
def xl:ak de ["lefts","rights","first"] (aW qN):=cm
def KI(ts:(List Addr))(a b:Addr):(ts.map V.ref)++[V.ref a,V.ref b]=(ts++[a]).map V.ref++[V.ref b]:=by rw[Al,Ar];rfl
theorem uM(F:bB K "walker_from" "walker_from" qN f fd)(T:Txt mg):(aE P w K mg Z bK) 1 f fd ["lefts","rights","first"] rQ:=by
 refine F.gc xl λb0 H vs Q E hr h=>?_;obtain⟨dl,I,t,n,e,rfl,hL,uk,hN,x,dZ,y,J,q⟩:=h;have nd:=xl.nd;have pB:=fz n;have D:=hr.u1;have un:=hr.iL;obtain⟨k,k0,k1,k2⟩:=zK (λa A=>nH x A) (λa A b hb=>wt x A hb) y;obtain⟨o,g1,e1⟩:=hL.get y J;refine aZ 3 nd<|di<|ah<|ae 2<|ah<|gJ D<|ae 0<|ae 2 ⟨dl,.ref o,rfl,g1,ax ⟨Z2,λl L=>?_⟩⟩;have s:=aS L<|.lst [.ref t,.ref o];have M:(upd H l<|.lst [.ref t,.ref o]) l=some (.lst<|[t,o].map V.ref):=az;generalize upd H l (.lst [.ref t,.ref o])=H1 at s M;obtain⟨u2,g2,e2⟩:=(uk.same s).get (gK x y)<|s _ _ e1;refine aZ 4 nd<|gJ D<|ae 1<|a8 dF<|ae 3<|PZ OO<|aG ⟨1,rfl,l,_,_,.ref o,rfl,rfl,au.of M,rfl,I,.ref u2,rfl,g2,?_⟩;refine vT (λm σ d=>∃(j:Nat)(ts:(List Addr))(u:Addr),m=k-j/\0<j/\j<=k/\aj H d/\d l=some (.lst<|(ts.map V.ref))/\dY n d ts (wk n e j)/\d u=some (TN n<|(it (two n)) j e)/\(∀i,0<i->i<j->(it (two n)) i e≠e)/\σ=[(some (.ref dl)),(some (.ref I)),(some (.ref t)),(some (.ref l)),(some (.ref u))])
  (m0:=k-1) ⟨1,[t,o],u2,rfl,Ff,k0,s,M,dY.two (s _ _ J)<|s _ _ e1,e2,λi h1 h2=>(by omega),rfl⟩ ?_
 rintro m σ d ⟨j,ts,u,rfl,j0,j1,G,B,r,N,hf,rfl⟩;have ul:(it (two n)) j e∈ends n:=je (λa A=>nH x A) y j;refine cz (tP un) (ae 4<|ae 2 ⟨1,_,(by decide),Uy N<|G _ _ J,_,rfl,?_⟩);rw[UO hN ul y];have tl:=r.1;rw[rd]at tl
 by_cases c:(it (two n)) j e=e
 ·rw[BW c];exact bR<|bS<|ae 3<|q l ts j d G L B r ⟨j0,c,hf⟩<|(by omega)
 ·rw[BR c];have jk:j<k:=by
   obtain h|h:=Da j k
   ·exact h
   ·have:j=k:=(by omega)
    subst this;exact absurd k2 c
  obtain⟨v1,g3,e3⟩:=(hL.same G).get ul N;refine cv<|gG<|Ie FN PySem.F.slot_list_extend PySem.F.type_list_extend Zx<|ae 3 (v:= .ref l) ⟨KG B,di<|ah<|ae 4<|ah<|gJ D<|ae 0<|ae 4 ⟨dl,.ref v1,rfl,g3,ax ⟨Z2,λp hp=>?_⟩⟩⟩;have O:=aS hp<|.lst [.ref u,.ref v1];have Õ:l≠p:=bz B hp;refine⟨l,p,(ts.map V.ref),[.ref u,.ref v1],rfl,rfl,O _ _ B,az,xp (by rw[Aa];show _+2<=100000;omega),?_⟩;have U:aj H (upd (upd d p<|.lst [.ref u,.ref v1]) l<|.lst<|(ts.map V.ref)++[.ref u,.ref v1]):=fI (G.trans O) L;have Y:(upd (upd d p<|.lst [.ref u,.ref v1]) l<|.lst<|(ts.map V.ref)++[.ref u,.ref v1]) l=some (.lst<|(ts++[u,v1]).map V.ref):=by rw[az,Al];rfl
  have C:∀b p' j',d b=some (Tn p' j')->(upd (upd d p<|.lst [.ref u,.ref v1]) l<|.lst<|(ts.map V.ref)++[.ref u,.ref v1]) b=some (Tn p' j'):=λb p' j' h=>by
   rw[aw<|cf h B λz=>nomatch z];exact O _ _ h
  generalize upd (upd d p<|.lst [.ref u,.ref v1]) l (.lst<|(ts.map V.ref)++[.ref u,.ref v1])=H3 at U Y C;obtain⟨v2,g4,e4⟩:=(uk.same U).get (gK x ul)<|C _ _ _ e3;refine aZ 4 nd<|gJ D<|ae 1<|a8 dF<|ae 3<|PZ OO<|aG ⟨1,rfl,l,_,_,.ref v1,rfl,rfl,au.of Y,?_,I,.ref v2,rfl,g4,?_⟩
  ·rw[Al];show fj ((ts.map V.ref)++[V.ref u,V.ref v1]) (-1)=_;rw[KI];exact Zj _ _
  refine a9 ⟨k-(j+1),(by omega),j+1,ts++[u,v1],v2,rfl,Ey _,jk,U,Y,(r.keep C).append<|dY.two (C _ _ _ N)<|C _ _ _ e3,e4,λi h1 h2=>?_,rfl⟩
  by_cases eW:i=j
  ·subst eW;exact c
  ·exact hf i h1<|(by omega)
open bP
theorem UP{α c:Type}(f:α->c):∀xs:List α,av (xs.map f)=(av xs).map f
 |[]=>rfl
 |[a]=>rfl
 |a :: b :: r=>by
  show f a :: av (r.map f)=f a :: (av r).map f;rw[UP f r]
def dY.av{n:bi}{H:Hp}{ts:(List Addr)}{es:List Nt.bc}(h:dY n H ts es):dY n H (L2.av ts) (L2.av es):=by
 refine⟨by rw[wn,wn,h.1],λj t e a b=>?_⟩;rw[qZ]at a b;exact h.2 _ t e a b
def pF{a:Addr}{o:HO}(h:H a=some o)(g:H d=some (bq P w d zs))(b:∀c,o ≠ .ext c):a≠d:=λe=>by
 rw[e,g]at h;exact b _ (Option.some.inj h).symm
structure iV(n:bi)(H:Hp)(L:Addr)(ls:(List Addr))(ws:List<|List Nt.bc):Prop where
 lst:H L=some (.lst<|ls.map V.ref)
 len:ls.length=ws.length
 fM:ls.Nodup
 out:L∉ls
 at':∀(j:Nat)l w,ls[j]?=some l->ws[j]?=some w->∃ts,H l=some (.lst<|(ts.map V.ref))/\dY n H ts w
def iV.same{n:bi}{H H':Hp}{L:Addr}{c:(List Addr)}{ws:List (List Nt.bc)}(h:iV n H L c ws)(s:aj H H'):iV n H' L c ws:=
 ⟨s _ _ h.lst,h.len,h.fM,h.out,λj l w d e=>let ⟨ts,a,b⟩:=h.at' j l w d e;⟨ts,s _ _ a,b.same s⟩⟩
def iV.keep{n:bi}{H H':Hp}{L:Addr}{c:(List Addr)}{ws:List (List Nt.bc)}(h:iV n H L c ws)(e:H' L=H L)(f:∀l∈c,∀o,H l=some o->H' l=some o)(i:∀t p j,H t=some (Tn p j)->H' t=some (Tn p j)):iV n H' L c ws:=
 ⟨by rw[e];exact h.lst,h.len,h.fM,h.out,λj l w d k=>let ⟨ts,a,b⟩:=h.at' j l w d k;⟨ts,f l (Ao d) _ a,b.keep i⟩⟩
theorem iV.snoc{L l:Addr}{b:(List Addr)}(h:iV n H L b ws)(k:H' L=some (.lst<|b.map V.ref++[.ref l]))(m:∀l∈b,∀o,H l=some o->H' l=some o)(q:∀t p j,H t=some (Tn p j)->H' t=some (Tn p j))
  (r:H' l=some (.lst<|(ts.map V.ref))) (s:dY n H' ts v) (u:l∉b) (w:L≠l):iV n H' L (b++[l]) (ws++[v]):=by
 refine⟨by rw[k,Al];rfl,by rw[Ag,Ag,h.len];rfl,oK h.fM u,λd=>?_,λj a x c e=>?_⟩
 ·obtain d|d:=Am.mp d
  ·exact h.out d
  ·exact w<|Ad.mp d
 ·have f:=h.len
  by_cases y:j<b.length
  ·rw[Ax y]at c;rw[Ax<|(by omega)]at e;obtain⟨us,z,A⟩:=h.at' j a x c e;exact⟨us,m a (Ao c) _ z,A.keep q⟩
  ·rw[Bd<|(by omega)]at c e;have i:j-b.length=0:=by
    have:=(Ac.mp c).1;simp at this;omega
   rw[i]at c;rw[<-f,i]at e;cases c;cases e;exact⟨ts,r,s⟩
def KL:Sp:=λb H Q _=>∃R as n,b=[.ref R]/\ai H R as n/\(n.map (·.1)).Nodup/\aq n/\n.length<=1000/\(ag n).length<=400 /\
 ∀L a H',aj H H'->H L=none->iV n H' L a (eI n (ends n) [])->(∀l∈a,H l=none)->Q (.ref L) H'
def UR(h:(bn n)[i]?=some p):(ends n)[i]?=some p.2:=by unfold ends;rw[Ah,h];rfl
abbrev on:Ð:=["rows","lefts","rights","names","told","walkers","first","walker","end"]
def xm:ak on ["rows"] (aW qM):=cm
theorem Zp(F:bB K "walkers_of" "walkers_of" qM f fd)(T:Txt mg)
  (GL:(aP P w K mg Z) 3 "left_steps" ["rows"]<|ic 1)
  (GR:(aP P w K mg Z) 3 "right_steps" ["rows"]<|ic (-1))
  (GN:(aP P w K mg Z) 3 "ties_by_end" ["rows"] lz)
  (GO:(aP P w K mg Z) 3 "ends_in_order" ["rows"] BI)
  (GW:(aP P w K mg Z) 3 "walker_from" ["lefts","rights","first"] rQ):
  (aE P w K mg Z bK) 4 f fd ["rows"] KL:=by
 refine F.gc xm λb0 H vs Q E hr h=>?_;obtain⟨R,as,n,rfl,hR,hN,hT,hn,dZ,q⟩:=h;have nd:=xm.nd;have pB:=fz n;have hu:=hr.u1;show ge _ _ _ [(some (.ref R)),none,none,none,none,none,none,none,none] H;refine aZ 1 nd (bC GL hr<|ah<|ae 0<|ax ⟨R,as,n,rfl,hR,hN,hT,hn,(by omega),λdl kl H1 s1 n1 e1 v1=>?_⟩);refine aZ 2 nd (bC GR hr<|ah<|ae 0<|ax ⟨R,as,n,rfl,hR.same s1,hN,hT,hn,(by omega),λdr kr H2 s2 n2 e2 v2=>?_⟩);refine aZ 3 nd (bC GN hr<|ah<|ae 0<|ax ⟨R,as,n,rfl,hR.same<|s1.trans s2,hN,hn,(by omega),λJ kn U s3 n3 e3 v3=>?_⟩);refine aZ 4 nd<|q84 T.nC λD hD=>?_;refine aZ 5 nd<|di<|ax ⟨Z0,λL hL=>?_⟩;have KO:=bp.same ⟨kl,e1,v1⟩<|s2.trans s3;have Ö:bp n U dr (-1):=bp.same ⟨kr,e2,v2⟩ s3;have rS:=(s1.trans s2).trans s3;have pG:L≠D:=λe=>by rw[e,az]at hL;cases hL
 have Ø:U L=none:=by rwa[aw pG]at hL
 have xf:=iR rS hD;have rA:=iR rS Ø;have sB:aj U (upd (upd U D<|bq P w D []) L<|.lst []):=(aS hD _).trans<|aS hL _;have UT:(upd (upd U D<|bq P w D []) L<|.lst []) D=some (bq P w D []):=by rw[aw<|CK pG,az]
 have pH:(upd (upd U D<|bq P w D []) L<|.lst []) L=some (.lst []):=az;have KP:=rS.trans sB;have lD:=KO.same sB;have xn:=Ö.same sB;have UU:=sB _ _ e3;show ge _ _ _ [(some (.ref R)),(some (.ref dl)),(some (.ref dr)),(some (.ref J)),(some (.ref D)),(some (.ref L)),none,none,none] (upd (upd U D<|bq P w D []) L<|.lst []);generalize upd (upd U D<|bq P w D []) L (.lst [])=HB at sB UT pH KP lD xn UU;refine jF (bC GO hr<|ah<|ae 0<|ax ⟨R,as,n,rfl,hR.same KP,hn,(by omega),λú us B s5 n5 e5 KS=>⟨ú,rfl,⟨_,au.of e5⟩,?_⟩⟩);have xo:=KP.trans s5;have kh:=s5 _ _ UT;have BU:=s5 _ _ pH;have KU:=lD.same s5;have KW:=xn.same s5;have K0:=s5 _ _ UU;have K1:ú≠L:=λe=>by rw[e,pH]at n5;cases n5
 have rT:us.length=(ends n).length:=by rw[KS.1];unfold ends;rw[Aa]
 refine jG (xs:=us.map V.ref) (λi σ H'=>∃(zs v:Ð)(A:(List Addr))(ws:List<|List Nt.bc)(u1 u2 u3:Option V),(∀ b o,b≠D->b≠L->B b=some o->H' b=some o)/\H' D=some (bq P w D zs)/\zs.Nodup/\(∀ z∈zs,z∈ag n)/\(∀ z,z∈zs↔z∈v) /\
  iV n H' L A ws/\(∀l∈A,B l=none)/\A.length<=i/\eI n (ends n) []=ws++eI n ((ends n).drop i) v/\σ=[(some (.ref R)),(some (.ref dl)),(some (.ref dr)),(some (.ref J)),(some (.ref D)),(some (.ref L)),u1,u2,u3])
  ⟨[],[],[],[],_,_,_,λb o _ _ h=>h,kh,Cd,λz h=>by simp at h,λz=>by simp,⟨BU,rfl,Cd,by simp,λj l w h=>by simp at h⟩,λl h=>by simp at h,An _,rfl,rfl⟩ ?_ ?_ ?_
 ·rintro i σ H' _ ⟨_,_,_,_,_,_,_,G,_⟩;exact au.of<|G _ _ (pF e5 kh λφ z=>nomatch z) K1 e5
 ·rintro i x σ H' hx ⟨zs,v,A,ws,u1,u2,u3,G,eD,zn,zt,zm,M,hf,oV,lF,rfl⟩;have hi:i<us.length:=by
   have:=(Ac.mp hx).1;rwa[Aa]at this
  rw[Ah,Ab hi]at hx;cases hx;have uo:i<(bn n).length:=by have:=KS.1;omega
  have rV:B us[i]=some (TN n (bn n)[i].2):=KS.2 i us[i] (bn n)[i] (Ab hi)<|Ab uo;have mF:=UR<|Ab uo;have jU:aJ n (bn n)[i].2=some (bn n)[i].1:=aT.mp (by have:=Bt uo;exact this);generalize (bn n)[i]=pr at rV mF jU;obtain⟨z,e⟩:=pr;have rV:B us[i]=some (TN n e):=rV;have jU:aJ n e=some z:=jU;have mF:(ends n)[i]?=some e:=mF;have he:e∈ends n:=Ao mF;have ie:(ends n).drop i=e :: (ends n).drop (i+1):=by
   have xq:i<(ends n).length:=(by omega)
   rw[Gd xq]
   congr 1
   have:=Ab xq;rw[mF]at this;exact(Option.some.inj this).symm
  have xt:∀{b p j},B b=some (Tn p j)->H' b=some (Tn p j):=λ{b p j}h=>G _ _ (pF h kh λφ z=>nomatch z) (cf h BU λz=>nomatch z) h;have gu:=xt rV;have K2:H' J=some (.dT kn):=G _ _ (pF K0 kh λφ z=>nomatch z) (cf K0 BU λz=>nomatch z) K0;have cW:∀{d c},bp n B d c->bp n H' d c:=λ{d c}⟨Y,a,b⟩=>⟨Y,G _ _ (pF a kh λφ z=>nomatch z) (cf a BU λz=>nomatch z) a,λe he=>let ⟨u,p,r⟩:=b e he;⟨u,p,xt r⟩⟩;have Ù:bb H' J (.ref us[i]) (some<|.str z):=by rw[<-v3 e z jU];exact bb.t (k:=ff n e) K2 gu
  refine bw 6 nd ?_;refine dP<|cz b4<|gJ hu<|ae 3<|ae 6 ⟨J,.str z,rfl,Ù,ae 4 ⟨z,D,zs,rfl,rfl,eD,_,rfl,?_⟩⟩;refine jC (λc=>?_) λc=>?_
  ·have hz:z∉zs:=BX c;have dq:aD n e∉v:=by rw[eY jU];exact λh=>hz<|(zm z).mpr h
   refine aZ 7 nd (bC GW hr<|ah<|ae 1<|ah<|ae 2<|ah<|ae 6<|ax ⟨dl,dr,us[i],n,e,rfl,cW KU,cW KW,hN,hT,(by omega),he,gu,λl ts k H6 s6 n6 e6 K3 pr hk=>?_⟩);have K4:=wv pr;have BV:walker n e=wk n e k:=by unfold walker;rw[K4]
   have pI:=s6 _ _ M.lst;have iU:=s6 _ _ eD;have rW:L≠l:=bz M.lst n6;have nS:D≠l:=bz eD n6;refine gG (ka<|ae 5 ⟨L,rfl,⟨_,pI⟩,ae 7 ⟨_,pI,by rw[Aa];exact cg (by omega),?_⟩⟩);have k7:∀b o,b≠L->H6 b=some o->(upd H6 L<|.lst<|A.map V.ref++[.ref l]) b=some o:=λb o hb h=>by rwa[aw hb]
   have xu:(upd H6 L<|.lst<|A.map V.ref++[.ref l]) L=some (.lst<|A.map V.ref++[.ref l]):=az;generalize upd H6 L (.lst<|A.map V.ref++[.ref l])=H7 at k7 xu;have xv:∀t p j,H6 t=some (Tn p j)->H7 t=some (Tn p j):=λt p j h=>k7 _ _ (cf h pI λz=>nomatch z) h;have e7:=k7 _ _ (CK rW) e6;have Ú:=k7 _ _ (CK pG) iU;have uq:=K3.keep xv;have xA:l∉A:=λhm=>by
    obtain⟨j,hj⟩:=Be hm;have Õ:=M.len;have xB:j<ws.length:=by have:=(Ac.mp hj).1;omega
    obtain⟨_,a,_⟩:=M.at' j l ws[j] hj<|Ab xB;rw[n6]at a;cases a
   have xC:iV n H7 L (A++[l]) (ws++[wk n e k]):=M.snoc xu (λa N o ho=>k7 _ _ (λq=>M.out<|q ▸ N)<|s6 _ _ ho) (λt p j h=>xv _ _ _<|s6 _ _ h) e7 uq xA rW;have ß:B l=none:=by
    cases q5:B l with
    |none=>rfl
    |some o=>rw[G _ _ (CK nS) (CK rW) q5]at n6;cases n6
   have B0:∀a∈A++[l],B a=none:=λa N=>by
    obtain N|N:=Am.mp N
    ·exact hf a N
    ·rwa[Ad.mp N]
   have rq:∀b o,b≠D->b≠L->B b=some o->H7 b=some o:=λb o O h2 h=>k7 _ _ h2<|s6 _ _<|G b o O h2 h;have K5:(A++[l]).length<=i+1:=by rw[Ag];show A.length+1<=_;omega
   have rX:eI n (ends n) []=(ws++[wk n e k])++eI n ((ends n).drop<|i+1) (v++(av<|wk n e k).map (aD n)):=by
    rw[lF,ie];show ws++(if aD n e∈v then _ else _)=_;rw[BL dq,BV,Ar];rfl
   have fN:=Jm hT he k;refine jF<|q41<|ae 7 ⟨l,_,rfl,au.of e7,λp hp=>⟨p,rfl,⟨_,au.of az⟩,?_⟩⟩;rw[UP];have s8:=aS hp<|.lst<|(av ts).map V.ref;have e8:(upd H7 p<|.lst<|(av ts).map V.ref) p=some (.lst<|(av ts).map V.ref):=az;have pJ:=s8 _ _ Ú;have ur:=xC.same s8;have B3:=(uq.same s8).av;have UX:∀ b o,b≠D->b≠L->B b=some o->(upd H7 p<|.lst<|(av ts).map V.ref) b=some o:=λb o O h2 h=>s8 _ _<|rq b o O h2 h;have K6:=s8 _ _ (k7 _ _ (cf K2 M.lst λz=>nomatch z)<|s6 _ _ K2);generalize upd H7 p (.lst<|(av ts).map V.ref)=H8 at s8 e8 pJ ur B3 UX K6;have K7:p≠D:=pF e8 pJ λφ z=>nomatch z;refine jG (xs:=(av ts).map V.ref) (λm σ H9=>∃(C:Ð)(u3:Option V),(∀ b o,b≠D->H8 b=some o->H9 b=some o)/\H9 D=some (bq P w D C)/\C.Nodup/\(∀ z∈C,z∈ag n)/\(∀ z,z∈C↔z∈v++((av<|wk n e k).take m).map (aD n)) /\
    σ=[(some (.ref R)),(some (.ref dl)),(some (.ref dr)),(some (.ref J)),(some (.ref D)),(some (.ref L)),some<|.ref us[i],(some (.ref l)),u3]) ⟨zs,_,λb o _ h=>h,pJ,zn,zt,λz=>by rw[zm z];simp,rfl⟩ ?_ ?_ ?_
   ·rintro m σ H9 _ ⟨_,_,I,_⟩;exact au.of<|I _ _ K7 e8
   ·rintro m x σ H9 hx ⟨C,u3,I,B4,xD,B5,B6,rfl⟩;have hm:m<(av ts).length:=by
     have:=(Ac.mp hx).1;rwa[Aa]at this
    have l8:=B3.1;rw[Ah,Ab hm]at hx;cases hx;have iB:m<(av<|wk n e k).length:=(by omega)
    have K8:=B3.2 m _ _ (Ab hm)<|Ab iB;have ri:(av<|wk n e k)[m]∈wk n e k:=by
     have O:(av<|wk n e k)[m]?=some (av<|wk n e k)[m]:=Ab iB;rw[qZ]at O;exact Ao O
    have A7:=fN _ ri;obtain⟨y,hy⟩:=af.mp A7;have iW:(av<|wk n e k).take (m+1)=(av<|wk n e k).take m++[(av<|wk n e k)[m]]:=by rw[Cj,Ab iB];rfl
    generalize (av<|wk n e k)[m]=c at K8 A7 hy iW;have Û:H9 (av ts)[m]=some (TN n c):=I _ _ (pF K8 pJ λφ z=>nomatch z) K8;have Ü:H9 J=some (.dT kn):=I _ _ (pF K6 pJ λφ z=>nomatch z) K6;have Ý:bb H9 J (.ref (av ts)[m]) (some<|.str y):=by rw[<-v3 c y hy];exact bb.t (k:=ff n c) Ü Û
    have zl:C.length<=(ag n).length:=aU xD B5;refine bw 8 nd ?_;refine gG<|q9x<|ae 4 ⟨D,rfl,⟨_,B4⟩,gJ hu<|ae 3<|ae 8 ⟨J,.str y,rfl,Ý,y,C,rfl,B4,(by omega),a9 ⟨added C y,_,λb o hb h=>?_,az,?_,λz hz=>?_,λz=>?_,rfl⟩⟩⟩
    ·rw[aw hb];exact I b o hb h
    ·unfold added
     split
     ·exact xD
     ·rename_i Þ;exact oK xD Þ
    ·obtain h|h:=(HK C y z).mp hz
     ·exact B5 z h
     ·rw[h];exact eV hy
    ·rw[HK,B6 z,iW,Al,<-Ar,Am (s:=v++_)];show _\/z=y↔_\/z∈[aD n c];rw[eY hy,Ad]
   ·rintro σ H9 ⟨C,u3,I,B4,xD,B5,B6,rfl⟩;have l8:=B3.1;rw[Aa,l8,Ca]at B6;refine a9<|a9 ⟨C,v++(av<|wk n e k).map (aD n),A++[l],ws++[wk n e k],_,_,_,λb o O h2 h=>I _ _ O<|UX b o O h2 h,B4,xD,B5,B6,?_,B0,K5,rX,rfl⟩;refine ur.keep ?_ (λa N o ho=>I _ _ ?_ ho) λt p j h=>I _ _ (pF h pJ λφ z=>nomatch z) h
    ·rw[ur.lst];exact I _ _ pG ur.lst
    ·intro q;rw[q,pJ]at ho;obtain⟨j,hj⟩:=Be N;have Õ:=ur.len;have xB:j<(ws++[wk n e k]).length:=by have:=(Ac.mp hj).1;omega
     obtain⟨_,b,_⟩:=ur.at' j a _ hj<|Ab xB;rw[q,pJ]at b;cases b
  ·have hz:z∈zs:=Classical.not_not.mp<|IW<|El.mpr c;refine a9 (a9 ⟨zs,v,A,ws,_,_,_,G,eD,zn,zt,zm,M,hf,(by omega),?_,rfl⟩);rw[lF,ie];show ws++(if aD n e∈v then _ else _)=_;rw[BP<|by rw[eY jU];exact(zm z).mp hz]
 ·rintro σ H' ⟨zs,v,A,ws,u1,u2,u3,G,eD,zn,zt,zm,M,hf,oV,lF,rfl⟩;rw[Aa,rT,List.drop_length]at lF;have K9:eI n (ends n) []=ws:=by rw[lF];show ws++[]=ws;rw[Bp]
  refine bS (ae 5<|q L A H' (λb o h=>?_) rA (by rwa[K9]) λl hl=>iR xo<|hf l hl);exact G _ _ (bz h xf) (bz h rA)<|xo _ _ h
end
end E9
namespace pK
open PySem PySem.W PyProof.Rows
variable{n i m:Nat}{J:Shared->Prop}{cmp:Nat->Nat->(Bool->Shared->Prop)->Shared->Prop}{p:Array Nat}{s:Shared}{Q:Nat×Array Nat->Shared->Prop}
section
variable{lt:Nat->Nat->Bool}
structure eR(lt:Nat->Nat->Bool)(cmp:Nat->Nat->(Bool->Shared->Prop)->Shared->Prop)(J:Shared->Prop)(n:Nat):Prop where
 ask:∀i j C s,i<n->j<n->i≠j->J s->(∀s',J s'->C (lt i j) s')->cmp i j C s
 tot:∀i j,i<n->j<n->i≠j->lt i j=true\/lt j i=true
 asy:∀i j,lt i j=true->lt j i=false
 B7:∀i j k,lt i j=true->lt j k=true->lt i k=true
def g(p:Array Nat)(i:Nat):Nat:=p.getD i 0
structure Pm(p:Array Nat)(n:Nat):Prop where
 size:p.size=n
 lt:∀i,i<n->g p i<n
 inj:∀i j,i<n->j<n->g p i=g p j->i=j
def jV{v:Nat}(h:p[i]?=some v):g p i=v:=by
 unfold g;rw[Db,h];rfl
def lG{q:Array Nat}{j:Nat}(h:p[i]?=q[j]?):g p i=g q j:=by
 unfold g;rw[Db,Db,h]
def UY(n:Nat):Pm (List.toArray<|range n) n:=by
 have e:∀i,i<n->g (List.toArray<|range n) i=i:=λi a=>jV (by simp[a]);exact⟨by simp,λi a=>by rwa[e i a],λi j a b h=>by rwa[e i a,e j b]at h⟩
def Up(lt:Nat->Nat->Bool)(p:Array Nat)(m:Nat):Prop:=∀i j,i<j->j<m->lt (g p i) (g p j)=true
def Dn(lt:Nat->Nat->Bool)(p:Array Nat)(m:Nat):Prop:=∀i j,i<j->j<m->lt (g p j) (g p i)=true
theorem EM(p:Array Nat):Up lt p 1:=λi j a b=>(by omega)
theorem No(A:eR lt cmp J n)(e:1<=m)(h:Up lt p m)(a:lt (g p<|m-1) (g p m)=true):Up lt p (m+1):=λi j b f=>by
 by_cases c:j<m
 ·exact h i j b c
 ·have:j=m:=(by omega)
  subst this
  by_cases d:i=j-1
  ·rwa[d]
  ·exact A.B7 _ _ _ (h i (j-1) (by omega)<|(by omega)) a
theorem GV(A:eR lt cmp J n)(e:1<=m)(h:Dn lt p m)(a:lt (g p m) (g p<|m-1)=true):Dn lt p (m+1):=λi j b f=>by
 by_cases c:j<m
 ·exact h i j b c
 ·have:j=m:=(by omega)
  subst this
  by_cases d:i=j-1
  ·rwa[d]
  ·exact A.B7 _ _ _ a<|h i (j-1) (by omega)<|(by omega)
def K'(A:eR lt cmp J n){j:Nat}(a:i<n)(b:j<n)(c:i≠j)(h:lt i j=false):lt j i=true:=by
 obtain q|q:=A.tot i j a b c
 ·rw[h]at q;cases q
 ·exact q
theorem La(A:eR lt cmp J n){p:Array Nat}(P:Pm p n):∀f m Q s,1<=m->m+f<=n->Up lt p m->J s ->
  (∀k s',J s'->m<=k->k<=m+f->Up lt p k->(k<m+f->lt (g p k) (g p<|k-1)=true)->Q k s')->(kas_asc p f m).kasWp cmp Q s
 |0,m,Q,s,l,r,i,j,k=>k m s j (An _) (An _) i λh=>(by omega)
 |f+1,m,Q,s,l,r,i,j,k=>by
  have o:g p m≠g p (m-1):=λh=>by have:=P.inj m (m-1) (by omega) (by omega) h;omega
  refine A.ask _ _ _ _ (P.lt m<|(by omega)) (P.lt (m-1)<|(by omega)) o j λs' q=>?_;cases e:lt (p.getD m 0) (p.getD (m-1) 0) with
  |true=>exact k m s' q (An _) (by omega) i λ_=>e
  |false=>
   have t:=No A l i (K' A (P.lt m<|(by omega)) (P.lt (m-1)<|(by omega)) o e);exact La A P f (m+1) Q s' (by omega) (by omega) t q λu v w a b c d=>k u v w (by omega) (by omega) c λh=>d<|(by omega)
theorem UZ(A:eR lt cmp J n){p:Array Nat}(P:Pm p n):∀f m Q s,1<=m->m+f<=n->Dn lt p m->J s ->
  (∀k s',J s'->m<=k->k<=m+f->Dn lt p k->Q (p,k,0) s')->(kas_desc f p m 0).kasWp cmp Q s
 |0,m,Q,s,l,q,hd,d,k=>k m s d (An _) (An _) hd
 |f+1,m,Q,s,l,q,hd,d,k=>by
  have i:g p m≠g p (m-1):=λh=>by have:=P.inj m (m-1) (by omega) (by omega) h;omega
  refine A.ask _ _ _ _ (P.lt m<|(by omega)) (P.lt (m-1)<|(by omega)) i d λs' o=>?_;cases e:lt (p.getD m 0) (p.getD (m-1) 0) with
  |true=>
   show(if true=true then(if 0>0 then _ else kas_desc f p (m+1) 0)else _:KasT _).kasWp cmp Q s';rw[BP rfl,BL<|(by omega)];exact UZ A P f (m+1) Q s' (by omega) (by omega) (GV A l hd e) o λr j t a b c=>k r j t (by omega) (by omega) c
  |false=>
   refine A.ask _ _ _ _ (P.lt (m-1)<|(by omega)) (P.lt m<|(by omega)) (CK i) o λj u=>?_;have v:lt (p.getD (m-1) 0) (p.getD m 0)=true:=K' A (P.lt m<|(by omega)) (P.lt (m-1)<|(by omega)) i e;rw[v];exact k m j u (An _) (by omega) hd
theorem xF{k:Nat}(h:m<=p.size):g (kas_rev p 0 m) k=if k<m then g p (m-1-k)else g p k:=by
 have e:=getElem?_mirror_all (i:=0) h k
 by_cases c:k<m
 ·rw[BP c];rw[BP ⟨Bx _,c⟩]at e;refine lG<|e.trans ?_
  congr 1
  omega
 ·rw[BL c];rw[BL λq=>c q.2]at e;exact lG e
theorem U0(P:Pm p n)(h:m<=n):Pm (kas_rev p 0 m) n:=by
 have b:m<=p.size:=by rwa[P.size]
 refine⟨by rw[kas_rev_size];exact P.size,λi a=>?_,λi j a e q=>?_⟩
 ·rw[xF b]
  split
  ·exact P.lt _<|(by omega)
  ·exact P.lt _ a
 ·rw[xF b,xF b]at q
  by_cases c:i<m<;>by_cases d:j<m
  ·rw[BP c,BP d]at q;have:=P.inj _ _ (by omega) (by omega) q;omega
  ·rw[BP c,BL d]at q;have:=P.inj _ _ (by omega) e q;omega
  ·rw[BL c,BP d]at q;have:=P.inj _ _ a (by omega) q;omega
  ·rw[BL c,BL d]at q;exact P.inj _ _ a e q
theorem RE(P:Pm p n)(h:m<=n)(hd:Dn lt p m):Up lt (kas_rev p 0 m) m:=λi j c b=>by
 have a:m<=p.size:=by rwa[P.size]
 rw[xF a,xF a,BP (by omega),BP b];exact hd (m-1-j) (m-1-i) (by omega)<|(by omega)
theorem vr(A:eR lt cmp J n)(P:Pm p n)(e:1<=m)(d:m<=n)(hd:Dn lt p m)(f:J s)
  (k:∀r q s',J s'->1<=r->r<=n->Pm q n->Up lt q r->Q (r,q) s'):(kas_tail3 m n p).kasWp cmp Q s:=by
 unfold kas_tail3;rw[KN];exact La A (U0 P d) (n-m) m _ s e (by omega) (RE P d hd) f λr s' j a b c _=>k r _ s' j (by omega) (by omega) (U0 P d) c
theorem ZB(A:eR lt cmp J n)(P:Pm p n)(x:2<=n)(u:J s)
  (k:∀r q s',J s'->1<=r->r<=n->Pm q n->Up lt q r->Q (r,q) s'):(kas_count n p).kasWp cmp Q s:=by
 unfold kas_count;rw[KN];refine La A P (n-1) 1 _ s (An _) (by omega) (EM p) u λm s' a t y b v=>?_
 by_cases c:m=n
 ·subst c;rw[BP<|by simp];exact k m p s' a t (An _) P b
 ·rw[BL<|(by simpa using c)]
  by_cases d:m>1
  ·rw[BP d];have w:g p 0≠g p (m-1):=λh=>by have:=P.inj 0 (m-1) (by omega) (by omega) h;omega
   refine A.ask _ _ _ _ (P.lt 0<|(by omega)) (P.lt (m-1)<|(by omega)) w a λf l=>?_;have e:lt (p.getD 0 0) (p.getD (m-1) 0)=true:=b 0 (m-1) (by omega) (by omega);rw[e];exact k m p f l t (by omega) P b
  ·rw[BL d];have em:m=1:=(by omega)
   subst em;unfold kas_descPart;rw[KN];have z:=v (by omega);have o:Dn lt p 2:=λi j B C=>by
    have:i=0/\j=1:=(by omega)
    rwa[this.1,this.2]
   refine UZ A P (n-(1+1)) (1+1) _ s' (by omega) (by omega) o a λr f l D E hd=>?_;show(if(0:Nat)>0 then _ else kas_tail3 r n p:KasT _).kasWp cmp Q f;rw[BL<|(by omega)];exact vr A P (by omega) (by omega) hd l k
theorem Lb(A:eR lt cmp J n){p:Array Nat}(P:Pm p n){k:Nat}(a:k<n)(b:Up lt p k):∀f l r Q s,r<=k->l<=r->r-l<=f->J s->(∀i,i<l->lt (g p i) (g p k)=true)->(∀i,r<=i->i<k->lt (g p k) (g p i)=true) ->
  (∀m s',J s'->m<=k->(∀i,i<m->lt (g p i) (g p k)=true)->(∀i,m<=i->i<k->lt (g p k) (g p i)=true)->Q m s')->(kas_place p k f l r).kasWp cmp Q s
 |0,l,r,Q,s,w,z,B,j,o,t,q=>q l s j (by omega) o λi u=>t i<|(by omega)
 |f+1,l,r,Q,s,w,z,B,j,o,t,q=>by
  unfold kas_place
  by_cases c:l>=r
  ·rw[BP c];exact q l s j (by omega) o λi u=>t i<|(by omega)
  ·rw[BL c];have v:(l+r)/2<k:=(by omega)
   have x:g p k≠g p ((l+r)/2):=λh=>by have:=P.inj k _ a (by omega) h;omega
   refine A.ask _ _ _ _ (P.lt k a) (P.lt _<|(by omega)) x j λs' y=>?_;cases e:lt (p.getD k 0) (p.getD ((l+r)/2) 0) with
   |true=>
    show(kas_place p k f l<|(l+r)/2).kasWp cmp Q s';refine Lb A P a b f l ((l+r)/2) Q s' (by omega) (by omega) (by omega) y o (λi u C=>?_) q
    by_cases d:i=(l+r)/2
    ·rwa[d]
    ·exact A.B7 _ _ _ e<|b _ _ (by omega) C
   |false=>
    show(kas_place p k f ((l+r)/2+1) r).kasWp cmp Q s';have D:=K' A (P.lt k a) (P.lt _<|(by omega)) x e;refine Lb A P a b f ((l+r)/2+1) r Q s' w (by omega) (by omega) y (λi u=>?_) t q
    by_cases d:i=(l+r)/2
    ·rwa[d]
    ·exact A.B7 _ _ _ (b _ _ (by omega) v) D
theorem xH{k:Nat}(a:k<p.size)(b:m<=k):g (bubble p k<|k-m) i=if i=m then g p k else if m<i/\i<=k then g p (i-1)else g p i:=by
 have e:=getElem?_bubble a (k-m) (by omega) i;rw[show k-(k-m)=m by omega]at e
 by_cases c:i=m
 ·rw[BP c];rw[BP c]at e;exact lG e
 ·rw[BL c];rw[BL c]at e
  by_cases d:m<i/\i<=k
  ·rw[BP d];rw[BP d]at e;exact lG e
  ·rw[BL d];rw[BL d]at e;exact lG e
theorem Sf{k:Nat}(P:Pm p n)(A:k<n)(u:m<=k):Pm (bubble p k<|k-m) n:=by
 have v:k<p.size:=by rwa[P.size]
 refine⟨by rw[bubble_size];exact P.size,λi w=>?_,λi j w B q=>?_⟩
 ·rw[xH v u]
  split
  ·exact P.lt k A
  ·split
   ·exact P.lt _<|(by omega)
   ·exact P.lt _ w
 ·rw[xH v u,xH v u]at q;have s:∀a,a<n->∃b,b<n/\(if a=m then g p k else if m<a/\a<=k then g p (a-1)else g p a)=g p b/\((a=m/\b=k)\/(a≠m/\(m<a/\a<=k)/\b=a-1)\/(a≠m/\¬(m<a/\a<=k)/\b=a)):=λa C=>by
   by_cases c:a=m
   ·exact⟨k,A,by rw[BP c],.inl ⟨c,rfl⟩⟩
   ·by_cases d:m<a/\a<=k
    ·exact⟨a-1,(by omega),by rw[BL c,BP d],.inr<|.inl ⟨c,d,rfl⟩⟩
    ·exact⟨a,C,by rw[BL c,BL d],.inr<|.inr ⟨c,d,rfl⟩⟩
  obtain⟨x,D,E,G⟩:=s i w;obtain⟨y,H,I,z⟩:=s j B;rw[E,I]at q;have e:=P.inj x y D H q;subst e
  obtain⟨t,l⟩|⟨t,l,r⟩|⟨t,l,r⟩:=G
  ·obtain⟨o,f⟩|⟨o,f,h⟩|⟨o,f,h⟩:=z
   ·exact t.trans o.symm
   ·exact absurd (l.symm.trans h)<|Cz<|Bq (Nat.sub_lt (Gx f.1) Ff) f.2
   ·exact absurd ⟨Go (by rwa[<-h,l])<|CK o,by rw[<-h,l];exact An _⟩ f
  ·obtain⟨o,f⟩|⟨o,f,h⟩|⟨o,f,h⟩:=z
   ·exact absurd (f.symm.trans r)<|Cz<|Bq (Nat.sub_lt (Gx l.1) Ff) l.2
   ·exact Nat.sub_one_cancel (Gx l.1) (Gx f.1)<|r.symm.trans h
   ·exact absurd ⟨Go (by rw[<-h,r];exact Nat.le_sub_one_of_lt l.1)<|CK o,by rw[<-h,r];exact Ch (Nat.sub_le _ _) l.2⟩ f
  ·obtain⟨o,f⟩|⟨o,f,h⟩|⟨o,f,h⟩:=z
   ·exact absurd ⟨Go (by rwa[<-r,f])<|CK t,by rw[<-r,f];exact An _⟩ l
   ·exact absurd ⟨Go (by rw[<-r,h];exact Nat.le_sub_one_of_lt f.1)<|CK t,by rw[<-r,h];exact Ch (Nat.sub_le _ _) f.2⟩ l
   ·exact r.symm.trans h
theorem wY{k:Nat}(P:Pm p n)(r:k<n)(b:m<=k)(a:Up lt p k)(l:∀i,i<m->lt (g p i) (g p k)=true)(o:∀i,m<=i->i<k->lt (g p k) (g p i)=true):Up lt (bubble p k<|k-m) (k+1):=λi j q s=>by
 have h:k<p.size:=by rwa[P.size]
 rw[xH h b,xH h b]
 by_cases c:i=m
 ·rw[BP c,BL (by omega),BP<|(by omega)];exact o _ (by omega)<|(by omega)
 ·rw[BL c]
  by_cases d:j=m
  ·rw[BP d,BL<|(by omega)];exact l i<|(by omega)
  ·rw[BL d]
   by_cases e:m<i/\i<=k
   ·rw[BP e,BP<|(by omega)];exact a _ _ (by omega)<|(by omega)
   ·rw[BL e]
    by_cases f:m<j/\j<=k
    ·rw[BP f];exact a _ _ (by omega)<|(by omega)
    ·rw[BL f];exact a _ _ q<|(by omega)
theorem U1(A:eR lt cmp J n):∀f p k Q s,Pm p n->1<=k->k+f=n->Up lt p k->J s->(∀q s',J s'->Pm q n->Up lt q n->Q q s')->(kas_bin f p k).kasWp cmp Q s
 |0,p,k,Q,s,P,d,e,a,b,q=>by
  have:k=n:=(by omega)
  subst this;exact q p s b P a
 |f+1,p,k,Q,s,P,d,e,a,b,q=>by
  unfold kas_bin;rw[KN];refine Lb A P (by omega) a k 0 k _ s (An _) (Bx _) (by omega) b (λi h=>(by omega)) (λi h r=>(by omega)) λm s' j c l o=>?_;exact U1 A f _ (k+1) Q s' (Sf P (by omega) c) (by omega) (by omega) (wY P (by omega) c a l o) j q
theorem SO(A:eR lt cmp J n){Q:Array Nat->Shared->Prop}(d:2<=n)(e:J s)(q:∀p s',J s'->Pm p n->Up lt p n->Q p s'):(kas_sort n).kasWp cmp Q s:=by
 unfold kas_sort;rw[KN];refine ZB A (UY n) d e λr p s' a f h P b=>?_;show(if r<n then kas_bin (n-max r 1) p (max r 1)else .ret p:KasT _).kasWp cmp Q s';have em:max r 1=r:=(by omega)
 rw[em]
 by_cases c:r<n
 ·rw[BP c];exact U1 A (n-r) p r Q s' P f (by omega) b a q
 ·rw[BL c];have:r=n:=(by omega)
  subst this;exact q p s' a P b
end
theorem U2(P:Pm p n):p.toList.Nodup:=by
 rw[By,Bc];intro i j a b k e;have c:i<n:=by rwa[Bu,P.size]at a
 have d:j<n:=by rwa[Bu,P.size]at b
 have f:=jV (by rw[<-Bj];exact Ab a);have h:=jV (by rw[<-Bj];exact Ab b);have:=P.inj i j c d (by rw[f,h,e]);omega
def Lc{v:Nat}(P:Pm p n)(h:v∈p.toList):v<n:=by
 obtain⟨i,a⟩:=Be h;have b:i<n:=by have:=(Ac.mp a).1;rwa[Bu,P.size]at this
 have c:=jV (by rwa[<-Bj]);rw[<-c];exact P.lt i b
theorem gF(P:Pm p n):p.toList.Perm (range n):=by
 rw[Fr (U2 P) Ga];intro v;rw[Bo];refine⟨λh=>Lc P h,λh=>CQ λb=>?_⟩;have c:=Nt.aU (U2 P) λz a=>by
  have d:z≠v:=λe=>b<|e ▸ a;exact(Ft d).mpr<|Bo.mpr<|Lc P a
 rw[Gi<|Bo.mpr h,Bu,P.size,Dq]at c;omega
def Hd(h:Heap)(v:Value)(z:Str):Prop:=∃a o b n t,v=.ref a/\h.get? a=some o/\o.cls=.type "tuple"/\o.data=.seq b n/\b[0]?=some (.str z t)
def Hd.keep{h h':Heap}{v:Value}{z:Str}(x:Hd h v z)(k:∀a o,v=.ref a->h.get? a=some o->h'.get? a=some o):Hd h' v z:=by
 obtain⟨a,o,b,n,t,e,c,d⟩:=x;exact⟨a,o,b,n,t,e,k a o e c,d⟩
def rY(h:Heap)(vs:Ò)(zs:Ð):Prop:=vs.length=zs.length/\∀(i:Nat)v z,vs[i]?=some v->zs[i]?=some z->Hd h v z
def zd(zs:Ð)(i j:Nat):Bool:=decide ((zs.getD i ⟨#[]⟩).cps.toList<(zs.getD j ⟨#[]⟩).cps.toList)
variable{E:Í}{U:Program}{zs:Ð}{vs:Ò}{P:Fin->Shared->Prop}
section
variable{w:World}{A:Around}
theorem U3:∀{h}{vs}{zs},rY h vs zs->∃c,KatTups h vs c/\c.length=vs.length/\∀f∈c,∃z t,f=Value.str z t
 |h,[],_,_=>⟨[],KatTups.nil,rfl,λf d=>by cases d⟩
 |h,v :: vs,[],e=>by have:=e.1;simp at this
 |h,v :: vs,z :: zs,e=>by
  obtain⟨c,l,m,p⟩:=U3 ⟨by have:=e.1;simpa using this,λi a b j k=>e.2 (i+1) a b (by simpa using j)<|(by simpa using k)⟩;obtain⟨a,o,s,n,t,rfl,j,k,q,r⟩:=e.2 0 v z rfl rfl;refine⟨.str z t :: c,KatTups.cons j k q r l,by rw[As,As,m],λf d=>?_⟩
  obtain rfl|d:=Ai.mp d
  ·exact⟨z,t,rfl⟩
  ·exact p f d
def DB{x y:Value}{z u:Str}{Q:Bool->Shared->Prop}(l:Hd s.heap x z)(m:Hd s.heap y u)(p:z≠u)(h:Q (decide (z.cps.toList<u.cps.toList)) s):(ba U w A) (keyLt' (tuples' true) x y) Q E s:=by
 obtain⟨a,o,d,n,t,rfl,q,D,v,G⟩:=l;obtain⟨b,H,f,I,i,rfl,g1,g2,g3,J⟩:=m;refine kat_lt q v g1 g3 ?_;have j:∃r,d.toList=.str z t :: r:=by
  have:d.toList[0]?=some (.str z t):=by rwa[Bj]
  cases e:d.toList with
  |nil=>rw[e]at this;cases this
  |cons c r=>rw[e]at this;cases this;exact⟨r,rfl⟩
 have k:∃r,f.toList=.str u i :: r:=by
  have:f.toList[0]?=some (.str u i):=by rwa[Bj]
  cases e:f.toList with
  |nil=>rw[e]at this;cases this
  |cons c r=>rw[e]at this;cases this;exact⟨r,rfl⟩
 obtain⟨B,j⟩:=j;obtain⟨C,k⟩:=k;rw[j,k];show KatLex U w A true _ Q ((.str z t,.str u i):: B.zip C) 0 s;refine kat_cons<|eqBool_str ?_;have:(z == u)=false:=beq_eq_false_iff_ne.mpr p;rw[this];exact kat_no<|oneLt_str h
def Bi{a b:Str}(h:a.cps.toList=b.cps.toList):a=b:=by
 apply Str.ext';exact Array.toList_inj.mp h
theorem pw(m:rY s.heap vs zs)(n:zs.Nodup):eR (zd zs) (kas_ask U w A (tuples' true) vs) (λs'=>s'=s) vs.length:=by
 have v:=m.1;have l:∀i,(a:i<zs.length)->zs.getD i ⟨#[]⟩=zs[i]:=λi a=>by simp[a]
 have o:∀i,(a:i<vs.length)->vs.getD i Value.none=vs[i]:=λi a=>by simp[a]
 have ne:∀i j,(a:i<zs.length)->(b:j<zs.length)->i≠j->zs[i]≠zs[j]:=λi j a b f e=>by
  obtain c|c:=Nat.lt_or_gt_of_ne f
  ·exact Bc.mp (By.mp n) i j a b c e
  ·exact Bc.mp (By.mp n) j i b a c e.symm
 refine⟨λi j C s' a b f t u=>?_,λi j a b f=>?_,λi j h=>?_,λi j k p r=>?_⟩
 ·subst t;unfold kas_ask;rw[o i a,o j b];have e:zd zs i j=decide (zs[i].cps.toList<zs[j].cps.toList):=by unfold zd;rw[l i (by omega),l j<|(by omega)]
  refine DB (m.2 i _ zs[i] (Ab a)<|Ab<|(by omega)) (m.2 j _ zs[j] (Ab b)<|Ab<|(by omega)) (ne i j (by omega) (by omega) f) ?_;rw[<-e];exact u s' rfl
 ·unfold zd;rw[l i (by omega),l j (by omega),CN,CN]
  by_cases c:zs[i].cps.toList<zs[j].cps.toList
  ·exact .inl c
  ·by_cases d:zs[j].cps.toList<zs[i].cps.toList
   ·exact .inr d
   ·have:zs[i].cps.toList=zs[j].cps.toList:=List.le_antisymm (List.not_lt.mp d)<|List.not_lt.mp c;exact absurd (Bi this)<|ne i j (by omega) (by omega) f
 ·unfold zd at h ⊢;have:=BX h;exact BR λq=>Gv _<|Hc this q
 ·unfold zd at p r ⊢;exact BW<|Hc (BX p)<|BX r
def map_range(vs:Ò):(range vs.length).map (λi=>vs.getD i Value.none)=vs:=by
 apply RP
 ·simp
 ·intro i b a;simp[a]
theorem fx{a:Addr}(r:s.heap.get? a=some (seqObj "list" vs.toArray n))(M:∀v∈vs,v ≠ .ref a)(C:rY s.heap vs zs)(N:zs.Nodup)(O:vs.length<64)
  (h:∀p:Array Nat,Pm p vs.length->Up (zd zs) p vs.length->P (.done<|.ret .none) {s with heap:=sortedHeap s.heap a vs (List.toArray<|p.toList.map λi=>vs.getD i Value.none)}):
  (ba U w A) (Builtin.«list.sort» ⟨[.ref a],[]⟩) P E s:=by
 rw[list_sort_plain];have CA:vs.length<=sizeLine:=by rw[DX];omega
 refine BJ<|QB r rfl<|BJ<|NQ r rfl ?_;obtain⟨u,D⟩:∃ u,(s.heap.update a<|Obj.mapSeq λ_=>#[]).get? a=some (seqObj "list" #[] u):=⟨_,get?_update_seq r λ_=>#[]⟩;refine BJ<|QM D rfl ?_;refine BJ<|QK ?_;refine BJ<|KC ?_;refine CJ ?_;have l:(((s.heap.update a<|Obj.mapSeq λ_=>#[]).push<|seqObj "tuple" vs.toArray 0).push<|seqObj "list" #[] 0).get? a=some (seqObj "list" #[] u):=Aj _<|Aj _ D;show (ba U w A) _ P E {s with heap:=((s.heap.update a<|Obj.mapSeq λ_=>#[]).push<|seqObj "tuple" vs.toArray 0).push (seqObj "list" #[] 0)};have H:rY (((s.heap.update a<|Obj.mapSeq λ_=>#[]).push<|seqObj "tuple" vs.toArray 0).push<|seqObj "list" #[] 0) vs zs:=⟨C.1,λi v z I c=>(C.2 i v z I c).keep λb o e q=>by
  have Y:a≠b:=λe2=>M v (Ao I) (by rw[e,e2]);exact Aj _<|Aj _<|(Cm _ _ Y).trans q⟩
 dsimp only
 have d:vs.toArray.size=vs.length:=by simp
 by_cases c:vs.toArray.size<2
 ·rw[BP c,BP c];refine BJ<|BK ?_;rw[StateT.run_pure];refine BJ<|BK ?_
  dsimp only
  have J:(arrOf<|SortSt.mk' general' (vs.toArray.zip vs.toArray) #[] 7 none).map (·.2)=vs.toArray:=by
   show(vs.toArray.zip vs.toArray).map (·.2)=_;apply Array.toList_inj.mp;simp[List.map_snd_zip]
  refine BJ<|QM l rfl ?_;refine BJ (NQ l rfl ?_ (hsz2:=by rw[J,d];omega));simp only[HD,Aq,CP];refine BK ?_;rw[J];have fin:=h (List.toArray<|range vs.length) (UY _) λi j hi hj=>by rw[d]at c;omega
  have e6:(List.toArray<|range vs.length).toList.map (λi=>vs.getD i Value.none)=vs:=map_range vs;rwa[e6]at fin
 ·rw[BL c,BL c];obtain⟨fs,k1,k2,k3⟩:=U3 H;rw[d]at c;refine BJ<|kat_kind (T:= .type "str") k1 (by omega) (λf x=>?_) (by decide) ?_
  ·obtain⟨z,t,rfl⟩:=k3 f x;exact Looks.of_pure rfl
  refine BJ<|CW (kat_run (prog:=U) (w:=w) (A:=A) (E:=E) (κ:=tuples' true) (ks:=vs) (vs:=vs) (Q:=λm k=>k={s with heap:=((s.heap.update a<|Obj.mapSeq λ_=>#[]).push<|seqObj "tuple" vs.toArray 0).push (seqObj "list" #[] 0)}/\∃p:Array Nat,Pm p vs.length/\Up (zd zs) p vs.length/\arrOf m=p.map (kas_item<|vs.toArray.zip vs.toArray)/\failedOf m=none)
   (G:=λp k=>k={s with heap:=((s.heap.update a<|Obj.mapSeq λ_=>#[]).push<|seqObj "tuple" vs.toArray 0).push (seqObj "list" #[] 0)}/\Pm p vs.length/\Up (zd zs) p vs.length) rfl (by omega) O (λp m k _ a2 a3 y=>⟨y.1,p,y.2.1,y.2.2,a2,a3⟩)
   (SO (pw (s:={s with heap:=((s.heap.update a<|Obj.mapSeq λ_=>#[]).push<|seqObj "tuple" vs.toArray 0).push (seqObj "list" #[] 0)}) H N) (by omega) rfl λp k e P B=>⟨e,P,B⟩)) ?_ λ_ _ e=>e
  rintro ⟨⟨⟩,m⟩ k ⟨rfl,p,P,B,zC,x⟩
  dsimp only
  have L:=kat_snds (ks:=vs) (vs:=vs) rfl zC;refine BJ<|QM l rfl ?_;refine BJ (NQ l rfl ?_ (hsz2:=by rw[L,Ay,Aa,Bu,P.size];omega));rw[x];simp only[HD,Aq,CP];refine BK ?_;rw[L];exact h p P B
theorem q8{l:Addr}{Q:Í}(k:s.heap.IsList l vs.toArray)(c:rY s.heap vs zs)(x:zs.Nodup)(y:vs.length<64)
  (h:∀h' e p,Pm p vs.length->Up (zd zs) p vs.length->(∀ b u,s.heap.get? b=some u->h'.get? b=some u)->h'.get? (s.heap.objs.size+1)=some (seqObj "list" (List.toArray<|p.toList.map λi=>vs.getD i Value.none) e)->Q (.ref<|s.heap.objs.size+1) {s with heap:=h'}):
  (ba U w A) (call (.builtin "sorted") [.ref l]) Q E s:=by
 have L:vs.length<=sizeLine:=by rw[DX];omega
 refine Calls.call_function_entry kind_sorted plain_sorted entry_sorted (args_sorted1 _) ?_;unfold Builtin.«sorted»;refine BJ<|BK ?_;refine BJ<|collect_list (vs:=vs) k ?_;refine BJ<|KC ?_;have a:((s.heap.push<|seqObj "list" #[] 0).update s.heap.objs.size (Obj.mapSeq (·++vs.toArray))).objs.size=s.heap.objs.size+1:=by
  rw[Heap.size_update,size_push']
 have m:(((s.heap.push<|seqObj "list" #[] 0).update s.heap.objs.size (Obj.mapSeq (·++vs.toArray))).push<|seqObj "list" vs.toArray 0).get? (s.heap.objs.size+1)=some (seqObj "list" vs.toArray 0):=by
  rw[<-a];exact At _ rfl
 have d:rY (((s.heap.push<|seqObj "list" #[] 0).update s.heap.objs.size (Obj.mapSeq (·++vs.toArray))).push<|seqObj "list" vs.toArray 0) vs zs:=⟨c.1,λi v z f B=>(c.2 i v z f B).keep λb o e q=>
  Aj _ ((Cm _ _<|Cz<|Av q).trans<|Aj _ q)⟩
 have C:∀v∈vs,v ≠ .ref (s.heap.objs.size+1):=λv D e=>by
  obtain⟨i,r⟩:=Be D;have k:=c.1;have j:i<zs.length:=by have:=(Ac.mp r).1;omega
  obtain⟨b,o,M,n,t,G,f,_⟩:=c.2 i v zs[i] r<|Ab j;rw[G]at e;cases e;exact absurd (Nat.lt_of_succ_lt<|Av f)<|De _
 show wpAny _ _ _ _ _ {s with heap:=((s.heap.push<|seqObj "list" #[] 0).update s.heap.objs.size (Obj.mapSeq (·++vs.toArray))).push (seqObj "list" vs.toArray 0)};rw[a];refine BJ<|CJ<|DG slot_list_sort ⟨_,m,rfl⟩ entry_list_sort (fx m C d x y λp P H=>⟨_,rfl,?_⟩)<|args_list_sort _;obtain⟨e,I⟩:=sortedAll_at s.heap vs<|List.toArray<|p.toList.map λi=>vs.getD i Value.none;exact BK ⟨_,rfl,h _ e p P H (λb u J=>sortedAll_old J) I⟩
end
end pK
namespace L2
open PySem PySem.Spec PyProof.Rows pK
theorem U5:∀{b:(List Addr)}{a:Ò},ay ((b.map V.ref)) a->a=b.map Value.ref
 |[],a,r=>r.zero
 |t :: b,a,r=>by
  cases r with
  |cons c d=>
   rw[U5 d];have:_=Value.ref t:=c;rw[this];rfl
theorem U6:∀(a:(List Addr)),ay ((a.map V.ref))<|a.map Value.ref
 |[]=> .nil
 |t :: a=> .cons rfl (U6 a)
theorem dt{α c:Type}(xs:List α)(ys:List c)(h:xs.length=ys.length)(a:α)(b:c):(range xs.length).map (λi=>(xs.getD i a,ys.getD i b))=xs.zip ys:=by
 apply RP
 ·simp[h]
 ·intro i d j;have e:i<xs.length:=by simp at d;exact d
  have f:i<ys.length:=(by omega)
  simp[e,f]
variable{R:St->Hp->Prop}
section
variable{X:Cx}{σ:St}{H:Hp}
theorem qd:gR X (.builtin "sorted") (λxs H Q=>∃(l:Addr) (c:(List Addr)) (zs:Ð),xs=[.ref l]/\au X.K H l ((c.map V.ref))/\c.length=zs.length/\zs.Nodup/\c.length<64/\(∀(i:Nat) t z,c[i]?=some t->zs[i]?=some z->∃r,H t=some (.tup<|.str z :: r)) /\
  ∀(r:Addr)(ps:List<|Addr×Str),H r=none->ps.Perm (c.zip zs)->ps.Pairwise (λa b=>a.2.cps.toList<b.2.cps.toList)->Q (.ref r) (upd H r<|.lst<|ps.map λp=> .ref p.1)):=by
 intro O s σ H xs us Q I r h;obtain⟨l,c,zs,rfl,C,d,D,vR,hd,q⟩:=h;obtain⟨u,rfl,E⟩:=ma r;cases (show u=Value.ref l from E);obtain⟨G,J,L,_⟩:=I.list C;have M:=U5 J;subst M;have N:rY s.heap (c.map Value.ref) zs:=by
  refine⟨by rwa[Aa],λi v z w T=>?_⟩;rw[Ah,Az]at w;obtain⟨t,U,rfl⟩:=w;obtain⟨rr,Y⟩:=hd i t z U T;obtain⟨G,r3,tp,_⟩:=I.tuple<|aQ.of Y;cases r3 with
  |cons a1 a2=>
   obtain⟨tk,rfl⟩:=a1;obtain⟨o,ho,hc,n,k⟩:=tp;exact⟨t,o,_,n,tk,rfl,ho,hc,k,rfl⟩
 refine q8 L.isList N D (by rwa[Aa]) λy e p P A kp he=>?_;rw[Aa]at P A;have gp:∀i,i<c.length->g p i<c.length:=P.lt;have m:p.toList.length=c.length:=by rw[Bu];exact P.size
 have e1:(p.toList.map λi=>(c.map Value.ref).getD i Value.none)=((p.toList.map λi=>(c.getD i 0,zs.getD i ⟨#[]⟩)).map λx=>x.1).map Value.ref:=by
  rw[Bs,Bs];refine Ap λi f=>?_;have aX:=Lc P f;show(c.map Value.ref).getD i Value.none=Value.ref (c.getD i 0);simp[aX]
 refine⟨.ref _,_,I.fH (s':={s with heap:=y}) kp rfl rfl (Es _) (show aB X.U X.w _ y _ (.lst<|(p.toList.map λi=>(c.getD i 0,zs.getD i ⟨#[]⟩)).map λx=>V.ref x.1)from ?_),rfl,q _ (p.toList.map λi=>(c.getD i 0,zs.getD i ⟨#[]⟩)) (I.aH.fresh<|Es _) ?_ ?_⟩
 ·refine⟨by rw[Aa,Aa,m,DX];omega,_,e,?_,he⟩;rw[e1];have:=U6<|(p.toList.map λi=>(c.getD i 0,zs.getD i (⟨#[]⟩:Str))).map λx=>x.1;rwa[Bs]at this
 ·rw[<-dt c zs d 0 ⟨#[]⟩];exact(gF P).map _
 ·rw[Bc];intro i j f B eW;rw[Aa]at f B;have:=A i j eW (by omega);have q1:g p i=p.toList[i]:=jV (by rw[<-Bj];exact Ab f);have q2:g p j=p.toList[j]:=jV (by rw[<-Bj];exact Ab B);rw[q1,q2]at this;rw[Ed,Ed];exact BX this
def FS{e1 e2 a:Expr}{k:Nat}{pos:Pos}{t:Addr}{x y z:V}(f:X.calm=true)(i:aQ X.K H t [x,y,z])(h:Eg X e1 x σ H λb d=>Eg X e2 y b d λc e=>Eg X a z c e R)
  (j:(assignEach [e1,e2,a] X.env).length=3:=by rfl) (l:(assignEach [e1,e2,a] X.env).findIdx? (·.1)=none:=by rfl)
  (m:(assignEach [e1,e2,a] X.env).map (·.2)=assign e1 X.env :: (assignEach [e2,a] X.env).map (·.2):=by rfl) (n:(assignEach [e2,a] X.env).map (·.2)=assign e2 X.env :: (assignEach [a] X.env).map (·.2):=by rfl) (o:(assignEach [a] X.env).map (·.2)=assign a X.env :: (assignEach [] X.env).map (·.2):=by rfl):
  Eg X (.Tuple [e1,e2,a] k pos) (.ref t) σ H R:=
 F3 (OB f (uV qi (uV qi (uV qi OA o) n) m) j l)
  ⟨t,_,rfl,i,rfl,_,_,rfl,h.mono λb d p=>⟨_,_,rfl,p.mono λc e r=>⟨_,_,rfl,r.mono λs u q=>⟨rfl,q⟩⟩⟩⟩
end
end L2
namespace E9
open PySem L2 Nt bE
abbrev T3(x:Lk):HO:= .tup [.str x.1,.str x.2.1,.str x.2.2]
def nZ(H:Hp)(a:(List Addr))(b:List Lk):Prop:=a.length=b.length/\∀(j:Nat)u x,a[j]?=some u->b[j]?=some x->H u=some (T3 x)
variable{ls:List Lk}{us:(List Addr)}
def nZ.keep{H H':Hp}(h:nZ H us ls)(k:∀t xs,H t=some (.tup xs)->H' t=some (.tup xs)):nZ H' us ls:=⟨h.1,λj u x a b=>k _ _<|h.2 j u x a b⟩
theorem nZ.snoc{H:Hp}{u:Addr}{x:Lk}(h:nZ H us ls)(d:H u=some (T3 x)):nZ H (us++[u]) (ls++[x]):=by
 refine⟨by rw[Ag,Ag,h.1];rfl,λj v y a b=>?_⟩;have e:=h.1
 by_cases f:j<us.length
 ·rw[Ax f]at a;rw[Ax<|(by omega)]at b;exact h.2 j v y a b
 ·rw[Bd<|(by omega)]at a b;have c:j-us.length=0:=by
   have:=(Ac.mp a).1;simp at this;omega
  rw[c]at a;rw[<-e,c]at b;cases a;cases b;exact d
def CB(ls:List Lk):Prop:=ls.Pairwise λx y=>x.1.cps.toList<y.1.cps.toList
def Ld:Sp:=λb H Q _=>∃R as n,b=[.ref R]/\ai H R as n/\aq n/\n.length<=1000/\(ag n).length<=60 /\
 ∀L us ls a,aj H a->H L=none->a L=some (.lst<|us.map V.ref)->nZ a us ls->CB ls->(∀x,x∈ls↔pj n x)->ls.length<=60->Q (.ref L) a
theorem wC{n:bi}(T:aq n){r p:Nat}{z:Str}(c:r<n.length)(b:(row n r)[p]?=some z):(bT (bn (n.take r)++bF r ((row n r).take p) 0) z).length<=1:=by
 obtain⟨a,h⟩:=wV c b;have d:bT (bn n) z=bT (bn (n.take r)++bF r ((row n r).take p) 0) z++(r,p):: bT a z:=by
  rw[h];unfold bT;rw[Cv,Al,RZ<|by simp];rfl
 have f:(bT (bn n) z).length=2:=by
  have:=qI n z;rwa[T z<|eV (e:=(r,p)) b]at this
 rw[d,Ag,As]at f;omega
variable{Z:Heap}{mg:Ñ}{K:aa}{fd:FuncData}
section
variable{P:Program}{w:World}
abbrev RF:Ð:=["rows","met","links","point","ties","tie"]
def xI:ak RF ["rows"] (aW Iw):=cm
theorem lS{f:Addr}(F:bB K "links_of" "links_of" Iw f fd)(T:Txt mg):(aE P w K mg Z bK) 1 f fd ["rows"] Ld:=by
 refine F.gc xI λb0 H vs Q E hr h=>?_;obtain⟨R,as,n,rfl,hR,hT,hn,dZ,q⟩:=h;have nd:=xI.nd;have cq:=hR.len;have hu:=hr.u1;refine aZ 1 nd<|Ih λl qV=>?_;refine aZ 2 nd<|di<|ax ⟨Z0,λM hM=>?_⟩;have mG:M≠l:=λe=>by rw[e,az]at hM;cases hM
 have U7:H M=none:=by rwa[aw mG]at hM
 have s0:aj H (upd (upd H l<|.dK []) M<|.lst []):=(aS qV _).trans<|aS hM _;have xJ:(upd (upd H l<|.dK []) M<|.lst []) l=some (.dK []):=by rw[aw<|CK mG,az]
 have xK:(upd (upd H l<|.dK []) M<|.lst []) M=some (.lst []):=az;generalize upd (upd H l<|.dK []) M (.lst [])=H0 at s0 xJ xK;have Le:(bn n).length=(ag n).length:=by rw[<-kJ n 0,Aa];rfl
 refine jF<|ae 0 ⟨R,rfl,⟨_,au.of<|s0 _ _ hR.lst⟩,jG (xs:=as.map λa=>V.ref a.1) (λr Y H'=>∃(m:List<|Key×V)(us:(List Addr))(ls:List Lk)(u1 u2 u3:Option V),aj H H'/\H' l=some (.dK m)/\H' M=some (.lst<|us.map V.ref)/\nZ H' us ls/\jq n (bn<|n.take r) m ls/\Y=[(some (.ref R)),(some (.ref l)),(some (.ref M)),u1,u2,u3])
  ⟨[],[],[],_,_,_,s0,xJ,xK,⟨rfl,λj u x h=>by simp at h⟩,jq.start n,rfl⟩ ?_ ?_ ?_⟩
 ·rintro r Y H' _ ⟨_,_,_,_,_,_,o,_⟩;exact au.of<|o _ _ hR.lst
 ·rintro r x Y H' s ⟨m,us,ls,u1,u2,u3,o,v,N,A,I,rfl⟩;have B:r<n.length:=by
   have:=(Ac.mp s).1;rw[Aa]at this;omega
  obtain⟨a,ea,dJ,et,el,er⟩:=(hR.same o).at B;rw[Ah,ea]at s;cases s;refine jN rfl (aQ.of et) (bw 3 nd<|bw 4 nd ?_);refine jF<|ae 4 ⟨a.2,rfl,⟨_,au.of el⟩,jG (xs:=(row n r).map V.str) (λp Y C=>∃(m:List<|Key×V)(us:(List Addr))(ls:List Lk)(u3:Option V),aj H C/\C a.2=some (Ls<|row n r)/\C l=some (.dK m)/\C M=some (.lst<|us.map V.ref)/\nZ C us ls/\jq n (bn (n.take r)++bF r ((row n r).take p) 0) m ls/\Y=[(some (.ref R)),(some (.ref l)),(some (.ref M)),some<|.str n[r].1,some<|.ref a.2,u3])
   ⟨m,us,ls,_,o,el,v,N,A,by simpa[bF]using I,rfl⟩ ?_ ?_ ?_⟩
  ·rintro p Y C _ ⟨_,_,_,_,_,e,_⟩;exact au.of e
  ·rintro p x Y C s ⟨m,us,ls,u3,o,el,v,N,A,I,rfl⟩;have hp:p<(row n r).length:=by
    have:=(Ac.mp s).1;rwa[Aa]at this
   have O:(row n r)[p]?=some (row n r)[p]:=Ab hp;rw[Ah,O]at s;cases s;have j9:=qK (r:=r) O;have Ö:=wC hT B O;have U8:(bn (n.take r)++bF r ((row n r).take p) 0).length<=60:=by
    obtain⟨D,jv⟩:=wV B O;have G:=BZ List.length jv;simp only[Ag]at G ⊢;omega
   have lM:=I.eQ;have lL:=I.nO;have lA:=A.1;have U9:aC n r=n[r].1:=gn B;have Ø:a.2≠M:=λe=>by
    have:=(hR.tup r a n[r] ea<|Ab B).2;rw[e,U7]at this;cases this
   generalize (row n r)[p]=z at O j9 Ö;refine bw 5 nd ?_;refine dP<|Rf hu<|ae 5<|ae 1 ⟨l,_,rfl,bb.k (k:=Sum.inr z) v,?_⟩;cases kg:bT (bn (n.take r)++bF r ((row n r).take p) 0) z with
   |nil=>
    rw[I.m0 z kg];show if false=true then _ else _;rw[BL<|(by decide)];refine vU hu<|ae 3<|ae 1<|ae 5 ⟨l,_,rfl,cw.k (k:=Sum.inr z) v (cg<|(by omega)),a9<|a9 ⟨_,us,ls,_,fI o qV,?_,az,?_,A.keep λt d h=>?_,?_,rfl⟩⟩
    ·rwa[aw<|cf el v λz=>nomatch z]
    ·rwa[aw mG]
    ·rwa[aw<|cf h v λz=>nomatch z]
    ·rw[j9,<-Ar];have:=I.new (e:=(r,p)) kg;show jq n _ (putK m (Sum.inr z)<|.str n[r].1) ls;rwa[<-U9]
   |cons b D=>
    have Ù:D=[]:=by
     rw[kg]at Ö;exact Bv.mp<|by have:D.length+1<=1:=Ö;omega
    subst Ù;have vm:=I.m1 z b [] kg;rw[vm];show if true=true then _ else _;rw[BP rfl];refine gG (ka<|ae 2 ⟨M,rfl,⟨_,N⟩,d9<|ah<|ae 5<|ah<|gJ hu<|ae 1<|ae 5 ⟨l,.str<|aC n b.1,rfl,by rw[<-vm];exact bb.k (k:=Sum.inr z) v,ah<|ae 3<|ax ⟨(by show 3<=sizeLine;decide),λt ht=>?_⟩⟩⟩);have sT:=aS ht<|.tup [.str z,.str<|aC n b.1,.str n[r].1];have Û:t≠M:=λe=>by rw[e,N]at ht;cases ht
    have KE:(upd C t<|.tup [.str z,.str<|aC n b.1,.str n[r].1]) t=some (T3 (z,aC n b.1,aC n (r,p).1)):=by
     rw[az];show _=some (HO.tup [.str z,.str<|aC n b.1,.str<|aC n r]);rw[U9]
    have kT:∀c d,(upd C t<|.tup [.str z,.str<|aC n b.1,.str n[r].1]) c=some (.tup d)->(upd (upd C t<|.tup [.str z,.str<|aC n b.1,.str n[r].1]) M<|.lst<|us.map V.ref++[.ref t]) c=some (.tup d):=λc d h=>by
     rwa[aw<|cf h (sT _ _ N) λz=>nomatch z]
    refine⟨_,sT _ _ N,by rw[Aa];exact cg (by omega),a9<|a9 ⟨m,us++[t],ls++[(z,aC n b.1,aC n (r,p).1)],_,fI (o.trans sT) U7,?_,?_,?_,?_,?_,rfl⟩⟩
    ·rw[aw Ø];exact sT _ _ el
    ·rw[aw<|CK mG];exact sT _ _ v
    ·rw[az,Al];rfl
    ·exact((A.keep λc d h=>sT _ _ h).snoc KE).keep kT
    ·rw[j9,<-Ar];exact I.old (e:=(r,p)) kg
  ·rintro Y C ⟨m,us,ls,u3,o,_,v,N,A,I,rfl⟩;rw[Aa,Ca]at I;refine a9 ⟨m,us,ls,_,_,_,o,v,N,A,?_,rfl⟩;rwa[tQ B]
 ·rintro Y H' ⟨m,us,ls,u1,u2,u3,o,v,N,A,I,rfl⟩;rw[Aa,cq,Ca]at I;have lL:=I.nO;have lA:=A.1;have aX:us.length<64:=(by omega)
  refine bS (cM qd T.sorted DR (ah (ae 2 (ax ⟨M,us,ls.map (·.1),rfl,au.of N,by rwa[Aa],I.fM,aX,λi t z G U=>?_,λL J hL hp hs=>?_⟩))))
  ·rw[Ah,Az]at U;obtain⟨x,s,rfl⟩:=U;exact⟨_,A.2 i t x G s⟩
  have Õ:∀p∈J,∃x,x∈ls/\x.1=p.2/\H' p.1=some (T3 x):=λp jM=>by
   have O:=hp.mem_iff.mp jM;obtain⟨i,B⟩:=Be O;rw[List.getElem?_zip_eq_some]at B;obtain⟨G,U⟩:=B;rw[Ah,Az]at U;obtain⟨x,s,e⟩:=U;exact⟨x,Ao s,e,A.2 i _ x G s⟩
  obtain⟨d,fA⟩:∃d:List Lk,d.length=J.length/\∀(j:Nat)p x,J[j]?=some p->d[j]?=some x->x∈ls/\x.1=p.2/\H' p.1=some (T3 x):=by
   clear hs hp
   induction J with
   |nil=>exact⟨[],rfl,λj p x h=>by simp at h⟩
   |cons p r ih=>
    obtain⟨x,q1,q2,q3⟩:=Õ p<|Ae ..;obtain⟨d,l1,l2⟩:=ih λc hc=>Õ c<|Af _ hc;refine⟨x :: d,by rw[As,As,l1],λj c y G U=>?_⟩;cases j with
    |zero=>
     cases G;cases U;exact⟨q1,q2,q3⟩
    |succ j=>exact l2 j c y (by simpa using G)<|(by simpa using U)
  obtain⟨lx,fA⟩:=fA;have lp:J.length=ls.length:=by rw[hp.length_eq,List.length_zip,Aa];omega
  have sL:=aS hL<|.lst<|J.map λp=> .ref p.1;have U':CB d:=by
   unfold CB;rw[Bc];intro i j B hj eW;have a1:=(fA i J[i] d[i] (Ab<|(by omega))<|Ab B).2.1;have a2:=(fA j J[j] d[j] (Ab<|(by omega))<|Ab hj).2.1;rw[a1,a2];exact Bc.mp hs i j (by omega) (by omega) eW
  have rZ:(d.map (·.1)).Nodup:=by
   rw[By,Dr];exact U'.imp λh e=>by rw[e]at h;exact Gv _ h
  have sf:∀x,x∈d↔x∈ls:=λx=>by
   constructor
   ·intro h;obtain⟨j,hj⟩:=Be h;have oZ:=(Ac.mp hj).1;exact(fA j J[j] x (Ab<|(by omega)) hj).1
   ·intro h;refine CQ λhn=>?_;have Lf:d.Nodup:=by
     rw[By]at rZ ⊢;rw[Dr]at rZ;exact rZ.imp λh e=>h<|by rw[e]
    have:=aU Lf (b:=ls.erase x) λz O=>by
     have Ú:z∈ls:=by
      obtain⟨j,hj⟩:=Be O;have oZ:=(Ac.mp hj).1;exact(fA j J[j] z (Ab<|(by omega)) hj).1
     exact(Ft λe:z=x=>hn<|e ▸ O).mpr Ú
    rw[Gi h]at this;have:0<ls.length:=Gs h;omega
  refine q L (J.map (·.1)) d _ (o.trans sL) (iR o hL) (by rw[az,Bs];rfl) ⟨by rw[Aa];omega,λj u x G U=>?_⟩ U' (λx=>by rw[sf x];exact I.whole hT x) (by omega);rw[Ah,Az]at G;obtain⟨p,Kk,rfl⟩:=G;exact sL _ _ (fA j p x Kk U).2.2
end
end E9
namespace L2
open PySem PySem.Spec PyProof.Rows
variable{X:Cx}
section
variable{σ:St}{H:Hp}{Q:VK}
def q2h{k v:Expr}{pos:Pos}(e:X.A.units+1<cLine)(h:∀d,H d=none->Ev X k σ (upd H d<|.dK []) λy b=>Ev X v σ b λx c=>∃a,cw c d y x a/\Q (.ref d) a):Ev X (.Dict [some k] [v] pos) σ H Q:=by
 refine⟨λO s I=>wpAny_Dict_any rfl rfl (by simp) (by show 1<=15;decide) ?_⟩;have f:=I.laid (t':=s.toks) (λ_ _ q=>Aj _ q) (An _)<|Pz s.heap I.big;show wpAny _ _ (evalPairs [(eval k X.env,do let x <-eval v X.env;standAt pos;pure x)]) _ _ _;unfold evalPairs;refine BJ<|aO ((h _ I.fresh).run O _ f) λt i⟨y,b,j,l,m⟩=>?_;refine BJ<|CJ<|BJ<|aO (m.run O i j) λu w⟨x,c,n,o,a,p,q⟩=>?_;refine BJ<|GX<|BK ?_;unfold evalPairs;refine BJ<|CJ<|BK<|BK ?_;unfold storeAll;rw[Hi];refine BJ<|BJ<|R1 e n p l o λz r=>BK ?_;exact BK ⟨.ref _,a,r,rfl,q⟩
end
open bP
variable{OK:Heap->Prop}{P:Nat->Value->Prop}{E:Í}{U:Program}
end L2
namespace L2
open PySem PySem.Spec PyProof.Rows
variable{tp:Pos}{elts:Ó}{K:aa}
def Lg(K:aa)(l:Addr):It:=
  ⟨λi H => ∃a x, au K H l a ∧ a[i]?=some x,
   λi H v b=>∃T x,H T=none/\v=.ref T/\b=upd H T (.tup [.int (i:Int),x])/\∀a,au K H l a->a[i]?=some x,
   λi H=>∃a,au K H l a/\a.length<=i⟩
def LG(m l:Addr)(i:Nat)(h:Heap):Prop:=(∃old,IsEnum h (m+1) m (i:Int) old)/\h.IsListIter m l i
theorem We{P:Program}{w:World}{k:Nat}(m l:Addr):ue P w K (.Tuple elts k tp) (Lg K l) [m,m+1] (m+1) (LG m l) where
 mem:=by simp
 obj:=λi h st c hc=>by
  obtain⟨⟨old,z1⟩,⟨o4,e4,c4,d4⟩⟩:=st;simp only[Ai,Cc,GQ]at hc
  obtain rfl|rfl:=hc
  ·exact⟨_,e4,λv z=>by rw[d4]at z;cases z⟩
  ·exact⟨_,z1,λv z=>by cases z⟩
 keep:=λi h h' st kp=>by
  obtain⟨⟨old,z1⟩,⟨o4,e4,r4⟩⟩:=st;exact⟨⟨old,kp _ (by simp) _ z1⟩,⟨o4,kp _ (by simp) _ e4,r4⟩⟩
 item:=by
  intro X hP hw hK hc i O s σ H E I hf st hg;subst hP hw hK;obtain⟨xs,x,fA,hx⟩:=hg;obtain⟨kQ,nF,p1,qX⟩:=I.list fA;obtain⟨u1,eX,Jj⟩:=nF.get hx;obtain⟨⟨old,z1⟩,z4⟩:=id st;refine wpAny_pyNext_enum_item z1 z4 p1.isList (by simpa using eX) (by simp) λh' a1 a2 a3 a4 kp=>?_;have hT:=I.aH.fresh<|An _;have nT:∀c∈[m,m+1],c≠s.heap.objs.size:=λc bj=>by
   have:∃o,s.heap.get? c=some o:=by
    obtain⟨o4,e4,_⟩:=z4;simp only[Ai,Cc,GQ]at bj
    obtain rfl|rfl:=bj
    ·exact⟨_,e4⟩
    ·exact⟨_,z1⟩
   obtain⟨o,e⟩:=this;exact Bw<|Av e
  have I1:be X O σ (upd H s.heap.objs.size<|.tup [.int (i:Int),x]) {s with heap:=s.heap.push {cls:= .type "tuple",data:= .seq #[.int i s.toks,u1]},toks:=s.toks+1}:=
   I.laid (t':=s.toks+1) (λb o e=>Aj _ e) (An _) (show aB X.U X.w _ _ _ (.tup [.int (i:Int),x]) from⟨Z2,[.int i s.toks,u1],.cons ⟨_,rfl⟩<|.cons Jj .nil,⟨_,At _ rfl,rfl,_,rfl⟩⟩)
  have f1:∀ c∈[m,m+1],cr X O (upd H s.heap.objs.size<|.tup [.int (i:Int),x]) c:=λc bj=>⟨by rw[aw<|nT c bj];exact(hf c bj).1,(hf c bj).2⟩;have qF:∀ c o,c∉[m,m+1]->(s.heap.push {cls:= .type "tuple",data:= .seq #[.int i s.toks,u1]}).get? c=some o->h'.get? c=some o:=λc o bj e=>by
   obtain⟨ec,eo⟩|e':=He e
   ·rwa[ec,eo]
   ·simp only[Ai,Cc,GQ,not_or]at bj;exact kp c o bj.2 bj.1 e'
  have I2:=be.bU (h':=h') (t':=s.toks+1) I1 f1 qF;refine⟨_,rfl,wpAny_letOwnedTupleGo_enum (s:={s with heap:=h',toks:=s.toks+1}) a1 λh2 b1 sb=>?_⟩;have AO:∀c o,c∉[m+1]->h'.get? c=some o->h2.get? c=some o:=λc o bj e=>(sb.2 c<|(by simpa using bj)).trans e;have I3:=be.bU (h':=h2) (t':=s.toks+1) I2 (ch:=[m+1]) (λc bj=>f1 c<|by simp at bj;simp[bj]) AO;refine⟨.ref s.heap.objs.size,_,I3,rfl,⟨_,x,hT,rfl,rfl,λzs hz=>by rw[I.cY hz fA];exact hx⟩,?_,λc bj=>(f1 c bj).1⟩;obtain⟨o3,e3,r3⟩:=a2;exact⟨⟨u1,b1⟩,⟨o3,AO _ _ (by simp) e3,r3⟩⟩
 done:=by
  intro X hP hw hK hc i O s σ H E I hf st hg;subst hP hw hK;obtain⟨xs,fA,we⟩:=hg;obtain⟨kQ,nF,p1,qX⟩:=I.list fA;have l1:=nF.length;obtain⟨⟨old,z1⟩,z4⟩:=id st;refine wpAny_pyNext_enum_end (I.ok.hd hc) z1 z4 p1.isList (by simp;omega) λh' kp=>⟨rfl,I.bU (t':=s.toks) (ch:=[m,m+1]) hf λc o bj e=>?_⟩;simp only[Ai,Cc,GQ,not_or]at bj;exact kp c o bj.1 e
 self:=λ_ _ _ _ _ st h=>by
  obtain⟨⟨old,z1⟩,_⟩:=st;exact wpAny_pyIter_enum z1 h
variable{X:Cx}
def dV(K:aa)(ta:TA):TI:=λc H R=>ta c H λd b=>∃a,d=[.ref a]/\(∃e,au K b a e)/\R (Lg K a) b
theorem RI{k:Nat}{a:Expr}{ta:TA}{p pos:Pos}(l:Gl X "enumerate")(m:X.mg "enumerate" = none)(n:PA X [a] ta)(o:starEach [a] X.env=[(false,eval a X.env)]:=by rfl):
  PI X (.Tuple elts k tp) (.Call (.Name "enumerate" p) [a] [] pos) (dV X.K ta):=by
 intro O s r H R I h;refine Call_<|mQ I l m boot_enumerate<|IK (aO (n pos O s r H _ I h) λD c⟨E,t,f,v,w⟩=>?_) o rfl;obtain⟨x,e,⟨G,y⟩,q⟩:=w;subst e;obtain⟨u,rfl,z⟩:=v.one;cases (show u=Value.ref x from z);obtain⟨J,L,A,M⟩:=f.list y;refine call_enumerate_list A.isList λN i B Q C=>?_;refine wpAny_pyIter_enum i ?_;refine⟨c.heap.objs.size+1,[c.heap.objs.size,c.heap.objs.size+1],_,_,t,rfl,f.kept C,We c.heap.objs.size x,⟨⟨_,i⟩,B⟩,λb j=>?_,q⟩;have d:c.heap.objs.size<=b:=by
  simp only[Ai,Cc,GQ]at j
  obtain rfl|rfl:=j<;>omega
 exact f.jA d<|f.aH.fresh d
theorem Va(z:Str):∀zs:Ð,countIn (.str z) (zs.map PyData.str)=(zs.count z:Int)
 |[]=>rfl
 |y :: r=>by
  rw[Ba,countIn,Va z r,Dl];simp only[same]
  obtain a|a:=Bool.eq_false_or_eq_true (y == z)<;>simp only[a,Aq,CZ,CP]<;>push_cast<;>omega
def yO(K:aa):V->List V->Hp->VK->Prop:=λx b H Q=>∃(l:Addr)(a:Ð)(z:Str),x=.ref l/\b=[.str z]/\au K H l (a.map V.str)/\Q (.int (a.count z:Int)) H
def fy:qf X "list.count" (yO X.K):=by
 intro O s i H x j v k Q I a b h;obtain⟨l,c,z,rfl,rfl,d,q⟩:=h;cases a;obtain⟨u,rfl,e⟩:=b.one;obtain⟨m,rfl⟩:=e;obtain⟨n,r,f,o⟩:=I.list d;refine count_list_strs f.isList (HZ r) ?_;rw[Va];exact⟨.int (c.count z:Int),H,I.tok _,⟨_,rfl⟩,q⟩
variable{body:Ô}
end L2
namespace Nt
open PySem L2
theorem Vb(x:Str):∀{f},b8 f->∃b,b8 b/\∀y,y∈b↔y=x\/y∈f
 |[],_=>⟨[x],Gp _ _,λy=>by simp⟩
 |a :: r,h=>by
  have c:=Ct.mp h
  by_cases q:x.cps.toList<a.cps.toList
  ·refine⟨x :: a :: r,Ct.mpr ⟨λy d=>?_,h⟩,λy=>by simp⟩
   obtain e|e:=Ai.mp d
   ·rwa[e]
   ·exact Hc q<|c.1 y e
  ·obtain i|i:=Hf.mp (List.not_lt.mp q)
   ·obtain⟨b,k,j⟩:=Vb x c.2;refine⟨a :: b,Ct.mpr ⟨λy d=>?_,k⟩,λy=>?_⟩
    ·obtain e|e:=(j y).mp d
     ·rwa[e]
     ·exact c.1 y e
    ·rw[Ai,j,Ai]
     constructor
     ·rintro (e|e|e)
      ·exact .inr<|.inl e
      ·exact .inl e
      ·exact .inr<|.inr e
     ·rintro (e|e|e)
      ·exact .inr<|.inl e
      ·exact .inl e
      ·exact .inr<|.inr e
   ·refine⟨a :: r,h,λy=>?_⟩;have:a=x:=bP.gj i;subst this;simp
theorem Vc:∀L:Ð,∃a,b8 a/\∀y,y∈a↔y∈L
 |[]=>⟨[],List.Pairwise.nil,λ_=>UW⟩
 |x :: L=>by
  obtain⟨a,b,c⟩:=Vc L;obtain⟨d,e,f⟩:=Vb x b;exact⟨d,e,λy=>by rw[f,c,Ai]⟩
theorem ut(z:Str):∀L:Ð,decide (L.count z%2=1)=ao (L.map λy=>decide (z=y))
 |[]=>rfl
 |y :: L=>by
  show _=(decide (z=y) ^^ ao (L.map λy=>decide (z=y)));rw[<-ut z L,Dl]
  by_cases h:z=y
  ·subst h;rw[BW rfl,FZ,BP rfl,Bool.true_xor,<-decide_not];exact decide_eq_decide.mpr<|(by omega)
  ·rw[BR h,BL λq=>h (eq_of_beq q).symm,Fw];rfl
theorem sg{α c:Type}(f:α->c->Bool)(M:List c):∀L:List α,ao (L.map λa=>ao<|M.map λb=>f a b)=ao (M.map λb=>ao<|L.map λa=>f a b)
 |[]=>(gM M).symm
 |a :: L=>by
  show(ao (M.map λb=>f a b) ^^ ao (L.map λa=>ao<|M.map λb=>f a b))=ao (M.map λb=>f a b ^^ ao (L.map λa=>f a b));rw[sg f M L,fK (λb=>f a b) λb=>ao<|L.map λa=>f a b]
theorem map_range{α b:Type}(l:List α)(f:α->b)(g:Nat->b)(h:∀k x,l[k]?=some x->g k=f x):l.map f=(range l.length).map g:=by
 apply Dy;intro k;rw[Ah,Ah]
 by_cases a:k<l.length
 ·rw[Ab a,Dx a];exact BZ some (h k _<|Ab a).symm
 ·rw[Bg (by omega),Bg<|by simp;omega];rfl
def oI{α:Type}(l:List α)(f g:α->Bool)(h:∀k,k<l.length->∃x y,l[k]?=some x/\l[(k+1)%l.length]?=some y/\g x=f y):ao (l.map g)=ao (l.map f):=by
 let F:Nat->Bool:=λk=>match l[k]? with|some x=>f x|none=>false
 have c:=map_range l f F λk x a=>by show(match l[k]? with|some x=>f x|none=>false)=_;rw[a]
 have d:l.map g=(range l.length).map λk=>F ((k+1)%l.length):=map_range l g _ λk x a=>by
  obtain⟨j,y,b,e,i⟩:=h k (Ac.mp a).1;rw[a]at b;cases b;show(match l[(k+1)%l.length]? with|some x=>f x|none=>false)=_;rw[e];exact i.symm
 rw[c,d,Jw]
theorem Lh(F:Nat->Bool):∀m,(∀i,i<m->F (2*i+1)=F (2*i))->ao ((range<|2*m).map F)=false
 |0,_=>rfl
 |m+1,h=>by
  rw[show 2*(m+1)=2*m+1+1 by omega,Dk,Dk,Al,Al,nN,nN,Lh F m λi a=>h i<|(by omega)];show((false ^^ (F (2*m) ^^ false)) ^^ (F (2*m+1) ^^ false))=false;rw[h m<|(by omega)];cases F (2*m)<;>rfl
variable{e:bc}{n:bi}
def Vd(T:aq n)(h:e∈ends n):step n (other n<|go (-1) n e)=(other n e):=by
 have a:=gK (c:=-1) T h;obtain⟨z,b⟩:=af.mp a;show left n (other n<|other n<|go (-1) n e)=_;rw[(dH T b).2.1,Jl a];show eG 1 n (eG (-1) n<|(other n e))=_;have:=ra (c:=-1)<|cR T h;rwa[Int.neg_neg]at this
def cO(n:bi)(w:List bc)(z:Str):Bool:=decide ((w.map<|aD n).count z%2=1)
variable{w:List bc}
def wy(T:aq n)(W:kR n w):cN n (cO n w):=λr=>by
 have b:(row n r).map (cO n w)=(row n r).map λz=>ao (w.map λe=>decide (z=aD n e)):=Ap λz _=>by
  unfold cO;rw[ut,Bs];rfl
 rw[b,sg λz e=>decide (z=aD n e)];have d:(w.map λe=>ao<|(row n r).map λz=>decide (z=aD n e))=w.map λe=>(decide (r=e.1) ^^ decide (r=((other n e)).1)):=Ap λe f=>by
  obtain⟨z,a⟩:=af.mp<|W.ends e f;rw[eY a];exact J1 T a r
 rw[d,fK (λe=>decide (r=e.1)) λe=>decide (r=((other n e)).1)];rw[oI w (λe=>decide (r=e.1)) (λe=>decide (r=((other n e)).1)) λk h=>by
  obtain⟨c,i,j⟩:=W.at' k h;exact⟨c,_,i,j,rfl⟩]
 cases ao (w.map λe=>decide (r=e.1))<;>rfl
variable{χ:bc->Bool}
theorem uP(T:aq n)(W:kR n w){t:Str->Bool}(h:aY n t χ):ao (w.map λe=>t<|aD n e)=false:=by
 have o:(w.map λe=>t<|aD n e)=w.map λe=>(χ e ^^ χ ((other n e))):=Ap λe q=>by
  obtain⟨z,l⟩:=af.mp<|W.ends e q;rw[eY l];exact h.dj e z l
 rw[o,fK χ λe=>χ<|(other n e)];obtain⟨m,f⟩:∃m,w.length=2*m:=⟨w.length/2,by have:=W.even;omega⟩;have r:ao (w.map χ)=false:=by
  let F:Nat->Bool:=λk=>match w[k]? with|some x=>χ x|none=>false
  rw[map_range w χ F λk x j=>by show(match w[k]? with|some x=>χ x|none=>false)=_;rw[j],f];refine Lh F m λi s=>?_;obtain⟨c,a,b⟩:=W.at' (2*i) (by omega);rw[Bz (by omega),show(1:Int)-2*(((2*i:Nat):Int)%2)=1 by omega]at b;show(match w[2*i+1]? with|some x=>χ x|none=>false)=(match w[2*i]? with|some x=>χ x|none=>false);rw[a,b];have d:=W.ends c<|Ao a;show χ (go 1 n c)=χ c;rw[<-tZ T d];exact h.go c d
 have u:ao (w.map λe=>χ<|(other n e))=false:=by
  let F:Nat->Bool:=λk=>match w[k]? with|some x=>χ (other n x)|none=>false
  rw[map_range w (λe=>χ<|(other n e)) F λk x j=>by show(match w[k]? with|some x=>χ (other n x)|none=>false)=_;rw[j],<-Jw F,f];refine Lh (λp=>F<|(p+1)%(2*m)) m λi s=>?_;obtain⟨c,a,b⟩:=W.at' (2*i+1) (by omega);rw[f,show(1:Int)-2*(((2*i+1:Nat):Int)%2)=-1 by omega]at b;show(match w[(2*i+1+1)%(2*m)]? with|some x=>χ (other n x)|none=>false)=(match w[(2*i+1)%(2*m)]? with|some x=>χ (other n x)|none=>false);rw[b,Bz (show 2*i+1<2*m by omega),a];have d:=W.ends c<|Ao a;show χ (other n<|go (-1) n c)=χ (other n c);rw[<-Vd T d];exact(h.go _<|cR T<|gK T d).symm
 rw[r,u];rfl
def bA(zs:Ð)(t s:Str->Bool):Bool:=ao<|zs.map λz=>t z && s z
def Lj(zs:Ð)(t u s:Str->Bool):bA zs (λz=>t z ^^ u z) s=(bA zs t s ^^ bA zs u s):=by
 unfold bA;rw[<-fK (λz=>t z && s z) λz=>u z && s z]
 congr 1
 refine Ap λz _=>?_;show((t z ^^ u z) && s z)=_;cases t z<;>cases u z<;>cases s z<;>rfl
theorem xL{s:Str->Bool}{y:Str}:∀{zs},zs.Nodup->y∈zs->bA zs (λz=>decide (z=y)) s=s y
 |z :: zs,a,b=>by
  have a:=Bh.mp a;show((decide (z=y) && s z) ^^ bA zs (λz=>decide (z=y)) s)=s y
  by_cases h:z=y
  ·subst h;have:bA zs (λx=>decide (x=z)) s=false:=by
    unfold bA;have e:(zs.map λx=>decide (x=z) && s x)=zs.map λ_=>false:=Ap λx c=>by
     have ne:¬ x=z:=λq=>a.1<|q ▸ c;rw[BR ne];rfl
    rw[e,gM]
   rw[this,BW rfl];cases s z<;>rfl
  ·rw[BR h,xL a.2<|(Ai.mp b).resolve_left<|CK h];cases s y<;>rfl
variable{zs:Ð}
theorem CD{n:bi}(a:zs.Nodup){t:Str->Bool}:∀{L:Ð},(∀y∈L,y∈zs)->bA zs t (λz=>decide (L.count z%2=1))=ao (L.map t)
 |L,b=>by
  unfold bA;have e:(zs.map λz=>t z && decide (L.count z%2=1))=zs.map λz=>ao (L.map λy=>t z && decide (z=y)):=Ap λz _=>by
   rw[ut];cases t z
   ·show false=ao (L.map λ_=>false);rw[gM]
   ·rfl
  rw[e,sg λz y=>t z && decide (z=y)]
  congr 1
  refine Ap λy c=>?_;have:=xL (s:=t) a<|b y c;rw[<-this];unfold bA
  congr 1
  refine Ap λz _=>?_;rw[Fo]
variable{ss:Ð}
theorem Ve(T:aq n)(w:(n.map (·.1)).Nodup)(A:zs.Nodup)(f:∀z,z∈zs↔z∈ag n){x:Str}{b:Bool}(h:Way (dB n ss) (bV n) x b):
  ∃t:Str->Bool,(∀r,r<n.length->ao ((row n r).map t)=(decide (aC n r=bV n) ^^ decide (aC n r=x)))/\bA zs t (λz=>decide (z∈ss))=b:=by
 have add:∀{x y}{o b},(∃e z,aJ n e=some z/\((x=aC n e.1/\y=aC n ((other n e)).1)\/(y=aC n e.1/\x=aC n ((other n e)).1))/\o=decide (z∈ss))->(∃t:Str->Bool,(∀r,r<n.length->ao ((row n r).map t)=(decide (aC n r=bV n) ^^ decide (aC n r=x)))/\bA zs t (λz=>decide (z∈ss))=b) ->
   ∃t:Str->Bool,(∀r,r<n.length->ao ((row n r).map t)=(decide (aC n r=bV n) ^^ decide (aC n r=y)))/\bA zs t (λz=>decide (z∈ss))=(b != o):=by
  rintro x y o b ⟨e,z,d,B,rfl⟩ ⟨t,c,a⟩;refine⟨λu=>t u ^^ decide (u=z),λr s=>?_,?_⟩
  ·rw[fK t λu=>decide (u=z),c r s,J1 T d r];have v:∀i,i<n.length->decide (r=i)=decide (aC n r=aC n i):=λi C=>decide_eq_decide.mpr ⟨λq=>by rw[q],λq=>ud w s C q⟩;rw[v _<|cB d,v _<|pv T d]
   obtain⟨j,k⟩|⟨j,k⟩:=B
   ·rw[<-j,<-k];cases decide (aC n r=bV n)<;>cases decide (aC n r=x)<;>cases decide (aC n r=y)<;>rfl
   ·rw[<-j,<-k];cases decide (aC n r=bV n)<;>cases decide (aC n r=x)<;>cases decide (aC n r=y)<;>rfl
  ·rw[Lj,a,xL A<|(f z).mpr<|eV d]
 have lk:∀{x y:Str}{o:Bool},(x,y,o)∈dB n ss->∃e z,aJ n e=some z/\((x=aC n e.1/\y=aC n ((other n e)).1))/\o=decide (z∈ss):=λ{x y o}f=>by
  obtain⟨e,z,c,a⟩:=(uc (ss:=ss)).Tg _ f;exact⟨e,z,c,⟨BZ (·.1) a,BZ (·.2.1) a⟩,BZ (·.2.2) a⟩
 induction h with
 |here=>exact⟨λ_=>false,λr _=>by rw[gM];cases decide (aC n r=bV n)<;>rfl,by unfold bA;exact gM zs⟩
 |there _ l m=>
  obtain⟨e,z,c,a,p⟩:=lk l;exact add ⟨e,z,c,.inl a,p⟩ m
 |back _ l m=>
  obtain⟨e,z,c,a,p⟩:=lk l;exact add ⟨e,z,c,.inr ⟨a.1,a.2⟩,p⟩ m
theorem Vf(T:aq n)(J:db n)(A:(n.map (·.1)).Nodup)(B:0<n.length)(E:zs.Nodup)(G:∀z,z∈zs↔z∈ag n)(L:∀z∈ss,z∈ag n)(M:∀t,cN n t->bA zs t (λz=>decide (z∈ss))=false):∃w,aN n ss w:=by
 classical
 have y:∀{x b c},Way (dB n ss) (bV n) x b->Way (dB n ss) (bV n) x c->b=c:=λ{x b c}o v=>by
  obtain⟨t,N,O⟩:=Ve T A E G o;obtain⟨u,Q,U⟩:=Ve T A E G v;have:=M (λz=>t z ^^ u z) λr=>by
   by_cases a:r<n.length
   ·rw[fK t u,N r a,Q r a];cases decide (aC n r=bV n)<;>cases decide (aC n r=x)<;>rfl
   ·have:row n r=[]:=by
     unfold row;rw[Bg<|(by omega)];rfl
    rw[this];rfl
  rw[Lj,O,U]at this;cases b<;>cases c<;>first|rfl|cases this
 have next:∀{e:bc}{z:Str}{b:Bool},aJ n e=some z->Way (dB n ss) (bV n) (aC n e.1) b->Way (dB n ss) (bV n) (aC n ((other n e)).1) (b != decide (z∈ss)):=λ{e z b}l h=>by
  obtain t|t:=(uc (n:=n) (ss:=ss)).to e z l
  ·exact .there h t
  ·exact .back h t
 have all:∀r,r<n.length->∃b,Way (dB n ss) (bV n) (aC n r) b:=λr a=>by
  have:=J (λx=>∃b,Way (dB n ss) (bV n) x b) ⟨n[0],Bt B,false,by rw[<-gn B];exact .here⟩ (λr a s Y t tr ts⟨b,d⟩=>?_) n[r]<|Bt a
  ·rwa[<-gn a]at this
  ·obtain⟨i,f,rfl⟩:=Ck.mp a;obtain⟨j,H,rfl⟩:=Ck.mp Y;obtain⟨p,I⟩:=Be tr;obtain⟨q,hq⟩:=Be ts;have o:aJ n (i,p)=some t:=by show(row n i)[p]?=_;rwa[jm f]
   have v:aJ n (j,q)=some t:=by show(row n j)[q]?=_;rwa[jm H]
   obtain e|e:=(kd T o).mp v
   ·have:j=i:=BZ (·.1) e;subst this;exact⟨b,d⟩
   ·rw[<-gn f]at d;have:=next o d;rw[<-e]at this;exact⟨_,by rwa[<-gn H]⟩
 obtain⟨w,o,v⟩:=Vc<|((range n.length).filter λ(r:Nat)=>decide (Way (dB n ss) (bV n) (aC n r) true)).map<|aC n;have m:∀r,r<n.length->∀b,Way (dB n ss) (bV n) (aC n r) b->decide (aC n r∈w)=b:=λr a b d=>by
  have:aC n r∈w↔b=true:=by
   rw[v,Ak]
   constructor
   ·rintro ⟨i,f,e⟩;rw[Bf,Bo]at f;have:=ud A f.1 a e;subst this;exact y d<|BX f.2
   ·intro e;subst e;exact⟨r,Bf.mpr ⟨Bo.mpr a,BW d⟩,rfl⟩
  by_cases q:b=true
  ·rw[q];exact BW<|this.mpr q
  ·rw[Bool.not_eq_true]at q;rw[q];exact BR λk=>by rw[this.mp k]at q;cases q
 refine⟨w,o,λx C=>?_,λC=>?_,λz=>?_⟩
 ·obtain⟨i,f,rfl⟩:=Ak.mp<|(v x).mp C;exact jr<|Bo.mp (Bf.mp f).1
 ·have:=m 0 B false .here;exact absurd C<|IW this
 ·by_cases D:z∈ag n
  ·obtain⟨p,I⟩:∃p,p∈pos n z:=by
    have:pos n z≠[]:=λq=>by have:=qI n z;rw[q,T z D]at this;cases this
    exact Gc _ this
   have l:=aK.mp I;obtain⟨b,d⟩:=all p.1<|cB l;have hc:=next l d;rw[jQ T l,m _ (cB l) b d,m _ (pv T l) _ hc]
   constructor
   ·intro h;rw[BW h];cases b<;>rfl
   ·intro h;refine CQ λk=>?_;rw[BR k]at h;cases b<;>cases h
  ·exact⟨λh=>absurd (L z h) D,λh=>absurd (pq h) D⟩
def Lq(T:aq n)(h:e∈ends n):two n (other n<|two n e)=(other n e):=by
 have g1:=gK (c:=1) T h;have a:=nH T h;obtain⟨z,b⟩:=af.mp a;obtain⟨y,d⟩:=af.mp g1;have f:go 1 n (other n<|two n e)=other n (go 1 n e):=by
  show eG 1 n (other n<|other n<|two n e)=_;rw[(dH T b).2.1];show eG 1 n (eG (-1) n<|other n<|go 1 n e)=_;have:=ra (c:=-1)<|cR T g1;rwa[Int.neg_neg]at this
 show go (-1) n (go 1 n<|other n<|two n e)=_;rw[f];show eG (-1) n (other n<|other n<|go 1 n e)=_;rw[(dH T d).2.1];exact ra<|cR T h
def ki(T:aq n)(h:e∈ends n)(k:Nat):(it (two n)) k e∈ends n:=je (λa b=>nH T b) h k
theorem Vg{α:Type}(f:α->α)(a:α):∀k,it f k (f a)=it f (k+1) a
 |0=>rfl
 |k+1=>by show f (it f k<|f a)=f (it f (k+1) a);rw[Vg f a k]
theorem uv{α:Type}(f:α->α)(a:α)(i:Nat):∀j,it f (i+j) a=it f j (it f i a)
 |0=>rfl
 |j+1=>by show f (it f (i+j) a)=f (it f j<|it f i a);rw[uv f a i j]
def Lo(T:aq n)(h:e∈ends n):two n e≠(other n e):=λq=>by
 have g1:=gK (c:=1) T h;obtain⟨y,a⟩:=af.mp g1;have b:eG (-1) n (go 1 n e)=(other n e):=ra<|cR T h;have d:=q;exact(dH T a).2.2<|Ss (cR T g1) g1<|d.trans b.symm
theorem Vh{n:bi}(T:aq n):∀k{e},e∈ends n->(it (two n)) k e≠(other n e)
 |0,e,h=>λq=>by
  obtain⟨z,b⟩:=af.mp h;exact(dH T b).2.2 q.symm
 |1,e,h=>Lo T h
 |k+2,e,h=>λq=>by
  have c:two n ((it (two n)) (k+1) e)=two n (other n<|two n e):=by rwa[Lq T h]
  have a:=wt T (ki T h<|k+1) (cR T<|nH T h) c;rw[<-Vg]at a;exact Vh T k (nH T h) a
def CF(T:aq n){a b:bc}(e:a∈ends n)(f:b∈ends n)(h:aD n a=aD n b):b=a\/b=other n a:=by
 obtain⟨z,c⟩:=af.mp e;obtain⟨y,d⟩:=af.mp f;rw[eY c,eY d]at h;subst h;exact(kd T c).mp d
theorem cb(T:aq n)(h:e∈ends n){k:Nat}(p:jO n e k){i j:Nat}(o:i<j)(r:j<k):(it (two n)) i e≠(it (two n)) j e:=λq=>by
 have inj:∀(m:Nat){a b:bc},a∈ends n->b∈ends n->(it (two n)) m a=(it (two n)) m b->a=b:=λm=>by
  induction m with
  |zero=>intro a b _ _ q;exact q
  |succ m f=>intro a b c d q;exact f c d<|wt T (ki T c m) (ki T d m) q
 have l:(it (two n)) j e=(it (two n)) i ((it (two n)) (j-i) e):=by rw[<-uv,show j-i+i=j by omega]
 rw[l]at q;have:=inj i h (ki T h _) q;exact p.first (j-i) (by omega) (by omega) this.symm
theorem uS(T:aq n)(h:e∈ends n){k:Nat}(p:jO n e k){i j:Nat}(a:i<j)(b:j<k):aD n ((it (two n)) i e)≠aD n ((it (two n)) j e):=λq=>by
 obtain c|c:=CF T (ki T h i) (ki T h j) q
 ·exact cb T h p a b c.symm
 ·rw[show j=i+(j-i) by omega,uv]at c;exact Vh T (j-i) (ki T h i) c
variable{x:bc}
def ll(T:aq n){y:bc}(a:x∈ends n)(b:y∈ends n)(q:aD n (go 1 n x)=aD n (go 1 n y)):x=y\/two n y=other n x:=by
 have g1:=gK (c:=1) T a
 obtain c|c:=CF T g1 (gK T b) q
 ·exact .inl (go_inj T b a c).symm
 ·refine .inr ?_;obtain⟨z,d⟩:=af.mp g1;show go (-1) n (go 1 n y)=_;rw[c];show eG (-1) n (other n<|other n<|go 1 n x)=_;rw[(dH T d).2.1];exact ra<|cR T a
theorem Vi(n:bi)(e:bc):∀k,((wk n e k).map<|aD n).Perm<|((range k).map λi=>aD n<|(it (two n)) i e)++(range k).map λi=>aD n<|go 1 n<|(it (two n)) i e
 |0=>List.Perm.refl _
 |k+1=>by
  rw[Dk,Al,Al];show((wk n e k++[(it (two n)) k e,go 1 n<|(it (two n)) k e]).map<|aD n).Perm _;rw[Al];refine((Vi n e k).append_right _).trans ?_;generalize ((range k).map λi=>aD n<|(it (two n)) i e)=A;generalize ((range k).map λi=>aD n<|go 1 n<|(it (two n)) i e)=B;show(A++B++[aD n<|(it (two n)) k e,aD n<|go 1 n<|(it (two n)) k e]).Perm ((A++[aD n<|(it (two n)) k e])++(B++[aD n<|go 1 n<|(it (two n)) k e]));rw[Ar,Ar];refine OD A ?_;show(B++([aD n<|(it (two n)) k e]++[aD n<|go 1 n<|(it (two n)) k e])).Perm ([aD n<|(it (two n)) k e]++(B++[aD n<|go 1 n<|(it (two n)) k e]));rw[<-Ar,<-Ar];exact TY _ Cq
noncomputable def dL(n:bi)(e:bc):List bc:=av<|walker n e
def Lr{k:Nat}(p:jO n e k):dL n e=(range k).map λi=>(it (two n)) i e:=by
 unfold dL walker;rw[wv p,SI]
theorem Vj{n:bi}{e:bc}{k:Nat}(h:(it (two n)) k e=e):∀m,(it (two n)) (k*m) e=e
 |0=>rfl
 |m+1=>by rw[Nat.mul_succ,Nat.add_comm,uv,h,Vj h m]
def mH(T:aq n)(h:e∈ends n):x∈dL n e↔∃i,(it (two n)) i e=x:=by
 obtain⟨k,p,_⟩:=t6 T h;rw[Lr p,Ak]
 constructor
 ·rintro ⟨i,_,q⟩;exact⟨i,q⟩
 ·rintro ⟨i,q⟩;have a:=p.pos;refine⟨i%k,Bo.mpr<|Gm _ a,?_⟩;rw[<-q];have:=Nat.div_add_mod i k
  conv=>rhs;rw[<-this]
  rw[uv,Vj p.back]
def CH(T:aq n)(h:e∈ends n):∀x∈dL n e,x∈ends n:=λx a=>by
 obtain⟨i,q⟩:=(mH T h).mp a;rw[<-q];exact ki T h i
theorem Vk(T:aq n)(h:e∈ends n)(a:x∈dL n e):∃y∈dL n e,two n y=x:=by
 obtain⟨i,q⟩:=(mH T h).mp a;obtain⟨k,p,_⟩:=t6 T h;have b:=p.pos;refine⟨(it (two n)) (i+k-1) e,(mH T h).mpr ⟨_,rfl⟩,?_⟩;show (it (two n)) (i+k-1+1) e=x;rw[show i+k-1+1=k+i by omega,uv,p.back,q]
def Lv(T:aq n)(h:e∈ends n)(a:x∈dL n e):two n x∈dL n e:=by
 obtain⟨i,q⟩:=(mH T h).mp a;exact(mH T h).mpr ⟨i+1,by rw[<-q];rfl⟩
def Vl(T:aq n)(h:e∈ends n)(b:x∈ends n):aD n x∈(dL n e).map (aD n)↔x∈dL n e\/other n x∈dL n e:=by
 rw[Ak]
 constructor
 ·rintro ⟨y,a,q⟩
  obtain c|c:=CF T b (CH T h y a) q.symm
  ·exact .inl<|c ▸ a
  ·exact .inr<|c ▸ a
 ·rintro (c|c)
  ·exact⟨x,c,rfl⟩
  ·refine⟨_,c,?_⟩;obtain⟨z,d⟩:=af.mp b;rw[eY d,eY (dH T d).1]
def Lw(T:aq n)(h:e∈ends n):other n ((other n e))=e:=by
 obtain⟨z,a⟩:=af.mp h;exact(dH T a).2.1
def xM(n:bi)(a:Ð):Prop:=∀x∈ends n,(aD n (two n x)∈a↔aD n x∈a)
theorem Vm{n:bi}(T:aq n){a:Ð}(C:xM n a){e:bc}(h:e∈ends n):∀i,aD n ((it (two n)) i e)∈a↔aD n e∈a
 |0=>UW
 |i+1=>(C _<|ki T h i).trans<|Vm T C h i
def x2q(T:aq n)(h:e∈ends n):xM n ((dL n e).map<|aD n):=λx a=>by
 rw[Vl T h<|nH T a,Vl T h a]
 constructor
 ·rintro (c|c)
  ·obtain⟨y,b,q⟩:=Vk T h c;exact .inl<|wt T (CH T h y b) a q ▸ b
  ·have:=Lv T h c;rw[Lq T a]at this;exact .inr this
 ·rintro (c|c)
  ·exact .inl<|Lv T h c
  ·obtain⟨y,b,q⟩:=Vk T h c;have d:=CH T h y b;have f:two n x=other n y:=by
    rw[<-Lw T a,<-q,Lq T d]
   exact .inr<|by rwa[f,Lw T d]
structure pL(n:bi)(es:List bc)(told:Ð)(ws:List<|List bc):Prop where
 nd:((ws.flatMap av).map<|aD n).Nodup
 new:∀x∈ws.flatMap av,x∈ends n/\aD n x∉told
 cov:∀e∈es,aD n e∈told\/aD n e∈(ws.flatMap av).map (aD n)
 wk:∀w∈ws,∃e,e∈ends n/\w=walker n e
theorem Lx{n:bi}(T:aq n):∀es c,(∀e∈es,e∈ends n)->xM n c->pL n es c (eI n es c)
 |[],c,_,_=>by
  unfold eI;exact⟨Cd,λx f=>(nomatch f),λe l=>(nomatch l),λw m=>(nomatch m)⟩
 |e :: r,c,l,C=>by
  have h:=l e<|Ae ..;unfold eI
  by_cases q:aD n e∈c
  ·rw[BP q];have I:=Lx T r c (λa d=>l a<|Af _ d) C;refine⟨I.nd,I.new,λa d=>?_,I.wk⟩
   obtain rfl|d:=Ai.mp d
   ·exact .inl q
   ·exact I.cov a d
  ·rw[BL q];have s:xM n (c++(av<|walker n e).map (aD n)):=λx f=>by
    rw[Am,Am];exact or_congr (C x f)<|x2q T h x f
   have I:=Lx T r _ (λa d=>l a<|Af _ d) s;have fresh:∀x∈dL n e,x∈ends n/\aD n x∉c:=λx f=>by
    obtain⟨i,k⟩:=(mH T h).mp f;refine⟨CH T h x f,λz=>q ?_⟩;rw[<-k]at z;exact(Vm T C h i).mp z
   refine⟨?_,λx f=>?_,λa d=>?_,λw m=>?_⟩
   ·rw[Cp,Al,Co];refine⟨?_,I.nd,λa d b t k=>?_⟩
    ·obtain⟨k,p,_⟩:=t6 T h;show((dL n e).map<|aD n).Nodup;rw[Lr p,Bs,By,Dr,Bc];intro i j v o u;rw[Fi,Fi];rw[Dq]at o;exact uS T h p u o
    ·subst k;obtain⟨x,f,rfl⟩:=Ak.mp t;exact(I.new x f).2<|Au _ d
   ·rw[Cp]at f
    obtain k|k:=Am.mp f
    ·exact fresh x k
    ·exact⟨(I.new x k).1,λz=>(I.new x k).2<|Bb _ z⟩
   ·rw[Cp,Al]
    obtain rfl|d:=Ai.mp d
    ·exact .inr<|Bb _<|Ak.mpr ⟨a,(mH T h).mpr ⟨0,rfl⟩,rfl⟩
    ·obtain k|k:=I.cov a d
     ·obtain k|k:=Am.mp k
      ·exact .inl k
      ·exact .inr<|Bb _ k
     ·exact .inr<|Au _ k
   ·obtain rfl|m:=Ai.mp m
    ·exact⟨e,h,rfl⟩
    ·exact I.wk w m
def Vn(T:aq n)(h:e∈ends n):((walker n e).map<|aD n).Perm ((dL n e).map (aD n)++(dL n e).map λx=>aD n<|go 1 n x):=by
 obtain⟨k,p,_⟩:=t6 T h;rw[Lr p,Bs,Bs];unfold walker;rw[wv p];exact Vi n e k
theorem Vo{n:bi}(T:aq n):∀{a:List (List bc)},(∀w∈a,∃e,e∈ends n/\w=walker n e)->(a.flatMap λw=>w.map<|aD n).Perm ((a.flatMap av).map (aD n)++(a.flatMap av).map λx=>aD n<|go 1 n x)
 |[],_=>List.Perm.refl _
 |w :: a,h=>by
  obtain⟨e,b,rfl⟩:=h w<|Ae ..;have I:=Vo T λw c=>h w<|Af _ c;rw[Cp,Cp,Al,Al];refine((Vn T b).append I).trans ?_;show(((dL n e).map (aD n)++(dL n e).map λx=>aD n<|go 1 n x)++_).Perm (((dL n e).map (aD n)++_)++((dL n e).map (λx=>aD n<|go 1 n x)++_));generalize (dL n e).map (aD n)=A;generalize ((dL n e).map λx=>aD n<|go 1 n x)=B;generalize (a.flatMap av).map (aD n)=D;generalize ((a.flatMap av).map λx=>aD n<|go 1 n x)=F;rw[Ar,Ar];refine OD A ?_;rw[<-Ar,<-Ar];exact TY _ Cq
noncomputable abbrev bu(n:bi):List (List bc):=eI n (ends n) []
def q72(n:bi):xM n []:=λx _=>by simp
def si(T:aq n):pL n (ends n) [] (bu n):=Lx T (ends n) [] (λ_ h=>h)<|q72 n
variable{z:Str}
def Ly(T:aq n)(b:z∈ag n):(((bu n).flatMap av).map<|aD n).count z=1:=by
 have I:=si T;rw[List.Nodup.count I.nd,BP];have:pos n z≠[]:=λq=>by have:=qI n z;rw[q,T z b]at this;cases this
 obtain⟨p,a⟩:=Gc _ this;have a:=aK.mp a;have:=I.cov p<|af.mpr ⟨z,a⟩;rw[eY a]at this
 obtain k|k:=this
 ·cases k
 ·exact k
def SS(T:aq n)(a:x∈(bu n).flatMap av):two n x∈(bu n).flatMap av:=by
 obtain⟨w,b,a⟩:=Gb.mp a;obtain⟨e,c,rfl⟩:=(si T).wk w b;exact Gb.mpr ⟨_,b,Lv T c a⟩
theorem Lz{α d:Type}{f:α->d}:∀{l:List α},l.Nodup->(∀a∈l,∀b∈l,f a=f b->a=b)->(l.map f).Nodup
 |[],_,_=>Cd
 |a :: l,h,inj=>by
  have h:=Bh.mp h;refine Bh.mpr ⟨λe=>?_,Lz h.2 λx i y j=>inj x (Af _ i) y<|Af _ j⟩;obtain⟨b,c,q⟩:=Ak.mp e;have:=inj a (Ae ..) b (Af _ c) q.symm;exact h.1<|this ▸ c
theorem LA{α m:Type}{f:α->m}:∀{l:List α},(l.map f).Nodup->∀a∈l,∀b∈l,f a=f b->a=b
 |c :: l,h,a,n,b,i,q=>by
  rw[Ba,Bh]at h
  obtain j|k:=Ai.mp n
  ·obtain d|e:=Ai.mp i
   ·rw[j,d]
   ·exact absurd (Ak.mpr ⟨b,e,by rw[<-q,j]⟩) h.1
  ·obtain d|e:=Ai.mp i
   ·exact absurd (Ak.mpr ⟨a,k,by rw[q,d]⟩) h.1
   ·exact LA h.2 a k b e q
theorem LD{α b:Type}{f:α->b}:∀{l:List α},(l.map f).Nodup->l.Nodup
 |[],_=>Cd
 |a :: l,h=>by
  rw[Ba,Bh]at h;exact Bh.mpr ⟨λk=>h.1<|Ak.mpr ⟨a,k,rfl⟩,LD h.2⟩
def Vp(T:aq n):(((bu n).flatMap av).map λx=>aD n<|go 1 n x).Perm (((bu n).flatMap av).map<|aD n):=by
 have I:=si T;refine nJ (Lz (LD I.nd) λx d y b q=>?_) (λz a=>?_)<|by rw[Aa,Aa];exact An _
 ·have e:=(I.new x d).1;have f:=(I.new y b).1
  obtain c|c:=ll T e f q
  ·exact c
  ·exfalso
   have t:aD n (two n y)=aD n x:=by
    obtain⟨z,a⟩:=af.mp e;rw[c,eY a,eY (dH T a).1]
   have:=LA I.nd _ (SS T b) x d t;obtain⟨z,a⟩:=af.mp e;exact(dH T a).2.2<|c.symm.trans this
 ·obtain⟨x,d,rfl⟩:=Ak.mp a;obtain⟨y,b⟩:=af.mp<|gK (c:=1) T (I.new x d).1;rw[eY b];refine Ds.mp ?_;rw[Ly T<|eV b];exact Ff
def Nl(T:aq n)(a:z∈ag n):((bu n).flatMap λw=>w.map<|aD n).count z=2:=by
 rw[(Vo T (si T).wk).count_eq,Ez,(Vp T).count_eq,Ly T a]
theorem Vq(n:bi)(z:Str):∀a:List<|List bc,(a.flatMap λw=>w.map<|aD n).count z=(a.map λw=>(w.map<|aD n).count z).sum
 |[]=>rfl
 |w :: a=>by rw[Cp,Ez,Vq n z a];rfl
theorem Vr:∀(l:List Nat)(x:Nat),x∈l->x<=l.sum
 |y :: l,x,h=>by
  rw[Gj]
  obtain rfl|h:=Ai.mp h
  ·omega
  ·have:=Vr l x h;omega
theorem xx(T:aq n)(a:z∈ag n)(b:w∈bu n):(w.map<|aD n).count z<=2:=by
 have h:=Nl T a;rw[Vq]at h;have:=Vr ((bu n).map λw=>(w.map<|aD n).count z) _<|Ak.mpr ⟨w,b,rfl⟩;omega
def CL(b:∀c∈w,c∈ends n)(h:∀z,z∈ss↔(w.map<|aD n).count z=1):∀z∈ss,z∈ag n:=λz d=>by
 have:=Ds.mp (by rw[(h z).mp d];exact Ff);obtain⟨e,f,rfl⟩:=Ak.mp this;obtain⟨y,a⟩:=af.mp<|b e f;rw[eY a];exact eV a
theorem LI(T:aq n)(a:w∈bu n)(h:∀z,z∈ss↔(w.map<|aD n).count z=1)(b:z∈ag n):decide (z∈ss)=cO n w z:=by
 have:=xx T b a;unfold cO;refine decide_eq_decide.mpr<|(h z).trans ?_;omega
def PM(T:aq n)(a:w∈bu n)(h:∀z,z∈ss↔(w.map<|aD n).count z=1):cC n ss=true:=by
 refine JY (wy T<|o6 T (ends n) [] (λ_ h=>h) w a) λz b=>?_;rw[<-LI T a h b]
 by_cases k:z∈ss
 ·rw[BW k];exact Bm.mpr k
 ·rw[BR k];exact El.mpr λq=>k<|Bm.mp q
def kH(T:aq n)(f:HF n)(k:(n.map (·.1)).Nodup)(l:0<n.length)(i:w∈bu n)(h:∀z,z∈ss↔(w.map<|aD n).count z=1):∃m,aN n ss m:=by
 have W:=o6 T (ends n) [] (λ_ h=>h) w i;have b:=CL W.ends h;obtain⟨zs,j,c⟩:=ke<|ag n;refine Vf T f.1 k l (gq j) c b λt o=>?_;obtain⟨χ,d⟩:=f.2.2 t o;have:=uP T W d;have e:bA zs t (λz=>decide (z∈ss))=bA zs t (λz=>decide ((w.map<|aD n).count z%2=1)):=by
  unfold bA
  congr 1
  refine Ap λz p=>?_;show(t z && decide (z∈ss))=(t z && decide ((w.map<|aD n).count z%2=1));rw[LI T i h<|(c z).mp p];rfl
 rw[e,CD (n:=n) (gq j) λy a=>?_]
 ·rwa[Bs]
 ·obtain⟨x,q,rfl⟩:=Ak.mp a;obtain⟨y,a⟩:=af.mp<|W.ends x q;rw[eY a];exact(c y).mpr<|eV a
end Nt
namespace L2
open PySem PySem.Spec PyProof.Rows
variable{H:Hp}{σ:St}{X:Cx}
structure Xo(h:Heap)(e T:Addr)(C fl:Value):Prop where
 ex:∃oe vs,h.get? e=some oe/\oe.cls=C/\oe.dict=none/\oe.data=.fields vs/\vs[1]?=some (.ref T)/\vs[2]?=some .none
 ne:T≠e
 tr:∃oT ts,h.get? T=some oT/\oT.data=.fields ts/\ts[3]?=some fl
structure Kp(fs bad:(List Addr))(h h':Heap):Prop where
 keep:∀b o,h.get? b=some o->b∉fs->b∉bad->h'.get? b=some o
 slot:∀b o,h.get? b=some o->b∈fs->∃sl,h'.get? b=some {o with slots:=sl}
def WJ(o:Obj)(f:Array Value->Array Value):(o.mapFields f).dict=o.dict:=by
 obtain⟨c,d,a,b⟩:=o;cases a<;>rfl
variable{s:Shared}{E:Í}{A:Around}{M:Model}{Q:Unit->Shared->Prop}{head C:Value}{vs:Array Value}{oe:Obj}{outer:List Env}{env:Env}{Z:Heap}
theorem Vs{L e:Addr}{nx:Bool}(N:A.frames=some (env :: outer))(p:s.heap.FunFrames Z<|env :: outer)(O:env.frame=some L)
  (r:s.heap.get? e=some oe) (hd:oe.data=.fields vs) (CM:oe.dict=none) (k:1<vs.size) (h2:vs[2]?=some .none)
  (h:∀h' T,s.heap.get? T=none->Xo h' e T oe.cls .none->Kp (fe<|env :: outer) [e] s.heap h'->Q () {s with heap:=h'}):
  wpAny M A (do let a <-frameOf env;let d <-entryPlaceOf L nx;let b <-EntryCells.newEntry head a .none (rawInt L) .none d;setField (.ref e) 1 b) (λ_ s'=>wpAny M A (setFlight (.ref e) none) Q E s') E s:=by
 have t:e∉fe (env :: outer):=λU=>by
  obtain⟨_,o,u,Y⟩:=p.mem U;rw[r]at u;cases u;exact Y vs hd
 refine BJ<|wpAny_frameOf_fun N p O λc j=>?_;refine BJ<|wpAny_entryPlaceOf λd ip=>?_;unfold EntryCells.newEntry newFields;refine BJ<|DN ?_<|ip.sizeOk5 _ _ _ _ _;generalize v:({cls:= .type "traceback",dict:=none,data:= .fields ([head,.ref L,.none,rawInt L,.none]++(if d.isEmpty then replicate 6 Value.none else d)).toArray}:Obj)=i;have w:c.get? e=some oe:=(j.2.1 e t).trans r;have B:(c.push i).get? e=some oe:=Aj _ w;have tb:(c.push i).get? c.objs.size=some i:=At c (by rw[<-v];rfl);have l:c.objs.size≠e:=Cz<|Av w;refine DW B hd k ?_;have m:=RB hd (·.setIfInBounds 1 (Value.ref c.objs.size));have C:=Dd (Obj.mapFields (·.setIfInBounds 1 (Value.ref c.objs.size))) B<|PB m;have D:((c.push i).update e (Obj.mapFields (·.setIfInBounds 1 (Value.ref c.objs.size)))).get? c.objs.size=some i:=(Cm _ _<|CK l).trans tb;unfold setFlight;refine BJ (JN C m (x:= .ref c.objs.size) (by simp[k]) ?_);rw[BP (show(Value.ref c.objs.size != Value.none)=true from by simp)];have dT:i.data=.fields ([head,.ref L,.none,rawInt L,.none]++(if d.isEmpty then replicate 6 Value.none else d)).toArray:=by rw[<-v]
 have G:3<([head,.ref L,.none,rawInt L,.none]++(if d.isEmpty then replicate 6 Value.none else d)).toArray.size:=by
  simp only[Ay,Ag,As,Er];omega
 refine DW D dT G<|h _ c.objs.size (by
  cases hq:s.heap.get? c.objs.size with
  |none=>rfl
  |some o=>
   obtain⟨H,z⟩:=j.2.2 _ o hq;exact absurd (Av z)<|De _) ?_ ?_
 ·have I:=RB dT (·.setIfInBounds 3 ((none:Option Addr).elim Value.none λf=>rawInt f));refine⟨⟨_,_,(Cm _ _ l).trans C,Obj.cls_mapFields _ _,by rwa[WJ],m,by simp[k],by rwa[Array.getElem?_setIfInBounds_ne<|(by decide)]⟩,l,⟨_,_,Dd _ D<|PB I,I,?_⟩⟩;rw[Array.getElem?_setIfInBounds_self_of_lt G];rfl
 ·have J:∀b o,b≠e->c.get? b=some o->(((c.push i).update e (Obj.mapFields (·.setIfInBounds 1 (Value.ref c.objs.size)))).update c.objs.size (Obj.mapFields (·.setIfInBounds 3 ((none:Option Addr).elim Value.none λf=>rawInt f)))).get? b=some o:=λb o n q=>by
   rw[Cm _ _<|Cz<|Av q,Cm _ _<|CK n];exact Aj _ q
  refine⟨λb o q nf nb=>J b o (λz=>nb<|by simp[z])<|(j.2.1 b nf).trans q,λb o q n=>?_⟩;obtain⟨H,z⟩:=j.2.2 b o q;exact⟨H,J b _ (λy=>t<|y ▸ n) z⟩
def q3q{L e:Addr}(d:A.frames=some (env :: outer))(f:s.heap.FunFrames Z<|env :: outer)(a:env.frame=some L)
  (b:s.heap.get? e=some oe) (hd:oe.data=.fields vs) (i:oe.dict=none) (c:vs[1]?=some .none) (j:vs[2]?=some .none)
  (h:∀h' T,s.heap.get? T=none->Xo h' e T oe.cls .none->Kp (fe<|env :: outer) [e] s.heap h'->Q () {s with heap:=h'}):
  wpAny M A (noteFrame (.ref e) env) (λ_ s'=>wpAny M A (setFlight (.ref e) none) Q E s') E s:=by
 unfold noteFrame;simp only[a];refine BJ<|JN b hd c ?_;rw[BL<|(by decide)];exact Vs d f a b hd i (Fy.mp c).1 j h
def q7t{L e T:Addr}(u:A.frames=some (env :: outer))(j:s.heap.FunFrames Z<|env :: outer)(l:env.frame=some L)(x:Xo s.heap e T C .none)
  (h:∀h' a,s.heap.get? a=none->Xo h' e a C .none->Kp (fe<|env :: outer) [e,T] s.heap h'->Q () {s with heap:=h'}):
  wpAny M A (noteFrame (.ref e) env) (λ_ s'=>wpAny M A (setFlight (.ref e) none) Q E s') E s:=by
 obtain⟨⟨oe,vs,m,v,w,hd,n,B⟩,D,⟨Y,G,f,dT,p⟩⟩:=x;subst v;unfold noteFrame;simp only[l];refine BJ<|JN m hd n ?_;rw[BP (show(Value.ref T != Value.none)=true from by simp)];refine BJ<|JN f dT p ?_;rw[BL (show ¬((Value.none == rawInt L)=true)from by simp[rawInt])];refine BJ<|DW f dT (Fy.mp p).1 ?_;have c:∀b,b≠T->(s.heap.update T (Obj.mapFields (·.setIfInBounds 3 Value.none))).get? b=s.heap.get? b:=λb i=>Cm _ _<|CK i;have r:∀b o,s.heap.get? b=some o->(∀vs,o.data ≠ .fields vs)->b≠T:=λb o q d z=>by
  rw[z,f]at q;cases q;exact d G dT
 have H:T∉fe (env :: outer):=λI=>by
  obtain⟨_,o,J,d⟩:=j.mem I;exact r T o J d rfl
 refine Vs u (j.of_keeps λb o q d=>⟨o,(c b<|r b o q d).trans q,rfl⟩) l ((c e<|CK D).trans m) hd w (Fy.mp n).1 B λh' a z x k=>h h' a ?_ x ⟨λb o q N t=>?_,λb o q i=>?_⟩
 ·cases O:s.heap.get? a with
  |none=>rfl
  |some o=>
   by_cases y:a=T
   ·have:=Dd (Obj.mapFields (·.setIfInBounds 3 Value.none)) f<|PB<|RB dT _;rw[y]at z;exact absurd (this.symm.trans z)<|by simp
   ·have:=(c a y).trans O;exact absurd (this.symm.trans z)<|by simp
 ·have U:b≠T:=λy=>t (by simp[y]);exact k.keep b o ((c b U).trans q) N λy=>t<|by simp at y;simp[y]
 ·exact k.slot b o ((c b λy=>H<|y ▸ i).trans q) i
variable{h h1:Heap}
def LL{a f2 bad:(List Addr)}{H':Hp}{e:Heap}(u:Un a [] H H' h h1)(k:Kp f2 bad h1 e)(j:∀b o,h.get? b=some o->b∈f2->b∈a)(l:∀b∈bad,h.get? b=none):Un a [] H H' h e:=by
 have c:∀b o,h.get? b=some o->b∉bad:=λb o q z=>by rw[l b z]at q;cases q
 refine⟨λb o q n f _=>k.keep b o (u.keep b o q n f<|by simp) (λz=>f<|j b o q z)<|c b o q,λb o q n m _=>?_,u.free,λb o q _=>?_,u.fP,u.fc,u.fQ⟩
 ·obtain⟨p,z⟩:=u.slot b o q n m<|by simp
  by_cases y:b∈f2
  ·obtain⟨i,d⟩:=k.slot b _ z y;exact⟨i,d⟩
  ·exact⟨p,k.keep b _ z y<|c b o q⟩
 ·obtain⟨r,z⟩:=u.there b o q<|by simp
  by_cases y:b∈f2
  ·obtain⟨i,d⟩:=k.slot b _ z y;exact⟨_,d⟩
  ·exact⟨r,k.keep b _ z y<|c b o q⟩
variable{w:World}{P:Program}
def Vv{f2 bad:(List Addr)}{c:Heap}(x:cn P w H h1)(k:Kp f2 bad h1 c)(f:∀b∈f2,H b=none)(h:∀b∈bad,H b=none):cn P w H c:=λa o e=>by
 refine(x a o e).iE (λb u d q=>k.keep b u q (λz=>?_) λz=>?_) (λ_ q=>q) λ_ _ q=>q
 ·have:=f b z
  obtain y|y:=d
  ·rw[y,e]at this;cases this
  ·rw[y]at this;cases this
 ·have:=h b z
  obtain y|y:=d
  ·rw[y,e]at this;cases this
  ·rw[y]at this;cases this
theorem G2{a:Addr}{o:HO}(x:aB P w H h a o):∃u,h.get? a=some u:=by
 cases o with
 |lst b=>obtain⟨_,_,_,_,q⟩:=x;exact⟨_,q⟩
 |tup b=>obtain⟨_,_,_,u,q,_⟩:=x;exact⟨_,q⟩
 |dK Y=>obtain⟨_,_,_,_,u,_,_,q,_⟩:=x;exact⟨_,q⟩
 |dT Y=>obtain⟨_,_,_,_,u,_,_,q,_⟩:=x;exact⟨_,q⟩
 |set S n=>obtain⟨u,_,_,_,q,_⟩:=x;exact⟨_,q⟩
 |ins C d c=>obtain⟨_,_,_,q,_⟩:=x;exact⟨_,q⟩
 |own y=>exact x
 |xd c=>obtain⟨_,⟨_,_,_,q,_⟩,_⟩:=x;exact⟨_,q⟩
 |yL lo e=>obtain⟨_,_,_,q⟩:=x;exact⟨_,q⟩
 |b7 i u=>obtain⟨q,_⟩:=x;exact⟨_,q⟩
 |oz j=>exact⟨_,x⟩
 |met f y=>exact⟨_,x⟩
 |ext k=>obtain⟨_,q,_⟩:=x;exact q
def XF(P:Program)(w:World):lT:=λouter H s E e a=>∃c T C b,e=.ref c/\E C none b/\a.os=s.os/\AllBare a.gens/\Un (fe outer) [] H b s.heap a.heap/\cn P w b a.heap/\Xo a.heap c T C .none /\
 s.heap.get? c=none/\s.heap.get? T=none/\b c=none/\b T=none
variable{cd:Value}{f b:Addr}{scope:Scope}{qual:Str}{N:Ð}{mg:Ñ}{K:aa}{Ha:Hp}{O:Ï}
section
variable{E:XK}
def Vw:fe (envOfC qual scope s.heap.objs.size f cd :: outer)=s.heap.objs.size :: fe outer:=rfl
theorem xN{a ex:(List Addr)}{Hb:Hp}(u:Un a ex Ha Hb h h1)(c:b∉ex)(n:h1.get? b=none):h.get? b=none:=by
 cases q:h.get? b with
 |none=>rfl
 |some o=>obtain⟨d,z⟩:=u.there b o q c;rw[n]at z;cases z
theorem LN(x:cn P w Ha h1)(n:h1.get? b=none):Ha b=none:=by
 cases q:Ha b with
 |none=>rfl
 |some o=>
  exfalso
  obtain⟨u,z⟩:=G2<|x b o q;rw[n]at z;cases z
def x8{c:Hp}{d:Shared}{e T:Addr}(I:be (dv (XF P w) P w K mg Z N qual scope f cd A outer s H E) O σ c d)(x:Xo d.heap e T C .none)(h:E C none c)
  (i:s.heap.get? e=none) (n:s.heap.get? T=none) (j:c e=none) (p:c T=none):(dv (XF P w) P w K mg Z N qual scope f cd A outer s H E).xe (.ref e) d:=by
 show wpAny (model P w) (A.deeper<|envOfC qual scope s.heap.objs.size f cd) (leaving (envOfC qual scope s.heap.objs.size f cd)<|.ref e) _ _ d;unfold leaving;refine BJ<|q7t I.ok.frames I.stack rfl x λr l z m k=>?_;refine⟨e,l,C,c,rfl,h,I.os,I.bare,LL I.Z k (λb o q a=>?_) λb a=>?_,Vv I.aH k (λb a=>I.dW b a) λb a=>?_,m,i,xN (ex:=[]) I.Z (by simp) z,j,LN I.aH z⟩
 ·rw[Vw]at a
  obtain y|y:=Ai.mp a
  ·exact absurd (Av q)<|by rw[y];exact De _
  ·exact y
 ·obtain y|y:=Ai.mp a
  ·rwa[y]
  ·rwa[Ad.mp y]
 ·obtain y|y:=Ai.mp a
  ·rwa[y]
  ·rwa[Ad.mp y]
def wa:mU (XF P w) (dv (XF P w) P w K mg Z N qual scope f cd A outer s H E) E:=by
 rintro O σ c n e o I ⟨p,T,C,q,rfl,d,os,a,un,h,x,i,j,k,l⟩;have m:=I.call' os un h a (λb z=>absurd z<|by simp);exact x8 m x d (xN (ex:=[]) I.Z (by simp) i) (xN (ex:=[]) (Hb:=c) I.Z (by simp) j) k l
end
abbrev n8:Ò:=[.type "ValueError",.type "Exception",.type "BaseException",.type "object"]
def XC(K:aa)(C:Addr):Prop:=PySem.W.excIn K C n8 "ValueError.__new__" = true
def XC.obj{C:Addr}(q:XC K C)(X:K.In h):∃ bm N nm a bs hdct sn sub ab col dd k0 k1 k2 k3 k5 mN,h.get? C=some (excClassObj nm a C N bs bm hdct sn sub ab col dd k0 k1 k2 k3 k5 "ValueError.__new__")/\h.Ns N mN/\mN "__init__" = none/\OwnTail h n8 bm:=by
 unfold XC PySem.W.excIn at q
 split at q
 ·rename_i dd cd d k
  split at q
  ·rename_i D bm k0 k1 k2 k3 n k5 e f;simp only[Cb,HY,LQ]at q;obtain⟨⟨⟨⟨⟨l,m⟩,i⟩,o⟩,b⟩,j⟩:=q;obtain⟨nm,bs,p,r,a,hd,sn,sub,ab,col,del⟩:=cd
   dsimp only at e i b j
   subst l m e i;have c:d=#[k0,k1,k2,k3,some<|.builtin "ValueError.__new__",k5]:=by
    cases d;simp only at f;rw[f]
   subst c;exact⟨bm,r,nm,a,bs,hd,sn,sub,ab,col,dd,k0,k1,k2,k3,k5,_,X _ _ k,.of_isNs<|PySem.W.isNs_of_in X b,PySem.W.nsMap_none_of_in X b j,PySem.W.tail_of_in X o⟩
  ·cases q
 ·cases q
variable{x:Str}
section
variable{D:wf}{rest:Ô}
def Rz(X:Cx)(E:St->XK):Prop:=∀O σ H s a e C args,(be X O σ H s)->Heap.MadeExcOf s.heap a e (.ref C) args->E σ (.ref C) none H->X.xe (.ref e) {s with heap:=a}
def q1p{E:St->XK}(l:Rz X E){C:Addr}{a:Expr}{np i pos:Pos}(m:X.mg x=some (.ref C))(n:XC X.K C)(o:X.calm=true)(h:Ea X [a] σ H λvs d=>vs.length<=sizeLine/\E σ (.ref C) none d)(p:Gl X x:=by rfl)(u:(x == ("__debug__" : Str))=false:=by decide)
  (j:starEach [a] X.env=(false,eval a X.env):: starEach [] X.env:=by rfl):ge X (.Raise (some<|.Call (.Name x np) [a] [] i) none pos :: rest) D σ H:=by
 refine lY (t:=λD σ H=>Ea X [a] σ H λvs d=>vs.length<=sizeLine/\E σ (.ref C) none d) ?_ h;intro O s σ H D I h;obtain⟨v,N,nm,w,y,b,z,sub,A,f,B,G,J,L,M,Q,T,U,Y,oi,k⟩:=n.obj I.ok.mod.uQ;refine wpAny_Raise_call_subT (nm:=nm) (q:=w) (N:=N) (bs:=y) (bm:=v) (hdct:=b) (sn:=z) (sub:=sub) (ab:=A) (col:=f) (dd:=B) (k0:=G) (k1:=J) (k2:=L) (k3:=M) (k5:=Q) PySem.F.excBase_ValueError (mN:=T) (k.hasType PySem.F.excBase_ValueError.hasBase) (I.ok.hd o) (by rw[j];rfl) oi<|Ox I p m ⟨rfl,?_⟩ u;have q:=h.run i O s I;rw[j]at q ⊢;refine JW<|aO q λus s2⟨vs,H2,c,r,z2,q2⟩=>⟨rfl,by rwa[<-r.length],c.bk _ _ U,Y.keeps c.bk,k.keeps c.bk,λh' e hx=>l O σ H2 s2 h' e C us c hx q2⟩
end
variable{sp:Sp}{ps:Ð}{fd:FuncData}{st:Stmt}
section
variable{E:XK}
def lE{h':Heap}(k:∀b o,h.get? b=some o->h'.get? b=some o):Kp [] [] h h':=⟨λb o q _ _=>k b o q,λb o q z=>absurd z<|by simp⟩
def SD:Rz (dv (XF P w) P w K mg Z N qual scope f cd A outer s H E) (λ_=>E):=by
 intro O σ d i v e C args I c l;obtain⟨t,m,_,_⟩:=c.there;show wpAny (model P w) (A.deeper<|envOfC qual scope s.heap.objs.size f cd) (leaving (envOfC qual scope s.heap.objs.size f cd)<|.ref e) _ _ _;unfold leaving;have n:=LN I.aH c.new;have p:=lE c.keeps;refine BJ<|q3q I.ok.frames (I.stack.of_keeps λb o q _=>⟨o,c.keeps b o q,rfl⟩) rfl m rfl rfl rfl rfl λB T z x k=>?_;have r:=I.aH.kept c.keeps;have h:=LL I.Z p (λb o q a=>absurd a<|by simp) λb a=>absurd a (by simp);have j:i.heap.get? T=none:=by
  cases q:i.heap.get? T with
  |none=>rfl
  |some o=>have:=c.keeps _ _ q;exact absurd (this.symm.trans z)<|by simp
 have u:=xN (ex:=[]) (Hb:=d) I.Z (by simp) c.new;refine⟨e,T,.ref C,d,rfl,l,I.os,I.bare,LL h k (λb o q a=>?_) λb a=>?_,Vv r k (λb a=>I.dW b a) λb a=>?_,x,u,xN (ex:=[]) (Hb:=d) I.Z (by simp) j,n,LN I.aH j⟩
 ·rw[Vw]at a
  obtain y|y:=Ai.mp a
  ·exact absurd (Av q)<|by rw[y];exact De _
  ·exact y
 ·rwa[Ad.mp a]
 ·rwa[Ad.mp a]
def LU(N:Ð)(qual:Str)(scope:Scope)(P:Program)(w:World)(K:aa)(mg:Ñ)(Z:Heap)(b:qu):Cx:=dv (XF P w) P w K mg Z N qual scope b.f b.bL b.A b.outer b.s b.H b.E
def bB.gx{k:Nat}(F:bB K x qual st f fd)(S:ak N ps<|aW st)(len:∀vs H Q E,sp vs H Q E->vs.length=ps.length)
  (a:∀b H vs Q,bH k (b.A.deeper<|envOfC qual (aW st) b.s.heap.objs.size b.f b.bL)->sp vs H Q b.E->ge (LU N qual (aW st) P w K mg Z b) (gY st) (En Q) (mf N vs) H):aE P w K mg Z (XF P w) (k+1) f fd ps sp:=by
 obtain⟨j,l,kV,c,pm,m,d,n,o,rfl,lk,e⟩:=F.ex;refine O5 lk e S len λA outer s H vs Q E h i=>?_;exact⟨_,qj,a ⟨f,d,A,outer,s,H,E⟩ H vs Q h i⟩
def ml{b:qu}:mU (XF P w) (LU N qual scope P w K mg Z b) b.E:=wa
def Mo{b:qu}:Rz (LU N qual scope P w K mg Z b) (λ_=>b.E):=SD
end
structure fD(P:Program)(w:World)(K:aa)(mg:Ñ)(Z:Heap)(k:Nat)(x:Str)(ps:Ð)(sp:Sp):Prop where
 ex:∃f fd,aE P w K mg Z (XF P w) k f fd ps sp/\pi K fd ps []/\PySem.W.keepIn K (.ref f)=true/\mg x=some (.ref f)
def fD.mono{P:Program}{w:World}{K:aa}{mg:Ñ}{Z:Heap}{j k:Nat}{x:Str}{ps:Ð}{sp:Sp}(h:fD P w K mg Z j x ps sp)(le:j<=k):fD P w K mg Z k x ps sp:=
 let ⟨f,fd,F,r⟩:=h.ex;⟨f,fd,F.mono le,r⟩
variable{es:Ó}{e:Expr}
def LV{k:Nat}{Q:VK}{E:XK}{p pos:Pos}(G:fD X.U X.w X.K X.mg X.Z k x ps sp)(a:bH k X.A)(c:mU (XF X.U X.w) X E)
  (h:Ea X (e :: es) σ H λvs d=>sp vs d Q E) (f:Gl X x:=by rfl) (i:(x == ("__debug__" : Str))=false:=by decide) (j:gf (e :: es)=true:=by rfl):Ev X (.Call (.Name x p) (e :: es) [] pos) σ H Q:=
 let ⟨_,_,F,b,l,m⟩:=G.ex;P5 F a m l b c h f i j
def Df.LW{k:Nat}(d:Df K x st)(X:K.In h)(G:h.Ns mainGlobals mg)
  (e:∀kV b pm i j ct c,c.length=ps.length->bindArgs (PySem.W.fnOf x x (lV st) (gY st) (aW st) .none kV b pm i j ct) ⟨c,[]⟩=pure (ps.zip c))
  (ok:∀{f}{fd},bB K x x st f fd->aE P w K mg Z (XF P w) k f fd ps sp):fD P w K mg Z k x ps sp:=
 let ⟨f,fd,a,F⟩:=d;⟨f,fd,ok F,F.binds e,F.kp,MP X G a⟩
def Vx(K:aa)(C S:Addr):Bool:=match K.lookup C with
 |some ⟨_,_,.cls cd,_⟩=>cd.mro.contains<|.ref S
 |_=>false
open PySem.W
variable{U:Program}
section
variable{K:Frag}{a C:Addr}{o:Obj}
def Vy(K:Frag)(C:Addr):Bool:=findIn K (.ref C) "__getattribute__" == some (some<|.builtin "BaseException.__getattribute__") && findIn K (.ref C) "__getattr__" == some none && findIn K (.ref C) "__class__" == some (some<|.builtin "object.__class__") &&
 mroIn K C (.type "object") == some true && mroIn K C (.type "BaseException") == some true && (clsIn K C).isSome
end
end L2
namespace L2
open PySem PySem.Spec PyProof.Rows
variable{E:Í}{U:Program}
open bE
variable{es:Ó}
end L2
namespace L2
open PySem PySem.Spec PyProof.Rows bP
variable{acc:Value}{H:Hp}{σ:St}{scope:Scope}{X:Cx}
variable{inner:Sem Unit}{ifs:Ó}
end L2
namespace Nt
open PySem L2 Classical
def jw{α:Type}(k:Nat)(w:List α):List α:=av<|w.drop k
def gA(k:Nat):Nat->List (List bc)->List (Nat×bc)
 |_,[]=>[]
 |m,w :: a=>((jw k w).map λe=>(m,e))++gA k (m+1) a
def jx(k:Nat)(a:List<|List bc):List (Nat×bc):=gA k 0 a
theorem Vz(k:Nat):∀m a,(gA k m a).map (·.2)=a.flatMap (jw k)
 |m,[]=>rfl
 |m,w :: a=>by
  unfold gA;rw[Al,Vz k (m+1) a,Bs,Cp]
  congr 1
  exact List.map_id' _
variable{e:bc}{n:bi}
theorem LX:jw 1 (walker n e)=(av<|walker n e).map (go 1 n):=by
 unfold walker jw;have l:=rd n e<|wu n e;apply Dy;intro i;rw[Ah,qZ,qZ,Gn]
 by_cases h:i<wu n e
 ·rw[show 1+2*i=2*i+1 by omega,AQ n e _ i h,rg n e _ i h];rfl
 ·rw[Bg (by omega),Bg<|(by omega)];rfl
theorem VA{n:bi}:∀{a:List (List bc)},(∀w∈a,∃e,e∈ends n/\w=walker n e)->a.flatMap (jw 1)=(a.flatMap av).map (go 1 n)
 |[],_=>rfl
 |w :: a,h=>by
  obtain⟨e,_,rfl⟩:=h w<|Ae ..;rw[Cp,Cp,Al,LX,VA λv b=>h v<|Af _ b]
theorem VC(T:aq n){k:Nat}(a:k<=1):((jx k<|bu n).map λp=>aD n p.2).Perm (((bu n).flatMap av).map<|aD n):=by
 have e:((jx k<|bu n).map λp=>aD n p.2)=((bu n).flatMap<|jw k).map (aD n):=by
  unfold jx;rw[<-Vz k 0<|bu n,Bs];rfl
 rw[e]
 match k,a with
 |0,_=>exact List.Perm.refl _
 |1,_=>
  rw[VA (si T).wk,Bs];exact Vp T
def Sk(T:aq n){k:Nat}(a:k<=1):((jx k<|bu n).map λp=>aD n p.2).Nodup:=(VC T a).nodup_iff.mpr (si T).nd
variable{z:Str}
def ig(T:aq n){k:Nat}(b:k<=1):z∈((jx k<|bu n).map λp=>aD n p.2)↔z∈ag n:=by
 rw[(VC T b).mem_iff];refine⟨λh=>?_,λh=>Ds.mp<|by rw[Ly T h];exact Ff⟩;obtain⟨x,c,rfl⟩:=Ak.mp h;obtain⟨y,a⟩:=af.mp ((si T).new x c).1;rw[eY a];exact eV a
noncomputable def fE(n:bi)(k:Nat)(z:Str):List (Nat×bc):=(jx k<|bu n).filter λp=>decide (aD n p.2=z)
theorem VE{α:Type}{f:α->Str}:∀{l:List α},(l.map f).Nodup->∀{p},p∈l->(l.filter λx=>decide (f x=f p))=[p]
 |a :: l,b,p,c=>by
  rw[Ba,Bh]at b;rw[Do]
  by_cases h:f a=f p
  ·rw[BP<|BW h];have e:a=p:=by
    obtain q|q:=Ai.mp c
    ·exact q.symm
    ·exact absurd (by rw[h];exact Ak.mpr ⟨p,q,rfl⟩) b.1
   subst e
   congr 1
   rw[Gw];intro x d q;exact b.1<|by rw[<-BX q];exact Ak.mpr ⟨x,d,rfl⟩
  ·rw[BL λq=>h<|BX q]
   obtain q|q:=Ai.mp c
   ·exact absurd (by rw[q]) h
   ·exact VE b.2 q
def VI(T:aq n){k:Nat}(a:k<=1)(c:z∈ag n):∃p,p∈jx k (bu n)/\aD n p.2=z/\fE n k z=[p]:=by
 obtain⟨p,b,rfl⟩:=Ak.mp<|(ig T a).mpr c;exact⟨p,b,rfl,VE (Sk T a) b⟩
theorem LY{n:bi}(T:aq n):∀es b,(∀e∈es,e∈ends n)->∀i w,(eI n es b)[i]?=some w ->
  ∃e l r,es=l++e :: r/\(∀x∈l,aD n x∈b++(((eI n es b).take i).flatMap av).map (aD n))/\aD n e∉b++(((eI n es b).take i).flatMap av).map (aD n)/\w=walker n e
 |[],b,_,i,w,h=>by simp[eI]at h
 |e :: r,b,p,i,w,h=>by
  have s:=λa t=>p a<|Af _ t;unfold eI at h ⊢
  by_cases c:aD n e∈b
  ·rw[BP c]at h ⊢;obtain⟨x,l,f,j,k,m,o⟩:=LY T r b s i w h;refine⟨x,e :: l,f,by rw[j];rfl,λy d=>?_,m,o⟩
   obtain q|q:=Ai.mp d
   ·rw[q];exact Bb _ c
   ·exact k y q
  ·rw[BL c]at h ⊢
   match i with
   |0=>
    cases h;refine⟨e,[],r,rfl,λy d=>(nomatch d),?_,rfl⟩
    simpa using c
   |i+1=>
    obtain⟨x,l,f,j,k,m,o⟩:=LY T r (b++(av<|walker n e).map (aD n)) s i w h;have eq:(b++(((walker n e :: eI n r (b++(av<|walker n e).map (aD n))).take<|i+1).flatMap av).map (aD n))=(b++(av<|walker n e).map (aD n))++(((eI n r<|b++(av<|walker n e).map (aD n)).take i).flatMap av).map (aD n):=by
     rw[List.take_succ_cons,Cp,Al,Ar]
    rw[eq];refine⟨x,e :: l,f,by rw[j];rfl,λy d=>?_,m,o⟩
    obtain q|q:=Ai.mp d
    ·rw[q];refine Bb _<|Au _<|Ak.mpr ⟨e,?_,rfl⟩;exact(mH T<|p e<|Ae ..).mpr ⟨0,rfl⟩
    ·exact k y q
noncomputable def VM(n:bi)(i:Nat):Ð:=(((bu n).take i).flatMap av).map<|aD n
variable{w:List bc}{i:Nat}
def yi(T:aq n)(h:(bu n)[i]?=some w):∃e l r,ends n=l++e :: r/\(∀x∈l,aD n x∈VM n i)/\aD n e∉VM n i/\w=walker n e:=by
 obtain⟨e,l,r,a,b,c,d⟩:=LY T (ends n) [] (λ_ h=>h) i w h;exact⟨e,l,r,a,b,c,d⟩
def cx(T:aq n)(h:e∈ends n):(walker n e)[0]?=some e:=by
 obtain⟨k,p,_⟩:=t6 T h;unfold walker;rw[wv p];have:=rg n e k 0 p.pos;exact this
structure iD(n:bi)(s:Str->Bool)(c:Nat->Bool)(χ:bc->Bool):Prop where
 face:aY n s χ
 cut:∀e z,aJ n e=some z->s z=(c e.1 ^^ c ((other n e)).1)
def jW(n:bi)(c:Nat->Bool)(χ:bc->Bool)(x:bc):Bool:=c x.1 ^^ χ (other n x)
def uw(c:Nat->Bool)(χ:bc->Bool)(y:bc):Bool:=c y.1 ^^ χ y
variable{χ:bc->Bool}{c:Nat->Bool}{s:Str->Bool}{y:bc}{ws:List (List bc)}
def iD.odd(T:aq n)(D:iD n s c χ){x:bc}(a:x∈ends n):uw c χ (go 1 n x)=jW n c χ x:=by
 obtain⟨z,b⟩:=af.mp a;have d:=D.face.go x a;rw[tZ T a]at d;have f:=D.face.dj x z b;have e:=D.cut x z b;unfold uw jW;rw[d,show(go 1 n x).1=(other n x).1 from rfl];rw[f]at e
 revert e
 cases χ x<;>cases χ (other n x)<;>cases c x.1<;>cases c (other n x).1<;>simp
def iD.even(T:aq n)(D:iD n s c χ)(a:y∈ends n):jW n c χ (go (-1) n y)=uw c χ y:=by
 obtain⟨z,b⟩:=af.mp a;have d:=D.face.go _<|cR T<|gK T a (c:=-1);rw[Vd T a]at d;have f:=D.face.dj y z b;have e:=D.cut y z b;unfold uw jW;rw[<-d,show(go (-1) n y).1=(other n y).1 from rfl];rw[f]at e
 revert e
 cases χ y<;>cases χ (other n y)<;>cases c y.1<;>cases c (other n y).1<;>simp
def iD.two(T:aq n)(D:iD n s c χ){x:bc}(a:x∈ends n):jW n c χ (Nt.two n x)=jW n c χ x:=by
 rw[show Nt.two n x=go (-1) n (go 1 n x)from rfl,D.even T<|gK T a,D.odd T a]
theorem iD.it(T:aq n)(D:iD n s c χ){x:bc}(a:x∈ends n):∀k,jW n c χ (Nt.it (Nt.two n) k x)=jW n c χ x
 |0=>rfl
 |k+1=>by
  show jW n c χ (Nt.two n<|Nt.it (Nt.two n) k x)=_;rw[D.two T<|ki T a k,D.it T a k]
theorem VO(k:Nat):∀m ws{i}{e},(i,e)∈gA k m ws->∃j w,ws[j]?=some w/\i=m+j/\e∈jw k w
 |m,[],i,e,h=>by simp[gA]at h
 |m,w :: ws,i,e,h=>by
  unfold gA at h
  obtain h|h:=Am.mp h
  ·obtain⟨x,a,q⟩:=Ak.mp h;cases q;exact⟨0,w,rfl,rfl,a⟩
  ·obtain⟨j,v,b,d,c⟩:=VO k (m+1) ws h;exact⟨j+1,v,b,(by omega),c⟩
def LZ{k:Nat}(h:(i,e)∈jx k ws):∃w,ws[i]?=some w/\e∈jw k w:=by
 obtain⟨j,w,b,a,c⟩:=VO k 0 ws h;rw[Ex]at a;subst a;exact⟨w,b,c⟩
noncomputable def jX(n:bi)(c:Nat->Bool)(χ:bc->Bool)(i:Nat):Bool:=match (bu n)[i]? with
 |some (e :: _)=>jW n c χ e
 |_=>false
theorem VQ(T:aq n)(f:e∈ends n)(h:(bu n)[i]?=some (walker n e)):jX n c χ i=jW n c χ e:=by
 have b:=cx T f;unfold jX;rw[h];cases d:walker n e with
 |nil=>rw[d]at b;cases b
 |cons a l=>rw[d]at b;cases b;rfl
def L0(T:aq n)(h:(bu n)[i]?=some w):∃e,e∈ends n/\w=walker n e:=by
 obtain⟨e,l,r,heq,_,_,a⟩:=yi T h;exact⟨e,by rw[heq];simp,a⟩
def iD.kG(T:aq n)(D:iD n s c χ){x:bc}(h:(i,x)∈jx 0 (bu n)):x∈ends n/\jW n c χ x=jX n c χ i:=by
 obtain⟨w,d,b⟩:=LZ h;obtain⟨e,a,rfl⟩:=L0 T d;have b:=b;obtain⟨k,rfl⟩:=(mH T a).mp b;rw[VQ T a d];exact⟨ki T a k,D.it T a k⟩
def iD.xP(T:aq n)(D:iD n s c χ)(h:(i,y)∈jx 1 (bu n)):y∈ends n/\uw c χ y=jX n c χ i:=by
 obtain⟨w,d,f⟩:=LZ h;obtain⟨e,a,rfl⟩:=L0 T d;rw[LX]at f;obtain⟨x,b,rfl⟩:=Ak.mp f;have b:=b;obtain⟨k,rfl⟩:=(mH T a).mp b;rw[VQ T a d];have:=ki T a k;exact⟨gK T this,by rw[D.odd T this,D.it T a k]⟩
def iD.dj(T:aq n)(D:iD n s c χ){p q:Nat×bc}(d:p∈jx 0 (bu n))(e:q∈jx 1 (bu n))(h:aD n p.2=aD n q.2):s (aD n p.2)=(jX n c χ p.1 ^^ jX n c χ q.1):=by
 obtain⟨i,x⟩:=p;obtain⟨j,y⟩:=q;obtain⟨b,f⟩:=D.kG T d;obtain⟨l,m⟩:=D.xP T e;show s (aD n x)=(jX n c χ i ^^ jX n c χ j);obtain⟨z,a⟩:=af.mp b;have o:=D.face.dj x z a;have r:=D.cut x z a;rw[<-f,<-m,eY a];unfold jW uw
 obtain k|k:=CF T b l h
 ·subst k;rw[o];cases χ y<;>cases χ (other n y)<;>cases c y.1<;>rfl
 ·subst k;rw[r];cases χ (other n x)<;>cases c x.1<;>cases c (other n x).1<;>rfl
def LS{α:Type}(k:Nat):jw k ([]:List α)=[]:=by unfold jw;rw[List.drop_nil];rfl
theorem VR(k i:Nat):∀m ws,((gA k m ws).filter λp=>decide (p.1=i))=if m<=i then((jw k<|ws[i-m]?.getD []).map λe=>(i,e))else []
 |m,[]=>by
  rw[List.getElem?_nil];show []=if m<=i then((jw k ([]:List bc)).map λe=>(i,e))else [];rw[LS]
  split<;>rfl
 |m,w :: ws=>by
  unfold gA;rw[Cv,VR k i (m+1) ws]
  by_cases h:m=i
  ·subst h;rw[BP<|An _,BL (by omega),Bp,RQ];rw[List.filter_eq_self.mpr λa b=>by obtain⟨x,_,rfl⟩:=Ak.mp b;exact BW rfl];rfl
  ·rw[Gw.mpr λa b=>by obtain⟨x,_,rfl⟩:=Ak.mp b;exact λq=>h<|BX q,Hk]
   by_cases c:m<=i
   ·rw[BP c,BP (by omega),show i-m=(i-(m+1))+1 by omega];rfl
   ·rw[BL c,BL<|(by omega)]
theorem VS{α:Type}(f:α->Str)(z:Str):∀l:List α,(l.map f).count z=(l.filter λx=>decide (f x=z)).length
 |[]=>rfl
 |a :: l=>by
  rw[Ba,Dl,VS f z l,Do]
  by_cases h:f a=z
  ·rw[BP (by rw[h];exact FZ z),BP<|BW h,As]
  ·rw[BL (by rwa[HY]),BL λq=>h<|BX q];rfl
def VU{k:Nat}{p:Nat×bc}(f:fE n k z=[p])(h:(bu n)[i]?=some w):((jw k w).map<|aD n).count z=if p.1=i then 1 else 0:=by
 have a:=VR k i 0<|bu n;rw[BP<|Bx _,VP,h]at a;have a:(jx k<|bu n).filter (λp=>decide (p.1=i))=(jw k w).map λe=>(i,e):=a;have b:(((jx k<|bu n).filter λp=>decide (p.1=i)).filter λp=>decide (aD n p.2=z))=(fE n k z).filter λp=>decide (p.1=i):=by
  unfold fE;rw[List.filter_filter,List.filter_filter]
  congr 1
  funext p
  exact Fo ..
 rw[a,f,List.filter_map]at b;have d:=BZ List.length b;rw[Aa]at d;rw[VS];refine Eq.trans d ?_;rw[Do]
 by_cases c:p.1=i
 ·rw[BP<|BW c,BP c];rfl
 ·rw[BL λq=>c<|BX q,BL c];rfl
def yP(T:aq n){p q:Nat×bc}(h:fE n 0 z=[p])(j:fE n 1 z=[q])(d:(bu n)[i]?=some w):cO n w z=(decide (p.1=i) ^^ decide (q.1=i)):=by
 obtain⟨e,k,rfl⟩:=L0 T d;have f:=VU h d;have c:=VU j d;rw[LX,Bs]at c;have f:((dL n e).map<|aD n).count z=_:=f;have c:((dL n e).map λx=>aD n<|go 1 n x).count z=_:=c;unfold cO;rw[(Vn T k).count_eq,Ez,f,c]
 by_cases a:p.1=i<;>by_cases b:q.1=i<;>simp[a,b]
theorem CO{m a:Nat}(h:a<m)(f:Nat->Bool):ao ((range m).map λi=>f i && decide (a=i))=f a:=by
 induction m with
 |zero=>omega
 |succ m b=>
  rw[Dk,Al,nN];show(_ ^^ ((f m && decide (a=m)) ^^ false))=_;rw[Fx]
  by_cases c:a=m
  ·subst c;have:ao ((range a).map λi=>f i && decide (a=i))=false:=by
    have e:((range a).map λi=>f i && decide (a=i))=(range a).map λ_=>false:=Ap λi d=>by
     rw[BR (λq=>by have:=Bo.mp d;omega),Ep]
    rw[e,gM]
   rw[this,BW rfl,VJ,Fw]
  ·rw[b (by omega),BR c,Ep,Fx]
def OR(T:aq n)(ch:Nat->Bool){p q:Nat×bc}(b:fE n 0 z=[p])(c:fE n 1 z=[q]):
  ao ((range (bu n).length).map λi=>ch i && cO n ((bu n)[i]?.getD []) z)=(ch p.1 ^^ ch q.1):=by
 have lt:∀{k:Nat}{p:Nat×bc},fE n k z=[p]->p.1<(bu n).length:=λ{k p}h=>by
  have:p∈fE n k z:=by rw[h];exact Ad.mpr rfl
  obtain⟨w,a,_⟩:=LZ (i:=p.1) (Bf.mp this).1;exact(Ac.mp a).1
 have e:((range (bu n).length).map λi=>ch i && cO n ((bu n)[i]?.getD []) z)=(range (bu n).length).map λi=>(ch i && decide (p.1=i)) ^^ (ch i && decide (q.1=i)):=Ap λi d=>by
  have a:=Ab<|Bo.mp d;have f:=yP T b c a;rw[a,Fe,f];cases ch i<;>rfl
 rw[e,fK,CO<|lt b,CO<|lt c]
structure cS(n:bi)(cs:List<|List Str):Prop where
 len:cs.length=(bu n).length
 mem:∀(i:Nat)c w,cs[i]?=some c->(bu n)[i]?=some w->∀z,z∈c↔(w.map<|aD n).count z=1
 gL:∀c∈cs,b8 c
variable{cs:List Ð}
section
variable{ss zs:Ð}
def cS.at'(C:cS n cs)(T:aq n)(a:i<(bu n).length)(d:z∈ag n):decide (z∈cs[i]?.getD [])=cO n ((bu n)[i]?.getD []) z:=by
 have b:=Ab a;have c:=Ab (show i<cs.length by rwa[C.len]);rw[b,c];exact LI T (Bt a) (C.mem i _ _ c b) d
theorem L3{α:Type}(g f:α->Bool):∀l:List α,ao ((l.filter g).map f)=ao (l.map λi=>g i && f i)
 |[]=>rfl
 |a :: l=>by
  rw[Do];have b:=L3 g f l;cases h:g a with
  |true=>
   rw[BP rfl];show(f a ^^ ao ((l.filter g).map f))=((g a && f a) ^^ ao (l.map λi=>g i && f i));rw[b,h,Gh]
  |false=>
   rw[BL (by decide),b];show _=((g a && f a) ^^ ao (l.map λi=>g i && f i));rw[h,Gq,Fw]
end
abbrev ce(n:bi):Ð:=n.map (·.1)
noncomputable def bJ(n:bi)(p:Str->Bool)(z:Str):Bool:=ao<|n.map λr=>p r.1 && decide (r.2.count z%2=1)
noncomputable def mI(n:bi)(p s:Str->Bool):Bool:=ao<|n.map λr=>p r.1 && ao (r.2.map s)
noncomputable def pr(f:Str->Bool)(os:Ð):Bool:=ao<|os.map f
def L4{α:Type}(b:Bool)(f:α->Bool)(l:List α):(b && ao (l.map f))=ao (l.map λx=>b && f x):=by
 cases b
 ·show false=ao (l.map λ_=>false);rw[gM]
 ·rfl
def L5{α:Type}(b:Bool)(f:α->Bool)(l:List α):(ao (l.map f) && b)=ao (l.map λx=>f x && b):=by
 rw[Fo,L4]
 congr 1
 exact Ap λx _=>Fo _ _
variable{Z:Ð}
def L9(a:Z.Nodup)(b:∀z∈ag n,z∈Z)(p s:Str->Bool):mI n p s=bA Z (bJ n p) s:=by
 unfold mI bA bJ;have e:(Z.map λz=>ao (n.map λr=>p r.1 && decide (r.2.count z%2=1)) && s z)=Z.map λz=>ao (n.map λr=>p r.1 && (s z && decide (r.2.count z%2=1))):=Ap λz _=>by
  rw[L5]
  congr 1
  refine Ap λr _=>?_;cases p r.1<;>cases s z<;>simp
 rw[e,sg λz(r:Str×List Str)=>p r.1 && (s z && decide (r.2.count z%2=1))]
 congr 1
 refine Ap λr c=>?_;rw[<-L4]
 congr 1
 exact(CD (n:=n) a λy d=>b y<|Gb.mpr ⟨r,c,d⟩).symm
def xQ(Z:Ð)(s t:Str->Bool):bA Z s t=bA Z t s:=by
 unfold bA
 congr 1
 exact Ap λz _=>Fo _ _
def xR{s' t t':Str->Bool}(h:∀z∈Z,s z=s' z)(k:∀z∈Z,t z=t' z):bA Z s t=bA Z s' t':=by
 unfold bA
 congr 1
 exact Ap λz a=>by rw[h z a,k z a]
def sym(p q:Str->Bool):mI n p (bJ n q)=mI n q (bJ n p):=by
 obtain⟨Z,b,c⟩:=ke<|ag n;rw[L9 (gq b) λz a=>(c z).mpr a,L9 (gq b) λz a=>(c z).mpr a,xQ]
def pQ{c:Ð}(h:c.Nodup)(z:Str):decide (c.count z%2=1)=decide (z∈c):=by
 by_cases k:z∈c
 ·have:c.count z=1:=Nat.le_antisymm (Hg.mp h z)<|Ds.mpr k;rw[this,BW k];rfl
 ·rw[Fg k,BR k];rfl
def uz{c:Ð}(a:Z.Nodup)(b:c.Nodup)(d:∀z∈c,z∈Z)(f:Str->Bool):pr f c=bA Z f (λz=>decide (z∈c)):=by
 unfold pr;rw[<-CD (n:=[]) a d];exact xR (λ_ _=>rfl) λz _=>pQ b z
abbrev gO(a b c:Ð):Prop:=∀z,z∈c↔(if z∈a then z∉b else z∈b)
def xS{a b c:Ð}(h:gO a b c)(z:Str):decide (z∈c)=(decide (z∈a) ^^ decide (z∈b)):=by
 have:=h z
 by_cases x:z∈a<;>by_cases y:z∈b<;>simp[x,y]at this<;>simp[x,y,this]
def vM{a b c:Ð}(j:a.Nodup)(l:b.Nodup)(m:c.Nodup)(h:gO a b c)(f:Str->Bool):pr f c=(pr f a ^^ pr f b):=by
 obtain⟨Z,n,e⟩:=ke<|a++b;have i:=gq n;rw[uz i j λz d=>(e z).mpr<|Am.mpr<|.inl d,uz i l λz d=>(e z).mpr<|Am.mpr<|.inr d,
  uz i m (λz d=>(e z).mpr (by
   have:=(h z).mp d;rw[Am]
   by_cases k:z∈a
   ·exact .inl k
   ·rw[BL k]at this;exact .inr this))]
 rw[xQ Z f,xQ Z f,xQ Z f,<-Lj];exact xR (λz _=>xS h z) λ_ _=>rfl
noncomputable def cP(s:Str->Bool)(r:Str×List Str):Bool:=ao<|r.2.map s
def df(n:bi)(s:Str->Bool)(os:Ð):Prop:=os.Perm ((n.filter<|cP s).map (·.1))
def df.pr{n:bi}{s:Str->Bool}{os:Ð}(h:df n s os)(f:Str->Bool):pr f os=mI n f s:=by
 unfold Nt.pr mI;rw[S9<|h.map f,Bs,L3]
 congr 1
 exact Ap λr _=>Fo _ _
variable{os:Ð}
def df.nd(h:df n s os)(a:(ce n).Nodup):os.Nodup:=h.nodup_iff.mpr<|a.sublist<|List.filter_sublist.map _
def df.sub(h:df n s os):∀x∈os,x∈ce n:=λx a=>by
 obtain⟨r,b,rfl⟩:=Ak.mp<|h.mem_iff.mp a;exact Ak.mpr ⟨r,(Bf.mp b).1,rfl⟩
variable{r:Str×List Str}
def VV(a:(ce n).Nodup){q:Str×List Str}(b:r∈n)(c:q∈n)(h:r.1=q.1):r=q:=LA a r b q c h
def df.mem(h:df n s os)(c:(ce n).Nodup)(a:r∈n):decide (r.1∈os)=cP s r:=by
 cases k:cP s r
 ·refine BR λd=>?_;obtain⟨q,f,e⟩:=Ak.mp<|h.mem_iff.mp d;obtain⟨i,b⟩:=Bf.mp f;rw[VV c i a e,k]at b;cases b
 ·exact BW<|h.mem_iff.mpr<|Ak.mpr ⟨r,Bf.mpr ⟨a,k⟩,rfl⟩
def LH(b:(ce n).Nodup)(c:r∈n)(s:Str->Bool):mI n (λx=>decide (x=r.1)) s=cP s r:=by
 unfold mI;have e:(n.map λq=>decide (q.1=r.1) && ao (q.2.map s))=n.map λq=>decide (q=r) && ao (r.2.map s):=Ap λq d=>by
  by_cases k:q.1=r.1
  ·rw[VV b d c k,BW rfl,BW rfl]
  ·rw[BR k,BR λe=>k<|by rw[e]];rfl
 rw[e,<-L5];have one:∀{l:List (Str×List Str)},l.Nodup->r∈l->ao (l.map λq=>decide (q=r))=true:=by
  intro l
  induction l with
  |nil=>intro _ h;cases h
  |cons a l i=>
   intro nd h;have f:=Bh.mp nd;show(decide (a=r) ^^ ao (l.map _))=true
   by_cases k:a=r
   ·have:(l.map λq=>decide (q=r))=l.map λ_=>false:=Ap λq d=>BR λe=>f.1 (by rwa[k,<-e]);rw[this,gM,BW k];rfl
   ·rw[BR k,i f.2<|by obtain e|e:=Ai.mp h;exact absurd e.symm k;exact e];rfl
 rw[one (LD b) c];rfl
noncomputable def cK(n:bi)(ps:Ð)(r:Str×List Str):Bool:=cP (bJ n λy=>decide (y∈ps)) r
def eP(n:bi)(p q:Str->Bool)(z:Str):bJ n (λy=>p y ^^ q y) z=(bJ n p z ^^ bJ n q z):=by
 unfold bJ;rw[<-fK]
 congr 1
 refine Ap λr _=>?_;show((p r.1 ^^ q r.1) && decide (r.2.count z%2=1))=_;generalize decide (r.2.count z%2=1)=c;generalize p r.1=a;generalize q r.1=b;cases a<;>cases b<;>cases c<;>rfl
def Tu{a b c:Ð}(h:gO a b c)(r:Str×List Str):cK n c r=(cK n a r ^^ cK n b r):=by
 unfold cK cP;rw[<-fK]
 congr 1
 refine Ap λz _=>?_;rw[<-eP]
 congr 1
 funext y
 exact xS h y
def Ma(T:aq n)(ps:Ð)(z:Str):bJ n (λy=>decide (y∈ps)) z=decide (dA n ps z):=by
 have h:=Tw T ps z;rw[decide_eq_decide.mpr h];unfold bJ;rw[ut];have fl:∀l:bi,ao ((ag l).map λy=>decide (z=y))=ao (l.map λr=>decide (r.2.count z%2=1)):=by
  intro l
  induction l with
  |nil=>rfl
  |cons a l b=>
   show ao ((a.2++ag l).map _)=(_ ^^ ao (l.map _));rw[Al,nN,b,<-ut]
 rw[fl,L3]
abbrev gB:=List<|List Str×List Str
structure Mb(n:bi)(st:gB):Prop where
 ne:∀s∈st,s.2≠[]
 nd:∀s∈st,s.1.Nodup/\s.2.Nodup
 sub:∀s∈st,(∀x∈s.1,x∈ce n)/\∀x∈s.2,x∈ce n
 im:∀s∈st,∀r∈n,cK n s.1 r=decide (r.1∈s.2)
 Md:st.Pairwise λa b=>∀p,a.2.head?=some p->p∉b.2
structure ii(n:bi)(st:gB)(ps os dD cA:Ð):Prop where
 nd:dD.Nodup/\cA.Nodup
 sub:(∀x∈dD,x∈ce n)/\∀x∈cA,x∈ce n
 fn:∀f:Str->Bool,(∀s∈st,pr f s.2=false)->pr f cA=pr f os
 CU:∀s∈st,∀p,s.2.head?=some p->p∉cA
 im:∀r∈n,(decide (r.1∈cA) ^^ cK n dD r)=(decide (r.1∈os) ^^ cK n ps r)
def ii.start{ps:Ð}(a:ps.Nodup)(b:os.Nodup)(c:∀x∈ps,x∈ce n)(d:∀x∈os,x∈ce n):ii n [] ps os ps os:=⟨⟨a,b⟩,⟨c,d⟩,λ_ _=>rfl,λs h=>(by cases h),λ_ _=>rfl⟩
def xT{α:Type}{l:List α}{a:α}(h:l[i]?=some a):l.take (i+1)=l.take i++[a]:=by rw[Cj,h];rfl
variable{p:Str}{dD cA:Ð}{st:gB}
def ii.skip{s:List Str×List Str}{ps:Ð}(h:ii n (st.take i) ps os dD cA)(a:st[i]?=some s)(c:s.2.head?=some p)(d:p∉cA):ii n (st.take<|i+1) ps os dD cA:=by
 rw[xT a];refine⟨h.nd,h.sub,λf e=>h.fn f λs a=>e s<|Am.mpr<|.inl a,λt j q b=>?_,h.im⟩
 obtain k|k:=Am.mp j
 ·exact h.CU t k q b
 ·rw[Ad.mp k,c]at b;cases b;exact d
theorem VW{l:Ð}(h:l.head?=some p):p∈l:=by
 cases l with
 |nil=>cases h
 |cons a l=>cases h;exact Ae
theorem ii.step(I:Mb n st){s:List Str×List Str}{ps o u:Ð}(h:ii n (st.take i) ps os dD cA)(d:st[i]?=some s)(v:s.2.head?=some p)(C:p∈cA)
  (D:o.Nodup) (w:u.Nodup) (y:gO dD s.1 o) (l:gO cA s.2 u):ii n (st.take<|i+1) ps os o u:=by
 have m:=Ao d;have E:=(Ac.mp d).1;rw[xT d];have un:∀{a b c:Ð},gO a b c->(∀x∈a,x∈ce n)->(∀x∈b,x∈ce n)->∀x∈c,x∈ce n:=λ{a b c}X G H x J=>by
  have:=(X x).mp J
  by_cases k:x∈a
  ·exact G x k
  ·rw[BL k]at this;exact H x this
 refine⟨⟨D,w⟩,⟨un y h.sub.1 (I.sub s m).1,un l h.sub.2 (I.sub s m).2⟩,λf z=>?_,λt L q e=>?_,λr A=>?_⟩
 ·rw[vM h.nd.2 (I.nd s m).2 w l,z s<|Am.mpr<|.inr<|Ad.mpr rfl,Fx];exact h.fn f λs d=>z s<|Am.mpr<|.inl d
 ·rw[l q]
  obtain k|k:=Am.mp L
  ·rw[BL<|h.CU t k q e];obtain⟨j,B⟩:=Be k;have M:=(Ac.mp B).1;rw[Br]at M;have N:st[j]?=some t:=by rwa[Eb<|(by omega)]at B
   have O:=(Ac.mp N).2;have Q:=(Ac.mp d).2;have:=Bc.mp I.Md j i (by omega) E (by omega);rw[O,Q]at this;exact this q e
  ·rw[Ad.mp k]at e;rw[v]at e;cases e;rw[BP C];exact λk=>k<|VW v
 ·rw[xS l,Tu y,I.im s m r A,<-h.im r A];cases decide (r.1∈cA)<;>cases decide (r.1∈s.2)<;>cases cK n dD r<;>rfl
theorem VX:∀{st:gB},(∀s∈st,s.2≠[])->(∀s∈st,s.2.Nodup)->(st.Pairwise λa b=>∀p,a.2.head?=some p->p∉b.2)->∀{o},o.Nodup->o≠[]->(∀s∈st,∀p,s.2.head?=some p->p∉o)->∃f:Str->Bool,(∀s∈st,pr f s.2=false)/\pr f o=true
 |[],_,_,_,o,nd,ne,_=>by
  cases o with
  |nil=>exact absurd rfl ne
  |cons a o=>
   refine⟨λx=>decide (x=a),λs h=>(by cases h),?_⟩;have:(o.map λx=>decide (x=a))=o.map λ_=>false:=Ap λx d=>BR λe=>(Bh.mp nd).1 (by rw[<-e];exact d);show(decide (a=a) ^^ ao (o.map λx=>decide (x=a)))=true;rw[this,gM,BW rfl];rfl
 |s :: st,m,n,q,o,nd,ne,r=>by
  obtain⟨f,f1,f2⟩:=VX (λt c=>m t<|Af _ c) (λt c=>n t<|Af _ c) (Ct.mp q).2 nd ne λt c=>r t<|Af _ c;obtain⟨p,i⟩:∃p,s.2.head?=some p:=by
   cases k:s.2 with
   |nil=>exact absurd k<|m s Ae
   |cons a l=>exact⟨a,rfl⟩
  have add:∀(l:Ð),l.Nodup->pr (λx=>f x ^^ decide (x=p)) l=(pr f l ^^ decide (p∈l)):=λl j=>by
   show ao (l.map _)=_;rw[fK]
   congr 1
   have:=uz (Z:=l) j j (λ_ h=>h) λx=>decide (x=p);have u:ao (l.map λx=>decide (x=p))=pr (λx=>decide (x=p)) l:=rfl
   by_cases k:p∈l
   ·rw[u,this,xL j k]
   ·rw[BR k];have:(l.map λx=>decide (x=p))=l.map λ_=>false:=Ap λx d=>BR λe=>k (by rw[<-e];exact d);rw[this,gM]
  cases k:pr f s.2
  ·refine⟨f,λt c=>?_,f2⟩
   obtain rfl|c:=Ai.mp c
   ·exact k
   ·exact f1 t c
  ·refine⟨λx=>f x ^^ decide (x=p),λt c=>?_,?_⟩
   ·rw[add _<|n t c]
    obtain rfl|c:=Ai.mp c
    ·rw[k,BW<|VW i];rfl
    ·rw[f1 t c,BR<|(Ct.mp q).1 t c p i];rfl
   ·rw[add _ nd,f2,BR<|r s Ae p i];rfl
structure kj(n:bi)(k:Nat)(st:gB):Prop where
 cL:Mb n st
 len:st.length<=k
 span:∀f:Str->Bool,(∀s∈st,pr f s.2=false)->∀x∈(ce n).take k,mI n f (bJ n λy=>decide (y∈[x]))=false
def kj.start(n:bi):kj n 0 []:=⟨⟨λs h=>(by cases h),λs h=>(by cases h),λs h=>(by cases h),λs h=>(by cases h),List.Pairwise.nil⟩,An _,λf _ x a=>(by rw[VG]at a;cases a)⟩
variable{x:Str}
def x2l(c:(ce n).Nodup)(d:df n (bJ n λy=>decide (y∈[x])) os)(h:ii n st [x] os dD cA):∀r∈n,cK n dD r=decide (r.1∈cA):=λr b=>by
 have a:=h.im r b;rw[d.mem c b]at a;have:cK n [x] r=cP (bJ n λy=>decide (y∈[x])) r:=rfl;rw[this,Bool.xor_self]at a
 revert a
 cases decide (r.1∈cA)<;>cases cK n dD r<;>simp
def kj.skip(e:(ce n).Nodup){k:Nat}(I:kj n k st)(c:(ce n)[k]?=some x)(d:df n (bJ n λy=>decide (y∈[x])) os)(h:ii n st [x] os dD []):kj n (k+1) st:=by
 refine⟨I.cL,Nat.le_succ_of_le I.len,λf a y b=>?_⟩;rw[xT c]at b
 obtain q|q:=Am.mp b
 ·exact I.span f a y q
 ·rw[Ad.mp q,<-d.pr,<-h.fn f a];rfl
def kj.step(m:(ce n).Nodup){k:Nat}(I:kj n k st)(o:(ce n)[k]?=some x)(e:df n (bJ n λy=>decide (y∈[x])) os)(h:ii n st [x] os dD cA)(r:cA≠[]):kj n (k+1) (st++[(dD,cA)]):=by
 have c:∀{P:List Str×List Str->Prop},(∀s∈st,P s)->P (dD,cA)->∀s∈st++[(dD,cA)],P s:=λ{P}a b s d=>by
  obtain q|q:=Am.mp d
  ·exact a s q
  ·rwa[Ad.mp q]
 refine⟨⟨c I.cL.ne r,c I.cL.nd h.nd,c I.cL.sub h.sub,c I.cL.im<|x2l m e h,?_⟩,by rw[Ag];exact Nat.succ_le_succ I.len,λf i y j=>?_⟩
 ·rw[Fv];refine⟨I.cL.Md,Gp _ _,λa t b u p v=>?_⟩;rw[Ad.mp u];exact h.CU a t p v
 ·have l:∀s∈st,pr f s.2=false:=λs d=>i s<|Am.mpr<|.inl d;rw[xT o]at j
  obtain q|q:=Am.mp j
  ·exact I.span f l y q
  ·rw[Ad.mp q,<-e.pr,<-h.fn f l];exact i (dD,cA)<|Am.mpr<|.inr<|Ad.mpr rfl
def oa(n:bi)(s:Str->Bool):Prop:=∀f:Str->Bool,(∀r∈n,cP (bJ n f) r=false)->mI n f s=false
def kj.whole(c:(ce n).Nodup)(I:kj n n.length st)(i:oa n s)(d:df n s os)(h:ii n st [] os dD cA):∀r∈n,cK n dD r=cP s r:=by
 have j:cA=[]:=by
  refine CQ λk=>?_;obtain⟨f,f1,f2⟩:=VX I.cL.ne (λs l=>(I.cL.nd s l).2) I.cL.Md h.nd.2 k h.CU;have hd:∀r∈n,cP (bJ n f) r=false:=λr b=>by
   rw[<-LH c b,sym];have:=I.span f f1 r.1 (by rw[Cs<|by rw[Aa];exact An _];exact Ak.mpr ⟨r,b,rfl⟩);have e:(λy=>decide (y∈[r.1]))=λy=>decide (y=r.1):=by
    funext y
    exact decide_eq_decide.mpr Ad
   rwa[e]at this
  have:=i f hd;rw[<-d.pr,<-h.fn f f1,f2]at this;cases this
 subst j;intro r b;have a:=h.im r b;have z:cK n [] r=false:=by
  unfold cK cP bJ;have:(r.2.map λz=>ao<|n.map λq=>decide (q.1∈([]:Ð)) && decide (q.2.count z%2=1))=r.2.map λ_=>false:=Ap λz _=>by
   have:(n.map λq=>decide (q.1∈([]:Ð)) && decide (q.2.count z%2=1))=n.map λ_=>false:=Ap λq _=>by
    rw[BR (λh=>by cases h),Gq]
   rw[this,gM]
  rw[this,gM]
 rwa[z,d.mem c b,Fx,BR (λh=>by cases h),Fw]at a
def x2(h:i<n.length):∃r∈n,row n i=r.2:=⟨n[i],Bt h,by unfold row;rw[Ab h];rfl⟩
theorem iO(T:aq n)(I:HF n)(C:cS n cs)(h:∀c∈cs,ao (c.map s)=false):oa n s:=λf hd=>by
 obtain⟨Z,J,l⟩:=ke<|ag n;have w:=gq J;have A:=λz d=>(l z).mpr d;rw[L9 w A];have L:cN n (bJ n f):=λi=>by
  by_cases j:i<n.length
  ·obtain⟨r,m,e⟩:=x2 j;rw[e];exact hd r m
  ·unfold row;rw[Bg<|(by omega)];rfl
 obtain⟨χ,o⟩:=I.2.2 _ L;have M:∀e z,aJ n e=some z->bJ n f z=(f (aC n e.1) ^^ f (aC n ((other n e)).1)):=λe z d=>by
  have t:∀x∈ce n,decide (x∈(ce n).filter f)=f x:=λx N=>by
   cases k:f x
   ·exact BR λq=>by rw[(Bf.mp q).2]at k;cases k
   ·exact BW<|Bf.mpr ⟨N,k⟩
  have O:bJ n f z=bJ n (λy=>decide (y∈(ce n).filter f)) z:=by
   unfold bJ
   congr 1
   refine Ap λr m=>?_;have:=t r.1<|Ak.mpr ⟨r,m,rfl⟩;show(f r.1 && _)=(decide (r.1∈(ce n).filter f) && _);rw[<-this]
  have c:=jQ T (ps:=(ce n).filter f) d;rw[t _<|jr<|cB d,t _<|jr<|pv T d]at c;rw[O,Ma T,Cf,CN,c]
 have D:iD n (bJ n f) (λr=>f<|aC n r) χ:=⟨o,M⟩;have e:∀z∈Z,bJ n f z=ao ((range (bu n).length).map λi=>jX n (λr=>f<|aC n r) χ i && cO n ((bu n)[i]?.getD []) z):=λz d=>by
  have B:=(l z).mp d;obtain⟨p,Q,E,u⟩:=VI T (k:=0) (by decide) B;obtain⟨q,U,Y,v⟩:=VI T (k:=1) (by decide) B;rw[OR T _ u v,<-iD.dj T D Q U<|E.trans Y.symm,E]
 rw[xR e λ_ _=>rfl];unfold bA;have e2:(Z.map λz=>ao ((range (bu n).length).map λi=>jX n (λr=>f<|aC n r) χ i && cO n ((bu n)[i]?.getD []) z) && s z)=Z.map λz=>ao ((range (bu n).length).map λi=>jX n (λr=>f<|aC n r) χ i && (cO n ((bu n)[i]?.getD []) z && s z)):=Ap λz _=>by
  rw[L5]
  congr 1
  exact Ap λi _=>Bool.and_assoc _ _ _
 rw[e2,sg λz i=>jX n (λr=>f<|aC n r) χ i && (cO n ((bu n)[i]?.getD []) z && s z)];have e3:((range (bu n).length).map λi=>ao<|Z.map λz=>jX n (λr=>f<|aC n r) χ i && (cO n ((bu n)[i]?.getD []) z && s z))=(range (bu n).length).map λ_=>false:=Ap λi j=>by
  have j:=Bo.mp j;rw[<-L4];have G:=Ab (show i<cs.length by rwa[C.len]);have H:cs[i]'(by rwa[C.len])∈cs:=Bt _;have km:=Ab j;have a:=h _ H;have nd:=gq<|C.gL _ H;have qt:∀z∈cs[i]'(by rwa[C.len]),z∈ag n:=CL (λc hc=>(o6 T (ends n) [] (λe he=>he) _<|Bt j).ends c hc)<|C.mem i _ _ G km;have b:=uz w nd (λz d=>A z<|qt z d) s;have c:ao (Z.map λz=>cO n ((bu n)[i]?.getD []) z && s z)=bA Z s (λz=>decide (z∈cs[i]'(by rwa[C.len]))):=by
   rw[xQ];unfold bA
   congr 1
   refine Ap λz d=>?_;rw[<-C.at' T j<|(l z).mp d,G,Fe]
  rw[c,<-b];show(_ && ao _)=false;rw[a,Ep]
 rw[e3,gM]
theorem IN(T:aq n){ss ps cs d:Ð}(h:∀r∈n,cK n ps r=cP (λz=>decide (z∈ss)) r)(f:∀z,z∈cs↔dA n ps z)(i:gO ss cs d):cC n d=true:=by
 refine cJ.mpr λr j=>?_;have a:=h r j;unfold cK cP at a;have e:(r.2.map<|bJ n λy=>decide (y∈ps))=r.2.map λz=>decide (z∈cs):=Ap λz _=>by rw[Ma T,decide_eq_decide.mpr<|f z]
 rw[e]at a;have b:ao (r.2.map λz=>decide (z∈d))=false:=by
  have:(r.2.map λz=>decide (z∈d))=r.2.map λz=>decide (z∈ss) ^^ decide (z∈cs):=Ap λz _=>xS i z;rw[this,fK,a,Bool.xor_self]
 have c:(r.2.filter λz=>d.contains z)=r.2.filter λz=>decide (z∈d):=by
  congr 1
  funext z
  rw[Cf,CN];exact Bm
 rw[c];rw[rm]at b;have:=IW b;omega
def sj(n:bi)(ss:Ð):Prop:=∃cs,cS n cs/\∀c∈cs,(c.filter λz=>ss.contains z).length%2=0
end Nt
namespace E9
open PySem L2 Nt bE bP
open PyProof.Rows (sortedS)
def CY:Sp:=λd H Q _=>∃R p as n c,d=[.ref R,.ref p]/\ai H R as n/\aq n/\n.length<=60/\(ag n).length<=60/\H p=some (Ls c) /\
 ∀L a b,aj H b->H L=none->b L=some (Ls a)->b8 a->(∀z,z∈a↔dA n c z)->a.length<=60->Q (.ref L) b
def C0:Sp:=λh H Q _=>∃a b e c,h=[.ref a,.ref b]/\H a=some (Ls e)/\H b=some (Ls c)/\e.length+c.length<64 /\
 ∀l d f,aj H f->H l=none->f l=some (Ls d)->sortedS d=true->d.Nodup->(∀z,z∈d↔(if z∈e then z∉c else z∈c))->Q (.ref l) f
def Mg:Sp:=λb H Q _=>∃R as n,b=[.ref R]/\ai H R as n/\n.length<=1000/\∀L a,aj H a->H L=none->a L=some (Ls (n.map (·.1)))->Q (.ref L) a
variable{Z:Heap}{mg:Ñ}{K:aa}{ls:List Lk}{ps:Ð}{fd:FuncData}{f:Addr}
section
variable{P:Program}{w:World}
def xU(ps:Ð)(x:Lk):Bool:=decide (x.2.1∈ps) != decide (x.2.2∈ps)
def dQ(ps:Ð)(ls:List Lk):Ð:=(ls.filter<|xU ps).map (·.1)
def k4(h:CB ls):b8 (dQ ps ls):=by
 unfold b8 dQ;rw[Dr];exact h.sublist Hl
def mo{n:bi}(T:aq n)(h:∀x,x∈ls↔pj n x)(z:Str):z∈dQ ps ls↔dA n ps z:=by
 unfold dQ;rw[Ak]
 constructor
 ·rintro ⟨x,a,rfl⟩;rw[Bf]at a;exact(A4 T<|(h x).mp a.1).mpr a.2
 ·intro b;obtain⟨e,c,_⟩:=id b
  obtain q|q:=LJ T c
  ·exact⟨_,Bf.mpr ⟨(h _).mpr q,(A4 T q).mp b⟩,rfl⟩
  ·exact⟨_,Bf.mpr ⟨(h _).mpr q,(A4 T q).mp b⟩,rfl⟩
def V1(ps:Ð)(ls:List Lk):(dQ ps ls).length<=ls.length:=by
 unfold dQ;rw[Aa];exact Dz _ _
def OF(ps:Ð)(ls:List Lk)(x:Lk):dQ ps (ls++[x])=dQ ps ls++(if xU ps x=true then [x.1]else []):=by
 unfold dQ;rw[Cv,Al]
 congr 1
 cases h:xU ps x<;>simp[h]
def uA(zs:Ð)(z:Str):zs.contains z=decide (z∈zs):=by
 rw[Cf,CN];exact Bm
abbrev V2:Ð:=["rows","points"]
abbrev xV:Ð:=["rows","points","tie","one","other"]
def Mh:ak V2 ["rows","points"] (aW zY):=cm
def Mi:xV.Nodup:=by decide +kernel
theorem y3(F:bB K "cut_of" "cut_of" zY f fd)(T:Txt mg)
  (G:(aP P w K mg Z) 1 "links_of" ["rows"] Ld):
  (aE P w K mg Z bK) 2 f fd ["rows","points"] CY:=by
 refine F.gc Mh λb0 H vs Q E hr h=>?_;obtain⟨R,p,as,n,ps,rfl,hR,o,hn,ht,r,q⟩:=h;refine bS (jb (aW zY) V2 xV 3 (gD bI)<|bC G hr<|ah<|ae 0<|ax ⟨R,as,n,rfl,hR,o,(by omega),ht,λL us ls j c n1 s t nw sf v=>?_⟩);refine⟨L,rfl,⟨_,au.of s⟩,λD b=>?_⟩;have Kv:=bz s b;have K7:=bz (c _ _ r) b;have rT:=t.1;refine oY (xs:=us.map V.ref) (λi a d=>(∃v1 z A,a=[(some (.ref R)),(some (.ref p))]++[v1,z,A])/\d=upd j D (Ls<|dQ ps<|ls.take i)) ⟨⟨_,_,_,rfl⟩,rfl⟩ ?_ ?_ ?_
 ·rintro i a d _ ⟨_,rfl⟩;exact au.of<|by rwa[aw Kv]
 ·rintro i x a d B ⟨⟨v1,z,A,rfl⟩,rfl⟩;rw[Ah,Az]at B;obtain⟨u,C,rfl⟩:=B;have hi:i<ls.length:=by
   have:=(Ac.mp C).1;omega
  have I:=Ab hi;have J:=t.2 i u _ C I;have iW:ls.take (i+1)=ls.take i++[ls[i]]:=by rw[Cj,I];rfl
  rw[iW,OF];generalize ls[i]=lx at J;obtain⟨k,l,m⟩:=lx;have Mj:(upd j D<|Ls<|dQ ps<|ls.take i) u=some (.tup [.str k,.str l,.str m]):=by rwa[aw<|bz J b]
  have M:(upd j D<|Ls<|dQ ps<|ls.take i) p=some (Ls ps):=by rw[aw K7];exact c _ _ r
  intro N O U Y ex;refine FS rfl (aQ.of Mj) (bw 2 Mi<|bw 3 Mi<|bw 4 Mi ?_);intro N O U Y ex;refine oQ<|cz tj<|j6 oH<|ae 3<|ae 1 ⟨p,_,rfl,.inl<|au.of M,rfl,my _,?_⟩;refine j6 oH<|ae 4<|ae 1 ⟨p,_,rfl,.inl<|au.of M,rfl,my _,rfl,_,rfl,?_⟩;have fF:∀(x y:Bool),(if false=true then x else y)=y:=λ_ _=>rfl;rw[fF,fF,mw,mw,uA,uA,yY];show if xU ps (k,l,m)=true then _ else _;have jL:=Ch (V1 ps<|ls.take i) (show(ls.take i).length<=ls.length by rw[Br];omega)
  by_cases e:xU ps (k,l,m)=true
  ·rw[BP e];intro N O U Y ex;refine ae 2 ⟨_,az,by rw[Aa];exact cg (by omega),⟨_,_,_,rfl⟩,?_⟩;rw[uN,BP e];exact IM
  ·rw[BL e];refine⟨⟨_,_,_,rfl⟩,?_⟩;rw[BL e,Bp]
 ·rintro a d ⟨_,rfl⟩;rw[Aa,rT,Ca];have jL:=V1 ps ls;exact q D _ _ (c.trans<|aS b _) (iR c b) az (k4 nw) (mo o sf)<|(by omega)
def lH(ss:Ð)(r:Str×List Str):Bool:=(r.2.filter λz=>ss.contains z).length%2 == 0
def C1:Sp:=λe H Q _=>∃R a as n c,e=[.ref R,.ref a]/\ai H R as n/\n.length<=60/\(ag n).length<=1000/\H a=some (Ls c) /\
 ∀L d b,aj H b->H L=none->b L=some (Ls d)->d.Perm ((n.filter λr=>!lH c r).map (·.1))->Q (.ref L) b
abbrev NR:Ð:=["rows","some"]
abbrev Mk:Ð:=["rows","some","point","ties"]
abbrev V3:Ð:=["rows","some","point","ties","tie"]
def YE:ak NR ["rows","some"] (aW iP):=cm
def xW:Mk.Nodup:=by decide +kernel
def Mt:V3.Nodup:=by decide +kernel
def Uf:Scope:=match gY iP with
 |[.Return (some<|.Call _ [.ListComp _ _ a _] _ _) _]=>a
 |_=>aW iP
def Ml:Scope:=relabel Uf<|PyProof.Rows.envOfC "odd_points" (aW iP) 0 0 .none
theorem nX(F:bB K "odd_points" "odd_points" iP f fd)(T:Txt mg):(aE P w K mg Z bK) 1 f fd ["rows","some"] C1:=by
 refine F.gc YE λb0 H vs Q E hr h=>?_;obtain⟨R,a,as,n,d,rfl,u,hn,ht,G,q⟩:=h;have cq:=u.len;refine bS<|cM zG T.sorted DR<|ah<|jb (aW iP) NR Mk 2 (gD bI)<|ae 0 ⟨R,rfl,⟨_,au.of u.lst⟩,λD I=>?_⟩;refine oY (xs:=as.map λa=>V.ref a.1) (λi j k=>(∃v1 J,j=[(some (.ref R)),(some (.ref a))]++[v1,J])/\k D=some (.lst<|((n.take i).filter λr=>!lH d r).map λr=>V.str r.1)/\aj H k) ⟨⟨none,none,rfl⟩,az,aS I _⟩ ?_ ?_ ?_
 ·rintro i j k _ ⟨_,_,e⟩;exact au.of<|e _ _ u.lst
 ·rintro i x j k B ⟨⟨v1,J,rfl⟩,m,e⟩;have L:i<n.length:=by
   have:=(Ac.mp B).1;rw[Aa]at this;omega
  obtain⟨b,eb,dJ,et,M,er⟩:=(u.same e).at L;rw[Ah,eb]at B;cases B;have iQ:(row n i).length<=1000:=Ch (jf n i) ht;have N:n.take (i+1)=n.take i++[n[i]]:=by rw[Cj,Ab L];rfl
  intro o O p s t;refine jN rfl (aQ.of et) (bw 2 xW<|bw 3 xW ?_);intro o O p s t;refine oQ<|cz fX<|bh dh<|cM eU T.len DY<|ah<|jb Ml Mk V3 1 (gD bI)<|ae 3 ⟨b.2,rfl,⟨_,au.of M⟩,λD2 y=>?_⟩;refine v7 (λz=>d.contains z) (cg<|(by omega)) M y (λo C p s t v v0 k R' h=>bw 4 Mt h) (λo C p s t z ys T' h=>?_) (λo C p s t z k R' h=>ae 4 h) ?_
  ·refine oQ (cz oH<|ae 4<|ae 1 ⟨a,_,rfl,.inl (au.of<|by rw[aw<|bz (e _ _ G) y];exact e _ _ G),rfl,my _,_,rfl,?_⟩);show T' (tu (.str z)<|d.map V.str) _;rwa[mw]
  ·have Õ:=bz m y;have A:=aS y<|.lst<|((row n i).filter λz=>d.contains z).map V.str;refine ax ⟨D2,_,rfl,.inl<|au.of az,aG ⟨_,_,rfl,rfl,(by show(0:Int)<2;decide),aG ⟨rfl,_,rfl,?_⟩⟩⟩;have ek:decide (V.int ((((((row n i).filter λz=>d.contains z).map V.str).length:Nat):Int)%2)=V.int 1) = !lH d n[i]:=by
    unfold lH;rw[Aa,er]
    by_cases U:(n[i].2.filter λz=>d.contains z).length%2=0
    ·rw[BR (λh=>by have:=V.int.inj h;omega),beq_iff_eq.mpr U];rfl
    ·rw[BW (BZ V.int<|(by omega)),beq_eq_false_iff_ne.mpr U];rfl
   show if decide (V.int ((((((row n i).filter λz=>d.contains z).map V.str).length:Nat):Int)%2)=V.int 1)=true then _ else _;rw[ek];refine jC (λc=>?_) λc=>?_
   ·intro o O p s t;refine ae 2 ⟨_,A _ _ m,?_,⟨_,_,rfl⟩,?_,fI (e.trans A) I⟩
    ·rw[Aa];refine cg<|Ch (Dz ..) ?_;rw[Br];omega
    ·rw[az,N,Cv,Al];have:[n[i]].filter (λr=>!lH d r)=[n[i]]:=by rw[RZ<|(by simpa using c)];rfl
     rw[this];rfl
   ·refine⟨⟨_,_,rfl⟩,?_,e.trans A⟩;rw[N,Cv];have:[n[i]].filter (λr=>!lH d r)=[]:=by rw[List.filter_cons_of_neg<|(by simpa using c)];rfl
    rw[this,Bp];exact A _ _ m
 ·rintro j k ⟨_,m,e⟩;rw[Aa,cq,Ca]at m;have e2:((n.filter λr=>!lH d r).map λr=>V.str r.1)=(((n.filter λr=>!lH d r).map (·.1)).map V.str):=by rw[Bs];rfl
  rw[e2]at m;refine ax ⟨D,_,rfl,au.of m,?_,λl zs Y hp _=>?_⟩
  ·rw[Aa];exact QT (Dz ..)<|(by omega)
  ·exact q l zs _ (e.trans<|aS Y _) (iR e Y) az hp
def lQ:ak ["one","other"] ["one","other"] (aW Iy):=cm
theorem Zl(F:bB K "summed" "summed" Iy f fd)(T:Txt mg):(aE P w K mg Z bK) 1 f fd ["one","other"] C0:=by
 refine F.gc lQ λJ H L Q E M h=>?_;obtain⟨a,b,i,j,rfl,x,y,m,q⟩:=h;refine bS (cM (Q7 rfl) T.sorted DR<|ah<|bh tf<|qk (Q6 rfl) T.nC JT<|ah<|ae 0<|ax ⟨a,i,rfl,au.of x,(by omega),λc A=>?_⟩);have n:=aS A<|bq P w c<|made i;refine qk (Q6 rfl) T.nC JT (ah<|ae 1<|ax ⟨b,j,rfl,au.of<|n _ _ y,(by omega),λd hd=>?_⟩);have o:=aS hd<|bq P w d<|made j;have N:=HL i;have O:=HL j;refine⟨c,d,made i,made j,rfl,rfl,o _ _ az,az,(by omega),(by omega),λe p B r C=>?_⟩;have s:=aS B<|bq P w e p;have t:∀z,z∈p↔(if z∈i then z∉j else z∈j):=λz=>by
  rw[C z];simp only[l0]
 have k:=aU r λz D=>by
  have:=(t z).mp D;rw[Am]
  by_cases c:z∈i
  ·exact .inl c
  ·rw[BL c]at this;exact .inr this
 rw[Ag]at k;refine ax ⟨e,p,rfl,az,(by omega),λl u m v G=>?_⟩;have I:=aS m<|Ls u;exact q l u _ (n.trans<|o.trans<|s.trans I) (n.free<|o.free<|s.free m) az G (v.nodup_iff.mpr r) λz=>by
  rw[v.mem_iff];exact t z
abbrev V5:Ð:=["rows"]
abbrev xX:Ð:=["rows","point","ties"]
def Mm:ak V5 ["rows"] (aW zW):=cm
def V6:xX.Nodup:=by decide +kernel
theorem F9(F:bB K "points_of" "points_of" zW f fd)(T:Txt mg):(aE P w K mg Z bK) 1 f fd ["rows"] Mg:=by
 refine F.gc Mm λB H C Q E G h=>?_;obtain⟨R,as,n,rfl,j,I,q⟩:=h;have y:=j.len;refine bS<|jb (aW zW) V5 xX 2 (gD bI)<|ae 0 ⟨R,rfl,⟨_,au.of j.lst⟩,λD l=>?_⟩;refine oY (xs:=as.map λa=>V.ref a.1) (λi c d=>(∃v1 o,c=[(some (.ref R))]++[v1,o])/\d D=some (Ls ((n.take i).map (·.1)))/\aj H d) ⟨⟨none,none,rfl⟩,az,aS l _⟩ ?_ ?_ ?_
 ·rintro i c d _ ⟨_,_,e⟩;exact au.of<|e _ _ j.lst
 ·rintro i x c d m ⟨⟨v1,o,rfl⟩,k,e⟩;have p:i<n.length:=by
   have:=(Ac.mp m).1;rw[Aa]at this;omega
  obtain⟨b,z,J,A,L,M⟩:=(j.same e).at p;rw[Ah,z]at m;cases m;intro r s t u v;refine jN rfl (aQ.of A) (bw 1 V6<|bw 2 V6 ?_);intro r s t u v;refine ja<|cv ?_;intro r s t u v;refine ae 1 ⟨_,k,?_,⟨_,_,rfl⟩,?_,fI e l⟩
  ·rw[Aa,Aa,Br];exact cg<|(by omega)
  ·rw[az,Cj,Ab p,Al];show _=some (HO.lst<|List.map V.str<|_++_);rw[Al];rfl
 ·rintro c d ⟨_,k,e⟩;rw[Aa,y,Ca]at k;exact q D d e l k
end
end E9
namespace E9
open PySem L2 Nt bE
open PyProof.Rows (sortedS)
def Mp:Sp:=λf H Q _=>∃R W as n d a,f=[.ref R,.ref W]/\ai H R as n/\(n.map (·.1)).Nodup/\n.length<=1000/\(ag n).length<=1000/\H W=some (.lst<|(d.map V.ref))/\dY n H d a/\(∀e∈a,e∈ends n)/\a.length<=1000/\(∀l:Ð,l.Nodup->(∀z∈l,z∈a.map (aD n))->l.length<64) /\
 ∀l b c,aj H c->H l=none->c l=some (Ls b)->b8 b->(∀z,z∈b↔(a.map<|aD n).count z=1)->Q (.ref l) c
theorem V7(L:Ð):(L.filter λz=>decide (L.count z=1)).Nodup:=by
 rw[Hg];intro z
 by_cases h:L.count z=1
 ·rw[List.count_filter<|(by simpa using h)];omega
 ·rw[Fg]
  ·omega
  ·intro a;exact h<|BX (Bf.mp a).2
theorem B9(L:Ð)(z:Str):z∈(L.filter λz=>decide (L.count z=1))↔L.count z=1:=by
 rw[Bf,CN];exact⟨λh=>h.2,λh=>⟨Ds.mp (by omega),h⟩⟩
variable{Z:Heap}{mg:Ñ}{K:aa}{fd:FuncData}
section
variable{P:Program}{w:World}
abbrev Mq:Ð:=["rows","walker","names","gone"]
abbrev xY:Ð:=["rows","walker","names","gone","end"]
abbrev xZ:Ð:=["rows","walker","names","gone","tie"]
def x4:ak Mq ["rows","walker"] (aW vY):=cm
def JJ:xY.Nodup:=by decide +kernel
def gz:xZ.Nodup:=by decide +kernel
theorem OI{f:Addr}(F:bB K "core_of" "core_of" vY f fd)(T:Txt mg)
  (GT:(aP P w K mg Z) 2 "ties_by_end" ["rows"] lz):(aE P w K mg Z bK) 3 f fd ["rows","walker"] Mp:=by
 refine F.gc x4 λb0 H vs Q E G h=>?_;obtain⟨R,W,as,n,I,a,rfl,hR,hN,hn,dZ,hW,J,wm,Õ,M,q⟩:=h;have nd:=x4.nd;have eX:=G.u1;have hl:=J.1;refine aZ 2 nd<|bC GT G<|ah<|ae 0<|ax ⟨R,as,n,rfl,hR,hN,hn,dZ,λd Y H1 u Jq ed qB=>?_⟩;have N:=u _ _ hW;have y:=J.same u;refine aZ 3 nd<|jb (aW vY) Mq xY 1 (gD bI)<|ae 1 ⟨W,rfl,⟨_,au.of N⟩,λD O=>?_⟩;refine oY (xs:=(I.map V.ref)) (λi b c=>(∃v,b=[(some (.ref R)),(some (.ref W)),(some (.ref d)),none]++[v])/\aj H1 c/\c D=some (Ls<|(a.take i).map<|aD n)) ⟨⟨none,rfl⟩,aS O _,az⟩ ?_ ?_ ?_
 ·rintro i b c _ ⟨_,j,_⟩;exact au.of<|j _ _ N
 ·rintro i x b c U ⟨⟨v,rfl⟩,j,m⟩;rw[Ah,Az]at U;obtain⟨t,ht,rfl⟩:=U;have hi:i<a.length:=by have:=(Ac.mp ht).1;omega
  have r:=Ab hi;have mB:a.take (i+1)=a.take i++[a[i]]:=by rw[Cj,r];rfl
  generalize mF:a[i]=e at r mB;have lq:=j _ _<|y.2 i t e ht r;have qY:=wm e<|Ao r;obtain⟨z,s⟩:=af.mp qY;have nV:=eY s;intro o C æ ç p;refine bw 4 JJ ?_;intro o C æ ç p;refine ja ?_;rw[BP rfl];intro o C æ ç p;refine gJ eX<|ae 2<|ae 4 ⟨d,.str z,rfl,(by rw[<-qB e z s];exact bb.t (k:=ff n e) (j _ _ ed) lq),_,m,?_,⟨_,rfl⟩,fI j O,?_⟩
  ·rw[Aa,Aa,Br];exact cg<|(by omega)
  ·rw[az,mB,Al];show some (HO.lst<|((a.take i).map<|aD n).map V.str++[V.str z])=some (HO.lst<|((a.take i).map (aD n)++[aD n e]).map V.str);rw[Al];show some (HO.lst<|((a.take i).map<|aD n).map V.str++[V.str z])=some (HO.lst<|((a.take i).map<|aD n).map V.str++[V.str<|aD n e]);rw[nV]
 rintro b c ⟨_,j,m⟩;have lJ:a.take ((I.map V.ref)).length=a:=Cs (by rw[Aa];omega);rw[lJ]at m;generalize A:a.map (aD n)=L at m M q;have UQ:L.length<=1000:=by rwa[<-A,Aa]
 refine bS<|cM zG T.sorted DR<|ah<|jb (aW vY) Mq xZ 1 (gD bI)<|ae 3 ⟨D,rfl,⟨_,au.of m⟩,λD3 B=>?_⟩;have n3:D≠D3:=bz m B;refine v7 (λz=>decide (L.count z=1)) (cg<|(by omega)) m B (λo C s0 H0 p v v0 c R' h=>bw 4 gz h) (λo C s0 H0 p z zs T' h=>oQ<|cz fX<|Ie FN PySem.F.slot_list_count PySem.F.type_list_count fy<|ae 3 (v:= .ref D) ⟨Or.inl ⟨rfl,_,au.of<|by rwa[aw n3]⟩,ae 4 ⟨D,L,z,rfl,rfl,au.of (by rwa[aw n3]),aG ⟨rfl,_,rfl,?_⟩⟩⟩) (λo C s0 H0 p z c R' h=>ae 4 h) ?_
 ·have ek:decide (V.int (L.count z:Int)=V.int 1)=decide (L.count z=1):=decide_eq_decide.mpr ⟨λk=>by have:=V.int.inj k;omega,λk=>by rw[k];rfl⟩;show T' (decide (V.int (L.count z:Int)=V.int 1)) _;rwa[ek]
 refine ax ⟨D3,_,rfl,au.of az,M _ (V7 L) λz s=>(Bf.mp s).1,λl ss kF jM nw=>?_⟩;have s3:=u.trans<|j.trans<|aS B<|Ls<|L.filter λz=>decide (L.count z=1);exact q l ss _ (s3.trans<|aS kF _) (s3.free kF) az (wD nw<|jM.nodup_iff.mpr<|V7 L) λz=>by rw[jM.mem_iff];exact B9 L z
end
end E9
namespace L2
open PySem PySem.Spec PyProof.Rows bE
end L2
namespace L2
open PySem PySem.Spec PyProof.Rows
end L2
namespace bP
open PySem SetTable
def og(mask:Nat)(p:Probe):Probe:=if p.more>0 then{p with j:=p.j+1,more:=p.more-1} else
 {p with j:=(leap mask p.i p.perturb).1,more:=runEnd mask (leap mask p.i p.perturb).1-(leap mask p.i p.perturb).1,i:=(leap mask p.i p.perturb).1,perturb:=(leap mask p.i p.perturb).2}
def P0(mask i q:Nat):Probe:={j:=i,more:=runEnd mask i-i,i:=i,perturb:=q,dummy:=none}
def gP(mask:Nat)(p:Probe):Nat->Probe
 |0=>p
 |n+1=>og mask<|gP mask p n
def pr(mask:Nat)(h:Int)(n:Nat):Probe:=gP mask (P0 mask (bits h%(mask+1))<|bits h) n
def V9(t:SetTable)(h:Int):t.probeStart h=pr t.mask h 0:=rfl
theorem x6(mask:Nat)(p:Probe)(a:Nat):∀b,gP mask p (a+b)=gP mask (gP mask p a) b
 |0=>rfl
 |b+1=>by
  show og mask (gP mask p<|a+b)=og mask (gP mask (gP mask p a) b);rw[x6 mask p a b]
theorem uB(mask i q:Nat):∀k,k<=runEnd mask i-i->gP mask (P0 mask i q) k={j:=i+k,more:=runEnd mask i-i-k,i:=i,perturb:=q,dummy:=none}
 |0,_=>rfl
 |k+1,h=>by
  show og mask (gP mask (P0 mask i q) k)=_;rw[uB mask i q k<|(by omega)];unfold og;rw[BP<|by show runEnd mask i-i-k>0;omega];show(⟨i+k+1,runEnd mask i-i-k-1,i,q,none⟩:Probe)=_
  congr 1
theorem C2(mask i q:Nat):gP mask (P0 mask i q) (runEnd mask i-i+1)=P0 mask (leap mask i q).1 (leap mask i q).2:=by
 show og mask (gP mask (P0 mask i q)<|runEnd mask i-i)=_;rw[uB mask i q _<|An _];unfold og;rw[BL<|by show ¬ runEnd mask i-i-(runEnd mask i-i)>0;omega];rfl
theorem IF(mask i:Nat):runEnd mask i-i<=9:=by unfold runEnd;split<;>omega
variable{mask i:Nat}
theorem k9(h:i<=mask):runEnd mask i<=mask:=by unfold runEnd;split<;>omega
theorem V'{mask j:Nat}:∀a i q,j∈qv mask a i q->∃n,n<10*a/\(gP mask (P0 mask i q) n).j=j
 |0,_,_,h=>by cases h
 |a+1,i,q,h=>by
  obtain e|h:=Ai.mp h
  ·exact⟨0,(by omega),e.symm⟩
  ·obtain⟨n,b,e⟩:=V' a _ _ h;refine⟨runEnd mask i-i+1+n,by have:=IF mask i;omega,?_⟩;rwa[x6,C2]
variable{j:Nat}
def kX(a:r9<|mask+1)(h:Int)(b:j<mask+1):∃n,n<10*turns mask/\(pr mask h n).j=j:=
 V' _ _ _ (Ql a (Gm _<|Ey _) (Qo h) b)
theorem gd:∀n i q,i<=mask->(gP mask (P0 mask i q) n).j<=mask:=by
 intro n
 induction n using Nat.strongRecOn with
 |_ n a=>
  intro i q b
  by_cases c:n<=runEnd mask i-i
  ·rw[uB mask i q n c];have:=k9 b;show i+n<=mask;omega
  ·have e:n=runEnd mask i-i+1+(n-(runEnd mask i-i+1)):=(by omega)
   rw[e,x6,C2];exact a _ (by omega) _ _<|Nat.le_of_lt_succ Qj
def Wa(mask:Nat)(h:Int)(n:Nat):(pr mask h n).j<=mask:=gd n _ _<|Nat.le_of_lt_succ<|Gm _<|Ey _
def re(mask:Nat)(a:Nat->Prop)(h:Int)(j:Nat):Prop:=∃n,(pr mask h n).j=j/\∀m,m<n->a (pr mask h m).j
def re.mono{a b:Nat->Prop}{h:Int}(r:re mask a h j)(k:∀i,i<=mask->a i->b i):re mask b h j:=
 let ⟨n,e,f⟩:=r;⟨n,e,λm c=>k _ (Wa _ _ _)<|f m c⟩
theorem Wb{mask:Nat}{owner:g6}:∀{a i q j},layClean.free mask owner a i q=some j->∃n,(gP mask (P0 mask i q) n).j=j/\∀m,m<n->wb owner (gP mask (P0 mask i q) m).j=false
 |0,_,_,_,h=>by cases h
 |a+1,i,q,j,h=>by
  unfold layClean.free at h
  split at h
  ·rename_i k b;cases h;rw[List.find?_range_eq_some]at b;have f:k<=runEnd mask i-i:=by have:=Bo.mp b.2.1;have:=Hv mask i;omega
   refine⟨k,by rw[uB mask i q k f],λm d=>?_⟩;rw[uB mask i q m<|(by omega)];have:=b.2.2 m d
   simpa[wb]using this
  ·rename_i b;obtain⟨n,e,g⟩:=Wb h;refine⟨runEnd mask i-i+1+n,by rwa[x6,C2],λm d=>?_⟩
   by_cases c:m<=runEnd mask i-i
   ·rw[uB mask i q m c];have:=Fh.mp b m (Bo.mpr<|by have:=Hv mask i;omega);exact El.mpr this
   ·have l:m=runEnd mask i-i+1+(m-(runEnd mask i-i+1)):=(by omega)
    rw[l,x6,C2];exact g _<|(by omega)
variable{owner:g6}
def Wc{k:Nat}(h:wb owner i=false):wb (owner.setIfInBounds j<|some k) i=false:=by
 unfold wb at h ⊢;rw[Db]at h ⊢;rw[Fn]
 split
 ·split<;>rfl
 ·exact h
def oh(mask:Nat)(a:List Int)(owner:g6):Prop:=∀v j x,owner[j]?=some (some v)->a[v]?=some x->re mask (λi=>wb owner i=false) x j
theorem Wd{mask:Nat}(f:r9<|mask+1)(all:List Int):∀k done owner,all=done++k->ir (mask+1) owner done.length->oh mask all owner->all.length<mask+1+1 ->
  ∃b,k.foldl (oR mask) (some (owner,done.length))=some (b,all.length)/\ir (mask+1) b all.length/\oh mask all b
 |[],done,owner,e,L,R,_=>by
  rw[Bp]at e;subst e;exact⟨owner,rfl,L,R⟩
 |h :: r,done,owner,e,L,R,p=>by
  have B:all.length=done.length+(r.length+1):=by rw[e,Ag,As]
  obtain⟨j,l,q⟩:=L.free f (by omega) h;have C:=L.put q;have s:oh mask all (owner.setIfInBounds j<|some done.length):=by
   intro v i x a d;rw[Fn]at a
   by_cases c:j=i
   ·subst c;rw[BP rfl]at a
    split at a
    ·cases a;rw[e,Bd<|An _,RQ]at d;cases d;obtain⟨n,t,u⟩:=Wb l;exact⟨n,t,λm w=>Wc<|u m w⟩
    ·cases a
   ·rw[BL c]at a;exact(R v i x a d).mono λ_ _=>Wc
  obtain⟨y,o,z,A⟩:=Wd f all r (done++[h]) (owner.setIfInBounds j<|some done.length) (by rw[e,Ar];rfl) (by rwa[Ag]) s p;refine⟨y,?_,z,A⟩;rw[Dh,show oR mask (some (owner,done.length)) h=some (owner.setIfInBounds j<|some done.length,done.length+1) by unfold oR;simp[l]];rw[Ag]at o;exact o
def tw(c:r9<|mask+1)(a:Array Int)(d:a.size<mask+1+1):∃owner,layClean mask a=some owner/\ir (mask+1) owner a.size/\oh mask a.toList owner:=by
 obtain⟨f,e,L,R⟩:=Wd c a.toList a.toList [] (Array.replicate (mask+1) none) rfl (ir.start<|mask+1) (λv j x b=>by
  rw[Gg]at b
  split at b<;>cases b) (by simpa using d)
 refine⟨f,?_,(by simpa using L),R⟩;have h:layClean mask a=(a.foldl (oR mask)<|some (Array.replicate (mask+1) none,0)).map (·.1):=rfl;rw[h,<-Array.foldl_toList];have i:([]:List Int).length=0:=rfl;rw[i]at e;rw[e];rfl
variable{xs:Array Nat}
theorem ti(s:xs.toList.Pairwise (· < ·)):∀a lo b,b<=xs.size->lo<=b->b-lo<=a->(∀i v,i<lo->xs[i]?=some v->v<j)->(∀i v,b<=i->xs[i]?=some v->j<=v) ->
  (below.go xs j a lo b)<=xs.size/\(∀i v,i<below.go xs j a lo b->xs[i]?=some v->v<j)/\(∀i v,below.go xs j a lo b<=i->xs[i]?=some v->j<=v):=by
 have mono:∀{i k:Nat}{u v:Nat},i<k->xs[i]?=some u->xs[k]?=some v->u<v:=λ{i k u v}t b q=>by
  rw[<-Bj]at b q;obtain⟨h,w⟩:=Ac.mp b;obtain⟨o,x⟩:=Ac.mp q;rw[<-w,<-x];exact Bc.mp s i k h o t
 intro a
 induction a with
 |zero=>
  intro lo b h o y m n;have e:lo=b:=(by omega)
  subst e;exact⟨h,m,n⟩
 |succ a r=>
  intro lo b h o y m n;unfold below.go
  by_cases c:lo<b
  ·rw[BP c];have z:(lo+b)/2<xs.size:=(by omega)
   have l:=Ce z;have p:xs.getD ((lo+b)/2) j=xs[(lo+b)/2]:=by rw[Db,l];rfl
   simp only;rw[p]
   by_cases d:xs[(lo+b)/2]<j
   ·rw[BP d];refine r _ _ h (by omega) (by omega) (λi v A f=>?_) n
    by_cases k:i=(lo+b)/2
    ·subst k;rw[l]at f;cases f;exact d
    ·exact VL (mono (by omega) f l) d
   ·rw[BL d];refine r _ _ (by omega) (by omega) (by omega) m λi v A f=>?_
    by_cases k:i=(lo+b)/2
    ·subst k;rw[l]at f;cases f;omega
    ·have:=mono (show(lo+b)/2<i by omega) l f;omega
  ·rw[BL c];have e:lo=b:=(by omega)
   subst e;exact⟨h,m,n⟩
theorem Wg(b:xs.toList.Pairwise (· < ·))(j:Nat):below xs j<=xs.size/\(∀i v,i<below xs j->xs[i]?=some v->v<j)/\(∀i v,below xs j<=i->xs[i]?=some v->j<=v):=
 ti b xs.size 0 xs.size (An _) (Bx _) (by omega) (λi v h=>absurd h<|Dj _) λi v h a=>by
  rw[Dv h]at a;cases a
variable{p:Nat->Prop}
theorem oC:∀n,p n->∃m,m<=n/\p m/\∀k,k<m->¬ p k:=by
 intro n
 induction n using Nat.strongRecOn with
 |_ n d=>
  intro h
  by_cases c:∃k,k<n/\p k
  ·obtain⟨k,a,b⟩:=c;obtain⟨m,f,e⟩:=d k a b;exact⟨m,(by omega),e⟩
  ·exact⟨n,An _,h,λk a b=>c ⟨k,a,b⟩⟩
abbrev Ze:=Nat×(Int×Value)
structure Wf(t:SetTable)(es:Array<|Int×Value)(Z:List Ze):Prop where
 place:t.place.toList=Z.map (·.1)
 ents:es.toList=Z.map (·.2)
 gL:Z.Pairwise λa b=>a.1<b.1
 le:∀z∈Z,z.1<=t.mask
 few:Z.length<=t.mask
 Mu:t.dummies=#[]
 pow:r9<|t.mask+1
 Wh:∀z∈Z,re t.mask (λj=>j∈Z.map (·.1)) z.2.1 z.1
variable{es:Array (Int×Value)}{z:Ze}{wanted:Nat}
section
variable{t:SetTable}{Z:List Ze}
def Wf.sorted(W:Wf t es Z):t.place.toList.Pairwise (· < ·):=by
 rw[W.place,Dr];exact W.gL
def Wf.len(W:Wf t es Z):es.size=Z.length:=by rw[<-Bu,W.ents,Aa]
def Wf.x9(W:Wf t es Z):t.place.size=Z.length:=by rw[<-Bu,W.place,Aa]
def Wf.at(W:Wf t es Z)(h:Z[i]?=some z):t.place[i]?=some z.1/\es[i]?=some z.2:=by
 rw[<-Bj,<-Bj,W.place,W.ents,Ah,Ah,h];exact⟨rfl,rfl⟩
def Wf.of(W:Wf t es Z){v:Nat}(h:t.place[i]?=some v):∃z,Z[i]?=some z/\z.1=v:=by
 rwa[<-Bj,W.place,Ah,Az]at h
theorem Wf.inj(W:Wf t es Z){k:Nat}{y:Ze}(h:Z[i]?=some y)(j:Z[k]?=some z)(e:y.1=z.1):i=k:=by
 obtain⟨a,b⟩:=Ac.mp h;obtain⟨d,f⟩:=Ac.mp j
 obtain c|c|c:=Em i k
 ·have:=Bc.mp W.gL i k a d c;rw[b,f]at this;omega
 ·exact c
 ·have:=Bc.mp W.gL k i d a c;rw[b,f]at this;omega
theorem Wf.iX(W:Wf t es Z)(h:Z[i]?=some z):below t.place z.1=i:=by
 obtain⟨l,b,d⟩:=Wg W.sorted z.1;have e:=(W.at h).1;have m:¬ i<below t.place z.1:=λc=>De _<|b i _ c e
 obtain c|c:=Da (below t.place z.1) i
 ·have f:=(Ac.mp h).1;have a:below t.place z.1<Z.length:=(by omega)
  have j:=Ab a;have n:=d _ _ (An _) (W.at j).1;have k:=Bc.mp W.gL _ i a f c;rw[(Ac.mp h).2]at k;omega
 ·omega
def Wf.fO(W:Wf t es Z)(h:Z[i]?=some z):t.slot z.1=.live i:=by
 unfold slot;simp only;rw[W.iX h,(W.at h).1,BP<|FZ _]
def Wf.iY(W:Wf t es Z)(h:j∉Z.map (·.1)):t.slot j=.empty:=by
 unfold slot;simp only;have a:(t.place[below t.place j]? == some j)=false:=by
  rw[beq_eq_false_iff_ne];intro e;obtain⟨z,b,c⟩:=W.of e;exact h<|Ak.mpr ⟨z,Ao b,c⟩
 rw[BL (by rw[a];exact Aw),W.Mu];rfl
theorem Wf.fits(W:Wf t es Z):t.fits es.size=true:=by
 unfold SetTable.fits fill;have:=W.few;rw[W.len,W.x9,W.Mu];simp only[FZ,Gh,DQ];show Z.length+0<=t.mask;omega
structure zw(mask:Nat)(Z:List Ze)(h:Int)(N:Nat):Prop where
 out:(pr mask h N).j∉Z.map (·.1)
 Wi:∀m,m<N->(pr mask h m).j∈Z.map (·.1)
 lt:N<10*turns mask
theorem Wf.stop(W:Wf t es Z)(h:Int):∃N,zw t.mask Z h N:=by
 have:∃j,j<t.mask+1/\j∉Z.map (·.1):=by
  refine CQ λb=>?_;have all:=λj a=>CQ λk=>b ⟨j,Bo.mp a,k⟩;have:=(Ga).length_le_of_subset all;rw[Dq,Aa]at this;have:=W.few;omega
 obtain⟨j,a,i⟩:=this;obtain⟨n,b,e⟩:=kX W.pow h a;obtain⟨N,l,c,d⟩:=oC (p:=λn=>(pr t.mask h n).j∉Z.map (·.1)) n (by rwa[e]);exact⟨N,c,λm f=>CQ λk=>d m f k,(by omega)⟩
theorem Mv{mask:Nat}{p:Probe}(h:p.dummy=none):∀n,(gP mask p n).dummy=none
 |0=>h
 |n+1=>by
  show(og mask<|gP mask p n).dummy=none;unfold og
  split
  ·exact Mv h n
  ·exact Mv h n
def pp(mask:Nat)(h:Int)(n:Nat):(pr mask h n).dummy=none:=Mv rfl n
theorem Wf.go(W:Wf t es Z){hashAt:Nat->Int}(u:∀i e,es[i]?=some e->hashAt i=e.1){h:Int}{N:Nat}(S:zw t.mask Z h N):∀a m,m<=N->N-m<a ->
  (∃b i z,m<=b/\b<N/\Z[i]?=some z/\z.1=(pr t.mask h b).j/\z.2.1=h/\(∀k,m<=k->k<b->∀z∈Z,z.1=(pr t.mask h k).j->z.2.1≠h)/\probe.go t hashAt h a (pr t.mask h m)=some (.candidate (pr t.mask h b).j i<|pr t.mask h<|b+1)) \/
  ((∀k,m<=k->k<N->∀z∈Z,z.1=(pr t.mask h k).j->z.2.1≠h)/\probe.go t hashAt h a (pr t.mask h m)=some (.empty (pr t.mask h N).j none))
 |0,m,_,v=>absurd v<|Dj _
 |a+1,m,J,v=>by
  unfold probe.go
  by_cases c:m=N
  ·subst c;refine .inr ⟨λk r n=>(by omega),?_⟩;rw[W.iY S.out];simp only;rw[pp]
  ·obtain⟨z,B,q⟩:=Ak.mp (S.Wi m<|(by omega));obtain⟨i,j⟩:=Be B;have f:∀y∈Z,y.1=(pr t.mask h m).j->y=z:=λy C e=>by
    obtain⟨k,w⟩:=Be C;have:=W.inj w j (by rw[e,q]);subst this;rw[w]at j;exact Option.some.inj j
   rw[<-q,W.fO j];simp only;rw[u i _ (W.at j).2]
   by_cases d:z.2.1=h
   ·rw[BP<|by rw[d];exact FZ _];exact .inl ⟨m,i,z,An _,(by omega),j,q,d,λk r n=>(by omega),by rw[q];rfl⟩
   ·rw[BL<|by rwa[HY]]
    obtain⟨b,k,y,A,s,D,E,G,H,I⟩|⟨A,s⟩:=W.go u S a (m+1) (by omega) (by omega)
    ·refine .inl ⟨b,k,y,(by omega),s,D,E,G,λl r n x o p=>?_,I⟩
     by_cases e:l=m
     ·subst e;rwa[f x o p]
     ·exact H l (by omega) n x o p
    ·refine .inr ⟨λl r n x o p=>?_,s⟩
     by_cases e:l=m
     ·subst e;rwa[f x o p]
     ·exact A l (by omega) n x o p
theorem Wf.put(W:Wf t es Z){h:Int}{x:Value}{N:Nat}(S:zw t.mask Z h N){t':SetTable}(e1:t'.mask=t.mask)(e2:t'.place=(t.put (pr t.mask h N).j).1.place)(B:t'.dummies=#[])(G:Z.length+1<=t.mask):
  ∃o,Wf t' (insertAt es (t.put (pr t.mask h N).j).2 (h,x)) o/\o.Perm (((pr t.mask h N).j,(h,x)):: Z):=by
 obtain⟨C,m,n⟩:=Wg W.sorted (pr t.mask h N).j;have q:(t.put (pr t.mask h N).j).2=below t.place (pr t.mask h N).j:=rfl;have s:(t.put (pr t.mask h N).j).1.place=insertAt t.place (below t.place (pr t.mask h N).j) (pr t.mask h N).j:=rfl;rw[s]at e2;rw[q];generalize l:below t.place (pr t.mask h N).j=p at C m n e2;have D:=Wa t.mask h N;have u:=S.out;have E:=S.Wi;have v:re t.mask (λj=>j∈Z.map (·.1)) h (pr t.mask h N).j:=⟨N,rfl,E⟩;clear l s q;generalize (pr t.mask h N).j=j at m n e2 D u v ⊢;have pm:(Z.take p++(j,(h,x)):: Z.drop p).Perm ((j,(h,x)):: Z):=by
  refine List.perm_middle.trans ?_;rw[Cw]
 refine⟨Z.take p++(j,(h,x)):: Z.drop p,⟨?_,?_,?_,λz d=>?_,?_,B,by rw[e1];exact W.pow,λz d=>?_⟩,pm⟩
 ·rw[e2,toList_insertAt,W.place,Al,Ba,Hn,Ho]
 ·rw[toList_insertAt,W.ents,Al,Ba,Hn,Ho]
 ·rw[Fv];have w:∀a∈Z.take p,a.1<j:=λa f=>by
   obtain⟨i,c⟩:=Be f;rw[List.getElem?_take]at c
   split at c
   ·exact m i _ (by assumption) (W.at c).1
   ·cases c
  have y:∀a∈Z.drop p,j<a.1:=λa f=>by
   obtain⟨i,c⟩:=Be f;rw[Gn]at c;have:=n (p+i) _ (by omega) (W.at c).1;have ne:a.1≠j:=λe=>u (by rw[<-e];exact Ak.mpr ⟨a,Ao c,rfl⟩);omega
  refine⟨W.gL.sublist<|List.take_sublist _ _,Ct.mpr ⟨y,W.gL.sublist<|List.drop_sublist _ _⟩,λa f b l=>?_⟩
  obtain e|l:=Ai.mp l
  ·rw[e];exact w a f
  ·exact VL (w a f)<|y b l
 ·rw[e1]
  obtain e|d:=Ai.mp (pm.mem_iff.mp d)
  ·rwa[e]
  ·exact W.le z d
 ·rwa[pm.length_eq,e1]
 ·have up:∀{A:Int}{k:Nat},re t.mask (λj=>j∈Z.map (·.1)) A k->re t'.mask (λi=>i∈(Z.take p++(j,(h,x)):: Z.drop p).map (·.1)) A k:=λr=>by
   rw[e1];refine r.mono λi _ c=>?_;rw[(pm.map (·.1)).mem_iff];exact Af _ c
  obtain e|d:=Ai.mp (pm.mem_iff.mp d)
  ·rw[e];exact up v
  ·exact up<|W.Wh z d
def zk(m:Nat)(owner:g6):(jp m owner).Pairwise (λa b=>a.1<b.1):=by
 unfold jp;rw[List.pairwise_filterMap];refine List.Pairwise.imp (λ{a b}e x c y d=>?_) List.pairwise_lt_range;rw[Az]at c d;obtain⟨u,_,rfl⟩:=c;obtain⟨v,_,rfl⟩:=d;exact e
theorem LP{t:SetTable}(x:r9<|sizeAbove wanted)(b:es.size<=sizeAbove wanted-1):
  ∃f order Z,t.relaid (es.map (·.1)) wanted=some (f,order)/\(order.filterMap (es[·]?)).size=es.size/\Wf f (order.filterMap (es[·]?)) Z/\(Z.map (·.2)).Perm es.toList/\f.mask=sizeAbove wanted-1:=by
 have a:8<=sizeAbove wanted:=by obtain h|h|h|h|h|h:=x<;>omega
 have em:sizeAbove wanted-1+1=sizeAbove wanted:=(by omega)
 obtain⟨o,e,L,R⟩:=tw (by rwa[em]) (es.map (·.1)) (by rw[Array.size_map];omega);rw[Array.size_map]at L;rw[show t.relaid (es.map (·.1)) wanted=laid (sizeAbove wanted-1) t.finger (t.movedTo<|sizeAbove wanted-1) t.led t.plain (es.map (·.1))from rfl];generalize sizeAbove wanted-1=mask at e L R em b ⊢;have j:∀p∈jp (mask+1) o,p.2<es.size/\p.1<mask+1/\o[p.1]?=some (some p.2):=λp a=>by
  have:=c7.mp a;exact⟨L.lt _ _ this.2,this.1,this.2⟩
 have y:∀l:List<|Nat×Nat,(∀p∈l,p.2<es.size)->(l.map (·.2)).filterMap (es[·]?)=l.map λp=>(es[p.2]?).getD (0,.none):=λl=>by
  induction l with
  |nil=>intro _;rfl
  |cons p r A=>
   intro b;rw[Ba,Ba,Eh,Ce<|b p Ae,A λq B=>b q<|Af _ B];rfl
 have s:(((jp (mask+1) o).map (·.2)).toArray.filterMap (es[·]?)).toList=(jp (mask+1) o).map λp=>(es[p.2]?).getD (0,.none):=by
  rw[TQ];exact y _ λp a=>(j p a).1
 have k:(((jp (mask+1) o).map (·.2)).toArray.filterMap (es[·]?)).size=es.size:=by
  rw[<-Bu,s,Aa,L.length]
 refine⟨_,_,(jp (mask+1) o).map λp=>(p.1,(es[p.2]?).getD (0,.none)),by unfold laid;rw[e];rfl,k,⟨?_,?_,?_,λz m=>?_,?_,rfl,by show r9 (mask+1);rwa[em],λz m=>?_⟩,?_,rfl⟩
 ·show(jp (mask+1) o).map (·.1)=_;rw[Bs];rfl
 ·rw[s,Bs];rfl
 ·rw[Dr];exact zk _ _
 ·obtain⟨p,a,rfl⟩:=Ak.mp m;show p.1<=mask;have:=(j p a).2.1;omega
 ·rwa[Aa,L.length]
 ·obtain⟨p,a,rfl⟩:=Ak.mp m;obtain⟨u,I,C⟩:=j p a;have D:(es.map (·.1)).toList[p.2]?=some (es[p.2]).1:=by rw[Bj,Array.getElem?_map,Ce u];rfl
  have E:(es[p.2]?).getD (0,.none)=es[p.2]:=by rw[Ce u];rfl
  show re mask _ ((es[p.2]?).getD (0,.none)).1 p.1;rw[E];refine(R p.2 p.1 _ C D).mono λi J G=>?_;rw[Bs];have n:i<o.size:=by rw[L.size];omega
  have d:=Ce n;cases w:o[i] with
  |none=>
   rw[w]at d;have:=uu.mpr d;rw[G]at this;cases this
  |some v=>
   rw[w]at d;exact Ak.mpr ⟨(i,v),c7.mpr ⟨(by omega),d⟩,rfl⟩
 ·rw[Bs];have H:((jp (mask+1) o).map λp=>(es[p.2]?).getD (0,.none))=((jp (mask+1) o).map (·.2)).map λv=>(es[v]?).getD (0,.none):=by rw[Bs];rfl
  show((jp (mask+1) o).map λp=>(es[p.2]?).getD (0,.none)).Perm _;rw[H];refine(L.perm.map _).trans<|List.Perm.of_eq ?_;apply Dy;intro i;rw[Ah]
  by_cases c:i<es.size
  ·rw[Dx c];show some ((es[i]?).getD (0,.none))=es.toList[i]?;rw[Bj,Ce c];rfl
  ·rw[Bg (by rw[Dq];omega),Bj,Dv<|(by omega)];rfl
end
variable{w:World}{U:Program}{s:Shared}{E:Í}{A:Around}{Q:Bool->Shared->Prop}{m:Nat}
section
variable{K:Type} [DecidableEq K]
def ent(knd:HeapKind U w K)(y:Nat×K×Addr):Ze:=(y.1,(knd.hash y.2.1,Value.ref y.2.2))
def ya(knd:HeapKind U w K):Prop:=∀{A}{E}{s}{k}{a}{Q},knd.is s.heap k a->Q false s->(ba U w A) (ofAClassStatement 8<|.ref a) Q E s
variable{a b:Addr}{knd:HeapKind U w K}{k:K}{ý:List (Nat×K×Addr)}
def q77(f:ya knd)(i:knd.is s.heap k b)(l:Ò)(o:∀v∈l,∃d c,v=Value.ref c/\knd.is s.heap d c)(q:Q false s):(ba U w A) (searchCouldBeSeen (.ref b) l) Q E s:=by
 unfold searchCouldBeSeen;refine BJ<|NZ _ (λa r e=>r.1=none/\e=s/\∀v∈a,∃d c,v=Value.ref c/\knd.is s.heap d c) _ ?_ ?_ l _ ⟨rfl,rfl,o⟩
 ·rintro v a r e ⟨p,rfl,j⟩;obtain⟨d,c,rfl,m⟩:=j v Ae;have n:=λv h=>j v<|Af _ h
  dsimp only
  split
  ·exact BK ⟨rfl,rfl,n⟩
  ·refine BJ<|knd.quiet i ?_;simp only[Dm,Aq,CP];refine BJ<|knd.quiet m ?_;simp only[Dm,Aq,CP];refine BJ<|f i ?_;simp only[Aq,CP];refine BJ<|f m ?_;simp only[Aq,CP];exact BK ⟨rfl,rfl,n⟩
 ·rintro ⟨_,_⟩ e ⟨rfl,rfl,_⟩;exact BK q
theorem BQ(h:r9<|m+1):(m%2 == 0)=false:=by
 rw[beq_eq_false_iff_ne]
 obtain h|h|h|h|h|h:=h<;>omega
theorem Mw{adding:Bool}{o:Obj}{es:Array (Int×Value)}{ep:Nat}{t:SetTable}{N:Nat}{Q:SetFound->Shared->Prop}(ú:ya knd)(hA:knd.room A)(O:s.heap.get? a=some o)(hd:o.data=.set es ep t)(W:Wf t es<|ý.map<|ent knd)
  (B:∀y∈ý,knd.is s.heap y.2.1 y.2.2) (T:knd.is s.heap k b) (S:zw t.mask (ý.map<|ent knd) (knd.hash k) N)
  (k0:k∉ý.map (·.2.1)->Q (.free (pr t.mask (knd.hash k) N).j false) s) (k1:∀oi,k∈ý.map (·.2.1)->(adding=false->oi.isSome=true)->Q (.there oi) s):
  ∀h m f,f.getD (t.probeStart<|knd.hash k)=pr t.mask (knd.hash k) m->m<=N->N-m<h->(∀l,l<m->∀y∈ý,y.1=(pr t.mask (knd.hash k) l).j->y.2.1≠k) ->
   (ba U w A) (setSearchFrom a (.ref b) (knd.hash k) adding h f) Q E s
 |0,m,f,_,_,hf,_=>absurd hf<|Dj _
 |h+1,m,f,hs,Y,hf,hn=>by
  unfold setSearchFrom;refine BJ<|CG O hd W.fits ?_
  dsimp only
  rw[hs];have gw:t.gaveWay=false:=BQ W.pow;rw[gw];simp only[Aq,CP];have hl:=S.lt;have G:=W.go (hashAt:=λi=>(es[i]?.map (·.1)).getD 0) (λi e I=>by show(es[i]?.map (·.1)).getD 0=e.1;rw[I];rfl) S (10*turns t.mask) m Y<|(by omega)
  split
  ·rename_i met yb
   obtain⟨p,i,z,J,C,a3,a4,a5,a6,a7⟩|⟨J,C⟩:=G
   ·have r:=Option.some.inj<|yb.symm.trans a7;subst r;rw[Ah,Az]at a3;obtain⟨y,D,rfl⟩:=a3;have Mx:y∈ý:=Ao D;have L:(ý.map<|ent knd)[i]?=some (ent knd y):=by rw[Ah,D];rfl
    have CA:t.slot (pr t.mask (knd.hash k) p).j=.live i:=by rw[<-a4];exact W.fO L
    have Wj:es[i]?=some (knd.hash y.2.1,Value.ref y.2.2):=(W.at L).2;have iC:t.sameMemory t.moves t.mask=some true:=by unfold sameMemory;rw[BP<|FZ _]
    have js:∀(Q':Bool->Shared->Prop),Q' true s->(ba U w A) (isSame (.ref y.2.2)<|.ref y.2.2) Q' E s:=λQ' q=>by
     unfold isSame;simp only;rw[BP<|FZ _];exact BK q
    have again:y.2.1≠k->(ba U w A) (setSearchFrom a (.ref b) (knd.hash k) adding h<|some<|pr t.mask (knd.hash k)<|p+1) Q E s:=λne=>
     Mw ú hA O hd W B T S k0 k1 h (p+1) (some<|pr t.mask (knd.hash k)<|p+1) rfl (by omega) (by omega) λl iM j u My=>by
      by_cases c:l<m
      ·exact hn l c j u My
      ·by_cases d:l=p
       ·subst d;have:(ent knd j)=ent knd y:=by
         obtain⟨i',jK⟩:=Be u;have Mz:(ý.map<|ent knd)[i']?=some (ent knd j):=by rw[Ah,jK];rfl
         have:=W.inj Mz L (by show j.1=(ent knd y).1;rw[a4];exact My);subst this;rw[L]at Mz;exact(Option.some.inj Mz).symm
        have e3:j.2.2=y.2.2:=by
         have:=BZ (λz:Ze=>z.2.2) this;exact Value.ref.inj this
        have h1:=B j u;rw[e3]at h1;rw[knd.inj h1<|B y Mx];exact ne
       ·intro x;refine a6 l (by omega) (by omega) (ent knd j) (Ak.mpr ⟨j,u,rfl⟩) My ?_;show knd.hash j.2.1=knd.hash k;rw[x]
    dsimp only
    split
    all_goals
     try
      refine BJ<|q77 ú T _ ?Y ?_
      case Y=>
       intro v hv;obtain⟨e,I,rfl⟩:=Ak.mp hv;rw[Array.toList_filter,Bf,W.ents]at I;obtain⟨z,H,rfl⟩:=Ak.mp I.1;obtain⟨j,u,rfl⟩:=Ak.mp H;exact⟨j.2.1,j.2.2,rfl,B j u⟩
      simp only[Aq,CP]
     rw[Wj]
     dsimp only
     refine BJ<|CJ<|knd.eqBool hA (B y Mx) T ?_;refine BJ<|CG O hd W.fits ?_
     dsimp only
     rw[iC,CA]
     dsimp only
     rw[BP (rfl:true=true)]
     dsimp only
     rw[Wj]
     dsimp only
     by_cases x:y.2.1=k
     ·have qt:k∈ý.map (·.2.1):=Ak.mpr ⟨y,Mx,x⟩;rw[BW x];cases adding with
      |true=>
       simp only[Bool.and_self,CZ];exact BK<|k1 none qt λz=>nomatch z
      |false=>
       simp only[Gq,Aq,CP,CZ];refine BJ<|js _ ?_;refine BJ<|BK ?_;simp only[CZ];exact BK<|k1 (some i) qt λ_=>rfl
     ·rw[BR x];simp only[Ep,Aq,CP,CZ];refine BJ<|js _ ?_;refine BJ<|BK ?_;simp only[CZ];exact again x
   ·have r:=Option.some.inj<|yb.symm.trans C;subst r
    dsimp only
    refine BK<|k0 λhk=>?_;obtain⟨y,D,ey⟩:=Ak.mp hk;have H:ent knd y∈ý.map (ent knd):=Ak.mpr ⟨y,D,rfl⟩;obtain⟨n,M,r⟩:=W.Wh _ H;have eh:(ent knd y).2.1=knd.hash k:=by show knd.hash y.2.1=_;rw[ey]
    rw[eh]at M r;have Õ:n<N:=by
     refine CQ λc=>?_
     obtain d|d:=Da N n
     ·exact S.out<|r N d
     ·have:n=N:=(by omega)
      subst this;exact S.out<|by rw[M];exact Ak.mpr ⟨_,H,rfl⟩
    by_cases c:n<m
    ·exact hn n c y D M.symm ey
    ·exact J n (by omega) Õ _ H M.symm eh
  ·rename_i pM
   obtain⟨p,i,z,J,C,a3,a4,a5,a6,a7⟩|⟨J,C⟩:=G
   ·exact absurd a7<|pM _
   ·exact absurd C<|pM _
end
section
variable{K:Type} [DecidableEq K]
def gC(m:Nat):Prop:=m=7\/m=31\/m=127\/m=511
def jY(knd:HeapKind U w K)(h:Heap)(a:Addr)(b:List<|Nat×K×Addr):Prop:=
 ∃o es c t,h.get? a=some o/\o.ExactSet/\o.data=.set es c t/\Wf t es (b.map<|ent knd)/\b.length*5<t.mask*3/\gC t.mask
def Wk(knd:HeapKind U w K):Prop:=∀{A}{E}{s}{k}{a}{Q},knd.is s.heap k a->(∀b,Q b s)->(ba U w A) (hashByValue 8<|.ref a) Q E s
variable{a b:Addr}{knd:HeapKind U w K}{k:K}{ý:List (Nat×K×Addr)}
def Wl:byScan (.ref b) es=false:=by
 unfold byScan;rfl
theorem q4x{Q:Option Nat->Shared->Prop}(f:ya knd)(h:knd.room A)(S:jY knd s.heap a ý)(j:∀y∈ý,knd.is s.heap y.2.1 y.2.2)(m:knd.is s.heap k b)
  (k0:k∉ý.map (·.2.1)->Q none s) (k1:∀i,k∈ý.map (·.2.1)->Q (some i) s):(ba U w A) (setFind a (.ref b)<|knd.hash k) Q E s:=by
 obtain⟨o,es,u,t,d,v,hd,W,_⟩:=S;obtain⟨N,e⟩:=W.stop<|knd.hash k;have n:=e.lt;have x:=W.pow.pos.2;unfold setFind setFindIn;refine BJ<|CG d hd W.fits ?_
 dsimp only
 rw[Wl];simp only[Aq,CP];refine BJ<|Mw f h d hd W j m e (λc=>?_) (λp c q=>?_) 100000 0 none (V9 t _) (Bx _) (by unfold turns at n;omega) λl r=>absurd r<|Dj _
 ·exact BK<|k0 c
 ·cases p with
  |none=>exact absurd (q rfl) Aw
  |some i=>exact BK<|k1 i c
def Kq(h:gC m):r9 (m+1):=by
 unfold gC at h;unfold r9
 obtain rfl|rfl|rfl|rfl:=h<;>decide
theorem dN{n:Nat}(a:gC m)(b:(n-1)*5<m*3)(c:n*5>=m*3)(d:1<=n)(e:n<=300):gC (sizeAbove (grown n)-1)/\n<=sizeAbove (grown n)-1/\n*5<(sizeAbove (grown n)-1)*3:=by
 obtain h|h|h|h:=a
 ·have:n=5:=(by omega)
  subst this;unfold gC;decide +kernel
 ·have:n=19:=(by omega)
  subst this;unfold gC;decide +kernel
 ·have:n=77:=(by omega)
  subst this;unfold gC;decide +kernel
 ·omega
def Wm{o:Obj}{ep:Nat}{b:Array (Int×Value)}{t t':SetTable}{h:Heap}{Y':List (Nat×K×Addr)}(c:h.get? a=some o)(d:o.ExactSet)(hd:o.data=.set es ep t)(e:Wf t' b<|Y'.map<|ent knd):
  (h.update a<|Obj.putSet b t').get? a=some {o with data:= .set b (ep+1) t'}:=by
 have q:=Dd (Obj.putSet b t') c (by rw[putSet_of b t' hd];rfl);rwa[putSet_of b t' hd]at q
theorem Wn{α k:Type}{f:α->k}{L M:List k}(h:L.Perm M):∀{Y'},Y'.map f=M->∃c:List α,L=c.map f/\c.Perm Y':=by
 induction h with
 |nil=>
  intro Y' a;have:Y'=[]:=by simpa using a
  subst this;exact⟨[],rfl,.refl _⟩
 |cons x p n=>
  intro Y' a;cases Y' with
  |nil=>cases a
  |cons y r=>
   rw[Ba]at a
   injection a with e b
   subst e;obtain⟨c,d,m⟩:=n b;exact⟨y :: c,by rw[d];rfl,m.cons y⟩
 |swap x y l=>
  intro Y' a;cases Y' with
  |nil=>cases a
  |cons u r=>
   cases r with
   |nil=>cases a
   |cons v r=>
    rw[Ba,Ba]at a
    injection a with e b
    injection b with b d
    subst e b d;exact⟨v :: u :: r,rfl,.swap _ _ _⟩
 |trans t m i j=>
  intro Y' a;obtain⟨c,b,o⟩:=j a;obtain⟨q,d,s⟩:=i b.symm;exact⟨q,d,s.trans o⟩
theorem AM:∀{Z:List Ze}{ý:List (Nat×K×Addr)},Z.map (·.2)=ý.map (λy=>(ent knd y).2)->∃a:List<|Nat×K×Addr,Z=a.map (ent knd)/\a.map (·.2)=ý.map (·.2)
 |[],[],_=>⟨[],rfl,rfl⟩
 |[],_ :: _,h=>by cases h
 |_ :: _,[],h=>by cases h
 |z :: Z,y :: ý,h=>by
  rw[Ba,Ba]at h
  injection h with b c
  obtain⟨a,d,e⟩:=AM c;refine⟨(z.1,y.2):: a,?_,by rw[Ba,Ba,e]⟩;rw[Ba,<-d]
  congr 1
  show z=(z.1,(ent knd y).2);rw[<-b]
theorem Mc(ú:ya knd)(HB:Wk knd)(hA:knd.room A)(S:jY knd s.heap a ý)(hY:∀y∈ý,knd.is s.heap y.2.1 y.2.2)(T:knd.is s.heap k b)(hl:ý.length+1<=300)
    (q0:k∈ý.map (·.2.1)->Q false s) (Y:∀h' Y',k∉ý.map (·.2.1)->Heap.SameBut a s.heap h'->jY knd h' a Y'->(Y'.map (·.2)).Perm ((k,b):: ý.map (·.2))->Q true {s with heap:=h'}):
    (ba U w A) (setAddHashed a (.ref b)<|knd.hash k) Q E s:=by
  obtain⟨o,es,ep,t,i,u,hd,W,Wo,hw⟩:=S;obtain⟨N,v⟩:=W.stop<|knd.hash k;have aX:=v.lt;have hm:=W.pow.pos;have j:(ý.map<|ent knd).length=ý.length:=Aa ..;unfold setAddHashed setAddHashedIn;refine CJ<|BJ<|CG i hd W.fits ?_
  dsimp only
  rw[Wl];simp only[Aq,CP];refine BJ ?_;refine Mw (adding:=true) ú hA i hd W hY T v (λp=>?_) (λoi p hs=>?_) 100000 0 none (V9 t _) (Bx _) (by unfold turns at aX;omega) λl iM=>absurd iM<|Dj _
  · dsimp only
    refine BJ<|CG i hd W.fits ?_
    dsimp only
    have put:=λ(c:SetTable)m z q=>W.put (x:= .ref b) v (t':=c) m z q (by rw[j];omega);have fin:∀ c:SetTable,c.mask=t.mask->c.place=(t.put (pr t.mask (knd.hash k) N).j).1.place->c.dummies=#[]->(ba U w A) (do
        storeSet a (insertAt es (t.put (pr t.mask (knd.hash k) N).j).2 (knd.hash k,.ref b)) c
        if (!false && c.tooFull)=true then do
            setRelay a (grown<|es.size+1)
            pure true
          else pure true) Q E s:=λc m z q=>by
      obtain⟨Z',e,pZ⟩:=put c m z q;obtain⟨h,B,Wp⟩:=Wn pZ (f:=ent knd) (Y':=((pr t.mask (knd.hash k) N).j,k,b):: ý) rfl;subst B;have C:h.length=ý.length+1:=Wp.length_eq;have r:=e.len;rw[Aa]at r;have pk:(h.map (·.2)).Perm ((k,b):: ý.map (·.2)):=Wp.map (·.2);generalize insertAt es (t.put (pr t.mask (knd.hash k) N).j).2 (knd.hash k,.ref b)=d at e r ⊢;refine BJ (FQ i hd ?_<|jJ<|(by omega));have g1:=Wm (knd:=knd) (Y':=h) i u hd e;have sb:=CT s.heap a<|Obj.putSet d c;have pN:c.fill=h.length:=by
        unfold fill;rw[e.x9,q,Aa];rfl
      by_cases full:c.tooFull=true
      · rw[full];simp only[Gr,Bool.and_self,CZ];unfold tooFull at full;rw[DQ,pN,m]at full;obtain⟨D,w2,w3⟩:=dN (n:=es.size+1) hw (by rw[W.len,j];omega) (by rw[W.len,j];omega) (by omega) (by rw[W.len,j];omega);have en:es.size+1=d.size:=by rw[r,C,W.len,j]
        rw[en]at D w2 w3 ⊢;have G:sizeAbove (grown d.size)-1+1=sizeAbove (grown d.size):=by unfold gC at D;omega
        have H:=Kq D;rw[G]at H;obtain⟨t2,order,Z3,r1,r2,r3,r4,r5⟩:=LP (t:=c) (es:=d) H w2;refine BJ ?_;unfold setRelay;refine BJ<|CG g1 rfl e.fits ?_
        dsimp only
        have MA:¬(sizeAbove (grown d.size)>sizeLine):=by
          have:=H.pos.2;rw[DX];omega
        rw[BL MA,r1];refine BJ ?_;show wpAny _ _ (if((order.filterMap (d[·]?)).size != d.size)=true then _ else _) _ _ _;rw[BL<|by rw[r2];simp];refine BK ?_;refine FQ g1 rfl ?_ (by rw[r2];exact jJ<|(by omega));refine BK ?_;rw[e.ents,Bs]at r4;obtain⟨Y4,I,Wq⟩:=Wn r4 (f:=λy=>(ent knd y).2) (Y':=h) rfl;obtain⟨J,L,Wr⟩:=AM I;subst L;have xg:({o with data:= .set d (ep+1) c}:Obj).ExactSet:=u;have g2:=Wm (knd:=knd) (Y':=J) g1 xg rfl r3;have M:J.length=h.length:=by
          have:=BZ List.length Wr;rwa[Aa,Aa,Wq.length_eq]at this
        refine Y _ J p (sb.trans<|CT _ a _) ⟨_,_,_,t2,g2,xg,rfl,r3,by rwa[r5,M,<-r],by rwa[r5]⟩ ?_;rw[Wr];exact(Wq.map (·.2)).trans pk
      · rw[Bool.not_eq_true]at full;rw[full];simp only[Ep,Aq,CP];refine BK (Y _ h p sb ⟨_,d,ep+1,c,g1,u,rfl,e,?_,by rwa[m]⟩ pk);unfold tooFull at full;rw[GZ,pN]at full;omega
    have O:(t.put (pr t.mask (knd.hash k) N).j).1.dummies=#[]:=by
      show(if has t.dummies _=true then _ else t.dummies)=#[];rw[W.Mu];rfl
    split
    · refine BJ<|HB T λbv=>?_;cases bv with
      |true=>exact fin (t.put (pr t.mask (knd.hash k) N).j).1 rfl rfl O
      |false=>exact fin {(t.put (pr t.mask (knd.hash k) N).j).1 with plain:=false} rfl rfl O
    · exact BJ<|BK<|fin (t.put (pr t.mask (knd.hash k) N).j).1 rfl rfl O
  · dsimp only
    exact BK<|q0 p
end
variable{v:Value}
section
variable{K:Type} [DecidableEq K] {knd:KeyKind U w K}
def Sr(h:carriedByValue v=true):ofAClassStatement 7 v=pure false:=by
 cases v<;>first|rfl|exact absurd h (by decide)|(unfold carriedByValue at h;cases h)
def FE(h:carriedByValue v=true):∃b,hashByValue 7 v=pure b:=by
 cases v<;>first|exact⟨_,rfl⟩|exact absurd h (by decide)|(unfold carriedByValue at h;cases h)
def Ws:ya (tupleKind knd):=by
 intro A E s k a Q e q;have h:=IsTupleKey.typeIs e;obtain⟨o,items,n,i,m,hd,j⟩:=e;unfold ofAClassStatement;refine BJ<|JR h ?_
 dsimp only
 refine BJ<|BK ?_;simp only[Dm,Aq,CP];refine BJ<|KZ i hd ?_
 dsimp only
 refine BJ ?_;rw[<-Array.forIn_toList];refine NZ _ (λb r c=>r.1=none/\c=s/\∀v∈b,carriedByValue v=true) _ ?_ ?_ _ _ ⟨rfl,rfl,j.byValue⟩
 ·rintro v b r c ⟨d,rfl,f⟩;rw[Sr<|f v Ae];refine BJ<|BK ?_;simp only[Aq,CP];exact BK ⟨rfl,rfl,λu l=>f u<|Af _ l⟩
 ·rintro ⟨p,t⟩ c ⟨d,rfl,_⟩;simp only at d;subst d;exact BK q
def vP:Wk (tupleKind knd):=by
 intro A E s k a Q e q;have h:=IsTupleKey.typeIs e;obtain⟨o,items,n,i,t,hd,j⟩:=e;unfold hashByValue;refine BJ<|KH h F.slot_tuple_hash.lookup ?_
 dsimp only
 refine BJ<|KZ i hd<|BJ ?_;show wpAny _ _ (forIn items _ _) _ _ s;rw[<-Array.forIn_toList];refine NZ _ (λc r d=>d=s/\∀v∈c,carriedByValue v=true) _ ?_ ?_ _ _ ⟨rfl,j.byValue⟩
 ·rintro v c r d ⟨rfl,f⟩;obtain⟨b,l⟩:=FE<|f v Ae;rw[l];refine BJ<|BK ?_;cases b with
  |true=>
   simp only[Dm,Aq,CP];exact BK ⟨rfl,λu m=>f u<|Af _ m⟩
  |false=>
   simp only[Gr,CZ];exact BK<|by first|exact BK (q _)|trace_state
 ·rintro ⟨p,w⟩ d ⟨rfl,_⟩;cases p with
  |none=>exact BK<|q _
  |some r=>exact BK<|q _
end
end bP
namespace L2
open PySem PySem.Spec PyProof.Rows bP Classical
abbrev Yt:=Nat×List Key×Addr
def ko(U:Program)(w:World)(a:Addr)(b:List Yt):HO:= .ext λh=>jY (tupleKind<|bX U w) h a b
variable{ý:List Yt}{s:Shared}{E Q:Í}{w:World}{U:Program}{h:Heap}
section
variable{A:Around}{a b:Addr}{k:List Key}
def uC{h':Heap}(S:jY (tupleKind<|bX U w) h a ý)(q:∀o,h.get? a=some o->h'.get? a=some o):jY (tupleKind<|bX U w) h' a ý:=let ⟨o,b,c,t,d,e⟩:=S;⟨o,b,c,t,q o d,e⟩
def MB(S:jY (tupleKind<|bX U w) s.heap a ý):s.TypeIs (.ref a) "set":=let ⟨o,_,_,_,b,c,_⟩:=S;⟨o,b,c.1⟩
def x2r(e:h.get? a=some (gI w)):jY (tupleKind<|bX U w) h a []:=
 ⟨_,#[],0,_,e,⟨rfl,rfl,rfl⟩,rfl,⟨rfl,rfl,List.Pairwise.nil,λz b=>(by cases b),by show 0<=7;decide,rfl,.inl rfl,λz b=>(by cases b)⟩,by show 0*5<7*3;decide,.inl rfl⟩
def Na(e:A.units+1<cLine)(S:jY (tupleKind<|bX U w) s.heap a ý)(i:∀y∈ý,(tupleKind<|bX U w).is s.heap y.2.1 y.2.2)(f:(tupleKind<|bX U w).is s.heap k b)
  (h:∀l,Q (.bool (decide (k∉ý.map (·.2.1)))) {s with toks:=l}):(ba U w A) (compareOp .NotIn (.ref b)<|.ref a) Q E s:=by
 have c:=MB S;show wpAny _ _ (do return .bool (!(<-contains (.ref a)<|.ref b))) Q E s;refine BJ ?_;unfold contains
 try with_reducible refine CJ ?_
 refine BJ<|KH c PySem.F.slot_set_contains.lookup ?_;show wpAny _ _ (if(some (Value.builtin "set.__contains__") == some Value.none)=true then _ else _) _ E s;rw[BL<|by rw[beq_builtin_none];exact Aw];refine BJ<|MJ c JD<|DG JD c entry_set_contains ?_<|QX _ _;unfold Builtin.«frozenset.__contains__» Builtin.Frozenset.oneOther;simp only[Fd,bind_assoc];unfold Builtin.Frozenset.addrOf Builtin.Frozenset.withSetAsKey setContains;refine BJ<|BK ?_
 try dsimp only
 refine BJ<|BK ?_
 try dsimp only
 refine BJ<|wpAny_tryCatch<|CJ<|BJ<|(tupleKind<|bX U w).pyHash (FW e) f ?_;refine BJ<|q4x Ws (FW e) S i f (λd=>?_) λj d=>?_
 ·refine BK ?_;show wpAny _ _ (ret<|Value.bool false) _ _ _;have h:=h<|s.toks+(tupleKind<|bX U w).draws k;rw[BW d]at h;exact BK ⟨_,rfl,EY<|BK h⟩
 ·refine BK ?_;show wpAny _ _ (ret<|Value.bool true) _ _ _;have h:=h<|s.toks+(tupleKind<|bX U w).draws k;rw[BR<|not_not_intro d]at h;exact BK ⟨_,rfl,EY<|BK h⟩
def y7(d:A.units+1<cLine)(S:jY (tupleKind<|bX U w) s.heap a ý)(f:∀y∈ý,(tupleKind<|bX U w).is s.heap y.2.1 y.2.2)(e:(tupleKind<|bX U w).is s.heap k b)(i:ý.length+1<=300)
  (h:∀h' j Y',Heap.SameBut a s.heap h'->jY (tupleKind<|bX U w) h' a Y'->(Y'.map (·.2)).Perm (if k∈ý.map (·.2.1)then ý.map (·.2) else(k,b):: ý.map (·.2))->Q .none {s with heap:=h',toks:=j}):
  (ba U w A) (call (.builtin "set.add") [.ref a,.ref b]) Q E s:=by
 have l:=MB S;refine DG F.slot_set_add l F.entry_set_add ?_<|F.args_set_add_2 _ _;unfold Builtin.«set.add» Builtin.Frozenset.oneOther;simp only[Fd,bind_assoc];unfold Builtin.Frozenset.addrOf setAdd;refine BJ<|BK ?_
 try dsimp only
 refine BJ<|BK ?_
 try dsimp only
 refine BJ<|CJ ?_;refine BJ<|(tupleKind<|bX U w).pyHash (FW d) e ?_;refine Mc Ws vP (FW d) S f e i (λc=>?_) λh' Y' c m n p=>?_
 ·show wpAny _ _ (ret Value.none) _ _ _;exact BK ⟨_,rfl,h s.heap _ ý (Heap.SameBut.refl a s.heap) S<|by rw[BP c]⟩
 ·show wpAny _ _ (ret Value.none) _ _ _;exact BK ⟨_,rfl,h h' _ Y' m n<|by rwa[BL c]⟩
end
variable{O:Ï}{H:Hp}{ks:List (List Key)}
section
variable{X:Cx}{σ:St}{Q:VK}{a b:Addr}
def Wt(S:jY (tupleKind<|bX X.U X.w) h a ý):aB X.U X.w H h a (ko X.U X.w a ý):=by
 refine⟨S,?_,λc d q k=>uC q k⟩;obtain⟨o,_,_,_,b,_⟩:=S;exact⟨o,b⟩
def be.sk(I:(be X O σ H s))(h:H a=some (ko X.U X.w a ý)):jY (tupleKind<|bX X.U X.w) s.heap a ý:=(I.aH a _ h).1
structure b6(U:Program)(w:World)(H:Hp)(a:Addr)(ks:List<|List Key):Prop where
 ex:∃ý,H a=some (ko U w a ý)/\(∀y∈ý,H y.2.2=some (.tup<|y.2.1.map kV))/\(ý.map (·.2.1)).Perm ks
def b6.same{H':Hp}(h:b6 U w H a ks)(s:aj H H'):b6 U w H' a ks:=let ⟨ý,b,c,d⟩:=h.ex;⟨ý,s _ _ b,λy e=>s _ _<|c y e,d⟩
def b6.keep{H':Hp}(h:b6 U w H a ks)(k1:H' a=H a)(k2:∀b xs,H b=some (.tup xs)->H' b=some (.tup xs)):b6 U w H' a ks:=let ⟨ý,f,c,d⟩:=h.ex;⟨ý,by rwa[k1],λy e=>k2 _ _<|c y e,d⟩
def b6.ne{o:HO}(h:b6 U w H a ks)(e:H b=some o)(c:∀d,o ≠ .ext d):b≠a:=λq=>by
 obtain⟨ý,f,_⟩:=h.ex;rw[q,f]at e;exact c _ (Option.some.inj e).symm
def b6.some(h:b6 U w H a ks):H a≠none:=λq=>by
 obtain⟨ý,b,_⟩:=h.ex;rw[q]at b;cases b
def q37{p pos:Pos}(a:X.mg "set" = none)(h:∀D,H D=none->Q (.ref D) (upd H D<|ko X.U X.w D []))(c:Gl X "set":=by rfl):Ev X (.Call (.Name "set" p) [] [] pos) σ H Q:=by
 refine⟨λO s I=>Call_<|mQ I c a JT<|QZ<|Sl ?_⟩;exact⟨.ref s.heap.objs.size,_,I.laid (λb o e=>Aj _ e) (An _)<|Wt<|x2r<|At _ rfl,rfl,h _ I.fresh⟩
def sq{D:Addr}:b6 U w (upd H D<|ko U w D []) D []:=⟨[],az,λy a=>(by cases a),.refl _⟩
def mX(c:X.A.units+1<cLine):cX X (compareOp .NotIn) (λx y H Q=>∃k b a ks,x=.ref b/\y=.ref a/\H b=some (.tup<|k.map kV)/\b6 X.U X.w H a ks/\Q (.bl<|decide (k∉ks)) H):=by
 intro O s σ H x y v u Q I d e h;obtain⟨k,b,a,ks,rfl,rfl,f,T,q⟩:=h;obtain⟨ý,i,j,l⟩:=T.ex;cases (show v=Value.ref b from d);cases (show u=Value.ref a from e);refine Na c (be.sk I i) (λy m=>lW I.aH<|j y m) (lW I.aH f) λn=>⟨.bl<|decide (k∉ks),H,I.tok _,?_,q⟩;show Value.bool _=Value.bool _
 congr 1
 exact decide_eq_decide.mpr<|not_congr l.mem_iff
theorem Rs{o e:Expr}{ap j:Pos}(L:X.A.units+1 < cLine)(h:Ev X o σ H λx m=>∃ a,x = .ref a/\(∃ ks,b6 X.U X.w m a ks)/\Ev X e σ m λy d=>∃ k b ks,y = .ref b/\d b=some (.tup<|k.map kV)/\b6 X.U X.w d a ks/\ks.length+1<=300 /\
   ∀l,b6 X.U X.w (upd d a l) a (if k∈ks then ks else k :: ks)->Q .non (upd d a l))
  (M:attributeBase o "add" X.env (eval o X.env)=eval o X.env:=by rfl)
  (N:((backTo j<|starEach [e] X.env).all (λx=>!x.1) && (backToKw j<|keywordEach [] X.env).all (λx=>x.1.isSome) && decide ([e].length+([]:List Keyword).length+(if([]:List Keyword).isEmpty then 0 else 1)<30))=true:=by rfl)
  (f:(ap.endLine == j.line)=true:=by rfl) (U:starEach [e] X.env=(false,eval e X.env) :: starEach [] X.env:=by rfl) (Y:f8 e=false:=by rfl):Ev X (.Call (.Attribute o "add" ap) [e] [] j) σ H Q:=by
 refine⟨λO s I=>LR M N f rfl (aO (h.run O s I) λv s1 ⟨x,m,w,r1,a,ex,⟨ks,hA⟩,h2⟩=>?_)⟩;subst ex;cases (show v=Value.ref a from r1);obtain⟨Y0,g1,_⟩:=hA.ex;have S:=be.sk w g1;refine⟨"set","set.add",TX,PySem.F.slot_set_add,PySem.F.type_set_add,MB S,λb eb=>?_,?_⟩
 ·cases eb;obtain⟨o,_,_,_,r,hx,_⟩:=S;exact⟨o,r,hx.2.1⟩
 have hE:Ea X [e] σ m (λys d=>∃k b ks,ys=[.ref b]/\d b=some (.tup<|k.map kV)/\b6 X.U X.w d a ks/\ks.length+1<=300/\∀l,b6 X.U X.w (upd d a l) a (if k∈ks then ks else k :: ks)->Q .non (upd d a l)):=
  ah (h2.mono λy d⟨k,b,ks,ey,q⟩=>ax ⟨k,b,ks,by rw[ey],q⟩) Y
 have A:=hE.run j O s1 w;rw[U]at A ⊢;refine HW rfl (JW ?_);refine aO A λus s2⟨vs,d,n,r2,k,b,ks,ev,B,T,hl,q⟩=>?_;subst ev;obtain⟨u,rfl,ru⟩:=ma r2;cases (show u=Value.ref b from ru);obtain⟨ý,g1,g2,g3⟩:=T.ex;have Õ:ý.length=ks.length:=by
  have:=g3.length_eq;rwa[Aa]at this
 refine y7 L (be.sk n g1) (λy t=>lW n.aH<|g2 y t) (lW n.aH B) (by omega) λh' tk C sb D p=>?_;refine⟨.non,_,lX (t':=tk) n (by rw[g1];exact True.intro) sb ?_<|Wt D,rfl,q _ ?_⟩
 ·obtain⟨o,_,_,_,r,_⟩:=D;exact⟨o,r⟩
 ·have E:∀{c:Addr}{xs:List V},d c=some (.tup xs)->c≠a:=λe z=>by
   rw[z,g1]at e;cases e
  refine⟨C,az,λy t=>?_,?_⟩
  ·have i:y.2∈(if k∈ý.map (·.2.1)then ý.map (·.2) else(k,b):: ý.map (·.2)):=p.mem_iff.mp<|Ak.mpr ⟨y,t,rfl⟩;have old:y.2∈ý.map (·.2)->(upd d a<|ko X.U X.w a C) y.2.2=some (.tup<|y.2.1.map kV):=λi=>by
    obtain⟨z,G,ez⟩:=Ak.mp i;rw[<-ez,aw<|E<|g2 z G];exact g2 z G
   split at i
   ·exact old i
   ·obtain e|i:=Ai.mp i
    ·rwa[e,aw<|E B]
    ·exact old i
  ·have J:=p.map (·.1);rw[Bs]at J;refine J.trans ?_
   by_cases c:k∈ý.map (·.2.1)
   ·rwa[BP c,BP<|g3.mem_iff.mp c,Bs]
   ·rw[BL c,BL λz=>c<|g3.mem_iff.mpr z,Ba,Bs];exact g3.cons k
end
end L2
namespace L2
open PySem PySem.Spec PyProof.Rows
variable{H:Hp}{σ:St}{X:Cx}
section
variable{Q:VK}
def q9t{e:Expr}{c:Str}{j:Nat}{l b pos:Pos}(h:Ev X e σ H λx a=>∃i:Int,x=.int i/\i.natAbs.log2<1920/\(c++Str.ofString (toString i)).length<=sizeLine/\Q (.str<|c++Str.ofString (toString i)) a)(C:c.length<=sizeLine:=by decide):
  Ev X (.JoinedStr [.Constant (.str c) j b,.FormattedValue e (-1) none l] pos) σ H Q:=by
 have d:∀w:Str,Str.empty++w=w:=λw=>by
  apply Str.ext';show(#[]:Array Nat)++w.cps=w.cps;simp
 refine⟨λO s I=>PyProof.Rows.JoinedStr_many<|RD<|aO ((fZ (X:=X) (i:=c) (j:=j) (p:=b) (σ:=σ) (H:=H) (Q:=λy f=>y=.str c/\f=H) ⟨rfl,rfl⟩).run O _ I) λD m⟨y,f,n,o,r,u⟩=>?_⟩;subst r u;obtain⟨E,rfl⟩:=o;refine⟨by rwa[d],?_⟩;rw[d];refine RD<|PyProof.Rows.FormattedValue_plain<|aO (h.run O m n) λv G⟨x,a,z,A,i,B,hd,k,q⟩=>?_;subst B;obtain⟨t,rfl⟩:=A;refine formatField_int_small hd ⟨k,PyProof.Rows.joinParts_nil ?_ k⟩;exact⟨.str _,a,z.tok _,⟨_,rfl⟩,q⟩
end
variable{N':Ð}{scope:Scope}{ifs:Ó}
section
variable{elt tg:Expr}{A a:Addr}{xs:List V}{after:Hp->Prop}
theorem u7(Pv:Nat->St->Hp->Prop)(k:Pv 0 σ H)(l:∀i c H',i<=xs.length->Pv i c H'->au X.K H' a xs)
  (n : ∀(i : Nat)x T c H', xs[i]? = some x → Pv i c H' → H' T = none → vE X N' scope tg (.ref T) c (upd H' T<|.tup [.int (i : Int), x]) λd o => vF X N' scope ifs d o λb f =>
   if b=true then vD X N' scope elt d f λv h=>∃ys,h A=some (.lst ys)/\ys.length<sizeLine/\Pv (i+1) d (upd h A<|.lst<|ys++[v])else Pv (i+1) d f)
  (hd:∀c H',Pv xs.length c H'->after H'):lZ X N' scope tg ifs elt (Lg X.K a) A after σ H:=by
 refine⟨λi m c H'=>m=xs.length-i/\i<=xs.length/\Pv i c H',⟨_,rfl,Bx _,k⟩,?_⟩;rintro i m c H' ⟨rfl,r,p⟩;have q:=l i c H' r p
 by_cases j:i<xs.length
 ·refine .inr ⟨⟨xs,xs[i],q,by simp[j]⟩,Pv<|i+1,λc H' s=>⟨xs.length-(i+1),(by omega),rfl,j,s⟩,λv w y=>?_⟩;obtain⟨T,x,t,rfl,rfl,u⟩:=y;exact n i x T c _ (u xs q) p t
 ·have e:i=xs.length:=(by omega)
  subst e;exact .inl ⟨⟨xs,q,An _⟩,hd c H' p⟩
end
end L2
namespace E9
open PySem L2 Nt bE bP
open PyProof.Rows (sortedS)
open Classical
def yc(H:Hp)(L:Addr)(a:(List Addr))(b:List<|List Str):Prop:=H L=some (.lst<|a.map V.ref)/\a.length=b.length/\∀(i:Nat)u c,a[i]?=some u->b[i]?=some c->H u=some (Ls c)
def MC:Sp:=λd H Q _=>∃(R:Addr)(as:Î)(n:bi),d=[.ref R]/\ai H R as n/\(n.map (·.1)).Nodup/\aq n/\n.length<=60/\(ag n).length<=60 /\
 ∀(L:Addr)(b:(List Addr))(c:List<|List Str)(a:Hp),aj H a->H L=none->yc a L b c->cS n c->(∀u∈b,H u=none)->Q (.ref L) a
structure oj(n:bi)(H:Hp)(D:Addr)(us:(List Addr))(cs:List<|List Str)(i:Nat):Prop where
 lst:H D=some (.lst<|us.map V.ref)
 lu:us.length=i
 lc:cs.length=i
 at':∀(j:Nat)u c,us[j]?=some u->cs[j]?=some c->H u=some (Ls c)/\u≠D
 mem:∀(j:Nat)c w,cs[j]?=some c->(bu n)[j]?=some w->∀z,z∈c↔(w.map<|aD n).count z=1
 gL:∀c∈cs,b8 c
variable{es:List Nt.bc}{cs:List Ð}{us:(List Addr)}{D:Addr}{H:Hp}{n:bi}
theorem oj.step{o:Hp}{k:Addr}{i:Nat}{ks:Ð}(I:oj n H D us cs i)(v:aj H o)(q:H k=none)(e2:o k=some (Ls ks))(G:b8 ks)(x:(bu n)[i]?=some es)(y:∀z,z∈ks↔(es.map<|aD n).count z=1):oj n (upd o D<|.lst<|us.map V.ref++[.ref k]) D (us++[k]) (cs++[ks]) (i+1):=by
 have A:=I.lu;have r:=I.lc;have s:k≠D:=λe=>by rw[e,I.lst]at q;cases q
 have zero:∀{p:Type}{l:List p}{a b:p}{j:Nat},¬ j<l.length->(l++[a])[j]?=some b->j=l.length/\a=b:=λ{p l a b j}h e=>by
  rw[Bd<|(by omega)]at e;have d:j-l.length=0:=by have:=(Ac.mp e).1;simp at this;omega
  rw[d]at e;exact⟨(by omega),by cases e;rfl⟩
 refine⟨by rw[az,Al];rfl,by rw[Ag,A];rfl,by rw[Ag,r];rfl,λj u c f m=>?_,λj c w f m=>?_,λc B=>?_⟩
 ·by_cases d:j<us.length
  ·rw[Ax d]at f;rw[Ax<|(by omega)]at m;obtain⟨C,t⟩:=I.at' j u c f m;exact⟨by rw[aw t];exact v _ _ C,t⟩
  ·obtain⟨_,rfl⟩:=zero d f;obtain⟨_,rfl⟩:=zero (by omega) m;exact⟨by rwa[aw s],s⟩
 ·by_cases d:j<cs.length
  ·rw[Ax d]at f;exact I.mem j c w f m
  ·obtain⟨E,rfl⟩:=zero d f;rw[E,r,x]at m;cases m;exact y
 ·obtain h|h:=Am.mp B
  ·exact I.gL c h
  ·rwa[Ad.mp h]
def oj.start(h:H D=some (.lst [])):oj n H D [] [] 0:=⟨h,rfl,rfl,λj u c h=>by simp at h,λj c w h=>by simp at h,λc h=>by cases h⟩
def oj.whole(I:oj n H D us cs (bu n).length):yc H D us cs/\cS n cs:=⟨⟨I.lst,I.lu.trans I.lc.symm,λi u c a b=>(I.at' i u c a b).1⟩,I.lc,I.mem,I.gL⟩
def J4(h:∀e∈es,e∈ends n):∀z∈es.map (aD n),z∈ag n:=λz b=>by
 obtain⟨e,c,rfl⟩:=Ak.mp b;obtain⟨y,a⟩:=af.mp<|h e c;rw[eY a];exact eV a
variable{Z:Heap}{mg:Ñ}{K:aa}{fd:FuncData}{f:Addr}{ss:Ð}{tl:List Nt.bc}{ks:List (List Key)}
section
variable{P:Program}{w:World}
abbrev Wv:Ð:=["rows"]
abbrev yd:Ð:=["rows","walker"]
def ye:ak Wv ["rows"] (aW zZ):=cm
def Of:yd.Nodup:=by decide +kernel
theorem eE(F:bB K "cores_of" "cores_of" zZ f fd)(T:Txt mg)(GW:(aP P w K mg Z) 4 "walkers_of" ["rows"] KL)(GC:(aP P w K mg Z) 4 "core_of" ["rows","walker"] Mp):(aE P w K mg Z bK) 5 f fd ["rows"] MC:=by
 refine F.gc ye λb0 H vs Q E t h=>?_;obtain⟨R,as,n,rfl,y,A,B,G,dZ,q⟩:=h;have nd:=ye.nd;have pB:=fz n;refine bS (jb (aW zZ) Wv yd 1 (gD bI)<|bC GW t<|ah<|ae 0<|ax ⟨R,as,n,rfl,y,A,B,(by omega),(by omega),λW J H1 d n1 j fW=>⟨W,rfl,⟨_,au.of j.lst⟩,λD o=>?_⟩⟩);have wl:(bu n).length<=(ends n).length:=AT n (ends n) [];have sr:=o6 B (ends n) [] λe he=>he;have L:J.length=(bu n).length:=j.len;refine oY (xs:=J.map V.ref) (λi a c=>(∃v,a=[(some (.ref R))]++[v])/\aj H1 c/\∃us cs,oj n c D us cs i/\∀u∈us,H u=none) ⟨⟨none,rfl⟩,aS o _,[],[],oj.start az,λu h=>(by cases h)⟩ ?_ ?_ ?_
 ·rintro i a c _ ⟨_,b,_⟩;exact au.of<|b _ _ j.lst
 ·rintro i x a c M ⟨⟨v,rfl⟩,b,us,cs,I,p⟩;rw[Ah,Az]at M;obtain⟨l,N,rfl⟩:=M;have me:i<(bu n).length:=by have:=(Ac.mp N).1;rwa[<-L]
  have m:=Ab me;obtain⟨ts,el,O⟩:=(j.same b).at' i l _ N m;have wk:=sr _<|Ao m;generalize (bu n)[i]=es at m O wk;have Õ:=wk.few;have lu:=I.lu;intro U C Y ç ex;refine bw 1 Of ?_;intro U C Y ç ex;refine ja<|cv ?_;intro U C Y ç ex;refine bC GC t<|ah<|ae 0<|ah<|ae 1<|ax ⟨R,l,as,n,ts,es,rfl,y.same<|d.trans b,A,(by omega),(by omega),el,O,wk.ends,(by omega),λl G hm=>?_,λk ks H2 r n2 e2 s m2=>?_⟩
  ·have:=aU G λz hz=>J4 wk.ends z<|hm z hz;omega
  exact⟨_,r _ _ I.lst,by rw[Aa];exact cg (by omega),⟨_,rfl⟩,fI (b.trans r) o,_,_,I.step r n2 e2 s m m2,λu hu=>(Am.mp hu).elim (p u) λh=>by rw[Ad.mp h];exact(d.trans b).free n2⟩
 ·rintro a c ⟨_,b,us,cs,I,p⟩;rw[Aa,L]at I;exact q D us cs c (d.trans b) (d.free o) I.whole.1 I.whole.2 p
open PyProof.Rows (sortedS)
open Classical
structure ik(H:Hp)(S:Addr)(us:List<|Addr×Addr×Addr)(st:gB):Prop where
 lst:H S=some (.lst<|us.map λu=>V.ref u.1)
 len:us.length=st.length
 at':∀(i:Nat)u s,us[i]?=some u->st[i]?=some s->H u.1=some (.tup [.ref u.2.1,.ref u.2.2])/\H u.2.1=some (Ls s.1)/\H u.2.2=some (Ls s.2)
def ik.same{H':Hp}{S:Addr}{us:List (Addr×Addr×Addr)}{st:gB}(h:ik H S us st)(s:aj H H'):ik H' S us st:=⟨s _ _ h.lst,h.len,λi u x a b=>let q:=h.at' i u x a b;⟨s _ _ q.1,s _ _ q.2.1,s _ _ q.2.2⟩⟩
def qz(ss:Ð):(λr:Str×List Str=>!lH ss r)=cP λz=>decide (z∈ss):=by
 funext r
 unfold lH cP;rw[rm];have c:(r.2.filter λz=>ss.contains z)=r.2.filter λz=>decide (z∈ss):=by
  congr 1
  funext z
  rw[Cf,CN];exact Bm
 rw[c];generalize (r.2.filter λz=>decide (z∈ss)).length=k
 obtain h|h:=RG k<;>rw[h]<;>rfl
def Wx{os:Ð}(h:os.Perm ((n.filter λr=>!lH ss r).map (·.1))):df n (λz=>decide (z∈ss)) os:=by
 rwa[qz]at h
theorem r8{l:Ð}(c:n.length<=31)(a:l.Nodup)(b:∀x∈l,x∈ce n):l.length<=31:=by
 have:=aU a b;rw[Aa]at this;omega
def MD:Sp:=λh H Q _=>∃(S p o:Addr)(us:List<|Addr×Addr×Addr)(n:bi)(st:gB)(b os:Ð),h=[.ref S,.ref p,.ref o]/\ik H S us st/\Mb n st/\n.length<=31/\H p=some (Ls b)/\H o=some (Ls os)/\ii n [] b os b os /\
 ∀(L c d:Addr)(e f:Ð)(a:Hp),aj H a->H L=none->a L=some (.tup [.ref c,.ref d])->a c=some (Ls e)->a d=some (Ls f)->(c=p\/H c=none)->(d=o\/H d=none)->ii n st b os e f->Q (.ref L) a
noncomputable def sv:Sp:=λc H Q _=>∃(R o:Addr)(as:Î)(n:bi)(os:Ð)(s:Str->Bool),c=[.ref R,.ref o]/\ai H R as n/\(ce n).Nodup/\aq n/\n.length<=31/\(ag n).length<=60/\H o=some (Ls os)/\df n s os/\oa n s /\
 ∀(L:Addr)(b:Ð)(a:Hp),aj H a->a L=some (Ls b)->(∀r∈n,cK n b r=cP s r)->Q (.ref L) a
def ME:Sp:=λd H Q _=>∃(R p:Addr)(as:Î)(n:bi)(ss:Ð),d=[.ref R,.ref p]/\ai H R as n/\(ce n).Nodup/\aq n/\HF n/\n.length<=31/\(ag n).length<=60/\H p=some (Ls ss)/\ss.Nodup/\(∀z∈ss,z∈ag n) /\
 (∀(t L:Addr) (c:Ð) (a:Hp),aj H a->H t=none->H L=none->a t=some (.tup [.str "odd",.ref L])->a L=some (Ls c)->(∃cs,cS n cs/\c∈cs)->(c.filter λz=>ss.contains z).length%2=1->Q (.ref t) a) /\
 (∀(t L M:Addr) (b cs e:Ð) (a:Hp),aj H a->H t=none->H L=none->H M=none->L≠M->a t=some (.tup [.str "parts",.ref L,.ref M])->a L=some (Ls b)->a M=some (Ls cs)->sj n ss->b8 b->b8 cs->cC n b=true->(∀z,z∈cs↔dA n e z)->gO ss cs b->Q (.ref t) a)
theorem eH(T:aq n)(a:HF n)(h:sj n ss):oa n λz=>decide (z∈ss):=by
 obtain⟨cs,C,b⟩:=h;refine iO T a C λc d=>?_;have:=b c d;rw[rm];have e:(c.filter λz=>ss.contains z)=c.filter λz=>decide (z∈ss):=by
  congr 1
  funext z
  rw[Cf,CN];exact Bm
 rw[e]at this;exact BR<|(by omega)
abbrev uT:Ð:=["steps","points","odds","tried","left"]
def yf:ak uT ["steps","points","odds"] (aW IA):=cm
theorem Mn(F:bB K "lowered" "lowered" IA f fd)(T:Txt mg)(GM:(aP P w K mg Z) 1 "summed" ["one","other"] C0):(aE P w K mg Z bK) 2 f fd ["steps","points","odds"] MD:=by
 refine F.gc yf λb0 H vs Q E Y h=>?_;obtain⟨S,p,o,us,n,st,ps,os,rfl,v,I,z,hp,ho,lw,q⟩:=h;have nd:=yf.nd;have hl:=v.len;refine jF<|ae 0 ⟨S,rfl,⟨_,au.of v.lst⟩,?_⟩;refine jG (xs:=us.map λu=>V.ref u.1) (λi A B=>∃(d c:Addr)(b a:Ð)(L M:Option V),aj H B/\B d=some (Ls b)/\B c=some (Ls a)/\(d=p\/H d=none)/\(c=o\/H c=none)/\ii n (st.take i) ps os b a/\A=[(some (.ref S)),(some (.ref d)),(some (.ref c)),L,M]) ⟨p,o,ps,os,_,_,aj.refl H,hp,ho,.inl rfl,.inl rfl,lw,rfl⟩ ?_ ?_ ?_
 ·rintro i A B _ ⟨_,_,_,_,_,_,e,_⟩;exact au.of<|e _ _ v.lst
 ·rintro i x A H1 hx ⟨d,c,b,a,L,M,e,C,j,f1,f2,lo,rfl⟩;rw[Ah,Az]at hx;obtain⟨u,hu,rfl⟩:=hx;have hi:i<st.length:=by have:=(Ac.mp hu).1;omega
  have l:=Ab hi;generalize st[i]=s at l;have r:=Ao l;obtain⟨a1,a2,a3⟩:=(v.same e).at' i u s hu l;obtain⟨y,D,hy⟩:∃y D,s.2=y :: D:=by
   cases k:s.2 with
   |nil=>exact absurd k<|I.ne s r
   |cons y D=>exact⟨y,D,rfl⟩
  have hd:s.2.head?=some y:=by rw[hy];rfl
  have l1:=r8 z lo.nd.1 lo.sub.1;have l2:=r8 z lo.nd.2 lo.sub.2;have l3:=r8 z (I.nd s r).1 (I.sub s r).1;have l4:=r8 z (I.nd s r).2 (I.sub s r).2;refine jN rfl (aQ.of a1) (bw 3 nd<|bw 4 nd ?_);have ha:fj (s.2.map V.str) ((0:Nat):Int)=some (.str y):=vW (by rw[hy];rfl);refine dP<|cz oH<|a8 dF<|ae 4<|aG ⟨u.2.2,_,_,.str y,rfl,rfl,au.of a3,ha,ae 2 ⟨c,_,rfl,.inl<|au.of j,rfl,my _,_,rfl,?_⟩⟩;have fF:∀(x y:Bool),(if false=true then x else y)=y:=λ_ _=>rfl;rw[fF,mw,uA]
  by_cases G:y∈a
  ·rw[BW G];refine cv (aZ 1 nd<|bC GM Y<|ah<|ae 1<|ah<|ae 3<|ax ⟨d,u.2.1,b,s.1,rfl,C,a2,(by omega),λm ms H2 J n2 em _ N mm=>?_⟩);refine aZ 2 nd (bC GM Y<|ah<|ae 2<|ah<|ae 4<|ax ⟨c,u.2.2,a,s.2,rfl,J _ _ j,J _ _ a3,(by omega),λk ks H3 s3 n3 ek _ O mk=>?_⟩);exact a9<|a9 ⟨m,k,ms,ks,_,_,(e.trans J).trans s3,s3 _ _ em,ek,.inr<|e.free n2,.inr<|(e.trans J).free n3,lo.step I l hd G N O mm mk,rfl⟩
  ·rw[BR G];exact bR<|a9<|a9 ⟨d,c,b,a,_,_,e,C,j,f1,f2,lo.skip l hd G,rfl⟩
 ·rintro A H1 ⟨d,c,b,a,L,M,e,C,j,f1,f2,lo,rfl⟩;rw[Aa,hl,Ca]at lo;refine bS<|d9<|ah<|ae 1<|ah<|ae 2<|ax ⟨Z2,λt ht=>?_⟩;have U:=aS ht<|.tup [.ref d,.ref c];exact q t d c b a _ (e.trans U) (e.free ht) az (U _ _ C) (U _ _ j) f1 f2 lo
def vN(T:aq n){ps cs:Ð}(h:∀z,z∈cs↔dA n ps z):(λz=>decide (z∈cs))=bJ n λy=>decide (y∈ps):=by
 funext z
 rw[Ma T,decide_eq_decide.mpr<|h z]
abbrev rc:Ð:=["rows","odds","steps","point","tried","left"]
def yg:ak rc ["rows","odds"] (aW Iz):=cm
theorem ot(F:bB K "points_by" "points_by" Iz f fd)(T:Txt mg)(GP:(aP P w K mg Z) 3 "points_of" ["rows"] Mg)(GL:(aP P w K mg Z) 3 "lowered" ["steps","points","odds"] MD)(GO:(aP P w K mg Z) 3 "odd_points" ["rows","some"] C1)(GC:(aP P w K mg Z) 3 "cut_of" ["rows","points"] CY):(aE P w K mg Z bK) 4 f fd ["rows","odds"] sv:=by
 refine F.gc yg λb0 H vs Q E G h=>?_;obtain⟨R,o,as,n,os,s,rfl,hR,J,hT,hn,dZ,ho,hO,tL,q⟩:=h;have nd:=yg.nd;refine aZ 2 nd<|di<|ax ⟨Z0,λS hS=>?_⟩;have s0:=aS hS<|.lst [];have MG:(upd H S<|.lst []) S=some (.lst []):=az;generalize upd H S (.lst [])=H0 at s0 MG;refine jF (bC GP G<|ah<|ae 0<|ax ⟨R,as,n,rfl,hR.same s0,(by omega),λN H1 s1 n1 eN=>⟨N,rfl,⟨_,au.of eN⟩,?_⟩⟩);have Õ:N≠S:=λe=>by rw[e,MG]at n1;cases n1
 refine jG (xs:=(ce n).map V.str) (λi σ H'=>∃(us:List<|Addr×Addr×Addr)(st:gB)(u3 u4 u5:Option V),aj H H'/\H' N=some (Ls<|ce n)/\ik H' S us st/\(∀u∈us,u.2.1≠S/\u.2.2≠S)/\kj n i st/\σ=[(some (.ref R)),(some (.ref o)),(some (.ref S)),u3,u4,u5]) ⟨[],[],_,_,_,s0.trans s1,eN,⟨s1 _ _ MG,rfl,λi u s h=>by simp at h⟩,λu h=>(by cases h),kj.start n,rfl⟩ ?_ ?_ ?_
 ·rintro i σ H' _ ⟨_,_,_,_,_,_,eN,_⟩;exact au.of eN
 ·rintro i x σ p d ⟨us,st,u3,u4,u5,M,Wy,r,fS,I,rfl⟩;rw[Ah,Az]at d;obtain⟨x,d,rfl⟩:=d;have Sz:=Ao d;have om:=hR.same M;have C4:=r.lst;refine bw 3 nd ?_;refine zp<|bC GL G<|ah<|ae 2<|ah<|di<|ah<|ae 3<|ax ⟨Z1,λA O=>ah<|bC GO G<|ah<|ae 0<|ah<|bC GC G<|ah<|ae 0<|ah<|di<|ah<|ae 3<|ax ⟨Z1,λB hB=>?_⟩⟩;have D:=aS O<|.lst [.str x];have sB:=aS hB<|.lst [.str x];have l:(upd p A<|.lst [.str x]) A=some (Ls [x]):=az;have eB:(upd (upd p A<|.lst [.str x]) B<|.lst [.str x]) B=some (Ls [x]):=az;have l:=sB _ _ l;have U:=D.trans sB;generalize upd (upd p A<|.lst [.str x]) B (.lst [.str x])=H3 at l eB U;refine ax ⟨R,B,as,n,[x],rfl,om.same U,hT,(by omega),dZ,eB,λC cs H4 s4 n4 eC Ö mC lC=>?_⟩;refine ax ⟨R,C,as,n,cs,rfl,(om.same U).same s4,(by omega),(by omega),eC,λò zs H5 s5 n5 eO pO=>?_⟩;have Y:=Wx pO;rw[vN hT mC]at Y;have Wz:=s4.trans s5;have MH:=U.trans Wz;refine ax ⟨S,A,ò,us,n,st,[x],zs,rfl,r.same MH,I.cL,hn,Wz _ _ l,eO,ii.start (Bh.mpr ⟨Cc,Cd⟩) (Y.nd J) (λy hy=>by rwa[Ad.mp hy]) Y.sub,λL a c dD cA H6 s6 n6 eL e1 e2 f1 f2 lo=>?_⟩;have C5:=MH.trans s6;have WB:=M.trans C5;have MI:=C5 _ _ C4;have WC:=MH _ _ C4;have fp:a≠S:=by
   obtain rfl|f1:=f1
   ·exact λe=>by rw[e,C4]at O;cases O
   ·exact λe=>by rw[e,WC]at f1;cases f1
  have fo:c≠S:=by
   obtain rfl|f2:=f2
   ·exact λe=>by rw[e,s4 _ _<|U _ _ C4]at n5;cases n5
   ·exact λe=>by rw[e,WC]at f2;cases f2
  refine jN rfl (aQ.of eL) (bw 4 nd<|bw 5 nd ?_);refine dP (P6<|ae 5 (v:= .ref c) ⟨!cA.isEmpty,Or.inl ⟨_,au.of e2,by cases cA<;>rfl⟩,?_⟩);have WD:=C5 _ _ Wy;have yj:=r.same C5;have lI:=I.len;have lN:=(Ac.mp d).1;rw[Aa]at lN;cases cA with
  |nil=>exact bR<|a9<|a9 ⟨us,st,_,_,_,WB,WD,yj,fS,I.skip J d Y lo,rfl⟩
  |cons y l'=>
   refine cv<|gG<|ka<|ae 2 ⟨S,rfl,⟨_,MI⟩,d9<|ah<|ae 4<|ah<|ae 5<|ax ⟨Z2,λt ht=>?_⟩⟩;have m:=aS ht<|.tup [.ref a,.ref c];have eT:(upd H6 t<|.tup [.ref a,.ref c]) t=some (.tup [.ref a,.ref c]):=az;have tS:t≠S:=λe=>by rw[e,MI]at ht;cases ht
   have hl:=r.len;generalize upd H6 t (.tup [.ref a,.ref c])=H7 at m eT;have yk:=yj.same m;refine⟨_,m _ _ MI,by rw[Aa];exact cg (by omega),a9<|a9 ⟨us++[(t,a,c)],st++[(dD,y :: l')],_,_,_,fI (WB.trans m) hS,by rw[aw Õ];exact m _ _ WD,⟨?_,by rw[Ag,Ag,hl];rfl,λj u s b hs=>?_⟩,λu b=>?_,I.step J d Y lo (λe=>by cases e),rfl⟩⟩
   ·rw[az,Al];rfl
   ·by_cases hj:j<us.length
    ·rw[Ax hj]at b;rw[Ax<|(by omega)]at hs;obtain⟨b1,b2,b3⟩:=yk.at' j u s b hs;obtain⟨g1,g2⟩:=fS u<|Ao b;exact⟨by rwa[aw<|cf b1 yk.lst λz=>nomatch z],by rwa[aw g1],by rwa[aw g2]⟩
    ·rw[Bd<|(by omega)]at b hs;have gN:j-us.length=0:=by
      have:=(Ac.mp b).1;simp at this;omega
     rw[gN]at b;rw[<-hl,gN]at hs;cases b;cases hs;exact⟨by rwa[aw tS],by rw[aw fp];exact m _ _ e1,by rw[aw fo];exact m _ _ e2⟩
   ·obtain k|k:=Am.mp b
    ·exact fS u k
    ·rw[Ad.mp k];exact⟨fp,fo⟩
 ·rintro σ p ⟨us,st,u3,u4,u5,M,Wy,r,fS,I,rfl⟩;rw[Aa,Aa]at I;refine bS<|a8 bQ<|bC GL G<|ah<|ae 2<|ah<|di<|ax ⟨Z0,λA O=>ah<|ae 1<|ax ?_⟩;have D:=aS O<|.lst [];have l:(upd p A<|.lst []) A=some (Ls []):=az;generalize upd p A (.lst [])=H3 at D l;refine⟨S,A,o,us,n,st,[],os,rfl,r.same D,I.cL,hn,l,D _ _<|M _ _ ho,ii.start Cd (hO.nd J) (λy hy=>by cases hy) hO.sub,λL a c dD cA H6 s6 n6 eL e1 e2 f1 f2 lo=>aG ⟨L,_,_,.ref a,rfl,rfl,aQ.of eL,rfl,?_⟩⟩;exact q a dD H6 ((M.trans D).trans s6) e1<|I.whole J tL hO lo
abbrev WG:Ð:=["rows","some","core","cut"]
abbrev yl:Ð:=["rows","some","core","cut","tie"]
def ym:ak WG ["rows","some"] (aW z6):=cm
def Sm:yl.Nodup:=by decide +kernel
theorem O4(F:bB K "parted" "parted" z6 f fd)(T:Txt mg)(GK:(aP P w K mg Z) 5 "cores_of" ["rows"] MC)(GC:(aP P w K mg Z) 5 "cut_of" ["rows","points"] CY)(GB:(aP P w K mg Z) 5 "points_by" ["rows","odds"] sv)(GO:(aP P w K mg Z) 5 "odd_points" ["rows","some"] C1)(GM:(aP P w K mg Z) 5 "summed" ["one","other"] C0):(aE P w K mg Z bK) 6 f fd ["rows","some"] ME:=by
 refine F.gc ym λb0 H vs Q E j h=>?_;obtain⟨R,p,as,n,ss,rfl,r,hN,b,hf,hn,dZ,s,wG,cW,q1,q2⟩:=h;have nd:=ym.nd;have CA:=A6 b wG cW;refine jF (bC GK j<|ah<|ae 0<|ax ⟨R,as,n,rfl,r,hN,b,(by omega),dZ,λC cu cs H1 B n1 G l fC=>⟨C,rfl,⟨_,au.of G.1⟩,?_⟩⟩);have Õ:=G.2.1;have sr:=o6 b (ends n) [] λe he=>he;have Ö:=l.len;refine jG (xs:=cu.map V.ref) (λi I J=>∃(u2:Option V),aj H1 J/\(∀c∈cs.take i,(c.filter λz=>ss.contains z).length%2=0)/\I=[(some (.ref R)),(some (.ref p)),u2,none]) ⟨_,aj.refl _,λc h=>(by rw[VG]at h;cases h),rfl⟩ ?_ ?_ ?_
 ·rintro i I J _ ⟨_,a,_⟩;exact au.of<|a _ _ G.1
 ·rintro i x I H2 hx ⟨u2,a,N,rfl⟩;rw[Ah,Az]at hx;obtain⟨u,hu,rfl⟩:=hx;have hi:i<cs.length:=by have:=(Ac.mp hu).1;omega
  have O:=Ab hi;have U:=G.2.2 i u _ hu O;have iB:cs[i]∈cs:=Bt hi;have km:=Ab (show i<(bu n).length by omega);have wk:=sr _<|Ao km;have m:=CL wk.ends<|l.mem i _ _ O km;have WH:=l.gL _ iB;have iW:=xT O;generalize cs[i]=c at O U iB m WH iW;have jL:=A6 b (gq WH) m;refine bw 2 nd ?_;refine dP<|cz fX<|bh dh<|cM eU T.len DY<|ah<|jb (aW z6) WG yl 1 (gD bI)<|ae 2 ⟨u,rfl,⟨_,au.of<|a _ _ U⟩,λD hD=>?_⟩;refine v7 (λz=>ss.contains z) (cg<|(by omega)) (a _ _ U) hD (λcl C s0 H0 ex v v0 J R' h=>bw 4 Sm h) (λcl C s0 H0 ex z zs T' h=>oQ<|cz oH<|ae 4<|ae 1 ⟨p,_,rfl,.inl (au.of<|by rw[aw<|bz (a _ _<|B _ _ s) hD];exact a _ _<|B _ _ s),rfl,my _,_,rfl,?_⟩) (λcl C s0 H0 ex z J R' h=>ae 4 h) ?_
  ·have fF:∀(x y:Bool),(if false=true then x else y)=y:=λ_ _=>rfl;rwa[fF,mw]
  have Y:=aS hD<|.lst<|(c.filter λz=>ss.contains z).map V.str;refine ax ⟨D,_,rfl,.inl<|au.of az,aG ⟨_,_,rfl,rfl,(by show(0:Int)<2;decide),aG ⟨rfl,_,rfl,?_⟩⟩⟩;generalize upd H2 D (.lst<|(c.filter λz=>ss.contains z).map V.str)=H3 at Y;rw[Aa]
  by_cases k:(c.filter λz=>ss.contains z).length%2=1
  ·rw[BW<|BZ V.int<|(by omega)];refine cv<|bS<|d9<|ah<|fZ<|ah<|ae 2<|ax ⟨Z2,λt o=>?_⟩;have s3:=aS o<|.tup [.str "odd",.ref u];have q:=(B.trans a).trans Y;exact q1 t u c _ (q.trans s3) (q.free o) (fC u<|Ao hu) az (s3 _ _<|Y _ _<|a _ _ U) ⟨cs,l,iB⟩ k
  ·rw[BR λh=>k<|by have:=V.int.inj h;omega];refine bR<|a9<|a9 ⟨_,a.trans Y,λd hd=>?_,rfl⟩;rw[iW]at hd
   obtain h|h:=Am.mp hd
   ·exact N d h
   ·rw[Ad.mp h];omega
 ·rintro I H2 ⟨u2,a,N,rfl⟩;rw[Aa,Õ,Ca]at N;have ec:sj n ss:=⟨cs,l,N⟩;have ML:=B.trans a;refine aZ 3 nd (bC GC j<|ah<|ae 0<|ah<|bC GB j<|ah<|ae 0<|ah<|bC GO j<|ah<|ae 0<|ah<|ae 1<|ax ⟨R,p,as,n,ss,rfl,r.same ML,(by omega),(by omega),ML _ _ s,λò os H3 s3 n3 eO pO=>?_⟩);have q:=ML.trans s3;refine ax ⟨R,ò,as,n,os,_,rfl,r.same q,hN,b,hn,dZ,eO,Wx pO,eH b hf ec,λA ps H4 s4 eA zF=>?_⟩;have MM:=q.trans s4;refine ax ⟨R,A,as,n,ps,rfl,r.same MM,b,(by omega),dZ,eA,λM ms H5 s5 n5 eM kq mM lM=>?_⟩;have MO:=MM.trans s5;have Ø:=A6 b (gq kq) λz hz=>pq<|(mM z).mp hz;refine bS (d9<|ah<|fZ<|ah<|bC GM j<|ah<|ae 1<|ah<|ae 3<|ax ⟨p,M,ss,ms,rfl,MO _ _ s,eM,(by omega),λL rs H6 s6 n6 eL sL nL mL=>ah<|ae 3<|ax ⟨(by show 3<=sizeLine;decide),λt o=>?_⟩⟩);have WK:=MO.trans s6;have s7:=aS o<|.tup [.str "parts",.ref L,.ref M];exact q2 t L M rs ms ps _ (WK.trans s7) (WK.free o) (MO.free n6) (MM.free n5) (λe=>by rw[e,eM]at n6;cases n6) az (s7 _ _ eL) (s7 _ _<|s6 _ _ eM) ec (wD sL nL) kq (IN b zF mM mL) mM mL
def sy:Sp:=λc H Q _=>∃dl t n e,c=[.ref dl,.ref t]/\bp n H dl 1/\(n.map (·.1)).Nodup/\aq n/\(ag n).length<=1000/\e∈ends n/\H t=some (TN n e) /\
 ∀l b a,aj H a->H l=none->a l=some (.lst<|(b.map V.ref))->dY n a b (face n e)->Q (.ref l) a
def MQ:Sp:=λc H Q _=>∃R as n,c=[.ref R]/\ai H R as n/\(n.map (·.1)).Nodup/\aq n/\n.length<=1000/\(ag n).length<=200 /\
 ∀L b a,aj H a->H L=none->iV n a L b (ci n)->(∀l∈b,H l=none)->Q (.ref L) a
abbrev Bn:Ð:=["steps","first","face","end"]
def yn:ak Bn ["steps","first"] (aW Iu):=cm
theorem WA(F:bB K "face_from" "face_from" Iu f fd)(T:Txt mg):(aE P w K mg Z bK) 1 f fd ["steps","first"] sy:=by
 refine F.gc yn λb0 H vs Q E hr h=>?_;obtain⟨dl,t,n,e,rfl,hL,hN,D,dZ,y,G,q⟩:=h;have nd:=yn.nd;have pB:=fz n;have hu:=hr.u1;have un:=hr.iL;obtain⟨k,A,hk⟩:=Sw D y;have k0:=A.pos;have WL:∀{o:Hp}{c:Nt.bc}{u:Addr},aj H o->c∈ends n->o u=some (TN n c)->∃v,bb o dl (.ref u) ((some (.ref v)))/\o v=some (TN n<|step n c):=λ{o c u}sm hc I=>by
  obtain⟨v,g,e⟩:=(hL.same sm).get hc I;rw[<-tZ D hc]at e;exact⟨v,g,e⟩
 refine aZ 2 nd<|di<|ah<|ae 1<|ax ⟨Z1,λl J=>?_⟩;have p:=aS J<|.lst [.ref t];have el:(upd H l<|.lst [.ref t]) l=some (.lst<|[t].map V.ref):=az;generalize upd H l (.lst [.ref t])=H1 at p el;obtain⟨u1,g1,e1⟩:=WL p y<|p _ _ G;refine aZ 3 nd<|gJ hu<|ae 0<|ae 1 ⟨dl,.ref u1,rfl,g1,?_⟩;refine vT (λm σ d=>∃j i u,m=k-j/\0<j/\j<=k/\aj H d/\d l=some (.lst<|(i.map V.ref))/\dY n d i (fl n e j)/\d u=some (TN n<|(it (step n)) j e)/\σ=[(some (.ref dl)),(some (.ref t)),(some (.ref l)),(some (.ref u))])
  (m0:=k-1) ⟨1,[t],u1,rfl,Ff,k0,p,el,⟨rfl,λj x c r L=>?_⟩,e1,rfl⟩ ?_
 ·match j with
  |0=>cases r;cases L;exact p _ _ G
  |j+1=>simp at r
 rintro m σ d ⟨j,i,u,rfl,j0,j1,M,B,s,N,rfl⟩;have ul:=je (λa ha=>mq D ha) y j;refine cz (tP un) (ae 3<|ae 1 ⟨1,_,(by decide),Uy N<|M _ _ G,_,rfl,?_⟩);rw[UO hN ul y];have tl:=s.1;rw[rh]at tl
 by_cases c:(it (step n)) j e=e
 ·rw[BW c];have O:j=k:=by
   obtain h|h:=Da j k
   ·exact absurd c<|A.first j j0 h
   ·omega
  subst O;refine bR<|bS<|ae 2<|q l i d M J B ?_;unfold face;rwa[Sv A]
 ·rw[BR c];have O:j<k:=by
   obtain h|h:=Da j k
   ·exact h
   ·have:j=k:=(by omega)
    subst this;exact absurd A.back c
  refine cv (gG<|ka<|ae 2 ⟨l,rfl,⟨_,B⟩,ae 3 ⟨_,B,by rw[Aa];exact cg (by omega),?_⟩⟩);have U:aj H (upd d l<|.lst<|(i.map V.ref)++[.ref u]):=fI M J;have um:(upd d l<|.lst<|(i.map V.ref)++[.ref u]) l=some (.lst<|(i++[u]).map V.ref):=by rw[az,Al];rfl
  have C:∀b Y j',d b=some (Tn Y j')->(upd d l<|.lst<|(i.map V.ref)++[.ref u]) b=some (Tn Y j'):=λb Y j' h=>by
   rwa[aw<|cf h B λz=>nomatch z]
  generalize upd d l (.lst<|(i.map V.ref)++[.ref u])=H3 at U um C;obtain⟨v2,g4,e4⟩:=WL U ul<|C _ _ _ N;refine aZ 3 nd<|gJ hu<|ae 0<|ae 3 ⟨dl,.ref v2,rfl,g4,?_⟩;refine a9 ⟨k-(j+1),(by omega),j+1,i++[u],v2,rfl,Ey _,O,U,um,?_,e4,rfl⟩;rw[Sx];refine(s.keep C).append ⟨rfl,λj x c r L=>?_⟩
  match j with
  |0=>cases r;cases L;exact C _ _ _ N
  |j+1=>simp at r
abbrev nr:Ð:=["rows","ends","steps","told","faces","first","face","end"]
def yo:ak nr ["rows"] (aW Ir):=cm
structure Told(n:bi)(ks:List<|List Key)(tl:List Nt.bc):Prop where
 fM:ks.Nodup
 mem:∀e∈ends n,ff n e∈ks↔e∈tl
 of:∀k∈ks,∃e∈ends n,k=ff n e
def Told.len(h:Told n ks tl):ks.length<=(ends n).length:=by
 have:=h.fM.length_le_of_subset λk a=>by
  obtain⟨e,b,rfl⟩:=h.of k a;exact Ak.mpr ⟨e,b,rfl⟩
 rwa[Aa]at this
open Classical in
def Told.add(j:(n.map (·.1)).Nodup)(h:Told n ks tl){e:Nt.bc}(f:e∈ends n):Told n (if ff n e∈ks then ks else ff n e :: ks) (tl++[e]):=by
 have inj:∀{a b:Nt.bc},a∈ends n->b∈ends n->ff n a=ff n b->a=b:=λ{a b}d l k=>by
  obtain⟨q,m⟩:=af.mp d;obtain⟨r,o⟩:=af.mp l;exact rF j (cB m) (cB o) k
 by_cases c:ff n e∈ks
 ·rw[BP c];refine⟨h.fM,λa d=>?_,h.of⟩;rw[h.mem a d,Am,Ad];exact⟨λk=> .inl k,λk=>by
   obtain k|k:=k
   ·exact k
   ·rw[k];exact(h.mem e f).mp c⟩
 ·rw[BL c];refine⟨Bh.mpr ⟨c,h.fM⟩,λa d=>?_,λk p=>?_⟩
  ·rw[Ai,h.mem a d,Am,Ad]
   constructor
   ·rintro (k|k)
    ·exact .inr<|inj d f k
    ·exact .inl k
   ·rintro (k|k)
    ·exact .inr k
    ·exact .inl<|by rw[k]
  ·obtain i|i:=Ai.mp p
   ·exact⟨e,f,i⟩
   ·exact h.of k i
open Classical in
theorem qy(F:bB K "faces_of" "faces_of" Ir f fd)(T:Txt mg)
  (GO:(aP P w K mg Z) 3 "ends_in_order" ["rows"] BI)
  (GL:(aP P w K mg Z) 3 "left_steps" ["rows"]<|ic 1)
  (GF:(aP P w K mg Z) 3 "face_from" ["steps","first"] sy):
  (aE P w K mg Z bK) 4 f fd ["rows"] MQ:=by
 refine F.gc yo λb0 H vs Q E hr h=>?_;obtain⟨R,as,n,rfl,hR,hN,hT,hn,dZ,q⟩:=h;have nd:=yo.nd;have pB:=fz n;have hu:=hr.u1;show ge _ _ _ [(some (.ref R)),none,none,none,none,none,none,none] H;refine aZ 1 nd (bC GO hr<|ah<|ae 0<|ax ⟨R,as,n,rfl,hR,hn,(by omega),λú us H1 s1 n1 e1 MR=>?_⟩);have rT:us.length=(ends n).length:=by rw[MR.1];unfold ends;rw[Aa]
 refine dP<|vB<|P6<|ae 1 (v:= .ref ú) ⟨!(us.map V.ref).isEmpty,Or.inl ⟨_,au.of e1,rfl⟩,?_⟩;rw[Bool.not_not]
 by_cases C:ends n=[]
 ·have E7:us=[]:=Bv.mp (by rw[rT,C];rfl);subst E7;refine cv<|bS<|di<|ah<|di<|ax ⟨Z0,λl hl=>ax ⟨Z1,λL A=>?_⟩⟩;have s2:=aS hl<|.lst [];have s3:=aS A<|.lst [.ref l];refine q L [l] _ ((s1.trans s2).trans s3) ((s1.trans s2).free A) ?_ λl' iM=>by rw[Ad.mp iM];exact s1.free hl
  unfold ci;rw[BP C];refine⟨az,rfl,by simp,λhm=>?_,λj l' w G h2=>?_⟩
  ·rw[Ad.mp hm,az]at A;cases A
  ·match j with
   |0=>cases G;cases h2;exact⟨[],s3 _ _ az,rfl,λj t e h=>by simp at h⟩
   |j+1=>simp at G
 have bD:us.map V.ref≠[]:=λh=>C (Bv.mp<|by have:=BZ List.length h;rwa[Aa,rT]at this);have Õ:(us.map V.ref).isEmpty=false:=by
  cases h:us.map V.ref with
  |nil=>exact absurd h bD
  |cons a r=>rfl
 rw[Õ];refine bR<|a9 ?_;refine aZ 2 nd (bC GL hr<|ah<|ae 0<|ax ⟨R,as,n,rfl,hR.same s1,hN,hT,hn,(by omega),λdl kl I s2 n2 e2 v2=>?_⟩);refine aZ 3 nd<|q37 T.nC λD hD=>?_;refine aZ 4 nd<|di<|ax ⟨Z0,λL A=>?_⟩;have KO:bp n I dl 1:=⟨kl,e2,v2⟩;have pP:=s1.trans s2;have pG:L≠D:=λe=>by rw[e,az]at A;cases A
 have nR:I L=none:=by rwa[aw pG]at A
 have xf:=iR pP hD;have rA:=iR pP nR;have sB:aj I (upd (upd I D<|ko P w D []) L<|.lst []):=(aS hD _).trans<|aS A _;have yp:b6 P w (upd (upd I D<|ko P w D []) L<|.lst []) D []:=sq.same<|aS A _;have pH:(upd (upd I D<|ko P w D []) L<|.lst []) L=some (.lst []):=az;have lD:=KO.same sB;have MS:=sB _ _<|s2 _ _ e1;have yq:∀(j:Nat)(t:Addr)(p:Str×Nt.bc),us[j]?=some t->(bn n)[j]?=some p->(upd (upd I D<|ko P w D []) L<|.lst []) t=some (TN n p.2):=λj t p G h2=>sB _ _<|s2 _ _<|MR.2 j t p G h2;show ge _ _ _ [(some (.ref R)),some<|.ref ú,(some (.ref dl)),(some (.ref D)),(some (.ref L)),none,none,none] (upd (upd I D<|ko P w D []) L<|.lst []);generalize upd (upd I D<|ko P w D []) L (.lst [])=J at sB yp pH lD MS yq;have xo:=pP.trans sB;have K1:ú≠L:=bz (s2 _ _ e1) nR;have Ö:ú≠D:=bz (s2 _ _ e1) hD;have Ø:∀{b p j},J b=some (Tn p j)->b≠D:=λh=>yp.ne h λφ z=>nomatch z;refine jF<|ae 1 ⟨ú,rfl,⟨_,au.of MS⟩,?_⟩;refine jG (xs:=us.map V.ref) (λi M B=>∃(ks:List<|List Key)(tl:List Nt.bc)(d:(List Addr))(y:List<|List Nt.bc)(u1 u2 u3:Option V),(∀ b o,b≠D->b≠L->J b=some o->B b=some o)/\b6 P w B D ks/\Told n ks tl /\
  iV n B L d y/\(∀l∈d,J l=none)/\d.length<=i/\jn n (ends n) []=y++jn n ((ends n).drop i) tl/\M=[(some (.ref R)),some<|.ref ú,(some (.ref dl)),(some (.ref D)),(some (.ref L)),u1,u2,u3])
  ⟨[],[],[],[],_,_,_,λb o _ _ h=>h,yp,⟨Cd,λe _=>by simp,λk h=>by simp at h⟩,⟨pH,rfl,Cd,by simp,λj l w h=>by simp at h⟩,λl h=>by simp at h,An _,rfl,rfl⟩ ?_ ?_ ?_
 ·rintro i M B _ ⟨_,_,_,_,_,_,_,N,_⟩;exact au.of<|N _ _ Ö K1 MS
 ·rintro i x M B hx ⟨ks,tl,d,y,u1,u2,u3,N,tD,s,hW,hf,oV,lF,rfl⟩;have hi:i<us.length:=by
   have:=(Ac.mp hx).1;rwa[Aa]at this
  rw[Ah,Ab hi]at hx;cases hx;have uo:i<(bn n).length:=by have:=MR.1;omega
  have rV:J us[i]=some (TN n (bn n)[i].2):=yq i us[i] (bn n)[i] (Ab hi)<|Ab uo;have mF:=UR<|Ab uo;generalize (bn n)[i].2=e at rV mF;have he:e∈ends n:=Ao mF;have ie:(ends n).drop i=e :: (ends n).drop (i+1):=by
   have xq:i<(ends n).length:=(by omega)
   rw[Gd xq]
   congr 1
   have:=Ab xq;rw[mF]at this;exact(Option.some.inj this).symm
  have xt:∀{b p j},J b=some (Tn p j)->B b=some (Tn p j):=λ{b p j}h=>N _ _ (Ø h) (cf h pH λz=>nomatch z) h;have gu:=xt rV;have cW:bp n B dl 1:=by
   obtain⟨Y,a,b⟩:=lD;exact⟨Y,N _ _ (yp.ne a λφ z=>nomatch z) (cf a pH λz=>nomatch z) a,λe he=>let ⟨u,p,r⟩:=b e he;⟨u,p,xt r⟩⟩
  refine bw 5 nd ?_;refine dP<|cz (mX hu)<|ae 5<|ae 3 ⟨ff n e,us[i],D,ks,rfl,rfl,gu,tD,_,rfl,?_⟩;refine jC (λc=>?_) λc=>?_
  ·have hz:ff n e∉ks:=BX c;have dq:e∉tl:=λh=>hz<|(s.mem e he).mpr h;refine aZ 6 nd (bC GF hr<|ah<|ae 2<|ah<|ae 5<|ax ⟨dl,us[i],n,e,rfl,cW,hN,hT,(by omega),he,gu,λl ts H6 s6 n6 e6 K3=>?_⟩);have pI:=s6 _ _ hW.lst;have Ù:=tD.same s6;have rW:L≠l:=bz hW.lst n6;have nS:D≠l:=λk=>tD.some (by rwa[k]);refine gG (ka<|ae 4 ⟨L,rfl,⟨_,pI⟩,ae 6 ⟨_,pI,by rw[Aa];exact cg (by omega),?_⟩⟩);have k7:∀b o,b≠L->H6 b=some o->(upd H6 L<|.lst<|d.map V.ref++[.ref l]) b=some o:=λb o C h=>by rwa[aw C]
   have xu:(upd H6 L<|.lst<|d.map V.ref++[.ref l]) L=some (.lst<|d.map V.ref++[.ref l]):=az;have C6:b6 P w (upd H6 L<|.lst<|d.map V.ref++[.ref l]) D ks:=Ù.keep (by rw[aw<|CK pG]) λb xs h=>by rwa[aw<|cf h pI λz=>nomatch z]
   generalize upd H6 L (.lst<|d.map V.ref++[.ref l])=H7 at k7 xu C6;have xv:∀t p j,H6 t=some (Tn p j)->H7 t=some (Tn p j):=λt p j h=>k7 _ _ (cf h pI λz=>nomatch z) h;have e7:=k7 _ _ (CK rW) e6;have uq:=K3.keep xv;have xA:l∉d:=λhm=>by
    obtain⟨j,hj⟩:=Be hm;have à:=hW.len;have xB:j<y.length:=by have:=(Ac.mp hj).1;omega
    obtain⟨_,a,_⟩:=hW.at' j l y[j] hj<|Ab xB;rw[n6]at a;cases a
   have xC:iV n H7 L (d++[l]) (y++[face n e]):=hW.snoc xu (λa O o ho=>k7 _ _ (λq=>hW.out<|q ▸ O)<|s6 _ _ ho) (λt p j h=>xv _ _ _<|s6 _ _ h) e7 uq xA rW;have á:J l=none:=by
    cases q5:J l with
    |none=>rfl
    |some o=>rw[N _ _ (CK nS) (CK rW) q5]at n6;cases n6
   have B0:∀a∈d++[l],J a=none:=λa O=>by
    obtain O|O:=Am.mp O
    ·exact hf a O
    ·rwa[Ad.mp O]
   have rq:∀b o,b≠D->b≠L->J b=some o->H7 b=some o:=λb o G h2 h=>k7 _ _ h2<|s6 _ _<|N b o G h2 h;have K5:(d++[l]).length<=i+1:=by rw[Ag];show d.length+1<=_;omega
   have rX:jn n (ends n) []=(y++[face n e])++jn n ((ends n).drop<|i+1) (tl++face n e):=by
    rw[lF,ie];show y++(if e∈tl then _ else _)=_;rw[BL dq,Ar];rfl
   have fN:=wx hT he;have Ú:=uq.1;refine jF<|ae 6 ⟨l,rfl,⟨_,au.of e7⟩,?_⟩;refine jG (xs:=(ts.map V.ref)) (λm M H9=>∃(uD:List<|List Key)(u3:Option V),(∀ b o,b≠D->H7 b=some o->H9 b=some o)/\b6 P w H9 D uD/\Told n uD (tl++(face n e).take m) /\
    M=[(some (.ref R)),some<|.ref ú,(some (.ref dl)),(some (.ref D)),(some (.ref L)),some<|.ref us[i],(some (.ref l)),u3]) ⟨ks,_,λb o _ h=>h,C6,by rwa[VG,Bp],rfl⟩ ?_ ?_ ?_
   ·rintro m M H9 _ ⟨_,_,U,_⟩;exact au.of<|U _ _ (CK nS) e7
   ·rintro m x M H9 hx ⟨uD,u3,U,C7,iq,rfl⟩;rw[Ah,Az]at hx;obtain⟨t,WM,rfl⟩:=hx;have Û:m<(face n e).length:=by have:=(Ac.mp WM).1;omega
    have uE:(face n e)[m]?=some (face n e)[m]:=Ab Û;have hc:=fN _<|Ao uE;have iW:(face n e).take (m+1)=(face n e).take m++[(face n e)[m]]:=by rw[Cj,uE];rfl
    have C8:=uq.2 m t _ WM uE;generalize (face n e)[m]=c9 at uE hc iW C8;have Ü:t≠D:=λk=>by rw[k]at C8;exact(C6.ne C8 λφ z=>nomatch z) rfl
    have Ý:=U _ _ Ü C8;have â:=iq.len;refine bw 7 nd ?_;refine gG (Rs hu<|ae 3 ⟨D,rfl,⟨_,C7⟩,ae 7 ⟨ff n c9,t,uD,rfl,Ý,C7,(by omega),λoo MT=>a9 ⟨_,_,λb o C h=>by rw[aw C];exact U b o C h,MT,?_,rfl⟩⟩⟩);rw[iW,<-Ar];exact iq.add hN hc
   ·rintro M H9 ⟨uD,u3,U,C7,iq,rfl⟩;rw[Aa,Ú,Ca]at iq;refine a9<|a9 ⟨uD,tl++face n e,d++[l],y++[face n e],_,_,_,λb o G h2 h=>U b o G<|rq b o G h2 h,C7,iq,?_,B0,K5,rX,rfl⟩;have Þ:∀{b o},H7 b=some o->(∀φ,o≠HO.ext φ)->b≠D:=λh ho=>C6.ne h ho;refine xC.keep ?_ (λa O o ho=>U a o ?_ ho) λt p j h=>U _ _ (Þ h λφ z=>nomatch z) h
    ·rw[xC.lst];exact U _ _ (CK<|CK pG) xC.lst
    ·intro k;have:=B0 a O;rw[k]at this;exact yp.some this
  ·have hz:ff n e∈ks:=CQ λh=>c<|BW h;have dq:e∈tl:=(s.mem e he).mp hz;refine a9 (a9 ⟨ks,tl,d,y,_,_,_,N,tD,s,hW,hf,(by omega),?_,rfl⟩);rw[lF,ie];show y++(if e∈tl then _ else _)=_;rw[BP dq]
 ·rintro M B ⟨ks,tl,d,y,u1,u2,u3,N,tD,s,hW,hf,oV,lF,rfl⟩;rw[Aa,rT,List.drop_length]at lF;have ß:ci n=y:=by
   unfold ci;rw[BL C,lF];exact Bp _
  have sF:aj H B:=λb o h=>N b o (bz h xf) (bz h rA)<|xo _ _ h;refine bS (ae 4<|q L d B sF rA (by rwa[ß]) λl hl=>?_);exact xo.free<|hf l hl
end
end E9
namespace Nt
open PySem L2
def ku(k:Nat):Str:=Str.ofString "f"++Str.ofString (toString (k:Int))
def dR(n:bi)(a:List<|List bc):bi:=a.zipIdx.map λx=>(ku x.2,x.1.map<|aD n)
noncomputable def aI(n:bi):bi:=dR n<|ci n
def x5(n:bi)(a:List<|List bc)(w:List bc):dR n (a++[w])=dR n a++[(ku a.length,w.map<|aD n)]:=by
 unfold dR;rw[QW,Al];simp
def yr(n:bi)(a:List<|List bc):(dR n a).length=a.length:=by unfold dR;simp
variable{ws:List (List bc)}
def Me{n:bi}{i:Nat}{w:List bc}(h:ws[i]?=some w):(dR n ws)[i]?=some (ku i,w.map<|aD n):=by
 unfold dR;rw[Ah,List.getElem?_zipIdx,h];simp
theorem LF{k:Nat}(h:k<=1000):((k:Int)).natAbs.log2<1920:=by
 have e:((k:Int)).natAbs=k:=(by omega)
 rw[e];have:k.log2<=k:=Nat.log2_le_self k;omega
theorem Pp{k:Nat}(h:k<=1000):(ku k).length<=10:=by
 have e:=PySem.int_text_length_le10 (a:=(k:Int)) (k:=4) (by decide) (by omega);unfold ku;rw[Str.length_append,VH,VH];have:("f" : String).length=1:=rfl;omega
end Nt
namespace E9
open PySem L2 Nt bE
def MU:Sp:=λd H Q _=>∃R as n,d=[.ref R]/\ai H R as n/\(n.map (·.1)).Nodup/\aq n/\n.length<=1000/\(ag n).length<=200 /\
 ∀L a c,aj H c->H L=none->(∀b∈a,H b.1=none/\H b.2=none)->ai c L a (aI n)->L∉a.map (·.2)->Q (.ref L) c
variable{Z:Heap}{mg:Ñ}{K:aa}{fd:FuncData}
section
variable{P:Program}{w:World}
abbrev WN:Ð:=["rows","names"]
abbrev sD:Ð:=["rows","names","number","face"]
abbrev yt:Ð:=["rows","names","number","face","end"]
def yu:ak WN ["rows"] (aW qL):=cm
def WO:sD.Nodup:=by decide +kernel
def DO:yt.Nodup:=by decide +kernel
def PP:Scope:=match gY qL with
 |[_,.Return (some<|.ListComp _ _ a _) _]=>a
 |_=>aW qL
def US:Scope:=relabel PP<|PyProof.Rows.envOfC "other_net" (aW qL) 0 0 .none
theorem CS{f:Addr}(F:bB K "other_net" "other_net" qL f fd)(T:Txt mg)
  (GN:(aP P w K mg Z) 4 "ties_by_end" ["rows"] lz)
  (GF:(aP P w K mg Z) 4 "faces_of" ["rows"] MQ):
  (aE P w K mg Z bK) 5 f fd ["rows"] MU:=by
 refine F.gc yu λb0 H vs Q E hr h=>?_;obtain⟨R,as,n,rfl,hR,hN,hT,hn,dZ,q⟩:=h;have nd:=yu.nd;have hu:=hr.u1;have pB:=fz n;have WQ:=ij n;have WR:=Sy hT;refine aZ 1 nd (bC GN hr<|ah<|ae 0<|ax ⟨R,as,n,rfl,hR,hN,hn,(by omega),λd Y H1 s1 n1 e1 v1=>?_⟩);refine bS<|jb (aW qL) WN sD 2 (RI rfl T.enum i8)<|ah<|bC GF hr<|ah<|ae 0<|ax ⟨R,as,n,rfl,hR.same s1,hN,hT,hn,dZ,λL ls M s2 n2 N fL=>ax ⟨L,rfl,⟨_,au.of N.lst⟩,λD hD=>?_⟩⟩;have Õ:=N.len;have WT:aI n=dR n (ci n):=rfl;generalize Þ:ci n=o at N WQ WR Õ WT;have uF:=s2 _ _ e1;refine u7 (xs:=ls.map V.ref) (λi c I=>∃(s:Î)(v1 v2:Option V),c=[(some (.ref R)),(some (.ref d))]++[v1,v2]/\aj M I/\ai I D s (dR n<|o.take i)/\(∀b∈s,M b.1=none/\M b.2=none)/\D∉s.map (·.2)) ⟨[],_,_,rfl,aS hD _,⟨rfl,az,λi a r h=>by simp at h,Cd⟩,λb h=>by simp at h,by simp⟩ ?_ ?_ ?_
 ·rintro i c I _ ⟨_,_,_,_,O,_⟩;exact au.of<|O _ _ N.lst
 ·rintro i x Tt c I U ⟨s,Ö,Ø,rfl,O,u,fB,nB⟩ jT;rw[Ah,Az]at U;obtain⟨l,hl,rfl⟩:=U;have me:=(Ac.mp hl).1;have Ù:i<o.length:=(by omega)
  have hw:o[i]?=some o[i]:=Ab Ù;have iW:o.take (i+1)=o.take i++[o[i]]:=by rw[Cj,hw];rfl
  obtain⟨ts,el,hE⟩:=N.at' i l _ hl hw;obtain⟨vt,BV⟩:=WR _<|Ao hw;generalize o[i]=m at hw iW hE vt BV;have aX:=hE.1;have WU:(o.take i).length=i:=by rw[Br];omega
  have sT:=aS jT<|.tup [.int (i:Int),.ref l];have A:=O.trans sT;intro cl C æ ç ex;refine jN rfl (aQ.of az) (bw 2 WO<|bw 3 WO ?_);have u:=u.same sT;generalize upd I Tt (.tup [.int (i:Int),.ref l])=H3 at A u;intro cl C æ ç ex;refine ja ?_;rw[BP rfl];intro cl C æ ç ex;refine d9<|ah<|q9t<|ae 2 ⟨(i:Int),rfl,LF (by omega),?_,ah<|jb US sD yt 1 (gD bI)<|ae 3 ⟨l,rfl,⟨_,au.of<|A _ _ el⟩,λB lB=>?_⟩⟩
  ·have:=Pp (k:=i) (by omega);exact xp (show(ku i).length<=100000 by omega)
  refine oY (xs:=(ts.map V.ref)) (λj c J=>(∃v,c=[(some (.ref R)),(some (.ref d)),some<|.int (i:Int),(some (.ref l))]++[v])/\aj H3 J/\J B=some (Ls<|(m.take j).map<|aD n)) ⟨⟨none,rfl⟩,aS lB _,az⟩ ?_ ?_ ?_
  ·rintro j c J _ ⟨_,y,_⟩;exact au.of<|y _ _<|A _ _ el
  ·rintro j x c J U ⟨⟨v,rfl⟩,y,C9⟩;rw[Ah,Az]at U;obtain⟨t,ht,rfl⟩:=U;have hj:j<m.length:=by have:=(Ac.mp ht).1;omega
   have he:m[j]?=some m[j]:=Ab hj;have mB:m.take (j+1)=m.take j++[m[j]]:=by rw[Cj,he];rfl
   have lq:=(hE.same<|A.trans y).2 j t _ ht he;have qY:=BV _<|Ao he;generalize m[j]=e at he mB lq qY;obtain⟨z,hz⟩:=af.mp qY;have Ú:bb J d (.ref t) (some<|.str<|aD n e):=by rw[eY hz,<-v1 e z hz];exact bb.t (k:=ff n e) ((A.trans y) _ _ uF) lq
   intro cl C æ ç ex;refine bw 4 DO ?_;intro cl C æ ç ex;refine ja ?_;rw[BP rfl];intro cl C æ ç ex;refine gJ hu<|ae 1<|ae 4 ⟨d,.str<|aD n e,rfl,Ú,_,C9,?_,⟨_,rfl⟩,fI y lB,?_⟩
   ·rw[Aa,Aa,Br];exact cg<|(by omega)
   ·rw[az,mB,Al];show some (HO.lst<|((m.take j).map<|aD n).map V.str++[V.str<|aD n e])=some (HO.lst<|((m.take j).map (aD n)++[aD n e]).map V.str);rw[Al];rfl
  ·rintro c J ⟨_,y,C9⟩;have lJ:m.take ((ts.map V.ref)).length=m:=Cs (by rw[Aa];omega);rw[lJ]at C9;refine ax ⟨Z2,λt ht=>?_⟩;have s5:=aS ht<|.tup [.str<|ku i,.ref B];have yv:=(u.same y).same s5;have kh:=s5 _ _ C9;have Û:(upd J t<|.tup [.str<|ku i,.ref B]) t=some (.tup [.str<|ku i,.ref B]):=az;have Ü:=(A.trans y).trans s5;have t4:M t=none:=(A.trans y).free ht;have d4:M B=none:=A.free lB;have Ý:B∉s.map (·.2):=λG=>by
    obtain⟨b,p,eb⟩:=Ak.mp G;obtain⟨zs,WV⟩:=u.lists p;rw[eb,lB]at WV;cases WV
   have WW:B≠D:=λk=>by
    have:=u.lst;rw[<-k,lB]at this;cases this
   have more:=yv.more Û kh Ý WW;have bl:s.length=i:=by rw[yv.len,yr,WU]
   refine⟨_,yv.lst,by rw[Aa,bl];exact cg (by omega),s++[(t,B)],_,_,rfl,?_,?_,λb p=>?_,λG=>?_⟩
   ·exact fI Ü hD
   ·rw[iW,x5,WU];exact more
   ·obtain p|p:=Am.mp p
    ·exact fB b p
    ·rw[Ad.mp p];exact⟨t4,d4⟩
   ·rw[Al,Am]at G
    obtain G|G:=G
    ·exact nB G
    ·exact WW (Ad.mp G).symm
 ·rintro c I ⟨s,Ö,Ø,rfl,O,u,fB,nB⟩;have lJ:o.take (ls.map V.ref).length=o:=Cs (by rw[Aa];omega);rw[lJ,<-WT]at u;have pP:=s1.trans s2;exact q D s I (pP.trans O) (pP.free hD) (λb p=>⟨pP.free (fB b p).1,pP.free (fB b p).2⟩) u nB
end
end E9
namespace L2
open PySem PySem.Spec PyProof.Rows
variable{tg:Expr}{X:Cx}
variable{wi:TI}{N':Ð}{scope:Scope}{ifs:Ó}
variable{T:Bool->Hp->Prop}{Q:VK}{H:Hp}{σ:St}
variable{es:Ó}{sp:Addr->Obj->Sp}{ps:Ð}
end L2
namespace E9
open PySem L2 Nt bE bP
open PyProof.Rows (sortedS)
def sE:Sp:=λd H Q _=>∃R as n,d=[.ref R]/\ai H R as n/\n.length<=1000/\(ag n).length<=900/\(∀b:Ð,b.Nodup->(∀z∈b,z∈ag n)->b.length<64) /\
 ∀L a c,aj H c->H L=none->c L=some (Ls a)->a.Nodup->sortedS a=true->(∀z,z∈a↔z∈ag n)->Q (.ref L) c
variable{zs:Ð}
def LB{z:Str}(h:zs.Nodup):(added zs z).Nodup:=by
 unfold added
 split
 ·exact h
 ·rename_i a;exact oK h a
def cj{z y:Str}:y∈added zs z↔y∈zs\/y=z:=by
 unfold added
 split
 ·rename_i a;refine⟨.inl,λh=>h.elim id λe=>?_⟩;rwa[e]
 ·rw[Am,Ad]
def WX{n:bi}{r:Nat}(h:r<n.length):ag (n.take<|r+1)=ag (n.take r)++row n r:=by
 rw[jm h];unfold ag;rw[Cj,Ab h,Dp];simp
def dE:Ð:=["NoTie"]
structure Cl(K:aa)(mg:Ñ)(c:Str->Addr):Prop where
 net:mg "NetError" = some (.ref<|c "NetError")
 x0K:XC K<|c "NetError"
 at':∀ x∈dE,mg x=some (.ref<|c x)/\XC K (c x)/\Vx K (c x) (c "NetError")=true/\Vy K (c x)=true/\PySem.W.kitOne K (.ref<|c x) (.type "ValueError")=some true
 kit:∀x∈dE,∀y∈dE,PySem.W.kitOne K (.ref<|c x) (.ref<|c y)=some (decide (x=y))
def j3(K:aa)(x:Str):Addr:=match PySem.W.nsIn K mainGlobals x with
 |some ((some (.ref a)))=>a
 |_=>0
def MV(K:aa):Bool:=(PySem.W.nsIn K mainGlobals "NetError" == some (some<|.ref<|j3 K "NetError")) && PySem.W.excIn K (j3 K "NetError") n8 "ValueError.__new__" &&
 dE.all λx=>(PySem.W.nsIn K mainGlobals x == some (some<|.ref<|j3 K x)) && PySem.W.excIn K (j3 K x) n8 "ValueError.__new__" && Vx K (j3 K x) (j3 K "NetError") && Vy K (j3 K x) && (PySem.W.kitOne K (.ref<|j3 K x) (.type "ValueError") == some true) &&
  dE.all λy=>PySem.W.kitOne K (.ref<|j3 K x) (.ref<|j3 K y) == some (decide (x=y))
variable{mg:Ñ}{K:aa}
def Pe{h:Heap}(X:K.In h)(G:h.Ns mainGlobals mg)(q:MV K=true):Cl K mg (j3 K):=by
 unfold MV at q;simp only[Cb,Ej,HY]at q;obtain⟨⟨c,d⟩,b⟩:=q;exact⟨MP X G c,d,λx a=>by obtain⟨⟨⟨⟨⟨e,f⟩,i⟩,j⟩,k⟩,_⟩:=b x a;exact⟨MP X G e,f,i,j,k⟩,λx a y l=>(b x a).2 y l⟩
def WY(n:bi):Prop:=∀zs:Ð,zs.Nodup->(∀z∈zs,z∈ag n)->zs.length<64
def MX(c:Str->Addr):Sp:=λb H Q E=>∃R as n z,b=[.ref R,.str z]/\ai H R as n/\n.length<=1000/\(ag n).length<=900/\WY n /\
 (z∉ag n->∀ a,aj H a->E (.ref<|c "NoTie") none a)/\(z∈ag n->∀a,aj H a->Q .non a)
variable{Z:Heap}{fd:FuncData}{f:Addr}{c:Str->Addr}
section
variable{P:Program}{w:World}
abbrev yw:Ð:=["rows"]
abbrev yx:Ð:=["rows","point","ties","tie"]
def lK:ak yw ["rows"] (aW zX):=cm
def MY:yx.Nodup:=by decide +kernel
theorem I7(F:bB K "ties_of" "ties_of" zX f fd)(T:Txt mg):(aE P w K mg Z bK) 1 f fd ["rows"] sE:=by
 refine F.gc lK λb0 H vs Q E hr h=>?_;obtain⟨R,as,n,rfl,u,hn,ht,Y,q⟩:=h;have cq:=u.len;have MZ:∀r,r<n.length->∀z,z∈ag (n.take r)\/z∈row n r->z∈ag n:=λr nP z I=>by
  have e:ag n=ag (n.take<|r+1)++ag (n.drop<|r+1):=by
   unfold ag;rw[<-Dp,Cw]
  rw[e,WX nP]
  obtain h|h:=I<;>simp[h]
 refine bS<|cM (Q7 rfl) T.sorted DR<|ah<|k9i (aW zX) yw yx 3 (gD bI)<|ae 0 ⟨R,rfl,⟨_,au.of u.lst⟩,λD hD cl C æ ç ex=>?_⟩;refine w9 (xs:=as.map λa=>V.ref a.1) (λr c i=>(∃v1 v2 j,c=[(some (.ref R))]++[v1,v2,j])/\∃zs:Ð,aj H i/\i D=some (bq P w D zs)/\zs.Nodup/\∀z,z∈zs↔z∈ag (n.take r)) ⟨⟨none,none,none,rfl⟩,[],aS hD _,az,Cd,λz=>UW⟩ ?_ ?_ ?_
 ·rintro r c i _ ⟨_,zs,d,_⟩;exact au.of<|d _ _ u.lst
 ·rintro r x c i k ⟨⟨v1,v2,j,rfl⟩,zs,d,v,A,m⟩;have J:r<n.length:=by
   have:=(Ac.mp k).1;rw[Aa]at this;omega
  obtain⟨a,ea,dJ,et,L,er⟩:=(u.same d).at J;rw[Ah,ea]at k;cases k;refine jN rfl (aQ.of et) (bw 1 MY<|bw 2 MY ?_);refine ja ?_;rw[BP rfl];refine nq rfl rfl (gD bI) (ae 2 ⟨a.2,rfl,⟨_,au.of L⟩,?_⟩);have M:a.2≠D:=cf L v λz=>nomatch z;refine w9 (xs:=(row n r).map V.str) (λp c s=>(∃j,c=[(some (.ref R))]++[some<|.str n[r].1,some<|.ref a.2,j])/\∃zs:Ð,(∀b o,b≠D->i b=some o->s b=some o)/\s D=some (bq P w D zs)/\zs.Nodup/\∀z,z∈zs↔z∈ag (n.take r)\/z∈(row n r).take p)
   ⟨⟨_,rfl⟩,zs,λb o _ h=>h,v,A,λz=>by rw[m z];simp⟩ ?_ ?_ ?_
  ·rintro p c s _ ⟨_,zs,t,_⟩;exact au.of<|t _ _ M L
  ·rintro p x c s k ⟨⟨j,rfl⟩,zs,t,N,B,G⟩;rw[Ah,Az]at k;obtain⟨z,I,rfl⟩:=k;refine bw 3 MY ?_;refine ja ?_;rw[BP rfl];have O:zs.length<64:=Y zs B λy U=>MZ r J y<|((G y).mp U).imp id λh=>List.mem_of_mem_take h;refine oU (ae 3 ⟨z,zs,rfl,N,(by omega),⟨_,rfl⟩,added zs z,λb o hb h=>by rw[aw hb];exact t b o hb h,az,LB B,λy=>?_⟩);rw[cj,G y,Cj,I,or_assoc];simp
  ·rintro c s ⟨⟨j,rfl⟩,zs,t,N,B,G⟩;refine⟨⟨_,_,_,rfl⟩,zs,λb o h=>t b o (bz h hD)<|d _ _ h,N,B,λz=>?_⟩;rw[G z,Aa,Ca,WX J,Am]
 ·rintro c i ⟨_,zs,d,v,A,m⟩;rw[Aa,cq,Ca]at m;refine ax ⟨D,zs,rfl,v,Y zs A λy U=>(m y).mp U,λl ss O hp hs=>?_⟩;exact q l ss _ (d.trans<|aS O _) (iR d O) az (hp.nodup_iff.mpr A) hs λz=>by rw[hp.mem_iff,m z]
abbrev TM:Ð:=["rows","tie"]
def lP:ak TM ["rows","tie"] (aW Iv):=cm
def Lm(F:bB K "need_tie" "need_tie" Iv f fd)(T:Txt mg)(d:Cl K mg c)(GT:(aP P w K mg Z) 1 "ties_of" ["rows"] sE):aE P w K mg Z (XF P w) 2 f fd ["rows","tie"] (MX c):=by
 refine F.gx lP (λj H Q E h=>?_) λu H j Q l h=>?_
 ·obtain⟨R,as,n,z,rfl,_⟩:=h;rfl
 obtain⟨R,as,n,z,rfl,m,o,p,q,r,s⟩:=h;have e:("NoTie" : Str)∈dE:=(by decide)
 refine dP<|cz Pb<|ae 1<|bC GT l<|ah<|ae 0<|ax ⟨R,as,n,rfl,m,o,p,q,λL v x i y t snd A a=>⟨L,_,rfl,.inl<|au.of t,rfl,my _,_,rfl,?_⟩⟩;rw[BP rfl,mw,uA]
 by_cases b:z∈ag n
 ·rw[BW<|(a z).mpr b];exact bR<|a9<|a9<|s b _ i
 ·rw[BR λk=>b<|(a z).mp k];refine cv<|q1p Mo (d.at' _ e).1 (d.at' _ e).2.1 rfl (ah<|fZ<|ax ⟨Z1,r b _ i⟩)
end
end E9
namespace Nt
open PySem L2 Classical
abbrev less(T:Ð)(t:Str):Ð:=T.filter λz=>!decide (z=t)
variable{z:Str}
def bd{T:Ð}{t:Str}:z∈less T t↔z∈T/\z≠t:=by
 rw[Bf,LQ,GZ]
def uG(n:bi)(z:Str)(w:Str)(ss:Ð):Prop:=b8 ss/\(∀y∈ss,y∈ag n)/\z∈ss /\
  ((w = "double" ∧ cC n ss=true ∧ (∃a, aN n ss a) ∧ ∃b, cS n b ∧ ss ∈ b) ∨
   (w = "cut"/\(∃a,aN n ss a)/\cC n (less ss z)=true/\sj n [z]) \/
   (w = "round"/\cC n ss=true/\(∃a,aN n (less ss z) a)/\sj n [z]))
variable{c:Ð}{cs:List Ð}{n:bi}
def nk(T:aq n)(j:HF n)(k:(ce n).Nodup)(l:0<n.length)(C:cS n cs)(b:c∈cs):b8 c/\(∀z∈c,z∈ag n)/\cC n c=true/\∃o,aN n c o:=by
 obtain⟨i,d⟩:=Be b;have f:=(Ac.mp d).1;rw[C.len]at f;have h:=Ab f;have a:=Ao h;have wk:=o6 T (ends n) [] (λe p=>p) _ a;have m:=C.mem i _ _ d h;exact⟨C.gL c b,CL wk.ends m,PM T a m,kH T j k l a m⟩
def Po(h:c.Nodup)(z:Str):(c.filter λy=>[z].contains y).length=if z∈c then 1 else 0:=by
 have e:(c.filter λy=>[z].contains y)=c.filter λy=>y == z:=by
  congr 1
  funext y
  rw[Cf,Bm,Ad,HY]
 rw[e,<-List.count_eq_length_filter]
 by_cases k:z∈c
 ·rw[BP k];exact Nat.le_antisymm (Hg.mp h z)<|Ds.mpr k
 ·rw[BL k];exact Fg k
def q6m(T:aq n)(d:HF n)(e:(ce n).Nodup)(f:0<n.length)(C:cS n cs)(a:c∈cs)(h:(c.filter λy=>[z].contains y).length%2=1):uG n z "double" c:=by
 obtain⟨b,i,j,l⟩:=nk T d e f C a;rw[Po<|gq b]at h;refine⟨b,i,?_,.inl ⟨rfl,j,l,cs,C,a⟩⟩
 by_cases k:z∈c
 ·exact k
 ·rw[BL k]at h;cases h
variable{ss:Ð}
def yy(h:b8 ss)(z:Str):b8 (less ss z):=h.sublist Hl
def vl{a b:Ð}(c:b8 a)(d:b8 b)(e:gO [z] a b)(h:z∈a):less a z=b:=by
 refine JI (yy c z) d λy=>?_;rw[bd,e y]
 by_cases k:y=z
 ·rw[BP<|Ad.mpr k,k];exact⟨λq=>absurd rfl q.2,λq=>absurd h q⟩
 ·rw[BL λq=>k<|Ad.mp q];exact⟨λq=>q.1,λq=>⟨q,k⟩⟩
def oy{a b:Ð}(d:b8 a)(e:b8 b)(c:gO [z] a b)(h:z∉a):z∈b/\less b z=a:=by
 have f:=(c z).mpr (by rwa[BP<|Ad.mpr rfl]);refine⟨f,JI (yy e z) d λy=>?_⟩;rw[bd,c y]
 by_cases k:y=z
 ·rw[k];exact⟨λq=>absurd rfl q.2,λq=>absurd q h⟩
 ·rw[BL λq=>k<|Ad.mp q];exact⟨λq=>q.1,λq=>⟨q,k⟩⟩
def q57(T:aq n)(d:0<n.length){a cs ps:Ð}(e:sj n [z])(f:b8 a)(b:b8 cs)(k:cC n a=true)(c:∀y,y∈cs↔dA n ps y)(i:gO [z] cs a)(h:z∈cs):uG n z "cut" cs:=
 ⟨b,λy j=>pq<|(c y).mp j,h,.inr<|.inl ⟨rfl,JU T d ⟨b,ps,c⟩,by rwa[vl b f i h],e⟩⟩
def k7q(T:aq n)(f:0<n.length)(p:z∈ag n){a cs ps:Ð}(i:sj n [z])(b:b8 a)(c:b8 cs)(j:cC n a=true)(d:∀y,y∈cs↔dA n ps y)(e:gO [z] cs a)(h:z∉cs):uG n z "round" a:=by
 obtain⟨l,m⟩:=oy c b e h;refine⟨b,λy o=>?_,l,.inr<|.inr ⟨rfl,j,by rw[m];exact JU T f ⟨c,ps,d⟩,i⟩⟩;have:=(e y).mp o
 by_cases k:y∈[z]
 ·rwa[Ad.mp k]
 ·rw[BL k]at this;exact pq<|(d y).mp this
end Nt
namespace E9
open PySem L2 Nt bE bP
open PyProof.Rows (sortedS)
open Classical
def M0(c:Str->Addr):Sp:=λd H Q E=>∃R as n z,d=[.ref R,.str z]/\ai H R as n/\(ce n).Nodup/\aq n/\HF n/\0<n.length/\n.length<=31/\(ag n).length<=60 /\
 (z∉ag n->∀ a,aj H a->E (.ref<|c "NoTie") none a)/\(z∈ag n->∀t L w b a,aj H a->H t=none->H L=none->a t=some (.tup [.str w,.ref L])->a L=some (Ls b)->uG n z w b->Q (.ref t) a)
variable{Z:Heap}{mg:Ñ}{K:aa}{c:Str->Addr}{fd:FuncData}
section
variable{P:Program}{w:World}
abbrev kW:Ð:=["rows","tie","told"]
def yz:ak kW ["rows","tie"] (aW IB):=cm
theorem ee{f:Addr}(F:bB K "kind_of" "kind_of" IB f fd)(T:Txt mg)(cl:Cl K mg c)(GN:fD P w K mg Z 7 "need_tie" ["rows","tie"]<|MX c)(GP:(aP P w K mg Z) 7 "parted" ["rows","some"] ME):
  aE P w K mg Z (XF P w) 8 f fd ["rows","tie"] (M0 c):=by
 refine F.gx yz (λvs H Q E h=>?_) λb0 H vs Q D h=>?_
 ·obtain⟨R,as,n,z,rfl,_⟩:=h;rfl
 obtain⟨R,as,n,z,rfl,G,I,l,J,m,hn,dZ,qE,o⟩:=h;have nd:=yz.nd;have p:WY n:=λzs h1 h2=>by have:=aU h1 h2;omega
 refine gG (LV GN D ml<|ah<|ae 0<|ah<|ae 1<|ax ⟨R,as,n,z,rfl,G,(by omega),(by omega),p,λi=>qE i,λi N s1=>?_⟩);refine aZ 2 nd<|bC GP D<|ah<|ae 0<|ah<|di<|ah<|ae 1<|ax ⟨Z1,λA hA=>?_⟩;have O:=aS hA<|.lst [.str z];have U:(upd N A<|.lst [.str z]) A=some (Ls [z]):=az;generalize upd N A (.lst [.str z])=H2 at O U;have j:=s1.trans O;refine ax ⟨R,A,as,n,[z],rfl,G.same j,I,l,J,hn,dZ,U,Bh.mpr ⟨Cc,Cd⟩,λy hy=>by rwa[Ad.mp hy],λt L c q r nt s d v⟨B,C,hc⟩nD=>?_,λt L M rs B ps q r nt s nM Õ d v Y ec sG kq fN fG hx=>?_⟩
 ·show ge _ _ _ [(some (.ref R)),some<|.str z,(some (.ref t))] q;refine dP<|cz fX<|a8 bQ<|ae 2<|aG ⟨t,_,_,.str "odd",rfl,rfl,aQ.of d,rfl,fZ ⟨rfl,_,rfl,?_⟩⟩;rw[BW rfl];refine cv<|bS<|d9<|ah<|fZ<|ah<|a8 bQ<|ae 2<|aG ⟨t,_,_,.ref L,rfl,rfl,aQ.of d,rfl,ax ⟨Z2,λu a=>?_⟩⟩;have b:=aS a<|.tup [.str "double",.ref L];have e:=j.trans r;exact o i u L "double" c _ (e.trans b) (e.free a) (j.free s) az (b _ _ v)<|q6m l J I m C hc nD
 ·show ge _ _ _ [(some (.ref R)),some<|.str z,(some (.ref t))] q;refine dP<|cz fX<|a8 bQ<|ae 2<|aG ⟨t,_,_,.str "parts",rfl,rfl,aQ.of d,rfl,fZ ⟨rfl,_,rfl,?_⟩⟩;rw[BR<|(by decide)];refine bR<|a9<|bS<|q3o<|cz oH<|ae 1<|a8 bQ<|ae 2<|aG ⟨t,_,_,.ref M,rfl,rfl,aQ.of d,rfl,M,_,rfl,.inl<|au.of Y,rfl,my _,_,rfl,?_⟩;have fF:∀(x y:Bool),(if false=true then x else y)=y:=λ_ _=>rfl;rw[fF,mw,uA];have e:=j.trans r
  by_cases k:z∈B
  ·rw[BW k];refine cv<|d9<|ah<|fZ<|ah<|a8 bQ<|ae 2<|aG ⟨t,_,_,.ref M,rfl,rfl,aQ.of d,rfl,ax ⟨Z2,λu a=>?_⟩⟩;have b:=aS a<|.tup [.str "cut",.ref M];exact o i u M "cut" B _ (e.trans b) (e.free a) (j.free nM) az (b _ _ Y)<|q57 l m ec sG kq fN fG hx k
  ·rw[BR k];refine bR<|d9<|ah<|fZ<|ah<|a8 bQ<|ae 2<|aG ⟨t,_,_,.ref L,rfl,rfl,aQ.of d,rfl,ax ⟨Z2,λu a=>?_⟩⟩;have b:=aS a<|.tup [.str "round",.ref L];exact o i u L "round" rs _ (e.trans b) (e.free a) (j.free s) az (b _ _ v)<|k7q l m i ec sG kq fN fG hx k
end
end E9
namespace PySem
variable{E:Í}{U:Program}
end PySem
namespace L2
open PySem PySem.Spec PyProof.Rows
end L2
namespace E9
open PySem L2 Nt bE
open PyProof.Rows (sortedS)
open Classical
def M1:Sp:=λd H Q _=>∃R a as n b,d=[.ref R,.ref a]/\ai H R as n/\n.length<=60/\(ag n).length<=1000/\H a=some (Ls b)/\∀c,aj H c->Q (.bl<|cC n b) c
def M4:Sp:=λd H Q _=>∃R p as n b,d=[.ref R,.ref p]/\ai H R as n/\aq n/\db n/\(n.map (·.1)).Nodup/\0<n.length/\n.length<=60/\(ag n).length<=60/\H p=some (Ls b)/\(∀z∈b,z∈ag n) /\
 (∀L c a,aj H a->H L=none->a L=some (Ls c)->aN n b c->Q (.ref L) a)/\(∀a,aj H a->(∀c,¬ aN n b c)->Q .non a)
variable{Y:List (Key×V)}
theorem M5(a:(Y.map (·.1)).Nodup){k:Key}{v:V}:(k,v)∈Y↔aF Y k=some v:=by
 induction Y with
 |nil=>exact⟨λh=>(by cases h),λh=>(by cases h)⟩
 |cons c r d=>
  rw[Ba,Bh]at a;obtain⟨f,i⟩:=c
  by_cases b:f=k
  ·subst b;rw[iJ rfl]
   constructor
   ·intro h
    obtain e|e:=Ai.mp h
    ·cases e;rfl
    ·exact absurd (Ak.mpr ⟨_,e,rfl⟩) a.1
   ·intro h;cases h;exact Ae ..
  ·rw[iw b,<-d a.2]
   constructor
   ·intro h
    obtain e|e:=Ai.mp h
    ·cases e;exact absurd rfl b
    ·exact e
   ·exact Af _
def sJ:V->Bool
 |.bl b=>b
 |_=>false
def sK:Key->Nat
 |Sum.inl i=>i.toNat
 |_=>0
def kz(n:bi)(Y:List<|Key×V):Ð:=(Y.filter λp=>sJ p.2).map λp=>aC n<|sK p.1
def WZ(n:bi)(Y:List<|Key×V):(kz n Y).length<=Y.length:=by
 unfold kz;rw[Aa];exact Dz _ _
def dU(n:bi)(Y:List<|Key×V)(p:Key×V):kz n (Y++[p])=kz n Y++(if sJ p.2=true then [aC n<|sK p.1]else []):=by
 unfold kz;rw[Cv,Al]
 congr 1
 cases h:sJ p.2<;>simp[h]
variable{n:bi}
def xE(c:(Y.map (·.1)).Nodup)(e:∀k∈Y.map (·.1),∃r:Nat,k=Sum.inl (r:Int)/\r<n.length)(x:Str):x∈kz n Y↔∃r:Nat,dC Y r true/\x=aC n r:=by
 unfold kz;rw[Ak]
 constructor
 ·rintro ⟨⟨k,v⟩,a,rfl⟩;rw[Bf]at a;obtain⟨r,f,_⟩:=e k<|Ak.mpr ⟨_,a.1,rfl⟩;have d:=a.2;subst f;refine⟨r,(M5 c).mp ?_,?_⟩
  ·cases v with
   |bl b=>
    have:b=true:=d;subst this;exact a.1
   |_=>cases d
  ·show aC n ((r:Int).toNat)=aC n r;rw[Bk]
 ·rintro ⟨r,h,rfl⟩;refine⟨(Sum.inl (r:Int),.bl true),Bf.mpr ⟨(M5 c).mpr h,rfl⟩,?_⟩;show aC n ((r:Int).toNat)=aC n r;rw[Bk]
def k2i(f:(n.map (·.1)).Nodup)(i:(Y.map (·.1)).Nodup)(d:∀k∈Y.map (·.1),∃r:Nat,k=Sum.inl (r:Int)/\r<n.length):(kz n Y).Nodup:=by
 have e:((Y.filter λp=>sJ p.2).map (·.1)).Nodup:=i.sublist<|List.filter_sublist.map _;unfold kz;rw[By,Dr]at e ⊢;refine List.Pairwise.imp_of_mem (λ{a b}j l h q=>h ?_) e;obtain⟨r,m,o⟩:=d a.1<|Ak.mpr ⟨a,(Bf.mp j).1,rfl⟩;obtain⟨s,t,c⟩:=d b.1<|Ak.mpr ⟨b,(Bf.mp l).1,rfl⟩;rw[m,t]at q ⊢;have q:aC n ((r:Int).toNat)=aC n ((s:Int).toNat):=q;rw[Bk,Bk]at q;rw[ud f o c q]
abbrev Li(lf:List Nat):HO:= .lst<|lf.map λ(r:Nat)=>V.int (r:Int)
def m3(lf:List Nat)(h:Nat):(((lf++[h]).map λ(r:Nat)=>V.int (r:Int))[((lf++[h]).map λ(r:Nat)=>V.int (r:Int)).length-1]?=some (.int (h:Int)))/\((lf++[h]).map λ(r:Nat)=>V.int (r:Int)).dropLast=lf.map λ(r:Nat)=>V.int (r:Int):=by
 rw[Al]
 constructor
 ·simp
 ·exact List.dropLast_concat
variable{Z:Heap}{mg:Ñ}{K:aa}{ks ss:Ð}{fd:FuncData}{f:Addr}
section
variable{P:Program}{w:World}
def So(h:Y.map (·.1)=ks.map Sum.inr):(Y.map λp=>kV p.1)=ks.map V.str:=by
 have e:(Y.map λp=>kV p.1)=(Y.map (·.1)).map kV:=by rw[Bs];rfl
 rw[e,h,Bs];rfl
theorem lb{X:Cx}{e:Expr}{o p r s t u:Pos}{σ:St}{H:Hp}{Q:VK}{k:Nat}
  (w:X.calm=true) (x:X.mg "sorted" = none) (y:X.mg "list" = none)
  (G:aP X.U X.w X.K X.mg X.Z k "_law_seats" ["_law_rows"] tR) (A:bH k X.A)
  (h:Ev X e σ H λv a=>∃R as n,v=.ref R/\ai a R as n/\n.length<=1000/\(ag n).length<=60/\∀l ss H',aj a H'->a l=none->H' l=some (Ls ss)->ss.length<=60->b8 ss->(∀z,z∈ss↔z∈ag n)->Q (.ref l) H')
  (g1:Gl X "sorted":=by rfl) (g2:Gl X "list":=by rfl) (g3:Gl X "_law_seats":=by rfl) (B:f8 e=false:=by rfl) (C:gf [e]=true:=by rfl):
  Ev X (.Call (.Name "sorted" o) [.Call (.Name "list" p) [.Call (.Name "_law_seats" r) [e] [] s] [] t] [] u) σ H Q:=by
 refine cM zG x DR (ah<|qk (wg w) y MN (ah<|bC G A (ah (h.mono λv a D=>?_) B) g3 rfl C) g2) g1;obtain⟨R,as,n,rfl,E,I,J,q⟩:=D;refine ax ⟨R,as,n,rfl,E,I,(by omega),λd ks H' i t8 S=>?_⟩;obtain⟨Y,b,c,L⟩:=S.dict;have wc:ks.length<=60:=Ch (aU S.nodup λz M=>(S.mem z).mp M) J;refine ax ⟨d,Y,rfl,.inl b,λl N=>?_⟩;rw[So c];refine ax ⟨l,ks,rfl,au.of az,(by omega),λO ss j f T=>?_⟩;have m:=aS N<|Ls ks;have U:=aS j<|.lst<|ss.map V.str;exact q O ss _ ((i.trans m).trans U) (iR (i.trans m) j) az (by rwa[f.length_eq]) (wD T<|f.nodup_iff.mpr S.nodup) λz=>(f.mem_iff).trans<|S.mem z
def pu(n:bi)(ss:Ð)(r:Str×List Str):cC (n++[r]) ss=(cC n ss && ((r.2.filter λz=>ss.contains z).length%2 == 0)):=by
 unfold cC;rw[List.all_append];simp
abbrev NI:Ð:=["_law_rows","_law_some","_law_row"]
abbrev W0:Ð:=["_law_rows","_law_some","_law_row","_law_tie"]
def pR:ak NI ["_law_rows","_law_some"] (aW z8):=cm
def M6:W0.Nodup:=by decide +kernel
theorem WS{i:Nat}(a:i<n.length)(h:¬((row n i).filter λz=>ss.contains z).length%2=0):cC n ss=false:=by
 cases e:cC n ss with
 |false=>rfl
 |true=>
  unfold cC at e;have:=Ej.mp e n[i]<|Bt a;rw[HY,<-jm a]at this;exact absurd this h
theorem Is(F:bB K "_law_is_round" "_law_is_round" z8 f fd)(T:Txt mg):(aE P w K mg Z bK) 1 f fd ["_law_rows","_law_some"] M1:=by
 refine F.gc pR λb0 H vs Q E hr h=>?_;obtain⟨R,a,as,n,ss,rfl,l,hn,N,B,q⟩:=h;have nd:=pR.nd;have O:=l.len;refine jF<|ae 0 ⟨R,rfl,⟨_,au.of l.lst⟩,jG (xs:=as.map λa=>V.ref a.1) (λi m d=>aj H d/\cC (n.take i) ss=true/\∃u,m=[(some (.ref R)),(some (.ref a)),u]) ⟨aj.refl H,rfl,_,rfl⟩ ?_ ?_ ?_⟩
 ·rintro i m d _ ⟨c,_,_,_⟩;exact au.of<|c _ _ l.lst
 ·rintro i x m d t ⟨c,o,u,rfl⟩;have p:i<n.length:=by
   have:=(Ac.mp t).1;rw[Aa]at this;omega
  obtain⟨b,U,dJ,Y,G,er⟩:=(l.same c).at p;rw[Ah,U]at t;cases t;have iQ:(row n i).length<=1000:=Ch (jf n i) N;refine bw 2 nd<|Rc (λk r=>aj d r/\k=decide (((row n i).filter λz=>ss.contains z).length%2=1)) (λj s=>aj H s/\cC (n.take<|i+1) ss=true/\∃u,j=[(some (.ref R)),(some (.ref a)),u]) ?_ ?_ ?_ λj s h=>a9 h
  ·refine cz fX<|bh dh<|cM eU T.len DY<|ah<|jb (aW z8) NI W0 1 (gD bI)<|a8 bQ<|ae 2<|aG ⟨b.1,_,_,.ref b.2,rfl,rfl,aQ.of Y,rfl,b.2,rfl,⟨_,au.of G⟩,λD y=>?_⟩;refine v7 (λz=>ss.contains z) (cg<|(by omega)) G y (λI C J L M v v0 s R' h=>bw 3 M6 h) (λI C J L M z ys T' h=>?_) (λI C J L M z s R' h=>ae 3 h) ?_
   ·refine oQ (cz oH<|ae 3<|ae 1 ⟨a,_,rfl,.inl (au.of<|by rw[aw<|bz (c _ _ B) y];exact c _ _ B),rfl,my _,_,rfl,?_⟩);show T' (tu (.str z)<|ss.map V.str) _;rwa[mw]
   ·refine ax ⟨D,_,rfl,.inl<|au.of az,aG ⟨_,_,rfl,rfl,(by show(0:Int)<2;decide),aG ⟨rfl,_,rfl,aS y _,?_⟩⟩⟩;rw[Aa];refine decide_eq_decide.mpr ⟨λh=>?_,λh=>?_⟩
    ·have:=V.int.inj h;omega
    ·have:((((row n i).filter λz=>ss.contains z).length:Int))%2=1:=(by omega)
     exact BZ V.int this
  ·rintro r ⟨A,e⟩;have hb:=BX e.symm;refine bS<|zg ?_;rw[<-WS (ss:=ss) p<|(by omega)];exact q r<|c.trans A
  ·rintro r ⟨A,e⟩;have hb:=IW e.symm;refine a9 ⟨c.trans A,?_,_,rfl⟩;rw[Cj,Ab p];show cC (n.take i++[n[i]]) ss=true;rw[pu,o,<-jm p,Gh,HY];omega
 ·rintro m d ⟨c,o,u,rfl⟩;rw[Aa,O,Ca]at o;refine bS<|zg ?_;rw[<-o];exact q d c
abbrev W1:Ð:=["_law_rows","_law_some","_law_seats_here","_law_beyond","_law_left","_law_r","_law_place","_law_there","_law_due"]
abbrev yA:Ð:=["_law_rows","_law_some","_law_seats_here","_law_beyond","_law_left","?","_law_place","_law_there","_law_due","_law_r"]
def yB:ak W1 ["_law_rows","_law_some"] (aW z9):=cm
def Hr:yA.Nodup:=by decide +kernel
theorem BY(F:bB K "_law_side" "_law_side" z9 f fd)(T:Txt mg)
  (GS:(aP P w K mg Z) 2 "_law_seats" ["_law_rows"] tR)
  (GO:(aP P w K mg Z) 2 "_law_other" ["_law_rows","_law_seats_here","_law_end"] AF):
  (aE P w K mg Z bK) 3 f fd ["_law_rows","_law_some"] M4:=by
 refine F.gc yB λb0 H vs Q E hr h=>?_;obtain⟨R,p,as,n,ss,rfl,hR,hT,Õ,mJ,h0,hn,dZ,hp,wG,q1,q2⟩:=h;have nd:=yB.nd;have hu:=hr.iL;have eX:=hr.u1;refine aZ 2 nd (bC GS hr<|ah<|ae 0<|ax ⟨R,as,n,rfl,hR,(by omega),(by omega),λyC ks A L n1 S1=>?_⟩);refine aZ 3 nd<|q2h eX λd hd=>aG<|zg ⟨_,cw.k (k:=Sum.inl 0) az<|cg<|Bx _,?_⟩;rw[uN];refine aZ 4 nd<|di<|ah<|aG<|ax ⟨Z1,λM hM=>?_⟩;have mG:M≠d:=λe=>by rw[e,az]at hM;cases hM
 have W2:A M=none:=by rwa[aw mG]at hM
 have s0:aj A (upd (upd A d<|.dK<|putK [] (Sum.inl 0)<|.bl false) M<|.lst [.int 0]):=(aS hd _).trans<|aS hM _;have xJ:(upd (upd A d<|.dK<|putK [] (Sum.inl 0)<|.bl false) M<|.lst [.int 0]) d=some (.dK<|putK [] (Sum.inl 0)<|.bl false):=by rw[aw<|CK mG,az]
 have xK:(upd (upd A d<|.dK<|putK [] (Sum.inl 0)<|.bl false) M<|.lst [.int 0]) M=some (Li [0]):=az;generalize upd (upd A d<|.dK<|putK [] (Sum.inl 0)<|.bl false) M (.lst [.int 0])=H0 at s0 xJ xK;refine vT (λm σ q=>m<=1000/\∃(Y:List<|Key×V)(lf:List Nat)(u5 O U u8:Option V),aj A q/\q d=some (.dK Y)/\q M=some (Li lf)/\dk n ss none Y lf/\m=2 * (n.length - Y.length)+lf.length /\
   σ=[(some (.ref R)),(some (.ref p)),(some (.ref yC)),(some (.ref d)),(some (.ref M)),u5,O,U,u8]) (m0:=2*(n.length-1)+1)
  ⟨(by omega),_,[0],_,_,_,_,s0,xJ,xK,dk.start h0,rfl,rfl⟩ ?_
 rintro m σ H2 ⟨hm,Y,lf,u5,O,U,u8,s2,uF,sM,I,em,rfl⟩;refine cz (tP hu)<|ae 4<|di<|ax ⟨Z0,λpe K4=>?_⟩;have se:=aS K4<|.lst [];have s2:=s2.trans se;have uF:=se _ _ uF;have sM:=se _ _ sM;have M7:(upd H2 pe<|.lst []) pe=some (.lst []):=az;generalize upd H2 pe (.lst [])=B at s2 uF sM M7 ⊢
 obtain e|⟨C,o,e⟩:=List.eq_nil_or_concat lf
 ·subst e;refine⟨1,_,(by decide),Ib (k:=0) (xs:=[]) (ys:=[]) (λ_=>true) (au.of sM) (au.of M7) rfl (λj x y hx _=>by simp at hx),_,rfl,bR ?_⟩;have M8:∀k∈Y.map (·.1),∃r:Nat,k=Sum.inl (r:Int)/\r<n.length:=I.num;have wc:=I.len;refine bS<|cM zG T.sorted DR<|ah<|jb (aW z9) W1 yA 1 (vu bI)<|ae 3 ⟨d,Y,rfl,uF,λob E2 M9=>?_⟩;have nE:E2≠d:=λe=>by rw[e,az]at M9;cases M9
  have Ö:B E2=none:=by rwa[aw nE]at M9
  have sH:aj H B:=L.trans s2;have KA:H d=none:=L.free hd;have Ø:H E2=none:=sH.free Ö;have sU:∀zs:Ð,aj H (upd (upd B d<|.b7 ob<|.dK Y) E2<|Ls zs):=λzs c o' N=>by
   rw[aw<|bz N Ø,aw<|bz N KA];exact sH _ _ N
  refine cF (λi D q=>(∃v,D=[(some (.ref R)),(some (.ref p)),(some (.ref yC)),(some (.ref d)),(some (.ref M)),u5,O,U,u8]++[v])/\q=upd (upd B d<|.b7 ob<|.dK Y) E2 (Ls<|kz n<|Y.take i)) ⟨⟨_,rfl⟩,rfl⟩ ?_ ?_ ?_
  ·rintro i D q _ ⟨_,rfl⟩;rw[aw<|CK nE,az]
  ·rintro i pr D q W3 ⟨⟨v,rfl⟩,rfl⟩;have hm:pr∈Y:=Ao W3;have iW:Y.take (i+1)=Y.take i++[pr]:=by rw[Cj,W3];rfl
   obtain⟨k,vv⟩:=pr;obtain⟨r,rfl,iQ⟩:=M8 k<|Ak.mpr ⟨_,hm,rfl⟩;have hv:=(M5 I.fM).mp hm;obtain⟨b,rfl,_⟩:=I.val r vv hv;rw[iW,dU];intro cl C' æ ç ex;refine bw 9 Hr ?_;intro cl C' æ ç ex;have dg:bb (upd (upd B d<|.b7 ob<|.dK Y) E2<|Ls<|kz n<|Y.take i) d (kV<|Sum.inl (r:Int)) (some<|.bl b):=by
    rw[<-hv];exact .inl ⟨Y,Sum.inl (r:Int),.inr ⟨ob,by rw[aw<|CK nE,az]⟩,rfl,rfl⟩
   refine oQ<|vC<|gJ eX<|ae 3<|ae 9 ⟨d,.bl b,rfl,dg,b,rfl,?_⟩;have nA:=Ch (WZ n<|Y.take i) (show(Y.take i).length<=Y.length by rw[Br];omega);have W4:=hR.same<|sU<|kz n<|Y.take i;obtain⟨a,ea,dJ,et,el,er⟩:=W4.at iQ
   by_cases G:b=true
   ·rw[BP G];intro cl C' æ ç ex;refine a8 bQ<|a8 dF<|ae 0<|ae 9 ⟨R,_,_,.ref a.1,rfl,rfl,au.of W4.lst,dJ,aG ⟨a.1,_,_,.str n[r].1,rfl,rfl,aQ.of et,rfl,?_⟩⟩;refine⟨_,az,by rw[Aa];exact cg (by omega),⟨_,rfl⟩,?_⟩;rw[uN,BP (show sJ (.bl b)=true from G)];have:aC n (sK<|Sum.inl (r:Int))=n[r].1:=by
     show aC n ((r:Int).toNat)=_;rw[Bk,gn iQ]
    rw[this];exact IM
   ·rw[BL G];refine⟨⟨_,rfl⟩,?_⟩;rw[BL (show ¬ sJ (.bl b)=true from G),Bp]
  ·rintro D q ⟨_,rfl⟩;rw[Ca];have nA:=WZ n Y;refine ax ⟨E2,_,rfl,au.of az,(by omega),λl sd hl jM nw=>?_⟩;have sl:=aS hl<|.lst<|sd.map V.str;refine q1 l sd _ ((sU _).trans sl) ((sU _).free hl) az<|I.whole hT Õ h0 mJ wG (wD nw<|jM.nodup_iff.mpr<|k2i mJ I.fM M8) λx=>?_;rw[jM.mem_iff];exact xE I.fM M8 x
 rw[List.concat_eq_append]at e;subst e;have lw:(C++[o]).length=C.length+1:=by rw[Ag];rfl
 refine⟨1,_,(by decide),Ic (k:=1) (au.of sM) (au.of (xs:=[]) M7) (by rw[Aa,lw];exact Nat.succ_ne_zero _),_,rfl,cv ?_⟩;obtain⟨hy,jd⟩:=m3 C o;refine aZ 5 nd<|x4u FN VD VF Zy<|ae 4 (v:= .ref M) ⟨Or.inl ⟨rfl,_,au.of sM⟩,M,_,.int (o:Int),rfl,rfl,sM,hy,?_⟩;rw[jd];have I1:=I.pop;rw[lw]at em;have sA:aj A (upd B M<|Li C):=fI s2 W2;have W5:(upd B M<|Li C) d=some (.dK Y):=by rwa[aw<|CK mG]
 have W6:(upd B M<|Li C) M=some (Li C):=az;generalize upd B M (Li C)=HA at sA W5 W6;obtain⟨b0,Ù⟩:=I1.A5 o 0 rfl;have Nb:=I1.lt Ù;have W7:=hR.same<|L.trans sA;obtain⟨a,ea,dJ,et,el,er⟩:=W7.at Nb;have uk:=hR.tup o a n[o] ea<|Ab Nb;rw[<- jm Nb]at uk;have Û:=jf n o;refine m8 T.range (cM eU T.len DY<|ah<|a8 bQ<|a8 dF<|ae 0<|ae 5 ⟨R,_,_,.ref a.1,rfl,rfl,au.of W7.lst,dJ,aG ⟨a.1,_,_,.ref a.2,rfl,rfl,aQ.of et,rfl,ax ⟨a.2,_,rfl,.inl<|au.of el,_,rfl,(by omega),by rw[Aa];omega,?_⟩⟩⟩);rw[Aa,Bk];refine m9 (λi σ q=>∃(Y:List<|Key×V)(lf:List Nat)(O U u8:Option V),aj A q/\q d=some (.dK Y)/\q M=some (Li lf)/\dk n ss (some (o,i)) Y lf/\2 * (n.length - Y.length)+lf.length < m /\
   σ=[(some (.ref R)),(some (.ref p)),(some (.ref yC)),(some (.ref d)),(some (.ref M)),some<|.int (o:Int),O,U,u8])
  ⟨Y,C,_,_,_,sA,W5,W6,I1,(by omega),rfl⟩ ?_ ?_
 ·rintro i σ HB hi ⟨Y,lf,O,U,u8,sB,s,eM,I,aX,rfl⟩;rw[Ek];have hz:aJ n (o,i)=some (row n o)[i]:=Ab hi;generalize (row n o)[i]=z at hz;have he:((o,i):Nt.bc)∈ends n:=af.mpr ⟨z,hz⟩;have Ü:=pv hT hz;refine bw 6 nd ?_;refine aZ 7 nd<|a8 bQ<|bC GO hr<|ah<|ae 0<|ah<|ae 2<|ah<|d9<|ah<|ae 5<|ah<|ae 6<|ax ⟨Z2,λt ht=>?_⟩;have sT:=aS ht<|Tp (o,i);have J:=sB.trans sT;have Nc:=hR.same<|L.trans J;refine ax ⟨R,yC,t,as,n,ks,(o,i),rfl,Nc,S1.same J,hT,az,he,λu tV=>aG ⟨u,_,_,.int ((other n (o,i)).1:Int),rfl,rfl,aQ.of tV,rfl,?_⟩⟩;have s:=sT _ _ s;have eM:=sT _ _ eM;clear tV;generalize upd HB t (Tp (o,i))=HC at J Nc s eM;obtain⟨b,G⟩:=I.A5 o i rfl;have el:=(L.trans J) _ _ uk.2;have et:=(L.trans J) _ _ uk.1;refine aZ 8 nd (j6 tj<|gJ eX<|ae 3<|ae 5 ⟨d,.bl b,rfl,by rw[<-G];exact bb.k (k:=Sum.inl (o:Int)) s,?_⟩);refine j6 oH<|a8 dF<|a8 bQ<|a8 dF<|ae 0<|ae 5 ⟨R,_,_,.ref a.1,rfl,rfl,au.of Nc.lst,dJ,aG ⟨a.1,_,_,.ref a.2,rfl,rfl,aQ.of et,rfl,ae 6 ⟨a.2,_,_,.str z,rfl,rfl,au.of el,vW hz,ae 1 ⟨p,_,rfl,.inl<|au.of<|(L.trans J) _ _ hp,rfl,my _,rfl,?_⟩⟩⟩⟩;have fF:∀(x y:Bool),(if false=true then x else y)=y:=λ_ _=>rfl;rw[fF,mw,uA,yY];show ge _ _ _ [(some (.ref R)),(some (.ref p)),(some (.ref yC)),(some (.ref d)),(some (.ref M)),some<|.int (o:Int),some<|.int (i:Int),some<|.int ((other n (o,i)).1:Int),some<|.bl<|b != decide (z∈ss)] HC;refine dP<|k7x eX<|ae 7<|ae 3 ⟨d,_,rfl,bb.k (k:=Sum.inl ((other n (o,i)).1:Int)) s,?_⟩;cases hg:aF Y (Sum.inl ((other n (o,i)).1:Int)) with
  |none=>
   refine cv ?_;have I':=I.new hT hz G hg;have lk:=I.len;have Ú:=I'.len;have wc:(putK Y (Sum.inl ((other n (o,i)).1:Int))<|.bl<|b != decide (z∈ss)).length=Y.length+1:=by
    have:=BZ List.length<|Jz Y (Sum.inl ((other n (o,i)).1:Int))<|.bl<|b != decide (z∈ss);rwa[BL<|Tl hg,Ag,Aa,Aa]at this
   refine vU eX (ae 8<|ae 3<|ae 7 ⟨d,_,rfl,cw.k (k:=Sum.inl ((other n (o,i)).1:Int)) s (cg<|(by omega)),?_⟩);have W8:(upd HC d<|.dK<|putK Y (Sum.inl ((other n (o,i)).1:Int))<|.bl<|b != decide (z∈ss)) M=some (Li lf):=by rwa[aw mG]
   refine gG (ka<|ae 4 ⟨M,rfl,⟨_,W8⟩,ae 7 ⟨_,W8,by rw[Aa];exact cg (by omega),?_⟩⟩);refine a9<|a9 ⟨_,lf++[(other n (o,i)).1],_,_,_,fI (fI J hd) W2,?_,?_,I',?_,rfl⟩
   ·rw[aw<|CK mG];exact az
   ·rw[az];show some (HO.lst<|(lf.map λ(r:Nat)=>V.int (r:Int))++[.int ((other n (o,i)).1:Int)])=some (HO.lst<|(lf++[(other n (o,i)).1]).map λ(r:Nat)=>V.int (r:Int));rw[Al];rfl
   ·rw[wc,Ag];rw[wc]at Ú;show _+(lf.length+1)<m;omega
  |some v=>
   refine bR ?_;obtain⟨c,rfl,_⟩:=I.val _ v hg;refine dP<|cz tj<|gJ eX<|ae 3<|ae 7 ⟨d,.bl c,rfl,by rw[<-hg];exact bb.k (k:=Sum.inl ((other n (o,i)).1:Int)) s,ae 8 ⟨rfl,_,rfl,?_⟩⟩
   by_cases N:c=(b != decide (z∈ss))
   ·rw[BW<|by rw[N]];refine bR<|a9<|a9<|a9 ⟨Y,lf,_,_,_,J,s,eM,I.step hz G (by rwa[<-N]),aX,rfl⟩
   ·rw[BR λh=>N<|V.bl.inj h];refine cv<|bS<|zh<|q2 HC (L.trans J)<|I.bad hT hz G hg N
 ·rintro σ HB ⟨Y,lf,O,U,u8,sB,s,eM,I,aX,rfl⟩;exact a9 ⟨_,aX,(by omega),Y,lf,_,_,_,_,sB,s,eM,I.close<|An _,rfl,rfl⟩
end
end E9
namespace Nt
open PySem L2 Classical
def KK(n:bi)(z:Str)(w:Str)(ss:Ð):Prop:=b8 ss/\(∀y∈ss,y∈ag n)/\z∈ss /\
 ((w = "double"/\cC n ss=true/\∃a,aN n ss a)\/(w = "cut"/\(∃a,aN n ss a)/\cC n (less ss z)=true)\/(w = "round"/\cC n ss=true/\∃a,aN n (less ss z) a))
variable{ss:Ð}{z:Str}{n:bi}
def uG.kk{w:Str}(h:uG n z w ss):KK n z w ss:=by
 obtain⟨a,b,c,⟨rfl,d,e,_⟩|⟨rfl,d,e,_⟩|⟨rfl,d,e,_⟩⟩:=h
 ·exact⟨a,b,c,.inl ⟨rfl,d,e⟩⟩
 ·exact⟨a,b,c,.inr<|.inl ⟨rfl,d,e⟩⟩
 ·exact⟨a,b,c,.inr<|.inr ⟨rfl,d,e⟩⟩
noncomputable def mt(a b:Ð):Bool:=ao<|a.map λz=>decide (z∈b)
def Nf(a b:Ð):mt a b=decide ((a.filter λz=>b.contains z).length%2=1):=by
 unfold mt;rw[rm];have e:(a.filter λz=>b.contains z)=a.filter λz=>decide (z∈b):=by
  congr 1
  funext z
  rw[Cf,CN];exact Bm
 rw[e]
variable{a b:Ð}
def Ng(T:aq n){c:Ð}(d:cC n a=true)(e:a.Nodup)(f:aN n b c):mt a b=false:=by
 rw[Nf,AN T d e f.cut];rfl
def G1(c:a.Nodup)(d:b.Nodup):mt a b=mt b a:=by rw[Nf,Nf,mn c d]
def W9(T:aq n){d i j:Ð}(hd:cC n d=true)(c:d.Nodup)(k:aN n d i)(l:z∈d)(m:cC n a=true)(h:a.Nodup)(o:aN n b j)(p:gO a b [z]):False:=by
 have q:=Ng T hd c o;have r:mt d a=false:=by rw[G1 c h];exact Ng T m h k
 have f:mt d [z]=(mt d a ^^ mt d b):=by
  unfold mt;rw[<-fK]
  congr 1
  exact Ap λy _=>xS p y
 rw[q,r]at f;have s:mt d [z]=true:=by
  unfold mt;have e:(d.map λy=>decide (y∈[z]))=d.map λy=>decide (y=z) && true:=Ap λy _=>by
   rw[VJ];exact decide_eq_decide.mpr Ad
  rw[e];exact xL c l
 rw[s]at f;cases f
def Xa(h:z∈a):gO (less a z) a [z]:=λy=>by
 rw[Ad]
 by_cases k:y=z
 ·subst k;have:y∉less a y:=λq=>(bd.mp q).2 rfl;rw[BL this];exact⟨λ_=>h,λ_=>rfl⟩
 ·by_cases m:y∈a
  ·rw[BP<|bd.mpr ⟨m,k⟩];exact⟨λq=>absurd q k,λq=>absurd m q⟩
  ·rw[BL λq=>m (bd.mp q).1];exact⟨λq=>absurd q k,λq=>absurd q m⟩
def q7m{c:Ð}(h:gO a b c):gO b a c:=λy=>by
 have:=h y
 by_cases p:y∈a<;>by_cases q:y∈b<;>simp[p,q]at this<;>simp[p,q,this]
def Nh(T:aq n)(h:KK n z "double" a)(k:KK n z "cut" b):False:=by
 obtain⟨c,o,d,⟨_,e,p,f⟩|⟨q,_⟩|⟨q,_⟩⟩:=h
 case inr.inl=>exact absurd q<|(by decide)
 case inr.inr=>exact absurd q<|(by decide)
 obtain⟨i,r,j,⟨q,_⟩|⟨_,⟨s,l⟩,m⟩|⟨q,_⟩⟩:=k
 ·exact absurd q<|(by decide)
 ·exact W9 T e (gq c) f d m (gq<|yy i z) l<|Xa j
 ·exact absurd q<|(by decide)
def Xb(T:aq n)(h:KK n z "double" a)(k:KK n z "round" b):False:=by
 obtain⟨c,o,d,⟨_,e,p,f⟩|⟨q,_⟩|⟨q,_⟩⟩:=h
 case inr.inl=>exact absurd q<|(by decide)
 case inr.inr=>exact absurd q<|(by decide)
 obtain⟨i,r,j,⟨q,_⟩|⟨q,_⟩|⟨_,l,s,m⟩⟩:=k
 ·exact absurd q<|(by decide)
 ·exact absurd q<|(by decide)
 ·exact W9 T e (gq c) f d l (gq i) m<|q7m<|Xa j
def aN.yD{a:Ð}(b:b8 ss)(h:aN n ss a):kY n ss:=⟨b,a,h.cut⟩
def Q0(a b:Ð):∃c,b8 c/\gO a b c:=by
 obtain⟨c,d,e⟩:=ke<|(a++b).filter λz=>decide (z∈a) ^^ decide (z∈b);refine⟨c,d,λz=>?_⟩;rw[e,Bf,Am]
 by_cases p:z∈a<;>by_cases q:z∈b<;>simp[p,q]
def Xc(T:aq n)(m:0 < n.length)(h:KK n z "cut" a)(k:KK n z "round" b):False:=by
 have o:=h;obtain⟨r,s,j,⟨q,_⟩|⟨_,⟨L,t⟩,u⟩|⟨q,_⟩⟩:=h
 ·exact absurd q<|(by decide)
 case inr.inr=>exact absurd q<|(by decide)
 obtain⟨v,w,x,⟨q,_⟩|⟨q,_⟩|⟨_,A,M,B⟩⟩:=k
 ·exact absurd q<|(by decide)
 ·exact absurd q<|(by decide)
 obtain⟨d,l,f⟩:=Q0 a<|less b z;have C:=pS T (t.yD r) (B.yD<|yy v z) l f;have D:gO (less a z) b d:=λy=>by
  rw[f y];have c:y∈less b z↔y∈b/\y≠z:=bd;have i:y∈less a z↔y∈a/\y≠z:=bd
  by_cases e:y=z
  ·subst e;rw[BP j,BL λq=>(i.mp q).2 rfl];exact⟨λ_=>x,λ_ q=>(c.mp q).2 rfl⟩
  ·by_cases p:y∈a
   ·rw[BP p,BP<|i.mpr ⟨p,e⟩];exact⟨λq k=>q<|c.mpr ⟨k,e⟩,λq k=>q (c.mp k).1⟩
   ·rw[BL p,BL λq=>p (i.mp q).1];exact⟨λq=>(c.mp q).1,λq=>c.mpr ⟨q,e⟩⟩
 have E:=A0 u A D;obtain⟨G,H⟩:=JU T m C;have I:=(f z).mpr (by rw[BP j];exact λq=>(bd.mp q).2 rfl);refine Nh T ⟨l,λy J=>?_,I,.inl ⟨rfl,E,G,H⟩⟩ o;have:=(f y).mp J
 by_cases p:y∈a
 ·exact s y p
 ·rw[BL p]at this;exact w y (bd.mp this).1
def Ni{w:Str}(h:KK n z w a):w = "double"\/w = "cut"\/w = "round":=by
 obtain⟨_,_,_,⟨q,_⟩|⟨q,_⟩|⟨q,_⟩⟩:=h
 ·exact .inl q
 ·exact .inr<|.inl q
 ·exact .inr<|.inr q
def bx(T:aq n)(c:0<n.length){w v:Str}(h:KK n z w a)(k:KK n z v b):w=v:=by
 obtain rfl|rfl|rfl:=Ni h<;>obtain rfl|rfl|rfl:=Ni k
 ·rfl
 ·exact(Nh T h k).elim
 ·exact(Xb T h k).elim
 ·exact(Nh T k h).elim
 ·rfl
 ·exact(Xc T c h k).elim
 ·exact(Xb T k h).elim
 ·exact(Xc T c k h).elim
 ·rfl
end Nt
namespace Dt
variable{κ:Type}
variable{κ:Type}
variable{κ:Type} [DecidableEq κ]
variable{κ:Type} [DecidableEq κ]
end Dt
namespace Nt
open PySem L2
theorem Xd{α:Type}:∀{l:List α},l.Nodup->∀{i j:Nat}{x:α},l[i]?=some x->l[j]?=some x->i=j
 |[],_,i,j,x,h,_=>by simp at h
 |a :: l,e,i,j,x,b,c=>by
  obtain⟨d,f⟩:=Bh.mp e;cases i with
  |zero=>
   cases j with
   |zero=>rfl
   |succ j=>
    cases b;rw[Ee]at c;exact absurd (Ao c) d
  |succ i=>
   cases j with
   |zero=>
    cases c;rw[Ee]at b;exact absurd (Ao b) d
   |succ j=>
    rw[Ee]at b c;rw[Xd f b c]
def rn(n:bi)(p:Str):Nat:=(n.map (·.1)).idxOf p
variable{n:bi}
def CC{p:Str}(h:p∈n.map (·.1)):rn n p<n.length/\(n.map (·.1))[rn n p]?=some p:=by
 have a:rn n p<(n.map (·.1)).length:=List.idxOf_lt_length_iff.mpr h;refine⟨by rwa[Aa]at a,?_⟩;rw[Ab a]
 congr 1
 exact List.getElem_idxOf a
def li(a:(n.map (·.1)).Nodup){r:Nat}(h:r<n.length):rn n (aC n r)=r:=by
 have e:(n.map (·.1))[r]?=some (aC n r):=by rw[Ah,Ab h,gn h];rfl
 exact Xd a (CC<|Ao e).2 e
end Nt
namespace Dt
variable{κ μ:Type}
variable [DecidableEq κ] [DecidableEq μ]
end Dt
namespace Nt
open PySem L2
section
variable{n:bi}{z:Str}{r k:Nat}
def uH(h:r<n.length):row n r=n[r].2:=by unfold row;rw[Ab h];rfl
def Qd(h:r<n.length):ag (n.take<|r+1)=ag (n.take r)++row n r:=by
 rw[uH h];unfold ag;rw[Cj,Ab h,Dp];simp
def DA:ag n=ag (n.take k)++ag (n.drop k):=by
 unfold ag;rw[<-Dp,Cw]
def x1b(h:r<n.length)(q:z∈row n r):z∈ag n:=by
 rw[DA,Qd h];simp[q]
def Qc(q:z∈ag n):∃r,r<n.length/\z∈row n r:=by
 unfold ag at q;obtain⟨x,b,c⟩:=Gb.mp q;obtain⟨r,a,e⟩:=Ck.mp b;exact⟨r,a,by rwa[uH a,e]⟩
end
end Nt
namespace L2
open PySem Nt
variable{N':Ð}{H:Hp}{σ:St}{scope:Scope}{ifs:Ó}{X:Cx}
end L2
namespace Nt
open PySem L2 Classical
variable{z:Str}
variable{ks:Ð}{Y:List (Key×V)}{done:List (Str×bc)}
end Nt
namespace Nt
open PySem L2
variable{n:bi}
section
variable{z:Str}{r0 r1:Nat}
def G6{i:Nat}(h:n.length<=i):row n i=[]:=by
 unfold row;rw[Bg h];rfl
end
end Nt
namespace Dt
variable{κ ι:Type}
variable [DecidableEq ι]
end Dt
namespace Nt
open PySem L2 Dt
end Nt
namespace Dt
open Nt (ao fK)
open Classical
variable{τ:Type}
def ze(ss:List τ)(r s:τ->Bool):Bool:=ao<|ss.map λz=>r z && s z
def ly(ss:List τ)(r s:τ->Bool):ze ss r s=ze ss s r:=by
 unfold ze
 congr 1
 exact Ap λz _=>Fo ..
structure DP(ss:List τ)(R S:(τ->Bool)->Prop):Prop where
 x0M:∀r r',(∀y∈ss,r y=r' y)->R r->R r'
 x0N:∀r r',(∀y∈ss,r y=r' y)->S r->S r'
 xr:∀r r',R r->R r'->R (λy=>r y ^^ r' y)
 xs:∀r r',S r->S r'->S (λy=>r y ^^ r' y)
 ort:∀r s,R r->S s->ze ss r s=false
 yE:∀v,(∀s,S s->ze ss v s=false)->R v
 Xe:∀v,(∀r,R r->ze ss r v=false)->S v
open Nt (ao fK sg gM)
open Classical
variable{τ κ:Type} [DecidableEq κ]
end Dt
namespace Nt
open PySem L2 Classical
def mE{α:Type}{L:List (List α)}(h:L.flatten.Nodup){i j k l:Nat}{w v:List α}{e:α}(f:L[i]?=some w)(m:w[k]?=some e)(n:L[j]?=some v)(o:v[l]?=some e):i=j/\k=l:=by
 rw[By,List.pairwise_flatten]at h;obtain⟨r,q⟩:=h;have a:=(Ac.mp f);have b:=(Ac.mp n);have s:i=j:=by
  obtain c|c|c:=Em i j
  ·exact absurd rfl ((Bc.mp q) i j a.1 b.1 c e (by rw[a.2];exact Ao m) e<|by rw[b.2];exact Ao o)
  ·exact c
  ·exact absurd rfl ((Bc.mp q) j i b.1 a.1 c e (by rw[b.2];exact Ao o) e<|by rw[a.2];exact Ao m)
 subst s;rw[f]at n;cases n;refine⟨rfl,?_⟩;have p:=r w<|Ao f;have lk:=(Ac.mp m);have d:=(Ac.mp o)
 obtain c|c|c:=Em k l
 ·exact absurd (lk.2.trans d.2.symm)<|(Bc.mp p) k l lk.1 d.1 c
 ·exact c
 ·exact absurd (d.2.trans lk.2.symm)<|(Bc.mp p) l k d.1 lk.1 c
noncomputable def pf(n:bi)(x:bc):bc:=(((ci n)[x.1]?.getD [])[x.2]?).getD (0,0)
theorem DC(n:bi)(f:Nat):row (aI n) f=((ci n)[f]?.getD []).map (aD n):=by
 unfold row aI;cases h:(ci n)[f]? with
 |some w=>rw[Me h];rfl
 |none=>
  have:(dR n<|ci n)[f]?=none:=by rw[List.getElem?_eq_none_iff]at h ⊢;rwa[yr]
  rw[this];rfl
variable{x:bc}{n:bi}
theorem uI(h:x∈ends (aI n)):∃w,(ci n)[x.1]?=some w/\w[x.2]?=some (pf n x):=by
 obtain⟨z,a⟩:=af.mp h;unfold aJ at a;rw[DC]at a;cases b:(ci n)[x.1]? with
 |none=>rw[b]at a;simp at a
 |some w=>
  rw[b]at a;have:x.2<w.length:=by have:=(Ac.mp a).1;simpa using this
  refine⟨w,rfl,?_⟩;unfold pf;rw[b];show w[x.2]?=some ((w[x.2]?).getD (0,0));rw[Ab this];rfl
variable{e:bc}
def DE{i k:Nat}{w:List bc}(a:(ci n)[i]?=some w)(b:w[k]?=some e):(i,k)∈ends (aI n)/\pf n (i,k)=e:=by
 constructor
 ·refine af.mpr ⟨aD n e,?_⟩;unfold aJ;rw[DC];show(((ci n)[i]?.getD []).map<|aD n)[k]?=_;rw[a,Fe,Ah,b];rfl
 ·unfold pf;show(((ci n)[i]?.getD [])[k]?).getD (0,0)=e;rw[a,Fe,b];rfl
def yF(T:aq n)(h:x∈ends (aI n)):pf n x∈ends n:=by
 obtain⟨w,a,b⟩:=uI h;exact(Sy T w<|Ao a).2 _<|Ao b
def uJ(T:aq n)(h:x∈ends (aI n)):aJ (aI n) x=aJ n (pf n x):=by
 obtain⟨w,b,c⟩:=uI h;obtain⟨z,a⟩:=af.mp<|yF T h;rw[a];unfold aJ;rw[DC,b,Fe,Ah,c];show some (aD n<|pf n x)=some z;rw[eY a]
def Xf(h:x∈ends (aI n)):ends n≠[]:=λk=>by
 obtain⟨w,a,b⟩:=uI h;have:ci n=[[]]:=by unfold ci;rw[BP k]
 rw[this]at a;have:w=[]:=by simpa using Ao a
 subst this;simp at b
def DF(T:aq n){y:bc}(c:x∈ends (aI n))(e:y∈ends (aI n))(h:pf n x=pf n y):x=y:=by
 obtain⟨w,f,i⟩:=uI c;obtain⟨v,j,d⟩:=uI e;rw[<-h]at d;obtain⟨a,b⟩:=mE (Ju T<|Xf c).nd f i j d;exact HJ a b
def yG(T:aq n)(h:e∈ends n):∃x∈ends (aI n),pf n x=e:=by
 have a:ends n≠[]:=λk=>by rw[k]at h;cases h
 have b:=(Jv T a).all.mem_iff.mpr h;obtain⟨w,c,d⟩:=Dw.mp b;obtain⟨i,f⟩:=Be c;obtain⟨k,j⟩:=Be d;exact⟨(i,k),DE f j⟩
theorem Xg(n:bi):∀(a:List<|List bc)(k:Nat),ag ((a.zipIdx k).map λx=>(ku x.2,x.1.map<|aD n))=a.flatten.map (aD n)
 |[],_=>rfl
 |w :: a,k=>by
  rw[List.zipIdx_cons,Ba];show w.map (aD n)++ag ((a.zipIdx<|k+1).map λx=>(ku x.2,x.1.map<|aD n))=_;rw[Xg n a<|k+1,Cr,Al]
def Xh(n:bi):(ends n).map (aD n)=ag n:=by
 unfold ends;rw[Bs,<-kJ n 0];refine Ap λp a=>?_;obtain⟨z,e⟩:=p;exact eY<|aT.mp a
def sO(T:aq n):(ag<|aI n).Perm (ag n):=by
 have e:ag (aI n)=(ci n).flatten.map (aD n):=Xg n (ci n) 0;rw[e]
 by_cases h:ends n=[]
 ·have:ci n=[[]]:=by unfold ci;rw[BP h]
  rw[this,<-Xh n,h];exact List.Perm.refl _
 ·rw[<-Xh n];exact(Jv T h).all.map _
def j4(T:aq n):aq (aI n):=λz a=>by
 have p:=sO T;rw[p.count_eq];exact T z<|p.mem_iff.mp a
theorem Nj(T:aq n)(h:x∈ends (aI n)):pf n (left (aI n) x)=step n (pf n x):=by
 obtain⟨w,a,b⟩:=uI h;obtain⟨e,_,f,i,_⟩:=(Ju T<|Xf h).face w<|Ao a;have F:=nI T i;rw[<-f]at F;have j:=(Ac.mp b).1;have d:=Option.some.inj<|b.symm.trans<|F.at' x.2 j;have k:(row (aI n) x.1).length=w.length:=by rw[DC,a,Fe,Aa]
 unfold left;rw[k]
 by_cases c:x.2+1<w.length
 ·rw[Bz c,(DE a<|F.at' _ c).2,d];rfl
 ·have c:x.2+1=w.length:=(by omega)
  rw[c,Ef,(DE a<|F.at' 0 F.pos).2,d];show e=(it (step n)) (x.2+1) e;rw[c,F.back]
def uK(T:aq n)(h:x∈ends (aI n)):pf n (other (aI n) x)=other n (pf n x):=by
 obtain⟨z,a⟩:=af.mp h;have o:=dH (j4 T) a;have b:=a;rw[uJ T h]at b;have c:=o.1;have d:=cR (j4 T) h;rw[uJ T d]at c
 obtain k|k:=(kd T b).mp c
 ·exact absurd (DF T d h k) o.2.2
 ·exact k
def DH(T:aq n)(h:x∈ends (aI n)):pf n (go 1 (aI n) x)=left n (pf n x):=by
 have a:=cR (j4 T) h;unfold go;rw[<-Jl a,Nj T a,uK T h];unfold step;obtain⟨z,b⟩:=af.mp<|yF T h;rw[(dH T b).2.1]
end Nt
namespace Nt
open PySem L2 Dt
variable{m:bi}{ss:Ð}
section
variable{n:bi}
noncomputable def qr(m:bi)(r:Nat)(z:Str):Bool:=decide ((row m r).count z%2=1)
def Nk(T:aq m){e:bc}{z:Str}(h:aJ m e=some z)(r:Nat):qr m r z=(decide (r=e.1) ^^ decide (r=(other m e).1)):=by
 rw[<-J1 T h r,<-dS]
where
 dS {m:bi} {r:Nat} {z:Str}:qr m r z=ao ((row m r).map λy=>decide (y=z)):=by
  unfold qr;rw[ut]
  congr 1
  exact Ap λy _=>decide_eq_decide.mpr ⟨RN,RN⟩
def Nm(a:ss.Nodup)(v:Str->Bool){r:Nat}(h:∀y∈row m r,y∈ss):ze ss v (qr m r)=ao ((row m r).map v):=CD (n:=m) a h
def q3e(T:aq n)(r:Nat):cN (aI n) (qr n r):=by
 refine aY.even (j4 T) (χ:=λx=>decide (r=(pf n x).1)) ⟨λx a=>?_,λx z b=>?_⟩
 ·rw[tZ (j4 T) a,DH T a];rfl
 ·have a:=af.mpr ⟨z,b⟩;rw[uJ T a]at b;rw[Nk T b r,uK T a]
def q42(T:aq n)(f:Nat):cN n (qr (aI n) f):=by
 have b:∀{x:bc},x∈ends (aI n)->(decide (∃y∈ends (aI n),pf n y=pf n x/\f=y.1))=decide (f=x.1):=λ{x}a=>decide_eq_decide.mpr ⟨λ⟨y,d,e,k⟩=>by rw[<-DF T d a e];exact k,λk=>⟨x,a,rfl,k⟩⟩;refine aY.even T (χ:=λe=>decide (∃y∈ends (aI n),pf n y=e/\f=y.1)) ⟨λe h=>?_,λe z c=>?_⟩
 ·obtain⟨x,a,rfl⟩:=yG T h;have i:=Ii a;show decide _=decide _;rw[<-Nj T a,b i,b a];rfl
 ·obtain⟨x,a,rfl⟩:=yG T<|af.mpr ⟨z,c⟩;show _=(decide _ ^^ decide _);rw[<-uJ T a]at c;have j:=cR (j4 T) a;rw[<-uK T a,b a,b j,Nk (j4 T) c f]
theorem Xi(T:aq n)(N:HF n)(C:ss.Nodup)(D:∀z,z∈ss↔z∈ag n):DP ss (cN n) (cN<|aI n):=by
 have I:=j4 T;have u:=λz=>(D z).trans (sO T).mem_iff.symm;have w:∀{m:bi},(∀z,z∈ss↔z∈ag m)->∀r,∀y∈row m r,y∈ss:=λ{m}h r y c=>by
  by_cases E:r<m.length
  ·exact(h y).mpr<|x1b E c
  ·rw[G6<|(by omega)]at c;cases c
 have i:∀{m:bi},(∀z,z∈ss↔z∈ag m)->∀r b:Str->Bool,(∀y∈ss,r y=b y)->cN m r->cN m b:=λ{m}h r b q k x=>by
  rw[<-k x]
  congr 1
  exact Ap λy c=>(q y<|w h x y c).symm
 have J:∀{m:bi}(r b:Str->Bool),cN m r->cN m b->cN m (λy=>r y ^^ b y):=λ{m}r b k O x=>by
  rw[fK r b,k x,O x];rfl
 refine⟨i D,i u,J,J,λr s E Q=>?_,λv G x=>?_,λv G x=>?_⟩
 ·obtain⟨a,j⟩:=N.2.2 r E;have l:∀(p f:Nat),(f,p)∈ends (aI n)->a (pf n (f,p))=a (pf n (f,0)):=λp=>by
   induction p with
   |zero=>exact λf _=>rfl
   |succ p U=>
    intro f h;obtain⟨z,o⟩:=af.mp h;have H:=gk o;have H:p+1<(row (aI n) f).length:=H;have t:(f,p)∈ends (aI n):=af.mpr ⟨_,Ab (show p<(row (aI n) f).length by omega)⟩;have e:left (aI n) (f,p)=(f,p+1):=HJ rfl (Bz H);rw[<-U f t,<-e,Nj T t,j.go _<|yF T t]
  have Y:∀z∈ss,r z=ao ((range (aI n).length).map λf=>a (pf n (f,0)) && qr (aI n) f z):=λz o=>by
   obtain⟨x,A⟩:∃x,aJ (aI n) x=some z:=by
    obtain⟨f,WQ,uE⟩:=Qc<|(u z).mp o;obtain⟨p,t⟩:=Be uE;exact⟨(f,p),t⟩
   have B:=af.mpr ⟨z,A⟩;have L:=cR I B;obtain⟨y,c⟩:=af.mp L;have l1:=cB A;have l2:=cB c;have e1:(λf=>a (pf n (f,0)) && qr (aI n) f z)=λf=>(a (pf n (f,0)) && decide (x.1=f)) ^^ (a (pf n (f,0)) && decide ((other (aI n) x).1=f)):=by
    funext f
    rw[Nk I A f,show decide (f=x.1)=decide (x.1=f)from decide_eq_decide.mpr ⟨RN,RN⟩,show decide (f=(other (aI n) x).1)=decide ((other (aI n) x).1=f)from decide_eq_decide.mpr ⟨RN,RN⟩];cases a (pf n (f,0))<;>cases decide (x.1=f)<;>cases decide ((other (aI n) x).1=f)<;>rfl
   rw[e1,fK (λf=>a (pf n (f,0)) && decide (x.1=f)) λf=>a (pf n (f,0)) && decide ((other (aI n) x).1=f),CO l1,CO l2];have M:=uJ T B;rw[A]at M;rw[j.dj _ _ M.symm,<-uK T B];have c1:=l x.2 x.1 B;have c2:=l (other (aI n) x).2 (other (aI n) x).1 L;rw[<-c1,<-c2]
  unfold ze;rw[show ss.map (λz=>r z && s z)=ss.map λz=>ao ((range (aI n).length).map λf=>a (pf n (f,0)) && (s z && qr (aI n) f z))from Ap λz o=>by
   rw[Y z o];cases s z with
   |false=>
    rw[Ep];have:(λf=>a (pf n (f,0)) && (false && qr (aI n) f z))=λ_:Nat=>false:=by funext f;rw[Gq,Ep]
    rw[this,gM]
   |true=>
    rw[VJ]
    congr 1,sg]
  have:(range (aI n).length).map (λf=>ao<|ss.map λz=>a (pf n (f,0)) && (s z && qr (aI n) f z))=(range (aI n).length).map λ_=>false:=Ap λf _=>by
   cases a (pf n (f,0)) with
   |false=>
    have:(λz=>false && (s z && qr (aI n) f z))=λ_:Str=>false:=by funext z;rfl
    rw[this,gM]
   |true=>
    have:(λz=>true && (s z && qr (aI n) f z))=λz=>s z && qr (aI n) f z:=by funext z;rw[Gh]
    rw[this];have d:=Nm C s<|w u f;unfold ze at d;rw[d];exact Q f
  rw[this];exact gM _
 ·have:=G _<|q3e T x;rwa[Nm C v<|w D x]at this
 ·have:=G _<|q42 T x;rwa[ly,Nm C v<|w u x]at this
theorem iH(T:aq n)(hN:(n.map (·.1)).Nodup)(hg:db n)(h1:ends n≠[]):db (aI n):=λP⟨a,ha,pa⟩hc b hb=>by
 have A:=j4 T
 let B:bc->Prop:=λx=>P<|aC (aI n) x.1
 have O:∀x∈ends (aI n),(B x↔B (other (aI n) x)):=λx d=>by
  have Q:∀x∈ends (aI n),B x->B (other (aI n) x):=λx d k=>by
   obtain⟨z,m⟩:=af.mp d;have U:=(dH A m).1;have G:=cB m;have H:=cB U;show P (aC (aI n) (other (aI n) x).1);have k:P (aC (aI n) x.1):=k;rw[gn G]at k;rw[gn H];exact hc _ (Bt G) _ (Bt H) z (by rw[<-uH G];exact Ao m) (by rw[<-uH H];exact Ao U) k
  refine⟨Q x d,λk=>?_⟩;have:=Q _ (cR A d) k;rwa[Lw A d]at this
 let f:bc->Prop:=λe=>∃x∈ends (aI n),pf n x=e/\B x
 have v:∀{x:bc},x∈ends (aI n)->(f (pf n x)↔B x):=λ{x}d=>⟨λ⟨y,o,e,k⟩=>by rw[<-DF T o d e];exact k,λk=>⟨x,d,rfl,k⟩⟩;have bl:∀e∈ends n,(f e↔f (left n e)):=λe u=>by
  obtain⟨x,d,rfl⟩:=yG T u;rw[<-DH T d,v d,v<|gK A d,O x d];exact UW
 have bt:∀e∈ends n,(f e↔f ((other n e))):=λe u=>by
  obtain⟨x,d,rfl⟩:=yG T u;rw[<-uK T d,v d,v<|cR A d];exact O x d
 have Y:∀(p r:Nat),(r,p)∈ends n->(f (r,p)↔f (r,0)):=λp=>by
  induction p with
  |zero=>exact λr _=>UW
  |succ p ih=>
   intro r h;obtain⟨z,m⟩:=af.mp h;have I:=gk m;have I:p+1<(row n r).length:=I;have C:(r,p)∈ends n:=af.mpr ⟨_,Ab (show p<(row n r).length by omega)⟩;have e:left n (r,p)=(r,p+1):=HJ rfl (Bz I);rw[<-e,<-bl _ C];exact ih r C
 have ne:∀w∈ci n,∃e∈ends n,w[0]?=some e:=λw hw=>by
  obtain⟨e,u,rfl,_⟩:=(by
   have:=AU T (ends n) [] (λ_ h=>h) w (by unfold ci at hw;rwa[BL h1]at hw);exact this:∃e∈ends n,w=face n e/\e∉([]:List bc))
  obtain⟨hm,_⟩:=wA T u;cases hf:face n e with
  |nil=>rw[hf]at hm;cases hm
  |cons c l=>exact⟨c,wx T u c (by rw[hf];exact Ae ..),rfl⟩
 have first:∀i,i<(aI n).length->((i,0):bc)∈ends (aI n):=λi J=>by
  have jK:i<(ci n).length:=by
   have:(aI n).length=(ci n).length:=yr n<|ci n;omega
  obtain⟨e,u,h0⟩:=ne _<|Bt jK;exact(DE (Ab jK) h0).1
 obtain⟨i,J,rfl⟩:=Ck.mp ha;obtain⟨j,hj,rfl⟩:=Ck.mp hb;have xi:=first i J
 have xj:=first j hj
 have D:B (i,0):=by
  show P (aC (aI n) i);rwa[gn J]
 have L:=yF T xi;have ej:=yF T xj;have D:=(v xi).mpr D;generalize pf n (i,0)=e at L D;obtain⟨z,m⟩:=af.mp L;have lr:=cB m;have E:∀k(M:k<n.length),rn n n[k].1=k:=λk M=>by
  have:=li hN M;rwa[gn M]at this
 have same:∀x∈ends n,∀y∈ends n,x.1=y.1->f x->f y:=λx d y o e k=>by
  have a:=(Y x.2 x.1 d).mp k;rw[e]at a;exact(Y y.2 y.1 o).mpr a
 have all:=hg (λp=>∀y∈ends n,y.1=rn n p->f y) ⟨n[e.1],Bt lr,λy o k=>by
  have k:y.1=rn n n[e.1].1:=k;rw[E _ lr]at k;exact same e L y o k.symm D⟩ (λr hr s gZ t t1 t2 pr y o k=>by
  obtain⟨a,rj,rfl⟩:=Ck.mp hr;obtain⟨b,hG,rfl⟩:=Ck.mp gZ;have k:y.1=rn n n[b].1:=k;have pr:∀y∈ends n,y.1=rn n n[a].1->f y:=pr;rw[E b hG]at k;rw[E a rj]at pr;rw[<-uH rj]at t1;rw[<-uH hG]at t2;obtain⟨p,C⟩:=Be t1;obtain⟨p',jR⟩:=Be t2;have f1:aJ n (a,p)=some t:=C;have f2:aJ n (b,p')=some t:=jR;have m1:=af.mpr ⟨t,f1⟩;have m2:=af.mpr ⟨t,f2⟩;have B1:=pr _ m1 rfl;have B2:f (b,p'):=by
   obtain q|q:=(kd T f1).mp f2
   ·rwa[q]
   ·rw[q];exact(bt _ m1).mp B1
  exact same _ m2 y o k.symm B2)
 obtain⟨zj,N⟩:=af.mp ej;have lj:=cB N;have fin:=all n[(pf n (j,0)).1] (Bt lj) (pf n (j,0)) ej (E _ lj).symm;have:=(v xj).mp fin;have this:P (aC (aI n) j):=this;rwa[gn hj]at this
end
end Nt
namespace Nt
open PySem L2 Classical
theorem Xl{f:bc->bc}{g:Nat->bc}:∀k,(∀i,i<k->f (g i)=g (i+1))->e9 f ((range k).map g) (g 0) (g k)
 |0,_=>rfl
 |k+1,h=>by
  rw[Dk,Al];exact bN.mpr ⟨g k,Xl k (λi a=>h i<|(by omega)),rfl,h k<|(by omega)⟩
def uL(n:bi):List (List bc):=(range n.length).map λr=>(range (row n r).length).map λi=>(r,i%(row n r).length)
def sum_rows(n:bi):(uL n).flatten.length=(ag n).length:=by
 rw[List.length_flatten];unfold uL ag;rw[Bs,List.length_flatMap]
 congr 1
 rw[map_range n (λr:Str×List Str=>r.2.length) (λr=>(row n r).length) λk x a=>by
  show(row n k).length=x.2.length;unfold row;rw[a];rfl]
 refine Ap λr _=>?_;show((range (row n r).length).map _).length=_;rw[Aa,Dq]
variable{n:bi}
def YA(h:∀r,r<n.length->row n r≠[]):lm (left n) (ends n) (uL n):=by
 refine⟨λl d=>?_,?_,kc n⟩
 ·obtain⟨r,a,rfl⟩:=Ak.mp d;have a:=Bo.mp a;have j:=Cu.mpr<|h r a;have p:=Xl (f:=left n) (g:=λi=>(r,i%(row n r).length)) (row n r).length λi o=>by
   show((r,(i%(row n r).length+1)%(row n r).length):bc)=_;rw[Nat.mod_add_mod]
  have e:((r,0%(row n r).length):bc)=(r,(row n r).length%(row n r).length):=by rw[Ef,Nat.zero_mod]
  refine⟨(r,0%(row n r).length),Ak.mpr ⟨0,Bo.mpr j,rfl⟩,?_⟩;have p:=p;rwa[<-e]at p
 ·refine(nJ (kc n) (λe k=>?_) ?_).symm
  ·obtain⟨z,b⟩:=af.mp k;have m:=cB b;have c:=gk b;exact Dw.mpr ⟨_,Ak.mpr ⟨e.1,Bo.mpr m,rfl⟩,Ak.mpr ⟨e.2,Bo.mpr c,HJ rfl (Bz c)⟩⟩
  ·rw[sum_rows,fz];exact An _
noncomputable def pin(n:bi)(e:bc):bc:=if h:∃x∈ends (aI n),pf n x=e then h.choose else(0,0)
variable{ss:Ð}{s:Str->Bool}
def yH(T:aq n){e:bc}(h:e∈ends n):pin n e∈ends (aI n)/\pf n (pin n e)=e:=by
 have q:=yG T h;unfold pin;rw[dif_pos q];exact q.choose_spec
theorem ca(T:aq n)(F:io n)(P:Pl n)(t:ends n≠[])(i:∀r,r<n.length->row n r≠[]):Pl (aI n):=by
 have f:=j4 T;have h:=(sO T).length_eq;have j:(aI n).length=(ci n).length:=by unfold aI;rw[yr]
 have k:(uL n).length=n.length:=by unfold uL;rw[Aa,Dq]
 have u:=S7 T F P;refine .inr ⟨(uL n).map<|List.map<|pin n,(YA i).carry (λx c=>?_) ?_<|kc _,?_⟩
 ·obtain⟨d,l⟩:=yH T c;obtain⟨m,o⟩:=yH T<|Ii c;refine DF T (mq f d) m ?_;rw[tZ f d,DH T d,l,o]
 ·refine nJ (Lz (kc n) λa p b q e=>?_) (λx c=>?_) ?_
  ·rw[<-(yH T p).2,<-(yH T q).2,e]
  ·obtain⟨e,s,rfl⟩:=Ak.mp c;exact(yH T s).1
  ·rw[Aa,fz,fz,h];exact An _
 ·rw[Aa,k,j,h];omega
def Xm(T:aq n)(d:HF n)(f:(ce n).Nodup)(i:0<n.length)(h:cN (aI n) s)(b:∀z,z∈ss↔z∈ag n/\s z=true):∃j,aN n ss j:=by
 obtain⟨Z,a,c⟩:=ke<|ag n;have e:=gq a;refine Vf T d.1 f i e c (λz a=>((b z).mp a).1) λt l=>?_;rw[<-(Xi T d e c).ort t s l h];refine xR (λ_ _=>rfl) λz a=>?_;have m:=(c z).mp a;cases k:s z
 ·exact BR λq=>by rw[((b z).mp q).2]at k;cases k
 ·exact BW<|(b z).mpr ⟨m,k⟩
def mx(T:aq n)(f:HF n)(i:(ce n).Nodup)(j:0<n.length):RS (aI n):=λs h=>by
 have k:=j4 T;obtain⟨ss,r,l⟩:=ke<|(ag n).filter s;have e:∀z,z∈ss↔z∈ag n/\s z=true:=λz=>by rw[l,Bf]
 obtain⟨b,m⟩:=Xm T f i j h e;refine⟨λx=>decide (aC n (pf n x).1∈b),λx a=>?_,λx z d=>?_⟩
 ·rw[tZ k a,DH T a];rfl
 ·have a:=af.mpr ⟨z,d⟩;rw[uJ T a]at d;rw[uK T a];have c:=jQ T (ps:=b) d;rw[<-m.cut z,e z]at c;have o:=eV d;have p:s z=true↔(decide (aC n (pf n x).1∈b) != decide (aC n (other n<|pf n x).1∈b))=true:=⟨λq=>c.mp ⟨o,q⟩,λq=>(c.mpr q).2⟩;exact Cf.mpr p
def kI(T:aq n)(F:io n)(a:HF n)(b:(ce n).Nodup)(d:0<n.length)(c:ends n≠[])(e:∀r,r<n.length->row n r≠[]):HF (aI n):=⟨iH T b a.1 c,ca T F a.2.1 c e,mx T a b d⟩
def Nn(T:aq n)(o:HF n){p:Ð}(x:b8 ss)(y:∀z∈ss,z∈ag n)(h:aN (aI n) ss p):cC n ss=true:=by
 obtain⟨Z,b,d⟩:=ke<|ag n;have f:=gq b;have r:=j4 T;have i:=λz=>(d z).trans (sO T).mem_iff.symm;refine JY (s:=λz=>decide (z∈ss)) ((Xi T o f d).yE _ λs t=>?_) λz _=>?_
 ·obtain⟨a,j,u⟩:=ke<|(ag<|aI n).filter s;have c:∀z,z∈a↔z∈ag (aI n)/\s z=true:=λz=>by rw[u,Bf]
  have v:=JY t λz b=>by
   rw[Cf,Bm,c];exact⟨λq=>q.2,λq=>⟨b,q⟩⟩
  have m:=Ng r v (gq j) h;have e:=uz f (gq j) (λz b=>(i z).mpr ((c z).mp b).1) λz=>decide (z∈ss);have l:pr (λz=>decide (z∈ss)) a=false:=m;rw[e]at l;rw[<-l];refine xR (λ_ _=>rfl) λz b=>?_;have w:=(i z).mp b;cases k:s z
  ·exact(BR λq=>by rw[((c z).mp q).2]at k;cases k).symm
  ·exact(BW<|(c z).mpr ⟨w,k⟩).symm
 ·rw[Cf,CN];exact Bm
def Np(T:aq n)(a:HF n)(b:(ce n).Nodup)(c:0<n.length)(d:∀z∈ss,z∈ag n)(h:cC (aI n) ss=true):∃e,aN n ss e:=
 Xm T a b c (qD h) λz=>⟨λq=>⟨d z q,Bm.mpr q⟩,λq=>Bm.mp q.2⟩
def sP(w:Str):Str:=if w = "cut" then "round" else if w = "round" then "cut" else w
def d1(T:aq n)(f:HF n)(j:(ce n).Nodup)(k:0<n.length){z w:Str}(h:KK (aI n) z w ss):KK n z (sP w) ss:=by
 obtain⟨a,b,c,d⟩:=h;have i:=λy l=>(sO T).mem_iff.mp<|b y l;have bl:∀y∈less ss z,y∈ag n:=λy l=>i y (bd.mp l).1;refine⟨a,i,c,?_⟩
 obtain⟨rfl,d,m,e⟩|⟨rfl,⟨m,d⟩,e⟩|⟨rfl,d,m,e⟩:=d
 ·exact .inl ⟨(by decide),Nn T f a i e,Np T f j k i d⟩
 ·exact .inr<|.inr ⟨(by decide),Nn T f a i d,Np T f j k bl e⟩
 ·exact .inr<|.inl ⟨(by decide),Np T f j k i d,Nn T f (yy a z) bl e⟩
end Nt
namespace Nt
open PySem L2 Dt
section
variable{n:bi}
theorem FM{f:Nat->Str}(inj:∀i:Fin 60,∀j:Fin 60,f i.1=f j.1->i.1=j.1){k:Nat}(h:k<=60):((range k).map f).Nodup:=by
 rw[By,Dr];refine(By.mp Ga).imp_of_mem λ{a b}c d e k=>e ?_;exact inj ⟨a,by have:=Bo.mp c;omega⟩ ⟨b,by have:=Bo.mp d;omega⟩ k
def rR(h:(ci n).length<=60):((aI n).map (·.1)).Nodup:=by
 have e:(aI n).map (·.1)=(range (ci n).length).map ku:=by
  unfold aI dR;rw[Bs,List.range_eq_range',<-List.zipIdx_map_snd 0,Bs];rfl
 rw[e];exact FM (by decide +kernel) h
end
end Nt
namespace E9
open PySem L2 Nt bE bP
open PyProof.Rows (sortedS)
open Classical
variable{w:World}{P:Program}
def Xp{X:Cx}:mU (XF P w) X (λ_ _ _=>False):=λ_ _ _ _ _ _ _ h=>by
 obtain⟨_,_,_,_,_,h,_⟩:=h;exact h.elim
def VT(x y:Str):decide (V.str x=V.str y)=decide (x=y):=by
 rw[decide_eq_decide];exact⟨V.str.inj,λk=>by rw[k]⟩
def Nq:Sp:=λd H Q _=>∃R h t e L as n z a b,d=[.ref R,.str z,.ref h,.ref t]/\ai H R as n/\(ce n).Nodup/\aq n/\db n/\0 < n.length/\n.length<=31/\(ag n).length<=60/\H h=some (.tup [.str<|sP a,.ref e])/\H t=some (.tup [.str a,.ref L])/\H L=some (Ls b)/\KK n z (sP a) b/\(a = "double"\/a = "cut"\/a = "round")/\∀c,aj H c->Q (.bl true) c
def DL(K:aa):Sp:=λc H Q _=>∃(a:Addr)(b:List Int),c=[.ref a]/\au K H a (b.map V.int)/\b.length<=63/\∀d,Q (.bl true) d
variable{Z:Heap}{mg:Ñ}{K:aa}{fd:FuncData}{f:Addr}{c:Str->Addr}
abbrev Xq:Ð:=["_law_rows","_law_tie","_law_here","_law_there","_law_some","_law_rest"]
abbrev yI:Ð:=["_law_rows","_law_tie","_law_here","_law_there","_law_some","_law_rest","_law_one"]
def yJ:ak Xq ["_law_rows","_law_tie","_law_here","_law_there"] (aW AA):=cm
def mW:yI.Nodup:=by decide +kernel
theorem GG(F:bB K "_law_turned" "_law_turned" AA f fd)(T:Txt mg)(G:(aP P w K mg Z) 3 "_law_is_round" ["_law_rows","_law_some"] M1)(I:(aP P w K mg Z) 3 "_law_side" ["_law_rows","_law_some"] M4):(aE P w K mg Z bK) 4 f fd ["_law_rows","_law_tie","_law_here","_law_there"] Nq:=by
 refine F.gc yJ λb0 H vs Q E j h=>?_;obtain⟨R,h,t,L1,L,as,n,z,wd,a,rfl,hR,J,B,M,N,hn,O,eh,et,U,⟨so,c,hz,ok⟩,Y,q⟩:=h;have nd:=yJ.nd;have lc:=A6 B (gq so) c;refine aZ 4 nd<|a8 bQ<|ae 3<|aG ⟨t,_,_,.ref L,rfl,rfl,aQ.of et,rfl,?_⟩;refine oq 5 (aW AA) Xq yI 1 nd (gD bI)<|ae 4 ⟨L,rfl,⟨_,au.of U⟩,λD hD=>?_⟩;refine v7 (λy=>!decide (y=z)) (cg<|(by omega)) U hD (λcl C s0 H0 ex v v0 H' R' h=>bw 6 mW h) (λcl C s0 H0 ex y zs T' h=>oQ<|cz tj<|ae 6<|ae 1 ⟨rfl,_,rfl,?_⟩) (λcl C s0 H0 ex z H' R' h=>ae 6 h) ?_
 ·rwa[VT]
 have e:=aS hD<|.lst<|(a.filter λy=>!decide (y=z)).map V.str;have eD:(upd H D<|.lst<|(a.filter λy=>!decide (y=z)).map V.str) D=some (Ls<|less a z):=az;generalize upd H D (.lst<|(a.filter λy=>!decide (y=z)).map V.str)=H2 at e eD;have pC:=e _ _ et;have i:=e _ _ eh;have l:=e _ _ U;have m:=hR.same e;have Nr:∀ y∈less a z,y∈ag n:=λy hy=>c y (bd.mp hy).1;refine dP<|F6<|zi<|vB<|vC<|cM FX T.IL JV<|ah<|ae 4<|ah<|F4 (.ty "list") T.kL MN rfl (ax ⟨_,_,_,true,rfl,.lst l,Ky K,true,rfl,bR ?_⟩);refine P7<|cz Pb<|ae 1<|ae 4 ⟨L,_,rfl,.inl<|au.of l,rfl,my _,_,rfl,?_⟩;have fT:∀(x y:Bool),(if true=true then x else y)=x:=λ_ _=>rfl;rw[fT,mw,Bm.mpr hz];refine bR<|a9 ?_
 obtain rfl|rfl|rfl:=Y
 ·have sw:sP "double" = "double":=(by decide)
  rw[sw]at i ok;obtain⟨_,o,p,r⟩|⟨k,_⟩|⟨k,_⟩:=ok
  case inr.inl=>exact absurd k<|(by decide)
  case inr.inr=>exact absurd k<|(by decide)
  refine dP<|cz fX<|a8 bQ<|ae 2<|aG ⟨h,_,_,.str "double",rfl,rfl,aQ.of i,rfl,fZ ⟨rfl,_,rfl,?_⟩⟩;rw[BW rfl];refine cv<|bS<|tI<|j6 fX<|a8 bQ<|ae 3<|aG ⟨t,_,_,.str "double",rfl,rfl,aQ.of pC,rfl,fZ ⟨rfl,_,rfl,?_⟩⟩;rw[BW rfl,BP rfl];refine tI (bC G j<|ah<|ae 0<|ah<|ae 4<|ax ⟨R,L,as,n,a,rfl,m,(by omega),(by omega),l,λH3 d=>⟨_,rfl,?_⟩⟩);rw[o,BP rfl];refine F5 (j6 EG<|bC I j<|ah<|ae 0<|ah<|ae 4<|ax ⟨R,L,as,n,a,rfl,m.same d,B,M,J,N,(by omega),O,d _ _ l,c,λA iA s b n4 e4 Xr=>zh ⟨rfl,?_⟩,λs b u=>absurd r<|u p⟩);rw[BR λh=>by cases h];exact q _<|(e.trans d).trans b
 ·have sw:sP "cut" = "round":=(by decide)
  rw[sw]at i ok;obtain⟨k,_⟩|⟨k,_⟩|⟨_,o,p,r⟩:=ok
  ·exact absurd k<|(by decide)
  ·exact absurd k<|(by decide)
  refine dP<|cz fX<|a8 bQ<|ae 2<|aG ⟨h,_,_,.str "round",rfl,rfl,aQ.of i,rfl,fZ ⟨rfl,_,rfl,?_⟩⟩;rw[BR<|(by decide)];refine bR<|a9<|dP<|cz fX<|a8 bQ<|ae 2<|aG ⟨h,_,_,.str "round",rfl,rfl,aQ.of i,rfl,fZ ⟨rfl,_,rfl,?_⟩⟩;rw[BR<|(by decide)];refine bR<|a9<|bS<|tI<|j6 fX<|a8 bQ<|ae 3<|aG ⟨t,_,_,.str "cut",rfl,rfl,aQ.of pC,rfl,fZ ⟨rfl,_,rfl,?_⟩⟩;rw[BW rfl,BP rfl];refine tI (bC G j<|ah<|ae 0<|ah<|ae 4<|ax ⟨R,L,as,n,a,rfl,m,(by omega),(by omega),l,λH3 d=>⟨_,rfl,?_⟩⟩);rw[o,BP rfl];refine F5 (j6 EG<|bC I j<|ah<|ae 0<|ah<|ae 5<|ax ⟨R,D,as,n,less a z,rfl,m.same d,B,M,J,N,(by omega),O,d _ _ eD,Nr,λA iA s b n4 e4 Xr=>zh ⟨rfl,?_⟩,λs b u=>absurd r<|u p⟩);rw[BR λh=>by cases h];exact q _<|(e.trans d).trans b
 ·have sw:sP "round" = "cut":=(by decide)
  rw[sw]at i ok;obtain⟨k,_⟩|⟨_,⟨p,r⟩,o⟩|⟨k,_⟩:=ok
  ·exact absurd k<|(by decide)
  case inr.inr=>exact absurd k<|(by decide)
  refine dP<|cz fX<|a8 bQ<|ae 2<|aG ⟨h,_,_,.str "cut",rfl,rfl,aQ.of i,rfl,fZ ⟨rfl,_,rfl,?_⟩⟩;rw[BR<|(by decide)];refine bR<|a9<|dP<|cz fX<|a8 bQ<|ae 2<|aG ⟨h,_,_,.str "cut",rfl,rfl,aQ.of i,rfl,fZ ⟨rfl,_,rfl,?_⟩⟩;rw[BW rfl];refine cv<|bS<|tI<|j6 fX<|a8 bQ<|ae 3<|aG ⟨t,_,_,.str "round",rfl,rfl,aQ.of pC,rfl,fZ ⟨rfl,_,rfl,?_⟩⟩;rw[BW rfl,BP rfl];refine tI (j6 EG<|bC I j<|ah<|ae 0<|ah<|ae 4<|ax ⟨R,L,as,n,a,rfl,m,B,M,J,N,(by omega),O,l,c,λA iA s b n4 e4 Xr=>zh ⟨rfl,_,rfl,?_⟩,λs b u=>absurd r<|u p⟩);rw[BR (λh=>by cases h),BP<|by rfl];refine F5 (bC G j<|ah<|ae 0<|ah<|ae 5<|ax ⟨R,D,as,n,less a z,rfl,m.same b,(by omega),(by omega),b _ _ eD,λH3 d=>?_⟩);rw[o];exact q _<|(e.trans b).trans d
abbrev NW:Ð:=["_law_script","_law_rows","_law_beyond","_law_tie","_law_here","_law_there"]
def pT:ak NW ["_law_script"] (aW qS):=cm
theorem G0(F:bB K "law" "law" qS f fd)(T:Txt mg)(cl:Cl K mg c)(GC:(aP P w K mg Z) 9 "_law_cell_at" ["_law_script","_law_k"]<|AB K)(GB:(aP P w K mg Z) 9 "_law_big" ["_law_script","_law_at"]<|IP K)(GN:(aP P w K mg Z) 9 "_law_net_by" ["_law_big_here","_law_most","_law_stem"] Kd)(GS:(aP P w K mg Z) 9 "_law_seats" ["_law_rows"] tR)(y:(aP P w K mg Z) 9 "_law_copy" ["_law_rows"] Kl)(GO:(aP P w K mg Z) 9 "other_net" ["rows"] MU)(GK:fD P w K mg Z 9 "kind_of" ["rows","tie"]<|M0 c)(GT:(aP P w K mg Z) 9 "_law_turned" ["_law_rows","_law_tie","_law_here","_law_there"] Nq):(aE P w K mg Z bK) 10 f fd ["_law_script"] (DL K):=by
 refine F.gc pT λb0 H vs Q E b h=>?_;obtain⟨a,ns,rfl,hS,Û,q⟩:=h;have nd:=pT.nd;refine aZ 1 nd (bC GN b<|ah<|bC GB b<|ah<|ae 0<|ah<|aG<|ax ⟨a,ns,0,rfl,hS,(by decide),λb1 H1 s1=>?_⟩);refine ah (aG<|ah<|bC GC b<|ah<|ae 0<|ah<|aG<|ax ⟨a,ns,1,rfl,s1.seq hS,(by decide),λc2=>?_⟩);refine ax ⟨b1,20,c2,rfl,(by decide),(by decide),λR as n H2 s2 n2 hR d j o l dZ xA has=>?_⟩;have A:((20:Int)).toNat=20:=rfl;rw[A]at dZ xA;have m:0<n.length:=Cu.mpr o.some;refine aZ 2 nd (bC GO b<|ah<|bC y b<|ah<|ae 1<|ax ⟨R,as,n,rfl,hR,(by omega),λM bs H3 s3 n3 f3 hM=>ax ⟨M,bs,n,rfl,hM,j,d,(by omega),(by omega),λB cs H4 s4 n4 f4 hB _=>?_⟩⟩);have mD:=hR.same<|s3.trans s4;refine jF (lb rfl T.sorted T.kL GS b (ae 1 ⟨R,as,n,rfl,mD,(by omega),(by omega),λt tt H5 s5 n5 e5 l5 Ü m5=>⟨t,rfl,⟨_,au.of e5⟩,?_⟩⟩));have wJ:=mD.same s5;have yv:=hB.same s5;refine jG (xs:=tt.map V.str) (λi p H'=>∃C D G:Option V,aj H5 H'/\p=[(some (.ref a)),(some (.ref R)),(some (.ref B)),C,D,G]) ⟨_,_,_,aj.refl _,rfl⟩ ?_ ?_ ?_
 ·rintro i p H' _ ⟨_,_,_,e,_⟩;exact au.of<|e _ _ e5
 ·rintro i x p H6 hx ⟨C,D,G,e,rfl⟩;rw[Ah,Az]at hx;obtain⟨z,hz,rfl⟩:=hx;have s:=(m5 z).mp<|Ao hz;have hE:ends n≠[]:=λk=>by
   have:=fz n;rw[k]at this;have:=Gs s;simp at *;omega
  have rP:∀r,r<n.length->row n r≠[]:=by
   obtain⟨nm,rfl⟩|⟨_,h⟩:=o
   ·cases s
   ·exact h
  have eu:=S7 d o l.2.1;have lo:(aI n).length=(ci n).length:=by unfold aI;rw[yr]
  have I:z∈ag (aI n):=(sO d).mem_iff.mpr s;have tl:=(sO d).length_eq;have J:0<(aI n).length:=by
   refine Cu.mpr λk=>?_;rw[k]at I;cases I
  have N:(ce<|aI n).Nodup:=rR (by omega);have O:=kI d o l j m hE rP;refine bw 3 nd ?_;refine aZ 4 nd (LV GK b Xp<|ah<|bC y b<|ah<|ae 1<|ax ⟨R,as,n,rfl,wJ.same e,(by omega),λM2 U H7 s7 n7 f7 Y=>ah<|ae 3<|ax ⟨M2,U,n,z,rfl,Y,j,d,l,m,(by omega),(by omega),λk=>absurd s k,λ_ u L1 Õ Ý H8 s8 nu nL Ö Þ Ø=>?_⟩⟩);have Xs:=s7.trans s8;refine aZ 5 nd (LV GK b Xp<|ah<|bC y b<|ah<|ae 2<|ax ⟨B,cs,aI n,rfl,(yv.same e).same Xs,(by omega),λM3 Ù H9 s9 n9 f9 Ú=>ah<|ae 3<|ax ⟨M3,Ù,aI n,z,rfl,Ú,N,j4 d,O,J,(by omega),(by omega),λk=>absurd I k,λ_ v L wd ss HA sA nv ß ev eL ok=>?_⟩⟩);have Xt:=s9.trans sA;have kk:=d1 d l j m ok.kk;have ew:Õ=sP wd:=bx d m Ø.kk kk;subst ew;have Nu:=Xt _ _ Ö;have Xu:=Xs.trans Xt;refine dP<|F6<|zi<|vB<|vC<|cM FX T.IL JV<|ah<|ae 4<|ah<|F4 (.ty "tuple") T.kK SJ rfl (ax ⟨_,_,_,true,rfl,.tup Nu,xa K,true,rfl,bR ?_⟩);refine zi<|vB<|vC<|cM FX T.IL JV<|ah<|ae 5<|ah<|F4 (.ty "tuple") T.kK SJ rfl (ax ⟨_,_,_,true,rfl,.tup ev,xa K,true,rfl,bR ?_⟩);refine zi<|cz tj<|cM eU T.len DY<|ah<|ae 4<|ax ⟨u,_,rfl,.inr<|aQ.of Nu,aG ⟨rfl,_,rfl,bR ?_⟩⟩;refine P7<|cz tj<|cM eU T.len DY<|ah<|ae 5<|ax ⟨v,_,rfl,.inr<|aQ.of ev,aG ⟨rfl,_,rfl,bR<|a9 ?_⟩⟩;exact dP<|vB<|vC<|bC GT b<|ah<|ae 1<|ah<|ae 3<|ah<|ae 4<|ah<|ae 5<|ax ⟨R,u,v,L1,L,as,n,z,wd,ss,rfl,(wJ.same e).same Xu,j,d,l.1,m,(by omega),(by omega),Nu,ev,eL,kk,Ni ok.kk,λHB sB=>⟨true,rfl,bR<|a9<|a9 ⟨_,_,_,(e.trans Xu).trans sB,rfl⟩⟩⟩
 ·rintro p H6 ⟨C,D,G,e,rfl⟩;exact bS<|zg<|q H6
end E9
namespace L2
open PySem PySem.Spec PyProof.Rows
variable{ps:Ð}{mg:Ñ}{K:aa}
def Df.hx{P:Program}{w:World}{h Z:Heap}{k:Nat}{x:Str}{st:Stmt}{sp:Sp}(d:Df K x st)(X:K.In h)(G:h.Ns mainGlobals mg)
  (ok:∀{f:Addr}{c:FuncData},bB K x x st f c->aE P w K mg Z (XF P w) k f c ps sp)
  (e:∀(kV a pm:Value)(i:Option Addr)(j ct:Value)(b:Ò),b.length=ps.length->bindArgs (PySem.W.fnOf x x (lV st) (gY st) (aW st) .none kV a pm i j ct) ⟨b,[]⟩=pure (ps.zip b):=by intro _ _ _ _ _ _;(repeat (refine L2.vJ λ_=>?_));exact L2.vK rfl):fD P w K mg Z k x ps sp:=d.LW X G e ok
end L2
namespace E9
open PySem L2
variable{mg:Ñ}{l:PySem.W.OpenLaw}
def BC{w:World}{K:aa}{h:Heap}{U:Addr}(X:K.In h)(G:h.Ns mainGlobals mg)(Hs:mg "law" = some (.ref U))
  (h1:Df K "ends_round" zR) (h2:Df K "ends_in_order" zS) (h3:Df K "turned_left" Io) (h4:Df K "turned_right" Ip) (h5:Df K "other_ends" Iq) (h6:Df K "ties_by_end" zT) (h7:Df K "left_steps" zU) (h8:Df K "right_steps" zV) (h9:Df K "points_of" zW) (Nv:Df K "links_of" Iw) (Nw:Df K "summed" Iy) (Nx:Df K "odd_points" iP) (Ny:Df K "cut_of" zY) (Nz:Df K "walkers_of" qM) (NA:Df K "walker_from" qN) (ND:Df K "core_of" vY) (NM:Df K "cores_of" zZ) (NU:Df K "parted" z6) (NV:Df K "points_by" Iz) (NX:Df K "lowered" IA) (NY:Df K "_law_cell_at" IC) (N0:Df K "_law_big" qO) (N2:Df K "_law_names" IE) (N3:Df K "_law_seats" IG) (N4:Df K "_law_other" IH) (N5:Df K "_law_step" II) (N6:Df K "_law_face" IJ) (N7:Df K "_law_put" qP) (N8:Df K "_law_net_by" qR) (N9:Df K "_law_copy" z7) (Oa:Df K "_law_is_round" z8) (Ob:Df K "_law_side" z9) (Oc:Df K "ties_of" zX) (Od:Df K "need_tie" Iv) (Oe:Df K "kind_of" IB) (Og:Df K "face_from" Iu) (Oh:Df K "faces_of" Ir) (Oi:Df K "other_net" qL) (Oj:Df K "_law_turned" AA) (hl:Df K "law" qS)
  (qc:MV K=true)
  (z:∀ x∈(["isinstance","tuple","str","int","bool","list","dict","set","enumerate","zip","len","range","sorted","max","all","ValueError"]:Ð),PySem.W.nsIn K mainGlobals x=some none):
  ∃ a:FuncData,(∀(s:Shared) (v:Value),BindsTo s a ⟨[v],[]⟩ [("_law_script",v)])/\∀Z:Heap,K.In Z->Z.Ns mainGlobals mg->aE l.prog w K mg Z bK 10 U a ["_law_script"] (DL K):=by
 have T:Txt mg:=⟨CV X G (z _<|by simp),CV X G (z _<|by simp),CV X G (z _<|by simp),CV X G (z _<|by simp),CV X G (z _<|by simp),CV X G (z _<|by simp),CV X G (z _<|by simp),CV X G (z _<|by simp),CV X G (z _<|by simp),CV X G (z _<|by simp),CV X G (z _<|by simp),CV X G (z _<|by simp),CV X G (z _<|by simp),CV X G (z _<|by simp),CV X G (z _<|by simp),CV X G<|z _<|by simp⟩;have b:=Pe X G qc;refine hl.law X G Hs (λ_ _ _ _ _ _ s v=> .of_eq rfl) λZ f a F=>?_;have c:(aP l.prog w K mg Z) 1 "ends_round" ["row"] wU:=h1.hs X G λF=>FF F T;have Y:(aP l.prog w K mg Z) 2 "ends_in_order" ["rows"] BI:=h2.hs X G λF=>vq F T (c.mono<|(by decide));have G3:(aP l.prog w K mg Z) 1 "turned_left" ["end","many"] (iS λj=>j+1):=h3.hs X G λF=>qH F T;have G4:(aP l.prog w K mg Z) 1 "turned_right" ["end","many"] (iS λj=>j-1):=h4.hs X G λF=>xO F T;have G5:(aP l.prog w K mg Z) 2 "other_ends" ["rows"] lh:=h5.hs X G λF=>WE F T (c.mono<|(by decide));have d:(aP l.prog w K mg Z) 2 "ties_by_end" ["rows"] lz:=h6.hs X G λF=>rz F T (c.mono<|(by decide));have G7:(aP l.prog w K mg Z) 3 "left_steps" ["rows"] (ic 1):=h7.hs X G λF=>Oq F T (G5.mono<|(by decide)) (G3.mono<|(by decide));have G8:(aP l.prog w K mg Z) 3 "right_steps" ["rows"] (ic (-1)):=h8.hs X G λF=>NG F T (G5.mono<|(by decide)) (G4.mono<|(by decide));have e:(aP l.prog w K mg Z) 1 "walker_from" ["lefts","rights","first"] rQ:=NA.hs X G λF=>uM F T;have i:(aP l.prog w K mg Z) 4 "walkers_of" ["rows"] KL:=Nz.hs X G λF=>Zp F T (G7.mono<|(by decide)) (G8.mono<|(by decide)) (d.mono<|(by decide)) (Y.mono<|(by decide)) (e.mono<|(by decide));have k:(aP l.prog w K mg Z) 3 "core_of" ["rows","walker"] Mp:=ND.hs X G λF=>OI F T (d.mono<|(by decide));have m:(aP l.prog w K mg Z) 5 "cores_of" ["rows"] MC:=NM.hs X G λF=>eE F T (i.mono<|(by decide)) (k.mono<|(by decide));have G9:(aP l.prog w K mg Z) 1 "points_of" ["rows"] Mg:=h9.hs X G λF=>F9 F T;have n:(aP l.prog w K mg Z) 1 "links_of" ["rows"] Ld:=Nv.hs X G λF=>lS F T;have Xv:(aP l.prog w K mg Z) 2 "cut_of" ["rows","points"] CY:=Ny.hs X G λF=>y3 F T (n.mono<|(by decide));have Xw:(aP l.prog w K mg Z) 1 "odd_points" ["rows","some"] C1:=Nx.hs X G λF=>nX F T;have Xx:(aP l.prog w K mg Z) 1 "summed" ["one","other"] C0:=Nw.hs X G λF=>Zl F T;have o:(aP l.prog w K mg Z) 2 "lowered" ["steps","points","odds"] MD:=NX.hs X G λF=>Mn F T (Xx.mono<|(by decide));have p:(aP l.prog w K mg Z) 4 "points_by" ["rows","odds"] sv:=NV.hs X G λF=>ot F T (G9.mono<|(by decide)) (o.mono<|(by decide)) (Xw.mono<|(by decide)) (Xv.mono<|(by decide));have q:(aP l.prog w K mg Z) 6 "parted" ["rows","some"] ME:=NU.hs X G λF=>O4 F T (m.mono<|(by decide)) (Xv.mono<|(by decide)) (p.mono<|(by decide)) (Xw.mono<|(by decide)) (Xx.mono<|(by decide));have Xy:(aP l.prog w K mg Z) 1 "_law_cell_at" ["_law_script","_law_k"] (AB K):=NY.hs X G λF=>br F T;have r:(aP l.prog w K mg Z) 2 "_law_big" ["_law_script","_law_at"] (IP K):=N0.hs X G λF=>Sb F T (Xy.mono<|(by decide));have t:(aP l.prog w K mg Z) 1 "_law_names" ["_law_stem","_law_many"] IQ:=N2.hs X G λF=>tM F T;have u:(aP l.prog w K mg Z) 1 "_law_seats" ["_law_rows"] tR:=N3.hs X G λF=>dw F T;have Xz:(aP l.prog w K mg Z) 1 "_law_other" ["_law_rows","_law_seats_here","_law_end"] AF:=N4.hs X G λF=>Pc F T;have y:(aP l.prog w K mg Z) 2 "_law_step" ["_law_rows","_law_seats_here","_law_end","_law_turn"] IT:=N5.hs X G λF=>tK F T (Xz.mono<|(by decide));have A:(aP l.prog w K mg Z) 3 "_law_face" ["_law_rows","_law_seats_here","_law_end"] IU:=N6.hs X G λF=>HH F T (y.mono<|(by decide));have B:(aP l.prog w K mg Z) 4 "_law_put" ["_law_rows","_law_big_here","_law_tie","_law_point"] J2:=N7.hs X G λF=>Sd F T (u.mono<|(by decide)) (A.mono<|(by decide));have C:(aP l.prog w K mg Z) 5 "_law_net_by" ["_law_big_here","_law_most","_law_stem"] Kd:=N8.hs X G λF=>GY F T (t.mono<|(by decide)) (B.mono<|(by decide));have D:(aP l.prog w K mg Z) 1 "_law_copy" ["_law_rows"] Kl:=N9.hs X G λF=>zI F T;have E:(aP l.prog w K mg Z) 1 "ties_of" ["rows"] sE:=Oc.hs X G λF=>I7 F T;have H:fD l.prog w K mg Z 2 "need_tie" ["rows","tie"] (MX<|j3 K):=Od.hx X G λF=>Lm F T b (E.mono<|(by decide));have I:fD l.prog w K mg Z 8 "kind_of" ["rows","tie"] (M0<|j3 K):=Oe.hx X G λF=>ee F T b (H.mono<|(by decide)) (q.mono<|(by decide));have J:(aP l.prog w K mg Z) 1 "_law_is_round" ["_law_rows","_law_some"] M1:=Oa.hs X G λF=>Is F T;have L:(aP l.prog w K mg Z) 3 "_law_side" ["_law_rows","_law_some"] M4:=Ob.hs X G λF=>BY F T (u.mono<|(by decide)) (Xz.mono<|(by decide));have M:(aP l.prog w K mg Z) 1 "face_from" ["steps","first"] sy:=Og.hs X G λF=>WA F T;have N:(aP l.prog w K mg Z) 4 "faces_of" ["rows"] MQ:=Oh.hs X G λF=>qy F T (Y.mono<|(by decide)) (G7.mono<|(by decide)) (M.mono<|(by decide));have O:(aP l.prog w K mg Z) 5 "other_net" ["rows"] MU:=Oi.hs X G λF=>CS F T (d.mono<|(by decide)) (N.mono<|(by decide));have Q:(aP l.prog w K mg Z) 4 "_law_turned" ["_law_rows","_law_tie","_law_here","_law_there"] Nq:=Oj.hs X G λF=>GG F T (J.mono<|(by decide)) (L.mono<|(by decide));exact G0 F T b (Xy.mono<|(by decide)) (r.mono<|(by decide)) (C.mono<|(by decide)) (u.mono<|(by decide)) (D.mono<|(by decide)) (O.mono<|(by decide)) (I.mono<|(by decide))<|Q.mono<|(by decide)
variable{K:Params->aa}{YP:World->Heap->Prop}{XP:Ñ->Heap->Prop}{loose:Ð}
def walk{q:Program}{d:DefRec}(e:l.most=some 63)(i:d.params.defaults=[])
  (j:∀(w:World)(h:Heap),YP w h->(K w.params).In h)
  (F : ∀(w : World)(mg : Str → Option Value)(b : Addr)(h : Heap), (K w.params).In h → h.Ns mainGlobals mg → mg d.name = some (.ref b) →
   ∃ c:FuncData,(∀(s:Shared) (u:Value),BindsTo s c ⟨[u],[]⟩ [("_law_script",u)])/\∀Z:Heap,(K w.params).In Z->Z.Ns mainGlobals mg->aE l.prog w (K w.params) mg Z bK 10 b c ["_law_script"] (DL<|K w.params)):
  PySem.W.WalkO q loose XP YP l.row.toRowW d [] (λf vs=>PySem.call f vs):=
 L2.mZ (n:=63) (k:=10) (x:= "_law_script") (CX:=λ_=>bK) (sp:=λw=>DL<|K w.params) e (by decide) i ⟨rfl,(by decide),(by decide)⟩ j F (λ_ _ a m o _ p=>⟨a,m,rfl,p,o,λ_=>rfl⟩) λ_ _ _ _ _ z=>z
end E9
-- see NOTE.md
namespace PySem.W.Fast
def tw7789654656531584703:=()
def tw9300927967488071695:=()
def tw11845284341870396005:=()
def tw4341534339678868959:=()
def tw1592153442715983245:=()
def tw1203715297885624127:=()
def tw8079669409558951924:=()
def tw11225821099230825061:=()
def tw1497466087308918036:=()
def tw15777263074704898194:=()
def tw13609621904214152028:=()
def tw14121882703062846933:=()
def tw16025705801023151134:=()
def tw4025103661163994326:=()
def tw5724827000997140033:=()
def tw6520323023774174999:=()
def tw9058383478663733154:=()
def tw10555467334710632053:=()
def tw14298449868707699230:=()
def tw7052233681045445315:=()
def tw11657400311491993256:=()
def tw1773963306388933735:=()
def tw12678605312595487037:=()
def tw1057222510270343196:=()
def tw12308644817577285451:=()
def tw2415315863716607553:=()
def tw5576845469060907696:=()
def tw3589927071897028181:=()
def tw12842440417728977976:=()
def tw16245109117655372929:=()
def tw4991587071387527768:=()
def tw12685742286497159884:=()
def tw18283728181254469812:=()
def tw5160514294156862338:=()
def tw2637764610186088188:=()
def tw3347919731019274078:=()
def tw2639221791732306176:=()
def tw6192407772962392731:=()
def tw17044383584233281113:=()
def tw8645180835870046931:=()
def tw9238420133443722835:=()
def tw4740453352099445917:=()
def tw14160453600137449533:=()
def tw4938768600545666173:=()
def tw11237734110557056167:=()
def tw7739571391909653406:=()
def tw4713483295129509719:=()
def tw3786386592272670554:=()
def tw18020030043412992174:=()
def tw809241805862329776:=()
def tw839166826416542174:=()
def tw10996341461164672875:=()
def tw6283976642224559509:=()
def tw9745968534093382110:=()
def tw7721035407338079094:=()
def tw3966109766650946463:=()
def tw7840901091159918484:=()
def tw7401271598572992259:=()
def tw17673285493440459522:=()
def tw5998982743705631693:=()
def tw3126529199991486684:=()
def tw16164591442087278620:=()
def tw2213082764059263442:=()
def tw7307926049056148614:=()
def tw6738385009102509617:=()
def tw18065663970152874475:=()
def tw3486556568718582184:=()
def tw1579768965967808176:=()
def tw11611957673348132476:=()
def tw8697845632604788651:=()
def tw10838107745633874406:=()
def tw841934233779845679:=()
def tw16620531034076451700:=()
def tw14090834364491110363:=()
def tw10718028742549500303:=()
def tw17225294951212658607:=()
def tw1269873066087454594:=()
def tw10991457769154171047:=()
def tw8402347607316612578:=()
def tw10795439496217956972:=()
def tw17473114453890365701:=()
def tw10900844923899338784:=()
def tw12396524524081985631:=()
def tw9190074870858758043:=()
def tw6085258345428965683:=()
def tw18219292991420741815:=()
def tw4611090479300936621:=()
def tw4971127500754483745:=()
def tw4323100330797733327:=()
def tw3712306536897142370:=()
def tw1457416495535543883:=()
def tw10319853007040011671:=()
def tw142125900629891245:=()
def tw6275232856589019651:=()
def tw3842345773702241887:=()
def tw3360700887447650387:=()
end PySem.W.Fast
open PySem PySem.W PyProof.Rows
set_option maxRecDepth 100000 in
set_option maxHeartbeats 0 in
theorem PySem.Challenge.cw_threewebs_k54_kinds_of_the_other_net_holds : PySem.Challenge.rw_threewebs_k54_kinds_of_the_other_net.Holds := by
 w_on;o_law;k_head;(case hw=>w_witness2)
 k_fill
 refine E9.walk (l:=PySem.Challenge.rw_threewebs_k54_kinds_of_the_other_net) rfl rfl (λw h ý=>PySem.W.kIn_of ý) ?F
 case F=>
  intro w mg fa h KX G vw;refine' E9.BC KX G vw ?h1 ?h2 ?h3 ?h4 ?h5 ?h6 ?h7 ?h8 ?h9 ?Nv ?Nw ?Nx ?Ny ?Nz ?NA ?ND ?NM ?NU ?NV ?NX ?NY ?N0 ?N2 ?N3 ?N4 ?N5 ?N6 ?N7 ?N8 ?N9 ?Oa ?Ob ?Oc ?Od ?Oe ?Og ?Oh ?Oi ?Oj ?h0 ?qc ?zz
  case h1|h2|h3|h4|h5|h6|h7|h8|h9|Nv|Nw|Nx|Ny|Nz|NA|ND|NM|NU|NV|NX|NY|N0|N2|N3|N4|N5|N6|N7|N8|N9|Oa|Ob|Oc|Od|Oe|Og|Oh|Oi|Oj|h0=>refine' L2.vI ?a ?l ?c ?k;(case a=>k_is);(case l=>k_is);(case c=>k_is);(case k=>k_is)
  case qc=>kernel_rfl
  case zz=>
   refine' List.forall_mem_cons.mpr ⟨?_,?_⟩;k_is
   iterate 15 (refine' List.forall_mem_cons.mpr ⟨?_,?_⟩;k_is)
   exact λx hx=>nomatch hx


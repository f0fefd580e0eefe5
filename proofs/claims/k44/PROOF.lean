import PyProof.Rows.All
import Wide.All
import OpenK.AllK
import Wide.FinOn
import Lean
import PyProof.EqAt
import PyProof.EqKinds
import PyProof.TupleCall
import KE.KDictLaws
import KE.KDictList
import KE.KDictSum
import KE.KIsAll
import KE.KSortTup
import KE.KUnpack
import KE.KUnpackStar
import PyProof.AttrMissSeq
import PyProof.CallStr
import PyProof.Conv_int_bool
import PyProof.DictItems
import PyProof.DictIter
import PyProof.DictList
import PyProof.EnumFor
import PyProof.EnumMake
import PyProof.EnumStmt
import PyProof.ExcArgsOwn
import PyProof.ExcAttrAll.ValueError
import PyProof.ExcBaseAll.ValueError
import PyProof.NeKinds
import PyProof.NsDelKeeps
import PyProof.Rows.CatchOwn
import PyProof.Rows.CountFlat
import PyProof.Rows.EnumRows
import PyProof.Rows.FStr
import PyProof.Rows.SeqMore
import PyProof.Rows.SortRev
import PyProof.Rows.SortRuns
import PyProof.Rows.StrSplitJoin
import PyProof.Rows.StrWeight2
import PyProof.Rows.TupDisplay
import PyProof.RulesTry
import PyProof.SetNew
import PyProof.SetRoads
import PyProof.StationsW
import PyProof.StrOps
import PyProof.TupleKey
import PyProof.WalkInts
import PyProof.ZipIter
import PySem.Challenge.RW_threewebs_k44_many_walkers
local macro_rules|`(tactic|omega)=>`(tactic|first|lia|omega +splitDisjunctions)
abbrev BJ:=@PySem.wpAny_bind
abbrev BK:=@if_neg
abbrev BL:=@if_pos
abbrev BP:=@PySem.wpAny_pure
abbrev BR:=@decide_eq_false
abbrev BW:=@PyProof.Rows.wpS_bind
abbrev BX:=@decide_eq_true
abbrev BZ:=@PyProof.Rows.wpS_pure
abbrev CG:=@of_decide_eq_true
abbrev CJ:=@Ne.symm
abbrev CK:=@decide_eq_true_iff
abbrev CN:=@PySem.wpAny_holding
abbrev CP:=@PySem.wpAny_setState_of
abbrev CQ:=@PySem.W.mg_none_of
abbrev CT:=@PySem.Heap.SameBut.update
abbrev CV:=@PySem.wpAny_mono
abbrev CW:=@congrArg
abbrev CZ:=@PyProof.Rows.boot_sorted
abbrev DG:=@Classical.byContradiction
abbrev DK:=@PySem.mem_of_lookup
abbrev DN:=@PySem.wpAny_call_entry
abbrev DP:=@PySem.wpAny_newObj_type
abbrev DQ:=@if_false
abbrev DR:=@PyProof.Rows.wpS_forRange
abbrev DW:=@PySem.Around.under_plainId
abbrev DX:=@PySem.wpAny_setField
abbrev DY:=@PySem.wpAny_truthy_bool
abbrev EY:=@PySem.codeAny_builtin
abbrev FJ:=@PySem.wpAny_loadPart'
abbrev FN:=@if_true
abbrev FP:=@bne_self_eq_false
abbrev FQ:=@PyProof.Rows.wpS_mono
abbrev FT:=@PySem.wpAny_standAt
abbrev FW:=@PySem.F.plainAttrs_list
abbrev FZ:=@PySem.sizeLine_eq
abbrev GJ:=@PySem.wpAny_typeNameOfWhole_itemiter
abbrev GK:=@PySem.wpAny_storeSet_of
abbrev GX:=@PySem.plainId_quiet
abbrev GZ:=@PySem.F.slot_dict_itemiterator_next
abbrev HD:=@Prod.ext
abbrev HF:=@PyProof.Rows.callWith_type1
abbrev HJ:=@PyProof.Rows.F.plain_set_update_loop
abbrev HN:=@PySem.wpAny_passesOwn
abbrev HS:=@decide_eq_true_eq
abbrev HW:=@PySem.wpAny_typeNameOf_itemiter
abbrev HX:=@PySem.wpAny_of_eq
abbrev HY:=@PySem.wpAny_field
abbrev IK:=@PySem.codeAny_mono
abbrev IV:=@PySem.wpAny_callSpecial?_slot
abbrev IW:=@PySem.wpAny_attempt
abbrev JB:=@PySem.wpAny_rule
abbrev JC:=@PySem.wpAny_setField_rec
abbrev JD:=@PySem.W.cellsFrom_some
abbrev JF:=@PySem.Calls.callWith_builtin
abbrev JG:=@PySem.boot_len
abbrev JH:=@or_false
abbrev JK:=@PySem.Obj.isFreed_of_fields
abbrev JL:=@List.Pairwise.sublist
abbrev JM:=@PyProof.Rows.boot_isinstance
abbrev JN:=@PySem.wpAny_askSetting
abbrev JQ:=@PySem.wpAny_isInstance
abbrev JR:=@PySem.W.mg_of
abbrev JT:=@PySem.wpAny_newList
abbrev JV:=@PyProof.Rows.listUpdate_at
abbrev JW:=@PyProof.Rows.wpS_get
abbrev JX:=@PySem.wpAny_setEntries_of
abbrev JZ:=@PySem.PassesOwn.never
abbrev KC:=@PySem.codeAny_of_tree
abbrev KD:=@PySem.Calls.call_function_entry
abbrev KH:=@PySem.W.KasT.kasWp_bind
abbrev KJ:=@PySem.wpAny_Call_Name_kw
abbrev KN:=@PySem.tupleKind_room_in1
abbrev KQ:=@PySem.wpAny_comprehension_free
abbrev KR:=@PyProof.Rows.F.entry_set_update_loop
abbrev KY:=@PySem.F.slot_list_extend
abbrev KZ:=@PySem.F.type_list_extend
abbrev LC:=@PySem.Obj.data_mapFields
abbrev LK:=@beq_iff_eq
abbrev LQ:=@PyProof.Rows.wpS_modify
abbrev LR:=@decide_eq_false_iff_not
abbrev MF:=@PySem.wpAny_pyIter_list
abbrev MJ:=@PySem.wpAny_setEpoch_of
abbrev MK:=@PySem.wpAny_pyIter_slot
abbrev MN:=@PySem.wpAny_isOneOf_itemiter
abbrev MP:=@PyProof.Rows.seqEpoch_at
abbrev NK:=@PySem.builtinLookup_eq_fast
abbrev NP:=@PyProof.Rows.boot_set
abbrev NQ:=@PySem.F.args_dict_itemiterator_next_1
abbrev NT:=@PySem.Calls.evalArgs_plain
abbrev NZ:=@PySem.strKind_is
abbrev OD:=@PySem.wpAny_typeOf
abbrev OJ:=@PySem.codeAny_call_builtin
abbrev PB:=@PySem.F.entry_dict_itemiterator_next
abbrev PJ:=@PySem.F.slot_dict_itemiterator_iter
abbrev PK:=@PyProof.Rows.getElem?_mirror_all
abbrev PL:=@PySem.entryFor_alias
abbrev PN:=@PySem.wpAny_fieldsOf
abbrev PX:=@PySem.wpAny_newTuple
abbrev QB:=@PySem.wpAny_alloc
abbrev QC:=@List.lookup_append
abbrev QD:=@PySem.MeetsSeq2.wpAny_forIn_array
abbrev QF:=@List.getElem_range
abbrev QG:=@PyProof.Rows.sortedAll_old
abbrev QJ:=@Nat.testBit_two_pow_add_eq
abbrev QK:=@Nat.testBit_two_pow_add_gt
abbrev QL:=@Array.toList_setIfInBounds
abbrev QM:=@Option.isSome_map
abbrev QS:=@List.Pairwise.map
abbrev QT:=@Nat.lt_of_succ_lt
abbrev QV:=@PySem.wpAny_dictEntries
abbrev QW:=@PySem.wpAny_call
abbrev QX:=@PySem.call_meets
abbrev QZ:=@PySem.F.slot_set_contains
abbrev RB:=@List.getElem_inj
abbrev RD:=@Array.getElem?_replicate
abbrev RG:=@Array.size_setIfInBounds
abbrev RJ:=@List.map_snd_zip
abbrev RK:=@Nat.max_eq_right
abbrev RL:=@List.Perm.eq_of_pairwise
abbrev RM:=@List.filter_cons_of_pos
abbrev RN:=@PySem.wpAny_execs_nil
abbrev RP:=@List.of_mem_zip
abbrev RQ:=@PySem.wpAny_specialOf
abbrev RT:=@PySem.typeLookup_type
abbrev RV:=@PySem.wpAny_dictEpoch
abbrev RW:=@List.count_cons
abbrev RX:=@Nat.max_eq_left
abbrev RZ:=@List.length_pos_of_mem
abbrev SJ:=@Bool.false_and
abbrev SM:=@List.getElem?_toArray
abbrev SN:=@PySem.F.plain_set_new
abbrev SQ:=@Bool.false_xor
abbrev TF:=@List.drop_drop
abbrev TJ:=@List.take_take
abbrev TQ:=@Nat.mod_lt
abbrev TV:=@Bool.true_and
abbrev TX:=@List.map_nil
abbrev TY:=@Nat.le_of_eq
abbrev UG:=@Nat.min_self
theorem Z0:0<=PySem.sizeLine:=by decide
theorem Z2:2<=PySem.sizeLine:=by decide
theorem Z3:3<=PySem.sizeLine:=by decide
theorem Z1:1<=PySem.sizeLine:=by decide
set_option Elab.async false
set_option linter.all false
set_option maxRecDepth 100000
set_option maxHeartbeats 4000000
abbrev Aa:=@List.getElem?_eq_getElem
abbrev Ab:=@List.getElem?_eq_some_iff
abbrev Ac:=@List.length_map
abbrev Ad:=@List.length_append
abbrev Ae:=@List.mem_singleton
abbrev Af:=@PySem.Heap.get?_push_of_some
abbrev Ag:=@List.mem_of_getElem?
abbrev Ah:=@List.getElem?_map
abbrev Ai:=@Nat.le_refl
abbrev Aj:=@List.getElem?_append_left
abbrev Ak:=@List.map_append
abbrev Al:=@Array.length_toList
abbrev Am:=@List.getElem?_append_right
abbrev An:=@Option.map_eq_some_iff
abbrev Ao:=@List.mem_append
abbrev Ap:=@Array.getElem?_toList
abbrev Aq:=@List.getElem?_eq_none
abbrev Ar:=@List.mem_cons
abbrev As:=@List.getD_eq_getElem?_getD
abbrev At:=@PySem.Heap.get?_push_size
abbrev Au:=@PySem.Heap.lt_size
abbrev Av:=@List.length_cons
abbrev Aw:=@List.mem_cons_self
abbrev Ax:=@List.mem_cons_of_mem
abbrev Ay:=@List.getElem?_of_mem
abbrev Az:=@List.mem_map
abbrev Ba:=@Bool.false_ne_true
abbrev Bb:=@List.mem_append_right
abbrev Bc:=@List.pairwise_iff_getElem
abbrev Bd:=@List.size_toArray
abbrev Be:=@List.append_nil
abbrev Bf:=@List.append_assoc
abbrev Bg:=@Array.getElem?_eq_getElem
abbrev Bh:=@List.mem_range
abbrev Bi:=@List.mem_append_left
abbrev Bj:=@List.nodup_iff_pairwise_ne
abbrev Bk:=@Bool.false_eq_true
abbrev Bm:=@List.length_take
abbrev Bn:=@Nat.zero_le
abbrev Bo:=@Nat.lt_of_lt_of_le
abbrev Bp:=@Nat.ne_of_lt
abbrev Bq:=@List.length_eq_zero_iff
abbrev Br:=@List.take_length
abbrev Bt:=@List.map_cons
abbrev Bu:=@Bool.and_eq_true
abbrev Bv:=@List.getElem_mem
abbrev Bw:=@Array.toList_append
abbrev Bx:=@List.mem_filter
abbrev By:=@PySem.Heap.get?_update_other
abbrev Bz:=@List.take_add_one
abbrev Cb:=@List.mem_of_mem_drop
abbrev Cc:=@List.drop_eq_getElem_cons
abbrev Cd:=@List.map_map
abbrev Ce:=@Nat.lt_succ_of_lt
abbrev Cf:=@List.mem_flatten
abbrev Cg:=@Bool.eq_iff_iff
abbrev Ch:=@Int.emod_nonneg
abbrev Ci:=@List.length_filter_le
abbrev Cj:=@List.length_range
abbrev Ck:=@Nat.le_trans
abbrev Cm:=@Int.toNat_natCast
abbrev Cn:=@List.filter_append
abbrev Co:=@List.mem_of_mem_take
abbrev Cp:=@List.pairwise_append
abbrev Cq:=@List.filter_cons
abbrev Cr:=@List.nodup_cons
abbrev Cs:=@Int.emod_lt_of_pos
abbrev Ct:=@List.take_append_drop
abbrev Cu:=@Nat.lt_irrefl
abbrev Cv:=@List.ext_getElem?
abbrev Cw:=@List.pairwise_map
abbrev Cy:=@PySem.Heap.get?_update_self
abbrev Cz:=@List.length_drop
abbrev Da:=@List.take_of_length_le
abbrev Db:=@List.foldl_cons
abbrev Dc:=@PySem.Heap.size_push
abbrev Dd:=@List.not_mem_nil
abbrev Dg:=@List.length_singleton
abbrev Dh:=@List.contains_iff_mem
abbrev Di:=@Nat.ne_of_gt
abbrev Dj:=@List.range_succ
abbrev Dk:=@List.all_eq_true
abbrev Dl:=@List.drop_of_length_le
abbrev Dm:=@List.map_congr_left
abbrev Do:=@List.getElem_of_mem
abbrev Dp:=@Array.toList_push
abbrev Dq:=@List.nodup_append
abbrev Dr:=@List.pairwise_flatten
abbrev Ds:=@List.nodup_nil
abbrev Du:=@List.nil_append
abbrev Dv:=@List.lookup_cons
abbrev Dw:=@Array.getD_eq_getD_getElem?
abbrev Dx:=@List.take_sublist
abbrev Dy:=@Nat.zero_add
abbrev Dz:=@Nat.lt_or_ge
abbrev Eb:=@Bool.eq_false_iff
abbrev Ec:=@Nat.mod_two_eq_zero_or_one
abbrev Ed:=@Bool.xor_false
abbrev Ee:=@Nat.testBit_lt_two_pow
abbrev Ef:=@List.getElem?_range
abbrev Eh:=@List.length_zip
abbrev Ej:=@List.pairwise_cons
abbrev Ek:=@List.drop_length
abbrev El:=@List.count_pos_iff
abbrev Em:=@Nat.add_sub_cancel_left
abbrev Ep:=@Nat.min_eq_left
abbrev Er:=@List.filterMap_cons
abbrev Es:=@List.filter_sublist
abbrev Eu:=@Array.getElem?_eq_none
abbrev Ex:=@List.filter_eq_nil_iff
abbrev Ey:=@Bool.not_true
abbrev Ez:=@Nat.le_succ
abbrev Fa:=@Bool.and_false
abbrev Fb:=@List.perm_ext_iff_of_nodup
abbrev Fc:=@Nat.lt_of_le_of_lt
abbrev Fd:=@Array.getElem?_eq_some_iff
abbrev Fe:=@List.getElem?_zip_eq_some
abbrev Ff:=@List.length_nil
abbrev Fg:=@Nat.le_of_succ_le
abbrev Fh:=@Nat.add_zero
abbrev Fi:=@Array.toList_extract
abbrev Fj:=@List.getElem?_inj
abbrev Fk:=@Array.toList_reverse
abbrev Fm:=@Option.isSome_iff_exists
abbrev Fn:=@List.getElem?_replicate
abbrev Fo:=@List.getElem_map
abbrev Fp:=@List.lt_irrefl
abbrev Fq:=@List.mem_flatMap
abbrev Fr:=@Nat.le_of_lt
abbrev Fs:=@List.append_eq_nil_iff
abbrev Ft:=@List.find?_cons
abbrev Fu:=@Nat.not_lt_zero
abbrev Fv:=@List.length_set
abbrev Fw:=@Bool.and_true
abbrev Fx:=@List.length_replicate
abbrev Fy:=@List.drop_sublist
abbrev Fz:=@List.getElem_take
abbrev Ga:=@List.getElem_drop
abbrev Gb:=@List.mem_zipIdx_iff_le_and_getElem?_sub
abbrev Gc:=@Array.getElem?_setIfInBounds_self_of_lt
abbrev Gd:=@List.mem_iff_getElem
abbrev Ge:=@List.length_eraseIdx
abbrev Gf:=@List.any_eq_true
abbrev Gg:=@Array.toList_inj
abbrev Gh:=@List.extract_eq_take_drop
abbrev Gi:=@List.flatMap_append
abbrev Gj:=@List.reverse_append
abbrev Gk:=@List.any_cons
abbrev Gm:=@List.length_erase_of_mem
abbrev Gn:=@List.lt_trans
abbrev Go:=@List.mem_filterMap
abbrev Gp:=@Nat.lt_of_le_of_ne
abbrev Gq:=@List.getElem?_drop
abbrev Gr:=@List.getElem?_set_self
abbrev Gs:=@Nat.lt_of_succ_lt_succ
abbrev Gu:=@Int.zero_add
abbrev Gv:=@Nat.sub_self
abbrev Gw:=@Int.emod_eq_of_lt
abbrev Gx:=@Nat.lt_trichotomy
abbrev Gy:=@Nat.zero_lt_of_lt
abbrev Gz:=@List.count_append
abbrev Hc:=@List.pairwise_lt_range
abbrev He:=@Array.getElem?_extract
abbrev Hf:=@List.flatten_cons
abbrev Hg:=@List.getElem?_set
abbrev Hh:=@Nat.lt_succ_self
abbrev Hi:=@List.nodup_range
abbrev Hj:=@List.isEmpty_nil
abbrev Hk:=@List.ext_getElem
abbrev Hl:=@Nat.min_eq_right
abbrev Hm:=@List.getElem_zip
abbrev Hn:=@List.getElem?_set_ne
abbrev Ho:=@List.mem_erase_of_ne
abbrev Hq:=@PySem.Heap.get?_push_cases
abbrev Hr:=@List.nodup_iff_count
abbrev Hs:=@Nat.pow_le_pow_right
abbrev Ht:=@Option.map_some
abbrev Hu:=@Nat.succ_pos
abbrev Hv:=@Nat.pow_succ
abbrev Hw:=@List.not_lt
abbrev Hx:=@List.all_cons
abbrev Hy:=@List.sum_cons
namespace L2
open PySem PySem.Spec PyProof.Rows
abbrev Key:=Sum Int Str
def qM:Key->Value->Bool
 | .inl k,v=>Value.isInt k v
 | .inr x,v=>Value.isStrOf x v
def AQ(w:World):Key->Int
 | .inl k=>hashInt k
 | .inr x=>hashStr w x
theorem kq:∀{k:Key} {v:Value},qM k v=true->(∃ i t,k=Sum.inl i/\v=Value.int i t)\/(∃ x t,k=Sum.inr x/\v=Value.str x t)
 | .inl i,v,h=>by
  obtain⟨t,e⟩:=Value.isInt_shape (k:=i) (v:=v) h;exact .inl ⟨i,t,rfl,e⟩
 | .inr x,v,h=>by
  obtain⟨t,e⟩:=Value.isStrOf_shape (x:=x) (v:=v) h;exact .inr ⟨x,t,rfl,e⟩
theorem UD(i:Int)(t:Tok):qM (.inl i) (.int i t)=true:=by simp [qM,Value.isInt]
theorem UE(x:Str)(t:Tok):qM (.inr x) (.str x t)=true:=by simp [qM,Value.isStrOf]
theorem UH(a b:Int):decide ((Sum.inl a:Key)=Sum.inl b)=(a == b):=by
 by_cases e:a=b
 ·subst e;simp
 ·have h:¬(Sum.inl a:Key)=Sum.inl b:=λq=>e<|Sum.inl.inj q;rw [BR h];exact(beq_eq_false_iff_ne.mpr e).symm
theorem UI(a b:Str):decide ((Sum.inr a:Key)=Sum.inr b)=decide (a=b):=by
 by_cases e:a=b
 ·subst e;simp
 ·have h:¬(Sum.inr a:Key)=Sum.inr b:=λq=>e<|Sum.inr.inj q;rw [BR h,BR e]
theorem UJ(a:Int)(b:Str):decide ((Sum.inl a:Key)=Sum.inr b)=false:=BR λq=>nomatch q
theorem UK(a:Str)(b:Int):decide ((Sum.inr a:Key)=Sum.inl b)=false:=BR λq=>nomatch q
def dz(prog:Program)(w:World):PySem.KeyKind prog w Key where
 is:=qM
 hash:=AQ w
 inj:=λv a b ha hb=>by
  rcases kq ha with ⟨i,t,rfl,rfl⟩ | ⟨x,t,rfl,rfl⟩
  ·rcases kq hb with ⟨j,u,rfl,e⟩ | ⟨y,u,rfl,e⟩
   ·injection e with e1 _;rw [e1]
   ·exact nomatch e
  ·rcases kq hb with ⟨j,u,rfl,e⟩ | ⟨y,u,rfl,e⟩
   ·exact nomatch e
   ·injection e with e1 _;rw [e1]
 byValue:=λk v h=>by
  rcases kq h with ⟨i,t,rfl,rfl⟩ | ⟨x,t,rfl,rfl⟩ <;> rfl
 pyHash:=λhv h=>by
  rcases kq hv with ⟨i,t,rfl,rfl⟩ | ⟨x,t,rfl,rfl⟩
  ·exact wpAny_pyHash_int h
  ·exact wpAny_pyHash_str h
 eqBool:=λhu hv h=>by
  rcases kq hu with ⟨i,t,rfl,rfl⟩ | ⟨x,t,rfl,rfl⟩
  ·rcases kq hv with ⟨j,u,rfl,rfl⟩ | ⟨y,u,rfl,rfl⟩
   ·rw [UH] at h;exact wpAny_eqBool_int h
   ·rw [UJ] at h;exact SeqAt.EqAt.int_str i t y u _ _ _ _ h
  ·rcases kq hv with ⟨j,u,rfl,rfl⟩ | ⟨y,u,rfl,rfl⟩
   ·rw [UK] at h;exact SeqAt.EqAt.str_int x t j u _ _ _ _ h
   ·rw [UI] at h;exact wpAny_eqBool_str h
 «strs»:=λk x t v h=>by
  rcases kq h with ⟨i,u,rfl,e⟩ | ⟨y,u,rfl,e⟩
  ·exact nomatch e
  ·injection e with e1 _
   subst e1;cases v <;> rfl
theorem UL(prog:Program)(w:World)(i:Int)(t:Tok):(dz prog w).is (.inl i) (.int i t)=true:=UD i t
theorem UM(prog:Program)(w:World)(x:Str)(t:Tok):(dz prog w).is (.inr x) (.str x t)=true:=UE x t
inductive V where
 | non | bl (b:Bool) | int (i:Int) | str (x:Str) | iM (b:Array UInt8) | AT (b:UInt64) | ref (a:Addr) | ty (n:String)
 deriving DecidableEq
def RelV:V->Value->Prop
 | .non,u=>u=Value.none
 | .bl b,u=>u=Value.bool b
 | .int i,u=>∃ t,u=Value.int i t
 | .str x,u=>∃ t,u=Value.str x t
 | .iM b,u=>∃ t,u=Value.bytes b t
 | .AT b,u=>∃ t,u=Value.float b t
 | .ref a,u=>u=Value.ref a
 | .ty n,u=>u=Value.type n
abbrev aq:List V->List Value->Prop:=Paired RelV
theorem aq.length{xs:List V}{us:List Value}(r:aq xs us):xs.length=us.length:=Paired.length r
theorem aq.get:∀{xs:List V} {us:List Value} {i:Nat} {x:V},aq xs us->xs[i]?=some x->∃ u,us[i]?=some u/\RelV x u
 | _,_,_,_,.nil,e=>by simp at e
 | _,_,0,_,.cons r _,e=>by simp at e;subst e;exact⟨_,rfl,r⟩
 | _,_,i+1,x,.cons _ t,e=>by
  obtain⟨u,h1,h2⟩:=aq.get (i:=i) (x:=x) t (by simpa using e);exact⟨u,by simpa using h1,h2⟩
theorem aq.append:∀{xs ys:List V} {us ws:List Value},aq xs us->aq ys ws->aq (xs++ys) (us++ws)
 | _,_,_,_,.nil,s=>s
 | _,_,_,_,.cons r t,s=> .cons r<|aq.append t s
theorem aq.take:∀{xs:List V} {us:List Value} (n:Nat),aq xs us->aq (xs.take n) (us.take n)
 | _,_,0,_=> .nil
 | _,_,_+1,.nil=> .nil
 | _,_,n+1,.cons r t=> .cons r<|aq.take n t
theorem aq.drop:∀{xs:List V} {us:List Value} (n:Nat),aq xs us->aq (xs.drop n) (us.drop n)
 | _,_,0,r=>r
 | _,_,_+1,.nil=> .nil
 | _,_,n+1,.cons _ t=>aq.drop n t
def dY:Option V->Option Value->Prop
 | some v,some u=>RelV v u
 | none,none=>True
 | _,_=>False
def KV{κ:Type}:List (κ×V)->List (κ×Value)->Prop:=Paired λ(p:κ×V) (q:κ×Value)=>p.1=q.1/\RelV p.2 q.2
def kV:Key->V
 | .inl i=> .int i
 | .inr x=> .str x
inductive HO where
 | lst (xs:List V)
 | tup (xs:List V)
 | dK (kvs:List<|Key×V) | dT (kvs:List<|List Key×V)
 | set (S:Int->Bool) (n:Nat)
 | ins (C dx:Addr) (fs:List<|Str×V)
 | own (x:Addr)
 | xd (fs:List<|Str×V)
 | met (f x:Addr)
 | ox (lo hi:Int)
 | bI (o:Obj) (u:HO)
 | mW (ps:Array Value)
 | ext (φ:Heap->Prop)
abbrev Hp:=Addr->Option HO
def upd(H:Hp)(a:Addr)(o:HO):Hp:=λb=>if b=a then some o else H b
theorem az{H:Hp}{a:Addr}{o:HO}:upd H a o a=some o:=by unfold upd;rw [BL rfl]
theorem ax{H:Hp}{a b:Addr}{o:HO}(h:b≠a):upd H a o b=H b:=by unfold upd;rw [BK h]
theorem qN{H:Hp}{a:Addr}{o u:HO}:upd (upd H a o) a u=upd H a u:=by
 funext b;unfold upd;split <;> rfl
theorem cv{H:Hp}{a b:Addr}{o u:HO}(h:H a=some o)(h':H b=some u)(d:o≠u):a≠b:=by
 intro e;subst e;rw [h] at h';exact d<|Option.some.inj h'
theorem b4{H:Hp}{a b:Addr}{o:HO}(h:H a=some o)(h':H b=none):a≠b:=by
 intro e;subst e;rw [h] at h';cases h'
section
variable(P:Program)(w:World)
def ay(H:Hp)(h:Heap)(a:Addr):HO->Prop
 | .lst xs=>xs.length<=sizeLine/\∃(its:List Value) (n:Nat),aq xs its/\h.get? a=some {cls:= .type "list",data:= .seq its.toArray n}
 | .tup xs=>xs.length<=sizeLine/\∃ its:List Value,aq xs its/\IsTup h a its.toArray
 | .dK kvs=>kvs.length<=sizeLine/\(a == sysModules)=false/\∃ vs,KV kvs vs/\h.DictOf (dz P w) a vs
 | .dT kvs=>kvs.length<=sizeLine/\(a == sysModules)=false/\∃ xs:List<|List Key×Addr×Value,
   Paired (λ(p:List Key×V) (q:List Key×Addr×Value)=>p.1=q.1/\H q.2.1=some (.tup<|p.1.map kV)/\RelV p.2 q.2.2) kvs xs /\
   ∃ o es ep,h.get? a=some o/\o.ExactDict/\o.data = .dict es ep/\es.toList=xs.map (entryOfKey<|tupleKind<|dz P w)/\(xs.map (·.1)).Nodup
 | .set S n=>h.SetOf (intKind P w) a S n
 | .ins C dx fs=>H dx=some (.own a)/\fs.length<=1000/\dx≠a/\h.get? a=some (PySem.W.instObj C dx) /\
   ∃ mA,h.Ns1 dx mA/\(∀ f,dY (fs.lookup f)<|mA f)/\PySem.Within mA (fs.map (·.1))
 | .own _=>∃ o,h.get? a=some o
 | .xd fs=>∃ mA,h.Ns1 a mA/\∀ f,dY (fs.lookup f)<|mA f
 | .ox lo hi=>∃ t u v,h.get? a=some {cls:= .type "range",data:= .fields #[.int lo t,.int hi u,.int 1 v]}
 | .bI o u=>h.get? a=some o/\ay H h a u
 | .mW ps=>h.get? a=some {cls:= .none,data:= .fields ps}
 | .met f x=>h.get? a=some (PySem.W.methodObj (.ref f)<|.ref x)
 | .ext φ=>φ h/\(∃ o,h.get? a=some o)/\∀ h1 h2:Heap,φ h1->(∀ o,h1.get? a=some o->h2.get? a=some o)->φ h2
def b7(H:Hp)(h:Heap):Prop:=∀ a o,H a=some o->ay P w H h a o
end
section
variable{P:Program}{w:World}{H H':Hp}{h h':Heap}{a:Addr}{o:HO}
theorem ay.lt(x:ay P w H h a o):a < h.objs.size:=by
 cases o with
 | lst xs=>obtain⟨_,_,_,_,e⟩:=x;exact Au e
 | tup xs=>obtain⟨_,_,_,p⟩:=x;exact p.lt
 | dK kvs=>obtain⟨_,_,_,_,o,_,_,e,_⟩:=x;exact Au e
 | dT kvs=>obtain⟨_,_,_,_,o,_,_,e,_⟩:=x;exact Au e
 | set S n=>obtain⟨o,_,_,_,e,_⟩:=x;exact Au e
 | ins C dx fs=>obtain⟨_,_,_,e,_⟩:=x;exact Au e
 | own y=>obtain⟨_,e⟩:=x;exact Au e
 | xd fs=>obtain⟨_,⟨_,_,_,e,_⟩,_⟩:=x;exact Au e
 | ox lo hi=>obtain⟨_,_,_,e⟩:=x;exact Au e
 | bI ob u=>obtain⟨e,_⟩:=x;exact Au e
 | mW ps=>exact Au (show h.get? a=some _ from x)
 | met f y=>exact Au (show h.get? a=some _ from x)
 | ext φ=>obtain⟨_,⟨_,e⟩,_⟩:=x;exact Au e
theorem Paired.oy{α β:Type}{F G:α->β->Prop}:∀{l₁:List α} {l₂:List β},Paired F l₁ l₂->(∀ a b,F a b->G a b)->Paired G l₁ l₂
 | _,_,.nil,_=> .nil
 | _,_,.cons r t,f=> .cons (f _ _ r)<|Paired.oy t f
theorem ay.fe(x:ay P w H h a o)(k:∀ b u,(b=a\/H b=some (.own a))->h.get? b=some u->h'.get? b=some u)
  (ho:∀ b,H b=some (.own a)->H' b=some (.own a)) (ht:∀ b xs,H b=some (.tup xs)->H' b=some (.tup xs)):ay P w H' h' a o:=by
 induction o with
 | lst xs=>obtain⟨z,its,n,r,e⟩:=x;exact⟨z,its,n,r,k _ _ (.inl rfl) e⟩
 | tup xs=>obtain⟨z,its,r,ob,e,c⟩:=x;exact⟨z,its,r,ob,k _ _ (.inl rfl) e,c⟩
 | dK kvs=>obtain⟨z,y,vs,r,ob,es,ep,e,c⟩:=x;exact⟨z,y,vs,r,ob,es,ep,k _ _ (.inl rfl) e,c⟩
 | dT kvs=>
  obtain⟨z,y,xs,r,ob,es,ep,e,c⟩:=x;exact⟨z,y,xs,Paired.oy r λp q z=>⟨z.1,ht _ _ z.2.1,z.2.2⟩,ob,es,ep,k _ _ (.inl rfl) e,c⟩
 | set S n=>obtain⟨ob,es,ep,t,e,c⟩:=x;exact⟨ob,es,ep,t,k _ _ (.inl rfl) e,c⟩
 | ins C dx fs=>
  obtain⟨d,z,ne,e,mA,⟨od,es,ep,e2,c⟩,r⟩:=x;exact⟨ho _ d,z,ne,k _ _ (.inl rfl) e,mA,⟨od,es,ep,k _ _ (.inr d) e2,c⟩,r⟩
 | own y=>obtain⟨ob,e⟩:=x;exact⟨ob,k _ _ (.inl rfl) e⟩
 | xd fs=>obtain⟨mA,⟨od,es,ep,e,c⟩,r⟩:=x;exact⟨mA,⟨od,es,ep,k _ _ (.inl rfl) e,c⟩,r⟩
 | ox lo hi=>obtain⟨t,u,v,e⟩:=x;exact⟨t,u,v,k _ _ (.inl rfl) e⟩
 | bI ob u ih=>obtain⟨e,q⟩:=x;exact⟨k _ _ (.inl rfl) e,ih q⟩
 | mW ps=>
  have e:h.get? a=some {cls:= .none,data:= .fields ps}:=x;show h'.get? a=some {cls:= .none,data:= .fields ps};exact k a _ (.inl rfl) e
 | met f y=>
  have e:h.get? a=some (PySem.W.methodObj (.ref f)<|.ref y):=x;show h'.get? a=some (PySem.W.methodObj (.ref f)<|.ref y);exact k a _ (.inl rfl) e
 | ext φ=>obtain⟨p,⟨o,e⟩,st⟩:=x;exact⟨st _ _ p λo q=>k _ _ (.inl rfl) q,⟨o,k _ _ (.inl rfl) e⟩,st⟩
theorem b7.lt(x:b7 P w H h)(e:H a=some o):a < h.objs.size:=(x a o e).lt
theorem b7.fresh(x:b7 P w H h)(e:h.objs.size<=a):H a=none:=by
 cases q:H a with
 | none=>rfl
 | some u=>exact absurd (Bo (x.lt q) e)<|Cu _
theorem b7.kept(x:b7 P w H h)(k:∀ b u,h.get? b=some u->h'.get? b=some u):b7 P w H h':=λa o e=>
 (x a o e).fe (λb u _ q=>k b u q) (λ_ q=>q) λ_ _ q=>q
theorem b7.laid(x:b7 P w H h)(k:∀ b u,h.get? b=some u->h'.get? b=some u)(hp:h.objs.size<=a)(new:ay P w (upd H a o) h' a o):b7 P w (upd H a o) h':=λb u e=>by
 have hn:=x.fresh hp
 by_cases hb:b=a
 ·subst hb;rw [az] at e;cases e;exact new
 ·rw [ax hb] at e;exact(x b u e).fe (λc v _ q=>k c v q) (λc q=>by rw [ax<|b4 q hn];exact q) λc xs q=>by rw [ax<|b4 q hn];exact q
end
def Rd(H:Hp)(a:Addr)(u:HO):Prop:=H a=some u\/∃ o,H a=some (.bI o u)
theorem Rd.ok{P:Program}{w:World}{H:Hp}{h:Heap}{a:Addr}{u:HO}(r:Rd H a u)(x:b7 P w H h):ay P w H h a u:=by
 rcases r with r | ⟨o,r⟩
 ·exact x a u r
 ·obtain⟨_,q⟩:=x a _ r;exact q
def sQ:Option HO->Prop
 | some (.lst _)=>True
 | some (.dK _)=>True
 | some (.dT _)=>True
 | some (.set _ _)=>True
 | some (.ins _ _ _)=>True
 | some (.ext _)=>True
 | _=>False
section
variable{P:Program}{w:World}{H:Hp}{h h':Heap}{x e:Addr}{o':HO}
theorem b7.write(ok:b7 P w H h)(mu:sQ<|H x)(he:e=x\/H e=some (.own x))(k:∀ b u,b≠e->h.get? b=some u->h'.get? b=some u)(qO:∃ u,h'.get? e=some u)
  (new:ay P w (upd H x o') h' x o'):b7 P w (upd H x o') h':=λb u q=>by
 have sR:∀ c y,H c=some (.own y)->c≠x:=λc y r z=>by subst z;rw [r] at mu;exact mu
 have AU:∀ c xs,H c=some (.tup xs)->c≠x:=λc xs r z=>by subst z;rw [r] at mu;exact mu
 by_cases hb:b=x
 ·subst hb;rw [az] at q;cases q;exact new
 ·rw [ax hb] at q
  by_cases gK:b=e
  ·have q':H b=some (.own x):=by
    rcases he with z | z
    ·exact absurd (gK.trans z) hb
    ·rw [gK];exact z
   rw [q] at q';cases q';obtain⟨v,hv⟩:=qO;exact⟨v,by rw [gK];exact hv⟩
  ·refine(ok b u q).fe (λc v hc r=>k c v ?_ r) (λc r=>by rw [ax<|sR c b r];exact r) λc xs r=>by rw [ax<|AU c xs r];exact r
   rcases hc with rfl | hc
   ·exact gK
   ·rintro rfl
    rcases he with z | z
    ·exact sR c b hc z
    ·rw [hc] at z;cases z;exact hb rfl
end
structure Un(fs ex:List Addr)(H H':Hp)(h h':Heap):Prop where
 keep:∀ b o,h.get? b=some o->H b=none->b∉fs->b∉ex->h'.get? b=some o
 slot:∀ b o,h.get? b=some o->H b=none->b∈fs->b∉ex->∃ sl,h'.get? b=some {o with slots:=sl}
 free:∀ b o,h.get? b=some o->H b=none->b∉ex->H' b=none
 there:∀ b o,h.get? b=some o->b∉ex->∃ o',h'.get? b=some o'
 dD:∀ b xs,H b=some (.tup xs)->H' b=some (.tup xs)
 dk:∀ b o u,H b=some (.bI o u)->H' b=some (.bI o u)
 dE:∀ b ps,H b=some (.mW ps)->∃ more,H' b=some (.mW<|ps++more)
section
variable{fs UN ex Mf:List Addr}{H H1 H2:Hp}{h h1 h2 h':Heap}{a x e:Addr}{o:HO}
theorem Un.any(u:Un fs ex H H1 h h1){b:Addr}{ob:Obj}(q:h.get? b=some ob)(n:H b=none)(hx:b∉ex):∃ sl,h1.get? b=some {ob with slots:=sl}:=by
 by_cases hb:b∈fs
 ·exact u.slot b ob q n hb hx
 ·exact⟨ob.slots,u.keep b ob q n hb hx⟩
theorem Un.kept(k:∀ b u,h.get? b=some u->h'.get? b=some u):Un fs ex H H h h':=
 ⟨λb ob q _ _ _=>k b ob q,λb ob q _ _ _=>⟨ob.slots,k b ob q⟩,λ_ _ _ n _=>n,λb ob q _=>⟨ob,k b ob q⟩,λ_ _ q=>q,λ_ _ _ q=>q,λ_ ps q=>⟨#[],by rw [q];simp⟩⟩
theorem Un.refl:Un fs ex H H h h:=Un.kept λ_ _ q=>q
theorem Un.laid(k:∀ b u,h.get? b=some u->h'.get? b=some u)(hp:h.objs.size<=a)(hn:H a=none):Un fs ex H (upd H a o) h h' where
 keep:=λb u q _ _ _=>k b u q
 slot:=λb u q _ _ _=>⟨u.slots,k b u q⟩
 free:=λb u q n _=>by rw [ax<|Bp<|Bo (Au q) hp];exact n
 there:=λb u q _=>⟨u,k b u q⟩
 dD:=λb xs q=>by rw [ax<|b4 q hn];exact q
 dk:=λb u xs q=>by rw [ax<|b4 q hn];exact q
 dE:=λb ps q=>⟨#[],by rw [ax<|b4 q hn,q];simp⟩
theorem Un.write(mu:sQ<|H x)(he:e=x\/H e=some (.own x))(k:∀ b u,b≠e->h.get? b=some u->h'.get? b=some u)(qO:∃ u,h'.get? e=some u):Un fs ex H (upd H x o) h h':=by
 have hx:∀ b,H b=none->b≠x:=λb n z=>by subst z;rw [n] at mu;exact mu
 have hb:∀ b,H b=none->b≠e:=λb n z=>by
  subst z
  rcases he with r | r
  ·exact hx b n r
  ·rw [n] at r;cases r
 have hm:∀ b u,H b=some u->¬ sQ (some u)->b≠x:=λb u q nm z=>by subst z;rw [q] at mu;exact nm mu
 refine⟨λb u q n _ _=>k b u (hb b n) q,λb u q n _ _=>⟨u.slots,k b u (hb b n) q⟩,λb u q n _=>by rw [ax<|hx b n];exact n,λb u q _=>?_,
  λb xs q=>by rw [ax<|hm b _ q λz=>z];exact q,λb u xs q=>by rw [ax<|hm b _ q λz=>z];exact q,λb ps q=>⟨#[],by rw [ax<|hm b _ q λz=>z,q];simp⟩⟩
 by_cases gK:b=e
 ·subst gK;exact qO
 ·exact⟨u,k b u gK q⟩
end
def xB(h:Heap)(H:Hp):List Addr:=(List.range h.objs.size).filter λa=>(H a).isSome
def fh(h:Heap)(H:Hp):Heap:=PySem.W.hideAll h<|xB h H
theorem UO(h:Heap)(H:Hp):(fh h H).objs.size=h.objs.size:=PySem.W.hideAll_size _ _
theorem UP{h:Heap}{H:Hp}{b:Addr}{o:Obj}(e:h.get? b=some o)(n:H b=none):(fh h H).get? b=some o:=
 PySem.W.hideAll_get _ e λhm=>by
  have q:(H b).isSome=true:=(Bx.mp hm).2;rw [n] at q;simp at q
theorem UQ{h:Heap}{H:Hp}{b:Addr}{o:Obj}(e:(fh h H).get? b=some o):h.get? b=some o/\H b=none:=by
 have e':h.get? b=some o:=PySem.W.of_hideAll (xB h H) e;refine⟨e',?_⟩;cases q:H b with
 | none=>rfl
 | some x=>
  have hm:b∈xB h H:=Bx.mpr ⟨Bh.mpr<|Au e',by simp [q]⟩;have z:(fh h H).get? b=none:=PySem.W.hideAll_none (xB h H) hm;rw [z] at e;cases e
structure Mod(K:PySem.W.Frag)(mg:Str->Option Value)(base:Heap):Prop where
 sS:K.In base
 glob:base.Ns mainGlobals mg
 blt:∃ mb,base.Ns builtinsNs mb/\∀ x:Str,x ≠ "__name__"->mb x=bootBuiltins x
 nolimit:base.NoLimit
structure Cx where
 prog:Program
 w:World
 K:PySem.W.Frag
 mg:Str->Option Value
 base:Heap
 A:Around
 N:List Str
 s₀:Shared
 H₀:Hp
 env:Env
 outer:List Env
 stack:List Env
 ex:List Addr
 fn:Str->Bool
 calm:Bool
 pn:List<|Addr×Obj
 xe:Value->Shared->Prop
def df(l:List Env):List Addr:=l.filterMap (·.frame)
abbrev Cx.fs(X:Cx):List Addr:=df X.outer
def AV(sc:Scope)(x:Str):Prop:=sc.names.lookup x=some .local\/sc.names.lookup x=some .cell\/sc.names.lookup x=some .free
def Loc(sc:Scope)(x:Str):Prop:=sc.names.lookup x=some .local\/sc.names.lookup x=some .cell
def Look(env:Env)(h:Heap)(m:Str->Option Value)(x:Str)(u:Value):Prop:=
 (env.kindOf x=some .local/\m x=some u)\/((env.kindOf x=some .cell\/env.kindOf x=some .free)/\∃ c,env.cells.lookup x=some c/\h.IsCell c (some u))
structure Cx.Ok(X:Cx):Prop where
 mod:Mod X.K X.mg X.base
 kind:X.env.scope.kind = .function
 glob:X.env.globals=mainGlobals
 blt:X.env.builtins=builtinsNs
 above:X.s₀.heap.objs.size<=X.env.locals
 inj:∀ x y c,X.env.cells.lookup x=some c->X.env.cells.lookup y=some c->x=y
 has:∀ x,(X.env.kindOf x=some .cell\/X.env.kindOf x=some .free)->∃ c,X.env.cells.lookup x=some c
 lh:∀ x c,X.fn x=true->X.env.cells.lookup x=some c->X.s₀.heap.objs.size<=c
 hd:X.calm=true->X.A.handled=none
 frames:X.A.frames=some X.stack
 ku:X.stack=X.outer\/(X.stack=X.env :: X.outer/\X.env.frame=some X.env.locals)
 qP:∀ b∈X.ex,b≠X.env.locals/\∀ x c,X.env.cells.lookup x=some c->c≠b
 bs:∀ b o,X.base.get? b=some o->X.s₀.heap.get? b=some o/\X.H₀ b=none
 jb:X.base.objs.size<=X.s₀.heap.objs.size
 fi:∀ b o,X.base.get? b=some o->b∉X.ex
 fY:∀ b∈X.ex,b∉X.fs
 cw:X.s₀.heap.FunFrames X.base X.outer
 ky:∀ b∈X.fs,X.H₀ b=none
structure Inv(X:Cx)(pins:List<|Addr×Obj)(σ:List<|Option V)(H:Hp)(s:Shared):Prop where
 ok:X.Ok
 os:s.os=X.s₀.os
 bare:AllBare s.gens
 base:Un X.fs X.ex X.H₀ H X.s₀.heap s.heap
 loc:∃ m,s.heap.Ns X.env.locals m/\∀(i:Nat) (x:Str) (v:V),X.N[i]?=some x->σ[i]?=some (some v)->AV X.env.scope x->∃ u,RelV v u/\Look X.env s.heap m x u
 cell:∀ x c,X.env.cells.lookup x=some c->∃ v,s.heap.IsCell c v
 free:H X.env.locals=none
 bg:∀ x c,X.env.cells.lookup x=some c->H c=none
 pin:∀ p∈X.pn++pins,s.heap.get? p.1=some p.2/\H p.1=none/\p.1≠X.env.locals/\p.1∉X.fs/\∀ v,p.2.data ≠ .cell v
 aC:b7 X.prog X.w H s.heap
 len:σ.length=X.N.length
section
variable{X:Cx}{pins:List (Addr×Obj)}{σ:List (Option V)}{H H':Hp}{s:Shared}{h':Heap}
theorem Cx.Ok.AW(ok:X.Ok){b:Addr}{o:Obj}(e:X.base.get? b=some o):b∉X.fs:=λhb=>by
 have:=(ok.cw.mem hb).1;rw [e] at this;cases this
theorem Inv.bs(I:Inv X pins σ H s):∀ b o,X.base.get? b=some o->s.heap.get? b=some o/\H b=none:=λb o e=>
 ⟨I.base.keep b o (I.ok.bs b o e).1 (I.ok.bs b o e).2 (I.ok.AW e)<|I.ok.fi b o e,I.base.free b o (I.ok.bs b o e).1 (I.ok.bs b o e).2<|I.ok.fi b o e⟩
theorem Inv.bk(I:Inv X pins σ H s):∀ b o,X.base.get? b=some o->s.heap.get? b=some o:=λb o e=>(I.bs b o e).1
theorem Inv.mod(I:Inv X pins σ H s):Mod X.K X.mg X.base:=I.ok.mod
theorem Inv.jw(I:Inv X pins σ H s):X.K.In s.heap:=I.ok.mod.sS.keeps I.bk
theorem Inv.lt(I:Inv X pins σ H s):X.env.locals < s.heap.objs.size:=let ⟨_,hn,_⟩:=I.loc;hn.lt
theorem Inv.sz(I:Inv X pins σ H s):X.s₀.heap.objs.size<=s.heap.objs.size:=Ck I.ok.above<|Fr I.lt
theorem Inv.AX(I:Inv X pins σ H s){a:Addr}(h:s.heap.objs.size<=a):a∉X.fs:=λhb=>by
 obtain⟨_,o,ho,_⟩:=I.ok.cw.mem hb;exact absurd (Bo (Au ho)<|Ck I.sz h)<|Cu _
theorem Inv.ll(I:Inv X pins σ H s):∀ x c,X.env.cells.lookup x=some c->c≠X.env.locals:=λx c e z=>by
 obtain⟨v,o,ho,hd⟩:=I.cell x c e;obtain⟨m,⟨o',es,ep,cY,oz,_⟩,_⟩:=I.loc;rw [z,cY] at ho;cases ho;rw [oz] at hd;cases hd
theorem Inv.cw(I:Inv X pins σ H s):s.heap.FunFrames X.base X.outer:=by
 have all:∀(l:List Env),(∀ b∈df l,b∈X.fs)->X.s₀.heap.FunFrames X.base l->s.heap.FunFrames X.base l:=by
  intro l
  induction l with
  | nil=>intro _ _;trivial
  | cons env r ih=>
   intro hs hl;obtain⟨hk,⟨L,o,hf,hn,ho,hd⟩,hr⟩:=hl;have hL:L∈X.fs:=hs L (by unfold df;rw [Er,hf];exact Aw);obtain⟨sl,e⟩:=I.base.slot L o ho (I.ok.ky L hL) hL λz=>I.ok.fY L z hL;exact⟨hk,⟨L,_,hf,hn,e,hd⟩,ih (λb hb=>hs b<|by unfold df;rw [Er,hf];exact Ax _ hb) hr⟩
 exact all X.outer (λ_ hb=>hb) I.ok.cw
theorem Inv.stack(I:Inv X pins σ H s):s.heap.FunFrames X.base X.stack:=by
 rcases I.ok.ku with e | ⟨e,hf⟩
 ·rw [e];exact I.cw
 ·rw [e];obtain⟨m,hn,_⟩:=I.loc;refine .cons (by rw [I.ok.kind];decide) hf hn ?_ I.cw;exact Heap.get?_none_of_le<|Ck I.ok.jb I.ok.above
theorem Inv.cZ(I:Inv X pins σ H s):∀ b∈df X.stack,b∈X.env.locals :: X.fs:=λb hb=>by
 rcases I.ok.ku with e | ⟨e,hf⟩
 ·rw [e] at hb;exact Ax _ hb
 ·rw [e] at hb;unfold df at hb;rw [Er,hf] at hb;exact hb
theorem Inv.dA(I:Inv X pins σ H s):∀ b∈df X.stack,H b=none:=λb hb=>by
 rcases Ar.mp (I.cZ b hb) with e | hb
 ·rw [e];exact I.free
 ·obtain⟨_,o,ho,_⟩:=I.ok.cw.mem hb;exact I.base.free b o ho (I.ok.ky b hb) λz=>I.ok.fY b z hb
theorem Inv.step{g':Array GenState}{t':Nat}{d':Drawn}{ch:List Addr}(I:Inv X pins σ H s)
  (bx:∀ b∈ch,(b∈X.ex\/X.s₀.heap.objs.size<=b)/\b≠X.env.locals/\(∀ x c,X.env.cells.lookup x=some c->c≠b)/\∀ p∈X.pn++pins,p.1≠b)
  (keep:∀ b o,b≠X.env.locals->b∉X.fs->b∉ch->s.heap.get? b=some o->H b=none->h'.get? b=some o)
  (slot:∀ b o,b≠X.env.locals->b∈X.fs->b∉ch->s.heap.get? b=some o->H b=none->∃ sl,h'.get? b=some {o with slots:=sl}) (free:∀ b o,b∉ch->s.heap.get? b=some o->H b=none->H' b=none)
  (there:∀ b o,b∉ch->s.heap.get? b=some o->∃ o',h'.get? b=some o')
  (dD:∀ b xs,H b=some (.tup xs)->H' b=some (.tup xs)) (dk:∀ b o u,H b=some (.bI o u)->H' b=some (.bI o u)) (dE:∀ b ps,H b=some (.mW ps)->∃ more,H' b=some (.mW<|ps++more))
  (ns:∀ m,s.heap.Ns X.env.locals m->h'.Ns X.env.locals m) (aC:b7 X.prog X.w H' h') (hg:AllBare g') :
  Inv X pins σ H' {s with heap:=h',gens:=g',drawn:=d',toks:=t'}:=by
 have Mg:∀ b o,X.s₀.heap.get? b=some o->b≠X.env.locals:=λb o e=>Bp<|Bo (Au e) I.ok.above;have xC:∀ b o,X.s₀.heap.get? b=some o->b∉X.ex->b∉ch:=λb o e hx hb=>by
  rcases (bx b hb).1 with z | z
  ·exact hx z
  ·exact absurd (Bo (Au e) z)<|Cu _
 have cellK:∀ x c,X.env.cells.lookup x=some c->∀ v,s.heap.IsCell c v->h'.IsCell c v:=λx c e v ⟨o,ho,hd⟩=>by
  have sU:c∉ch:=λz=>(bx c z).2.2.1 x c e rfl
  by_cases hc:c∈X.fs
  ·obtain⟨sl,q⟩:=slot c o (I.ll x c e) hc sU ho<|I.bg x c e;exact⟨_,q,hd⟩
  ·exact⟨o,keep c o (I.ll x c e) hc sU ho<|I.bg x c e,hd⟩
 refine⟨I.ok,I.os,hg,⟨λb o e n hb hx=>?_,λb o e n hb hx=>?_,λb o e n hx=>?_,λb o e hx=>?_,λb xs e=>dD b xs<|I.base.dD b xs e,λb o xs e=>dk b o xs<|I.base.dk b o xs e,λb ps e=>?_⟩,?_,λx c e=>?_,?_,λx c e=>?_,λp hp=>?_,aC,I.len⟩
 ·exact keep b o (Mg b o e) hb (xC b o e hx) (I.base.keep b o e n hb hx)<|I.base.free b o e n hx
 ·obtain⟨sl,e1⟩:=I.base.slot b o e n hb hx;obtain⟨xD,e2⟩:=slot b _ (Mg b o e) hb (xC b o e hx) e1<|I.base.free b o e n hx;exact⟨xD,e2⟩
 ·obtain⟨o',e1⟩:=I.base.there b o e hx;exact free b o' (xC b o e hx) e1<|I.base.free b o e n hx
 ·obtain⟨o',e1⟩:=I.base.there b o e hx;exact there b o' (xC b o e hx) e1
 ·obtain⟨m1,e1⟩:=I.base.dE b ps e;obtain⟨m2,e2⟩:=dE b _ e1;exact⟨m1++m2,by rw [e2,Array.append_assoc]⟩
 ·obtain⟨m,hn,hl⟩:=I.loc;refine⟨m,ns m hn,λi x v e1 e2 e3=>?_⟩;obtain⟨u,r,l⟩:=hl i x v e1 e2 e3;refine⟨u,r,?_⟩
  rcases l with l | ⟨k,c,e,z⟩
  ·exact .inl l
  ·exact .inr ⟨k,c,e,cellK x c e _ z⟩
 ·obtain⟨v,z⟩:=I.cell x c e;exact⟨v,cellK x c e v z⟩
 ·obtain⟨m,⟨o,_,_,ho,_⟩,_⟩:=I.loc;exact free _ o (λz=>(bx _ z).2.1 rfl) ho I.free
 ·obtain⟨v,o,ho,hd⟩:=I.cell x c e;exact free c o (λz=>(bx c z).2.2.1 x c e rfl) ho<|I.bg x c e
 ·obtain⟨e,n,ne,nf,d⟩:=I.pin p hp;have sU:p.1∉ch:=λz=>(bx p.1 z).2.2.2 p hp rfl;exact⟨keep p.1 p.2 ne nf sU e n,free p.1 p.2 sU e n,ne,nf,d⟩
theorem Inv.un{t':Nat}(I:Inv X pins σ H s)(u:Un X.fs [] H H' s.heap h')(aC:b7 X.prog X.w H' h'):Inv X pins σ H' {s with heap:=h',toks:=t'}:=by
 obtain⟨m,⟨o,es,ep,ho,r⟩,_⟩:=id I.loc;obtain⟨sl,hL⟩:=u.any ho I.free (by simp);exact I.step (g':=s.gens) (d':=s.drawn) (ch:=[]) (λ_ z=>nomatch z) (λb o _ hb _ e n=>u.keep b o e n hb<|by simp) (λb o _ hb _ e n=>u.slot b o e n hb<|by simp) (λb o _ e n=>u.free b o e n<|by simp) (λb o _ e=>u.there b o e<|by simp) u.dD u.dk u.dE (λm' hm=>by
  obtain⟨o',fj,mX,cY,r'⟩:=hm;rw [ho] at cY;cases cY;exact⟨_,fj,mX,hL,r'⟩) aC I.bare
theorem Inv.call{g':Array GenState}{t':Nat}{d':Drawn}{ch:List Addr}(I:Inv X pins σ H s)(u:Un (df X.stack) ch H H' s.heap h')(aC:b7 X.prog X.w H' h')(hg:AllBare g')
  (bx:∀ b∈ch,(b∈X.ex\/X.s₀.heap.objs.size<=b)/\b≠X.env.locals/\(∀ x c,X.env.cells.lookup x=some c->c≠b)/\∀ p∈X.pn++pins,p.1≠b) :
  Inv X pins σ H' {s with heap:=h',gens:=g',drawn:=d',toks:=t'}:=by
 obtain⟨m,⟨o,es,ep,ho,r⟩,_⟩:=id I.loc;obtain⟨sl,hL⟩:=u.any ho I.free λz=>(bx _ z).2.1 rfl;exact I.step (ch:=ch) bx (λb o hL hb hc e n=>u.keep b o e n (λz=>(Ar.mp<|I.cZ b z).elim hL hb) hc) (λb o _ _ hc e n=>u.any e n hc) (λb o hc e n=>u.free b o e n hc) (λb o hc e=>u.there b o e hc) u.dD u.dk u.dE (λm' hm=>by
  obtain⟨o',fj,mX,cY,r'⟩:=hm;rw [ho] at cY;cases cY;exact⟨_,fj,mX,hL,r'⟩) aC hg
theorem Inv.turned{t':Nat}{it:Addr}(I:Inv X pins σ H s)(k:∀ b o,b≠it->s.heap.get? b=some o->h'.get? b=some o)(hn:H it=none)(hL:it≠X.env.locals)
  (h1:it∈X.ex\/X.s₀.heap.objs.size<=it) (h2:∀ x c,X.env.cells.lookup x=some c->c≠it) (h3:∀ p∈X.pn++pins,p.1≠it):Inv X pins σ H {s with heap:=h',toks:=t'}:=by
 have sV:∀ b u,H b=some u->b≠it:=λb u e z=>by rw [z,hn] at e;cases e
 refine I.step (g':=s.gens) (d':=s.drawn) (ch:=[it]) (λb hb=>?_) (λb o _ _ hc e _=>k b o (λz=>hc<|by simp [z]) e) (λb o _ _ hc e _=>⟨o.slots,k b o (λz=>hc<|by simp [z]) e⟩) (λ_ _ _ _ n=>n)
  (λb o hc e=>⟨o,k b o (λz=>hc<|by simp [z]) e⟩) (λ_ _ e=>e) (λ_ _ _ e=>e) (λb ps e=>⟨#[],by rw [e];simp⟩) (λm hm=>?_) (λb u e=>?_) I.bare
 ·have e:b=it:=by simpa using hb
  subst e;exact⟨h1,hL,h2,h3⟩
 ·obtain⟨o,es,ep,ho,r⟩:=hm;exact⟨o,es,ep,k _ o (CJ hL) ho,r⟩
 ·refine(I.aC b u e).fe (λc v hc q=>k c v ?_ q) (λ_ q=>q) λ_ _ q=>q
  rcases hc with z | z
  ·rw [z];exact sV b u e
  ·exact sV c _ z
theorem Inv.tok(I:Inv X pins σ H s)(t:Nat):Inv X pins σ H {s with toks:=t}:=I.un (h':=s.heap) (t':=t) Un.refl I.aC
theorem Inv.kept{t':Nat}(I:Inv X pins σ H s)(k:∀ b u,s.heap.get? b=some u->h'.get? b=some u):Inv X pins σ H {s with heap:=h',toks:=t'}:=I.un (Un.kept k)<|I.aC.kept k
theorem Inv.laid{a:Addr}{o:HO}{t':Nat}(I:Inv X pins σ H s)(k:∀ b u,s.heap.get? b=some u->h'.get? b=some u)(hp:s.heap.objs.size<=a)(new:ay X.prog X.w (upd H a o) h' a o) :
  Inv X pins σ (upd H a o) {s with heap:=h',toks:=t'}:=I.un (Un.laid k hp<|I.aC.fresh hp)<|I.aC.laid k hp new
theorem Inv.write{x e:Addr}{o:HO}{t':Nat}(I:Inv X pins σ H s)(mu:sQ<|H x)(he:e=x\/H e=some (.own x))(k:∀ b u,b≠e->s.heap.get? b=some u->h'.get? b=some u)(qO:∃ u,h'.get? e=some u)
  (new:ay X.prog X.w (upd H x o) h' x o):Inv X pins σ (upd H x o) {s with heap:=h',toks:=t'}:=I.un (Un.write mu he k qO)<|I.aC.write mu he k qO new
theorem Inv.ii{mY:List (Addr×Obj)}(I:Inv X pins σ H s)(h:∀ p∈mY,s.heap.get? p.1=some p.2/\H p.1=none/\p.1≠X.env.locals/\p.1∉X.fs/\∀ v,p.2.data ≠ .cell v):Inv X mY σ H s:=
 ⟨I.ok,I.os,I.bare,I.base,I.loc,I.cell,I.free,I.bg,λp hp=>(Ao.mp hp).elim (λz=>I.pin p<|Bi _ z)<|h p,I.aC,I.len⟩
theorem AY{N:List Str}(hN:N.Nodup){i j:Nat}{x:Str}(a:N[i]?=some x)(b:N[j]?=some x):i=j:=by
 obtain⟨h1,e1⟩:=Ab.mp a;obtain⟨h2,e2⟩:=Ab.mp b;exact(RB hN).mp<|e1.trans e2.symm
theorem Mh{M:Model}{A:Around}{E:Value->Shared->Prop}{i:Nat}{x:Str}{v:V}{u:Value}{Q:Unit->Shared->Prop}(I:Inv X pins σ H s)(hN:X.N.Nodup)(hi:X.N[i]?=some x)(hx:Loc X.env.scope x)(r:RelV v u)
  (h:∀ s',Inv X pins (σ.set i<|some v) H s'->(∃ a,Heap.SameBut a s.heap s'.heap/\(a=X.env.locals\/X.env.cells.lookup x=some a))->Q () s') (hf:X.fn x=true\/X.env.scope.names.lookup x=some .local:=by first | exact .inl rfl | exact .inr rfl | assumption):wpAny M A (storeName X.env x u) Q E s:=by
 obtain⟨m,hn,hl⟩:=id I.loc;have oA:(X.env.scope.kind == .class || (X.env.scope.kind == .module && X.env.locals != X.env.globals))=false:=by rw [I.ok.kind];rfl
 have hiσ:i < σ.length:=by rw [I.len];exact(Ab.mp hi).1
 have ll:=I.ll;have tracked:∀{a:Addr} {h':Heap},(∃ o,s.heap.get? a=some o/\H a=none)->Heap.SameBut a s.heap h'->b7 X.prog X.w H h':=λ{a h'} ha hs b ob e=>by
  obtain⟨_,_,mZ⟩:=ha;refine(I.aC b ob e).fe (λc w' hc q=>(hs.2 c ?_).trans q) (λ_ q=>q) λ_ _ q=>q;rintro rfl
  rcases hc with rfl | hc
  ·rw [mZ] at e;cases e
  ·rw [mZ] at hc;cases hc
 rcases hx with hk | hk
 ·refine wpAny_storeName_local hk hn (λh' m3 hs=>?_) oA;obtain⟨oL,_,_,jc,_⟩:=id hn;refine h _ ⟨I.ok,I.os,I.bare,⟨λb o e n hb hx=>?_,λb o e n hb hx=>?_,I.base.free,λb o e hx=>?_,I.base.dD,I.base.dk,I.base.dE⟩,⟨_,m3,λj y v' e1 e2 e3=>?_⟩,λy c e=>?_,I.free,I.bg,λp hp=>?_,tracked ⟨oL,jc,I.free⟩ hs,by simpa using I.len⟩ ⟨_,hs,.inl rfl⟩
  ·exact(hs.2 b<|Bp<|Bo (Au e) I.ok.above).trans<|I.base.keep b o e n hb hx
  ·obtain⟨sl,e1⟩:=I.base.slot b o e n hb hx;exact⟨sl,(hs.2 b<|Bp<|Bo (Au e) I.ok.above).trans e1⟩
  ·obtain⟨o',e1⟩:=I.base.there b o e hx;exact⟨o',(hs.2 b<|Bp<|Bo (Au e) I.ok.above).trans e1⟩
  ·by_cases hj:j=i
   ·subst hj;rw [hi] at e1;cases e1;rw [Gr hiσ] at e2;cases e2;exact⟨u,r,.inl ⟨hk,by simp⟩⟩
   ·rw [Hn<|CJ hj] at e2;obtain⟨u',r',q⟩:=hl j y v' e1 e2 e3;refine⟨u',r',?_⟩
    rcases q with ⟨k,e⟩ | ⟨k,c,e,z⟩
    ·refine .inl ⟨k,?_⟩;have:y≠x:=λe=>hj<|AY hN e1<|e ▸ hi;simp [this,e]
    ·exact .inr ⟨k,c,e,z.sameBut hs<|ll y c e⟩
  ·obtain⟨w',z⟩:=I.cell y c e;exact⟨w',z.sameBut hs<|ll y c e⟩
  ·obtain⟨e,n,ne,nf,d⟩:=I.pin p hp;exact⟨(hs.2 p.1 ne).trans e,n,ne,nf,d⟩
 ·have sW:X.fn x=true:=by
   rcases hf with z | z
   ·exact z
   ·rw [z] at hk;cases hk
  obtain⟨c,hc⟩:=I.ok.has x<|.inl hk;obtain⟨w',z⟩:=I.cell x c hc;refine wpAny_storeName_cell I.ok.kind hk hc z λh' a7 hs=>?_;obtain⟨oc,Mi,AZ⟩:=id z;refine h {s with heap:=h'} ⟨I.ok,I.os,I.bare,⟨λb o e n hb hx=>?_,λb o e n hb hx=>?_,I.base.free,λb o e hx=>?_,I.base.dD,I.base.dk,I.base.dE⟩,⟨m,hn.sameBut hs<|CJ<|ll x c hc,λj y v' e1 e2 e3=>?_⟩,λy c' e=>?_,I.free,I.bg,λp hp=>?_,tracked ⟨oc,Mi,I.bg x c hc⟩ hs,by simpa using I.len⟩ ⟨c,hs,.inr hc⟩
  ·exact(hs.2 b<|Bp<|Bo (Au e)<|I.ok.lh x c sW hc).trans<|I.base.keep b o e n hb hx
  ·obtain⟨sl,e1⟩:=I.base.slot b o e n hb hx;exact⟨sl,(hs.2 b<|Bp<|Bo (Au e)<|I.ok.lh x c sW hc).trans e1⟩
  ·obtain⟨o',e1⟩:=I.base.there b o e hx;exact⟨o',(hs.2 b<|Bp<|Bo (Au e)<|I.ok.lh x c sW hc).trans e1⟩
  ·by_cases hj:j=i
   ·subst hj;rw [hi] at e1;cases e1;rw [Gr hiσ] at e2;cases e2;exact⟨u,r,.inr ⟨.inl hk,c,hc,a7⟩⟩
   ·rw [Hn<|CJ hj] at e2;obtain⟨u',r',q⟩:=hl j y v' e1 e2 e3;refine⟨u',r',?_⟩
    rcases q with q | ⟨k,c',e,z'⟩
    ·exact .inl q
    ·refine .inr ⟨k,c',e,z'.sameBut hs ?_⟩;rintro rfl;exact hj<|AY hN e1<|I.ok.inj _ _ _ e hc ▸ hi
  ·by_cases Mj:c'=c
   ·subst Mj;exact⟨_,a7⟩
   ·obtain⟨w2,z2⟩:=I.cell y c' e;exact⟨w2,z2.sameBut hs Mj⟩
  ·obtain⟨e,n,ne,nf,d⟩:=I.pin p hp;refine⟨(hs.2 p.1 ?_).trans e,n,ne,nf,d⟩;intro q;rw [q,Mi] at e;have q':oc=p.2:=Option.some.inj e;exact d w'<|by rw [<- q'];exact AZ
theorem A0{M:Model}{A:Around}{E:Value->Shared->Prop}{i:Nat}{x:Str}{v:V}{u:Value}{Q:Unit->Shared->Prop}(I:Inv X pins σ H s)(hN:X.N.Nodup)(hi:X.N[i]?=some x)(hx:Loc X.env.scope x)(r:RelV v u)
  (h:∀ s',Inv X pins (σ.set i<|some v) H s'->Q () s') (hf:X.fn x=true\/X.env.scope.names.lookup x=some .local:=by first | exact .inl rfl | exact .inr rfl | assumption):wpAny M A (storeName X.env x u) Q E s:=
 Mh I hN hi hx r (λs' I' _=>h s' I') hf
theorem Inv.call'{s':Shared}{ch:List Addr}(I:Inv X pins σ H s)(ho:s'.os=s.os)(u:Un (df X.stack) ch H H' s.heap s'.heap)(aC:b7 X.prog X.w H' s'.heap)(hg:AllBare s'.gens)
  (bx:∀ b∈ch,(b∈X.ex\/X.s₀.heap.objs.size<=b)/\b≠X.env.locals/\(∀ x c,X.env.cells.lookup x=some c->c≠b)/\∀ p∈X.pn++pins,p.1≠b):Inv X pins σ H' s':=by
 obtain⟨h',g',d',t',o'⟩:=s';have e:o'=s.os:=ho;subst e;exact I.call (g':=g') (t':=t') (d':=d') u aC hg bx
end
abbrev XK:=Value->Option Addr->Hp->Prop
abbrev St:=List<|Option V
abbrev VK:=V->Hp->Prop
abbrev TE:=St->Hp->VK->Prop
abbrev TT:=St->Hp->(Bool->Hp->Prop)->Prop
abbrev TA:=St->Hp->(List V->Hp->Prop)->Prop
structure Ends where
 nx:St->Hp->Prop
 rt:VK
 bk:St->Hp->Prop:=λ_ _=>False
 ct:St->Hp->Prop:=λ_ _=>False
abbrev TS:=Ends->St->Hp->Prop
def EP(X:Cx)(pins:List<|Addr×Obj)(σ:St)(Q:VK)(u:Value)(s':Shared):Prop:=∃ v H',Inv X pins σ H' s'/\RelV v u/\Q v H'
def TP(X:Cx)(pins:List<|Addr×Obj)(σ:St)(Q:Bool->Hp->Prop)(b:Bool)(s':Shared):Prop:=∃ H',Inv X pins σ H' s'/\Q b H'
def AP(X:Cx)(pins:List<|Addr×Obj)(σ:St)(Q:List V->Hp->Prop)(us:List Value)(s':Shared):Prop:=∃ vs H',Inv X pins σ H' s'/\aq vs us/\Q vs H'
def SP(X:Cx)(pins:List<|Addr×Obj)(D:Ends)(f:Flow)(s':Shared):Prop:=
 match f with
 | .next=>∃ σ' H',Inv X pins σ' H' s'/\D.nx σ' H'
 | .brk=>∃ σ' H',Inv X pins σ' H' s'/\D.bk σ' H'
 | .cont=>∃ σ' H',Inv X pins σ' H' s'/\D.ct σ' H'
 | .ret u=>∃ v σ' H',Inv X pins σ' H' s'/\RelV v u/\D.rt v H'
def PE(X:Cx)(e:Expr)(t:TE):Prop:=
 ∀(pins:List<|Addr×Obj) (s:Shared) (σ:St) (H:Hp) (Q:VK),Inv X pins σ H s->t σ H Q->wpAny (model X.prog X.w) X.A (eval e X.env) (EP X pins σ Q) X.xe s
def PT(X:Cx)(e:Expr)(t:TT):Prop:=
 ∀(pins:List<|Addr×Obj) (s:Shared) (σ:St) (H:Hp) (Q:Bool->Hp->Prop),Inv X pins σ H s->t σ H Q->wpAny (model X.prog X.w) X.A (isTrue e X.env<|eval e X.env) (TP X pins σ Q) X.xe s
def PW(X:Cx)(e:Expr)(t:TT):Prop:=
 ∀(whole:Sem Value) (pins:List<|Addr×Obj) (s:Shared) (σ:St) (H:Hp) (Q:Bool->Hp->Prop),Inv X pins σ H s->t σ H Q->wpAny (model X.prog X.w) X.A (isTrue e X.env whole) (TP X pins σ Q) X.xe s
def PA(X:Cx)(es:List Expr)(t:TA):Prop:=
 ∀(pos:Pos) (pins:List<|Addr×Obj) (s:Shared) (σ:St) (H:Hp) (Q:List V->Hp->Prop),Inv X pins σ H s->t σ H Q->wpAny (model X.prog X.w) X.A (spliced<|backTo pos<|starEach es X.env) (AP X pins σ Q) X.xe s
def PS(X:Cx)(st:Stmt)(t:TS):Prop:=
 ∀(pins:List<|Addr×Obj) (s:Shared) (σ:St) (H:Hp) (D:Ends),Inv X pins σ H s->t D σ H->wpAny (model X.prog X.w) X.A (exec st X.env) (SP X pins D) X.xe s
def iN(X:Cx)(st:List Stmt)(t:TS):Prop:=
 ∀(pins:List<|Addr×Obj) (s:Shared) (σ:St) (H:Hp) (D:Ends),Inv X pins σ H s->t D σ H->wpAny (model X.prog X.w) X.A (execs st X.env) (SP X pins D) X.xe s
theorem aI{α:Type}{t:Sem α}{Q Q':α->Shared->Prop}{M:Model}{A:Around}{E:Value->Shared->Prop}{s:Shared}(h:wpAny M A t Q E s)(hQ:∀ a s,Q a s->Q' a s):wpAny M A t Q' E s:=CV h hQ λ_ _ x=>x
section
variable{X:Cx}
theorem bin{a b:Expr}{ta tb:TE}(ha:PE X a ta)(hb:PE X b tb){pins:List (Addr×Obj)}{s:Shared}{σ:St}{H:Hp}{R:V->V->Hp->Prop}(I:Inv X pins σ H s)(h:ta σ H λx H1=>tb σ H1 λy H2=>R x y H2)
  {α:Type} {Q:α->Shared->Prop} {f:Value->Value->Sem α}
  (hf:∀ v u s2 x y H2,Inv X pins σ H2 s2->RelV x v->RelV y u->R x y H2->wpAny (model X.prog X.w) X.A (f v u) Q X.xe s2) :
  wpAny (model X.prog X.w) X.A (eval a X.env) (λv s₁=>wpAny (model X.prog X.w) X.A (eval b X.env) (λu s₂=>wpAny (model X.prog X.w) X.A (f v u) Q X.xe s₂) X.xe s₁) X.xe s:=by
 refine aI (ha pins s σ H _ I h) λv s1 ⟨x,H1,I1,r1,q1⟩=>?_;refine aI (hb pins s1 σ H1 _ I1 q1) λu s2 ⟨y,H2,I2,r2,q2⟩=>?_;exact hf v u s2 x y H2 I2 r1 r2 q2
def A1(i:Nat):TE:=λσ H Q=>∃ v,σ[i]?=some (some v)/\Q v H
def tC(v:V):TE:=λ_ H Q=>Q v H
theorem UR{i:Nat}{x:Str}{pos:Pos}(hN:X.N[i]?=some x)(hv:AV X.env.scope x)(hd:(x == ("__debug__" : Str))=false:=by decide)(ik:(x == ("__classdict__" : Str))=false:=by decide):PE X (.Name x pos) (A1 i):=by
 intro pins s σ H Q I h;obtain⟨v,e,h⟩:=h;obtain⟨m,hn,hl⟩:=I.loc;obtain⟨u,r,l⟩:=hl i x v hN e hv;have fin:EP X pins σ Q u s:=⟨v,H,I,r,h⟩
 rcases l with ⟨hk,hm⟩ | ⟨hk,c,hc,im⟩
 ·exact wpAny_Name (wpAny_loadName_local I.ok.kind hk hn hm fin) hd
 ·rcases hk with hk | hk
  ·exact wpAny_Name (wpAny_loadName_cell I.ok.kind hk hc im fin) hd
  ·exact wpAny_Name (wpAny_loadName_free I.ok.kind hk hc im fin ik) hd
theorem UT{i j pos}:PE X (.Constant (.int i) j pos) (tC<|.int i):=λ_ _ _ H _ I h=>wpAny_Constant_int ⟨.int i,H,I.tok _,⟨_,rfl⟩,h⟩
theorem UU{b j pos}:PE X (.Constant (.bool b) j pos) (tC<|.bl b):=λ_ _ _ H _ I h=>Constant_bool ⟨.bl b,H,I,rfl,h⟩
theorem UW{j pos}:PE X (.Constant .none j pos) (tC .non):=λ_ _ _ H _ I h=>Constant_none ⟨.non,H,I,rfl,h⟩
theorem UX{x j pos}:PE X (.Constant (.str x) j pos) (tC<|.str x):=λ_ _ _ H _ I h=>Calls.Constant_str ⟨.str x,H,I.tok _,⟨_,rfl⟩,h⟩
def Gl(X:Cx)(x:Str):Prop:=X.env.kindOf x=some .globalImplicit
theorem sX{E:Value->Shared->Prop}{pins:List (Addr×Obj)}{s:Shared}{σ:St}{H:Hp}{x:Str}{u:Value}{pos:Pos}{Q:Value->Shared->Prop}(I:Inv X pins σ H s)(hg:Gl X x)(hm:X.mg x=some u)(h:Q u s)
  (hd:(x == ("__debug__" : Str))=false:=by decide):wpAny (model X.prog X.w) X.A (eval (.Name x pos) X.env) Q E s:=
 Calls.Name_function_global I.ok.kind hg (Calls.loadGlobal_global (by rw [I.ok.glob];exact I.mod.glob.keeps I.bk) hm h) hd
theorem oB{E:Value->Shared->Prop}{pins:List (Addr×Obj)}{s:Shared}{σ:St}{H:Hp}{x:Str}{u:Value}{pos:Pos}{Q:Value->Shared->Prop}(I:Inv X pins σ H s)(hg:Gl X x)(hm:X.mg x=none)(hv:bootBuiltins x=some u)(h:Q u s)
  (hn:x ≠ "__name__":=by decide) (hd:(x == ("__debug__" : Str))=false:=by decide):wpAny (model X.prog X.w) X.A (eval (.Name x pos) X.env) Q E s:=by
 obtain⟨mb,h1,h2⟩:=I.mod.blt;exact Calls.Name_function_global I.ok.kind hg (Calls.loadGlobal_builtin (by rw [I.ok.glob];exact I.mod.glob.keeps I.bk) hm (by rw [I.ok.blt];exact h1.keeps I.bk) ((h2 x hn).trans hv) h) hd
theorem UY{x:Str}{v:V}{u:Value}{pos:Pos}(hg:Gl X x)(hm:X.mg x=some u)(r:RelV v u)(hd:(x == ("__debug__" : Str))=false:=by decide):PE X (.Name x pos) (tC v):=
 λ_ _ _ H _ I h=>sX I hg hm ⟨v,H,I,r,h⟩ hd
theorem UZ{x:Str}{v:V}{u:Value}{pos:Pos}(hg:Gl X x)(hm:X.mg x=none)(hv:bootBuiltins x=some u)(r:RelV v u)(hn:x ≠ "__name__":=by decide)(hd:(x == ("__debug__" : Str))=false:=by decide):PE X (.Name x pos) (tC v):=
 λ_ _ _ H _ I h=>oB I hg hm hv ⟨v,H,I,r,h⟩ hn hd
variable{a b:Expr}{ta tb:TE}{pos:Pos}
def PC(X:Cx)(op:CmpOp)(a b:Expr)(t:TE):Prop:=
 ∀(pins:List<|Addr×Obj) (s:Shared) (σ:St) (H:Hp) (Q:VK),Inv X pins σ H s->t σ H Q ->
  wpAny (model X.prog X.w) X.A (eval a X.env) (λv s₁=>wpAny (model X.prog X.w) X.A (eval b X.env) (λu s₂=>wpAny (model X.prog X.w) X.A (compareOp op v u) (EP X pins σ Q) X.xe s₂) X.xe s₁) X.xe s
def tB(t:TE):TT:=λσ H Q=>t σ H λx H1=>∃ c,x = .bl c/\Q c H1
theorem Mk{op:CmpOp}{t:TE}(h:PC X op a b t)(h1:behindInMarks op b=false:=by first | exact sY _ (by decide) (by decide) | rfl):PT X (.Compare a [op] [b] pos) (tB t):=by
 intro pins s σ H Q I hw;refine wpAny_isTrue_Compare1 (aI (h pins s σ H _ I hw) λv s1 h1=>aI h1 λu s2 h2=>aI h2 λc s3 ⟨x,H1,I1,r1,q1⟩=>?_) h1;obtain⟨d,rfl,q⟩:=q1;cases r1;exact DY ⟨H1,I1,q⟩
theorem U0{e:Expr}{t:TE}(h:PE X e t)(he:∀ whole,isTrue e X.env whole=(do let v <- whole;standAt e.pos;holding [v] (truthy v)):=by intro _;rfl):PT X e (tB t):=by
 intro pins s σ H Q I hw;refine isTrue_plain (aI (h pins s σ H _ I hw) λv s1 ⟨x,H1,I1,r1,q1⟩=>?_)<|he _;obtain⟨d,rfl,q⟩:=q1;cases r1;exact DY ⟨H1,I1,q⟩
variable{tA Ml:TT}{rest:List Expr}
def A2(t u:TT):TT:=λσ H Q=>t σ H λc H1=>if c=true then u σ H1 Q else Q false H1
def A3(t:TT):TT:=λσ H Q=>t σ H λc H1=>Q (!c) H1
theorem U1(ha:PT X a tA):PW X (.BoolOp .And [a] pos) tA:=by
 intro wh pins s σ H Q I h;refine isTrue_and<|aI (ha pins s σ H Q I h) λc s1 e=>?_;cases c with
 | true=>exact isTrue_and_nil e
 | false=>exact e
theorem U2(ha:PT X a tA)(hb:PW X (.BoolOp .And (b :: rest) pos) Ml):PW X (.BoolOp .And (a :: b :: rest) pos) (A2 tA Ml):=by
 intro wh pins s σ H Q I h;refine isTrue_and<|aI (ha pins s σ H _ I h) λc s1 ⟨H1,I1,q1⟩=>?_;cases c with
 | true=>exact hb wh pins s1 σ H1 Q I1 q1
 | false=>exact⟨H1,I1,q1⟩
theorem U3(ha:PT X a tA):PT X (.UnaryOp .Not a pos) (A3 tA):=by
 intro pins s σ H Q I h;exact isTrue_not<|ha pins s σ H (λc H1=>Q (!c) H1) I h
def U4(ta tb:TE):TE:=λσ H Q=>ta σ H λx H1=>∃ c,x = .bl c/\if c=true then tb σ H1 Q else Q (.bl false) H1
def A4(ta tb:TE):TE:=λσ H Q=>ta σ H λx H1=>∃ c,x = .bl c/\if c=true then Q (.bl true) H1 else tb σ H1 Q
def U5(ta:TE):TE:=λσ H Q=>ta σ H λx H1=>∃ c,x = .bl c/\Q (.bl (!c)) H1
theorem U6{op}{t:TE}(h:PE X a t):PE X (.BoolOp op [a] pos) t:=λpins s σ H Q I hw=>BoolOp_one<|h pins s σ H Q I hw
theorem U7(ha:PE X a ta)(hb:PE X (.BoolOp .And (b :: rest) pos) tb):PE X (.BoolOp .And (a :: b :: rest) pos) (U4 ta tb):=by
 intro pins s σ H Q I h;refine BoolOp_and<|aI (ha pins s σ H _ I h) λv s1 ⟨x,H1,I1,r1,q1⟩=>?_;obtain⟨c,rfl,q1⟩:=q1;cases r1;refine DY ?_;cases c with
 | true=>exact hb pins s1 σ H1 Q I1 q1
 | false=>exact⟨.bl false,H1,I1,rfl,q1⟩
theorem U8(ha:PE X a ta)(hb:PE X (.BoolOp .Or (b :: rest) pos) tb):PE X (.BoolOp .Or (a :: b :: rest) pos) (A4 ta tb):=by
 intro pins s σ H Q I h;refine BoolOp_or<|aI (ha pins s σ H _ I h) λv s1 ⟨x,H1,I1,r1,q1⟩=>?_;obtain⟨c,rfl,q1⟩:=q1;cases r1;refine DY ?_;cases c with
 | false=>exact hb pins s1 σ H1 Q I1 q1
 | true=>exact⟨.bl true,H1,I1,rfl,q1⟩
theorem U9(ha:PE X a ta):PE X (.UnaryOp .Not a pos) (U5 ta):=by
 intro pins s σ H Q I h;refine UnaryOp_<|aI (ha pins s σ H _ I h) λv s1 ⟨x,H1,I1,r1,q1⟩=>?_;obtain⟨c,rfl,q1⟩:=q1;cases r1;exact not_of<|DY ⟨.bl (!c),H1,I1,rfl,q1⟩
def U'(t:TT)(ta tb:TE):TE:=λσ H Q=>t σ H λc H1=>if c=true then ta σ H1 Q else tb σ H1 Q
theorem Va{c:Expr}(hc:PT X c tA)(ha:PE X a ta)(hb:PE X b tb):PE X (.IfExp c a b pos) (U' tA ta tb):=by
 intro pins s σ H Q I h;refine wpAny_IfExp<|aI (hc pins s σ H _ I h) λd s1 ⟨H1,I1,q1⟩=>?_;cases d with
 | true=>exact ha pins s1 σ H1 Q I1 q1
 | false=>exact hb pins s1 σ H1 Q I1 q1
end
def ai(K:PySem.W.Frag)(H:Hp)(a:Addr)(xs:List V):Prop:=
 Rd H a (.lst xs) \/
  ∃(o:Obj) (its:Array Value) (n:Nat),K.lookup a=some o/\o.cls = .type "list"/\o.dict=none/\o.data = .seq its n/\its.size<=sizeLine/\aq xs its.toList
def bt(K:PySem.W.Frag)(H:Hp)(a:Addr)(xs:List V):Prop:=
 Rd H a (.tup xs) \/
  ∃(o:Obj) (its:Array Value) (n:Nat),K.lookup a=some o/\o.cls = .type "tuple"/\o.data = .seq its n/\its.size<=sizeLine/\aq xs its.toList
def A5:Value->Option V
 | .none=>some .non
 | .bool b=>some<|.bl b
 | .int i _=>some<|.int i
 | .str x _=>some<|.str x
 | .bytes b _=>some<|.iM b
 | .float b _=>some<|.AT b
 | .ref a=>some<|.ref a
 | .type n=>some<|.ty n
 | _=>none
theorem RelV.abs{x:V}{u:Value}(r:RelV x u):A5 u=some x:=by
 cases x with
 | non=>cases r;rfl
 | bl _=>cases r;rfl
 | int _=>obtain⟨t,rfl⟩:=r;rfl
 | str _=>obtain⟨t,rfl⟩:=r;rfl
 | iM _=>obtain⟨t,rfl⟩:=r;rfl
 | AT _=>obtain⟨t,rfl⟩:=r;rfl
 | ref _=>cases r;rfl
 | ty _=>cases r;rfl
theorem RelV.inj{x y:V}{u:Value}(r:RelV x u)(q:RelV y u):x=y:=Option.some.inj<|r.abs.symm.trans q.abs
theorem aq.inj:∀{xs ys:List V} {us:List Value},aq xs us->aq ys us->xs=ys
 | _,_,_,.nil,.nil=>rfl
 | _,_,_,.cons r t,.cons r' t'=>by rw [r.inj r',aq.inj t t']
section
variable{X:Cx}{pins:List (Addr×Obj)}{σ:St}{H:Hp}{s:Shared}{a:Addr}{xs ys:List V}
theorem ai.of{K:PySem.W.Frag}(h:H a=some (.lst xs)):ai K H a xs:= .inl<|.inl h
theorem bt.of{K:PySem.W.Frag}(h:H a=some (.tup xs)):bt K H a xs:= .inl<|.inl h
theorem Inv.list(I:Inv X pins σ H s)(h:ai X.K H a xs):∃ its:List Value,aq xs its/\PlainL s.heap a its.toArray/\xs.length<=sizeLine:=by
 rcases h with h | ⟨o,its,n,hk,hc,hd,hs,hz,r⟩
 ·obtain⟨z,its,n,r,e⟩:=h.ok I.aC;exact⟨its,r,⟨_,n,e,rfl,rfl,rfl⟩,z⟩
 ·refine⟨its.toList,r,⟨o,n,I.jw a o hk,hc,hd,by simpa using hs⟩,?_⟩;have e:=r.length;simp only [Al] at e;omega
theorem Inv.tuple(I:Inv X pins σ H s)(h:bt X.K H a xs):∃ its:List Value,aq xs its/\IsTup s.heap a its.toArray/\xs.length<=sizeLine:=by
 rcases h with h | ⟨o,its,n,hk,hc,hs,hz,r⟩
 ·obtain⟨z,its,r,p⟩:=h.ok I.aC;exact⟨its,r,p,z⟩
 ·refine⟨its.toList,r,⟨o,I.jw a o hk,hc,n,by simpa using hs⟩,?_⟩;have e:=r.length;simp only [Al] at e;omega
theorem Inv.cK(I:Inv X pins σ H s)(h:ai X.K H a xs)(h':ai X.K H a ys):xs=ys:=by
 obtain⟨its,r,⟨o,n,e,_,_,d⟩,_⟩:=I.list h;obtain⟨its',r',⟨o',n',e',_,_,d'⟩,_⟩:=I.list h';rw [e] at e';cases e';rw [d] at d'
 injection d' with d1 _
 have:its=its':=by simpa using CW Array.toList d1
 subst this;exact r.inj r'
theorem Inv.iO(I:Inv X pins σ H s)(h:bt X.K H a xs)(h':bt X.K H a ys):xs=ys:=by
 obtain⟨its,r,⟨o,e,_,n,d⟩,_⟩:=I.tuple h;obtain⟨its',r',⟨o',e',_,n',d'⟩,_⟩:=I.tuple h';rw [e] at e';cases e';rw [d] at d'
 injection d' with d1 _
 have:its=its':=by simpa using CW Array.toList d1
 subst this;exact r.inj r'
end
abbrev Cx.dq(X:Cx)(E:Value->Shared->Prop):Cx:={X with xe:=E}
abbrev Cx.lq(X:Cx):Cx:=X.dq λ_ _=>False
theorem Cx.Ok.dq{X:Cx}(ok:X.Ok)(E:Value->Shared->Prop):(X.dq E).Ok:=
 ⟨ok.mod,ok.kind,ok.glob,ok.blt,ok.above,ok.inj,ok.has,ok.lh,ok.hd,ok.frames,ok.ku,ok.qP,ok.bs,ok.jb,ok.fi,ok.fY,ok.cw,ok.ky⟩
theorem Cx.Ok.bC{X:Cx}{E:Value->Shared->Prop}(ok:(X.dq E).Ok):X.Ok:=
 ⟨ok.mod,ok.kind,ok.glob,ok.blt,ok.above,ok.inj,ok.has,ok.lh,ok.hd,ok.frames,ok.ku,ok.qP,ok.bs,ok.jb,ok.fi,ok.fY,ok.cw,ok.ky⟩
section
variable{X:Cx}{pins:List (Addr×Obj)}{σ:St}{H:Hp}{s:Shared}{E:Value->Shared->Prop}
theorem Inv.dq(I:Inv X pins σ H s)(E:Value->Shared->Prop):Inv (X.dq E) pins σ H s:=⟨I.ok.dq E,I.os,I.bare,I.base,I.loc,I.cell,I.free,I.bg,I.pin,I.aC,I.len⟩
theorem Inv.bC(I:Inv (X.dq E) pins σ H s):Inv X pins σ H s:=⟨I.ok.bC,I.os,I.bare,I.base,I.loc,I.cell,I.free,I.bg,I.pin,I.aC,I.len⟩
theorem SP.bC{D:Ends}{f:Flow}{s':Shared}(h:SP (X.dq E) pins D f s'):SP X pins D f s':=by
 cases f with
 | next=>obtain⟨σ',H',I,q⟩:=h;exact⟨σ',H',I.bC,q⟩
 | brk=>obtain⟨σ',H',I,q⟩:=h;exact⟨σ',H',I.bC,q⟩
 | cont=>obtain⟨σ',H',I,q⟩:=h;exact⟨σ',H',I.bC,q⟩
 | ret u=>obtain⟨v,σ',H',I,r,q⟩:=h;exact⟨v,σ',H',I.bC,r,q⟩
theorem iN.lq{st:List Stmt}{t:TS}(h:iN X.lq st t):iN X st t:=λpins s σ H D I hw=>
 CV (h pins s σ H D (I.dq _) hw) (λ_ _ q=>q.bC) λ_ _ z=>False.elim z
end
section
variable{X:Cx}{st:Stmt}{rest:List Stmt}{t u:TS}{e:Expr}{te:TE}{pos:Pos}
def Vb:TS:=λD σ H=>D.nx σ H
def A6(t u:TS):TS:=λD σ H=>t {D with nx:=u D} σ H
theorem Mm:iN X [] Vb:=λ_ _ σ H _ I h=>RN ⟨σ,H,I,h⟩
theorem Vc(h1:PS X st t)(h2:iN X rest u):iN X (st :: rest) (A6 t u):=by
 intro pins s σ H D I h;refine wpAny_execs_cons<|aI (h1 pins s σ H {D with nx:=u D} I h) λf s1 q=>?_;cases f with
 | next=>
  obtain⟨σ',H',I',q⟩:=q;exact h2 pins s1 σ' H' D I' q
 | ret v=>exact q
 | brk=>exact q
 | cont=>exact q
theorem Inv.quiet{pins:List (Addr×Obj)}{σ:St}{H:Hp}{s:Shared}(I:Inv X pins σ H s):interactive X.env=false:=by simp [interactive,I.ok.kind]
def Vd(te:TE):TS:=λD σ H=>te σ H λ_ H1=>D.nx σ H1
theorem Ve(he:PE X e te)(hs:swapsWith e none pos.line X.env=pure false:=by rfl):PS X (.Expr e pos) (Vd te):=by
 intro pins s σ H D I h;exact wpAny_Expr_any (aI (he pins s σ H _ I h) λv s1 ⟨x,H1,I1,r1,q1⟩=>⟨σ,H1,I1,q1⟩) I.quiet hs
def A7(te:TE):TS:=λD σ H=>te σ H D.rt
theorem Vf(he:PE X e te):PS X (.Return (some e) pos) (A7 te):=by
 intro pins s σ H D I h;exact wpAny_Return_some<|aI (he pins s σ H _ I h) λv s1 ⟨x,H1,I1,r1,q1⟩=>⟨x,σ,H1,I1,r1,q1⟩
def A8(c:TT)(t u:TS):TS:=λD σ H=>c σ H λb H1=>if b=true then t D σ H1 else u D σ H1
theorem Vg{c:Expr}{a b:List Stmt}{tc:TT}(hc:PT X c tc)(ha:iN X a t)(hb:iN X b u):PS X (.If c a b pos) (A8 tc t u):=by
 intro pins s σ H D I h;refine wpAny_If<|aI (hc pins s σ H _ I h) λd s1 ⟨H1,I1,q1⟩=>?_;cases d with
 | true=>exact ha pins s1 σ H1 D I1 q1
 | false=>exact hb pins s1 σ H1 D I1 q1
end
abbrev TG:=V->St->Hp->(St->Hp->Prop)->Prop
abbrev oD:=List V->St->Hp->(St->Hp->Prop)->Prop
def PG(X:Cx)(target:Expr)(t:TG):Prop:=
 ∀(pins:List<|Addr×Obj) (s:Shared) (σ:St) (H:Hp) (v:V) (u:Value) (Q:St->Hp->Prop),Inv X pins σ H s->RelV v u->t v σ H Q ->
  wpAny (model X.prog X.w) X.A (assign target X.env u) (λ_ s'=>∃ σ' H',Inv X pins σ' H' s'/\Q σ' H') X.xe s
def xE(X:Cx)(ts:List Expr)(t:oD):Prop:=
 ∀(pins:List<|Addr×Obj) (s:Shared) (σ:St) (H:Hp) (vs:List V) (us:List Value) (Q:St->Hp->Prop),Inv X pins σ H s->aq vs us->t vs σ H Q ->
  wpAny (model X.prog X.w) X.A (assignInOrder ((assignEach ts X.env).map (·.2)) us) (λ_ s'=>∃ σ' H',Inv X pins σ' H' s'/\Q σ' H') X.xe s
section
variable{X:Cx}{pos:Pos}
def Mp(i:Nat):TG:=λv σ H Q=>Q (σ.set i<|some v) H
theorem Vh{i:Nat}{x:Str}(hN:X.N.Nodup)(hi:X.N[i]?=some x)(hx:Loc X.env.scope x)(hf:X.fn x=true\/X.env.scope.names.lookup x=some .local:=by first | exact .inl rfl | exact .inr rfl | assumption):PG X (.Name x pos) (Mp i):=by
 intro pins s σ H v u Q I r h;exact wpAny_assign_Name<|A0 I hN hi hx r (λs' I'=>⟨_,H,I',h⟩) hf
def oE:oD:=λvs σ H Q=>vs=[]/\Q σ H
def qR(t:TG)(u:oD):oD:=λvs σ H Q=>∃ v r,vs=v :: r/\t v σ H λσ' H'=>u r σ' H' Q
theorem Mq:xE X [] oE:=by
 intro pins s σ H vs us Q I r h;obtain⟨e,h⟩:=h;subst e;cases r;exact assignInOrder_nil ⟨σ,H,I,h⟩
theorem sZ{e:Expr}{es:List Expr}{t:TG}{u:oD}(h1:PG X e t)(h2:xE X es u)
  (hs:(assignEach (e :: es) X.env).map (·.2)=assign e X.env :: (assignEach es X.env).map (·.2):=by rfl):xE X (e :: es) (qR t u):=by
 intro pins s σ H vs us Q I r h;obtain⟨v,vr,e1,h⟩:=h;subst e1;cases r with
 | cons r rr=>
  rw [hs];refine assignInOrder_cons<|aI (h1 pins s σ H _ _ _ I r h) λ_ s1 ⟨σ1,H1,I1,q1⟩=>?_;exact h2 pins s1 σ1 H1 _ _ Q I1 rr q1
def A9(K:PySem.W.Frag)(n:Nat)(t:oD):TG:=λv σ H Q=>∃ a xs,v = .ref a/\bt K H a xs/\xs.length=n/\t xs σ H Q
theorem Mr{es:List Expr}{k:Nat}{t:oD}{n:Nat}(hc:X.calm=true)(h:xE X es t)
  (hn:(assignEach es X.env).length=n:=by rfl) (c6:(assignEach es X.env).findIdx? (·.1)=none:=by rfl):PG X (.Tuple es k pos) (A9 X.K n t):=by
 intro pins s σ H v u Q I r hw;obtain⟨a,xs,e1,hq,hl,hw⟩:=hw;subst e1;cases r;obtain⟨its,rv,ht,hz⟩:=I.tuple hq;refine assign_Tuple_tuple (I.ok.hd hc) ht (by simp [hn,<- hl,rv.length]) c6 λh' hx=>?_;have I1:Inv X pins σ H {s with heap:=h'}:=I.kept (t':=s.toks) λb o e=>hx b o (Bp<|Au e) e;exact h pins _ σ H xs _ Q I1 (by simpa using rv) hw
def tj(te:TE)(g:TG):TS:=λD σ H=>te σ H λx H1=>g x σ H1 D.nx
theorem Vi{tg e:Expr}{te:TE}{g:TG}(he:PE X e te)(hg:PG X tg g)(hs:swapsWithSole [tg] e pos.line X.env=pure false:=by rfl)(hw:swappedStores [tg] e X.env=pure none:=by rfl)
  (h1:(assignEach [tg] X.env).map (·.2)=[assign tg X.env]:=by rfl):PS X (.Assign [tg] e pos) (tj te g):=by
 intro pins s σ H D I h;refine wpAny_Assign_stores (aI (he pins s σ H _ I h) λv s1 ⟨x,H1,I1,r1,q1⟩=>?_) hs hw;rw [h1];exact aI (hg pins s1 σ H1 x v _ I1 r1 q1) λ_ s2 q=>q
theorem Vj{i:Nat}{x:Str}{e:Expr}{te:TE}{pos':Pos}(hN:X.N.Nodup)(hi:X.N[i]?=some x)(hx:Loc X.env.scope x)(he:PE X e te)(hs:swapsWith e (some<|.Name x pos') pos.line X.env=pure false:=by rfl)(hf:X.fn x=true\/X.env.scope.names.lookup x=some .local:=by first | exact .inl rfl | exact .inr rfl | assumption) :
  PS X (.Assign [.Name x pos'] e pos) (tj te<|Mp i):=by
 intro pins s σ H D I h;refine wpAny_Assign_Name (aI (he pins s σ H _ I h) λv s1 ⟨y,H1,I1,r1,q1⟩=>?_) hs;exact A0 I1 hN hi hx r1 (λs2 I2=>⟨_,H1,I2,q1⟩) hf
def Vk(c:TT)(tb:TS):TS:=λD σ H=>∃ W:Nat->St->Hp->Prop,(∃ m,W m σ H)/\∀ m σ H,W m σ H ->
 c σ H λb H1=>if b=true then ∃ N:St->Hp->Prop,(∀ σ' H',N σ' H'->∃ m',m' < m/\W m' σ' H')/\tb {D with nx:=N,ct:=N,bk:=D.nx} σ H1 else D.nx σ H1
theorem Vl{c:Expr}{body:List Stmt}{tc:TT}{tb:TS}(hp:PassesOwn (model X.prog X.w) X.A X.env X.xe)(hc:PT X c tc)(hb:iN X body tb):PS X (.While c body [] pos) (Vk tc tb):=by
 intro pins s σ H D I h;obtain⟨W,⟨m0,w0⟩,turn⟩:=h;refine wpAny_While<|codeAny_whileLoop (λn s'=>∃ σ' H',Inv X pins σ' H' s'/\W n σ' H') ?_ m0 ⟨σ,H,I,w0⟩;rintro n s1 ⟨σ1,H1,I1,w1⟩;refine HN hp<|aI (hc pins s1 σ1 H1 _ I1<|turn n σ1 H1 w1) λb s2 ⟨H2,I2,q2⟩=>?_;cases b with
 | true=>
  obtain⟨N,hN,q2⟩:=q2;rw [BL rfl];refine HN hp<|aI (hb pins s2 σ1 H2 _ I2 q2) λf s3 q3=>?_;cases f with
  | next=>
   obtain⟨σ3,H3,I3,n3⟩:=q3;obtain⟨m',hm,w3⟩:=hN σ3 H3 n3;exact⟨m',hm,σ3,H3,I3,w3⟩
  | cont=>
   obtain⟨σ3,H3,I3,n3⟩:=q3;obtain⟨m',hm,w3⟩:=hN σ3 H3 n3;exact⟨m',hm,σ3,H3,I3,w3⟩
  | brk=>exact q3
  | ret v=>exact q3
 | false=>
  rw [BK Ba];exact RN ⟨σ1,H2,I2,q2⟩
end
structure It where
 go:Nat->Hp->Prop
 tq:Nat->Hp->V->Hp->Prop
 stop:Nat->Hp->Prop
def b8(X:Cx)(pins:List<|Addr×Obj)(H:Hp)(b:Addr):Prop:=
 H b=none/\b≠X.env.locals/\b∉X.fs/\(b∈X.ex\/X.s₀.heap.objs.size<=b)/\(∀ x c,X.env.cells.lookup x=some c->c≠b)/\∀ p∈X.pn++pins,p.1≠b
theorem Inv.gL{X:Cx}{pins:List (Addr×Obj)}{σ:St}{H H':Hp}{s:Shared}{b:Addr}(I:Inv X pins σ H s)(hb:s.heap.objs.size<=b)(hn:H' b=none):b8 X pins H' b:=by
 refine⟨hn,Di<|Bo I.lt hb,I.AX hb,.inr<|Ck I.sz hb,λx c e z=>?_,λp hp z=>?_⟩
 ·obtain⟨v,q⟩:=I.cell x c e;exact absurd (Bo q.lt<|by rw [z];exact hb)<|Cu _
 ·exact absurd (Bo (Au (I.pin p hp).1)<|by rw [z];exact hb)<|Cu _
structure Turn(P:Program)(w:World)(K:PySem.W.Frag)(tg:Expr)(J:It)(fp:List Addr)(it:Addr)(tn:Nat->Heap->Prop):Prop where
 mem:it∈fp
 obj:∀ i h,tn i h->∀ b∈fp,∃ o,h.get? b=some o/\∀ v,o.data ≠ .cell v
 keep:∀ i h h',tn i h->(∀ b∈fp,∀ o,h.get? b=some o->h'.get? b=some o)->tn i h'
 item:∀(X:Cx),X.prog=P->X.w=w->X.K=K->X.calm=true->∀(i:Nat) (pins:List<|Addr×Obj) (s:Shared) (σ:St) (H:Hp) (E:Value->Shared->Prop),Inv X pins σ H s->(∀ b∈fp,b8 X pins H b)->tn i s.heap->J.go i H ->
  wpAny (model P w) X.A (pyNext<|.ref it) (λr s1=>∃ u,r=some u /\
   wpAny (model P w) X.A (letOwnedTupleGo tg (.ref it) u) (λ_ s2=>∃ x H',Inv X pins σ H' s2/\RelV x u/\J.tq i H x H'/\tn (i+1) s2.heap/\∀ b∈fp,H' b=none) E s1) E s
 done:∀(X:Cx),X.prog=P->X.w=w->X.K=K->X.calm=true->∀(i:Nat) (pins:List<|Addr×Obj) (s:Shared) (σ:St) (H:Hp) (E:Value->Shared->Prop),Inv X pins σ H s->(∀ b∈fp,b8 X pins H b)->tn i s.heap->J.stop i H ->
  wpAny (model P w) X.A (pyNext<|.ref it) (λr s1=>r=none/\Inv X pins σ H s1) E s
 self:∀(A:Around) (i:Nat) (s:Shared) (Q:Value->Shared->Prop) (E:Value->Shared->Prop),tn i s.heap->Q (.ref it) s->wpAny (model P w) A (pyIter<|.ref it) Q E s
abbrev TI:=St->Hp->(It->Hp->Prop)->Prop
def Ms(X:Cx)(pins:List<|Addr×Obj)(σ:St)(tg:Expr)(R:It->Hp->Prop)(m4:Value)(s2:Shared):Prop:=
 ∃(it:Addr) (fp:List Addr) (tn:Nat->Heap->Prop) (J:It) (H':Hp),m4 = .ref it/\Inv X pins σ H' s2/\Turn X.prog X.w X.K tg J fp it tn/\tn 0 s2.heap/\(∀ b∈fp,b8 X pins H' b)/\R J H'
def PI(X:Cx)(tg iter:Expr)(wi:TI):Prop:=
 ∀(pins:List<|Addr×Obj) (s:Shared) (σ:St) (H:Hp) (R:It->Hp->Prop),Inv X pins σ H s->wi σ H R ->
  wpAny (model X.prog X.w) X.A (eval iter X.env) (λv s1=>wpAny (model X.prog X.w) X.A (pyIter v) (Ms X pins σ tg R) X.xe s1) X.xe s
theorem xF{M:Model}{A:Around}{E:Value->Shared->Prop}{s:Shared}{tg:Expr}{it:Addr}{u:Value}{o:Obj}{n:String}{vs:Array Value}{Q:Unit->Shared->Prop}(ho:s.heap.get? it=some o)(hc:o.cls = .type n)(hd:o.data = .fields vs)
    (hn:["enumerate","zip","dict_itemiterator","dict_reverseitemiterator","odict_iterator","itertools.zip_longest","itertools.pairwise"].contains n=false) (hQ:Q () s):wpAny M A (letOwnedTupleGo tg (.ref it) u) Q E s:=by
  unfold letOwnedTupleGo;cases tg <;> first
    | exact BP hQ
    | (cases u <;> first
        | exact BP hQ
        | (refine BJ<|wpAny_load ho ?_
           rw [hc,hd];show wpAny M A (if(["enumerate","zip","dict_itemiterator","dict_reverseitemiterator","odict_iterator","itertools.zip_longest","itertools.pairwise"].contains n && vs[0]? == some (rawInt _))=true then _ else _) Q E s;rw [BK<|by intro h;rw [hn,SJ] at h;cases h];exact BP hQ))
def oF(K:PySem.W.Frag)(a:Addr):It:=
 ⟨λi H=>∃ xs x,ai K H a xs/\xs[i]?=some x,λi H x H'=>H'=H/\∀ xs,ai K H a xs->xs[i]?=some x,λi H=>∃ xs,ai K H a xs/\xs.length<=i⟩
def xG(K:PySem.W.Frag)(a:Addr):It:=
 ⟨λi H=>∃ xs x,bt K H a xs/\xs[i]?=some x,λi H x H'=>H'=H/\∀ xs,bt K H a xs->xs[i]?=some x,λi H=>∃ xs,bt K H a xs/\xs.length<=i⟩
def qS(lo:Int)(n:Nat):It:=⟨λi _=>i < n,λi H x H'=>H'=H/\x = .int (lo+i),λi _=>n<=i⟩
theorem Vm{P:Program}{w:World}{K:PySem.W.Frag}{tg:Expr}(a it:Addr):Turn P w K tg (oF K a) [it] it (λi h=>h.IsListIter it a i) where
 mem:=by simp
 obj:=λi h st b hb=>by
  have e:b=it:=by simpa using hb
  subst e;obtain⟨o,e,c,d⟩:=st;exact⟨o,e,λv z=>by rw [d] at z;cases z⟩
 keep:=λi h h' st k=>st.at λo e=>k it (by simp) o e
 item:=by
  intro X hP hw hK hc i pins s σ H E I hf st hg;subst hP hw hK;obtain⟨xs,x,hq,hx⟩:=hg;obtain⟨its,rv,p,hz⟩:=I.list hq;obtain⟨u,hu,ru⟩:=rv.get hx;obtain⟨f0,f1,f2,f3,f4,f5⟩:=hf it (by simp);refine wpAny_pyNext_list_item st p.isList (x:=u) (by simpa using hu) λh' ag sb=>?_;have I1:Inv X pins σ H {s with heap:=h'}:=I.turned (t':=s.toks) (λb o hb e=>(sb.2 b hb).trans e) f0 f1 f3 f4 f5;obtain⟨o,e,c,d⟩:=id ag;exact⟨u,rfl,xF (s:={s with heap:=h'}) e c d (by decide) ⟨x,H,I1,ru,⟨rfl,λys hy=>by rw [I.cK hy hq];exact hx⟩,ag,λb hb=>(hf b hb).1⟩⟩
 done:=by
  intro X hP hw hK hc i pins s σ H E I hf st hg;subst hP hw hK;obtain⟨xs,hq,hx⟩:=hg;obtain⟨its,rv,p,hz⟩:=I.list hq;obtain⟨f0,f1,f2,f3,f4,f5⟩:=hf it (by simp);have hl:=rv.length;exact wpAny_pyNext_list_end (I.ok.hd hc) st p.isList (by simp;omega) λh' eb=>⟨rfl,I.turned (t':=s.toks) (λb o hb e=>eb b o hb e) f0 f1 f3 f4 f5⟩
 self:=λ_ _ _ _ _ st h=>wpAny_pyIter_listiter st h
theorem Vn{P:Program}{w:World}{K:PySem.W.Frag}{tg:Expr}(a it:Addr):Turn P w K tg (xG K a) [it] it (λi h=>h.IsTupleIter it a i) where
 mem:=by simp
 obj:=λi h st b hb=>by
  have e:b=it:=by simpa using hb
  subst e;obtain⟨o,e,c,d⟩:=st;exact⟨o,e,λv z=>by rw [d] at z;cases z⟩
 keep:=λi h h' st k=>st.at λo e=>k it (by simp) o e
 item:=by
  intro X hP hw hK hc i pins s σ H E I hf st hg;subst hP hw hK;obtain⟨xs,x,hq,hx⟩:=hg;obtain⟨its,rv,p,hz⟩:=I.tuple hq;obtain⟨u,hu,ru⟩:=rv.get hx;obtain⟨f0,f1,f2,f3,f4,f5⟩:=hf it (by simp);refine wpAny_pyNext_tuple_item st (show s.heap.IsTuple a its.toArray from p) (x:=u) (by simpa using hu) λh' ag sb=>?_;have I1:Inv X pins σ H {s with heap:=h'}:=I.turned (t':=s.toks) (λb o hb e=>(sb.2 b hb).trans e) f0 f1 f3 f4 f5;obtain⟨o,e,c,d⟩:=id ag;exact⟨u,rfl,xF (s:={s with heap:=h'}) e c d (by decide) ⟨x,H,I1,ru,⟨rfl,λys hy=>by rw [I.iO hy hq];exact hx⟩,ag,λb hb=>(hf b hb).1⟩⟩
 done:=by
  intro X hP hw hK hc i pins s σ H E I hf st hg;subst hP hw hK;obtain⟨xs,hq,hx⟩:=hg;obtain⟨its,rv,p,hz⟩:=I.tuple hq;obtain⟨f0,f1,f2,f3,f4,f5⟩:=hf it (by simp);have hl:=rv.length;exact wpAny_pyNext_tuple_end (I.ok.hd hc) st (show s.heap.IsTuple a its.toArray from p) (by simp;omega) λh' eb=>⟨rfl,I.turned (t':=s.toks) (λb o hb e=>eb b o hb e) f0 f1 f3 f4 f5⟩
 self:=λ_ _ _ _ _ st h=>wpAny_pyIter_tupleiter st h
theorem Vo{P:Program}{w:World}{K:PySem.W.Frag}{tg:Expr}(it:Addr)(lo:Int)(n:Nat):Turn P w K tg (qS lo n) [it] it (λi h=>IsRangeIter h it (lo+(i:Nat) * 1) ((n:Int) - (i:Nat)) 1) where
 mem:=by simp
 obj:=λi h st b hb=>by
  have e:b=it:=by simpa using hb
  subst e;exact⟨_,st,λv z=>by
   have z':Data.fields _=Data.cell v:=z;cases z'⟩
 keep:=λi h h' st k=>k it (by simp) _ st
 item:=by
  intro X hP hw hK hc i pins s σ H E I hf st hg;subst hP hw hK;obtain⟨f0,f1,f2,f3,f4,f5⟩:=hf it (by simp);have W:=Walks.range (prog:=X.prog) (w:=X.w) (I.ok.hd hc) it lo 1 n;refine W.item i s _ _ hg st λv h' tk hv ag kk=>?_;obtain⟨t,rfl⟩:=hv;have I1:Inv X pins σ H {s with heap:=h',toks:=tk}:=I.turned (λb o hb e=>kk b o (by simpa using hb) e) f0 f1 f3 f4 f5;refine⟨_,rfl,xF (s:={s with heap:=h',toks:=tk}) (n:= "range_iterator") ag rfl rfl (by decide) ⟨.int<|lo+i,H,I1,⟨t,?_⟩,⟨rfl,rfl⟩,ag,λb hb=>(hf b hb).1⟩⟩;rw [Int.mul_one]
 done:=by
  intro X hP hw hK hc i pins s σ H E I hf st hg;subst hP hw hK;obtain⟨f0,f1,f2,f3,f4,f5⟩:=hf it (by simp);exact wpAny_pyNext_range_end (I.ok.hd hc) st (by have:n<=i:=hg;omega) λh' eb=>⟨rfl,I.turned (t':=s.toks) (λb o hb e=>eb b o hb e) f0 f1 f3 f4 f5⟩
 self:=λ_ _ _ _ _ st h=>wpAny_pyIter_rangeiter st h
section
variable{X:Cx}{tg:Expr}
def Vp(K:PySem.W.Frag)(tl:TE):TI:=λσ H R=>tl σ H λx H1=>∃ a,x = .ref a/\(∃ xs,ai K H1 a xs)/\R (oF K a) H1
def BA(K:PySem.W.Frag)(tl:TE):TI:=λσ H R=>tl σ H λx H1=>∃ a,x = .ref a/\(∃ xs,bt K H1 a xs)/\R (xG K a) H1
theorem fM{l:Expr}{tl:TE}(hl:PE X l tl):PI X tg l (Vp X.K tl):=by
 intro pins s σ H R I h;refine aI (hl pins s σ H _ I h) λv s1 ⟨x,H1,I1,r1,q1⟩=>?_;obtain⟨a,e,⟨xs,hq⟩,q⟩:=q1;subst e;cases r1;obtain⟨its,rv,p,hz⟩:=I1.list hq;refine MF p.isList ?_;refine⟨s1.heap.objs.size,[s1.heap.objs.size],_,_,H1,rfl,I1.kept (t':=s1.toks) λb o e=>Af _ e,Vm a _,⟨_,At _ rfl,rfl,rfl⟩,λb hb=>?_,q⟩;have e:b=s1.heap.objs.size:=by simpa using hb
 subst e;exact I1.gL (Ai _)<|I1.aC.fresh<|Ai _
theorem Vq{l:Expr}{tl:TE}(hl:PE X l tl):PI X tg l (BA X.K tl):=by
 intro pins s σ H R I h;refine aI (hl pins s σ H _ I h) λv s1 ⟨x,H1,I1,r1,q1⟩=>?_;obtain⟨a,e,⟨xs,hq⟩,q⟩:=q1;subst e;cases r1;obtain⟨its,rv,p,hz⟩:=I1.tuple hq;refine wpAny_pyIter_tuple (show s1.heap.IsTuple a its.toArray from p) ?_;refine⟨s1.heap.objs.size,[s1.heap.objs.size],_,_,H1,rfl,I1.kept (t':=s1.toks) λb o e=>Af _ e,Vn a _,⟨_,At _ rfl,rfl,rfl⟩,λb hb=>?_,q⟩;have e:b=s1.heap.objs.size:=by simpa using hb
 subst e;exact I1.gL (Ai _)<|I1.aC.fresh<|Ai _
theorem Vr{pins:List (Addr×Obj)}{σ:St}{H:Hp}{s:Shared}{R:It->Hp->Prop}{E:Value->Shared->Prop}{lo hi:Int}{t u v:Tok}{tk:Nat}(I:Inv X pins σ H s)(h1:-(2 ^ 62)<=lo)(h2:lo < 2 ^ 62)(h3:-(2 ^ 62)<=hi)(h4:hi < 2 ^ 62)
  (q:R (qS lo (hi - lo).toNat) H):wpAny (model X.prog X.w) X.A (pyIter<|.ref s.heap.objs.size) (Ms X pins σ tg R) E {s with heap:=s.heap.push {cls:= .type "range",data:= .fields #[.int lo t,.int hi u,.int 1 v]},toks:=tk}:=by
 refine wpAny_pyIter_range (IsRange.new ..) (small_one h1 h2 h3 h4) ?_;have I1:Inv X pins σ H {s with heap:=s.heap.push {cls:= .type "range",data:= .fields #[.int lo t,.int hi u,.int 1 v]},toks:=tk}:=I.kept λb o e=>Af _ e;refine⟨(s.heap.push {cls:= .type "range",data:= .fields #[.int lo t,.int hi u,.int 1 v]}).objs.size,[(s.heap.push {cls:= .type "range",data:= .fields #[.int lo t,.int hi u,.int 1 v]}).objs.size],_,_,H,rfl,
  I1.kept (t':=tk) λb o e=>Af _ e,Vo _ lo (hi - lo).toNat,?_,λb hb=>?_,q⟩
 ·have e1:lo+((0:Nat):Int) * 1=lo:=by simp
  have e2:(((hi - lo).toNat:Nat):Int) - ((0:Nat):Int)=Builtin.Range.rangeSize lo hi 1:=by rw [rangeSize_one];split <;> omega
  show IsRangeIter _ _ (lo+((0:Nat):Int) * 1) ((((hi - lo).toNat:Nat):Int) - ((0:Nat):Int)) 1;rw [e1,e2];exact At _ rfl
 ·have e:b=(s.heap.push {cls:= .type "range",data:= .fields #[.int lo t,.int hi u,.int 1 v]}).objs.size:=by simpa using hb
  subst e;exact I1.gL (Ai _)<|I1.aC.fresh<|Ai _
def Mt(ta:TA):TI:=λσ H R=>ta σ H λvs H1=>∃ j:Int,vs=[.int j]/\-(2 ^ 62)<=j/\j < 2 ^ 62/\R (qS 0 j.toNat) H1
theorem Mu{a:Expr}{ta:TA}{p pos:Pos}(hg:Gl X "range")(hm:X.mg "range" = none)(ha:PA X [a] ta)(hs:starEach [a] X.env=[(false,eval a X.env)]:=by rfl):PI X tg (.Call (.Name "range" p) [a] [] pos) (Mt ta):=by
 intro pins s σ H R I h;refine Call_<|oB I hg hm boot_range<|HF (aI (ha pos pins s σ H _ I h) λus s1 ⟨vs,H1,I1,r1,q1⟩=>?_) hs rfl;obtain⟨j,e,q1,q2,q⟩:=q1;subst e;cases r1 with
 | cons r rr=>
  cases rr;obtain⟨t,rfl⟩:=r;exact call_range_1<|Vr I1 (by omega) (by omega) q1 q2<|by simpa using q
def BD(wi:TI)(g:TG)(tb:TS):TS:=λD σ H=>wi σ H λJ H1=>∃ W:Nat->Nat->St->Hp->Prop,(∃ m,W 0 m σ H1)/\∀ i m σ H,W i m σ H ->
 (J.stop i H/\D.nx σ H)\/(J.go i H/\∃ N:St->Hp->Prop,(∀ σ' H',N σ' H'->∃ m',m' < m/\W (i+1) m' σ' H')/\∀ x H',J.tq i H x H'->g x σ H' λσ2 H2=>tb {D with nx:=N,ct:=N,bk:=D.nx} σ2 H2)
def tD(fp:List Addr)(h:Heap):List (Addr×Obj):=fp.filterMap λb=>(h.get? b).map λo=>(b,o)
theorem xH{fp:List Addr}{h:Heap}{b:Addr}{o:Obj}(hb:b∈fp)(e:h.get? b=some o):(b,o)∈tD fp h:=Go.mpr ⟨b,hb,by rw [e];rfl⟩
theorem Vs{fp:List Addr}{h:Heap}{p:Addr×Obj}(hp:p∈tD fp h):p.1∈fp/\h.get? p.1=some p.2:=by
 obtain⟨b,hb,e⟩:=Go.mp hp;cases q:h.get? b with
 | none=>rw [q] at e;cases e
 | some o=>
  rw [q] at e;have e':(b,o)=p:=Option.some.inj e;subst e';exact⟨hb,q⟩
theorem Inv.pinned{pins:List (Addr×Obj)}{σ:St}{H:Hp}{s:Shared}{fp:List Addr}(I:Inv X pins σ H s)(hf:∀ b∈fp,b8 X pins H b)(ho:∀ b∈fp,∃ o,s.heap.get? b=some o/\∀ v,o.data ≠ .cell v):Inv X (pins++tD fp s.heap) σ H s:=
 I.ii λp hp=>(Ao.mp hp).elim (λz=>I.pin p<|Bb _ z) λz=>by
  obtain⟨hb,e⟩:=Vs z;obtain⟨f0,f1,f2,_⟩:=hf p.1 hb;obtain⟨o,e',d⟩:=ho p.1 hb;rw [e] at e';cases e';exact⟨e,f0,f1,f2,d⟩
theorem Inv.cL{pins pl:List (Addr×Obj)}{σ:St}{H:Hp}{s:Shared}(I:Inv X (pins++pl) σ H s):Inv X pins σ H s:=I.ii λp hp=>I.pin p<|Bb _<|Bi _ hp
theorem Vt{iter:Expr}{body:List Stmt}{wi:TI}{g:TG}{tb:TS}{pos:Pos}(hp:PassesOwn (model X.prog X.w) X.A X.env X.xe)(hc:X.calm=true)(hi:PI X tg iter wi)(hg:PG X tg g)(hb:iN X body tb)
  (hs:∀ x,foldedSetIterable iter X.env x=pure x:=by intro _;rfl):PS X (.For tg iter body [] pos) (BD wi g tb):=by
 intro pins s σ H D I h;refine wpAny_For (aI (hi pins s σ H _ I h) λv s1 h1=>aI h1 λm4 s2 h2=>?_) hs;obtain⟨it,fp,tn,J,H2,e,I2,T,bz,f2,W,⟨m0,w0⟩,turn⟩:=h2;subst e;have stat:∀{H':Hp},(∀ b∈fp,H' b=none)->∀ b∈fp,b8 X pins H' b:=λhn b hb=>⟨hn b hb,(f2 b hb).2⟩;refine codeAny_forLoop_any (λn s'=>∃ i σ' H',Inv X pins σ' H' s'/\tn i s'.heap/\(∀ b∈fp,H' b=none)/\W i n σ' H') ?_ m0 ⟨0,σ,H2,I2,bz,λb hb=>(f2 b hb).1,w0⟩;rintro n s3 ⟨i,σ3,H3,I3,bD,Mv,w3⟩
 rcases turn i n σ3 H3 w3 with ⟨stop,qn⟩ | ⟨go,N,hN,step⟩
 ·refine HN hp<|aI (T.done X rfl rfl rfl hc i pins s3 σ3 H3 X.xe I3 (stat Mv) bD stop) λr s4 ⟨hr,I4⟩=>?_;subst hr;exact RN ⟨σ3,H3,I4,qn⟩
 ·refine HN hp<|aI (T.item X rfl rfl rfl hc i pins s3 σ3 H3 X.xe I3 (stat Mv) bD go) λr s4 ⟨u,hr,h4⟩=>?_;subst hr;refine HN hp<|aI h4 λ_ s5 ⟨x,H5,I5,r5,y5,BE,Vu⟩=>?_;have Vv:=I5.pinned (stat Vu)<|T.obj _ _ BE;refine HN hp<|aI (hg _ s5 σ3 H5 x u _ Vv r5<|step x H5 y5) λ_ s6 ⟨σ6,H6,I6,q6⟩=>?_;refine HN hp<|aI (hb _ s6 σ6 H6 _ I6 q6) λf s7 q7=>?_;have again:∀{σ7:St} {H7:Hp},Inv X (pins++tD fp s5.heap) σ7 H7 s7->N σ7 H7->∃ m,m < n/\∃ i σ' H',Inv X pins σ' H' s7/\tn i s7.heap/\(∀ b∈fp,H' b=none)/\W i m σ' H':=λ{σ7 H7} I7 n7=>by
   obtain⟨m',hm,w7⟩:=hN σ7 H7 n7;refine⟨m',hm,i+1,σ7,H7,I7.cL,T.keep _ _ _ BE λb hb o e=>(I7.pin (b,o)<|Bb _<|Bb _<|xH hb e).1,λb hb=>?_,w7⟩;obtain⟨o,e,d⟩:=T.obj _ _ BE b hb;exact(I7.pin (b,o)<|Bb _<|Bb _<|xH hb e).2.1
  cases f with
  | next=>obtain⟨σ7,H7,I7,n7⟩:=q7;exact again I7 n7
  | cont=>obtain⟨σ7,H7,I7,n7⟩:=q7;exact again I7 n7
  | brk=>obtain⟨σ7,H7,I7,q7⟩:=q7;exact⟨σ7,H7,I7.cL,q7⟩
  | ret v=>obtain⟨x7,σ7,H7,I7,r7,q7⟩:=q7;exact⟨x7,σ7,H7,I7.cL,r7,q7⟩
end
abbrev R2:=V->V->Hp->VK->Prop
def cM(X:Cx)(f:Value->Value->Sem Value)(r:R2):Prop:=
 ∀(pins:List<|Addr×Obj) (s:Shared) (σ:St) (H:Hp) (x y:V) (v u:Value) (Q:VK),Inv X pins σ H s->RelV x v->RelV y u->r x y H Q ->
  wpAny (model X.prog X.w) X.A (f v u) (EP X pins σ Q) X.xe s
def xI(X:Cx)(f:Value->Sem Value)(r:V->Hp->VK->Prop):Prop:=
 ∀(pins:List<|Addr×Obj) (s:Shared) (σ:St) (H:Hp) (x:V) (v:Value) (Q:VK),Inv X pins σ H s->RelV x v->r x H Q ->
  wpAny (model X.prog X.w) X.A (f v) (EP X pins σ Q) X.xe s
def fN(X:Cx)(f:Value)(r:List V->Hp->VK->Prop):Prop:=
 ∀(pins:List<|Addr×Obj) (s:Shared) (σ:St) (H:Hp) (xs:List V) (us:List Value) (Q:VK),Inv X pins σ H s->aq xs us->r xs H Q ->
  wpAny (model X.prog X.w) X.A (call f us) (EP X pins σ Q) X.xe s
def BF(X:Cx)(r:V->Hp->(Bool->Hp->Prop)->Prop):Prop:=
 ∀(pins:List<|Addr×Obj) (s:Shared) (σ:St) (H:Hp) (x:V) (v:Value) (Q:Bool->Hp->Prop),Inv X pins σ H s->RelV x v->r x H Q ->
  wpAny (model X.prog X.w) X.A (truthy v) (TP X pins σ Q) X.xe s
def xJ(r:R2)(ta tb:TE):TE:=λσ H Q=>ta σ H λx H1=>tb σ H1 λy H2=>r x y H2 Q
def Vw(r:V->Hp->VK->Prop)(ta:TE):TE:=λσ H Q=>ta σ H λx H1=>r x H1 Q
def rI(C:Int->Int->Prop)(g:Int->Int->V):R2:=λx y H Q=>∃ i j,x = .int i/\y = .int j/\C i j/\Q (g i j) H
def oG(g:Int->Int->V):R2:=λx y H Q=>∃ i j,x = .int i/\y = .int j/\Q (g i j) H
def rU(g:Int->V):V->Hp->VK->Prop:=λx H Q=>∃ i,x = .int i/\Q (g i) H
section
variable{X:Cx}{a b c:Expr}{ta tb tc:TE}{pos:Pos}
theorem oH(ha:PE X a ta)(hb:PE X b tb){pins:List (Addr×Obj)}{s:Shared}{σ:St}{H:Hp}{R:V->V->Hp->Prop}(I:Inv X pins σ H s)
  (h:ta σ H λx H1=>tb σ H1 λy H2=>R x y H2) {Q:Value->Shared->Prop} {f:Value->Value->Sem Value}
  (hf:∀ v u s2 x y H2,Inv X pins σ H2 s2->RelV x v->RelV y u->R x y H2->wpAny (model X.prog X.w) X.A (f v u) Q X.xe s2) :
  wpAny (model X.prog X.w) X.A (eval a X.env) (λv s₁=>wpAny (model X.prog X.w) X.A (eval b X.env) (λu s₂=>wpAny (model X.prog X.w) X.A (f v u) Q X.xe s₂) X.xe s₁) X.xe s:=by
 refine aI (ha pins s σ H _ I h) λv s1 ⟨x,H1,I1,r1,q1⟩=>?_;refine aI (hb pins s1 σ H1 _ I1 q1) λu s2 ⟨y,H2,I2,r2,q2⟩=>?_;exact hf v u s2 x y H2 I2 r1 r2 q2
theorem Vx{op:Operator}{r:R2}(ho:cM X (binaryOp op) r)(ha:PE X a ta)(hb:PE X b tb):PE X (.BinOp a op b pos) (xJ r ta tb):=by
 intro pins s σ H Q I h;exact wpAny_BinOp<|oH ha hb I h λv u s2 x y H2 I2 rx ry q=>ho pins s2 σ H2 x y v u Q I2 rx ry q
theorem Vy{op:UnaryOp}{r:V->Hp->VK->Prop}(ho:xI X (unaryOp op) r)(ha:PE X a ta):PE X (.UnaryOp op a pos) (Vw r ta):=by
 intro pins s σ H Q I h;exact UnaryOp_<|aI (ha pins s σ H _ I h) λv s1 ⟨x,H1,I1,r1,q1⟩=>ho pins s1 σ H1 x v Q I1 r1 q1
theorem xK{f:Value->Value->Sem Value}{C:Int->Int->Prop}{g:Int->Int->Int}
  (rule:∀(i j:Int) (t u:Tok) (s:Shared) (Q:Value->Shared->Prop) (E:Value->Shared->Prop),C i j->Q (.int (g i j) s.toks) {s with toks:=s.toks+1}->wpAny (model X.prog X.w) X.A (f (.int i t)<|.int j u) Q E s) :
  cM X f (rI C λi j=> .int<|g i j):=by
 intro pins s σ H x y v u Q I rx ry h;obtain⟨i,j,rfl,rfl,hc,q⟩:=h;obtain⟨t,rfl⟩:=rx;obtain⟨t',rfl⟩:=ry;exact rule i j t t' s _ _ hc ⟨.int<|g i j,H,I.tok _,⟨_,rfl⟩,q⟩
theorem tE{f:Value->Value->Sem Value}{g:Int->Int->Int}
  (rule:∀(i j:Int) (t u:Tok) (s:Shared) (Q:Value->Shared->Prop) (E:Value->Shared->Prop),Q (.int (g i j) s.toks) {s with toks:=s.toks+1}->wpAny (model X.prog X.w) X.A (f (.int i t)<|.int j u) Q E s) :
  cM X f (oG λi j=> .int<|g i j):=by
 intro pins s σ H x y v u Q I rx ry h;obtain⟨i,j,rfl,rfl,q⟩:=h;obtain⟨t,rfl⟩:=rx;obtain⟨t',rfl⟩:=ry;exact rule i j t t' s _ _ ⟨.int<|g i j,H,I.tok _,⟨_,rfl⟩,q⟩
theorem oI{f:Value->Value->Sem Value}{g:Int->Int->Bool}
  (rule:∀(i j:Int) (t u:Tok) (s:Shared) (Q:Value->Shared->Prop) (E:Value->Shared->Prop),Q (.bool<|g i j) s->wpAny (model X.prog X.w) X.A (f (.int i t)<|.int j u) Q E s) :
  cM X f (oG λi j=> .bl<|g i j):=by
 intro pins s σ H x y v u Q I rx ry h;obtain⟨i,j,rfl,rfl,q⟩:=h;obtain⟨t,rfl⟩:=rx;obtain⟨t',rfl⟩:=ry;exact rule i j t t' s _ _ ⟨.bl<|g i j,H,I,rfl,q⟩
def BG(i j:Int):Prop:=0 < j/\j < 1073741824
def BH(i j:Int):Prop:=0<=j/\j<=1000000/\i.natAbs < 2 ^ 64
def oJ(i j:Int):Prop:=(-(2 ^ 64) < i/\i < 2 ^ 64)\/(-(2 ^ 64) < j/\j < 2 ^ 64)
theorem oJ.ok{i j:Int}(h:oJ i j):IntMulOk i j:=by
 rcases h with ⟨h1,h2⟩ | ⟨h1,h2⟩
 ·exact .of_left<|intBits_le_64 h1 h2
 ·exact .of_right<|intBits_le_64 h1 h2
theorem gF:cM X (binaryOp .Add) (oG λi j=> .int<|i+j):=tE λ_ _ _ _ _ _ _ q=>add_int q
theorem Vz:cM X (binaryOp .Sub) (oG λi j=> .int<|i - j):=tE λ_ _ _ _ _ _ _ q=>sub_int q
theorem oK:cM X (binaryOp .Mult) (rI oJ λi j=> .int<|i * j):=xK λ_ _ _ _ _ _ _ hc q=>mul_int q hc.ok
theorem kz:cM X (binaryOp .FloorDiv) (rI BG λi j=> .int<|i / j):=xK λi j _ _ _ _ _ hc q=>by
 have h1:(0:Int) < j:=hc.1;have h2:j < 1073741824:=hc.2;exact floordiv_int (by omega) (by rw [Int.fdiv_eq_ediv_of_nonneg i<|by omega];exact q)<|.inl<|PyProof.noPylong_small<|by omega
theorem eW:cM X (binaryOp .Mod) (rI (λ_ j=>0 < j) λi j=> .int<|i % j):=xK λi j _ _ _ _ _ hc q=>by
 have h1:(0:Int) < j:=hc;exact mod_int' (by omega)<|by rw [Int.fmod_eq_emod_of_nonneg i<|by omega];exact q
theorem Mw:cM X (binaryOp .Pow) (rI BH λi j=> .int<|i ^ j.toNat):=xK λ_ _ _ _ _ _ _ hc q=>pow_int_small hc.1 hc.2.1 hc.2.2 q
theorem VA{f:Value->Sem Value}{g:Int->Int}
  (rule:∀(i:Int) (t:Tok) (s:Shared) (Q:Value->Shared->Prop) (E:Value->Shared->Prop),Q (.int (g i) s.toks) {s with toks:=s.toks+1}->wpAny (model X.prog X.w) X.A (f<|.int i t) Q E s) :
  xI X f (rU λi=> .int<|g i):=by
 intro pins s σ H x v Q I rx h;obtain⟨i,rfl,q⟩:=h;obtain⟨t,rfl⟩:=rx;exact rule i t s _ _ ⟨.int<|g i,H,I.tok _,⟨_,rfl⟩,q⟩
theorem Mx:xI X (unaryOp .USub) (rU λi=> .int (-i)):=VA λ_ _ _ _ _ q=>neg_int q
def oM:V->V->Bool
 | .non,.non=>true | .non,.int _=>true | .int _,.non=>true | .non,.bl _=>true | .bl _,.non=>true | .non,.str _=>true | .str _,.non=>true
 | .int _,.int _=>true | .bl _,.bl _=>true | .str _,.str _=>true | .iM _,.iM _=>true
 | .int _,.str _=>true | .str _,.int _=>true | .bl _,.str _=>true | .str _,.bl _=>true
 | _,_=>false
def VB:R2:=λx y H Q=>oM x y=true/\Q (.bl<|decide (x=y)) H
def VC:R2:=λx y H Q=>oM x y=true/\Q (.bl (!decide (x=y))) H
theorem My{i j:Int}:decide (V.int i=V.int j)=(i == j):=by
 rw [Cg];simp
theorem xL{i j:Bool}:decide (V.bl i=V.bl j)=(i == j):=by
 rw [Cg];simp
theorem Mz{i j:Str}:decide (V.str i=V.str j)=(i == j):=by
 rw [Cg];simp
theorem MA{i j:Array UInt8}:decide (V.iM i=V.iM j)=(i.toList == j.toList):=by
 rw [Cg];cases i;cases j;simp
theorem cE{pins:List (Addr×Obj)}{σ:St}{H:Hp}{s:Shared}{Q:VK}{k k':Bool}(I:Inv X pins σ H s)(q:Q (.bl k) H)(e:k=k'):EP X pins σ Q (.bool k') s:=by
 subst e;exact⟨.bl k,H,I,rfl,q⟩
theorem lr:cM X (compareOp .Eq) VB:=by
 intro pins s σ H x y v u Q I rx ry h;obtain⟨hs,q⟩:=h;cases x with
 | non=>
  cases rx;cases y with
  | non=>cases ry;exact PySem.EqNone.eq_none_none<|cE I q<|by simp
  | bl j=>cases ry;exact PySem.EqNone.eq_none_bool<|cE I q<|by simp
  | int j=>obtain⟨t',rfl⟩:=ry;exact PySem.EqNone.eq_none_int<|cE I q<|by simp
  | str j=>obtain⟨t',rfl⟩:=ry;exact PySem.EqNone.eq_none_str<|cE I q<|by simp
  | _=>exact absurd (show false=true from hs) Ba
 | bl i=>
  cases rx;cases y with
  | non=>cases ry;exact PySem.EqNone.eq_bool_none<|cE I q<|by simp
  | bl j=>cases ry;exact eq_bool<|cE I q xL
  | str j=>obtain⟨t',rfl⟩:=ry;exact PySem.EqMixed.eq_bool_str<|cE I q<|by simp
  | _=>exact absurd (show false=true from hs) Ba
 | int i=>
  obtain⟨t,rfl⟩:=rx;cases y with
  | non=>cases ry;exact PySem.EqNone.eq_int_none<|cE I q<|by simp
  | int j=>obtain⟨t',rfl⟩:=ry;exact eq_int<|cE I q My
  | str j=>obtain⟨t',rfl⟩:=ry;exact PySem.EqMixed.eq_int_str<|cE I q<|by simp
  | _=>exact absurd (show false=true from hs) Ba
 | str i=>
  obtain⟨t,rfl⟩:=rx;cases y with
  | non=>cases ry;exact PySem.EqNone.eq_str_none<|cE I q<|by simp
  | bl j=>cases ry;exact PySem.EqMixed.eq_str_bool<|cE I q<|by simp
  | int j=>obtain⟨t',rfl⟩:=ry;exact PySem.EqMixed.eq_str_int<|cE I q<|by simp
  | str j=>obtain⟨t',rfl⟩:=ry;exact eq_str<|cE I q Mz
  | _=>exact absurd (show false=true from hs) Ba
 | iM i=>
  obtain⟨t,rfl⟩:=rx;cases y with
  | iM j=>obtain⟨t',rfl⟩:=ry;exact PySem.W.eq_bytes<|cE I q MA
  | _=>exact absurd (show false=true from hs) Ba
 | _=>cases y <;> exact absurd (show false=true from hs) Ba
theorem xM:cM X (compareOp .NotEq) VC:=by
 intro pins s σ H x y v u Q I rx ry h;obtain⟨hs,q⟩:=h;cases x with
 | non=>
  cases rx;cases y with
  | non=>cases ry;exact PySem.EqNone.ne_none_none<|cE I q<|by simp
  | bl j=>cases ry;exact PySem.EqNone.ne_none_bool<|cE I q<|by simp
  | int j=>obtain⟨t',rfl⟩:=ry;exact PySem.EqNone.ne_none_int<|cE I q<|by simp
  | str j=>obtain⟨t',rfl⟩:=ry;exact PySem.EqNone.ne_none_str<|cE I q<|by simp
  | _=>exact absurd (show false=true from hs) Ba
 | bl i=>
  cases rx;cases y with
  | non=>cases ry;exact PySem.EqNone.ne_bool_none<|cE I q<|by simp
  | bl j=>cases ry;exact ne_bool<|cE I q<|CW not xL
  | str j=>obtain⟨t',rfl⟩:=ry;exact PySem.EqMixed.ne_bool_str<|cE I q<|by simp
  | _=>exact absurd (show false=true from hs) Ba
 | int i=>
  obtain⟨t,rfl⟩:=rx;cases y with
  | non=>cases ry;exact PySem.EqNone.ne_int_none<|cE I q<|by simp
  | int j=>obtain⟨t',rfl⟩:=ry;exact ne_int<|cE I q<|CW not My
  | str j=>obtain⟨t',rfl⟩:=ry;exact PySem.EqMixed.ne_int_str<|cE I q<|by simp
  | _=>exact absurd (show false=true from hs) Ba
 | str i=>
  obtain⟨t,rfl⟩:=rx;cases y with
  | non=>cases ry;exact PySem.EqNone.ne_str_none<|cE I q<|by simp
  | bl j=>cases ry;exact PySem.EqMixed.ne_str_bool<|cE I q<|by simp
  | int j=>obtain⟨t',rfl⟩:=ry;exact PySem.EqMixed.ne_str_int<|cE I q<|by simp
  | str j=>obtain⟨t',rfl⟩:=ry;exact ne_str<|cE I q<|CW not Mz
  | _=>exact absurd (show false=true from hs) Ba
 | iM i=>
  obtain⟨t,rfl⟩:=rx;cases y with
  | iM j=>obtain⟨t',rfl⟩:=ry;exact PySem.W.ne_bytes<|cE I q<|CW not MA
  | _=>exact absurd (show false=true from hs) Ba
 | _=>cases y <;> exact absurd (show false=true from hs) Ba
theorem MB:cM X (compareOp .Lt) (oG λi j=> .bl<|decide (i < j)):=oI λ_ _ _ _ _ _ _ q=>lt_int q
theorem BI:cM X (compareOp .Gt) (oG λi j=> .bl<|decide (j < i)):=oI λ_ _ _ _ _ _ _ q=>gt_int q
theorem VD:cM X (compareOp .GtE) (oG λi j=> .bl<|decide (j<=i)):=oI λ_ _ _ _ _ _ _ q=>ge_int q
theorem VE:cM X (compareOp .IsNot) (λx y H Q=>y = .non/\Q (.bl (!decide (x = .non))) H):=by
 intro pins s σ H x y v u Q I rx ry h;obtain⟨rfl,q⟩:=h;cases ry;refine isnot_none_gen<|cE I q ?_;cases x <;> first
  | (cases rx;rfl)
  | (obtain⟨t,rfl⟩:=rx;rfl)
theorem VF{op:CmpOp}{r:R2}(ho:cM X (compareOp op) r)(ha:PE X a ta)(hb:PE X b tb)(hm:behindInMarks op b=false):PE X (.Compare a [op] [b] pos) (xJ r ta tb):=by
 intro pins s σ H Q I h;exact wpAny_Compare1 (oH ha hb I h λv u s2 x y H2 I2 rx ry q=>ho pins s2 σ H2 x y v u Q I2 rx ry q) hm
def VG(t:TE):TT:=λσ H Q=>t σ H λx H'=>∃ k,x = .bl k/\Q k H'
theorem VH{op:CmpOp}{r:R2}(ho:cM X (compareOp op) r)(ha:PE X a ta)(hb:PE X b tb)(hm:behindInMarks op b=false):PT X (.Compare a [op] [b] pos) (VG<|xJ r ta tb):=by
 intro pins s σ H Q I h;refine wpAny_isTrue_Compare1 (aI (ha pins s σ H _ I h) λv s1 ⟨x,H1,I1,r1,q1⟩=>aI (hb pins s1 σ H1 _ I1 q1) λu s2 ⟨y,H2,I2,r2,q2⟩=>
  aI (ho pins s2 σ H2 x y v u _ I2 r1 r2 q2) λc s3 ⟨z,H3,I3,r3,k,e,q3⟩=>?_) hm
 subst e;cases r3;exact DY ⟨H3,I3,q3⟩
def lz(K:PySem.W.Frag)(x:V)(H:Hp)(k:Bool):Prop:=
 match x with
 | .non=>k=false
 | .bl b=>k=b
 | .int i=>k=(i != 0)
 | .str y=>y.length<=sizeLine/\k=((y.length:Int) != 0)
 | .iM y=>y.size<=sizeLine/\k=((y.size:Int) != 0)
 | .ref p=>(∃ xs,ai K H p xs/\k = !xs.isEmpty)\/(∃ xs,bt K H p xs/\k = !xs.isEmpty)\/∃ kvs,H p=some (.dK kvs)/\k = !kvs.isEmpty
 | _=>False
theorem VI{κ:Type}{kvs:List (κ×V)}{vs:List (κ×Value)}(r:KV kvs vs):(!vs.isEmpty) = !kvs.isEmpty:=by
 cases r <;> rfl
theorem MC{xs:List V}{its:List Value}(r:aq xs its):(!its.toArray.isEmpty) = !xs.isEmpty:=by
 cases r <;> simp
theorem tF:(sizeLine:Nat) < 2 ^ 63:=by rw [FZ];decide
theorem MD:BF X (λx H Q=>∃ k,lz X.K x H k/\Q k H):=by
 intro pins s σ H x v Q I rx h;obtain⟨k,e,q⟩:=h;have hl:=tF;have hs:sizeLine=16777216:=FZ;cases x with
 | non=>
  cases rx;have e':k=false:=e;subst e';exact truthy_none ⟨H,I,q⟩
 | bl b=>
  cases rx;have e':k=b:=e;subst e';exact DY ⟨H,I,q⟩
 | int i=>
  obtain⟨t,rfl⟩:=rx;have e':k=(i != 0):=e;subst e';exact PySem.P.truthy_int ⟨H,I,q⟩
 | str y=>
  obtain⟨t,rfl⟩:=rx;obtain⟨hy,e'⟩:y.length<=sizeLine/\k=((y.length:Int) != 0):=e;subst e';exact PySem.P.truthy_str (by omega) ⟨H,I.tok _,q⟩
 | iM y=>
  obtain⟨t,rfl⟩:=rx;obtain⟨hy,e'⟩:y.size<=sizeLine/\k=((y.size:Int) != 0):=e;subst e';exact PySem.W.truthy_bytes (by omega) ⟨H,I.tok _,q⟩
 | ref p=>
  cases rx;have e':(∃ xs,ai X.K H p xs/\k = !xs.isEmpty)\/(∃ xs,bt X.K H p xs/\k = !xs.isEmpty)\/∃ kvs,H p=some (.dK kvs)/\k = !kvs.isEmpty:=e
  rcases e' with ⟨xs,hx,e'⟩ | ⟨xs,hx,e'⟩ | ⟨kvs,hx,e'⟩
  ·subst e';obtain⟨its,r,pl,hz⟩:=I.list hx;have hlen:=r.length;exact wpAny_truthy_list pl.isList (by simp only [Bd];omega) ⟨H,I.tok _,by rw [MC r];exact q⟩
  ·subst e';obtain⟨its,r,pl,hz⟩:=I.tuple hx;have hlen:=r.length;exact truthy_tuple pl (by simp only [Bd];omega) ⟨H,I.tok _,by rw [MC r];exact q⟩
  ·subst e';obtain⟨hz,hS,vs,r,m⟩:kvs.length<=sizeLine/\(p == sysModules)=false/\∃ vs,KV kvs vs/\s.heap.DictOf (dz X.prog X.w) p vs:=I.aC p _ hx;have hlen:kvs.length=vs.length:=Paired.length r;exact wpAny_truthy_dict hS m (by omega) ⟨H,I.tok _,by rw [VI r];exact q⟩
 | _=>exact(show False from e).elim
theorem VJ(ha:PE X a ta)(he:∀ whole,isTrue a X.env whole=(do let v <- whole;standAt a.pos;holding [v] (truthy v))) :
  PT X a (λσ H Q=>ta σ H λx H'=>∃ k,lz X.K x H' k/\Q k H'):=by
 intro pins s σ H Q I h;exact isTrue_plain (aI (ha pins s σ H _ I h) λv s1 ⟨x,H1,I1,r1,q1⟩=>MD pins s1 σ H1 x v Q I1 r1 q1)<|he _
theorem VL:cM X (binaryOp .Add) (λx y H Q=>∃ i j,x = .str i/\y = .str j/\i.length+j.length<=sizeLine/\Q (.str<|i++j) H):=by
 intro pins s σ H x y v u Q I rx ry h;obtain⟨i,j,rfl,rfl,hz,q⟩:=h;obtain⟨t,rfl⟩:=rx;obtain⟨t',rfl⟩:=ry;exact add_str (λt' tk=>⟨.str<|i++j,H,I.tok _,⟨_,rfl⟩,q⟩) hz
theorem vals1{x:V}{us:List Value}(r:aq [x] us):∃ u,us=[u]/\RelV x u:=by
 cases r with
 | cons r1 r2=>cases r2;exact⟨_,rfl,r1⟩
theorem vals2{x y:V}{us:List Value}(r:aq [x,y] us):∃ u w',us=[u,w']/\RelV x u/\RelV y w':=by
 cases r with
 | cons r1 r2=>
  cases r2 with
  | cons r3 r4=>cases r4;exact⟨_,_,rfl,r1,r3⟩
end
section
variable{prog:Program}{w:World}{A:Around}{E:Value->Shared->Prop}{s:Shared}{K:PySem.W.Frag}{x dx C f:Addr}{mA:Str->Option Value}{name:Str}{v:Value}
end
theorem dY.some_of{v:V}{o:Option Value}(r:dY (some v) o):∃ u,o=some u/\RelV v u:=by
 cases o with
 | none=>exact(show False from r).elim
 | some u=>exact⟨u,rfl,r⟩
section
variable{P:Program}{w:World}{H H':Hp}{h h':Heap}{a C dx:Addr}{fs UN:List (Str×V)}
end
section
variable{X:Cx}{pins:List (Addr×Obj)}{σ:St}{H:Hp}{s:Shared}{a C dx:Addr}{fs:List (Str×V)}{f:Str}{v:V}{A:Around}{E:Value->Shared->Prop}
end
section
variable{X:Cx}{o e value:Expr}{f:Str}{pos pos' BM:Pos}{ta tv:TE}
end
section
variable{X:Cx}{pins:List (Addr×Obj)}{σ:St}{H:Hp}{s:Shared}{A:Around}{E:Value->Shared->Prop}{Q:Value->Shared->Prop}{c:Value}{b:Bool}
end
structure bb(k:Nat)(A:Around):Prop where
 hd:A.handled=none
 dp:A.depth+3 * k+5 < recursionLimit
 un:A.units+16 * k+200 < cLine
theorem bb.mono{j k:Nat}{A:Around}(r:bb k A)(h:j<=k):bb j A:=⟨r.hd,by have:=r.dp;omega,by have:=r.un;omega⟩
theorem bb.deeper{k:Nat}{A:Around}(r:bb (k+1) A)(env:Env):bb k (A.deeper env):=
 ⟨r.hd,by have:=r.dp;show A.depth+1+3 * k+5 < _;omega,by have:=r.un;show A.units+3+16 * k+200 < _;omega⟩
theorem bb.depth{k:Nat}{A:Around}(r:bb k A):A.depth < recursionLimit:=by have:=r.dp;omega
def BO:TA:=λ_ H Q=>Q [] H
def ME(ta:TE)(tr:TA):TA:=λσ H Q=>ta σ H λx H1=>tr σ H1 λxs H2=>Q (x :: xs) H2
section
variable{X:Cx}{e:Expr}{es:List Expr}{te:TE}{t:TA}{pos:Pos}
theorem VM:PA X [] BO:=λ_ _ _ _ H Q I h=>Calls.spliced_nil ⟨[],H,I,.nil,h⟩
theorem VN(ha:PE X e te)(hr:PA X es t)(hs:starEach (e :: es) X.env=(false,eval e X.env) :: starEach es X.env:=by rfl):PA X (e :: es) (ME te t):=by
 intro pos pins s σ H Q I h;rw [hs];show wpAny _ _ (spliced<|(false,eval e X.env) :: backTo pos (starEach es X.env)) _ _ s;refine Calls.spliced_cons<|aI (ha pins s σ H _ I h) λu s1 ⟨x,H1,I1,r1,q1⟩=>?_;exact aI (hr pos pins s1 σ H1 _ I1 q1) λus s2 ⟨xs,H2,I2,r2,q2⟩=>⟨x :: xs,H2,I2,.cons r1 r2,q2⟩
def BQ(t:TA):TE:=λσ H Q=>t σ H λxs H1=>xs.length<=sizeLine/\∀ p,H1 p=none->Q (.ref p) (upd H1 p<|.tup xs)
def BU(t:TA):TE:=λσ H Q=>t σ H λxs H1=>xs.length<=sizeLine/\∀ p,H1 p=none->Q (.ref p) (upd H1 p<|.lst xs)
theorem VO{x1}(h:PA X es t):PE X (.Tuple es x1 pos) (BQ t):=by
 intro pins s σ H Q I hq;refine wpAny_Tuple_spliced (aI (h pos pins s σ H _ I hq) λus s1 ⟨xs,H1,I1,r,z,q⟩=>⟨by rw [<- r.length];exact z,?_⟩);have hf:H1 s1.heap.objs.size=none:=I1.aC.fresh<|Ai _;refine⟨.ref s1.heap.objs.size,upd H1 s1.heap.objs.size<|.tup xs,I1.laid (t':=s1.toks) (λb u e=>Af _ e) (Ai _) ?_,rfl,q _ hf⟩;exact⟨z,us,r,⟨_,At _ rfl,rfl,_,rfl⟩⟩
theorem VP(h:PA X es t):PE X (.List es pos) (BU t):=by
 intro pins s σ H Q I hq;refine wpAny_List_spliced (aI (h pos pins s σ H _ I hq) λus s1 ⟨xs,H1,I1,r,z,q⟩=>⟨by rw [<- r.length];exact z,?_⟩);have hf:H1 s1.heap.objs.size=none:=I1.aC.fresh<|Ai _;refine⟨.ref s1.heap.objs.size,upd H1 s1.heap.objs.size<|.lst xs,I1.laid (t':=s1.toks) (λb u e=>Af _ e) (Ai _) ?_,rfl,q _ hf⟩;exact⟨z,us,0,r,At _ rfl⟩
end
abbrev Sp:=List V->Hp->VK->XK->Prop
abbrev fO:=List Env->Hp->Shared->XK->Value->Shared->Prop
structure lB(P:Program)(w:World)(K:PySem.W.Frag)(mg:Str->Option Value)(base:Heap)(A:Around)(outer:List Env)(s:Shared)(H:Hp):Prop where
 frames:A.frames=some outer
 mod:Mod K mg base
 bs:∀ b o,base.get? b=some o->s.heap.get? b=some o/\H b=none
 jb:base.objs.size<=s.heap.objs.size
 cw:s.heap.FunFrames base outer
 ky:∀ b∈df outer,H b=none
 aC:b7 P w H s.heap
 bare:AllBare s.gens
def CE(outer:List Env)(P:Program)(w:World)(H:Hp)(s:Shared)(Q:VK)(u:Value)(s':Shared):Prop:=
 ∃ v H',s'.os=s.os/\AllBare s'.gens/\Un (df outer) [] H H' s.heap s'.heap/\b7 P w H' s'.heap/\RelV v u/\Q v H'
def CR(CX:fO)(outer:List Env)(P:Program)(w:World)(H:Hp)(s:Shared)(Q:VK)(E:XK)(r:Result)(s':Shared):Prop:=
 match r with
 | .ok (.ret u)=>CE outer P w H s Q u s'
 | .ok _=>False
 | .error e=>CX outer H s E e s'
structure aB(P:Program)(w:World)(K:PySem.W.Frag)(mg:Str->Option Value)(base:Heap)(CX:fO)(k:Nat)(f:Addr)(fd:FuncData)(ps:List Str)(sp:Sp):Prop where
 len:∀ vs H Q E,sp vs H Q E->vs.length=ps.length
 run:∀(A:Around) (outer:List Env) (s:Shared) (H:Hp) (args:Args) (us:List Value) (vs:List V) (Q:VK) (E:XK),bb k A->lB P w K mg base A outer s H->BindsTo s fd args (ps.zip us)->aq vs us->sp vs H Q E ->
  codeAny (model P w) A (.call (.ref f) args) (CR CX outer P w H s Q E) s
theorem aB.mono{P:Program}{w:World}{K:PySem.W.Frag}{mg:Str->Option Value}{base:Heap}{CX:fO}{j k:Nat}{f:Addr}{fd:FuncData}{ps:List Str}{sp:Sp}(F:aB P w K mg base CX j f fd ps sp)(h:j<=k) :
  aB P w K mg base CX k f fd ps sp:=⟨F.len,λA outer s H args us vs Q E hr=>F.run A outer s H args us vs Q E<|hr.mono h⟩
theorem aB.imp{P:Program}{w:World}{K:PySem.W.Frag}{mg:Str->Option Value}{base:Heap}{CX:fO}{k:Nat}{f:Addr}{fd:FuncData}{ps:List Str}{sp MG:Sp}(F:aB P w K mg base CX k f fd ps sp)
  (h:∀ vs H Q E,MG vs H Q E->sp vs H Q E):aB P w K mg base CX k f fd ps MG:=
 ⟨λvs H Q E q=>F.len vs H Q E<|h _ _ _ _ q,λA outer s H args us vs Q E hr he hb hv hs=>F.run A outer s H args us vs Q E hr he hb hv<|h _ _ _ _ hs⟩
section
variable{X:Cx}{pins:List (Addr×Obj)}{σ:St}{H:Hp}{s s':Shared}
theorem Inv.tG(I:Inv X pins σ H s):lB X.prog X.w X.K X.mg X.base X.A X.stack s H:=
 ⟨I.ok.frames,I.ok.mod,I.bs,Ck I.ok.jb I.sz,I.stack,I.dA,I.aC,I.bare⟩
theorem Inv.after{Q:VK}{u:Value}(I:Inv X pins σ H s)(h:CE X.stack X.prog X.w H s Q u s'):EP X pins σ Q u s':=by
 obtain⟨v,H',os,bare,un,aC,r,q⟩:=h;obtain⟨hh,g,d,t,BV⟩:=s';obtain rfl:BV=s.os:=os;exact⟨v,H',I.call (h':=hh) (g':=g) (d':=d) (t':=t) (ch:=[]) un aC bare (λb z=>absurd z<|by simp),r,q⟩
end
def ML(sp:Sp)(lE:List V)(E:XK)(t:TA):TE:=λσ H Q=>t σ H λvs H1=>sp (vs++lE) H1 Q E
def Binds(K:PySem.W.Frag)(fd:FuncData)(ps:List Str)(ds:List Value):Prop:=
 ∀(s:Shared) (us:List Value),K.In s.heap->(us++ds).length=ps.length->BindsTo s fd ⟨us,[]⟩ (ps.zip<|us++ds)
theorem Binds.all{K:PySem.W.Frag}{fd:FuncData}{ps:List Str}(h:∀ us:List Value,us.length=ps.length->bindArgs fd ⟨us,[]⟩=pure (ps.zip us)):Binds K fd ps []:=λs us _ hl=>by
 rw [Be] at hl ⊢;exact .of_eq<|h us hl
def oO(CX:fO)(X:Cx)(E:XK):Prop:=∀(pins:List<|Addr×Obj) (σ:St) (H:Hp) (s:Shared) (e:Value) (s':Shared),Inv X pins σ H s->CX X.stack H s E e s'->X.xe e s'
section
variable{X:Cx}{CX:fO}{k:Nat}{f C:Addr}{fd:FuncData}{ps:List Str}{sp:Sp}{lE:List V}{ds:List Value}{E:XK}{x m:Str}{p pos apos:Pos}{e o:Expr}{es:List Expr}{ta:TE}{t:TA}
theorem VQ{pins:List (Addr×Obj)}{σ:St}{H:Hp}{s:Shared}{Q:VK}{us:List Value}{vs:List V}(F:aB X.prog X.w X.K X.mg X.base CX k f fd ps sp)(hr:bb k X.A)(hb:Binds X.K fd ps ds)(hd:aq lE ds)(hx:oO CX X E)
  (I:Inv X pins σ H s) (r:aq vs us) (h:sp (vs++lE) H Q E):wpAny (model X.prog X.w) X.A (call (.ref f) us) (EP X pins σ Q) X.xe s:=by
 have r2:aq (vs++lE) (us++ds):=r.append hd;have hl:(us++ds).length=ps.length:=by rw [<- r2.length];exact F.len _ _ _ _ h
 refine QW<|IK (F.run X.A X.stack s H ⟨us,[]⟩ (us++ds) (vs++lE) Q E hr I.tG (hb s us I.jw hl) r2 h) λr s' hq=>?_;cases r with
 | error e=>exact hx pins σ H s e s' I hq
 | ok fl=>
  cases fl with
  | ret u=>exact I.after hq
  | next=>exact False.elim hq
  | brk=>exact False.elim hq
  | cont=>exact False.elim hq
theorem VR(F:aB X.prog X.w X.K X.mg X.base CX k f fd ps sp)(hr:bb k X.A)(hg:Gl X x)(hm:X.mg x=some (.ref f))(hk:PySem.W.keepIn X.K (.ref f)=true)(hb:Binds X.K fd ps ds)(hd:aq lE ds)(hx:oO CX X E)
  (ha:PA X (e :: es) t) (cx:(x == ("__debug__" : Str))=false:=by decide) (he:starEach (e :: es) X.env=(false,eval e X.env) :: starEach es X.env:=by rfl) (jd:(backTo pos<|starEach es X.env).any (·.1)=false:=by rfl) :
  PE X (.Call (.Name x p) (e :: es) [] pos) (ML sp lE E t):=by
 intro pins s σ H Q I h;refine KJ<|sX I hg hm ?_ cx;refine PySem.W.callWith_K (h₀:=X.base) I.ok.mod.sS hk (aI (ha pos pins s σ H _ I h) λus s1 ⟨vs,H1,I1,r,q⟩=>⟨I1.jw,?_⟩) he jd;exact VQ F hr hb hd hx I1 r q
end
section
variable{X:Cx}{CX:fO}{k:Nat}{f C:Addr}{fd:FuncData}{ps ks:List Str}{sp:Sp}{E:XK}{x m:Str}{p pos apos VS:Pos}{e o:Expr}{es:List Expr}{kws:List Keyword}{te ta:TE}{t tk:TA}{nm:Option Str}
variable{g:List Value->List Value->List Value}{gV:List V->List V->List V}
end
structure aj(N P:List Str)(sc:Scope):Prop where
 kind:sc.kind = .function
 co:sc.isCoroutine=false
 gen:sc.isGenerator=false
 nd:N.Nodup
 pre:N.take P.length=P
 par:∀ x∈P,sc.names.lookup x=some .local\/sc.names.lookup x=some .cell
 gM:∀ y∈sc.names,y.2 ≠ .free
theorem MM{kindOf:Str->Option NameKind}{x:Str}:∀{binds:List (Str×Value)} {m:Str->Option Value},(∀ v,(x,v)∉binds)->bindL kindOf binds m x=m x
 | [],_,_=>rfl
 | (n,v) :: r,m,h=>by
  unfold bindL;rw [MM λw hw=>h w<|Ax _ hw]
  split
  ·have:x≠n:=by rintro rfl;exact h v Aw
   simp [this]
  ·rfl
theorem MO{kindOf:Str->Option NameKind}{x:Str}:∀{binds:List (Str×Value)} {m:Str->Option Value},(∀ v,(x,v)∉binds)->bindC kindOf binds m x=m x
 | [],_,_=>rfl
 | (n,v) :: r,m,h=>by
  unfold bindC;rw [MO λw hw=>h w<|Ax _ hw]
  split
  ·rfl
  ·have:x≠n:=by rintro rfl;exact h v Aw
   simp [this]
theorem MQ{kindOf:Str->Option NameKind}{x:Str}{v:Value}:∀{P:List Str} {vs:List Value} {i:Nat} {m:Str->Option Value},P.Nodup->P[i]?=some x->vs[i]?=some v->kindOf x=some .local ->
  bindL kindOf (P.zip vs) m x=some v
 | [],_,_,_,_,h,_,_=>by simp at h
 | _ :: _,[],_,_,_,_,h,_=>by simp at h
 | p :: P,w :: vs,0,m,nd,h1,h2,hk=>by
  simp at h1 h2;subst h1;subst h2;show bindL kindOf ((p,w) :: P.zip vs) m p=_;unfold bindL;rw [MM λv hv=>(Cr.mp nd).1 (RP hv).1,BL hk];simp
 | p :: P,w :: vs,i+1,m,nd,h1,h2,hk=>by
  show bindL kindOf ((p,w) :: P.zip vs) m x=_;unfold bindL;exact MQ (i:=i) (Cr.mp nd).2 (by simpa using h1) (by simpa using h2) hk
theorem MR{kindOf:Str->Option NameKind}{x:Str}{v:Value}:∀{P:List Str} {vs:List Value} {i:Nat} {m:Str->Option Value},P.Nodup->P[i]?=some x->vs[i]?=some v->kindOf x≠some .local ->
  bindC kindOf (P.zip vs) m x=some v
 | [],_,_,_,_,h,_,_=>by simp at h
 | _ :: _,[],_,_,_,_,h,_=>by simp at h
 | p :: P,w :: vs,0,m,nd,h1,h2,hk=>by
  simp at h1 h2;subst h1;subst h2;show bindC kindOf ((p,w) :: P.zip vs) m p=_;unfold bindC;rw [MO λv hv=>(Cr.mp nd).1 (RP hv).1,BK hk];simp
 | p :: P,w :: vs,i+1,m,nd,h1,h2,hk=>by
  show bindC kindOf ((p,w) :: P.zip vs) m x=_;unfold bindC;exact MR (i:=i) (Cr.mp nd).2 (by simpa using h1) (by simpa using h2) hk
def start(N:List Str)(vs:List V):St:=vs.map some++List.replicate (N.length - vs.length) none
def dZ(CX:fO)(P:Program)(w:World)(K:PySem.W.Frag)(mg:Str->Option Value)(base:Heap)(N:List Str)(qual:Str)(scope:Scope)(f:Addr)(cd:Value)(A:Around)(outer:List Env)(s:Shared)(H:Hp)(E:XK):Cx where
 prog:=P
 w:=w
 K:=K
 mg:=mg
 base:=base
 A:=A.deeper<|envOfC qual scope s.heap.objs.size f cd
 N:=N
 s₀:=s
 H₀:=H
 env:=envOfC qual scope s.heap.objs.size f cd
 outer:=outer
 stack:=envOfC qual scope s.heap.objs.size f cd :: outer
 ex:=[]
 calm:=true
 fn:=λ_=>true
 pn:=[]
 xe:=λe s'=>wpAny (model P w) (A.deeper<|envOfC qual scope s.heap.objs.size f cd) (leaving (envOfC qual scope s.heap.objs.size f cd) e) (λ_ oP=>CX outer H s E e oP) (λe' oP=>CX outer H s E e' oP) s'
theorem MS{sc:Scope}{n:Nat}{x:Str}(h:sc.names.lookup x=some .cell):∃ c,(cellsFrom n sc.names []).lookup x=some c:=by
 have q:=JD sc.names n []<|.inl h;exact Fm.mp q
theorem VU{CX:fO}{P:Program}{w:World}{K:PySem.W.Frag}{mg:Str->Option Value}{base:Heap}{N ps:List Str}{qual:Str}{scope:Scope}{f:Addr}{cd:Value}{A:Around}{outer:List Env}{s s1:Shared}{H:Hp}{E:XK}{us:List Value}{vs:List V}
  (S:aj N ps scope) (hd:A.handled=none) (e0:lB P w K mg base A outer s H) (hl:vs.length=ps.length) (r:aq vs us)
  (x:InCallC s s.heap.objs.size (bindL (envOfC qual scope s.heap.objs.size f cd).kindOf (ps.zip us) λ_=>none) (cellsFrom (s.heap.objs.size+1) scope.names []) (bindC (envOfC qual scope s.heap.objs.size f cd).kindOf (ps.zip us) λ_=>none) s1) :
  Inv (dZ CX P w K mg base N qual scope f cd A outer s H E) [] (start N vs) H s1:=by
 have jd:ps.length<=N.length:=by have:=CW List.length S.pre;rw [Bm] at this;omega
 obtain⟨h1,tk,rfl,hk⟩:=x.done;have tH:∀ b:Addr,b∉(dZ CX P w K mg base N qual scope f cd A outer s H E).ex:=λb z=>absurd (show b∈([]:List Addr) from z) (by simp);refine⟨⟨e0.mod,S.kind,rfl,rfl,Ai _,λy z c h1 h2=>?_,λy hy=>?_,λy c _ h=>?_,λ_=>hd,Around.frames_deeper e0.frames,.inr ⟨rfl,rfl⟩,λb z=>absurd z<|tH b,e0.bs,e0.jb,λb _ _=>tH b,λb z=>absurd z<|tH b,e0.cw,e0.ky⟩,
  rfl,e0.bare,Un.kept hk,⟨_,x.toInCall.ns,λi y v h1 h2 h3=>?_⟩,λy c h=>⟨_,x.cell y c h⟩,e0.aC.fresh<|Ai _,λy c h=>?_,λp hp=>absurd (show p∈([]:List<|Addr×Obj) from hp) (by simp),e0.aC.kept hk,?_⟩
 ·exact name_of_addr x.apart (DK h1)<|DK h2
 ·have hy:scope.names.lookup y=some .cell\/scope.names.lookup y=some .free:=hy
  rcases hy with hy | hy
  ·exact MS hy
  ·exact absurd rfl (S.gM _<|DK hy)
 ·exact Fr<|x.above y c<|DK h
 ·have hi:i < vs.length:=by
   unfold start at h2
   by_cases hi:i < vs.length
   ·exact hi
   ·rw [Am<|by simpa using hi] at h2;rw [Fn] at h2
    split at h2 <;> cases h2
  have ha:vs[i]?=some v:=by
   unfold start at h2;rw [Aj (by simpa using hi),Ah] at h2;cases e:vs[i]? with
   | none=>rw [e] at h2;cases h2
   | some a=>rw [e] at h2;cases h2;rfl
  obtain⟨u,hu,rv⟩:=r.get ha;have hp:ps[i]?=some y:=by
   rw [<- S.pre,List.getElem?_take_of_lt<|by omega];exact h1
  have MT:ps.Nodup:=by rw [<- S.pre];exact S.nd.sublist<|Dx _ _
  refine⟨u,rv,?_⟩
  rcases S.par y (Ag hp) with k | k
  ·exact .inl ⟨k,MQ MT hp hu k⟩
  ·obtain⟨c,e⟩:=MS (n:=s.heap.objs.size+1) k;refine .inr ⟨.inl k,c,e,?_⟩;have q:=x.cell y c e;rw [MR MT hp hu<|by show scope.names.lookup y≠_;rw [k];decide] at q;exact q
 ·exact e0.aC.fresh<|Fr<|x.above y c<|DK h
 ·unfold start;show _=N.length;rw [Ad,Ac,Fx];omega
theorem MU{CX:fO}{P:Program}{w:World}{K:PySem.W.Frag}{mg:Str->Option Value}{base:Heap}{k:Nat}{f:Addr}{name qual:Str}{params:Arguments}{body:List Stmt}{scope:Scope}{dV kV doc pm bv ct oc:Value}{an od:Option Addr}
  {jx:Array (Option Value)} {N ps:List Str} {sp:Sp} (lk:K.lookup f=some ⟨oc,od,.func<|PySem.W.fnOf name qual params body scope dV kV doc pm an bv ct,jx⟩) (ik:PySem.W.codeIn K bv qual=true) (S:aj N ps scope)
  (len:∀ vs H Q E,sp vs H Q E->vs.length=ps.length)
  (ce : ∀ (A : Around) (outer : List Env) (s : Shared) (H : Hp) (vs : List V) (Q : VK) (E : XK), bb k (A.deeper<|envOfC qual scope s.heap.objs.size f bv) → sp vs H Q E →
   ∃ t,iN (dZ CX P w K mg base N qual scope f bv A outer s H E) body t/\t {nx:=λ_ H'=>Q .non H',rt:=Q} (start N vs) H) :
  aB P w K mg base CX (k+1) f (PySem.W.fnOf name qual params body scope dV kV doc pm an bv ct) ps sp:=by
 refine⟨len,λA outer s H args us vs Q E hr e0 hb r dB=>?_⟩;have hl:=len _ _ _ _ dB;have KX:K.In s.heap:=e0.mod.sS.keeps λb o e=>(e0.bs b o e).1;have lim:s.heap.NoLimit:=e0.mod.nolimit.keeps λb o e=>(e0.bs b o e).1;have tI:∀ y∈ps.zip us,scope.names.lookup y.1=some .local\/(scope.names.lookup y.1=some .cell/\((cellsFrom (s.heap.objs.size+1) scope.names []).lookup y.1).isSome=true):=λ⟨n,v⟩ hy=>by
  rcases S.par n (RP hy).1 with q | q
  ·exact .inl q
  ·exact .inr ⟨q,JD _ _ _<|.inl q⟩
 refine codeAny_call_function hr.depth (KX _ _ lk) rfl S.co S.gen rfl (PySem.W.codeRec_of KX ik) (hb _ _ _ _ ?_);refine wpAny_newFunctionEnv_cells S.kind tI λenv he s1 x=>?_;subst he;refine⟨lim.keeps x.toInCall.keep,codeAny_func ?_⟩;obtain⟨t,ht,hq⟩:=ce A outer s H vs Q E (hr.deeper _) dB;have I:Inv (dZ CX P w K mg base N qual scope f bv A outer s H E) [] (start N vs) H s1:=VU S hr.hd e0 hl r x;refine CV (ht [] s1 (start N vs) H _ I hq) (λfl s' hs=>?_) λe s' hs=>hs;have fin:∀{σ':St} {H':Hp} {v:V} {u:Value},Inv (dZ CX P w K mg base N qual scope f bv A outer s H E) [] σ' H' s'->RelV v u->Q v H'->CE outer P w H s Q u s':=
  λ{σ' H' v u} J rv q=>⟨v,H',J.os,J.bare,J.base,J.aC,rv,q⟩
 cases fl with
 | ret u=>
  obtain⟨v,σ',H',J,rv,q⟩:=hs;exact fin J rv q
 | next=>
  obtain⟨σ',H',J,q⟩:=hs;exact fin (v:=V.non) (u:=Value.none) J rfl q
 | brk=>
  obtain⟨_,_,_,q⟩:=hs;exact False.elim q
 | cont=>
  obtain⟨_,_,_,q⟩:=hs;exact False.elim q
section
variable{X:Cx}{x:Str}{p pos:Pos}{e:Expr}{es:List Expr}{t:TA}{id T:String}{r:List V->Hp->VK->Prop}
def xN(r:List V->Hp->VK->Prop)(t:TA):TE:=λσ H Q=>t σ H λvs H1=>r vs H1 Q
theorem VV(hc:fN X (.builtin id) r)(hg:Gl X x)(hm:X.mg x=none)(hv:bootBuiltins x=some (.builtin id))(ha:PA X (e :: es) t)(hn:x ≠ "__name__":=by decide)(cx:(x == ("__debug__" : Str))=false:=by decide)
  (he:starEach (e :: es) X.env=(false,eval e X.env) :: starEach es X.env:=by rfl) (jd:(backTo pos<|starEach es X.env).any (·.1)=false:=by rfl):PE X (.Call (.Name x p) (e :: es) [] pos) (xN r t):=by
 intro pins s σ H Q I h;refine KJ<|oB I hg hm hv ?_ hn cx;exact PyProof.Rows.callWith_builtin1 (aI (ha pos pins s σ H _ I h) λus s1 ⟨vs,H1,I1,r1,q1⟩=>hc pins s1 σ H1 vs us Q I1 r1 q1) he jd
theorem VW(hc:fN X (.type T) r)(hg:Gl X x)(hm:X.mg x=none)(hv:bootBuiltins x=some (.type T))(ha:PA X (e :: es) t)(hn:x ≠ "__name__":=by decide)(cx:(x == ("__debug__" : Str))=false:=by decide)
  (he:starEach (e :: es) X.env=(false,eval e X.env) :: starEach es X.env:=by rfl) (jd:(backTo pos<|starEach es X.env).any (·.1)=false:=by rfl):PE X (.Call (.Name x p) (e :: es) [] pos) (xN r t):=by
 intro pins s σ H Q I h;refine KJ<|oB I hg hm hv ?_ hn cx;exact HF (aI (ha pos pins s σ H _ I h) λus s1 ⟨vs,H1,I1,r1,q1⟩=>hc pins s1 σ H1 vs us Q I1 r1 q1) he jd
end
end L2
namespace HT
open PySem PyProof.Rows
section
open PySem.SeqAt
open PySem.AutoSeq1 (wpAny_loadPart')
open PySem.MeetsSeq PySem.MeetsSeq2 PySem.MeetsSeq3
end
section
variable{prog:Program}{w:World}{A:Around}{E:Value->Shared->Prop}{s:Shared}
def fZ(n d:Nat):Option Int->Nat
 | none=>d
 | some v=>if v < 0 then(v+(n:Int)).toNat else min v.toNat n
theorem jy(n d:Nat):fZ n d none=d:=rfl
theorem fk(n d k:Nat):fZ n d (some (k:Int))=min k n:=by
 show(if(k:Int) < 0 then((k:Int)+(n:Int)).toNat else min (k:Int).toNat n)=min k n;rw [BK (by omega),Cm]
end
end HT
namespace L2
open PySem PySem.Spec PyProof.Rows
abbrev TO:=St->Hp->(Option Int->Hp->Prop)->Prop
def PO(X:Cx)(e:Option Expr)(t:TO):Prop:=
 ∀(pins:List<|Addr×Obj) (s:Shared) (σ:St) (H:Hp) (Q:Option Int->Hp->Prop),Inv X pins σ H s->t σ H Q ->
  wpAny (model X.prog X.w) X.A (evalPart e X.env) (λu s'=>∃ o H',Inv X pins σ H' s'/\IsPart u o/\Q o H') X.xe s
def VX:TO:=λ_ H Q=>Q none H
def VY(t:TE):TO:=λσ H Q=>t σ H λx H1=>∃ i,x = .int i/\Q (some i) H1
section
variable{X:Cx}{e:Expr}{te:TE}{lo hi:Option Expr}{tl th:TO}{pos p2:Pos}
theorem VZ:PO X none VX:=by
 intro pins s σ H Q I h;rw [evalPart_none];exact BP ⟨none,H,I,.none,h⟩
theorem V0(h:PE X e te):PO X (some e) (VY te):=by
 intro pins s σ H Q I hw;rw [evalPart_some];refine aI (h pins s σ H _ I hw) λu s1 ⟨x,H1,I1,r1,q1⟩=>?_;obtain⟨i,rfl,q⟩:=q1;obtain⟨t,rfl⟩:=r1;exact⟨some i,H1,I1,.int i t,q⟩
def B0(X:Cx)(r:V->Option Int->Option Int->Hp->VK->Prop):Prop:=
 ∀(pins:List<|Addr×Obj) (s:Shared) (σ:St) (H:Hp) (x:V) (v vl vu:Value) (lo hi:Option Int) (sl:Addr) (Q:VK),Inv X pins σ H s->RelV x v->s.heap.IsSliceOf sl vl vu .none->IsPart vl lo->IsPart vu hi->r x lo hi H Q ->
  ∃ T id,typeLookup (.type T) "__getitem__" = pure (some<|.builtin id)/\s.TypeIs v T/\wpAny (model X.prog X.w) X.A (getItem v<|.ref sl) (EP X pins σ Q) X.xe s
def V1(r:V->Option Int->Option Int->Hp->VK->Prop)(te:TE)(tl th:TO):TE:=λσ H Q=>te σ H λx H1=>tl σ H1 λl H2=>th σ H2 λu H3=>r x l u H3 Q
theorem V2{r:V->Option Int->Option Int->Hp->VK->Prop}(hr:B0 X r)(he:PE X e te)(hl:PO X lo tl)(hu:PO X hi th):PE X (.Subscript e (.Slice lo hi none p2) pos) (V1 r te tl th):=by
 intro pins s σ H Q I h;refine Subscript_<|aI (he pins s σ H _ I h) λv s1 ⟨x,H1,I1,r1,q1⟩=>?_;refine wpAny_Slice<|aI (hl pins s1 σ H1 _ I1 q1) λvl s2 ⟨l,H2,I2,pl,q2⟩=>aI (hu pins s2 σ H2 _ I2 q2) λvu s3 ⟨u,H3,I3,pu,q3⟩=>?_;rw [evalPart_none];refine BP ?_;have I4:Inv X pins σ H3 {s3 with heap:=s3.heap.push {cls:= .type "slice",data:= .fields #[vl,vu,.none]}}:=I3.kept (t':=s3.toks) λb ob q=>Af _ q;obtain⟨T,id,hT,ht,hg⟩:=hr pins {s3 with heap:=s3.heap.push {cls:= .type "slice",data:= .fields #[vl,vu,.none]}} σ H3 x v vl vu l u s3.heap.objs.size Q I4 r1 (Heap.IsSliceOf.new ..) pl pu q3;show wpAny (model X.prog X.w) X.A (subscriptTail e (.Slice lo hi none p2) v<|.ref s3.heap.objs.size) (EP X pins σ Q) X.xe {s3 with heap:=s3.heap.push {cls:= .type "slice",data:= .fields #[vl,vu,.none]}};exact tail_any (ops:=[.ref s3.heap.objs.size,v]) ht hT hg<|by with_unfolding_all rfl
def dF(xs:List V)(lo hi:Option Int):List V:=(xs.drop<|HT.fZ xs.length 0 lo).take<|HT.fZ xs.length xs.length hi - HT.fZ xs.length 0 lo
theorem V3(xs:List V)(lo hi:Option Int):(dF xs lo hi).length<=xs.length:=by
 unfold dF;rw [Bm,Cz];omega
end
def m7(n:Nat)(i:Int):Option Nat:=if 0<=i then(if i < n then some i.toNat else none) else if -(n:Int)<=i then some (i+n).toNat else none
def f6{α:Type}(xs:List α)(i:Int):Option α:=(m7 xs.length i).bind λj=>xs[j]?
theorem V4{n:Nat}{i:Int}{j:Nat}(h:m7 n i=some j):seqIndex? i n=some j/\j < n/\-(n:Int)<=i/\i < n:=by
 unfold m7 at h
 by_cases h0:0<=i
 ·rw [BL h0] at h
  by_cases h1:i < n
  ·rw [BL h1] at h;have e:i.toNat=j:=Option.some.inj h;exact⟨by rw [seqIndex_of h0 h1,e],by omega,by omega,h1⟩
  ·rw [BK h1] at h;cases h
 ·rw [BK h0] at h
  by_cases h1:-(n:Int)<=i
  ·rw [BL h1] at h;have e:(i+n).toNat=j:=Option.some.inj h;exact⟨by rw [seqIndex_neg (by omega) h1,e],by omega,h1,by omega⟩
  ·rw [BK h1] at h;cases h
theorem B5{α:Type}{xs:List α}{i:Int}{v:α}(h:f6 xs i=some v):∃ j,seqIndex? i xs.length=some j/\xs[j]?=some v/\j < xs.length/\-(xs.length:Int)<=i/\i < xs.length:=by
 unfold f6 at h;cases e:m7 xs.length i with
 | none=>rw [e] at h;cases h
 | some j=>
  rw [e] at h;obtain⟨h1,h2,h3,h4⟩:=V4 e;exact⟨j,h1,h,h2,h3,h4⟩
theorem tJ{α:Type}{xs:List α}{j:Nat}{v:α}(h:xs[j]?=some v):f6 xs (j:Int)=some v:=by
 have hj:j < xs.length:=(Ab.mp h).1;have e:m7 xs.length (j:Int)=some j:=by
  unfold m7;rw [BL (by omega),BL<|by omega];simp
 unfold f6;rw [e];exact h
theorem V5{α:Type}(xs:List α)(v:α):f6 (xs++[v]) (-1)=some v:=by
 have hl:(xs++[v]).length=xs.length+1:=by simp
 have e:m7 (xs++[v]).length (-1)=some xs.length:=by
  unfold m7;rw [hl,BK (by decide),BL<|by omega]
  congr 1
  omega
 unfold f6;rw [e];show(xs++[v])[xs.length]?=some v;simp
def MV(b:Expr):Prop:=∀ o i,subscripted b false o i=operate [o,i] (getItem o i)
def tK(X:Cx)(r:R2):Prop:=
 ∀(value slice:Expr) (pins:List<|Addr×Obj) (s:Shared) (σ:St) (H:Hp) (x y:V) (v u:Value) (Q:VK),Inv X pins σ H s->RelV x v->RelV y u->r x y H Q ->
  subscripted slice false v u=operate [v,u] (getItem v u)->wpAny (model X.prog X.w) X.A (subscriptTail value slice v u) (EP X pins σ Q) X.xe s
def xO(X:Cx)(id:String)(r:V->List V->Hp->VK->Prop):Prop:=
 ∀(pins:List<|Addr×Obj) (s:Shared) (σ:St) (H:Hp) (x:V) (xs:List V) (v:Value) (us:List Value) (Q:VK),Inv X pins σ H s->RelV x v->aq xs us->r x xs H Q ->
  wpAny (model X.prog X.w) X.A (call (.builtin id)<|v :: us) (EP X pins σ Q) X.xe s
section
variable{X:Cx}{a b:Expr}{ta tb:TE}{pos:Pos}
theorem V6{r:R2}(hr:tK X r)(ha:PE X a ta)(hb:PE X b tb)(hs:MV b):PE X (.Subscript a b pos) (xJ r ta tb):=by
 intro pins s σ H Q I h;exact Subscript_<|oH ha hb I h λv u s2 x y H2 I2 rx ry q=>hr a b pins s2 σ H2 x y v u Q I2 rx ry q<|hs _ _
def B6(K:PySem.W.Frag):R2:=λx y H Q=>∃ p xs i v,x = .ref p/\y = .int i/\ai K H p xs/\f6 xs i=some v/\Q v H
def B7(K:PySem.W.Frag):R2:=λx y H Q=>∃ p xs i v,x = .ref p/\y = .int i/\bt K H p xs/\f6 xs i=some v/\Q v H
def B8:R2:=λx y H Q=>∃ z i c,x = .str z/\y = .int i/\z.length<=sizeLine/\f6 z.cps.toList i=some c/\Q (.str ⟨#[c]⟩) H
theorem lF:tK X (B6 X.K):=by
 intro value slice pins s σ H x y v u Q I rx ry h hs;obtain⟨p,xs,i,z,rfl,rfl,hq,he,q⟩:=h;cases rx;obtain⟨t,rfl⟩:=ry;obtain⟨its,r,pl,hz⟩:=I.list hq;obtain⟨j,h1,h2,h3,h4,h5⟩:=B5 he;obtain⟨w,ew,iP⟩:=r.get h2;have hl:=r.length;have hn:=tF;have fin:EP X pins σ Q w s:=⟨z,H,I,iP,q⟩
 by_cases h0:0<=i
 ·have hj:i.toNat=j:=by
   rw [seqIndex_of h0 h5] at h1;exact Option.some.inj h1
  exact item_listR pl.isList h0 (by omega) (by rw [hj];simpa using ew) fin hs
 ·have hj:(i+(its.toArray.size:Int)).toNat=j:=by
   rw [seqIndex_neg (by omega) h4] at h1;rw [Bd,<- hl];exact Option.some.inj h1
  exact subscriptTail_builtinR (x:=w) pl.isList.typeIs slot_list_getitem.lookup
   (wpAny_getItem_list_neg (Q:=λr s'=>r=w/\EP X pins σ Q r s') pl.isList (by omega) (by rw [Bd] <;> omega) (by omega) (by rw [hj];simpa using ew) ⟨rfl,fin⟩) hs
theorem m8:tK X (B7 X.K):=by
 intro value slice pins s σ H x y v u Q I rx ry h hs;obtain⟨p,xs,i,z,rfl,rfl,hq,he,q⟩:=h;cases rx;obtain⟨t,rfl⟩:=ry;obtain⟨its,r,pl,hz⟩:=I.tuple hq;obtain⟨j,h1,h2,h3,h4,h5⟩:=B5 he;obtain⟨w,ew,iP⟩:=r.get h2;have hl:=r.length;have hn:=tF;have fin:EP X pins σ Q w s:=⟨z,H,I,iP,q⟩;exact subscriptTail_builtinR (x:=w) pl.typeIs slot_tuple_getitem.lookup
  (getItem_tuple (j:=j) (Q:=λr s'=>r=w/\EP X pins σ Q r s') pl (by omega) (by omega) (by rw [Bd,<- hl];exact h1) (by simpa using ew) ⟨rfl,fin⟩) hs
theorem MX:tK X B8:=by
 intro value slice pins s σ H x y v u Q I rx ry h hs;obtain⟨z,i,c,rfl,rfl,hz,he,q⟩:=h;obtain⟨t,rfl⟩:=rx;obtain⟨t',rfl⟩:=ry;obtain⟨j,h1,h2,h3,h4,h5⟩:=B5 he;have hl:z.cps.toList.length=z.length:=by simp [Str.length]
 rw [hl] at h1 h4 h5;have hn:=tF;exact tail_any (typeIs_str s z t) slot_str_getitem.lookup (getItem_str (c:=c) (by
  have e1:decide (i < -(2 ^ 63:Int))=false:=BR (by omega);have e2:decide (i>=2 ^ 63)=false:=BR (by omega);rw [e1,e2,Bool.or_false]) (by rw [h1];simpa using h2) ⟨.str ⟨#[c]⟩,H,I.tok _,⟨_,rfl⟩,q⟩) hs
theorem V7(lo hi:Option Int)(n:Nat):(sliceBounds lo hi none n).1=((HT.fZ n 0 lo:Nat):Int)/\(sliceBounds lo hi none n).2.1=((HT.fZ n n hi:Nat):Int)/\(sliceBounds lo hi none n).2.2=1:=by
 refine⟨?_,?_,rfl⟩
 ·cases lo with
  | none=>simp [sliceBounds,HT.fZ]
  | some i=>
   simp only [sliceBounds,HT.fZ,Option.getD_none,show(1:Int) > 0 by decide,FN]
   by_cases h:i < 0
   ·simp only [h,FN] <;> omega
   ·simp only [h,DQ] <;> omega
 ·cases hi with
  | none=>simp [sliceBounds,HT.fZ]
  | some i=>
   simp only [sliceBounds,HT.fZ,Option.getD_none,show(1:Int) > 0 by decide,FN]
   by_cases h:i < 0
   ·simp only [h,FN] <;> omega
   ·simp only [h,DQ] <;> omega
theorem V8(its:List Value)(lo hi:Option Int):slicePick its.toArray lo hi none=((its.drop<|HT.fZ its.length 0 lo).take<|HT.fZ its.length its.length hi - HT.fZ its.length 0 lo).toArray:=by
 obtain⟨h1,h2,h3⟩:=V7 lo hi its.toArray.size;unfold slicePick;rw [h1,h2,h3];simp only [sliceRange_one,pick_run,Bd] <;> rfl
def B9(K:PySem.W.Frag):V->Option Int->Option Int->Hp->VK->Prop:=λx lo hi H Q=>∃ a xs,x = .ref a/\ai K H a xs/\∀ p,H p=none->Q (.ref p) (upd H p<|.lst<|dF xs lo hi)
theorem MY:B0 X (B9 X.K):=by
 intro pins s σ H x v vl vu lo hi sl Q I rx hs pl pu h;obtain⟨a,xs,rfl,hx,q⟩:=h;cases rx;obtain⟨its,r,ht,hz⟩:=I.list hx;have hlen:=r.length;refine⟨"list",_,slot_list_getitem.lookup,ht.isList.typeIs,?_⟩;refine wpAny_getItem_list_slice ht.isList hs pl pu .none (by simp) ?_ (by rw [Bd] <;> omega);rw [V8,<- hlen];refine⟨.ref s.heap.objs.size,_,I.laid (t':=s.toks) (o:= .lst<|dF xs lo hi) (λb ob q=>Af _ q) (Ai _) ?_,rfl,q _<|I.aC.fresh<|Ai _⟩;exact⟨Ck (V3 xs lo hi) hz,_,0,(r.drop<|HT.fZ xs.length 0 lo).take<|HT.fZ xs.length xs.length hi - HT.fZ xs.length 0 lo,At _ rfl⟩
def jz:V->Bool
 | .non=>true
 | .bl _=>true
 | .int _=>true
 | .str _=>true
 | _=>false
def fm:V->V->Bool
 | .non,.non=>true
 | .bl a,.bl b=>a == b
 | .bl a,.int b=>(if a then 1 else 0) == b
 | .int a,.bl b=>a == (if b then 1 else 0)
 | .int a,.int b=>a == b
 | .str a,.str b=>a == b
 | _,_=>false
theorem MZ{A:Around}{s:Shared}{y x:V}{u v:Value}(ry:RelV y u)(rx:RelV x v)(fy:jz y=true)(fx:jz x=true):SeqAt.EqAt A s u v (fm y x):=by
 cases y with
 | non=>
  cases ry;cases x with
  | non=>cases rx;exact SeqAt.EqAt.same _
  | bl b=>cases rx;exact SeqAt.EqAt.none_bool b
  | int b=>obtain⟨t,rfl⟩:=rx;exact SeqAt.EqAt.none_int b t
  | str b=>obtain⟨t,rfl⟩:=rx;exact SeqAt.EqAt.none_str b t
  | _=>exact absurd (show false=true from fx) Ba
 | bl a=>
  cases ry;cases x with
  | non=>cases rx;exact SeqAt.EqAt.bool_none a
  | bl b=>cases rx;exact SeqAt.EqAt.bool_bool a b
  | int b=>obtain⟨t,rfl⟩:=rx;exact SeqAt.EqAt.bool_int a b t
  | str b=>obtain⟨t,rfl⟩:=rx;exact SeqAt.EqAt.bool_str a b t
  | _=>exact absurd (show false=true from fx) Ba
 | int a=>
  obtain⟨t',rfl⟩:=ry;cases x with
  | non=>cases rx;exact SeqAt.EqAt.int_none a t'
  | bl b=>cases rx;exact SeqAt.EqAt.int_bool a t' b
  | int b=>obtain⟨t,rfl⟩:=rx;exact SeqAt.EqAt.int_int a t' b t
  | str b=>obtain⟨t,rfl⟩:=rx;exact SeqAt.EqAt.int_str a t' b t
  | _=>exact absurd (show false=true from fx) Ba
 | str a=>
  obtain⟨t',rfl⟩:=ry;cases x with
  | non=>cases rx;exact SeqAt.EqAt.str_none a t'
  | bl b=>cases rx;exact SeqAt.EqAt.str_bool a t' b
  | int b=>obtain⟨t,rfl⟩:=rx;exact SeqAt.EqAt.str_int a t' b t
  | str b=>obtain⟨t,rfl⟩:=rx;exact SeqAt.EqAt.str_str a t' b t
  | _=>exact absurd (show false=true from fx) Ba
 | _=>exact absurd (show false=true from fy) Ba
def lG(x:V)(u:Value):Bool:=match u with
 | .none=>fm .non x
 | .bool b=>fm (.bl b) x
 | .int i _=>fm (.int i) x
 | .str z _=>fm (.str z) x
 | _=>false
theorem M0{x y:V}{u:Value}(r:RelV y u)(f:jz y=true):lG x u=fm y x:=by
 cases y with
 | non=>cases r;rfl
 | bl b=>cases r;rfl
 | int i=>obtain⟨t,rfl⟩:=r;rfl
 | str z=>obtain⟨t,rfl⟩:=r;rfl
 | _=>exact absurd (show false=true from f) Ba
theorem CA{x:V}:∀{xs:List V} {us:List Value},aq xs us->xs.all jz=true->us.any (lG x)=xs.any λy=>fm y x
 | _,_,.nil,_=>rfl
 | y :: xs,u :: us,.cons r t,f=>by
  rw [Hx,Bu] at f;rw [Gk,Gk,M0 r f.1,CA t f.2]
theorem CB{A:Around}{s:Shared}{x:V}{v:Value}(rx:RelV x v)(fx:jz x=true):∀{xs:List V} {us:List Value},aq xs us->xs.all jz=true->∀ u∈us,SeqAt.EqAt A s u v<|lG x u
 | _,_,.nil,_=>λu hu=>by cases hu
 | y :: xs,u :: us,.cons r t,f=>λu' hu=>by
  rw [Hx,Bu] at f
  rcases Ar.mp hu with rfl | hu
  ·rw [M0 r f.1];exact MZ r rx f.1 fx
  ·exact CB rx fx t f.2 u' hu
def tM(x:V)(xs:List V):Bool:=xs.any λy=>fm y x
def V9(K:PySem.W.Frag)(neg:Bool):R2:=λx y H Q=>∃ p xs,y = .ref p/\(ai K H p xs\/bt K H p xs)/\jz x=true/\xs.all jz=true/\Q (.bl (if neg then !tM x xs else tM x xs)) H
theorem qT:cM X (compareOp .In) (V9 X.K false):=by
 intro pins s σ H x y v u Q I rx ry h;obtain⟨p,xs,rfl,hq,fx,fs,q⟩:=h;cases ry
 rcases hq with hq | hq
 ·obtain⟨its,r,pl,hz⟩:=I.list hq;refine SeqAt.in_listAt (lG x) pl.isList (λw hw=>CB rx fx r fs w<|by simpa using hw) ⟨.bl _,H,I,rfl,?_⟩;rw [show its.toArray.any (lG x)=its.any (lG x) by simp,CA r fs];exact q
 ·obtain⟨its,r,pl,hz⟩:=I.tuple hq;refine SeqAt.in_tupleAt (lG x) pl (λw hw=>CB rx fx r fs w<|by simpa using hw) ⟨.bl _,H,I,rfl,?_⟩;rw [show its.toArray.any (lG x)=its.any (lG x) by simp,CA r fs];exact q
theorem jA:fN X (.builtin "len") (λxs H Q=>∃ p ys,xs=[.ref p]/\(ai X.K H p ys\/bt X.K H p ys)/\Q (.int ys.length) H):=by
 intro pins s σ H xs us Q I r h;obtain⟨p,ys,rfl,hq,q⟩:=h;obtain⟨u,rfl,rx⟩:=vals1 r;cases rx;have hn:=tF
 rcases hq with hq | hq
 ·obtain⟨its,r',pl,hz⟩:=I.list hq;have hlen:=r'.length;exact Calls.call_len_list pl.isList (by simp only [Bd] <;> omega) ⟨.int ys.length,H,I.tok _,⟨s.toks+1,by rw [Bd,hlen]⟩,q⟩
 ·obtain⟨its,r',pl,hz⟩:=I.tuple hq;have hlen:=r'.length;exact len_tuple pl (by simp only [Bd] <;> omega) ⟨.int ys.length,H,I.tok _,⟨s.toks+1,by rw [Bd,hlen]⟩,q⟩
def qU(K:PySem.W.Frag)(T:String)(x:V)(H:Hp):Prop:=match x with
 | .str _=>T = "str"
 | .int _=>T = "int"
 | .ref p=>(T = "list"/\∃ xs,ai K H p xs)\/(T = "tuple"/\∃ o,K.lookup p=some o/\o.cls = .type "tuple"/\o.dict=none) \/
   (T = "dict"/\((∃ kvs,H p=some (.dK kvs))\/∃ kvs,H p=some (.dT kvs)))\/(T = "set"/\∃ S n,H p=some (.set S n))
 | _=>False
theorem M1{pins:List (Addr×Obj)}{σ:St}{H:Hp}{s:Shared}{T:String}{x:V}{v:Value}(I:Inv X pins σ H s)(r:RelV x v)(ty:qU X.K T x H) :
  s.TypeIs v T/\∀ a,v = .ref a->∃ ob,s.heap.get? a=some ob/\ob.dict=none:=by
 cases x with
 | str z=>
  obtain⟨t,rfl⟩:=r;cases (show T = "str" from ty);exact⟨typeIs_str s z t,λ_ e=>nomatch e⟩
 | int i=>
  obtain⟨t,rfl⟩:=r;cases (show T = "int" from ty);exact⟨typeIs_int s i t,λ_ e=>nomatch e⟩
 | ref p=>
  cases r
  rcases ty with ⟨rfl,xs,hq⟩ | ⟨rfl,o,hk,hc,hd⟩ | ⟨rfl,hk⟩ | ⟨rfl,S,n,hk⟩
  ·obtain⟨its,_,pl,_⟩:=I.list hq;refine⟨pl.isList.typeIs,λa e=>?_⟩;cases e;obtain⟨o,n,e,c,hd,_⟩:=pl;exact⟨o,e,hd⟩
  ·refine⟨⟨o,I.jw p o hk,hc⟩,λa e=>?_⟩;cases e;exact⟨o,I.jw _ o hk,hd⟩
  ·have z:∃ o,s.heap.get? p=some o/\o.ExactDict:=by
    rcases hk with ⟨kvs,hk⟩ | ⟨kvs,hk⟩
    ·obtain⟨_,_,_,_,o,_,_,e,ex,_⟩:=I.aC p _ hk;exact⟨o,e,ex⟩
    ·obtain⟨_,_,_,_,o,_,_,e,ex,_⟩:=I.aC p _ hk;exact⟨o,e,ex⟩
   obtain⟨o,e,ex⟩:=z;refine⟨⟨o,e,ex.1⟩,λa e2=>?_⟩;cases e2;exact⟨o,e,ex.2.1⟩
  ·obtain⟨o,_,_,_,e,ex,_⟩:=I.aC p _ hk;refine⟨⟨o,e,ex.1⟩,λa e2=>?_⟩;cases e2;exact⟨o,e,ex.2.1⟩
 | _=>exact False.elim ty
def CD(K:PySem.W.Frag)(T:String)(r:V->List V->Hp->VK->Prop)(to:TE):TE:=λσ H Q=>to σ H λx H1=>qU K T x H1/\r x [] H1 Q
def V'(K:PySem.W.Frag)(T:String)(r:V->List V->Hp->VK->Prop)(to:TE)(t:TA):TE:=λσ H Q=>to σ H λx H1=>qU K T x H1/\t σ H1 λxs H2=>r x xs H2 Q
variable{o e:Expr}{es:List Expr}{to:TE}{t:TA}{name:Str}{apos d6:Pos}{T id:String}{r:V->List V->Hp->VK->Prop}
theorem Wa(pa:PlainAttrs T)(slot:Slot T name id)(oQ:typeOf (.builtin id)=pure (.type "method_descriptor"))(hm:xO X id r)(ho:PE X o to)
  (bP:attributeBase o name X.env (eval o X.env)=eval o X.env:=by rfl) (hline:(apos.endLine == d6.line)=true:=by rfl):PE X (.Call (.Attribute o name apos) [] [] d6) (CD X.K T r to):=by
 intro pins s σ H Q I h;refine wpAny_Call_method0_late bP hline<|aI (ho pins s σ H _ I h) λv s1 ⟨x,H1,I1,r1,ty,q1⟩=>?_;obtain⟨h1,h2⟩:=M1 I1 r1 ty;exact⟨T,id,pa,slot,oQ,h1,h2,JF rfl (PySem.evalArgs_none<|hm pins s1 σ H1 x [] v [] Q I1 r1 .nil q1)⟩
theorem M3(pa:PlainAttrs T)(slot:Slot T name id)(oQ:typeOf (.builtin id)=pure (.type "method_descriptor"))(hm:xO X id r)(ho:PE X o to)(ha:PA X (e :: es) t)
  (bP:attributeBase o name X.env (eval o X.env)=eval o X.env:=by rfl)
  (du : ((backTo d6<|starEach (e :: es) X.env).all (λx => !x.1) && (backToKw d6<|keywordEach [] X.env).all (λx => x.1.isSome)
   && decide ((e :: es).length+([]:List Keyword).length+(if([]:List Keyword).isEmpty then 0 else 1) < 30))=true:=by rfl)
  (hline:(apos.endLine == d6.line)=true:=by rfl) (hs:starEach (e :: es) X.env=(false,eval e X.env) :: starEach es X.env:=by rfl) (dG:(backTo d6<|starEach es X.env).any (·.1)=false:=by rfl) :
  PE X (.Call (.Attribute o name apos) (e :: es) [] d6) (V' X.K T r to t):=by
 intro pins s σ H Q I h;refine wpAny_Call_method_late bP du hline rfl (aI (ho pins s σ H _ I h) λv s1 ⟨x,H1,I1,r1,ty,q1⟩=>?_);obtain⟨h1,h2⟩:=M1 I1 r1 ty;refine⟨T,id,pa,slot,oQ,h1,h2,?_⟩;have hA:=ha d6 pins s1 σ H1 _ I1 q1;rw [hs] at hA ⊢;refine JF (by show(false || (backTo d6<|starEach es X.env).any (·.1))=false;rw [dG] <;> rfl)<|NT ?_;exact aI hA λus s2 ⟨vs,H2,I2,r2,q2⟩=>hm pins s2 σ H2 x vs v us Q I2 r1 r2 q2
end
def xP(X:Cx)(id:String)(r:V->List V->Hp->VK->Prop):Prop:=
 ∀(pins:List<|Addr×Obj) (s:Shared) (σ:St) (H:Hp) (x:V) (xs:List V) (v:Value) (us:List Value) (Q:VK),Inv X pins σ H s->RelV x v->aq xs us->r x xs H Q ->
  wpAny (model X.prog X.w) X.A (call (.builtin id)<|v :: us) (EP X pins σ Q) X.xe s
theorem aq.hd{x:V}{xs:List V}{us:List Value}(h:aq (x :: xs) us):∃ u vs,us=u :: vs/\RelV x u/\aq xs vs:=by
 cases h with
 | cons r t=>exact⟨_,_,rfl,r,t⟩
theorem aq.nl{us:List Value}(h:aq [] us):us=[]:=by
 cases h;rfl
theorem aq.one{x:V}{us:List Value}(h:aq [x] us):∃ u,us=[u]/\RelV x u:=by
 obtain⟨u,vs,rfl,r,t⟩:=h.hd;rw [t.nl];exact⟨u,rfl,r⟩
theorem aq.two{x y:V}{us:List Value}(h:aq [x,y] us):∃ u v,us=[u,v]/\RelV x u/\RelV y v:=by
 obtain⟨u,vs,rfl,r,t⟩:=h.hd;obtain⟨v,ws,rfl,q,t⟩:=t.hd;rw [t.nl];exact⟨u,v,rfl,r,q⟩
theorem aq.zero:∀{us:List Value},aq [] us->us=[]
 | _,.nil=>rfl
theorem aq.dropLast{xs:List V}{us:List Value}(h:aq xs us):aq xs.dropLast us.dropLast:=by
 induction h with
 | nil=>exact .nil
 | cons r t ih=>
  cases t with
  | nil=>exact .nil
  | cons q t'=>exact .cons r ih
theorem Wb{α:Type}(l:List α):l.eraseIdx (l.length - 1)=l.dropLast:=by
 induction l with
 | nil=>rfl
 | cons a r ih=>
  cases r with
  | nil=>rfl
  | cons b r=>
   have e:(a :: b :: r).length - 1=((b :: r).length - 1)+1:=by
    have h1:(a :: b :: r).length=r.length+2:=rfl;have h2:(b :: r).length=r.length+1:=rfl;omega
   rw [e,List.eraseIdx_cons_succ,ih]
   all_goals rfl
section
variable{X:Cx}{pins:List (Addr×Obj)}{σ:St}{H:Hp}{s:Shared}{l b:Addr}{xs ys zs:List V}
theorem Inv.oU{its its':List Value}{n:Nat}{f:Array Value->Array Value}{t':Nat}(I:Inv X pins σ H s)(hH:H l=some (.lst xs))
  (e:s.heap.get? l=some {cls:= .type "list",data:= .seq its.toArray n}) (hf:f its.toArray=its'.toArray) (hv:aq ys its') (hz:ys.length<=sizeLine) :
  Inv X pins σ (upd H l<|.lst ys) {s with heap:=s.heap.update l<|Obj.mapSeq f,toks:=t'}:=by
 have q:=PySem.IsL.update e f;rw [hf] at q;refine I.write (x:=l) (e:=l) (by rw [hH];exact trivial) (.inl rfl) (λb' u hb hu=>(By s.heap (Obj.mapSeq f)<|CJ hb).trans hu) ⟨_,q⟩ ?_;exact⟨hz,its',_,hv,q⟩
theorem Inv.tN{its:List Value}{t':Nat}(I:Inv X pins σ H s)(hv:aq ys its)(hz:ys.length<=sizeLine) :
  Inv X pins σ (upd H s.heap.objs.size<|.lst ys) {s with heap:=s.heap.push {cls:= .type "list",data:= .seq its.toArray},toks:=t'}:=
 I.laid (λ_ _ q=>Af _ q) (Ai _) ⟨hz,its,0,hv,At _ rfl⟩
theorem Inv.fresh(I:Inv X pins σ H s):H s.heap.objs.size=none:=I.aC.fresh<|Ai _
theorem Inv.iQ(I:Inv X pins σ H s)(hH:H l=some (.lst xs)):xs.length<=sizeLine/\∃(its:List Value) (n:Nat),aq xs its/\xs.length=its.length/\s.heap.get? l=some {cls:= .type "list",data:= .seq its.toArray n}:=by
 obtain⟨z,its,n,r,e⟩:=I.aC l _ hH;exact⟨z,its,n,r,r.length,e⟩
theorem Wc{n:Nat}(h:n<=sizeLine):Builtin.List.listTooLong n=false:=by
 unfold Builtin.List.listTooLong;exact BR<|by omega
end
section
variable{X:Cx}
def Wd:V->List V->Hp->VK->Prop:=λx vs H Q=>∃ l xs y,x = .ref l/\vs=[y]/\H l=some (.lst xs)/\xs.length < sizeLine/\Q .non (upd H l<|.lst<|xs++[y])
theorem M4:xP X "list.append" Wd:=by
 intro pins s σ H x vs v us Q I rx rv h;obtain⟨l,xs,y,rfl,rfl,hH,hz,q⟩:=h;cases rx;obtain⟨u,rfl,ru⟩:=rv.one;obtain⟨z,its,n,r,hl,e⟩:=I.iQ hH;refine QX F.slot_list_append ⟨_,e,rfl⟩ F.entry_list_append (F.args_list_append_2 _ _) (PySem.list_append l its.toArray n u<|by rw [Bd];omega) ⟨e,?_⟩;refine⟨.non,_,I.oU (its':=its++[u]) hH e (by simp) (r.append<|.cons ru .nil) ?_,rfl,q⟩;rw [Ad,Dg];omega
def Wf:V->List V->Hp->VK->Prop:=λx vs H Q=>∃ l b xs zs,x = .ref l/\vs=[.ref b]/\H l=some (.lst xs)/\H b=some (.lst zs)/\xs.length+zs.length<=sizeLine/\Q .non (upd H l<|.lst<|xs++zs)
theorem CF:xP X "list.extend" Wf:=by
 intro pins s σ H x vs v us Q I rx rv h;obtain⟨l,b,xs,zs,rfl,rfl,hH,hB,hz,q⟩:=h;cases rx;obtain⟨u,rfl,ru⟩:=rv.one;cases ru;obtain⟨z,its,n,r,hl,e⟩:=I.iQ hH;obtain⟨z2,dH,n2,r2,qV,e2⟩:=I.iQ hB;have hsz:its.toArray.size+dH.toArray.size<=sizeLine:=by rw [Bd,Bd];omega
 have tO:¬(!its.toArray.isEmpty && Builtin.List.listTooLong (its.toArray.size+dH.toArray.size))=true:=by
  rw [Wc hsz,Fa];exact Ba
 refine QX F.slot_list_extend ⟨_,e,rfl⟩ F.entry_list_extend (F.args_list_extend_2 _ _)
  (AutoSeq1.list_extend_list_list_0 l its.toArray n b dH.toArray n2 tO (by rw [Bd];omega)<|by omega) ⟨e,e2,?_⟩
 refine⟨.non,_,I.oU (its':=its++dH) hH e (by simp) (r.append r2) ?_,rfl,q⟩;rw [Ad];omega
def CH:V->List V->Hp->VK->Prop:=λx vs H Q=>∃ l xs y,x = .ref l/\vs=[]/\H l=some (.lst xs)/\xs[xs.length - 1]?=some y/\Q y (upd H l<|.lst xs.dropLast)
theorem Wg:xP X "list.pop" CH:=by
 intro pins s σ H x vs v us Q I rx rv h;obtain⟨l,xs,y,rfl,rfl,hH,hy,q⟩:=h;cases rx;have Wh:=rv.zero;subst Wh;obtain⟨z,its,n,r,hl,e⟩:=I.iQ hH;obtain⟨u,hu,ru⟩:=r.get hy;have iR:its.toArray[its.toArray.size - 1]?=some u:=by
  show its.toArray[its.length - 1]?=some u;rw [<- Ap,<- hl];exact hu
 refine QX F.slot_list_pop ⟨_,e,rfl⟩ F.entry_list_pop (F.args_list_pop_1 _) (MeetsSeq.list_pop_last l its.toArray n u iR<|by rw [Bd];omega) ⟨e,?_⟩;refine⟨y,_,I.oU (its':=its.dropLast) hH e ?_ r.dropLast ?_,ru,q⟩
 ·show its.toArray.eraseIdxIfInBounds (its.toArray.size - 1)=its.dropLast.toArray;rw [Bd,List.eraseIdxIfInBounds_toArray,Wb]
 ·rw [List.length_dropLast];omega
def CI:R2:=λx y H Q=>∃ l b xs zs,x = .ref l/\y = .ref b/\H l=some (.lst xs)/\H b=some (.lst zs)/\xs.length+zs.length<=sizeLine/\∀ p,H p=none->Q (.ref p) (upd H p<|.lst<|xs++zs)
theorem CL:cM X (binaryOp .Add) CI:=by
 intro pins s σ H x y v u Q I rx ry h;obtain⟨l,b,xs,zs,rfl,rfl,hH,hB,hz,q⟩:=h;cases rx;cases ry;obtain⟨z,its,n,r,hl,e⟩:=I.iQ hH;obtain⟨z2,dH,n2,r2,qV,e2⟩:=I.iQ hB;refine PySem.P.add_list e e2 ?_ (by rw [Bd,Bd];omega);have ea:its.toArray++dH.toArray=(its++dH).toArray:=by simp
 rw [ea];exact⟨.ref _,_,I.tN (t':=s.toks) (r.append r2) (by rw [Ad];omega),rfl,q _ I.fresh⟩
end
section
variable{prog:Program}{w:World}{A:Around}{E:Value->Shared->Prop}{s:Shared}
end
section
variable{X:Cx}
end
end L2
namespace M5
open PySem PySem.W PySem.Calls PyProof.Rows
theorem Wi{P:Params}{h:Heap}:∀(ns:List Int) (vs:List Value),WellAll P h vs (ns.map WData.int)->IntsAre vs ns:=by
 intro ns
 induction ns with
 | nil=>
  intro vs w;rw [TX] at w;cases w;exact .nil
 | cons n ns ih=>
  intro vs w;rw [Bt] at w;cases w with
  | cons a b=>
   cases a;exact .cons _ _<|ih _ b
theorem Wj{l:OpenLaw}{n:Nat}(hn:l.most=some n){P:Params}{h:Heap}{args:List WData}{vals:List Value}
  (lH:l.row.toRowW.claim.pre args=true) (CM:WellAll P h vals args) :
  ∃ a vs ns,vals=[Value.ref a]/\args=[WData.list<|ns.map WData.int]/\h.get? a=some {cls:= .type "list",data:= .seq vs.toArray}/\IntsAre vs ns/\ns.length<=n:=by
 have Wk:WShape.hasAll [] args [.list .int]=true:=(pre_splitW lH).1;have hc:l.pre.holds [] {args:=args}=true:=(pre_splitW lH).2;obtain⟨d,r,rfl,h1,h2⟩:=hasAllW_cons Wk;obtain rfl:=hasAllW_nil h2;obtain⟨xs,rfl,h3⟩:=hasW_list h1;obtain⟨ns,rfl⟩:=items_int h3;have hlen:ns.length<=n:=by
  unfold OpenLaw.pre at hc;have h4:(WTm.not<|.lt (.lit<|.int (n:Int))<|.len<|.arg 0).holds [] {args:=[.list<|ns.map .int]}=true:=by
   have h4:=(holds_andW hc).1;rw [hn] at h4;exact h4
  have h5:=condW_of h4<|w_not<|w_lt w_lit<|w_len_list<|w_arg rfl;rw [Ac] at h5;refine Nat.le_of_not_lt λq=>?_;have q':(n:Int) < ((ns.length:Nat):Int):=by omega
  first
   | (rw [BX q'] at h5;exact absurd h5<|by decide)
   | (simp at h5;omega)
 cases CM with
 | cons w1 w2=>
  cases w2;cases w1 with
  | list ho oV=>exact⟨_,_,ns,rfl,rfl,ho,Wi ns _ oV,hlen⟩
theorem Wl(l:OpenLaw)(args:List WData):l.row.toRowW.claim.post args (.bool true) args=true:=
 postW_of (r:=l.row.toRowW) (X:=(true == true))
  (show WShape.has [] (.bool true) .bool=true by first | rfl | decide | simp [WShape.has,WShape.arms,WShape.armsAll])
  (show(WTm.eq .res<|.lit<|.bool true).value [] {args:=args,res:=some<|.bool true,after:=args}=some (.bool<|true == true) from w_eq_bool (w_res rfl) w_lit) rfl
theorem f7{l:OpenLaw}{n:Nat}{q:Program}{loose:List Str}{XP:(Str->Option Value)->Heap->Prop}{YP:World->Heap->Prop}{d:DefRec}
  (hn:l.most=some n) (lI:d.params.defaults=[])
  (call : ∀ (w : World) (s₀ s₁ : Shared) (mg mb : Str → Option Value) (fa : Addr) (o : Obj) (pm cd doc : Value) (a : Addr) (vs : List Value) (ns : List Int),
   Ground q loose [] XP w s₀ mg mb s₁.heap->YP w s₁.heap ->
   s₁.heap.get? fa=some o->o.data = .func (docDef d.name d.params d.body d.scope pm cd doc)->s₁.heap.CodeRec cd d.name->mg d.name=some (.ref fa) ->
   s₁.heap.get? a=some {cls:= .type "list",data:= .seq vs.toArray}->IntsAre vs ns->ns.length<=n->s₁.gens=#[] ->
   codeAny (model l.prog w) callerA (.call (.ref fa) ⟨[.ref a],[]⟩) (λr s'=>r = .ok (.ret<|.bool true)/\OldK s₁.heap s'.heap/\s'.os=s₁.os/\AllBare s'.gens) s₁) :
  WalkO q loose XP YP l.row.toRowW d [] (λf vs=>PySem.call f vs):=by
 intro w s₀ s₁ mg mb G Y fa o pm cd doc dV kV ho hd ik hD tP hg args vals as lH hlay hrd CM hlo;obtain rfl:dV = .none:=Dflts.none hD lI;obtain rfl:kV = .none:=Dflts.noKw hD;obtain⟨a,vs,ns,rfl,rfl,gN,hints,hlen⟩:=Wj hn lH CM;refine enter_call<|IK (call w s₀ s₁ mg mb fa o pm cd doc a vs ns G Y ho (fd_plain hd) ik tP gN hints hlen hg) λr s' hq=>?_;obtain⟨rfl,h2,h3,h4⟩:=hq;exact⟨.inl ⟨.bool true,.bool true,[],rfl,λ_=>rfl,.bool true,Wl l _,λ_=>⟨List.Pairwise.nil,λ_ hm=>(nomatch hm)⟩⟩,h2,h3,h4⟩
section
variable{prog:Program}{w:World}{A:Around}{E:Value->Shared->Prop}{s:Shared}{K:Frag}
end
end M5
namespace L2
open PySem PySem.Spec PyProof.Rows
theorem M6:∀{vs:List Value} {ns:List Int},IntsAre vs ns->aq (ns.map V.int) vs
 | _,_,.nil=> .nil
 | _,_,.cons n t h=> .cons ⟨t,rfl⟩<|M6 h
def Only(H:Hp):Prop:=∀ b,H b=none\/∃ o xs,H b=some (.bI o<|.lst xs)
theorem Wm{P:Program}{w:World}{K:PySem.W.Frag}{mg mb:Str->Option Value}{CX:fO}{k:Nat}{fa a:Addr}{fd:FuncData}{x:Str}{sp:Sp}{s₁:Shared}{vs:List Value}{ns:List Int}
  (KX:K.In s₁.heap) (m9:s₁.heap.Ns mainGlobals mg) (hb:s₁.heap.Ns builtinsNs mb) (CO:∀ x:Str,x ≠ "__name__"->mb x=bootBuiltins x) (CU:s₁.heap.NoLimit) (hg:s₁.gens=#[])
  (ha:s₁.heap.get? a=some {cls:= .type "list",data:= .seq vs.toArray}) (hi:IntsAre vs ns) (hl:ns.length<=sizeLine) (hr:bb k callerA)
  (F:∀ base:Heap,K.In base->base.Ns mainGlobals mg->aB P w K mg base CX k fa fd [x] sp) (tQ:∀(s:Shared) (u:Value),BindsTo s fd ⟨[u],[]⟩ [(x,u)])
  (dB:∀ H:Hp,Only H->ai K H a (ns.map V.int)->sp [.ref a] H (λv _=>v = .bl true) λ_ _ _=>False)
  (CY:∀ H e s',CX [] H s₁ (λ_ _ _=>False) e s'->False) :
  codeAny (model P w) callerA (.call (.ref fa) ⟨[.ref a],[]⟩) (λr s'=>r = .ok (.ret<|.bool true)/\OldK s₁.heap s'.heap/\s'.os=s₁.os/\AllBare s'.gens) s₁:=by
 have rv:=M6 hi;have C0:=hi.length;have core:∀ H:Hp,Only H->ai K H a (ns.map V.int)->b7 P w H s₁.heap->(∀ b,H b≠none->b=a)->(H a≠none->K.lookup a=none) ->
   codeAny (model P w) callerA (.call (.ref fa) ⟨[.ref a],[]⟩) (λr s'=>r = .ok (.ret<|.bool true)/\OldK s₁.heap s'.heap/\s'.os=s₁.os/\AllBare s'.gens) s₁:=by
  intro H hO hS aC hA hK;have iq:∀{b:Addr} {o:Obj},s₁.heap.get? b=some o->H b=none->(fh s₁.heap H).get? b=some o:=λe n=>UP e n;have tH:∀{b:Addr} {o:Obj} {es:Array DictEntry} {ep:Nat},s₁.heap.get? b=some o->o.data = .dict es ep->H b=none:=λ{b o es ep} e d=>by
   cases q:H b with
   | none=>rfl
   | some u=>
    have e':b=a:=hA b (by rw [q];simp);subst e';rw [ha] at e;cases e;have d':Data.seq vs.toArray _=Data.dict es ep:=d;cases d'
  have xQ:∀{b:Addr} {m:Str->Option Value},s₁.heap.Ns b m->(fh s₁.heap H).Ns b m:=λ{b m} ⟨o,es,ep,e,d,r⟩=>⟨o,es,ep,iq e<|tH e d,d,r⟩;have M7:K.In (fh s₁.heap H):=λb o e=>iq (KX b o e)<|by
   cases q:H b with
   | none=>rfl
   | some u=>
    have e':b=a:=hA b (by rw [q];simp);subst e';rw [hK<|by rw [q];simp] at e;cases e
  have hM:Mod K mg (fh s₁.heap H):=⟨M7,xQ m9,⟨mb,xQ hb,CO⟩,let ⟨mc,h1,h2⟩:=CU;⟨mc,xQ h1,h2⟩⟩;have e0:lB P w K mg (fh s₁.heap H) callerA [] s₁ H:=⟨rfl,hM,λb o e=>UQ e,TY<|UO _ _,trivial,λb hb=>absurd (show b∈([]:List Addr) from hb) (by simp),aC,.of_eq hg⟩;refine IK ((F _ M7<|xQ m9).run callerA [] s₁ H ⟨[.ref a],[]⟩ [.ref a] [.ref a] _ _ hr e0 (tQ s₁<|.ref a) (.cons rfl .nil)<|dB H hO hS) λr s' h=>?_;cases r with
  | error e=>exact(CY H e s' h).elim
  | ok fl=>
   cases fl with
   | next=>exact False.elim h
   | brk=>exact False.elim h
   | cont=>exact False.elim h
   | ret u=>
    obtain⟨v,H',os,bare,un,C1,r',q⟩:=h;have q':v = .bl true:=q;subst q';obtain rfl:u=Value.bool true:=r';refine⟨rfl,OldK.of_keep λb o e=>?_,os,bare⟩;cases q:H b with
    | none=>exact un.keep b o e q (by intro z;exact absurd (show b∈([]:List Addr) from z)<|by simp)<|by simp
    | some u=>
     rcases hO b with z | ⟨ob,xs,z⟩
     ·rw [q] at z;cases z
     ·have z2:=un.dk b ob _ z;obtain⟨e1,_⟩:=aC b _ z;obtain⟨e2,_⟩:=C1 b _ z2;rw [e] at e1;cases e1;exact e2
 cases hk:K.lookup a with
 | some o=>
  have e:=KX a o hk;rw [ha] at e;cases e;refine core (λ_=>none) (λ_=> .inl rfl) (.inr ⟨_,vs.toArray,_,hk,rfl,rfl,rfl,by rw [Bd,C0];exact hl,by simpa using rv⟩) (λb u z=>by have z':(none:Option HO)=some u:=z;cases z') (λb z=>absurd rfl z) λz=>absurd rfl z
 | none=>
  refine core (λb=>if b=a then some (.bI {cls:= .type "list",data:= .seq vs.toArray}<|.lst<|ns.map V.int) else none) (λb=>?_) (.inl<|.inr ⟨{cls:= .type "list",data:= .seq vs.toArray},BL rfl⟩) (λb u z=>?_) (λb z=>?_) λ_=>hk
  ·by_cases hb:b=a
   ·exact .inr ⟨_,_,BL hb⟩
   ·exact .inl<|BK hb
  ·by_cases hb:b=a
   ·have z':=(BL hb).symm.trans z;cases z';subst hb;exact⟨ha,by rw [Ac];exact hl,vs,_,rv,ha⟩
   ·have z':=(BK hb).symm.trans z;cases z'
  ·by_cases hb:b=a
   ·exact hb
   ·exact absurd (BK hb) z
theorem lJ{l:PySem.W.OpenLaw}{n k:Nat}{q:Program}{loose:List Str}{XP:(Str->Option Value)->Heap->Prop}{YP:World->Heap->Prop}{d:DefRec}{K:Params->PySem.W.Frag}{CX:World->fO}{sp:World->Sp}{x:Str}
  (hn:l.most=some n) (C2:n<=sizeLine) (lI:d.params.defaults=[]) (hr:bb k callerA)
  (hY:∀(w:World) (h:Heap),YP w h->(K w.params).In h)
  (F : ∀ (w : World) (mg : Str → Option Value) (fa : Addr) (h : Heap), (K w.params).In h → h.Ns mainGlobals mg → mg d.name = some (.ref fa) →
   ∃ fd:FuncData,(∀(s:Shared) (u:Value),BindsTo s fd ⟨[u],[]⟩ [(x,u)]) /\
    ∀ base:Heap,(K w.params).In base->base.Ns mainGlobals mg->aB l.prog w (K w.params) mg base (CX w) k fa fd [x] (sp w))
  (dB:∀(w:World) (H:Hp) (a:Addr) (ns:List Int),ns.length<=n->Only H->ai (K w.params) H a (ns.map V.int)->sp w [.ref a] H (λv _=>v = .bl true) λ_ _ _=>False)
  (CY:∀(w:World) (H:Hp) (s:Shared) (e:Value) (s':Shared),CX w [] H s (λ_ _ _=>False) e s'->False) :
  PySem.W.WalkO q loose XP YP l.row.toRowW d [] (λf vs=>PySem.call f vs):=by
 refine M5.f7 hn lI λw s₀ s₁ mg mb fa o pm cd doc a vs ns G Y ho hd ik tP gN hints hlen hg=>?_;have KX:=hY w _ Y;obtain⟨fd,hb,hF⟩:=F w mg fa _ KX G.T.g tP;exact Wm KX G.T.g G.T.b G.T.builtins G.T.nolimit hg gN hints (Ck hlen C2) hr hF hb (λH hO hS=>dB w H a ns hlen hO hS) λH e s'=>CY w H s₁ e s'
def ng(s:Stmt):Arguments:=match s with
 | .FunctionDef _ a _ _ _ _ _ _ _ _=>a
 | _=>{posonlyargs:=[],args:=[],vararg:=none,kwonlyargs:=[],kw_defaults:=[],kwarg:=none,defaults:=[]}
def iu(s:Stmt):List Stmt:=match s with
 | .FunctionDef _ _ b _ _ _ _ _ _ _=>b
 | _=>[]
def aP(s:Stmt):Scope:=match s with
 | .FunctionDef _ _ _ _ _ _ sc _ _ _=>sc
 | _=>{kind:= .function,names:=[],isGenerator:=false,isCoroutine:=false}
abbrev bE:fO:=λ_ _ _ _ _ _=>False
abbrev E0:XK:=λ_ _ _=>False
theorem Wn{X:Cx}:oO bE X E0:=λ_ _ _ _ _ _ _ h=>h.elim
structure bw(K:PySem.W.Frag)(x qual:Str)(st:Stmt)(f:Addr)(fd:FuncData):Prop where
 ex:∃(oc:Value) (od:Option Addr) (kV doc pm:Value) (an:Option Addr) (bv ct:Value) (jx:Array<|Option Value),
  fd=PySem.W.fnOf x qual (ng st) (iu st) (aP st) .none kV doc pm an bv ct/\K.lookup f=some ⟨oc,od,.func fd,jx⟩/\PySem.W.codeIn K bv qual=true
 kp:PySem.W.keepIn K (.ref f)=true
section
variable{P:Program}{w:World}{K:PySem.W.Frag}{mg:Str->Option Value}{base:Heap}
theorem bw.ok{x qual:Str}{st:Stmt}{f:Addr}{fd:FuncData}{N ps:List Str}{k:Nat}{sp:Sp}(F:bw K x qual st f fd)(S:aj N ps<|aP st)(len:∀ vs H Q E,sp vs H Q E->vs.length=ps.length)
  (ce : ∀ (bv : Value) (A : Around) (outer : List Env) (s : Shared) (H : Hp) (vs : List V) (Q : VK) (E : XK), bb k (A.deeper<|envOfC qual (aP st) s.heap.objs.size f bv) → sp vs H Q E →
   ∃ t,iN (dZ bE P w K mg base N qual (aP st) f bv A outer s H E).lq (iu st) t/\t {nx:=λ_ H'=>Q .non H',rt:=Q} (start N vs) H):aB P w K mg base bE (k+1) f fd ps sp:=by
 obtain⟨oc,od,kV,doc,pm,an,bv,ct,jx,rfl,lk,ik⟩:=F.ex;refine MU lk ik S len λA outer s H vs Q E hr dB=>?_;obtain⟨t,h,q⟩:=ce bv A outer s H vs Q E hr dB;exact⟨t,h.lq,q⟩
theorem bw.binds{x qual:Str}{st:Stmt}{f:Addr}{fd:FuncData}{ps:List Str}(F:bw K x qual st f fd)
  (h:∀(kV doc pm:Value) (an:Option Addr) (bv ct:Value) (us:List Value),us.length=ps.length->bindArgs (PySem.W.fnOf x qual (ng st) (iu st) (aP st) .none kV doc pm an bv ct) ⟨us,[]⟩=pure (ps.zip us)):Binds K fd ps []:=by
 obtain⟨oc,od,kV,doc,pm,an,bv,ct,jx,rfl,lk,ik⟩:=F.ex;exact .all<|h kV doc pm an bv ct
theorem Wo{x qual:Str}{st:Stmt}{f:Addr}{oc:Value}{od an:Option Addr}{jx:Array (Option Value)}{kV doc pm bv ct:Value}(l:K.lookup f=some ⟨oc,od,.func<|PySem.W.fnOf x qual (ng st) (iu st) (aP st) .none kV doc pm an bv ct,jx⟩)
  (c:PySem.W.codeIn K bv qual=true) (k:PySem.W.keepIn K (.ref f)=true):bw K x qual st f (PySem.W.fnOf x qual (ng st) (iu st) (aP st) .none kV doc pm an bv ct):=⟨⟨oc,od,kV,doc,pm,an,bv,ct,jx,rfl,l,c⟩,k⟩
end
section
variable{X:Cx}
end
theorem cN{A B:Prop}(h:B):if false=true then A else B:=by
 rw [BK Ba];exact h
theorem cO{A B:Prop}(h:A):if true=true then A else B:=by
 rw [BL rfl];exact h
theorem lK{c A B:Prop} [Decidable c] (h1:c->A) (h2:¬ c->B):if c then A else B:=by
 by_cases h:c
 ·rw [BL h];exact h1 h
 ·rw [BK h];exact h2 h
def ah(H H':Hp):Prop:=∀ b o,H b=some o->H' b=some o
theorem ah.refl(H:Hp):ah H H:=λ_ _ h=>h
theorem ah.trans{H H1 H2:Hp}(a:ah H H1)(b:ah H1 H2):ah H H2:=λc o h=>b c o<|a c o h
theorem ah.free{H H':Hp}(e:ah H H'){l:Addr}(h:H' l=Option.none):H l=Option.none:=by
 cases q:H l with
 | none=>rfl
 | some o=>
  rw [e l o q] at h;cases h
theorem ah.seq{K:PySem.W.Frag}{H H':Hp}{a:Addr}{xs:List V}(e:ah H H')(h:ai K H a xs):ai K H' a xs:=by
 rcases h with (h | ⟨o,h⟩) | h
 ·exact .inl<|.inl<|e _ _ h
 ·exact .inl<|.inr ⟨o,e _ _ h⟩
 ·exact .inr h
section
variable{κ:Type} [DecidableEq κ]
def aA(kvs:List<|κ×V)(k:κ):Option V:=(kvs.find? λkv=>decide (kv.1=k)).map (·.2)
def putK(kvs:List<|κ×V)(k:κ)(v:V):List (κ×V):=
 if(kvs.any λkv=>decide (kv.1=k))=true then kvs.map (λkv=>if kv.1=k then(kv.1,v) else kv) else kvs++[(k,v)]
theorem gG{p:κ×V}{r:List (κ×V)}{k:κ}(e:p.1=k):aA (p :: r) k=some p.2:=by simp [aA,Ft,e]
theorem gH{p:κ×V}{r:List (κ×V)}{k:κ}(e:¬ p.1=k):aA (p :: r) k=aA r k:=by simp [aA,Ft,e]
theorem qW(k:κ):∀ kvs:List<|κ×V,(kvs.any λkv=>decide (kv.1=k))=(aA kvs k).isSome
 | []=>rfl
 | p :: r=>by
  rw [Gk]
  by_cases e:p.1=k
  ·simp only [gG e,BX e,Bool.true_or,Option.isSome_some]
  ·rw [gH e,BR e,Bool.false_or];exact qW k r
theorem M8(k j:κ)(y:V):∀ kvs:List<|κ×V,aA (kvs.map λkv=>if kv.1=k then(kv.1,y) else kv) j=(aA kvs j).map λx=>if j=k then y else x
 | []=>rfl
 | p :: r=>by
  have ih:=M8 k j y r;rw [Bt]
  by_cases h:p.1=k
  ·rw [BL h]
   by_cases e:p.1=j
   ·rw [gG (p:=(p.1,y)) e,gG e,Ht,BL<|e.symm.trans h]
   ·rw [gH (p:=(p.1,y)) e,gH e,ih]
  ·rw [BK h]
   by_cases e:p.1=j
   ·rw [gG (p:=p) e,gG e,Ht,BK λz=>h<|e.trans z]
   ·rw [gH (p:=p) e,gH e,ih]
theorem M9(k j:κ)(y:V):∀ kvs:List<|κ×V,aA kvs k=none->aA (kvs++[(k,y)]) j=if j=k then some y else aA kvs j
 | [],_=>by
  by_cases e:k=j
  ·rw [BL e.symm];exact gG (p:=(k,y)) e
  ·rw [BK λz=>e z.symm];exact gH (p:=(k,y)) e
 | p :: r,hn=>by
  rw [List.cons_append];have hk:¬ p.1=k:=λz=>by rw [gG z] at hn;cases hn
  rw [gH hk] at hn;have ih:=M9 k j y r hn
  by_cases e:p.1=j
  ·rw [gG e,gG e,BK λz=>hk<|e.trans z]
  ·rw [gH e,gH e,ih]
theorem dI(kvs:List<|κ×V)(k j:κ)(y:V):aA (putK kvs k y) j=if j=k then some y else aA kvs j:=by
 unfold putK
 by_cases a:(kvs.any λkv=>decide (kv.1=k))=true
 ·rw [BL a,M8];rw [qW] at a
  by_cases e:j=k
  ·obtain⟨x,hx⟩:=Fm.mp a;rw [BL e,e,hx,Ht,BL rfl]
  ·rw [BK e];cases aA kvs j with
   | none=>rfl
   | some x=>rw [Ht,BK e]
 ·rw [BK a];refine M9 k j y kvs ?_;rw [qW] at a;cases q:aA kvs k with
  | none=>rfl
  | some x=>rw [q] at a;exact(a rfl).elim
theorem je(kvs:List<|κ×V)(k:κ)(v:V):(putK kvs k v).length<=kvs.length+1:=by
 unfold putK
 split
 ·rw [Ac];omega
 ·rw [Ad,Av,Ff];omega
theorem Wp{kvs:List (κ×V)}{k:κ}(v:V)(h:aA kvs k=none):putK kvs k v=kvs++[(k,v)]:=by
 unfold putK;rw [qW,h];exact BK<|by decide
theorem dY.bQ{o:Option V}{u:Option Value}(r:dY o u):o.isSome=u.isSome:=by
 cases o with
 | none=>cases u with
  | none=>rfl
  | some _=>exact(show False from r).elim
 | some _=>cases u with
  | none=>exact(show False from r).elim
  | some _=>rfl
theorem KV.val{kvs:List (κ×V)}{vs:List (κ×Value)}(r:KV kvs vs)(k:κ):dY (aA kvs k) (valueAt vs k):=by
 unfold KV at r
 induction r with
 | nil=>exact True.intro
 | @cons p q ps qs h t ih=>
  obtain⟨h1,h2⟩:=h
  by_cases e:p.1=k
  ·have e':q.1=k:=h1.symm.trans e;have b:valueAt (q :: qs) k=some q.2:=by simp [valueAt,Ft,e']
   rw [gG e,b];exact h2
  ·have e':¬ q.1=k:=λz=>e<|h1.trans z;have b:valueAt (q :: qs) k=valueAt qs k:=by simp [valueAt,Ft,e']
   rw [gH e,b];exact ih
theorem KV.any{kvs:List (κ×V)}{vs:List (κ×Value)}(r:KV kvs vs)(k:κ):(kvs.any λkv=>decide (kv.1=k))=vs.any λkv=>decide (kv.1=k):=by
 unfold KV at r
 induction r with
 | nil=>rfl
 | cons h t ih=>rw [Gk,Gk,ih,h.1]
theorem KV.repl{kvs:List (κ×V)}{vs:List (κ×Value)}(r:KV kvs vs)(k:κ){y:V}{u:Value}(ry:RelV y u) :
  KV (kvs.map λkv=>if kv.1=k then(kv.1,y) else kv) (vs.map λkv=>if kv.1=k then(kv.1,u) else kv):=by
 unfold KV at r ⊢
 induction r with
 | nil=>exact .nil
 | @cons p q ps qs h t ih=>
  rw [Bt,Bt];refine .cons ?_ ih;obtain⟨h1,h2⟩:=h
  by_cases e:p.1=k
  ·rw [BL e,BL<|h1.symm.trans e];exact⟨h1,ry⟩
  ·rw [BK e,BK λz=>e<|h1.trans z];exact⟨h1,h2⟩
theorem KV.put{kvs:List (κ×V)}{vs:List (κ×Value)}(r:KV kvs vs)(k:κ){y:V}{u:Value}(ry:RelV y u):KV (putK kvs k y) (stored vs k u):=by
 unfold putK stored;rw [r.any k]
 by_cases e:(vs.any λkv=>decide (kv.1=k))=true
 ·rw [BL e,BL e];exact r.repl k ry
 ·rw [BK e,BK e];exact Paired.snoc r ⟨rfl,ry⟩
theorem KV.keys{kvs:List (κ×V)}{vs:List (κ×Value)}(r:KV kvs vs):kvs.map (·.1)=vs.map (·.1):=by
 unfold KV at r
 induction r with
 | nil=>rfl
 | cons h t ih=>rw [Bt,Bt,ih,h.1]
theorem KV.length{kvs:List (κ×V)}{vs:List (κ×Value)}(r:KV kvs vs):kvs.length=vs.length:=Paired.length r
end
theorem oW{P:Program}{w:World}{k:Key}{u:Value}(r:RelV (kV k) u):(dz P w).is k u=true:=by
 cases k with
 | inl i=>obtain⟨t,e⟩:=(show ∃ t,u=Value.int i t from r);subst e;exact UL P w i t
 | inr x=>obtain⟨t,e⟩:=(show ∃ t,u=Value.str x t from r);subst e;exact UM P w x t
theorem Nb{P:Program}{w:World}:∀{ks:List Key} {us:List Value},aq (ks.map kV) us->ItemsAre (dz P w) ks us
 | [],_,r=>by rw [TX] at r;cases r;exact .nil
 | k :: ks,_,r=>by
  rw [Bt] at r;cases r with
  | cons h t=>exact .cons (oW h)<|Nb t
abbrev KT(H:Hp):List (List Key×V)->List (List Key×Addr×Value)->Prop:=Paired λp q=>p.1=q.1/\H q.2.1=some (.tup<|p.1.map kV)/\RelV p.2 q.2.2
theorem KT.val{H:Hp}{kvs:List (List Key×V)}{xs:List (List Key×Addr×Value)}(r:KT H kvs xs)(k:List Key):dY (aA kvs k) ((atKey xs k).map (·.2)):=by
 induction r with
 | nil=>exact True.intro
 | @cons p q ps qs h t ih=>
  obtain⟨h1,_,h2⟩:=h
  by_cases e:p.1=k
  ·have e':q.1=k:=h1.symm.trans e;have b:atKey (q :: qs) k=some q.2:=by simp [atKey,Ft,e']
   rw [gG e,b];exact h2
  ·have e':¬ q.1=k:=λz=>e<|h1.trans z;have b:atKey (q :: qs) k=atKey qs k:=by simp [atKey,Ft,e']
   rw [gH e,b];exact ih
theorem KT.repl{H:Hp}{kvs:List (List Key×V)}{xs:List (List Key×Addr×Value)}(r:KT H kvs xs)(k:List Key){y:V}{u:Value}(ry:RelV y u) :
  KT H (kvs.map λkv=>if kv.1=k then(kv.1,y) else kv) (xs.map<|putAt k u):=by
 induction r with
 | nil=>exact .nil
 | @cons p q ps qs h t ih=>
  rw [Bt,Bt];refine .cons ?_ ih;obtain⟨h1,h2,h3⟩:=h;unfold putAt
  by_cases e:p.1=k
  ·rw [BL e,BL<|h1.symm.trans e];exact⟨h1,h2,ry⟩
  ·rw [BK e,BK λz=>e<|h1.trans z];exact⟨h1,h2,h3⟩
theorem KT.put{H:Hp}{kvs:List (List Key×V)}{xs:List (List Key×Addr×Value)}(r:KT H kvs xs)(k:List Key){b:Addr}{y:V}{u:Value}(hb:H b=some (.tup<|k.map kV))(ry:RelV y u) :
  KT H (putK kvs k y) (storedH xs k b u):=by
 have e:(kvs.any λkv=>decide (kv.1=k))=(atKey xs k).isSome:=by
  rw [qW,(r.val k).bQ,QM]
 unfold putK storedH;rw [e]
 by_cases q:(atKey xs k).isSome=true
 ·rw [BL q,BL q];exact r.repl k ry
 ·rw [BK q,BK q];exact Paired.snoc r ⟨rfl,hb,ry⟩
theorem KT.keeps{H H':Hp}{kvs:List (List Key×V)}{xs:List (List Key×Addr×Value)}(r:KT H kvs xs)(ht:∀ b ys,H b=some (.tup ys)->H' b=some (.tup ys)):KT H' kvs xs:=
 Paired.oy r λ_ _ z=>⟨z.1,ht _ _ z.2.1,z.2.2⟩
section
variable{P:Program}{w:World}{H:Hp}{h:Heap}{a:Addr}
theorem Nc{u:HO}(ok:b7 P w H h)(e:Rd H a u):ay P w H h a u:=e.ok ok
theorem tS{kvs:List (Key×V)}(ok:b7 P w H h)(e:Rd H a<|.dK kvs):kvs.length<=sizeLine/\(a == sysModules)=false/\∃ vs,KV kvs vs/\h.DictOf (dz P w) a vs:=
 show ay P w H h a (.dK kvs) from Nc ok e
theorem xR{kvs:List (Key×V)}(ok:b7 P w H h)(e:H a=some (.dK kvs)):kvs.length<=sizeLine/\(a == sysModules)=false/\∃ vs,KV kvs vs/\h.DictOf (dz P w) a vs:=tS ok<|.inl e
theorem qX{ks:List Key}(ok:b7 P w H h)(e:H a=some (.tup<|ks.map kV)):(tupleKind<|dz P w).is h ks a:=by
 obtain⟨_,its,r,o,h1,h2,n,h3⟩:=(show ay P w H h a (.tup<|ks.map kV) from ok a _ e);exact⟨o,its.toArray,n,h1,h2,h3,by simpa using Nb r⟩
theorem tT{kvs:List (List Key×V)}(ok:b7 P w H h)(e:Rd H a<|.dT kvs):kvs.length<=sizeLine/\(a == sysModules)=false /\
  ∃ xs,KT H kvs xs/\h.DictOfH (tupleKind<|dz P w) a xs:=by
 obtain⟨z,y,xs,r,o,es,ep,h1,h2,h3,h4,h5⟩:=(show ay P w H h a (.dT kvs) from Nc ok e);refine⟨z,y,xs,r,o,es,ep,h1,h2,h3,h4,λx hx=>?_,h5⟩;have all:∀{l:List (List Key×V)} {m:List (List Key×Addr×Value)},KT H l m->∀ x∈m,(tupleKind<|dz P w).is h x.1 x.2.1:=by
  intro l m q
  induction q with
  | nil=>intro x hx;exact nomatch hx
  | @cons p q ps qs hq t ih=>
   intro x hx
   rcases Ar.mp hx with e | hx
   ·subst e;exact qX ok<|by rw [<- hq.1];exact hq.2.1
   ·exact ih x hx
 exact all r x hx
theorem Nf{kvs:List (List Key×V)}(ok:b7 P w H h)(e:H a=some (.dT kvs)):kvs.length<=sizeLine/\(a == sysModules)=false /\
  ∃ xs,KT H kvs xs/\h.DictOfH (tupleKind<|dz P w) a xs:=tT ok<|.inl e
end
def aX(H:Hp)(a:Addr)(y:V)(r:Option V):Prop:=
 (∃ kvs k,Rd H a (.dK kvs)/\y=kV k/\r=aA kvs k)\/∃ kvs k b,Rd H a (.dT kvs)/\y = .ref b/\H b=some (.tup<|k.map kV)/\r=aA kvs k
def b9(H:Hp)(a:Addr)(y v:V)(H':Hp):Prop:=
 (∃ kvs k,H a=some (.dK kvs)/\y=kV k/\kvs.length < sizeLine/\H'=upd H a (.dK<|putK kvs k v)) \/
 ∃ kvs k b,H a=some (.dT kvs)/\y = .ref b/\H b=some (.tup<|k.map kV)/\kvs.length < sizeLine/\H'=upd H a (.dT<|putK kvs k v)
theorem aX.k{H:Hp}{a:Addr}{kvs:List (Key×V)}{k:Key}(e:H a=some (.dK kvs)):aX H a (kV k) (aA kvs k):= .inl ⟨kvs,k,.inl e,rfl,rfl⟩
theorem aX.t{H:Hp}{a b:Addr}{kvs:List (List Key×V)}{k:List Key}(e:H a=some (.dT kvs))(eb:H b=some (.tup<|k.map kV)):aX H a (.ref b) (aA kvs k):= .inr ⟨kvs,k,b,.inl e,rfl,eb,rfl⟩
theorem b9.k{H:Hp}{a:Addr}{kvs:List (Key×V)}{k:Key}{v:V}(e:H a=some (.dK kvs))(hl:kvs.length < sizeLine):b9 H a (kV k) v (upd H a<|.dK<|putK kvs k v):= .inl ⟨kvs,k,e,rfl,hl,rfl⟩
theorem b9.t{H:Hp}{a b:Addr}{kvs:List (List Key×V)}{k:List Key}{v:V}(e:H a=some (.dT kvs))(eb:H b=some (.tup<|k.map kV))(hl:kvs.length < sizeLine) :
  b9 H a (.ref b) v (upd H a<|.dT<|putK kvs k v):= .inr ⟨kvs,k,b,e,rfl,eb,hl,rfl⟩
section
variable{X:Cx}{pins:List (Addr×Obj)}{σ:St}{H:Hp}{s:Shared}{a:Addr}{y v:V}{u r:Value}{o:Option V}{A:Around}{E:Value->Shared->Prop}
theorem Inv.big(I:Inv X pins σ H s):sysModules < s.heap.objs.size:=by
 have h:mainGlobals < s.heap.objs.size:=(I.mod.glob.keeps I.bk).lt;exact Nat.lt_trans (by decide) h
theorem Wq{Q:Value->Shared->Prop}(hu:A.units+1 < cLine)(I:Inv X pins σ H s)(g:aX H a y<|some v)(ry:RelV y u)(h:∀ w' s',Inv X pins σ H s'->RelV v w'->Q w' s') :
  wpAny (model X.prog X.w) A (getItem (.ref a) u) Q E s:=by
 rcases g with ⟨kvs,k,e,ey,l⟩ | ⟨kvs,k,b,e,ey,eb,l⟩
 ·subst ey;obtain⟨z,hd,vs,rel,dd⟩:=tS I.aC e;obtain⟨w',hw,iP⟩:=dY.some_of (v:=v) (o:=valueAt vs k) (by rw [l];exact rel.val k);exact wpAny_getItem_of (oW ry) dd.mapOf hw<|h w' _ (I.tok _) iP
 ·subst ey;cases (show u=Value.ref b from ry);obtain⟨z,hd,xs,rel,dd⟩:=tT I.aC e;obtain⟨w',hw,iP⟩:=dY.some_of (v:=v) (o:=(atKey xs k).map (·.2)) (by rw [l];exact rel.val k);obtain⟨p,hp,kA⟩:=An.mp hw;refine wpAny_getItem_heap (KN hu) (qX I.aC eb) dd hp ?_;rw [kA];exact h w' _ (I.tok _) iP
theorem C3{Q:Value->Shared->Prop}(hu:A.units+1 < cLine)(I:Inv X pins σ H s)(g:aX H a y o)(ry:RelV y u)(h:∀ s',Inv X pins σ H s'->Q (.bool o.isSome) s') :
  wpAny (model X.prog X.w) A (compareOp .In u<|.ref a) Q E s:=by
 rcases g with ⟨kvs,k,e,ey,l⟩ | ⟨kvs,k,b,e,ey,eb,l⟩
 ·subst ey;obtain⟨z,hd,vs,rel,dd⟩:=tS I.aC e;refine wpAny_in_of (oW ry) hd dd.mapOf ?_;rw [<- (rel.val k).bQ,<- l];exact h _<|I.tok _
 ·subst ey;cases (show u=Value.ref b from ry);obtain⟨z,hd,xs,rel,dd⟩:=tT I.aC e;refine wpAny_in_heap (KN hu) (qX I.aC eb) hd dd ?_;have q:=(rel.val k).bQ;rw [QM] at q;rw [<- q,<- l];exact h _<|I.tok _
theorem Wr{Q:Value->Shared->Prop}(hu:A.units+1 < cLine)(I:Inv X pins σ H s)(g:aX H a y o)(ry:RelV y u)(h:∀ s',Inv X pins σ H s'->Q (.bool (!o.isSome)) s') :
  wpAny (model X.prog X.w) A (compareOp .NotIn u<|.ref a) Q E s:=by
 rcases g with ⟨kvs,k,e,ey,l⟩ | ⟨kvs,k,b,e,ey,eb,l⟩
 ·subst ey;obtain⟨z,hd,vs,rel,dd⟩:=tS I.aC e;refine wpAny_notIn_of (oW ry) hd dd.mapOf ?_;rw [<- (rel.val k).bQ,<- l];exact h _<|I.tok _
 ·subst ey;cases (show u=Value.ref b from ry);obtain⟨z,hd,xs,rel,dd⟩:=tT I.aC e;refine wpAny_notIn_heap (KN hu) (qX I.aC eb) hd dd ?_;have q:=(rel.val k).bQ;rw [QM] at q;rw [<- q,<- l];exact h _<|I.tok _
theorem nh{h':Heap}{t':Nat}{ob:HO}(I:Inv X pins σ H s)(mu:sQ<|H a)(hs:Heap.SameBut a s.heap h')(he:∃ q,h'.get? a=some q)(new:ay X.prog X.w (upd H a ob) h' a ob) :
  Inv X pins σ (upd H a ob) {s with heap:=h',toks:=t'}:=
 I.write (x:=a) (e:=a) mu (.inl rfl) (λb q hb z=>(hs.2 b hb).trans z) he new
theorem Ng{P:Program}{w:World}{H':Hp}{h':Heap}{kvs:List (Key×V)}{vs:List (Key×Value)}(z:kvs.length<=sizeLine)(hd:(a == sysModules)=false)(rel:KV kvs vs)(dd:h'.DictOf (dz P w) a vs) :
  ay P w H' h' a (.dK kvs):=⟨z,hd,vs,rel,dd⟩
theorem Ws{H':Hp}{Q:Unit->Shared->Prop}(hu:A.units+1 < cLine)(I:Inv X pins σ H s)(g:b9 H a y v H')(ry:RelV y u)(rv:RelV v r)(h:∀ s',Inv X pins σ H' s'->Q () s') :
  wpAny (model X.prog X.w) A (setItem (.ref a) u r) Q E s:=by
 rcases g with ⟨kvs,k,e,ey,l,eH⟩ | ⟨kvs,k,b,e,ey,eb,l,eH⟩
 ·subst ey eH;obtain⟨z,hd,vs,rel,dd⟩:=xR I.aC e;have hz:vs.length<=sizeLine:=by rw [<- rel.length];exact z
  have hl:(putK kvs k v).length<=sizeLine:=by have:=je kvs k v;omega
  refine wpAny_setItem_pairs (hsz:=hz) (oW ry) dd λh' kC hs=>h _ ?_;have he:∃ q,h'.get? a=some q:=let ⟨q,_,_,hq,_⟩:=kC;⟨q,hq⟩
  exact nh I (by rw [e];exact True.intro) hs he<|Ng hl hd (rel.put k rv) kC
 ·subst ey eH;cases (show u=Value.ref b from ry);obtain⟨z,hd,xs,rel,dd⟩:=Nf I.aC e;have hz:xs.length<=sizeLine:=by rw [<- Paired.length rel];exact z
  have hl:(putK kvs k v).length<=sizeLine:=by have:=je kvs k v;omega
  refine wpAny_setItem_heap (hsz:=hz) (KN hu) (qX I.aC eb) dd λh' kC hs=>h _ ?_;obtain⟨q,es,ep,hq,h2,h3,h4,_,h5⟩:=kC;refine nh I (by rw [e];exact True.intro) hs ⟨q,hq⟩ ⟨hl,hd,_,(rel.put k eb rv).keeps λc ys ec=>?_,q,es,ep,hq,h2,h3,h4,h5⟩;rw [ax<|cv ec e λz=>nomatch z];exact ec
end
section
variable{X:Cx}{pins:List (Addr×Obj)}{σ:St}{H:Hp}{s:Shared}{a:Addr}{kvs:List (Key×V)}{k:Key}{u:Value}{A:Around}{E:Value->Shared->Prop}
end
def oX(i:Expr):Prop:=∀ ov iv,subscripted i false ov iv=operate [ov,iv] (getItem ov iv)
theorem Wt{prog:Program}{w:World}{A:Around}{E:Value->Shared->Prop}{s:Shared}{env:Env}{value slice:Expr}{pos:Pos}{T id:String}{Q:Value->Shared->Prop}
  (hl:typeLookup (.type T) "__getitem__" = pure (some<|.builtin id)) (hs:oX slice)
  (h:wpAny (model prog w) A (eval value env) (λo s₁=>wpAny (model prog w) A (eval slice env) (λi s₂=>s₂.TypeIs o T/\wpAny (model prog w) A (getItem o i) Q E s₂) E s₁) E s) :
  wpAny (model prog w) A (eval (.Subscript value slice pos) env) Q E s:=by
 refine Subscript_<|CV h (λo s₁ h₁=>CV h₁ (λi s₂ h₂=>?_) λ_ _ x=>x) λ_ _ x=>x;obtain⟨hT,h₂⟩:=h₂;unfold subscriptTail;refine BJ ?_;rw [getitemInPython_of_ne hT.not_modules];refine BJ<|RQ hT hl ?_;have fin:wpAny (model prog w) A (subscripted slice false o i) (λr s₃=>wpAny (model prog w) A (letTemporaryGo value o r >>= λ_=>pure r) Q E s₃) E s₂:=by
  rw [hs o i];exact wpAny_operating<|CV h₂ (λr s₃ h₃=>BJ<|wpAny_letTemporaryGo<|BP h₃) λ_ _ x=>x
 first
  | exact BP<|BJ fin
  | exact BJ<|BP<|BJ fin
  | exact BJ fin
theorem Wu{X:Cx}{pins:List (Addr×Obj)}{σ:St}{H:Hp}{s:Shared}{a:Addr}{y:V}{o:Option V}(I:Inv X pins σ H s)(g:aX H a y o):s.TypeIs (.ref a) "dict":=by
 rcases g with ⟨kvs,k,e,_,_⟩ | ⟨kvs,k,b,e,_,_,_⟩
 ·obtain⟨_,_,vs,_,dd⟩:=tS I.aC e;exact dd.typeIs
 ·obtain⟨_,_,xs,_,dd⟩:=tT I.aC e;exact dd.typeIs
def Wv(td ty:TE):TE:=λσ H Q=>td σ H λx H1=>ty σ H1 λy H2=>∃ a v,x = .ref a/\aX H2 a y (some v)/\Q v H2
def C4(ty td:TE):TE:=λσ H Q=>ty σ H λy H1=>td σ H1 λx H2=>∃ a o,x = .ref a/\aX H2 a y o/\Q (.bl o.isSome) H2
def Ww(ty td:TE):TE:=λσ H Q=>ty σ H λy H1=>td σ H1 λx H2=>∃ a o,x = .ref a/\aX H2 a y o/\Q (.bl (!o.isSome)) H2
def Wx(td ty tv:TE):TS:=λD σ H=>tv σ H λv H1=>td σ H1 λx H2=>ty σ H2 λy H3=>∃ a H4,x = .ref a/\b9 H3 a y v H4/\D.nx σ H4
section
variable{X:Cx}{o i e value:Expr}{pos pos' BM:Pos}{td ty tv:TE}
theorem Wy(hu:X.A.units+1 < cLine)(ho:PE X o td)(hi:PE X i ty)(hs:oX i):PE X (.Subscript o i pos) (Wv td ty):=by
 intro pins s σ H Q I h;refine Wt PySem.F.slot_dict_getitem.lookup hs<|aI (ho pins s σ H _ I h) λu s1 ⟨x,H1,I1,rx,q1⟩=>aI (hi pins s1 σ H1 _ I1 q1) λiv s2 ⟨y,H2,I2,ry,a,v,ex,g,q2⟩=>?_;subst ex;obtain rfl:u=Value.ref a:=rx;exact⟨Wu I2 g,Wq hu I2 g ry λw' s3 I3 iP=>⟨v,H2,I3,iP,q2⟩⟩
theorem Wz(hu:X.A.units+1 < cLine)(hi:PE X i ty)(ho:PE X o td):PC X .In i o (C4 ty td):=by
 intro pins s σ H Q I h;refine aI (hi pins s σ H _ I h) λiv s1 ⟨y,H1,I1,ry,q1⟩=>aI (ho pins s1 σ H1 _ I1 q1) λu s2 ⟨x,H2,I2,rx,a,ov,ex,g,q2⟩=>?_;subst ex;obtain rfl:u=Value.ref a:=rx;exact C3 hu I2 g ry λs3 I3=>⟨.bl ov.isSome,H2,I3,rfl,q2⟩
theorem WB(hu:X.A.units+1 < cLine)(hi:PE X i ty)(ho:PE X o td):PC X .NotIn i o (Ww ty td):=by
 intro pins s σ H Q I h;refine aI (hi pins s σ H _ I h) λiv s1 ⟨y,H1,I1,ry,q1⟩=>aI (ho pins s1 σ H1 _ I1 q1) λu s2 ⟨x,H2,I2,rx,a,ov,ex,g,q2⟩=>?_;subst ex;obtain rfl:u=Value.ref a:=rx;exact Wr hu I2 g ry λs3 I3=>⟨.bl (!ov.isSome),H2,I3,rfl,q2⟩
theorem WC(hu:X.A.units+1 < cLine)(ho:PE X o td)(hi:PE X i ty)(hv:PE X value tv)(hs:swapsWith value (some<|.Subscript o i pos') pos.line X.env=pure false) :
  PS X (.Assign [.Subscript o i pos'] value pos) (Wx td ty tv):=by
 intro pins s σ H D I h;refine wpAny_Assign_Subscript (aI (hv pins s σ H _ I h) λr s1 ⟨v,H1,I1,rv,q1⟩=>aI (ho pins s1 σ H1 _ I1 q1) λu s2 ⟨x,H2,I2,rx,q2⟩=>aI (hi pins s2 σ H2 _ I2 q2) λiv s3 ⟨y,H3,I3,ry,a,H4,ex,g,q3⟩=>?_) hs;subst ex;obtain rfl:u=Value.ref a:=rx;exact Ws hu I3 g ry rv λs4 I4=>⟨σ,H4,I4,q3⟩
end
theorem Nh{P:Program}{w:World}{H:Hp}(h:Heap)(hb:sysModules < h.objs.size):ay P w H (h.push {cls:= .type "dict",data:= .dict #[]}) h.objs.size (.dK []):=
 ⟨Bn _,beq_eq_false_iff_ne.mpr<|CJ<|Bp hb,[],.nil,Heap.DictOf.new h⟩
theorem C5{P:Program}{w:World}{H:Hp}(h:Heap)(hb:sysModules < h.objs.size):ay P w H (h.push {cls:= .type "dict",data:= .dict #[]}) h.objs.size (.dT []):=
 ⟨Bn _,beq_eq_false_iff_ne.mpr<|CJ<|Bp hb,[],.nil,_,#[],0,At _ rfl,⟨rfl,rfl,rfl⟩,rfl,rfl,Ds⟩
def WD:TE:=λ_ H Q=>∀ p,H p=none->Q (.ref p) (upd H p<|.dK [])
def WG:TE:=λ_ H Q=>∀ p,H p=none->Q (.ref p) (upd H p<|.dT [])
section
variable{X:Cx}{pos:Pos}
theorem WH:PE X (.Dict [] [] pos) WD:=λpins s σ H Q I h=>
 wpAny_Dict_empty ⟨.ref s.heap.objs.size,_,I.laid (a:=s.heap.objs.size) (o:= .dK []) (t':=s.toks) (λ_ _ q=>Af _ q) (Ai _)<|Nh s.heap I.big,rfl,h _<|I.aC.fresh<|Ai _⟩
theorem WK:PE X (.Dict [] [] pos) WG:=λpins s σ H Q I h=>
 wpAny_Dict_empty ⟨.ref s.heap.objs.size,_,I.laid (a:=s.heap.objs.size) (o:= .dT []) (t':=s.toks) (λ_ _ q=>Af _ q) (Ai _)<|C5 s.heap I.big,rfl,h _<|I.aC.fresh<|Ai _⟩
end
section
variable{X:Cx}{pins:List (Addr×Obj)}{σ:St}{H:Hp}{s:Shared}{a:Addr}{y d:V}{u r:Value}{o:Option V}{A:Around}{E:Value->Shared->Prop}
end
section
variable{X:Cx}{o e f:Expr}{apos d6:Pos}{td ty tx:TE}
end
section
variable{X:Cx}{pins:List (Addr×Obj)}{σ:St}{H:Hp}{s:Shared}{a:Addr}{kvs:List (Key×V)}{A:Around}{E:Value->Shared->Prop}
end
section
variable{X:Cx}{pins:List (Addr×Obj)}{σ:St}{H:Hp}{s:Shared}{a:Addr}{y:V}{u:Value}{A:Around}{E:Value->Shared->Prop}
end
section
variable{X:Cx}
end
section
variable{κ:Type} [DecidableEq κ]
theorem Ni{kvs:List (κ×V)}{k:κ}{v:V}(h:aA kvs k=some v):k∈kvs.map (·.1):=by
 have q:(kvs.any λkv=>decide (kv.1=k))=true:=by
  rw [qW,h]
  all_goals rfl
 obtain⟨p,hp,e⟩:=Gf.mp q;exact Az.mpr ⟨p,hp,CG e⟩
theorem ni:∀{l:List κ} {k:κ},l.Nodup->¬ k∈l->(l++[k]).Nodup
 | [],k,_,_=>by simp
 | a :: r,k,h,hk=>by
  obtain⟨h1,h2⟩:=Cr.mp h;show(a :: (r++[k])).Nodup;refine Cr.mpr ⟨λm=>?_,ni h2 λm=>hk<|Ar.mpr<|Or.inr m⟩
  rcases Ao.mp m with q | q
  ·exact h1 q
  ·exact hk<|Ar.mpr<|Or.inl (Ae.mp q).symm
end
section
variable{X:Cx}{tg:Expr}
end
theorem Nj{env:Env}:∀{names:List (Str×NameKind)} {x:Str} {k':NameKind},
  (names.map λ(n,k)=>if(k == NameKind.free && env.scope.kind == .function && env.kindOf n == some .cell) then(n,NameKind.cell) else(n,k)).lookup x=some k' ->
  ∃ k,names.lookup x=some k/\(k'=k\/(k = .free/\k' = .cell))
 | [],_,_,h=>by simp at h
 | (n,k) :: r,x,k',h=>by
  have ih:=@Nj env r x k'
  change List.lookup x ((if(k == NameKind.free && env.scope.kind == .function && env.kindOf n == some .cell)=true then(n,NameKind.cell) else(n,k)) :: _)=_ at h
  cases hx:x == n with
  | true=>
   by_cases hc:(k == NameKind.free && env.scope.kind == .function && env.kindOf n == some .cell)=true
   ·rw [BL hc] at h;simp only [Dv,hx] at h;cases h;have hk:k = .free:=by
     have:=(Bu _ _ ▸ (Bu _ _ ▸ hc).1).1;cases k <;> first | rfl | (exact absurd this<|by decide)
    exact⟨k,by simp [Dv,hx],.inr ⟨hk,rfl⟩⟩
   ·rw [BK hc] at h;simp only [Dv,hx] at h;cases h;exact⟨k,by simp [Dv,hx],.inl rfl⟩
  | false=>
   have h2:∃ k,r.lookup x=some k/\(k'=k\/(k = .free/\k' = .cell)):=by
    by_cases hc:(k == NameKind.free && env.scope.kind == .function && env.kindOf n == some .cell)=true
    ·rw [BL hc] at h;simp only [Dv,hx] at h;exact ih h
    ·rw [BK hc] at h;simp only [Dv,hx] at h;exact ih h
   obtain⟨k2,e2,r2⟩:=h2;exact⟨k2,by simp [Dv,hx,e2],r2⟩
def cB(names:List<|Str×NameKind)(cells:List<|Str×Addr)(acc:List<|Str×Addr):List (Str×Addr):=
 names.foldl (λa x=>if x.2 == .free then(match cells.lookup x.1 with | some c=>(x.1,c) :: a | none=>a) else a) acc
theorem C6{scope:Scope}{env:Env}(h:∀ x∈scope.names,x.2 = .free->∃ c,env.cells.lookup x.1=some c):closureFor scope env=pure (cB scope.names env.cells []):=by
 have all:∀(l:List<|Str×NameKind) (acc:List<|Str×Addr),(∀ x∈l,x.2 = .free->∃ c,env.cells.lookup x.1=some c) ->
   (forIn l acc λ(x:Str×NameKind) (cs:List<|Str×Addr)=>(if x.2 == .free then(do let c <- cellOf env x.1;pure (ForInStep.yield<|(x.1,c) :: cs)) else pure (ForInStep.yield cs):Sem _))=pure (cB l env.cells acc):=by
  intro l
  induction l with
  | nil=>intro acc _;rfl
  | cons x r ih=>
   intro acc hl;rw [List.forIn_cons];have hr:∀ y∈r,y.2 = .free->∃ c,env.cells.lookup y.1=some c:=λy hy=>hl y<|Ax _ hy;cases hk:x.2 == .free with
   | true=>
    have xS:x.2 = .free:=by
     revert hk
     cases x.2 <;> intro hk <;> first | rfl | (exact absurd hk<|by decide)
    obtain⟨c,hc⟩:=hl x Aw xS;simp only [FN,cellOf,hc];rw [show cB (x :: r) env.cells acc=cB r env.cells ((x.1,c) :: acc) by unfold cB;rw [Db];simp [hk,hc]];exact ih _ hr
   | false=>
    simp only [Bk,DQ];rw [show cB (x :: r) env.cells acc=cB r env.cells acc by unfold cB;rw [Db];simp [hk]];exact ih _ hr
 have q:=all scope.names [] h;simp only [closureFor];exact(CW (· >>= λr=>pure r) q).trans rfl
theorem C7:∀(names:List<|Str×NameKind) (cells acc:List<|Str×Addr),(∀ x c,(x,c)∈acc->cells.lookup x=some c)->∀ x c,(x,c)∈cB names cells acc->cells.lookup x=some c
 | [],_,_,h=>h
 | y :: r,cells,acc,h=>by
  have e:cB (y :: r) cells acc=cB r cells (if y.2 == .free then(match cells.lookup y.1 with | some c=>(y.1,c) :: acc | none=>acc) else acc):=rfl;rw [e];refine C7 r cells _ ?_;cases hk:y.2 == .free with
  | false=>simpa using h
  | true=>
   cases hc:cells.lookup y.1 with
   | none=>simpa using h
   | some c=>
    intro x d hx;simp only [FN] at hx
    rcases Ar.mp hx with e | hx
    ·cases e;exact hc
    ·exact h x d hx
theorem Nk:∀(names:List<|Str×NameKind) (cells acc:List<|Str×Addr) (x:Str) (c:Addr),(x,c)∈acc->(x,c)∈cB names cells acc
 | [],_,_,_,_,h=>h
 | y :: r,cells,acc,x,c,h=>by
  have e:cB (y :: r) cells acc=cB r cells (if y.2 == .free then(match cells.lookup y.1 with | some c=>(y.1,c) :: acc | none=>acc) else acc):=rfl;rw [e];refine Nk r cells _ x c ?_;cases hk:y.2 == .free with
  | false=>simpa using h
  | true=>
   cases hc:cells.lookup y.1 with
   | none=>simpa using h
   | some d=>simp only [FN];exact Ax _ h
theorem C8:∀(names:List<|Str×NameKind) (cells acc:List<|Str×Addr) (x:Str) (c:Addr),(x,NameKind.free)∈names->cells.lookup x=some c->(x,c)∈cB names cells acc
 | [],_,_,_,_,h,_=>by cases h
 | y :: r,cells,acc,x,c,h,hc=>by
  have e:cB (y :: r) cells acc=cB r cells (if y.2 == .free then(match cells.lookup y.1 with | some c=>(y.1,c) :: acc | none=>acc) else acc):=rfl;rw [e]
  rcases Ar.mp h with e2 | h
  ·subst e2;refine Nk r cells _ x c ?_;have:(NameKind.free == NameKind.free)=true:=rfl;simp only [hc,this,FN];exact Aw
  ·exact C8 r cells _ x c h hc
theorem C9{α:Type}:∀{l:List (Str×α)} {x:Str} {c:α},(x,c)∈l->∃ d,l.lookup x=some d
 | [],_,_,h=>by cases h
 | (n,d) :: r,x,c,h=>by
  cases hx:x == n with
  | true=>exact⟨d,by simp [Dv,hx]⟩
  | false=>
   rcases Ar.mp h with e | h
   ·cases e;simp at hx
   ·obtain⟨d',e⟩:=C9 h;exact⟨d',by simp [Dv,hx,e]⟩
section
variable{prog:Program}{w:World}{A:Around}{R:Result->Shared->Prop}{s:Shared}
theorem j9h{elt target iter:Expr}{ifs:List Expr}{scope:Scope}{pos:Pos}{it acc:Value}{env:Env}(I:Nat->Shared->Prop)
  (turn : ∀ n s, I n s → wpAny (model prog w) A (pyNext it) (λr s₁ => match r with
   | none=>R (.ok .next) s₁
   | some v=>wpAny (model prog w) A (letOwnedTupleGo target it v) (λ_ s₁'=>wpAny (model prog w) A (assign target env v) (λ_ s₂=>
     wpAny (model prog w) A (forIn ifs true λc r=>if r=true then do let ok <- isTrue c env<|eval c env;pure (ForInStep.yield ok) else pure (ForInStep.yield r)) (λok s₃=>
      if ok=true then wpAny (model prog w) A (eval elt env) (λx s₄=>
       wpAny (model prog w) A (call (.builtin "list.append") [acc,x]) (λ_ s₅=>∃ m,m < n/\I m s₅) (notedBy (model prog w) A env λe s'=>R (.error e) s') s₄) (notedBy (model prog w) A env λe s'=>R (.error e) s') s₃
      else ∃ m,m < n/\I m s₃) (notedBy (model prog w) A env λe s'=>R (.error e) s') s₂) (notedBy (model prog w) A env λe s'=>R (.error e) s') s₁') (notedBy (model prog w) A env λe s'=>R (.error e) s') s₁) (notedBy (model prog w) A env λe s'=>R (.error e) s') s)
  (n:Nat) (h:I n s) :
  codeAny (model prog w) A (.compLoop (.ListComp elt [⟨target,iter,ifs,0⟩] scope pos) 0 it acc env) R s:=by
 refine codeAny_loop rfl I (λn s hI=>?_) n h;show wpAny _ A ((compTurn (.ListComp elt [⟨target,iter,ifs,0⟩] scope pos) 0 it acc env).onRaise λx=>do noteFrame x env;theTreesLotGoes x) _ _ s;refine wpAny_noted ?_;rw [compTurn_list];refine BJ<|FT<|BJ<|CV (turn n s hI) (λr s₁ h₁=>?_) λ_ _ h'=>h';cases r with
 | none=>exact BP h₁
 | some v=>
  refine BJ<|CV h₁ (λ_ s₁' h₁'=>?_) λ_ _ h'=>h';refine BJ<|CV h₁' (λ_ s₂ h₂=>BJ<|CV h₂ (λok s₃ h₃=>?_) λ_ _ h'=>h') λ_ _ h'=>h';cases ok with
  | false=>exact BP ⟨rfl,h₃⟩
  | true=>
   exact BJ<|BJ<|CV h₃ (λx s₄ h₄=>BJ<|CV h₄ (λ_ s₅ h₅=>BP<|BP ⟨rfl,h₅⟩) λ_ _ h'=>h') λ_ _ h'=>h'
end
def Nm(X:Cx)(ifs:List Expr)(t:TT):Prop:=
 ∀(pins:List<|Addr×Obj) (s:Shared) (σ:St) (H:Hp) (Q:Bool->Hp->Prop),Inv X pins σ H s->t σ H Q ->
  wpAny (model X.prog X.w) X.A (forIn ifs true λc r=>if r=true then do let ok <- isTrue c X.env<|eval c X.env;pure (ForInStep.yield ok) else pure (ForInStep.yield r)) (TP X pins σ Q) X.xe s
def DA:TT:=λ_ H Q=>Q true H
theorem WL{X:Cx}:Nm X [] DA:=λ_ _ _ H _ I h=>wpAny_tests_nil ⟨H,I,h⟩
theorem WM{X:Cx}{c:Expr}{t:TT}(h:PT X c t):Nm X [c] t:=λpins s σ H Q I hq=>wpAny_tests_one<|h pins s σ H Q I hq
def fq(X:Cx)(N':List Str)(scope:Scope)(cl:List<|Str×Addr)(C:Addr)(s₀:Shared)(H₀:Hp)(ex:List Addr):Cx:=
 {prog:=X.prog,w:=X.w,K:=X.K,mg:=X.mg,base:=X.base,A:=X.A,N:=N',s₀:=s₀,H₀:=H₀,env:=compEnvC scope cl C X.env,outer:=X.stack,stack:=X.stack,ex:=ex,fn:=λx=>match scope.names.lookup x with | some .cell=>true | _=>false,calm:=X.calm,pn:=[],xe:=λ_ _=>False}
theorem iS{α:Type}{t:Sem α}{Q Q':α->Shared->Prop}{M:Model}{A:Around}{E:Value->Shared->Prop}{s:Shared}(h:wpAny M A t Q (λ_ _=>False) s)(hQ:∀ a s,Q a s->Q' a s):wpAny M A t Q' E s:=CV h hQ λ_ _ z=>z.elim
section
variable{X:Cx}
theorem Nn:∀{bs:List Bool} {its:List Value},aq (bs.map V.bl) its->its=bs.map Value.bool
 | [],_,r=>by cases r;rfl
 | b :: bs,_,r=>by
  cases r with
  | cons r1 r2=>
   cases (show _=Value.bool b from r1);rw [Nn r2,Bt]
theorem range_any(bs:List Bool):(List.range bs.length).any (λi=>bs.getD i true)=bs.any id:=by
 rw [Cg,Gf,Gf]
 constructor
 ·rintro ⟨i,hi,h⟩;have dv:=Bh.mp hi;exact⟨bs[i],Bv dv,by simpa [As,dv] using h⟩
 ·rintro ⟨x,hx,h⟩;obtain⟨i,hi,rfl⟩:=Gd.mp hx;exact⟨i,Bh.mpr hi,by simpa [As,hi] using h⟩
theorem WN(hc:X.calm=true):fN X (.builtin "any") (λxs H Q=>∃(p:Addr) (bs:List Bool),xs=[.ref p]/\ai X.K H p (bs.map V.bl)/\Q (.bl<|bs.any id) H):=by
 intro pins s σ H xs us Q I r h;obtain⟨p,bs,rfl,hp,q⟩:=h;obtain⟨u,rfl,ru⟩:=vals1 r;cases (show u=Value.ref p from ru);obtain⟨its,rv,pl,hz⟩:=I.list hp;have hits:=Nn rv;obtain⟨o,_,ho,_⟩:=id pl;have jd:p < s.heap.objs.size:=Au ho;refine call_any_walk<|MF pl.isList ⟨s.heap.objs.size,_,_,_,_,_,λi=>bs.getD i true,rfl,Walks.list (A:=X.A.in1) (show X.A.in1.handled=none from I.ok.hd hc) s.heap.objs.size p (Bp jd) its.toArray,
  ⟨⟨_,At _ rfl,rfl,rfl⟩,pl.isList.push _⟩,?_,λh' tk hk=>?_⟩
 ·intro i v s' Q' E' hv hQ;have tU:its[i]?=some v:=by simpa using hv
  rw [hits,Ah] at tU;cases e:bs[i]? with
  | none=>rw [e] at tU;cases tU
  | some b=>
   rw [e] at tU;cases tU;refine DY ?_;have:bs.getD i true=b:=by rw [As,e];rfl
   have Np:Q' (bs.getD i true) s':=hQ;rw [this] at Np;exact Np
 ·have e:its.toArray.size=bs.length:=by rw [Bd,hits,Ac]
  rw [e,range_any];refine⟨.bl<|bs.any id,H,I.kept (t':=tk) λb o e=>hk b o ?_<|Af _ e,rfl,q⟩;intro hb;have:b=s.heap.objs.size:=by simpa using hb
  exact absurd (Au e)<|by rw [this];exact Cu _
theorem WO:cM X (binaryOp .Mult) (λx y H Q=>∃ z i,x = .str z/\y = .int i/\0<=i/\i<=100000/\z.length * i.toNat<=100000/\Q (.str<|Txt.mul z i) H):=by
 intro pins s σ H x y v u Q I rx ry h;obtain⟨z,i,rfl,rfl,h0,h1,h2,q⟩:=h;obtain⟨t,rfl⟩:=rx;obtain⟨t',rfl⟩:=ry;have hsz:sizeLine=16777216:=FZ;refine SB.mul ⟨?_,λh3 h4=>?_,λh3 h4=>?_⟩ λt' k=>⟨.str _,H,I.tok k,⟨_,rfl⟩,q⟩
 ·rw [BR (by omega),BR<|by omega];rfl
 ·have h5:(z.length:Int)<=100000:=by
   have h6:z.length * 1<=z.length * i.toNat:=Nat.mul_le_mul_left _ (by omega);omega
  have h7:(100000:Int)<=(2 ^ 63 - 1) / i:=by
   rw [Int.le_ediv_iff_mul_le<|by omega];have:(100000:Int) * i<=100000 * 100000:=Int.mul_le_mul_of_nonneg_left h1 (by decide);have e:(2:Int) ^ 63 - 1=9223372036854775807:=by decide
   omega
  omega
 ·unfold Builtin.Str.tooLong;rw [hsz];exact BR<|by omega
end
def isStar:Expr->Bool
 | .Starred _ _=>true
 | _=>false
def noStar(es:List Expr):Bool:=es.all λe=>!isStar e
theorem oY(e:Expr)(es:List Expr)(env:Env)(h:isStar e=false):starEach (e :: es) env=(false,eval e env) :: starEach es env:=by
 cases e <;> first | rfl | (exact absurd h<|by simp [isStar])
theorem xT(pos:Pos)(env:Env):∀ es:List Expr,noStar es=true->(backTo pos<|starEach es env).any (·.1)=false
 | [],_=>rfl
 | e :: es,h=>by
  have h':(!isStar e)=true/\noStar es=true:=by
   have:=h;unfold noStar at this ⊢;rw [Hx,Bu] at this;exact this
  have hs:isStar e=false:=by
   have:=h'.1;cases q:isStar e with
   | true=>rw [q] at this;cases this
   | false=>rfl
  rw [oY e es env hs];show(false || (backTo pos<|starEach es env).any (·.1))=false;rw [xT pos env es h'.2];rfl
theorem qY{e:Expr}{es:List Expr}(h:noStar (e :: es)=true):isStar e=false/\noStar es=true:=by
 unfold noStar at h ⊢;rw [Hx,Bu] at h;refine⟨?_,h.2⟩;cases q:isStar e with
 | true=>rw [q] at h;cases h.1
 | false=>rfl
section
variable{X:Cx}{CX:fO}{k:Nat}{f C:Addr}{fd:FuncData}{ps:List Str}{sp:Sp}{lE:List V}{ds:List Value}{E:XK}{x m:Str}{p pos apos:Pos}{e o:Expr}{es:List Expr}{ta te:TE}{t:TA}{id T:String}{r:List V->Hp->VK->Prop}
theorem WQ(ha:PE X e te)(hr:PA X es t)(hs:isStar e=false:=by rfl):PA X (e :: es) (ME te t):=VN ha hr<|oY _ _ _ hs
theorem WR(F:aB X.prog X.w X.K X.mg X.base CX k f fd ps sp)(hr:bb k X.A)(hm:X.mg x=some (.ref f))(hk:PySem.W.keepIn X.K (.ref f)=true)(hb:Binds X.K fd ps [])(hx:oO CX X E)
  (ha:PA X (e :: es) t) (hg:Gl X x:=by rfl) (cx:(x == ("__debug__" : Str))=false:=by decide) (hs:noStar (e :: es)=true:=by rfl):PE X (.Call (.Name x p) (e :: es) [] pos) (ML sp [] E t):=
 VR F hr hg hm hk hb .nil hx ha cx (oY _ _ _ (qY hs).1) (xT _ _ _ (qY hs).2)
theorem DB(hc:fN X (.builtin id) r)(hm:X.mg x=none)(hv:bootBuiltins x=some (.builtin id))(ha:PA X (e :: es) t)(hg:Gl X x:=by rfl)(hn:x ≠ "__name__":=by decide)(cx:(x == ("__debug__" : Str))=false:=by decide)
  (hs:noStar (e :: es)=true:=by rfl):PE X (.Call (.Name x p) (e :: es) [] pos) (xN r t):=
 VV hc hg hm hv ha hn cx (oY _ _ _ (qY hs).1) (xT _ _ _ (qY hs).2)
theorem DC(hc:fN X (.type T) r)(hm:X.mg x=none)(hv:bootBuiltins x=some (.type T))(ha:PA X (e :: es) t)(hg:Gl X x:=by rfl)(hn:x ≠ "__name__":=by decide)(cx:(x == ("__debug__" : Str))=false:=by decide)
  (hs:noStar (e :: es)=true:=by rfl):PE X (.Call (.Name x p) (e :: es) [] pos) (xN r t):=
 VW hc hg hm hv ha hn cx (oY _ _ _ (qY hs).1) (xT _ _ _ (qY hs).2)
end
structure Ev(X:Cx)(e:Expr)(σ:St)(H:Hp)(Q:VK):Prop where
 run:∀(pins:List<|Addr×Obj) (s:Shared),Inv X pins σ H s->wpAny (model X.prog X.w) X.A (eval e X.env) (EP X pins σ Q) X.xe s
structure Et(X:Cx)(e:Expr)(σ:St)(H:Hp)(Q:Bool->Hp->Prop):Prop where
 run:∀(pins:List<|Addr×Obj) (s:Shared),Inv X pins σ H s->wpAny (model X.prog X.w) X.A (isTrue e X.env<|eval e X.env) (TP X pins σ Q) X.xe s
structure Ew(X:Cx)(e:Expr)(σ:St)(H:Hp)(Q:Bool->Hp->Prop):Prop where
 run:∀(whole:Sem Value) (pins:List<|Addr×Obj) (s:Shared),Inv X pins σ H s->wpAny (model X.prog X.w) X.A (isTrue e X.env whole) (TP X pins σ Q) X.xe s
structure Ea(X:Cx)(es:List Expr)(σ:St)(H:Hp)(Q:List V->Hp->Prop):Prop where
 run:∀(pos:Pos) (pins:List<|Addr×Obj) (s:Shared),Inv X pins σ H s->wpAny (model X.prog X.w) X.A (spliced<|backTo pos<|starEach es X.env) (AP X pins σ Q) X.xe s
structure Eo(X:Cx)(e:Option Expr)(σ:St)(H:Hp)(Q:Option Int->Hp->Prop):Prop where
 run:∀(pins:List<|Addr×Obj) (s:Shared),Inv X pins σ H s->wpAny (model X.prog X.w) X.A (evalPart e X.env) (λu s'=>∃ o H',Inv X pins σ H' s'/\IsPart u o/\Q o H') X.xe s
structure Eg(X:Cx)(e:Expr)(v:V)(σ:St)(H:Hp)(Q:St->Hp->Prop):Prop where
 run:∀(pins:List<|Addr×Obj) (s:Shared) (u:Value),Inv X pins σ H s->RelV v u->wpAny (model X.prog X.w) X.A (assign e X.env u) (λ_ s'=>∃ σ' H',Inv X pins σ' H' s'/\Q σ' H') X.xe s
structure Run(X:Cx)(l:List Stmt)(D:Ends)(σ:St)(H:Hp):Prop where
 run:∀(pins:List<|Addr×Obj) (s:Shared),Inv X pins σ H s->wpAny (model X.prog X.w) X.A (execs l X.env) (SP X pins D) X.xe s
def WT(X:Cx)(e:Expr):TE:=λσ H Q=>Ev X e σ H Q
def WU(X:Cx)(e:Expr):TT:=λσ H Q=>Et X e σ H Q
def WV(X:Cx)(e:Expr):TT:=λσ H Q=>Ew X e σ H Q
def tV(X:Cx)(es:List Expr):TA:=λσ H Q=>Ea X es σ H Q
def WX(X:Cx)(e:Option Expr):TO:=λσ H Q=>Eo X e σ H Q
def WY(X:Cx)(e:Expr):TG:=λv σ H Q=>Eg X e v σ H Q
def DE(X:Cx)(l:List Stmt):TS:=λD σ H=>Run X l D σ H
section
variable{X:Cx}{e a b c o:Expr}{es:List Expr}{st:Stmt}{rest body oZ:List Stmt}{σ:St}{H:Hp}{Q:VK}{T:Bool->Hp->Prop}{L:List V->Hp->Prop}{D:Ends}{pos p p2:Pos}
theorem a8:PE X e (WT X e):=λpins s _ _ _ I h=>h.run pins s I
theorem o6:PT X e (WU X e):=λpins s _ _ _ I h=>h.run pins s I
theorem WZ:PW X e (WV X e):=λwh pins s _ _ _ I h=>h.run wh pins s I
theorem iT:PA X es (tV X es):=λpos pins s _ _ _ I h=>h.run pos pins s I
theorem Nq{e:Option Expr}:PO X e (WX X e):=λpins s _ _ _ I h=>h.run pins s I
theorem o7:PG X e (WY X e):=λpins s _ _ _ u _ I r h=>h.run pins s u I r
theorem nj{l:List Stmt}:iN X l (DE X l):=λpins s _ _ _ I h=>h.run pins s I
theorem cT{t:TE}(h1:PE X e t)(h2:t σ H Q):Ev X e σ H Q:=⟨λpins s I=>h1 pins s σ H Q I h2⟩
theorem qZ{t:TT}(h1:PT X e t)(h2:t σ H T):Et X e σ H T:=⟨λpins s I=>h1 pins s σ H T I h2⟩
theorem Nr{t:TT}(h1:PW X e t)(h2:t σ H T):Ew X e σ H T:=⟨λwh pins s I=>h1 wh pins s σ H T I h2⟩
theorem Nu{t:TA}(h1:PA X es t)(h2:t σ H L):Ea X es σ H L:=⟨λpos pins s I=>h1 pos pins s σ H L I h2⟩
theorem Nv{e:Option Expr}{t:TO}{R:Option Int->Hp->Prop}(h1:PO X e t)(h2:t σ H R):Eo X e σ H R:=⟨λpins s I=>h1 pins s σ H R I h2⟩
theorem DF{t:TG}{v:V}{R:St->Hp->Prop}(h1:PG X e t)(h2:t v σ H R):Eg X e v σ H R:=⟨λpins s u I r=>h1 pins s σ H v u R I r h2⟩
theorem jB{t:TS}(h1:PS X st t)(h2:t {D with nx:=λσ' H'=>Run X rest D σ' H'} σ H):Run X (st :: rest) D σ H:=⟨λpins s I=>Vc h1 nj pins s σ H D I h2⟩
theorem bp(h:D.nx σ H):Run X [] D σ H:=⟨λpins s I=>Mm pins s σ H D I h⟩
theorem Ev.mono{Q':VK}(h:Ev X e σ H Q)(f:∀ v H',Q v H'->Q' v H'):Ev X e σ H Q':=⟨λpins s I=>aI (h.run pins s I) λ_ _ ⟨v,H',I',r,q⟩=>⟨v,H',I',r,f v H' q⟩⟩
theorem Et.mono{T':Bool->Hp->Prop}(h:Et X e σ H T)(f:∀ v H',T v H'->T' v H'):Et X e σ H T':=⟨λpins s I=>aI (h.run pins s I) λv _ ⟨H',I',q⟩=>⟨H',I',f v H' q⟩⟩
theorem Ea.mono{L':List V->Hp->Prop}(h:Ea X es σ H L)(f:∀ v H',L v H'->L' v H'):Ea X es σ H L':=⟨λpos pins s I=>aI (h.run pos pins s I) λ_ _ ⟨v,H',I',r,q⟩=>⟨v,H',I',r,f v H' q⟩⟩
theorem ae(i:Nat){x:Str}{v:V}(h:Q v H)(hv:σ[i]?=some (some v):=by rfl)(hN:X.N[i]?=some x:=by rfl)(hs:AV X.env.scope x:=by first | exact Or.inl rfl | exact Or.inr (Or.inl rfl) | exact Or.inr<|Or.inr rfl)(hd:(x == ("__debug__" : Str))=false:=by decide)
  (ik:(x == ("__classdict__" : Str))=false:=by decide):Ev X (.Name x p) σ H Q:=cT (UR (i:=i) hN hs hd ik) ⟨v,hv,h⟩
theorem aK{i:Int}{j:Nat}(h:Q (.int i) H):Ev X (.Constant (.int i) j p) σ H Q:=cT (UT) h
theorem W0{i:Bool}{j:Nat}(h:Q (.bl i) H):Ev X (.Constant (.bool i) j p) σ H Q:=cT (UU) h
theorem DH{j:Nat}(h:Q .non H):Ev X (.Constant .none j p) σ H Q:=cT (UW) h
theorem DI{i:Str}{j:Nat}(h:Q (.str i) H):Ev X (.Constant (.str i) j p) σ H Q:=cT (UX) h
theorem xU{x:Str}{v:V}{u:Value}(hm:X.mg x=some u)(r:RelV v u)(h:Q v H)(hg:Gl X x:=by rfl)(hd:(x == ("__debug__" : Str))=false:=by decide):Ev X (.Name x p) σ H Q:=cT (UY hg hm r hd) h
theorem W1{x:Str}(v:V){u:Value}(hm:X.mg x=none)(hv:bootBuiltins x=some u)(r:RelV v u)(h:Q v H)(hg:Gl X x:=by rfl)(hn:x ≠ "__name__":=by decide)(hd:(x == ("__debug__" : Str))=false:=by decide):Ev X (.Name x p) σ H Q:=cT (UZ hg hm hv r hn hd) h
theorem aY{op:Operator}{r:R2}(ho:cM X (binaryOp op) r)(h:Ev X a σ H λx H1=>Ev X b σ H1 λy H2=>r x y H2 Q):Ev X (.BinOp a op b pos) σ H Q:=cT (Vx ho a8 a8) h
theorem Nw{op:UnaryOp}{r:V->Hp->VK->Prop}(ho:xI X (unaryOp op) r)(h:Ev X a σ H λx H1=>r x H1 Q):Ev X (.UnaryOp op a pos) σ H Q:=cT (Vy ho a8) h
theorem jC{op:CmpOp}{r:R2}(ho:cM X (compareOp op) r)(h:Ev X a σ H λx H1=>Ev X b σ H1 λy H2=>r x y H2 Q)(hm:behindInMarks op b=false:=by with_unfolding_all rfl):Ev X (.Compare a [op] [b] pos) σ H Q:=cT (VF ho a8 a8 hm) h
theorem W2(h:Ev X a σ H λx H1=>∃ k,x = .bl k/\Q (.bl (!k)) H1):Ev X (.UnaryOp .Not a pos) σ H Q:=cT (U9 a8) h
theorem DJ(h:Ev X a σ H λx H1=>∃ k,x = .bl k/\if k=true then Ev X (.BoolOp .And (b :: es) pos) σ H1 Q else Q (.bl false) H1):Ev X (.BoolOp .And (a :: b :: es) pos) σ H Q:=cT (U7 a8 a8) h
theorem W3(h:Ev X a σ H λx H1=>∃ k,x = .bl k/\if k=true then Q (.bl true) H1 else Ev X (.BoolOp .Or (b :: es) pos) σ H1 Q):Ev X (.BoolOp .Or (a :: b :: es) pos) σ H Q:=cT (U8 a8 a8) h
theorem DL{op:BoolOp}(h:Ev X a σ H Q):Ev X (.BoolOp op [a] pos) σ H Q:=cT (U6 a8) h
theorem W4(h:Et X c σ H λk H1=>if k=true then Ev X a σ H1 Q else Ev X b σ H1 Q):Ev X (.IfExp c a b pos) σ H Q:=cT (Va o6 a8 a8) h
theorem fu{r:R2}(hr:tK X r)(h:Ev X a σ H λx H1=>Ev X b σ H1 λy H2=>r x y H2 Q)(hs:MV b:=by intro _ _;rfl):Ev X (.Subscript a b pos) σ H Q:=cT (V6 hr a8 a8 hs) h
theorem Nx{r:V->Option Int->Option Int->Hp->VK->Prop}{lo hi:Option Expr}(hr:B0 X r)(h:Ev X a σ H λx H1=>Eo X lo σ H1 λl H2=>Eo X hi σ H2 λu H3=>r x l u H3 Q):Ev X (.Subscript a (.Slice lo hi none p2) pos) σ H Q:=cT (V2 hr a8 Nq Nq) h
theorem W5{R:Option Int->Hp->Prop}(h:R none H):Eo X none σ H R:=Nv (VZ) h
theorem DM{R:Option Int->Hp->Prop}(h:Ev X a σ H λx H1=>∃ i,x = .int i/\R (some i) H1):Eo X (some a) σ H R:=Nv (V0 a8) h
theorem aE(h:L [] H):Ea X [] σ H L:=Nu (VM) h
theorem ao(h:Ev X e σ H λx H1=>Ea X es σ H1 λxs H2=>L (x :: xs) H2)(hs:isStar e=false:=by rfl):Ea X (e :: es) σ H L:=Nu (WQ a8 iT hs) h
theorem iy{k:Nat}(h:Ea X es σ H λxs H1=>xs.length<=sizeLine/\∀ p,H1 p=none->Q (.ref p) (upd H1 p<|.tup xs)):Ev X (.Tuple es k pos) σ H Q:=cT (VO iT) h
theorem gO(h:Ea X es σ H λxs H1=>xs.length<=sizeLine/\∀ p,H1 p=none->Q (.ref p) (upd H1 p<|.lst xs)):Ev X (.List es pos) σ H Q:=cT (VP iT) h
theorem Ny{CX:fO}{k:Nat}{f:Addr}{fd:FuncData}{ps:List Str}{sp:Sp}{E:XK}{x:Str}(F:aB X.prog X.w X.K X.mg X.base CX k f fd ps sp)(hr:bb k X.A)(hm:X.mg x=some (.ref f))(hk:PySem.W.keepIn X.K (.ref f)=true)(hb:Binds X.K fd ps [])(hx:oO CX X E)
  (h:Ea X (e :: es) σ H λvs H1=>sp vs H1 Q E) (hg:Gl X x:=by rfl) (cx:(x == ("__debug__" : Str))=false:=by decide) (hs:noStar (e :: es)=true:=by rfl):Ev X (.Call (.Name x p) (e :: es) [] pos) σ H Q:=
 cT (WR F hr hm hk hb hx iT hg cx hs) (show Ea X (e :: es) σ H _ from h.mono λvs H1 q=>by rw [Be];exact q)
theorem dh{id:String}{r:List V->Hp->VK->Prop}{x:Str}(hc:fN X (.builtin id) r)(hm:X.mg x=none)(hv:bootBuiltins x=some (.builtin id))(h:Ea X (e :: es) σ H λvs H1=>r vs H1 Q)(hg:Gl X x:=by rfl)(hn:x ≠ "__name__":=by decide)(cx:(x == ("__debug__" : Str))=false:=by decide)
  (hs:noStar (e :: es)=true:=by rfl):Ev X (.Call (.Name x p) (e :: es) [] pos) σ H Q:=cT (DB hc hm hv iT hg hn cx hs) h
theorem xV{T:String}{r:List V->Hp->VK->Prop}{x:Str}(hc:fN X (.type T) r)(hm:X.mg x=none)(hv:bootBuiltins x=some (.type T))(h:Ea X (e :: es) σ H λvs H1=>r vs H1 Q)(hg:Gl X x:=by rfl)(hn:x ≠ "__name__":=by decide)(cx:(x == ("__debug__" : Str))=false:=by decide)
  (hs:noStar (e :: es)=true:=by rfl):Ev X (.Call (.Name x p) (e :: es) [] pos) σ H Q:=cT (DC hc hm hv iT hg hn cx hs) h
theorem d7{op:CmpOp}{r:R2}(ho:cM X (compareOp op) r)(h:Ev X a σ H λx H1=>Ev X b σ H1 λy H2=>r x y H2 λz H3=>∃ k,z = .bl k/\T k H3)(hm:behindInMarks op b=false:=by with_unfolding_all rfl):Et X (.Compare a [op] [b] pos) σ H T:=qZ (VH ho a8 a8 hm) h
theorem W6(h:Et X a σ H λk H1=>T (!k) H1):Et X (.UnaryOp .Not a pos) σ H T:=qZ (U3 o6) h
theorem xW(h:Ev X e σ H λx H1=>∃ k,x = .bl k/\T k H1)(he:∀ whole,isTrue e X.env whole=(do let v <- whole;standAt e.pos;holding [v] (truthy v)):=by intro _;rfl):Et X e σ H T:=qZ (U0 a8 he) h
theorem NA(h:Ev X e σ H λx H1=>∃ k,lz X.K x H1 k/\T k H1)(he:∀ whole,isTrue e X.env whole=(do let v <- whole;standAt e.pos;holding [v] (truthy v)):=by intro _;rfl):Et X e σ H T:=qZ (VJ a8 he) h
theorem DS(h:Ew X e σ H T):Et X e σ H T:=⟨λpins s I=>h.run _ pins s I⟩
theorem DT(h:Et X a σ H λk H1=>if k=true then Ew X (.BoolOp .And (b :: es) pos) σ H1 T else T false H1):Ew X (.BoolOp .And (a :: b :: es) pos) σ H T:=Nr (U2 o6 WZ) h
theorem DU(h:Et X a σ H T):Ew X (.BoolOp .And [a] pos) σ H T:=Nr (U1 o6) h
theorem aZ(i:Nat){x:Str}{v:V}{R:St->Hp->Prop}(hN:X.N.Nodup)(h:R (σ.set i<|some v) H)(hi:X.N[i]?=some x:=by rfl)(hx:Loc X.env.scope x:=by first | exact Or.inl rfl | exact Or.inr rfl)(hf:X.fn x=true\/X.env.scope.names.lookup x=some .local:=by first | exact .inl rfl | exact .inr rfl | assumption):Eg X (.Name x p) v σ H R:=DF (Vh hN hi hx hf) h
theorem run_set(i:Nat){x:Str}{pos':Pos}(hN:X.N.Nodup)(h:Ev X e σ H λv H1=>Run X rest D (σ.set i<|some v) H1)(hi:X.N[i]?=some x:=by rfl)(hx:Loc X.env.scope x:=by first | exact Or.inl rfl | exact Or.inr rfl)(hs:swapsWith e (some<|.Name x pos') pos.line X.env=pure false:=by rfl)
  (hf:X.fn x=true\/X.env.scope.names.lookup x=some .local:=by first | exact .inl rfl | exact .inr rfl | assumption):Run X (.Assign [.Name x pos'] e pos :: rest) D σ H:=jB (Vj hN hi hx a8 hs hf) h
theorem iz(h:Et X c σ H λk H1=>if k=true then Run X body {D with nx:=λσ' H'=>Run X rest D σ' H'} σ H1 else Run X oZ {D with nx:=λσ' H'=>Run X rest D σ' H'} σ H1):Run X (.If c body oZ pos :: rest) D σ H:=jB (Vg o6 nj nj) h
theorem NB(φ ψ:Prop)(hc:∀ T:Bool->Hp->Prop,(∀ k:Bool,(k=true->φ)->(k=false->ψ)->T k H)->Et X c σ H T)(ht:φ->Run X body {D with nx:=λσ' H'=>Run X rest D σ' H'} σ H)(hu:ψ->Run X oZ {D with nx:=λσ' H'=>Run X rest D σ' H'} σ H):Run X (.If c body oZ pos :: rest) D σ H:=
 iz (hc _ λk p q=>by
  cases k with
  | true=>rw [BL rfl];exact ht<|p rfl
  | false=>rw [BK Ba];exact hu<|q rfl)
theorem cy(h:Ev X e σ H D.rt):Run X (.Return (some e) pos :: rest) D σ H:=jB (Vf a8) h
theorem jD(h:Ev X e σ H λ_ H1=>Run X rest D σ H1)(hs:swapsWith e none pos.line X.env=pure false:=by rfl):Run X (.Expr e pos :: rest) D σ H:=jB (Ve a8 hs) h
theorem xX{tg:Expr}(h:Ev X e σ H λv H1=>Eg X tg v σ H1 λσ' H'=>Run X rest D σ' H')(hs:swapsWithSole [tg] e pos.line X.env=pure false:=by rfl)(hw:swappedStores [tg] e X.env=pure none:=by rfl)
  (h1:(assignEach [tg] X.env).map (·.2)=[assign tg X.env]:=by rfl):Run X (.Assign [tg] e pos :: rest) D σ H:=jB (Vi a8 o7 hs hw h1) h
def Loop(X:Cx)(tg:Expr)(body:List Stmt)(J:It)(D:Ends)(after:St->Hp->Prop)(σ:St)(H:Hp):Prop:=
 ∃ W:Nat->Nat->St->Hp->Prop,(∃ m,W 0 m σ H)/\∀ i m σ H,W i m σ H->(J.stop i H/\after σ H)\/(J.go i H/\∃ N:St->Hp->Prop,(∀ σ' H',N σ' H'->∃ m',m' < m/\W (i+1) m' σ' H') /\
  ∀ x H',J.tq i H x H'->Eg X tg x σ H' λσ2 H2=>Run X body {D with nx:=N,ct:=N,bk:=after} σ2 H2)
theorem xY{tg iter:Expr}{wi:TI}(hi:PI X tg iter wi)(h:wi σ H λJ H1=>Loop X tg body J D (λσ' H'=>Run X rest D σ' H') σ H1)(hp:PassesOwn (model X.prog X.w) X.A X.env X.xe:=by exact JZ)(hc:X.calm=true:=by rfl)
  (hs:∀ x,foldedSetIterable iter X.env x=pure x:=by intro _;rfl):Run X (.For tg iter body [] pos :: rest) D σ H:=jB (Vt hp hc hi o7 nj hs) h
theorem xZ{tg:Expr}{q:Pos}(hm:X.mg "range" = none)(h:Ev X a σ H λx H1=>∃ j:Int,x = .int j/\-(2 ^ 62)<=j/\j < 2 ^ 62/\Loop X tg body (qS 0 j.toNat) D (λσ' H'=>Run X rest D σ' H') σ H1)(hg:Gl X "range":=by rfl)(hp:PassesOwn (model X.prog X.w) X.A X.env X.xe:=by exact JZ)(hc:X.calm=true:=by rfl)(hs:isStar a=false:=by rfl) :
  Run X (.For tg (.Call (.Name "range" q) [a] [] p) body [] pos :: rest) D σ H:=
 xY (wi:=Mt<|tV X [a]) (Mu hg hm iT<|oY a [] _ hs) (show Ea X [a] σ H _ from ao (h.mono λx H1 ⟨j,e,h1,h2,h3⟩=>aE ⟨j,by rw [e],h1,h2,h3⟩) hs) hp hc (by intro _;rfl)
theorem W7{tg iter:Expr}(h:Ev X iter σ H λx H1=>∃ a,x = .ref a/\(∃ xs,bt X.K H1 a xs)/\Loop X tg body (xG X.K a) D (λσ' H'=>Run X rest D σ' H') σ H1)(hp:PassesOwn (model X.prog X.w) X.A X.env X.xe:=by exact JZ)(hc:X.calm=true:=by rfl)
  (hs:∀ x,foldedSetIterable iter X.env x=pure x:=by intro _;rfl):Run X (.For tg iter body [] pos :: rest) D σ H:=xY (Vq a8) h hp hc hs
theorem jE{tg iter:Expr}(h:Ev X iter σ H λx H1=>∃ a,x = .ref a/\(∃ xs,ai X.K H1 a xs)/\Loop X tg body (oF X.K a) D (λσ' H'=>Run X rest D σ' H') σ H1)(hp:PassesOwn (model X.prog X.w) X.A X.env X.xe:=by exact JZ)(hc:X.calm=true:=by rfl)
  (hs:∀ x,foldedSetIterable iter X.env x=pure x:=by intro _;rfl):Run X (.For tg iter body [] pos :: rest) D σ H:=xY (fM a8) h hp hc hs
theorem x4{tg:Expr}{lo:Int}{n:Nat}{after:St->Hp->Prop}(Pv:Nat->St->Hp->Prop)(h0:Pv 0 σ H)
  (hs:∀ i σ H,i < n->Pv i σ H->Eg X tg (.int<|lo+i) σ H λσ2 H2=>Run X body {D with nx:=Pv<|i+1,ct:=Pv<|i+1,bk:=after} σ2 H2) (hd:∀ σ H,Pv n σ H->after σ H):Loop X tg body (qS lo n) D after σ H:=by
 refine⟨λi m σ H=>m=n - i/\i<=n/\Pv i σ H,⟨n,by simp,Bn _,h0⟩,?_⟩;rintro i m σ H ⟨rfl,hi,p⟩
 by_cases aM:i < n
 ·refine .inr ⟨aM,Pv<|i+1,λσ' H' p'=>⟨n - (i+1),by omega,rfl,aM,p'⟩,λx H' y=>?_⟩;obtain⟨e,y⟩:=y;subst e y;exact hs i σ _ aM p
 ·have e:i=n:=by omega
  subst e;exact .inl ⟨Ai _,hd σ H p⟩
theorem W8{tg:Expr}{at_:Addr}{xs:List V}{after:St->Hp->Prop}(Pv:Nat->St->Hp->Prop)(h0:Pv 0 σ H)(hl:∀ i σ H,i<=xs.length->Pv i σ H->bt X.K H at_ xs)
  (hs:∀ i x σ H,xs[i]?=some x->Pv i σ H->Eg X tg x σ H λσ2 H2=>Run X body {D with nx:=Pv<|i+1,ct:=Pv<|i+1,bk:=after} σ2 H2) (hd:∀ σ H,Pv xs.length σ H->after σ H):Loop X tg body (xG X.K at_) D after σ H:=by
 refine⟨λi m σ H=>m=xs.length - i/\i<=xs.length/\Pv i σ H,⟨xs.length,by simp,Bn _,h0⟩,?_⟩;rintro i m σ H ⟨rfl,hi,p⟩;have q:=hl i σ H hi p
 by_cases aM:i < xs.length
 ·refine .inr ⟨⟨xs,xs[i],q,by simp [aM]⟩,Pv<|i+1,λσ' H' p'=>⟨xs.length - (i+1),by omega,rfl,aM,p'⟩,λx H' y=>?_⟩;obtain⟨e,y⟩:=y;subst e;exact hs i x σ _ (y xs q) p
 ·have e:i=xs.length:=by omega
  subst e;exact .inl ⟨⟨xs,q,Ai _⟩,hd σ H p⟩
theorem jF{tg:Expr}{at_:Addr}{xs:List V}{after:St->Hp->Prop}(Pv:Nat->St->Hp->Prop)(h0:Pv 0 σ H)(hl:∀ i σ H,i<=xs.length->Pv i σ H->ai X.K H at_ xs)
  (hs:∀ i x σ H,xs[i]?=some x->Pv i σ H->Eg X tg x σ H λσ2 H2=>Run X body {D with nx:=Pv<|i+1,ct:=Pv<|i+1,bk:=after} σ2 H2) (hd:∀ σ H,Pv xs.length σ H->after σ H):Loop X tg body (oF X.K at_) D after σ H:=by
 refine⟨λi m σ H=>m=xs.length - i/\i<=xs.length/\Pv i σ H,⟨xs.length,by simp,Bn _,h0⟩,?_⟩;rintro i m σ H ⟨rfl,hi,p⟩;have q:=hl i σ H hi p
 by_cases aM:i < xs.length
 ·refine .inr ⟨⟨xs,xs[i],q,by simp [aM]⟩,Pv<|i+1,λσ' H' p'=>⟨xs.length - (i+1),by omega,rfl,aM,p'⟩,λx H' y=>?_⟩;obtain⟨e,y⟩:=y;subst e;exact hs i x σ _ (y xs q) p
 ·have e:i=xs.length:=by omega
  subst e;exact .inl ⟨⟨xs,q,Ai _⟩,hd σ H p⟩
theorem bw.go{P:Program}{w:World}{K:PySem.W.Frag}{mg:Str->Option Value}{base:Heap}{x qual:Str}{st:Stmt}{f:Addr}{fd:FuncData}{N ps:List Str}{k:Nat}{sp:Sp}(F:bw K x qual st f fd)(S:aj N ps<|aP st)(len:∀ vs H Q E,sp vs H Q E->vs.length=ps.length)
  (ce : ∀ (bv : Value) (A : Around) (outer : List Env) (s : Shared) (H : Hp) (vs : List V) (Q : VK) (E : XK), bb k (A.deeper<|envOfC qual (aP st) s.heap.objs.size f bv) → sp vs H Q E →
   Run (dZ bE P w K mg base N qual (aP st) f bv A outer s H E).lq (iu st) {nx:=λ_ H'=>Q .non H',rt:=Q} (start N vs) H):aB P w K mg base bE (k+1) f fd ps sp:=
 F.ok S len λbv A outer s H vs Q E hr dB=>⟨_,nj,ce bv A outer s H vs Q E hr dB⟩
end
structure Ei(X:Cx)(ifs:List Expr)(σ:St)(H:Hp)(Q:Bool->Hp->Prop):Prop where
 run:∀(pins:List<|Addr×Obj) (s:Shared),Inv X pins σ H s ->
  wpAny (model X.prog X.w) X.A (forIn ifs true λc r=>if r=true then do let ok <- isTrue c X.env<|eval c X.env;pure (ForInStep.yield ok) else pure (ForInStep.yield r)) (TP X pins σ Q) X.xe s
def tW(X:Cx)(N':List Str)(scope:Scope)(e:Expr)(σ:St)(H:Hp)(Q:VK):Prop:=∀ cl C s₀ H₀ ex,Ev (fq X N' scope cl C s₀ H₀ ex) e σ H Q
def tX(X:Cx)(N':List Str)(scope:Scope)(e:Expr)(v:V)(σ:St)(H:Hp)(Q:St->Hp->Prop):Prop:=∀ cl C s₀ H₀ ex,Eg (fq X N' scope cl C s₀ H₀ ex) e v σ H Q
def tY(X:Cx)(N':List Str)(scope:Scope)(ifs:List Expr)(σ:St)(H:Hp)(Q:Bool->Hp->Prop):Prop:=∀ cl C s₀ H₀ ex,Ei (fq X N' scope cl C s₀ H₀ ex) ifs σ H Q
def kD(X:Cx)(N':List Str)(scope:Scope)(tg:Expr)(ifs:List Expr)(elt:Expr)(J:It)(D:Addr)(after:Hp->Prop)(σ:St)(H:Hp):Prop:=
 ∃ W:Nat->Nat->St->Hp->Prop,(∃ m,W 0 m σ H)/\∀ i m σ' H',W i m σ' H' ->
  (J.stop i H' ∧ after H') ∨ (J.go i H' ∧ ∃ N : St → Hp → Prop, (∀ σ' H', N σ' H' → ∃ m', m' < m ∧ W (i + 1) m' σ' H') ∧ ∀ x H2, J.tq i H' x H2 → tX X N' scope tg x σ' H2 λσ2 H3 => tY X N' scope ifs σ2 H3 λb H4 =>
   if b=true then tW X N' scope elt σ2 H4 λv H5=>∃ ys,H5 D=some (.lst ys)/\ys.length < sizeLine/\N σ2 (upd H5 D<|.lst<|ys++[v]) else N σ2 H4)
theorem o8:∀(names:List<|Str×NameKind) (n:Nat) (acc:List<|Str×Addr),cellsFrom n names acc=cellsFrom n names []++acc
 | [],_,_=>rfl
 | (y,k) :: r,n,acc=>by
  unfold cellsFrom
  split
  ·rw [o8 r (n+1)<|(y,n) :: acc,o8 r (n+1) [(y,n)],Bf];rfl
  ·exact o8 r n acc
theorem tZ:∀(names:List<|Str×NameKind) (n:Nat) {x:Str} {c:Addr},(x,c)∈cellsFrom n names []->(x,NameKind.cell)∈names/\n<=c
 | [],_,_,_,h=>by cases h
 | (y,k) :: r,n,x,c,h=>by
  unfold cellsFrom at h
  split at h
  ·rename_i hk;rw [o8,Ao] at h
   rcases h with h | h
   ·obtain⟨a,b⟩:=tZ r (n+1) h;exact⟨Ax _ a,by omega⟩
   ·cases Ae.mp h;have:k = .cell:=by cases k <;> first | rfl | exact absurd hk<|by decide
    subst this;exact⟨Aw,Ai _⟩
  ·obtain⟨a,b⟩:=tZ r n h;exact⟨Ax _ a,b⟩
theorem NC{names:List (Str×NameKind)}{n:Nat}{cl:List (Str×Addr)}{x:Str}{c:Addr}(h:(cellsFrom n names cl).lookup x=some c):((x,c)∈cellsFrom n names []/\n<=c)\/cl.lookup x=some c:=by
 rw [o8,QC] at h;cases e:(cellsFrom n names []).lookup x with
 | some d=>
  rw [e] at h;cases h;have hm:=DK e;exact .inl ⟨hm,(tZ _ _ hm).2⟩
 | none=>
  rw [e] at h;exact .inr h
theorem W9{names:List (Str×NameKind)}{n:Nat}{cl:List (Str×Addr)}{x:Str}(h:(x,NameKind.cell)∉names):(cellsFrom n names cl).lookup x=cl.lookup x:=by
 rw [o8,QC];cases e:(cellsFrom n names []).lookup x with
 | some d=>exact absurd (tZ _ _<|DK e).1 h
 | none=>rfl
section
variable{M:Model}{A:Around}{E:Value->Shared->Prop}{s:Shared}
theorem W'{scope:Scope}{globals:Addr}{closure:List (Str×Addr)}{qual:Str}{func:Option Addr}{code:Value}{outer:Env}{builtins:Addr}{Q:Env->Shared->Prop}
  (hQ : ∀ h', h'.Ns s.heap.objs.size (λ_ => none) → (∀ b o, s.heap.get? b = some o → h'.get? b = some o) → CellsOk h' (s.heap.objs.size + 1) (cellsFrom (s.heap.objs.size + 1) scope.names []) →
   Q (newEnv scope s.heap.objs.size globals (cellsFrom (s.heap.objs.size+1) scope.names closure) qual func code (some outer) builtins) {s with heap:=h'}) :
  wpAny M A (newFunctionEnv scope globals closure [] qual func code (some outer) builtins) Q E s:=by
 simp only [newFunctionEnv,Option.isSome_some,FN];refine BJ<|QB ?_;refine BJ (wpAny_layCells _ (λname kind cells=>by cases Xa:kind == NameKind.cell <;> simp [Xa]) _ _ _ _ ?_);have ok:=cellsFrom_ok scope.names (s.heap.push {cls:= .type "dict",data:= .dict #[]}) (s.heap.objs.size+1) [] ⟨λ_ _ hm=>(nomatch hm),List.Pairwise.nil⟩ (by rw [Dc];exact Ai _);rw [Dc] at ok;rw [show({s with heap:=s.heap.push {cls:= .type "dict",data:= .dict #[]}}:Shared).heap.objs.size=s.heap.objs.size+1 from Dc ..];rw [List.forIn_nil];exact BJ<|BP<|BP<|hQ _ ((Heap.Ns.new s.heap<|.type "dict").keeps<|pushCells_keeps _ _) (λb o e=>pushCells_keeps _ _ b o<|Af _ e) ok
end
def lN(sc scope:Scope)(N N':List Str):Bool:=
 (match scope.kind with | .function=>true | _=>false) &&
 scope.names.all (λy=>match y.2 with
  | .cell=>(match scope.names.lookup y.1 with | some .cell=>true | _=>false)
  | .local=>(match scope.names.lookup y.1 with | some .local=>true | _=>false)
  | .free=>(match sc.names.lookup y.1 with | some .cell=>true | some .free=>true | _=>false) && (match scope.names.lookup y.1 with | some .free=>true | _=>false)
  | _=>true) &&
 (List.range N'.length).all λi => match N'[i]? with
  | none=>true
  | some x=>match scope.names.lookup x with
   | some .local=>decide (N.length<=i)
   | some .cell=>decide (N.length<=i)
   | some .free=>decide (N[i]?=some x)
   | _=>true
structure cf(sc scope:Scope)(N N':List Str):Prop where
 kind:scope.kind = .function
 cell:∀ y∈scope.names,y.2 = .cell->scope.names.lookup y.1=some .cell
 names:∀ y∈scope.names,y.2 = .local->scope.names.lookup y.1=some .local
 free:∀ y∈scope.names,y.2 = .free->sc.names.lookup y.1=some .cell\/sc.names.lookup y.1=some .free
 ND:∀ y∈scope.names,y.2 = .free->scope.names.lookup y.1=some .free
 own:∀(i:Nat) x,N'[i]?=some x->scope.names.lookup x=some .local->N.length<=i
 DV:∀(i:Nat) x,N'[i]?=some x->scope.names.lookup x=some .cell->N.length<=i
 out:∀(i:Nat) x,N'[i]?=some x->scope.names.lookup x=some .free->N[i]?=some x
theorem cf.of{sc scope:Scope}{N N':List Str}(h:lN sc scope N N'=true):cf sc scope N N':=by
 unfold lN at h;rw [Bu,Bu] at h;obtain⟨⟨h1,h2⟩,h3⟩:=h;have jG:=Dk.mp h2;have DZ:=Dk.mp h3;refine⟨?_,λy hy e=>?_,λy hy e=>?_,λy hy e=>?_,λy hy e=>?_,λi x hi e=>?_,λi x hi e=>?_,λi x hi e=>?_⟩
 ·revert h1;cases scope.kind <;> intro h1 <;> first | rfl | cases h1
 ·have q:=jG y hy;rw [e] at q;simp only at q
  split at q
  ·assumption
  ·cases q
 ·have q:=jG y hy;rw [e] at q;simp only at q
  split at q
  ·assumption
  ·cases q
 ·have q:=jG y hy;rw [e] at q;simp only at q;rw [Bu] at q;have q:=q.1
  split at q
  ·exact .inl<|by assumption
  ·exact .inr<|by assumption
  ·cases q
 ·have q:=jG y hy;rw [e] at q;simp only at q;rw [Bu] at q;have q:=q.2
  split at q
  ·assumption
  ·cases q
 ·have q:=DZ i<|Bh.mpr (Ab.mp hi).1;rw [hi] at q;simp only [e] at q;exact CG q
 ·have q:=DZ i<|Bh.mpr (Ab.mp hi).1;rw [hi] at q;simp only [e] at q;exact CG q
 ·have q:=DZ i<|Bh.mpr (Ab.mp hi).1;rw [hi] at q;simp only [e] at q;exact CG q
section
variable{X:Cx}{pins:List (Addr×Obj)}{σ:St}{H:Hp}{s:Shared}
theorem Xb{N':List Str}{scope:Scope}{n:Nat}{fp:List Addr}{h₁:Heap}{t':Nat}{m:Str->Option Value}(I:Inv X pins σ H s)(ck:cf X.env.scope scope X.N N')(hl:N'.length=X.N.length+n)
  (m9:h₁.Ns s.heap.objs.size m) (old:∀ b o,s.heap.get? b=some o->h₁.get? b=some o) (cJ:CellsOk h₁ (s.heap.objs.size+1)<|cellsFrom (s.heap.objs.size+1) scope.names [])
  (nn:∀ b∈fp,b8 X pins H b/\b < s.heap.objs.size) :
  Inv (fq X N' scope (cellsFrom (s.heap.objs.size+1) scope.names<|cB scope.names X.env.cells []) s.heap.objs.size s H fp) [] (σ++List.replicate n none) H {s with heap:=h₁,toks:=t'}:=by
 have sub:∀ x c,(cB scope.names X.env.cells []).lookup x=some c->X.env.cells.lookup x=some c:=λx c e=>C7 _ _ _ (λ_ _ z=>by simp at z) x c<|DK e;have both:∀ x c,(cellsFrom (s.heap.objs.size+1) scope.names<|cB scope.names X.env.cells []).lookup x=some c->((x,c)∈cellsFrom (s.heap.objs.size+1) scope.names []/\s.heap.objs.size+1<=c)\/X.env.cells.lookup x=some c:=λx c e=>by
  rcases NC e with z | z
  ·exact .inl z
  ·exact .inr<|sub x c z
 have nq:∀ x c,X.env.cells.lookup x=some c->c < s.heap.objs.size:=λx c e=>by
  obtain⟨v,o,ho,_⟩:=I.cell x c e;exact Au ho
 have Xc:H s.heap.objs.size=none:=I.aC.fresh<|Ai _;have kindOf:∀{x:Str} {k':NameKind},(relabel scope X.env).names.lookup x=some k'->∃ k,scope.names.lookup x=some k/\(k'=k\/(k = .free/\k' = .cell)):=λz=>Nj z;have NF:∀ x,scope.names.lookup x=some .free->(cellsFrom (s.heap.objs.size+1) scope.names<|cB scope.names X.env.cells []).lookup x=(cB scope.names X.env.cells []).lookup x:=λx e=>W9 λhm=>by
  have:=ck.cell _ hm rfl;rw [e] at this;cases this
 have D0:∀ x,scope.names.lookup x=some .cell->∃ c,(cellsFrom (s.heap.objs.size+1) scope.names<|cB scope.names X.env.cells []).lookup x=some c:=λx e=>Fm.mp<|JD _ _ _<|.inl e;have Xd:(fq X N' scope (cellsFrom (s.heap.objs.size+1) scope.names<|cB scope.names X.env.cells []) s.heap.objs.size s H fp).Ok:=by
  refine⟨I.ok.mod,ck.kind,I.ok.glob,I.ok.blt,Ai _,λx y c e1 e2=>?_,λx hx=>?_,λx c hf e=>?_,I.ok.hd,I.ok.frames,.inl rfl,λb hb=>⟨Bp (nn b hb).2,λx c e=>?_⟩,
   I.bs,Ck I.ok.jb I.sz,λb o e hb=>?_,λb hb hf=>?_,I.stack,I.dA⟩
  ·rcases both x c e1 with z1 | z1
   ·rcases both y c e2 with z2 | z2
    ·exact name_of_addr cJ.apart z1.1 z2.1
    ·exact absurd (nq y c z2)<|Nat.not_lt.mpr<|Fg z1.2
   ·rcases both y c e2 with z2 | z2
    ·exact absurd (nq x c z1)<|Nat.not_lt.mpr<|Fg z2.2
    ·exact I.ok.inj x y c z1 z2
  ·have dC:(relabel scope X.env).names.lookup x=some .cell\/(relabel scope X.env).names.lookup x=some .free:=hx;have:∃ k,scope.names.lookup x=some k/\(k = .free\/k = .cell):=by
    rcases dC with z | z
    ·obtain⟨k,e,r⟩:=kindOf z
     rcases r with r | ⟨r,_⟩
     ·exact⟨k,e,.inr r.symm⟩
     ·exact⟨k,e,.inl r⟩
    ·obtain⟨k,e,r⟩:=kindOf z
     rcases r with r | ⟨r,_⟩
     ·exact⟨k,e,.inl r.symm⟩
     ·exact⟨k,e,.inl r⟩
   obtain⟨k,e,rfl | rfl⟩:=this
   ·have hm:=DK e;obtain⟨c,hc⟩:=I.ok.has x<|ck.free _ hm rfl;obtain⟨d,hd⟩:=C9<|C8 scope.names X.env.cells [] x c hm hc;exact⟨d,(NF x e).trans hd⟩
   ·exact D0 x e
  ·have hx:scope.names.lookup x=some .cell:=by
    have x5:(match scope.names.lookup x with | some .cell=>true | _=>false)=true:=hf
    split at x5
    ·assumption
    ·cases x5
   have e':(cellsFrom (s.heap.objs.size+1) scope.names<|cB scope.names X.env.cells []).lookup x=some c:=e;have q1:=Fm.mp<|JD scope.names (s.heap.objs.size+1) []<|.inl hx;obtain⟨d,hd⟩:=q1;rw [o8,QC,hd] at e';have e2:d=c:=Option.some.inj e';have:=(tZ _ _<|DK hd).2;rw [<- e2];exact Fg this
  ·have e':(cellsFrom (s.heap.objs.size+1) scope.names<|cB scope.names X.env.cells []).lookup x=some c:=e
   rcases both x c e' with z | z
   ·have h1:=(nn b hb).2;have h2:=z.2;exact λk=>absurd h1<|Nat.not_lt.mpr<|by rw [<- k];exact Fg h2
   ·exact(nn b hb).1.2.2.2.2.1 x c z
  ·have:=(nn b hb).1.2.2.2.1
   rcases this with z | z
   ·exact I.ok.fi b o e z
   ·exact absurd (Bo (Au e)<|Ck I.ok.jb z)<|Cu _
  ·rcases Ar.mp (I.cZ b hf) with z | z
   ·exact(nn b hb).1.2.1 z
   ·exact(nn b hb).1.2.2.1 z
 refine⟨Xd,rfl,I.bare,Un.kept old,⟨m,m9,λi x v e1 e2 e3=>?_⟩,λx c e=>?_,Xc,λx c e=>?_,λp hp=>absurd hp (by simp [fq]),I.aC.kept old,?_⟩
 ·have hi:i < σ.length:=by
   by_cases hi:i < σ.length
   ·exact hi
   ·rw [Am (by omega),Fn] at e2
    split at e2 <;> cases e2
  rw [Aj hi] at e2;have t3:N'[i]?=some x:=e1;have Xe:∃ k',(relabel scope X.env).names.lookup x=some k'/\(k' = .local\/k' = .cell\/k' = .free):=by
   rcases e3 with z | z | z
   ·exact⟨_,z,.inl rfl⟩
   ·exact⟨_,z,.inr<|.inl rfl⟩
   ·exact⟨_,z,.inr<|.inr rfl⟩
  obtain⟨k',D1,t4⟩:=Xe;obtain⟨k,ek,r⟩:=kindOf D1;have kf:k = .free:=by
   rcases r with r | ⟨r,_⟩
   ·subst r
    rcases t4 with z | z | z
    ·subst z;have:=ck.own i x t3 ek;rw [I.len] at hi;omega
    ·subst z;have:=ck.DV i x t3 ek;rw [I.len] at hi;omega
    ·exact z
   ·exact r
  subst kf;have hm:=DK ek;have Xf:=ck.out i x t3 ek;obtain⟨m0,hn0,o9⟩:=I.loc;have kx:=ck.free _ hm rfl;obtain⟨u,ru,lk⟩:=o9 i x v Xf e2 (by rcases kx with z | z;exact .inr<|.inl z;exact .inr<|.inr z);refine⟨u,ru,.inr ⟨?_,?_⟩⟩
  ·rcases r with r | ⟨_,r⟩
   ·subst r;exact .inr D1
   ·subst r;exact .inl D1
  ·rcases lk with ⟨k1,_⟩ | ⟨_,c,hc,im⟩
   ·have D4:X.env.scope.names.lookup x=some .local:=k1
    rcases kx with z | z
    ·rw [D4] at z;cases z
    ·rw [D4] at z;cases z
   ·have t6:=C8 scope.names X.env.cells [] x c hm hc;obtain⟨d,hd⟩:=C9 t6;have:d=c:=Option.some.inj<|(sub x d hd).symm.trans hc;subst this;obtain⟨o,ho,iU⟩:=im;exact⟨d,(NF x ek).trans hd,o,old _ _ ho,iU⟩
 ·have e':(cellsFrom (s.heap.objs.size+1) scope.names<|cB scope.names X.env.cells []).lookup x=some c:=e
  rcases both x c e' with z | z
  ·exact⟨none,(cJ.empty x c z.1).1⟩
  ·obtain⟨v,o,ho,iU⟩:=I.cell x c z;exact⟨v,o,old _ _ ho,iU⟩
 ·have e':(cellsFrom (s.heap.objs.size+1) scope.names<|cB scope.names X.env.cells []).lookup x=some c:=e
  rcases both x c e' with z | z
  ·exact I.aC.fresh<|Fg z.2
  ·exact I.bg x c z
 ·rw [Ad,Fx,I.len];exact hl.symm
end
structure Clause(e:Expr)(d:Nat)(tg iter:Expr)(ifs:List Expr)(acc:Value)(env:Env)(inner:Sem Unit):Prop where
 at':(clausesOf e)[d]?=some ⟨tg,iter,ifs,0⟩
 quiet:∀ it,(Code.compLoop e d it acc env).quiet=true
 den:∀(prog:Program) (w:World) it,(model prog w).den (.compLoop e d it acc env)=(compTurn e d it acc env).onRaise (λx=>do noteFrame x env;theTreesLotGoes x)
 Xg:∀(A:Around) it,A.under (.compLoop e d it acc env)=A
 D5:∀(prog:Program) (w:World) it,(model prog w).den (.compStart e d it acc env)=(compStart e d it acc env).onRaise (λx=>do noteFrame x env;standAt theWindowsPlace)
 D6:∀(A:Around) it,A.under (.compStart e d it acc env)=A
 turn:∀ it,compTurn e d it acc env=(do
   standAt iter.pos
   match <- pyNext it with
   | none=>pure<|.done .next
   | some v=>
    letOwnedTupleGo tg it v
    assign tg env v
    let mut ok:=true
    for c in ifs do
     if ok then ok <- isTrue c env<|eval c env
    if ok then
     inner
    again (.compLoop e d it acc env))
section
variable{prog:Program}{w:World}{A:Around}{R:Result->Shared->Prop}{s:Shared}
theorem Xh{e:Expr}{d:Nat}{tg iter:Expr}{ifs:List Expr}{it acc:Value}{env:Env}{inner:Sem Unit}(C:Clause e d tg iter ifs acc env inner)(I:Nat->Shared->Prop)
  (turn : ∀ n s, I n s → wpAny (model prog w) A (pyNext it) (λr s₁ => match r with
   | none=>R (.ok .next) s₁
   | some v=>wpAny (model prog w) A (letOwnedTupleGo tg it v) (λ_ s₁'=>wpAny (model prog w) A (assign tg env v) (λ_ s₂=>
     wpAny (model prog w) A (forIn ifs true λc r=>if r=true then do let ok <- isTrue c env<|eval c env;pure (ForInStep.yield ok) else pure (ForInStep.yield r)) (λok s₃=>
      if ok=true then wpAny (model prog w) A inner (λ_ s₄=>∃ m,m < n/\I m s₄) (notedBy (model prog w) A env λe s'=>R (.error e) s') s₃
      else ∃ m,m < n/\I m s₃) (notedBy (model prog w) A env λe s'=>R (.error e) s') s₂) (notedBy (model prog w) A env λe s'=>R (.error e) s') s₁') (notedBy (model prog w) A env λe s'=>R (.error e) s') s₁) (notedBy (model prog w) A env λe s'=>R (.error e) s') s)
  (n:Nat) (h:I n s) :
  codeAny (model prog w) A (.compLoop e d it acc env) R s:=by
 refine codeAny_loop (C.quiet it) I (λn s hI=>?_) n h;rw [C.Xg,C.den];refine wpAny_noted ?_;rw [C.turn];refine BJ<|FT<|BJ<|CV (turn n s hI) (λr s₁ h₁=>?_) λ_ _ h'=>h';cases r with
 | none=>exact BP h₁
 | some v=>
  refine BJ<|CV h₁ (λ_ s₁' h₁'=>?_) λ_ _ h'=>h';refine BJ<|CV h₁' (λ_ s₂ h₂=>BJ<|CV h₂ (λok s₃ h₃=>?_) λ_ _ h'=>h') λ_ _ h'=>h';cases ok with
  | false=>exact BP ⟨rfl,h₃⟩
  | true=>exact BJ<|CV h₃ (λ_ s₄ h₄=>BP ⟨rfl,h₄⟩) λ_ _ h'=>h'
theorem Xi{e:Expr}{d:Nat}{tg iter:Expr}{ifs:List Expr}{it acc:Value}{env:Env}{inner:Sem Unit}(C:Clause e d tg iter ifs acc env inner)
  (h0:codeAny (model prog w) A (.compLoop e d it acc env) R s)
  (h:wpAny (model prog w) A (pyIter it) (λD7 s'=>codeAny (model prog w) A (.compLoop e d D7 acc env) R s') (notedBy (model prog w) A env λx s'=>R (.error x) s') s) :
  codeAny (model prog w) A (.compStart e d it acc env) R s:=by
 refine KC ?_;rw [C.D6,C.D5];refine wpAny_notedAt ?_;unfold compStart;rw [C.at'];show wpAny _ _ (ask >>= _) _ _ s;refine BJ<|JN<|wpAny_ite ?_
 split
 ·first
   | exact BJ<|BP<|BP<|And.intro (C.quiet _) h0
   | exact BP<|And.intro (C.quiet _) h0
 ·first
   | exact BJ<|JB<|BJ<|FT<|BJ<|CV h (λD7 s' h'=>BP<|And.intro (C.quiet _) h') λ_ _ x=>x
   | (refine BJ<|JB ?_;show wpAny _ _ (standAt iter.pos >>= _) _ _ s;exact BJ<|FT<|BJ<|CV h (λD7 s' h'=>BP<|And.intro (C.quiet _) h') λ_ _ x=>x)
end
structure kE(X:Cx)(m:Sem Unit)(σ:St)(H:Hp)(Q:St->Hp->Prop):Prop where
 run:∀(pins:List<|Addr×Obj) (s:Shared),Inv X pins σ H s->wpAny (model X.prog X.w) X.A m (λ_ s'=>∃ σ' H',Inv X pins σ' H' s'/\Q σ' H') X.xe s
def gP(X:Cx)(tg:Expr)(ifs:List Expr)(inner:Sem Unit)(J:It)(after:St->Hp->Prop)(σ:St)(H:Hp):Prop:=
 ∃ W:Nat->Nat->St->Hp->Prop,(∃ m,W 0 m σ H)/\∀ i m σ' H',W i m σ' H' ->
  (J.stop i H' ∧ after σ' H') ∨ (J.go i H' ∧ ∃ N : St → Hp → Prop, (∀ σ' H', N σ' H' → ∃ m', m' < m ∧ W (i + 1) m' σ' H') ∧ ∀ x H2, J.tq i H' x H2 → Eg X tg x σ' H2 λσ2 H3 => Ei X ifs σ2 H3 λb H4 =>
   if b=true then kE X inner σ2 H4 N else N σ2 H4)
theorem x6{X:Cx}(lP:X.xe=λ_ _=>False)(hc:X.calm=true){e:Expr}{d:Nat}{tg iter:Expr}{ifs:List Expr}{acc:Value}{inner:Sem Unit}(C:Clause e d tg iter ifs acc X.env inner){pins:List (Addr×Obj)}{σ:St}{H:Hp}{s:Shared}
  {it:Addr} {fp:List Addr} {tn:Nat->Heap->Prop} {J:It} {after:St->Hp->Prop} {R:Result->Shared->Prop} (I:Inv X pins σ H s) (T:Turn X.prog X.w X.K tg J fp it tn) (st:tn 0 s.heap) (hf:∀ b∈fp,b8 X pins H b) (h:gP X tg ifs inner J after σ H)
  (hR:∀ σ' H' s',Inv X pins σ' H' s'->after σ' H'->R (.ok .next) s') :
  codeAny (model X.prog X.w) X.A (.compStart e d (.ref it) acc X.env) R s:=by
 obtain⟨W,⟨m0,w0⟩,turn⟩:=h;have stat:∀{H':Hp},(∀ b∈fp,H' b=none)->∀ b∈fp,b8 X pins H' b:=λhn b hb=>⟨hn b hb,(hf b hb).2⟩;have loop:codeAny (model X.prog X.w) X.A (.compLoop e d (.ref it) acc X.env) R s:=by
  refine Xh C (λk s'=>∃ i σ' H',Inv X pins σ' H' s'/\tn i s'.heap/\(∀ b∈fp,H' b=none)/\W i k σ' H') ?_ m0 ⟨0,σ,H,I,st,λb hb=>(hf b hb).1,w0⟩;rintro k s4 ⟨i,σ4,H4,J4,pc,NI,w4⟩
  rcases turn i k σ4 H4 w4 with ⟨stop,qn⟩ | ⟨go,N,hN,step⟩
  ·have d1:=T.done X rfl rfl rfl hc i pins s4 σ4 H4 (λ_ _=>False) J4 (stat NI) pc stop;refine iS d1 λr s5 ⟨hr,I5⟩=>?_;subst hr;exact hR _ _ _ I5 qn
  ·have d1:=T.item X rfl rfl rfl hc i pins s4 σ4 H4 (λ_ _=>False) J4 (stat NI) pc go;refine iS d1 λr s5 ⟨u,hr,h5⟩=>?_;subst hr;refine iS h5 λ_ s6 ⟨x,H6,I6,r6,y6,D8,Xj⟩=>?_;have Xk:=I6.pinned (stat Xj)<|T.obj _ _ D8;have again:∀{σ7:St} {H7:Hp} {s7:Shared},Inv X (pins++tD fp s6.heap) σ7 H7 s7->N σ7 H7->∃ m,m < k/\∃ i σ' H',Inv X pins σ' H' s7/\tn i s7.heap/\(∀ b∈fp,H' b=none)/\W i m σ' H':=λ{σ7 H7 s7} I7 n7=>by
    obtain⟨m',hm,w7⟩:=hN σ7 H7 n7;refine⟨m',hm,i+1,σ7,H7,I7.cL,T.keep _ _ _ D8 λb hb o e=>(I7.pin (b,o)<|Bb _<|Bb _<|xH hb e).1,λb hb=>?_,w7⟩;obtain⟨o,e,d⟩:=T.obj _ _ D8 b hb;exact(I7.pin (b,o)<|Bb _<|Bb _<|xH hb e).2.1
   have a1:=(step x H6 y6).run _ s6 u Xk r6;rw [lP] at a1;refine iS a1 λ_ s7 ⟨σ7,H7,I7,q7⟩=>?_;have a2:=q7.run _ s7 I7;rw [lP] at a2;refine iS a2 λok s8 ⟨H8,I8,q8⟩=>?_;cases ok with
   | false=>
    rw [BK Ba] at q8 ⊢;exact again I8 q8
   | true=>
    rw [BL rfl] at q8 ⊢;have a3:=q8.run _ s8 I8;rw [lP] at a3;exact iS a3 λ_ s9 ⟨σ9,H9,I9,q9⟩=>again I9 q9
 exact Xi C loop<|T.self _ 0 _ _ _ st loop
theorem NM{X:Cx}{e:Expr}{tg iter:Expr}{ifs:List Expr}{scope:Scope}{N':List Str}{newAcc:Sem Value}{o0:Obj}{u0:Addr->HO}{n:Nat}{inner:Value->Env->Sem Unit}{pins:List (Addr×Obj)}{σ:St}{H2:Hp}{s2:Shared}{E:Value->Shared->Prop}{RR:Value->Addr->Result->Shared->Prop}{it:Addr}{fp:List Addr}{tn:Nat->Heap->Prop}{J:It}{Q:VK}
  (gQ:∀(Q:Value->Shared->Prop) (E:Value->Shared->Prop) (s:Shared),Q (.ref s.heap.objs.size) {s with heap:=s.heap.push o0}->wpAny (model X.prog X.w) X.A newAcc Q E s) (gN:∀(H:Hp) (h:Heap),sysModules < h.objs.size->ay X.prog X.w H (h.push o0) h.objs.size (u0 h.objs.size))
  (hc:X.calm=true) (ck:cf X.env.scope scope X.N N') (hl:N'.length=X.N.length+n) (hC:∀ acc env,Clause e 0 tg iter ifs acc env<|inner acc env)
  (I2:Inv X pins σ H2 s2) (T:Turn X.prog X.w X.K tg J fp it tn) (bz:tn 0 s2.heap) (f2:∀ b∈fp,b8 X pins H2 b)
  (q:∀ D,H2 D=none->∀ cl C s₀ H₀ ex,gP (fq X N' scope cl C s₀ H₀ ex) tg ifs (inner (.ref D)<|compEnvC scope cl C X.env) J (λ_ H'=>Q (.ref D) H') (σ++List.replicate n none)<|upd H2 D<|u0 D)
  (D9:∀ D C H' s' m,Inv X pins σ H' s'->s'.heap.Ns C m->H' C=none->C≠X.env.locals->X.s₀.heap.objs.size<=C->(∀ x c,X.env.cells.lookup x=some c->c≠C)->(∀ p∈X.pn++pins,p.1≠C)->Q (.ref D) H'->RR (.ref D) C (.ok .next) s') :
  wpAny (model X.prog X.w) X.A newAcc (λacc s₃=>wpAny (model X.prog X.w) X.A (newFunctionEnv scope X.env.globals (cB scope.names X.env.cells []) [] X.env.qual none .none<|some X.env) (λjH s₄=>
   codeAny (model X.prog X.w) X.A (.compStart e 0 (.ref it) acc {jH with scope:=relabel scope X.env}) (RR acc jH.locals) s₄) E s₃) E s2:=by
 refine gQ _ _ _<|W' λh₁ hns₁ old₁ hcs₁=>?_;have hD:H2 s2.heap.objs.size=none:=I2.aC.fresh<|Ai _;have q0:=q s2.heap.objs.size hD;have fl:∀ b∈fp,b < s2.heap.objs.size:=λb hb=>by
  obtain⟨o,e,_⟩:=T.obj 0 _ bz b hb;exact Au e
 have I3:Inv X pins σ (upd H2 s2.heap.objs.size<|u0 s2.heap.objs.size) {s2 with heap:=s2.heap.push o0}:=
  I2.laid (t':=s2.toks) (λb o e=>Af _ e) (Ai _) (gN _ _ I2.big)
 generalize x8:({s2 with heap:=s2.heap.push o0}:Shared)=s3 at I3 hns₁ old₁ hcs₁ ⊢;have Xl:s3.heap.objs.size=s2.heap.objs.size+1:=by rw [<- x8];exact Dc ..
 have EA:∀ b o,s2.heap.get? b=some o->s3.heap.get? b=some o:=λb o e=>by rw [<- x8];exact Af _ e
 have old:∀ b o,s3.heap.get? b=some o->h₁.get? b=some o:=old₁;have f3:∀ b∈fp,b8 X pins (upd H2 s2.heap.objs.size<|u0 s2.heap.objs.size) b/\b < s3.heap.objs.size:=λb hb=>by
  refine⟨⟨?_,(f2 b hb).2⟩,by rw [Xl];exact Ce<|fl b hb⟩;rw [ax<|Bp<|fl b hb];exact(f2 b hb).1
 have I4:=λ(t':Nat)=>Xb (N':=N') (scope:=scope) (n:=n) (fp:=fp) (h₁:=h₁) (t':=t') I3 ck hl hns₁ old hcs₁ f3;generalize hX:fq X N' scope (cellsFrom (s3.heap.objs.size+1) scope.names<|cB scope.names X.env.cells []) s3.heap.objs.size s3 (upd H2 s2.heap.objs.size<|u0 s2.heap.objs.size) fp=X' at I4;have eP:X'.prog=X.prog:=by rw [<- hX];rfl
 have ew:X'.w=X.w:=by rw [<- hX];rfl
 have eK:X'.K=X.K:=by rw [<- hX];rfl
 have eA:X'.A=X.A:=by rw [<- hX];rfl
 have eE:X'.env=compEnvC scope (cellsFrom (s3.heap.objs.size+1) scope.names<|cB scope.names X.env.cells []) s3.heap.objs.size X.env:=by rw [<- hX];rfl
 have ec:X'.calm=true:=by rw [<- hX];exact hc
 have Mf:X'.xe=λ_ _=>False:=by rw [<- hX];rfl
 have stat:∀{H':Hp},(∀ b∈fp,H' b=none)->∀ b∈fp,b8 X' [] H' b:=λhn b hb=>by
  refine⟨hn b hb,?_,?_,?_,?_,?_⟩
  ·rw [eE];exact Bp (f3 b hb).2
  ·rw [<- hX];intro hf
   rcases Ar.mp (I3.cZ b hf) with z | z
   ·exact(f3 b hb).1.2.1 z
   ·exact(f3 b hb).1.2.2.1 z
  ·rw [<- hX];exact .inl hb
  ·rw [eE];intro x c e
   rcases NC e with z | z
   ·exact λk=>absurd (f3 b hb).2<|Nat.not_lt.mpr<|by rw [<- k];exact Fg z.2
   ·exact(f3 b hb).1.2.2.2.2.1 x c<|C7 _ _ _ (λ_ _ z=>by simp at z) x c<|DK z
  ·rw [<- hX];intro p hp;exact absurd hp<|by simp [fq]
 have fin:∀{σ':St} {H':Hp} {s':Shared},Inv X' [] σ' H' s'->Q (.ref s2.heap.objs.size) H'->RR (.ref s2.heap.objs.size) s3.heap.objs.size (.ok .next) s':=λ{σ' H' s'} I' q'=>by
  obtain⟨m',m3,_⟩:=id I'.loc;rw [eE] at m3;have Xm:s'.os=s3.os:=by have:=I'.os;rw [<- hX] at this;exact this
  have Xn:Un (df X.stack) fp (upd H2 s2.heap.objs.size<|u0 s2.heap.objs.size) H' s3.heap s'.heap:=by have:=I'.base;rw [<- hX] at this;exact this
  have aC:b7 X.prog X.w H' s'.heap:=by have:=I'.aC;rw [eP,ew] at this;exact this
  have IX:Inv X pins σ H' s':=I3.call' (ch:=fp) Xm Xn aC I'.bare λb hb=>⟨(f3 b hb).1.2.2.2.1,(f3 b hb).1.2.1,(f3 b hb).1.2.2.2.2.1,(f3 b hb).1.2.2.2.2.2⟩;have kF:=I'.free;rw [eE] at kF;refine D9 _ _ H' s' m' IX m3 kF (Di I3.lt) I3.sz (λx c e z=>?_) (λp hp z=>?_) q'
  ·obtain⟨v,o,ho,_⟩:=I3.cell x c e;exact absurd (Au ho)<|by rw [z];exact Cu _
  ·exact absurd (Au (I3.pin p hp).1)<|by rw [z];exact Cu _
 have Xp:∀ b∈fp,b8 X' [] (upd H2 s2.heap.objs.size<|u0 s2.heap.objs.size) b:=stat λb hb=>(f3 b hb).1.1;have q1:gP X' tg ifs (inner (.ref s2.heap.objs.size) X'.env) J (λ_ H'=>Q (.ref s2.heap.objs.size) H') (σ++List.replicate n none) (upd H2 s2.heap.objs.size<|u0 s2.heap.objs.size):=by
  rw [eE,<- hX];exact q0 _ _ _ _ _
 have T':Turn X'.prog X'.w X'.K tg J fp it tn:=by rw [eP,ew,eK];exact T
 have fin2:=x6 (s:={s3 with heap:=h₁,toks:=s3.toks}) Mf ec (hC (.ref s2.heap.objs.size) X'.env) (I4 s3.toks) T' (T.keep 0 _ _ bz λb _ o e=>old b o<|EA b o e) Xp q1 (R:=RR (.ref s2.heap.objs.size) s3.heap.objs.size) λσ' H' s' I' a'=>fin I' a';rw [eP,ew,eA,eE] at fin2;exact fin2
def emit(elt:Expr)(acc:Value)(env:Env):Sem Unit:=do let _ <- call (.builtin "list.append") [acc,<- eval elt env]
section
variable{X:Cx}{elt tg iter:Expr}{ifs:List Expr}{scope:Scope}{pos:Pos}{σ:St}{H:Hp}{acc:Value}{env:Env}{N':List Str}{J:It}
theorem Xq:Clause (.ListComp elt [⟨tg,iter,ifs,0⟩] scope pos) 0 tg iter ifs acc env (emit elt acc env):=⟨rfl,λ_=>rfl,λ_ _ _=>rfl,λ_ _=>rfl,λ_ _ _=>rfl,λ_ _=>rfl,λ_=>rfl⟩
theorem NS{D:Addr}{Q:St->Hp->Prop} (h:Ev X elt σ H λv H1=>∃ ys,H1 D=some (.lst ys)/\ys.length < sizeLine/\Q σ (upd H1 D<|.lst<|ys++[v])):kE X (emit elt (.ref D) X.env) σ H Q:=by
 refine⟨λpins s I=>?_⟩;unfold emit;refine BJ<|aI (h.run pins s I) λv s1 ⟨x,H1,I1,r1,ys,hy,hz,q⟩=>?_;refine BJ<|aI (M4 (X:=X) _ s1 σ H1 (.ref D) [x] (.ref D) [v] (λ_ H'=>Q σ H') I1 rfl (.cons r1 .nil) ⟨_,ys,x,rfl,rfl,hy,hz,q⟩) λ_ s2 ⟨_,H2,I2,_,q2⟩=>BP ⟨σ,H2,I2,q2⟩
theorem Eg.mono{v:V}{R R':St->Hp->Prop}(h:Eg X elt v σ H R)(f:∀ σ' H',R σ' H'->R' σ' H'):Eg X elt v σ H R':=⟨λpins s u I r=>aI (h.run pins s u I r) λ_ _ ⟨σ',H',I',q⟩=>⟨σ',H',I',f _ _ q⟩⟩
theorem Ei.mono{T T':Bool->Hp->Prop}(h:Ei X ifs σ H T)(f:∀ b H',T b H'->T' b H'):Ei X ifs σ H T':=⟨λpins s I=>aI (h.run pins s I) λ_ _ ⟨H',I',q⟩=>⟨H',I',f _ _ q⟩⟩
theorem Xr{D:Addr}{after:Hp->Prop}(h:kD X N' scope tg ifs elt J D after σ H)(cl:List<|Str×Addr)(C:Addr)(s₀:Shared)(H₀:Hp)(ex:List Addr):gP (fq X N' scope cl C s₀ H₀ ex) tg ifs (emit elt (.ref D)<|compEnvC scope cl C X.env) J (λ_ H'=>after H') σ H:=by
 obtain⟨W,w0,t⟩:=h;refine⟨W,w0,λi m σ' H' w=>(t i m σ' H' w).imp id λ⟨g,N,hN,st⟩=>⟨g,N,hN,λx H2 y=>(st x H2 y cl C s₀ H₀ ex).mono λσ2 H3 h3=>(h3 cl C s₀ H₀ ex).mono λb H4 h4=>?_⟩⟩;cases b with
 | true=>
  rw [BL rfl] at h4 ⊢;exact NS (X:=fq X N' scope cl C s₀ H₀ ex)<|h4 cl C s₀ H₀ ex
 | false=>
  rw [BK Ba] at h4 ⊢;exact h4
theorem NU{n:Nat}{pins:List (Addr×Obj)}{H2:Hp}{s2:Shared}{E:Value->Shared->Prop}{RR:Value->Addr->Result->Shared->Prop}{it:Addr}{fp:List Addr}{tn:Nat->Heap->Prop}{Q:VK}
  (hc:X.calm=true) (ck:cf X.env.scope scope X.N N') (hl:N'.length=X.N.length+n) (I2:Inv X pins σ H2 s2) (T:Turn X.prog X.w X.K tg J fp it tn) (bz:tn 0 s2.heap) (f2:∀ b∈fp,b8 X pins H2 b)
  (q:∀ D,H2 D=none->kD X N' scope tg ifs elt J D (λH'=>Q (.ref D) H') (σ++List.replicate n none) (upd H2 D<|.lst []))
  (D9:∀ D C H' s' m,Inv X pins σ H' s'->s'.heap.Ns C m->H' C=none->C≠X.env.locals->X.s₀.heap.objs.size<=C->(∀ x c,X.env.cells.lookup x=some c->c≠C)->(∀ p∈X.pn++pins,p.1≠C)->Q (.ref D) H'->RR (.ref D) C (.ok .next) s') :
  wpAny (model X.prog X.w) X.A (newList []) (λacc s₃=>wpAny (model X.prog X.w) X.A (newFunctionEnv scope X.env.globals (cB scope.names X.env.cells []) [] X.env.qual none .none<|some X.env) (λjH s₄=>
   codeAny (model X.prog X.w) X.A (.compStart (.ListComp elt [⟨tg,iter,ifs,0⟩] scope pos) 0 (.ref it) acc {jH with scope:=relabel scope X.env}) (RR acc jH.locals) s₄) E s₃) E s2:=
 NM (newAcc:=newList []) (o0:={cls:= .type "list",dict:=none,data:= .seq ([]:List Value).toArray}) (u0:=λ_=> .lst []) (λ_ _ _ h=>DP h<|by show(0:Nat)<=sizeLine;exact Bn _) (λ_ _ _=>⟨Bn _,[],0,.nil,At _ rfl⟩) hc ck hl (λ_ _=>Xq) I2 T bz f2 (λD hD=>Xr<|q D hD) D9
end
section
variable{X:Cx}{elt tg iter c:Expr}{ifs:List Expr}{scope:Scope}{pos p:Pos}{wi:TI}{σ:St}{H:Hp}{Q:VK}{T:Bool->Hp->Prop}{rest:List Stmt}{D:Ends}
theorem gR(h:T true H):Ei X [] σ H T:=⟨λpins s I=>WL pins s σ H T I h⟩
theorem nr(h:Et X c σ H T):Ei X [c] σ H T:=⟨λpins s I=>WM o6 pins s σ H T I h⟩
theorem jf(sc:Scope)(N N':List Str)(n:Nat)(hi:PI X tg iter wi)
  (h:wi σ H λJ H1=>∀ D,H1 D=none->kD X N' scope tg ifs elt J D (λH'=>Q (.ref D) H') (σ++List.replicate n none) (upd H1 D<|.lst []))
  (hc:X.calm=true:=by rfl) (gS:X.env.scope=sc:=by rfl) (hN:X.N=N:=by rfl) (hk:lN sc scope N N'=true:=by decide +kernel) (hl:N'.length=N.length+n:=by rfl)
  (hs:∀ x,foldedSetIterable iter X.env x=pure x:=by intro _;rfl):Ev X (.ListComp elt [⟨tg,iter,ifs,0⟩] scope pos) σ H Q:=by
 refine⟨λpins s I=>?_⟩;subst gS hN;have ck:=cf.of hk;rw [eval_ListComp];refine KQ (use:=none) rfl hs (C6 λx hx hf=>I.ok.has x.1<|ck.free x hx hf) ck.kind ck.names (aI (hi pins s σ H _ I h) λv s1 h1=>aI h1 λm4 s2 h2=>?_);obtain⟨it,fp,tn,J,H2,e,I2,T,bz,f2,q⟩:=h2;subst e;refine NU (RR:=λacc C=>compPost (model X.prog X.w) X.A X.xe none (EP X pins σ Q) acc C) hc ck hl I2 T bz f2 q ?_;intro D C H' s' m IX hn hC c1 c2 c3 c4 qq;exact⟨m,hn,λh' iV=>⟨.ref D,H',IX.turned (t':=s'.toks) (λb o hb e=>iV.extBut b o hb e) hC (CJ<|CJ c1) (.inr c2) c3 c4,rfl,qq⟩⟩
theorem x9(i:Nat){y:Str}{py t7:Pos}(sc:Scope)(N N':List Str)(n:Nat)(jg:X.N.Nodup)(hi:PI X tg iter wi)
  (h:wi σ H λJ H1=>∀ A,H1 A=none->kD X N' scope tg ifs elt J A (λH'=>Run X rest D (σ.set i<|some<|.ref A) H') (σ++List.replicate n none) (upd H1 A<|.lst []))
  (Xs:X.N[i]?=some y:=by rfl) (hy:Loc X.env.scope y:=by first | exact Or.inl rfl | exact Or.inr rfl)
  (Xt:swapsWith (.ListComp elt [⟨tg,iter,ifs,0⟩] scope pos) (some<|.Name y py) t7.line X.env=pure true:=by rfl)
  (hc:X.calm=true:=by rfl) (gS:X.env.scope=sc:=by rfl) (hN:X.N=N:=by rfl) (hk:lN sc scope N N'=true:=by decide +kernel) (hl:N'.length=N.length+n:=by rfl)
  (hs:∀ x,foldedSetIterable iter X.env x=pure x:=by intro _;rfl) (hf:X.fn y=true\/X.env.scope.names.lookup y=some .local:=by first | exact .inl rfl | exact .inr rfl | assumption) :
  Run X (.Assign [.Name y py] (.ListComp elt [⟨tg,iter,ifs,0⟩] scope pos) t7 :: rest) D σ H:=by
 refine jB (t:=λD' σ H=>wi σ H λJ H1=>∀ A,H1 A=none->kD X N' scope tg ifs elt J A (λH'=>D'.nx (σ.set i<|some<|.ref A) H') (σ++List.replicate n none) (upd H1 A<|.lst [])) ?_ h;intro pins s σ H D I h;subst gS hN;have ck:=cf.of hk;rw [exec_Assign_Name_used _ _ _ _ Xt];refine BJ<|FT<|BJ ?_;show wpAny _ X.A (do let _ <- comprehension (.ListComp elt [⟨tg,iter,ifs,0⟩] scope pos) scope X.env _ (newList []) false (eval iter X.env)<|some<|assign (.Name y py) X.env) _ _ s;refine BJ<|CV (KQ (use:=some<|assign (.Name y py) X.env) (Q:=λ_ s'=>SP X pins D .next s') rfl hs (C6 λx hx hf=>I.ok.has x.1<|ck.free x hx hf) ck.kind ck.names
  (aI (hi pins s σ H _ I h) λv s1 h1=>aI h1 λm4 s2 h2=>?_)) (λ_ s' hq=>BP<|BP hq) λ_ _ e=>e
 obtain⟨it,fp,tn,J,H2,e,I2,T,bz,f2,q⟩:=h2;subst e;refine NU (Q:=λx H1=>D.nx (σ.set i<|some x) H1) (RR:=λacc C=>compPost (model X.prog X.w) X.A X.xe (some<|assign (.Name y py) X.env) (λ_ s'=>SP X pins D .next s') acc C) hc ck hl I2 T bz f2 q ?_;intro D' C H' s' m IX hn hC c1 c2 c3 c4 qq;show wpAny _ X.A (assign (.Name y py) X.env<|.ref D') _ _ _;refine wpAny_assign_Name<|Mh IX jg Xs hy (v:= .ref D') rfl (λoP Xu ya=>?_) hf;obtain⟨a,ya,ha⟩:=ya;have Xv:C≠a:=by
  rcases ha with ha | ha
  ·rw [ha];exact c1
  ·exact CJ<|c3 _ _ ha
 refine⟨m,hn.sameBut ya Xv,λh' iV=>⟨_,H',Xu.turned (t':=oP.toks) (λb o hb e=>iV.extBut b o hb e) hC c1 (.inr c2) c3 c4,qq⟩⟩
end
structure aO(P:Program)(w:World)(K:PySem.W.Frag)(mg:Str->Option Value)(base:Heap)(k:Nat)(x:Str)(ps:List Str)(sp:Sp):Prop where
 ex:∃ f fd,aB P w K mg base bE k f fd ps sp/\Binds K fd ps []/\PySem.W.keepIn K (.ref f)=true/\mg x=some (.ref f)
theorem aO.mono{P:Program}{w:World}{K:PySem.W.Frag}{mg:Str->Option Value}{base:Heap}{j k:Nat}{x:Str}{ps:List Str}{sp:Sp}(h:aO P w K mg base j x ps sp)(le:j<=k):aO P w K mg base k x ps sp:=
 let ⟨f,fd,F,r⟩:=h.ex;⟨f,fd,F.mono le,r⟩
theorem bV{X:Cx}{k:Nat}{ps:List Str}{sp:Sp}{x:Str}{e:Expr}{es:List Expr}{σ:St}{H:Hp}{Q:VK}{p pos:Pos}(G:aO X.prog X.w X.K X.mg X.base k x ps sp)(hr:bb k X.A)
  (h:Ea X (e :: es) σ H λvs H1=>sp vs H1 Q E0) (hg:Gl X x:=by rfl) (cx:(x == ("__debug__" : Str))=false:=by decide) (hs:noStar (e :: es)=true:=by rfl):Ev X (.Call (.Name x p) (e :: es) [] pos) σ H Q:=
 let ⟨_,_,F,b,kp,m⟩:=G.ex;Ny F hr m kp b Wn h hg cx hs
theorem _root_.L2.bb.jI{k:Nat}{A:Around}(hr:bb k A):A.units+100 < cLine:=by have:=hr.un;omega
theorem _root_.L2.bb.u1{k:Nat}{A:Around}(hr:bb k A):A.units+1 < cLine:=by have:=hr.un;omega
def Df(K:PySem.W.Frag)(x:Str)(st:Stmt):Prop:=∃(f:Addr) (fd:FuncData),PySem.W.nsIn K mainGlobals x=some (some<|.ref f)/\bw K x x st f fd
theorem ua{K:PySem.W.Frag}{x:Str}{st:Stmt}{f:Addr}{oc kV doc pm bv ct:Value}{od an:Option Addr}{sl:Array (Option Value)}(a:PySem.W.nsIn K mainGlobals x=some (some<|.ref f))
  (l:K.lookup f=some ⟨oc,od,.func<|PySem.W.fnOf x x (ng st) (iu st) (aP st) .none kV doc pm an bv ct,sl⟩) (c:PySem.W.codeIn K bv x=true) (k:PySem.W.keepIn K (.ref f)=true):Df K x st:=⟨f,_,a,Wo l c k⟩
structure ra where
 f:Addr
 bv:Value
 A:Around
 outer:List Env
 s:Shared
 H:Hp
 E:XK
def yb(N:List Str)(qual:Str)(scope:Scope)(P:Program)(w:World)(K:PySem.W.Frag)(mg:Str->Option Value)(base:Heap)(b:ra):Cx:=(dZ bE P w K mg base N qual scope b.f b.bv b.A b.outer b.s b.H b.E).lq
def En(Q:VK):Ends:={nx:=λ_ H'=>Q .non H',rt:=Q}
theorem bw.gb{P:Program}{w:World}{K:PySem.W.Frag}{mg:Str->Option Value}{base:Heap}{x qual:Str}{st:Stmt}{f:Addr}{fd:FuncData}{N ps:List Str}{k:Nat}{sp:Sp}(F:bw K x qual st f fd)(S:aj N ps<|aP st)(len:∀ vs H Q E,sp vs H Q E->vs.length=ps.length)
  (ce:∀(b:ra) (H:Hp) (vs:List V) (Q:VK) (E:XK),bb k (b.A.deeper<|envOfC qual (aP st) b.s.heap.objs.size b.f b.bv)->sp vs H Q E->Run (yb N qual (aP st) P w K mg base b) (iu st) (En Q) (start N vs) H):aB P w K mg base bE (k+1) f fd ps sp:=
 F.go S len λbv A outer s H vs Q E hr dB=>ce ⟨f,bv,A,outer,s,H,E⟩ H vs Q E hr dB
theorem rc{us:List Value}{k:Nat}(h:us.length=k+1):∃ a r,us=a :: r/\r.length=k:=by
 cases us with
 | nil=>cases h
 | cons a r=>exact⟨a,r,rfl,Nat.succ.inj h⟩
theorem jh{fd:FuncData}{ps:List Str}(f:∀ a:Value,bindArgs fd ⟨[a],[]⟩=pure (ps.zip [a])):∀ us:List Value,us.length=1->bindArgs fd ⟨us,[]⟩=pure (ps.zip us):=λus h=>by
 obtain⟨a,r0,e0,h0⟩:=rc h;have z:=Bq.mp h0;subst z e0;exact f a
theorem f9{fd:FuncData}{ps:List Str}(f:∀ a b:Value,bindArgs fd ⟨[a,b],[]⟩=pure (ps.zip [a,b])):∀ us:List Value,us.length=2->bindArgs fd ⟨us,[]⟩=pure (ps.zip us):=λus h=>by
 obtain⟨a,r0,e0,h0⟩:=rc h;obtain⟨b,r1,e1,h1⟩:=rc h0;have z:=Bq.mp h1;subst z e1 e0;exact f a b
theorem Xw{fd:FuncData}{ps:List Str}(f:∀ a b c:Value,bindArgs fd ⟨[a,b,c],[]⟩=pure (ps.zip [a,b,c])):∀ us:List Value,us.length=3->bindArgs fd ⟨us,[]⟩=pure (ps.zip us):=λus h=>by
 obtain⟨a,r0,e0,h0⟩:=rc h;obtain⟨b,r1,e1,h1⟩:=rc h0;obtain⟨c,r2,e2,h2⟩:=rc h1;have z:=Bq.mp h2;subst z e2 e1 e0;exact f a b c
theorem Df.has{P:Program}{w:World}{K:PySem.W.Frag}{mg:Str->Option Value}{h base:Heap}{k:Nat}{x:Str}{st:Stmt}{ps:List Str}{sp:Sp}(d:Df K x st)(X:K.In h)(G:h.Ns mainGlobals mg)
  (hb:∀(kV doc pm:Value) (an:Option Addr) (bv ct:Value) (us:List Value),us.length=ps.length->bindArgs (PySem.W.fnOf x x (ng st) (iu st) (aP st) .none kV doc pm an bv ct) ⟨us,[]⟩=pure (ps.zip us))
  (ok:∀{f:Addr} {fd:FuncData},bw K x x st f fd->aB P w K mg base bE k f fd ps sp):aO P w K mg base k x ps sp:=
 let ⟨f,fd,a,F⟩:=d;⟨f,fd,ok F,F.binds hb,F.kp,JR X G a⟩
theorem Df.law{P:Program}{w:World}{K:PySem.W.Frag}{mg:Str->Option Value}{h:Heap}{k:Nat}{x y:Str}{st:Stmt}{sp:Sp}{fa:Addr}(d:Df K x st)(X:K.In h)(G:h.Ns mainGlobals mg)(EB:mg x=some (.ref fa))
  (hb:∀(kV doc pm:Value) (an:Option Addr) (bv ct:Value) (s:Shared) (v:Value),BindsTo s (PySem.W.fnOf x x (ng st) (iu st) (aP st) .none kV doc pm an bv ct) ⟨[v],[]⟩ [(y,v)])
  (ok:∀(base:Heap) {f:Addr} {fd:FuncData},bw K x x st f fd->aB P w K mg base bE k f fd [y] sp) :
  ∃ fd:FuncData,(∀(s:Shared) (v:Value),BindsTo s fd ⟨[v],[]⟩ [(y,v)])/\∀ base:Heap,K.In base->base.Ns mainGlobals mg->aB P w K mg base bE k fa fd [y] sp:=by
 obtain⟨f,fd,a,F⟩:=d;have e:=EB.symm.trans<|JR X G a;cases e;obtain⟨oc,od,kV,doc,pm,an,bv,ct,jx,rfl,lk,ik⟩:=id F.ex;exact⟨_,hb kV doc pm an bv ct,λbase _ _=>ok base F⟩
theorem cU{N P:List Str}{sc:Scope}(nd:N.Nodup:=by decide +kernel)(par:∀ x∈P,sc.names.lookup x=some .local\/sc.names.lookup x=some .cell:=by decide +kernel)(gM:∀ y∈sc.names,y.2 ≠ .free:=by decide +kernel)
  (kind:sc.kind = .function:=by rfl) (co:sc.isCoroutine=false:=by rfl) (gen:sc.isGenerator=false:=by rfl) (pre:N.take P.length=P:=by rfl):aj N P sc:=⟨kind,co,gen,nd,pre,par,gM⟩
theorem bw.gc{P:Program}{w:World}{K:PySem.W.Frag}{mg:Str->Option Value}{base:Heap}{x qual:Str}{st:Stmt}{f:Addr}{fd:FuncData}{N ps:List Str}{k:Nat}{sp:Sp}(F:bw K x qual st f fd)(S:aj N ps<|aP st)
  (ce:∀(b:ra) (H:Hp) (vs:List V) (Q:VK) (E:XK),bb k (b.A.deeper<|envOfC qual (aP st) b.s.heap.objs.size b.f b.bv)->sp vs H Q E->Run (yb N qual (aP st) P w K mg base b) (iu st) (En Q) (start N vs) H)
  (len:∀ vs H Q E,sp vs H Q E->vs.length=ps.length:=by intro vs H Q E h;repeat (first | (obtain⟨rfl,_⟩:=h;rfl) | obtain⟨_,h⟩:=h)):aB P w K mg base bE (k+1) f fd ps sp:=F.gb S len ce
end L2
namespace bR
open PySem
def rd(m i:Nat):Nat:=(i * 5+1) % m
def nw(m:Nat):Nat->Nat->List Nat
 | 0,_=>[]
 | n+1,i=>i :: nw m n (rd m i)
def lQ(m:Nat):Nat->Nat->Nat
 | 0,i=>i
 | n+1,i=>lQ m n<|rd m i
theorem yc(m:Nat):∀ a b i,lQ m (a+b) i=lQ m b (lQ m a i)
 | 0,b,i=>by rw [Dy];rfl
 | a+1,b,i=>by
  rw [show a+1+b=(a+b)+1 by omega];exact yc m a b<|rd m i
theorem EC(m:Nat):∀ n t i,t < n->lQ m t i∈nw m n i
 | 0,_,_,h=>by omega
 | n+1,0,i,_=>Aw
 | n+1,t+1,i,h=>Ax _<|EC m n t (rd m i)<|by omega
theorem ED(m:Nat):∀ n i j,j∈nw m n i->∃ t,t < n/\lQ m t i=j
 | 0,_,_,h=>by cases h
 | n+1,i,j,h=>by
  rcases Ar.mp h with rfl | h
  ·exact⟨0,Hu _,rfl⟩
  ·obtain⟨t,ht,e⟩:=ED m n (rd m i) j h;exact⟨t+1,Nat.succ_lt_succ ht,e⟩
def covers(m:Nat):Bool:=lQ m m 0 == 0 && (List.range m).all λj=>(nw m m 0).contains j
theorem Xx:covers 8=true:=by decide +kernel
theorem Xy:covers 16=true:=by decide +kernel
theorem Xz:covers 32=true:=by decide +kernel
theorem XA:covers 64=true:=by decide +kernel
theorem XB:covers 128=true:=by decide +kernel
theorem XD:covers 512=true:=by decide +kernel
def Pow(m:Nat):Prop:=m=8\/m=16\/m=32\/m=64\/m=128\/m=512
theorem Pow.covers{m:Nat}(h:Pow m):bR.covers m=true:=by
 rcases h with rfl | rfl | rfl | rfl | rfl | rfl
 ·exact Xx
 ·exact Xy
 ·exact Xz
 ·exact XA
 ·exact XB
 ·exact XD
theorem Pow.pos{m:Nat}(h:Pow m):8<=m/\m<=512:=by rcases h with rfl | rfl | rfl | rfl | rfl | rfl <;> decide
theorem Pow.mem{m i j:Nat}(h:Pow m)(hi:i < m)(hj:j < m):j∈nw m m i:=by
 have q:=h.covers;unfold bR.covers at q;rw [Bu,Dk,LK] at q;obtain⟨z,q⟩:=q;obtain⟨a,ha,ea⟩:=ED m m 0 i<|Dh.mp<|q i<|Bh.mpr hi;obtain⟨b,hb,eb⟩:=ED m m 0 j<|Dh.mp<|q j<|Bh.mpr hj
 rcases Dz b a with c | c
 ·have e:lQ m (b+m - a) i=j:=by
   rw [<- ea,<- yc,show a+(b+m - a)=m+b by omega,yc,z,eb]
  rw [<- e];exact EC m m _ i<|by omega
 ·have e:lQ m (b - a) i=j:=by
   rw [<- ea,<- yc,show a+(b - a)=b by omega,eb]
  rw [<- e];exact EC m m _ i<|by omega
def rh(mask:Nat):Nat->Nat->Nat->List Nat
 | 0,_,_=>[]
 | n+1,i,p=>i :: rh mask n (SetTable.leap mask i p).1 (SetTable.leap mask i p).2
theorem NV(mask:Nat):∀ n i,rh mask n i 0=nw (mask+1) n i
 | 0,_=>rfl
 | n+1,i=>by
  show i :: rh mask n ((i * 5+1+0 / 32) % (mask+1)) (0 / 32)=i :: nw (mask+1) n (rd (mask+1) i);rw [show(0 / 32:Nat)=0 by decide,Fh,NV mask n];rfl
theorem XE{mask i p:Nat}:(SetTable.leap mask i p).1 < mask+1:=TQ _<|Hu _
theorem NW{mask:Nat}:∀(t n i p:Nat),i < mask+1->p < 32 ^ t->∃ i',i' < mask+1/\∀ j∈nw (mask+1) n i',j∈rh mask (t+n) i p
 | 0,n,i,p,hi,hp=>by
  have e:p=0:=by simpa using hp
  subst e;refine⟨i,hi,λj hj=>?_⟩;rw [Dy,NV];exact hj
 | t+1,n,i,p,hi,hp=>by
  have h2:p / 32 < 32 ^ t:=by
   rw [Nat.div_lt_iff_lt_mul<|by decide];rw [Hv] at hp;exact hp
  obtain⟨i',h',q⟩:=NW t n (SetTable.leap mask i p).1 (p / 32) XE h2;refine⟨i',h',λj hj=>?_⟩;rw [show t+1+n=(t+n)+1 by omega];exact Ax _<|q j hj
theorem XG{mask i p j:Nat}(hm:Pow<|mask+1)(hi:i < mask+1)(hp:p < 2 ^ 64)(hj:j < mask+1):j∈rh mask (mask+15) i p:=by
 obtain⟨i',h',q⟩:=NW (mask:=mask) 14 (mask+1) i p hi (Bo hp<|by decide);have:=q j<|hm.mem h' hj;rwa [show 14+(mask+1)=mask+15 by omega] at this
abbrev gd:=Array<|Option Nat
def nil?(owner:gd)(j:Nat):Bool:=(owner.getD j<|some 0).isNone
theorem XH(mask i:Nat):i<=SetTable.runEnd mask i:=by unfold SetTable.runEnd;split <;> omega
theorem NX{mask:Nat}{owner:gd}:∀{fuel i p:Nat},SetTable.layClean.free mask owner fuel i p=none->∀ j∈rh mask fuel i p,nil? owner j=false
 | 0,_,_,_,j,hj=>by cases hj
 | fuel+1,i,p,h,j,hj=>by
  unfold SetTable.layClean.free at h
  split at h
  ·cases h
  ·rename_i hf
   rcases Ar.mp hj with rfl | hj
   ·have:=List.find?_eq_none.mp hf 0 (Bh.mpr<|by have:=XH mask j;omega);rw [Fh] at this;exact Eb.mpr this
   ·exact NX (fuel:=fuel) h j hj
theorem NY{mask:Nat}{owner:gd}:∀{fuel i p j:Nat},SetTable.layClean.free mask owner fuel i p=some j->nil? owner j=true
 | 0,_,_,_,h=>by cases h
 | fuel+1,i,p,j,h=>by
  unfold SetTable.layClean.free at h
  split at h
  ·rename_i k hf;cases h;have:=List.find?_some hf;exact this
  ·exact NY (fuel:=fuel) h
theorem nil?_iff{owner:gd}{j:Nat}:nil? owner j=true↔owner[j]?=some none:=by
 unfold nil?;rw [Dw];cases h:owner[j]? with
 | none=>simp
 | some v=>cases v <;> simp
structure Lies(m:Nat)(owner:gd)(k:Nat):Prop where
 size:owner.size=m
 lt:∀(j v:Nat),owner[j]?=some (some v)->v < k
 has:∀ v:Nat,v < k->∃ j:Nat,owner[j]?=some (some v)
 inj:∀(i j v:Nat),owner[i]?=some (some v)->owner[j]?=some (some v)->i=j
theorem Lies.start(m:Nat):Lies m (Array.replicate m none) 0 where
 size:=by simp
 lt:=λj v h=>by
  rw [RD] at h
  split at h <;> cases h
 has:=λv h=>by omega
 inj:=λi j v h=>by
  rw [RD] at h
  split at h <;> cases h
theorem Lies.put{m k j:Nat}{owner:gd}(L:Lies m owner k)(hj:owner[j]?=some none):Lies m (owner.setIfInBounds j<|some k) (k+1):=by
 have aM:j < owner.size:=by
  rcases Dz j owner.size with h | h
  ·exact h
  ·rw [Eu h] at hj;cases hj
 have at':∀ i:Nat,(owner.setIfInBounds j<|some k)[i]?=if j=i then some (some k) else owner[i]?:=by
  intro i;rw [Array.getElem?_setIfInBounds]
  split
  ·rename_i e;subst e;first | rfl | rw [BL aM]
  ·rfl
 refine⟨by rw [RG];exact L.size,λi v h=>?_,λv h=>?_,λa b v ha hb=>?_⟩
 ·rw [at'] at h
  split at h
  ·cases h;exact Hh _
  ·exact Ce<|L.lt i v h
 ·rcases Nat.lt_succ_iff_lt_or_eq.mp h with h | rfl
  ·obtain⟨i,hi⟩:=L.has v h;refine⟨i,?_⟩;rw [at',BK λe=>by subst e;rw [hj] at hi;cases hi];exact hi
  ·exact⟨j,by rw [at',BL rfl]⟩
 ·rw [at'] at ha hb
  split at ha
  ·rename_i e;cases ha
   split at hb
   ·rename_i e2;exact e.symm.trans e2
   ·have:=L.lt b k hb;omega
  ·split at hb
   ·cases hb;have:=L.lt a k ha;omega
   ·exact L.inj a b v ha hb
def live(m:Nat)(owner:gd):List (Nat×Nat):=(List.range m).filterMap λj=>(owner.getD j none).map (j,·)
theorem getD_some{owner:gd}{j v:Nat}:owner.getD j none=some v↔owner[j]?=some (some v):=by
 rw [Dw];cases h:owner[j]? with
 | none=>simp
 | some x=>simp
theorem gg{m:Nat}{owner:gd}{p:Nat×Nat}:p∈live m owner↔p.1 < m/\owner[p.1]?=some (some p.2):=by
 unfold live;rw [Go]
 constructor
 ·rintro ⟨j,hj,e⟩;cases hv:owner.getD j none with
  | none=>rw [hv] at e;cases e
  | some v=>
   rw [hv] at e;cases e;exact⟨Bh.mp hj,getD_some.mp hv⟩
 ·rintro ⟨h1,h2⟩;exact⟨p.1,Bh.mpr h1,by rw [getD_some.mpr h2];rfl⟩
theorem Lies.nodup{m k:Nat}{owner:gd}(L:Lies m owner k):((live m owner).map (·.2)).Nodup:=by
 have q:∀ l:List Nat,l.Nodup->((l.filterMap λj=>(owner.getD j none).map (j,·)).map (·.2)).Nodup:=by
  intro l
  induction l with
  | nil=>intro _;exact Ds
  | cons a r ih=>
   intro hn;rw [Cr] at hn;rw [Er];cases hv:owner.getD a none with
   | none=>exact ih hn.2
   | some v=>
    show(v :: (r.filterMap λj=>(owner.getD j none).map (j,·)).map (·.2)).Nodup;rw [Cr];refine⟨λh=>?_,ih hn.2⟩;obtain⟨p,hp,e⟩:=Az.mp h;obtain⟨j,hj,e2⟩:=Go.mp hp;cases hw:owner.getD j none with
    | none=>rw [hw] at e2;cases e2
    | some u=>
     rw [hw] at e2;cases e2;have e3:u=v:=e;subst e3;have:=L.inj a j u (getD_some.mp hv)<|getD_some.mp hw;subst this;exact hn.1 hj
 exact q _ Hi
theorem Lies.perm{m k:Nat}{owner:gd}(L:Lies m owner k):((live m owner).map (·.2)).Perm (List.range k):=by
 rw [Fb L.nodup Hi];intro v;rw [Bh,Az]
 constructor
 ·rintro ⟨p,hp,rfl⟩;exact L.lt _ _ (gg.mp hp).2
 ·intro h;obtain⟨j,hj⟩:=L.has v h;have aM:j < m:=by
   rw [<- L.size]
   rcases Dz j owner.size with h | h
   ·exact h
   ·rw [Eu h] at hj;cases hj
  exact⟨(j,v),gg.mpr ⟨aM,hj⟩,rfl⟩
theorem Lies.length{m k:Nat}{owner:gd}(L:Lies m owner k):(live m owner).length=k:=by
 have:=L.perm.length_eq;rwa [Ac,Cj] at this
theorem Lies.room{m k:Nat}{owner:gd}(L:Lies m owner k)(h:k < m):∃ j,j < m/\nil? owner j=true:=by
 refine DG λhn=>?_;have all:∀ j,j < m->∃ v,owner.getD j none=some v:=by
  intro j hj;have hs:j < owner.size:=by rw [L.size];exact hj
  cases hv:owner[j] with
  | none=>exact absurd ⟨j,hj,nil?_iff.mpr<|by rw [Bg hs,hv]⟩ hn
  | some v=>exact⟨v,getD_some.mpr<|by rw [Bg hs,hv]⟩
 have len:∀ l:List Nat,(∀ j∈l,j < m)->(l.filterMap λj=>(owner.getD j none).map (j,·)).length=l.length:=by
  intro l
  induction l with
  | nil=>intro _;rfl
  | cons a r ih=>
   intro hl;obtain⟨v,hv⟩:=all a<|hl a Aw;rw [Er,hv];show(_ :: _).length=_;rw [Av,Av,ih λj hj=>hl j<|Ax _ hj]
 have e:=len (List.range m) λj hj=>Bh.mp hj;have e2:=L.length;unfold live at e2;rw [e,Cj] at e2;omega
theorem XI(h:Int):SetTable.bits h < 2 ^ 64:=by
 unfold SetTable.bits;have h1:0<=h % (2 ^ 64:Int):=Ch _ (by decide);have h2:h % (2 ^ 64:Int) < 2 ^ 64:=Cs _ (by decide);omega
theorem Lies.free{mask k:Nat}{owner:gd}(L:Lies (mask+1) owner k)(hm:Pow<|mask+1)(h:k < mask+1)(x:Int) :
  ∃ j,SetTable.layClean.free mask owner (SetTable.turns mask) (SetTable.bits x % (mask+1)) (SetTable.bits x)=some j/\owner[j]?=some none:=by
 cases e:SetTable.layClean.free mask owner (SetTable.turns mask) (SetTable.bits x % (mask+1)) (SetTable.bits x) with
 | some j=>exact⟨j,rfl,nil?_iff.mp<|NY e⟩
 | none=>
  obtain⟨j,hj,q⟩:=L.room h;have:=NX e j<|XG hm (TQ _<|Hu _) (XI x) hj;rw [q] at this;cases this
def yd(mask:Nat)(acc:Option<|gd×Nat)(h:Int):Option (gd×Nat):=do
 let (owner,k) <- acc
 let j <- SetTable.layClean.free mask owner (SetTable.turns mask) (SetTable.bits h % (mask+1))<|SetTable.bits h
 pure (owner.setIfInBounds j<|some k,k+1)
theorem N0{mask:Nat}(hm:Pow<|mask+1):∀(hs:List Int) (owner:gd) (k:Nat),Lies (mask+1) owner k->k+hs.length < mask+1+1 ->
  ∃ jJ,hs.foldl (yd mask) (some (owner,k))=some (jJ,k+hs.length)/\Lies (mask+1) jJ (k+hs.length)
 | [],owner,k,L,_=>⟨owner,rfl,L⟩
 | h :: r,owner,k,L,hk=>by
  rw [Av] at hk ⊢;obtain⟨j,e,hj⟩:=L.free hm (by omega) h;obtain⟨o',e',L'⟩:=N0 hm r _ (k+1) (L.put hj) (by omega);refine⟨o',?_,?_⟩
  ·rw [Db,show yd mask (some (owner,k)) h=some (owner.setIfInBounds j<|some k,k+1) by unfold yd;simp [e],e']
   congr 2
   omega
  ·rw [show k+(r.length+1)=k+1+r.length by omega];exact L'
theorem XJ{mask:Nat}(hm:Pow<|mask+1)(hs:Array Int)(hl:hs.size < mask+1+1):∃ owner,SetTable.layClean mask hs=some owner/\Lies (mask+1) owner hs.size:=by
 obtain⟨o',e,L⟩:=N0 hm hs.toList _ 0 (Lies.start<|mask+1) (by simpa using hl);refine⟨o',?_,by simpa using L⟩;have e2:SetTable.layClean mask hs=(hs.foldl (yd mask)<|some (Array.replicate (mask+1) none,0)).map (·.1):=rfl;rw [e2,<- Array.foldl_toList,e];rfl
theorem N2{mask finger moves:Nat}{led plain:Bool}(hm:Pow<|mask+1)(hs:Array Int)(hl:hs.size<=mask) :
  ∃ t order,SetTable.laid mask finger moves led plain hs=some (t,order)/\order.toList.Perm (List.range hs.size)/\t.fits hs.size=true/\t.led=led/\t.plain=plain/\t.mask=mask/\t.dummies=#[]/\t.place.size=hs.size:=by
 obtain⟨o,e,L⟩:=XJ hm hs (by omega);have hp:((live (mask+1) o).map (·.1)).toArray.size=hs.size:=by
  rw [Bd,Ac,L.length]
 refine⟨_,_,by unfold SetTable.laid;rw [e];rfl,?_,?_,rfl,rfl,rfl,rfl,hp⟩
 ·show((live (mask+1) o).map (·.2)).Perm _;exact L.perm
 ·unfold SetTable.fits SetTable.fill;show(((live (mask+1) o).map (·.1)).toArray.size == hs.size && decide (((live (mask+1) o).map (·.1)).toArray.size+0<=mask))=true;rw [hp];simp only [beq_self_eq_true,TV,Fh,HS];exact hl
def cF(w:World):Bool:=w.params.followText "set-order"
def keyOf(e:Int×Value):Str:=match e.2 with
 | .str x _=>x
 | _=>⟨#[]⟩
section
variable(prog:Program)(w:World)
def ny(e:Int×Value):Prop:=∃ z t,e=((strKind prog w).hash z,Value.str z t)
structure Tab(es:Array<|Int×Value)(t:SetTable)(zs:List Str):Prop where
 elts:∀ e∈es.toList,ny prog w e
 keys:(es.toList.map keyOf).Perm zs
 nodup:zs.Nodup
 few:zs.length < 1000
 fits:t.fits es.size=true
 led:t.led = !cF w
 plain:es=#[]\/t.plain=false
def ak(h:Heap)(a:Addr)(zs:List Str):Prop:=∃ o es ep t,h.get? a=some o/\o.ExactSet/\o.data = .set es ep t/\Tab prog w es t zs
end
section
variable{prog:Program}{w:World}{es:Array (Int×Value)}{t:SetTable}{zs:List Str}{h h':Heap}{a:Addr}
theorem Tab.elems(T:Tab prog w es t zs):ElemsOf (strKind prog w) es.toList:=λe he=>by
 obtain⟨z,u,rfl⟩:=T.elts e he;exact⟨⟨z,NZ _ _ _ _,rfl⟩,rfl⟩
theorem Tab.size(T:Tab prog w es t zs):es.size=zs.length:=by
 have:=T.keys.length_eq;rw [Ac,Al] at this;exact this
theorem Tab.fv(T:Tab prog w es t zs):es.size < 1000:=by rw [T.size];exact T.few
theorem Tab.scan(T:Tab prog w es t zs):es.size < scanBound:=by have:=T.fv;unfold scanBound;omega
theorem Tab.perm{fj:Array (Int×Value)}{t':SetTable}(T:Tab prog w es t zs)(p:fj.toList.Perm es.toList)(hf:t'.fits fj.size=true)(hl:t'.led=t.led)(hp:fj=#[]\/t'.plain=false):Tab prog w fj t' zs:=
 ⟨λe he=>T.elts e<|p.mem_iff.mp he,(p.map keyOf).trans T.keys,T.nodup,T.few,hf,hl.trans T.led,hp⟩
theorem ak.keep(S:ak prog w h a zs)(k:∀ o,h.get? a=some o->h'.get? a=some o):ak prog w h' a zs:=let ⟨o,es,ep,t,h1,h2⟩:=S;⟨o,es,ep,t,k o h1,h2⟩
theorem ak.typeIs{s:Shared}(S:ak prog w s.heap a zs):s.TypeIs (.ref a) "set":=let ⟨o,_,_,_,h1,h2,_⟩:=S;⟨o,h1,h2.1⟩
theorem ak.lt(S:ak prog w h a zs):a < h.objs.size:=let ⟨_,_,_,_,h1,_⟩:=S;Au h1
theorem ak.few(S:ak prog w h a zs):zs.length < 1000:=let ⟨_,_,_,_,_,_,_,T⟩:=S;T.few
theorem ak.nodup(S:ak prog w h a zs):zs.Nodup:=let ⟨_,_,_,_,_,_,_,T⟩:=S;T.nodup
theorem pe{o:Obj}{ep:Nat}{fj:Array (Int×Value)}{t':SetTable}{iA:List Str}(ho:h.get? a=some o)(hx:o.ExactSet)(hd:o.data = .set es ep t)(T':Tab prog w fj t' iA) :
  (h.update a<|Obj.putSet fj t').get? a=some {o with data:= .set fj (ep+1) t'}/\ak prog w (h.update a<|Obj.putSet fj t') a iA:=by
 have q:=Cy (Obj.putSet fj t') ho (by rw [putSet_of fj t' hd];rfl);rw [putSet_of fj t' hd] at q;exact⟨q,_,fj,ep+1,t',q,hx,rfl,T'⟩
theorem EE{e:Int×Value}(he:ny prog w e)(z:Str):(strKind prog w).is z e.2=decide (z=keyOf e):=by
 obtain⟨y,u,rfl⟩:=he;exact KeyKind.is_eq_decide (NZ prog w y u) z
theorem find_none(T:Tab prog w es t zs){z:Str}(hz:z∉zs):es.toList.findIdx? (λe=>(strKind prog w).is z e.2)=none:=by
 rw [List.findIdx?_eq_none_iff];intro e he;rw [EE<|T.elts e he,LR];rintro rfl;exact hz<|T.keys.mem_iff.mp<|List.mem_map_of_mem he
theorem find_some(T:Tab prog w es t zs){z:Str}(hz:z∈zs):∃ j,∃ hj:j < es.toList.length,es.toList.findIdx? (λe=>(strKind prog w).is z e.2)=some j/\keyOf es.toList[j]=z:=by
 obtain⟨e,he,e2⟩:=Az.mp<|T.keys.mem_iff.mpr hz;cases q:es.toList.findIdx? (λe=>(strKind prog w).is z e.2) with
 | none=>
  have:=List.findIdx?_eq_none_iff.mp q e he;rw [EE<|T.elts e he,LR] at this;exact absurd e2.symm this
 | some j=>
  obtain⟨hj,p,_⟩:=List.findIdx?_eq_some_iff_getElem.mp q;rw [EE<|T.elts _<|Bv hj,HS] at p;exact⟨j,hj,rfl,p.symm⟩
theorem XM(t:SetTable)(n:Nat):(t.orStandIn n).led=t.led/\((t.orStandIn n).plain=true->t.plain=true):=by
 unfold SetTable.orStandIn
 split
 ·exact⟨rfl,id⟩
 ·exact⟨rfl,λh=>by cases h⟩
theorem XN(t:SetTable)(es:Array<|Int×Value)(x:Int)(v:Value):(layNew t es x v).2.1.led=t.led:=by
 unfold layNew
 split
 ·exact(XM _ _).1
 ·rfl
theorem XQ{mask f m:Nat}{l p:Bool}{hs:Array Int}{t':SetTable}{o:Array Nat}(e:SetTable.laid mask f m l p hs=some (t',o)):t'.led=l/\t'.plain=p:=by
 unfold SetTable.laid at e;cases c:SetTable.layClean mask hs with
 | none=>rw [c] at e;cases e
 | some ow=>rw [c] at e;cases e;exact⟨rfl,rfl⟩
theorem N3(t:SetTable)(es:Array<|Int×Value)(n:Nat)(hp:t.plain=false):(relayAll t es n).2.1.led=t.led/\(relayAll t es n).2.1.plain=false:=by
 unfold relayAll
 split
 ·rename_i t' o e;have q:=XQ e
  dsimp only
  split
  ·exact⟨q.1,q.2.trans hp⟩
  ·exact⟨rfl,rfl⟩
 ·exact⟨rfl,rfl⟩
end
section
variable{prog:Program}{w:World}{A:Around}{E:Value->Shared->Prop}{s:Shared}{a:Addr}{zs:List Str}
theorem jK{n:Nat}(h:n < 1001):n<=sizeLine:=by rw [FZ];omega
theorem N5{g:Bool->Sem Unit}(hg:∀(b:Bool) (s₁:Shared) (Q':Unit->Shared->Prop),Q' () s₁->wpAny (model prog w) A (g b) Q' E s₁)
  {o:Obj} {es:Array (Int×Value)} {ep:Nat} {t:SetTable} (ho:s.heap.get? a=some o) (hx:o.ExactSet) (hd:o.data = .set es ep t)
  {fP:Array (Int×Value)} {t2:SetTable} (T:Tab prog w fP t2 zs) (hp:t2.plain=false) {c:Bool} {R:Option Bool->Shared->Prop}
  (k:∀ h',Heap.SameBut a s.heap h'->ak prog w h' a zs->R (some true) {s with heap:=h'}) :
  wpAny (model prog w) A (do
   storeSet a fP t2
   if c=true then do
     g (relayAll t2 fP<|SetTable.grown fP.size).2.2
     storeSet a (relayAll t2 fP<|SetTable.grown fP.size).1 (relayAll t2 fP<|SetTable.grown fP.size).2.1
     pure (some true)
    else pure (some true)) R E s:=by
 refine BJ<|GK ho hd ?_<|jK<|Ce T.fv;obtain⟨q1,q2⟩:=pe ho hx hd T;have sb:=CT s.heap a<|Obj.putSet fP t2;cases c with
 | false=>exact BP<|k _ sb q2
 | true=>
  have p:=relayAll_perm t2 fP<|SetTable.grown fP.size;have T3:=T.perm p (relayAll_fits t2 fP<|SetTable.grown fP.size) (N3 t2 fP _ hp).1<|.inr (N3 t2 fP _ hp).2;refine BJ<|hg _ _ _ ?_;refine BJ<|GK q1 rfl ?_ (jK<|Ce T3.fv);exact BP<|k _ (sb.trans<|CT _ a _) (pe q1 hx rfl T3).2
def added(zs:List Str)(z:Str):List Str:=if z∈zs then zs else zs++[z]
theorem EF{z:Str}{tk:Tok}{Q:Bool->Shared->Prop}(S:ak prog w s.heap a zs)(hb:zs.length+1 < 1000)
  (k:∀(b:Bool) h',Heap.SameBut a s.heap h'->ak prog w h' a (added zs z)->Q b {s with heap:=h'}) :
  wpAny (model prog w) A (setAddHashed a (.str z tk)<|(strKind prog w).hash z) Q E s:=by
 obtain⟨o,es,ep,t,ho,hx,hd,T⟩:=S;unfold setAddHashed setAddHashedIn;refine CN<|BJ<|CP ho hd T.fits ?_
 dsimp only
 rw [byScan_of (knd:=strKind prog w) (x:= .str z tk) rfl T.scan T.elems];simp only [↓reduceIte];unfold setAddByScan;refine BJ<|BJ<|JB<|BJ<|wpAny_setScan_of (knd:=strKind prog w) (k:=z) (NZ _ _ _ _) ho hd T.fits T.elems ?_
 by_cases hz:z∈zs
 ·obtain⟨j,hj,e,_⟩:=find_some T hz;rw [e]
  dsimp only
  refine BP<|BP<|k false s.heap (Heap.SameBut.refl a s.heap) ?_;unfold added;rw [BL hz];exact⟨o,es,ep,t,ho,hx,hd,T⟩
 ·rw [find_none T hz]
  dsimp only
  have gw:∀(b:Bool) (s₁:Shared) (Q':Unit->Shared->Prop),Q' () s₁->wpAny (model prog w) A (match b with | true=>rule "set.scan.the-table-gave-way" | false=>pure ()) Q' E s₁:=
   λb s₁ Q' q=>by cases b <;> first | exact BP q | exact JB q
  have p:=layNew_perm t es ((strKind prog w).hash z)<|.str z tk;have f:=layNew_fits t es ((strKind prog w).hash z)<|.str z tk;have l:=XN t es ((strKind prog w).hash z)<|.str z tk;generalize layNew t es ((strKind prog w).hash z) (.str z tk)=L at p f l ⊢;obtain⟨fP,t1,wd,gv⟩:=L
  dsimp only at p f l ⊢
  rw [Dp] at p;have tab:∀ t2:SetTable,t2.fits fP.size=true->t2.led=t1.led->t2.plain=false->Tab prog w fP t2 (zs++[z]):=λt2 h1 h2 h3=>{
   elts:=λe he=>by
    rcases Ao.mp (p.mem_iff.mp he) with he | he
    ·exact T.elts e he
    ·exact⟨z,tk,Ae.mp he⟩
   keys:=by
    refine(p.map keyOf).trans ?_;rw [Ak];exact T.keys.append<|List.Perm.refl _
   nodup:=by
    rw [Dq];refine⟨T.nodup,by simp,λx hx y hy e=>?_⟩;rw [Ae] at hy;subst hy e;exact hz hx
   few:=by rw [Ad];exact hb
   fits:=h1
   led:=h2.trans<|l.trans T.led
   plain:= .inr h3}
  have fin:∀ h',Heap.SameBut a s.heap h'->ak prog w h' a (zs++[z])->Q true {s with heap:=h'}:=λh' q1 q2=>k true h' q1 (by unfold added;rw [BK hz];exact q2);refine BJ<|gw _ _ _ ?_
  split
  ·rename_i hp;refine BJ ?_;rw [hashByValue_scannable 8 rfl];refine BP ?_;refine N5 gw ho hx hd (tab {t1 with plain:=false} (SetTable.fits_plain_off f) rfl rfl) rfl λh' q1 q2=>?_
   dsimp only
   exact BP<|fin h' q1 q2
  ·rename_i hp;refine BJ<|BP ?_;simp only [↓reduceIte];refine N5 gw ho hx hd (tab t1 f rfl (Eb.mpr hp)) (Eb.mpr hp) λh' q1 q2=>?_
   dsimp only
   exact BP<|fin h' q1 q2
theorem N6{z:Str}{tk:Tok}{Q:Option Nat->Shared->Prop}{o:Obj}{es:Array (Int×Value)}{ep:Nat}{t:SetTable}(ho:s.heap.get? a=some o)(hd:o.data = .set es ep t)(T:Tab prog w es t zs)
  (k0:z∉zs->Q none s) (k1:∀ j,(hj:j < es.toList.length)->keyOf es.toList[j]=z->Q (some j) s):wpAny (model prog w) A (setFind a (.str z tk)<|(strKind prog w).hash z) Q E s:=by
 unfold setFind setFindIn;refine BJ<|CP ho hd T.fits ?_
 dsimp only
 rw [byScan_of (knd:=strKind prog w) (x:= .str z tk) rfl T.scan T.elems];simp only [↓reduceIte];refine BJ<|JB<|BJ<|wpAny_setScan_of (knd:=strKind prog w) (k:=z) (NZ _ _ _ _) ho hd T.fits T.elems ?_
 by_cases hz:z∈zs
 ·obtain⟨j,hj,e,q⟩:=find_some T hz;rw [e]
  dsimp only
  rw [Dy];exact BP<|k1 j hj q
 ·rw [find_none T hz];exact BP<|k0 hz
theorem ye{α:Type}(xs:Array α)(i:Nat):(SetTable.eraseAt xs i).toList=xs.toList.eraseIdx i:=by
 unfold SetTable.eraseAt;rw [Bw,Fi,Fi,List.eraseIdx_eq_take_drop_succ];simp [List.extract_eq_drop_take];exact Da<|by simp
theorem yf{α:Type}:∀(l:List α) (j:Nat) (hj:j < l.length),(l[j] :: l.eraseIdx j).Perm l
 | [],_,h=>by simp at h
 | x :: r,0,_=>List.Perm.refl _
 | x :: r,j+1,h=>(List.Perm.swap x _ _).trans<|(yf r j<|Gs h).cons x
theorem XR{t:SetTable}{n i:Nat}(h:t.fits n=true)(hi:i < n):(t.drop i).fits (n - 1)=true/\(t.drop i).led=t.led/\(t.drop i).plain=t.plain:=by
 unfold SetTable.fits at h;rw [Bu,LK,HS] at h;have dv:i < t.place.size:=by rw [h.1];exact hi
 unfold SetTable.drop;rw [Bg dv]
 dsimp only
 refine⟨?_,rfl,rfl⟩;have e1:(SetTable.eraseAt t.place i).size=n - 1:=by
  rw [<- Al,ye,Ge,Al,BL dv,h.1]
 have e2:∀ j,(SetTable.insertAt t.dummies (SetTable.below t.dummies j) j).size=t.dummies.size+1:=λj=>by
  have:=(SetTable.insertAt_perm t.dummies (SetTable.below t.dummies j) j).length_eq
  simpa using this
 have h2:=h.2;unfold SetTable.fill at h2;unfold SetTable.fits SetTable.fill
 dsimp only
 rw [e1,e2];simp only [beq_self_eq_true,TV,HS];omega
theorem XS{z:Str}{tk:Tok}{Q:Bool->Shared->Prop}(S:ak prog w s.heap a zs)
  (k0:z∉zs->Q false s) (k1:∀ h',z∈zs->Heap.SameBut a s.heap h'->ak prog w h' a (zs.erase z)->Q true {s with heap:=h'}) :
  wpAny (model prog w) A (setDiscardHashed a (.str z tk)<|(strKind prog w).hash z) Q E s:=by
 obtain⟨o,es,ep,t,ho,hx,hd,T⟩:=S;unfold setDiscardHashed;refine BJ<|N6 ho hd T (λhz=>?_) λj hj e=>?_
 ·exact BP<|k0 hz
 ·dsimp only
  have ub:j < es.size:=by simpa using hj
  have hz:z∈zs:=T.keys.mem_iff.mp<|Az.mpr ⟨_,Bv hj,e⟩;obtain⟨f1,f2,f3⟩:=XR T.fits ub;have pz:(keyOf es.toList[j] :: (es.toList.eraseIdx j).map keyOf).Perm zs:=by
   refine List.Perm.trans ?_ T.keys;rw [<- Bt];exact(yf _ j hj).map keyOf
  rw [e] at pz;have T':Tab prog w (SetTable.eraseAt es j) (t.drop j) (zs.erase z):={
   elts:=λx hx=>by
    rw [ye] at hx;exact T.elts x<|List.mem_of_mem_eraseIdx hx
   keys:=by
    rw [ye];refine List.Perm.cons_inv (a:=z)<|pz.trans ?_;exact List.perm_cons_erase hz
   nodup:=T.nodup.erase z
   few:=Fc (List.length_erase_le) T.few
   fits:=by
    have:(SetTable.eraseAt es j).size=es.size - 1:=by
     rw [<- Al,ye,Ge,Al,BL ub]
    rw [this];exact f1
   led:=f2.trans T.led
   plain:=by
    rcases T.plain with q | q
    ·subst q;simp at ub
    ·exact .inr (f3.trans q)}
  refine BJ<|CP ho hd T.fits ?_
  dsimp only
  refine BJ<|GK ho hd ?_<|jK<|Ce T'.fv;refine BJ<|wpAny_point<|BP<|k1 _ hz (CT _ a _) (pe ho hx hd T').2
theorem N7{α:Type}(next:Nat->Nat):∀(fuel k:Nat) (left:List α) (out:Array α),left.length<=fuel->(pickOrder.go next fuel k left out).toList.Perm (out.toList++left)
 | 0,k,left,out,h=>by
  have:left=[]:=Bq.mp (by omega);subst this;unfold pickOrder.go;simp
 | fuel+1,k,left,out,h=>by
  unfold pickOrder.go;cases e:left[next k % left.length]? with
  | none=>
   have:left=[]:=by
    cases left with
    | nil=>rfl
    | cons x r=>
     have hl:next k % (x :: r).length < (x :: r).length:=TQ _ (by simp);rw [Aa hl] at e;cases e
   subst this;simp
  | some x=>
   dsimp only
   obtain⟨hl,e2⟩:=Ab.mp e;refine(N7 next fuel (k+1) _ _ (by rw [Ge,BL hl];omega)).trans ?_;rw [Dp,Bf];refine List.Perm.append_left _ ?_;have:=yf left _ hl;rw [e2] at this;exact this
theorem N8{α:Type}(next:Nat->Nat)(xs:Array α):(pickOrder next xs).toList.Perm xs.toList:=by
 have:=N7 next xs.size 0 xs.toList #[] (by simp)
 simpa [pickOrder] using this
theorem wp_choose{src:Source}{n:Nat}{Q:Nat->Shared->Prop}(hn:n≠0)(h:∀ i d,i < n->Q i {s with drawn:=d}):wpAny (model prog w) A (choose src n) Q E s:=
 λΓ p _=>⟨hn,h _ _<|TQ _<|Nat.pos_of_ne_zero hn⟩
theorem EG{α:Type}:∀(n:Nat) (xs:List α) (s:Shared) (Q:List α->Shared->Prop),xs.length<=n->(∀ ys d,ys.Perm xs->Q ys {s with drawn:=d})->wpAny (model prog w) A (drawOrder n xs) Q E s
 | 0,xs,s,Q,h,k=>by
  have:xs=[]:=Bq.mp (by omega);subst this;unfold drawOrder;exact BP<|k [] s.drawn<|List.Perm.refl _
 | n+1,[],s,Q,h,k=>by
  unfold drawOrder;exact BP<|k [] s.drawn<|List.Perm.refl _
 | n+1,x :: r,s,Q,h,k=>by
  unfold drawOrder;refine BJ (wp_choose (by simp) λi d hi=>?_);rw [Aa hi]
  dsimp only
  refine BJ (EG n _ _ _ (by rw [Ge,BL hi];omega) λys d2 p=>?_);exact BP<|k _ d2<|(p.cons _).trans<|yf _ i hi
theorem wp_text{Q:Bool->Shared->Prop}(k:Q (cF w) s):wpAny (model prog w) A setsByText Q E s:=by
 unfold setsByText;exact BJ<|JN<|BP k
variable{o:Obj}{es:Array (Int×Value)}{ep:Nat}{t:SetTable}
theorem XT{Q:Array (Int×Value)->Shared->Prop}(ho:s.heap.get? a=some o)(hd:o.data = .set es ep t)(T:Tab prog w es t zs)
  (k:∀ ws d,ws.toList.Perm es.toList->Q ws {s with drawn:=d}):wpAny (model prog w) A (setWalk a) Q E s:=by
 unfold setWalk;refine BJ<|CP ho hd T.fits ?_
 dsimp only
 refine BJ<|wp_text ?_;cases hb:cF w with
 | true=>
  simp only [FN];refine BJ<|JN ?_;exact BP<|k _ s.drawn<|N8 _ _
 | false=>
  simp only [Bk,DQ];show wpAny _ _ (if(!t.plain && decide (es.size > 1))=true then _ else _) _ _ _
  split
  ·refine BJ (EG _ _ _ _ (by simp) λys d p=>?_);exact BP<|k _ d<|by simpa using p
  ·refine BJ ?_;show wpAny _ _ (if(!t.led && decide (es.size > 1))=true then _ else _) _ _ _;rw [BK<|by rw [T.led,hb];simp];exact BP<|BP<|k _ s.drawn<|List.Perm.refl _
theorem XU{Q:Bool->Shared->Prop}(l:List Addr)(hl:∀ b∈l,∃ ys,ak prog w s.heap b ys)(k:Q true s):wpAny (model prog w) A (setsQuiet l) Q E s:=by
 unfold setsQuiet;refine BJ<|wpAny_forIn_list _ (λrest b s'=>b.1=none/\s'=s/\∀ c∈rest,∃ ys,ak prog w s.heap c ys) _ ?_ ?_ l _ ⟨rfl,rfl,hl⟩
 ·rintro x rest b s' ⟨hb,rfl,hr⟩;obtain⟨ys,o,es,ep,t,ho,hx,hd,T⟩:=hr x Aw;refine BJ<|JX ho hd T.fits ?_;refine BJ<|QD _ (λrest b oP=>b.1=none/\oP=s'/\∀ e∈rest,ny prog w e) _ ?_ ?_ es _ ⟨rfl,rfl,T.elts⟩
  ·rintro e r2 b2 s2 ⟨uc,rfl,he⟩;obtain⟨z,u,rfl⟩:=he _ Aw;exact BP ⟨rfl,rfl,λe h=>he e<|Ax _ h⟩
  ·rintro ⟨_,_⟩ s2 ⟨rfl,rfl,_⟩;exact BP ⟨rfl,rfl,λc h=>hr c<|Ax _ h⟩
 ·rintro ⟨_,_⟩ s' ⟨rfl,rfl,_⟩;exact BP k
theorem XW{f:Addr}{zf:List Str}{Q:Array (Int×Value)->Shared->Prop}(ho:s.heap.get? a=some o)(hx:o.ExactSet)(hd:o.data = .set es ep t)(T:Tab prog w es t zs)(Sf:ak prog w s.heap f zf)
  (k:∀ ws h' d,ws.toList.Perm es.toList->Heap.SameBut f s.heap h'->ak prog w h' f zf->Q ws {s with heap:=h',drawn:=d}):wpAny (model prog w) A (setWalkUnseen a [f]<|some f) Q E s:=by
 unfold setWalkUnseen;refine BJ<|CP ho hd T.fits ?_
 dsimp only
 refine BJ<|wp_text ?_
 split
 ·exact XT ho hd T λws d p=>k ws s.heap d p (Heap.SameBut.refl _ _) Sf
 ·rename_i hn;have hb:cF w=false:=by
   cases e:cF w with
   | false=>rfl
   | true=>rw [e] at hn;simp at hn
  refine BJ<|XU [a,f] (λb hb=>?_) ?_
  ·rcases Ar.mp hb with rfl | hb
   ·exact⟨zs,o,es,ep,t,ho,hx,hd,T⟩
   ·rw [Ae] at hb;subst hb;exact⟨zf,Sf⟩
  ·simp only [Ey,Bk,DQ];refine BJ<|JB ?_;obtain⟨of,ef,epf,tf,EH,XX,lI,Tf⟩:=id Sf;refine BJ<|CP EH lI Tf.fits ?_
   dsimp only
   have T2:Tab prog w ef {tf with led:=tf.led && t.led,plain:=tf.plain && t.plain} zf:=
    ⟨Tf.elts, Tf.keys, Tf.nodup, Tf.few, Tf.fits, by show (tf.led && t.led) = _; rw [Tf.led, T.led]; simp, by
     rcases Tf.plain with q | q
     ·exact .inl q
     ·exact .inr<|by show(tf.plain && t.plain)=false;rw [q];rfl⟩
   split
   ·refine BJ<|GK EH lI ?_<|jK<|Ce Tf.fv;exact BP<|k es _ s.drawn (List.Perm.refl _) (CT _ f _) (pe EH XX lI T2).2
   ·exact BP<|k es s.heap s.drawn (List.Perm.refl _) (Heap.SameBut.refl _ _) Sf
end
open Builtin.Frozenset
def pf(m:Nat):Bool:=m == 8 || m == 16 || m == 32 || m == 64 || m == 128
theorem XY{m:Nat}(h:pf m=true):Pow m:=by
 unfold pf at h;simp only [Bool.or_eq_true,LK] at h;unfold Pow;omega
theorem XZ:((List.range 64).all λn=>pf (SetTable.sizeAbove<|n * 2) && decide (n < SetTable.sizeAbove (n * 2)))=true:=by decide +kernel
theorem X0{n:Nat}(h:n < 64):Pow (SetTable.sizeAbove<|n * 2)/\n < SetTable.sizeAbove (n * 2):=by
 have q:=XZ;rw [Dk] at q;have:=q n<|Bh.mpr h;rw [Bu,HS] at this;exact⟨XY this.1,this.2⟩
theorem X2{es:Array (Int×Value)}{order:Array Nat}(p:order.toList.Perm<|List.range es.size):(order.filterMap (es[·]?)).toList.Perm es.toList:=by
 rw [Array.toList_filterMap];have:=p.filterMap λi=>es[i]?;rwa [filterMap_getElem?_range] at this
section
variable{prog:Program}{w:World}{A:Around}{E:Value->Shared->Prop}{s:Shared}{a:Addr}{zs:List Str}
structure d8(w:World)(t:SetTable):Prop where
 place:t.place=#[]
 dummies:t.dummies=#[]
 led:t.led = !cF w
 plain:t.plain=true
theorem d8.tab{t:SetTable}(B:d8 w t):Tab prog w #[] t []:=
 ⟨λe he=>by simp at he,by simp,Ds,by decide,by unfold SetTable.fits SetTable.fill;rw [B.place,B.dummies];simp,B.led,.inl rfl⟩
theorem d8.fill{t:SetTable}(B:d8 w t):t.fill=0:=by unfold SetTable.fill;rw [B.place,B.dummies];rfl
theorem X3{Q:Value->Shared->Prop}
  (k:∀ o,o.ExactSet->(∃ t,o.data = .set #[] 0 t/\d8 w t/\t.mask=7)->o.isFreed=false->Q (.ref s.heap.objs.size) {s with heap:=s.heap.push o}):wpAny (model prog w) A (newSet<|.type "set") Q E s:=by
 unfold newSet;refine BJ<|wp_text ?_
 dsimp only
 simp only [newObj];refine BJ<|QB<|BP ?_;exact k _ ⟨rfl,rfl,rfl⟩ ⟨_,rfl,⟨rfl,rfl,rfl,rfl⟩,rfl⟩ rfl
variable{o:Obj}{ep:Nat}{t:SetTable}
theorem X4{n:Nat}{Q:Unit->Shared->Prop}(ho:s.heap.get? a=some o)(hx:o.ExactSet)(hd:o.data = .set #[] ep t)(B:d8 w t)(hm:t.mask=7)(hn:n < 64)
  (k:∀ h' o' mX t',Heap.SameBut a s.heap h'->h'.get? a=some o'->o'.ExactSet->o'.data = .set #[] mX t'->d8 w t'->Pow (t'.mask+1)->n<=t'.mask->Q () {s with heap:=h'}) :
  wpAny (model prog w) A (setRoomFor a n) Q E s:=by
 have T:Tab prog w #[] t []:=B.tab;unfold setRoomFor;refine BJ<|CP ho hd T.fits ?_
 dsimp only
 unfold SetTable.roomFor;rw [B.fill,hm]
 by_cases c:(0+n) * 5>=7 * 3
 ·rw [BL c]
  dsimp only
  have e0:(t.place.size+n) * 2=n * 2:=by rw [B.place];simp
  rw [e0];obtain⟨hp,hl⟩:=X0 hn;unfold setRelay;refine BJ<|CP ho hd T.fits ?_
  dsimp only
  have hle:SetTable.sizeAbove (n * 2)<=512:=hp.pos.2;have h8:8<=SetTable.sizeAbove (n * 2):=hp.pos.1;rw [BK<|by rw [FZ];omega];have em:SetTable.sizeAbove (n * 2) - 1+1=SetTable.sizeAbove (n * 2):=by omega
  obtain⟨t',order,e,p,f,l1,l2,l3,l4,l5⟩:=N2 (mask:=SetTable.sizeAbove (n * 2) - 1) (finger:=t.finger) (moves:=t.movedTo<|SetTable.sizeAbove (n * 2) - 1) (led:=t.led) (plain:=t.plain) (by rw [em];exact hp) (#[]:Array Int) (by simp);have er:t.relaid ((#[]:Array<|Int×Value).map (·.1)) (n * 2)=some (t',order):=by
   unfold SetTable.relaid;rw [show((#[]:Array<|Int×Value).map (·.1))=#[] by simp];exact e
  rw [er];have eo:order=#[]:=by
   have:=p.length_eq;simp at this;exact this
  subst eo;refine BJ ?_;show wpAny _ _ (if(((#[]:Array Nat).filterMap ((#[]:Array<|Int×Value)[·]?)).size != (#[]:Array<|Int×Value).size)=true then(unsupported "internal:set-table-lost-an-element" : Sem<|Array (Int×Value)×SetTable) else pure ((#[]:Array Nat).filterMap ((#[]:Array<|Int×Value)[·]?),t')) _ _ _;rw [BK<|by simp];refine BP ?_
  dsimp only
  have ee:((#[]:Array Nat).filterMap ((#[]:Array<|Int×Value)[·]?))=#[]:=by simp
  rw [ee];have B':d8 w t':=⟨by
   have:=l5
   simpa using this,l4,l1.trans B.led,l2.trans B.plain⟩
  refine GK ho hd ?_ (by simp);have q:=(pe ho hx hd<|B'.tab (prog:=prog)).1;exact k _ _ _ _ (CT _ a _) q hx rfl B' (by rw [l3,em];exact hp) (by rw [l3];omega)
 ·rw [BK c];exact BP<|k s.heap o ep t (Heap.SameBut.refl _ _) ho hx hd B (by rw [hm];exact .inl rfl)<|by rw [hm];omega
theorem X5{b:Addr}{each:Sem Unit}{Q:Unit->Shared->Prop}(ho:s.heap.get? a=some o)(hx:o.ExactSet)(hd:o.data = .set #[] ep t)(B:d8 w t)(hm:t.mask=7)(eX:a≠b)(S:ak prog w s.heap b zs)(hz:zs.length < 64)
  (k:∀ h',Heap.SameBut a s.heap h'->ak prog w h' a zs->Q () {s with heap:=h'}):wpAny (model prog w) A (setMerge a b each) Q E s:=by
 obtain⟨ob,eo,epb,tb,yg,hxb,cx,Tb⟩:=S;unfold setMerge;have e1:(a == b)=false:=by simpa using eX
 rw [e1];simp only [Bk,DQ];refine BJ<|CP yg cx Tb.fits ?_
 dsimp only
 by_cases c:eo.isEmpty=true
 ·rw [BL c];have:eo=#[]:=by simpa using c
  subst this;have ez:zs=[]:=by
   have:=Tb.size;exact Bq.mp<|by simpa using this.symm
  subst ez;exact BP<|k s.heap (Heap.SameBut.refl _ _) ⟨o,#[],ep,t,ho,hx,hd,B.tab⟩
 ·rw [BK c];have hsz:eo.size < 64:=by rw [Tb.size];exact hz
  refine BJ<|X4 ho hx hd B hm hsz λh' o' mX t' sb cY dC oz B' hp hl=>?_;refine BJ<|CP cY oz (B'.tab (prog:=prog)).fits ?_
  dsimp only
  have ld:(t'.led && tb.led) = !cF w:=by rw [B'.led,Tb.led];simp
  have pl:tb.plain=false:=by
   rcases Tb.plain with q | q
   ·rw [q] at c;simp at c
   ·exact q
  unfold SetTable.road;rw [B'.fill];simp only [FP,Bk,DQ]
  by_cases c2:(t'.mask == tb.mask && tb.dummies.isEmpty)=true
  ·rw [BL c2]
   dsimp only
   have T2:Tab prog w eo {tb with finger:=t'.finger,led:=t'.led && tb.led,moves:=t'.moves,plain:=t'.plain && tb.plain} zs:=
    ⟨Tb.elts,Tb.keys,Tb.nodup,Tb.few,Tb.fits,ld,.inr<|by show(t'.plain && tb.plain)=false;rw [pl];simp⟩
   refine GK cY oz ?_<|jK<|Ce Tb.fv;exact k _ (sb.trans<|CT _ a _) (pe cY dC oz T2).2
  ·rw [BK c2]
   dsimp only
   obtain⟨t2,order,e,p,f,l1,l2,l3,l4,l5⟩:=N2 (finger:=t'.finger) (moves:=t'.moves) (led:=t'.led && tb.led) (plain:=t'.plain && tb.plain) hp (eo.map (·.1)) (by simpa using hl);rw [e];have p2:order.toList.Perm (List.range eo.size):=by simpa using p
   have pp:=X2 p2;have ps:(order.filterMap (eo[·]?)).size=eo.size:=by
    have:=pp.length_eq;rwa [Al,Al] at this
   refine BJ ?_;show wpAny _ _ (if((order.filterMap (eo[·]?)).size != eo.size)=true then _ else pure (order.filterMap (eo[·]?),t2)) _ _ _;rw [BK<|by rw [ps];simp];refine BP ?_
   dsimp only
   have T2:Tab prog w (order.filterMap (eo[·]?)) t2 zs:=⟨λx hx=>Tb.elts x<|pp.mem_iff.mp hx,(pp.map keyOf).trans Tb.keys,Tb.nodup,Tb.few,by rw [ps];simpa using f,l1.trans ld,.inr<|l2.trans<|by rw [pl];simp⟩;refine GK cY oz ?_<|jK<|Ce T2.fv;exact k _ (sb.trans<|CT _ a _) (pe cY dC oz T2).2
theorem yh{Q:Bool->Shared->Prop}(S:ak prog w s.heap a zs)(k:Q true s):wpAny (model prog w) A (isAnySet<|.ref a) Q E s:=by
 unfold isAnySet;refine BJ<|JQ S.typeIs sub_set_self ?_;exact BP k
theorem X6{Q:Value->Shared->Prop}(S:ak prog w s.heap a zs)(k:Q (.type "set") s):wpAny (model prog w) A (baseOf a) Q E s:=by
 unfold baseOf;refine BJ<|JQ S.typeIs sub_set_self ?_;exact BP k
theorem N9{Q:Nat->Shared->Prop}(S:ak prog w s.heap a zs)(k:∀ n,(∀ s':Shared,s'.heap.get? a=s.heap.get? a->∀ Q':Nat->Shared->Prop,Q' n s'->wpAny (model prog w) A (setEpoch a) Q' E s')->Q n s):wpAny (model prog w) A (setEpoch a) Q E s:=by
 obtain⟨o,es,ep,t,ho,hx,hd,T⟩:=S;exact MJ ho hd T.fits<|k ep λs' e Q' q=>MJ (e.trans ho) hd T.fits q
theorem X7{b:Addr}{id:String}{Q:Value->Shared->Prop}(S:ak prog w s.heap b zs)(hz:zs.length < 64)
  (k:∀ h',(∀ c o,s.heap.get? c=some o->h'.get? c=some o)->ak prog w h' s.heap.objs.size zs->Q (.ref s.heap.objs.size) {s with heap:=h'}):wpAny (model prog w) A (newFrom id (.type "set")<|.ref b) Q E s:=by
 unfold newFrom;refine BJ<|X3 λo hx ⟨t,hd,B,hm⟩ hf=>?_;have ho:(s.heap.push o).get? s.heap.objs.size=some o:=At _ hf;have aM:b < s.heap.objs.size:=S.lt;have S':ak prog w (s.heap.push o) b zs:=S.keep λo' e=>Af _ e;unfold addrOf;refine BJ<|BP<|BJ<|CN ?_;unfold updateFrom;refine BJ<|yh (s:={s with heap:=s.heap.push o}) S' ?_;simp only [FN];refine BJ<|BP ?_;unfold merge;refine BJ<|N9 (s:={s with heap:=s.heap.push o}) S' λn _=>?_;refine X5 (s:={s with heap:=s.heap.push o}) ho hx hd B hm (Di aM) S' hz λh' sb S2=>?_;refine BP<|k h' (λc u e=>?_) S2;have hc:c≠s.heap.objs.size:=Bp<|Au e;rw [sb.2 c hc];exact Af _ e
def flipped(zs:List Str)(z:Str):List Str:=if z∈zs then zs.erase z else zs++[z]
theorem EI{zs:List Str}(hn:zs.Nodup)(z y:Str):y∈flipped zs z↔(if y=z then y∉zs else y∈zs):=by
 unfold flipped
 by_cases c:z∈zs
 ·rw [BL c,hn.mem_erase_iff]
  by_cases e:y=z
  ·subst e;simp [c]
  ·simp [e]
 ·rw [BK c,Ao,Ae]
  by_cases e:y=z
  ·subst e;simp [c]
  ·simp [e]
theorem X8(zs:List Str)(z:Str):(flipped zs z).length<=zs.length+1:=by
 unfold flipped
 split
 ·exact Nat.le_succ_of_le<|List.length_erase_le
 ·simp
theorem Oa:∀(ps zs:List Str),zs.Nodup->ps.Nodup->∀ y,y∈ps.foldl flipped zs↔(if y∈ps then y∉zs else y∈zs)
 | [],zs,_,_,y=>by simp
 | p :: r,zs,hn,hp,y=>by
  rw [Cr] at hp;have C2:(flipped zs p).Nodup:=by
   unfold flipped
   split
   ·exact hn.erase p
   ·rename_i c;rw [Dq];exact⟨hn,by simp,λx hx y hy e=>by rw [Ae] at hy;subst hy e;exact c hx⟩
  rw [Db,Oa r _ C2 hp.2 y]
  by_cases e:y=p
  ·subst e;rw [BK hp.1,EI hn,BL rfl,BL Aw]
  ·by_cases c:y∈r
   ·rw [BL c,BL<|Ax _ c,EI hn,BK e]
   ·rw [BK c,BK (λh=>by rcases Ar.mp h with h | h;exact e h;exact c h),EI hn,BK e]
end
theorem X9:entryFor table "set.__xor__" = some Builtin.«frozenset.__xor__»:=
 PL (id':= "frozenset.__xor__") (by kernel_rfl) rfl (by decide +kernel) (by kernel_rfl)
section
variable{prog:Program}{w:World}{A:Around}{E:Value->Shared->Prop}{s:Shared}{a r:Addr}{za zr:List Str}
theorem Ya{nm:String}{Q:Unit->Shared->Prop}(Sa:ak prog w s.heap a za)(Sr:ak prog w s.heap r zr)(pg:a≠r)(hl:za.length+zr.length < 900)
  (k:∀ h' d (ws:List Str),ws.Perm za->Heap.SameBut r s.heap h'->ak prog w h' r (ws.foldl flipped zr)->Q () {s with heap:=h',drawn:=d}):wpAny (model prog w) A (symmetricDifferenceUpdate nm r<|.ref a) Q E s:=by
 unfold symmetricDifferenceUpdate;have e1:(Value.ref a == Value.ref r)=false:=by
  refine Eb.mpr λh=>pg ?_;have:=eq_of_beq h;exact Value.ref.inj this
 rw [e1];simp only [Bk,DQ];refine BJ<|OD Sa.typeIs ?_;rw [show(Value.type "set" == Value.type "dict")=false by decide];simp only [Bk,DQ];refine BJ<|yh Sa ?_;simp only [FN];refine BJ<|BP ?_;unfold addrOf;refine BJ<|BP ?_;refine BJ<|N9 Sa λn hn=>?_;refine CN ?_;obtain⟨o,es,ep,t,ho,hx,hd,T⟩:=id Sa;refine BJ<|XW ho hx hd T Sr λws h1 d1 p sb S1=>?_;have pw:(ws.toList.map keyOf).Perm za:=(p.map keyOf).trans T.keys;have el:∀ e∈ws.toList,ny prog w e:=λe he=>T.elts e<|p.mem_iff.mp he;refine BJ<|QD _ (λrest _ s'=>∃ h' zz,s'={s with heap:=h',drawn:=d1}/\Heap.SameBut r s.heap h'/\ak prog w h' r zz/\zz.length+rest.length < 900/\(∀ e∈rest,ny prog w e) /\
   (rest.map keyOf).foldl flipped zz=(ws.toList.map keyOf).foldl flipped zr) _ ?_ ?_ ws _ ⟨h1,zr,rfl,sb,S1,?_,el,rfl⟩
 ·rintro e rest b s' ⟨h',zz,rfl,ri,S',ud,he,hf⟩;obtain⟨z,tk,rfl⟩:=he _ Aw;have yi:∀ e∈rest,ny prog w e:=λe h=>he e<|Ax _ h;rw [Av] at ud;have Ob:∀(h2:Heap) (Q':Nat->Shared->Prop),Heap.SameBut r s.heap h2->Q' n {s with heap:=h2,drawn:=d1}->wpAny (model prog w) A (setEpoch a) Q' E {s with heap:=h2,drawn:=d1}:=
   λh2 Q' q1 q2=>hn _ (q1.2 a pg) Q' q2
  have fin:∀ h2 EJ,Heap.SameBut r s.heap h2->ak prog w h2 r EJ->EJ=flipped zz z->∃ h' EK,({s with heap:=h2,drawn:=d1}:Shared)={s with heap:=h',drawn:=d1}/\Heap.SameBut r s.heap h'/\ak prog w h' r EK/\EK.length+rest.length < 900/\(∀ e∈rest,ny prog w e) /\
    (rest.map keyOf).foldl flipped EK=(ws.toList.map keyOf).foldl flipped zr:=by
   rintro h2 EJ q1 q2 rfl;refine⟨h2,_,rfl,q1,q2,?_,yi,hf⟩;have:=X8 zz z;omega
  dsimp only
  refine BJ<|CN<|BJ<|XS (s:={s with heap:=h',drawn:=d1}) S' (λhz=>?_) λh2 hz q1 q2=>?_
  ·simp only [Bool.not_false,FN];refine BJ (EF (s:={s with heap:=h',drawn:=d1}) S' (by omega) λb h2 q1 q2=>BP ?_);unfold unchanged;refine BJ<|BJ<|Ob h2 _ (ri.trans q1) ?_;simp only [FP,Bk,DQ];refine BP<|BP<|fin h2 _ (ri.trans q1) q2 ?_;unfold added flipped;rw [BK hz,BK hz]
  ·simp only [Ey,Bk,DQ];refine BP ?_;unfold unchanged;refine BJ<|BJ<|Ob h2 _ (ri.trans q1) ?_;simp only [FP,Bk,DQ];refine BP<|BP<|fin h2 _ (ri.trans q1) q2 ?_;unfold flipped;rw [BL hz]
 ·rintro b s' ⟨h',zz,rfl,ri,S',_,_,hf⟩;have x5:zz=(ws.toList.map keyOf).foldl flipped zr:=hf;subst x5;exact BP<|k h' d1 _ pw ri S'
 ·have:=pw.length_eq;rw [Ac] at this;omega
theorem Yb{b:Addr}{zb:List Str}{Q:Value->Shared->Prop}(Sa:ak prog w s.heap a za)(Sb:ak prog w s.heap b zb)(ha:za.length < 64)(hb:zb.length < 64)
  (k:∀ h' d zc,(∀ c o,s.heap.get? c=some o->h'.get? c=some o)->ak prog w h' s.heap.objs.size zc->(∀ y,y∈zc↔(if y∈za then y∉zb else y∈zb))->Q (.ref s.heap.objs.size) {s with heap:=h',drawn:=d}) :
  wpAny (model prog w) A (binaryOp .BitXor (.ref a)<|.ref b) Q E s:=by
 refine wpAny_binaryOp_same (op:= .BitXor) (T:= "set") Sa.typeIs Sb.typeIs F.fills_set_xor F.slot_set_xor<|DN F.slot_set_xor Sa.typeIs X9 ?_<|F.args_set_xor_2 _ _;show wpAny _ _ (slot1 "__xor__" ⟨[.ref a,.ref b],[]⟩ >>= _) _ _ _;unfold slot1 slotArgs;simp only [Hj,Ey,Bk,↓reduceIte,bind_assoc,Av,Ff,FP];refine BJ<|BP ?_
 dsimp only
 refine BJ<|BP ?_
 dsimp only
 refine BJ<|BJ<|yh Sa ?_;refine yh Sb ?_;simp only [Ey,Bk,DQ];unfold addrOf;refine BJ<|BP ?_;refine BJ ?_;show wpAny _ _ (baseOf a >>= λc=>newFrom (toString "frozenset."++toString "__xor__") c (.ref b) >>= λres=>addrOf res >>= λq=>holding [res] (symmetricDifferenceUpdate (toString "frozenset."++toString "__xor__") q<|.ref a) >>= λ_=>pure res) _ _ _;refine BJ<|X6 Sa ?_;refine BJ<|X7 Sb hb λh1 k1 S1=>?_;unfold addrOf;refine BJ<|BP<|BJ<|CN ?_;have Yc:ak prog w h1 a za:=Sa.keep<|k1 a;refine Ya (s:={s with heap:=h1}) Yc S1 (Bp Sa.lt) (by omega) λh2 d ws p sb S2=>?_;refine BP<|BP ⟨_,rfl,by simp,k h2 d _ (λc o e=>?_) S2 λy=>?_⟩
 ·rw [sb.2 c<|Bp<|Au e];exact k1 c o e
 ·rw [Oa ws zb Sb.nodup (p.nodup_iff.mpr Sa.nodup) y];simp only [p.mem_iff]
end
def made(zs:List Str):List Str:=zs.foldl added []
theorem EL(zs:List Str)(z y:Str):y∈added zs z↔y∈zs\/y=z:=by
 unfold added
 split
 ·rename_i h;exact⟨.inl,λq=>q.elim id λe=>e ▸ h⟩
 ·rw [Ao,Ae]
theorem Yd(zs:List Str)(z:Str):(added zs z).length<=zs.length+1:=by
 unfold added
 split <;> simp
theorem Oc:∀(ps zs:List Str) (y:Str),y∈ps.foldl added zs↔y∈zs\/y∈ps
 | [],zs,y=>by simp
 | p :: r,zs,y=>by
  rw [Db,Oc r,EL,Ar]
  constructor
  ·rintro ((h | h) | h)
   ·exact .inl h
   ·exact .inr<|.inl h
   ·exact .inr<|.inr h
  ·rintro (h | h | h)
   ·exact .inl<|.inl h
   ·exact .inl<|.inr h
   ·exact .inr h
theorem Od:∀(ps zs:List Str),(ps.foldl added zs).length<=zs.length+ps.length
 | [],zs=>by simp
 | p :: r,zs=>by
  rw [Db,Av];have h1:=Od r<|added zs p;have h2:=Yd zs p;omega
theorem Ye(zs:List Str)(y:Str):y∈made zs↔y∈zs:=by
 unfold made;rw [Oc];simp
theorem ER(zs:List Str):(made zs).length<=zs.length:=by
 have:=Od zs []
 simpa [made] using this
section
variable{prog:Program}{w:World}{A:Around}{E:Value->Shared->Prop}{s:Shared}
def gj(w:World):Obj:={cls:= .type "set",dict:=none,data:= .set #[] 0 (.fresh 0 0 (!cF w))}
theorem EV{h:Heap}{a:Addr}(e:h.get? a=some (gj w)):ak prog w h a []:=⟨_,_,_,_,e,⟨rfl,rfl,rfl⟩,rfl,d8.tab ⟨rfl,rfl,rfl,rfl⟩⟩
theorem Yf(v:Value){Q:Value->Shared->Prop}(k:Q (.ref s.heap.objs.size) {s with heap:=s.heap.push (gj w)}) :
  codeAny (model prog w) A (.call (.builtin "set.__new__") ⟨[.type "set",v],[]⟩) (wants Q E) s:=by
 refine KC ?_;show wpAny _ A.in1 (checkBuiltinCall "set.__new__" ⟨[.type "set",v],[]⟩ >>= λ_=>again<|.builtin "set.__new__" ⟨[.type "set",v],[]⟩) _ _ s;refine BJ<|HX (F.newCall_set_1 v)<|BP ⟨GX F.plain_set_new _,EY F.entry_set_new ?_⟩;rw [DW F.plain_set_new _];unfold Builtin.«set.__new__» newClass
 dsimp only
 refine BJ<|BJ<|HX (show isType (.type "set")=pure true from rfl)<|BP ?_;simp only [Ey,Bk,DQ];unfold newSet;refine BJ<|BJ<|wp_text ?_
 dsimp only
 simp only [newObj];refine BJ<|QB<|BP ?_;exact BP k
variable{R:Result->Shared->Prop}{I:Addr}{fp wr:List Addr}{G:Array GenState->Array GenState->Prop}{n:Nat}{P:Nat->Value->Prop}{St:Nat->Shared->Prop}
theorem Yg(W:WalksS prog w A.in1 I fp wr G n P St)(a:Addr)(ha:a∉fp)(zs:List Str)(hn:zs.length=n)(ph:∀ i v,P i v->∃ z t,zs[i]?=some z/\v=Value.str z t)(hb:n < 900) :
  ∀(k i:Nat) (s:Shared),n - i=k->i<=n->St i s->ak prog w s.heap a (made<|zs.take i)->(∀ s',Moved (a :: wr) G s s'->ak prog w s'.heap a (made zs)->R (.ok<|.ret .none) s') ->
   codeAny (model prog w) A (.builtin "set.update.loop" ⟨[.ref a,.ref I],[]⟩) R s:=by
 have Oe:a∉wr:=λh=>ha<|W.sub _ h;have lR:∀ b∈wr,b∈a :: wr:=λb hb=>Ax _ hb;intro k
 induction k with
 | zero=>
  intro i s hk hi st S k2;have e:i=n:=by omega
  subst e;refine EY KR ?_;rw [DW HJ _];show wpAny _ A.in1 (pyNext (.ref I) >>= _) _ _ s;refine BJ<|W.done s _ _ st λs' m=>?_;show wpAny _ A.in1 (ret Value.none) _ _ s';rw [Da<|by omega] at S;exact BP<|k2 s' (m.mono lR)<|S.keep λo e=>m.heap a o Oe e
 | succ k ih=>
  intro i s hk hi st S k2;have aM:i < n:=by omega
  refine EY KR ?_;rw [DW HJ _];show wpAny _ A.in1 (pyNext (.ref I) >>= _) _ _ s;refine BJ<|W.item i s _ _ aM st λv s' hP ag m=>?_;obtain⟨z,t,hz,rfl⟩:=ph i v hP;have S':ak prog w s'.heap a (made<|zs.take i):=S.keep λo e=>m.heap a o Oe e;show wpAny _ A.in1 (holding [Value.str z t] (setAdd a<|.str z t) >>= _) _ _ s';refine BJ<|CN ?_;unfold setAdd;refine CN<|BJ<|(strKind prog w).pyHash (k:=z) (NZ _ _ _ _) ?_;have hl:(made<|zs.take i).length<=i:=Ck (ER _) (by rw [Bm];omega);refine EF (s:={s' with toks:=s'.toks+1}) S' (by omega) λb h' sb S2=>?_;have S3:ak prog w h' a (made<|zs.take<|i+1):=by
   rw [Bz,hz];unfold made;rw [List.foldl_append];exact S2
  refine BP ⟨GX HJ _,ih (i+1) _ (by omega) aM (W.frame _ s' _ _ ag (Ez _) λc hc o e=>?_) S3 λs2 m2 S4=>?_⟩
  ·rw [sb.2 c λh=>ha<|h ▸ hc];exact e
  ·refine k2 s2 (Moved.trans W.gtrans ((m.mono lR).then_heap (Ez _) λc o hc e=>?_) m2) S4;rw [sb.2 c λh=>hc<|h ▸ Aw];exact e
theorem Yh{Q:Value->Shared->Prop}{l:Addr}{items:Array Value}{zs:List Str}(hh:A.handled=none)(hl:s.heap.IsList l items)(hi:∀(i:Nat) v,items[i]?=some v->∃ z t,zs[i]?=some z/\v=Value.str z t)(hz:zs.length=items.size)(hb:items.size < 900)
  (k:∀ h' tk,(∀ b o,s.heap.get? b=some o->h'.get? b=some o)->ak prog w h' s.heap.objs.size (made zs)->Q (.ref s.heap.objs.size) {s with heap:=h',toks:=tk}):wpAny (model prog w) A (call (.type "set") [.ref l]) Q E s:=by
 obtain⟨c,tl,pj⟩:=F.called_set.mro;have uf:=F.called_set.made;have lR:=F.called_set.sub;refine QW<|KC ?_;show wpAny _ _ (callAny (.type "set") _) _ _ _;refine BP ⟨Code.quiet_builtin _ (by decide +kernel),EY F.entry_type_call ?_⟩;rw [Around.under_plain (weight_type_call_type "set" [.ref l] []) rfl];have h1:=F.called_set.notType;have h2:=F.called_set.canCreate;have h3:=F.typeCall_set_1<|.ref l
 repeat (any_goals (first | assumption | wp_step))
 refine IK (Yf (.ref l) (E:=E) (Q:=λv s₁=>v = .ref s.heap.objs.size/\s₁={s with heap:=s.heap.push (gj w)}) ⟨rfl,rfl⟩) λr s₁ hr=>?_;cases r with
 | error e=>exact hr
 | ok fl=>
  cases fl with
  | ret v=>
   obtain⟨rfl,rfl⟩:=hr;have hS:(s.heap.push<|gj w).get? s.heap.objs.size=some (gj w):=At _ rfl;have hT:Shared.TypeIs {s with heap:=s.heap.push (gj w)} (.ref s.heap.objs.size) "set":=⟨_,hS,rfl⟩;have lS:=F.called_set.init.lookup;have EW:=F.called_set.init.bind<|.ref s.heap.objs.size
   repeat (any_goals (first | assumption | wp_step))
   refine IK (OJ (R:=wants (λr s₂=>r = .none/\∃ h' tk,s₂={s with heap:=h',toks:=tk}/\(∀ b o,s.heap.get? b=some o->h'.get? b=some o)/\ak prog w h' s.heap.objs.size (made zs)) E) F.called_set.init.plain F.entry_set_init<|check_set_init_1 hT ?_) λr2 s2 gI=>?_
   ·obtain⟨ol,ug,nz,nl,rj⟩:=hl;obtain⟨Yi,uh,Og,pk⟩:=ol;simp only at nz rj;subst nz rj;have EX:(s.heap.push<|gj w).get? l=some {cls:= .type "list",dict:=uh,data:= .seq items nl,slots:=pk}:=Af _ ug;have n1:=F.sub_list_set;have n2:=F.sub_list_frozenset;have n3:(Value.type "list" == Value.type "dict")=false:=by decide
    have rk:(s.heap.push<|gj w).IsList l items:=⟨_,EX,rfl,nl,rfl⟩;have EZ:(s.heap.push<|gj w).get? s.heap.objs.size=some {cls:= .type "set",dict:=none,data:= .set #[] 0 (.fresh 0 0 (!cF w))}:=hS;unfold Builtin.«set.__init__» noKeywords updateFrom;generalize Yj:pyIter=PI
    wp_walk
    subst Yj;refine MF rk ?_;refine BJ<|wpAny_runValue ?_;have aM:l < s.heap.objs.size:=Au ug;have bF:l≠(s.heap.push<|gj w).objs.size:=by
     rw [Dc];exact Bp<|Ce aM
    have Yk:s.heap.objs.size∉[(s.heap.push<|gj w).objs.size,l]:=by
     rw [Dc];intro h
     rcases Ar.mp h with h | h
     ·exact absurd h<|Bp<|Hh _
     ·rw [Ae] at h;exact absurd h<|Di aM
    refine Yg ((Walks.list (by simp [hh]) _ l bF items).toS) s.heap.objs.size Yk zs hz (λi v hv=>hi i v hv) hb (items.size - 0) 0 _ (by omega) (Bn _)
     ⟨⟨_,At _ rfl,rfl,rfl⟩,(rk.push _)⟩ ?_ λs' m S'=>?_
    ·exact EV<|Af _ hS
    ·obtain⟨h',g',d',yj,BV⟩:=s';have eg:g'=s.gens:=m.gens;have ed:d'=s.drawn:=m.drawn;have eo:BV=s.os:=m.os;subst eg ed eo;refine BP ?_;refine BP ⟨rfl,h',yj,rfl,λb o e=>?_,S'⟩;have hb:=Au e;refine m.heap b o (λh=>?_)<|Af _<|Af _ e;rw [Dc] at h
     rcases Ar.mp h with h | h
     ·exact absurd h<|Bp hb
     ·rw [Ae] at h;exact absurd h<|Bp<|Ce hb
   ·cases r2 with
    | error e=>exact gI
    | ok Yl=>
     cases Yl with
     | ret r=>
      obtain⟨rfl,h',tk,rfl,q1,q2⟩:=gI
      repeat (any_goals (first | assumption | wp_step))
      exact k _ _ q1 q2
     | _=>exact gI.elim
  | _=>exact hr.elim
end
theorem slot_next:Slot "set_iterator" "__next__" "set_iterator.__next__":=
 .of (owner:= "set_iterator") (n:= "__next__") (by rw [RT,NK];kernel_rfl) (by decide +kernel) (by decide +kernel) (by decide +kernel)
  (by first | exact .inl (by decide +kernel) | exact .inr<|by decide +kernel) (by rw [isSubtype_type];kernel_rfl)
theorem entry_next:entryFor table "set_iterator.__next__" = some Builtin.«set_iterator.__next__»:=entryFor_of_fast<|by kernel_rfl
theorem args_next(a:Value):argsOk "set_iterator.__next__" ⟨[a],[]⟩:=by unfold argsOk;kernel_rfl
theorem Ym:entryFor table "set.__iter__" = some Builtin.«frozenset.__iter__»:=
 PL (id':= "frozenset.__iter__") (by kernel_rfl) rfl (by decide +kernel) (by kernel_rfl)
def kG(first:Value)(i:Nat)(a:Addr)(n ep:Nat):Obj:={cls:= .type "set_iterator",data:= .fields #[first,.int i 0,.ref a,.int n 0,.int ep 0]}
def fw(ys:List Nat):Obj:={cls:= .type "tuple",data:= .seq (ys.map λ(i:Nat)=>rawInt i).toArray}
inductive Way (w:World) (h:Heap) (a tp:Addr) (es:Array<|Int×Value) (ep:Nat) (t:SetTable) (ws:List<|Int×Value) (i:Nat):Value->Prop where
 | drawn (ys:List Nat) (ht:h.get? tp=some (fw ys)) (hl:ys.length=es.size) (hw:∀ j:Nat,∀ y,ys[j]?=some y->es[y]?=ws[j]?):Way w h a tp es ep t ws i<|.ref tp
 | text (c:Int) (hb:cF w=true) (hw:ws=(pickOrder (w.params.setOrder a ep) es).toList):Way w h a tp es ep t ws i<|.int c 0
 | one (c:Nat) (hb:cF w=false) (hs:es.size<=1) (hw:ws=es.toList) (hc:SetTable.below t.place c=i):Way w h a tp es ep t ws i<|.int c 0
section
variable{prog:Program}{w:World}{A:Around}{E:Value->Shared->Prop}{s:Shared}{a tp it:Addr}{zs:List Str}{o:Obj}{es:Array (Int×Value)}{ep:Nat}{t:SetTable}{ws:List (Int×Value)}{i:Nat}{first:Value}
theorem Oh(j c:Nat):SetTable.below #[j] c=if j < c then 1 else 0:=by
 unfold SetTable.below;show SetTable.below.go #[j] c 1 0 1=_;unfold SetTable.below.go;simp only [Nat.zero_lt_one,FN];show(if(#[j]:Array Nat).getD 0 c < c then SetTable.below.go #[j] c 0 1 1 else SetTable.below.go #[j] c 0 0 0)=_;rw [show(#[j]:Array Nat).getD 0 c=j by rfl]
 split <;> rfl
theorem Way.keep{h h':Heap}(W:Way w h a tp es ep t ws i first)(k:∀ o,h.get? tp=some o->h'.get? tp=some o):Way w h' a tp es ep t ws i first:=by
 cases W with
 | drawn ys ht hl hw=>exact .drawn ys (k _ ht) hl hw
 | text c hb hw=>exact .text c hb hw
 | one c hb hs hw hc=>exact .one c hb hs hw hc
theorem uj{h:Heap}{n:Nat}(x:Value)(e:h.get? it=some (kG first i a n ep)):(h.update it (Obj.mapFields (·.setIfInBounds 0 x))).get? it=some (kG x i a n ep):=Cy _ e rfl
theorem up1{h:Heap}{n:Nat}(e:h.get? it=some (kG first i a n ep)):(h.update it (Obj.mapFields (·.setIfInBounds 1 (rawInt<|(i:Int)+1)))).get? it=some (kG first (i+1) a n ep):=Cy _ e rfl
theorem Oi{p:Array Nat}(h:p.size=1):∃ j,p=#[j]:=by
 obtain⟨l⟩:=p
 match l,h with
 | [j],_=>exact⟨j,rfl⟩
theorem Oj(T:Tab prog w es t zs):t.place.size=es.size:=by
 have:=T.fits;unfold SetTable.fits at this;rw [Bu,LK] at this;exact this.1
theorem Yn{Q:Option Value->Shared->Prop}(hi:s.heap.get? it=some (kG first i a es.size ep))(ho:s.heap.get? a=some o)(hd:o.data = .set es ep t)(T:Tab prog w es t zs)(hW:Way w s.heap a tp es ep t ws i first)
  (bF:tp≠it) (hp:ws.Perm es.toList) {e:Int×Value} (he:ws[i]?=some e) (k:∀ h' jL,Heap.SameBut it s.heap h'->h'.get? it=some (kG jL (i+1) a es.size ep)->Way w h' a tp es ep t ws (i+1) jL->Q (some e.2) {s with heap:=h'}) :
  wpAny (model prog w) A (pyNext<|.ref it) Q E s:=by
 have hT:s.TypeIs (.ref it) "set_iterator":=⟨_,hi,rfl⟩;unfold pyNext;refine BJ<|IW<|IV (name:=Str.ofString "__next__") hT slot_next<|DN slot_next hT entry_next ?_<|args_next _;unfold Builtin.«set_iterator.__next__»;refine BJ<|BP ?_;refine BJ<|PN hi rfl ?_
 dsimp only
 refine BJ<|JX ho hd T.fits ?_;rw [BK<|by simp];have Ol:∀ x,Heap.SameBut it s.heap ((s.heap.update it (Obj.mapFields (·.setIfInBounds 0 x))).update it (Obj.mapFields (·.setIfInBounds 1 (rawInt<|(i:Int)+1)))):=λx=>(CT ..).trans<|CT ..;have nA:i < es.size:=by
  have h1:ws.length=es.size:=by simpa using hp.length_eq
  rcases Dz i ws.length with h | h
  ·omega
  ·rw [Aq h] at he;cases he
 have Om:Heap.SameBut it s.heap (s.heap.update it (Obj.mapFields (·.setIfInBounds 1 (rawInt<|(i:Int)+1)))):=CT ..;cases hW with
 | drawn ys ht hl hw=>
  dsimp only
  have hy:ys[i]?=some (ys[i]'(by omega)):=Aa _;generalize ys[i]'(by omega)=y at hy;refine BJ<|wpAny_seqItems ht rfl ?_
  dsimp only
  have e1:(ys.map λ(i:Nat)=>rawInt i).toArray[(i:Int).toNat]?=some (.int y 0):=by
   rw [Cm,SM,Ah,hy];rfl
  rw [e1]
  dsimp only
  unfold setNextDrawn;refine BJ<|BJ<|CP ho hd T.fits ?_
  dsimp only
  rw [BK<|by simp];have e2:es[(y:Int).toNat]?=some e:=by
   rw [Cm,hw i y hy];exact he
  rw [e2]
  dsimp only
  refine BP (BJ<|DX hi rfl (by simp) ?_);refine BP ⟨_,rfl,BP<|k _ _ Om (up1 hi)<|.drawn ys ?_ hl hw⟩;rw [Om.2 tp bF];exact ht
 | text c hb hw=>
  dsimp only
  unfold setNext;refine BJ<|BJ<|CP ho hd T.fits ?_
  dsimp only
  refine BJ<|wp_text ?_;rw [hb];simp only [FN];rw [BK<|by simp];unfold setWalk;refine BJ<|BJ<|CP ho hd T.fits ?_
  dsimp only
  refine BJ<|wp_text ?_;rw [hb];simp only [FN];refine BJ<|JN ?_;refine BP ?_;have e1:(pickOrder ((model prog w).w.params.setOrder a ep) es)[(i:Int).toNat]?=some e:=by
   rw [Cm,<- Ap];show(pickOrder (w.params.setOrder a ep) es).toList[i]?=_;rw [<- hw];exact he
  rw [e1];refine BP ?_
  dsimp only [Option.map]
  refine BJ (DX hi rfl (by simp) ?_);refine BJ (DX (uj _ hi) rfl (by simp) ?_);exact BP ⟨_,rfl,BP<|k _ _ (Ol _) (up1<|uj _ hi)<|.text _ hb hw⟩
 | one c hb hs hw hc=>
  have Yo:i=0:=by omega
  have ji:es.size=1:=by omega
  subst Yo;have Oo:t.place.size=1:=(Oj T).trans ji;obtain⟨j,hj⟩:=Oi Oo
  dsimp only
  unfold setNext;refine BJ<|BJ<|CP ho hd T.fits ?_
  dsimp only
  refine BJ<|wp_text ?_;rw [hb];simp only [Bk,DQ];show wpAny _ _ (if(!t.plain && decide (es.size > 1))=true then _ else _) _ _ _;rw [BK<|by rw [ji];simp];refine BJ ?_;show wpAny _ _ (if(!t.led && !es.isEmpty)=true then _ else _) _ _ _;rw [BK<|by rw [T.led,hb];simp];refine BP ?_;rw [Cm,hc];have e1:es[0]?=some e:=by
   rw [<- Ap,<- hw];exact he
  have e2:t.place[0]?=some j:=by rw [hj];rfl
  rw [e1,e2];refine BP ?_
  dsimp only
  refine BJ (DX hi rfl (by simp) ?_);refine BJ (DX (uj _ hi) rfl (by simp) ?_);refine BP ⟨_,rfl,BP<|k _ _ (Ol _) (up1<|uj _ hi)<|.one (j+1) hb hs hw ?_⟩;rw [hj,Oh,BL<|Hh _]
theorem Yp{Q:Option Value->Shared->Prop}(hh:A.handled=none)(hi:s.heap.get? it=some (kG first i a es.size ep))(ho:s.heap.get? a=some o)(hd:o.data = .set es ep t)(T:Tab prog w es t zs)(hW:Way w s.heap a tp es ep t ws i first)
  (hp:ws.Perm es.toList) (he:i=es.size) (k:∀ h',Heap.ExtBut it s.heap h'->Q none {s with heap:=h'}) :
  wpAny (model prog w) A (pyNext<|.ref it) Q E s:=by
 have hT:s.TypeIs (.ref it) "set_iterator":=⟨_,hi,rfl⟩;have wl:ws.length=es.size:=by simpa using hp.length_eq
 unfold pyNext;refine BJ<|IW<|IV (name:=Str.ofString "__next__") hT slot_next<|DN slot_next hT entry_next ?_<|args_next _;unfold Builtin.«set_iterator.__next__»;refine BJ<|BP ?_;refine BJ<|PN hi rfl ?_
 dsimp only
 refine BJ<|JX ho hd T.fits ?_;rw [BK<|by simp];have fin:∀ h2:Heap,Heap.SameBut it s.heap h2->wpAny (model prog w) A.in1 (newExc (Value.type "StopIteration") [] >>= λx=>(raiseNew x:Sem Fin)) (λfin s'=>∃ v,fin=Fin.done (Flow.ret v)/\wpAny (model prog w) A (pure<|some v) Q E s')
   (λe s'=>wpAny (model prog w) A (isInstance e (Value.type "StopIteration") >>= λb=>if b=true then pure none else throw e) Q E s') {s with heap:=h2}:=by
  intro h2 sb;refine BJ ?_;simp only [newExc,newTuple];refine BJ (DP ?_<|by size_fits);refine BJ (m:=firstArgMember _ _) (HX (a:=Value.none) (by first | rfl | (simp only [firstArgMember];rfl)) ?_);refine DP ?_ (by size_fits);simp only [raiseNew];refine BJ<|wpAny_handled ?_;rw [show A.in1.handled=none from hh];refine BJ<|BP<|wpAny_throw ?_;refine BJ<|JQ (T:= "StopIteration") (b:=true) ⟨_,At _ rfl,rfl⟩ isSubtype_stop ?_;exact BP<|k _<|(sb.extBut.push _).push _
 cases hW with
 | drawn ys ht hl hw=>
  dsimp only
  refine BJ<|wpAny_seqItems ht rfl ?_
  dsimp only
  have e1:(ys.map λ(i:Nat)=>rawInt i).toArray[(i:Int).toNat]?=none:=by
   rw [Cm,SM,Aq];rw [Ac];omega
  rw [e1]
  dsimp only
  refine BJ (DX hi rfl (by simp) ?_);refine BJ (DX (uj _ hi) rfl (by simp) ?_);exact fin _<|(CT ..).trans<|CT ..
 | text c hb hw=>
  dsimp only
  unfold setNext;refine BJ<|BJ<|CP ho hd T.fits ?_
  dsimp only
  refine BJ<|wp_text ?_;rw [hb];simp only [FN];rw [BK<|by simp];unfold setWalk;refine BJ<|BJ<|CP ho hd T.fits ?_
  dsimp only
  refine BJ<|wp_text ?_;rw [hb];simp only [FN];refine BJ<|JN ?_;refine BP ?_;have e1:(pickOrder ((model prog w).w.params.setOrder a ep) es)[(i:Int).toNat]?=none:=by
   rw [Cm,<- Ap];show(pickOrder (w.params.setOrder a ep) es).toList[i]?=_;rw [<- hw,Aq];omega
  rw [e1];refine BP ?_
  dsimp only [Option.map]
  refine BJ (DX hi rfl (by simp) ?_);exact fin _<|CT ..
 | one c hb hs hw hc=>
  dsimp only
  unfold setNext;refine BJ<|BJ<|CP ho hd T.fits ?_
  dsimp only
  refine BJ<|wp_text ?_;rw [hb];simp only [Bk,DQ];show wpAny _ _ (if(!t.plain && decide (es.size > 1))=true then _ else _) _ _ _;rw [BK<|by rw [BR<|by omega];simp];refine BJ ?_;show wpAny _ _ (if(!t.led && !es.isEmpty)=true then _ else _) _ _ _;rw [BK<|by rw [T.led,hb];simp];refine BP ?_;rw [Cm,hc];have e1:es[i]?=none:=Eu (by omega);rw [e1];refine BP ?_
  dsimp only
  refine BJ (DX hi rfl (by simp) ?_);exact fin _<|CT ..
open PySem.Spec
theorem Oq:Slot "set_iterator" "__iter__" "set_iterator.__iter__":=
 .of (owner:= "set_iterator") (n:= "__iter__") (by rw [RT,NK];kernel_rfl) (by decide +kernel) (by decide +kernel) (by decide +kernel)
  (by first | exact .inl (by decide +kernel) | exact .inr<|by decide +kernel) (by rw [isSubtype_type];kernel_rfl)
theorem Yq:entryFor table "set_iterator.__iter__" = some Builtin.«dict_keyiterator.__iter__»:=
 PL (id':= "dict_keyiterator.__iter__") (by kernel_rfl) rfl (by decide +kernel) (by kernel_rfl)
theorem Yr(a:Value):argsOk "set_iterator.__iter__" ⟨[a],[]⟩:=by unfold argsOk;kernel_rfl
theorem Ys(hh:A.handled=none)(h1:a≠it)(h2:tp≠it)(hd:o.data = .set es ep t)(T:Tab prog w es t zs)(hp:ws.Perm es.toList) :
  Walks prog w A it [it,a,tp] [it] es.size (λi v=>∃ e,ws[i]?=some e/\v=e.2) (λi h=>∃ first,h.get? it=some (kG first i a es.size ep)/\h.get? a=some o/\Way w h a tp es ep t ws i first) where
 sub:=λb hb=>by simp at hb;simp [hb]
 frame:=λi h h' ⟨first,q1,q2,q3⟩ k=>⟨first,k it (by simp) _ q1,k a (by simp) _ q2,q3.keep<|k tp<|by simp⟩
 item:=λi s Q E hi ⟨first,q1,q2,q3⟩ k=>by
  have wl:ws.length=es.size:=by simpa using hp.length_eq
  obtain⟨e,he⟩:∃ e,ws[i]?=some e:=⟨ws[i]'(by omega),Aa _⟩;refine Yn q1 q2 hd T q3 h2 hp he λh' f' sb g1 g2=>?_;exact k _ h' s.toks ⟨e,he,rfl⟩ ⟨f',g1,by rw [sb.2 a h1];exact q2,g2⟩ λb o hb e=>by rw [sb.2 b λh=>hb<|by simp [h]];exact e
 done:=λs Q E ⟨first,q1,q2,q3⟩ k=>Yp hh q1 q2 hd T q3 hp rfl λh' e=>k h' s.toks λb o hb e2=>e b o (λh=>hb<|by simp [h]) e2
 self:=λi s Q E ⟨first,q1,q2,q3⟩ k=>by
  have hT:s.TypeIs (.ref it) "set_iterator":=⟨_,q1,rfl⟩;refine MK hT Oq<|DN Oq hT Yq ?_<|Yr _;show wpAny _ _ (ret<|.ref it) _ _ s;exact BP ⟨_,rfl,"set_iterator",_,hT,slot_next.lookup,k⟩
theorem Yu(es:Array<|Int×Value):(List.range es.size).map (λy=>(es[y]?).getD (0,Value.none))=es.toList:=by
 refine Hk (by simp) λj h1 h2=>?_;rw [Fo,QF];have:j < es.size:=by simpa using h2
 rw [Bg this];simp
theorem Yv{Q:Value->Shared->Prop}(ho:s.heap.get? a=some o)(hx:o.ExactSet)(hd:o.data = .set es ep t)(T:Tab prog w es t zs)
  (k:∀ h' d it tp ws first,(∀ b u,s.heap.get? b=some u->h'.get? b=some u)->s.heap.objs.size<=it->it < h'.objs.size->tp < h'.objs.size->(tp=a\/s.heap.objs.size<=tp)->tp≠it->h'.get? it=some (kG first 0 a es.size ep)->Way w h' a tp es ep t ws 0 first->ws.Perm es.toList->Q (.ref it) {s with heap:=h',drawn:=d}) :
  wpAny (model prog w) A (pyIter<|.ref a) Q E s:=by
 have hT:s.TypeIs (.ref a) "set":=⟨o,ho,hx.1⟩;have aM:a < s.heap.objs.size:=Au ho;refine MK hT F.slot_set_iter<|DN F.slot_set_iter hT Ym ?_<|F.args_set_iter_1 _;unfold Builtin.«frozenset.__iter__» slot0 slotArgs;simp only [Hj,Ey,Bk,↓reduceIte,bind_assoc,Ff,FP];unfold addrOf Builtin.Frozenset.sizeOf;refine BJ<|BP ?_;refine BJ<|BP ?_;refine BJ<|BJ<|JX ho hd T.fits<|BP ?_;unfold setDrawn;refine BJ<|BJ<|CP ho hd T.fits ?_
 dsimp only
 refine BJ<|wp_text ?_;refine BP ?_
 by_cases c:(!cF w && (!t.plain && decide (es.size > 1)))=true
 ·show wpAny _ _ (if(!cF w && (!t.plain && decide (es.size > 1)))=true then _ else _) _ _ _;rw [BL c];refine BJ (EG _ _ _ _ (by simp) λys d p=>?_);have uk:ys.length=es.size:=by simpa using p.length_eq
  refine BJ (PX ?_<|by rw [Ac,uk];exact jK<|Ce T.fv);have o1:(s.heap.push<|fw ys).get? a=some o:=Af _ ho;refine BJ<|MJ (s:={s with heap:=s.heap.push<|fw ys,drawn:=d}) o1 hd T.fits ?_;refine BJ<|DP<|BP ⟨_,rfl,"set_iterator",_,⟨_,At _ rfl,rfl⟩,slot_next.lookup,?_⟩;have ji:(s.heap.push<|fw ys).objs.size=s.heap.objs.size+1:=Dc ..;refine k _ d _ s.heap.objs.size (ys.map λy=>(es[y]?).getD (0,Value.none)) (.ref s.heap.objs.size) (λb u e=>Af _<|Af _ e) (by show s.heap.objs.size<=(s.heap.push<|fw ys).objs.size;omega) ?_ ?_ (.inr<|Ai _) ?_ (At _ rfl) ?_ ?_
  ·show(s.heap.push<|fw ys).objs.size < ((s.heap.push<|fw ys).push _).objs.size;simp only [Dc];omega
  ·show s.heap.objs.size < ((s.heap.push<|fw ys).push _).objs.size;rw [Dc,ji];omega
  ·show s.heap.objs.size≠(s.heap.push<|fw ys).objs.size;omega
  ·refine .drawn ys (Af _<|At _ rfl) uk λj y hy=>?_;have hm:y < es.size:=by
    have:=p.mem_iff.mp<|Ag hy
    simpa using this
   rw [Ah,hy];show _=some ((es[y]?).getD (0,Value.none));rw [Bg hm];rfl
  ·have:=p.map λy=>(es[y]?).getD (0,Value.none);rwa [Yu] at this
 ·show wpAny _ _ (if(!cF w && (!t.plain && decide (es.size > 1)))=true then _ else _) _ _ _;rw [BK c];refine BJ<|BP ?_;refine BJ<|MJ ho hd T.fits ?_;refine BJ<|DP<|BP ⟨_,rfl,"set_iterator",_,⟨_,At _ rfl,rfl⟩,slot_next.lookup,?_⟩;have kk:=λws hW hp=>k (s.heap.push<|kG (.int 0 0) 0 a es.size ep) s.drawn s.heap.objs.size a ws (.int 0 0) (λb u e=>Af _ e) (Ai _) (by rw [Dc];exact Hh _) (by rw [Dc];exact Ce aM) (.inl rfl) (Bp aM) (At _ rfl) hW hp;cases hb:cF w with
  | true=>exact kk _ (.text 0 hb rfl)<|N8 _ _
  | false=>
   have h1:es.size<=1:=by
    rcases T.plain with q | q
    ·rw [q];simp
    ·rw [hb,q] at c;simp at c;exact c
   refine kk es.toList (.one 0 hb h1 rfl ?_)<|List.Perm.refl _;have Oo:=Oj T
   rcases Dz es.size 1 with h | h
   ·have:t.place=#[]:=Array.eq_empty_of_size_eq_zero (by omega);rw [this];rfl
   ·obtain⟨j,hj⟩:=Oi (p:=t.place) (by omega);rw [hj,Oh,BK<|Fu _]
theorem Yw:typeLookup (.type "set") "__len__" = pure (some<|.builtin "set.__len__"):=F.slot_set_len.lookup
theorem Yx{Q:Bool->Shared->Prop}(hT:s.TypeIs (.ref a) "set")(k:Q false s):wpAny (model prog w) A (Builtin.List.listLengthHint<|.ref a) Q E s:=by
 unfold Builtin.List.listLengthHint;refine BJ<|RQ hT Yw ?_
 dsimp only
 have e1:splitId "set.__len__" = some ("set","__len__"):=by kernel_rfl
 rw [e1]
 dsimp only
 refine BJ<|JQ hT sub_set_self ?_;simp only [Ey,Bk,DQ];rw [BL]
 ·exact BJ<|OD hT<|BP k
 ·decide +kernel
theorem Yy{Q:List Value->Shared->Prop}(hh:A.handled=none)(ho:s.heap.get? a=some o)(hx:o.ExactSet)(hd:o.data = .set es ep t)(T:Tab prog w es t zs)
  (k:∀ s' (acc:List<|Int×Value),(∀ b u,s.heap.get? b=some u->s'.heap.get? b=some u)->s'.gens=s.gens->s'.os=s.os->s.heap.objs.size < s'.heap.objs.size->acc.Perm es.toList->Q (acc.map (·.2)) s'):wpAny (model prog w) A (collect<|.ref a) Q E s:=by
 have aM:a < s.heap.objs.size:=Au ho;unfold collect;refine BJ<|wpAny_runValue<|EY F.entry_proto_collect ?_;rw [DW F.plain_proto_collect _];show wpAny _ A.in1 (newList [] >>= λl=>again<|.builtin "list.__iadd__" ⟨[l,.ref a],[]⟩) _ _ s;refine BJ<|JT ?_;refine BP ⟨GX F.plain_list_iadd _,EY F.entry_list_iadd ?_⟩;rw [DW F.plain_list_iadd _];generalize hL:s.heap.objs.size=L;have lT:(s.heap.push {cls:= .type "list",data:= .seq ([]:List Value).toArray}).get? a=some o:=Af _ ho;have Yz:(s.heap.push {cls:= .type "list",data:= .seq ([]:List Value).toArray}).get? L=some {cls:= .type "list",data:= .seq ([]:List Value).toArray}:=by rw [<- hL];exact At _ rfl
 have hT:Shared.TypeIs {s with heap:=s.heap.push {cls:= .type "list",data:= .seq ([]:List Value).toArray}} (.ref a) "set":=⟨o,lT,hx.1⟩;show wpAny _ A.in1 (Builtin.List.listExtendWith (.ref L) (.ref a)<|.ref L) _ _ _;unfold Builtin.List.listExtendWith;refine BJ<|OD hT ?_;have n1:Builtin.List.listSameRef (.ref L) (.ref a)=false:=by
  have:L≠a:=by rw [<- hL];exact Di aM
  simp [Builtin.List.listSameRef,this]
 have n2:(Value.type "set" == Value.type "list")=false:=by decide
 have n3:(Value.type "set" == Value.type "tuple")=false:=by decide
 simp only [n1,n2,n3,Bool.or_false,Bk,DQ];refine BJ<|Yv lT hx hd T λh2 d it tp ws first po rl iB Ot uo bF gi W p=>?_;have fQ:=po a o lT;have EZ:=po L _ Yz;have lU:(s.heap.push {cls:= .type "list",data:= .seq ([]:List Value).toArray}).objs.size=L+1:=by rw [Dc,hL]
 refine BJ<|CN<|Yx (a:=a) (s:={s with heap:=h2,drawn:=d}) ⟨o,fQ,hx.1⟩ ?_;show wpAny _ A.in1 (rule "list.extend.makes-room" >>= λ_=>Builtin.List.listTouch (.ref L) >>= λ_=>again<|.builtin "list.extend.loop" ⟨[.ref L,.ref it,.ref L],[]⟩) _ _ _;refine BJ<|JB ?_;refine BJ ?_;show wpAny _ A.in1 (updateSeq L (·.push .none) >>= λ_=>updateSeq L (·.pop)) _ _ _;refine BJ<|wpAny_updateSeq EZ rfl ?_;have Ou:=Cy (Obj.mapSeq (·.push Value.none)) EZ rfl;refine wpAny_updateSeq Ou rfl ?_;have YB:=Cy (Obj.mapSeq (·.pop)) Ou rfl;have yk:∀ b u,b≠L->h2.get? b=some u->((h2.update L (Obj.mapSeq (·.push Value.none))).update L (Obj.mapSeq (·.pop))).get? b=some u:=
  λb u hb e=>(By _ _<|CJ hb).trans<|(By _ _<|CJ hb).trans e
 have uq:it≠L:=by
  have gT:L+1<=it:=by rw [<- lU];exact rl
  exact Di gT
 have E1:a≠L:=by rw [<- hL];exact Bp aM
 have YC:a≠it:=by
  have gT:L+1<=it:=by rw [<- lU];exact rl
  intro e;rw [<- hL,<- e] at gT;exact absurd gT<|Nat.not_le.mpr<|Ce aM
 have Ov:tp≠L:=by
  rcases uo with h | h
  ·rw [h];exact E1
  ·have h':L+1<=tp:=by rw [<- lU];exact h
   exact Di h'
 have nn:L∉[it,a,tp]:=by
  intro h
  rcases Ar.mp h with h | h
  ·exact uq h.symm
  ·rcases Ar.mp h with h | h
   ·exact E1 h.symm
   ·exact Ov (Ae.mp h).symm
 refine BP ⟨GX F.plain_extend_loop _,codeAny_extend_loopS ((Ys (by simp [hh]) YC bF hd T p).toS) (jK<|Ce T.fv) L nn (.ref L) es.size 0 _ _ _ rfl (Bn _) ⟨first,yk it _ uq gi,yk a _ E1 fQ,W.keep λu e=>yk tp u Ov e⟩ YB (ItemsOf.nil _) λs' acc c m Ow hI=>?_⟩;show wpAny _ A (load L >>= _) _ _ s';refine BJ<|wpAny_load Ow ?_;have wl:ws.length=es.size:=by simpa using p.length_eq
 have el:acc.toList=ws.map (·.2):=by
  refine Cv λj=>?_;rw [Ap,Ah];cases hj:acc[j]? with
  | none=>
   have:ws[j]?=none:=by
    rw [Aq];rw [wl,<- hI.1];exact Array.getElem?_eq_none_iff.mp hj
   rw [this];rfl
  | some v=>
   obtain⟨e,h1,h2⟩:=hI.2 j v hj;rw [h1,h2];rfl
 refine BP ?_;rw [el];refine k s' ws (λb u e=>?_) m.gens m.os (by rw [hL];exact Au Ow) p;have hb:b < s.heap.objs.size:=Au e;have Ox:b≠L:=by rw [<- hL];exact Bp hb
 have EW:b≠it:=by
  intro q;have gT:L+1<=it:=by rw [<- lU];exact rl
  rw [<- hL,<- q] at gT;exact absurd gT<|Nat.not_le.mpr<|Ce hb
 refine m.heap b u (λh=>?_)<|yk b u Ox<|po b u<|Af _ e
 rcases Ar.mp h with h | h
 ·exact Ox h
 ·exact EW<|Ae.mp h
end
end bR
namespace bR
open PySem PySem.Spec PyProof.Rows
theorem YD(a b:List Nat):ltCps a b=decide (a < b):=ltCps_eq a b
theorem dJ:∀(l:List Str) (p:Str),risingS p l=true->∀ x∈l,p.cps.toList<=x.cps.toList
 | [],_,_,x,hx=>by cases hx
 | y :: r,p,h,x,hx=>by
  unfold risingS at h;rw [Bu,Bool.not_eq_true',YD,LR] at h;have h1:p.cps.toList<=y.cps.toList:=h.1
  rcases Ar.mp hx with rfl | hx
  ·exact h1
  ·exact List.le_trans h1<|dJ r y h.2 x hx
theorem d9{p:Str}:∀{l:List Str},risingS p l=true->sortedS l=true
 | [],_=>rfl
 | y :: r,h=>by
  unfold risingS at h;rw [Bu] at h;exact h.2
theorem iC{a b:Str}(h:a.cps.toList=b.cps.toList):a=b:=by
 cases a;cases b;simp only at h;have:=Gg.mp h;rw [this]
theorem Oy{prog:Program}{w:World}:∀(l:List<|Int×Value),(∀ e∈l,ny prog w e)->StrsAre (l.map (·.2)) (l.map keyOf)
 | [],_=> .nil
 | e :: r,h=>by
  obtain⟨z,t,rfl⟩:=h e Aw;exact .cons z t<|Oy r λx hx=>h x<|Ax _ hx
section
variable{prog:Program}{w:World}{A:Around}{E:Value->Shared->Prop}{s:Shared}{a:Addr}{zs:List Str}
theorem YF{Q:Value->Shared->Prop}(hh:A.handled=none)(S:ak prog w s.heap a zs)(pt:zs.length < 64)
  (k:∀(s':Shared) (l:Addr) (out:Array Value) (e:Nat) (ss:List Str),(∀ b u,s.heap.get? b=some u->s'.heap.get? b=some u)->s'.gens=s.gens->s'.os=s.os->s.heap.objs.size<=l->s'.heap.get? l=some (seqObj "list" out e)->StrsAre out.toList ss->ss.Perm zs->sortedS ss=true->Q (.ref l) s') :
  wpAny (model prog w) A (call (.builtin "sorted") [.ref a]) Q E s:=by
 obtain⟨o,es,ep,t,ho,hx,hd,T⟩:=S;refine KD kind_sorted plain_sorted entry_sorted (args_sorted1 _) ?_;unfold Builtin.«sorted»;refine BJ (m:=checkCount "sorted" 1 1 _)<|BP ?_;refine BJ (Yy (by simp [hh]) ho hx hd T λs1 acc kp g1 o1 z1 p=>?_);have hS:=Oy (prog:=prog) (w:=w) acc λe he=>T.elts e<|p.mem_iff.mp he;have hlen:(acc.map (·.2)).length=zs.length:=by
  rw [Ac,p.length_eq,Al,T.size]
 refine BJ (JT ?_<|by rw [hlen];exact jK<|by omega);have jc:(s1.heap.push (seqObj "list" (acc.map (·.2)).toArray 0)).get? s1.heap.objs.size=some (seqObj "list" (acc.map (·.2)).toArray 0):=At _ rfl;have hsz:s.heap.objs.size<=s1.heap.objs.size:=Fr z1;refine BJ (CN<|DN slot_list_sort ⟨_,jc,rfl⟩ entry_list_sort (list_sort_treeK strKind_oneLt jc hS.keysOf (λv₁ v₂ rest e=>keyKind_strs<|by rw [<- e];exact hS) (by rw [hlen];exact pt) λag a1 a2=>⟨_,rfl,?_⟩)<|args_list_sort _);obtain⟨ss,q1,q2,q3⟩:=sorted_out_str hS a1 a2;obtain⟨e,he⟩:=sortedHeap_at (out:=(arrOf ag).map (·.2)) jc;refine BP ⟨_,rfl,k _ _ _ e ss (λb u hb=>?_) g1 o1 hsz he q1 (q2.trans<|(p.map keyOf).trans T.keys) q3⟩;have Oz:=kp b u hb;have aM:=Au Oz;show(sortedHeap (s1.heap.push _) s1.heap.objs.size _ _).get? b=some u;rw [sortedHeap_old (Bp aM)<|by rw [size_push'];exact Ce aM];exact Af _ Oz
end
end bR
namespace L2
open PySem PySem.Spec PyProof.Rows bR
def aT(prog:Program)(w:World)(a:Addr)(zs:List Str):HO:= .ext λh=>ak prog w h a zs
section
variable{X:Cx}{pins:List (Addr×Obj)}{σ:St}{H:Hp}{s s':Shared}{a:Addr}{zs:List Str}
theorem Inv.like(I:Inv X pins σ H s)(e1:s'.heap=s.heap)(e2:s'.gens=s.gens)(e3:s'.os=s.os):Inv X pins σ H s':=by
 obtain⟨h,g,d,t,o⟩:=s;obtain⟨h',g',d',t',o'⟩:=s';simp only at e1 e2 e3;subst e1 e2 e3;exact⟨I.ok,I.os,I.bare,I.base,I.loc,I.cell,I.free,I.bg,I.pin,I.aC,I.len⟩
theorem Inv.dL{o:HO}(I:Inv X pins σ H s)(k:∀ b u,s.heap.get? b=some u->s'.heap.get? b=some u)(e2:s'.gens=s.gens)(e3:s'.os=s.os)(hp:s.heap.objs.size<=a)(new:ay X.prog X.w (upd H a o) s'.heap a o):Inv X pins σ (upd H a o) s':=
 (I.laid (t':=s.toks) k hp new).like (s':=s') rfl e2 e3
theorem rn{h:Heap}(S:ak X.prog X.w h a zs):ay X.prog X.w H h a (aT X.prog X.w a zs):=by
 refine⟨S,?_,λh1 h2 q k=>q.keep k⟩;obtain⟨o,_,_,_,ho,_⟩:=S;exact⟨o,ho⟩
theorem Inv.set(I:Inv X pins σ H s)(h:H a=some (aT X.prog X.w a zs)):ak X.prog X.w s.heap a zs:=(I.aC a _ h).1
theorem OA:∀{zs:List Str} {us:List Value},aq (zs.map V.str) us->∀(i:Nat) v,us[i]?=some v->∃ z t,zs[i]?=some z/\v=Value.str z t
 | [],_,.nil,i,v,h=>by simp at h
 | z :: r,_,.cons q qs,0,v,h=>by
  obtain⟨t,e⟩:=q;simp at h;exact⟨z,t,rfl,h ▸ e⟩
 | z :: r,_,.cons q qs,i+1,v,h=>by
  simp only [List.getElem?_cons_succ] at h ⊢;exact OA qs i v h
theorem E3:∀{zs:List Str} {us:List Value},aq (zs.map V.str) us->StrsAre us zs
 | [],_,.nil=> .nil
 | z :: r,_,.cons q qs=>by
  obtain⟨t,rfl⟩:=q;exact .cons z t<|E3 qs
theorem E4:∀{us:List Value} {zs:List Str},StrsAre us zs->aq (zs.map V.str) us
 | _,_,.nil=> .nil
 | _,_,.cons z t q=> .cons ⟨t,rfl⟩<|E4 q
theorem OB(hc:X.calm=true):fN X (.type "set") (λxs H Q=>∃ p zs,xs=[.ref p]/\ai X.K H p (zs.map V.str)/\zs.length < 900/\∀ a,H a=none->Q (.ref a) (upd H a<|aT X.prog X.w a<|made zs)):=by
 intro pins s σ H xs us Q I r h;obtain⟨p,zs,rfl,hp,hl,q⟩:=h;obtain⟨u,rfl,ru⟩:=vals1 r;cases (show u=Value.ref p from ru);obtain⟨its,rv,pl,hz⟩:=I.list hp;have e1:=rv.length;rw [Ac] at e1;refine Yh (I.ok.hd hc) pl.isList (λi v hv=>OA rv i v<|by simpa using hv) (by simpa using e1) (by simp;omega) λh' tk kp S=>?_;exact⟨.ref _,_,I.dL (s':={s with heap:=h',toks:=tk}) kp rfl rfl (Ai _) (rn S),rfl,q _<|I.aC.fresh<|Ai _⟩
theorem YG:cM X (binaryOp .BitXor) (λx y H Q=>∃ a b za zb,x = .ref a/\y = .ref b/\H a=some (aT X.prog X.w a za)/\H b=some (aT X.prog X.w b zb)/\za.length < 64/\zb.length < 64 /\
  ∀ c zc,H c=none->zc.Nodup->(∀ y,y∈zc↔(if y∈za then y∉zb else y∈zb))->Q (.ref c) (upd H c<|aT X.prog X.w c zc)):=by
 intro pins s σ H x y v u Q I rx ry h;obtain⟨a,b,za,zb,rfl,rfl,ha,hb,la,lb,q⟩:=h;cases rx;cases ry;refine Yb (I.set ha) (I.set hb) la lb λh' d zc kp S m=>?_;exact⟨.ref _,_,I.dL (s':={s with heap:=h',drawn:=d}) kp rfl rfl (Ai _) (rn S),rfl,q _ zc (I.aC.fresh<|Ai _) S.nodup m⟩
theorem OC(hc:X.calm=true):fN X (.builtin "sorted") (λxs H Q=>∃ p zs,xs=[.ref p]/\H p=some (aT X.prog X.w p zs)/\zs.length < 64/\∀ l ss,H l=none->ss.Perm zs->sortedS ss=true->Q (.ref l) (upd H l<|.lst<|ss.map V.str)):=by
 intro pins s σ H xs us Q I r h;obtain⟨p,zs,rfl,hp,hl,q⟩:=h;obtain⟨u,rfl,ru⟩:=vals1 r;cases (show u=Value.ref p from ru);refine YF (I.ok.hd hc) (I.set hp) hl λs' l out e ss kp e2 e3 rl he hS fz iD=>?_;have hlen:ss.length<=sizeLine:=by rw [fz.length_eq];exact jK<|by omega
 refine⟨.ref _,_,I.dL (s':=s') kp e2 e3 rl (show ay X.prog X.w _ s'.heap l (.lst<|ss.map V.str) from⟨by rw [Ac];exact hlen,out.toList,e,E4 hS,he⟩),rfl,q _ ss (I.aC.fresh rl) fz iD⟩
theorem ur:fN X (.builtin "sorted") (λxs H Q=>∃ p zs,xs=[.ref p]/\ai X.K H p (zs.map V.str)/\zs.length < 64/\∀ l ss,H l=none->ss.Perm zs->sortedS ss=true->Q (.ref l) (upd H l<|.lst<|ss.map V.str)):=by
 intro pins s σ H xs us Q I r h;obtain⟨p,zs,rfl,hp,hl,q⟩:=h;obtain⟨u,rfl,ru⟩:=vals1 r;cases (show u=Value.ref p from ru);obtain⟨its,rv,pl,hz⟩:=I.list hp;have e1:=rv.length;rw [Ac] at e1;refine PyProof.Rows.sorted_strs pl.isList (E3 rv) (by omega) λout ss hS fz iD=>?_;obtain⟨e,he⟩:=sortedAll_at s.heap its out;have hlen:ss.length<=sizeLine:=by rw [fz.length_eq];exact jK<|by omega
 refine⟨.ref _,_,I.dL (s':={s with heap:=sortedAll s.heap its out}) (λb u hb=>QG hb) rfl rfl (Ez _) (show ay X.prog X.w _ _ _ (.lst<|ss.map V.str) from⟨by rw [Ac];exact hlen,out.toList,e,E4 hS,he⟩),rfl,q _ ss (I.aC.fresh<|Ez _) fz iD⟩
end
end L2
namespace L2
open PySem PySem.Spec PyProof.Rows
section
variable{X:Cx}{o e:Expr}{σ:St}{H:Hp}{Q:VK}{ap cp:Pos}
theorem ro (h:Ev X o σ H λx H1=>∃ l,x = .ref l/\(∃ xs,H1 l=some (.lst xs))/\Ev X e σ H1 λy H2=>∃ xs,H2 l=some (.lst xs)/\xs.length < sizeLine/\Q .non (upd H2 l<|.lst<|xs++[y]))
  (bP:attributeBase o "append" X.env (eval o X.env)=eval o X.env:=by rfl)
  (du:((backTo cp<|starEach [e] X.env).all (λx=>!x.1) && (backToKw cp<|keywordEach [] X.env).all (λx=>x.1.isSome) && decide ([e].length+([]:List Keyword).length+(if([]:List Keyword).isEmpty then 0 else 1) < 30))=true:=by rfl)
  (hline:(ap.endLine == cp.line)=true:=by rfl) (hs:starEach [e] X.env=(false,eval e X.env) :: starEach [] X.env:=by rfl) (dG:(backTo cp<|starEach [] X.env).any (·.1)=false:=by rfl) (c6:isStar e=false:=by rfl) :
  Ev X (.Call (.Attribute o "append" ap) [e] [] cp) σ H Q:=by
 refine cT (M3 FW PySem.F.slot_list_append PySem.F.type_list_append M4 a8 (iT (es:=[e])) bP du hline hs dG)<|h.mono λx H1 ⟨l,ex,⟨xs,hl⟩,h2⟩=>?_;subst ex;refine⟨.inl ⟨rfl,xs,ai.of hl⟩,?_⟩;exact ao (h2.mono λy H2 ⟨ys,hy,hz,q⟩=>aE ⟨l,ys,y,rfl,rfl,hy,hz,q⟩) c6
end
section
variable{X:Cx}{c:Expr}{body oZ rest:List Stmt}{D:Ends}{σ:St}{H:Hp}{pos:Pos}
theorem Run.nx{M M':St->Hp->Prop}{l:List Stmt}(h:Run X l {D with nx:=M} σ H)(f:∀ σ' H',M σ' H'->M' σ' H'):Run X l {D with nx:=M'} σ H:=
 ⟨λpins s I => aI (h.run pins s I) λfl s' q => by
  cases fl with
  | next=>
   obtain⟨σ',H',I',m⟩:=q;exact⟨σ',H',I',f σ' H' m⟩
  | _=>exact q⟩
theorem OG(φ ψ:Prop)(M:St->Hp->Prop)(hc:∀ T:Bool->Hp->Prop,(∀ k:Bool,(k=true->φ)->(k=false->ψ)->T k H)->Et X c σ H T)(ht:φ->Run X body {D with nx:=M} σ H)(hu:ψ->Run X oZ {D with nx:=M} σ H)
  (hr:∀ σ' H',M σ' H'->Run X rest D σ' H'):Run X (.If c body oZ pos :: rest) D σ H:=
 NB φ ψ hc (λp=>(ht p).nx hr) (λp=>(hu p).nx hr)
end
def kH(X:Cx)(H:Hp)(k:Nat)(x y:V)(b:Bool):Prop:=∀(pins:List<|Addr×Obj) (σ:St) (s:Shared) (A:Around) (u v:Value),Inv X pins σ H s->A.units+k < cLine->RelV x u->RelV y v->SeqAt.EqAt A s u v b
def nB(X:Cx)(H:Hp)(k:Nat)(x y:V)(b:Bool):Prop:=∀(pins:List<|Addr×Obj) (σ:St) (s:Shared) (A:Around) (u v:Value),Inv X pins σ H s->A.units+k < cLine->RelV x u->RelV y v->SeqAt.RcAt A s u v b
def pv(X:Cx)(H:Hp)(k:Nat)(x y:V)(b:Bool):Prop:=∀(pins:List<|Addr×Obj) (σ:St) (s:Shared) (A:Around) (u v:Value),Inv X pins σ H s->A.units+k < cLine->RelV x u->RelV y v->SeqAt.RcNeAt A s u v (!b)
section
variable{X:Cx}{H:Hp}{k:Nat}{a b:Addr}{xs ys:List V}
theorem yl{x y:V}(fx:jz x=true)(fy:jz y=true):kH X H k x y (fm x y):=λ_ _ _ _ _ _ _ _ rx ry=>MZ rx ry fx fy
theorem YH:kH X H k (.ref a) (.ref a) true:=λ_ _ _ _ u v _ _ rx ry=>by
 cases rx;cases ry;exact SeqAt.EqAt.same _
theorem YJ(bF:a≠b){c:Bool}(h:nB X H k (.ref a) (.ref b) c):kH X H k (.ref a) (.ref b) c:=λpins σ s A u v I hu rx ry=>by
 cases rx;cases ry;exact SeqAt.EqAt.of_refs bF<|h pins σ s A _ _ I hu rfl rfl
theorem rp{us:List Value}(r:aq xs us){j:Nat}(h:j < us.length):∃ x,xs[j]?=some x/\RelV x us[j]:=by
 have hl:=r.length;have hj:j < xs.length:=by omega
 obtain⟨u,e,q⟩:=r.get<|Aa hj;rw [Aa h] at e;cases e;exact⟨_,Aa hj,q⟩
theorem E5(e:Nat->Bool)(ha:ai X.K H a xs)(hb:ai X.K H b ys)(hl:xs.length=ys.length)(he:∀ j x y,xs[j]?=some x->ys[j]?=some y->kH X H k x y (e j)):nB X H (k+1) (.ref a) (.ref b) ((List.range xs.length).all e):=λpins σ s A u v I hu rx ry=>by
 cases rx;cases ry;obtain⟨i1,r1,p1,_⟩:=I.list ha;obtain⟨i2,r2,p2,_⟩:=I.list hb;have l1:=r1.length;have l2:=r2.length;have q:=SeqAt.RcAt.lists (A:=A) (e:=e) p1.isList p2.isList (by simp;omega) (by omega) λj h1 h2=>by
  obtain⟨x,ex,qx⟩:=rp r1 (j:=j) (by simpa using h1);obtain⟨y,ey,qy⟩:=rp r2 (j:=j) (by simpa using h2);exact he j x y ex ey pins σ s A.in1 _ _ I (by show A.units+1+k < cLine;omega) (by simpa using qx)<|by simpa using qy
 rw [Bd,<- l1] at q;exact q
theorem OH(e:Nat->Bool)(ha:ai X.K H a xs)(hb:ai X.K H b ys)(hl:xs.length=ys.length)(he:∀ j x y,xs[j]?=some x->ys[j]?=some y->kH X H k x y (e j)):pv X H (k+1) (.ref a) (.ref b) ((List.range xs.length).all e):=λpins σ s A u v I hu rx ry=>by
 cases rx;cases ry;obtain⟨i1,r1,p1,_⟩:=I.list ha;obtain⟨i2,r2,p2,_⟩:=I.list hb;have l1:=r1.length;have l2:=r2.length;have q:=SeqAt.RcNeAt.lists (A:=A) (e:=e) p1.isList p2.isList (by simp;omega) (by omega) λj h1 h2=>by
  obtain⟨x,ex,qx⟩:=rp r1 (j:=j) (by simpa using h1);obtain⟨y,ey,qy⟩:=rp r2 (j:=j) (by simpa using h2);exact he j x y ex ey pins σ s A.in1 _ _ I (by show A.units+1+k < cLine;omega) (by simpa using qx)<|by simpa using qy
 rw [Bd,<- l1] at q;exact q
theorem YK(ha:ai X.K H a xs)(hb:ai X.K H b ys)(hl:xs.length≠ys.length):nB X H k (.ref a) (.ref b) false:=λpins σ s A u v I hu rx ry=>by
 cases rx;cases ry;obtain⟨i1,r1,p1,_⟩:=I.list ha;obtain⟨i2,r2,p2,_⟩:=I.list hb;have l1:=r1.length;have l2:=r2.length;exact SeqAt.RcAt.lists_lengths p1.isList p2.isList (by simp;omega)<|by omega
theorem YL(ha:ai X.K H a xs)(hb:ai X.K H b ys)(hl:xs.length≠ys.length):pv X H k (.ref a) (.ref b) false:=λpins σ s A u v I hu rx ry=>by
 cases rx;cases ry;obtain⟨i1,r1,p1,_⟩:=I.list ha;obtain⟨i2,r2,p2,_⟩:=I.list hb;have l1:=r1.length;have l2:=r2.length;exact SeqAt.RcNeAt.lists_lengths p1.isList p2.isList (by simp;omega)<|by omega
theorem ym(n:Nat):(List.range n).all (λ_=>true)=true:=by simp
theorem OI(hu:X.A.units+100 < cLine):cM X (compareOp .Eq) (λx y H Q=>∃ k c,k<=100/\nB X H k x y c/\Q (.bl c) H):=by
 intro pins s σ H x y v u Q I rx ry h;obtain⟨k,c,hk,hc,q⟩:=h;exact hc pins σ s X.A v u I (by omega) rx ry X.prog X.w X.xe _ ⟨.bl c,H,I,rfl,q⟩
theorem E6(hu:X.A.units+100 < cLine):cM X (compareOp .NotEq) (λx y H Q=>∃ k c,k<=100/\pv X H k x y c/\Q (.bl (!c)) H):=by
 intro pins s σ H x y v u Q I rx ry h;obtain⟨k,c,hk,hc,q⟩:=h;exact hc pins σ s X.A v u I (by omega) rx ry X.prog X.w X.xe _ ⟨.bl (!c),H,I,rfl,q⟩
theorem YM(e:Nat->Bool)(ha:bt X.K H a xs)(hb:bt X.K H b ys)(hl:xs.length=ys.length)(he:∀ j x y,xs[j]?=some x->ys[j]?=some y->kH X H k x y (e j)):pv X H (k+1) (.ref a) (.ref b) ((List.range xs.length).all e):=λpins σ s A u v I hu rx ry=>by
 cases rx;cases ry;obtain⟨i1,r1,p1,_⟩:=I.tuple ha;obtain⟨i2,r2,p2,_⟩:=I.tuple hb;have l1:=r1.length;have l2:=r2.length;have q:=SeqAt.RcNeAt.tuples (A:=A) (e:=e) p1 p2 (by omega) λj h1 h2=>by
  obtain⟨x,ex,qx⟩:=rp r1 (j:=j) (by simpa using h1);obtain⟨y,ey,qy⟩:=rp r2 (j:=j) (by simpa using h2);exact he j x y ex ey pins σ s A.in1 _ _ I (by show A.units+1+k < cLine;omega) (by simpa using qx)<|by simpa using qy
 rw [Bd,Bd,<- l1,<- l2,hl,UG,<- hl] at q
 simpa using q
end
section
variable{X:Cx}{o e f c:Expr}{σ:St}{H:Hp}{Q:VK}{T:Bool->Hp->Prop}{ap cp pos:Pos}{body rest:List Stmt}{D:Ends}
theorem YN{name:Str}{Ty id:String}{r:V->List V->Hp->VK->Prop}(pa:PlainAttrs Ty)(slot:Slot Ty name id)(oQ:typeOf (.builtin id)=pure (.type "method_descriptor"))(hm:xO X id r)
  (h:Ev X o σ H λx H1=>qU X.K Ty x H1/\r x [] H1 Q) (bP:attributeBase o name X.env (eval o X.env)=eval o X.env:=by rfl) (hline:(ap.endLine == cp.line)=true:=by rfl):Ev X (.Call (.Attribute o name ap) [] [] cp) σ H Q:=
 cT (Wa pa slot oQ hm a8 bP hline) h
theorem yn{name:Str}{Ty id:String}{r:V->List V->Hp->VK->Prop}(pa:PlainAttrs Ty)(slot:Slot Ty name id)(oQ:typeOf (.builtin id)=pure (.type "method_descriptor"))(hm:xO X id r)
  (h:Ev X o σ H λx H1=>qU X.K Ty x H1/\Ev X e σ H1 λy H2=>r x [y] H2 Q) (bP:attributeBase o name X.env (eval o X.env)=eval o X.env:=by rfl)
  (du:((backTo cp<|starEach [e] X.env).all (λx=>!x.1) && (backToKw cp<|keywordEach [] X.env).all (λx=>x.1.isSome) && decide ([e].length+([]:List Keyword).length+(if([]:List Keyword).isEmpty then 0 else 1) < 30))=true:=by rfl)
  (hline:(ap.endLine == cp.line)=true:=by rfl) (hs:starEach [e] X.env=(false,eval e X.env) :: starEach [] X.env:=by rfl) (dG:(backTo cp<|starEach [] X.env).any (·.1)=false:=by rfl) (c6:isStar e=false:=by rfl):Ev X (.Call (.Attribute o name ap) [e] [] cp) σ H Q:=
 cT (M3 pa slot oQ hm a8 (iT (es:=[e])) bP du hline hs dG) (h.mono λx H1 ⟨t,h2⟩=>⟨t,ao (h2.mono λy H2 q=>aE q) c6⟩)
theorem YQ:fN X (.type "int") (λxs H Q=>∃ b:Bool,xs=[.bl b]/\Q (.int (if b then 1 else 0)) H):=by
 intro pins s σ H xs us Q I r h;obtain⟨b,rfl,q⟩:=h;obtain⟨u,rfl,ru⟩:=vals1 r;cases (show u=Value.bool b from ru);exact call_int_bool ⟨.int (if b then 1 else 0),H,I.tok _,⟨_,rfl⟩,q⟩
theorem OL(W:Nat->St->Hp->Prop){m0:Nat}(h0:W m0 σ H)
  (turn:∀ m σ H,W m σ H->Et X c σ H λb H1=>if b=true then Run X body {D with nx:=λσ' H'=>∃ m',m' < m/\W m' σ' H',ct:=λσ' H'=>∃ m',m' < m/\W m' σ' H',bk:=λσ' H'=>Run X rest D σ' H'} σ H1 else Run X rest D σ H1)
  (hp:PassesOwn (model X.prog X.w) X.A X.env X.xe:=by exact JZ):Run X (.While c body [] pos :: rest) D σ H:=by
 refine jB (Vl hp o6 nj) ⟨W,⟨m0,h0⟩,λm σ1 H1 w1=>(turn m σ1 H1 w1).mono λb H2 q=>?_⟩;cases b with
 | true=>
  rw [BL rfl] at q;exact⟨λσ' H'=>∃ m',m' < m/\W m' σ' H',λ_ _ h=>h,q⟩
 | false=>
  rw [BK Ba] at q;exact q
theorem OM(h:∀ p,H p=none->Q (.ref p) (upd H p<|.dK [])):Ev X (.Dict [] [] pos) σ H Q:=cT WH h
theorem YR(h:∀ p,H p=none->Q (.ref p) (upd H p<|.dT [])):Ev X (.Dict [] [] pos) σ H Q:=cT WK h
theorem iE(hu:X.A.units+1 < cLine)(h:Ev X o σ H λx H1=>Ev X e σ H1 λy H2=>∃ a v,x = .ref a/\aX H2 a y (some v)/\Q v H2)(hs:oX e:=by intro _ _;rfl):Ev X (.Subscript o e pos) σ H Q:=cT (Wy hu a8 a8 hs) h
theorem OO(hu:X.A.units+1 < cLine)(h:Ev X e σ H λy H1=>Ev X o σ H1 λx H2=>∃ a r,x = .ref a/\aX H2 a y r/\T r.isSome H2)(hm:behindInMarks .In o=false:=by with_unfolding_all rfl):Et X (.Compare e [.In] [o] pos) σ H T:=
 qZ (Mk (Wz hu a8 a8) hm) (h.mono λy H1 h2=>h2.mono λx H2 ⟨a,r,h3,h4,h5⟩=>⟨a,r,h3,h4,_,rfl,h5⟩)
theorem YS(hu:X.A.units+1 < cLine)(h:Ev X e σ H λy H1=>Ev X o σ H1 λx H2=>∃ a r,x = .ref a/\aX H2 a y r/\T (!r.isSome) H2)(hm:behindInMarks .NotIn o=false:=by with_unfolding_all rfl):Et X (.Compare e [.NotIn] [o] pos) σ H T:=
 qZ (Mk (WB hu a8 a8) hm) (h.mono λy H1 h2=>h2.mono λx H2 ⟨a,r,h3,h4,h5⟩=>⟨a,r,h3,h4,_,rfl,h5⟩)
theorem ut{p2:Pos}(hu:X.A.units+1 < cLine)(h:Ev X f σ H λv H1=>Ev X o σ H1 λx H2=>Ev X e σ H2 λy H3=>∃ a H4,x = .ref a/\b9 H3 a y v H4/\Run X rest D σ H4)(hs:swapsWith f (some<|.Subscript o e p2) pos.line X.env=pure false:=by rfl) :
  Run X (.Assign [.Subscript o e p2] f pos :: rest) D σ H:=jB (WC hu a8 a8 a8 hs) h
end
end L2
namespace bS
open PySem PySem.Spec PyProof.Rows
section
variable{prog:Program}{w:World}{A:Around}{E:Value->Shared->Prop}{s:Shared}
end
end bS
namespace L2
open PySem PySem.Spec PyProof.Rows bS
section
variable{X:Cx}{e:Expr}{σ:St}{H:Hp}{Q:VK}{pos p kp cp:Pos}{j:Nat}
end
end L2
namespace Nt
open PySem
abbrev Net:=List<|Str×List Str
abbrev End:=Nat×Nat
def row(n:Net)(r:Nat):List Str:=((n[r]?).map (·.2)).getD []
def bq(n:Net)(e:End):Option Str:=(row n e.1)[e.2]?
def bG(r:Nat)(ts:List Str)(p:Nat):List (Str×End):=(ts.zipIdx p).map λx=>(x.1,(r,x.2))
def fR(r:Nat):Net->List (Str×End)
 | []=>[]
 | a :: n=>bG r a.2 0++fR (r+1) n
def bo(n:Net):List (Str×End):=fR 0 n
def ends(n:Net):List End:=(bo n).map (·.2)
def av(n:Net):List Str:=n.flatMap (·.2)
def pos(n:Net)(z:Str):List End:=((bo n).filter λx=>decide (x.1=z)).map (·.2)
theorem cP{r:Nat}{ts:List Str}{p:Nat}{z:Str}{e:End}:(z,e)∈bG r ts p↔e.1=r/\p<=e.2/\ts[e.2 - p]?=some z:=by
 unfold bG;rw [Az]
 constructor
 ·rintro ⟨⟨y,k⟩,hm,he⟩;cases he;have:=Gb.mp hm;exact⟨rfl,this.1,this.2⟩
 ·rintro ⟨h1,h2,h3⟩;refine⟨(z,e.2),Gb.mpr ⟨h2,h3⟩,?_⟩;rw [<- h1]
theorem bJ:∀{n:Net} {k:Nat} {z:Str} {e:End},(z,e)∈fR k n↔k<=e.1/\(row n<|e.1 - k)[e.2]?=some z
 | [],k,z,e=>by
  constructor
  ·intro h;cases h
  ·rintro ⟨_,h⟩;simp [row] at h
 | a :: n,k,z,e=>by
  unfold fR;rw [Ao,cP,bJ]
  constructor
  ·rintro (⟨h1,_,h3⟩ | ⟨h1,h2⟩)
   ·refine⟨by omega,?_⟩;rw [show e.1 - k=0 by omega]
    simpa [row] using h3
   ·refine⟨by omega,?_⟩;rw [show e.1 - k=(e.1 - (k+1))+1 by omega]
    simpa [row] using h2
  ·rintro ⟨h1,h2⟩
   rcases Dz k e.1 with h | h
   ·refine .inr ⟨h,?_⟩;rw [show e.1 - k=(e.1 - (k+1))+1 by omega] at h2
    simpa [row] using h2
   ·refine .inl ⟨by omega,Bn _,?_⟩;rw [show e.1 - k=0 by omega] at h2
    simpa [row] using h2
theorem bh{n:Net}{z:Str}{e:End}:(z,e)∈bo n↔bq n e=some z:=by
 unfold bo bq;rw [bJ];simp
theorem aF{n:Net}{e:End}:e∈ends n↔∃ z,bq n e=some z:=by
 unfold ends;rw [Az]
 constructor
 ·rintro ⟨⟨z,e'⟩,h,rfl⟩;exact⟨z,bh.mp h⟩
 ·rintro ⟨z,h⟩;exact⟨(z,e),bh.mpr h,rfl⟩
theorem aV{n:Net}{z:Str}{e:End}:e∈pos n z↔bq n e=some z:=by
 unfold pos;rw [Az]
 constructor
 ·rintro ⟨⟨y,e'⟩,h,rfl⟩;rw [Bx,HS] at h;obtain⟨h1,h2⟩:=h;subst h2;exact bh.mp h1
 ·intro h;exact⟨(z,e),Bx.mpr ⟨bh.mpr h,by simp⟩,rfl⟩
theorem YT(r:Nat):∀(ts:List Str) (p:Nat),(bG r ts p).map (·.1)=ts:=by
 intro ts p;unfold bG;rw [Cd];have:((λx:Str×End=>x.1) ∘ λx:Str×Nat=>(x.1,(r,x.2)))=Prod.fst:=rfl;rw [this,List.zipIdx_map_fst]
theorem lV:∀(n:Net) (k:Nat),(fR k n).map (·.1)=av n
 | [],_=>rfl
 | a :: n,k=>by
  unfold fR av;rw [Ak,YT,lV n<|k+1,List.flatMap_cons];rfl
theorem YV(r:Nat)(ts:List Str)(p:Nat):((bG r ts p).map (·.2)).Nodup:=by
 unfold bG;rw [Cd];have e:((λx:Str×End=>x.2) ∘ λx:Str×Nat=>(x.1,(r,x.2)))=(λk:Nat=>(r,k)) ∘ Prod.snd:=rfl;rw [e,<- Cd,List.zipIdx_map_snd];refine QS _ (R:=(·≠·)) ?_ List.nodup_range';intro a b h eX;exact h (Prod.mk.inj eX).2
theorem OQ:∀(n:Net) (k:Nat),((fR k n).map (·.2)).Nodup
 | [],_=>Ds
 | a :: n,k=>by
  unfold fR;rw [Ak,Dq];refine⟨YV _ _ _,OQ n<|k+1,?_⟩;intro x hx y hy e;subst e;obtain⟨⟨z,e1⟩,h1,rfl⟩:=Az.mp hx;obtain⟨⟨z2,e2⟩,h2,he⟩:=Az.mp hy;simp only at he;subst he;have q1:=(cP.mp h1).1;have q2:=(bJ.mp h2).1;omega
theorem OS(n:Net):(ends n).Nodup:=OQ n 0
theorem OT(n:Net)(z:Str):(pos n z).Nodup:=by
 unfold pos;exact(OS n).sublist<|List.Sublist.map _<|Es
theorem uv(n:Net)(z:Str):(pos n z).length=(av n).count z:=by
 unfold pos;rw [Ac,<- lV n 0,<- List.countP_eq_length_filter,List.count,List.countP_map];rfl
def bN(n:Net):Prop:=∀ z∈av n,(av n).count z=2
theorem px{n:Net}{e:End}{z:Str}(h:bq n e=some z):z∈av n:=by
 have:=bh.mpr h;rw [<- lV n 0];exact Az.mpr ⟨_,this,rfl⟩
def other(n:Net)(e:End):End:=match bq n e with
 | some z=>(match pos n z with
  | [a,b]=>if a=e then b else a
  | _=>e)
 | none=>e
theorem yo{n:Net}(T:bN n){e:End}{z:Str}(h:bq n e=some z):∃ a b,pos n z=[a,b]/\a≠b/\(e=a\/e=b):=by
 have hl:=uv n z;rw [T z<|px h] at hl;have hn:=OT n z;have hm:=aV.mpr h
 match hp:pos n z,hl with
 | [a,b],_=>
  rw [hp] at hn hm;refine⟨a,b,rfl,?_,?_⟩
  ·intro e;subst e;simp at hn
  ·simpa using hm
theorem nC{n:Net}(T:bN n){e:End}{z:Str}(h:bq n e=some z):bq n (other n e)=some z/\other n (other n e)=e/\other n e≠e:=by
 obtain⟨a,b,hp,eX,he⟩:=yo T h;have ha:bq n a=some z:=aV.mp (by rw [hp];simp);have hb:bq n b=some z:=aV.mp<|by rw [hp];simp
 rcases he with rfl | rfl
 ·have e1:other n e=b:=by unfold other;simp only [h,hp];simp
  have e2:other n b=e:=by unfold other;simp only [hb,hp];simp [eX]
  rw [e1];exact⟨hb,e2,eX.symm⟩
 ·have e1:other n e=a:=by unfold other;simp only [h,hp];simp [eX]
  have e2:other n a=e:=by unfold other;simp only [ha,hp];simp
  rw [e1];exact⟨ha,e2,eX⟩
theorem uw{n:Net}{e:End}{z:Str}(h:bq n e=some z):e.2 < (row n e.1).length:=(Ab.mp h).1
theorem gU{n:Net}{e:End}{z:Str}(h:bq n e=some z):e.1 < n.length:=by
 rcases Dz e.1 n.length with c | c
 ·exact c
 ·have:=uw h;unfold row at this;rw [Aq c] at this;simp at this
theorem YW{n:Net}{e:End}(h:e.2 < (row n e.1).length):∃ z,bq n e=some z:=⟨_,Aa h⟩
theorem yp{n:Net}(T:bN n){e:End}(h:e∈ends n):other n e∈ends n:=by
 obtain⟨z,h⟩:=aF.mp h;exact aF.mpr ⟨z,(nC T h).1⟩
theorem YX{n:Net}(T:bN n){a b:End}(ha:a∈ends n)(hb:b∈ends n)(h:other n a=other n b):a=b:=by
 obtain⟨z,ha⟩:=aF.mp ha;obtain⟨y,hb⟩:=aF.mp hb;rw [<- (nC T ha).2.1,h,(nC T hb).2.1]
theorem aG{α:Type} [DecidableEq α]:∀{a b:List α},a.Nodup->(∀ z∈a,z∈b)->a.length<=b.length
 | [],b,_,_=>Bn _
 | x :: r,b,hn,hs=>by
  rw [Cr] at hn;have hx:=hs x Aw;have:=aG (a:=r) (b:=b.erase x) hn.2 λz hz=>by
   have bF:z≠x:=λe=>hn.1<|e ▸ hz;exact(Ho bF).mpr<|hs z<|Ax _ hz
  rw [Gm hx] at this;have hp:0 < b.length:=RZ hx;rw [Av];omega
def it{α:Type}(f:α->α):Nat->α->α
 | 0,a=>a
 | k+1,a=>f<|it f k a
theorem rq{α:Type}{f:α->α}{S:List α}(hf:∀ a∈S,f a∈S){a:α}(h:a∈S):∀ k,it f k a∈S
 | 0=>h
 | k+1=>hf _<|rq hf h k
theorem OU{α:Type} [DecidableEq α] {f:α->α} {S:List α} (hf:∀ a∈S,f a∈S) (inj:∀ a∈S,∀ b∈S,f a=f b->a=b) {a:α} (h:a∈S):∃ k,0 < k/\k<=S.length/\it f k a=a:=by
 have cancel:∀ i j,it f i a=it f (i+j) a->it f j a=a:=by
  intro i
  induction i with
  | zero=>intro j e;rw [Dy] at e;exact e.symm
  | succ i ih=>
   intro j e;refine ih j ?_;rw [show i+1+j=(i+j)+1 by omega] at e;exact inj _ (rq hf h i) _ (rq hf h<|i+j) e
 refine DG λhn=>?_;have nd:((List.range<|S.length+1).map λi=>it f i a).Nodup:=by
  refine QS _ (R:=λi j=>i < j/\j < S.length+1) ?_ ?_
  ·rintro i j ⟨h1,h2⟩ e;refine hn ⟨j - i,by omega,by omega,cancel i (j - i) ?_⟩;rw [show i+(j - i)=j by omega];exact e
  ·rw [Bc];intro i j hi hj di;simp only [QF];simp at hj;exact⟨di,hj⟩
 have:=aG nd λz hz=>by
  obtain⟨i,_,rfl⟩:=Az.mp hz;exact rq hf h i
 simp at this;omega
theorem ux:∀(n:Net) (r:Nat),(row n r).length<=(av n).length
 | [],r=>by simp [row,av]
 | a :: n,0=>by simp [row,av]
 | a :: n,r+1=>by
  have:=ux n r;simp [row,av] at this ⊢;omega
open L2
abbrev Ls(zs:List Str):HO:= .lst<|zs.map V.str
structure aw(H:Hp)(R:Addr)(as:List<|Addr×Addr)(n:Net):Prop where
 len:as.length=n.length
 lst:H R=some (.lst<|as.map λa=> .ref a.1)
 tup:∀(i:Nat) a r,as[i]?=some a->n[i]?=some r->H a.1=some (.tup [.str r.1,.ref a.2])/\H a.2=some (Ls r.2)
 inj:(as.map (·.2)).Nodup
theorem aw.same{H H':Hp}{R:Addr}{as:List (Addr×Addr)}{n:Net}(h:aw H R as n)(s:ah H H'):aw H' R as n:=
 ⟨h.len,s _ _ h.lst,λi a r h1 h2=>⟨s _ _ (h.tup i a r h1 h2).1,s _ _ (h.tup i a r h1 h2).2⟩,h.inj⟩
theorem aw.at{H:Hp}{R:Addr}{as:List (Addr×Addr)}{n:Net}(h:aw H R as n){i:Nat}(hi:i < n.length) :
  ∃ a,as[i]?=some a/\f6 (as.map λa=>V.ref a.1) (i:Int)=some (.ref a.1)/\H a.1=some (.tup [.str n[i].1,.ref a.2])/\H a.2=some (Ls<|row n i)/\row n i=n[i].2:=by
 have hl:=h.len;have e:as[i]?=some as[i]:=Aa (by omega);have er:row n i=n[i].2:=by unfold row;rw [Aa hi];rfl
 have q:=h.tup i as[i] n[i] e<|Aa hi;refine⟨as[i],e,tJ (by rw [Ah,e];rfl),q.1,?_,er⟩;rw [er];exact q.2
def cz(done:List<|Str×End)(z:Str):List End:=(done.filter λx=>decide (x.1=z)).map (·.2)
theorem gJ(done:List<|Str×End)(y z:Str)(e:End):cz (done++[(y,e)]) z=cz done z++(if y=z then [e] else []):=by
 unfold cz;rw [Cn,Ak]
 congr 1
 by_cases h:y=z
 ·rw [BL h];simp [h]
 ·rw [BK h];simp [h]
theorem E7:∀(n m:Net) (k:Nat),fR k (n++m)=fR k n++fR (k+n.length) m
 | [],m,k=>rfl
 | a :: n,m,k=>by
  show bG k a.2 0++fR (k+1) (n++m)=(bG k a.2 0++fR (k+1) n)++fR (k+(n.length+1)) m;rw [E7 n m<|k+1,Bf,show k+1+n.length=k+(n.length+1) by omega]
theorem uy{n:Net}{r:Nat}(h:r < n.length):bo (n.take<|r+1)=bo (n.take r)++bG r (row n r) 0:=by
 unfold bo;rw [Bz,Aa h,E7];have e:(n.take r).length=r:=by rw [Bm];omega
 rw [e,Dy];have er:row n r=n[r].2:=by unfold row;rw [Aa h];rfl
 rw [er];show _++(bG r n[r].2 0++[])=_;rw [Be]
theorem rz{r:Nat}{ts:List Str}{p:Nat}{z:Str}(h:ts[p]?=some z):bG r (ts.take<|p+1) 0=bG r (ts.take p) 0++[(z,(r,p))]:=by
 unfold bG;have hp:=(Ab.mp h).1;rw [Bz,h,List.zipIdx_append,Ak];have e:(ts.take p).length=p:=by rw [Bm];omega
 rw [e,Dy];rfl
theorem all2(e:Nat->Bool):(List.range 2).all e=(e 0 && e 1):=by
 show(([0,1]:List Nat).all e)=_;simp
section
variable{X:Cx}{H:Hp}{s t:Addr}{x y:End}
end
abbrev lets:Str:= "abcdefghijklmnopqrstuvwxyz0123456789"
theorem OV:lets.cps.toList.length=36:=by decide +kernel
theorem YY:lets.cps.toList.Nodup:=by decide +kernel
def sgn(i:Int):Nat:=(f6 lets.cps.toList<|i % 36).getD 0
theorem E8(i:Int):f6 lets.cps.toList (i % 36)=some (sgn i):=by
 have h0:0<=i % 36:=Ch _ (by decide);have h1:i % 36 < 36:=Cs _ (by decide);have hj:(i % 36).toNat < lets.cps.toList.length:=by rw [OV];omega
 have q:=tJ (xs:=lets.cps.toList) (j:=(i % 36).toNat) (v:=lets.cps.toList[(i % 36).toNat]) (by simp [hj]);rw [show(((i % 36).toNat:Nat):Int)=i % 36 by omega] at q;unfold sgn;rw [q];rfl
theorem OW{i j:Int}(h:sgn i=sgn j):i % 36=j % 36:=by
 have key:∀ k:Int,lets.cps.toList[(k % 36).toNat]?=some (sgn k):=λk=>by
  have h0:0<=k % 36:=Ch _ (by decide);have h1:k % 36 < 36:=Cs _ (by decide);have hj:(k % 36).toNat < lets.cps.toList.length:=by rw [OV];omega
  have q:=tJ (xs:=lets.cps.toList) (j:=(k % 36).toNat) (v:=lets.cps.toList[(k % 36).toNat]) (by simp [hj]);rw [show(((k % 36).toNat:Nat):Int)=k % 36 by omega,E8] at q;rw [Aa hj,Option.some.inj q]
 have hi:=key i;have hj:=key j;rw [h] at hi;obtain⟨l1,e1⟩:=Ab.mp hi;obtain⟨l2,e2⟩:=Ab.mp hj;have:=(RB (xs:=lets.cps.toList) (h₀:=l1) (h₁:=l2) YY).mp<|e1.trans e2.symm;have a0:0<=i % 36:=Ch _ (by decide);have b0:0<=j % 36:=Ch _ (by decide);omega
def turn(b:Int)(sp:Int)(v k:Nat):Int:=b / 64+(k:Int) * (b / 7 % 5)+(if(k:Int)=sp then(v:Int) else 0)
def nm(b sp:Int)(v:Nat):Nat->Str
 | 0=>⟨#[]⟩
 | k+1=>nm b sp v k++⟨#[sgn<|turn b sp v k]⟩
theorem app_list(x y:Str):(x++y).cps.toList=x.cps.toList++y.cps.toList:=by
 show(x.cps++y.cps).toList=_;simp
theorem yq(b sp:Int)(v:Nat):∀ k,(nm b sp v k).cps.toList=(List.range k).map λj=>sgn<|turn b sp v j
 | 0=>rfl
 | k+1=>by
  show(nm b sp v k++⟨#[sgn<|turn b sp v k]⟩).cps.toList=_;rw [app_list,yq b sp v k,Dj,Ak];rfl
theorem YZ{b sp:Int}{u v k:Nat}(hu:u < 36)(hv:v < 36)(h0:0<=sp)(h1:sp < (k:Int))(h:nm b sp u k=nm b sp v k):u=v:=by
 have e:(nm b sp u k).cps.toList=(nm b sp v k).cps.toList:=by rw [h]
 rw [yq,yq] at e;have hk:sp.toNat < k:=by omega
 have q:((List.range k).map λj=>sgn<|turn b sp u j)[sp.toNat]?=((List.range k).map λj=>sgn<|turn b sp v j)[sp.toNat]?:=by rw [e]
 rw [Ah,Ah,Ef hk] at q;have q2:sgn (turn b sp u sp.toNat)=sgn (turn b sp v sp.toNat):=Option.some.inj q;have q3:=OW q2;unfold turn at q3;rw [show((sp.toNat:Nat):Int)=sp by omega,BL rfl,BL rfl] at q3;omega
theorem fold_list(c:Nat):∀(k:Nat) (acc:Array Nat),((List.replicate k (#[c]:Array Nat)).foldl (·++·) acc).toList=acc.toList++List.replicate k c
 | 0,acc=>by simp
 | k+1,acc=>by
  rw [List.replicate_succ,Db,fold_list c k,List.replicate_succ];simp
theorem mul_list(c:Nat){i:Int}(h:1<=i):(Txt.mul ⟨#[c]⟩ i).cps.toList=List.replicate i.toNat c:=by
 unfold Txt.mul;rw [BK<|by omega]
 by_cases e:i=1
 ·subst e;rfl
 ·have e1:(i == 1 || (⟨#[c]⟩:Str).length == 0)=false:=by
   have:(i == 1)=false:=by simpa using e
   rw [this];rfl
  rw [e1];simp only [Bk,DQ];have:=fold_list c i.toNat #[]
  simpa using this
def bK(b:Int)(v:Nat):Str:=if b % 3=2 then Txt.mul ⟨#[sgn<|b / 64+(v:Int) / 8]⟩ (1+(v:Int) % 8) else nm b (b / 8 % (1+b % 8)) v (1+b % 8).toNat
theorem Y0{b:Int}{u v:Nat}(hu:u < 36)(hv:v < 36)(h:bK b u=bK b v):u=v:=by
 have s0:0<=b % 8:=Ch _ (by decide);unfold bK at h
 by_cases c:b % 3=2
 ·rw [BL c,BL c] at h;have u0:0<=(u:Int) % 8:=Ch _ (by decide);have v0:0<=(v:Int) % 8:=Ch _ (by decide);have e:(Txt.mul ⟨#[sgn<|b / 64+(u:Int) / 8]⟩<|1+(u:Int) % 8).cps.toList=(Txt.mul ⟨#[sgn<|b / 64+(v:Int) / 8]⟩<|1+(v:Int) % 8).cps.toList:=by rw [h]
  rw [mul_list _ (by omega),mul_list _<|by omega] at e;have l:=CW List.length e;rw [Fx,Fx] at l;have hd:(List.replicate (1+(u:Int) % 8).toNat<|sgn<|b / 64+(u:Int) / 8)[0]?=(List.replicate (1+(v:Int) % 8).toNat<|sgn<|b / 64+(v:Int) / 8)[0]?:=by rw [e]
  rw [Fn,Fn,BL (by omega),BL<|by omega] at hd;have q:=OW<|Option.some.inj hd;omega
 ·rw [BK c,BK c] at h;refine YZ hu hv (Ch _<|by omega) ?_ h;have:=Cs (b / 8) (show 0 < 1+b % 8 by omega);omega
def namesOf(b:Int)(m:Nat):List Str:=(List.range m).map<|bK b
theorem OX{b:Int}{m:Nat}(h:m<=36):(namesOf b m).Nodup:=by
 unfold namesOf;refine QS _ (R:=λi j=>i < j/\j < m) ?_ ?_
 ·rintro i j ⟨h1,h2⟩ e;have:=Y0 (by omega) (by omega) e;omega
 ·rw [Bc];intro i j hi hj di;simp only [QF];simp at hj;exact⟨di,hj⟩
theorem Y1(b:Int)(m:Nat):namesOf b (m+1)=namesOf b m++[bK b m]:=by
 unfold namesOf;rw [Dj,Ak];rfl
theorem E9(b:Int)(m:Nat):(namesOf b m).length=m:=by unfold namesOf;simp
end Nt
namespace N4
open PySem L2
def top(i:Nat):Stmt:=PySem.Challenge.pw_threewebs_k44_many_walkers.main.body.getD i<|.Pass ⟨0,0,0,0⟩
abbrev yr:Stmt:=top 6
abbrev yt:Stmt:=top 7
abbrev Fl:Stmt:=top 8
abbrev FA:Stmt:=top 9
abbrev FC:Stmt:=top 10
abbrev yu:Stmt:=top 11
abbrev yv:Stmt:=top 12
abbrev yw:Stmt:=top 13
abbrev yx:Stmt:=top 15
abbrev FD:Stmt:=top 16
abbrev uz:Stmt:=top 17
abbrev FE:Stmt:=top 19
abbrev gW:Stmt:=top 20
abbrev pA:Stmt:=top 21
abbrev yy:Stmt:=top 22
abbrev uA:Stmt:=top 23
abbrev pB:Stmt:=top 25
abbrev pC:Stmt:=top 26
abbrev uB:Stmt:=top 27
abbrev FG:Stmt:=top 30
abbrev yz:Stmt:=top 31
abbrev uC:Stmt:=top 32
abbrev yA:Stmt:=top 33
abbrev yB:Stmt:=top 34
abbrev FH:Stmt:=top 36
abbrev pD:Stmt:=top 37
abbrev FI:Stmt:=top 38
abbrev yC:Stmt:=top 39
abbrev FK:Stmt:=top 40
abbrev gX:Stmt:=top 41
structure Txt(mg:Str->Option Value):Prop where
 FL:mg "isinstance" = none
 FO:mg "tuple" = none
 Y3:mg "str" = none
 FR:mg "int" = none
 OY:mg "bool" = none
 OZ:mg "list" = none
 uD:mg "dict" = none
 pE:mg "set" = none
 enum:mg "enumerate" = none
 zip:mg "zip" = none
 len:mg "len" = none
 range:mg "range" = none
 sorted:mg "sorted" = none
 max:mg "max" = none
 all:mg "all" = none
 FU:mg "ValueError" = none
 anyB:mg "any" = none
 nine:∃ u,mg "MOST_WALKERS" = some u/\RelV (.int 9) u
open Nt bS
theorem small{n:Nat}(h:n<=100000):n<=sizeLine:=by rw [FZ];omega
theorem cj{n:Nat}(h:n<=100000):n < sizeLine:=by rw [FZ];omega
theorem aQ{H:Hp}{p:Addr}(h:H p=none)(o:HO):ah H (upd H p o):=λb u q=>by rw [ax<|b4 q h];exact q
theorem dW{H1 H2:Hp}{r:Addr}{o:HO}(s:ah H1 H2)(h:H1 r=none):ah H1 (upd H2 r o):=λb u q=>by
 rw [ax<|b4 q h];exact s _ _ q
theorem FV{H:Hp}{l:Addr}{zs:List Str}{y:Str}:upd H l (.lst<|zs.map V.str++[V.str y])=upd H l (Ls<|zs++[y]):=by
 show _=upd H l (.lst<|(zs++[y]).map V.str);rw [Ak];rfl
def yD(K:PySem.W.Frag):Sp:=λvs H Q _=>∃(a:Addr) (ns:List Int) (k:Int),vs=[.ref a,.int k]/\ai K H a (ns.map V.int)/\0<=k/\∀ i,Q (.int i) H
def FX(K:PySem.W.Frag):Sp:=λvs H Q _=>∃(a:Addr) (ns:List Int) (k:Int),vs=[.ref a,.int k]/\ai K H a (ns.map V.int)/\0<=k/\∀ i H',ah H H'->Q (.int i) H'
def FY:Sp:=λvs H Q _=>∃(b m:Int),vs=[.int b,.int m]/\0<=m/\m<=36/\∀ l H',ah H H'->H l=none->H' l=some (Ls<|namesOf b m.toNat)->Q (.ref l) H'
section
variable{P:Program}{w:World}{K:PySem.W.Frag}{mg:Str->Option Value}{base:Heap}
theorem Y4:aj ["_law_script","_law_k"] ["_law_script","_law_k"] (aP FH):=cU
theorem Y5{ns:List Int}{k:Int}(h0:0<=k)(h1:k < (ns.length:Int)):∃ v:Int,f6 (ns.map V.int) k=some (.int v):=by
 have hj:k.toNat < ns.length:=by omega
 have q:=tJ (xs:=ns.map V.int) (j:=k.toNat) (v:= .int ns[k.toNat]) (by simp [hj]);rw [show((k.toNat:Nat):Int)=k by omega] at q;exact⟨_,q⟩
theorem Y6{f:Addr}{fd:FuncData}(F:bw K "_law_cell_at" "_law_cell_at" FH f fd)(T:Txt mg):aB P w K mg base bE 1 f fd ["_law_script","_law_k"] (yD K):=by
 refine F.gc Y4 λb0 H vs Q E hr h=>?_;obtain⟨a,ns,k,rfl,hS,h0,q⟩:=h;refine iz<|d7 MB<|ae 1<|dh jA T.len JG<|ao<|ae 0<|aE ⟨a,_,rfl,.inl hS,_,_,rfl,rfl,_,rfl,?_⟩;refine lK (λc=>?_) λc=>?_
 ·have c':=CG c;obtain⟨v,hv⟩:=Y5 (ns:=ns) h0 (by rw [Ac] at c';exact c');exact cy<|fu lF<|ae 0<|ae 1 ⟨a,_,_,.int v,rfl,rfl,hS,hv,q v⟩
 ·exact bp<|cy<|aK<|q 0
abbrev pF:List V:=[.int 48271,.int 69621,.int 16807,.int 39373,.int 21401,.int 60493,.int 87721,.int 31337]
abbrev gm:List V:=[.int 99991,.int 99989,.int 99971,.int 99961,.int 99929,.int 99923,.int 99907,.int 99901]
theorem eight{i:Int}(h0:0<=i)(h1:i < 8):i=0\/i=1\/i=2\/i=3\/i=4\/i=5\/i=6\/i=7:=by
 obtain⟨k,rfl⟩:=Int.eq_ofNat_of_zero_le h0;exact(by decide:∀ k:Fin 8,(k.1:Int)=0\/(k.1:Int)=1\/(k.1:Int)=2\/(k.1:Int)=3\/(k.1:Int)=4\/(k.1:Int)=5\/(k.1:Int)=6\/(k.1:Int)=7) ⟨k,Int.ofNat_lt.mp h1⟩
theorem Y7{i:Int}(h0:0<=i)(h1:i < 8):∃ m:Int,f6 pF i=some (.int m)/\0 < m/\m < 100000:=by
 rcases eight h0 h1 with rfl | rfl | rfl | rfl | rfl | rfl | rfl | rfl <;> exact⟨_,rfl,by decide,by decide⟩
theorem Y8{i:Int}(h0:0<=i)(h1:i < 8):∃ m:Int,f6 gm i=some (.int m)/\0 < m/\m < 100000:=by
 rcases eight h0 h1 with rfl | rfl | rfl | rfl | rfl | rfl | rfl | rfl <;> exact⟨_,rfl,by decide,by decide⟩
theorem nF:aj ["_law_script","_law_at","_law_by","_law_prime","_law_cell","_law_big_here","_law_k","_law_one"] ["_law_script","_law_at"] (aP pD):=cU
theorem Y9{f:Addr}{fd:FuncData}(F:bw K "_law_big" "_law_big" pD f fd)(T:Txt mg)(G:aO P w K mg base 1 "_law_cell_at" ["_law_script","_law_k"]<|yD K) :
  aB P w K mg base bE 2 f fd ["_law_script","_law_at"] (FX K):=by
 refine F.gc nF λb0 H vs Q E hr h=>?_;obtain⟨a,ns,k,rfl,hS,h0,q⟩:=h;have nd:=nF.nd;refine run_set 2 nd (iy<|ao<|aK<|ao<|aK<|ao<|aK<|ao<|aK<|ao<|aK<|ao<|aK<|ao<|aK<|ao<|aK<|aE ⟨(by show 8<=sizeLine;decide),λp hp=>?_⟩);refine run_set 3 nd (iy<|ao<|aK<|ao<|aK<|ao<|aK<|ao<|aK<|ao<|aK<|ao<|aK<|ao<|aK<|ao<|aK<|aE ⟨(by show 8<=sizeLine;decide),λp2 kA=>?_⟩);have Y':p≠p2:=by
  intro e;rw [<- e,az] at kA;cases kA
 have s1:ah H (upd H p<|.tup pF):=aQ hp _;have s2:ah H (upd (upd H p<|.tup pF) p2<|.tup gm):=s1.trans<|aQ kA _;have e1:(upd (upd H p<|.tup pF) p2<|.tup gm) p=some (.tup pF):=by rw [ax Y',az]
 have e2:(upd (upd H p<|.tup pF) p2<|.tup gm) p2=some (.tup gm):=az;generalize upd (upd H p<|.tup pF) p2 (.tup gm)=H2 at s2 e1 e2 ⊢;refine run_set 4 nd<|bV G hr<|ao<|ae 0<|ao<|ae 1<|aE ⟨a,ns,k,rfl,s2.seq hS,h0,λb=>?_⟩;refine NB True True (λR qq=>?_) (λ_=>?_) λ_=>bp ?_
 ·refine DS (DT<|d7 lr<|aY eW<|ae 4<|aK ⟨_,_,rfl,rfl,(by show(0:Int) < 2;decide),aK ⟨rfl,_,rfl,?_⟩⟩);refine lK (λc=>?_) (λc=>qq false (λz=>nomatch z) λ_=>trivial);exact DU<|d7 BI<|ae 4<|aY Mw<|aK<|aK ⟨_,_,rfl,rfl,⟨by decide,by decide,by decide⟩,_,_,rfl,rfl,_,rfl,qq _ (λ_=>trivial) λ_=>trivial⟩
 ·exact cy<|aY kz<|ae 4<|aK ⟨_,_,rfl,rfl,⟨by decide,by decide⟩,q _ _ s2⟩
 refine run_set 5 nd<|aK ?_;refine xZ T.range<|aK ⟨60,rfl,by decide,by decide,x4 (n:=60) (λ_ σ H3=>H3=H2/\∃(x:Int) (u v:Option V),σ=[some<|.ref a,some<|.int k,some<|.ref p,some<|.ref p2,some<|.int b,some<|.int x,u,v]) ⟨rfl,0,_,_,rfl⟩ ?_ ?_⟩
 ·rintro i σ H3 hi ⟨rfl,x,u,v,rfl⟩;have i9:0<=(0+(i:Int)) % 9:=Ch _ (by decide);obtain⟨m1,f1,g1,g2⟩:=Y7 (i:=(0+(i:Int)) % 8) (Ch _<|by decide) (Cs _<|by decide);obtain⟨m2,f2,g3,g4⟩:=Y8 (i:=(0+(i:Int)) % 8) (Ch _<|by decide) (Cs _<|by decide);refine aZ 6 nd ?_;refine run_set 7 nd<|aY gF<|aY gF<|aY eW<|bV G hr<|ao<|ae 0<|ao<|aY gF<|ae 1<|aY eW<|ae 6<|aK ?_;refine⟨_,_,rfl,rfl,(by show(0:Int) < 9;decide),_,_,rfl,rfl,aE ⟨a,ns,_,rfl,s2.seq hS,?_,λc=>?_⟩⟩
  ·show 0<=k+(0+(i:Int)) % 9;omega
  refine aY Mw (aK<|aK ⟨_,_,rfl,rfl,⟨by decide,by decide,by decide⟩,_,_,rfl,rfl,(by show(0:Int) < 10 ^ (18:Int).toNat;decide),aK ⟨_,_,rfl,rfl,?_⟩⟩);refine aY oK<|ae 6<|ae 6 ?_;refine⟨_,_,rfl,rfl,.inl ⟨by omega,by omega⟩,_,_,rfl,rfl,?_⟩;refine run_set 5 nd (aY gF<|aY oK<|ae 5<|aK ⟨_,_,rfl,rfl,.inr ⟨by decide,by decide⟩,?_⟩);refine aY eW (aY eW<|aY oK<|ae 7<|fu m8<|ae 2<|aY eW<|ae 6<|aK ⟨_,_,rfl,rfl,(by show(0:Int) < 8;decide),p,_,_,_,rfl,rfl,bt.of e1,f1,_,_,rfl,rfl,.inr ⟨by omega,by omega⟩,?_⟩);refine fu m8 (ae 3<|aY eW<|ae 6<|aK ⟨_,_,rfl,rfl,(by show(0:Int) < 8;decide),p2,_,_,_,rfl,rfl,bt.of e2,f2,_,_,rfl,rfl,g3,aK ⟨_,_,rfl,rfl,(by show(0:Int) < 7919;decide),_,_,rfl,rfl,?_⟩⟩);exact bp ⟨rfl,_,_,_,rfl⟩
 ·rintro σ H3 ⟨rfl,x,u,v,rfl⟩;exact cy<|ae 5<|q x _ s2
abbrev NN:List Str:=["_law_stem","_law_many","_law_signs","_law_size","_law_spot","_law_names_here","_law_v","_law_name","_law_k","_law_turn"]
theorem iF:aj NN ["_law_stem","_law_many"] (aP FI):=cU
theorem Za{f:Addr}{fd:FuncData}(F:bw K "_law_names" "_law_names" FI f fd)(T:Txt mg):aB P w K mg base bE 1 f fd ["_law_stem","_law_many"] FY:=by
 refine F.gc iF λb0 H vs Q E hr h=>?_;obtain⟨b,m,rfl,m0,m1,q⟩:=h;have nd:=iF.nd;have s0:0<=b % 8:=Ch _ (by decide);have s1:b % 8 < 8:=Cs _ (by decide);refine run_set 2 nd<|DI ?_;refine run_set 3 nd (aY gF<|aK<|aY eW<|ae 0<|aK ⟨_,_,rfl,rfl,(by show(0:Int) < 8;decide),_,_,rfl,rfl,?_⟩);refine run_set 4 nd (aY eW<|aY kz<|ae 0<|aK ⟨_,_,rfl,rfl,⟨by decide,by decide⟩,ae 3 ⟨_,_,rfl,rfl,(by show 0 < 1+b % 8;omega),?_⟩⟩);refine run_set 5 nd<|gO<|aE ⟨Z0,λl hl=>?_⟩;have spE:b / 8 % (1+b % 8)=b / 8 % (1+b % 8):=rfl;refine xZ T.range<|ae 1 ⟨m,rfl,by omega,by omega,x4 (n:=m.toNat) (λi σ H3=>H3=upd H l (Ls<|namesOf b i)/\∃ u1 u2 u3 u4,σ=[some<|.int b,some<|.int m,some<|.str lets,some<|.int<|1+b % 8,some<|.int<|b / 8 % (1+b % 8),some<|.ref l,u1,u2,u3,u4]) ⟨rfl,_,_,_,_,rfl⟩ ?_ ?_⟩
 ·rintro i σ H3 hi ⟨rfl,u1,u2,u3,u4,rfl⟩;refine aZ 6 nd ?_;refine run_set 7 nd<|DI ?_;refine xZ T.range<|ae 3 ⟨_,rfl,by omega,by omega,x4 (n:=(1+b % 8).toNat) (λj σ H4=>H4=upd H l (Ls<|namesOf b i)/\∃(u3 u4:Option V),σ=[some<|.int b,some<|.int m,some<|.str lets,some<|.int<|1+b % 8,some<|.int<|b / 8 % (1+b % 8),some<|.ref l,some<|.int<|0+(i:Int),some<|.str<|nm b (b / 8 % (1+b % 8)) i j,u3,u4]) ⟨rfl,_,_,rfl⟩ ?_ ?_⟩
  ·rintro j σ H4 hj ⟨rfl,v3,v4,rfl⟩;have t0:0<=b / 7 % 5:=Ch _ (by decide);have t1:b / 7 % 5 < 5:=Cs _ (by decide);have nl:(nm b (b / 8 % (1+b % 8)) i j).length=j:=by
    have:=CW List.length<|yq b (b / 8 % (1+b % 8)) i j;show(nm b (b / 8 % (1+b % 8)) i j).cps.size=j
    simpa using this
   refine aZ 8 nd ?_;refine run_set 9 nd (aY gF<|aY kz<|ae 0<|aK ⟨_,_,rfl,rfl,⟨by decide,by decide⟩,aY oK<|ae 8<|aY eW<|aY kz<|ae 0<|aK ⟨_,_,rfl,rfl,⟨by decide,by decide⟩,aK ⟨_,_,rfl,rfl,(by show(0:Int) < 5;decide),?_⟩⟩⟩);refine⟨_,_,rfl,rfl,.inr ⟨by omega,by omega⟩,_,_,rfl,rfl,?_⟩;refine OG ((0+(j:Int))=b / 8 % (1+b % 8)) (¬(0+(j:Int))=b / 8 % (1+b % 8)) (λσ' H'=>H'=upd H l (Ls<|namesOf b i)/\σ'=[some<|.int b,some<|.int m,some<|.str lets,some<|.int<|1+b % 8,some<|.int<|b / 8 % (1+b % 8),some<|.ref l,some<|.int<|0+(i:Int),some<|.str<|nm b (b / 8 % (1+b % 8)) i j,some<|.int<|0+(j:Int),some<|.int<|turn b (b / 8 % (1+b % 8)) i j]) (λR qq=>?_) (λhc=>?_) (λhc=>bp ⟨rfl,?_⟩) ?_
   ·refine d7 lr<|ae 8<|ae 4 ⟨rfl,_,rfl,?_⟩
    by_cases hc:(0+(j:Int))=b / 8 % (1+b % 8)
    ·rw [BX (show V.int (0+(j:Int))=V.int (b / 8 % (1+b % 8)) by rw [hc])];exact qq true (λ_=>hc) λh=>by cases h
    ·rw [BR λh=>hc<|V.int.inj h];exact qq false (λh=>by cases h) λ_=>hc
   ·refine run_set 9 nd<|aY gF<|ae 9<|ae 6 ⟨_,_,rfl,rfl,bp ⟨rfl,?_⟩⟩;have e:b / 64+(0+(j:Int)) * (b / 7 % 5)+(0+(i:Int))=turn b (b / 8 % (1+b % 8)) i j:=by
     unfold turn;rw [BL (by omega),Gu,Gu]
    rw [<- e];rfl
   ·have e:b / 64+(0+(j:Int)) * (b / 7 % 5)=turn b (b / 8 % (1+b % 8)) i j:=by
     unfold turn;rw [BK (by omega),Gu,Int.add_zero]
    rw [<- e];rfl
   ·rintro σ' H' ⟨rfl,rfl⟩;refine run_set 7 nd<|aY VL<|ae 7<|fu MX<|ae 2<|aY eW<|ae 9<|aK ⟨_,_,rfl,rfl,(by show(0:Int) < 36;decide),lets,_,sgn<|turn b (b / 8 % (1+b % 8)) i j,rfl,rfl,by decide +kernel,E8 _,_,_,rfl,rfl,small (by show(nm b (b / 8 % (1+b % 8)) i j).length+1<=100000;omega),bp ⟨rfl,_,_,rfl⟩⟩
  ·rintro σ H4 ⟨rfl,v3,v4,rfl⟩;refine OG (b % 3=2) (¬ b % 3=2) (λσ' H'=>H'=upd H l (Ls<|namesOf b i)/\σ'=[some<|.int b,some<|.int m,some<|.str lets,some<|.int<|1+b % 8,some<|.int<|b / 8 % (1+b % 8),some<|.ref l,some<|.int<|0+(i:Int),some<|.str<|bK b i,v3,v4]) (λR qq=>?_) (λhc=>?_) (λhc=>bp ⟨rfl,?_⟩) ?_
   ·refine d7 lr<|aY eW<|ae 0<|aK ⟨_,_,rfl,rfl,(by show(0:Int) < 3;decide),aK ⟨rfl,_,rfl,?_⟩⟩
    by_cases hc:b % 3=2
    ·rw [BX (show V.int (b % 3)=V.int 2 by rw [hc])];exact qq true (λ_=>hc) λh=>by cases h
    ·rw [BR λh=>hc<|V.int.inj h];exact qq false (λh=>by cases h) λ_=>hc
   ·have e0:0<=(0+(i:Int)) % 8:=Ch _ (by decide);have e1:(0+(i:Int)) % 8 < 8:=Cs _ (by decide);refine run_set 7 nd (aY WO<|fu MX<|ae 2<|aY eW<|aY gF<|aY kz<|ae 0<|aK ⟨_,_,rfl,rfl,⟨by decide,by decide⟩,aY kz<|ae 6<|aK ⟨_,_,rfl,rfl,⟨by decide,by decide⟩,_,_,rfl,rfl,aK ⟨_,_,rfl,rfl,(by show(0:Int) < 36;decide),lets,_,sgn<|b / 64+(0+(i:Int)) / 8,rfl,rfl,by decide +kernel,E8 _,?_⟩⟩⟩);refine aY gF (aK<|aY eW<|ae 6<|aK ⟨_,_,rfl,rfl,(by show(0:Int) < 8;decide),_,_,rfl,rfl,?_⟩);refine⟨_,_,rfl,rfl,by omega,by omega,?_,bp ⟨rfl,?_⟩⟩
    ·show 1 * _<=_;omega
    ·have e:Txt.mul ⟨#[sgn<|b / 64+(0+(i:Int)) / 8]⟩ (1+(0+(i:Int)) % 8)=bK b i:=by
      unfold bK;rw [BL hc,Gu]
     rw [<- e];rfl
   ·have e:nm b (b / 8 % (1+b % 8)) i (1+b % 8).toNat=bK b i:=by
     unfold bK;rw [BK hc]
    rw [<- e]
   ·rintro σ' H' ⟨rfl,rfl⟩;refine jD<|ro<|ae 5 ⟨l,rfl,⟨_,az⟩,ae 7 ⟨_,az,?_,?_⟩⟩
    ·rw [Ac,E9];exact cj<|by omega
    ·rw [qN];refine bp ⟨?_,_,_,_,_,rfl⟩;rw [Y1];exact FV
 ·rintro σ H3 ⟨rfl,u1,u2,u3,u4,rfl⟩;exact cy<|ae 5<|q l _ (aQ hl _) hl az
end
end N4
namespace Nt
open PySem L2
theorem aw.lists{H:Hp}{R:Addr}{as:List (Addr×Addr)}{n:Net}(h:aw H R as n){x:Addr×Addr}(hx:x∈as):∃ zs,H x.2=some (Ls zs):=by
 obtain⟨i,hi,e⟩:=Gd.mp hx;have hl:=h.len;exact⟨_,(h.tup i x (n[i]'(by omega)) (by rw [<- e];exact Aa hi)<|Aa<|by omega).2⟩
theorem yE(n:Net):(ends n).length=(av n).length:=by
 unfold ends bo;rw [Ac,<- lV n 0,Ac]
theorem yF{n:Net}{i:Nat}(h:i < n.length):row n i=n[i].2:=by unfold row;rw [Aa h];rfl
theorem aw.upd{H:Hp}{R x:Addr}{as:List (Addr×Addr)}{n:Net}(h:aw H R as n){xs:List V}{o:HO}(hx:H x=some (.lst xs))(hR:R≠x)(ha:∀ a∈as,a.2≠x):aw (upd H x o) R as n:=by
 refine⟨h.len,by rw [ax hR];exact h.lst,λi a r h1 h2=>?_,h.inj⟩;have q:=h.tup i a r h1 h2;exact⟨by rw [ax<|cv q.1 hx λe=>nomatch e];exact q.1,by rw [ax<|ha a<|Ag h1];exact q.2⟩
def a9(n:Net)(r:Nat):Str:=((n[r]?).map (·.1)).getD ⟨#[]⟩
theorem kI{n:Net}{r:Nat}(h:r < n.length):a9 n r=n[r].1:=by unfold a9;rw [Aa h];rfl
abbrev Lk:=Str×Str×Str
def lW(n:Net)(x:Lk):Prop:=∃ a b,pos n x.1=[a,b]/\x.2.1=a9 n a.1/\x.2.2=a9 n b.1
structure iG(n:Net)(done:List<|Str×End)(kM:List<|Key×V)(ls:List Lk):Prop where
 m0:∀ z,cz done z=[]->aA kM (Sum.inr z)=none
 m1:∀ z a rest,cz done z=a :: rest->aA kM (Sum.inr z)=some (.str<|a9 n a.1)
 mem:∀ x:Lk,x∈ls↔∃ a b rest,cz done x.1=a :: b :: rest/\x.2.1=a9 n a.1/\x.2.2=a9 n b.1
 cC:(ls.map (·.1)).Nodup
 dM:kM.length<=done.length
 lX:ls.length<=done.length
theorem iG.start(n:Net):iG n [] [] []:=⟨λ_ _=>rfl,λz a rest h=>(by cases h),λx=>⟨λh=>(by cases h),λ⟨a,b,rest,h,_⟩=>(by cases h)⟩,Ds,Ai _,Ai _⟩
theorem iG.new{n:Net}{done:List (Str×End)}{kM:List (Key×V)}{ls:List Lk}(I:iG n done kM ls){z:Str}{e:End}(h0:cz done z=[]):iG n (done++[(z,e)]) (putK kM (Sum.inr z)<|.str<|a9 n e.1) ls:=by
 refine⟨λy hy=>?_,λy a rest hy=>?_,λx=>?_,I.cC,?_,?_⟩
 ·rw [gJ] at hy;obtain⟨h1,h2⟩:=Fs.mp hy;have bF:¬ z=y:=λq=>by rw [BL q] at h2;cases h2
  rw [dI,BK λq=>bF (Sum.inr.inj q).symm];exact I.m0 y h1
 ·rw [gJ] at hy
  by_cases q:z=y
  ·subst q;rw [h0,BL rfl] at hy;cases hy;rw [dI,BL rfl]
  ·rw [BK q,Be] at hy;rw [dI,BK λp=>q (Sum.inr.inj p).symm];exact I.m1 y a rest hy
 ·rw [I.mem x]
  by_cases q:z=x.1
  ·constructor
   ·rintro ⟨a,b,rest,h,_⟩;rw [<- q,h0] at h;cases h
   ·rintro ⟨a,b,rest,h,_⟩;rw [gJ,<- q,h0,BL rfl] at h;cases h
  ·constructor
   ·rintro ⟨a,b,rest,h,r⟩;exact⟨a,b,rest,by rw [gJ,BK q,Be];exact h,r⟩
   ·rintro ⟨a,b,rest,h,r⟩;rw [gJ,BK q,Be] at h;exact⟨a,b,rest,h,r⟩
 ·have:=je kM (Sum.inr z)<|.str<|a9 n e.1;have:=I.dM;rw [Ad,Dg];omega
 ·have:=I.lX;rw [Ad,Dg];omega
theorem iG.old{n:Net}{done:List (Str×End)}{kM:List (Key×V)}{ls:List Lk}(I:iG n done kM ls){z:Str}{a e:End}(h1:cz done z=[a]):iG n (done++[(z,e)]) kM (ls++[(z,a9 n a.1,a9 n e.1)]):=by
 have hz:cz (done++[(z,e)]) z=[a,e]:=by rw [gJ,h1,BL rfl];rfl
 have Zb:z∉ls.map (·.1):=λh=>by
  obtain⟨x,hx,ex⟩:=Az.mp h;obtain⟨b,c,rest,hp,_⟩:=(I.mem x).mp hx;have ex:x.1=z:=ex;rw [ex,h1] at hp;cases hp
 refine⟨λy hy=>?_,λy b rest hy=>?_,λx=>?_,?_,?_,?_⟩
 ·rw [gJ] at hy;exact I.m0 y (Fs.mp hy).1
 ·by_cases q:z=y
  ·subst q;rw [hz] at hy;cases hy;exact I.m1 z a [] h1
  ·rw [gJ,BK q,Be] at hy;exact I.m1 y b rest hy
 ·rw [Ao,Ae,I.mem x]
  by_cases q:z=x.1
  ·constructor
   ·rintro (⟨b,c,rest,h,_⟩ | h)
    ·rw [<- q,h1] at h;cases h
    ·subst h;exact⟨a,e,[],hz,rfl,rfl⟩
   ·rintro ⟨b,c,rest,h,r1,r2⟩;rw [<- q,hz] at h;cases h;obtain⟨x1,x2,x3⟩:=x;have q:z=x1:=q;have r1:x2=a9 n a.1:=r1;have r2:x3=a9 n e.1:=r2;subst q r1 r2;exact .inr rfl
  ·constructor
   ·rintro (⟨b,c,rest,h,r⟩ | h)
    ·exact⟨b,c,rest,by rw [gJ,BK q,Be];exact h,r⟩
    ·subst h;exact absurd rfl q
   ·rintro ⟨b,c,rest,h,r⟩;rw [gJ,BK q,Be] at h;exact .inl ⟨b,c,rest,h,r⟩
 ·rw [Ak];exact ni I.cC Zb
 ·have:=I.dM;rw [Ad,Dg];omega
 ·have:=I.lX;rw [Ad,Ad];show _+1<=_+1;omega
theorem iG.whole{n:Net}(T:bN n){kM:List (Key×V)}{ls:List Lk}(I:iG n (bo n) kM ls)(x:Lk):x∈ls↔lW n x:=by
 rw [I.mem x]
 constructor
 ·rintro ⟨a,b,rest,h,r⟩;have hp:pos n x.1=a :: b :: rest:=h;have ha:bq n a=some x.1:=aV.mp (by rw [hp];exact Aw ..);have hl:=uv n x.1;rw [hp,T x.1<|px ha] at hl;have:rest=[]:=by
   have:rest.length+1+1=2:=hl;exact Bq.mp<|by omega
  rw [this] at hp;exact⟨a,b,hp,r⟩
 ·rintro ⟨a,b,h,r⟩;exact⟨a,b,[],h,r⟩
inductive Way (ls:List<|Str×Str×Bool) (f:Str):Str->Bool->Prop where
 | here:Way ls f f false
 | there {x y:Str} {b o:Bool}:Way ls f x b->(x,y,o)∈ls->Way ls f y (b != o)
 | back {x y:Str} {b o:Bool}:Way ls f x b->(y,x,o)∈ls->Way ls f y (b != o)
end Nt
namespace L2
open PySem PySem.Spec PyProof.Rows
theorem Zc{P:Program}{w:World}{k:Key}{u:Value}(h:(dz P w).is k u=true):RelV (kV k) u:=by
 rcases kq h with ⟨i,t,rfl,rfl⟩ | ⟨x,t,rfl,rfl⟩ <;> exact⟨t,rfl⟩
section
variable{X:Cx}{pins:List (Addr×Obj)}{σ:St}{H:Hp}{s:Shared}
theorem Zd{d:Addr}{kvs:List (Key×V)}(I:Inv X pins σ H s)(e:H d=some (.dK kvs)):∃ o,s.heap.get? d=some o/\Inv X pins σ (upd H d<|.bI o<|.dK kvs) s:=by
 obtain⟨z,hd,vs,rel,dd⟩:=xR I.aC e;obtain⟨o,es,ep,ho,rest⟩:=id dd;refine⟨o,ho,?_⟩;exact nh (t':=s.toks) I (by rw [e];exact True.intro) ⟨rfl,λ_ _=>rfl⟩ ⟨o,ho⟩ (show ay X.prog X.w _ s.heap d (.bI o<|.dK kvs) from⟨ho,z,hd,vs,rel,dd⟩)
def F0(d:Addr)(o:Obj)(kvs:List<|Key×V):It:=
 ⟨λi H=>H d=some (.bI o<|.dK kvs)/\i < kvs.length,λi H x H'=>H'=H/\∃ p,kvs[i]?=some p/\x=kV p.1,λi H=>H d=some (.bI o<|.dK kvs)/\kvs.length<=i⟩
theorem O0{P:Program}{w:World}{h:Heap}{d:Addr}{o:Obj}{es:Array DictEntry}{ep:Nat}{kvs:List (Key×V)}(aC:b7 P w H h)(e:H d=some (.bI o<|.dK kvs))(hd:o.data = .dict es ep):∃ vs,KV kvs vs/\h.DictAt (dz P w) d vs ep:=by
 obtain⟨ho,z,_,vs,rel,dd⟩:=(show ay P w H h d (.bI o<|.dK kvs) from aC d _ e);obtain⟨mX,o',fj,cY,r1,r2,r3⟩:=dd.dictAt;have:o=o':=Option.some.inj<|ho.symm.trans cY;subst this;rw [hd] at r2
 injection r2 with e1 e2
 subst e1;subst e2;exact⟨vs,rel,o,es,cY,r1,hd,r3⟩
theorem Zf{P:Program}{w:World}{K:PySem.W.Frag}{tg:Expr}(d it:Addr)(o:Obj)(es:Array DictEntry)(ep:Nat)(kvs:List<|Key×V)(pG:o.data = .dict es ep):Turn P w K tg (F0 d o kvs) [it] it (λi h=>h.IsKeyIter it d i kvs.length ep) where
 mem:=by simp
 obj:=λi h st b hb=>by
  have e:b=it:=by simpa using hb
  subst e;obtain⟨o,e,c,d⟩:=st;exact⟨o,e,λv z=>by rw [d] at z;cases z⟩
 keep:=λi h h' st k=>let ⟨o,ho,r⟩:=st;⟨o,k it (by simp) o ho,r⟩
 item:=by
  intro X hP hw hK hc i pins s σ H E I hf st hg;subst hP hw hK;obtain⟨f0,f1,f2,f3,f4,f5⟩:=hf it (by simp);obtain⟨hd,hi⟩:=hg;obtain⟨vs,rel,da⟩:=O0 I.aC hd pG;have hl:=rel.length;have dv:i < vs.length:=by omega
  have hx:vs[i]?=some vs[i]:=Aa dv;rw [hl] at st;refine wpAny_pyNext_dict_item (k:=vs[i].1) (v:=vs[i].2) st da hx λkey h' hk ag iV=>?_;have I1:Inv X pins σ H {s with heap:=h'}:=I.turned (t':=s.toks) (λb o hb e=>iV.extBut b o hb e) f0 f1 f3 f4 f5;obtain⟨o2,e2,c2,d2⟩:=id ag;refine⟨_,rfl,xF (s:={s with heap:=h'}) e2 c2 d2 (by decide) ⟨kV vs[i].1,H,I1,Zc hk,⟨rfl,kvs[i],Aa hi,?_⟩,by rw [hl];exact ag,λb hb=>(hf b hb).1⟩⟩;have ek:=rel.keys;have e3:(kvs.map (·.1))[i]?=(vs.map (·.1))[i]?:=by rw [ek]
  rw [Ah,Ah,Aa hi,hx] at e3;have e4:kvs[i].1=vs[i].1:=Option.some.inj e3;rw [e4]
 done:=by
  intro X hP hw hK hc i pins s σ H E I hf st hg;subst hP hw hK;obtain⟨f0,f1,f2,f3,f4,f5⟩:=hf it (by simp);obtain⟨hd,hi⟩:=hg;obtain⟨vs,rel,da⟩:=O0 I.aC hd pG;have hl:=rel.length;rw [hl] at st;exact wpAny_pyNext_dict_end (I.ok.hd hc) st da (by rw [Aq];omega) λh' eb=>⟨rfl,I.turned (t':=s.toks) (λb o hb e=>eb b o hb e) f0 f1 f3 f4 f5⟩
 self:=λ_ _ _ _ _ st h=>wpAny_pyIter_keyiter st h
def Zg(tl:TE):TI:=λσ H R=>tl σ H λx H1=>∃ d kvs,x = .ref d/\H1 d=some (.dK kvs)/\∀ o,R (F0 d o kvs)<|upd H1 d<|.bI o<|.dK kvs
theorem O1{tg l:Expr}{tl:TE}(hl:PE X l tl):PI X tg l (Zg tl):=by
 intro pins s σ H R I h;refine aI (hl pins s σ H _ I h) λv s1 ⟨x,H1,I1,r1,q1⟩=>?_;obtain⟨d,kvs,e,hH,q⟩:=q1;subst e;cases (show v=Value.ref d from r1);obtain⟨o,ho,I2⟩:=Zd I1 hH;obtain⟨z,pH,vs,rel,dd⟩:=xR I1.aC hH;obtain⟨ep,o',es,cY,r1,r2,r3⟩:=dd.dictAt;have:o=o':=Option.some.inj<|ho.symm.trans cY;subst this;refine wpAny_pyIter_dict pH ⟨o,es,cY,r1,r2,r3⟩ ?_;refine⟨s1.heap.objs.size,[s1.heap.objs.size],_,_,_,rfl,I2.kept (t':=s1.toks) λb o e=>Af _ e,Zf d _ o es ep kvs r2,⟨_,At _ rfl,rfl,by rw [rel.length];rfl⟩,λb hb=>?_,q o⟩;have e:b=s1.heap.objs.size:=by simpa using hb
 subst e;exact I2.gL (Ai _)<|I2.aC.fresh<|Ai _
end
section
variable{X:Cx}{elt tg:Expr}{ifs:List Expr}{scope:Scope}{σ:St}{H:Hp}{N':List Str}{A a d:Addr}{xs:List V}{kvs:List (Key×V)}{after:Hp->Prop}
theorem jM(Pv:Nat->St->Hp->Prop)(h0:Pv 0 σ H)(hl:∀ i σ' H',i<=xs.length->Pv i σ' H'->ai X.K H' a xs)
  (hs : ∀ i x σ' H', xs[i]? = some x → Pv i σ' H' → tX X N' scope tg x σ' H' λσ2 H3 => tY X N' scope ifs σ2 H3 λb H4 =>
   if b=true then tW X N' scope elt σ2 H4 λv H5=>∃ ys,H5 A=some (.lst ys)/\ys.length < sizeLine/\Pv (i+1) σ2 (upd H5 A<|.lst<|ys++[v]) else Pv (i+1) σ2 H4)
  (hd:∀ σ' H',Pv xs.length σ' H'->after H'):kD X N' scope tg ifs elt (oF X.K a) A after σ H:=by
 refine⟨λi m σ' H'=>m=xs.length - i/\i<=xs.length/\Pv i σ' H',⟨_,rfl,Bn _,h0⟩,?_⟩;rintro i m σ' H' ⟨rfl,hi,p⟩;have q:=hl i σ' H' hi p
 by_cases aM:i < xs.length
 ·refine .inr ⟨⟨xs,xs[i],q,by simp [aM]⟩,Pv<|i+1,λσ' H' p'=>⟨xs.length - (i+1),by omega,rfl,aM,p'⟩,λx H2 y=>?_⟩;obtain⟨e,y⟩:=y;subst e;exact hs i x σ' _ (y xs q) p
 ·have e:i=xs.length:=by omega
  subst e;exact .inl ⟨⟨xs,q,Ai _⟩,hd σ' H' p⟩
theorem O2{o:Obj}(Pv:Nat->St->Hp->Prop)(h0:Pv 0 σ H)(hl:∀ i σ' H',i<=kvs.length->Pv i σ' H'->H' d=some (.bI o<|.dK kvs))
  (hs : ∀ i p σ' H', kvs[i]? = some p → Pv i σ' H' → tX X N' scope tg (kV p.1) σ' H' λσ2 H3 => tY X N' scope ifs σ2 H3 λb H4 =>
   if b=true then tW X N' scope elt σ2 H4 λv H5=>∃ ys,H5 A=some (.lst ys)/\ys.length < sizeLine/\Pv (i+1) σ2 (upd H5 A<|.lst<|ys++[v]) else Pv (i+1) σ2 H4)
  (hd:∀ σ' H',Pv kvs.length σ' H'->after H'):kD X N' scope tg ifs elt (F0 d o kvs) A after σ H:=by
 refine⟨λi m σ' H'=>m=kvs.length - i/\i<=kvs.length/\Pv i σ' H',⟨_,rfl,Bn _,h0⟩,?_⟩;rintro i m σ' H' ⟨rfl,hi,p⟩;have q:=hl i σ' H' hi p
 by_cases aM:i < kvs.length
 ·refine .inr ⟨⟨q,aM⟩,Pv<|i+1,λσ' H' p'=>⟨kvs.length - (i+1),by omega,rfl,aM,p'⟩,λx H2 y=>?_⟩;obtain⟨e,p',ep,y⟩:=y;subst e y;exact hs i p' σ' _ ep p
 ·have e:i=kvs.length:=by omega
  subst e;exact .inl ⟨⟨q,Ai _⟩,hd σ' H' p⟩
theorem O3{zs:List Str}(f:Str->Bool)(hz:zs.length < sizeLine)(ha:H a=some (.lst<|zs.map V.str))(hA:H A=none)
  (hg:∀ cl C s₀ H₀ ex v v0 H' R,R (σ++[some v]) H'->Eg (fq X N' scope cl C s₀ H₀ ex) tg v (σ++[v0]) H' R)
  (hi:∀ cl C s₀ H₀ ex z ys T,T (f z) (upd H A<|.lst ys)->Ei (fq X N' scope cl C s₀ H₀ ex) ifs (σ++[some<|.str z]) (upd H A<|.lst ys) T)
  (he:∀ cl C s₀ H₀ ex z H' R,R (V.str z) H'->Ev (fq X N' scope cl C s₀ H₀ ex) elt (σ++[some<|.str z]) H' R) (q:after<|upd H A<|.lst<|(zs.filter f).map V.str) :
  kD X N' scope tg ifs elt (oF X.K a) A after (σ++List.replicate 1 none) (upd H A<|.lst []):=by
 have ne:a≠A:=b4 ha hA;refine jM (xs:=zs.map V.str) (λk σ' H'=>(∃ v,σ'=σ++[v])/\H'=upd H A (.lst<|((zs.take k).filter f).map V.str)) ⟨⟨none,rfl⟩,by simp⟩ ?_ ?_ ?_
 ·rintro i σ' H' _ ⟨_,rfl⟩;exact ai.of<|by rw [ax ne];exact ha
 ·rintro i x σ' H' hx ⟨⟨v,rfl⟩,rfl⟩;rw [Ah,An] at hx;obtain⟨z,Zh,rfl⟩:=hx;intro cl C s₀ H₀ ex;refine hg cl C s₀ H₀ ex _ _ _ _ ?_;intro cl C s₀ H₀ ex;refine hi cl C s₀ H₀ ex z _ _ ?_;have e:(zs.take<|i+1).filter f=(zs.take i).filter f++(if f z=true then [z] else []):=by
   rw [Bz,Zh,Cn]
   congr 1
   cases hf:f z <;> simp [hf]
  have hlen:((zs.take i).filter f).length<=zs.length:=Ck (Ci _ _)<|by rw [Bm];omega
  by_cases hf:f z=true
  ·rw [BL hf];intro cl C s₀ H₀ ex;refine he cl C s₀ H₀ ex z _ _ ⟨_,az,by rw [Ac];omega,⟨_,rfl⟩,?_⟩;rw [qN,e,BL hf,Ak];rfl
  ·rw [BK hf];refine⟨⟨_,rfl⟩,?_⟩;rw [e,BK hf,Be]
 ·rintro σ' H' ⟨_,rfl⟩;have e2:zs.take (zs.map V.str).length=zs:=Da (by simp);rw [e2];exact q
theorem rA(z:Str)(zs:List Str):tM (.str z) (zs.map V.str)=zs.contains z:=by
 unfold tM
 induction zs with
 | nil=>rfl
 | cons y r ih=>
  rw [Bt,Gk,ih,List.contains_cons]
  congr 1
  show fm (.str y) (.str z)=(z == y)
  by_cases h:y=z
  ·subst h;simp [fm]
  ·have h':z≠y:=λq=>h q.symm;show(y == z)=(z == y);rw [beq_eq_false_iff_ne.mpr h,beq_eq_false_iff_ne.mpr h']
theorem rB(zs:List Str):(zs.map V.str).all jz=true:=by
 rw [Dk];intro x hx;obtain⟨z,_,rfl⟩:=Az.mp hx;rfl
theorem jj{e1 e2:Expr}{k:Nat}{pos:Pos}{t:Addr}{x y:V}{R:St->Hp->Prop}(hc:X.calm=true)(ht:bt X.K H t [x,y])(h:Eg X e1 x σ H λσ1 H1=>Eg X e2 y σ1 H1 R)
  (hn:(assignEach [e1,e2] X.env).length=2:=by rfl) (c6:(assignEach [e1,e2] X.env).findIdx? (·.1)=none:=by rfl)
  (ji:(assignEach [e1,e2] X.env).map (·.2)=assign e1 X.env :: (assignEach [e2] X.env).map (·.2):=by rfl) (rC:(assignEach [e2] X.env).map (·.2)=assign e2 X.env :: (assignEach [] X.env).map (·.2):=by rfl) :
  Eg X (.Tuple [e1,e2] k pos) (.ref t) σ H R:=
 DF (Mr (t:=qR (λv σ H Q=>Eg X e1 v σ H Q)<|qR (λv σ H Q=>Eg X e2 v σ H Q) oE) hc (sZ o7 (sZ o7 Mq rC) ji) hn c6) ⟨t,_,rfl,ht,rfl,_,_,rfl,h.mono λσ1 H1 h1=>⟨_,_,rfl,h1.mono λσ2 H2 q=>⟨rfl,q⟩⟩⟩
end
end L2
namespace Nt
open PySem L2
def pI(n:Net)(ss:List Str):Bool:=n.all λr=>(r.2.filter λz=>ss.contains z).length % 2 == 0
theorem pJ{n:Net}(T:bN n){e x:End}{z:Str}(h:bq n e=some z):bq n x=some z↔x=e\/x=other n e:=by
 obtain⟨o1,o2,o3⟩:=nC T h;refine⟨λhx=>?_,λhx=>?_⟩
 ·obtain⟨a,b,hp,eX,he⟩:=yo T h;have mx:x∈pos n z:=aV.mpr hx;have mo:other n e∈pos n z:=aV.mpr o1;rw [hp] at mx mo;simp only [Ar,Dd,JH] at mx mo
  rcases he with he | he
  ·rcases mx with m | m
   ·exact .inl<|m.trans he.symm
   ·rcases mo with m2 | m2
    ·exact absurd (m2.trans he.symm) o3
    ·exact .inr<|m.trans m2.symm
  ·rcases mx with m | m
   ·rcases mo with m2 | m2
    ·exact .inr<|m.trans m2.symm
    ·exact absurd (m2.trans he.symm) o3
   ·exact .inl<|m.trans he.symm
 ·rcases hx with rfl | rfl
  ·exact h
  ·exact o1
abbrev Bl:=Str×Str×Bool
def has(kvs:List<|Key×V)(x:Str):Prop:=∃ v,aA kvs (Sum.inr x)=some v
def bY(ls:List Bl)(x y:Str)(o:Bool):Prop:=(x,y,o)∈ls\/(y,x,o)∈ls
def pK(ls:List Bl):List Str:=ls.flatMap λl=>[l.1,l.2.1]
theorem F1{κ:Type} [DecidableEq κ] (kvs:List<|κ×V) (k:κ) (v:V):(putK kvs k v).map (·.1)=if k∈kvs.map (·.1) then kvs.map (·.1) else kvs.map (·.1)++[k]:=by
 have e:(kvs.any λkv=>decide (kv.1=k))=decide (k∈kvs.map (·.1)):=by
  rw [Cg,Gf,CK,Az];exact⟨λ⟨p,h1,h2⟩=>⟨p,h1,CG h2⟩,λ⟨p,h1,h2⟩=>⟨p,h1,BX h2⟩⟩
 unfold putK;rw [e]
 by_cases h:k∈kvs.map (·.1)
 ·rw [BL<|BX h,BL h,Cd];refine Dm λp _=>?_;show(if p.1=k then(p.1,v) else p).1=p.1
  split <;> rfl
 ·rw [BK (by simpa using h),BK h,Ak];rfl
structure cb(ls:List Bl)(f:Str)(hr:Option Str)(kvs:List<|Key×V)(wt:List Str):Prop where
 cC:(kvs.map (·.1)).Nodup
 txt:∀ k∈kvs.map (·.1),∃ x,k=Sum.inr x/\x∈f :: pK ls
 val:∀ x v,aA kvs (Sum.inr x)=some v->∃ b,v = .bl b/\Way ls f x b
 fst:has kvs f
 rD:∀ x∈wt,has kvs x
 yG:∀ x,some x=hr->has kvs x
 cls:∀ x,has kvs x->x∈wt\/some x=hr\/∀ y o,bY ls x y o->has kvs y
theorem cb.iH{ls:List Bl}{f:Str}{hr:Option Str}{kvs:List (Key×V)}{wt:List Str}(I:cb ls f hr kvs wt){g:Str}(hg:aA kvs (Sum.inr g)=none):Sum.inr g∉kvs.map (·.1):=by
 intro hm;obtain⟨p,hp,e⟩:=Az.mp hm;have:∃ i:Nat,kvs[i]?=some p:=Ay hp;obtain⟨i,hi⟩:=this;have:∀{l:List (Key×V)},(∃ q∈l,q.1=Sum.inr g)->aA l (Sum.inr g)≠none:=λ{l}=>by
  induction l with
  | nil=>rintro ⟨q,hq,_⟩;cases hq
  | cons c r ih=>
   rintro ⟨q,hq,e⟩ hn
   by_cases hc:c.1=Sum.inr g
   ·rw [gG hc] at hn;cases hn
   ·rw [gH hc] at hn
    rcases Ar.mp hq with rfl | hq
    ·exact hc e
    ·exact ih ⟨q,hq,e⟩ hn
 exact this ⟨p,hp,e⟩ hg
theorem cb.whole{ls:List Bl}{f:Str}{kvs:List (Key×V)}(I:cb ls f none kvs []):∀ x b,Way ls f x b->∃ b',aA kvs (Sum.inr x)=some (.bl b'):=by
 have oV:∀ x b,Way ls f x b->has kvs x:=λx b w=>by
  induction w with
  | here=>exact I.fst
  | there w hm ih=>
   rcases I.cls _ ih with d | d | d
   ·cases d
   ·cases d
   ·exact d _ _<|.inl hm
  | back w hm ih=>
   rcases I.cls _ ih with d | d | d
   ·cases d
   ·cases d
   ·exact d _ _<|.inr hm
 intro x b w;obtain⟨v,hv⟩:=oV x b w;obtain⟨b',e,_⟩:=I.val x v hv;exact⟨b',by rw [hv,e]⟩
theorem uE{kvs:List (Key×V)}(hn:(kvs.map (·.1)).Nodup){k:Key}{v:V}:(k,v)∈kvs↔aA kvs k=some v:=by
 induction kvs with
 | nil=>exact⟨λh=>(by cases h),λh=>(by cases h)⟩
 | cons c r ih=>
  rw [Bt,Cr] at hn;obtain⟨c1,c2⟩:=c
  by_cases hc:c1=k
  ·subst hc;rw [gG rfl]
   constructor
   ·intro h
    rcases Ar.mp h with e | e
    ·cases e;rfl
    ·exact absurd (Az.mpr ⟨_,e,rfl⟩) hn.1
   ·intro h;cases h;exact Aw ..
  ·rw [gH hc,<- ih hn.2]
   constructor
   ·intro h
    rcases Ar.mp h with e | e
    ·cases e;exact absurd rfl hc
    ·exact e
   ·exact Ax _
open PyProof.Rows (sortedS)
def jN(n:Net):Prop:=∀ P:Str->Prop,(∃ r∈n,P r.1)->(∀ r∈n,∀ s∈n,∀ t,t∈r.2->t∈s.2->P r.1->P s.1)->∀ r∈n,P r.1
def aR(zs:List Str):Prop:=zs.Pairwise λa b=>a.cps.toList < b.cps.toList
theorem pL:∀{zs:List Str},sortedS zs=true->zs.Nodup->aR zs
 | [],_,_=>List.Pairwise.nil
 | z :: r,h,hn=>by
  rw [Cr] at hn;refine List.Pairwise.cons (λx hx=>?_)<|pL (bR.d9 h) hn.2;have h1:=bR.dJ r z h x hx
  rcases List.le_iff_lt_or_eq.mp h1 with q | q
  ·exact q
  ·exact absurd hx<|by rw [<- bR.iC q];exact hn.1
theorem lY{zs:List Str}(h:aR zs):zs.Nodup:=h.imp λq e=>by rw [e] at q;exact Fp _ q
theorem pM:∀{a b:List Str},aR a->aR b->(∀ x,x∈a↔x∈b)->a=b
 | [],[],_,_,_=>rfl
 | [],y :: b,_,_,h=>by have:=(h y).mpr<|Aw ..;cases this
 | x :: a,[],_,_,h=>by have:=(h x).mp<|Aw ..;cases this
 | x :: a,y :: b,ha,hb,h=>by
  unfold aR at ha hb;rw [Ej] at ha hb;have pN:x=y:=by
   rcases Ar.mp ((h x).mp<|Aw ..) with e | e
   ·exact e
   ·rcases Ar.mp ((h y).mpr<|Aw ..) with e2 | e2
    ·exact e2.symm
    ·exact absurd (Gn (ha.1 y e2)<|hb.1 x e)<|Fp _
  subst pN;have nx:∀(l:List Str),(∀ z∈l,x.cps.toList < z.cps.toList)->x∉l:=λl hl hm=>Fp _<|hl x hm;have:a=b:=pM ha.2 hb.2 λz=>by
   constructor
   ·intro hz
    rcases Ar.mp ((h z).mp<|Ax _ hz) with e | e
    ·exact absurd (e ▸ hz)<|nx a ha.1
    ·exact e
   ·intro hz
    rcases Ar.mp ((h z).mpr<|Ax _ hz) with e | e
    ·exact absurd (e ▸ hz)<|nx b hb.1
    ·exact e
  rw [this]
def nG(n:Net)(ps:List Str)(z:Str):Prop:=∃ e,bq n e=some z/\a9 n e.1∈ps/\a9 n (other n e).1∉ps
theorem O4{n:Net}(T:bN n){ps:List Str}{z:Str}{e:End}(he:bq n e=some z):nG n ps z↔(decide (a9 n e.1∈ps) != decide (a9 n (other n e).1∈ps))=true:=by
 have o:=nC T he
 constructor
 ·rintro ⟨x,hx,h1,h2⟩
  rcases (pJ T he).mp hx with q | q
  ·subst q;simp [h1,h2]
  ·subst q;rw [o.2.1] at h2;simp [h1,h2]
 ·intro h
  by_cases h1:a9 n e.1∈ps
  ·by_cases h2:a9 n (other n e).1∈ps
   ·simp [h1,h2] at h
   ·exact⟨e,he,h1,h2⟩
  ·by_cases h2:a9 n (other n e).1∈ps
   ·exact⟨other n e,o.1,h2,by rw [o.2.1];exact h1⟩
   ·simp [h1,h2] at h
theorem O5{n:Net}(T:bN n){x:Lk}(h:lW n x):∃ e,bq n e=some x.1/\x.2.1=a9 n e.1/\x.2.2=a9 n (other n e).1:=by
 obtain⟨a,b,hp,h1,h2⟩:=h;have ha:bq n a=some x.1:=aV.mp (by rw [hp];exact Aw ..);have hb:bq n b=some x.1:=aV.mp (by rw [hp];simp);have jg:=OT n x.1;rw [hp] at jg;have eX:b≠a:=λq=>by rw [q] at jg;simp at jg
 rcases (pJ T ha).mp hb with q | q
 ·exact absurd q eX
 ·exact⟨a,ha,h1,by rw [h2,q]⟩
theorem O6{n:Net}(T:bN n){e:End}{z:Str}(h:bq n e=some z):lW n (z,a9 n e.1,a9 n (other n e).1)\/lW n (z,a9 n (other n e).1,a9 n e.1):=by
 obtain⟨a,b,hp,eX,hh⟩:=yo T h;have ha:bq n a=some z:=aV.mp (by rw [hp];exact Aw ..);have hb:bq n b=some z:=aV.mp<|by rw [hp];simp
 rcases hh with q | q
 ·subst q;refine .inl ⟨e,b,hp,rfl,?_⟩
  rcases (pJ T h).mp hb with q | q
  ·exact absurd q.symm eX
  ·show a9 n (other n e).1=a9 n b.1;rw [q]
 ·subst q;refine .inr ⟨a,e,hp,?_,rfl⟩
  rcases (pJ T h).mp ha with q | q
  ·exact absurd q eX
  ·show a9 n (other n e).1=a9 n a.1;rw [q]
theorem F2{n:Net}(T:bN n){ps:List Str}{x:Lk}(h:lW n x):nG n ps x.1↔(decide (x.2.1∈ps) != decide (x.2.2∈ps))=true:=by
 obtain⟨e,he,h1,h2⟩:=O5 T h;rw [h1,h2];exact O4 T he
def cQ(n:Net):Str:=a9 n 0
structure cg(n:Net)(ss sd:List Str):Prop where
 cV:aR sd
 mem:∀ x∈sd,x∈n.map (·.1)
 fst:cQ n∉sd
 cut:∀ z,z∈ss↔nG n sd z
structure Tells(n:Net)(ss:List Str)(ls:List Bl):Prop where
 to:∀ e z,bq n e=some z->bY ls (a9 n e.1) (a9 n (other n e).1) (decide (z∈ss))
 O7:∀ l∈ls,∃ e z,bq n e=some z/\l=(a9 n e.1,a9 n (other n e).1,decide (z∈ss))
theorem O8{n:Net}(T:bN n){ss sd:List Str}{ls:List Bl}(t:Tells n ss ls)(hc:∀ z,z∈ss↔nG n sd z){f x:Str}{b:Bool}(w:Way ls f x b):decide (x∈sd)=(decide (f∈sd) != b):=by
 have step:∀{x y:Str} {o:Bool},(x,y,o)∈ls->o=(decide (x∈sd) != decide (y∈sd)):=λ{x y o} h=>by
  obtain⟨e,z,he,hl⟩:=t.O7 _ h;have h1:x=a9 n e.1:=CW (·.1) hl;have h2:y=a9 n (other n e).1:=CW (·.2.1) hl;have h3:o=decide (z∈ss):=CW (·.2.2) hl;rw [h1,h2,h3,Cg,CK,hc z];exact O4 T he
 induction w with
 | here=>simp
 | @there x y b o w h ih=>
  rw [step h,ih];cases decide (f∈sd) <;> cases b <;> cases decide (y∈sd) <;> rfl
 | @back x y b o w h ih=>
  rw [step h,ih];cases decide (f∈sd) <;> cases b <;> cases decide (y∈sd) <;> rfl
theorem O9{n:Net}(T:bN n){ss sd:List Str}{ls:List Bl}(t:Tells n ss ls)(h:cg n ss sd){x:Str}{b:Bool}(w:Way ls (cQ n) x b):decide (x∈sd)=b:=by
 rw [O8 T t h.cut w,BR h.fst];simp
theorem F3{n:Net}{i:Nat}(h:i < n.length):a9 n i∈n.map (·.1):=by
 rw [kI h];exact Az.mpr ⟨_,Bv h,rfl⟩
theorem Zi{n:Net}(T:bN n)(h:jN n)(h0:0 < n.length){ss:List Str}{ls:List Bl}(t:Tells n ss ls):∀ x∈n.map (·.1),∃ b,Way ls (cQ n) x b:=by
 intro x hx;obtain⟨r,hr,rfl⟩:=Az.mp hx;refine h (λx=>∃ b,Way ls (cQ n) x b) ⟨n[0],Bv h0,false,?_⟩ (λr hr s hs z zr zs ⟨b,w⟩=>?_) r hr
 ·have:cQ n=n[0].1:=kI h0;rw [<- this];exact .here
 ·obtain⟨i,hi,rfl⟩:=Gd.mp hr;obtain⟨j,hj,rfl⟩:=Gd.mp hs;obtain⟨p,hp⟩:=Ay zr;obtain⟨q,hq⟩:=Ay zs;have h1:bq n (i,p)=some z:=by show(row n i)[p]?=_;rw [yF hi];exact hp
  have h2:bq n (j,q)=some z:=by show(row n j)[q]?=_;rw [yF hj];exact hq
  rcases (pJ T h1).mp h2 with e | e
  ·have:j=i:=CW (·.1) e;subst this;exact⟨b,w⟩
  ·have tt:=t.to _ _ h1;rw [<- e] at tt;rw [show a9 n ((i,p):End).1=n[i].1 from kI hi,show a9 n ((j,q):End).1=n[j].1 from kI hj] at tt
   rcases tt with tt | tt
   ·exact⟨_,.there w tt⟩
   ·exact⟨_,.back w tt⟩
theorem Zj{n:Net}(T:bN n){ss:List Str}{ls:List Lk}(h:∀ x,x∈ls↔lW n x):Tells n ss (ls.map λx=>(x.2.1,x.2.2,decide (x.1∈ss))):=by
 refine⟨λe z he=>?_,λl hl=>?_⟩
 ·rcases O6 T he with q | q
  ·exact .inl<|Az.mpr ⟨_,(h _).mpr q,rfl⟩
  ·exact .inr<|Az.mpr ⟨_,(h _).mpr q,rfl⟩
 ·obtain⟨x,hx,q⟩:=Az.mp hl;obtain⟨e,he,h1,h2⟩:=O5 T<|(h x).mp hx;exact⟨e,x.1,he,by rw [<- q,h1,h2]⟩
theorem Zk{n:Net}(T:bN n){ss sd:List Str}{ls:List Bl}(t:Tells n ss ls)(hs:aR sd)(hm:∀ x∈sd,x∈n.map (·.1))(hc:∀ z,z∈ss↔nG n sd z){b:Bool}(w:Way ls (cQ n) (cQ n) b)(hb:cQ n∈sd↔b=true):cg n ss sd:=by
 refine⟨hs,hm,λhf=>?_,hc⟩;have e:=O8 T t hc w;rw [hb.mp hf,BX hf] at e;cases e
theorem Zm{n:Net}(T:bN n){e:End}{z:Str}(h:bq n e=some z):(other n e).1 < n.length:=gU (nC T h).1
end Nt
namespace L2
open PySem PySem.Spec PyProof.Rows
theorem yH{X:Cx}{e tg iter:Expr}{ifs:List Expr}{scope:Scope}{pz:Pos}{gs:List Comprehension}{newAcc:Sem Value}{o0:Obj}{u0:Addr->HO}{inner:Value->Env->Sem Unit}{wi:TI}{σ:St}{H:Hp}{Q:VK}
  (gQ:∀(Q:Value->Shared->Prop) (E:Value->Shared->Prop) (s:Shared),Q (.ref s.heap.objs.size) {s with heap:=s.heap.push o0}->wpAny (model X.prog X.w) X.A newAcc Q E s) (gN:∀(H:Hp) (h:Heap),sysModules < h.objs.size->ay X.prog X.w H (h.push o0) h.objs.size (u0 h.objs.size))
  (hC:∀ acc env,Clause e 0 tg iter ifs acc env<|inner acc env) (he:eval e X.env=comprehension e scope X.env pz newAcc false (eval iter X.env) none) (nz:clausesOf e=⟨tg,iter,ifs,0⟩ :: gs)
  (sc:Scope) (N N':List Str) (n:Nat) (hi:PI X tg iter wi)
  (h:wi σ H λJ H1=>∀ D,H1 D=none->∀ cl C s₀ H₀ ex,gP (fq X N' scope cl C s₀ H₀ ex) tg ifs (inner (.ref D)<|compEnvC scope cl C X.env) J (λ_ H'=>Q (.ref D) H') (σ++List.replicate n none)<|upd H1 D<|u0 D)
  (hc:X.calm=true) (gS:X.env.scope=sc) (hN:X.N=N) (hk:lN sc scope N N'=true) (hl:N'.length=N.length+n) (hs:∀ x,foldedSetIterable iter X.env x=pure x):Ev X e σ H Q:=by
 refine⟨λpins s I=>?_⟩;subst gS hN;have ck:=cf.of hk;rw [he];refine KQ (use:=none) nz hs (C6 λx hx hf=>I.ok.has x.1<|ck.free x hx hf) ck.kind ck.names<|aI (hi pins s σ H _ I h) λv s1 h1=>aI h1 λm4 s2 h2=>?_;obtain⟨it,fp,tn,J,H2,e,I2,T,bz,f2,q⟩:=h2;subst e;refine NM gQ gN (Q:=Q) (RR:=λacc C=>compPost (model X.prog X.w) X.A X.xe none (EP X pins σ Q) acc C) hc ck hl hC I2 T bz f2 q ?_;intro D C H' s' m IX hn hC c1 c2 c3 c4 qq;exact⟨m,hn,λh' iV=>⟨.ref D,H',IX.turned (t':=s'.toks) (λb o hb e=>iV.extBut b o hb e) hC (CJ<|CJ c1) (.inr c2) c3 c4,rfl,qq⟩⟩
end L2
namespace PySem
theorem getAttr?_miss_list{prog:Program}{w:World}{A:Around}{E:Value->Shared->Prop}{s:Shared}{a:Addr}{o:Obj}{xs:Array Value}{k:Nat}{name:Str}{Q:Option Value->Shared->Prop}
  (hx:s.heap.get? a=some o) (hc:o.cls = .type "list") (iU:o.data = .seq xs k) (hd:o.dict=none) (uF:typeLookup (.type "list") name=pure none) (uG:(["__module__","__name__","__qualname__","__doc__","__annotations__"]:List Str).contains name=false) (hA:A.handled=none)
  (h:∀ h' tk e,Heap.NewExcOf s.heap h' e "AttributeError"->Q none {s with heap:=h',toks:=tk}) (hsz:name.length+100<=sizeLine:=by size_fits) :
  wpAny (model prog w) A (getAttr? (.ref a) name) Q E s:=by
 obtain⟨c,dct,dat,sl⟩:=o;simp only at hc iU hd;subst hc iU hd;obtain⟨hp,g,d,tk,os⟩:=s;have hT:∀ yj,(⟨hp,g,d,yj,os⟩:Shared).TypeIs (.ref a) "list":=λ_=>⟨_,hx,rfl⟩;have f1:=sub_AttributeError;have f3:=F.slot_list_getattribute.lookup;have f4:=F.slot_list_getattribute.bind<|.ref a;have f5:=am_list_getattr_none;unfold getAttr? getAttrBy? getAttrBy
 repeat (any_goals (first | assumption | exact hT _ | ((with_reducible show wpAny _ _ (call (Value.builtin "list.__getattribute__") _ _) _ _ _);refine QX F.slot_list_getattribute (hT _) am_entry_list_getattribute (F.args_list_getattribute_2 _ _) (meets_getattribute_miss_list a xs k sl name _ uF uG hsz) ⟨hx,hA,λh' yj e dC=>?_⟩) | wp_step))
 obtain⟨t',u',he⟩:=dC.there;show wpAny _ _ (getattributeRaised _ _ _ _ _ _ _) _ _ _;unfold getattributeRaised
 repeat (any_goals (first | assumption | wp_step))
 exact h _ _ _ dC.of
namespace F
theorem bd:entryFor table "dict.update.loop" = some Builtin.«dict.update.loop»:=entryFor_of_tree<|by kernel_rfl
theorem aH:plainId "dict.update.loop" = true:=by decide +kernel
theorem fA:typeLookup (.type "list") "keys" = pure none:=by rw [RT,NK];kernel_rfl
end F
section
variable{prog:Program}{w:World}{K:Type} [DecidableEq K] {knd:KeyKind prog w K} {A:Around} {R:Result->Shared->Prop}
def F4(knd:KeyKind prog w K)(h:Heap)(items:List Value)(gm:List<|K×Value):Prop:=
 items.length=gm.length/\∀(j:Nat) it,items[j]?=some it->∃ T key k v o n,it = .ref T/\gm[j]?=some (k,v)/\knd.is k key=true/\h.get? T=some o/\o.cls = .type "tuple"/\o.data = .seq #[key,v] n
theorem Zn(kvs:List<|K×Value)(k:K)(v:Value):(stored kvs k v).length<=kvs.length+1:=by
 unfold stored
 split
 ·rw [Ac];omega
 ·rw [Ad];simp
theorem Zo{hB:Heap}{d I l:Addr}{items:List Value}{gm:List (K×Value)}(hd:hB.objs.size<=d)(hI:hB.objs.size<=I)(F5:d≠I)(hl:hB.IsList l items.toArray)(hp:F4 knd hB items gm)(hn:items.length < sizeLine)(hh:A.handled=none) :
  ∀(k i:Nat) (s:Shared) (acc:List<|K×Value),items.length - i=k->i<=items.length->(∀ b o,hB.get? b=some o->s.heap.get? b=some o)->s.heap.IsListIter I l i->s.heap.DictOf knd d acc->acc.length<=i ->
   (∀ h' tk,(∀ b o,b≠I->b≠d->s.heap.get? b=some o->h'.get? b=some o)->h'.DictOf knd d ((gm.drop i).foldl (λa p=>stored a p.1 p.2) acc)->R (.ok<|.ret .none) {s with heap:=h',toks:=tk}) ->
   codeAny (model prog w) A (.builtin "dict.update.loop" ⟨[.ref d,.ref I,rawInt i,.none],[]⟩) R s:=by
 have nb:∀ b o,hB.get? b=some o->b≠I/\b≠d:=λb o e=>⟨Bp<|Bo (Au e) hI,Bp<|Bo (Au e) hd⟩;intro k
 induction k with
 | zero=>
  intro i s acc hk hi gn c6 hD eB hR;have t6:i=items.length:=by omega
  refine EY F.bd ?_;rw [DW F.aH _];show wpAny _ A.in1 (pyNext (.ref I) >>= _) _ _ s;have ud:s.heap.IsList l items.toArray:=let ⟨o,ho,r⟩:=hl;⟨o,gn _ _ ho,r⟩
  refine BJ (wpAny_pyNext_list_end hh c6 ud (by simp;omega) λh' eb=>?_);show wpAny _ A.in1 (Builtin.Dict.addKeywords d [] >>= _) _ _ _;refine BJ<|BP<|BP ?_;refine hR h' s.toks (λb o hb _ e=>eb b o hb e) ?_;rw [List.drop_eq_nil_of_le<|by have:=hp.1;omega];exact hD.extBut eb F5
 | succ k ih=>
  intro i s acc hk hi gn c6 hD eB hR;have aM:i < items.length:=by omega
  have hx:items[i]?=some items[i]:=Aa aM;obtain⟨T,key,kk,v,o,n,e1,e2,e3,e4,e5,e6⟩:=hp.2 i _ hx;rw [e1] at hx;refine EY F.bd ?_;rw [DW F.aH _];show wpAny _ A.in1 (pyNext (.ref I) >>= _) _ _ s;have ud:s.heap.IsList l items.toArray:=let ⟨o,ho,r⟩:=hl;⟨o,gn _ _ ho,r⟩
  refine BJ (wpAny_pyNext_list_item c6 ud (x:= .ref T) (by simpa using hx) λh' ag sb=>?_);have eT:h'.get? T=some o:=(sb.2 T (nb T o e4).1).trans<|gn _ _ e4;refine BJ<|CN<|BJ<|wpAny_tryCatch ?_;unfold Builtin.Dict.pairItems;refine BJ<|OD (T:= "tuple") ⟨o,eT,e5⟩ ?_;rw [BL<|by decide];refine BJ<|wpAny_seqItems (s:={s with heap:=h'}) eT e6<|BP ?_;show wpAny _ _ (holding [key,v]<|dictSet d key v) _ _ _;refine CN (wpAny_dictSet_pairs (knd:=knd) (s:={s with heap:=h'}) (k:=kk) e3 (hD.extBut sb.extBut F5) (λh2 D2 O'=>?_)<|by omega);refine BP ⟨GX F.aH _,?_⟩;have Pa:∀ b o,b≠I->b≠d->s.heap.get? b=some o->h2.get? b=some o:=λb o h1 h3 e=>(O'.2 b h3).trans<|(sb.2 b h1).trans e;refine ih (i+1) {s with heap:=h2,toks:=s.toks+1} (stored acc kk v) (by omega) aM (λb o e=>Pa b o (nb b o e).1 (nb b o e).2<|gn _ _ e) (ag.extBut O'.extBut<|CJ F5) D2 (by have:=Zn acc kk v;omega) λh3 tk k3 D3=>?_;refine hR h3 tk (λb o h1 jG e=>k3 b o h1 jG<|Pa b o h1 jG e) ?_;have e7:gm.drop i=(kk,v) :: gm.drop (i+1):=by
   obtain⟨hj,e8⟩:=Ab.mp e2;rw [Cc hj,e8]
  rw [e7];exact D3
theorem Zq{E:Value->Shared->Prop}{s:Shared}{Q:Value->Shared->Prop}{l:Addr}{ol:Obj}{nl:Nat}{items:List Value}{gm:List (K×Value)}(ho:s.heap.get? l=some ol)(hc:ol.cls = .type "list")(pG:ol.dict=none)(F6:ol.data = .seq items.toArray nl)(hp:F4 knd s.heap items gm)(hn:items.length < sizeLine)(hh:A.handled=none)
  (h:∀ h' tk,(∀ b o,s.heap.get? b=some o->h'.get? b=some o)->h'.DictOf knd s.heap.objs.size (gm.foldl (λa p=>stored a p.1 p.2) [])->Q (.ref s.heap.objs.size) {s with heap:=h',toks:=tk}) :
  wpAny (model prog w) A (call (.type "dict") [.ref l]) Q E s:=by
 refine callType_codes (Q₁:=λobj s₁=>obj = .ref s.heap.objs.size/\s₁={s with heap:=s.heap.push {cls:= .type "dict",data:= .dict #[]}}) F.kt_called_dict (F.kt_typeCall_dict_1 _) F.entry_dict_init (kt_code_dict_new _ ⟨rfl,rfl⟩) ?_;rintro obj s₁ ⟨rfl,rfl⟩;have gQ:(s.heap.push {cls:= .type "dict",data:= .dict #[]}).DictOf knd s.heap.objs.size []:=Heap.DictOf.new s.heap;have cY:(s.heap.push {cls:= .type "dict",data:= .dict #[]}).get? l=some ol:=Af _ ho;refine⟨gQ.typeIs,F.args_dict_init_2 _ _,?_⟩;unfold Builtin.«dict.__init__»;refine BJ ?_;unfold Builtin.Dict.selfAndRest;refine BJ<|wpAny_notOrdered_dict gQ.typeIs ?_;show wpAny _ _ (pure (s.heap.objs.size,[Value.ref l])) _ _ _;refine BP ?_;show wpAny _ _ (Builtin.Dict.updateFrom "dict.__init__" s.heap.objs.size (.ref l) [] .none) _ _ _;unfold Builtin.Dict.updateFrom;refine BJ<|OD (T:= "list") ⟨ol,cY,hc⟩ ?_;rw [BL<|by decide];refine BJ (getAttr?_miss_list cY hc F6 pG F.fA (by decide) (by exact hh) λh' tk e ne=>?_);rw [BL (show(none:Option Value).isNone=true from rfl)];have kp:∀ b o,s.heap.get? b=some o->h'.get? b=some o:=λb o e=>ne.keeps b o<|Af _ e;refine BJ<|JB ?_;have hL:h'.IsList l items.toArray:=⟨ol,kp _ _ ho,hc,nl,F6⟩;refine BJ<|MF hL ?_;refine BP ⟨GX F.aH _,?_⟩;have Pb:h'.DictOf knd s.heap.objs.size []:=let ⟨o,es,ep,ho,r⟩:=gQ;⟨o,es,ep,ne.keeps _ _ ho,r⟩
 have aM:s.heap.objs.size < h'.objs.size:=let ⟨o,es,ep,ho,r⟩:=Pb;Au ho
 refine Zo (hB:=s.heap) (d:=s.heap.objs.size) (I:=h'.objs.size) (l:=l) (Ai _) (Fr aM) (Bp aM) ⟨ol,ho,hc,nl,F6⟩ hp hn (by exact hh) _ 0 _ [] rfl (Bn _) (λb o e=>Af _<|kp b o e) ⟨_,At _ rfl,rfl,rfl⟩ (Pb.push _) (Bn _) λh2 Zr k2 D2=>?_;refine⟨rfl,h h2 Zr (λb o e=>k2 b o (Bp<|Au<|kp b o e) (Bp<|Au e)<|Af _<|kp b o e) D2⟩
end
end PySem
namespace L2
open PySem PySem.Spec PyProof.Rows
section
variable{X:Cx}{pins:List (Addr×Obj)}{σ:St}{H:Hp}{s:Shared}
theorem Zt{kvs:List (Key×V)}:∀{ps:List (Key×V)} {acc:List (Key×Value)} {rs:List (Key×Value)},KV ps acc->KV kvs rs->KV (kvs.foldl (λa p=>putK a p.1 p.2) ps) (rs.foldl (λa p=>stored a p.1 p.2) acc):=by
 induction kvs with
 | nil=>intro ps acc rs h g;cases g;exact h
 | cons p r ih=>
  intro ps acc rs h g;cases g with
  | @cons _ q _ r' hq hr=>
   obtain⟨e1,e2⟩:=hq;rw [Db,Db];refine ih ?_ hr;rw [<- e1];exact h.put p.1 e2
theorem Pg{P:Program}{w:World}{h:Heap}:∀{kvs:List (Key×V)} {ts:List Addr},ts.length=kvs.length->(∀(j:Nat) t kv,ts[j]?=some t->kvs[j]?=some kv->∃ key v o m,(dz P w).is kv.1 key=true/\RelV kv.2 v/\h.get? t=some o/\o.cls = .type "tuple"/\o.data = .seq #[key,v] m) ->
  ∃ rs:List<|Key×Value,KV kvs rs/\∀(j:Nat) t,ts[j]?=some t->∃ key k v o m,rs[j]?=some (k,v)/\(dz P w).is k key=true/\h.get? t=some o/\o.cls = .type "tuple"/\o.data = .seq #[key,v] m
 | [],ts,hl,_=>by
  have:ts=[]:=Bq.mp hl;subst this;exact⟨[],.nil,λj t h=>by simp at h⟩
 | kv :: r,[],hl,_=>by simp at hl
 | kv :: r,t :: ts,hl,hp=>by
  obtain⟨key,v,o,m,q1,q2,q3,q4,q5⟩:=hp 0 t kv rfl rfl;obtain⟨rs,hk,hr⟩:=Pg (kvs:=r) (ts:=ts) (by simpa using hl) λj t kv h1 h2=>hp (j+1) t kv (by simpa using h1) (by simpa using h2);refine⟨(kv.1,v) :: rs,.cons ⟨rfl,q2⟩ hk,λj t' ht=>?_⟩;cases j with
  | zero=>
   cases ht;exact⟨key,kv.1,v,o,m,rfl,q1,q3,q4,q5⟩
  | succ j=>
   obtain⟨key,k,v,o,m,e,z⟩:=hr j t' (by simpa using ht);exact⟨key,k,v,o,m,by simpa using e,z⟩
theorem Zu(hc:X.calm=true):fN X (.type "dict") (λxs H Q=>∃(a:Addr) (ts:List Addr) (kvs:List<|Key×V),xs=[.ref a]/\H a=some (.lst<|ts.map V.ref)/\ts.length=kvs.length/\ts.length < sizeLine/\(∀(j:Nat) t kv,ts[j]?=some t->kvs[j]?=some kv->H t=some (.tup [kV kv.1,kv.2])) /\
  ∀ d,H d=none->Q (.ref d) (upd H d<|.dK<|kvs.foldl (λa p=>putK a p.1 p.2) [])):=by
 intro pins s σ H xs us Q I r h;obtain⟨a,ts,kvs,rfl,hH,hl,hz,ht,q⟩:=h;obtain⟨u,rfl,ru⟩:=vals1 r;cases (show u=Value.ref a from ru);obtain⟨z,its,n,rv,e⟩:=(show ay X.prog X.w H s.heap a (.lst<|ts.map V.ref) from I.aC a _ hH);have nA:=rv.length;rw [Ac] at nA;have pO:∀(j:Nat) t,ts[j]?=some t->its[j]?=some (.ref t):=λj t hj=>by
  obtain⟨u,hu,ru⟩:=rv.get (i:=j) (x:= .ref t) (by rw [Ah,hj];rfl);cases (show u=Value.ref t from ru);exact hu
 have pair:∀(j:Nat) t kv,ts[j]?=some t->kvs[j]?=some kv->∃ key v o m,(dz X.prog X.w).is kv.1 key=true/\RelV kv.2 v/\s.heap.get? t=some o/\o.cls = .type "tuple"/\o.data = .seq #[key,v] m:=λj t kv h1 h2=>by
  obtain⟨z2,dH,rE,o,eo,co,m,dm⟩:=(show ay X.prog X.w H s.heap t (.tup [kV kv.1,kv.2]) from I.aC t _<|ht j t kv h1 h2);obtain⟨key,v,e3,r1,r2⟩:=rE.two;refine⟨key,v,o,m,oW r1,r2,eo,co,?_⟩;rw [dm,e3]
 obtain⟨rs,hk,hr⟩:=Pg hl pair;have pP:=hk.length;have hP:F4 (dz X.prog X.w) s.heap its rs:=by
  refine⟨by omega,λj it hj=>?_⟩;have yI:j < ts.length:=by have:=(Ab.mp hj).1;omega
  have Ph:ts[j]?=some ts[j]:=Aa yI;have e2:=pO j _ Ph;rw [hj] at e2;obtain⟨key,k,v,o,m,q1,q2,q3,q4,q5⟩:=hr j _ Ph;exact⟨ts[j],key,k,v,o,m,Option.some.inj e2,q1,q2,q3,q4,q5⟩
 refine Zq (knd:=dz X.prog X.w) e rfl rfl rfl hP (by omega) (I.ok.hd hc) λh' tk kp D=>?_;have hlen:∀(l:List<|Key×V) (a:List<|Key×V),(l.foldl (λa p=>putK a p.1 p.2) a).length<=a.length+l.length:=by
  intro l
  induction l with
  | nil=>intro a;exact Ai _
  | cons p r ih=>
   intro a;rw [Db,Av];have h1:=ih<|putK a p.1 p.2;have h2:=je a p.1 p.2;omega
 have hb:=I.big;refine⟨.ref s.heap.objs.size,_,I.laid (t':=tk) kp (Ai _) (show ay X.prog X.w _ h' _ (.dK<|kvs.foldl (λa p=>putK a p.1 p.2) []) from⟨?_,?_,_,Zt (kvs:=kvs) (ps:=[]) (acc:=[]) .nil hk,D⟩),rfl,q _<|I.aC.fresh<|Ai _⟩
 ·have:=hlen kvs [];rw [Ff] at this;omega
 ·exact beq_eq_false_iff_ne.mpr<|Di hb
end
section
variable{X:Cx}{pins:List (Addr×Obj)}{σ:St}{H:Hp}{s:Shared}{h':Heap}
theorem Inv.bA{t':Nat}{ch:List Addr}(I:Inv X pins σ H s)(hf:∀ b∈ch,b8 X pins H b)(k:∀ b o,b∉ch->s.heap.get? b=some o->h'.get? b=some o):Inv X pins σ H {s with heap:=h',toks:=t'}:=by
 have sV:∀ b u,H b=some u->b∉ch:=λb u e z=>by rw [(hf b z).1] at e;cases e
 refine I.step (g':=s.gens) (d':=s.drawn) (ch:=ch) (λb hb=>?_) (λb o _ _ hc e _=>k b o hc e) (λb o _ _ hc e _=>⟨o.slots,k b o hc e⟩) (λ_ _ _ _ n=>n)
  (λb o hc e=>⟨o,k b o hc e⟩) (λ_ _ e=>e) (λ_ _ _ e=>e) (λb ps e=>⟨#[],by rw [e];simp⟩) (λm hm=>?_) (λb u e=>?_) I.bare
 ·obtain⟨f0,f1,f2,f3,f4,f5⟩:=hf b hb;exact⟨f3,f1,f4,f5⟩
 ·obtain⟨o,es,ep,ho,r⟩:=hm;exact⟨o,es,ep,k _ o (λz=>(hf _ z).2.1 rfl) ho,r⟩
 ·refine(I.aC b u e).fe (λc v hc q=>k c v ?_ q) (λ_ q=>q) λ_ _ q=>q
  rcases hc with z | z
  ·rw [z];exact sV b u e
  ·exact sV c _ z
def yJ(K:PySem.W.Frag)(a b:Addr):It:=
  ⟨λi H => ∃ xs ys x y, ai K H a xs ∧ ai K H b ys ∧ xs[i]? = some x ∧ ys[i]? = some y,
   λi H v H'=>∃ T x y,H T=none/\v = .ref T/\H'=upd H T (.tup [x,y])/\(∀ xs,ai K H a xs->xs[i]?=some x)/\∀ ys,ai K H b ys->ys[i]?=some y,
   λi H=>∃ xs ys,ai K H a xs/\ai K H b ys/\(xs.length<=i\/ys.length<=i)⟩
def Pj(m a b:Addr)(i:Nat)(h:Heap):Prop:=
 IsZip h (m+4) (m+2) (m+3) .none/\IsPair h (m+2) (.ref m) (.ref<|m+1)/\(∃ x y,IsPair h (m+3) x y)/\h.IsListIter m a i/\h.IsListIter (m+1) b i
theorem Pk{h:Heap}{m a b:Addr}{i:Nat}{xs ys:Array Value}(z:Pj m a b i h)(ha:h.IsList a xs)(hb:h.IsList b ys):ZipApart (m+4) (m+2) (m+3) m (m+1) a b:=by
  obtain⟨z1,z2,⟨x,y,z3⟩,⟨o4,e4,c4,_⟩,⟨o5,e5,c5,_⟩⟩:=z;have cls:∀{l:Addr} {vs:Array Value} {c:Addr} {o:Obj},h.IsList l vs->h.get? c=some o->o.cls ≠ .type "list"->l≠c:=λhl hc hn e=>by
    obtain⟨ol,ug,nz,_⟩:=hl;rw [e,hc] at ug;cases ug;exact hn nz
  exact { TIz := by simp, TOz := by simp, i1z := by simp, i2z := by simp, TITO := by simp, TIi1 := by simp, TIi2 := by simp, TOi1 := by simp, TOi2 := by simp, i12 := by simp
          l1z:=cls ha z1 (by show Value.type "zip"≠Value.type "list";decide),l1TO:=cls ha z3 (by show Value.type "tuple"≠Value.type "list";decide),l1i1:=cls ha e4 (by rw [c4];decide),l1i2:=cls ha e5<|by rw [c5];decide
          l2z:=cls hb z1 (by show Value.type "zip"≠Value.type "list";decide),l2TO:=cls hb z3 (by show Value.type "tuple"≠Value.type "list";decide),l2i1:=cls hb e4 (by rw [c4];decide),l2i2:=cls hb e5 (by rw [c5];decide)}
theorem Zv{P:Program}{w:World}{K:PySem.W.Frag}{elts:List Expr}{k:Nat}{tp:Pos}(m a b:Addr):Turn P w K (.Tuple elts k tp) (yJ K a b) [m,m+1,m+2,m+3,m+4] (m+4) (Pj m a b) where
 mem:=by simp
 obj:=λi h st c hc=>by
  obtain⟨z1,z2,⟨x,y,z3⟩,⟨o4,e4,c4,d4⟩,⟨o5,e5,c5,d5⟩⟩:=st;simp only [Ar,Dd,JH] at hc
  rcases hc with rfl | rfl | rfl | rfl | rfl
  ·exact⟨_,e4,λv z=>by rw [d4] at z;cases z⟩
  ·exact⟨_,e5,λv z=>by rw [d5] at z;cases z⟩
  ·exact⟨_,z2,λv z=>by cases z⟩
  ·exact⟨_,z3,λv z=>by cases z⟩
  ·exact⟨_,z1,λv z=>by cases z⟩
 keep:=λi h h' st kp=>by
  obtain⟨z1,z2,⟨x,y,z3⟩,⟨o4,e4,r4⟩,⟨o5,e5,r5⟩⟩:=st;exact⟨kp _ (by simp) _ z1,kp _ (by simp) _ z2,⟨x,y,kp _ (by simp) _ z3⟩,⟨o4,kp _ (by simp) _ e4,r4⟩,⟨o5,kp _ (by simp) _ e5,r5⟩⟩
 item:=by
  intro X hP hw hK hc i pins s σ H E I hf st hg;subst hP hw hK;obtain⟨xs,ys,x,y,fB,yK,hx,hy⟩:=hg;obtain⟨jO,lZ,p1,pQ⟩:=I.list fB;obtain⟨dH,rE,p2,yL⟩:=I.list yK;obtain⟨u1,eC,F7⟩:=lZ.get hx;obtain⟨u2,F8,Zw⟩:=rE.get hy;have D:=Pk st p1.isList p2.isList;obtain⟨z1,z2,⟨x0,y0,z3⟩,z4,z5⟩:=id st;refine wpAny_pyNext_zip_item D z1 z2 z3 z4 z5 p1.isList p2.isList (x:=u1) (y:=u2) (by simpa using eC) (by simpa using F8) λh' a1 a2 a3 a4 a5 a6 kp=>?_;have hT:H s.heap.objs.size=none:=I.aC.fresh<|Ai _;have nT:∀ c∈[m,m+1,m+2,m+3,m+4],c≠s.heap.objs.size:=λc a7=>by
   have:∃ o,s.heap.get? c=some o:=by
    obtain⟨o4,e4,_⟩:=z4;obtain⟨o5,e5,_⟩:=z5;simp only [Ar,Dd,JH] at a7
    rcases a7 with rfl | rfl | rfl | rfl | rfl
    ·exact⟨_,e4⟩
    ·exact⟨_,e5⟩
    ·exact⟨_,z2⟩
    ·exact⟨_,z3⟩
    ·exact⟨_,z1⟩
   obtain⟨o,e⟩:=this;exact Bp<|Au e
  have I1:Inv X pins σ (upd H s.heap.objs.size<|.tup [x,y]) {s with heap:=s.heap.push {cls:= .type "tuple",data:= .seq #[u1,u2]}}:=
   I.laid (t':=s.toks) (λb o e=>Af _ e) (Ai _) (show ay X.prog X.w _ _ _ (.tup [x,y]) from⟨Z2,[u1,u2],.cons F7<|.cons Zw .nil,⟨_,At _ rfl,rfl,_,rfl⟩⟩)
  have f1:∀ c∈[m,m+1,m+2,m+3,m+4],b8 X pins (upd H s.heap.objs.size<|.tup [x,y]) c:=λc a7=>⟨by rw [ax<|nT c a7];exact(hf c a7).1,(hf c a7).2⟩;have po:∀ c o,c∉[m,m+1,m+2,m+3,m+4]->(s.heap.push {cls:= .type "tuple",data:= .seq #[u1,u2]}).get? c=some o->h'.get? c=some o:=λc o a7 e=>by
   rcases Hq e with ⟨ec,eo⟩ | e'
   ·rw [ec,eo];exact a5
   ·simp only [Ar,Dd,JH,not_or] at a7;exact kp c o a7.2.2.2.2 a7.2.2.2.1 a7.1 a7.2.1 e'
  have I2:=Inv.bA (h':=h') (t':=s.toks) I1 f1 po;refine⟨_,rfl,wpAny_letOwnedTupleGo_zip (s:={s with heap:=h'}) a1 λh2 b1 sb=>?_⟩;have Zx:IsPair h' (m+2) (.ref m) (.ref<|m+1):=kp _ _ (by simp) (by simp) (by simp) (by simp) z2;have yM:∀ c o,c∉[m+4]->h'.get? c=some o->h2.get? c=some o:=λc o a7 e=>(sb.2 c<|by simpa using a7).trans e;have I3:=Inv.bA (h':=h2) (t':=s.toks) I2 (ch:=[m+4]) (λc a7=>f1 c<|by simp at a7;simp [a7]) yM;refine⟨.ref s.heap.objs.size,_,I3,rfl,⟨_,x,y,hT,rfl,rfl,λzs hz=>by rw [I.cK hz fB];exact hx,λzs hz=>by rw [I.cK hz yK];exact hy⟩,?_,λc a7=>(f1 c a7).1⟩;have sx:∀ c o,c≠m+4->h'.get? c=some o->h2.get? c=some o:=λc o a7 e=>(sb.2 c a7).trans e;obtain⟨o3,e3,r3⟩:=a3;obtain⟨o4,e4,r4⟩:=a4;exact⟨b1,sx _ _ (by simp) Zx,⟨u1,u2,sx _ _ (by simp) a2⟩,⟨o3,sx _ _ (by simp) e3,r3⟩,⟨o4,sx _ _ (by simp) e4,r4⟩⟩
 done:=by
  intro X hP hw hK hc i pins s σ H E I hf st hg;subst hP hw hK;obtain⟨xs,ys,fB,yK,uH⟩:=hg;obtain⟨jO,lZ,p1,pQ⟩:=I.list fB;obtain⟨dH,rE,p2,yL⟩:=I.list yK;have l1:=lZ.length;have l2:=rE.length;have D:=Pk st p1.isList p2.isList;obtain⟨z1,z2,⟨x0,y0,z3⟩,z4,z5⟩:=id st;refine wpAny_pyNext_zip_end (I.ok.hd hc) D z1 z2 z3 z4 z5 p1.isList p2.isList ?_ λh' kp=>⟨rfl,I.bA (t':=s.toks) (ch:=[m,m+1,m+2,m+3,m+4]) hf λc o a7 e=>?_⟩
  ·rcases uH with h | h
   ·exact .inl<|by simp;omega
   ·exact .inr<|by simp;omega
  ·simp only [Ar,Dd,JH,not_or] at a7;exact kp c o a7.2.2.2.2 a7.2.2.2.1 a7.1 a7.2.1 e
 self:=λ_ _ _ _ _ st h=>wpAny_pyIter_zip st.1 h
end
section
variable{X:Cx}
def F9(K:PySem.W.Frag)(ta:TA):TI:=λσ H R=>ta σ H λvs H1=>∃ a b,vs=[.ref a,.ref b]/\(∃ xs,ai K H1 a xs)/\(∃ ys,ai K H1 b ys)/\R (yJ K a b) H1
theorem Pl{elts:List Expr}{k:Nat}{tp:Pos}{a b:Expr}{ta:TA}{p pos:Pos}(hg:Gl X "zip")(hm:X.mg "zip" = none)(ha:PA X [a,b] ta)(hs:starEach [a,b] X.env=[(false,eval a X.env),(false,eval b X.env)]:=by rfl)(rC:starEach [b] X.env=[(false,eval b X.env)]:=by rfl) :
  PI X (.Tuple elts k tp) (.Call (.Name "zip" p) [a,b] [] pos) (F9 X.K ta):=by
 intro pins s σ H R I h;refine Call_ (oB I hg hm boot_zip<|HF (aI (ha pos pins s σ H _ I h) λus s1 ⟨vs,H1,I1,r1,q1⟩=>?_) (by rw [hs,rC])<|by rw [rC];rfl);obtain⟨x,y,e,⟨xs,hx⟩,⟨ys,hy⟩,q⟩:=q1;subst e;obtain⟨u,v,rfl,ru,rv⟩:=r1.two;cases (show u=Value.ref x from ru);cases (show v=Value.ref y from rv);obtain⟨jO,lZ,p1,pQ⟩:=I1.list hx;obtain⟨dH,rE,p2,yL⟩:=I1.list hy;refine call_zip_2 p1.isList p2.isList λh' a1 a2 a3 a4 a5 a6 kp=>?_;refine wpAny_pyIter_zip (s:={s1 with heap:=h'}) a1 ?_;refine⟨s1.heap.objs.size+4,[s1.heap.objs.size,s1.heap.objs.size+1,s1.heap.objs.size+2,s1.heap.objs.size+3,s1.heap.objs.size+4],_,_,H1,rfl,I1.kept (t':=s1.toks) kp,Zv s1.heap.objs.size x y,⟨a1,a2,⟨_,_,a3⟩,a4,a5⟩,λb hb=>?_,q⟩;have hle:s1.heap.objs.size<=b:=by
  simp only [Ar,Dd,JH] at hb
  rcases hb with rfl | rfl | rfl | rfl | rfl <;> omega
 exact I1.gL hle<|I1.aC.fresh hle
end
def rF(elt t1 i1:Expr)(f1:List Expr)(t2 i2:Expr)(f2:List Expr)(scope:Scope)(pos:Pos)(acc:Value)(env:Env):Sem Unit:=do
 let x <- eval i2 env
 standAt i2.pos
 let x <- foldedSetIterable i2 env x
 let _ <- runOwn (.compStart (.ListComp elt [⟨t1,i1,f1,0⟩,⟨t2,i2,f2,0⟩] scope pos) 1 (<- holding [x]<|pyIter x) acc env) env
section
variable{X:Cx}{elt t1 i1 t2 i2:Expr}{f1 f2:List Expr}{scope:Scope}{pos:Pos}{σ:St}{H:Hp}{acc:Value}{env:Env}
theorem Zy:Clause (.ListComp elt [⟨t1,i1,f1,0⟩,⟨t2,i2,f2,0⟩] scope pos) 0 t1 i1 f1 acc env (rF elt t1 i1 f1 t2 i2 f2 scope pos acc env):=⟨rfl,λ_=>rfl,λ_ _ _=>rfl,λ_ _=>rfl,λ_ _ _=>rfl,λ_ _=>rfl,λit=>by
 unfold rF;simp only [bind_assoc,pure_bind];rfl⟩
theorem Zz:Clause (.ListComp elt [⟨t1,i1,f1,0⟩,⟨t2,i2,f2,0⟩] scope pos) 1 t2 i2 f2 acc env (emit elt acc env):=⟨rfl,λ_=>rfl,λ_ _ _=>rfl,λ_ _=>rfl,λ_ _ _=>rfl,λ_ _=>rfl,λ_=>rfl⟩
theorem ZA{wi:TI}{Q:St->Hp->Prop}(lP:X.xe=λ_ _=>False)(hc:X.calm=true)(hi:PI X t2 i2 wi)(h:wi σ H λJ H1=>gP X t2 f2 (emit elt acc X.env) J Q σ H1)
  (hs:∀ x,foldedSetIterable i2 X.env x=pure x:=by intro _;rfl):kE X (rF elt t1 i1 f1 t2 i2 f2 scope pos acc X.env) σ H Q:=by
 refine⟨λpins s I=>?_⟩;unfold rF;refine BJ<|aI (hi pins s σ H _ I h) λx s1 h1=>?_;refine BJ<|FT<|BJ<|HX (hs x)<|BJ<|CN<|CV h1 (λm4 s2 h2=>?_) λ_ _ e=>e;obtain⟨it,fp,tn,J,H2,e,I2,T,bz,uI,q⟩:=h2;subst e;refine BJ<|wpAny_runOwn (Q:=λ_ s'=>wpAny (model X.prog X.w) X.A (pure ()) (λ_ s'=>∃ σ' H',Inv X pins σ' H' s'/\Q σ' H') X.xe s') ?_;exact x6 lP hc Zz I2 T bz uI q λσ' H' s' I' q'=>BP ⟨σ',H',I',q'⟩
theorem ZC{wi:TI}{Q:VK}(sc:Scope)(N N':List Str)(n:Nat)(hi:PI X t1 i1 wi)
  (h:wi σ H λJ H1=>∀ D,H1 D=none->∀ cl C s₀ H₀ ex,gP (fq X N' scope cl C s₀ H₀ ex) t1 f1 (rF elt t1 i1 f1 t2 i2 f2 scope pos (.ref D)<|compEnvC scope cl C X.env) J (λ_ H'=>Q (.ref D) H') (σ++List.replicate n none)<|upd H1 D<|.lst [])
  (hc:X.calm=true:=by rfl) (gS:X.env.scope=sc:=by rfl) (hN:X.N=N:=by rfl) (hk:lN sc scope N N'=true:=by decide +kernel) (hl:N'.length=N.length+n:=by rfl)
  (hs:∀ x,foldedSetIterable i1 X.env x=pure x:=by intro _;rfl):Ev X (.ListComp elt [⟨t1,i1,f1,0⟩,⟨t2,i2,f2,0⟩] scope pos) σ H Q:=
 yH (e:= .ListComp elt [⟨t1,i1,f1,0⟩,⟨t2,i2,f2,0⟩] scope pos) (newAcc:=newList []) (o0:={cls:= .type "list",dict:=none,data:= .seq ([]:List Value).toArray}) (u0:=λ_=> .lst []) (λ_ _ _ h=>DP h<|by show(0:Nat)<=sizeLine;exact Bn _) (λ_ _ _=>⟨Bn _,[],0,.nil,At _ rfl⟩) (inner:=rF elt t1 i1 f1 t2 i2 f2 scope pos) (λ_ _=>Zy) rfl rfl sc N N' n hi h hc gS hN hk hl hs
end
section
variable{X:Cx}{pins:List (Addr×Obj)}{σ:St}{H:Hp}{s:Shared}{a:Addr}{y v:V}{u r:Value}{A:Around}{E:Value->Shared->Prop}
theorem Pn{H':Hp}{Q:Unit->Shared->Prop}(hu:A.units+1 < cLine)(I:Inv X pins σ H s)(g:b9 H a y v H')(ry:RelV y u)(rv:RelV v r)(h:∀ s',Inv X pins σ H' s'->Q () s') :
  wpAny (model X.prog X.w) A (dictSet a u r) Q E s:=by
 rcases g with ⟨kvs,k,e,ey,l,eH⟩ | ⟨kvs,k,b,e,ey,eb,l,eH⟩
 ·subst ey eH;obtain⟨z,hd,vs,rel,dd⟩:=xR I.aC e;have hz:vs.length<=sizeLine:=by rw [<- rel.length];exact z
  have hl:(putK kvs k v).length<=sizeLine:=by have:=je kvs k v;omega
  refine wpAny_dictSet_pairs (hsz:=hz) (oW ry) dd λh' kC hs=>h _ ?_;have he:∃ q,h'.get? a=some q:=let ⟨q,_,_,hq,_⟩:=kC;⟨q,hq⟩
  exact nh I (by rw [e];exact True.intro) hs he<|Ng hl hd (rel.put k rv) kC
 ·subst ey eH;cases (show u=Value.ref b from ry);obtain⟨z,hd,xs,rel,dd⟩:=Nf I.aC e;have hz:xs.length<=sizeLine:=by rw [<- Paired.length rel];exact z
  have hl:(putK kvs k v).length<=sizeLine:=by have:=je kvs k v;omega
  have room:(tupleKind<|dz X.prog X.w).room A:=by first | exact hu | exact QT hu | exact Fc (Ez _) hu
  refine wpAny_dictSet_heap (hsz:=hz) room (qX I.aC eb) dd λh' kC hs=>h _ ?_;obtain⟨q,es,ep,hq,h2,h3,h4,_,h5⟩:=kC;refine nh I (by rw [e];exact True.intro) hs ⟨q,hq⟩ ⟨hl,hd,_,(rel.put k eb rv).keeps λc ys ec=>?_,q,es,ep,hq,h2,h3,h4,h5⟩;rw [ax<|cv ec e λz=>nomatch z];exact ec
end
def l0(k v:Expr)(acc:Value)(env:Env):Sem Unit:=do
 let kv <- eval k env
 let vv <- holding [kv]<|eval v env
 match acc with
 | .ref d=>do
  standAt {k.pos with endLine:=v.pos.endLine,endCol:=v.pos.endCol}
  holding [kv,vv] (dictSet d kv vv)
 | _=>unsupported "internal:dictcomp"
def rG(k v t1 i1:Expr)(f1:List Expr)(t2 i2:Expr)(f2:List Expr)(scope:Scope)(pos:Pos)(acc:Value)(env:Env):Sem Unit:=do
 let x <- eval i2 env
 standAt i2.pos
 let x <- foldedSetIterable i2 env x
 let _ <- runOwn (.compStart (.DictComp k v [⟨t1,i1,f1,0⟩,⟨t2,i2,f2,0⟩] scope pos) 1 (<- holding [x]<|pyIter x) acc env) env
section
variable{X:Cx}{k v t1 i1 t2 i2:Expr}{f1 f2:List Expr}{scope:Scope}{pos:Pos}{σ:St}{H:Hp}{acc:Value}{env:Env}
theorem ZD:Clause (.DictComp k v [⟨t1,i1,f1,0⟩] scope pos) 0 t1 i1 f1 acc env (l0 k v acc env):=⟨rfl,λ_=>rfl,λ_ _ _=>rfl,λ_ _=>rfl,λ_ _ _=>rfl,λ_ _=>rfl,λit=>by
 unfold l0;cases acc <;> first | rfl | (simp only [bind_assoc,pure_bind];rfl)⟩
theorem ZE:Clause (.DictComp k v [⟨t1,i1,f1,0⟩,⟨t2,i2,f2,0⟩] scope pos) 0 t1 i1 f1 acc env (rG k v t1 i1 f1 t2 i2 f2 scope pos acc env):=⟨rfl,λ_=>rfl,λ_ _ _=>rfl,λ_ _=>rfl,λ_ _ _=>rfl,λ_ _=>rfl,λit=>by
 unfold rG;simp only [bind_assoc,pure_bind];rfl⟩
theorem ZF:Clause (.DictComp k v [⟨t1,i1,f1,0⟩,⟨t2,i2,f2,0⟩] scope pos) 1 t2 i2 f2 acc env (l0 k v acc env):=⟨rfl,λ_=>rfl,λ_ _ _=>rfl,λ_ _=>rfl,λ_ _ _=>rfl,λ_ _=>rfl,λit=>by
 unfold l0;cases acc <;> first | rfl | (simp only [bind_assoc,pure_bind];rfl)⟩
theorem Pq{D:Addr}{Q:St->Hp->Prop}(hu:X.A.units+1 < cLine)(h:Ev X k σ H λy H1=>Ev X v σ H1 λx H2=>∃ H3,b9 H2 D y x H3/\Q σ H3):kE X (l0 k v (.ref D) X.env) σ H Q:=by
 refine⟨λpins s I=>?_⟩;unfold l0;refine BJ<|aI (h.run pins s I) λkv s1 ⟨y,H1,I1,r1,h1⟩=>?_;refine BJ<|CN<|aI (h1.run pins s1 I1) λvv s2 ⟨x,H2,I2,r2,H3,dp,q⟩=>?_;show wpAny _ _ (standAt _ >>= λ_=>holding [kv,vv]<|dictSet D kv vv) _ _ _;exact BJ<|FT<|CN<|Pn hu I2 dp r1 r2 λs' I'=>⟨σ,H3,I',q⟩
theorem ZG{wi:TI}{Q:St->Hp->Prop}(lP:X.xe=λ_ _=>False)(hc:X.calm=true)(hi:PI X t2 i2 wi)(h:wi σ H λJ H1=>gP X t2 f2 (l0 k v acc X.env) J Q σ H1)
  (hs:∀ x,foldedSetIterable i2 X.env x=pure x:=by intro _;rfl):kE X (rG k v t1 i1 f1 t2 i2 f2 scope pos acc X.env) σ H Q:=by
 refine⟨λpins s I=>?_⟩;unfold rG;refine BJ<|aI (hi pins s σ H _ I h) λx s1 h1=>?_;refine BJ<|FT<|BJ<|HX (hs x)<|BJ<|CN<|CV h1 (λm4 s2 h2=>?_) λ_ _ e=>e;obtain⟨it,fp,tn,J,H2,e,I2,T,bz,uI,q⟩:=h2;subst e;refine BJ<|wpAny_runOwn (Q:=λ_ s'=>wpAny (model X.prog X.w) X.A (pure ()) (λ_ s'=>∃ σ' H',Inv X pins σ' H' s'/\Q σ' H') X.xe s') ?_;exact x6 lP hc ZF I2 T bz uI q λσ' H' s' I' q'=>BP ⟨σ',H',I',q'⟩
theorem Pr{wi:TI}{Q:VK}(sc:Scope)(N N':List Str)(n:Nat)(hi:PI X t1 i1 wi)
  (h:wi σ H λJ H1=>∀ D,H1 D=none->∀ cl C s₀ H₀ ex,gP (fq X N' scope cl C s₀ H₀ ex) t1 f1 (l0 k v (.ref D)<|compEnvC scope cl C X.env) J (λ_ H'=>Q (.ref D) H') (σ++List.replicate n none)<|upd H1 D<|.dT [])
  (hc:X.calm=true:=by rfl) (gS:X.env.scope=sc:=by rfl) (hN:X.N=N:=by rfl) (hk:lN sc scope N N'=true:=by decide +kernel) (hl:N'.length=N.length+n:=by rfl)
  (hs:∀ x,foldedSetIterable i1 X.env x=pure x:=by intro _;rfl):Ev X (.DictComp k v [⟨t1,i1,f1,0⟩] scope pos) σ H Q:=
 yH (e:= .DictComp k v [⟨t1,i1,f1,0⟩] scope pos) (newAcc:=newDict) (o0:={cls:= .type "dict",data:= .dict #[]}) (u0:=λ_=> .dT []) (λ_ _ _ h=>DP h) (λ_ h hb=>C5 h hb) (inner:=l0 k v) (λ_ _=>ZD) rfl rfl sc N N' n hi h hc gS hN hk hl hs
theorem ZH{wi:TI}{Q:VK}(sc:Scope)(N N':List Str)(n:Nat)(hi:PI X t1 i1 wi)
  (h:wi σ H λJ H1=>∀ D,H1 D=none->∀ cl C s₀ H₀ ex,gP (fq X N' scope cl C s₀ H₀ ex) t1 f1 (rG k v t1 i1 f1 t2 i2 f2 scope pos (.ref D)<|compEnvC scope cl C X.env) J (λ_ H'=>Q (.ref D) H') (σ++List.replicate n none)<|upd H1 D<|.dT [])
  (hc:X.calm=true:=by rfl) (gS:X.env.scope=sc:=by rfl) (hN:X.N=N:=by rfl) (hk:lN sc scope N N'=true:=by decide +kernel) (hl:N'.length=N.length+n:=by rfl)
  (hs:∀ x,foldedSetIterable i1 X.env x=pure x:=by intro _;rfl):Ev X (.DictComp k v [⟨t1,i1,f1,0⟩,⟨t2,i2,f2,0⟩] scope pos) σ H Q:=
 yH (e:= .DictComp k v [⟨t1,i1,f1,0⟩,⟨t2,i2,f2,0⟩] scope pos) (newAcc:=newDict) (o0:={cls:= .type "dict",data:= .dict #[]}) (u0:=λ_=> .dT []) (λ_ _ _ h=>DP h) (λ_ h hb=>C5 h hb) (inner:=rG k v t1 i1 f1 t2 i2 f2 scope pos) (λ_ _=>ZE) rfl rfl sc N N' n hi h hc gS hN hk hl hs
end
open bR
theorem Pu{prog:Program}{w:World}{A:Around}{E:Value->Shared->Prop}{s:Shared}{a:Addr}{zs:List Str}{z:Str}{tk:Tok}{Q:Value->Shared->Prop}(S:ak prog w s.heap a zs)(hb:zs.length+1 < 1000)
  (h:∀ h',Heap.SameBut a s.heap h'->ak prog w h' a (added zs z)->Q .none {s with heap:=h',toks:=s.toks+1}) :
  wpAny (model prog w) A (call (.builtin "set.add") [.ref a,.str z tk]) Q E s:=by
 have hT:s.TypeIs (.ref a) "set":=let ⟨o,_,_,_,ho,hx,_⟩:=S;⟨o,ho,hx.1⟩
 refine DN F.slot_set_add hT F.entry_set_add ?_<|F.args_set_add_2 _ _;unfold Builtin.«set.add» Builtin.Frozenset.oneOther;simp only [Hj,bind_assoc];unfold Builtin.Frozenset.addrOf setAdd;refine BJ<|BP ?_
 try dsimp only
 refine BJ<|BP ?_
 try dsimp only
 refine BJ ?_;refine CN ?_;refine BJ ((PySem.strKind prog w).pyHash (k:=z) (v:= .str z tk) (by simp [PySem.strKind,Value.isStrOf]) ?_);refine EF (s:={s with toks:=s.toks+1}) S hb λb h' sb S'=>?_;show wpAny _ _ (ret Value.none) _ _ _;exact BP ⟨_,rfl,h h' sb S'⟩
theorem ZI{prog:Program}{w:World}{A:Around}{E:Value->Shared->Prop}{s:Shared}{Q:Value->Shared->Prop}(k:Q (.ref s.heap.objs.size) {s with heap:=s.heap.push (gj w)}):wpAny (model prog w) A (newSet<|.type "set") Q E s:=by
 unfold newSet;refine BJ<|wp_text ?_
 dsimp only
 simp only [newObj];exact BJ<|QB<|BP k
def uJ(elt:Expr)(acc:Value)(env:Env):Sem Unit:=do let v <- eval elt env;standAt elt.pos;let _ <- call (.builtin "set.add") [acc,v]
def rH(elt t1 i1:Expr)(f1:List Expr)(t2 i2:Expr)(f2:List Expr)(scope:Scope)(pos:Pos)(acc:Value)(env:Env):Sem Unit:=do
 let x <- eval i2 env
 standAt i2.pos
 let x <- foldedSetIterable i2 env x
 let _ <- runOwn (.compStart (.SetComp elt [⟨t1,i1,f1,0⟩,⟨t2,i2,f2,0⟩] scope pos) 1 (<- holding [x]<|pyIter x) acc env) env
section
variable{X:Cx}{elt t1 i1 t2 i2:Expr}{f1 f2:List Expr}{scope:Scope}{pos:Pos}{σ:St}{H:Hp}{acc:Value}{env:Env}
theorem ZJ:Clause (.SetComp elt [⟨t1,i1,f1,0⟩,⟨t2,i2,f2,0⟩] scope pos) 0 t1 i1 f1 acc env (rH elt t1 i1 f1 t2 i2 f2 scope pos acc env):=⟨rfl,λ_=>rfl,λ_ _ _=>rfl,λ_ _=>rfl,λ_ _ _=>rfl,λ_ _=>rfl,λit=>by
 unfold rH;simp only [bind_assoc,pure_bind];rfl⟩
theorem ZK:Clause (.SetComp elt [⟨t1,i1,f1,0⟩,⟨t2,i2,f2,0⟩] scope pos) 1 t2 i2 f2 acc env (uJ elt acc env):=⟨rfl,λ_=>rfl,λ_ _ _=>rfl,λ_ _=>rfl,λ_ _ _=>rfl,λ_ _=>rfl,λit=>by
 unfold uJ
 first | rfl | (simp only [bind_assoc,pure_bind];rfl)⟩
theorem ZL{D:Addr}{Q:St->Hp->Prop} (h:Ev X elt σ H λv H1=>∃ z zs,v = .str z/\H1 D=some (aT X.prog X.w D zs)/\zs.length+1 < 1000/\Q σ (upd H1 D<|aT X.prog X.w D<|added zs z)):kE X (uJ elt (.ref D) X.env) σ H Q:=by
 refine⟨λpins s I=>?_⟩;unfold uJ;refine BJ<|aI (h.run pins s I) λv s1 ⟨x,H1,I1,r1,z,zs,e,hD,hl,q⟩=>?_;subst e;obtain⟨tk,rfl⟩:=r1;refine BJ (FT<|BJ<|Pu (I1.set hD) hl λh' sb S'=>BP ⟨σ,_,nh (t':=s1.toks+1) I1 (by rw [hD];exact True.intro) sb ?_<|rn S',q⟩);obtain⟨o,_,_,_,ho,_⟩:=S';exact⟨o,ho⟩
theorem ZM{wi:TI}{Q:St->Hp->Prop}(lP:X.xe=λ_ _=>False)(hc:X.calm=true)(hi:PI X t2 i2 wi)(h:wi σ H λJ H1=>gP X t2 f2 (uJ elt acc X.env) J Q σ H1)
  (hs:∀ x,foldedSetIterable i2 X.env x=pure x:=by intro _;rfl):kE X (rH elt t1 i1 f1 t2 i2 f2 scope pos acc X.env) σ H Q:=by
 refine⟨λpins s I=>?_⟩;unfold rH;refine BJ<|aI (hi pins s σ H _ I h) λx s1 h1=>?_;refine BJ<|FT<|BJ<|HX (hs x)<|BJ<|CN<|CV h1 (λm4 s2 h2=>?_) λ_ _ e=>e;obtain⟨it,fp,tn,J,H2,e,I2,T,bz,uI,q⟩:=h2;subst e;refine BJ<|wpAny_runOwn (Q:=λ_ s'=>wpAny (model X.prog X.w) X.A (pure ()) (λ_ s'=>∃ σ' H',Inv X pins σ' H' s'/\Q σ' H') X.xe s') ?_;exact x6 lP hc ZK I2 T bz uI q λσ' H' s' I' q'=>BP ⟨σ',H',I',q'⟩
theorem ZN{wi:TI}{Q:VK}(sc:Scope)(N N':List Str)(n:Nat)(hi:PI X t1 i1 wi)
  (h:wi σ H λJ H1=>∀ D,H1 D=none->∀ cl C s₀ H₀ ex,gP (fq X N' scope cl C s₀ H₀ ex) t1 f1 (rH elt t1 i1 f1 t2 i2 f2 scope pos (.ref D)<|compEnvC scope cl C X.env) J (λ_ H'=>Q (.ref D) H') (σ++List.replicate n none)<|upd H1 D<|aT X.prog X.w D [])
  (hc:X.calm=true:=by rfl) (gS:X.env.scope=sc:=by rfl) (hN:X.N=N:=by rfl) (hk:lN sc scope N N'=true:=by decide +kernel) (hl:N'.length=N.length+n:=by rfl)
  (hs:∀ x,foldedSetIterable i1 X.env x=pure x:=by intro _;rfl):Ev X (.SetComp elt [⟨t1,i1,f1,0⟩,⟨t2,i2,f2,0⟩] scope pos) σ H Q:=
 yH (e:= .SetComp elt [⟨t1,i1,f1,0⟩,⟨t2,i2,f2,0⟩] scope pos) (newAcc:=newSet<|.type "set") (o0:=gj X.w) (u0:=λD=>aT X.prog X.w D []) (λ_ _ _ h=>ZI h) (λ_ h _=>rn<|EV<|At _ rfl) (inner:=rH elt t1 i1 f1 t2 i2 f2 scope pos) (λ_ _=>ZJ) rfl rfl sc N N' n hi h hc gS hN hk hl hs
end
end L2
namespace L2
open PySem PySem.Builtin PySem.Builtin.Str
section
variable{X:Cx}{σ:St}{H:Hp}{Q:VK}
end
end L2
namespace PySem
def Plain(h:Heap)(d:Addr)(es:Array DictEntry)(ep:Nat):Prop:=∃ o,h.get? d=some o/\o.ExactDict/\o.data = .dict es ep
section
variable{P:Program}{w:World}{A:Around}{E:Value->Shared->Prop}{s:Shared}
theorem ZO(d:Addr)(hd:(d == sysModules)=false):MeetsIn P w (Builtin.«dict.items» ⟨[.ref d],[]⟩) (λ_ R u=>u.TypeIs (.ref d) "dict" /\
  R (.ok<|.ret<|.ref u.heap.objs.size) {u with heap:=u.heap.push {cls:= .type "dict_items",data:= .fields #[.ref d]}}):=by
 refine .of_wp λB R u ⟨hT,k⟩=>?_;unfold Builtin.«dict.items» Builtin.Dict.noArgs;refine BJ<|BJ<|wpAny_notOrdered_dict hT ?_;show wpAny _ _ (pure d) _ _ u;refine BP ?_;show wpAny _ _ (Builtin.Dict.showsAll d >>= _) _ _ u;unfold Builtin.Dict.showsAll;rw [BK<|by rw [hd];exact Ba];exact BJ<|BP<|BJ<|DP<|BP ⟨_,rfl,k⟩
theorem ZP{v d:Addr}{es:Array DictEntry}{ep:Nat}{Q:Value->Shared->Prop}(hv:s.heap.IsItemsView v d)(hm:Plain s.heap d es ep)
  (k:Q (.ref s.heap.objs.size) {s with heap:=s.heap.push {cls:= .type "dict_itemiterator",data:= .fields #[.none,.bool false,.ref d,.int 0 0,.int es.size 0,.int ep 0,.none,.none]}}) :
  wpAny (model P w) A (pyIter<|.ref v) Q E s:=by
 obtain⟨vo,e1,e2,e3⟩:=id hv;obtain⟨o,f1,f2,f3⟩:=hm;refine MK hv.typeIs F.slot_dict_items_iter<|DN F.slot_dict_items_iter hv.typeIs F.entry_dict_items_iter ?_<|F.args_dict_items_iter_1 _;unfold Builtin.«dict_items.__iter__» Builtin.Dict_items.dictOf Builtin.Dict_items.newIterator;refine BJ<|BP<|BJ<|BJ<|HY e1 e3 (x:= .ref d) rfl (BP ?_);refine BJ<|BJ<|QV f1 f3<|BJ<|RV f1 f3 ?_;have ow:Builtin.Dict_items.ownsTuple "dict_itemiterator" = true:=by decide
 simp only [ow,FN];refine DP (BP ⟨_,rfl,"dict_itemiterator",_,⟨_,At _ rfl,rfl⟩,F.slot_dict_itemiterator_next.lookup,?_⟩) ?_
 ·simpa [rawInt,Builtin.Dict_items.ownedTupleFields] using k
 ·simp only [sizeOk,Builtin.Dict_items.ownedTupleFields,Bd,Ad,Av,Ff,FZ];omega
theorem ZQ{it d:Addr}{i ep:Nat}{es:Array DictEntry}{en:DictEntry}{y z:Value}{Q:Option Value->Shared->Prop}(hit:IsItemIter s.heap it d i es.size ep y z)(hm:Plain s.heap d es ep)(hx:es[i]?=some en)
  (k : ∀ h', IsItemIterOut h' it d (i + 1) es.size ep en.key en.val s.heap.objs.size → h'.get? s.heap.objs.size = some { cls := .type "tuple", data := .seq #[en.key, en.val] } →
   (∀ b o,b≠it->s.heap.get? b=some o->h'.get? b=some o)->Q (some<|.ref s.heap.objs.size) {s with heap:=h'}):wpAny (model P w) A (pyNext<|.ref it) Q E s:=by
 obtain⟨hp,g,dr,tk,os⟩:=s;obtain⟨o,f1,f2,f3⟩:=hm;have ty:Shared.TypeIs ⟨hp,g,dr,tk,os⟩ (.ref it) "dict_itemiterator":=⟨_,hit,rfl⟩;have lt:i < es.size:=by
  rcases Dz i es.size with h | h
  ·exact h
  ·rw [Eu h] at hx;cases hx
 have ow:Builtin.Dict_items.ownsTuple "dict_itemiterator" = true:=by decide
 unfold pyNext;refine BJ<|IW<|IV (name:=Str.ofString "__next__") ty GZ<|DN GZ ty PB ?_<|NQ _;refine BJ<|BP<|BJ<|BJ ?_
 first | refine BJ (GJ ty<|BP ?_) | refine BJ<|HW ty<|BP ?_
 refine BJ<|PN hit rfl ?_;simp only [ow,FN];show wpAny _ _ (if(Value.ref d == Value.none)=true then _ else _) _ _ _;rw [BK (show ¬((Value.ref d == Value.none)=true) from Ba)];refine BJ<|BP<|BJ<|QV f1 f3 ?_;rw [BK<|by simp];refine BJ<|BP<|BJ<|RV f1 f3 ?_;rw [BK<|by simp];refine BP ?_;have ee:es[i]=en:=Option.some.inj<|(Bg lt).symm.trans hx;simp only [show ¬((i:Int) < 0) from by omega,DQ,Cm,hx];refine BJ ?_
 first | refine BJ (GJ ty<|BP ?_) | refine BJ<|HW ty<|BP ?_
 refine BJ<|MN ty ?_;show wpAny _ _ (setField (.ref it) 3 (rawInt<|(i:Int)+1) >>= _) _ _ ⟨hp,g,dr,tk,os⟩;refine BJ (JC hit (by simp) λha ea sa=>?_);replace sa:Heap.SameBut it hp ha:=sa;replace ea:IsItemIter ha it d (i+1) es.size ep y z:=by
  have e:((i+1:Nat):Int)=(i:Int)+1:=by omega
  unfold IsItemIter;rw [e]
  simpa [rawInt] using ea
 have Pw:Shared.TypeIs ⟨ha,g,dr,tk,os⟩ (.ref it) "dict_itemiterator":=⟨_,ea,rfl⟩;refine BJ<|CN<|BJ<|MN Pw<|BJ<|MN Pw ?_;show wpAny _ _ (Builtin.Dict_items.pairFromOwner (.ref it) 6 en.key en.val) _ _ ⟨ha,g,dr,tk,os⟩;unfold Builtin.Dict_items.pairFromOwner Builtin.Dict_items.ownedTupleIsFree;refine BJ<|PX ?_;have eb:IsItemIter (ha.push {cls:= .type "tuple",data:= .seq #[en.key,en.val]}) it d (i+1) es.size ep y z:=Af _ ea;have za:ha.objs.size=hp.objs.size:=sa.1;have il:it < hp.objs.size:=Au hit;have tb:(ha.push {cls:= .type "tuple",data:= .seq #[en.key,en.val]}).get? hp.objs.size=some {cls:= .type "tuple",data:= .seq #[en.key,en.val]}:=by rw [<- za];exact At _ rfl
 have kb:∀ b u,b≠it->hp.get? b=some u->(ha.push {cls:= .type "tuple",data:= .seq #[en.key,en.val]}).get? b=some u:=λb u hb e=>Af _<|sa.extBut b u hb e;rw [za];generalize ha.push {cls:= .type "tuple",data:= .seq #[en.key,en.val]}=hb at eb tb kb;refine BJ<|BJ<|HY (s:=⟨hb,g,dr,tk,os⟩) eb rfl (x:= .none) rfl (BP ?_);simp only [FN];refine BJ<|HY (s:=⟨hb,g,dr,tk,os⟩) eb rfl (x:=y) rfl (BJ<|HY (s:=⟨hb,g,dr,tk,os⟩) eb rfl (x:=z) rfl ?_);refine BJ (JC eb (by simp) λh3 e3 s3=>?_);replace s3:Heap.SameBut it hb h3:=s3;replace e3:IsItemIter h3 it d (i+1) es.size ep en.key z:=e3;refine BJ (JC e3 (by simp) λh4 e4 s4=>?_);replace s4:Heap.SameBut it h3 h4:=s4;replace e4:IsItemIter h4 it d (i+1) es.size ep en.key en.val:=e4;refine BJ (JC e4 (by simp) λh5 e5 s5=>?_);replace s5:Heap.SameBut it h4 h5:=s5;replace e5:IsItemIterOut h5 it d (i+1) es.size ep en.key en.val hp.objs.size:=e5;refine BJ (JC e5 (by simp) λh6 e6 s6=>?_);replace s6:Heap.SameBut it h5 h6:=s6;replace e6:IsItemIterOut h6 it d (i+1) es.size ep en.key en.val hp.objs.size:=e6;have all:=((s3.trans s4).trans s5).trans s6;exact BJ<|wpAny_letGo<|BP<|BP ⟨_,rfl,BP<|k h6 e6 (all.extBut _ _ (Di il) tb) λb u kJ e=>all.extBut b u kJ<|kb b u kJ e⟩
theorem ZR{it d:Addr}{i ep:Nat}{es:Array DictEntry}{y z:Value}{Q:Option Value->Shared->Prop}(hh:A.handled=none)(hit:IsItemIter s.heap it d i es.size ep y z)(hm:Plain s.heap d es ep)(hx:es.size<=i)
  (k:∀ h',Heap.ExtBut it s.heap h'->Q none {s with heap:=h'}):wpAny (model P w) A (pyNext<|.ref it) Q E s:=by
 obtain⟨o,f1,f2,f3⟩:=hm;have ty:s.TypeIs (.ref it) "dict_itemiterator":=⟨_,hit,rfl⟩;have ow:Builtin.Dict_items.ownsTuple "dict_itemiterator" = true:=by decide
 unfold pyNext;refine BJ<|IW<|IV (name:=Str.ofString "__next__") ty GZ<|DN GZ ty PB ?_<|NQ _;refine BJ<|BP<|BJ<|BJ ?_
 first | refine BJ (GJ ty<|BP ?_) | refine BJ<|HW ty<|BP ?_
 refine BJ<|PN hit rfl ?_;simp only [ow,FN];show wpAny _ _ (if(Value.ref d == Value.none)=true then _ else _) _ _ s;rw [BK (show ¬((Value.ref d == Value.none)=true) from Ba)];refine BJ<|BP<|BJ<|QV f1 f3 ?_;rw [BK<|by simp];refine BJ<|BP<|BJ<|RV f1 f3 ?_;rw [BK<|by simp];refine BP ?_;simp only [show ¬((i:Int) < 0) from by omega,DQ,Cm,Eu hx];refine BJ ?_
 first | refine BJ (GJ ty<|BP ?_) | refine BJ<|HW ty<|BP ?_
 show wpAny _ _ (setField (.ref it) 2 .none >>= _) _ _ s;refine BJ (DX hit rfl (by simp) ?_);show wpAny _ _ (newExc (.type "StopIteration") [] >>= _) _ _ _;refine BJ ?_;simp only [newExc,newTuple];refine BJ (DP ?_<|by size_fits);refine BJ (m:=firstArgMember _ _) (HX (a:=Value.none) (by first | rfl | (simp only [firstArgMember];rfl)) ?_);refine DP ?_ (by size_fits);simp only [raiseNew];refine BJ<|wpAny_handled ?_;rw [show A.in1.handled=none from hh];refine BJ<|BP<|wpAny_throw ?_;exact BJ<|JQ (T:= "StopIteration") (b:=true) ⟨_,At _ rfl,rfl⟩ isSubtype_stop<|BP<|k _<|((CT ..).extBut.push _).push _
theorem ZS:entryFor table "dict_itemiterator.__iter__" = some Builtin.«dict_keyiterator.__iter__»:=
 PL (id':= "dict_keyiterator.__iter__") (by kernel_rfl) rfl (by decide +kernel) (by kernel_rfl)
theorem ZT{it d:Addr}{i n ep:Nat}{y z:Value}{Q:Value->Shared->Prop}(e:IsItemIter s.heap it d i n ep y z)(h:Q (.ref it) s):wpAny (model P w) A (pyIter<|.ref it) Q E s:=by
 have ty:s.TypeIs (.ref it) "dict_itemiterator":=⟨_,e,rfl⟩;refine MK ty PJ<|DN PJ ty ZS ?_<|F.args_dict_itemiterator_iter_1 _;show wpAny _ _ (ret<|.ref it) _ _ s;exact BP ⟨_,rfl,"dict_itemiterator",_,ty,F.slot_dict_itemiterator_next.lookup,h⟩
end
end PySem
namespace L2
open PySem PySem.Spec PyProof.Rows
section
variable{X:Cx}{pins:List (Addr×Obj)}{σ:St}{H:Hp}{s:Shared}
theorem ZU{d:Addr}{kvs:List (List Key×V)}(I:Inv X pins σ H s)(e:H d=some (.dT kvs)):∃ o,s.heap.get? d=some o/\Inv X pins σ (upd H d<|.bI o<|.dT kvs) s:=by
 obtain⟨z,hd,xs,r,o,es,ep,ho,h2,h3,h4,h5⟩:=(show ay X.prog X.w H s.heap d (.dT kvs) from I.aC d _ e);refine⟨o,ho,?_⟩;have r':KT (upd H d<|.bI o<|.dT kvs) kvs xs:=KT.keeps r λb ys q=>by
  rw [ax<|cv q e λz=>nomatch z];exact q
 exact nh (t':=s.toks) I (by rw [e];exact True.intro) ⟨rfl,λ_ _=>rfl⟩ ⟨o,ho⟩ (show ay X.prog X.w _ s.heap d (.bI o<|.dT kvs) from⟨ho,z,hd,xs,r',o,es,ep,ho,h2,h3,h4,h5⟩)
def Itm(d:Addr)(o:Obj)(kvs:List<|List Key×V):It:=
  ⟨λi H => H d = some (.bI o<|.dT kvs) ∧ i < kvs.length,
   λi H v H'=>∃ T b k x,kvs[i]?=some (k,x)/\H b=some (.tup<|k.map kV)/\H T=none/\v = .ref T/\H'=upd H T (.tup [.ref b,x]),
   λi H=>H d=some (.bI o<|.dT kvs)/\kvs.length<=i⟩
theorem Px{P:Program}{w:World}{h:Heap}{d:Addr}{o:Obj}{es:Array DictEntry}{ep:Nat}{kvs:List (List Key×V)}(aC:b7 P w H h)(e:H d=some (.bI o<|.dT kvs))(hd:o.data = .dict es ep) :
  Plain h d es ep/\∃ xs,KT H kvs xs/\es.toList=xs.map (entryOfKey<|tupleKind<|dz P w):=by
 obtain⟨ho,z,_,xs,r,o',fj,mX,cY,h2,h3,h4,h5⟩:=(show ay P w H h d (.bI o<|.dT kvs) from aC d _ e);have:o=o':=Option.some.inj<|ho.symm.trans cY;subst this;rw [hd] at h3
 injection h3 with e1 e2
 subst e1;subst e2;exact⟨⟨o,ho,h2,hd⟩,xs,r,h4⟩
theorem kt_len{H:Hp}:∀{kvs:List (List Key×V)} {xs:List (List Key×Addr×Value)},KT H kvs xs->kvs.length=xs.length:=λr=>by
 induction r with
 | nil=>rfl
 | cons _ _ ih=>simp only [Av,ih]
theorem kt_at{H:Hp}:∀{kvs:List (List Key×V)} {xs:List (List Key×Addr×Value)},KT H kvs xs->∀{i:Nat} {k:List Key} {x:V},kvs[i]?=some (k,x)->∃ b u,xs[i]?=some (k,b,u)/\H b=some (.tup<|k.map kV)/\RelV x u:=λr=>by
 induction r with
 | nil=>intro i k x h;simp at h
 | @cons p q ps qs hq t ih=>
  intro i k x h;cases i with
  | zero=>
   simp only [List.getElem?_cons_zero,Option.some.injEq] at h;subst h;obtain⟨a,b,c⟩:=q;obtain⟨q1,q2,q3⟩:=hq;have q1:k=a:=q1;subst q1;exact⟨b,c,rfl,q2,q3⟩
  | succ i=>exact ih<|by simpa using h
theorem ZV{P:Program}{w:World}{K:PySem.W.Frag}{elts:List Expr}{kk:Nat}{tp:Pos}(d it:Addr)(o:Obj)(es:Array DictEntry)(ep:Nat)(kvs:List<|List Key×V)(pG:o.data = .dict es ep) :
  Turn P w K (.Tuple elts kk tp) (Itm d o kvs) [it] it (λi h=>∃ y z,IsItemIter h it d i es.size ep y z) where
 mem:=by simp
 obj:=λi h st b hb=>by
  have e:b=it:=by simpa using hb
  subst e;obtain⟨y,z,e⟩:=st;exact⟨_,e,λv z=>by cases z⟩
 keep:=λi h h' st k=>let ⟨y,z,e⟩:=st;⟨y,z,k it (by simp) _ e⟩
 item:=by
  intro X hP hw hK hc i pins s σ H E I hf st hg;subst hP hw hK;obtain⟨f0,f1,f2,f3,f4,f5⟩:=hf it (by simp);obtain⟨hd,hi⟩:=hg;obtain⟨pd,xs,r,uK⟩:=Px I.aC hd pG;obtain⟨y,z,st⟩:=st;have hx:kvs[i]?=some (kvs[i].1,kvs[i].2):=Aa hi;obtain⟨b,u,fB,hb,ru⟩:=kt_at r hx;have yN:=entry_at uK i;rw [fB] at yN;refine ZQ st pd (en:=entryOfKey (tupleKind<|dz X.prog X.w) (kvs[i].1,b,u)) yN λh' q1 q2 kp=>?_;have hT:H s.heap.objs.size=none:=I.aC.fresh<|Ai _;have nT:it≠s.heap.objs.size:=Bp<|Au st;have I1:Inv X pins σ (upd H s.heap.objs.size<|.tup [.ref b,kvs[i].2]) {s with heap:=s.heap.push {cls:= .type "tuple",data:= .seq #[Value.ref b,u]}}:=
   I.laid (t':=s.toks) (λb o e=>Af _ e) (Ai _) (show ay X.prog X.w _ _ _ (.tup [.ref b,kvs[i].2]) from⟨Z2,[Value.ref b,u],.cons rfl (.cons ru .nil),⟨_,At _ rfl,rfl,_,rfl⟩⟩)
  have fp:∀ c∈[it],b8 X pins (upd H s.heap.objs.size<|.tup [.ref b,kvs[i].2]) c:=λc a7=>by
   have e:c=it:=by simpa using a7
   subst e;exact⟨by rw [ax nT];exact f0,f1,f2,f3,f4,f5⟩
  have I2:=Inv.bA (h':=h') (t':=s.toks) I1 fp λc v a7 e=>by
   have nc:c≠it:=by simpa using a7
   rcases Hq e with ⟨ec,eo⟩ | e'
   ·rw [ec,eo];exact q2
   ·exact kp c v nc e'
  refine⟨_,rfl,wpAny_letOwnedTupleGo_items (s:={s with heap:=h'}) q1 λh2 b1 sb=>?_⟩;have I3:=Inv.bA (h':=h2) (t':=s.toks) I2 fp λc v a7 e=>(sb.2 c<|by simpa using a7).trans e;exact⟨.ref s.heap.objs.size,_,I3,rfl,⟨_,b,kvs[i].1,kvs[i].2,hx,hb,hT,rfl,rfl⟩,⟨_,_,b1⟩,λc a7=>(fp c a7).1⟩
 done:=by
  intro X hP hw hK hc i pins s σ H E I hf st hg;subst hP hw hK;obtain⟨hd,hi⟩:=hg;obtain⟨pd,xs,r,uK⟩:=Px I.aC hd pG;obtain⟨y,z,st⟩:=st;have hl:es.size=kvs.length:=by rw [kt_len r,<- Al,uK,Ac]
  exact ZR (I.ok.hd hc) st pd (by omega) λh' eb=>⟨rfl,I.bA (t':=s.toks) hf λc v a7 e=>eb c v (by simpa using a7) e⟩
 self:=λ_ _ _ _ _ st h=>let ⟨y,z,e⟩:=st;ZT e h
end
section
variable{X:Cx}
def ZW(to:TE):TI:=λσ H R=>to σ H λx H1=>∃ d kvs,x = .ref d/\H1 d=some (.dT kvs)/\∀ o,R (Itm d o kvs)<|upd H1 d<|.bI o<|.dT kvs
theorem Py{elts:List Expr}{kk:Nat}{tp ap cp:Pos}{l:Expr}{to:TE}(ho:PE X l to)(bP:attributeBase l "items" X.env (eval l X.env)=eval l X.env:=by rfl)(hline:(ap.endLine == cp.line)=true:=by rfl) :
  PI X (.Tuple elts kk tp) (.Call (.Attribute l "items" ap) [] [] cp) (ZW to):=by
 intro pins s σ H R I h;refine wpAny_Call_method0_late bP hline<|aI (ho pins s σ H _ I h) λv s1 ⟨x,H1,I1,r1,q1⟩=>?_;obtain⟨d,kvs,e,hd,q⟩:=q1;subst e;cases (show v=Value.ref d from r1);obtain⟨_,ZX,_,_,o,es,ep,e1,e2,e3,_⟩:=(show ay X.prog X.w H1 s1.heap d (.dT kvs) from I1.aC d _ hd);have ty:s1.TypeIs (.ref d) "dict":=⟨o,e1,e2.1⟩;refine⟨"dict","dict.items",F.plainAttrs_dict,F.slot_dict_items,F.type_dict_items,ty,λa ea=>?_,JF rfl (PySem.evalArgs_none ?_)⟩
 ·cases ea;exact⟨o,e1,e2.2.1⟩
 refine call_meetsIn F.slot_dict_items ty F.entry_dict_items (F.args_dict_items_1 _) (ZO d ZX) ⟨ty,?_⟩;obtain⟨o',eo,I2⟩:=ZU I1 hd;have:o=o':=Option.some.inj<|e1.symm.trans eo;subst this;have I3:=I2.kept (t':=s1.toks) (h':=s1.heap.push {cls:= .type "dict_items",data:= .fields #[.ref d]}) λb u e=>Af _ e;refine ZP (s:={s1 with heap:=s1.heap.push {cls:= .type "dict_items",data:= .fields #[.ref d]}}) (d:=d) (es:=es) (ep:=ep) ⟨_,At _ rfl,rfl,rfl⟩ ⟨o,Af _ e1,e2,e3⟩ ?_;refine⟨_,[(s1.heap.push {cls:= .type "dict_items",data:= .fields #[.ref d]}).objs.size],_,_,_,rfl,I3.kept (t':=s1.toks) λb u e=>Af _ e,ZV d _ o es ep kvs e3,⟨_,_,At _ rfl⟩,λb hb=>?_,q o⟩;have e:b=(s1.heap.push {cls:= .type "dict_items",data:= .fields #[.ref d]}).objs.size:=by simpa using hb
 subst e;exact I3.gL (Ai _)<|I3.aC.fresh<|Ai _
end
section
variable{X:Cx}{tg:Expr}{ifs:List Expr}{inner:Sem Unit}{σ:St}{H:Hp}{d:Addr}{o:Obj}{kvs:List (List Key×V)}{after:St->Hp->Prop}
theorem ZY(Pv:Nat->St->Hp->Prop)(h0:Pv 0 σ H)(hl:∀ i σ' H',i<=kvs.length->Pv i σ' H'->H' d=some (.bI o<|.dT kvs))
  (hs:∀ i k x b T σ' H',kvs[i]?=some (k,x)->Pv i σ' H'->H' b=some (.tup<|k.map kV)->H' T=none->Eg X tg (.ref T) σ' (upd H' T<|.tup [.ref b,x]) λσ2 H3=>Ei X ifs σ2 H3 λc H4=>if c=true then kE X inner σ2 H4 (Pv<|i+1) else Pv (i+1) σ2 H4)
  (hd:∀ σ' H',Pv kvs.length σ' H'->after σ' H'):gP X tg ifs inner (Itm d o kvs) after σ H:=by
 refine⟨λi m σ' H'=>m=kvs.length - i/\i<=kvs.length/\Pv i σ' H',⟨_,rfl,Bn _,h0⟩,?_⟩;rintro i m σ' H' ⟨rfl,hi,p⟩;have q:=hl i σ' H' hi p
 by_cases aM:i < kvs.length
 ·refine .inr ⟨⟨q,aM⟩,Pv<|i+1,λσ' H' p'=>⟨kvs.length - (i+1),by omega,rfl,aM,p'⟩,λv H2 y=>?_⟩;obtain⟨T,b,k,x,hx,hb,hT,rfl,rfl⟩:=y;exact hs i k x b T σ' _ hx p hb hT
 ·have e:i=kvs.length:=by omega
  subst e;exact .inl ⟨⟨q,Ai _⟩,hd σ' H' p⟩
end
end L2
namespace N4
open PySem L2 Nt bS
section
variable{P:Program}{w:World}{K:PySem.W.Frag}{mg:Str->Option Value}{base:Heap}
theorem kK{H H':Hp}{l:Addr}(s:ah H H')(h:H' l=none):H l=none:=by
 cases e:H l with
 | none=>rfl
 | some v=>rw [s _ _ e] at h;cases h
end
abbrev Tn(p:Str)(j:Int):HO:= .tup [.str p,.int j]
def uL:Sp:=λvs H Q _=>∃(t l:Addr) (p:Str) (zs:List Str),vs=[.ref t]/\H t=some (.tup [.str p,.ref l])/\H l=some (Ls zs)/\zs.length<=1000 /\
 ∀(L:Addr) (ts:List Addr) (H':Hp),ah H H'->H L=none->H' L=some (.lst<|ts.map V.ref)->ts.length=zs.length->(∀(j:Nat) t,ts[j]?=some t->H' t=some (Tn p j))->Q (.ref L) H'
section
variable{X:Cx}{elt tg:Expr}{ifs:List Expr}{scope:Scope}{σ:St}{H:Hp}{N':List Str}{A:Addr}{after:Hp->Prop}
theorem ZZ{lo:Int}{n:Nat}(Pv:Nat->St->Hp->Prop)(h0:Pv 0 σ H)
  (hs : ∀ i σ' H', i < n → Pv i σ' H' → tX X N' scope tg (.int<|lo + i) σ' H' λσ2 H3 => tY X N' scope ifs σ2 H3 λb H4 =>
   if b=true then tW X N' scope elt σ2 H4 λv H5=>∃ ys,H5 A=some (.lst ys)/\ys.length < sizeLine/\Pv (i+1) σ2 (upd H5 A<|.lst<|ys++[v]) else Pv (i+1) σ2 H4)
  (hd:∀ σ' H',Pv n σ' H'->after H'):kD X N' scope tg ifs elt (qS lo n) A after σ H:=by
 refine⟨λi m σ' H'=>m=n - i/\i<=n/\Pv i σ' H',⟨_,rfl,Bn _,h0⟩,?_⟩;rintro i m σ' H' ⟨rfl,hi,p⟩
 by_cases aM:i < n
 ·refine .inr ⟨aM,Pv<|i+1,λσ' H' p'=>⟨n - (i+1),by omega,rfl,aM,p'⟩,λx H2 y=>?_⟩;obtain⟨e,y⟩:=y;subst e y;exact hs i σ' _ aM p
 ·have e:i=n:=by omega
  subst e;exact .inl ⟨Ai _,hd σ' H' p⟩
end
section
variable{P:Program}{w:World}{K:PySem.W.Frag}{mg:Str->Option Value}{base:Heap}
abbrev Pz:List Str:=["row","point","ties"]
abbrev PD:List Str:=["row","point","ties","place"]
theorem jP:aj Pz ["row"] (aP yr):=cU
theorem Z4:PD.Nodup:=by decide +kernel
theorem Z5{f:Addr}{fd:FuncData}(F:bw K "ends_round" "ends_round" yr f fd)(T:Txt mg):aB P w K mg base bE 1 f fd ["row"] uL:=by
 refine F.gc jP λb0 H vs Q E hr h=>?_;obtain⟨t,l,p,zs,rfl,ht,hl,hz,q⟩:=h;have nd:=jP.nd;refine xX<|ae 0<|jj rfl (bt.of ht) (aZ 1 nd<|aZ 2 nd ?_);refine cy<|jf (aP yr) Pz PD 1 (Mu rfl T.range (ta:=tV _ _) iT (oY _ [] _ rfl)) ?_;show Ea _ _ _ _ _;refine ao (dh jA T.len JG<|ao<|ae 2<|aE ⟨l,_,rfl,.inl<|ai.of hl,aE ⟨_,rfl,by omega,by rw [Ac];omega,λD hD=>?_⟩⟩);rw [Ac,Cm];refine ZZ (λi σ' H'=>(∃ v,σ'=[some<|.ref t,some<|.str p,some<|.ref l]++[v])/\∃ ts:List Addr,ts.length=i/\H' D=some (.lst<|ts.map V.ref)/\(∀(j:Nat) t,ts[j]?=some t->H' t=some (Tn p j))/\ah H H')
  ⟨⟨none,rfl⟩,[],rfl,az,λj t h=>by simp at h,aQ hD _⟩ ?_ ?_
 ·rintro i σ' H' hi ⟨⟨v,rfl⟩,ts,rk,eD,F',sm⟩;rw [Gu];intro cl C' s₀ H₀ ex;refine aZ 3 Z4 ?_;intro cl C' s₀ H₀ ex;refine gR ?_;rw [BL rfl];intro cl C' s₀ H₀ ex;refine iy<|ao<|ae 1<|ao<|ae 3<|aE ⟨Z2,λu hu=>?_⟩;have nu:u≠D:=λe=>by rw [e,eD] at hu;cases hu
  have Z6:=kK sm hu;refine⟨ts.map V.ref,by rw [ax<|CJ nu];exact eD,by rw [Ac];exact cj (by omega),⟨_,rfl⟩,ts++[u],by rw [Ad,rk];rfl,by rw [az,Ak];rfl,?_,?_⟩
  ·intro j t' gY
   by_cases hj:j < ts.length
   ·rw [Aj hj] at gY;have e:=F' j t' gY;have n1:t'≠D:=cv e eD λz=>nomatch z;rw [ax n1,ax<|b4 e hu];exact e
   ·rw [Am<|by omega] at gY;have eG:j - ts.length=0:=by
     have:=(Ab.mp gY).1;simp at this;omega
    rw [eG] at gY;cases gY;have:j=i:=by omega
    rw [this,ax nu,az]
  ·intro c o hc;rw [ax<|b4 hc hD,ax<|b4 hc Z6];exact sm _ _ hc
 ·rintro σ' H' ⟨_,ts,rk,eD,F',sm⟩;exact q D ts H' sm hD eD rk F'
def gZ(g:Int->Int):Sp:=λvs H Q _=>∃(e:Addr) (p:Str) (j m:Int),vs=[.ref e,.int m]/\H e=some (Tn p j)/\0 < m/\∀ t H',ah H H'->H' t=some (Tn p<|g j % m)->Q (.ref t) H'
abbrev PF:List Str:=["end","many","point","place"]
theorem jQ:aj PF ["end","many"] (aP Fl):=cU
theorem gq:aj PF ["end","many"] (aP FA):=cU
theorem Z7{f:Addr}{fd:FuncData}(F:bw K "turned_left" "turned_left" Fl f fd)(T:Txt mg):aB P w K mg base bE 1 f fd ["end","many"] (gZ λj=>j+1):=by
 refine F.gc jQ λb0 H vs Q E hr h=>?_;obtain⟨e,p,j,m,rfl,he,hm,q⟩:=h;have nd:=jQ.nd;refine xX<|ae 0<|jj rfl (bt.of he) (aZ 2 nd<|aZ 3 nd ?_);refine cy (iy<|ao<|ae 2<|ao<|aY eW<|aY gF<|ae 3<|aK ⟨_,_,rfl,rfl,ae 1 ⟨_,_,rfl,rfl,(by show 0 < m;exact hm),aE ⟨Z2,λt ht=>?_⟩⟩⟩);exact q t _ (aQ ht _) az
theorem Z8{f:Addr}{fd:FuncData}(F:bw K "turned_right" "turned_right" FA f fd)(T:Txt mg):aB P w K mg base bE 1 f fd ["end","many"] (gZ λj=>j - 1):=by
 refine F.gc gq λb0 H vs Q E hr h=>?_;obtain⟨e,p,j,m,rfl,he,hm,q⟩:=h;have nd:=gq.nd;refine xX<|ae 0<|jj rfl (bt.of he) (aZ 2 nd<|aZ 3 nd ?_);refine cy (iy<|ao<|ae 2<|ao<|aY eW<|aY Vz<|ae 3<|aK ⟨_,_,rfl,rfl,ae 1 ⟨_,_,rfl,rfl,(by show 0 < m;exact hm),aE ⟨Z2,λt ht=>?_⟩⟩⟩);exact q t _ (aQ ht _) az
theorem Z9{kvs:List (Key×V)}:∀{acc:List (Key×V)},((acc++kvs).map (·.1)).Nodup->kvs.foldl (λa p=>putK a p.1 p.2) acc=acc++kvs:=by
 induction kvs with
 | nil=>intro acc _;simp
 | cons p r ih=>
  intro acc h;have hn:aA acc p.1=none:=by
   cases e:aA acc p.1 with
   | none=>rfl
   | some v=>
    have hm:=Ni e;rw [Ak,Bt] at h;exact absurd rfl ((Dq.mp h).2.2 _ hm _ Aw)
  rw [Db,Wp _ hn,ih (by rw [Bf];exact h),Bf];rfl
theorem PH:∀{kvs:List (Key×V)} {i:Nat} {p:Key×V},(kvs.map (·.1)).Nodup->kvs[i]?=some p->aA kvs p.1=some p.2
 | [],_,_,_,h=>by simp at h
 | q :: r,0,p,_,h=>by
  cases h;exact gG rfl
 | q :: r,i+1,p,hn,h=>by
  rw [Bt,Cr] at hn;have hm:r[i]?=some p:=by simpa using h
  rw [gH λe=>hn.1<|by rw [e];exact Az.mpr ⟨p,Ag hm,rfl⟩];exact PH hn.2 hm
def g8(n:Net)(as:List<|Addr×Addr):List (Key×V):=List.zipWith (λr a=>(Sum.inr r.1,V.ref a.2)) n as
theorem PQ:∀(n:Net) (as:List<|Addr×Addr),as.length=n.length->(g8 n as).map (·.1)=(n.map (·.1)).map Sum.inr
 | [],[],_=>rfl
 | [],_ :: _,h=>by simp at h
 | _ :: _,[],h=>by simp at h
 | r :: n,a :: as,h=>by
  have:=PQ n as (by simpa using h);show Sum.inr r.1 :: (g8 n as).map (·.1)=_;rw [this];rfl
theorem PR{n:Net}{as:List (Addr×Addr)}{i:Nat}{r:Str×List Str}{a:Addr×Addr}(h1:n[i]?=some r)(h2:as[i]?=some a):(g8 n as)[i]?=some (Sum.inr r.1,.ref a.2):=by
 unfold g8;rw [List.getElem?_zipWith,h1,h2]
theorem Z'{l:List Str}(h:l.Nodup):(l.map (Sum.inr:Str->Key)).Nodup:=by
 rw [Bj,Cw];exact(Bj.mp h).imp λh q=>h<|Sum.inr.inj q
end
def nameAt(n:Net)(r:Nat):Str:=((n[r]?).map (·.1)).getD ⟨#[]⟩
def key(n:Net)(e:Nt.End):List Key:=[Sum.inr<|nameAt n e.1,Sum.inl (e.2:Int)]
abbrev TN(n:Net)(e:Nt.End):HO:=Tn (nameAt n e.1) (e.2:Int)
theorem rJ{n:Net}{r:Nat}(h:r < n.length):nameAt n r=n[r].1:=by unfold nameAt;rw [Aa h];rfl
theorem rK{n:Net}(hN:(n.map (·.1)).Nodup){a b:Nt.End}(ha:a.1 < n.length)(hb:b.1 < n.length)(h:key n a=key n b):a=b:=by
 unfold key at h
 injection h with h1 h2
 injection h2 with h2 _
 have e1:=Sum.inr.inj h1;have e2:=Sum.inl.inj h2;rw [rJ ha,rJ hb] at e1;have e3:a.1=b.1:=by
  have la:a.1 < (n.map (·.1)).length:=by rw [Ac];exact ha
  have lb:b.1 < (n.map (·.1)).length:=by rw [Ac];exact hb
  refine(RB (i:=a.1) (j:=b.1) (h₀:=la) (h₁:=lb) hN).mp ?_;rw [Fo,Fo];exact e1
 exact HD e3<|by omega
theorem uM{n:Net}{r p:Nat}{z:Str}(hr:r < n.length)(hz:(row n r)[p]?=some z):∃ rest,bo n=(bo (n.take r)++bG r ((row n r).take p) 0)++(z,(r,p)) :: rest:=by
 have e1:bo n=bo (n.take<|r+1)++fR (0+(n.take<|r+1).length) (n.drop<|r+1):=by
  have:=E7 (n.take<|r+1) (n.drop<|r+1) 0;rw [Ct] at this;exact this
 have e2:bG r (row n r) 0=bG r ((row n r).take<|p+1) 0++bG r ((row n r).drop<|p+1) (0+((row n r).take<|p+1).length):=by
  unfold bG;rw [<- Ak,<- List.zipIdx_append,Ct]
 rw [e1,uy hr,e2,rz hz];refine⟨bG r ((row n r).drop<|p+1) (0+((row n r).take<|p+1).length)++fR (0+(n.take<|r+1).length) (n.drop<|r+1),?_⟩;simp only [Bf,List.cons_append,Du]
theorem PU{κ:Type} [DecidableEq κ] (kvs:List<|κ×V) (k:κ) (v:V):(putK kvs k v).map (·.1)=if k∈kvs.map (·.1) then kvs.map (·.1) else kvs.map (·.1)++[k]:=by
 have e:(kvs.any λkv=>decide (kv.1=k))=decide (k∈kvs.map (·.1)):=by
  rw [Cg,Gf,CK,Az];exact⟨λ⟨p,h1,h2⟩=>⟨p,h1,CG h2⟩,λ⟨p,h1,h2⟩=>⟨p,h1,BX h2⟩⟩
 unfold putK;rw [e]
 by_cases h:k∈kvs.map (·.1)
 ·rw [BL<|BX h,BL h,Cd];refine Dm λp _=>?_;show(if p.1=k then(p.1,v) else p).1=p.1
  split <;> rfl
 ·rw [BK (by simpa using h),BK h,Ak];rfl
theorem gu{κ:Type} [DecidableEq κ] {kvs:List (κ×V)} {k j:κ} {v:V}:j∈(putK kvs k v).map (·.1)↔j∈kvs.map (·.1)\/j=k:=by
 rw [PU]
 split
 ·exact⟨.inl,λh=>h.elim id λe=>by rw [e];assumption⟩
 ·rw [Ao,Ae]
theorem PV{κ:Type} [DecidableEq κ] {kvs:List (κ×V)} {k:κ} {v:V} (h:(kvs.map (·.1)).Nodup):((putK kvs k v).map (·.1)).Nodup:=by
 rw [PU]
 split
 ·exact h
 ·rename_i hn;exact ni h hn
structure iW(n:Net)(done:List<|Str×Nt.End)(H:Hp)(kM:List<|Key×V)(kO:List<|List Key×V):Prop where
 m0:∀ z,cz done z=[]->aA kM (Sum.inr z)=none
 m1:∀ z a rest,cz done z=a :: rest->∃ t,aA kM (Sum.inr z)=some (.ref t)/\H t=some (TN n a)
 o:∀ z a b rest,cz done z=a :: b :: rest->(∃ u,aA kO (key n a)=some (.ref u)/\H u=some (TN n b))/\∃ u,aA kO (key n b)=some (.ref u)/\H u=some (TN n a)
 sub:∀ p∈done,bq n p.2=some p.1
 dM:kM.length<=done.length
 fC:kO.length<=2 * done.length
 ks:∀ k∈kO.map (·.1),∃ p∈done,k=key n p.2
 nd:(kO.map (·.1)).Nodup
theorem iW.keep{n:Net}{done:List (Str×Nt.End)}{H H':Hp}{kM:List (Key×V)}{kO:List (List Key×V)}(I:iW n done H kM kO)(k:∀ t p j,H t=some (Tn p j)->H' t=some (Tn p j)):iW n done H' kM kO where
 m0:=I.m0
 m1:=λz a rest h=>let ⟨t,e1,e2⟩:=I.m1 z a rest h;⟨t,e1,k _ _ _ e2⟩
 o:=λz a b rest h=>let ⟨⟨u,e1,e2⟩,⟨v,e3,e4⟩⟩:=I.o z a b rest h;⟨⟨u,e1,k _ _ _ e2⟩,⟨v,e3,k _ _ _ e4⟩⟩
 sub:=I.sub
 dM:=I.dM
 fC:=I.fC
 ks:=I.ks
 nd:=I.nd
theorem uN{done:List (Str×Nt.End)}{z:Str}{a:Nt.End}(h:a∈cz done z):(z,a)∈done:=by
 unfold cz at h;obtain⟨⟨y,b⟩,hm,rfl⟩:=Az.mp h;obtain⟨h1,h2⟩:=Bx.mp hm;have:y=z:=CG h2;subst this;exact h1
theorem iW.new{n:Net}{done:List (Str×Nt.End)}{H:Hp}{kM:List (Key×V)}{kO:List (List Key×V)}(I:iW n done H kM kO){z:Str}{e:Nt.End}{t:Addr}(ht:H t=some (TN n e))(hz:bq n e=some z)(h0:cz done z=[]) :
  iW n (done++[(z,e)]) H (putK kM (Sum.inr z)<|.ref t) kO where
 m0:=λy hy=>by
  rw [gJ] at hy;obtain⟨h1,h2⟩:=Fs.mp hy;have bF:¬ z=y:=λq=>by rw [BL q] at h2;cases h2
  rw [dI,BK λq=>bF (Sum.inr.inj q).symm];exact I.m0 y h1
 m1:=λy a rest hy=>by
  rw [gJ] at hy
  by_cases q:z=y
  ·subst q;rw [h0,BL rfl] at hy;cases hy;exact⟨t,by rw [dI,BL rfl],ht⟩
  ·rw [BK q,Be] at hy;obtain⟨u,e1,e2⟩:=I.m1 y a rest hy;exact⟨u,by rw [dI,BK λp=>q (Sum.inr.inj p).symm];exact e1,e2⟩
 o:=λy a b rest hy=>by
  rw [gJ] at hy
  by_cases q:z=y
  ·subst q;rw [h0,BL rfl] at hy;cases hy
  ·rw [BK q,Be] at hy;exact I.o y a b rest hy
 sub:=λp hp=>by
  rcases Ao.mp hp with h | h
  ·exact I.sub p h
  ·rw [Ae.mp h];exact hz
 dM:=by
  have:=je kM (Sum.inr z)<|.ref t;have:=I.dM;rw [Ad,Dg];omega
 fC:=by
  have:=I.fC;rw [Ad,Dg];omega
 ks:=λk hk=>let ⟨p,hp,e⟩:=I.ks k hk;⟨p,Bi _ hp,e⟩
 nd:=I.nd
theorem iW.old{n:Net}(hN:(n.map (·.1)).Nodup){done:List (Str×Nt.End)}{H:Hp}{kM:List (Key×V)}{kO:List (List Key×V)}(I:iW n done H kM kO){z:Str}{e a:Nt.End}{te tm:Addr}(ht:H te=some (TN n e))(hm:H tm=some (TN n a))(hz:bq n e=some z)(h1:cz done z=[a])(hae:a≠e) :
  iW n (done++[(z,e)]) H kM (putK (putK kO (key n e)<|.ref tm) (key n a)<|.ref te) where
 m0:=λy hy=>by
  rw [gJ] at hy;exact I.m0 y (Fs.mp hy).1
 m1:=λy c rest hy=>by
  rw [gJ] at hy
  by_cases q:z=y
  ·subst q;rw [h1,BL rfl] at hy;cases hy;exact I.m1 z a [] h1
  ·rw [BK q,Be] at hy;exact I.m1 y c rest hy
 o:=λy c b rest hy=>by
  rw [gJ] at hy;have ta:bq n a=some z:=I.sub (z,a)<|uN<|by rw [h1];exact Ae.mpr rfl
  by_cases q:z=y
  ·subst q;rw [h1,BL rfl] at hy;cases hy;refine⟨⟨te,by rw [dI,BL rfl],ht⟩,⟨tm,?_,hm⟩⟩;rw [dI,BK λp=>hae (rK hN (gU hz) (gU ta) p).symm,dI,BL rfl]
  ·rw [BK q,Be] at hy;have tc:bq n c=some y:=I.sub (y,c) (uN<|by rw [hy];exact Aw);have tb:bq n b=some y:=I.sub (y,b) (uN<|by rw [hy];exact Ax _ Aw);have ne:∀ x:Nt.End,bq n x=some y->¬ key n x=key n a/\¬ key n x=key n e:=λx hx=>by
    refine⟨λp=>?_,λp=>?_⟩
    ·have:=rK hN (gU hx) (gU ta) p;rw [this,ta] at hx;exact q<|Option.some.inj hx
    ·have:=rK hN (gU hx) (gU hz) p;rw [this,hz] at hx;exact q<|Option.some.inj hx
   obtain⟨⟨u,e1,e2⟩,⟨v,e3,e4⟩⟩:=I.o y c b rest hy;refine⟨⟨u,?_,e2⟩,⟨v,?_,e4⟩⟩
   ·rw [dI,BK (ne c tc).1,dI,BK (ne c tc).2];exact e1
   ·rw [dI,BK (ne b tb).1,dI,BK (ne b tb).2];exact e3
 sub:=λp hp=>by
  rcases Ao.mp hp with h | h
  ·exact I.sub p h
  ·rw [Ae.mp h];exact hz
 dM:=by
  have:=I.dM;rw [Ad,Dg];omega
 fC:=by
  have h1:=je (putK kO (key n e)<|.ref tm) (key n a)<|.ref te;have h2:=je kO (key n e)<|.ref tm;have:=I.fC;rw [Ad,Dg];omega
 ks:=λk hk=>by
  rcases gu.mp hk with hk | rfl
  ·rcases gu.mp hk with hk | rfl
   ·obtain⟨p,hp,e⟩:=I.ks k hk;exact⟨p,Bi _ hp,e⟩
   ·exact⟨(z,e),Bb _<|Ae.mpr rfl,rfl⟩
  ·exact⟨(z,a),Bi _ (uN<|by rw [h1];exact Ae.mpr rfl),rfl⟩
 nd:=PV<|PV I.nd
theorem iW.whole{n:Net}(T:bN n){H:Hp}{kM:List (Key×V)}{kO:List (List Key×V)}(I:iW n (bo n) H kM kO){e:Nt.End}(he:e∈ends n):∃ u,aA kO (key n e)=some (.ref u)/\H u=some (TN n<|other n e):=by
 obtain⟨z,hz⟩:=aF.mp he;obtain⟨a,b,hp,eX,uo⟩:=yo T hz;have rM:cz (bo n) z=a :: b :: []:=hp;have ta:bq n a=some z:=aV.mp (by rw [hp];simp);have tb:bq n b=some z:=aV.mp (by rw [hp];simp);obtain⟨o1,o2⟩:=I.o z a b [] rM
 rcases uo with rfl | rfl
 ·have:b=other n e:=((pJ T hz).mp tb).resolve_left<|CJ eX;rw [<- this];exact o1
 ·have:a=other n e:=((pJ T hz).mp ta).resolve_left eX;rw [<- this];exact o2
def jR:Sp:=λvs H Q _=>∃(R:Addr) (as:List<|Addr×Addr) (n:Net),vs=[.ref R]/\aw H R as n/\(n.map (·.1)).Nodup/\bN n/\n.length<=1000/\(av n).length<=1000 /\
 ∀(d:Addr) (kvs:List<|List Key×V) (H':Hp),ah H H'->H d=none->H' d=some (.dT kvs)->(∀ e∈ends n,∃ u,aA kvs (key n e)=some (.ref u)/\H' u=some (TN n<|other n e))->(kvs.map (·.1)).Nodup->(∀ k∈kvs.map (·.1),∃ e∈ends n,k=key n e)->kvs.length<=2000->Q (.ref d) H'
section
variable{X:Cx}{D:Ends}{σ:St}{H:Hp}{body:List Stmt}
theorem k80{tg:Expr}{a b:Addr}{xs ys:List V}{after:St->Hp->Prop}(hlen:xs.length=ys.length)(Pv:Nat->St->Hp->Prop)(h0:Pv 0 σ H)(hl:∀ i σ H,i<=xs.length->Pv i σ H->ai X.K H a xs/\ai X.K H b ys)
  (hs:∀ i x y T σ H,xs[i]?=some x->ys[i]?=some y->Pv i σ H->H T=none->Eg X tg (.ref T) σ (upd H T<|.tup [x,y]) λσ2 H2=>Run X body {D with nx:=Pv<|i+1,ct:=Pv<|i+1,bk:=after} σ2 H2) (hd:∀ σ H,Pv xs.length σ H->after σ H):Loop X tg body (yJ X.K a b) D after σ H:=by
 refine⟨λi m σ H=>m=xs.length - i/\i<=xs.length/\Pv i σ H,⟨xs.length,by simp,Bn _,h0⟩,?_⟩;rintro i m σ H ⟨rfl,hi,p⟩;obtain⟨q1,q2⟩:=hl i σ H hi p
 by_cases aM:i < xs.length
 ·refine .inr ⟨⟨xs,ys,xs[i],ys[i],q1,q2,Aa aM,Aa<|by omega⟩,Pv<|i+1,λσ' H' p'=>⟨xs.length - (i+1),by omega,rfl,aM,p'⟩,λv H' y=>?_⟩;obtain⟨T,x,y,hT,rfl,rfl,y1,y2⟩:=y;exact hs i x y T σ _ (y1 xs q1) (y2 ys q2) p hT
 ·have e:i=xs.length:=by omega
  subst e;exact .inl ⟨⟨xs,ys,q1,q2,.inl<|Ai _⟩,hd σ H p⟩
end
section
variable{P:Program}{w:World}{K:PySem.W.Frag}{mg:Str->Option Value}{base:Heap}
abbrev NOE:List Str:=["rows","met","others","row","end","tie"]
theorem uO:aj NOE ["rows"] (aP FC):=cU
theorem PY{H:Hp}{t d:Addr}{xs:List V}{kvs:List (Key×V)}(h:H t=some (.tup xs))(g:H d=some (.dK kvs)):t≠d:=cv h g λz=>nomatch z
theorem pR{H:Hp}{t d:Addr}{xs:List V}{kvs:List (List Key×V)}(h:H t=some (.tup xs))(g:H d=some (.dT kvs)):t≠d:=cv h g λz=>nomatch z
theorem q6k{f:Addr}{fd:FuncData}(F:bw K "other_ends" "other_ends" FC f fd)(T:Txt mg)
  (GE:aO P w K mg base 1 "ends_round" ["row"] uL) :
  aB P w K mg base bE 2 f fd ["rows"] jR:=by
 refine F.gc uO λb0 H vs Q E hr h=>?_;obtain⟨R,as,n,rfl,hR,hN,hT,hn,ht,q⟩:=h;have nd:=uO.nd;have eB:=hR.len;have hu:=hr.u1;refine run_set 1 nd<|OM λdm pH=>?_;refine run_set 2 nd<|YR λdO yO=>?_;have kL:dO≠dm:=λe=>by rw [e,az] at yO;cases yO
 have pS:H dO=none:=by rw [ax kL] at yO;exact yO
 have em:(upd (upd H dm<|.dK []) dO<|.dT []) dm=some (.dK []):=by rw [ax<|CJ kL,az]
 have eo:(upd (upd H dm<|.dK []) dO<|.dT []) dO=some (.dT []):=az;have s0:ah H (upd (upd H dm<|.dK []) dO<|.dT []):=λb o h=>by rw [ax<|b4 h pS,ax<|b4 h pH];exact h
 generalize upd (upd H dm<|.dK []) dO (.dT [])=H1 at em eo s0 ⊢;refine jE<|ae 0 ⟨R,rfl,⟨_,ai.of<|s0 _ _ hR.lst⟩,jF (xs:=as.map λa=>V.ref a.1) (λr σ H'=>∃ kM kO u1 u2 u3,ah H H'/\H' dm=some (.dK kM)/\H' dO=some (.dT kO)/\iW n (bo<|n.take r) H' kM kO/\σ=[some<|.ref R,some<|.ref dm,some<|.ref dO,u1,u2,u3])
  ⟨[],[],_,_,_,s0,em,eo,⟨λ_ _=>rfl,λz a rest h=>(by cases h),λz a b rest h=>(by cases h),λp h=>(by cases h),Bn _,Bn _,λk h=>(by cases h),Ds⟩,rfl⟩ ?_ ?_ ?_⟩
 ·rintro r σ H' _ ⟨kM,kO,u1,u2,u3,sm,_⟩;exact ai.of<|sm _ _ hR.lst
 ·rintro r x σ H' hx ⟨kM,kO,u1,u2,u3,sm,PZ,GA,I,rfl⟩;have hi:r < n.length:=by
   have:=(Ab.mp hx).1;rw [Ac] at this;omega
  obtain⟨a,ea,pT,et,el,er⟩:=(hR.same sm).at hi;rw [Ah,ea] at hx;cases hx;have kN:(row n r).length<=1000:=Ck (ux n r) ht;have enm:nameAt n r=n[r].1:=rJ hi;refine aZ 3 nd ?_;refine xY (Pl rfl T.zip (ta:=tV _ _) iT) ?_;show Ea _ _ _ _ _;refine ao<|bV GE hr<|ao<|ae 3<|aE ⟨a.1,a.2,n[r].1,row n r,rfl,et,el,kN,λL ts H5 s5 n5 e5 l5 t5=>?_⟩;refine ao<|fu m8<|ae 3<|aK ⟨a.1,_,_,.ref a.2,rfl,rfl,bt.of<|s5 _ _ et,rfl,aE ⟨L,a.2,rfl,⟨_,ai.of e5⟩,⟨_,ai.of<|s5 _ _ el⟩,?_⟩⟩;have yP:=s5 _ _ PZ;have yQ:=s5 _ _ GA;have rN:=s5 _ _ el;refine k80 (xs:=ts.map V.ref) (ys:=(row n r).map V.str) (by rw [Ac,Ac,l5]) (λp σ' bH=>∃ kM kO u2 u3,(∀ b o,b≠dm->b≠dO->H5 b=some o->bH b=some o)/\bH dm=some (.dK kM)/\bH dO=some (.dT kO)/\iW n (bo (n.take r)++bG r ((row n r).take p) 0) bH kM kO/\σ'=[some<|.ref R,some<|.ref dm,some<|.ref dO,some<|.ref a.1,u2,u3])
   ⟨kM,kO,_,_,λb o _ _ h=>h,yP,yQ,?_,rfl⟩ ?_ ?_ ?_
  ·have:bG r ((row n r).take 0) 0=[]:=by simp [bG]
   rw [this,Be];exact I.keep λt p j h=>s5 _ _ h
  ·rintro p σ' bH _ ⟨kM,kO,u2,u3,kb,_,_,_,rfl⟩;exact⟨ai.of (kb _ _ (cv e5 yP λz=>nomatch z) (cv e5 yQ λz=>nomatch z) e5),ai.of<|kb _ _ (cv rN yP λz=>nomatch z) (cv rN yQ λz=>nomatch z) rN⟩
  ·rintro p x y Tt σ' bH hx hy ⟨kM,kO,u2,u3,kb,yR,yS,I6,rfl⟩ jS;rw [Ah,An] at hx hy;obtain⟨te,nH,rfl⟩:=hx;obtain⟨z,hz,rfl⟩:=hy;have l6:=t5 p te nH;have uP:bH te=some (Tn n[r].1 p):=kb _ _ (PY l6 yP) (pR l6 yQ) l6;have l7:bq n (r,p)=some z:=hz;obtain⟨rest,dB⟩:=uM hi hz;have hlen:(bo (n.take r)++bG r ((row n r).take p) 0).length < 1000:=by
    have h1:(bo n).length=(av n).length:=by
     have:=CW List.length<|lV n 0;rw [Ac] at this;exact this
    have h2:=CW List.length dB;rw [Ad,Av] at h2;omega
   have dN:bo (n.take r)++bG r ((row n r).take<|p+1) 0=(bo (n.take r)++bG r ((row n r).take p) 0)++[(z,(r,p))]:=by
    rw [rz hz,Bf]
   have jT:∀ b,b∈cz (bo (n.take r)++bG r ((row n r).take p) 0) z->b≠(r,p):=λb hb e=>by
    have hm:=uN hb;have jg:=OS n;unfold ends at jg;rw [dB,Ak,Bt] at jg;exact(Dq.mp jg).2.2 _ (Az.mpr ⟨_,hm,rfl⟩) _ Aw e
   have uQ:(cz (bo (n.take r)++bG r ((row n r).take p) 0) z).length<=1:=by
    have h1:(pos n z).length=2:=by rw [uv];exact hT z<|px l7
    have h2:pos n z=cz (bo (n.take r)++bG r ((row n r).take p) 0) z++cz ((z,(r,p)) :: rest) z:=by
     show cz (bo n) z=_;rw [dB];unfold cz;rw [Cn,Ak]
    have h3:1<=(cz ((z,(r,p)) :: rest) z).length:=by
     unfold cz;rw [Cq,BL<|by simp];simp
    rw [h2,Ad] at h1;omega
   generalize bo (n.take r)++bG r ((row n r).take p) 0=done at I6 hlen dN jT uQ;rw [dN];have hTm:Tt≠dm:=λe=>by rw [e,yR] at jS;cases jS
   have hTo:Tt≠dO:=λe=>by rw [e,yS] at jS;cases jS
   have s7:=aQ jS<|.tup [.ref te,.str z];have GH:∀ b o,b≠dm->b≠dO->H5 b=some o->(upd bH Tt<|.tup [.ref te,.str z]) b=some o:=λb o h1 h2 h=>s7 _ _<|kb b o h1 h2 h;have rO:=s7 _ _ yR;have rP:=s7 _ _ yS;have I7:=I6.keep (H':=upd bH Tt<|.tup [.ref te,.str z]) λt p j h=>s7 _ _ h;have l9:=s7 _ _ uP;refine jj rfl (bt.of az) (aZ 4 nd<|aZ 5 nd ?_);generalize upd bH Tt (.tup [.ref te,.str z])=H7 at GH rO rP I7 l9;have pU:H7 te=some (TN n (r,p)):=by
    show H7 te=some (Tn (nameAt n r) p);rw [enm];exact l9
   have hM:kM.length < sizeLine:=cj (by have:=I7.dM;omega);have hO:kO.length < sizeLine:=cj (by have:=I7.fC;omega);refine iz<|OO hu<|ae 5<|ae 1 ⟨dm,_,rfl,aX.k (k:=Sum.inr z) rO,?_⟩
   match jl:cz done z with
   | []=>
    rw [I7.m0 z jl];show if false=true then _ else _;rw [BK Ba];refine ut hu<|ae 4<|ae 1<|ae 5 ⟨dm,_,rfl,b9.k (k:=Sum.inr z) rO hM,bp<|bp ⟨_,kO,_,_,λb o h1 h2 h=>?_,az,?_,?_,rfl⟩⟩
    ·rw [ax h1];exact GH b o h1 h2 h
    ·rw [ax kL];exact rP
    ·exact(I7.new pU l7 jl).keep λt p j h=>by rw [ax<|PY h rO];exact h
   | b :: more=>
    have uR:more=[]:=by
     rw [jl,Av] at uQ;exact Bq.mp<|by omega
    subst uR;obtain⟨tm,vm,GU⟩:=I7.m1 z b [] jl;rw [vm];show if true=true then _ else _;rw [BL rfl];have gK:b≠(r,p):=jT b (by rw [jl];exact Ae.mpr rfl);refine ut hu (iE hu<|ae 1<|ae 5 ⟨dm,.ref tm,rfl,by rw [<- vm];exact aX.k (k:=Sum.inr z) rO,ae 2<|ae 4 ⟨dO,_,rfl,b9.t (k:=key n (r,p)) rP pU hO,?_⟩⟩);have hO2:=je kO (key n (r,p))<|.ref tm;have hO3:=I7.fC;have P0:(upd H7 dO<|.dT<|putK kO (key n (r,p))<|.ref tm) dm=some (.dK kM):=by rw [ax<|CJ kL];exact rO
    have GV:(upd H7 dO<|.dT<|putK kO (key n (r,p))<|.ref tm) tm=some (TN n b):=by rw [ax<|pR GU rP];exact GU
    refine ut hu<|ae 4<|ae 2<|iE hu<|ae 1<|ae 5 ⟨dm,.ref tm,rfl,by rw [<- vm];exact aX.k (k:=Sum.inr z) P0,dO,_,rfl,b9.t (k:=key n b) az GV (cj<|by omega),bp<|bp ⟨kM,_,_,_,λb o h1 h2 h=>?_,?_,az,?_,rfl⟩⟩
    ·rw [ax h2,ax h2];exact GH b o h1 h2 h
    ·rw [ax<|CJ kL];exact P0
    ·exact(I7.old hN pU GU l7 jl gK).keep λt p j h=>by rw [ax<|pR h rP,ax<|pR h rP];exact h
  ·rintro σ' bH ⟨kM,kO,u2,u3,kb,yR,yS,I6,rfl⟩;refine bp ⟨kM,kO,_,_,_,λb o h=>?_,yR,yS,?_,rfl⟩
   ·exact kb b o (b4 h pH) (b4 h pS)<|s5 _ _<|sm _ _ h
   ·rw [Ac,l5,Br] at I6;rw [uy hi];exact I6
 ·rintro σ H' ⟨kM,kO,u1,u2,u3,sm,PZ,GA,I,rfl⟩;rw [Ac,eB,Br] at I;have lO:=I.fC;have ls:(bo n).length=(av n).length:=by rw [<- lV n 0,Ac];rfl
  exact cy<|ae 2<|q dO kO H' sm pS GA (λe he=>I.whole hT he) I.nd (λk hk=>let ⟨p,hp,e⟩:=I.ks k hk;⟨p.2,Az.mpr ⟨p,hp,rfl⟩,e⟩)<|by omega
end
def me(n:Net)(H:Hp)(us:List Addr)(done:List<|Str×Nt.End):Prop:=us.length=done.length/\∀(j:Nat) u p,us[j]?=some u->done[j]?=some p->H u=some (TN n p.2)
theorem me.keep{n:Net}{H H':Hp}{us:List Addr}{done:List (Str×Nt.End)}(h:me n H us done)(k:∀ t p j,H t=some (Tn p j)->H' t=some (Tn p j)):me n H' us done:=⟨h.1,λj u p h1 h2=>k _ _ _<|h.2 j u p h1 h2⟩
theorem me.snoc{n:Net}{H H':Hp}{us:List Addr}{done:List (Str×Nt.End)}{u:Addr}{p:Str×Nt.End}(h:me n H us done)(k:∀ t p j,H t=some (Tn p j)->H' t=some (Tn p j))(hu:H' u=some (TN n p.2)):me n H' (us++[u]) (done++[p]):=by
 obtain⟨hl,ha⟩:=h;refine⟨by rw [Ad,Ad,hl];rfl,λj v x hv hx=>?_⟩
 by_cases hj:j < us.length
 ·rw [Aj hj] at hv;rw [Aj<|by omega] at hx;exact k _ _ _<|ha j v x hv hx
 ·rw [Am<|by omega] at hv hx;have eG:j - us.length=0:=by
   have:=(Ab.mp hv).1;simp at this;omega
  have hj3:j - done.length=0:=by omega
  rw [eG] at hv;rw [hj3] at hx;cases hv;cases hx;exact hu
section
variable{X:Cx}{tg:Expr}{ifs:List Expr}{inner:Sem Unit}{σ:St}{H:Hp}{a b:Addr}{xs ys:List V}{after:St->Hp->Prop}
theorem uS(Pv:Nat->St->Hp->Prop)(h0:Pv 0 σ H)(hl:∀ i σ' H',i<=xs.length->Pv i σ' H'->ai X.K H' a xs)
  (hs:∀ i x σ' H',xs[i]?=some x->Pv i σ' H'->Eg X tg x σ' H' λσ2 H3=>Ei X ifs σ2 H3 λb H4=>if b=true then kE X inner σ2 H4 (Pv<|i+1) else Pv (i+1) σ2 H4)
  (hd:∀ σ' H',Pv xs.length σ' H'->after σ' H'):gP X tg ifs inner (oF X.K a) after σ H:=by
 refine⟨λi m σ' H'=>m=xs.length - i/\i<=xs.length/\Pv i σ' H',⟨_,rfl,Bn _,h0⟩,?_⟩;rintro i m σ' H' ⟨rfl,hi,p⟩;have q:=hl i σ' H' hi p
 by_cases aM:i < xs.length
 ·refine .inr ⟨⟨xs,xs[i],q,by simp [aM]⟩,Pv<|i+1,λσ' H' p'=>⟨xs.length - (i+1),by omega,rfl,aM,p'⟩,λx H2 y=>?_⟩;obtain⟨e,y⟩:=y;subst e;exact hs i x σ' _ (y xs q) p
 ·have e:i=xs.length:=by omega
  subst e;exact .inl ⟨⟨xs,q,Ai _⟩,hd σ' H' p⟩
theorem j9w(hlen:xs.length=ys.length)(Pv:Nat->St->Hp->Prop)(h0:Pv 0 σ H)(hl:∀ i σ' H',i<=xs.length->Pv i σ' H'->ai X.K H' a xs/\ai X.K H' b ys)
  (hs:∀ i x y T σ' H',xs[i]?=some x->ys[i]?=some y->Pv i σ' H'->H' T=none->Eg X tg (.ref T) σ' (upd H' T<|.tup [x,y]) λσ2 H3=>Ei X ifs σ2 H3 λb H4=>if b=true then kE X inner σ2 H4 (Pv<|i+1) else Pv (i+1) σ2 H4)
  (hd:∀ σ' H',Pv xs.length σ' H'->after σ' H'):gP X tg ifs inner (yJ X.K a b) after σ H:=by
 refine⟨λi m σ' H'=>m=xs.length - i/\i<=xs.length/\Pv i σ' H',⟨_,rfl,Bn _,h0⟩,?_⟩;rintro i m σ' H' ⟨rfl,hi,p⟩;obtain⟨q1,q2⟩:=hl i σ' H' hi p
 by_cases aM:i < xs.length
 ·refine .inr ⟨⟨xs,ys,xs[i],ys[i],q1,q2,Aa aM,Aa<|by omega⟩,Pv<|i+1,λσ' H' p'=>⟨xs.length - (i+1),by omega,rfl,aM,p'⟩,λv H2 y=>?_⟩;obtain⟨T,x,y,hT,rfl,rfl,y1,y2⟩:=y;exact hs i x y T σ' _ (y1 xs q1) (y2 ys q2) p hT
 ·have e:i=xs.length:=by omega
  subst e;exact .inl ⟨⟨xs,ys,q1,q2,.inl<|Ai _⟩,hd σ' H' p⟩
end
def G0:Sp:=λvs H Q _=>∃(R:Addr) (as:List<|Addr×Addr) (n:Net),vs=[.ref R]/\aw H R as n/\n.length<=1000/\(av n).length<=1000 /\
 ∀(L:Addr) (ts:List Addr) (H':Hp),ah H H'->H L=none->H' L=some (.lst<|ts.map V.ref)->me n H' ts (bo n)->Q (.ref L) H'
section
variable{P:Program}{w:World}{K:PySem.W.Frag}{mg:Str->Option Value}{base:Heap}
abbrev P4:List Str:=["rows"]
abbrev P5:List Str:=["rows","row","end"]
theorem iI:aj P4 ["rows"] (aP yt):=cU
theorem P6:P5.Nodup:=by decide +kernel
theorem k86{f:Addr}{fd:FuncData}(F:bw K "ends_in_order" "ends_in_order" yt f fd)(T:Txt mg)
  (GE:aO P w K mg base 1 "ends_round" ["row"] uL) :
  aB P w K mg base bE 2 f fd ["rows"] G0:=by
 refine F.gc iI λb0 H vs Q E hr h=>?_;obtain⟨R,as,n,rfl,hR,hn,ht,q⟩:=h;have nd:=iI.nd;have eB:=hR.len;refine cy<|ZC (aP yt) P4 P5 2 (fM a8)<|ae 0 ⟨R,rfl,⟨_,ai.of hR.lst⟩,λD hD cl C s₀ H₀ ex=>?_⟩;refine uS (xs:=as.map λa=>V.ref a.1) (λr σ' H'=>(∃ v1 v2,σ'=[some<|.ref R]++[v1,v2])/\∃ ts:List Addr,ah H H'/\H' D=some (.lst<|ts.map V.ref)/\me n H' ts (bo<|n.take r)) ⟨⟨none,none,rfl⟩,[],aQ hD _,az,⟨rfl,λj u p h=>(by cases h)⟩⟩ ?_ ?_ ?_
 ·rintro r σ' H' _ ⟨_,ts,sm,_⟩;exact ai.of<|sm _ _ hR.lst
 ·rintro r x σ' H' hx ⟨⟨v1,v2,rfl⟩,ts,sm,eD,AN⟩;have hi:r < n.length:=by
   have:=(Ab.mp hx).1;rw [Ac] at this;omega
  obtain⟨a,ea,pT,et,el,er⟩:=(hR.same sm).at hi;rw [Ah,ea] at hx;cases hx;have kN:(row n r).length<=1000:=Ck (ux n r) ht;refine aZ 1 P6 ?_;refine gR ?_;rw [BL rfl];refine ZA rfl rfl (fM a8) (bV GE hr<|ao<|ae 1<|aE ⟨a.1,a.2,n[r].1,row n r,rfl,et,el,kN,λL us H5 s5 n5 e5 l5 t5=>⟨L,rfl,⟨_,ai.of e5⟩,?_⟩⟩);have G':L≠D:=λe=>by rw [e,eD] at n5;cases n5
  refine uS (xs:=us.map V.ref) (λp σ' bH=>(∃ v2,σ'=[some<|.ref R]++[some<|.ref a.1,v2])/\∃ ts:List Addr,(∀ b o,b≠D->H5 b=some o->bH b=some o)/\bH D=some (.lst<|ts.map V.ref)/\me n bH ts (bo (n.take r)++bG r ((row n r).take p) 0))
   ⟨⟨_,rfl⟩,ts,λb o _ h=>h,s5 _ _ eD,by simpa [bG] using AN.keep (H':=H5) λt p j h=>s5 _ _ h⟩ ?_ ?_ ?_
  ·rintro p σ' bH _ ⟨_,ts,kb,_⟩;exact ai.of<|kb _ _ G' e5
  ·rintro p x σ' bH hx ⟨⟨v2,rfl⟩,ts,kb,dw,uT⟩;rw [Ah,An] at hx;obtain⟨te,nH,rfl⟩:=hx;have hp:p < (row n r).length:=by have:=(Ab.mp nH).1;omega
   have hz:(row n r)[p]?=some (row n r)[p]:=Aa hp;generalize (row n r)[p]=z at hz;have l6:=t5 p te nH;have yT:te≠D:=cv l6 (s5 _ _ eD) λz=>nomatch z;have uP:=kb _ _ yT l6;obtain⟨rest,dB⟩:=uM hi hz;have hlen:ts.length < 1000:=by
    have h1:(bo n).length=(av n).length:=by
     have:=CW List.length<|lV n 0;rw [Ac] at this;exact this
    have h2:=CW List.length dB;rw [Ad,Av] at h2;have:=uT.1;omega
   refine aZ 2 P6 ?_;refine gR ?_;rw [BL rfl];refine NS (ae 2 ⟨ts.map V.ref,dw,by rw [Ac];exact cj (by omega),⟨_,rfl⟩,ts++[te],λb o hb h=>by rw [ax hb];exact kb b o hb h,by rw [az,Ak];rfl,?_⟩);rw [rz hz,<- Bf];refine uT.snoc (λt p j h=>by rw [ax<|cv h dw λz=>nomatch z];exact h) ?_;rw [ax yT];show bH te=some (Tn (nameAt n r) p);rw [rJ hi];exact uP
  ·rintro σ' bH ⟨⟨v2,rfl⟩,ts,kb,dw,uT⟩;refine⟨⟨_,_,rfl⟩,ts,λb o h=>kb b o (b4 h hD)<|s5 _ _<|sm _ _ h,dw,?_⟩;rw [Ac,l5,Br,<- uy hi] at uT;exact uT
 ·rintro σ' H' ⟨_,ts,sm,eD,AN⟩;rw [Ac,eB,Br] at AN;exact q D ts H' sm hD eD AN
end
section
variable{X:Cx}{H:Hp}
theorem P7{k:Nat}(z:Str):kH X H k (.str z) (.str z) true:=by
 have:=yl (X:=X) (H:=H) (k:=k) (x:= .str z) (y:= .str z) rfl rfl;have e:fm (.str z) (.str z)=true:=by show(z == z)=true;simp
 rw [e] at this;exact this
theorem q36{p p':Str}{j j':Int}:∀(i:Nat) (u v:V),[V.str p,.int j][i]?=some u->[V.str p',.int j'][i]?=some v->kH X H 0 u v (if i=0 then fm (.str p) (.str p') else fm (.int j) (.int j'))
 | 0,u,v,h1,h2=>by
  cases h1;cases h2;exact yl rfl rfl
 | 1,u,v,h1,h2=>by
  cases h1;cases h2;exact yl rfl rfl
 | i+2,u,v,h1,h2=>by simp at h1
theorem q40(p p':Str)(j j':Int):(fm (.str p) (.str p') && fm (.int j) (.int j'))=decide (p=p'/\j=j'):=by
 show((p == p') && (j == j'))=_
 by_cases h:p=p' <;> by_cases h2:j=j' <;> simp [h,h2]
theorem q24{s t:Addr}{p p':Str}{j j':Int}(hs:H s=some (Tn p j))(ht:H t=some (Tn p' j')):pv X H 1 (.ref s) (.ref t) (decide (p=p'/\j=j')):=by
 have:=YM (X:=X) (k:=0) (λi=>if i=0 then fm (.str p) (.str p') else fm (.int j) (.int j')) (bt.of hs) (bt.of ht) rfl q36;rw [show([V.str p,.int j].length)=2 from rfl,all2] at this;have e:=q40 p p' j j';simp only [FN] at this;rw [BK (by decide),e] at this;exact this
theorem k67{a b:Addr}{zs:List Str}(ha:H a=some (Ls zs))(hb:H b=some (Ls zs)):nB X H 1 (.ref a) (.ref b) true:=by
 have q:=E5 (X:=X) (k:=0) (λ_=>true) (ai.of (K:=X.K) ha) (ai.of (K:=X.K) hb) rfl λj x y hx hy=>by
  rw [hx] at hy;cases hy;rw [Ah,An] at hx;obtain⟨z,_,rfl⟩:=hx;exact P7 z
 rw [ym] at q;exact q
theorem q16{k:Nat}{a b:Addr}(h:nB X H k (.ref a) (.ref b) true):kH X H k (.ref a) (.ref b) true:=by
 by_cases e:a=b
 ·subst e;exact YH
 ·exact YJ e h
end
theorem k62{X:Cx}{H:Hp}{a b:Addr}{zs:List Str}(ha:H a=some (Ls zs))(hb:H b=some (Ls zs)):pv X H 1 (.ref a) (.ref b) true:=by
 have q:=OH (X:=X) (k:=0) (λ_=>true) (ai.of (K:=X.K) ha) (ai.of (K:=X.K) hb) rfl λj x y hx hy=>by
  rw [hx] at hy;cases hy;rw [Ah,An] at hx;obtain⟨z,_,rfl⟩:=hx;exact P7 z
 rw [ym] at q;exact q
def mh:Sp:=λvs H Q _=>∃(R:Addr) (as:List<|Addr×Addr) (n:Net),vs=[.ref R]/\aw H R as n/\(n.map (·.1)).Nodup/\n.length<=1000/\(av n).length<=1000 /\
 ∀(d:Addr) (kvs:List<|List Key×V) (H':Hp),ah H H'->H d=none->H' d=some (.dT kvs)->(∀ e z,bq n e=some z->aA kvs (key n e)=some (.str z))->Q (.ref d) H'
section
variable{P:Program}{w:World}{K:PySem.W.Frag}{mg:Str->Option Value}{base:Heap}
abbrev P8:List Str:=["rows"]
abbrev P9:List Str:=["rows","row","end","tie"]
theorem Hz:aj P8 ["rows"] (aP yu):=cU
theorem HA:P9.Nodup:=by decide +kernel
theorem q57{f:Addr}{fd:FuncData}(F:bw K "ties_by_end" "ties_by_end" yu f fd)(T:Txt mg)
  (GE:aO P w K mg base 1 "ends_round" ["row"] uL) :
  aB P w K mg base bE 2 f fd ["rows"] mh:=by
 refine F.gc Hz λb0 H vs Q E hr h=>?_;obtain⟨R,as,n,rfl,hR,hN,hn,ht,q⟩:=h;have eB:=hR.len;have hu:=hr.u1;refine cy<|ZH (aP yu) P8 P9 3 (fM a8)<|ae 0 ⟨R,rfl,⟨_,ai.of hR.lst⟩,λD hD cl C s₀ H₀ ex=>?_⟩;refine uS (xs:=as.map λa=>V.ref a.1) (λr σ' H'=>(∃ v1 v2 v3,σ'=[some<|.ref R]++[v1,v2,v3])/\∃ kvs:List<|List Key×V,ah H H'/\H' D=some (.dT kvs)/\kvs.length<=(bo<|n.take r).length/\∀ p∈bo (n.take r),bq n p.2=some p.1/\aA kvs (key n p.2)=some (.str p.1)) ⟨⟨none,none,none,rfl⟩,[],aQ hD _,az,Bn _,λp h=>(by cases h)⟩ ?_ ?_ ?_
 ·rintro r σ' H' _ ⟨_,kvs,sm,_⟩;exact ai.of<|sm _ _ hR.lst
 ·rintro r x σ' H' hx ⟨⟨v1,v2,v3,rfl⟩,kvs,sm,eD,P',yU⟩;have hi:r < n.length:=by
   have:=(Ab.mp hx).1;rw [Ac] at this;omega
  obtain⟨a,ea,pT,et,el,er⟩:=(hR.same sm).at hi;rw [Ah,ea] at hx;cases hx;have kN:(row n r).length<=1000:=Ck (ux n r) ht;refine aZ 1 HA ?_;refine gR ?_;rw [BL rfl];refine ZG rfl rfl (Pl rfl T.zip (ta:=tV _ _) iT) ?_;show Ea _ _ _ _ _;refine ao<|bV GE hr<|ao<|ae 1<|aE ⟨a.1,a.2,n[r].1,row n r,rfl,et,el,kN,λL us H5 s5 n5 e5 l5 t5=>?_⟩;refine ao<|fu m8<|ae 1<|aK ⟨a.1,_,_,.ref a.2,rfl,rfl,bt.of<|s5 _ _ et,rfl,aE ⟨L,a.2,rfl,⟨_,ai.of e5⟩,⟨_,ai.of<|s5 _ _ el⟩,?_⟩⟩;have kP:=s5 _ _ eD;have rN:=s5 _ _ el;refine j9w (xs:=us.map V.ref) (ys:=(row n r).map V.str) (by rw [Ac,Ac,l5]) (λp σ' bH=>(∃ v2 v3,σ'=[some<|.ref R]++[some<|.ref a.1,v2,v3])/\∃ kvs:List<|List Key×V,(∀ b o,b≠D->H5 b=some o->bH b=some o)/\bH D=some (.dT kvs)/\kvs.length<=(bo (n.take r)++bG r ((row n r).take p) 0).length/\∀ x∈bo (n.take r)++bG r ((row n r).take p) 0,bq n x.2=some x.1/\aA kvs (key n x.2)=some (.str x.1))
   ⟨⟨_,_,rfl⟩,kvs,λb o _ h=>h,kP,by simpa [bG] using P',by simpa [bG] using yU⟩ ?_ ?_ ?_
  ·rintro p σ' bH _ ⟨_,kvs,kb,_⟩;exact⟨ai.of (kb _ _ (cv e5 kP λz=>nomatch z) e5),ai.of<|kb _ _ (cv rN kP λz=>nomatch z) rN⟩
  ·rintro p x y Tt σ' bH hx hy ⟨⟨v2,v3,rfl⟩,kvs,kb,dw,pV,mj⟩ jS;rw [Ah,An] at hx hy;obtain⟨te,nH,rfl⟩:=hx;obtain⟨z,hz,rfl⟩:=hy;have l6:=t5 p te nH;have yT:te≠D:=cv l6 kP λz=>nomatch z;have uP:=kb _ _ yT l6;have l7:bq n (r,p)=some z:=hz;obtain⟨rest,dB⟩:=uM hi hz;have hlen:(bo (n.take r)++bG r ((row n r).take p) 0).length < 1000:=by
    have h1:(bo n).length=(av n).length:=by
     have:=CW List.length<|lV n 0;rw [Ac] at this;exact this
    have h2:=CW List.length dB;rw [Ad,Av] at h2;omega
   have nTD:Tt≠D:=λe=>by rw [e,dw] at jS;cases jS
   have s7:=aQ jS<|.tup [.ref te,.str z];refine jj rfl (bt.of az) (aZ 2 HA<|aZ 3 HA ?_);refine gR ?_;rw [BL rfl];have l9:(upd bH Tt<|.tup [.ref te,.str z]) te=some (.tup<|(key n (r,p)).map kV):=by
    rw [s7 _ _ uP];show some (Tn n[r].1 (p:Int))=some (Tn (nameAt n r) (p:Int));rw [rJ hi]
   refine Pq hu<|ae 2<|ae 3 ⟨_,b9.t (k:=key n (r,p)) (s7 _ _ dw) l9 (cj<|by omega),⟨_,_,rfl⟩,_,λb o hb h=>?_,az,?_,?_⟩
   ·rw [ax hb];exact s7 _ _<|kb b o hb h
   ·rw [rz hz,<- Bf,Ad];have:=je kvs (key n (r,p))<|.str z;show _<=_+1;omega
   ·rw [rz hz,<- Bf];intro x hx
    rcases Ao.mp hx with h | h
    ·obtain⟨q1,q2⟩:=mj x h;refine⟨q1,?_⟩;rw [dI]
     by_cases hk:key n x.2=key n (r,p)
     ·rw [BL hk];have:=rK hN (gU q1) (gU l7) hk;rw [this,l7] at q1;rw [Option.some.inj q1]
     ·rw [BK hk];exact q2
    ·rw [Ae.mp h];exact⟨l7,by rw [dI,BL rfl]⟩
  ·rintro σ' bH ⟨⟨v2,v3,rfl⟩,kvs,kb,dw,pV,mj⟩;rw [Ac,l5,Br,<- uy hi] at pV mj;exact⟨⟨_,_,_,rfl⟩,kvs,λb o h=>kb b o (b4 h hD)<|s5 _ _<|sm _ _ h,dw,pV,mj⟩
 ·rintro σ' H' ⟨_,kvs,sm,eD,P',yU⟩;rw [Ac,eB,Br] at yU;exact q D kvs H' sm hD eD λe z he=>(yU (z,e)<|bh.mpr he).2
end
end N4
namespace L2
open PySem PySem.Spec PyProof.Rows bR
def au{α:Type}:List α->List α
 | []=>[]
 | [a]=>[a]
 | a :: _ :: r=>a :: au r
theorem uU{α:Type}:∀(xs:List α) (k:Nat),(au xs)[k]?=xs[2 * k]?
 | [],k=>by simp [au]
 | [a],0=>rfl
 | [a],k+1=>by
  show([]:List α)[k]?=[a][2 * (k+1)]?;rw [Aq<|Bn _,Aq<|by show 1<=_;omega]
 | a :: b :: r,0=>rfl
 | a :: b :: r,k+1=>by
  show(au r)[k]?=(a :: b :: r)[2 * (k+1)]?;rw [uU r k,show 2 * (k+1)=2 * k+1+1 by omega];rfl
theorem uV{α:Type}:∀(xs:List α),(au xs).length=(xs.length+1) / 2
 | []=>by
  show 0=(0+1) / 2;omega
 | [a]=>by
  show 1=(1+1) / 2;omega
 | a :: b :: r=>by
  show(au r).length+1=(r.length+1+1+1) / 2;rw [uV r];omega
theorem k7j{α:Type}(xs:List α):(au xs).length<=xs.length:=by
 rw [uV];omega
theorem Qa:∀{xs:List V} {us:List Value},aq xs us->aq (au xs) (au us)
 | [],us,r=>by
  have:=r.zero;subst this;exact .nil
 | [a],us,r=>by
  obtain⟨u,rfl,ru⟩:=r.one;exact .cons ru .nil
 | a :: b :: r,us,h=>by
  cases h with
  | cons h1 h2=>
   cases h2 with
   | cons h3 h4=>exact .cons h1<|Qa h4
theorem Qb{α:Type}(g:Nat->Option α):∀(c:Nat),(∀ k,k < c->∃ v,g k=some v)->((List.range c).filterMap g).length=c/\∀ k,k < c->((List.range c).filterMap g)[k]?=g k
 | 0,_=>⟨rfl,λk h=>absurd h<|Fu _⟩
 | c+1,h=>by
  obtain⟨h1,h2⟩:=Qb g c λk hk=>h k (by omega);obtain⟨v,hv⟩:=h c (by omega);have e:(List.range<|c+1).filterMap g=(List.range c).filterMap g++[v]:=by
   rw [Dj,List.filterMap_append,Er,hv];rfl
  rw [e];refine⟨by rw [Ad,h1];rfl,λk hk=>?_⟩
  by_cases t4:k < c
  ·rw [Aj<|by omega];exact h2 k t4
  ·have:k=c:=by omega
   subst this;rw [Am (by omega),h1,Gv,hv];rfl
theorem k2v(its:List Value):slicePick its.toArray none none (some 2)=(au its).toArray:=by
 unfold slicePick;have hb:sliceBounds none none (some 2) its.toArray.size=(0,(its.length:Int),2):=rfl;rw [hb]
 congr 1
 show((sliceRange 0 (its.length:Int) 2).filterMap (its.toArray[·]?))=au its;have hr:sliceRange 0 (its.length:Int) 2=(List.range<|(its.length+1) / 2).map λk=>2 * k:=by
  unfold sliceRange;have e1:(if(2:Int) > 0 then(if(0:Int) < (its.length:Int) then((its.length:Int) - 0+2 - 1) / 2 else 0) else(if(0:Int) > (its.length:Int) then(0 - (its.length:Int) - 2 - 1) / (-2) else 0)).toNat=(its.length+1) / 2:=by
   rw [BL<|by decide]
   split <;> omega
  show(List.range _).map _=_;rw [e1];exact Dm λk _=>by omega
 rw [hr,List.filterMap_map];obtain⟨h1,h2⟩:=Qb (λk=>its.toArray[2 * k]?) ((its.length+1) / 2) λk hk=>⟨its[2 * k]'(by omega),by rw [<- Ap];exact Aa (l:=its)<|by omega⟩;apply Cv;intro k;show((List.range<|(its.length+1) / 2).filterMap λk=>its.toArray[2 * k]?)[k]?=_
 by_cases hk:k < (its.length+1) / 2
 ·rw [h2 k hk,uU,<- Ap]
 ·rw [Aq (by omega),Aq<|by rw [uV];omega]
section
variable{X:Cx}{σ:St}{H:Hp}{Q:VK}
theorem k8j{e:Expr}{j:Nat}{p1 p2 pos:Pos} (h:Ev X e σ H λx H1=>∃ a xs,x = .ref a/\ai X.K H1 a xs/\∀ p,H1 p=none->Q (.ref p) (upd H1 p<|.lst<|au xs)) :
  Ev X (.Subscript e (.Slice none none (some<|.Constant (.int 2) j p1) p2) pos) σ H Q:=by
 refine⟨λpins s I=>Subscript_<|aI (h.run pins s I) λv s1 ⟨x,H1,I1,r1,a,xs,ex,hx,q⟩=>?_⟩;subst ex;cases (show v=Value.ref a from r1);refine wpAny_Slice ?_;rw [evalPart_none];refine BP<|BP ?_;rw [evalPart_some];refine aI ((aK (X:=X) (i:=2) (j:=j) (p:=p1) (σ:=σ) (H:=H1) (Q:=λy H2=>y = .int 2/\H2=H1) ⟨rfl,rfl⟩).run pins s1 I1) λv2 s2 ⟨y,H2,I2,r2,ey,eh⟩=>?_;subst ey eh;obtain⟨t,rfl⟩:=r2;obtain⟨its,r,pl,hz⟩:=I2.list hx;have hlen:=r.length;have I3:Inv X pins σ H2 {s2 with heap:=s2.heap.push {cls:= .type "slice",data:= .fields #[.none,.none,.int 2 t]}}:=I2.kept (t':=s2.toks) λb ob q=>Af _ q;have Qc:=pl.isList.push {cls:= .type "slice",data:= .fields #[.none,.none,.int 2 t]};show wpAny (model X.prog X.w) X.A (subscriptTail e _ (.ref a)<|.ref s2.heap.objs.size) (EP X pins σ Q) X.xe {s2 with heap:=s2.heap.push {cls:= .type "slice",data:= .fields #[.none,.none,.int 2 t]}};refine tail_any (ops:=[.ref a,.ref s2.heap.objs.size]) (T:= "list") (Heap.IsList.typeIs (s:={s2 with heap:=s2.heap.push {cls:= .type "slice",data:= .fields #[.none,.none,.int 2 t]}}) Qc) slot_list_getitem.lookup ?_ (by with_unfolding_all rfl);refine wpAny_getItem_list_slice (s:={s2 with heap:=s2.heap.push {cls:= .type "slice",data:= .fields #[.none,.none,.int 2 t]}}) Qc (Heap.IsSliceOf.new ..) .none .none (.int 2 t) (by decide) ?_ (by rw [Bd];omega);rw [k2v];exact⟨.ref _,_,I3.tN (t':=s2.toks) (Qa r)<|Ck (k7j _) hz,rfl,q _ I3.fresh⟩
end
section
variable{prog:Program}{w:World}{A:Around}{E:Value->Shared->Prop}{s:Shared}
theorem k5f{Q:Value->Shared->Prop}(k:Q (.ref s.heap.objs.size) {s with heap:=s.heap.push (gj w)}):codeAny (model prog w) A (.call (.builtin "set.__new__") ⟨[.type "set"],[]⟩) (wants Q E) s:=by
 refine KC ?_;show wpAny _ A.in1 (checkBuiltinCall "set.__new__" ⟨[.type "set"],[]⟩ >>= λ_=>again<|.builtin "set.__new__" ⟨[.type "set"],[]⟩) _ _ s;refine BJ<|HX PySem.F.newCall_set_0<|BP ⟨GX SN _,EY PySem.F.entry_set_new ?_⟩;rw [DW SN _];unfold Builtin.«set.__new__» Builtin.Frozenset.newClass
 dsimp only
 refine BJ<|BJ<|HX (show isType (.type "set")=pure true from rfl)<|BP ?_;simp only [Ey,Bk,DQ];unfold newSet;refine BJ<|BJ<|wp_text ?_
 dsimp only
 simp only [newObj];exact BJ<|QB<|BP<|BP k
theorem k3t{Q:Value->Shared->Prop}(k:Q (.ref s.heap.objs.size) {s with heap:=s.heap.push (gj w)}):wpAny (model prog w) A (call (.type "set") []) Q E s:=by
 obtain⟨c,tl,pj⟩:=PySem.F.called_set.mro;have uf:=PySem.F.called_set.made;have lR:=PySem.F.called_set.sub;refine QW<|KC ?_;show wpAny _ _ (callAny (.type "set") _) _ _ _;refine BP ⟨Code.quiet_builtin _ (by decide +kernel),EY PySem.F.entry_type_call ?_⟩;rw [Around.under_plain (weight_type_call_type "set" [] []) rfl];have h1:=PySem.F.called_set.notType;have h2:=PySem.F.called_set.canCreate;have h3:=PySem.F.typeCall_set_0
 repeat (any_goals (first | assumption | wp_step))
 refine IK (k5f (E:=E) (Q:=λv u=>v = .ref s.heap.objs.size/\u={s with heap:=s.heap.push (gj w)}) ⟨rfl,rfl⟩) λr u hr=>?_;cases r with
 | error e=>exact hr
 | ok fl=>
  cases fl with
  | ret v=>
   obtain⟨rfl,rfl⟩:=hr;have hT:Shared.TypeIs {s with heap:=s.heap.push (gj w)} (.ref s.heap.objs.size) "set":=⟨_,At _ rfl,rfl⟩;have lS:=PySem.F.called_set.init.lookup;have EW:=PySem.F.called_set.init.bind<|.ref s.heap.objs.size
   repeat (any_goals (first | assumption | wp_step))
   refine IK (OJ (R:=wants (λr u=>r = .none/\Q (.ref s.heap.objs.size) u) E) PySem.F.called_set.init.plain PySem.F.entry_set_init<|check_set_init hT ?_) λr2 u2 gI=>?_
   ·unfold Builtin.«set.__init__» noKeywords
    wp_walk
    exact⟨rfl,k⟩
   ·cases r2 with
    | error e=>exact gI
    | ok f2=>
     cases f2 with
     | ret r=>
      obtain⟨rfl,hq⟩:=gI
      repeat (any_goals (first | assumption | wp_step))
     | _=>exact gI.elim
  | _=>exact hr.elim
theorem k3v{a:Addr}{zs:List Str}{z:Str}{tk:Tok}{Q:Value->Shared->Prop}(S:ak prog w s.heap a zs) (h:Q (.bool<|decide (z∉zs)) {s with toks:=s.toks+1}):wpAny (model prog w) A (compareOp .NotIn (.str z tk)<|.ref a) Q E s:=by
 have hT:=S.typeIs;show wpAny _ _ (do return .bool (!(<- contains (.ref a)<|.str z tk))) Q E s;refine BJ ?_;unfold contains
 try with_reducible refine CN ?_
 refine BJ<|RQ hT PySem.F.slot_set_contains.lookup ?_;show wpAny _ _ (if(some (Value.builtin "set.__contains__") == some Value.none)=true then _ else _) _ E s;rw [BK<|by rw [beq_builtin_none];exact Ba];refine BJ<|wpAny_callSpecialUnlessNone?_slot (name:=Str.ofString "__contains__") hT QZ<|DN QZ hT entry_set_contains ?_<|PySem.F.args_set_contains_2 _ _;unfold Builtin.«frozenset.__contains__» Builtin.Frozenset.oneOther;simp only [Hj,bind_assoc];unfold Builtin.Frozenset.addrOf Builtin.Frozenset.withSetAsKey setContains;refine BJ<|BP ?_
 try dsimp only
 refine BJ<|BP ?_
 try dsimp only
 refine BJ<|wpAny_tryCatch<|CN ?_;refine BJ<|(strKind prog w).pyHash (k:=z) (NZ _ _ _ _) ?_;obtain⟨o,es,ep,t,ho,hx,hd,T⟩:=S;refine BJ<|N6 (s:={s with toks:=s.toks+1}) ho hd T (λhz=>?_) λj hj e=>?_
 ·refine BP ?_;show wpAny _ _ (ret<|Value.bool false) _ _ _;rw [BX hz] at h;exact BP ⟨_,rfl,DY<|BP h⟩
 ·refine BP ?_;show wpAny _ _ (ret<|Value.bool true) _ _ _;have hz:z∈zs:=T.keys.mem_iff.mp (by rw [<- e];exact Az.mpr ⟨_,Bv hj,rfl⟩);rw [BR<|not_not_intro hz] at h;exact BP ⟨_,rfl,DY<|BP h⟩
end
section
variable{X:Cx}{σ:St}{H:Hp}{Q:VK}
theorem q0p{p pos:Pos}(hm:X.mg "set" = none)(h:∀ D,H D=none->Q (.ref D) (upd H D<|aT X.prog X.w D []))(hg:Gl X "set":=by rfl):Ev X (.Call (.Name "set" p) [] [] pos) σ H Q:=by
 refine⟨λpins s I=>Call_<|oB I hg hm NP<|PyProof.Rows.callWith_type0<|k3t ?_⟩;exact⟨.ref s.heap.objs.size,_,I.laid (t':=s.toks) (λb o e=>Af _ e) (Ai _)<|rn<|EV<|At _ rfl,rfl,h _ I.fresh⟩
theorem j8z:cM X (compareOp .NotIn) (λx y H Q=>∃ z a zs,x = .str z/\y = .ref a/\H a=some (aT X.prog X.w a zs)/\Q (.bl<|decide (z∉zs)) H):=by
 intro pins s σ H x y v u Q I rx ry h;obtain⟨z,a,zs,rfl,rfl,hA,q⟩:=h;obtain⟨t,rfl⟩:=rx;cases (show u=Value.ref a from ry);exact k3v (I.set hA) ⟨.bl _,H,I.tok _,rfl,q⟩
theorem q2b{o e:Expr}{ap cp:Pos} (h:Ev X o σ H λx H1=>∃ a,x = .ref a/\(∃ zs,H1 a=some (aT X.prog X.w a zs))/\Ev X e σ H1 λy H2=>∃ z zs,y = .str z/\H2 a=some (aT X.prog X.w a zs)/\zs.length+1 < 1000/\Q .non (upd H2 a<|aT X.prog X.w a<|added zs z))
  (bP:attributeBase o "add" X.env (eval o X.env)=eval o X.env:=by rfl)
  (du:((backTo cp<|starEach [e] X.env).all (λx=>!x.1) && (backToKw cp<|keywordEach [] X.env).all (λx=>x.1.isSome) && decide ([e].length+([]:List Keyword).length+(if([]:List Keyword).isEmpty then 0 else 1) < 30))=true:=by rfl)
  (hline:(ap.endLine == cp.line)=true:=by rfl) (hs:starEach [e] X.env=(false,eval e X.env) :: starEach [] X.env:=by rfl) (c6:isStar e=false:=by rfl):Ev X (.Call (.Attribute o "add" ap) [e] [] cp) σ H Q:=by
 refine⟨λpins s I=>wpAny_Call_method_late bP du hline rfl (aI (h.run pins s I) λv s1 ⟨x,H1,I1,r1,a,ex,⟨zs,hA⟩,h2⟩=>?_)⟩;subst ex;cases (show v=Value.ref a from r1);have S:=I1.set hA;refine⟨"set","set.add",PySem.F.plainAttrs_set,PySem.F.slot_set_add,PySem.F.type_set_add,S.typeIs,λb eb=>?_,?_⟩
 ·cases eb;obtain⟨o,_,_,_,ho,hx,_⟩:=S;exact⟨o,ho,hx.2.1⟩
 have hE:Ea X [e] σ H1 (λys H2=>∃ z zs,ys=[.str z]/\H2 a=some (aT X.prog X.w a zs)/\zs.length+1 < 1000/\Q .non (upd H2 a<|aT X.prog X.w a<|added zs z)):=ao (h2.mono λy H2 ⟨z,zs,ey,q⟩=>aE ⟨z,zs,by rw [ey],q⟩) c6;have Qd:=hE.run cp pins s1 I1;rw [hs] at Qd ⊢;refine JF rfl (NT ?_);refine aI Qd λus s2 ⟨vs,H2,I2,r2,z,ys,ev,Qe,hl,q⟩=>?_;subst ev;obtain⟨u,rfl,ru⟩:=vals1 r2;obtain⟨tk,rfl⟩:=ru;refine Pu (I2.set Qe) hl λh' sb S'=>⟨.non,_,nh (t':=s2.toks+1) I2 (by rw [Qe];exact True.intro) sb ?_<|rn S',rfl,q⟩;obtain⟨o,_,_,_,ho,_⟩:=S';exact⟨o,ho⟩
end
end L2
namespace Nt
open PySem L2
def eY(c:Int)(n:Net)(e:End):End:=(e.1,(((e.2:Int)+c) % ((row n e.1).length:Int)).toNat)
theorem yV{c:Int}{n:Net}{e:End}(h:e∈ends n):(((eY c n e).2:Nat):Int)=((e.2:Int)+c) % ((row n e.1).length:Int):=by
 obtain⟨z,hz⟩:=aF.mp h;have:=uw hz;exact Int.toNat_of_nonneg<|Ch _<|by omega
theorem Qf{c:Int}{n:Net}{e:End}(h:e∈ends n):eY c n e∈ends n:=by
 obtain⟨z,hz⟩:=aF.mp h;have h1:=uw hz;have h2:=yV (c:=c) h;have h3:((e.2:Int)+c) % ((row n e.1).length:Int) < ((row n e.1).length:Int):=Cs _ (by omega);exact aF.mpr<|YW (e:=eY c n e)<|by show(eY c n e).2 < (row n e.1).length;omega
theorem Qg{c:Int}{n:Net}{e:End}(h:e∈ends n):eY (-c) n (eY c n e)=e:=by
 have h2:=yV (c:=c) h;have h3:=yV (c:=-c)<|Qf (c:=c) h;obtain⟨z,hz⟩:=aF.mp h;have h1:=uw hz;have hr:(eY c n e).1=e.1:=rfl;rw [hr,h2] at h3;have e1:(((e.2:Int)+c) % ((row n e.1).length:Int)+-c) % ((row n e.1).length:Int)=(e.2:Int):=by
  have:(((e.2:Int)+c) % ((row n e.1).length:Int)+-c) % ((row n e.1).length:Int)=((e.2:Int)+c+-c) % ((row n e.1).length:Int):=by
   rw [Int.add_emod,Int.emod_emod,<- Int.add_emod]
  rw [this,show(e.2:Int)+c+-c=(e.2:Int) by omega];exact Gw (by omega)<|by omega
 rw [e1] at h3;have h4:(eY (-c) n<|eY c n e).2=e.2:=by omega
 exact HD rfl h4
theorem q0m{c:Int}{n:Net}{a b:End}(ha:a∈ends n)(hb:b∈ends n)(h:eY c n a=eY c n b):a=b:=by
 rw [<- Qg (c:=c) ha,<- Qg (c:=c) hb,h]
def go(c:Int)(n:Net)(e:End):End:=eY c n<|other n e
theorem pW{c:Int}{n:Net}(T:bN n){e:End}(h:e∈ends n):go c n e∈ends n:=Qf<|yp T h
theorem go_inj{c:Int}{n:Net}(T:bN n){a b:End}(ha:a∈ends n)(hb:b∈ends n)(h:go c n a=go c n b):a=b:=YX T ha hb<|q0m (yp T ha) (yp T hb) h
def two(n:Net)(e:End):End:=go (-1) n<|go 1 n e
theorem yW{n:Net}(T:bN n){e:End}(h:e∈ends n):two n e∈ends n:=pW T<|pW T h
theorem Qh{n:Net}(T:bN n){a b:End}(ha:a∈ends n)(hb:b∈ends n)(h:two n a=two n b):a=b:=go_inj T ha hb<|go_inj T (pW T ha) (pW T hb) h
def wk(n:Net)(e:End):Nat->List End
 | 0=>[]
 | k+1=>wk n e k++[it (two n) k e,go 1 n<|it (two n) k e]
theorem pX(n:Net)(e:End):∀ k,(wk n e k).length=2 * k
 | 0=>rfl
 | k+1=>by
  show(wk n e k++_).length=_;rw [Ad,pX n e k];show 2 * k+2=_;omega
theorem rQ(n:Net)(e:End):∀(k i:Nat),i < k->(wk n e k)[2 * i]?=some (it (two n) i e)
 | 0,i,h=>absurd h<|Fu _
 | k+1,i,h=>by
  show(wk n e k++[it (two n) k e,go 1 n<|it (two n) k e])[2 * i]?=_;have l:=pX n e k
  by_cases hk:i < k
  ·rw [Aj<|by omega];exact rQ n e k i hk
  ·have:i=k:=by omega
   subst this;rw [Am (by omega),l,Gv];rfl
theorem yX(n:Net)(e:End):∀(k i:Nat),i < k->(wk n e k)[2 * i+1]?=some (go 1 n<|it (two n) i e)
 | 0,i,h=>absurd h<|Fu _
 | k+1,i,h=>by
  show(wk n e k++[it (two n) k e,go 1 n<|it (two n) k e])[2 * i+1]?=_;have l:=pX n e k
  by_cases hk:i < k
  ·rw [Aj<|by omega];exact yX n e k i hk
  ·have:i=k:=by omega
   subst this;rw [Am (by omega),l,show 2 * i+1 - 2 * i=1 by omega];rfl
theorem k7o(n:Net)(e:End)(k:Nat):au (wk n e k)=(List.range k).map λi=>it (two n) i e:=by
 apply Cv;intro i;rw [uU,Ah]
 by_cases h:i < k
 ·rw [rQ n e k i h,Ef h];rfl
 ·rw [Aq (by rw [pX];omega),Aq<|by rw [Cj];omega];rfl
theorem HC{n:Net}(T:bN n){e:End}(h:e∈ends n):∀ k,∀ c∈wk n e k,c∈ends n
 | 0,c,hc=>by cases hc
 | k+1,c,hc=>by
  have hk:it (two n) k e∈ends n:=rq (λa ha=>yW T ha) h k
  rcases Ao.mp hc with hc | hc
  ·exact HC T h k c hc
  ·rcases Ar.mp hc with rfl | hc
   ·exact hk
   ·rw [Ae.mp hc];exact pW T hk
structure jm(n:Net)(e:End)(k:Nat):Prop where
 pos:0 < k
 back:it (two n) k e=e
 first:∀ i,0 < i->i < k->it (two n) i e≠e
theorem jm.unique{n:Net}{e:End}{k l:Nat}(a:jm n e k)(b:jm n e l):k=l:=by
 rcases Gx k l with h | h | h
 ·exact absurd a.back<|b.first k a.pos h
 ·exact h
 ·exact absurd b.back<|a.first l b.pos h
noncomputable def HE(n:Net)(e:End):Nat:=by classical exact if h:∃ k,jm n e k then h.choose else 0
theorem uW{n:Net}{e:End}{k:Nat}(h:jm n e k):HE n e=k:=by
 have hx:∃ k,jm n e k:=⟨k,h⟩;unfold HE;rw [dif_pos hx];exact hx.choose_spec.unique h
noncomputable def walker(n:Net)(e:End):List End:=wk n e<|HE n e
structure pY(n:Net)(ws:List End):Prop where
 ends:∀ c∈ws,c∈Nt.ends n
 ne0:0 < ws.length
 even:ws.length % 2=0
 few:ws.length<=2 * (Nt.ends n).length
 at':∀ k,k < ws.length->∃ c,ws[k]?=some c/\ws[(k+1) % ws.length]?=some (go (1 - 2 * ((k:Int) % 2)) n c)
theorem q4f{n:Net}(T:bN n){e:End}(h:e∈Nt.ends n){k:Nat}(p:jm n e k)(hk:k<=(Nt.ends n).length):pY n (wk n e k):=by
 have l:=pX n e k;have p0:=p.pos;refine⟨HC T h k,by omega,by omega,by omega,λj hj=>?_⟩;rw [l] at hj ⊢
 rcases Ec j with h2 | h2
 ·obtain⟨i,rfl⟩:∃ i,j=2 * i:=⟨j / 2,by omega⟩;refine⟨_,rQ n e k i (by omega),?_⟩;rw [Nat.mod_eq_of_lt (by omega),yX n e k i<|by omega];have:(1:Int) - 2 * (((2 * i:Nat):Int) % 2)=1:=by omega
  rw [this]
 ·obtain⟨i,rfl⟩:∃ i,j=2 * i+1:=⟨j / 2,by omega⟩;refine⟨_,yX n e k i (by omega),?_⟩;have e1:(1:Int) - 2 * (((2 * i+1:Nat):Int) % 2)=-1:=by omega
  rw [e1];show _=some (two n<|it (two n) i e)
  by_cases hl:i+1 < k
  ·rw [Nat.mod_eq_of_lt (by omega),show 2 * i+1+1=2 * (i+1) by omega];exact rQ n e k (i+1) hl
  ·have:i+1=k:=by omega
   rw [show 2 * i+1+1=2 * k by omega,Nat.mod_self];have e2:two n (it (two n) i e)=it (two n) k e:=by rw [<- this];rfl
   rw [e2,p.back];exact rQ n e k 0<|by omega
def bf(n:Net)(e:End):Str:=(bq n e).getD ⟨#[]⟩
theorem pZ{n:Net}{e:End}{z:Str}(h:bq n e=some z):bf n e=z:=by unfold bf;rw [h];rfl
noncomputable def c7(n:Net):List End->List Str->List (List End)
 | [],_=>[]
 | e :: r,told=>if bf n e∈told then c7 n r told else walker n e :: c7 n r (told++(au<|walker n e).map (bf n))
end Nt
namespace N4
open PySem L2 Nt bS
theorem Qi{κ:Type} [DecidableEq κ]:∀{kvs:List (κ×V)} {i:Nat} {p:κ×V},(kvs.map (·.1)).Nodup->kvs[i]?=some p->aA kvs p.1=some p.2
 | [],_,_,_,h=>by simp at h
 | q :: r,0,p,_,h=>by
  cases h;exact gG rfl
 | q :: r,i+1,p,hn,h=>by
  rw [Bt,Cr] at hn;have hm:r[i]?=some p:=by simpa using h
  rw [gH λe=>hn.1<|by rw [e];exact Az.mpr ⟨p,Ag hm,rfl⟩];exact Qi hn.2 hm
theorem q4r{κ:Type}{l:List κ}(h:l.Nodup){i j:Nat}{a:κ}(hi:l[i]?=some a)(hj:l[j]?=some a):i=j:=by
 have h1:=(Ab.mp hi).1;have h2:=(Ab.mp hj).1;have e1:=(Ab.mp hi).2;have e2:=(Ab.mp hj).2
 rcases Gx i j with c | c | c
 ·exact absurd (e1.trans e2.symm)<|Bc.mp h i j h1 h2 c
 ·exact c
 ·exact absurd (e2.trans e1.symm)<|Bc.mp h j i h2 h1 c
def g9(c:Int):Sp:=λvs H Q _=>∃(R:Addr) (as:List<|Addr×Addr) (n:Net),vs=[.ref R]/\aw H R as n/\(n.map (·.1)).Nodup/\bN n/\n.length<=1000/\(av n).length<=1000 /\
 ∀(d:Addr) (kvs:List<|List Key×V) (H':Hp),ah H H'->H d=none->H' d=some (.dT kvs)->(∀ e∈ends n,∃ u,aA kvs (key n e)=some (.ref u)/\H' u=some (TN n<|go c n e))->Q (.ref d) H'
section
variable{P:Program}{w:World}{K:PySem.W.Frag}{mg:Str->Option Value}{base:Heap}
abbrev mn:List Str:=["rows","lists"]
abbrev p4:List Str:=["rows","lists","end","other"]
theorem Qj:p4.Nodup:=by decide +kernel
theorem Qk{c:Int}{x y:Str}{st:Stmt}{f:Addr}{fd:FuncData}(h:(x = "left_steps"/\y = "turned_left"/\st=yv)\/(x = "right_steps"/\y = "turned_right"/\st=yw))(F:bw K x x st f fd)(T:Txt mg)
  (GO:aO P w K mg base 2 "other_ends" ["rows"] jR) (GT:aO P w K mg base 2 y ["end","many"]<|gZ λj=>j+c) :
  aB P w K mg base bE 3 f fd ["rows"] (g9 c):=by
 rcases h with ⟨rfl,rfl,rfl⟩ | ⟨rfl,rfl,rfl⟩
 all_goals
  refine F.gb (N:=mn) cU (λvs H Q E h=>?_) λb0 H vs Q E hr h=>?_
  ·obtain⟨R,as,n,rfl,_⟩:=h;rfl
  obtain⟨R,as,n,rfl,hR,hN,hT,hn,ht,q⟩:=h;have nd:mn.Nodup:=by decide +kernel
  have eB:=hR.len;have hu:=hr.u1;have keys:=PQ n as eB;have knd:((g8 n as).map (·.1)).Nodup:=by rw [keys];exact Z' hN
  have HG:(g8 n as).length=n.length:=by have:=CW List.length keys;simpa using this
  refine run_set 1 nd (xV (Zu rfl) T.uD PyProof.Rows.boot_dict (ao (ae 0 (aE ⟨R,as.map (·.1),g8 n as,rfl,?_,?_,?_,?_,λdl rj=>?_⟩))))
  ·rw [Cd];exact hR.lst
  ·rw [Ac,HG,eB]
  ·rw [Ac];exact cj<|by omega
  ·intro j t kv h1 h2;rw [Ah,An] at h1;obtain⟨a,ea,rfl⟩:=h1;have hj:j < n.length:=by have:=(Ab.mp ea).1;omega
   have e:=PR (Aa hj) ea;rw [h2] at e;cases e;exact(hR.tup j a n[j] ea<|Aa hj).1
  have ef:(g8 n as).foldl (λa p=>putK a p.1 p.2) []=g8 n as:=by
   rw [Z9 (acc:=[]) (by rw [Du];exact knd),Du]
  rw [ef];have s1:=aQ rj<|.dK<|g8 n as;have el:(upd H dl<|.dK<|g8 n as) dl=some (.dK<|g8 n as):=az;generalize upd H dl (.dK<|g8 n as)=H1 at s1 el
  first | refine cy (Pr (aP yv) mn p4 2 (Py a8) ?_) | refine cy<|Pr (aP yw) mn p4 2 (Py a8) ?_
  refine bV GO hr<|ao<|ae 0<|aE ⟨R,as,n,rfl,hR.same s1,hN,hT,hn,ht,λd kvs H2 s2 Ql ed val uX kks Qm=>?_⟩;refine⟨d,kvs,rfl,ed,λo D hD cl C s₀ H₀ ex=>?_⟩;have nDd:D≠d:=λe=>by rw [e,az] at hD;cases hD
  have uY:H2 D=none:=by rw [ax nDd] at hD;exact hD
  have jn:H d=none:=kK s1 Ql;have sB:ah H (upd H2 d<|.bI o<|.dT kvs):=dW (s1.trans s2) jn;have kB:∀ b o',b≠d->H2 b=some o'->(upd H2 d<|.bI o<|.dT kvs) b=some o':=λb o' hb h=>by rw [ax hb];exact h
  have tB:∀ b p j,H2 b=some (Tn p j)->(upd H2 d<|.bI o<|.dT kvs) b=some (Tn p j):=λb p j h=>kB b _ (pR h ed) h;have Qn:(upd H2 d<|.bI o<|.dT kvs) d=some (.bI o<|.dT kvs):=az;have Qo:(upd H2 d<|.bI o<|.dT kvs) dl=some (.dK<|g8 n as):=kB _ _ (λe=>by rw [e,Ql] at el;cases el)<|s2 _ _ el;have hRB:=hR.same sB;generalize upd H2 d (.bI o<|.dT kvs)=HB at hD sB tB Qn Qo hRB;have HH:=kK sB hD;refine ZY (λi σ' H'=>(∃ v1 v2,σ'=[some<|.ref R,some<|.ref dl]++[v1,v2])/\∃ p5:List<|List Key×V,H' D=some (.dT p5)/\p5.length<=i/\ah HB H' /\
   (∀ j k x e,j < i->kvs[j]?=some (k,x)->e∈ends n->k=key n e->∃ u,aA p5 (key n e)=some (.ref u)/\H' u=some (TN n<|go c n e)))
   ⟨⟨none,none,rfl⟩,[],az,Ai _,aQ hD _,λj k x e h=>absurd h<|Fu _⟩ ?_ ?_ ?_
  ·rintro i σ' H' _ ⟨_,_,_,_,sm,_⟩;exact sm _ _ Qn
  ·rintro i k x b Tt σ' H' hx ⟨⟨v1,v2,rfl⟩,p5,eD,l2,sm,all⟩ hb jS;have hi:i < kvs.length:=(Ab.mp hx).1;obtain⟨e,he,rfl⟩:=kks k<|Az.mpr ⟨_,Ag hx,rfl⟩;obtain⟨u,hv,F8⟩:=val e he;have eI:aA kvs (key n e)=some x:=Qi uX hx;rw [hv] at eI;cases eI;have yg:=yp hT he;obtain⟨zo,Qp⟩:=aF.mp yg;have kN:=gU Qp;have yY:=uw Qp;have nmE:nameAt n (other n e).1=n[(other n e).1].1:=rJ kN;have sT:=aQ jS<|.tup [.ref b,.ref u];have Qq:=sT _ _<|sm _ _<|tB _ _ _ F8;refine jj rfl (bt.of az) (aZ 2 Qj<|aZ 3 Qj ?_);refine gR ?_;rw [BL rfl];have Qr:as[(other n e).1]?=some (as[(other n e).1]'(by omega)):=Aa (by omega);have uZ:n[(other n e).1]?=some n[(other n e).1]:=Aa kN;have ev:aA (g8 n as) (Sum.inr<|nameAt n (other n e).1)=some (.ref (as[(other n e).1]'(by omega)).2):=by rw [nmE];exact PH knd<|PR uZ Qr
   have HI:=(hR.tup _ _ _ Qr uZ).2;have va:row n (other n e).1=n[(other n e).1].2:=yF kN;refine Pq hu<|ae 2<|bV GT hr<|ao<|ae 3<|ao<|dh jA T.len JG<|ao<|iE hu<|ae 1<|fu m8<|ae 3<|aK ⟨u,_,_,.str<|nameAt n (other n e).1,rfl,rfl,bt.of Qq,rfl,?_⟩;refine⟨dl,.ref (as[(other n e).1]'(by omega)).2,rfl,by rw [<- ev];exact aX.k (k:=Sum.inr<|nameAt n (other n e).1)<|sT _ _<|sm _ _ Qo,aE ⟨_,_,rfl,.inl<|ai.of<|sT _ _<|sm _ _<|sB _ _ HI,aE ⟨u,_,_,_,rfl,Qq,?_,λt2 H4 s4 Qs=>?_⟩⟩⟩
   ·rw [Ac,<- va];omega
   rw [Ac,<- va] at Qs;have yZ:H4 t2=some (TN n<|go c n e):=by
    rw [Qs];have:=yV (c:=c) yg;show some (Tn _ _)=some (Tn _ (((go c n e).2:Nat):Int));unfold go;rw [this];rfl
   have hb4:=s4 _ _<|sT _ _ hb;refine⟨_,b9.t (k:=key n e) (s4 _ _<|sT _ _ eD) hb4 (cj<|by omega),⟨_,_,rfl⟩,_,az,?_,dW ((sm.trans sT).trans s4) hD,λj k' x' e' hj dC yi t4=>?_⟩
   ·have:=je p5 (key n e)<|.ref t2;omega
   ·subst t4
    by_cases Qt:j=i
    ·subst Qt;rw [hx] at dC;have hke:key n e=key n e':=CW Prod.fst<|Option.some.inj dC;obtain⟨z1,pQ⟩:=aF.mp he;obtain⟨z2,yL⟩:=aF.mp yi;have:=rK hN (gU pQ) (gU yL) hke;subst this;exact⟨t2,by rw [dI,BL rfl],by rw [ax<|pR yZ<|s4 _ _<|sT _ _ eD];exact yZ⟩
    ·obtain⟨u3,hu3,hu4⟩:=all j _ x' e' (by omega) dC yi rfl;refine⟨u3,?_,?_⟩
     ·rw [dI,BK,hu3];intro hk;have h1:(kvs.map (·.1))[j]?=some (key n e'):=by rw [Ah,dC];rfl
      have h2:(kvs.map (·.1))[i]?=some (key n e'):=by rw [Ah,hx,hk];rfl
      exact Qt<|q4r uX h1 h2
     ·have q4:=s4 _ _<|sT _ _ hu4;rw [ax<|pR q4<|s4 _ _<|sT _ _ eD];exact q4
  ·rintro σ' H' ⟨_,p5,eD,_,sm,all⟩;refine q D p5 H' (sB.trans sm) HH eD λe he=>?_;obtain⟨u,hv,_⟩:=val e he;obtain⟨i,hi⟩:∃ i:Nat,(kvs.map (·.1))[i]?=some (key n e):=Ay<|Ni hv;rw [Ah,An] at hi;obtain⟨⟨k,x⟩,hx,hk⟩:=hi;exact all i k x e (Ab.mp hx).1 hx he hk
theorem q53{f:Addr}{fd:FuncData}(F:bw K "left_steps" "left_steps" yv f fd)(T:Txt mg)(GO:aO P w K mg base 2 "other_ends" ["rows"] jR)(GT:aO P w K mg base 2 "turned_left" ["end","many"]<|gZ λj=>j+1):aB P w K mg base bE 3 f fd ["rows"] (g9 1):=Qk (.inl ⟨rfl,rfl,rfl⟩) F T GO GT
theorem q5u{f:Addr}{fd:FuncData}(F:bw K "right_steps" "right_steps" yw f fd)(T:Txt mg)(GO:aO P w K mg base 2 "other_ends" ["rows"] jR)(GT:aO P w K mg base 2 "turned_right" ["end","many"]<|gZ λj=>j - 1):aB P w K mg base bE 3 f fd ["rows"] (g9 (-1)):=Qk (.inr ⟨rfl,rfl,rfl⟩) F T GO GT
def dX(n:Net)(H:Hp)(ts:List Addr)(es:List Nt.End):Prop:=ts.length=es.length/\∀(j:Nat) t e,ts[j]?=some t->es[j]?=some e->H t=some (TN n e)
theorem dX.keep{n:Net}{H H':Hp}{ts:List Addr}{es:List Nt.End}(h:dX n H ts es)(k:∀ t p j,H t=some (Tn p j)->H' t=some (Tn p j)):dX n H' ts es:=⟨h.1,λj t e h1 h2=>k _ _ _<|h.2 j t e h1 h2⟩
theorem dX.same{n:Net}{H H':Hp}{ts:List Addr}{es:List Nt.End}(h:dX n H ts es)(s:ah H H'):dX n H' ts es:=h.keep λ_ _ _ q=>s _ _ q
theorem dX.append{n:Net}{H:Hp}{ts us:List Addr}{es fs:List Nt.End}(h:dX n H ts es)(g:dX n H us fs):dX n H (ts++us) (es++fs):=by
 refine⟨by rw [Ad,Ad,h.1,g.1],λj t e h1 h2=>?_⟩;have hl:=h.1
 by_cases hj:j < ts.length
 ·rw [Aj hj] at h1;rw [Aj<|by omega] at h2;exact h.2 j t e h1 h2
 ·rw [Am<|by omega] at h1 h2;rw [<- hl] at h2;exact g.2 _ t e h1 h2
theorem dX.two{n:Net}{H:Hp}{t u:Addr}{a b:Nt.End}(h1:H t=some (TN n a))(h2:H u=some (TN n b)):dX n H [t,u] [a,b]:=⟨rfl,λj x e h3 h4=>by
 match j with
 | 0=>cases h3;cases h4;exact h1
 | 1=>cases h3;cases h4;exact h2
 | j+2=>simp at h3⟩
theorem q6m{n:Net}(hN:(n.map (·.1)).Nodup){a b:Nt.End}(ha:a∈ends n)(hb:b∈ends n):decide (nameAt n a.1=nameAt n b.1/\(a.2:Int)=(b.2:Int))=decide (a=b):=by
 obtain⟨z1,h1⟩:=aF.mp ha;obtain⟨z2,h2⟩:=aF.mp hb;refine decide_eq_decide.mpr ⟨λ⟨p,q⟩=>rK hN (gU h1) (gU h2) (by unfold key;rw [p,q]),λe=>by rw [e];exact⟨rfl,rfl⟩⟩
theorem HK{K:PySem.W.Frag}{H:Hp}{d:Addr}{xs:List V}(h:H d=some (.lst xs)):qU K "list" (.ref d) H:=Or.inl ⟨rfl,xs,ai.of h⟩
def bj(n:Net)(H:Hp)(d:Addr)(c:Int):Prop:=∃ kvs,H d=some (.dT kvs)/\∀ e∈ends n,∃ u,aA kvs (key n e)=some (.ref u)/\H u=some (TN n<|go c n e)
theorem bj.same{n:Net}{H H':Hp}{d:Addr}{c:Int}(h:bj n H d c)(s:ah H H'):bj n H' d c:=let ⟨kvs,h1,h2⟩:=h;⟨kvs,s _ _ h1,λe he=>let ⟨u,a,b⟩:=h2 e he;⟨u,a,s _ _ b⟩⟩
theorem bj.get{n:Net}{H:Hp}{d t:Addr}{c:Int}{e:Nt.End}(h:bj n H d c)(he:e∈ends n)(ht:H t=some (TN n e)):∃ u,aX H d (.ref t) (some<|.ref u)/\H u=some (TN n<|go c n e):=by
 obtain⟨kvs,h1,h2⟩:=h;obtain⟨u,a,b⟩:=h2 e he;exact⟨u,by rw [<- a];exact aX.t (k:=key n e) h1 ht,b⟩
def p6:Sp:=λvs H Q _=>∃(dl dr t:Addr) (n:Net) (e:Nt.End),vs=[.ref dl,.ref dr,.ref t]/\bj n H dl 1/\bj n H dr (-1)/\(n.map (·.1)).Nodup/\bN n/\(av n).length<=1000/\e∈ends n/\H t=some (TN n e) /\
 ∀(l:Addr) (ts:List Addr) (k:Nat) (H':Hp),ah H H'->H l=none->H' l=some (.lst<|ts.map V.ref)->dX n H' ts (wk n e k)->jm n e k->k<=(ends n).length->Q (.ref l) H'
abbrev NWf:List Str:=["lefts","rights","first","walker","end"]
theorem vb:aj NWf ["lefts","rights","first"] (aP pC):=cU
theorem HL(ts:List Addr)(a b:Addr):ts.map V.ref++[V.ref a,V.ref b]=(ts++[a]).map V.ref++[V.ref b]:=by rw [Ak,Bf];rfl
theorem q52{f:Addr}{fd:FuncData}(F:bw K "walker_from" "walker_from" pC f fd)(T:Txt mg):aB P w K mg base bE 1 f fd ["lefts","rights","first"] p6:=by
 refine F.gc vb λb0 H vs Q E hr h=>?_;obtain⟨dl,dr,t,n,e,rfl,hL,Qu,hN,hT,eZ,he,ht,q⟩:=h;have nd:=vb.nd;have yY:=yE n;have hu:=hr.u1;have un:=hr.jI;obtain⟨k,k0,k1,k2⟩:=OU (f:=two n) (S:=ends n) (λa ha=>yW hT ha) (λa ha b hb=>Qh hT ha hb) he;obtain⟨u1,g1,e1⟩:=hL.get he ht;refine run_set 3 nd<|gO<|ao<|ae 2<|ao<|iE hu<|ae 0<|ae 2 ⟨dl,.ref u1,rfl,g1,aE ⟨Z2,λl hl=>?_⟩⟩;have s1:=aQ hl<|.lst [.ref t,.ref u1];have el:(upd H l<|.lst [.ref t,.ref u1]) l=some (.lst<|[t,u1].map V.ref):=az;generalize upd H l (.lst [.ref t,.ref u1])=H1 at s1 el;obtain⟨u2,g2,e2⟩:=(Qu.same s1).get (pW hT he)<|s1 _ _ e1;refine run_set 4 nd<|iE hu<|ae 1<|fu lF<|ae 3<|Nw Mx<|aK ⟨1,rfl,l,_,_,.ref u1,rfl,rfl,ai.of el,rfl,dr,.ref u2,rfl,g2,?_⟩;refine OL (λm σ H2=>∃(j:Nat) (ts:List Addr) (u:Addr),m=k - j/\0 < j/\j<=k/\ah H H2/\H2 l=some (.lst<|ts.map V.ref)/\dX n H2 ts (wk n e j)/\H2 u=some (TN n<|it (two n) j e)/\(∀ i,0 < i->i < j->it (two n) i e≠e)/\σ=[some<|.ref dl,some<|.ref dr,some<|.ref t,some<|.ref l,some<|.ref u])
  (m0:=k - 1) ⟨1,[t,u1],u2,rfl,Nat.one_pos,k0,s1,el,dX.two (s1 _ _ ht)<|s1 _ _ e1,e2,λi h1 h2=>by omega,rfl⟩ ?_
 rintro m σ H2 ⟨j,ts,u,rfl,j0,j1,sH,vd,at2,eu,hf,rfl⟩;have HM:it (two n) j e∈ends n:=rq (λa ha=>yW hT ha) he j;refine d7 (E6 un) (ae 4<|ae 2 ⟨1,_,by decide,q24 eu<|sH _ _ ht,_,rfl,?_⟩);rw [q6m hN HM he];have tl:=at2.1;rw [pX] at tl
 by_cases c:it (two n) j e=e
 ·rw [BX c];exact cN<|cy<|ae 3<|q l ts j H2 sH hl vd at2 ⟨j0,c,hf⟩<|by omega
 ·rw [BR c];have jk:j < k:=by
   rcases Dz j k with h | h
   ·exact h
   ·have:j=k:=by omega
    subst this;exact absurd k2 c
  obtain⟨v1,g3,e3⟩:=(hL.same sH).get HM eu;refine cO<|jD<|yn FW KY KZ CF<|ae 3 (v:= .ref l) ⟨HK vd,gO<|ao<|ae 4<|ao<|iE hu<|ae 0<|ae 4 ⟨dl,.ref v1,rfl,g3,aE ⟨Z2,λp hp=>?_⟩⟩⟩;have s3:=aQ hp<|.lst [.ref u,.ref v1];have nlp:l≠p:=b4 vd hp;refine⟨l,p,ts.map V.ref,[.ref u,.ref v1],rfl,rfl,s3 _ _ vd,az,small (by rw [Ac];show _+2<=100000;omega),?_⟩;have p7:ah H (upd (upd H2 p<|.lst [.ref u,.ref v1]) l<|.lst<|ts.map V.ref++[.ref u,.ref v1]):=dW (sH.trans s3) hl;have HP:(upd (upd H2 p<|.lst [.ref u,.ref v1]) l<|.lst<|ts.map V.ref++[.ref u,.ref v1]) l=some (.lst<|(ts++[u,v1]).map V.ref):=by rw [az,Ak];rfl
  have kt:∀ b p' j',H2 b=some (Tn p' j')->(upd (upd H2 p<|.lst [.ref u,.ref v1]) l<|.lst<|ts.map V.ref++[.ref u,.ref v1]) b=some (Tn p' j'):=λb p' j' h=>by
   rw [ax<|cv h vd λz=>nomatch z];exact s3 _ _ h
  generalize upd (upd H2 p<|.lst [.ref u,.ref v1]) l (.lst<|ts.map V.ref++[.ref u,.ref v1])=H3 at p7 HP kt;obtain⟨v2,g4,e4⟩:=(Qu.same p7).get (pW hT HM)<|kt _ _ _ e3;refine run_set 4 nd<|iE hu<|ae 1<|fu lF<|ae 3<|Nw Mx<|aK ⟨1,rfl,l,_,_,.ref v1,rfl,rfl,ai.of HP,?_,dr,.ref v2,rfl,g4,?_⟩
  ·rw [Ak];show f6 (ts.map V.ref++[V.ref u,V.ref v1]) (-1)=_;rw [HL];exact V5 _ _
  refine bp ⟨k - (j+1),by omega,j+1,ts++[u,v1],v2,rfl,Hu _,jk,p7,HP,(at2.keep kt).append<|dX.two (kt _ _ _ eu)<|kt _ _ _ e3,e4,λi h1 h2=>?_,rfl⟩
  by_cases di:i=j
  ·subst di;exact c
  ·exact hf i h1<|by omega
open bR
theorem Qv{α β:Type}(f:α->β):∀ xs:List α,au (xs.map f)=(au xs).map f
 | []=>rfl
 | [a]=>rfl
 | a :: b :: r=>by
  show f a :: au (r.map f)=f a :: (au r).map f;rw [Qv f r]
theorem dX.au{n:Net}{H:Hp}{ts:List Addr}{es:List Nt.End}(h:dX n H ts es):dX n H (L2.au ts) (L2.au es):=by
 refine⟨by rw [uV,uV,h.1],λj t e h1 h2=>?_⟩;rw [uU] at h1 h2;exact h.2 _ t e h1 h2
theorem nI{P:Program}{w:World}{H:Hp}{a d:Addr}{o:HO}{zs:List Str}(h:H a=some o)(g:H d=some (aT P w d zs))(ho:∀ φ,o ≠ .ext φ):a≠d:=λe=>by
 rw [e,g] at h;exact ho _ (Option.some.inj h).symm
structure jo(n:Net)(H:Hp)(L:Addr)(ls:List Addr)(ws:List<|List Nt.End):Prop where
 lst:H L=some (.lst<|ls.map V.ref)
 len:ls.length=ws.length
 cC:ls.Nodup
 out:L∉ls
 at':∀(j:Nat) l w,ls[j]?=some l->ws[j]?=some w->∃ ts,H l=some (.lst<|ts.map V.ref)/\dX n H ts w
theorem jo.same{n:Net}{H H':Hp}{L:Addr}{ls:List Addr}{ws:List (List Nt.End)}(h:jo n H L ls ws)(s:ah H H'):jo n H' L ls ws:=
 ⟨s _ _ h.lst,h.len,h.cC,h.out,λj l w h1 h2=>let ⟨ts,a,b⟩:=h.at' j l w h1 h2;⟨ts,s _ _ a,b.same s⟩⟩
theorem jo.keep{n:Net}{H H':Hp}{L:Addr}{ls:List Addr}{ws:List (List Nt.End)}(h:jo n H L ls ws)(hL:H' L=H L)(kl:∀ l∈ls,∀ o,H l=some o->H' l=some o)(kt:∀ t p j,H t=some (Tn p j)->H' t=some (Tn p j)):jo n H' L ls ws:=
 ⟨by rw [hL];exact h.lst,h.len,h.cC,h.out,λj l w h1 h2=>let ⟨ts,a,b⟩:=h.at' j l w h1 h2;⟨ts,kl l (Ag h1) _ a,b.keep kt⟩⟩
theorem jo.snoc{n:Net}{H H':Hp}{L l:Addr}{ls ts:List Addr}{ws:List (List Nt.End)}{v:List Nt.End}(h:jo n H L ls ws)(hL:H' L=some (.lst<|ls.map V.ref++[.ref l]))(kl:∀ l∈ls,∀ o,H l=some o->H' l=some o)(kt:∀ t p j,H t=some (Tn p j)->H' t=some (Tn p j))
  (hl:H' l=some (.lst<|ts.map V.ref)) (hv:dX n H' ts v) (hn:l∉ls) (Qw:L≠l):jo n H' L (ls++[l]) (ws++[v]):=by
 refine⟨by rw [hL,Ak];rfl,by rw [Ad,Ad,h.len];rfl,ni h.cC hn,λhm=>?_,λj a x h1 h2=>?_⟩
 ·rcases Ao.mp hm with hm | hm
  ·exact h.out hm
  ·exact Qw<|Ae.mp hm
 ·have hlen:=h.len
  by_cases hj:j < ls.length
  ·rw [Aj hj] at h1;rw [Aj<|by omega] at h2;obtain⟨us,q1,q2⟩:=h.at' j a x h1 h2;exact⟨us,kl a (Ag h1) _ q1,q2.keep kt⟩
  ·rw [Am<|by omega] at h1 h2;have eG:j - ls.length=0:=by
    have:=(Ab.mp h1).1;simp at this;omega
   rw [eG] at h1;rw [<- hlen,eG] at h2;cases h1;cases h2;exact⟨ts,hl,hv⟩
def y4:Sp:=λvs H Q _=>∃(R:Addr) (as:List<|Addr×Addr) (n:Net),vs=[.ref R]/\aw H R as n/\(n.map (·.1)).Nodup/\bN n/\n.length<=1000/\(av n).length<=400 /\
 ∀(L:Addr) (ls:List Addr) (H':Hp),ah H H'->H L=none->jo n H' L ls (c7 n (ends n) [])->(∀ l∈ls,H l=none)->Q (.ref L) H'
theorem q0f{n:Net}{i:Nat}{p:Str×Nt.End}(h:(bo n)[i]?=some p):(ends n)[i]?=some p.2:=by unfold ends;rw [Ah,h];rfl
abbrev NWs:List Str:=["rows","lefts","rights","names","told","walkers","first","walker","end"]
theorem ve:aj NWs ["rows"] (aP pB):=cU
theorem q4b{f:Addr}{fd:FuncData}(F:bw K "walkers_of" "walkers_of" pB f fd)(T:Txt mg)
  (GL:aO P w K mg base 3 "left_steps" ["rows"]<|g9 1)
  (GR:aO P w K mg base 3 "right_steps" ["rows"]<|g9 (-1))
  (GN:aO P w K mg base 3 "ties_by_end" ["rows"] mh)
  (GO:aO P w K mg base 3 "ends_in_order" ["rows"] G0)
  (GW:aO P w K mg base 3 "walker_from" ["lefts","rights","first"] p6) :
  aB P w K mg base bE 4 f fd ["rows"] y4:=by
 refine F.gc ve λb0 H vs Q E hr h=>?_;obtain⟨R,as,n,rfl,hR,hN,hT,hn,eZ,q⟩:=h;have nd:=ve.nd;have yY:=yE n;have hu:=hr.u1;show Run _ _ _ [some<|.ref R,none,none,none,none,none,none,none,none] H;refine run_set 1 nd (bV GL hr<|ao<|ae 0<|aE ⟨R,as,n,rfl,hR,hN,hT,hn,by omega,λdl kl H1 s1 n1 e1 v1=>?_⟩);refine run_set 2 nd (bV GR hr<|ao<|ae 0<|aE ⟨R,as,n,rfl,hR.same s1,hN,hT,hn,by omega,λdr kr H2 s2 n2 e2 v2=>?_⟩);refine run_set 3 nd (bV GN hr<|ao<|ae 0<|aE ⟨R,as,n,rfl,hR.same<|s1.trans s2,hN,hn,by omega,λdn kn H3 s3 n3 e3 v3=>?_⟩);refine run_set 4 nd<|q0p T.pE λD hD=>?_;refine run_set 5 nd<|gO<|aE ⟨Z0,λL hL=>?_⟩;have hSL:bj n H3 dl 1:=bj.same ⟨kl,e1,v1⟩<|s2.trans s3;have hSR:bj n H3 dr (-1):=bj.same ⟨kr,e2,v2⟩ s3;have p8:=(s1.trans s2).trans s3;have y7:L≠D:=λe=>by rw [e,az] at hL;cases hL
 have hL3:H3 L=none:=by rw [ax y7] at hL;exact hL
 have HH:=kK p8 hD;have kQ:=kK p8 hL3;have sB:ah H3 (upd (upd H3 D<|aT P w D []) L<|.lst []):=(aQ hD _).trans<|aQ hL _;have Qx:(upd (upd H3 D<|aT P w D []) L<|.lst []) D=some (aT P w D []):=by rw [ax<|CJ y7,az]
 have rR:(upd (upd H3 D<|aT P w D []) L<|.lst []) L=some (.lst []):=az;have HQ:=p8.trans sB;have vf:=hSL.same sB;have vg:=hSR.same sB;have Qy:=sB _ _ e3;show Run _ _ _ [some<|.ref R,some<|.ref dl,some<|.ref dr,some<|.ref dn,some<|.ref D,some<|.ref L,none,none,none] (upd (upd H3 D<|aT P w D []) L<|.lst []);generalize upd (upd H3 D<|aT P w D []) L (.lst [])=HB at sB Qx rR HQ vf vg Qy;refine jE (bV GO hr<|ao<|ae 0<|aE ⟨R,as,n,rfl,hR.same HQ,hn,by omega,λU us H5 s5 n5 e5 HR=>⟨U,rfl,⟨_,ai.of e5⟩,?_⟩⟩);have rS:=HQ.trans s5;have kP:=s5 _ _ Qx;have y8:=s5 _ _ rR;have HU:=vf.same s5;have HV:=vg.same s5;have HZ:=s5 _ _ Qy;have nUL:U≠L:=λe=>by rw [e,rR] at n5;cases n5
 have kR:us.length=(ends n).length:=by rw [HR.1];unfold ends;rw [Ac]
 refine jF (xs:=us.map V.ref) (λi σ H'=>∃(zs told:List Str) (ls:List Addr) (ws:List<|List Nt.End) (u1 u2 u3:Option V),(∀ b o,b≠D->b≠L->H5 b=some o->H' b=some o)/\H' D=some (aT P w D zs)/\zs.Nodup/\(∀ z∈zs,z∈av n)/\(∀ z,z∈zs↔z∈told) /\
  jo n H' L ls ws/\(∀ l∈ls,H5 l=none)/\ls.length<=i/\c7 n (ends n) []=ws++c7 n ((ends n).drop i) told/\σ=[some<|.ref R,some<|.ref dl,some<|.ref dr,some<|.ref dn,some<|.ref D,some<|.ref L,u1,u2,u3])
  ⟨[],[],[],[],_,_,_,λb o _ _ h=>h,kP,Ds,λz h=>by simp at h,λz=>by simp,⟨y8,rfl,Ds,by simp,λj l w h=>by simp at h⟩,λl h=>by simp at h,Ai _,rfl,rfl⟩ ?_ ?_ ?_
 ·rintro i σ H' _ ⟨_,_,_,_,_,_,_,kp,_⟩;exact ai.of<|kp _ _ (nI e5 kP λφ z=>nomatch z) nUL e5
 ·rintro i x σ H' hx ⟨zs,told,ls,ws,u1,u2,u3,kp,eD,zn,zt,zm,hW,hf,lS,vh,rfl⟩;have hi:i < us.length:=by
   have:=(Ab.mp hx).1;rw [Ac] at this;exact this
  rw [Ah,Aa hi] at hx;cases hx;have Ia:i < (bo n).length:=by have:=HR.1;omega
  have y9:H5 us[i]=some (TN n (bo n)[i].2):=HR.2 i us[i] (bo n)[i] (Aa hi)<|Aa Ia;have rT:=q0f<|Aa Ia;have iX:bq n (bo n)[i].2=some (bo n)[i].1:=bh.mp (by have:=Bv Ia;exact this);generalize (bo n)[i]=pr at y9 rT iX;obtain⟨z,e⟩:=pr;have y9:H5 us[i]=some (TN n e):=y9;have iX:bq n e=some z:=iX;have rT:(ends n)[i]?=some e:=rT;have he:e∈ends n:=Ag rT;have nJ:(ends n).drop i=e :: (ends n).drop (i+1):=by
   have Qz:i < (ends n).length:=by omega
   rw [Cc Qz]
   congr 1
   have:=Aa Qz;rw [rT] at this;exact(Option.some.inj this).symm
  have QA:∀{b p j},H5 b=some (Tn p j)->H' b=some (Tn p j):=λ{b p j} h=>kp _ _ (nI h kP λφ z=>nomatch z) (cv h y8 λz=>nomatch z) h;have gY:=QA y9;have Ib:H' dn=some (.dT kn):=kp _ _ (nI HZ kP λφ z=>nomatch z) (cv HZ y8 λz=>nomatch z) HZ;have c6:∀{d c},bj n H5 d c->bj n H' d c:=λ{d c} ⟨kvs,a,b⟩=>⟨kvs,kp _ _ (nI a kP λφ z=>nomatch z) (cv a y8 λz=>nomatch z) a,λe he=>let ⟨u,p,r⟩:=b e he;⟨u,p,QA r⟩⟩;have Ic:aX H' dn (.ref us[i]) (some<|.str z):=by rw [<- v3 e z iX];exact aX.t (k:=key n e) Ib gY
  refine aZ 6 nd ?_;refine iz<|d7 j8z<|iE hu<|ae 3<|ae 6 ⟨dn,.str z,rfl,Ic,ae 4 ⟨z,D,zs,rfl,rfl,eD,_,rfl,?_⟩⟩;refine lK (λc=>?_) λc=>?_
  ·have hz:z∉zs:=CG c;have zg:bf n e∉told:=by rw [pZ iX];exact λh=>hz<|(zm z).mpr h
   refine run_set 7 nd (bV GW hr<|ao<|ae 1<|ao<|ae 2<|ao<|ae 6<|aE ⟨dl,dr,us[i],n,e,rfl,c6 HU,c6 HV,hN,hT,by omega,he,gY,λl ts k H6 s6 n6 e6 at6 pr hk=>?_⟩);have hpe:=uW pr;have hwe:walker n e=wk n e k:=by unfold walker;rw [hpe]
   have Ie:=s6 _ _ hW.lst;have dw:=s6 _ _ eD;have Ig:L≠l:=b4 hW.lst n6;have nlD:D≠l:=b4 eD n6;refine jD (ro<|ae 5 ⟨L,rfl,⟨_,Ie⟩,ae 7 ⟨_,Ie,by rw [Ac];exact cj (by omega),?_⟩⟩);have k7:∀ b o,b≠L->H6 b=some o->(upd H6 L<|.lst<|ls.map V.ref++[.ref l]) b=some o:=λb o hb h=>by rw [ax hb];exact h
   have QE:(upd H6 L<|.lst<|ls.map V.ref++[.ref l]) L=some (.lst<|ls.map V.ref++[.ref l]):=az;generalize upd H6 L (.lst<|ls.map V.ref++[.ref l])=H7 at k7 QE;have QH:∀ t p j,H6 t=some (Tn p j)->H7 t=some (Tn p j):=λt p j h=>k7 _ _ (cv h Ie λz=>nomatch z) h;have e7:=k7 _ _ (CJ Ig) e6;have vi:=k7 _ _ (CJ y7) dw;have QI:=at6.keep QH;have QN:l∉ls:=λhm=>by
    obtain⟨j,hj⟩:=Ay hm;have hlen:=hW.len;have Ih:j < ws.length:=by have:=(Ab.mp hj).1;omega
    obtain⟨_,a,_⟩:=hW.at' j l ws[j] hj<|Aa Ih;rw [n6] at a;cases a
   have hW7:jo n H7 L (ls++[l]) (ws++[wk n e k]):=hW.snoc QE (λa ha o ho=>k7 _ _ (λq=>hW.out<|q ▸ ha)<|s6 _ _ ho) (λt p j h=>QH _ _ _<|s6 _ _ h) e7 QI QN Ig;have l57:H5 l=none:=by
    cases q5:H5 l with
    | none=>rfl
    | some o=>rw [kp _ _ (CJ nlD) (CJ Ig) q5] at n6;cases n6
   have hf7:∀ a∈ls++[l],H5 a=none:=λa ha=>by
    rcases Ao.mp ha with ha | ha
    ·exact hf a ha
    ·rw [Ae.mp ha];exact l57
   have kp7:∀ b o,b≠D->b≠L->H5 b=some o->H7 b=some o:=λb o h1 h2 h=>k7 _ _ h2<|s6 _ _<|kp b o h1 h2 h;have zh:(ls++[l]).length<=i+1:=by rw [Ad];show ls.length+1<=_;omega
   have Ii:c7 n (ends n) []=(ws++[wk n e k])++c7 n ((ends n).drop<|i+1) (told++(au<|wk n e k).map (bf n)):=by
    rw [vh,nJ];show ws++(if bf n e∈told then _ else _)=_;rw [BK zg,hwe,Bf];rfl
   have nK:=HC hT he k;refine jE<|k8j<|ae 7 ⟨l,_,rfl,ai.of e7,λp hp=>⟨p,rfl,⟨_,ai.of az⟩,?_⟩⟩;rw [Qv];have s8:=aQ hp<|.lst<|(au ts).map V.ref;have e8:(upd H7 p<|.lst<|(au ts).map V.ref) p=some (.lst<|(au ts).map V.ref):=az;have jU:=s8 _ _ vi;have rV:=hW7.same s8;have zi:=(QI.same s8).au;have QO:∀ b o,b≠D->b≠L->H5 b=some o->(upd H7 p<|.lst<|(au ts).map V.ref) b=some o:=λb o h1 h2 h=>s8 _ _<|kp7 b o h1 h2 h;have Ij:=s8 _ _ (k7 _ _ (cv Ib hW.lst λz=>nomatch z)<|s6 _ _ Ib);generalize upd H7 p (.lst<|(au ts).map V.ref)=H8 at s8 e8 jU rV zi QO Ij;have Ik:p≠D:=nI e8 jU λφ z=>nomatch z;refine jF (xs:=(au ts).map V.ref) (λm σ H9=>∃(iA:List Str) (u3:Option V),(∀ b o,b≠D->H8 b=some o->H9 b=some o)/\H9 D=some (aT P w D iA)/\iA.Nodup/\(∀ z∈iA,z∈av n)/\(∀ z,z∈iA↔z∈told++((au<|wk n e k).take m).map (bf n)) /\
    σ=[some<|.ref R,some<|.ref dl,some<|.ref dr,some<|.ref dn,some<|.ref D,some<|.ref L,some<|.ref us[i],some<|.ref l,u3]) ⟨zs,_,λb o _ h=>h,jU,zn,zt,λz=>by rw [zm z];simp,rfl⟩ ?_ ?_ ?_
   ·rintro m σ H9 _ ⟨_,_,k9,_⟩;exact ai.of<|k9 _ _ Ik e8
   ·rintro m x σ H9 hx ⟨iA,u3,k9,zj,vj,zk,zp,rfl⟩;have hm:m < (au ts).length:=by
     have:=(Ab.mp hx).1;rw [Ac] at this;exact this
    have l8:=zi.1;rw [Ah,Aa hm] at hx;cases hx;have Il:m < (au<|wk n e k).length:=by omega
    have Im:=zi.2 m _ _ (Aa hm)<|Aa Il;have hcw:(au<|wk n e k)[m]∈wk n e k:=by
     have h1:(au<|wk n e k)[m]?=some (au<|wk n e k)[m]:=Aa Il;rw [uU] at h1;exact Ag h1
    have QP:=nK _ hcw;obtain⟨y,hy⟩:=aF.mp QP;have fS:(au<|wk n e k).take (m+1)=(au<|wk n e k).take m++[(au<|wk n e k)[m]]:=by rw [Bz,Aa Il];rfl
    generalize (au<|wk n e k)[m]=c at Im QP hy fS;have hc9:H9 (au ts)[m]=some (TN n c):=k9 _ _ (nI Im jU λφ z=>nomatch z) Im;have ed9:H9 dn=some (.dT kn):=k9 _ _ (nI Ij jU λφ z=>nomatch z) Ij;have hd9:aX H9 dn (.ref (au ts)[m]) (some<|.str y):=by rw [<- v3 c y hy];exact aX.t (k:=key n c) ed9 hc9
    have zl:iA.length<=(av n).length:=aG vj zk;refine aZ 8 nd ?_;refine jD<|q2b<|ae 4 ⟨D,rfl,⟨_,zj⟩,iE hu<|ae 3<|ae 8 ⟨dn,.str y,rfl,hd9,y,iA,rfl,zj,by omega,bp ⟨added iA y,_,λb o hb h=>?_,az,?_,λz hz=>?_,λz=>?_,rfl⟩⟩⟩
    ·rw [ax hb];exact k9 b o hb h
    ·unfold added
     split
     ·exact vj
     ·rename_i hny;exact ni vj hny
    ·rcases (EL iA y z).mp hz with h | h
     ·exact zk z h
     ·rw [h];exact px hy
    ·rw [EL,zp z,fS,Ak,<- Bf,Ao (s:=told++_)];show _\/z=y↔_\/z∈[bf n c];rw [pZ hy,Ae]
   ·rintro σ H9 ⟨iA,u3,k9,zj,vj,zk,zp,rfl⟩;have l8:=zi.1;rw [Ac,l8,Br] at zp;refine bp<|bp ⟨iA,told++(au<|wk n e k).map (bf n),ls++[l],ws++[wk n e k],_,_,_,λb o h1 h2 h=>k9 _ _ h1<|QO b o h1 h2 h,zj,vj,zk,zp,?_,hf7,zh,Ii,rfl⟩;refine rV.keep ?_ (λa ha o ho=>k9 _ _ ?_ ho) λt p j h=>k9 _ _ (nI h jU λφ z=>nomatch z) h
    ·rw [rV.lst];exact k9 _ _ y7 rV.lst
    ·intro q;rw [q,jU] at ho;obtain⟨j,hj⟩:=Ay ha;have hlen:=rV.len;have Ih:j < (ws++[wk n e k]).length:=by have:=(Ab.mp hj).1;omega
     obtain⟨_,b,_⟩:=rV.at' j a _ hj<|Aa Ih;rw [q,jU] at b;cases b
  ·have hz:z∈zs:=Classical.not_not.mp<|of_decide_eq_false<|Eb.mpr c;refine bp (bp ⟨zs,told,ls,ws,_,_,_,kp,eD,zn,zt,zm,hW,hf,by omega,?_,rfl⟩);rw [vh,nJ];show ws++(if bf n e∈told then _ else _)=_;rw [BL<|by rw [pZ iX];exact(zm z).mp hz]
 ·rintro σ H' ⟨zs,told,ls,ws,u1,u2,u3,kp,eD,zn,zt,zm,hW,hf,lS,vh,rfl⟩;rw [Ac,kR,Ek] at vh;have Io:c7 n (ends n) []=ws:=by rw [vh];show ws++[]=ws;rw [Be]
  refine cy (ae 5<|q L ls H' (λb o h=>?_) kQ (by rw [Io];exact hW) λl hl=>kK rS<|hf l hl);exact kp _ _ (b4 h HH) (b4 h kQ)<|rS _ _ h
end
end N4
namespace cD
open PySem PySem.W PyProof.Rows
section
variable{lt:Nat->Nat->Bool}{cmp:Nat->Nat->(Bool->Shared->Prop)->Shared->Prop}{J:Shared->Prop}{n:Nat}
structure dP(lt:Nat->Nat->Bool)(cmp:Nat->Nat->(Bool->Shared->Prop)->Shared->Prop)(J:Shared->Prop)(n:Nat):Prop where
 ask:∀(i j:Nat) (C:Bool->Shared->Prop) (s:Shared),i < n->j < n->i≠j->J s->(∀ s',J s'->C (lt i j) s')->cmp i j C s
 p9:∀ i j,i < n->j < n->i≠j->lt i j=true\/lt j i=true
 Ip:∀ i j,lt i j=true->lt j i=false
 iJ:∀ i j k,lt i j=true->lt j k=true->lt i k=true
def g(p:Array Nat)(i:Nat):Nat:=p.getD i 0
structure Pm(p:Array Nat)(n:Nat):Prop where
 size:p.size=n
 lt:∀ i,i < n->g p i < n
 inj:∀ i j,i < n->j < n->g p i=g p j->i=j
theorem iY{p:Array Nat}{i:Nat}{v:Nat}(h:p[i]?=some v):g p i=v:=by
 unfold g;rw [Dw,h];rfl
theorem jV{p q:Array Nat}{i j:Nat}(h:p[i]?=q[j]?):g p i=g q j:=by
 unfold g;rw [Dw,Dw,h]
theorem QQ(n:Nat):Pm (List.toArray<|List.range n) n:=by
 have e:∀ i,i < n->g (List.toArray<|List.range n) i=i:=λi hi=>iY (by simp [hi]);exact⟨by simp,λi hi=>by rw [e i hi];exact hi,λi j hi hj h=>by rw [e i hi,e j hj] at h;exact h⟩
def Up(lt:Nat->Nat->Bool)(p:Array Nat)(m:Nat):Prop:=∀ i j,i < j->j < m->lt (g p i) (g p j)=true
def Dn(lt:Nat->Nat->Bool)(p:Array Nat)(m:Nat):Prop:=∀ i j,i < j->j < m->lt (g p j) (g p i)=true
theorem q37(p:Array Nat):Up lt p 1:=λi j h1 h2=>by omega
theorem q0d(A:dP lt cmp J n){p:Array Nat}{m:Nat}(h1:1<=m)(h:Up lt p m)(hm:lt (g p<|m - 1) (g p m)=true):Up lt p (m+1):=λi j hi hj=>by
 by_cases c:j < m
 ·exact h i j hi c
 ·have:j=m:=by omega
  subst this
  by_cases d:i=j - 1
  ·rw [d];exact hm
  ·exact A.iJ _ _ _ (h i (j - 1) (by omega)<|by omega) hm
theorem q2k(A:dP lt cmp J n){p:Array Nat}{m:Nat}(h1:1<=m)(h:Dn lt p m)(hm:lt (g p m) (g p<|m - 1)=true):Dn lt p (m+1):=λi j hi hj=>by
 by_cases c:j < m
 ·exact h i j hi c
 ·have:j=m:=by omega
  subst this
  by_cases d:i=j - 1
  ·rw [d];exact hm
  ·exact A.iJ _ _ _ hm<|h i (j - 1) (by omega)<|by omega
theorem Iq(A:dP lt cmp J n){i j:Nat}(hi:i < n)(hj:j < n)(bF:i≠j)(h:lt i j=false):lt j i=true:=by
 rcases A.p9 i j hi hj bF with q | q
 ·rw [h] at q;cases q
 ·exact q
theorem Ir(A:dP lt cmp J n){p:Array Nat}(P:Pm p n):∀(f m:Nat) (Q:Nat->Shared->Prop) (s:Shared),1<=m->m+f<=n->Up lt p m->J s ->
  (∀ k s',J s'->m<=k->k<=m+f->Up lt p k->(k < m+f->lt (g p k) (g p<|k - 1)=true)->Q k s')->(kas_asc p f m).kasWp cmp Q s
 | 0,m,Q,s,h1,h2,hu,hJ,k=>k m s hJ (Ai _) (Ai _) hu λh=>by omega
 | f+1,m,Q,s,h1,h2,hu,hJ,k=>by
  have bF:g p m≠g p (m - 1):=λh=>by have:=P.inj m (m - 1) (by omega) (by omega) h;omega
  refine A.ask _ _ _ _ (P.lt m<|by omega) (P.lt (m - 1)<|by omega) bF hJ λs' gy=>?_;cases e:lt (p.getD m 0) (p.getD (m - 1) 0) with
  | true=>exact k m s' gy (Ai _) (by omega) hu λ_=>e
  | false=>
   have jW:Up lt p (m+1):=q0d A h1 hu (Iq A (P.lt m<|by omega) (P.lt (m - 1)<|by omega) bF e);exact Ir A P f (m+1) Q s' (by omega) (by omega) jW gy λk' s2 j2 a b c d=>k k' s2 j2 (by omega) (by omega) c λh=>d<|by omega
theorem QR(A:dP lt cmp J n){p:Array Nat}(P:Pm p n):∀(f m:Nat) (Q:Array Nat×Nat×Nat->Shared->Prop) (s:Shared),1<=m->m+f<=n->Dn lt p m->J s ->
  (∀ k s',J s'->m<=k->k<=m+f->Dn lt p k->Q (p,k,0) s')->(kas_desc f p m 0).kasWp cmp Q s
 | 0,m,Q,s,h1,h2,hd,hJ,k=>k m s hJ (Ai _) (Ai _) hd
 | f+1,m,Q,s,h1,h2,hd,hJ,k=>by
  have bF:g p m≠g p (m - 1):=λh=>by have:=P.inj m (m - 1) (by omega) (by omega) h;omega
  refine A.ask _ _ _ _ (P.lt m<|by omega) (P.lt (m - 1)<|by omega) bF hJ λs' gy=>?_;cases e:lt (p.getD m 0) (p.getD (m - 1) 0) with
  | true=>
   show(if true=true then(if 0 > 0 then _ else kas_desc f p (m+1) 0) else _:KasT _).kasWp cmp Q s';rw [BL rfl,BK<|by omega];exact QR A P f (m+1) Q s' (by omega) (by omega) (q2k A h1 hd e) gy λk' s2 j2 a b c=>k k' s2 j2 (by omega) (by omega) c
  | false=>
   refine A.ask _ _ _ _ (P.lt (m - 1)<|by omega) (P.lt m<|by omega) (CJ bF) gy λs2 vk=>?_;have e2:lt (p.getD (m - 1) 0) (p.getD m 0)=true:=Iq A (P.lt m<|by omega) (P.lt (m - 1)<|by omega) bF e;rw [e2];exact k m s2 vk (Ai _) (by omega) hd
theorem vn{p:Array Nat}{m k:Nat}(h:m<=p.size):g (kas_rev p 0 m) k=if k < m then g p (m - 1 - k) else g p k:=by
 have e:=PK (xs:=p) (i:=0) (j:=m) h k
 by_cases c:k < m
 ·rw [BL c];rw [BL ⟨Bn _,c⟩] at e;refine jV<|e.trans ?_
  congr 1
  omega
 ·rw [BK c];rw [BK λq=>c q.2] at e;exact jV e
theorem QU{p:Array Nat}{m:Nat}(P:Pm p n)(h:m<=n):Pm (kas_rev p 0 m) n:=by
 have hs:m<=p.size:=by rw [P.size];exact h
 refine⟨by rw [kas_rev_size];exact P.size,λi hi=>?_,λi j hi hj q=>?_⟩
 ·rw [vn hs]
  split
  ·exact P.lt _<|by omega
  ·exact P.lt _ hi
 ·rw [vn hs,vn hs] at q
  by_cases c:i < m <;> by_cases d:j < m
  ·rw [BL c,BL d] at q;have:=P.inj _ _ (by omega) (by omega) q;omega
  ·rw [BL c,BK d] at q;have:=P.inj _ _ (by omega) hj q;omega
  ·rw [BK c,BL d] at q;have:=P.inj _ _ hi (by omega) q;omega
  ·rw [BK c,BK d] at q;exact P.inj _ _ hi hj q
theorem q4a{p:Array Nat}{m:Nat}(P:Pm p n)(h:m<=n)(hd:Dn lt p m):Up lt (kas_rev p 0 m) m:=λi j hi hj=>by
 have hs:m<=p.size:=by rw [P.size];exact h
 rw [vn hs,vn hs,BL (by omega),BL hj];exact hd (m - 1 - j) (m - 1 - i) (by omega)<|by omega
theorem k83(A:dP lt cmp J n){p:Array Nat}(P:Pm p n){m:Nat}{Q:Nat×Array Nat->Shared->Prop}{s:Shared}(h1:1<=m)(h2:m<=n)(hd:Dn lt p m)(hJ:J s)
  (k:∀ r q s',J s'->1<=r->r<=n->Pm q n->Up lt q r->Q (r,q) s'):(kas_tail3 m n p).kasWp cmp Q s:=by
 unfold kas_tail3;rw [KH];exact Ir A (QU P h2) (n - m) m _ s h1 (by omega) (q4a P h2 hd) hJ λr s' j a b c _=>k r _ s' j (by omega) (by omega) (QU P h2) c
theorem k8k(A:dP lt cmp J n){p:Array Nat}(P:Pm p n){Q:Nat×Array Nat->Shared->Prop}{s:Shared}(h2:2<=n)(hJ:J s)
  (k:∀ r q s',J s'->1<=r->r<=n->Pm q n->Up lt q r->Q (r,q) s'):(kas_count n p).kasWp cmp Q s:=by
 unfold kas_count;rw [KH];refine Ir A P (n - 1) 1 _ s (Ai _) (by omega) (q37 p) hJ λm s' gy m1 m2 hu vp=>?_
 by_cases c:m=n
 ·subst c;rw [BL<|by simp];exact k m p s' gy m1 (Ai _) P hu
 ·rw [BK<|by simpa using c]
  by_cases d:m > 1
  ·rw [BL d];have bF:g p 0≠g p (m - 1):=λh=>by have:=P.inj 0 (m - 1) (by omega) (by omega) h;omega
   refine A.ask _ _ _ _ (P.lt 0<|by omega) (P.lt (m - 1)<|by omega) bF gy λs2 vk=>?_;have e:lt (p.getD 0 0) (p.getD (m - 1) 0)=true:=hu 0 (m - 1) (by omega) (by omega);rw [e];exact k m p s2 vk m1 (by omega) P hu
  ·rw [BK d];have em:m=1:=by omega
   subst em;unfold kas_descPart;rw [KH];have hl:=vp (by omega);have hd2:Dn lt p 2:=λi j hi hj=>by
    have:i=0/\j=1:=by omega
    rw [this.1,this.2];exact hl
   refine QR A P (n - (1+1)) (1+1) _ s' (by omega) (by omega) hd2 gy λr s2 vk r1 r2 hd=>?_;show(if(0:Nat) > 0 then _ else kas_tail3 r n p:KasT _).kasWp cmp Q s2;rw [BK<|by omega];exact k83 A P (by omega) (by omega) hd vk k
theorem Iu(A:dP lt cmp J n){p:Array Nat}(P:Pm p n){k:Nat}(hk:k < n)(hu:Up lt p k):∀(f l r:Nat) (Q:Nat->Shared->Prop) (s:Shared),r<=k->l<=r->r - l<=f->J s->(∀ i,i < l->lt (g p i) (g p k)=true)->(∀ i,r<=i->i < k->lt (g p k) (g p i)=true) ->
  (∀ m s',J s'->m<=k->(∀ i,i < m->lt (g p i) (g p k)=true)->(∀ i,m<=i->i < k->lt (g p k) (g p i)=true)->Q m s')->(kas_place p k f l r).kasWp cmp Q s
 | 0,l,r,Q,s,h1,h2,h3,hJ,ha,hb,q=>q l s hJ (by omega) ha λi hi=>hb i<|by omega
 | f+1,l,r,Q,s,h1,h2,h3,hJ,ha,hb,q=>by
  unfold kas_place
  by_cases c:l>=r
  ·rw [BL c];exact q l s hJ (by omega) ha λi hi=>hb i<|by omega
  ·rw [BK c];have hmk:(l+r) / 2 < k:=by omega
   have bF:g p k≠g p ((l+r) / 2):=λh=>by have:=P.inj k _ hk (by omega) h;omega
   refine A.ask _ _ _ _ (P.lt k hk) (P.lt _<|by omega) bF hJ λs' gy=>?_;cases e:lt (p.getD k 0) (p.getD ((l+r) / 2) 0) with
   | true=>
    show(kas_place p k f l<|(l+r) / 2).kasWp cmp Q s';refine Iu A P hk hu f l ((l+r) / 2) Q s' (by omega) (by omega) (by omega) gy ha (λi hi QY=>?_) q
    by_cases d:i=(l+r) / 2
    ·rw [d];exact e
    ·exact A.iJ _ _ _ e<|hu _ _ (by omega) QY
   | false=>
    show(kas_place p k f ((l+r) / 2+1) r).kasWp cmp Q s';have e2:=Iq A (P.lt k hk) (P.lt _<|by omega) bF e;refine Iu A P hk hu f ((l+r) / 2+1) r Q s' h1 (by omega) (by omega) gy (λi hi=>?_) hb q
    by_cases d:i=(l+r) / 2
    ·rw [d];exact e2
    ·exact A.iJ _ _ _ (hu _ _ (by omega) hmk) e2
theorem vq{p:Array Nat}{k m i:Nat}(hk:k < p.size)(hm:m<=k):g (bubble p k<|k - m) i=if i=m then g p k else if m < i/\i<=k then g p (i - 1) else g p i:=by
 have e:=getElem?_bubble (xs:=p) hk (k - m) (by omega) i;rw [show k - (k - m)=m by omega] at e
 by_cases c:i=m
 ·rw [BL c];rw [BL c] at e;exact jV e
 ·rw [BK c];rw [BK c] at e
  by_cases d:m < i/\i<=k
  ·rw [BL d];rw [BL d] at e;exact jV e
  ·rw [BK d];rw [BK d] at e;exact jV e
theorem q3q{p:Array Nat}{k m:Nat}(P:Pm p n)(hk:k < n)(hm:m<=k):Pm (bubble p k<|k - m) n:=by
 have hs:k < p.size:=by rw [P.size];exact hk
 refine⟨by rw [bubble_size];exact P.size,λi hi=>?_,λi j hi hj q=>?_⟩
 ·rw [vq hs hm]
  split
  ·exact P.lt k hk
  ·split
   ·exact P.lt _<|by omega
   ·exact P.lt _ hi
 ·rw [vq hs hm,vq hs hm] at q;have src:∀ a,a < n->∃ b,b < n/\(if a=m then g p k else if m < a/\a<=k then g p (a - 1) else g p a)=g p b/\((a=m/\b=k)\/(a≠m/\(m < a/\a<=k)/\b=a - 1)\/(a≠m/\¬(m < a/\a<=k)/\b=a)):=λa ha=>by
   by_cases c:a=m
   ·exact⟨k,hk,by rw [BL c],.inl ⟨c,rfl⟩⟩
   ·by_cases d:m < a/\a<=k
    ·exact⟨a - 1,by omega,by rw [BK c,BL d],.inr<|.inl ⟨c,d,rfl⟩⟩
    ·exact⟨a,ha,by rw [BK c,BK d],.inr<|.inr ⟨c,d,rfl⟩⟩
  obtain⟨x,x1,x2,x3⟩:=src i hi;obtain⟨y,y1,y2,y3⟩:=src j hj;rw [x2,y2] at q;have e:=P.inj x y x1 y1 q;subst e
  rcases x3 with ⟨a1,a2⟩ | ⟨a1,a2,a3⟩ | ⟨a1,a2,a3⟩
  ·rcases y3 with ⟨b1,b2⟩ | ⟨b1,b2,b3⟩ | ⟨b1,b2,b3⟩
   ·exact a1.trans b1.symm
   ·exact absurd (a2.symm.trans b3)<|Di<|Bo (Nat.sub_lt (Gy b2.1) Nat.one_pos) b2.2
   ·exact absurd ⟨Gp (by rw [<- b3,a2];exact hm)<|CJ b1,by rw [<- b3,a2];exact Ai _⟩ b2
  ·rcases y3 with ⟨b1,b2⟩ | ⟨b1,b2,b3⟩ | ⟨b1,b2,b3⟩
   ·exact absurd (b2.symm.trans a3)<|Di<|Bo (Nat.sub_lt (Gy a2.1) Nat.one_pos) a2.2
   ·exact Nat.sub_one_cancel (Gy a2.1) (Gy b2.1)<|a3.symm.trans b3
   ·exact absurd ⟨Gp (by rw [<- b3,a3];exact Nat.le_sub_one_of_lt a2.1)<|CJ b1,by rw [<- b3,a3];exact Ck (Nat.sub_le _ _) a2.2⟩ b2
  ·rcases y3 with ⟨b1,b2⟩ | ⟨b1,b2,b3⟩ | ⟨b1,b2,b3⟩
   ·exact absurd ⟨Gp (by rw [<- a3,b2];exact hm)<|CJ a1,by rw [<- a3,b2];exact Ai _⟩ a2
   ·exact absurd ⟨Gp (by rw [<- a3,b3];exact Nat.le_sub_one_of_lt b2.1)<|CJ a1,by rw [<- a3,b3];exact Ck (Nat.sub_le _ _) b2.2⟩ a2
   ·exact a3.symm.trans b3
theorem q4z{p:Array Nat}{k m:Nat}(P:Pm p n)(hk:k < n)(hm:m<=k)(hu:Up lt p k)(ha:∀ i,i < m->lt (g p i) (g p k)=true)(hb:∀ i,m<=i->i < k->lt (g p k) (g p i)=true):Up lt (bubble p k<|k - m) (k+1):=λi j hi hj=>by
 have hs:k < p.size:=by rw [P.size];exact hk
 rw [vq hs hm,vq hs hm]
 by_cases c:i=m
 ·rw [BL c,BK (by omega),BL<|by omega];exact hb _ (by omega)<|by omega
 ·rw [BK c]
  by_cases d:j=m
  ·rw [BL d,BK<|by omega];exact ha i<|by omega
  ·rw [BK d]
   by_cases e:m < i/\i<=k
   ·rw [BL e,BL<|by omega];exact hu _ _ (by omega)<|by omega
   ·rw [BK e]
    by_cases f:m < j/\j<=k
    ·rw [BL f];exact hu _ _ (by omega)<|by omega
    ·rw [BK f];exact hu _ _ hi<|by omega
theorem Q0(A:dP lt cmp J n):∀(f:Nat) (p:Array Nat) (k:Nat) (Q:Array Nat->Shared->Prop) (s:Shared),Pm p n->1<=k->k+f=n->Up lt p k->J s->(∀ q s',J s'->Pm q n->Up lt q n->Q q s')->(kas_bin f p k).kasWp cmp Q s
 | 0,p,k,Q,s,P,h1,h2,hu,hJ,q=>by
  have:k=n:=by omega
  subst this;exact q p s hJ P hu
 | f+1,p,k,Q,s,P,h1,h2,hu,hJ,q=>by
  unfold kas_bin;rw [KH];refine Iu A P (by omega) hu k 0 k _ s (Ai _) (Bn _) (by omega) hJ (λi hi=>by omega) (λi hi QY=>by omega) λm s' gy hm ha hb=>?_;exact Q0 A f _ (k+1) Q s' (q3q P (by omega) hm) (by omega) (by omega) (q4z P (by omega) hm hu ha hb) gy q
theorem q01(A:dP lt cmp J n){Q:Array Nat->Shared->Prop}{s:Shared}(h2:2<=n)(hJ:J s)(q:∀ p s',J s'->Pm p n->Up lt p n->Q p s'):(kas_sort n).kasWp cmp Q s:=by
 unfold kas_sort;rw [KH];refine k8k A (QQ n) h2 hJ λr p s' gy r1 r2 P hu=>?_;show(if r < n then kas_bin (n - max r 1) p (max r 1) else .ret p:KasT _).kasWp cmp Q s';have em:max r 1=r:=by omega
 rw [em]
 by_cases c:r < n
 ·rw [BL c];exact Q0 A (n - r) p r Q s' P r1 (by omega) hu gy q
 ·rw [BK c];have:r=n:=by omega
  subst this;exact q p s' gy P hu
end
theorem Q1{p:Array Nat}{n:Nat}(P:Pm p n):p.toList.Nodup:=by
 rw [Bj,Bc];intro i j hi hj di e;have dv:i < n:=by rw [Al,P.size] at hi;exact hi
 have ub:j < n:=by rw [Al,P.size] at hj;exact hj
 have e1:g p i=p.toList[i]:=iY (by rw [<- Ap];exact Aa hi);have e2:g p j=p.toList[j]:=iY (by rw [<- Ap];exact Aa hj);have:=P.inj i j dv ub (by rw [e1,e2,e]);omega
theorem Iv{p:Array Nat}{n v:Nat}(P:Pm p n)(h:v∈p.toList):v < n:=by
 obtain⟨i,hi⟩:=Ay h;have hl:i < n:=by have:=(Ab.mp hi).1;rw [Al,P.size] at this;exact this
 have e1:g p i=v:=iY (by rw [<- Ap];exact hi);rw [<- e1];exact P.lt i hl
theorem q0w{p:Array Nat}{n:Nat}(P:Pm p n):p.toList.Perm (List.range n):=by
 rw [Fb (Q1 P) Hi];intro v;rw [Bh];refine⟨λh=>Iv P h,λh=>DG λhn=>?_⟩;have l1:p.toList.length<=((List.range n).erase v).length:=Nt.aG (Q1 P) λz hz=>by
  have bF:z≠v:=λe=>hn<|e ▸ hz;exact(Ho bF).mpr<|Bh.mpr<|Iv P hz
 rw [Gm<|Bh.mpr h,Al,P.size,Cj] at l1;omega
def Hd(h:Heap)(v:Value)(z:Str):Prop:=∃ a o xs n t,v = .ref a/\h.get? a=some o/\o.cls = .type "tuple"/\o.data = .seq xs n/\xs[0]?=some (.str z t)
theorem Hd.keep{h h':Heap}{v:Value}{z:Str}(x:Hd h v z)(k:∀ a o,v = .ref a->h.get? a=some o->h'.get? a=some o):Hd h' v z:=by
 obtain⟨a,o,xs,n,t,e,h1,h2⟩:=x;exact⟨a,o,xs,n,t,e,k a o e h1,h2⟩
def qa(h:Heap)(vs:List Value)(zs:List Str):Prop:=vs.length=zs.length/\∀(i:Nat) v z,vs[i]?=some v->zs[i]?=some z->Hd h v z
def ltZ(zs:List Str)(i j:Nat):Bool:=decide ((zs.getD i ⟨#[]⟩).cps.toList < (zs.getD j ⟨#[]⟩).cps.toList)
section
variable{prog:Program}{w:World}{A:Around}{E:Value->Shared->Prop}{s:Shared}
theorem Q2:∀{h:Heap} {vs:List Value} {zs:List Str},qa h vs zs->∃ fs,KatTups h vs fs/\fs.length=vs.length/\∀ f∈fs,∃ z t,f=Value.str z t
 | h,[],_,_=>⟨[],KatTups.nil,rfl,λf hf=>by cases hf⟩
 | h,v :: vs,[],hh=>by have:=hh.1;simp at this
 | h,v :: vs,z :: zs,hh=>by
  obtain⟨fs,k1,k2,k3⟩:=Q2 (h:=h) (vs:=vs) (zs:=zs) ⟨by have:=hh.1;simpa using this,λi a b h1 h2=>hh.2 (i+1) a b (by simpa using h1)<|by simpa using h2⟩;obtain⟨a,o,xs,n,t,rfl,h1,h2,h3,h4⟩:=hh.2 0 v z rfl rfl;refine⟨.str z t :: fs,KatTups.cons h1 h2 h3 h4 k1,by rw [Av,Av,k2],λf hf=>?_⟩
  rcases Ar.mp hf with rfl | hf
  ·exact⟨z,t,rfl⟩
  ·exact k3 f hf
theorem q5d{x y:Value}{z u:Str}{Q:Bool->Shared->Prop}(hx:Hd s.heap x z)(hy:Hd s.heap y u)(bF:z≠u)(h:Q (decide (z.cps.toList < u.cps.toList)) s):wpAny (model prog w) A (keyLt' (tuples' true) x y) Q E s:=by
 obtain⟨a,o,xs,n,t,rfl,h1,h2,h3,h4⟩:=hx;obtain⟨b,o',ys,n',t',rfl,g1,g2,g3,g4⟩:=hy;refine kat_lt h1 h3 g1 g3 ?_;have ex:∃ r,xs.toList = .str z t :: r:=by
  have:xs.toList[0]?=some (.str z t):=by rw [Ap];exact h4
  cases e:xs.toList with
  | nil=>rw [e] at this;cases this
  | cons c r=>rw [e] at this;cases this;exact⟨r,rfl⟩
 have ey:∃ r,ys.toList = .str u t' :: r:=by
  have:ys.toList[0]?=some (.str u t'):=by rw [Ap];exact g4
  cases e:ys.toList with
  | nil=>rw [e] at this;cases this
  | cons c r=>rw [e] at this;cases this;exact⟨r,rfl⟩
 obtain⟨rx,ex⟩:=ex;obtain⟨ry,ey⟩:=ey;rw [ex,ey];show KatLex prog w A true _ Q ((.str z t,.str u t') :: rx.zip ry) 0 s;refine kat_cons<|eqBool_str ?_;have:(z == u)=false:=beq_eq_false_iff_ne.mpr bF;rw [this];exact kat_no<|oneLt_str h
theorem Q3{a b:Str}(h:a.cps.toList=b.cps.toList):a=b:=by
 apply Str.ext';exact Gg.mp h
theorem k72{vs:List Value}{zs:List Str}(hh:qa s.heap vs zs)(hn:zs.Nodup):dP (ltZ zs) (kas_ask prog w A (tuples' true) vs) (λs'=>s'=s) vs.length:=by
 have hl:=hh.1;have gz:∀ i,(hi:i < zs.length)->zs.getD i ⟨#[]⟩=zs[i]:=λi hi=>by simp [hi]
 have gv:∀ i,(hi:i < vs.length)->vs.getD i Value.none=vs[i]:=λi hi=>by simp [hi]
 have ne:∀ i j,(hi:i < zs.length)->(hj:j < zs.length)->i≠j->zs[i]≠zs[j]:=λi j hi hj di e=>by
  rcases Nat.lt_or_gt_of_ne di with c | c
  ·exact Bc.mp (Bj.mp hn) i j hi hj c e
  ·exact Bc.mp (Bj.mp hn) j i hj hi c e.symm
 refine⟨λi j C s' hi hj di hs hC=>?_,λi j hi hj di=>?_,λi j h=>?_,λi j k h1 h2=>?_⟩
 ·subst hs;unfold kas_ask;rw [gv i hi,gv j hj];have e:ltZ zs i j=decide (zs[i].cps.toList < zs[j].cps.toList):=by unfold ltZ;rw [gz i (by omega),gz j<|by omega]
  refine q5d (hh.2 i _ zs[i] (Aa hi)<|Aa<|by omega) (hh.2 j _ zs[j] (Aa hj)<|Aa<|by omega) (ne i j (by omega) (by omega) di) ?_;rw [<- e];exact hC s' rfl
 ·unfold ltZ;rw [gz i (by omega),gz j (by omega),CK,CK]
  by_cases c:zs[i].cps.toList < zs[j].cps.toList
  ·exact .inl c
  ·by_cases d:zs[j].cps.toList < zs[i].cps.toList
   ·exact .inr d
   ·have:zs[i].cps.toList=zs[j].cps.toList:=List.le_antisymm (Hw.mp d)<|Hw.mp c;exact absurd (Q3 this)<|ne i j (by omega) (by omega) di
 ·unfold ltZ at h ⊢;have:=CG h;exact BR λq=>Fp _<|Gn this q
 ·unfold ltZ at h1 h2 ⊢;exact BX<|Gn (CG h1)<|CG h2
theorem map_range(vs:List Value):(List.range vs.length).map (λi=>vs.getD i Value.none)=vs:=by
 apply Hk
 ·simp
 ·intro i h1 h2;simp [h2]
theorem k8e{a:Addr}{vs:List Value}{zs:List Str}{n:Nat}{P:Fin->Shared->Prop}(ho:s.heap.get? a=some (seqObj "list" vs.toArray n))(eB:∀ v∈vs,v ≠ .ref a)(hh:qa s.heap vs zs)(hn:zs.Nodup)(pt:vs.length < 64)
  (h:∀ p:Array Nat,Pm p vs.length->Up (ltZ zs) p vs.length->P (.done<|.ret .none) {s with heap:=sortedHeap s.heap a vs (List.toArray<|p.toList.map λi=>vs.getD i Value.none)}) :
  wpAny (model prog w) A (Builtin.«list.sort» ⟨[.ref a],[]⟩) P E s:=by
 rw [list_sort_plain];have ha:a < s.heap.objs.size:=Au ho;have kS:vs.length<=sizeLine:=by rw [FZ];omega
 refine BJ<|listItems_at ho rfl ?_;refine BJ<|JV ho rfl ?_;obtain⟨e1,lT⟩:∃ e1,(s.heap.update a<|Obj.mapSeq λ_=>#[]).get? a=some (seqObj "list" #[] e1):=⟨_,get?_update_seq ho λ_=>#[]⟩;refine BJ<|MP lT rfl ?_;refine BJ<|PX ?_;refine BJ<|JT ?_;refine CN ?_;have mq:(((s.heap.update a<|Obj.mapSeq λ_=>#[]).push<|seqObj "tuple" vs.toArray 0).push<|seqObj "list" #[] 0).get? a=some (seqObj "list" #[] e1):=Af _<|Af _ lT;show wpAny (model prog w) A _ P E {s with heap:=((s.heap.update a<|Obj.mapSeq λ_=>#[]).push<|seqObj "tuple" vs.toArray 0).push (seqObj "list" #[] 0)};have qb:qa (((s.heap.update a<|Obj.mapSeq λ_=>#[]).push<|seqObj "tuple" vs.toArray 0).push<|seqObj "list" #[] 0) vs zs:=⟨hh.1,λi v z h1 h2=>(hh.2 i v z h1 h2).keep λb o e q=>by
  have hb:a≠b:=λe2=>eB v (Ag h1) (by rw [e,e2]);exact Af _<|Af _<|(By _ _ hb).trans q⟩
 dsimp only
 have hsz:vs.toArray.size=vs.length:=by simp
 by_cases h2:vs.toArray.size < 2
 ·rw [BL h2,BL h2];refine BJ<|BP ?_;rw [StateT.run_pure];refine BJ<|BP ?_
  dsimp only
  have e5:(arrOf<|SortSt.mk' general' (vs.toArray.zip vs.toArray) #[] 7 none).map (·.2)=vs.toArray:=by
   show(vs.toArray.zip vs.toArray).map (·.2)=_;apply Gg.mp;simp [RJ]
  refine BJ<|MP mq rfl ?_;refine BJ (JV mq rfl ?_ (hsz2:=by rw [e5,hsz];omega));simp only [FP,Bk,DQ];refine BP ?_;rw [e5];have fin:=h (List.toArray<|List.range vs.length) (QQ _) λi j hi hj=>by rw [hsz] at h2;omega
  have e6:(List.toArray<|List.range vs.length).toList.map (λi=>vs.getD i Value.none)=vs:=map_range vs;rw [e6] at fin;exact fin
 ·rw [BK h2,BK h2];obtain⟨fs,k1,k2,k3⟩:=Q2 qb;rw [hsz] at h2;refine BJ<|kat_kind (T:= .type "str") k1 (by omega) (λf hf=>?_) (by decide) ?_
  ·obtain⟨z,t,rfl⟩:=k3 f hf;exact Looks.of_pure rfl
  refine BJ<|CV (kat_run (prog:=prog) (w:=w) (A:=A) (E:=E) (κ:=tuples' true) (ks:=vs) (vs:=vs) (Q:=λag s'=>s'={s with heap:=((s.heap.update a<|Obj.mapSeq λ_=>#[]).push<|seqObj "tuple" vs.toArray 0).push (seqObj "list" #[] 0)}/\∃ p:Array Nat,Pm p vs.length/\Up (ltZ zs) p vs.length/\arrOf ag=p.map (kas_item<|vs.toArray.zip vs.toArray)/\failedOf ag=none)
   (G:=λp s'=>s'={s with heap:=((s.heap.update a<|Obj.mapSeq λ_=>#[]).push<|seqObj "tuple" vs.toArray 0).push (seqObj "list" #[] 0)}/\Pm p vs.length/\Up (ltZ zs) p vs.length) rfl (by omega) pt (λp ag s' _ a2 a3 a4=>⟨a4.1,p,a4.2.1,a4.2.2,a2,a3⟩)
   (q01 (k72 (s:={s with heap:=((s.heap.update a<|Obj.mapSeq λ_=>#[]).push<|seqObj "tuple" vs.toArray 0).push (seqObj "list" #[] 0)}) qb hn) (by omega) rfl λp s' e P U=>⟨e,P,U⟩)) ?_ λ_ _ e=>e
  rintro ⟨⟨⟩,ag⟩ s' ⟨rfl,p,P,U,pg,hf⟩
  dsimp only
  have e3:=kat_snds (ks:=vs) (vs:=vs) rfl pg;refine BJ<|MP mq rfl ?_;refine BJ (JV mq rfl ?_ (hsz2:=by rw [e3,Bd,Ac,Al,P.size];omega));rw [hf];simp only [FP,Bk,DQ];refine BP ?_;rw [e3];exact h p P U
theorem q2d{l:Addr}{vs:List Value}{zs:List Str}{Q:Value->Shared->Prop}(hl:s.heap.IsList l vs.toArray)(hh:qa s.heap vs zs)(hn:zs.Nodup)(pt:vs.length < 64)
  (h:∀(h':Heap) (e:Nat) (p:Array Nat),Pm p vs.length->Up (ltZ zs) p vs.length->(∀ b u,s.heap.get? b=some u->h'.get? b=some u)->h'.get? (s.heap.objs.size+1)=some (seqObj "list" (List.toArray<|p.toList.map λi=>vs.getD i Value.none) e)->Q (.ref<|s.heap.objs.size+1) {s with heap:=h'}) :
  wpAny (model prog w) A (call (.builtin "sorted") [.ref l]) Q E s:=by
 have kS:vs.length<=sizeLine:=by rw [FZ];omega
 refine KD kind_sorted plain_sorted entry_sorted (args_sorted1 _) ?_;unfold Builtin.«sorted»;refine BJ (m:=checkCount "sorted" 1 1 _)<|BP ?_;refine BJ<|collect_list (vs:=vs) hl ?_;refine BJ<|JT ?_;have hsz:((s.heap.push<|seqObj "list" #[] 0).update s.heap.objs.size (Obj.mapSeq (·++vs.toArray))).objs.size=s.heap.objs.size+1:=by
  rw [Heap.size_update,size_push']
 have jc:(((s.heap.push<|seqObj "list" #[] 0).update s.heap.objs.size (Obj.mapSeq (·++vs.toArray))).push<|seqObj "list" vs.toArray 0).get? (s.heap.objs.size+1)=some (seqObj "list" vs.toArray 0):=by
  rw [<- hsz];exact At _ rfl
 have Iw:qa (((s.heap.push<|seqObj "list" #[] 0).update s.heap.objs.size (Obj.mapSeq (·++vs.toArray))).push<|seqObj "list" vs.toArray 0) vs zs:=⟨hh.1,λi v z h1 h2=>(hh.2 i v z h1 h2).keep λb o e q=>
  Af _ ((By _ _<|Di<|Au q).trans<|Af _ q)⟩
 have bF:∀ v∈vs,v ≠ .ref (s.heap.objs.size+1):=λv hv e=>by
  obtain⟨i,hi⟩:=Ay hv;have hl:=hh.1;have vt:i < zs.length:=by have:=(Ab.mp hi).1;omega
  obtain⟨b,o,xs,n,t,e2,h1,_⟩:=hh.2 i v zs[i] hi<|Aa vt;rw [e2] at e;cases e;exact absurd (QT<|Au h1)<|Cu _
 show wpAny _ _ _ _ _ {s with heap:=((s.heap.push<|seqObj "list" #[] 0).update s.heap.objs.size (Obj.mapSeq (·++vs.toArray))).push (seqObj "list" vs.toArray 0)};rw [hsz];refine BJ<|CN<|DN slot_list_sort ⟨_,jc,rfl⟩ entry_list_sort (k8e jc bF Iw hn pt λp P U=>⟨_,rfl,?_⟩)<|args_list_sort _;obtain⟨e,he⟩:=sortedAll_at s.heap vs<|List.toArray<|p.toList.map λi=>vs.getD i Value.none;exact BP ⟨_,rfl,h _ e p P U (λb u hb=>QG hb) he⟩
end
end cD
namespace L2
open PySem PySem.Spec PyProof.Rows cD
theorem Iy:∀{ts:List Addr} {its:List Value},aq (ts.map V.ref) its->its=ts.map Value.ref
 | [],its,r=>r.zero
 | t :: ts,its,r=>by
  cases r with
  | cons h1 h2=>
   rw [Iy h2];have:_=Value.ref t:=h1;rw [this];rfl
theorem Iz:∀(ts:List Addr),aq (ts.map V.ref)<|ts.map Value.ref
 | []=> .nil
 | t :: ts=> .cons rfl (Iz ts)
theorem k4n{α β:Type}(xs:List α)(ys:List β)(h:xs.length=ys.length)(a:α)(b:β):(List.range xs.length).map (λi=>(xs.getD i a,ys.getD i b))=xs.zip ys:=by
 apply Hk
 ·simp [h]
 ·intro i h1 h2;have hx:i < xs.length:=by simp at h1;exact h1
  have hy:i < ys.length:=by omega
  simp [hx,hy]
section
variable{X:Cx}{σ:St}{H:Hp}
theorem j8y:fN X (.builtin "sorted") (λxs H Q=>∃(l:Addr) (ts:List Addr) (zs:List Str),xs=[.ref l]/\ai X.K H l (ts.map V.ref)/\ts.length=zs.length/\zs.Nodup/\ts.length < 64/\(∀(i:Nat) t z,ts[i]?=some t->zs[i]?=some z->∃ r,H t=some (.tup<|.str z :: r)) /\
  ∀(r:Addr) (ps:List<|Addr×Str),H r=none->ps.Perm (ts.zip zs)->ps.Pairwise (λa b=>a.2.cps.toList < b.2.cps.toList)->Q (.ref r) (upd H r<|.lst<|ps.map λp=> .ref p.1)):=by
 intro pins s σ H xs us Q I r h;obtain⟨l,ts,zs,rfl,hl,hlen,hn,pt,hd,q⟩:=h;obtain⟨u,rfl,ru⟩:=vals1 r;cases (show u=Value.ref l from ru);obtain⟨its,rv,pl,_⟩:=I.list hl;have ei:=Iy rv;subst ei;have hh:qa s.heap (ts.map Value.ref) zs:=by
  refine⟨by rw [Ac];exact hlen,λi v z h1 h2=>?_⟩;rw [Ah,An] at h1;obtain⟨t,ht,rfl⟩:=h1;obtain⟨rr,hr⟩:=hd i t z ht h2;obtain⟨its,r3,tp,_⟩:=I.tuple<|bt.of hr;cases r3 with
  | cons a1 a2=>
   obtain⟨tk,rfl⟩:=a1;obtain⟨o,ho,hc,n,hd2⟩:=tp;exact⟨t,o,_,n,tk,rfl,ho,hc,hd2,rfl⟩
 refine q2d pl.isList hh hn (by rw [Ac];exact pt) λh' e p P U kp he=>?_;rw [Ac] at P U;have gp:∀ i,i < ts.length->g p i < ts.length:=P.lt;have IA:p.toList.length=ts.length:=by rw [Al];exact P.size
 have e1:(p.toList.map λi=>(ts.map Value.ref).getD i Value.none)=((p.toList.map λi=>(ts.getD i 0,zs.getD i ⟨#[]⟩)).map λx=>x.1).map Value.ref:=by
  rw [Cd,Cd];refine Dm λi hi=>?_;have aM:=Iv P hi;show(ts.map Value.ref).getD i Value.none=Value.ref (ts.getD i 0);simp [aM]
 refine⟨.ref _,_,I.dL (s':={s with heap:=h'}) kp rfl rfl (Ez _) (show ay X.prog X.w _ h' _ (.lst<|(p.toList.map λi=>(ts.getD i 0,zs.getD i ⟨#[]⟩)).map λx=>V.ref x.1) from ?_),rfl,q _ (p.toList.map λi=>(ts.getD i 0,zs.getD i ⟨#[]⟩)) (I.aC.fresh<|Ez _) ?_ ?_⟩
 ·refine⟨by rw [Ac,Ac,IA,FZ];omega,_,e,?_,he⟩;rw [e1];have:=Iz<|(p.toList.map λi=>(ts.getD i 0,zs.getD i (⟨#[]⟩:Str))).map λx=>x.1;rw [Cd] at this;exact this
 ·rw [<- k4n ts zs hlen 0 ⟨#[]⟩];exact(q0w P).map _
 ·rw [Bc];intro i j hi hj di;rw [Ac] at hi hj;have:=U i j di (by omega);have q1:g p i=p.toList[i]:=iY (by rw [<- Ap];exact Aa hi);have q2:g p j=p.toList[j]:=iY (by rw [<- Ap];exact Aa hj);rw [q1,q2] at this;rw [Fo,Fo];exact CG this
theorem IB{e1 e2 e3:Expr}{k:Nat}{pos:Pos}{t:Addr}{x y z:V}{R:St->Hp->Prop}(hc:X.calm=true)(ht:bt X.K H t [x,y,z])(h:Eg X e1 x σ H λσ1 H1=>Eg X e2 y σ1 H1 λσ2 H2=>Eg X e3 z σ2 H2 R)
  (hn:(assignEach [e1,e2,e3] X.env).length=3:=by rfl) (c6:(assignEach [e1,e2,e3] X.env).findIdx? (·.1)=none:=by rfl)
  (ji:(assignEach [e1,e2,e3] X.env).map (·.2)=assign e1 X.env :: (assignEach [e2,e3] X.env).map (·.2):=by rfl) (rC:(assignEach [e2,e3] X.env).map (·.2)=assign e2 X.env :: (assignEach [e3] X.env).map (·.2):=by rfl) (x8:(assignEach [e3] X.env).map (·.2)=assign e3 X.env :: (assignEach [] X.env).map (·.2):=by rfl) :
  Eg X (.Tuple [e1,e2,e3] k pos) (.ref t) σ H R:=
 DF (Mr (t:=qR (λv σ H Q=>Eg X e1 v σ H Q)<|qR (λv σ H Q=>Eg X e2 v σ H Q)<|qR (λv σ H Q=>Eg X e3 v σ H Q) oE) hc (sZ o7 (sZ o7 (sZ o7 Mq x8) rC) ji) hn c6)
  ⟨t,_,rfl,ht,rfl,_,_,rfl,h.mono λσ1 H1 h1=>⟨_,_,rfl,h1.mono λσ2 H2 h2=>⟨_,_,rfl,h2.mono λσ3 H3 q=>⟨rfl,q⟩⟩⟩⟩
end
end L2
namespace Nt
open PySem L2
theorem k70{X:Cx}{H:Hp}{k:Nat}(y z:Str):kH X H k (.str y) (.str z) (decide (y=z)):=by
 have:=yl (X:=X) (H:=H) (k:=k) (x:= .str y) (y:= .str z) rfl rfl;have e:fm (.str y) (.str z)=decide (y=z):=by
  show(y == z)=_;rw [Cg,CK];simp
 rw [e] at this;exact this
theorem q4d(ys zs:List Str)(h:ys.length=zs.length):(List.range ys.length).all (λj=>decide (ys[j]?=zs[j]?))=decide (ys=zs):=by
 rw [Cg,Dk,CK]
 constructor
 ·intro q;refine Cv λj=>?_
  by_cases hj:j < ys.length
  ·exact CG<|q j<|Bh.mpr hj
  ·rw [Aq (by omega),Aq<|by omega]
 ·rintro rfl j _;exact BX rfl
theorem k4b{X:Cx}{H:Hp}{a b:Addr}{ys zs:List Str}(ha:H a=some (Ls ys))(hb:H b=some (Ls zs)):nB X H 1 (.ref a) (.ref b) (decide (ys=zs)):=by
 by_cases hl:ys.length=zs.length
 ·have q:=E5 (X:=X) (k:=0) (λj=>decide (ys[j]?=zs[j]?)) (ai.of (K:=X.K) ha) (ai.of (K:=X.K) hb) (by rw [Ac,Ac,hl]) λj x y hx hy=>by
   rw [Ah,An] at hx hy;obtain⟨u,hu,rfl⟩:=hx;obtain⟨v,hv,rfl⟩:=hy;have:=k70 (X:=X) (H:=H) (k:=0) u v;have e:decide (ys[j]?=zs[j]?)=decide (u=v):=by
    rw [hu,hv,Cg,CK,CK];exact⟨Option.some.inj,λh=>by rw [h]⟩
   rw [e];exact this
  rw [Ac,q4d ys zs hl] at q;exact q
 ·have e:decide (ys=zs)=false:=BR λq=>hl (by rw [q]);rw [e];exact YK (ai.of ha) (ai.of hb)<|by rw [Ac,Ac];exact hl
theorem Q4{n:Net}(T:bN n){ss:List Str}{ls:List Bl}(t:Tells n ss ls)(h0:0 < n.length){x:Str}{b:Bool}(w:Way ls (cQ n) x b):x∈n.map (·.1):=by
 have k:∀{x y:Str} {o:Bool},(x,y,o)∈ls->x∈n.map (·.1)/\y∈n.map (·.1):=λ{x y o} h=>by
  obtain⟨e,z,he,hl⟩:=t.O7 _ h;have h1:x=a9 n e.1:=CW (·.1) hl;have h2:y=a9 n (other n e).1:=CW (·.2.1) hl;rw [h1,h2];exact⟨F3<|gU he,F3<|Zm T he⟩
 cases w with
 | here=>exact F3 h0
 | there w h=>exact(k h).2
 | back w h=>exact(k h).1
theorem k3i{n:Net}(T:bN n){ss:List Str}{ls:List Bl}(t:Tells n ss ls)(h0:0 < n.length){kvs:List (Key×V)}(I:cb ls (cQ n) none kvs []):kvs.length<=n.length:=by
 have:=aG I.cC (b:=(n.map (·.1)).map Sum.inr) λk hk=>by
  obtain⟨x,rfl,_⟩:=I.txt k hk;have:∃ v,aA kvs (Sum.inr x)=some v:=by
   cases hv:aA kvs (Sum.inr x) with
   | some v=>exact⟨v,rfl⟩
   | none=>exact absurd hk<|I.iH hv
  obtain⟨v,hv⟩:=this;obtain⟨b,_,w⟩:=I.val x v hv;exact Az.mpr ⟨x,Q4 T t h0 w,rfl⟩
 rw [Ac,Ac,Ac] at this;exact this
theorem j9p{n:Net}(T:bN n)(hh:jN n)(h0:0 < n.length){ss sd:List Str}{ls:List Bl}(t:Tells n ss ls){kvs:List (Key×V)}(I:cb ls (cQ n) none kvs [])(hs:aR sd)(hm:∀ x,x∈sd↔aA kvs (Sum.inr x)=some (.bl true)) :
  ((∀ z,z∈ss↔nG n sd z)->cg n ss sd)/\∀ jq,cg n ss jq->jq=sd:=by
 constructor
 ·intro hc;obtain⟨b,hb⟩:=I.whole (cQ n) false .here;obtain⟨b',e,w⟩:=I.val _ _ hb;cases e;refine Zk T t hs (λx hx=>?_) hc w ?_
  ·obtain⟨b',e,w⟩:=I.val _ _<|(hm x).mp hx;exact Q4 T t h0 w
  ·rw [hm,hb];exact⟨λq=>V.bl.inj<|Option.some.inj q,λq=>by rw [q]⟩
 ·intro jq h;refine pM h.cV hs λx=>?_;rw [hm]
  constructor
  ·intro hx;obtain⟨b,w⟩:=Zi T hh h0 t x<|h.mem x hx;obtain⟨b',kJ⟩:=I.whole x b w;obtain⟨b2,e,w2⟩:=I.val _ _ kJ;cases e;have:=O9 T t h w2;rw [BX hx] at this;rw [kJ,<- this]
  ·intro hx;obtain⟨b2,e,w2⟩:=I.val _ _ hx;cases e;exact CG<|O9 T t h w2
open PyProof.Rows (sortedS)
theorem k23(a b c:List Str)(h:∀ z,z∈c↔(if z∈a then z∉b else z∈b)):∀ zs:List Str,(zs.filter λz=>c.contains z).length % 2=((zs.filter λz=>a.contains z).length+(zs.filter λz=>b.contains z).length) % 2
 | []=>rfl
 | z :: r=>by
  have ih:=k23 a b c h r;have hz:=h z;have ca:=λ(l:List Str)=>(Dh (as:=l) (a:=z));simp only [Cq]
  by_cases ha:z∈a <;> by_cases hb:z∈b
  ·have hc:z∉c:=λq=>by have:=hz.mp q;rw [BL ha] at this;exact this hb
   rw [BL<|(ca a).mpr ha,BL<|(ca b).mpr hb,BK λq=>hc<|(ca c).mp q,Av,Av];omega
  ·have hc:z∈c:=hz.mpr (by rw [BL ha];exact hb);rw [BL<|(ca a).mpr ha,BK λq=>hb<|(ca b).mp q,BL<|(ca c).mpr hc,Av,Av];omega
  ·have hc:z∈c:=hz.mpr (by rw [BK ha];exact hb);rw [BK λq=>ha<|(ca a).mp q,BL<|(ca b).mpr hb,BL<|(ca c).mpr hc,Av,Av];omega
  ·have hc:z∉c:=λq=>by have:=hz.mp q;rw [BK ha] at this;exact hb this
   rw [BK λq=>ha<|(ca a).mp q,BK λq=>hb<|(ca b).mp q,BK λq=>hc<|(ca c).mp q];exact ih
theorem Q5{a:List Str}(hn:a.Nodup):∀ l:List Str,(l.filter λz=>a.contains z).length=(a.map λz=>l.count z).sum
 | []=>by
  have:∀ a:List Str,(a.map λz=>([]:List Str).count z).sum=0:=λa=>by
   induction a with
   | nil=>rfl
   | cons x r ih=>rw [Bt,Hy,ih];rfl
  rw [this];rfl
 | y :: l=>by
  have ih:=Q5 hn l;have key:∀ a:List Str,(a.map λz=>(y :: l).count z).sum=(a.map λz=>l.count z).sum+a.count y:=λa=>by
   induction a with
   | nil=>rfl
   | cons x r ih=>
    rw [Bt,Hy,ih,Bt,Hy,RW,RW]
    by_cases h:y=x
    ·rw [BL (by simp [h]),BL<|by simp [h]];omega
    ·rw [BK (by simpa using h),BK<|by simpa using λq=>h<|Eq.symm q];omega
  rw [key,Cq,<- ih,hn.count]
  by_cases h:y∈a
  ·rw [BL<|Dh.mpr h,BL h,Av]
  ·rw [BK λq=>h<|Dh.mp q,BK h];rfl
theorem vw{n:Net}(T:bN n){ss:List Str}(hn:ss.Nodup)(hm:∀ z∈ss,z∈av n):2 * ss.length<=(av n).length:=by
 have h:=Q5 hn<|av n;have e:∀ l:List Str,(∀ z∈l,z∈av n)->(l.map λz=>(av n).count z).sum=2 * l.length:=λl=>by
  induction l with
  | nil=>intro _;rfl
  | cons x r ih=>
   intro hl;rw [Bt,Hy,ih λz hz=>hl z<|Ax _ hz,T x<|hl x<|Aw ..,Av];omega
 rw [e ss hm] at h;rw [<- h];exact Ci _ _
theorem q39{x y:Str}(h:x≠y):x.cps.toList < y.cps.toList\/y.cps.toList < x.cps.toList:=by
 by_cases q:x.cps.toList < y.cps.toList
 ·exact .inl q
 ·rcases List.le_iff_lt_or_eq.mp (Hw.mp q) with q | q
  ·exact .inr q
  ·exact absurd (bR.iC q).symm h
theorem Q6(x:Str):∀ sd:List Str,aR sd->∃ jq,aR jq/\∀ y,y∈jq↔y=x\/y∈sd
 | [],_=>⟨[x],List.pairwise_singleton _ _,λy=>by simp⟩
 | z :: r,h=>by
  have h:=Ej.mp h
  by_cases e:x=z
  ·subst e;exact⟨x :: r,Ej.mpr h,λy=>by simp⟩
  ·rcases q39 e with q | q
   ·refine⟨x :: z :: r,Ej.mpr ⟨λy hy=>?_,Ej.mpr h⟩,λy=>Ar⟩
    rcases Ar.mp hy with rfl | hy
    ·exact q
    ·exact Gn q<|h.1 y hy
   ·obtain⟨jq,hs,hm⟩:=Q6 x r h.2;refine⟨z :: jq,Ej.mpr ⟨λy hy=>?_,hs⟩,λy=>?_⟩
    ·rcases (hm y).mp hy with rfl | hy
     ·exact q
     ·exact h.1 y hy
    ·rw [Ar,hm y,Ar];exact⟨λk=>by rcases k with k | k | k <;> simp [k],λk=>by rcases k with k | k | k <;> simp [k]⟩
theorem IC:∀ l:List Str,∃ sd,aR sd/\∀ x,x∈sd↔x∈l
 | []=>⟨[],List.Pairwise.nil,λ_=>Iff.rfl⟩
 | x :: r=>by
  obtain⟨sd,hs,hm⟩:=IC r;obtain⟨jq,iV,nN⟩:=Q6 x sd hs;exact⟨jq,iV,λy=>by rw [nN y,hm y,Ar]⟩
end Nt
namespace Dt
variable{κ:Type}
section
variable(l:κ->κ->Int)
variable{l}
end
variable{κ:Type}
section
variable [DecidableEq κ] {a b:κ}
end
section
variable [DecidableEq κ]
end
variable{κ:Type} [DecidableEq κ]
section
variable{κ:Type}
end
variable{κ:Type} [DecidableEq κ]
end Dt
namespace Nt
open PySem L2
theorem k63{n:Net}{x:Lk}(h:lW n x):x.1∈av n:=by
 obtain⟨a,b,hp,_⟩:=h;have:=uv n x.1;rw [hp] at this;exact El.mp<|by rw [<- this];exact Hu _
end Nt
namespace N4
open PySem L2 Nt bS
abbrev T3(x:Lk):HO:= .tup [.str x.1,.str x.2.1,.str x.2.2]
def mv(H:Hp)(us:List Addr)(ls:List Lk):Prop:=us.length=ls.length/\∀(j:Nat) u x,us[j]?=some u->ls[j]?=some x->H u=some (T3 x)
theorem mv.keep{H H':Hp}{us:List Addr}{ls:List Lk}(h:mv H us ls)(k:∀ t xs,H t=some (.tup xs)->H' t=some (.tup xs)):mv H' us ls:=⟨h.1,λj u x h1 h2=>k _ _<|h.2 j u x h1 h2⟩
theorem mv.snoc{H:Hp}{us:List Addr}{ls:List Lk}{u:Addr}{x:Lk}(h:mv H us ls)(hu:H u=some (T3 x)):mv H (us++[u]) (ls++[x]):=by
 refine⟨by rw [Ad,Ad,h.1];rfl,λj v y h1 h2=>?_⟩;have hl:=h.1
 by_cases hj:j < us.length
 ·rw [Aj hj] at h1;rw [Aj<|by omega] at h2;exact h.2 j v y h1 h2
 ·rw [Am<|by omega] at h1 h2;have eG:j - us.length=0:=by
   have:=(Ab.mp h1).1;simp at this;omega
  rw [eG] at h1;rw [<- hl,eG] at h2;cases h1;cases h2;exact hu
def zq(ls:List Lk):Prop:=ls.Pairwise λx y=>x.1.cps.toList < y.1.cps.toList
def zu:Sp:=λvs H Q _=>∃(R:Addr) (as:List<|Addr×Addr) (n:Net),vs=[.ref R]/\aw H R as n/\bN n/\n.length<=1000/\(av n).length<=80 /\
 ∀(L:Addr) (us:List Addr) (ls:List Lk) (H':Hp),ah H H'->H L=none->H' L=some (.lst<|us.map V.ref)->mv H' us ls->zq ls->(∀ x,x∈ls↔lW n x)->ls.length<=60->Q (.ref L) H'
theorem k61{n:Net}(T:bN n){r p:Nat}{z:Str}(hr:r < n.length)(hz:(row n r)[p]?=some z):(cz (bo (n.take r)++bG r ((row n r).take p) 0) z).length<=1:=by
 obtain⟨rest,h⟩:=uM hr hz;have h1:cz (bo n) z=cz (bo (n.take r)++bG r ((row n r).take p) 0) z++(r,p) :: cz rest z:=by
  rw [h];unfold cz;rw [Cn,Ak,RM<|by simp];rfl
 have h2:(cz (bo n) z).length=2:=by
  have:=uv n z;rw [T z<|px (e:=(r,p)) hz] at this;exact this
 rw [h1,Ad,Av] at h2;omega
section
variable{P:Program}{w:World}{K:PySem.W.Frag}{mg:Str->Option Value}{base:Heap}
abbrev NLk:List Str:=["rows","met","links","point","ties","tie"]
theorem vx:aj NLk ["rows"] (aP FD):=cU
theorem k8l{f:Addr}{fd:FuncData}(F:bw K "links_of" "links_of" FD f fd)(T:Txt mg):aB P w K mg base bE 1 f fd ["rows"] zu:=by
 refine F.gc vx λb0 H vs Q E hr h=>?_;obtain⟨R,as,n,rfl,hR,hT,hn,eZ,q⟩:=h;have nd:=vx.nd;have eB:=hR.len;have hu:=hr.u1;refine run_set 1 nd<|OM λdm pH=>?_;refine run_set 2 nd<|gO<|aE ⟨Z0,λM hM=>?_⟩;have kU:M≠dm:=λe=>by rw [e,az] at hM;cases hM
 have vy:H M=none:=by rw [ax kU] at hM;exact hM
 have s0:ah H (upd (upd H dm<|.dK []) M<|.lst []):=(aQ pH _).trans<|aQ hM _;have nO:(upd (upd H dm<|.dK []) M<|.lst []) dm=some (.dK []):=by rw [ax<|CJ kU,az]
 have mw:(upd (upd H dm<|.dK []) M<|.lst []) M=some (.lst []):=az;generalize upd (upd H dm<|.dK []) M (.lst [])=H0 at s0 nO mw;have IE:(bo n).length=(av n).length:=by rw [<- lV n 0,Ac];rfl
 refine jE<|ae 0 ⟨R,rfl,⟨_,ai.of<|s0 _ _ hR.lst⟩,jF (xs:=as.map λa=>V.ref a.1) (λr σ H'=>∃(kM:List<|Key×V) (us:List Addr) (ls:List Lk) (u1 u2 u3:Option V),ah H H'/\H' dm=some (.dK kM)/\H' M=some (.lst<|us.map V.ref)/\mv H' us ls/\iG n (bo<|n.take r) kM ls/\σ=[some<|.ref R,some<|.ref dm,some<|.ref M,u1,u2,u3])
  ⟨[],[],[],_,_,_,s0,nO,mw,⟨rfl,λj u x h=>by simp at h⟩,iG.start n,rfl⟩ ?_ ?_ ?_⟩
 ·rintro r σ H' _ ⟨_,_,_,_,_,_,sm,_⟩;exact ai.of<|sm _ _ hR.lst
 ·rintro r x σ H' hx ⟨kM,us,ls,u1,u2,u3,sm,ed,eM,dj,I,rfl⟩;have hi:r < n.length:=by
   have:=(Ab.mp hx).1;rw [Ac] at this;omega
  obtain⟨a,ea,pT,et,el,er⟩:=(hR.same sm).at hi;rw [Ah,ea] at hx;cases hx;refine jj rfl (bt.of et) (aZ 3 nd<|aZ 4 nd ?_);refine jE<|ae 4 ⟨a.2,rfl,⟨_,ai.of el⟩,jF (xs:=(row n r).map V.str) (λp σ bH=>∃(kM:List<|Key×V) (us:List Addr) (ls:List Lk) (u3:Option V),ah H bH/\bH a.2=some (Ls<|row n r)/\bH dm=some (.dK kM)/\bH M=some (.lst<|us.map V.ref)/\mv bH us ls/\iG n (bo (n.take r)++bG r ((row n r).take p) 0) kM ls/\σ=[some<|.ref R,some<|.ref dm,some<|.ref M,some<|.str n[r].1,some<|.ref a.2,u3])
   ⟨kM,us,ls,_,sm,el,ed,eM,dj,by simpa [bG] using I,rfl⟩ ?_ ?_ ?_⟩
  ·rintro p σ bH _ ⟨_,_,_,_,_,e,_⟩;exact ai.of e
  ·rintro p x σ bH hx ⟨kM,us,ls,u3,sm,el,ed,eM,dj,I,rfl⟩;have hp:p < (row n r).length:=by
    have:=(Ab.mp hx).1;rw [Ac] at this;exact this
   have hz:(row n r)[p]?=some (row n r)[p]:=Aa hp;rw [Ah,hz] at hx;cases hx;have ji:=rz (r:=r) hz;have hle:=k61 hT hi hz;have bZ:(bo (n.take r)++bG r ((row n r).take p) 0).length<=80:=by
    obtain⟨rest,vz⟩:=uM hi hz;have h1:=CW List.length vz;simp only [Ad] at h1 ⊢;omega
   have lM:=I.dM;have lL:=I.lX;have lA:=dj.1;have Q7:a9 n r=n[r].1:=kI hi;have naM:a.2≠M:=λe=>by
    have:=(hR.tup r a n[r] ea<|Aa hi).2;rw [e,vy] at this;cases this
   generalize (row n r)[p]=z at hz ji hle;refine aZ 5 nd ?_;refine iz<|OO hu<|ae 5<|ae 1 ⟨dm,_,rfl,aX.k (k:=Sum.inr z) ed,?_⟩;cases jl:cz (bo (n.take r)++bG r ((row n r).take p) 0) z with
   | nil=>
    rw [I.m0 z jl];show if false=true then _ else _;rw [BK<|by decide];refine ut hu<|ae 3<|ae 1<|ae 5 ⟨dm,_,rfl,b9.k (k:=Sum.inr z) ed (cj<|by omega),bp<|bp ⟨_,us,ls,_,dW sm pH,?_,az,?_,dj.keep λt xs h=>?_,?_,rfl⟩⟩
    ·rw [ax<|cv el ed λz=>nomatch z];exact el
    ·rw [ax kU];exact eM
    ·rw [ax<|cv h ed λz=>nomatch z];exact h
    ·rw [ji,<- Bf];have:=I.new (e:=(r,p)) jl;show iG n _ (putK kM (Sum.inr z)<|.str n[r].1) ls;rw [<- Q7];exact this
   | cons b rest=>
    have IG:rest=[]:=by
     rw [jl] at hle;exact Bq.mp<|by have:rest.length+1<=1:=hle;omega
    subst IG;have vm:=I.m1 z b [] jl;rw [vm];show if true=true then _ else _;rw [BL rfl];refine jD (ro<|ae 2 ⟨M,rfl,⟨_,eM⟩,iy<|ao<|ae 5<|ao<|iE hu<|ae 1<|ae 5 ⟨dm,.str<|a9 n b.1,rfl,by rw [<- vm];exact aX.k (k:=Sum.inr z) ed,ao<|ae 3<|aE ⟨Z3,λt ht=>?_⟩⟩⟩);have sT:=aQ ht<|.tup [.str z,.str<|a9 n b.1,.str n[r].1];have Q8:t≠M:=λe=>by rw [e,eM] at ht;cases ht
    have yZ:(upd bH t<|.tup [.str z,.str<|a9 n b.1,.str n[r].1]) t=some (T3 (z,a9 n b.1,a9 n (r,p).1)):=by
     rw [az];show _=some (HO.tup [.str z,.str<|a9 n b.1,.str<|a9 n r]);rw [Q7]
    have kT:∀ c xs,(upd bH t<|.tup [.str z,.str<|a9 n b.1,.str n[r].1]) c=some (.tup xs)->(upd (upd bH t<|.tup [.str z,.str<|a9 n b.1,.str n[r].1]) M<|.lst<|us.map V.ref++[.ref t]) c=some (.tup xs):=λc xs h=>by
     rw [ax<|cv h (sT _ _ eM) λz=>nomatch z];exact h
    refine⟨_,sT _ _ eM,by rw [Ac];exact cj (by omega),bp<|bp ⟨kM,us++[t],ls++[(z,a9 n b.1,a9 n (r,p).1)],_,dW (sm.trans sT) vy,?_,?_,?_,?_,?_,rfl⟩⟩
    ·rw [ax naM];exact sT _ _ el
    ·rw [ax<|CJ kU];exact sT _ _ ed
    ·rw [az,Ak];rfl
    ·exact((dj.keep λc xs h=>sT _ _ h).snoc yZ).keep kT
    ·rw [ji,<- Bf];exact I.old (e:=(r,p)) jl
  ·rintro σ bH ⟨kM,us,ls,u3,sm,_,ed,eM,dj,I,rfl⟩;rw [Ac,Br] at I;refine bp ⟨kM,us,ls,_,_,_,sm,ed,eM,dj,?_,rfl⟩;rw [uy hi];exact I
 ·rintro σ H' ⟨kM,us,ls,u1,u2,u3,sm,ed,eM,dj,I,rfl⟩;rw [Ac,eB,Br] at I;have lL:=I.lX;have lA:=dj.1;have lL2:2 * ls.length<=(av n).length:=by
   have:=vw hT I.cC λz hz=>by
    obtain⟨x,hx,rfl⟩:=Az.mp hz;exact k63<|(I.whole hT x).mp hx
   rw [Ac] at this;exact this
  have aM:us.length < 64:=by omega
  refine cy (dh j8y T.sorted CZ (ao (ae 2 (aE ⟨M,us,ls.map (·.1),rfl,ai.of eM,by rw [Ac];exact lA,I.cC,aM,λi t z h1 h2=>?_,λL ps hL hp hs=>?_⟩))))
  ·rw [Ah,An] at h2;obtain⟨x,hx,rfl⟩:=h2;exact⟨_,dj.2 i t x h1 hx⟩
  have pick:∀ p∈ps,∃ x,x∈ls/\x.1=p.2/\H' p.1=some (T3 x):=λp fz=>by
   have hz:=hp.mem_iff.mp fz;obtain⟨i,hi⟩:=Ay hz;rw [Fe] at hi;obtain⟨h1,h2⟩:=hi;rw [Ah,An] at h2;obtain⟨x,hx,e⟩:=h2;exact⟨x,Ag hx,e,dj.2 i _ x h1 hx⟩
  obtain⟨xs,fB⟩:∃ xs:List Lk,xs.length=ps.length/\∀(j:Nat) p x,ps[j]?=some p->xs[j]?=some x->x∈ls/\x.1=p.2/\H' p.1=some (T3 x):=by
   clear hs hp
   induction ps with
   | nil=>exact⟨[],rfl,λj p x h=>by simp at h⟩
   | cons p r ih=>
    obtain⟨x,q1,q2,q3⟩:=pick p<|Aw ..;obtain⟨xs,l1,l2⟩:=ih λc hc=>pick c<|Ax _ hc;refine⟨x :: xs,by rw [Av,Av,l1],λj c y h1 h2=>?_⟩;cases j with
    | zero=>
     cases h1;cases h2;exact⟨q1,q2,q3⟩
    | succ j=>exact l2 j c y (by simpa using h1)<|by simpa using h2
  obtain⟨lx,fB⟩:=fB;have lp:ps.length=ls.length:=by rw [hp.length_eq,Eh,Ac];omega
  have sL:=aQ hL<|.lst<|ps.map λp=> .ref p.1;have Q9:zq xs:=by
   unfold zq;rw [Bc];intro i j hi hj di;have a1:=(fB i ps[i] xs[i] (Aa<|by omega)<|Aa hi).2.1;have a2:=(fB j ps[j] xs[j] (Aa<|by omega)<|Aa hj).2.1;rw [a1,a2];exact Bc.mp hs i j (by omega) (by omega) di
  have qd:(xs.map (·.1)).Nodup:=by
   rw [Bj,Cw];exact Q9.imp λh e=>by rw [e] at h;exact Fp _ h
  have fD:∀ x,x∈xs↔x∈ls:=λx=>by
   constructor
   ·intro h;obtain⟨j,hj⟩:=Ay h;have yI:=(Ab.mp hj).1;exact(fB j ps[j] x (Aa<|by omega) hj).1
   ·intro h;refine DG λhn=>?_;have IH:xs.Nodup:=by
     rw [Bj] at qd ⊢;rw [Cw] at qd;exact qd.imp λh e=>h<|by rw [e]
    have:=aG IH (b:=ls.erase x) λz hz=>by
     have hzl:z∈ls:=by
      obtain⟨j,hj⟩:=Ay hz;have yI:=(Ab.mp hj).1;exact(fB j ps[j] z (Aa<|by omega) hj).1
     exact(Ho λe:z=x=>hn<|e ▸ hz).mpr hzl
    rw [Gm h] at this;have:0 < ls.length:=RZ h;omega
  refine q L (ps.map (·.1)) xs _ (sm.trans sL) (kK sm hL) (by rw [az,Cd];rfl) ⟨by rw [Ac];omega,λj u x h1 h2=>?_⟩ Q9 (λx=>by rw [fD x];exact I.whole hT x) (by omega);rw [Ah,An] at h1;obtain⟨p,kW,rfl⟩:=h1;exact sL _ _ (fB j p x kW h2).2.2
end
end N4
namespace Nz
open PySem L2 Nt
inductive Way {α:Type} (ls:List<|α×α×Bool) (f:α):α->Bool->Prop where
 | here:Way ls f f false
 | there {x y:α} {b o:Bool}:Way ls f x b->(x,y,o)∈ls->Way ls f y (b != o)
 | back {x y:α} {b o:Bool}:Way ls f x b->(y,x,o)∈ls->Way ls f y (b != o)
abbrev Bl(α:Type):=α×α×Bool
def has{α:Type}(φ:α->Key)(kvs:List<|Key×V)(x:α):Prop:=∃ v,aA kvs (φ x)=some v
def bY{α:Type}(ls:List<|Bl α)(x y:α)(o:Bool):Prop:=(x,y,o)∈ls\/(y,x,o)∈ls
def pK{α:Type}(ls:List<|Bl α):List α:=ls.flatMap λl=>[l.1,l.2.1]
theorem Ra{α:Type}:∀ ls:List<|Bl α,(pK ls).length=2 * ls.length
 | []=>rfl
 | l :: r=>by
  show(pK r).length+1+1=2 * (r.length+1);rw [Ra r];omega
theorem k7x{α:Type}{ls:List (Bl α)}{x y:α}{o:Bool}(h:bY ls x y o):y∈pK ls:=by
 rcases h with h | h
 ·exact Fq.mpr ⟨_,h,by simp⟩
 ·exact Fq.mpr ⟨_,h,by simp⟩
structure cb{α:Type}(φ:α->Key)(ls:List<|Bl α)(f:α)(hr:Option α)(kvs:List<|Key×V)(wt:List α):Prop where
 cC:(kvs.map (·.1)).Nodup
 txt:∀ k∈kvs.map (·.1),∃ x,k=φ x/\x∈f :: pK ls
 val:∀ x v,aA kvs (φ x)=some v->∃ b,v = .bl b/\Way ls f x b
 fst:has φ kvs f
 rD:∀ x∈wt,has φ kvs x
 yG:∀ x,some x=hr->has φ kvs x
 cls:∀ x,has φ kvs x->x∈wt\/some x=hr\/∀ y o,bY ls x y o->has φ kvs y
theorem cb.len{α:Type}{φ:α->Key}{ls:List (Bl α)}{f:α}{hr:Option α}{kvs:List (Key×V)}{wt:List α}(I:cb φ ls f hr kvs wt):kvs.length<=1+2 * ls.length:=by
 have:=aG I.cC (b:=(f :: pK ls).map φ) λk hk=>by
  obtain⟨x,e,hx⟩:=I.txt k hk;rw [e];exact Az.mpr ⟨x,hx,rfl⟩
 rw [Ac,Ac,Av,Ra] at this;omega
theorem cR{α:Type}{φ:α->Key}{kvs:List (Key×V)}{k:Key}{v:V}{x:α}(h:has φ kvs x):has φ (putK kvs k v) x:=by
 obtain⟨u,hu⟩:=h;unfold has;rw [dI]
 split
 ·exact⟨_,rfl⟩
 ·exact⟨u,hu⟩
open Classical in
theorem cb.start{α:Type}{φ:α->Key}(ki:∀ x y,φ x=φ y->x=y)(ls:List<|Bl α)(f:α):cb φ ls f none (putK [] (φ f)<|.bl false) [f]:=by
 have e:putK ([]:List<|Key×V) (φ f) (.bl false)=[(φ f,.bl false)]:=rfl;have hv:∀ x,aA ([(φ f,.bl false)]:List<|Key×V) (φ x)=if x=f then some (.bl false) else none:=λx=>by
  rw [<- e,dI]
  by_cases h:x=f
  ·rw [BL h,BL<|by rw [h]]
  ·rw [BK h,BK λq=>h<|ki _ _ q];rfl
 rw [e];refine⟨by simp,λk hk=>⟨f,by simpa using hk,Aw ..⟩,λx v h=>?_,⟨.bl false,by rw [hv f,BL rfl]⟩,λx hx=>?_,λx hx=>by(cases hx),λx hx=>?_⟩
 ·rw [hv x] at h
  by_cases c:x=f
  ·rw [BL c] at h;cases h;subst c;exact⟨false,rfl,.here⟩
  ·rw [BK c] at h;cases h
 ·rw [Ae.mp hx];exact⟨.bl false,by rw [hv f,BL rfl]⟩
 ·obtain⟨v,h⟩:=hx;rw [hv x] at h
  by_cases c:x=f
  ·exact .inl<|Ae.mpr c
  ·rw [BK c] at h;cases h
theorem cb.pop{α:Type}{φ:α->Key}{ls:List (Bl α)}{f h:α}{kvs:List (Key×V)}{wt:List α}(I:cb φ ls f none kvs<|wt++[h]):cb φ ls f (some h) kvs wt:=by
 refine⟨I.cC,I.txt,I.val,I.fst,λx hx=>I.rD x<|Bi _ hx,λx hx=>(by cases hx;exact I.rD h<|Bb _<|Ae.mpr rfl),λx hx=>?_⟩
 rcases I.cls x hx with c | c | c
 ·rcases Ao.mp c with c | c
  ·exact .inl c
  ·exact .inr<|.inl<|by rw [Ae.mp c]
 ·cases c
 ·exact .inr<|.inr c
theorem cb.close{α:Type}{φ:α->Key}{ls:List (Bl α)}{f h:α}{kvs:List (Key×V)}{wt:List α}(I:cb φ ls f (some h) kvs wt)(c:∀ y o,bY ls h y o->has φ kvs y):cb φ ls f none kvs wt:=by
 refine⟨I.cC,I.txt,I.val,I.fst,I.rD,λx hx=>(by cases hx),λx hx=>?_⟩
 rcases I.cls x hx with d | d | d
 ·exact .inl d
 ·cases d;exact .inr<|.inr c
 ·exact .inr<|.inr d
theorem cb.iH{α:Type}{φ:α->Key}{ls:List (Bl α)}{f:α}{hr:Option α}{kvs:List (Key×V)}{wt:List α}(I:cb φ ls f hr kvs wt){g:α}(hg:aA kvs (φ g)=none):φ g∉kvs.map (·.1):=by
 intro hm;obtain⟨p,hp,e⟩:=Az.mp hm;have:∃ i:Nat,kvs[i]?=some p:=Ay hp;obtain⟨i,hi⟩:=this;have:∀{l:List (Key×V)},(∃ q∈l,q.1=φ g)->aA l (φ g)≠none:=λ{l}=>by
  induction l with
  | nil=>rintro ⟨q,hq,_⟩;cases hq
  | cons c r ih=>
   rintro ⟨q,hq,e⟩ hn
   by_cases hc:c.1=φ g
   ·rw [gG hc] at hn;cases hn
   ·rw [gH hc] at hn
    rcases Ar.mp hq with rfl | hq
    ·exact hc e
    ·exact ih ⟨q,hq,e⟩ hn
 exact this ⟨p,hp,e⟩ hg
theorem cb.hrk{α:Type}{φ:α->Key}{ls:List (Bl α)}{f h:α}{kvs:List (Key×V)}{wt:List α}(I:cb φ ls f (some h) kvs wt):has φ kvs h:=I.yG h rfl
theorem cb.add{α:Type}{φ:α->Key}(ki:∀ x y,φ x=φ y->x=y){ls:List (Bl α)}{f h g:α}{kvs:List (Key×V)}{wt:List α}{b o:Bool}(I:cb φ ls f (some h) kvs wt)(hg:aA kvs (φ g)=none)(hh:aA kvs (φ h)=some (.bl b))(t:bY ls h g o) :
  cb φ ls f (some h) (putK kvs (φ g)<|.bl<|b != o) (wt++[g]):=by
 have vA:=I.iH hg;have hw:Way ls f g (b != o):=by
  obtain⟨b',e,hw⟩:=I.val h _ hh;cases e
  rcases t with t | t
  ·exact .there hw t
  ·exact .back hw t
 refine⟨?_,λk hk=>?_,λx v hv=>?_,cR I.fst,λx hx=>?_,λx hx=>cR<|I.yG x hx,λx hx=>?_⟩
 ·rw [F1,BK vA];exact ni I.cC vA
 ·rw [F1,BK vA] at hk
  rcases Ao.mp hk with hk | hk
  ·exact I.txt k hk
  ·exact⟨g,Ae.mp hk,Ax _<|k7x t⟩
 ·rw [dI] at hv
  by_cases c:φ x=φ g
  ·rw [BL c] at hv;cases hv;rw [ki _ _ c];exact⟨_,rfl,hw⟩
  ·rw [BK c] at hv;exact I.val x v hv
 ·rcases Ao.mp hx with hx | hx
  ·exact cR<|I.rD x hx
  ·rw [Ae.mp hx];exact⟨_,by rw [dI,BL rfl]⟩
 ·obtain⟨v,hv⟩:=hx;rw [dI] at hv
  by_cases c:φ x=φ g
  ·exact .inl<|Bb _<|Ae.mpr<|ki _ _ c
  ·rw [BK c] at hv
   rcases I.cls x ⟨v,hv⟩ with d | d | d
   ·exact .inl<|Bi _ d
   ·exact .inr<|.inl d
   ·exact .inr<|.inr λy o' ht=>cR<|d y o' ht
def iZ:V->Bool
 | .bl b=>b
 | _=>false
noncomputable def jr{α:Type}(φ:α->Key)(p:Key×V):List α:=open Classical in if h:iZ p.2=true/\∃ x,p.1=φ x then [h.2.choose] else []
noncomputable def aL{α:Type}(φ:α->Key)(kvs:List<|Key×V):List α:=kvs.flatMap<|jr φ
theorem hG{α:Type}{φ:α->Key}(ki:∀ x y,φ x=φ y->x=y)(x:α)(b:Bool):jr φ (φ x,.bl b)=if b=true then [x] else []:=by
 unfold jr;cases b with
 | true=>
  have h:iZ (φ x,V.bl true).2=true/\∃ y,(φ x,V.bl true).1=φ y:=⟨rfl,x,rfl⟩;rw [dif_pos h,BL rfl,ki _ _ h.2.choose_spec.symm]
 | false=>rw [dif_neg (λh=>by cases h.1),BK<|by decide]
theorem cG{α:Type}(φ:α->Key)(kvs:List<|Key×V)(p:Key×V):aL φ (kvs++[p])=aL φ kvs++jr φ p:=by
 unfold aL;rw [Gi];simp
theorem bT{α:Type}(φ:α->Key):∀ kvs:List<|Key×V,(aL φ kvs).length<=kvs.length
 | []=>Ai _
 | p :: r=>by
  show(jr φ p++aL φ r).length<=r.length+1;have:=bT φ r;have:(jr φ p).length<=1:=by unfold jr;split <;> simp
  rw [Ad];omega
theorem cb.mem{α:Type}{φ:α->Key}(ki:∀ x y,φ x=φ y->x=y){ls:List (Bl α)}{f:α}{kvs:List (Key×V)}(I:cb φ ls f none kvs [])(x:α):x∈aL φ kvs↔aA kvs (φ x)=some (.bl true):=by
 rw [<- uE I.cC];unfold aL;rw [Fq]
 constructor
 ·rintro ⟨⟨k,v⟩,hp,hx⟩;obtain⟨y,rfl,_⟩:=I.txt k<|Az.mpr ⟨_,hp,rfl⟩;obtain⟨b,rfl,_⟩:=I.val y v<|(uE I.cC).mp hp;rw [hG ki] at hx;cases b with
  | true=>rw [BL rfl] at hx;rw [Ae.mp hx];exact hp
  | false=>cases hx
 ·intro h;exact⟨_,h,by rw [hG ki,BL rfl];exact Ae.mpr rfl⟩
theorem e9{α:Type}{φ:α->Key}(ki:∀ x y,φ x=φ y->x=y):∀ kvs:List<|Key×V,(kvs.map (·.1)).Nodup->(aL φ kvs).Nodup
 | [],_=>Ds
 | p :: r,h=>by
  rw [Bt,Cr] at h;show(jr φ p++aL φ r).Nodup;have ih:=e9 ki r h.2;have key:∀(q:Key×V) (x:α),x∈jr φ q->q.1=φ x:=λq x hx=>by
   unfold jr at hx
   split at hx
   ·rename_i hq;rw [Ae.mp hx];exact hq.2.choose_spec
   ·cases hx
  have n1:(jr φ p).Nodup:=by unfold jr;split <;> simp
  refine Dq.mpr ⟨n1,ih,λa ha b hb e=>?_⟩;subst e;obtain⟨q,hq,hx⟩:=Fq.mp hb;exact h.1<|Az.mpr ⟨q,hq,by rw [key q a hx,key p a ha]⟩
end Nz
namespace L2
open PySem PySem.Spec PyProof.Rows
section
variable{X:Cx}{σ:St}{H:Hp}{Q:VK}
theorem k66{k v:Expr}{pos:Pos}(hu:X.A.units+1 < cLine)(h:∀ d,H d=none->Ev X k σ (upd H d<|.dK []) λy H1=>Ev X v σ H1 λx H2=>∃ H3,b9 H2 d y x H3/\Q (.ref d) H3):Ev X (.Dict [some k] [v] pos) σ H Q:=by
 refine⟨λpins s I=>wpAny_Dict_any rfl rfl (by simp) (by show 1<=15;decide) ?_⟩;have I0:Inv X pins σ (upd H s.heap.objs.size<|.dK []) {s with heap:=s.heap.push {cls:= .type "dict",data:= .dict #[]}}:=I.laid (a:=s.heap.objs.size) (o:= .dK []) (t':=s.toks) (λ_ _ q=>Af _ q) (Ai _)<|Nh s.heap I.big;show wpAny _ _ (evalPairs [(eval k X.env,do let x <- eval v X.env;standAt pos;pure x)]) _ _ _;unfold evalPairs;refine BJ<|aI ((h _ I.fresh).run pins _ I0) λkv s1 ⟨y,H1,I1,r1,h1⟩=>?_;refine BJ<|CN<|BJ<|aI (h1.run pins s1 I1) λvv s2 ⟨x,H2,I2,r2,H3,dp,q⟩=>?_;refine BJ<|FT<|BP ?_;unfold evalPairs;refine BJ<|CN<|BP<|BP ?_;unfold storeAll;rw [List.forIn_cons];refine BJ<|BJ<|Pn hu I2 dp r1 r2 λs' I'=>BP ?_;exact BP ⟨.ref _,H3,I',rfl,q⟩
end
end L2
namespace N4
open PySem L2 Nt bS
abbrev T3b(x:Bl):HO:= .tup [.str x.1,.str x.2.1,.bl x.2.2]
def Rb(H:Hp)(us:List Addr)(ls:List Bl):Prop:=us.length=ls.length/\∀(j:Nat) u x,us[j]?=some u->ls[j]?=some x->H u=some (T3b x)
def II:Sp:=λvs H Q _=>∃(f:Str) (L:Addr) (us:List Addr) (ls:List Bl),vs=[.str f,.ref L]/\H L=some (.lst<|us.map V.ref)/\Rb H us ls/\ls.length<=60 /\
 ∀(d:Addr) (kvs:List<|Key×V) (H':Hp),ah H H'->H d=none->H' d=some (.dK kvs)->cb ls f none kvs []->Q (.ref d) H'
abbrev Rc{α:Type}(φ:α->Key)(x:Nz.Bl α):HO:= .tup [kV<|φ x.1,kV<|φ x.2.1,.bl x.2.2]
def jX{α:Type}(φ:α->Key)(H:Hp)(us:List Addr)(ls:List<|Nz.Bl α):Prop:=us.length=ls.length/\∀(j:Nat) u x,us[j]?=some u->ls[j]?=some x->H u=some (Rc φ x)
theorem jX.same{α:Type}{φ:α->Key}{H H':Hp}{us:List Addr}{ls:List (Nz.Bl α)}(h:jX φ H us ls)(s:ah H H'):jX φ H' us ls:=⟨h.1,λj u x h1 h2=>s _ _<|h.2 j u x h1 h2⟩
abbrev Lg{α:Type}(φ:α->Key)(l:List α):HO:= .lst<|l.map λx=>kV<|φ x
def Rf{α:Type}(φ:α->Key):Sp:=λvs H Q _=>∃(f:α) (L:Addr) (us:List Addr) (ls:List<|Nz.Bl α),vs=[kV<|φ f,.ref L]/\H L=some (.lst<|us.map V.ref)/\jX φ H us ls/\ls.length<=60 /\
 ∀(d:Addr) (kvs:List<|Key×V) (H':Hp),ah H H'->H d=none->H' d=some (.dK kvs)->Nz.cb φ ls f none kvs []->Q (.ref d) H'
theorem q3v{a b:Key}(h:kV a=kV b):a=b:=by
 cases a <;> cases b <;> cases h <;> rfl
section
variable{P:Program}{w:World}{K:PySem.W.Frag}{mg:Str->Option Value}{base:Heap}
abbrev NSp:List Str:=["first","links","odds","waiting","here","one","other","odd","start","goal"]
theorem vB:aj NSp ["first","links"] (aP uz):=cU
theorem q49{α:Type}(φ:α->Key)(wt:List α)(h:α):(((wt++[h]).map λx=>kV<|φ x)[((wt++[h]).map λx=>kV<|φ x).length - 1]?=some (kV<|φ h))/\((wt++[h]).map λx=>kV<|φ x).dropLast=wt.map (λx=>kV<|φ x):=by
 rw [Ak]
 constructor
 ·simp
 ·exact List.dropLast_concat
theorem Rg{α:Type}{φ:α->Key}(ki:∀ x y,φ x=φ y->x=y)(gS:∀ x y,oM (kV<|φ x) (kV<|φ y)=true){f:Addr}{fd:FuncData}(F:bw K "spread" "spread" uz f fd)(T:Txt mg):aB P w K mg base bE 1 f fd ["first","links"] (Rf φ):=by
 refine F.gc vB λb0 H vs Q E hr h=>?_;obtain⟨ft,L,us,ls,rfl,hL,dj,h60,q⟩:=h;have nd:=vB.nd;have hu:=hr.u1;have kR:=dj.1;refine run_set 2 nd<|k66 hu λd hd=>ae 0<|W0 ⟨_,b9.k (k:=φ ft) az<|cj<|Bn _,?_⟩;rw [qN];refine run_set 3 nd<|gO<|ao<|ae 0<|aE ⟨Z1,λM hM=>?_⟩;have kU:M≠d:=λe=>by rw [e,az] at hM;cases hM
 have vy:H M=none:=by rw [ax kU] at hM;exact hM
 have s0:ah H (upd (upd H d<|.dK<|putK [] (φ ft)<|.bl false) M<|.lst [kV<|φ ft]):=(aQ hd _).trans<|aQ hM _;have nO:(upd (upd H d<|.dK<|putK [] (φ ft)<|.bl false) M<|.lst [kV<|φ ft]) d=some (.dK<|putK [] (φ ft)<|.bl false):=by rw [ax<|CJ kU,az]
 have mw:(upd (upd H d<|.dK<|putK [] (φ ft)<|.bl false) M<|.lst [kV<|φ ft]) M=some (Lg φ [ft]):=az;generalize upd (upd H d<|.dK<|putK [] (φ ft)<|.bl false) M (.lst [kV<|φ ft])=H0 at s0 nO mw;refine OL (λm σ H'=>m<=1000/\∃(kvs:List<|Key×V) (wt:List α) (u4 u5 u6 u7 u8 u9:Option V),ah H H'/\H' d=some (.dK kvs)/\H' M=some (Lg φ wt)/\Nz.cb φ ls ft none kvs wt/\m=2 * (1+2 * ls.length - kvs.length)+wt.length /\
   σ=[some<|kV<|φ ft,some<|.ref L,some<|.ref d,some<|.ref M,u4,u5,u6,u7,u8,u9]) (m0:=2 * (1+2 * ls.length - 1)+1)
  ⟨by omega,_,[ft],_,_,_,_,_,_,s0,nO,mw,Nz.cb.start ki ls ft,rfl,rfl⟩ ?_
 rintro m σ H1 ⟨hm,kvs,wt,u4,u5,u6,u7,u8,u9,s1,Rh,IJ,I,em,rfl⟩;refine NA<|ae 3 (v:= .ref M) ⟨!wt.isEmpty,Or.inl ⟨wt.map λx=>kV<|φ x,ai.of IJ,by cases wt <;> rfl⟩,?_⟩
 rcases List.eq_nil_or_concat wt with e | ⟨kX,hh,e⟩
 ·subst e;rw [BK λh=>nomatch h];exact cy<|ae 2<|q d kvs H1 s1 hd Rh I
 rw [List.concat_eq_append] at e;subst e;rw [BL<|by cases kX <;> rfl];obtain⟨hy,rj⟩:=q49 φ kX hh;refine run_set 4 nd<|YN FW PySem.F.slot_list_pop PySem.F.type_list_pop Wg<|ae 3 (v:= .ref M) ⟨Or.inl ⟨rfl,_,ai.of IJ⟩,M,_,kV<|φ hh,rfl,rfl,IJ,hy,?_⟩;rw [rj];have I1:=I.pop;have lw:(kX++[hh]).length=kX.length+1:=by rw [Ad];rfl
 rw [lw] at em;have rW:∀{H':Hp},ah H H'->H' L=some (.lst<|us.map V.ref):=λs=>s _ _ hL;have s2:ah H (upd H1 M<|Lg φ kX):=dW s1 vy;have Ri:(upd H1 M<|Lg φ kX) d=some (.dK kvs):=by rw [ax<|CJ kU];exact Rh
 have Rj:(upd H1 M<|Lg φ kX) M=some (Lg φ kX):=az;generalize upd H1 M (Lg φ kX)=H2 at s2 Ri Rj;refine jE<|ae 1 ⟨L,rfl,⟨_,ai.of<|rW s2⟩,jF (xs:=us.map V.ref) (λj σ H'=>∃(kvs:List<|Key×V) (wt:List α) (u5 u6 u7 u8 u9:Option V),ah H H'/\H' d=some (.dK kvs)/\H' M=some (Lg φ wt)/\Nz.cb φ ls ft (some hh) kvs wt/\2 * (1+2 * ls.length - kvs.length)+wt.length < m /\
   (∀ l∈ls.take j,(l.1=hh->Nz.has φ kvs l.2.1)/\(l.2.1=hh->Nz.has φ kvs l.1))/\σ=[some<|kV<|φ ft,some<|.ref L,some<|.ref d,some<|.ref M,some<|kV<|φ hh,u5,u6,u7,u8,u9])
  ⟨kvs,kX,_,_,_,_,_,s2,Ri,Rj,I1,by omega,λl hl=>by simp at hl,rfl⟩ ?_ ?_ ?_⟩
 ·rintro j σ H' _ ⟨_,_,_,_,_,_,_,sm,_⟩;exact ai.of<|rW sm
 ·rintro j x σ H3 hx ⟨kvs,wt,u5,u6,u7,u8,u9,s3,ed,eM,I,aM,bZ,rfl⟩;rw [Ah,An] at hx;obtain⟨u,eC,rfl⟩:=hx;have hj:j < ls.length:=by
   have:=(Ab.mp eC).1;omega
  have Rk:ls[j]?=some ls[j]:=Aa hj;have jW:=(dj.same s3).2 j u _ eC Rk;have fD:ls[j]∈ls:=Bv hj;have Rl:∀ l∈ls.take (j+1),l∈ls.take j\/l=ls[j]:=λl hl=>by
   rw [Bz,Rk] at hl
   rcases Ao.mp hl with q | q
   ·exact .inl q
   ·exact .inr<|by simpa using q
  generalize ls[j]=lx at jW fD Rl;obtain⟨on,ot,od⟩:=lx;refine IB rfl (bt.of jW) (aZ 5 nd<|aZ 6 nd<|aZ 7 nd ?_);refine W7<|iy<|ao<|iy<|ao<|ae 5<|ao<|ae 6<|aE ⟨Z2,λt1 ht1=>?_⟩;refine ao<|iy<|ao<|ae 6<|ao<|ae 5<|aE ⟨Z2,λt2 Ot=>aE ⟨Z2,λtt htt=>?_⟩⟩;have n1:=aQ ht1<|.tup [kV<|φ on,kV<|φ ot];have n2:=aQ Ot<|.tup [kV<|φ ot,kV<|φ on];have n3:=aQ htt<|.tup [.ref t1,.ref t2];have e1:=n3 _ _<|n2 _ _<|az (H:=H3) (a:=t1) (o:= .tup [kV<|φ on,kV<|φ ot]);have e2:=n3 _ _<|az (H:=upd H3 t1<|.tup [kV<|φ on,kV<|φ ot]) (a:=t2) (o:= .tup [kV<|φ ot,kV<|φ on]);have e3:=az (H:=upd (upd H3 t1<|.tup [kV<|φ on,kV<|φ ot]) t2<|.tup [kV<|φ ot,kV<|φ on]) (a:=tt) (o:= .tup [.ref t1,.ref t2]);have n:=n1.trans<|n2.trans n3;refine⟨tt,rfl,⟨_,bt.of e3⟩,?_⟩;generalize upd (upd (upd H3 t1<|.tup [kV<|φ on,kV<|φ ot]) t2<|.tup [kV<|φ ot,kV<|φ on]) tt (.tup [.ref t1,.ref t2])=H4 at e1 e2 e3 n;refine W8 (xs:=[.ref t1,.ref t2]) (λi σ H'=>∃(kvs:List<|Key×V) (wt:List α) (u8 u9:Option V),ah H H'/\H' d=some (.dK kvs)/\H' M=some (Lg φ wt)/\H' t1=some (.tup [kV<|φ on,kV<|φ ot])/\H' t2=some (.tup [kV<|φ ot,kV<|φ on])/\H' tt=some (.tup [.ref t1,.ref t2])/\Nz.cb φ ls ft (some hh) kvs wt/\2 * (1+2 * ls.length - kvs.length)+wt.length < m /\
   (∀ l∈ls.take j,(l.1=hh->Nz.has φ kvs l.2.1)/\(l.2.1=hh->Nz.has φ kvs l.1))/\(0 < i->on=hh->Nz.has φ kvs ot)/\(1 < i->ot=hh->Nz.has φ kvs on)/\σ=[some<|kV<|φ ft,some<|.ref L,some<|.ref d,some<|.ref M,some<|kV<|φ hh,some<|kV<|φ on,some<|kV<|φ ot,some<|.bl od,u8,u9])
   ⟨kvs,wt,_,_,s3.trans n,n _ _ ed,n _ _ eM,e1,e2,e3,I,aM,bZ,λh=>absurd h (by decide),λh=>absurd h (by decide),rfl⟩ ?_ ?_ ?_
  ·rintro i σ H' _ ⟨_,_,_,_,_,_,_,_,_,e,_⟩;exact bt.of e
  ·rintro i x σ H5 hx ⟨kvs,wt,u8,u9,s5,ed,eM,e1,e2,e3,I,aM,bZ,d1,d2,rfl⟩;obtain⟨st,gl,t,rfl,et,IL,dN⟩:∃ st gl t,x = .ref t/\H5 t=some (.tup [kV<|φ st,kV<|φ gl])/\Nz.bY ls st gl od/\∀ i6,(∀ y,Nz.has φ kvs y->Nz.has φ i6 y)->(st=hh->Nz.has φ i6 gl)->(0 < i+1->on=hh->Nz.has φ i6 ot)/\(1 < i+1->ot=hh->Nz.has φ i6 on):=by
    match i with
    | 0=>
     cases hx;exact⟨on,ot,t1,rfl,e1,.inl fD,λi6 mo h=>⟨λ_=>h,λh=>absurd h<|by decide⟩⟩
    | 1=>
     cases hx;exact⟨ot,on,t2,rfl,e2,.inr fD,λi6 mo h=>⟨λ_ e=>mo _ (d1 (by decide) e),λ_=>h⟩⟩
    | i+2=>simp at hx
   refine jj rfl (bt.of et) (aZ 8 nd<|aZ 9 nd ?_);have skip:(st=hh->Nz.has φ kvs gl)->∃(kvs:List<|Key×V) (wt:List α) (u8 u9:Option V),ah H H5/\H5 d=some (.dK kvs)/\H5 M=some (Lg φ wt)/\H5 t1=some (.tup [kV<|φ on,kV<|φ ot])/\H5 t2=some (.tup [kV<|φ ot,kV<|φ on])/\H5 tt=some (.tup [.ref t1,.ref t2])/\Nz.cb φ ls ft (some hh) kvs wt/\2 * (1+2 * ls.length - kvs.length)+wt.length < m /\
     (∀ l∈ls.take j,(l.1=hh->Nz.has φ kvs l.2.1)/\(l.2.1=hh->Nz.has φ kvs l.1))/\(0 < i+1->on=hh->Nz.has φ kvs ot)/\(1 < i+1->ot=hh->Nz.has φ kvs on)/\[some<|kV<|φ ft,some<|.ref L,some<|.ref d,some<|.ref M,some<|kV<|φ hh,some<|kV<|φ on,some<|kV<|φ ot,some<|.bl od,some<|kV<|φ st,some<|kV<|φ gl]=[some<|kV<|φ ft,some<|.ref L,some<|.ref d,some<|.ref M,some<|kV<|φ hh,some<|kV<|φ on,some<|kV<|φ ot,some<|.bl od,u8,u9]:=λh=>
    ⟨kvs,wt,_,_,s5,ed,eM,e1,e2,e3,I,aM,bZ,(dN kvs (λ_ h=>h) h).1,(dN kvs (λ_ h=>h) h).2,rfl⟩
   refine iz<|DS<|DT<|d7 lr<|ae 8<|ae 4 ⟨gS _ _,_,rfl,?_⟩
   by_cases c6:st=hh
   ·rw [BL<|BX<|by rw [c6]];refine DU<|YS hu<|ae 9<|ae 2 ⟨d,_,rfl,aX.k (k:=φ gl) ed,?_⟩;cases hg:aA kvs (φ gl) with
    | some v=>
     show if false=true then _ else _;rw [BK<|by decide];exact bp<|bp<|skip λ_=>⟨v,hg⟩
    | none=>
     show if true=true then _ else _;rw [BL rfl];have hhh:Nz.has φ kvs hh:=by
      rcases I.hrk with q
      exact q
     obtain⟨v,hv⟩:=hhh;obtain⟨b,rfl,_⟩:=I.val hh v hv;subst c6;have I':=Nz.cb.add ki (o:=od) I hg hv IL;have lk:=I.len;have IM:=I'.len;have pP:(putK kvs (φ gl)<|.bl<|b != od).length=kvs.length+1:=by
      have vA:=I.iH hg;have:=CW List.length<|F1 kvs (φ gl)<|.bl<|b != od;rw [BK vA,Ad,Ac,Ac] at this;exact this
     refine ut hu (jC xM<|iE hu<|ae 2<|ae 4 ⟨d,.bl b,rfl,by rw [<- hv];exact aX.k (k:=φ st) ed,ae 7 ⟨rfl,?_⟩⟩);rw [xL];refine ae 2 (ae 9 ⟨d,_,rfl,b9.k (k:=φ gl) ed (cj<|by omega),?_⟩);have Rm:(upd H5 d<|.dK<|putK kvs (φ gl)<|.bl<|b != od) M=some (Lg φ wt):=by rw [ax kU];exact eM
     refine jD (ro<|ae 3 ⟨M,rfl,⟨_,Rm⟩,ae 9 ⟨_,Rm,by rw [Ac];exact cj (by omega),?_⟩⟩);have kT:∀ c xs,H5 c=some (.tup xs)->(upd (upd H5 d<|.dK<|putK kvs (φ gl)<|.bl<|b != od) M<|.lst<|wt.map (λx=>kV<|φ x)++[kV<|φ gl]) c=some (.tup xs):=λc xs h=>by
      rw [ax (cv h eM λz=>nomatch z),ax<|cv h ed λz=>nomatch z];exact h
     have mo:∀ y,Nz.has φ kvs y->Nz.has φ (putK kvs (φ gl)<|.bl<|b != od) y:=λy h=>Nz.cR h;have hn:=dN _ mo (λ_=>⟨.bl<|b != od,by rw [dI,BL rfl]⟩);refine bp<|bp ⟨_,wt++[gl],_,_,dW (dW s5 hd) vy,?_,?_,kT _ _ e1,kT _ _ e2,kT _ _ e3,I',?_,λl hl=>⟨λe=>mo _<|(bZ l hl).1 e,λe=>mo _<|(bZ l hl).2 e⟩,hn.1,hn.2,rfl⟩
     ·rw [ax<|CJ kU];exact az
     ·rw [az];show some (HO.lst<|wt.map (λx=>kV<|φ x)++[kV<|φ gl])=some (HO.lst<|(wt++[gl]).map λx=>kV<|φ x);rw [Ak];rfl
     ·rw [pP,Ad];rw [pP] at IM;show _+(wt.length+1) < m;clear hn dN d1 d2 skip;omega
   ·rw [BK λh=>c6<|ki _ _<|q3v<|CG h];show if false=true then _ else _;rw [BK<|by decide];exact bp<|bp<|skip λh=>absurd h c6
  ·rintro σ H5 ⟨kvs,wt,u8,u9,s5,ed,eM,_,_,_,I,aM,bZ,d1,d2,rfl⟩;refine bp ⟨kvs,wt,_,_,_,_,_,s5,ed,eM,I,aM,λl hl=>?_,rfl⟩
   rcases Rl l hl with q | q
   ·exact bZ l q
   ·subst q;exact⟨d1 (by show 0 < 2;decide),d2<|by show 1 < 2;decide⟩
 ·rintro σ H3 ⟨kvs,wt,u5,u6,u7,u8,u9,s3,ed,eM,I,aM,bZ,rfl⟩;rw [Ac,kR,Br] at bZ;refine bp ⟨_,aM,by omega,kvs,wt,_,_,_,_,_,_,s3,ed,eM,I.close λy o ht=>?_,rfl,rfl⟩
  rcases ht with h | h
  ·exact(bZ _ h).1 rfl
  ·exact(bZ _ h).2 rfl
theorem q58{ls:List Bl}{f:Str}{kvs:List (Key×V)}(I:Nz.cb Sum.inr ls f none kvs []):cb ls f none kvs []:=by
 have wy:∀{x:Str} {b:Bool},Nz.Way ls f x b->Way ls f x b:=λw=>by
  induction w with
  | here=>exact .here
  | there _ h ih=>exact .there ih h
  | back _ h ih=>exact .back ih h
 exact⟨I.cC,I.txt,λx v h=>let ⟨b,e,w⟩:=I.val x v h;⟨b,e,wy w⟩,I.fst,I.rD,I.yG,I.cls⟩
theorem k3r{f:Addr}{fd:FuncData}(F:bw K "spread" "spread" uz f fd)(T:Txt mg):aB P w K mg base bE 1 f fd ["first","links"] II:=
 (Rg (φ:=(Sum.inr:Str->Key)) (λ_ _ h=>Sum.inr.inj h) (λ_ _=>rfl) F T).imp λvs H Q E ⟨f,L,us,ls,e,h1,h2,h3,q⟩=>⟨f,L,us,ls,e,h1,h2,h3,λd kvs H' s n e I=>q d kvs H' s n e<|q58 I⟩
open PyProof.Rows (sortedS)
def IP:Sp:=λvs H Q _=>∃(R p:Addr) (as:List<|Addr×Addr) (n:Net) (ps:List Str),vs=[.ref R,.ref p]/\aw H R as n/\bN n/\n.length<=60/\(av n).length<=80/\H p=some (Ls ps) /\
 ∀(L:Addr) (cs:List Str) (H':Hp),ah H H'->H L=none->H' L=some (Ls cs)->aR cs->(∀ z,z∈cs↔nG n ps z)->cs.length<=60->Q (.ref L) H'
def IQ:Sp:=λvs H Q _=>∃(R p:Addr) (as:List<|Addr×Addr) (n:Net) (ss:List Str),vs=[.ref R,.ref p]/\aw H R as n/\bN n/\jN n/\0 < n.length/\n.length<=60/\(av n).length<=80/\H p=some (Ls ss)/\aR ss /\
 (∀(L:Addr) (sd:List Str) (H':Hp),ah H H'->H L=none->H' L=some (Ls sd)->cg n ss sd->Q (.ref L) H')/\(∀ H',ah H H'->(∀ sd,¬ cg n ss sd)->Q .non H')
def vC(ps:List Str)(x:Lk):Bool:=decide (x.2.1∈ps) != decide (x.2.2∈ps)
def dy(ps:List Str)(ls:List Lk):List Str:=(ls.filter<|vC ps).map (·.1)
theorem k68{ps:List Str}{ls:List Lk}(h:zq ls):aR (dy ps ls):=by
 unfold aR dy;rw [Cw];exact h.sublist Es
theorem k7s{n:Net}(T:bN n){ps:List Str}{ls:List Lk}(h:∀ x,x∈ls↔lW n x)(z:Str):z∈dy ps ls↔nG n ps z:=by
 unfold dy;rw [Az]
 constructor
 ·rintro ⟨x,hx,rfl⟩;rw [Bx] at hx;exact(F2 T<|(h x).mp hx.1).mpr hx.2
 ·intro hc;obtain⟨e,he,_⟩:=id hc
  rcases O6 T he with q | q
  ·exact⟨_,Bx.mpr ⟨(h _).mpr q,(F2 T q).mp hc⟩,rfl⟩
  ·exact⟨_,Bx.mpr ⟨(h _).mpr q,(F2 T q).mp hc⟩,rfl⟩
theorem Rn(ps:List Str)(ls:List Lk):(dy ps ls).length<=ls.length:=by
 unfold dy;rw [Ac];exact Ci _ _
theorem k6l(ps:List Str)(ls:List Lk)(x:Lk):dy ps (ls++[x])=dy ps ls++(if vC ps x=true then [x.1] else []):=by
 unfold dy;rw [Cn,Ak]
 congr 1
 cases h:vC ps x <;> simp [h]
theorem vD(zs:List Str)(z:Str):zs.contains z=decide (z∈zs):=by
 rw [Cg,CK];exact Dh
abbrev Ro:List Str:=["rows","points"]
abbrev vE:List Str:=["rows","points","tie","one","other"]
theorem IT:aj Ro ["rows","points"] (aP yy):=cU
theorem IU:vE.Nodup:=by decide +kernel
theorem q32{f:Addr}{fd:FuncData}(F:bw K "cut_of" "cut_of" yy f fd)(T:Txt mg)
  (G:aO P w K mg base 1 "links_of" ["rows"] zu) :
  aB P w K mg base bE 2 f fd ["rows","points"] IP:=by
 refine F.gc IT λb0 H vs Q E hr h=>?_;obtain⟨R,p,as,n,ps,rfl,hR,hT,hn,ht,hp,q⟩:=h;refine cy (jf (aP yy) Ro vE 3 (fM a8)<|bV G hr<|ao<|ae 0<|aE ⟨R,as,n,rfl,hR,hT,by omega,ht,λL us ls H1 s1 n1 eL dj iD fD hlen=>?_⟩);refine⟨L,rfl,⟨_,ai.of eL⟩,λD hD=>?_⟩;have G':L≠D:=b4 eL hD;have Ik:p≠D:=b4 (s1 _ _ hp) hD;have kR:=dj.1;refine jM (xs:=us.map V.ref) (λi σ' H'=>(∃ v1 v2 v3,σ'=[some<|.ref R,some<|.ref p]++[v1,v2,v3])/\H'=upd H1 D (Ls<|dy ps<|ls.take i)) ⟨⟨_,_,_,rfl⟩,rfl⟩ ?_ ?_ ?_
 ·rintro i σ' H' _ ⟨_,rfl⟩;exact ai.of<|by rw [ax G'];exact eL
 ·rintro i x σ' H' hx ⟨⟨v1,v2,v3,rfl⟩,rfl⟩;rw [Ah,An] at hx;obtain⟨u,eC,rfl⟩:=hx;have hi:i < ls.length:=by
   have:=(Ab.mp eC).1;omega
  have lS:ls[i]?=some ls[i]:=Aa hi;have jW:=dj.2 i u _ eC lS;have fS:ls.take (i+1)=ls.take i++[ls[i]]:=by rw [Bz,lS];rfl
  rw [fS,k6l];generalize ls[i]=lx at jW;obtain⟨ti,on,ot⟩:=lx;have IY:(upd H1 D<|Ls<|dy ps<|ls.take i) u=some (.tup [.str ti,.str on,.str ot]):=by rw [ax<|b4 jW hD];exact jW
  have rM:(upd H1 D<|Ls<|dy ps<|ls.take i) p=some (Ls ps):=by rw [ax Ik];exact s1 _ _ hp
  intro cl C' s₀ H₀ ex;refine IB rfl (bt.of IY) (aZ 2 IU<|aZ 3 IU<|aZ 4 IU ?_);intro cl C' s₀ H₀ ex;refine nr<|d7 xM<|jC qT<|ae 3<|ae 1 ⟨p,_,rfl,.inl<|ai.of rM,rfl,rB _,?_⟩;refine jC qT<|ae 4<|ae 1 ⟨p,_,rfl,.inl<|ai.of rM,rfl,rB _,rfl,_,rfl,?_⟩;have fF:∀(x y:Bool),(if false=true then x else y)=y:=λ_ _=>rfl;rw [fF,fF,rA,rA,vD,vD,xL];show if vC ps (ti,on,ot)=true then _ else _;have nz:=Ck (Rn ps<|ls.take i) (show(ls.take i).length<=ls.length by rw [Bm];omega)
  by_cases hc:vC ps (ti,on,ot)=true
  ·rw [BL hc];intro cl C' s₀ H₀ ex;refine ae 2 ⟨_,az,by rw [Ac];exact cj (by omega),⟨_,_,_,rfl⟩,?_⟩;rw [qN,BL hc];exact FV
  ·rw [BK hc];refine⟨⟨_,_,_,rfl⟩,?_⟩;rw [BK hc,Be]
 ·rintro σ' H' ⟨_,rfl⟩;rw [Ac,kR,Br];have nz:=Rn ps ls;exact q D _ _ (s1.trans<|aQ hD _) (kK s1 hD) az (k68 iD) (k7s hT fD)<|by omega
abbrev vF(ss:List Str)(x:Lk):Bl:=(x.2.1,x.2.2,decide (x.1∈ss))
abbrev IZ:List Str:=["rows","some","links","odds","side"]
abbrev vG:List Str:=["rows","some","links","odds","side","tie","one","other"]
abbrev vH:List Str:=["rows","some","links","odds","side","point"]
theorem vI:aj IZ ["rows","some"] (aP uA):=cU
theorem Ja:vG.Nodup:=by decide +kernel
theorem q5a:vH.Nodup:=by decide +kernel
def vJ:Key->Str
 | Sum.inr z=>z
 | _=>⟨#[]⟩
def iZ:V->Bool
 | .bl b=>b
 | _=>false
def aL(kvs:List<|Key×V):List Str:=(kvs.filter λp=>iZ p.2).map λp=>vJ p.1
theorem bT(kvs:List<|Key×V):(aL kvs).length<=kvs.length:=by
 unfold aL;rw [Ac];exact Ci _ _
theorem cG(kvs:List<|Key×V)(p:Key×V):aL (kvs++[p])=aL kvs++(if iZ p.2=true then [vJ p.1] else []):=by
 unfold aL;rw [Cn,Ak]
 congr 1
 cases h:iZ p.2 <;> simp [h]
theorem k47{kvs:List (Key×V)}(hn:(kvs.map (·.1)).Nodup)(ht:∀ k∈kvs.map (·.1),∃ x,k=Sum.inr x)(x:Str):x∈aL kvs↔aA kvs (Sum.inr x)=some (.bl true):=by
 rw [<- uE hn];unfold aL;rw [Az]
 constructor
 ·rintro ⟨⟨k,v⟩,hp,rfl⟩;rw [Bx] at hp;obtain⟨y,hy⟩:=ht k<|Az.mpr ⟨_,hp.1,rfl⟩;have hv:iZ v=true:=hp.2;subst hy;cases v with
  | bl b=>
   have:b=true:=hv;subst this;exact hp.1
  | _=>cases hv
 ·intro h;exact⟨_,Bx.mpr ⟨h,rfl⟩,rfl⟩
theorem j99{kvs:List (Key×V)}(hn:(kvs.map (·.1)).Nodup)(ht:∀ k∈kvs.map (·.1),∃ x,k=Sum.inr x):(aL kvs).Nodup:=by
 have e:((kvs.filter λp=>iZ p.2).map (·.1)).Nodup:=hn.sublist<|List.filter_sublist.map _;unfold aL;have e2:((kvs.filter λp=>iZ p.2).map λp=>vJ p.1).map Sum.inr=(kvs.filter λp=>iZ p.2).map (λp=>(p.1:Key)):=by
  rw [Cd];refine Dm λp hp=>?_;obtain⟨y,hy⟩:=ht p.1<|Az.mpr ⟨p,(Bx.mp hp).1,rfl⟩;show Sum.inr (vJ p.1)=p.1;rw [hy];rfl
 rw [Bj];have e3:(((kvs.filter λp=>iZ p.2).map λp=>vJ p.1).map (Sum.inr:Str->Key)).Nodup:=by rw [e2];exact e
 rw [Bj,Cw] at e3;exact e3.imp λh q=>h<|by rw [q]
theorem q2x{f:Addr}{fd:FuncData}(F:bw K "side_of" "side_of" uA f fd)(T:Txt mg)
  (GL:aO P w K mg base 2 "links_of" ["rows"] zu)
  (GS:aO P w K mg base 2 "spread" ["first","links"] II)
  (GC:aO P w K mg base 2 "cut_of" ["rows","points"] IP) :
  aB P w K mg base bE 3 f fd ["rows","some"] IQ:=by
 refine F.gc vI λb0 H vs Q E hr h=>?_;obtain⟨R,p,as,n,ss,rfl,hR,hT,Jb,h0,hn,ht,hp,eJ,q1,q2⟩:=h;have nd:=vI.nd;have hu:=hr.jI;have eC:=hr.u1;refine x9 2 (aP uA) IZ vG 3 nd (fM a8) (bV GL hr<|ao<|ae 0<|aE ⟨R,as,n,rfl,hR,hT,by omega,ht,λL us ls H1 s1 n1 eL dj iD fD hlen=>?_⟩);refine⟨L,rfl,⟨_,ai.of eL⟩,λD hD=>?_⟩;have kR:=dj.1;have tl:=Zj (ss:=ss) hT fD;refine jM (xs:=us.map V.ref) (λi σ' H'=>(∃ v1 v2 v3,σ'=[some<|.ref R,some<|.ref p,none,none,none]++[v1,v2,v3])/\∃ ws:List Addr,ah H1 H'/\H' D=some (.lst<|ws.map V.ref)/\Rb H' ws ((ls.take i).map<|vF ss)) ⟨⟨_,_,_,rfl⟩,[],aQ hD _,az,rfl,λj u x h=>by simp at h⟩ ?_ ?_ ?_
 ·rintro i σ' H' _ ⟨_,ws,sm,_⟩;exact ai.of<|sm _ _ eL
 ·rintro i x σ' H' hx ⟨⟨v1,v2,v3,rfl⟩,ws,sm,eD,hU⟩;rw [Ah,An] at hx;obtain⟨u,eC,rfl⟩:=hx;have hi:i < ls.length:=by
   have:=(Ab.mp eC).1;omega
  have lS:ls[i]?=some ls[i]:=Aa hi;have jW:=sm _ _<|dj.2 i u _ eC lS;have fS:(ls.take<|i+1).map (vF ss)=(ls.take i).map (vF ss)++[vF ss ls[i]]:=by rw [Bz,lS,Ak];rfl
  rw [fS];have lw:ws.length=i:=by
   have:=hU.1;rw [Ac,Bm] at this;omega
  generalize ls[i]=lx at jW;obtain⟨ti,on,ot⟩:=lx;have rM:=sm _ _<|s1 _ _ hp;intro cl C' s₀ H₀ ex;refine IB rfl (bt.of jW) (aZ 5 Ja<|aZ 6 Ja<|aZ 7 Ja ?_);intro cl C' s₀ H₀ ex;refine gR ?_;rw [BL rfl];intro cl C' s₀ H₀ ex;refine iy<|ao<|ae 6<|ao<|ae 7<|ao<|jC qT<|ae 5<|ae 1 ⟨p,_,rfl,.inl<|ai.of rM,rfl,rB _,aE ⟨Z3,λt gY=>?_⟩⟩;have fF:∀(x y:Bool),(if false=true then x else y)=y:=λ_ _=>rfl;rw [fF,rA,vD];have ntD:t≠D:=λe=>by rw [e,eD] at gY;cases gY
  have sT:=aQ gY<|.tup [.str on,.str ot,.bl<|decide (ti∈ss)];refine⟨_,sT _ _ eD,by rw [Ac];exact cj (by omega),⟨_,_,_,rfl⟩,ws++[t],dW (sm.trans sT) hD,?_,?_,?_⟩
  ·rw [az,Ak];rfl
  ·rw [Ad,Ad,hU.1];rfl
  ·intro j v y h1 h2;have hl:=hU.1
   by_cases hj:j < ws.length
   ·rw [Aj hj] at h1;rw [Aj<|by omega] at h2;have e:=hU.2 j v y h1 h2;rw [ax<|cv (sT _ _ e) (sT _ _ eD) λz=>nomatch z];exact sT _ _ e
   ·rw [Am<|by omega] at h1 h2;have eG:j - ws.length=0:=by
     have:=(Ab.mp h1).1;simp at this;omega
    rw [eG] at h1;rw [<- hl,eG] at h2;cases h1;cases h2;rw [ax ntD];exact az
 ·rintro σ' H2 ⟨_,ws,s2,eD,hU⟩;rw [Ac,kR,Br] at hU;have Jc:ah H H2:=s1.trans s2;have Rp:=hR.same Jc;obtain⟨a0,ea0,Jd,et0,el0,er0⟩:=Rp.at h0;have hf:n[0].1=cQ n:=(kI h0).symm;refine run_set 3 nd<|bV GS hr<|ao<|fu m8<|fu lF<|ae 0<|aK ⟨R,_,_,.ref a0.1,rfl,rfl,ai.of Rp.lst,Jd,aK ⟨a0.1,_,_,.str n[0].1,rfl,rfl,bt.of et0,rfl,?_⟩⟩;refine ao (ae 2<|aE ⟨n[0].1,D,ws,ls.map<|vF ss,rfl,eD,hU,by rw [Ac];exact hlen,λd kvs H3 s3 nd3 ed3 I=>?_⟩);rw [hf] at I;have p7:ah H H3:=Jc.trans s3;have pP:=k3i hT tl h0 I;have vK:∀ k∈kvs.map (·.1),∃ x,k=Sum.inr x:=λk hk=>(I.txt k hk).imp λx h=>h.1;refine run_set 4 nd<|dh ur T.sorted CZ<|ao<|jf (aP uA) IZ vH 1 (O1 a8)<|ae 3 ⟨d,kvs,rfl,ed3,λob E2 my=>?_⟩;have nE:E2≠d:=λe=>by rw [e,az] at my;cases my
  have Je:H3 E2=none:=by rw [ax nE] at my;exact my
  have jn:H d=none:=Jc.free nd3;refine O2 (λi σ' H'=>(∃ v,σ'=[some<|.ref R,some<|.ref p,some<|.ref D,some<|.ref d,none]++[v])/\H'=upd (upd H3 d<|.bI ob<|.dK kvs) E2 (Ls<|aL<|kvs.take i)) ⟨⟨_,rfl⟩,rfl⟩ ?_ ?_ ?_
  ·rintro i σ' H' _ ⟨_,rfl⟩;rw [ax<|CJ nE,az]
  ·rintro i pr σ' H' vL ⟨⟨v,rfl⟩,rfl⟩;have hm:pr∈kvs:=Ag vL;have fS:kvs.take (i+1)=kvs.take i++[pr]:=by rw [Bz,vL];rfl
   obtain⟨k,vv⟩:=pr;obtain⟨z,rfl⟩:=vK k<|Az.mpr ⟨_,hm,rfl⟩;have hv:=(uE I.cC).mp hm;obtain⟨b,rfl,_⟩:=I.val z vv hv;rw [fS,cG];intro cl C' s₀ H₀ ex;refine aZ 5 q5a ?_;intro cl C' s₀ H₀ ex;have dg:aX (upd (upd H3 d<|.bI ob<|.dK kvs) E2<|Ls<|aL<|kvs.take i) d (kV<|Sum.inr z) (some<|.bl b):=by
    rw [<- hv];exact .inl ⟨kvs,Sum.inr z,.inr ⟨ob,by rw [ax<|CJ nE,az]⟩,rfl,rfl⟩
   refine nr<|xW<|iE eC<|ae 3<|ae 5 ⟨d,.bl b,rfl,dg,b,rfl,?_⟩;have Jf:=Ck (bT<|kvs.take i) (show(kvs.take i).length<=kvs.length by rw [Bm];omega)
   by_cases hb:b=true
   ·rw [BL hb];intro cl C' s₀ H₀ ex;refine ae 5 ⟨_,az,by rw [Ac];exact cj (by omega),⟨_,rfl⟩,?_⟩;rw [qN,BL (show iZ (.bl b)=true from hb)];exact FV
   ·rw [BK hb];refine⟨⟨_,rfl⟩,?_⟩;rw [BK (show ¬ iZ (.bl b)=true from hb),Be]
  ·rintro σ' H' ⟨_,rfl⟩;rw [Br];have Jf:=bT kvs;refine aE ⟨E2,_,rfl,ai.of az,by omega,λl sd hl fz qe=>?_⟩;have Jg:l≠E2:=λe=>by rw [e,az] at hl;cases hl
   have Jh:l≠d:=λe=>by rw [e,ax<|CJ nE,az] at hl;cases hl
   have Ji:H3 l=none:=by rw [ax Jg,ax Jh] at hl;exact hl
   have o9:H l=none:=p7.free Ji;have Jj:H E2=none:=p7.free Je;have Jk:ah H (upd (upd (upd H3 d<|.bI ob<|.dK kvs) E2<|Ls<|aL kvs) l<|.lst<|sd.map V.str):=λc o' hc=>by
    rw [ax<|b4 hc o9,ax<|b4 hc Jj,ax<|b4 hc jn];exact p7 _ _ hc
   have Jl:(upd (upd (upd H3 d<|.bI ob<|.dK kvs) E2<|Ls<|aL kvs) l<|.lst<|sd.map V.str) l=some (Ls sd):=az;generalize upd (upd (upd H3 d<|.bI ob<|.dK kvs) E2<|Ls<|aL kvs) l (.lst<|sd.map V.str)=H4 at Jk Jl ⊢;have mz:aR sd:=pL qe<|fz.nodup_iff.mpr<|j99 I.cC vK;have key:=j9p hT Jb h0 tl I mz λx=>by rw [fz.mem_iff];exact k47 I.cC vK x
   refine cy<|W4<|d7 (OI hu)<|bV GC hr<|ao<|ae 0<|ao<|ae 4<|aE ⟨R,l,as,n,sd,rfl,hR.same Jk,hT,hn,ht,Jl,λL5 cs H5 s5 n5 e5 Jm m5 l5=>?_⟩;have rS:=Jk.trans s5;refine ae 1 ⟨1,_,by omega,k4b e5<|rS _ _ hp,_,rfl,?_⟩
   by_cases cJ:cs=ss
   ·rw [BL<|BX cJ];exact ae 4<|q1 l sd H5 rS o9 (s5 _ _ Jl)<|key.1 λz=>by rw [<- cJ];exact m5 z
   ·rw [BK λh=>cJ<|CG h];refine DH<|q2 H5 rS λjq iV=>?_;have e:=key.2 jq iV;subst e;exact cJ<|pM Jm eJ λz=>(m5 z).trans (iV.cut z).symm
end
end N4
namespace L2
open PySem PySem.Spec PyProof.Rows bR
section
variable{prog:Program}{w:World}{A:Around}{E:Value->Shared->Prop}{s:Shared}{T:String}{r d:Addr}{n:Nat}{P:Nat->Value->Prop}{OK:Heap->Prop}
end
section
variable{X:Cx}
end
end L2
namespace L2
open PySem PySem.Spec PyProof.Rows
section
def Jn(K:PySem.W.Frag)(l:Addr):It:=
  ⟨λi H => ∃ xs x, ai K H l xs ∧ xs[i]? = some x,
   λi H v H'=>∃ T x,H T=none/\v = .ref T/\H'=upd H T (.tup [.int (i:Int),x])/\∀ xs,ai K H l xs->xs[i]?=some x,
   λi H=>∃ xs,ai K H l xs/\xs.length<=i⟩
def q4o(m l:Addr)(i:Nat)(h:Heap):Prop:=(∃ old,IsEnum h (m+1) m (i:Int) old)/\h.IsListIter m l i
theorem k5q{P:Program}{w:World}{K:PySem.W.Frag}{elts:List Expr}{k:Nat}{tp:Pos}(m l:Addr):Turn P w K (.Tuple elts k tp) (Jn K l) [m,m+1] (m+1) (q4o m l) where
 mem:=by simp
 obj:=λi h st c hc=>by
  obtain⟨⟨old,z1⟩,⟨o4,e4,c4,d4⟩⟩:=st;simp only [Ar,Dd,JH] at hc
  rcases hc with rfl | rfl
  ·exact⟨_,e4,λv z=>by rw [d4] at z;cases z⟩
  ·exact⟨_,z1,λv z=>by cases z⟩
 keep:=λi h h' st kp=>by
  obtain⟨⟨old,z1⟩,⟨o4,e4,r4⟩⟩:=st;exact⟨⟨old,kp _ (by simp) _ z1⟩,⟨o4,kp _ (by simp) _ e4,r4⟩⟩
 item:=by
  intro X hP hw hK hc i pins s σ H E I hf st hg;subst hP hw hK;obtain⟨xs,x,fB,hx⟩:=hg;obtain⟨jO,lZ,p1,pQ⟩:=I.list fB;obtain⟨u1,eC,F7⟩:=lZ.get hx;obtain⟨⟨old,z1⟩,z4⟩:=id st;refine wpAny_pyNext_enum_item z1 z4 p1.isList (x:=u1) (by simpa using eC) (by simp) λh' a1 a2 a3 a4 kp=>?_;have hT:H s.heap.objs.size=none:=I.aC.fresh<|Ai _;have nT:∀ c∈[m,m+1],c≠s.heap.objs.size:=λc a7=>by
   have:∃ o,s.heap.get? c=some o:=by
    obtain⟨o4,e4,_⟩:=z4;simp only [Ar,Dd,JH] at a7
    rcases a7 with rfl | rfl
    ·exact⟨_,e4⟩
    ·exact⟨_,z1⟩
   obtain⟨o,e⟩:=this;exact Bp<|Au e
  have I1:Inv X pins σ (upd H s.heap.objs.size<|.tup [.int (i:Int),x]) {s with heap:=s.heap.push {cls:= .type "tuple",data:= .seq #[.int i s.toks,u1]},toks:=s.toks+1}:=
   I.laid (t':=s.toks+1) (λb o e=>Af _ e) (Ai _) (show ay X.prog X.w _ _ _ (.tup [.int (i:Int),x]) from⟨Z2,[.int i s.toks,u1],.cons ⟨_,rfl⟩<|.cons F7 .nil,⟨_,At _ rfl,rfl,_,rfl⟩⟩)
  have f1:∀ c∈[m,m+1],b8 X pins (upd H s.heap.objs.size<|.tup [.int (i:Int),x]) c:=λc a7=>⟨by rw [ax<|nT c a7];exact(hf c a7).1,(hf c a7).2⟩;have po:∀ c o,c∉[m,m+1]->(s.heap.push {cls:= .type "tuple",data:= .seq #[.int i s.toks,u1]}).get? c=some o->h'.get? c=some o:=λc o a7 e=>by
   rcases Hq e with ⟨ec,eo⟩ | e'
   ·rw [ec,eo];exact a3
   ·simp only [Ar,Dd,JH,not_or] at a7;exact kp c o a7.2 a7.1 e'
  have I2:=Inv.bA (h':=h') (t':=s.toks+1) I1 f1 po;refine⟨_,rfl,wpAny_letOwnedTupleGo_enum (s:={s with heap:=h',toks:=s.toks+1}) a1 λh2 b1 sb=>?_⟩;have yM:∀ c o,c∉[m+1]->h'.get? c=some o->h2.get? c=some o:=λc o a7 e=>(sb.2 c<|by simpa using a7).trans e;have I3:=Inv.bA (h':=h2) (t':=s.toks+1) I2 (ch:=[m+1]) (λc a7=>f1 c<|by simp at a7;simp [a7]) yM;refine⟨.ref s.heap.objs.size,_,I3,rfl,⟨_,x,hT,rfl,rfl,λzs hz=>by rw [I.cK hz fB];exact hx⟩,?_,λc a7=>(f1 c a7).1⟩;obtain⟨o3,e3,r3⟩:=a2;exact⟨⟨u1,b1⟩,⟨o3,yM _ _ (by simp) e3,r3⟩⟩
 done:=by
  intro X hP hw hK hc i pins s σ H E I hf st hg;subst hP hw hK;obtain⟨xs,fB,uH⟩:=hg;obtain⟨jO,lZ,p1,pQ⟩:=I.list fB;have l1:=lZ.length;obtain⟨⟨old,z1⟩,z4⟩:=id st;refine wpAny_pyNext_enum_end (I.ok.hd hc) z1 z4 p1.isList (by simp;omega) λh' kp=>⟨rfl,I.bA (t':=s.toks) (ch:=[m,m+1]) hf λc o a7 e=>?_⟩;simp only [Ar,Dd,JH,not_or] at a7;exact kp c o a7.1 e
 self:=λ_ _ _ _ _ st h=>by
  obtain⟨⟨old,z1⟩,_⟩:=st;exact wpAny_pyIter_enum z1 h
end
section
variable{X:Cx}
def q5w(K:PySem.W.Frag)(ta:TA):TI:=λσ H R=>ta σ H λvs H1=>∃ a,vs=[.ref a]/\(∃ xs,ai K H1 a xs)/\R (Jn K a) H1
theorem q06{elts:List Expr}{k:Nat}{tp:Pos}{a:Expr}{ta:TA}{p pos:Pos}(hg:Gl X "enumerate")(hm:X.mg "enumerate" = none)(ha:PA X [a] ta)(hs:starEach [a] X.env=[(false,eval a X.env)]:=by rfl) :
  PI X (.Tuple elts k tp) (.Call (.Name "enumerate" p) [a] [] pos) (q5w X.K ta):=by
 intro pins s σ H R I h;refine Call_<|oB I hg hm boot_enumerate<|HF (aI (ha pos pins s σ H _ I h) λus s1 ⟨vs,H1,I1,r1,q1⟩=>?_) hs rfl;obtain⟨x,e,⟨xs,hx⟩,q⟩:=q1;subst e;obtain⟨u,rfl,ru⟩:=r1.one;cases (show u=Value.ref x from ru);obtain⟨jO,lZ,p1,pQ⟩:=I1.list hx;refine call_enumerate_list p1.isList λh' a1 a2 a3 kp=>?_;refine wpAny_pyIter_enum (s:={s1 with heap:=h'}) a1 ?_;refine⟨s1.heap.objs.size+1,[s1.heap.objs.size,s1.heap.objs.size+1],_,_,H1,rfl,I1.kept (t':=s1.toks) kp,k5q s1.heap.objs.size x,⟨⟨_,a1⟩,a2⟩,λb hb=>?_,q⟩;have hle:s1.heap.objs.size<=b:=by
  simp only [Ar,Dd,JH] at hb
  rcases hb with rfl | rfl <;> omega
 exact I1.gL hle<|I1.aC.fresh hle
theorem Rq(z:Str):∀ zs:List Str,countIn (.str z) (zs.map PyData.str)=(zs.count z:Int)
 | []=>rfl
 | y :: r=>by
  rw [Bt,countIn,Rq z r,RW];simp only [same]
  rcases Bool.eq_false_or_eq_true (y == z) with hb | hb <;> simp only [hb,Bk,FN,DQ] <;> push_cast <;> omega
def q25(K:PySem.W.Frag):V->List V->Hp->VK->Prop:=λx vs H Q=>∃(l:Addr) (zs:List Str) (z:Str),x = .ref l/\vs=[.str z]/\ai K H l (zs.map V.str)/\Q (.int (zs.count z:Int)) H
theorem k8s:xP X "list.count" (q25 X.K):=by
 intro pins s σ H x vs v us Q I rx rv h;obtain⟨l,zs,z,rfl,rfl,hH,q⟩:=h;cases rx;obtain⟨u,rfl,ru⟩:=rv.one;obtain⟨tk,rfl⟩:=ru;obtain⟨its,r,pl,hz⟩:=I.list hH;refine count_list_strs pl.isList (E3 r) ?_;rw [Rq];exact⟨.int (zs.count z:Int),H,I.tok _,⟨_,rfl⟩,q⟩
end
section
variable{X:Cx}{σ:St}{H:Hp}{D:Ends}{body:List Stmt}
end
end L2
namespace N4
open PySem L2 Nt bS
open PyProof.Rows (sortedS)
open Classical
def Jo:Sp:=λvs H Q _=>∃(R a:Addr) (as:List<|Addr×Addr) (n:Net) (ss:List Str),vs=[.ref R,.ref a]/\aw H R as n/\n.length<=60/\(av n).length<=1000/\H a=some (Ls ss)/\∀ H',ah H H'->Q (.bl<|pI n ss) H'
def rX(n:Net)(ss:List Str):Prop:=pI n ss=true/\∃ sd,cg n ss sd
noncomputable def zv:Sp:=λvs H Q _=>∃(R p:Addr) (as:List<|Addr×Addr) (n:Net) (ss:List Str),vs=[.ref R,.ref p]/\aw H R as n/\bN n/\jN n/\0 < n.length/\n.length<=60/\(av n).length<=80/\H p=some (Ls ss)/\aR ss/\∀ H',ah H H'->Q (.bl<|decide (rX n ss)) H'
section
variable{P:Program}{w:World}{K:PySem.W.Frag}{mg:Str->Option Value}{base:Heap}
theorem q1f{X:Cx}{a:Expr}{pos:Pos}{σ:St}{H:Hp}{Q:VK}(h:Ev X a σ H λx H1=>∃ k,lz X.K x H1 k/\Q (.bl (!k)) H1):Ev X (.UnaryOp .Not a pos) σ H Q:=by
 refine⟨λpins s I=>PyProof.Rows.UnaryOp_<|aI (h.run pins s I) λv s1 ⟨x,H1,I1,r1,k,tk,q1⟩=>?_⟩;exact PyProof.Rows.not_of<|aI (MD pins s1 σ H1 x v (λc H2=>Q (.bl (!c)) H2) I1 r1 ⟨k,tk,q1⟩) λc s2 ⟨H2,I2,q2⟩=>⟨.bl (!c),H2,I2,rfl,q2⟩
def i7(ss:List Str)(r:Str×List Str):Bool:=(r.2.filter λz=>ss.contains z).length % 2 == 0
def Jp:Sp:=λvs H Q _=>∃(R a:Addr) (as:List<|Addr×Addr) (n:Net) (ss:List Str),vs=[.ref R,.ref a]/\aw H R as n/\n.length<=60/\(av n).length<=1000/\H a=some (Ls ss) /\
 ∀(L:Addr) (zs:List Str) (H':Hp),ah H H'->H L=none->H' L=some (Ls zs)->zs.Perm ((n.filter λr=>!i7 ss r).map (·.1))->Q (.ref L) H'
abbrev NR:List Str:=["rows","some"]
abbrev Jq:List Str:=["rows","some","point","ties"]
abbrev Rr:List Str:=["rows","some","point","ties","tie"]
theorem q5i:aj NR ["rows","some"] (aP gW):=cU
theorem q6d:aj NR ["rows","some"] (aP pA):=cU
theorem vM:Jq.Nodup:=by decide +kernel
theorem q6q:Rr.Nodup:=by decide +kernel
def q6a:Scope:=match iu gW with
 | [.Return (some<|.Call _ [.ListComp _ _ sc _] _ _) _]=>sc
 | _=>aP gW
def Jr:Scope:=relabel q6a<|PyProof.Rows.envOfC "odd_points" (aP gW) 0 0 .none
theorem q4c{f:Addr}{fd:FuncData}(F:bw K "odd_points" "odd_points" gW f fd)(T:Txt mg):aB P w K mg base bE 1 f fd ["rows","some"] Jp:=by
 refine F.gc q5i λb0 H vs Q E hr h=>?_;obtain⟨R,a,as,n,ss,rfl,hR,hn,ht,ha,q⟩:=h;have eB:=hR.len;refine cy<|dh ur T.sorted CZ<|ao<|jf (aP gW) NR Jq 2 (fM a8)<|ae 0 ⟨R,rfl,⟨_,ai.of hR.lst⟩,λD hD=>?_⟩;refine jM (xs:=as.map λa=>V.ref a.1) (λi σ' H'=>(∃ v1 v2,σ'=[some<|.ref R,some<|.ref a]++[v1,v2])/\H' D=some (.lst<|((n.take i).filter λr=>!i7 ss r).map λr=>V.str r.1)/\ah H H') ⟨⟨none,none,rfl⟩,az,aQ hD _⟩ ?_ ?_ ?_
 ·rintro i σ' H' _ ⟨_,_,sm⟩;exact ai.of<|sm _ _ hR.lst
 ·rintro i x σ' H' hx ⟨⟨v1,v2,rfl⟩,eD,sm⟩;have hi:i < n.length:=by
   have:=(Ab.mp hx).1;rw [Ac] at this;omega
  obtain⟨b,eb,pT,et,el,er⟩:=(hR.same sm).at hi;rw [Ah,eb] at hx;cases hx;have kN:(row n i).length<=1000:=Ck (ux n i) ht;have vN:n.take (i+1)=n.take i++[n[i]]:=by rw [Bz,Aa hi];rfl
  intro cl C' s₀ H₀ ex;refine jj rfl (bt.of et) (aZ 2 vM<|aZ 3 vM ?_);intro cl C' s₀ H₀ ex;refine nr<|d7 lr<|aY eW<|dh jA T.len JG<|ao<|jf Jr Jq Rr 1 (fM a8)<|ae 3 ⟨b.2,rfl,⟨_,ai.of el⟩,λD2 uY=>?_⟩;refine O3 (σ:=[some<|.ref R,some<|.ref a,some<|.str n[i].1,some<|.ref b.2]) (λz=>ss.contains z) (cj<|by omega) el uY (λcl C s₀ H₀ ex v v0 H' R' h=>aZ 4 q6q h) (λcl C s₀ H₀ ex z ys T' h=>?_) (λcl C s₀ H₀ ex z H' R' h=>ae 4 h) ?_
  ·refine nr (d7 qT<|ae 4<|ae 1 ⟨a,_,rfl,.inl (ai.of<|by rw [ax<|b4 (sm _ _ ha) uY];exact sm _ _ ha),rfl,rB _,_,rfl,?_⟩);show T' (tM (.str z)<|ss.map V.str) _;rw [rA];exact h
  ·have nDD:D≠D2:=b4 eD uY;have s2:=aQ uY<|.lst<|((row n i).filter λz=>ss.contains z).map V.str;refine aE ⟨D2,_,rfl,.inl<|ai.of az,aK ⟨_,_,rfl,rfl,(by show(0:Int) < 2;decide),aK ⟨rfl,_,rfl,?_⟩⟩⟩;have ek:decide (V.int ((((((row n i).filter λz=>ss.contains z).map V.str).length:Nat):Int) % 2)=V.int 1) = !i7 ss n[i]:=by
    unfold i7;rw [Ac,er]
    by_cases hc:(n[i].2.filter λz=>ss.contains z).length % 2=0
    ·rw [BR (λh=>by have:=V.int.inj h;omega),beq_iff_eq.mpr hc];rfl
    ·rw [BX (CW V.int<|by omega),beq_eq_false_iff_ne.mpr hc];rfl
   show if decide (V.int ((((((row n i).filter λz=>ss.contains z).map V.str).length:Nat):Int) % 2)=V.int 1)=true then _ else _;rw [ek];refine lK (λc=>?_) λc=>?_
   ·intro cl C' s₀ H₀ ex;refine ae 2 ⟨_,s2 _ _ eD,?_,⟨_,_,rfl⟩,?_,dW (sm.trans s2) hD⟩
    ·rw [Ac];refine cj<|Ck (Ci ..) ?_;rw [Bm];omega
    ·rw [az,vN,Cn,Ak];have:[n[i]].filter (λr=>!i7 ss r)=[n[i]]:=by rw [RM<|by simpa using c];rfl
     rw [this];rfl
   ·refine⟨⟨_,_,rfl⟩,?_,sm.trans s2⟩;rw [vN,Cn];have:[n[i]].filter (λr=>!i7 ss r)=[]:=by rw [List.filter_cons_of_neg<|by simpa using c];rfl
    rw [this,Be];exact s2 _ _ eD
 ·rintro σ' H' ⟨_,eD,sm⟩;rw [Ac,eB,Br] at eD;have e2:((n.filter λr=>!i7 ss r).map λr=>V.str r.1)=(((n.filter λr=>!i7 ss r).map (·.1)).map V.str):=by rw [Cd];rfl
  rw [e2] at eD;refine aE ⟨D,_,rfl,ai.of eD,?_,λl zs hl hp _=>?_⟩
  ·rw [Ac];exact Fc (Ci ..)<|by omega
  ·exact q l zs _ (sm.trans<|aQ hl _) (kK sm hl) az hp
theorem q5l{f:Addr}{fd:FuncData}(F:bw K "is_round" "is_round" pA f fd)(T:Txt mg)
  (G:aO P w K mg base 1 "odd_points" ["rows","some"] Jp):aB P w K mg base bE 2 f fd ["rows","some"] Jo:=by
 refine F.gc q6d λb0 H vs Q E hr h=>?_;obtain⟨R,a,as,n,ss,rfl,hR,hn,ht,ha,q⟩:=h;refine cy<|q1f<|bV G hr<|ao<|ae 0<|ao<|ae 1<|aE ⟨R,a,as,n,ss,rfl,hR,hn,ht,ha,λL zs H' s' nL eL hp=>?_⟩;refine⟨_,Or.inl ⟨_,ai.of eL,rfl⟩,?_⟩;have e:(!(!(zs.map V.str).isEmpty))=pI n ss:=by
  rw [Bool.not_not];have e1:(zs.map V.str).isEmpty=(n.filter λr=>!i7 ss r).isEmpty:=by
   have hl:=hp.length_eq;rw [Ac] at hl;have e0:∀{α β:Type} (x:List α) (y:List β),x.length=y.length->x.isEmpty=y.isEmpty:=λx y h=>by cases x <;> cases y <;> simp_all
   exact e0 _ _<|by rw [Ac];exact hl
  rw [e1];unfold pI;cases h1:(n.filter λr=>!i7 ss r).isEmpty with
  | true=>
   have h2:=List.isEmpty_iff.mp h1;refine(Dk.mpr λr hr=>?_).symm;have:=Ex.mp h2 r hr
   simpa [i7] using this
  | false=>
   cases h3:n.all λr=>(r.2.filter λz=>ss.contains z).length % 2 == 0 with
   | false=>rfl
   | true=>
    exfalso
    have h4:(n.filter λr=>!i7 ss r)=[]:=Ex.mpr λr hr=>by
     have:=Dk.mp h3 r hr;unfold i7;rw [this];simp
    rw [h4] at h1;cases h1
 rw [e];exact q H' s'
theorem Js:aj ["rows","some"] ["rows","some"] (aP FG):=cU
theorem q3r{f:Addr}{fd:FuncData}(F:bw K "is_double" "is_double" FG f fd)(T:Txt mg)
  (GQ:aO P w K mg base 3 "is_round" ["rows","some"] Jo)
  (GI:aO P w K mg base 3 "side_of" ["rows","some"] IQ) :
  aB P w K mg base bE 4 f fd ["rows","some"] zv:=by
 refine F.gc Js λb0 H vs Q E hr h=>?_;obtain⟨R,p,as,n,ss,rfl,hR,hT,Jb,h0,hn,eZ,hp,so,q⟩:=h;refine cy (DJ<|bV GQ hr<|ao<|ae 0<|ao<|ae 1<|aE ⟨R,p,as,n,ss,rfl,hR,hn,by omega,hp,λH1 s1=>⟨_,rfl,?_⟩⟩);cases nK:pI n ss with
 | false=>
  rw [BK<|by decide];have e:decide (rX n ss)=false:=BR λk=>by rw [k.1] at nK;cases nK
  rw [<- e];exact q H1 s1
 | true=>
  rw [BL rfl];refine DL<|jC VE<|bV GI hr<|ao<|ae 0<|ao<|ae 1<|aE ⟨R,p,as,n,ss,rfl,hR.same s1,hT,Jb,h0,hn,eZ,s1 _ _ hp,so,λL sd H2 s2 n2 e2 mz=>DH ⟨rfl,?_⟩,λH2 s2 hno=>DH ⟨rfl,?_⟩⟩
  ·have e:decide (rX n ss)=true:=BX ⟨nK,sd,mz⟩;rw [BR (λk=>by cases k),Bool.not_false,<- e];exact q H2<|s1.trans s2
  ·have e:decide (rX n ss)=false:=BR λk=>by
    obtain⟨_,sd,mz⟩:=k;exact hno sd mz
   rw [BX rfl,Ey,<- e];exact q H2<|s1.trans s2
end
end N4
namespace L2
open PySem PySem.Spec PyProof.Rows
section
variable{X:Cx}{σ:St}{H:Hp}
end
structure Xo(h:Heap)(e T:Addr)(C fl:Value):Prop where
 ex:∃ oe vs,h.get? e=some oe/\oe.cls=C/\oe.dict=none/\oe.data = .fields vs/\vs[1]?=some (.ref T)/\vs[2]?=some .none
 ne:T≠e
 tr:∃ oT ts,h.get? T=some oT/\oT.data = .fields ts/\ts[3]?=some fl
structure Kp(fs bad:List Addr)(h h':Heap):Prop where
 keep:∀ b o,h.get? b=some o->b∉fs->b∉bad->h'.get? b=some o
 slot:∀ b o,h.get? b=some o->b∈fs->∃ sl,h'.get? b=some {o with slots:=sl}
theorem j58(o:Obj)(f:Array Value->Array Value):(o.mapFields f).dict=o.dict:=by
 obtain⟨c,d,dt,sl⟩:=o;cases dt <;> rfl
section
variable{M:Model}{A:Around}{E:Value->Shared->Prop}{s:Shared}
theorem Rt{base:Heap}{env:Env}{outer:List Env}{L e:Addr}{oe:Obj}{vs:Array Value}{head:Value}{nx:Bool}{Q:Unit->Shared->Prop}(kF:A.frames=some (env :: outer))(hl:s.heap.FunFrames base<|env :: outer)(hf:env.frame=some L)
  (he:s.heap.get? e=some oe) (hd:oe.data = .fields vs) (nP:oe.dict=none) (h1:1 < vs.size) (h2:vs[2]?=some .none)
  (h:∀ h' T,s.heap.get? T=none->Xo h' e T oe.cls .none->Kp (df<|env :: outer) [e] s.heap h'->Q () {s with heap:=h'}) :
  wpAny M A (do let a <- frameOf env;let pl <- entryPlaceOf L nx;let b <- EntryCells.newEntry head a .none (rawInt L) .none pl;setField (.ref e) 1 b) (λ_ s'=>wpAny M A (setFlight (.ref e) none) Q E s') E s:=by
 have Ru:e∉df (env :: outer):=λhm=>by
  obtain⟨_,o,ho,hn⟩:=hl.mem hm;rw [he] at ho;cases ho;exact hn vs hd
 refine BJ<|wpAny_frameOf_fun kF hl hf λha sa=>?_;refine BJ<|wpAny_entryPlaceOf λpl ip=>?_;unfold EntryCells.newEntry newFields;refine BJ<|DP ?_<|ip.sizeOk5 _ _ _ _ _;generalize hT:({cls:= .type "traceback",dict:=none,data:= .fields ([head,.ref L,.none,rawInt L,.none]++(if pl.isEmpty then List.replicate 6 Value.none else pl)).toArray}:Obj)=oT;have ea:ha.get? e=some oe:=(sa.2.1 e Ru).trans he;have eb:(ha.push oT).get? e=some oe:=Af _ ea;have tb:(ha.push oT).get? ha.objs.size=some oT:=At ha (by rw [<- hT];rfl);have Jt:ha.objs.size≠e:=Di<|Au ea;refine DX eb hd h1 ?_;have dc:=LC hd (·.setIfInBounds 1 (Value.ref ha.objs.size));have ec:=Cy (Obj.mapFields (·.setIfInBounds 1 (Value.ref ha.objs.size))) eb<|JK dc;have tc:((ha.push oT).update e (Obj.mapFields (·.setIfInBounds 1 (Value.ref ha.objs.size)))).get? ha.objs.size=some oT:=(By _ _<|CJ Jt).trans tb;unfold setFlight;refine BJ (HY ec dc (x:= .ref ha.objs.size) (by simp [h1]) ?_);rw [BL (show(Value.ref ha.objs.size != Value.none)=true from by simp)];have dT:oT.data = .fields ([head,.ref L,.none,rawInt L,.none]++(if pl.isEmpty then List.replicate 6 Value.none else pl)).toArray:=by rw [<- hT]
 have sz:3 < ([head,.ref L,.none,rawInt L,.none]++(if pl.isEmpty then List.replicate 6 Value.none else pl)).toArray.size:=by
  simp only [Bd,Ad,Av,Ff];omega
 refine DX tc dT sz<|h _ ha.objs.size (by
  cases hq:s.heap.get? ha.objs.size with
  | none=>rfl
  | some o=>
   obtain⟨sl,z⟩:=sa.2.2 _ o hq;exact absurd (Au z)<|Cu _) ?_ ?_
 ·have dd:=LC dT (·.setIfInBounds 3 ((none:Option Addr).elim Value.none λf=>rawInt f));refine⟨⟨_,_,(By _ _ Jt).trans ec,Obj.cls_mapFields _ _,by rw [j58];exact nP,dc,by simp [h1],by rw [Array.getElem?_setIfInBounds_ne<|by decide];exact h2⟩,Jt,⟨_,_,Cy _ tc<|JK dd,dd,?_⟩⟩;rw [Gc sz];rfl
 ·have kp:∀ b o,b≠e->ha.get? b=some o->(((ha.push oT).update e (Obj.mapFields (·.setIfInBounds 1 (Value.ref ha.objs.size)))).update ha.objs.size (Obj.mapFields (·.setIfInBounds 3 ((none:Option Addr).elim Value.none λf=>rawInt f)))).get? b=some o:=λb o hb q=>by
   rw [By _ _<|Di<|Au q,By _ _<|CJ hb];exact Af _ q
  refine⟨λb o q nf nb=>kp b o (λz=>nb<|by simp [z])<|(sa.2.1 b nf).trans q,λb o q hb=>?_⟩;obtain⟨sl,z⟩:=sa.2.2 b o q;exact⟨sl,kp b _ (λy=>Ru<|y ▸ hb) z⟩
theorem k7f{base:Heap}{env:Env}{outer:List Env}{L e:Addr}{oe:Obj}{vs:Array Value}{Q:Unit->Shared->Prop}(kF:A.frames=some (env :: outer))(hl:s.heap.FunFrames base<|env :: outer)(hf:env.frame=some L)
  (he:s.heap.get? e=some oe) (hd:oe.data = .fields vs) (nP:oe.dict=none) (h1:vs[1]?=some .none) (h2:vs[2]?=some .none)
  (h:∀ h' T,s.heap.get? T=none->Xo h' e T oe.cls .none->Kp (df<|env :: outer) [e] s.heap h'->Q () {s with heap:=h'}) :
  wpAny M A (noteFrame (.ref e) env) (λ_ s'=>wpAny M A (setFlight (.ref e) none) Q E s') E s:=by
 unfold noteFrame;simp only [hf];refine BJ<|HY he hd h1 ?_;rw [BK<|by decide];exact Rt kF hl hf he hd nP (Fd.mp h1).1 h2 h
theorem q0u{base:Heap}{env:Env}{outer:List Env}{L e T:Addr}{C:Value}{Q:Unit->Shared->Prop}(kF:A.frames=some (env :: outer))(hl:s.heap.FunFrames base<|env :: outer)(hf:env.frame=some L)(x:Xo s.heap e T C .none)
  (h:∀ h' T',s.heap.get? T'=none->Xo h' e T' C .none->Kp (df<|env :: outer) [e,T] s.heap h'->Q () {s with heap:=h'}) :
  wpAny M A (noteFrame (.ref e) env) (λ_ s'=>wpAny M A (setFlight (.ref e) none) Q E s') E s:=by
 obtain⟨⟨oe,vs,he,hc,nP,hd,h1,h2⟩,bF,⟨oT,ts,hT,dT,h3⟩⟩:=x;subst hc;unfold noteFrame;simp only [hf];refine BJ<|HY he hd h1 ?_;rw [BL (show(Value.ref T != Value.none)=true from by simp)];refine BJ<|HY hT dT h3 ?_;rw [BK (show ¬((Value.none == rawInt L)=true) from by simp [rawInt])];refine BJ<|DX hT dT (Fd.mp h3).1 ?_;have nT:∀ b,b≠T->(s.heap.update T (Obj.mapFields (·.setIfInBounds 3 Value.none))).get? b=s.heap.get? b:=λb hb=>By _ _<|CJ hb;have Rv:∀ b o,s.heap.get? b=some o->(∀ vs,o.data ≠ .fields vs)->b≠T:=λb o q hn z=>by
  rw [z,hT] at q;cases q;exact hn ts dT
 have nf:T∉df (env :: outer):=λhm=>by
  obtain⟨_,o,ho,hn⟩:=hl.mem hm;exact Rv T o ho hn rfl
 refine Rt kF (hl.of_keeps λb o q hn=>⟨o,(nT b<|Rv b o q hn).trans q,rfl⟩) hf ((nT e<|CJ bF).trans he) hd nP (Fd.mp h1).1 h2 λh' T' z x k=>h h' T' ?_ x ⟨λb o q n1 n2=>?_,λb o q hb=>?_⟩
 ·cases hq:s.heap.get? T' with
  | none=>rfl
  | some o=>
   by_cases y:T'=T
   ·have:=Cy (Obj.mapFields (·.setIfInBounds 3 Value.none)) hT<|JK<|LC dT _;rw [y] at z;exact absurd (this.symm.trans z)<|by simp
   ·have:=(nT T' y).trans hq;exact absurd (this.symm.trans z)<|by simp
 ·have n3:b≠T:=λy=>n2 (by simp [y]);exact k.keep b o ((nT b n3).trans q) n1 λy=>n2<|by simp at y;simp [y]
 ·exact k.slot b o ((nT b λy=>nf<|y ▸ hb).trans q) hb
theorem k2y{e T:Addr}{C:Value}{Q:Unit->Shared->Prop}(x:Xo s.heap e T C .none)(h:∀ h',Xo h' e T C .none->(∀ b o,b≠T->s.heap.get? b=some o->h'.get? b=some o)->Q () {s with heap:=h'}):wpAny M A (setFlight (.ref e) none) Q E s:=by
 obtain⟨⟨oe,vs,he,hc,nP,hd,h1,h2⟩,bF,⟨oT,ts,hT,dT,h3⟩⟩:=x;unfold setFlight;refine BJ<|HY he hd h1 ?_;rw [BL (show(Value.ref T != Value.none)=true from by simp)];have sz:=(Fd.mp h3).1;have dd:=LC dT (·.setIfInBounds 3 ((none:Option Addr).elim Value.none λf=>rawInt f));refine DX hT dT sz<|h _ ⟨⟨oe,vs,(By _ _ bF).trans he,hc,nP,hd,h1,h2⟩,bF,⟨_,_,Cy _ hT<|JK dd,dd,?_⟩⟩ λb o hb q=>(By _ _<|CJ hb).trans q;rw [Gc sz];rfl
end
theorem Ju{fs f2 bad:List Addr}{H H':Hp}{h h1 h2:Heap}(u:Un fs [] H H' h h1)(k:Kp f2 bad h1 h2)(hf:∀ b o,h.get? b=some o->b∈f2->b∈fs)(hb:∀ b∈bad,h.get? b=none):Un fs [] H H' h h2:=by
 have nb:∀ b o,h.get? b=some o->b∉bad:=λb o q z=>by rw [hb b z] at q;cases q
 refine⟨λb o q n nf _=>k.keep b o (u.keep b o q n nf<|by simp) (λz=>nf<|hf b o q z)<|nb b o q,λb o q n hm _=>?_,u.free,λb o q _=>?_,u.dD,u.dk,u.dE⟩
 ·obtain⟨sl,z⟩:=u.slot b o q n hm<|by simp
  by_cases y:b∈f2
  ·obtain⟨xD,z'⟩:=k.slot b _ z y;exact⟨xD,z'⟩
  ·exact⟨sl,k.keep b _ z y<|nb b o q⟩
 ·obtain⟨o',z⟩:=u.there b o q<|by simp
  by_cases y:b∈f2
  ·obtain⟨xD,z'⟩:=k.slot b _ z y;exact⟨_,z'⟩
  ·exact⟨o',k.keep b _ z y<|nb b o q⟩
theorem Rw{P:Program}{w:World}{f2 bad:List Addr}{H:Hp}{h1 h2:Heap}(x:b7 P w H h1)(k:Kp f2 bad h1 h2)(hf:∀ b∈f2,H b=none)(hb:∀ b∈bad,H b=none):b7 P w H h2:=λa o e=>by
 refine(x a o e).fe (λb u hh q=>k.keep b u q (λz=>?_) λz=>?_) (λ_ q=>q) λ_ _ q=>q
 ·have:=hf b z
  rcases hh with y | y
  ·rw [y,e] at this;cases this
  ·rw [y] at this;cases this
 ·have:=hb b z
  rcases hh with y | y
  ·rw [y,e] at this;cases this
  ·rw [y] at this;cases this
theorem q5g{P:Program}{w:World}{H:Hp}{h:Heap}{a:Addr}{o:HO}(x:ay P w H h a o):∃ u,h.get? a=some u:=by
 cases o with
 | lst xs=>obtain⟨_,_,_,_,q⟩:=x;exact⟨_,q⟩
 | tup xs=>obtain⟨_,_,_,u,q,_⟩:=x;exact⟨_,q⟩
 | dK kvs=>obtain⟨_,_,_,_,u,_,_,q,_⟩:=x;exact⟨_,q⟩
 | dT kvs=>obtain⟨_,_,_,_,u,_,_,q,_⟩:=x;exact⟨_,q⟩
 | set S n=>obtain⟨u,_,_,_,q,_⟩:=x;exact⟨_,q⟩
 | ins C dx fs=>obtain⟨_,_,_,q,_⟩:=x;exact⟨_,q⟩
 | own y=>exact x
 | xd fs=>obtain⟨_,⟨_,_,_,q,_⟩,_⟩:=x;exact⟨_,q⟩
 | ox lo hi=>obtain⟨_,_,_,q⟩:=x;exact⟨_,q⟩
 | bI ob u=>obtain⟨q,_⟩:=x;exact⟨_,q⟩
 | mW ps=>exact⟨_,x⟩
 | met f y=>exact⟨_,x⟩
 | ext φ=>obtain⟨_,q,_⟩:=x;exact q
def XF(P:Program)(w:World):fO:=λouter H s E e s'=>∃(ea T:Addr) (C:Value) (H':Hp),e = .ref ea/\E C none H'/\s'.os=s.os/\AllBare s'.gens/\Un (df outer) [] H H' s.heap s'.heap/\b7 P w H' s'.heap/\Xo s'.heap ea T C .none /\
 s.heap.get? ea=none/\s.heap.get? T=none/\H' ea=none/\H' T=none
section
variable{P:Program}{w:World}{K:PySem.W.Frag}{mg:Str->Option Value}{base:Heap}{N:List Str}{qual:Str}{scope:Scope}{f:Addr}{cd:Value}{A:Around}{outer:List Env}{s:Shared}{H:Hp}{E:XK}
theorem q2h:df (envOfC qual scope s.heap.objs.size f cd :: outer)=s.heap.objs.size :: df outer:=rfl
theorem Jv{b:Addr}{fs ex:List Addr}{Ha Hb:Hp}{h h1:Heap}(u:Un fs ex Ha Hb h h1)(hx:b∉ex)(n:h1.get? b=none):h.get? b=none:=by
 cases q:h.get? b with
 | none=>rfl
 | some o=>obtain⟨o',z⟩:=u.there b o q hx;rw [n] at z;cases z
theorem Jw{P:Program}{w:World}{Ha:Hp}{h1:Heap}{b:Addr}(x:b7 P w Ha h1)(n:h1.get? b=none):Ha b=none:=by
 cases q:Ha b with
 | none=>rfl
 | some o=>
  exfalso
  obtain⟨u,z⟩:=q5g<|x b o q;rw [n] at z;cases z
end
abbrev mB:List Value:=[.type "ValueError",.type "Exception",.type "BaseException",.type "object"]
def XC(K:PySem.W.Frag)(C:Addr):Prop:=PySem.W.excIn K C mB "ValueError.__new__" = true
theorem XC.obj{K:PySem.W.Frag}{h:Heap}{C:Addr}(q:XC K C)(X:K.In h):∃ bm N nm qn bs hdct sn sub ab col dd k0 k1 k2 k3 k5 mN,h.get? C=some (excClassObj nm qn C N bs bm hdct sn sub ab col dd k0 k1 k2 k3 k5 "ValueError.__new__")/\h.Ns N mN/\mN "__init__" = none/\OwnTail h mB bm:=by
 unfold XC PySem.W.excIn at q
 split at q
 ·rename_i dd cd sl ho
  split at q
  ·rename_i D bm k0 k1 k2 k3 n k5 hm hs;simp only [Bu,LK,Bool.not_eq_true'] at q;obtain⟨⟨⟨⟨⟨eD,en⟩,vO⟩,ht⟩,aC⟩,uZ⟩:=q;obtain⟨nm,bs,mro,ns,qn,hd,sn,sub,ab,col,del⟩:=cd
   dsimp only at hm vO aC uZ
   subst eD en hm vO;have esl:sl=#[k0,k1,k2,k3,some<|.builtin "ValueError.__new__",k5]:=by
    cases sl;simp only at hs;rw [hs]
   subst esl;exact⟨bm,ns,nm,qn,bs,hd,sn,sub,ab,col,dd,k0,k1,k2,k3,k5,_,X _ _ ho,.of_isNs<|PySem.W.isNs_of_in X aC,PySem.W.nsMap_none_of_in X aC uZ,PySem.W.tail_of_in X ht⟩
  ·cases q
 ·cases q
section
variable{X:Cx}{σ:St}{H:Hp}{D:Ends}{rest:List Stmt}
def Rz(X:Cx)(E:St->XK):Prop:=∀(pins:List<|Addr×Obj) (σ:St) (H:Hp) (s:Shared) (h':Heap) (e C:Addr) (args:List Value),Inv X pins σ H s->Heap.MadeExcOf s.heap h' e (.ref C) args->E σ (.ref C) none H->X.xe (.ref e) {s with heap:=h'}
theorem k51{E:St->XK}(hz:Rz X E){x:Str}{C:Addr}{a:Expr}{np cp pos:Pos}(hm:X.mg x=some (.ref C))(hC:XC X.K C)(hc:X.calm=true)(h:Ea X [a] σ H λvs H1=>vs.length<=sizeLine/\E σ (.ref C) none H1)(hg:Gl X x:=by rfl)(cx:(x == ("__debug__" : Str))=false:=by decide)
  (he:starEach [a] X.env=(false,eval a X.env) :: starEach [] X.env:=by rfl):Run X (.Raise (some<|.Call (.Name x np) [a] [] cp) none pos :: rest) D σ H:=by
 refine jB (t:=λD σ H=>Ea X [a] σ H λvs H1=>vs.length<=sizeLine/\E σ (.ref C) none H1) ?_ h;intro pins s σ H D I h;obtain⟨bm,N,nm,qn,bs,hdct,sn,sub,ab,col,dd,k0,k1,k2,k3,k5,mN,oC,oN,oi,oT⟩:=hC.obj I.ok.mod.sS;refine wpAny_Raise_call_subT (C:=C) (nm:=nm) (q:=qn) (N:=N) (bs:=bs) (bm:=bm) (hdct:=hdct) (sn:=sn) (sub:=sub) (ab:=ab) (col:=col) (dd:=dd) (k0:=k0) (k1:=k1) (k2:=k2) (k3:=k3) (k5:=k5) PySem.F.excBase_ValueError (mN:=mN) (oT.hasType PySem.F.excBase_ValueError.hasBase) (I.ok.hd hc) (by rw [he];rfl) oi<|sX I hg hm ⟨rfl,?_⟩ cx;have q:=h.run cp pins s I;rw [he] at q ⊢;refine NT<|aI q λus s2 ⟨vs,H2,I2,r,z2,q2⟩=>⟨rfl,by rw [<- r.length];exact z2,I2.bk _ _ oC,oN.keeps I2.bk,oT.keeps I2.bk,λh' e hx=>hz pins σ H2 s2 h' e C us I2 hx q2⟩
end
section
variable{P:Program}{w:World}{K:PySem.W.Frag}{mg:Str->Option Value}{base:Heap}{N:List Str}{qual:Str}{scope:Scope}{f:Addr}{cd:Value}{A:Around}{outer:List Env}{s:Shared}{H:Hp}{E:XK}
theorem q3c{h h':Heap}(k:∀ b o,h.get? b=some o->h'.get? b=some o):Kp [] [] h h':=⟨λb o q _ _=>k b o q,λb o q z=>absurd z<|by simp⟩
theorem q6h:Rz (dZ (XF P w) P w K mg base N qual scope f cd A outer s H E) (λ_=>E):=by
 intro pins σ H1 s1 h' e C args I hx hE;obtain⟨t,he,_,_⟩:=hx.there;show wpAny (model P w) (A.deeper<|envOfC qual scope s.heap.objs.size f cd) (leaving (envOfC qual scope s.heap.objs.size f cd)<|.ref e) _ _ _;unfold leaving;have n0:H1 e=none:=Jw I.aC hx.new;have k1:=q3c hx.keeps;refine BJ<|k7f (s:={s1 with heap:=h'}) (base:=base) (outer:=outer) I.ok.frames (I.stack.of_keeps λb o q _=>⟨o,hx.keeps b o q,rfl⟩) rfl he rfl rfl rfl rfl λh2 T z x k=>?_;have Jx:b7 P w H1 h':=I.aC.kept hx.keeps;have un1:Un (df outer) [] H H1 s.heap h':=Ju (H:=H) (h:=s.heap) I.base k1 (λb o q hb=>absurd hb<|by simp) λb hb=>absurd hb (by simp);have nT:s1.heap.get? T=none:=by
  cases q:s1.heap.get? T with
  | none=>rfl
  | some o=>have:=hx.keeps _ _ q;exact absurd (this.symm.trans z)<|by simp
 have ns:s.heap.get? e=none:=Jv (ex:=[]) (Hb:=H1) I.base (by simp) hx.new;refine⟨e,T,.ref C,H1,rfl,hE,I.os,I.bare,Ju un1 k (λb o q hb=>?_) λb hb=>?_,Rw Jx k (λb hb=>I.dA b hb) λb hb=>?_,x,ns,Jv (ex:=[]) (Hb:=H1) I.base (by simp) nT,n0,Jw I.aC nT⟩
 ·rw [q2h] at hb
  rcases Ar.mp hb with y | y
  ·exact absurd (Au q)<|by rw [y];exact Cu _
  ·exact y
 ·rw [Ae.mp hb];exact ns
 ·rw [Ae.mp hb];exact n0
def Rx(N:List Str)(qual:Str)(scope:Scope)(P:Program)(w:World)(K:PySem.W.Frag)(mg:Str->Option Value)(base:Heap)(b:ra):Cx:=dZ (XF P w) P w K mg base N qual scope b.f b.bv b.A b.outer b.s b.H b.E
theorem bw.gx{x:Str}{st:Stmt}{fd:FuncData}{ps:List Str}{k:Nat}{sp:Sp}(F:bw K x qual st f fd)(S:aj N ps<|aP st)(len:∀ vs H Q E,sp vs H Q E->vs.length=ps.length)
  (ce:∀(b:ra) (H:Hp) (vs:List V) (Q:VK),bb k (b.A.deeper<|envOfC qual (aP st) b.s.heap.objs.size b.f b.bv)->sp vs H Q b.E->Run (Rx N qual (aP st) P w K mg base b) (iu st) (En Q) (start N vs) H):aB P w K mg base (XF P w) (k+1) f fd ps sp:=by
 obtain⟨oc,od,kV,doc,pm,an,bv,ct,jx,rfl,lk,ik⟩:=F.ex;refine MU lk ik S len λA outer s H vs Q E hr dB=>?_;exact⟨_,nj,ce ⟨f,bv,A,outer,s,H,E⟩ H vs Q hr dB⟩
theorem rzX{b:ra}:Rz (Rx N qual scope P w K mg base b) (λ_=>b.E):=q6h
end
structure fE(P:Program)(w:World)(K:PySem.W.Frag)(mg:Str->Option Value)(base:Heap)(k:Nat)(x:Str)(ps:List Str)(sp:Sp):Prop where
 ex:∃ f fd,aB P w K mg base (XF P w) k f fd ps sp/\Binds K fd ps []/\PySem.W.keepIn K (.ref f)=true/\mg x=some (.ref f)
theorem fE.mono{P:Program}{w:World}{K:PySem.W.Frag}{mg:Str->Option Value}{base:Heap}{j k:Nat}{x:Str}{ps:List Str}{sp:Sp}(h:fE P w K mg base j x ps sp)(le:j<=k):fE P w K mg base k x ps sp:=
 let ⟨f,fd,F,r⟩:=h.ex;⟨f,fd,F.mono le,r⟩
theorem q1m{X:Cx}{k:Nat}{ps:List Str}{sp:Sp}{x:Str}{e:Expr}{es:List Expr}{σ:St}{H:Hp}{Q:VK}{E:XK}{p pos:Pos}(G:fE X.prog X.w X.K X.mg X.base k x ps sp)(hr:bb k X.A)(hx:oO (XF X.prog X.w) X E)
  (h:Ea X (e :: es) σ H λvs H1=>sp vs H1 Q E) (hg:Gl X x:=by rfl) (cx:(x == ("__debug__" : Str))=false:=by decide) (hs:noStar (e :: es)=true:=by rfl):Ev X (.Call (.Name x p) (e :: es) [] pos) σ H Q:=
 let ⟨_,_,F,b,kp,m⟩:=G.ex;Ny F hr m kp b hx h hg cx hs
theorem Df.Jy{P:Program}{w:World}{K:PySem.W.Frag}{mg:Str->Option Value}{h base:Heap}{k:Nat}{x:Str}{st:Stmt}{ps:List Str}{sp:Sp}(d:Df K x st)(X:K.In h)(G:h.Ns mainGlobals mg)
  (hb:∀(kV doc pm:Value) (an:Option Addr) (bv ct:Value) (us:List Value),us.length=ps.length->bindArgs (PySem.W.fnOf x x (ng st) (iu st) (aP st) .none kV doc pm an bv ct) ⟨us,[]⟩=pure (ps.zip us))
  (ok:∀{f:Addr} {fd:FuncData},bw K x x st f fd->aB P w K mg base (XF P w) k f fd ps sp):fE P w K mg base k x ps sp:=
 let ⟨f,fd,a,F⟩:=d;⟨f,fd,ok F,F.binds hb,F.kp,JR X G a⟩
def Jz(CX:fO)(X:Cx)(σ:St)(E:XK):Prop:=∀(pins:List<|Addr×Obj) (H:Hp) (s:Shared) (e:Value) (s':Shared),Inv X pins σ H s->CX X.stack H s E e s'->X.xe e s'
section
variable{X:Cx}{CX:fO}{k:Nat}{f:Addr}{fd:FuncData}{ps:List Str}{sp:Sp}{E:XK}{x:Str}{p pos:Pos}{e:Expr}{es:List Expr}{σ:St}{H:Hp}{Q:VK}
theorem k9a(F:aB X.prog X.w X.K X.mg X.base CX k f fd ps sp)(hr:bb k X.A)(hm:X.mg x=some (.ref f))(hk:PySem.W.keepIn X.K (.ref f)=true)(hb:Binds X.K fd ps [])(hx:Jz CX X σ E)(h:Ea X (e :: es) σ H λvs H1=>sp vs H1 Q E)
  (hg:Gl X x:=by rfl) (cx:(x == ("__debug__" : Str))=false:=by decide) (he:starEach (e :: es) X.env=(false,eval e X.env) :: starEach es X.env:=by rfl) (jd:(backTo pos<|starEach es X.env).any (·.1)=false:=by rfl):Ev X (.Call (.Name x p) (e :: es) [] pos) σ H Q:=by
 refine⟨λpins s I=>KJ<|sX I hg hm ?_ cx⟩;refine PySem.W.callWith_K (h₀:=X.base) I.ok.mod.sS hk (aI (h.run pos pins s I) λus s1 ⟨vs,H1,I1,r,q⟩=>⟨I1.jw,?_⟩) he jd;have hl:us.length=ps.length:=by rw [<- r.length];exact F.len _ _ _ _ q
 have qV:(us++[]).length=ps.length:=by rw [Be];exact hl
 have uc:=hb s1 us I1.jw qV;rw [Be] at uc;refine QW<|IK (F.run X.A X.stack s1 H1 ⟨us,[]⟩ us vs Q E hr I1.tG uc r q) λr s' hq=>?_;cases r with
 | error y=>exact hx pins H1 s1 y s' I1 hq
 | ok fl=>
  cases fl with
  | ret u=>exact I1.after hq
  | next=>exact False.elim hq
  | brk=>exact False.elim hq
  | cont=>exact False.elim hq
theorem q04(G:fE X.prog X.w X.K X.mg X.base k x ps sp)(hr:bb k X.A)(hx:Jz (XF X.prog X.w) X σ E)(h:Ea X (e :: es) σ H λvs H1=>sp vs H1 Q E)
  (hg:Gl X x:=by rfl) (cx:(x == ("__debug__" : Str))=false:=by decide) (he:starEach (e :: es) X.env=(false,eval e X.env) :: starEach es X.env:=by rfl) (jd:(backTo pos<|starEach es X.env).any (·.1)=false:=by rfl):Ev X (.Call (.Name x p) (e :: es) [] pos) σ H Q:=
 let ⟨_,_,F,b,kp,m⟩:=G.ex;k9a F hr m kp b hx h hg cx he jd
end
abbrev XO(oe:Obj):HO:= .bI oe<|.own 0
structure zx(oe:Obj)(C:Value):Prop where
 cls:oe.cls=C
 dict:oe.dict=none
 data:∃ vs,oe.data = .fields vs/\vs[2]?=some .none
abbrev Cx.bL(X:Cx)(p:List<|Addr×Obj):Cx:={X with pn:=X.pn++p}
structure vP(X:Cx)(pins:List<|Addr×Obj)(b:Addr):Prop where
 l:b≠X.env.locals
 c:∀ x c,X.env.cells.lookup x=some c->c≠b
 p:∀ q∈X.pn++pins,q.1≠b
 f:b∉X.fs
 s:X.s₀.heap.get? b=none
section
variable{X:Cx}{pins:List (Addr×Obj)}{σ:St}{H:Hp}{s:Shared}{b:Addr}
theorem JA(I:Inv X pins σ H s)(hex:X.ex=[])(n:s.heap.get? b=none):vP X pins b:=by
 refine⟨λz=>?_,λx c e z=>?_,λq hq z=>?_,λz=>?_,Jv I.base (by rw [hex];simp) n⟩
 ·obtain⟨m,⟨o,_,_,ho,_⟩,_⟩:=I.loc;rw [<- z,n] at ho;cases ho
 ·obtain⟨v,o,ho,_⟩:=I.cell x c e;rw [z,n] at ho;cases ho
 ·have:=(I.pin q hq).1;rw [z,n] at this;cases this
 ·obtain⟨_,o,ho,_⟩:=I.cw.mem z;rw [n] at ho;cases ho
theorem Inv.kp{bad:List Addr}{h':Heap}{t':Nat}(I:Inv X pins σ H s)(hex:X.ex=[])(k:Kp (df X.stack) bad s.heap h')(ha:∀ b∈bad,vP X pins b)(hn:∀ b∈bad,H b=none):Inv X pins σ H {s with heap:=h',toks:=t'}:=by
 have kc:∀ x c,X.env.cells.lookup x=some c->∀ v,s.heap.IsCell c v->h'.IsCell c v:=λx c e v ⟨o,ho,hd⟩=>by
  by_cases y:c∈df X.stack
  ·obtain⟨sl,z⟩:=k.slot c o ho y;exact⟨_,z,hd⟩
  ·exact⟨o,k.keep c o ho y λw=>(ha c w).c x c e rfl,hd⟩
 have kl:∀ m,s.heap.Ns X.env.locals m->h'.Ns X.env.locals m:=λm hm=>by
  obtain⟨o,es,ep,ho,r⟩:=hm
  by_cases y:X.env.locals∈df X.stack
  ·obtain⟨sl,z⟩:=k.slot _ o ho y;exact⟨_,es,ep,z,r⟩
  ·exact⟨o,es,ep,k.keep _ o ho y λw=>(ha _ w).l rfl,r⟩
 refine⟨I.ok,I.os,I.bare,?_,?_,λx c e=>?_,I.free,I.bg,λp hp=>?_,Rw I.aC k (λb hb=>I.dA b hb) hn,I.len⟩
 ·have u:=I.base;rw [hex] at u ⊢;refine Ju u k (λb o q hb=>?_) λb hb=>(ha b hb).s
  rcases Ar.mp (I.cZ b hb) with y | y
  ·exact absurd (Bo (Au q) I.ok.above)<|by rw [y];exact Cu _
  ·exact y
 ·obtain⟨m,hm,hl⟩:=I.loc;refine⟨m,kl m hm,λi x v e1 e2 e3=>?_⟩;obtain⟨u,r,q⟩:=hl i x v e1 e2 e3;refine⟨u,r,?_⟩
  rcases q with q | ⟨y,c,e,z⟩
  ·exact .inl q
  ·exact .inr ⟨y,c,e,kc x c e _ z⟩
 ·obtain⟨v,z⟩:=I.cell x c e;exact⟨v,kc x c e v z⟩
 ·obtain⟨e,n,ne,nf,d⟩:=I.pin p hp;refine⟨k.keep _ _ e (λy=>?_) λw=>(ha _ w).p p hp rfl,n,ne,nf,d⟩
  rcases Ar.mp (I.cZ _ y) with z | z
  ·exact ne z
  ·exact nf z
theorem Inv.vQ{o:HO}(I:Inv X pins σ H s)(hex:X.ex=[])(a:vP X pins b)(n:H b=none)(ho:ay X.prog X.w (upd H b o) s.heap b o):Inv X pins σ (upd H b o) s:=by
 have u:=I.base;have ne:∀ c o',H c=some o'->c≠b:=λc o' q z=>by rw [z,n] at q;cases q
 refine⟨I.ok,I.os,I.bare,⟨u.keep,u.slot,λc o' q n' hx=>?_,u.there,λc xs q=>?_,λc o' v q=>?_,λc ps q=>?_⟩,I.loc,I.cell,by rw [ax<|CJ a.l];exact I.free,λx c e=>by rw [ax<|a.c x c e];exact I.bg x c e,λp hp=>?_,λc o' q=>?_,I.len⟩
 ·have:c≠b:=λz=>by rw [z,a.s] at q;cases q
  rw [ax this];exact u.free c o' q n' hx
 ·have q':=u.dD c xs q;rw [ax<|ne _ _ q'];exact q'
 ·have q':=u.dk c o' v q;rw [ax<|ne _ _ q'];exact q'
 ·obtain⟨m,q'⟩:=u.dE c ps q;exact⟨m,by rw [ax<|ne _ _ q'];exact q'⟩
 ·obtain⟨e,n',r⟩:=I.pin p hp;exact⟨e,by rw [ax<|a.p p hp];exact n',r⟩
 ·by_cases y:c=b
  ·subst y;rw [az] at q;cases q;exact ho
  ·rw [ax y] at q;exact(I.aC c o' q).fe (λ_ _ _ z=>z) (λd z=>by rw [ax<|ne _ _ z];exact z) λd xs z=>by rw [ax<|ne _ _ z];exact z
end
def Cgt(X:Cx)(Φ:Value->St->Hp->Prop)(e:Value)(s':Shared):Prop:=∃(pins:List<|Addr×Obj) (σ:St) (H:Hp) (ea T:Addr) (C:Value),e = .ref ea/\Inv X pins σ H s'/\Xo s'.heap ea T C .none/\vP X pins ea/\vP X pins T/\H ea=none/\H T=none/\Φ C σ H
abbrev zy(X:Cx)(p:List<|Addr×Obj)(Φ:Value->St->Hp->Prop):Cx:=(X.bL p).dq<|Cgt (X.bL p) Φ
theorem q6v{X:Cx}{p:List (Addr×Obj)}{Φ:Value->St->Hp->Prop}{σ:St}(hex:X.ex=[]):Jz (XF X.prog X.w) (zy X p Φ) σ (λC _ H'=>Φ C σ H'):=by
 rintro pins H s e s' I ⟨ea,T,C,H',rfl,hE,os,bare,un,aC,x,n1,n2,n3,n4⟩;have I2:=I.call' (ch:=[]) os un aC bare (λb z=>absurd z<|by simp);have J:Inv (X.bL p) pins σ H s:=I.bC;exact⟨pins,σ,H',ea,T,C,rfl,I2.bC,x,JA J hex n1,JA J hex n2,n3,n4,hE⟩
abbrev gA(X:Cx)(p:List<|Addr×Obj)(ea:Addr):Cx:={X with A:=X.A.mark<|some<|.ref ea,calm:=false,pn:=X.pn++p,xe:=λ_ _=>False}
theorem Inv.hd{X:Cx}{p pins:List (Addr×Obj)}{σ:St}{H:Hp}{s:Shared}{ea:Addr}(I:Inv (X.bL p) pins σ H s):Inv (gA X p ea) pins σ H s:=
 ⟨⟨I.ok.mod,I.ok.kind,I.ok.glob,I.ok.blt,I.ok.above,I.ok.inj,I.ok.has,I.ok.lh,(λz=>(nomatch z)),I.ok.frames,I.ok.ku,I.ok.qP,I.ok.bs,I.ok.jb,I.ok.fi,I.ok.fY,I.ok.cw,I.ok.ky⟩,I.os,I.bare,I.base,I.loc,I.cell,I.free,I.bg,I.pin,I.aC,I.len⟩
theorem Inv.JE{X:Cx}{p pins vR:List (Addr×Obj)}{σ:St}{H:Hp}{s:Shared}{ea:Addr}(I:Inv (gA X p ea) pins σ H s)(hc:X.calm=true->X.A.handled=none):Inv (X.bL p) pins σ H s:=
 ⟨⟨I.ok.mod,I.ok.kind,I.ok.glob,I.ok.blt,I.ok.above,I.ok.inj,I.ok.has,I.ok.lh,hc,I.ok.frames,I.ok.ku,I.ok.qP,I.ok.bs,I.ok.jb,I.ok.fi,I.ok.fY,I.ok.cw,I.ok.ky⟩,I.os,I.bare,I.base,I.loc,I.cell,I.free,I.bg,I.pin,I.aC,I.len⟩
theorem Inv.qf{X:Cx}{p pins:List (Addr×Obj)}{σ:St}{H:Hp}{s:Shared}(I:Inv X p σ H s):Inv (X.bL p) [] σ H s:=
 ⟨⟨I.ok.mod,I.ok.kind,I.ok.glob,I.ok.blt,I.ok.above,I.ok.inj,I.ok.has,I.ok.lh,I.ok.hd,I.ok.frames,I.ok.ku,I.ok.qP,I.ok.bs,I.ok.jb,I.ok.fi,I.ok.fY,I.ok.cw,I.ok.ky⟩,I.os,I.bare,I.base,I.loc,I.cell,I.free,I.bg,λq hq=>I.pin q (by simpa using hq),I.aC,I.len⟩
theorem Inv.iK{X:Cx}{p pins:List (Addr×Obj)}{σ:St}{H:Hp}{s:Shared}(I:Inv (X.bL p) pins σ H s):Inv X p σ H s:=
 ⟨⟨I.ok.mod,I.ok.kind,I.ok.glob,I.ok.blt,I.ok.above,I.ok.inj,I.ok.has,I.ok.lh,I.ok.hd,I.ok.frames,I.ok.ku,I.ok.qP,I.ok.bs,I.ok.jb,I.ok.fi,I.ok.fY,I.ok.cw,I.ok.ky⟩,I.os,I.bare,I.base,I.loc,I.cell,I.free,I.bg,λq hq=>I.pin q<|Bi _ hq,I.aC,I.len⟩
def rY(K:PySem.W.Frag)(C S:Addr):Bool:=match K.lookup C with
 | some ⟨_,_,.cls cd,_⟩=>cd.mro.contains<|.ref S
 | _=>false
theorem q22{K:PySem.W.Frag}{h:Heap}{C S:Addr}(X:K.In h)(q:rY K C S=true){nm qn:Str}{N:Addr}{bs bm:List Value}{hdct:Bool}{sn:List Str}{sub:List Value}{ab:Bool}{col:Option Bool}{dd:Option Addr}{k0 k1 k2 k3 k5:Option Value}{nid:String}
  (oC:h.get? C=some (excClassObj nm qn C N bs bm hdct sn sub ab col dd k0 k1 k2 k3 k5 nid)):(Value.ref C :: bm).contains (.ref S)=true:=by
 unfold rY at q
 split at q
 ·rename_i ho;have:=(X _ _ ho).symm.trans oC;cases this;exact q
 ·cases q
section
variable{M:Model}{A:Around}{E:Value->Shared->Prop}{K:PySem.W.Frag}{s:Shared}
theorem k5g{e C S:Addr}{oe:Obj}{Q:Bool->Shared->Prop}(X:K.In s.heap)(hC:XC K C)(hS:XC K S)(hm:rY K C S=true)(he:s.heap.get? e=some oe)(hc:oe.cls = .ref C)(h:Q true s):wpAny M A (excMatches (.ref e)<|.ref S) Q E s:=by
 obtain⟨bm,N,nm,qn,bs,hdct,sn,sub,ab,col,dd,k0,k1,k2,k3,k5,mN,oC,oN,oi,oT⟩:=hC.obj X;obtain⟨bm',N',nm',qn',bs',Ry,sn',x0a,ab',x0b,kC,k0',D4,k2',k3',k5',mN',oS,oN',oi',oT'⟩:=hS.obj X;have c1:=q22 X hm oC;have c2:(Value.ref S :: bm').contains (.type "BaseException")=true:=by rw [List.contains_cons,oT'.hasType PySem.F.excBase_ValueError.hasBase,Bool.or_true]
 have f:=tc_notTuple;obtain⟨hh,g,d,tk,os⟩:=s;unfold excMatches
 repeat (first | (with_reducible refine wpAny_loadPart_at he ?_;rw [hc]) | with_reducible refine wpAny_loadPart_at oS ?_ | (with_reducible refine wpAny_isSubtype_exc oS ?_;rw [c2]) | (with_reducible refine wpAny_isSubtype_exc oC ?_;rw [c1]) | wp_step)
 exact h
end
section
variable{X:Cx}{pins:List (Addr×Obj)}{σ:St}{H:Hp}{s:Shared}
theorem Inv.cr{M:Model}{A:Around}{E:Value->Shared->Prop}{Q:Unit->Shared->Prop}{i:Nat}{n:Str}{pos:Pos}(I:Inv X pins σ H s)(hN:X.N.Nodup)(hi:X.N[i]?=some n)(hl:X.env.scope.names.lookup n=some .local)
  (h:∀ s',Inv X pins (σ.set i none) H s'->Q () s'):wpAny M A (do bindName X.env n .none;unbindBehindTheSuite X.env n pos) Q E s:=by
 obtain⟨m,hn,JI⟩:=id I.loc;have oA:(X.env.scope.kind == .class || (X.env.scope.kind == .module && X.env.locals != X.env.globals))=false:=by rw [I.ok.kind];rfl
 have hiσ:i < σ.length:=by rw [I.len];exact(Ab.mp hi).1
 obtain⟨oL,_,_,jc,_⟩:=id hn;refine wpAny_nameGoes_keeps hl hn oA λh' v m3 hs=>h _ ?_;have low:∀ b o,X.s₀.heap.get? b=some o->b≠X.env.locals:=λb o q=>Bp<|Bo (Au q) I.ok.above;refine⟨I.ok,I.os,I.bare,⟨λb o q n' hb hx=>(hs.2 b<|low b o q).trans<|I.base.keep b o q n' hb hx,λb o q n' hb hx=>?_,I.base.free,λb o q hx=>?_,I.base.dD,I.base.dk,I.base.dE⟩,⟨_,m3,λj y v' e1 e2 e3=>?_⟩,λy c q=>?_,I.free,I.bg,λp hp=>?_,λb u q=>?_,by rw [Fv];exact I.len⟩
 ·obtain⟨sl,z⟩:=I.base.slot b o q n' hb hx;exact⟨sl,(hs.2 b<|low b o q).trans z⟩
 ·obtain⟨o',z⟩:=I.base.there b o q hx;exact⟨o',(hs.2 b<|low b o q).trans z⟩
 ·by_cases hj:j=i
  ·subst hj;rw [Gr hiσ] at e2;cases e2
  ·rw [Hn<|CJ hj] at e2;obtain⟨u,r,q⟩:=JI j y v' e1 e2 e3;refine⟨u,r,?_⟩
   rcases q with ⟨k,z⟩ | ⟨k,c,z,w⟩
   ·have:y≠n:=λz=>hj<|AY hN e1<|z ▸ hi;exact .inl ⟨k,by simp [this,z]⟩
   ·exact .inr ⟨k,c,z,w.sameBut hs<|I.ll y c z⟩
 ·obtain⟨v2,z⟩:=I.cell y c q;exact⟨v2,z.sameBut hs<|I.ll y c q⟩
 ·obtain⟨e,n',ne,nf,d⟩:=I.pin p hp;exact⟨(hs.2 p.1 ne).trans e,n',ne,nf,d⟩
 ·refine(I.aC b u q).fe (λc w' hc z=>(hs.2 c ?_).trans z) (λ_ z=>z) λ_ _ z=>z;rintro rfl
  rcases hc with hc | hc
  ·rw [<- hc,I.free] at q;cases q
  ·rw [I.free] at hc;cases hc
end
def q4n(X:Cx)(D:Ends)(rest:List Stmt)(i:Nat):Ends:={nx:=λσ H=>Run X rest D (σ.set i none) H,rt:=D.rt,bk:=λσ H=>D.bk (σ.set i none) H,ct:=λσ H=>D.ct (σ.set i none) H}
theorem q1d{X:Cx}{σ:St}{H:Hp}{D:Ends}{rest body nQ:List Stmt}{b₀:Stmt}{x n:Str}{S:Addr}{np hp pos:Pos}(i:Nat)(Φ:Value->St->Hp->Prop)(hm:X.mg x=some (.ref S))(hS:XC X.K S)(hN:X.N.Nodup)
  (hb:∀ p,Run (zy X p Φ) body {D with nx:=λσ' H'=>Run X rest D σ' H'} σ H)
  (hh:∀ C σ' H',Φ C σ' H'->∃ Ca,C = .ref Ca/\XC X.K Ca/\rY X.K Ca S=true/\∀ p ea oe,zx oe C->H' ea=none->Run (gA X p ea) (b₀ :: nQ) (q4n X D rest i) (σ'.set i<|some<|.ref ea) (upd H' ea<|XO oe))
  (hi:X.N[i]?=some n:=by rfl) (hl:X.env.scope.names.lookup n=some .local:=by rfl) (hex:X.ex=[]:=by rfl) (c6:X.stack=X.env :: X.outer:=by rfl) (kF:X.env.frame=some X.env.locals:=by rfl)
  (sW:X.fn n=true\/X.env.scope.names.lookup n=some .local:=by first | exact .inl rfl | exact .inr rfl) (hg:Gl X x:=by rfl) (cx:(x == ("__debug__" : Str))=false:=by decide) :
  Run X (.Try body [.ExceptHandler (some<|.Name x np) (some n) (b₀ :: nQ) hp] [] [] pos :: rest) D σ H:=by
 refine jB (t:=λD' σ H=>∀ p,Run (zy X p Φ) body {D with nx:=λσ' H'=>Run X rest D σ' H'} σ H/\D'={D with nx:=λσ' H'=>Run X rest D σ' H'}) ?_ λp=>⟨hb p,rfl⟩;intro p0 s σ H D' I h;obtain⟨hb,rfl⟩:=h p0;refine wpAny_Try_except<|CV (hb.run [] s<|(I.qf (pins:=[])).dq _) (λf s1 q=>?_) λe s1 q=>?_
 ·have out:∀{pp:List (Addr×Obj)} {σ':St} {H':Hp},Inv (zy X p0 Φ) pp σ' H' s1->Inv X p0 σ' H' s1:=λJ=>(J.bC).iK;cases f with
  | next=>
   obtain⟨σ',H',J,q⟩:=q;exact Mm p0 s1 σ' H' _ (out J) q
  | brk=>obtain⟨σ',H',J,q⟩:=q;exact⟨σ',H',out J,q⟩
  | cont=>obtain⟨σ',H',J,q⟩:=q;exact⟨σ',H',out J,q⟩
  | ret u=>obtain⟨v,σ',H',J,r,q⟩:=q;exact⟨v,σ',H',out J,r,q⟩
 ·obtain⟨pp,σ',H',ea,T,C,rfl,J,x1,a1,a2,n1,n2,hΦ⟩:=q;obtain⟨Ca,rfl,hC,pj,JO⟩:=hh C σ' H' hΦ;have fr:(X.bL p0).A.frames=some (X.env :: X.outer):=by rw [<- c6];exact J.ok.frames
  have ku:s1.heap.FunFrames X.base (X.env :: X.outer):=by rw [<- c6];exact J.stack
  refine q0u fr ku kF x1 λh2 T' z x2 k=>?_;have k':Kp (df (X.bL p0).stack) [ea,T] s1.heap h2:=by
   show Kp (df X.stack) [ea,T] s1.heap h2;rw [c6];exact k
  have J2:Inv (X.bL p0) pp σ' H' {s1 with heap:=h2}:=J.kp (t':=s1.toks) hex k' (λb hb=>by
   rcases Ar.mp hb with y | y
   ·rw [y];exact a1
   ·rw [Ae.mp y];exact a2) (λb hb=>by
   rcases Ar.mp hb with y | y
   ·rw [y];exact n1
   ·rw [Ae.mp y];exact n2)
  have a3:=JA J hex z;have n3:H' T'=none:=Jw J.aC z;have J3:Inv (gA X p0 ea) pp σ' H' {s1 with heap:=h2}:=J2.hd;obtain⟨⟨oe,vs,he,hc,nP,hd,h1,jG⟩,bF,htr⟩:=id x2;refine wpAny_handleBy_cons (codeAny_handlers_test<|sX J3 hg hm ?_ cx) (by intro q;cases q);refine k5g J3.jw hC hS pj he hc ?_;refine codeAny_handlers_suite_as<|k2y x2 λh3 x3 k3=>?_;have J4:Inv (gA X p0 ea) pp σ' H' {s1 with heap:=h3}:=J3.kp (s:={s1 with heap:=h2}) (t':=s1.toks) (bad:=[T']) hex ⟨λb o q _ nb=>k3 b o (λy=>nb<|by simp [y]) q,λb o q hb=>⟨o.slots,k3 b o (λy=>by
   obtain⟨_,o',cY,m3⟩:=J3.stack.mem hb;obtain⟨oT,ts,hT,dT,_⟩:=htr;rw [y] at cY;have:=cY.symm.trans hT;cases this;exact m3 _ dT) q⟩⟩ (λb hb=>by rw [Ae.mp hb];exact⟨a3.l,a3.c,a3.p,a3.f,a3.s⟩) λb hb=>by rw [Ae.mp hb];exact n3
  obtain⟨⟨RA,vs3,RC,hc3,JP,hd3,zA,vS⟩,_,_⟩:=x3;have J5:Inv (gA X p0 ea) pp σ' (upd H' ea<|XO RA) {s1 with heap:=h3}:=J4.vQ hex ⟨a1.l,a1.c,a1.p,a1.f,a1.s⟩ n1 ⟨RC,⟨_,RC⟩⟩;refine A0 (X:=gA X p0 ea) J5 hN hi (Or.inl hl) (v:= .ref ea) rfl (λs4 J6=>?_) sW;refine CV ((JO p0 ea RA ⟨hc3,JP,vs3,hd3,vS⟩ n1).run pp s4 J6) (λf s5 q=>?_) λ_ _ z=>z.elim;have out:∀{σ2:St} {H2:Hp} {s6:Shared},Inv (gA X p0 ea) pp σ2 H2 s6->Inv X p0 σ2 H2 s6:=λJ=>((J.JE (vR:=[]) J2.ok.hd).iK);cases f with
  | next=>
   obtain⟨σ2,H2,J7,q⟩:=q;exact J7.cr hN hi hl λs6 J8=>⟨_,H2,out J8,q⟩
  | brk=>
   obtain⟨σ2,H2,J7,q⟩:=q;exact J7.cr hN hi hl λs6 J8=>⟨_,H2,out J8,q⟩
  | cont=>
   obtain⟨σ2,H2,J7,q⟩:=q;exact J7.cr hN hi hl λs6 J8=>⟨_,H2,out J8,q⟩
  | ret u=>
   obtain⟨v,σ2,H2,J7,r,q⟩:=q;exact J7.cr hN hi hl λs6 J8=>⟨v,_,H2,out J8,r,q⟩
open PySem.W
section
variable{prog:Program}{w:World}{A:Around}{E:Value->Shared->Prop}{s:Shared}{K:Frag}{a C:Addr}{o:Obj}
def mC(K:Frag)(C:Addr):Bool:=findIn K (.ref C) "__getattribute__" == some (some<|.builtin "BaseException.__getattribute__") && findIn K (.ref C) "__getattr__" == some none && findIn K (.ref C) "__class__" == some (some<|.builtin "object.__class__") &&
 mroIn K C (.type "object") == some true && mroIn K C (.type "BaseException") == some true && (clsIn K C).isSome
theorem k89{Q:Option Value->Shared->Prop}(X:K.In s.heap)(I:InstAt s.heap a o C none)(q:mC K C=true)(hq:Q (some<|.ref C) {s with toks:=s.toks+1}):wpAny (model prog w) A (getAttr? (.ref a) "__class__") Q E s:=by
 unfold mC at q;simp only [Bu,LK] at q;obtain⟨⟨⟨⟨⟨h1,h2⟩,h3⟩,h4⟩,h5⟩,_⟩:=q;obtain⟨hh,g,d,t,os⟩:=s;have L0:=I.type (M:=model prog w);have L1:=looks_findIn (M:=model prog w) X h1;have L2:=looks_findIn (M:=model prog w) X h2;have L3:=looks_findIn (M:=model prog w) X h3;have L5:=looks_mroIn (M:=model prog w) X h5;unfold getAttr? getAttrBy? getAttrBy;refine BJ<|wpAny_mkText<|BJ<|IW<|CN<|BJ<|L0.at (BJ<|L1.at ?_);show wpAny _ _ (getAttrByItsOwn _ _ _ _ _ _) _ _ _;unfold getAttrByItsOwn hookBefore callGetattribute boundAndCalled;have f3:=F.attr_ValueError.ga.bind<|.ref a;refine BJ ?_;show wpAny _ _ (typeLookup (.ref C) "__getattr__") _ _ _;refine L2.at ?_;refine BJ<|IW<|CN ?_;rw [BK<|by decide];rw [f3];refine BJ<|BP ?_;refine QW<|OJ F.attr_ValueError.ga.plain F.entry_bexc_ga ?_;have hk:builtinKind "BaseException.__getattribute__" = some .slot:=by decide +kernel
 have dB:splitId "BaseException.__getattribute__" = some ("BaseException","__getattribute__"):=by decide +kernel
 have ha:=F.args_bexc_ga (.ref a)<|.str "__class__" t;simp only [checkBuiltinCall,hk,dB];refine BJ ?_;unfold isInstance;have LB:Looks (model prog w) hh (isSubtype (.ref C)<|.type "BaseException") true:=L5
 repeat lk
 have hid:(toString "getset_descriptor"++toString "."++toString (Str.ofString "__get__").toString:String) = "getset_descriptor.__get__":=by decide +kernel
 rw [hid];refine wpAny_run (c:= .call (.builtin "getset_descriptor.__get__") ⟨[.builtin "object.__class__",.ref a,.ref C],[]⟩) (h:=none) ?_;refine class_get (s:=⟨hh,g,d,t+1,os⟩) (K:=K) X I h4 ?_
 repeat lk
 exact hq
theorem RE(q:mC K C=true):KitX K (.ref a) (.ref C) (λh=>∃ o,InstAt h a o C none) where
 ty:=λ_ _ _ ⟨_,I⟩=>I.type
 it:=λ_ _ X _=>by
  unfold mC at q;rw [Bu] at q;have z:=q.2;unfold clsIn at z
  split at z
  ·rename_i ho;intro A' Q' E' s' k r;unfold isType loadHead;exact BJ<|wpAny_loadPart (k _ _<|X _ _ ho)<|BP r
  ·cases z
 ne:=λh tp dd its n sl X JS=>by
  unfold mC at q;rw [Bu] at q;have z:=q.2;refine Eb.mpr λy=>?_;have e:C=tp:=Value.ref.inj<|beq_iff_eq.mp y;subst e;unfold clsIn at z
  split at z
  ·rename_i ho;cases (X _ _ ho).symm.trans JS
  ·cases z
 ca:=λX ⟨_,I⟩ k=>k89 X I q k
end
end L2
namespace L2
open PySem PySem.Spec PyProof.Rows
theorem RF{h:Heap}{ea C:Addr}{oe:Obj}(he:h.get? ea=some oe)(x:zx oe<|.ref C):PySem.W.InstAt h ea oe C none:=by
 obtain⟨vs,hd,_⟩:=x.data;refine⟨he,x.cls,?_,?_⟩
 ·unfold PySem.W.notCls;rw [hd]
 ·rw [x.dict];exact True.intro
theorem RH{X:Cx}:fN X (.builtin "isinstance") (λxs H Q=>∃ ea C oe c v b,xs=[.ref ea,v]/\(∀ u,RelV v u->u=c)/\H ea=some (XO oe)/\zx oe (.ref C)/\mC X.K C=true/\PySem.W.kitOne X.K (.ref C) c=some b/\Q (.bl b) H):=by
 intro pins s σ H xs us Q I r h;obtain⟨ea,C,oe,c,v,b,rfl,hv,hH,ix,hl,e,q⟩:=h;obtain⟨u,w',rfl,ru,iP⟩:=vals2 r;cases (show u=Value.ref ea from ru);cases hv _ iP;have he:s.heap.get? ea=some oe:=(show ay X.prog X.w H s.heap ea (XO oe) from I.aC ea _ hH).1;exact PySem.W.kia_one (RE hl) I.jw ⟨oe,RF he ix⟩ e (λz=>nomatch z) λtk=>⟨.bl b,H,I.tok tk,rfl,q⟩
section
variable{prog:Program}{w:World}{A:Around}{E:Value->Shared->Prop}{s:Shared}
end
section
variable{X:Cx}{tg:Expr}
end
section
variable{X:Cx}{elt tg iter:Expr}{ifs:List Expr}{scope:Scope}{pos:Pos}{N':List Str}{n:Nat}{wi:TI}{g:TG}{tc:TT}{te:TE}
end
section
variable{X:Cx}{elt tg iter c:Expr}{ifs:List Expr}{scope:Scope}{pos p:Pos}{wi:TI}{σ:St}{H:Hp}{Q:VK}{T:Bool->Hp->Prop}{rest:List Stmt}{D:Ends}
end
section
variable{X:Cx}{k:Nat}{ps:List Str}{sp:Addr->Obj->Sp}{E:XK}{x:Str}{p pos:Pos}{e:Expr}{es:List Expr}{σ:St}{H:Hp}{Q:VK}
end
end L2
namespace N4
open PySem L2 Nt bS bR
open PyProof.Rows (sortedS)
def qg:Sp:=λvs H Q _=>∃(R:Addr) (as:List<|Addr×Addr) (n:Net),vs=[.ref R]/\aw H R as n/\n.length<=1000/\(av n).length<=900/\(∀ zs:List Str,zs.Nodup->(∀ z∈zs,z∈av n)->zs.length < 64) /\
 ∀(L:Addr) (ss:List Str) (H':Hp),ah H H'->H L=none->H' L=some (Ls ss)->ss.Nodup->sortedS ss=true->(∀ z,z∈ss↔z∈av n)->Q (.ref L) H'
theorem k0b{zs:List Str}{z:Str}(h:zs.Nodup):(added zs z).Nodup:=by
 unfold added
 split
 ·exact h
 ·rename_i hz;exact ni h hz
theorem k35{zs:List Str}{z y:Str}:y∈added zs z↔y∈zs\/y=z:=by
 unfold added
 split
 ·rename_i hz;refine⟨.inl,λh=>h.elim id λe=>?_⟩;rw [e];exact hz
 ·rw [Ao,Ae]
theorem RO{n:Net}{r:Nat}(h:r < n.length):av (n.take<|r+1)=av (n.take r)++row n r:=by
 rw [yF h];unfold av;rw [Bz,Aa h,Gi];simp
def cH:List Str:=["TooMany","NoDouble","NoWalker"]
structure Cl(K:PySem.W.Frag)(mg:Str->Option Value)(c:Str->Addr):Prop where
 net:mg "NetError" = some (.ref<|c "NetError")
 JU:XC K<|c "NetError"
 at':∀ x∈cH,mg x=some (.ref<|c x)/\XC K (c x)/\rY K (c x) (c "NetError")=true/\mC K (c x)=true/\PySem.W.kitOne K (.ref<|c x) (.type "ValueError")=some true
 JY:∀ x∈cH,∀ y∈cH,PySem.W.kitOne K (.ref<|c x) (.ref<|c y)=some (decide (x=y))
def js(K:PySem.W.Frag)(x:Str):Addr:=match PySem.W.nsIn K mainGlobals x with
 | some (some<|.ref a)=>a
 | _=>0
def J0(K:PySem.W.Frag):Bool:=(PySem.W.nsIn K mainGlobals "NetError" == some (some<|.ref<|js K "NetError")) && PySem.W.excIn K (js K "NetError") mB "ValueError.__new__" &&
 cH.all λx=>(PySem.W.nsIn K mainGlobals x == some (some<|.ref<|js K x)) && PySem.W.excIn K (js K x) mB "ValueError.__new__" && rY K (js K x) (js K "NetError") && mC K (js K x) && (PySem.W.kitOne K (.ref<|js K x) (.type "ValueError") == some true) &&
  cH.all λy=>PySem.W.kitOne K (.ref<|js K x) (.ref<|js K y) == some (decide (x=y))
theorem q6u{K:PySem.W.Frag}{h:Heap}{mg:Str->Option Value}(X:K.In h)(G:h.Ns mainGlobals mg)(q:J0 K=true):Cl K mg (js K):=by
 unfold J0 at q;simp only [Bu,Dk,LK] at q;obtain⟨⟨q1,q2⟩,q3⟩:=q;exact⟨JR X G q1,q2,λx hx=>by obtain⟨⟨⟨⟨⟨a1,a2⟩,a3⟩,a4⟩,a5⟩,_⟩:=q3 x hx;exact⟨JR X G a1,a2,a3,a4,a5⟩,λx hx y hy=>(q3 x hx).2 y hy⟩
def Few(n:Net):Prop:=∀ zs:List Str,zs.Nodup->(∀ z∈zs,z∈av n)->zs.length < 64
section
variable{P:Program}{w:World}{K:PySem.W.Frag}{mg:Str->Option Value}{base:Heap}
abbrev vT:List Str:=["rows"]
abbrev vU:List Str:=["rows","point","ties","tie"]
theorem jY:aj vT ["rows"] (aP yx):=cU
theorem J1:vU.Nodup:=by decide +kernel
theorem q03{f:Addr}{fd:FuncData}(F:bw K "ties_of" "ties_of" yx f fd)(T:Txt mg):aB P w K mg base bE 1 f fd ["rows"] qg:=by
 refine F.gc jY λb0 H vs Q E hr h=>?_;obtain⟨R,as,n,rfl,hR,hn,ht,du,q⟩:=h;have nd:=jY.nd;have eB:=hR.len;have sub:∀(zs:List Str) (r:Nat) (ys:List Str),zs.Nodup->(∀ z,z∈zs->z∈av n)->zs.length < 64:=λzs r ys h1 h2=>du zs h1 h2;have J9:∀ r,r < n.length->∀ z,z∈av (n.take r)\/z∈row n r->z∈av n:=λr zB z hz=>by
  have e:av n=av (n.take<|r+1)++av (n.drop<|r+1):=by
   unfold av;rw [<- Gi,Ct]
  rw [e,RO zB]
  rcases hz with h | h <;> simp [h]
 refine cy<|dh (OC rfl) T.sorted CZ<|ao<|ZN (aP yx) vT vU 3 (fM a8)<|ae 0 ⟨R,rfl,⟨_,ai.of hR.lst⟩,λD hD cl C s₀ H₀ ex=>?_⟩;refine uS (xs:=as.map λa=>V.ref a.1) (λr σ' H'=>(∃ v1 v2 v3,σ'=[some<|.ref R]++[v1,v2,v3])/\∃ zs:List Str,ah H H'/\H' D=some (aT P w D zs)/\zs.Nodup/\∀ z,z∈zs↔z∈av (n.take r)) ⟨⟨none,none,none,rfl⟩,[],aQ hD _,az,Ds,λz=>Iff.rfl⟩ ?_ ?_ ?_
 ·rintro r σ' H' _ ⟨_,zs,sm,_⟩;exact ai.of<|sm _ _ hR.lst
 ·rintro r x σ' H' hx ⟨⟨v1,v2,v3,rfl⟩,zs,sm,eD,zn,zm⟩;have hi:r < n.length:=by
   have:=(Ab.mp hx).1;rw [Ac] at this;omega
  obtain⟨a,ea,pT,et,el,er⟩:=(hR.same sm).at hi;rw [Ah,ea] at hx;cases hx;refine jj rfl (bt.of et) (aZ 1 J1<|aZ 2 J1 ?_);refine gR ?_;rw [BL rfl];refine ZM rfl rfl (fM a8) (ae 2 ⟨a.2,rfl,⟨_,ai.of el⟩,?_⟩);have naD:a.2≠D:=cv el eD λz=>nomatch z;refine uS (xs:=(row n r).map V.str) (λp σ' bH=>(∃ v3,σ'=[some<|.ref R]++[some<|.str n[r].1,some<|.ref a.2,v3])/\∃ zs:List Str,(∀ b o,b≠D->H' b=some o->bH b=some o)/\bH D=some (aT P w D zs)/\zs.Nodup/\∀ z,z∈zs↔z∈av (n.take r)\/z∈(row n r).take p)
   ⟨⟨_,rfl⟩,zs,λb o _ h=>h,eD,zn,λz=>by rw [zm z];simp⟩ ?_ ?_ ?_
  ·rintro p σ' bH _ ⟨_,zs,kb,_⟩;exact ai.of<|kb _ _ naD el
  ·rintro p x σ' bH hx ⟨⟨v3,rfl⟩,zs,kb,dw,zC,zD⟩;rw [Ah,An] at hx;obtain⟨z,hz,rfl⟩:=hx;refine aZ 3 J1 ?_;refine gR ?_;rw [BL rfl];have hl:zs.length < 64:=du zs zC λy hy=>J9 r hi y<|((zD y).mp hy).imp id λh=>Co h;refine ZL (ae 3 ⟨z,zs,rfl,dw,by omega,⟨_,rfl⟩,added zs z,λb o hb h=>by rw [ax hb];exact kb b o hb h,az,k0b zC,λy=>?_⟩);rw [k35,zD y,Bz,hz,or_assoc];simp
  ·rintro σ' bH ⟨⟨v3,rfl⟩,zs,kb,dw,zC,zD⟩;refine⟨⟨_,_,_,rfl⟩,zs,λb o h=>kb b o (b4 h hD)<|sm _ _ h,dw,zC,λz=>?_⟩;rw [zD z,Ac,Br,RO hi,Ao]
 ·rintro σ' H' ⟨_,zs,sm,eD,zn,zm⟩;rw [Ac,eB,Br] at zm;refine aE ⟨D,zs,rfl,eD,du zs zn λy hy=>(zm y).mp hy,λl ss hl hp hs=>?_⟩;exact q l ss _ (sm.trans<|aQ hl _) (kK sm hl) az (hp.nodup_iff.mpr zn) hs λz=>by rw [hp.mem_iff,zm z]
end
end N4
namespace N4
open PySem L2 Nt bS
open PyProof.Rows (sortedS)
def J':Sp:=λvs H Q _=>∃(R W:Addr) (as:List<|Addr×Addr) (n:Net) (ts:List Addr) (es:List Nt.End),vs=[.ref R,.ref W]/\aw H R as n/\(n.map (·.1)).Nodup/\n.length<=1000/\(av n).length<=1000/\H W=some (.lst<|ts.map V.ref)/\dX n H ts es/\(∀ e∈es,e∈ends n)/\es.length<=1000/\(∀ l:List Str,l.Nodup->(∀ z∈l,z∈es.map (bf n))->l.length < 64) /\
 ∀(l:Addr) (ss:List Str) (H':Hp),ah H H'->H l=none->H' l=some (Ls ss)->aR ss->(∀ z,z∈ss↔(es.map<|bf n).count z=1)->Q (.ref l) H'
theorem RU(L:List Str):(L.filter λz=>decide (L.count z=1)).Nodup:=by
 rw [Hr];intro z
 by_cases h:L.count z=1
 ·rw [List.count_filter<|by simpa using h];omega
 ·rw [List.count_eq_zero_of_not_mem]
  ·omega
  ·intro hm;exact h<|CG (Bx.mp hm).2
theorem k8t(L:List Str)(z:Str):z∈(L.filter λz=>decide (L.count z=1))↔L.count z=1:=by
 rw [Bx,CK];exact⟨λh=>h.2,λh=>⟨El.mp (by omega),h⟩⟩
section
variable{P:Program}{w:World}{K:PySem.W.Frag}{mg:Str->Option Value}{base:Heap}
abbrev Ka:List Str:=["rows","walker","names","gone"]
abbrev vV:List Str:=["rows","walker","names","gone","end"]
abbrev vW:List Str:=["rows","walker","names","gone","tie"]
theorem vX:aj Ka ["rows","walker"] (aP uB):=cU
theorem q3h:vV.Nodup:=by decide +kernel
theorem q4j:vW.Nodup:=by decide +kernel
theorem q1l{f:Addr}{fd:FuncData}(F:bw K "core_of" "core_of" uB f fd)(T:Txt mg)
  (GT:aO P w K mg base 2 "ties_by_end" ["rows"] mh):aB P w K mg base bE 3 f fd ["rows","walker"] J':=by
 refine F.gc vX λb0 H vs Q E hr h=>?_;obtain⟨R,W,as,n,ts,es,rfl,hR,hN,hn,eZ,hW,hE,uK,hle,vY,q⟩:=h;have nd:=vX.nd;have eC:=hr.u1;have hl:=hE.1;refine run_set 2 nd<|bV GT hr<|ao<|ae 0<|aE ⟨R,as,n,rfl,hR,hN,hn,eZ,λd kvs H1 s1 nd1 ed ph=>?_⟩;have RY:=s1 _ _ hW;have hE1:=hE.same s1;refine run_set 3 nd<|jf (aP uB) Ka vV 1 (fM a8)<|ae 1 ⟨W,rfl,⟨_,ai.of RY⟩,λD hD=>?_⟩;refine jM (xs:=ts.map V.ref) (λi σ' H'=>(∃ v,σ'=[some<|.ref R,some<|.ref W,some<|.ref d,none]++[v])/\ah H1 H'/\H' D=some (Ls<|(es.take i).map<|bf n)) ⟨⟨none,rfl⟩,aQ hD _,az⟩ ?_ ?_ ?_
 ·rintro i σ' H' _ ⟨_,sm,_⟩;exact ai.of<|sm _ _ RY
 ·rintro i x σ' H' hx ⟨⟨v,rfl⟩,sm,eD⟩;rw [Ah,An] at hx;obtain⟨t,ht,rfl⟩:=hx;have hi:i < es.length:=by have:=(Ab.mp ht).1;omega
  have he:es[i]?=some es[i]:=Aa hi;have vN:es.take (i+1)=es.take i++[es[i]]:=by rw [Bz,he];rfl
  generalize rT:es[i]=e at he vN;have nH:=sm _ _<|hE1.2 i t e ht he;have yN:=uK e<|Ag he;obtain⟨z,hz⟩:=aF.mp yN;have l7:bf n e=z:=pZ hz;intro cl C s₀ H₀ ex;refine aZ 4 q3h ?_;intro cl C s₀ H₀ ex;refine gR ?_;rw [BL rfl];intro cl C s₀ H₀ ex;refine iE eC<|ae 2<|ae 4 ⟨d,.str z,rfl,(by rw [<- ph e z hz];exact aX.t (k:=key n e) (sm _ _ ed) nH),_,eD,?_,⟨_,rfl⟩,dW sm hD,?_⟩
  ·rw [Ac,Ac,Bm];exact cj<|by omega
  ·rw [az,vN,Ak];show some (HO.lst<|((es.take i).map<|bf n).map V.str++[V.str z])=some (HO.lst<|((es.take i).map (bf n)++[bf n e]).map V.str);rw [Ak];show some (HO.lst<|((es.take i).map<|bf n).map V.str++[V.str z])=some (HO.lst<|((es.take i).map<|bf n).map V.str++[V.str<|bf n e]);rw [l7]
 rintro σ' H' ⟨_,sm,eD⟩;have Kb:es.take (ts.map V.ref).length=es:=Da (by rw [Ac];omega);rw [Kb] at eD;generalize hLL:es.map (bf n)=L at eD vY q;have Qw:L.length<=1000:=by rw [<- hLL,Ac];exact hle
 refine cy<|dh ur T.sorted CZ<|ao<|jf (aP uB) Ka vW 1 (fM a8)<|ae 3 ⟨D,rfl,⟨_,ai.of eD⟩,λD3 Kc=>?_⟩;have n3:D≠D3:=b4 eD Kc;refine O3 (λz=>decide (L.count z=1)) (cj<|by omega) eD Kc (λcl C s0 H0 ex v v0 H' R' h=>aZ 4 q4j h) (λcl C s0 H0 ex z zs T' h=>nr<|d7 lr<|yn FW PySem.F.slot_list_count PySem.F.type_list_count k8s<|ae 3 (v:= .ref D) ⟨Or.inl ⟨rfl,_,ai.of<|by rw [ax n3];exact eD⟩,ae 4 ⟨D,L,z,rfl,rfl,ai.of (by rw [ax n3];exact eD),aK ⟨rfl,_,rfl,?_⟩⟩⟩) (λcl C s0 H0 ex z H' R' h=>ae 4 h) ?_
 ·have ek:decide (V.int (L.count z:Int)=V.int 1)=decide (L.count z=1):=decide_eq_decide.mpr ⟨λk=>by have:=V.int.inj k;omega,λk=>by rw [k];rfl⟩;show T' (decide (V.int (L.count z:Int)=V.int 1)) _;rw [ek];exact h
 refine aE ⟨D3,_,rfl,ai.of az,vY _ (RU L) λz hz=>(Bx.mp hz).1,λl ss qV fz iD=>?_⟩;have s3:=s1.trans<|sm.trans<|aQ Kc<|Ls<|L.filter λz=>decide (L.count z=1);exact q l ss _ (s3.trans<|aQ qV _) (s3.free qV) az (pL iD<|fz.nodup_iff.mpr<|RU L) λz=>by rw [fz.mem_iff];exact k8t L z
abbrev Lz(l:List Int):HO:= .lst<|l.map V.int
abbrev T3z(x:Nz.Bl Int):HO:= .tup [.int x.1,.int x.2.1,.bl x.2.2]
abbrev AtZ(H:Hp)(us:List Addr)(ls:List<|Nz.Bl Int):Prop:=jX (Sum.inl:Int->Key) H us ls
abbrev Kd:Sp:=Rf (Sum.inl:Int->Key)
theorem k29{f:Addr}{fd:FuncData}(F:bw K "spread" "spread" uz f fd)(T:Txt mg):aB P w K mg base bE 1 f fd ["first","links"] Kd:=Rg (φ:=(Sum.inl:Int->Key)) (λ_ _ h=>Sum.inl.inj h) (λ_ _=>rfl) F T
end
end N4
namespace Nt
open PySem L2
theorem k73{n:Net}(T:bN n){e:End}(h:e∈ends n):∃ k,jm n e k/\k<=(ends n).length:=by
 obtain⟨k,k0,k1,k2⟩:=OU (f:=two n) (S:=ends n) (λa ha=>yW T ha) (λa ha b hb=>Qh T ha hb) h;have aux:∀ m,∀ k,k<=m->0 < k->it (two n) k e=e->∃ j,j<=k/\jm n e j:=by
  intro m
  induction m with
  | zero=>intro k h1 h2;omega
  | succ m ih=>
   intro k h1 h2 h3
   by_cases c:∃ i,0 < i/\i < k/\it (two n) i e=e
   ·obtain⟨i,i1,i2,i3⟩:=c;obtain⟨j,j1,j2⟩:=ih i (by omega) i1 i3;exact⟨j,by omega,j2⟩
   ·exact⟨k,Ai _,h2,h3,λi i1 i2 i3=>c ⟨i,i1,i2,i3⟩⟩
 obtain⟨j,j1,j2⟩:=aux k k (Ai _) k0 k2;exact⟨j,j2,by omega⟩
theorem k5k{n:Net}(T:bN n){e:End}(h:e∈ends n):pY n (walker n e):=by
 obtain⟨k,p,hk⟩:=k73 T h;unfold walker;rw [uW p];exact q4f T h p hk
theorem zE{n:Net}(T:bN n):∀(es:List End) (told:List Str),(∀ e∈es,e∈ends n)->∀ w∈c7 n es told,pY n w
 | [],_,_,w,hw=>by cases hw
 | e :: r,told,h,w,hw=>by
  unfold c7 at hw
  split at hw
  ·exact zE T r told (λa ha=>h a<|Ax _ ha) w hw
  ·rcases Ar.mp hw with rfl | hw
   ·exact k5k T<|h e<|Aw ..
   ·exact zE T r _ (λa ha=>h a<|Ax _ ha) w hw
theorem zF(n:Net):∀(es:List End) (told:List Str),(c7 n es told).length<=es.length
 | [],_=>Ai _
 | e :: r,told=>by
  unfold c7
  split
  ·have:=zF n r told;show _<=r.length+1;omega
  ·have:=zF n r<|told++(au<|walker n e).map (bf n);show _+1<=r.length+1;omega
def jZ:List Str->List (List Str)->List (List Str)
 | c,[]=>[c]
 | c,b :: bs=>(c++b) :: jZ b bs
theorem Ke:∀(bs:List<|List Str) (c:List Str),(jZ c bs).length=bs.length+1
 | [],_=>rfl
 | b :: bs,c=>by
  show(jZ b bs).length+1=_;rw [Ke bs];rfl
theorem Kf:∀(bs:List<|List Str) (c:List Str) (j:Nat),j<=bs.length->(jZ c bs)[j]?=some ((if j=0 then c else bs.getD (j - 1) [])++bs.getD j [])
 | [],c,j,hj=>by
  have:j=0:=by simpa using hj
  subst this;show some c=some (c++[]);rw [Be]
 | b :: bs,c,0,_=>rfl
 | b :: bs,c,j+1,hj=>by
  show(jZ b bs)[j]?=_;rw [Kf bs b j (by simpa using hj),BK (show j+1≠0 by omega)]
  congr 2
  cases j with
  | zero=>rfl
  | succ j=>rw [BK<|by omega];rfl
theorem R0(z:Str):∀(bs:List<|List Str) (c:List Str),(jZ c bs).flatten.count z=c.count z+2 * bs.flatten.count z
 | [],c=>by
  show(c++[]).count z=_;rw [Be];rfl
 | b :: bs,c=>by
  show((c++b)++(jZ b bs).flatten).count z=c.count z+2 * (b++bs.flatten).count z;rw [Gz,R0 z bs,Gz,Gz];omega
theorem R6:∀(bs:List<|List Str) (c:List Str),(jZ c bs).flatten.length=c.length+2 * bs.flatten.length
 | [],c=>by
  show(c++[]).length=_;rw [Be];rfl
 | b :: bs,c=>by
  show((c++b)++(jZ b bs).flatten).length=c.length+2 * (b++bs.flatten).length;rw [Ad,R6 bs,Ad,Ad];omega
structure af(n:Net)(bs:List<|List Str):Prop where
 rows:n.map (·.2)=jZ [] bs
 cC:bs.flatten.Nodup
 mD:∀ b∈bs,b.length=1\/b.length=2
def sz(bs:List<|List Str)(k:Nat):Nat:=(bs.getD k []).length
def sl(bs:List<|List Str)(r:Nat):Nat:=if r=0 then 0 else sz bs (r - 1)
section
variable{n:Net}{bs:List (List Str)}
theorem af.len(h:af n bs):n.length=bs.length+1:=by
 rw [<- Ac (·.2),h.rows,Ke]
theorem R7(n:Net):av n=(n.map (·.2)).flatten:=by
 unfold av;rw [List.flatMap_def]
theorem af.vZ(h:af n bs):(av n).length=2 * bs.flatten.length:=by
 rw [R7,h.rows,R6];show 0+_=_;omega
theorem af.cnt(h:af n bs)(z:Str):(av n).count z=2 * bs.flatten.count z:=by
 rw [R7,h.rows,R0];show 0+_=_;omega
theorem af.mem(h:af n bs){z:Str}:z∈av n↔z∈bs.flatten:=by
 rw [<- El,<- El,h.cnt];omega
theorem af.twice(h:af n bs):bN n:=λz hz=>by
 have h1:=Hr.mp h.cC z;have h2:=El.mpr hz;rw [h.cnt] at h2 ⊢;omega
theorem af.row(h:af n bs){j:Nat}(hj:j<=bs.length):row n j=(if j=0 then [] else bs.getD (j - 1) [])++bs.getD j []:=by
 have:=Kf bs [] j hj;rw [<- h.rows,Ah] at this;unfold Nt.row;rw [this];rfl
theorem af.Kg(h:af n bs){j:Nat}(hj:bs.length < j):Nt.row n j=[]:=by
 unfold Nt.row;rw [Aq<|by rw [h.len];omega];rfl
theorem af.kY(h:af n bs){j:Nat}(hj:j<=bs.length):(Nt.row n j).length=sl bs j+sz bs j:=by
 rw [h.row hj,Ad];unfold sl sz
 by_cases c:j=0
 ·rw [BL c,BL c];rfl
 ·rw [BK c,BK c]
theorem af.hV(h:af n bs){i j:Nat}{b d:List Str}{z:Str}(hb:bs[i]?=some b)(hd:bs[j]?=some d)(h1:z∈b)(h2:z∈d):i=j:=by
 have hp:=(Dr.mp h.cC).2;rw [Bc] at hp;obtain⟨li,ei⟩:=Ab.mp hb;obtain⟨lj,ej⟩:=Ab.mp hd;subst ei ej
 rcases Gx i j with c | c | c
 ·exact absurd rfl (hp i j li lj c z h1 z h2)
 ·exact c
 ·exact absurd rfl (hp j i lj li c z h2 z h1)
theorem gD{k:Nat}{b:List Str}(hb:bs[k]?=some b):bs.getD k []=b:=by rw [As,hb];rfl
theorem fT{k:Nat}{b:List Str}(hb:bs[k]?=some b):sz bs k=b.length:=by unfold sz;rw [gD hb]
theorem v5{k:Nat}(hk:bs.length<=k):sz bs k=0:=by
 unfold sz;rw [As,Aq hk];rfl
theorem af.hZ(h:af n bs){k:Nat}(hk:k < bs.length):sz bs k=1\/sz bs k=2:=by
 rw [fT<|Aa hk];exact h.mD _<|Bv hk
theorem qh(bs:List<|List Str)(k:Nat):sl bs (k+1)=sz bs k:=by
 unfold sl;rw [BK<|by omega];rfl
theorem af.tR(h:af n bs){k p:Nat}{b:List Str}{z:Str}(hb:bs[k]?=some b)(hz:b[p]?=some z):bq n (k,sl bs k+p)=some z:=by
 have hk:=(Ab.mp hb).1;show(Nt.row n k)[sl bs k+p]?=some z;rw [h.row (by omega),gD hb];unfold sl sz
 by_cases c:k=0
 ·rw [BL c,BL c,Dy];exact hz
 ·rw [BK c,BK c,Am (by omega),Em];exact hz
theorem af.tL(h:af n bs){k p:Nat}{b:List Str}{z:Str}(hb:bs[k]?=some b)(hz:b[p]?=some z):bq n (k+1,p)=some z:=by
 have hk:=(Ab.mp hb).1;have hp:=(Ab.mp hz).1;show(Nt.row n<|k+1)[p]?=some z;rw [h.row (by omega),BK (by omega),show k+1 - 1=k by omega,gD hb,Aj hp];exact hz
theorem af.only(h:af n bs){k p:Nat}{b:List Str}{z:Str}(hb:bs[k]?=some b)(hz:b[p]?=some z){e:End}(he:bq n e=some z):e=(k,sl bs k+p)\/e=(k+1,p):=by
 obtain⟨r,q⟩:=e;have he:(Nt.row n r)[q]?=some z:=he;have hzb:=Ag hz;have same:∀{j q':Nat},(bs.getD j [])[q']?=some z->j=k/\q'=p:=λ{j q'} hq=>by
  rw [As] at hq;cases hd:bs[j]? with
  | none=>rw [hd] at hq;simp at hq
  | some d=>
   rw [hd] at hq;have hq:d[q']?=some z:=hq;have e1:=h.hV hb hd hzb<|Ag hq;subst e1;rw [hb] at hd;cases hd;have nb:=(Dr.mp h.cC).1 b<|Ag hb;exact⟨rfl,(Fj (Ab.mp hq).1 nb).mp<|hq.trans hz.symm⟩
 by_cases hr:r<=bs.length
 ·rw [h.row hr] at he
  by_cases c:r=0
  ·rw [BL c,Du] at he;obtain⟨e1,e2⟩:=same he;refine .inl<|HD e1 ?_;show q=sl bs k+p;unfold sl;rw [BL<|by omega];omega
  ·rw [BK c] at he
   by_cases cq:q < (bs.getD (r - 1) []).length
   ·rw [Aj cq] at he;obtain⟨e1,e2⟩:=same he;exact .inr<|HD (show r=k+1 by omega) e2
   ·rw [Am<|by omega] at he;obtain⟨e1,e2⟩:=same he;refine .inl<|HD e1 ?_;show q=sl bs k+p;subst e1;unfold sl sz;rw [BK c];omega
 ·rw [h.Kg<|by omega] at he;simp at he
theorem af.oR(h:af n bs){k p:Nat}{b:List Str}(hb:bs[k]?=some b)(hp:p < b.length):other n (k,sl bs k+p)=(k+1,p):=by
 have hz:=Aa hp;obtain⟨o1,_,o3⟩:=nC h.twice<|h.tR hb hz;exact(h.only hb hz o1).resolve_left o3
theorem af.oL(h:af n bs){k p:Nat}{b:List Str}(hb:bs[k]?=some b)(hp:p < b.length):other n (k+1,p)=(k,sl bs k+p):=by
 have hz:=Aa hp;obtain⟨o1,_,o3⟩:=nC h.twice<|h.tL hb hz;exact(h.only hb hz o1).resolve_right o3
theorem R8{r q d:Nat}(hd:(Nt.row n r).length=d)(hq:q+1 < d):eY 1 n (r,q)=(r,q+1):=by
 unfold eY;refine HD rfl ?_;show(((q:Int)+1) % ((Nt.row n r).length:Int)).toNat=q+1;rw [hd,Gw (by omega)<|by omega];omega
theorem R9{r q:Nat}(hd:(Nt.row n r).length=q+1):eY 1 n (r,q)=(r,0):=by
 unfold eY;refine HD rfl ?_;show(((q:Int)+1) % ((Nt.row n r).length:Int)).toNat=0;rw [hd,show((q:Int)+1)=((q+1:Nat):Int) by omega,Int.emod_self];rfl
theorem Sd{r q d:Nat}(hd:(Nt.row n r).length=d)(hq:q+1 < d+1)(h0:0 < q):eY (-1) n (r,q)=(r,q - 1):=by
 unfold eY;refine HD rfl ?_;show(((q:Int)+-1) % ((Nt.row n r).length:Int)).toNat=q - 1;rw [hd,Gw (by omega)<|by omega];omega
theorem Se{r d:Nat}(hd:(Nt.row n r).length=d)(h0:0 < d):eY (-1) n (r,0)=(r,d - 1):=by
 unfold eY;refine HD rfl ?_;show((((0:Nat):Int)+-1) % ((Nt.row n r).length:Int)).toNat=d - 1;rw [hd,show(((0:Nat):Int)+-1)=((d:Int) - 1)+-1 * (d:Int) by omega,Int.add_mul_emod_self_right,Gw (by omega)<|by omega];omega
def aa(bs:List<|List Str)(k:Nat):Nat:=if k % 2=0 then sz bs k - 1 else 0
def ab(bs:List<|List Str)(k:Nat):Nat:=if k % 2=0 then 0 else sz bs k - 1
def WW(bs:List<|List Str)(i:Nat):End:=if i < bs.length then(i,sl bs i+aa bs i) else if i < 2 * bs.length then(2 * bs.length - i,ab bs<|2 * bs.length - i - 1) else(0,aa bs 0)
theorem dQ{i:Nat}(h:i < bs.length):WW bs i=(i,sl bs i+aa bs i):=BL h
theorem eO{i:Nat}(h:bs.length<=i)(h2:i < 2 * bs.length):WW bs i=(2 * bs.length - i,ab bs<|2 * bs.length - i - 1):=by
 unfold WW;rw [BK (by omega),BL h2]
theorem v7{i:Nat}(hm:0 < bs.length)(h2:i=2 * bs.length):WW bs i=WW bs 0:=by
 unfold WW;rw [BK (by omega),BK (by omega),BL hm];unfold sl;rw [BL rfl,Dy]
theorem af.Sg(h:af n bs){i:Nat}(hi:i < 2 * bs.length)(nK:i % 2=0):go 1 n (WW bs i)=WW bs (i+1):=by
 unfold go
 by_cases c:i < bs.length
 ·have hb:=Aa c;have s1:=h.hZ c;have sb:=fT hb;have ea:aa bs i=sz bs i - 1:=BL nK;rw [dQ c,ea,h.oR hb<|by omega];have d:=h.kY (j:=i+1) (by omega);rw [qh] at d
  by_cases c2:i+1 < bs.length
  ·have s2:=h.hZ c2;rw [R8 d (by omega),dQ c2,qh];have Kh:aa bs (i+1)=0:=BK (by omega);rw [Kh];exact HD rfl (show sz bs i - 1+1=sz bs i+0 by omega)
  ·rw [v5 (k:=i+1)<|by omega] at d;rw [R9 (by omega),eO (by omega)<|by omega];have eb:ab bs (2 * bs.length - (i+1) - 1)=0:=BL (by omega);rw [eb];exact HD (show i+1=2 * bs.length - (i+1) by omega) rfl
 ·obtain⟨k,hk⟩:∃ k,2 * bs.length - i=k+1:=⟨2 * bs.length - i - 1,by omega⟩;have kl:k < bs.length:=by omega
  have hb:=Aa kl;have s1:=h.hZ kl;have sb:=fT hb;rw [eO (by omega) hi,hk,show k+1 - 1=k by omega];have eb:ab bs k=sz bs k - 1:=BK (by omega);have d:=h.kY (j:=k) (by omega);rw [eb,h.oL hb (by omega),R9 (by omega),eO (by omega) (by omega),show 2 * bs.length - (i+1)=k by omega];have Ki:ab bs (k - 1)=0:=BL (by omega);rw [Ki]
theorem af.goO(h:af n bs){i:Nat}(hi:i < 2 * bs.length)(nK:i % 2=1):go (-1) n (WW bs i)=WW bs (i+1):=by
 unfold go
 by_cases c:i < bs.length
 ·have hb:=Aa c;have s1:=h.hZ c;have sb:=fT hb;have ea:aa bs i=0:=BK (by omega);rw [dQ c,ea,h.oR hb<|by omega];have d:=h.kY (j:=i+1) (by omega);rw [qh] at d;rw [Se d<|by omega]
  by_cases c2:i+1 < bs.length
  ·have s2:=h.hZ c2;have Kh:aa bs (i+1)=sz bs (i+1) - 1:=BL (by omega);rw [dQ c2,qh,Kh];exact HD rfl (show sz bs i+sz bs (i+1) - 1=sz bs i+(sz bs (i+1) - 1) by omega)
  ·rw [v5 (k:=i+1) (by omega),eO (by omega)<|by omega];have e:2 * bs.length - (i+1) - 1=i:=by omega
   have eb:ab bs i=sz bs i - 1:=BK (by omega);rw [e,eb];exact HD (show i+1=2 * bs.length - (i+1) by omega) (show sz bs i+0 - 1=sz bs i - 1 by omega)
 ·obtain⟨k,hk⟩:∃ k,2 * bs.length - i=k+1:=⟨2 * bs.length - i - 1,by omega⟩;have kl:k < bs.length:=by omega
  have hb:=Aa kl;have s1:=h.hZ kl;have sb:=fT hb;rw [eO (by omega) hi,hk,show k+1 - 1=k by omega];have eb:ab bs k=0:=BL (by omega);have d:=h.kY (j:=k) (by omega);rw [eb,h.oL hb (by omega),Fh];cases k with
  | zero=>
   have e0:sl bs 0=0:=BL rfl;rw [e0,Se d (by omega),v7 (by omega) (by omega),dQ kl,e0];have ea:aa bs 0=sz bs 0 - 1:=BL rfl;rw [ea];exact HD rfl (show 0+sz bs 0 - 1=0+(sz bs 0 - 1) by omega)
  | succ k=>
   have s2:=h.hZ (show k < bs.length by omega);rw [qh] at d ⊢;rw [Sd d (by omega) (by omega),eO (by omega) (by omega),show 2 * bs.length - (i+1)=k+1 by omega,show k+1 - 1=k by omega];have Ki:ab bs k=sz bs k - 1:=BK (by omega);rw [Ki]
theorem af.ww(h:af n bs){j:Nat}(hj:j < bs.length):two n (WW bs<|2 * j)=WW bs (2 * (j+1)):=by
 unfold two;rw [h.Sg (by omega) (by omega),h.goO (by omega) (by omega),show 2 * j+1+1=2 * (j+1) by omega]
theorem af.rZ(h:af n bs):∀ j,j<=bs.length->it (two n) j (WW bs 0)=WW bs (2 * j)
 | 0,_=>rfl
 | j+1,hj=>by
  show two n (it (two n) j<|WW bs 0)=_;rw [h.rZ j (by omega),h.ww<|by omega]
theorem af.v8(h:af n bs)(hm:0 < bs.length):jm n (WW bs 0) bs.length:=by
 refine⟨hm,?_,λi h0 hi e=>?_⟩
 ·rw [h.rZ _<|Ai _,v7 hm rfl]
 ·rw [h.rZ i<|by omega] at e;have:=CW Prod.fst e;rw [dQ hm] at this
  by_cases c:2 * i < bs.length
  ·rw [dQ c] at this;have:2 * i=0:=this;omega
  ·rw [eO (by omega)<|by omega] at this;have:2 * bs.length - 2 * i=0:=this;omega
def big(bs:List<|List Str):List End:=(List.range<|2 * bs.length).map<|WW bs
theorem af.mE(h:af n bs)(hm:0 < bs.length):walker n (WW bs 0)=big bs:=by
 unfold walker big;rw [uW<|h.v8 hm];refine Cv λi=>?_
 by_cases c:i < 2 * bs.length
 ·rw [Ah,Ef c];show _=some (WW bs i)
  rcases Ec i with e | e
  ·obtain⟨j,rfl⟩:∃ j,i=2 * j:=⟨i / 2,by omega⟩;rw [rQ n _ _ j (by omega),h.rZ j<|by omega]
  ·obtain⟨j,rfl⟩:∃ j,i=2 * j+1:=⟨i / 2,by omega⟩;rw [yX n _ _ j (by omega),h.rZ j (by omega),h.Sg (by omega)<|by omega]
 ·rw [Aq (by rw [pX];omega),Aq<|by rw [Ac,Cj];omega]
theorem af.mF(h:af n bs){k p:Nat}{b:List Str}{z:Str}(hb:bs[k]?=some b)(hz:b[p]?=some z):bf n (k,sl bs k+p)=z:=pZ<|h.tR hb hz
theorem af.v9(h:af n bs){k p:Nat}{b:List Str}{z:Str}(hb:bs[k]?=some b)(hz:b[p]?=some z):bf n (k+1,p)=z:=pZ<|h.tL hb hz
def sf(bs:List<|List Str)(z:Str):Prop:=∃(k:Nat) (b:List Str),bs[k]?=some b/\b[b.length - 1]?=some z
theorem af.Sh(h:af n bs)(hm:0 < bs.length)(z:Str):z∈(au<|walker n<|WW bs 0).map (bf n)↔sf bs z:=by
 have ew:au (walker n<|WW bs 0)=(List.range bs.length).map λj=>WW bs (2 * j):=by
  unfold walker;rw [uW<|h.v8 hm,k7o];exact Dm λj hj=>h.rZ j<|Fr<|Bh.mp hj
 rw [ew,Cd,Az];have at':∀{k:Nat} (hk:k < bs.length) {y:Str},(bs[k])[(bs[k]).length - 1]?=some y->∃ j,j < bs.length/\bf n (WW bs<|2 * j)=y:=λ{k} hk {y} hy=>by
  have hb:=Aa hk;have sb:=fT hb
  rcases Ec k with e | e
  ·refine⟨k / 2,by omega,?_⟩;rw [show 2 * (k / 2)=k by omega,dQ hk];have ea:aa bs k=sz bs k - 1:=BL e;rw [ea,sb];exact h.mF hb hy
  ·refine⟨(2 * bs.length - 1 - k) / 2,by omega,?_⟩;rw [show 2 * ((2 * bs.length - 1 - k) / 2)=2 * bs.length - 1 - k by omega,eO (by omega) (by omega),show 2 * bs.length - (2 * bs.length - 1 - k)=k+1 by omega,show k+1 - 1=k by omega];have eb:ab bs k=sz bs k - 1:=BK (by omega);rw [eb,sb];exact h.v9 hb hy
 have back:∀ j,j < bs.length->∃(k:Nat) (hk:k < bs.length),(bs[k])[(bs[k]).length - 1]?=some (bf n<|WW bs<|2 * j):=λj hj=>by
  by_cases c:2 * j < bs.length
  ·have hb:=Aa c;have sb:=fT hb;have s1:=h.hZ c;have hz:=Aa (l:=bs[2 * j]) (i:=(bs[2 * j]).length - 1) (by omega);refine⟨2 * j,c,?_⟩;rw [dQ c];have ea:aa bs (2 * j)=sz bs (2 * j) - 1:=BL (by omega);rw [ea,sb,h.mF hb hz];exact hz
  ·obtain⟨k,hk⟩:∃ k,2 * bs.length - 2 * j=k+1:=⟨2 * bs.length - 2 * j - 1,by omega⟩;have kl:k < bs.length:=by omega
   have hb:=Aa kl;have sb:=fT hb;have s1:=h.hZ kl;have hz:=Aa (l:=bs[k]) (i:=(bs[k]).length - 1) (by omega);refine⟨k,kl,?_⟩;rw [eO (by omega) (by omega),hk,show k+1 - 1=k by omega];have eb:ab bs k=sz bs k - 1:=BK (by omega);rw [eb,sb,h.v9 hb hz];exact hz
 constructor
 ·rintro ⟨j,hj,rfl⟩;obtain⟨k,hk,e⟩:=back j<|Bh.mp hj;exact⟨k,_,Aa hk,e⟩
 ·rintro ⟨k,b,hb,hz⟩;obtain⟨hk,rfl⟩:=Ab.mp hb;obtain⟨j,hj,e⟩:=at' hk hz;exact⟨j,Bh.mpr hj,e⟩
def small(bs:List<|List Str)(k:Nat):List End:=[(k,sl bs k),(k+1,1)]
theorem af.j4(h:af n bs){k:Nat}(hk:k < bs.length)(h2:sz bs k=2):walker n (k,sl bs k)=small bs k:=by
 have hb:=Aa hk;have sb:=fT hb;have d1:=h.kY (j:=k+1) (by omega);rw [qh] at d1;have d0:=h.kY (j:=k) (by omega);have g1:go 1 n (k,sl bs k)=(k+1,1):=by
  unfold go;rw [show(k,sl bs k)=(k,sl bs k+0) from rfl,h.oR hb (by omega),R8 d1<|by omega]
 have g2:go (-1) n (k+1,1)=(k,sl bs k):=by
  unfold go;rw [h.oL hb (by omega),Sd d0 (by omega)<|by omega];rfl
 have p:jm n (k,sl bs k) 1:=⟨by decide,by
  show two n (k,sl bs k)=_;unfold two;rw [g1,g2],λi h0 h1=>by omega⟩
 unfold walker small;rw [uW p];show []++[(k,sl bs k),go 1 n (k,sl bs k)]=_;rw [g1];rfl
theorem wa{rest:List End}{told:List Str}:∀ es:List End,(∀ e∈es,bf n e∈told)->c7 n (es++rest) told=c7 n rest told
 | [],_=>rfl
 | e :: es,h=>by
  show(if bf n e∈told then c7 n (es++rest) told else _)=_;rw [BL<|h e Aw];exact wa es λa ha=>h a<|Ax _ ha
theorem zG{rest:List End}{told:List Str}{e:End}(h:bf n e∉told):c7 n (e :: rest) told=walker n e :: c7 n rest (told++(au<|walker n e).map (bf n)):=by
 show(if bf n e∈told then _ else _)=_;rw [BK h]
def eF(n:Net)(r:Nat):List End:=(fR r<|n.drop r).map (·.2)
theorem zH{r:Nat}(hr:r < n.length):eF n r=((List.range (row n r).length).map λp=>(r,p))++eF n (r+1):=by
 unfold eF;rw [Cc hr];show(bG r n[r].2 0++fR (r+1) (n.drop<|r+1)).map (·.2)=_;rw [Ak]
 congr 1
 have er:row n r=n[r].2:=by unfold row;rw [Aa hr];rfl
 rw [er];unfold bG;rw [Cd,List.range_eq_range',<- List.zipIdx_map_snd 0,Cd];rfl
theorem Si{r:Nat}(hr:n.length<=r):eF n r=[]:=by
 unfold eF;rw [Dl hr];rfl
def Told(bs:List<|List Str)(r:Nat)(told:List Str):Prop:=∀ z,z∈told↔(∃(j:Nat) (b:List Str),j < r/\bs[j]?=some b/\z∈b)\/sf bs z
def nS(bs:List<|List Str)(r:Nat):Nat->List (List End×List Str)
 | 0=>[]
 | f+1=>(if sz bs r=2 then [(small bs r,bs.getD r [])] else [])++nS bs (r+1) f
theorem qi{b:List Str}(h:b.length=2):∃ x y,b=[x,y]:=by
 match b,h with
 | [x,y],_=>exact⟨x,y,rfl⟩
theorem Kj{b:List Str}(h:b.length=1):∃ x,b=[x]:=by
 match b,h with
 | [x],_=>exact⟨x,rfl⟩
theorem af.from'(h:af n bs):∀(f r:Nat) (told:List Str),1<=r->r+f=bs.length->Told bs r told->c7 n (eF n r) told=(nS bs r f).map (·.1):=by
 intro f;have hn:=h.len;have zI:∀{r:Nat} {told:List Str},1<=r->r<=bs.length->Told bs r told->∀ e∈(List.range<|sl bs r).map λp=>(r,p),bf n e∈told:=λ{r told} hr hl ht e he=>by
  obtain⟨p,hp,rfl⟩:=Az.mp he;have hp:=Bh.mp hp;obtain⟨k,rfl⟩:∃ k,r=k+1:=⟨r - 1,by omega⟩;rw [qh] at hp;have hb:=Aa (show k < bs.length by omega);rw [fT hb] at hp;rw [h.v9 hb<|Aa hp];exact(ht _).mpr<|.inl ⟨k,_,by omega,hb,Bv hp⟩
 induction f with
 | zero=>
  intro r told hr hl ht;have e:r=bs.length:=by omega
  rw [zH (by omega),h.kY (by omega),v5 (by omega),Fh,wa _ (zI hr (by omega) ht),Si<|by omega];rfl
 | succ f ih=>
  intro r told hr hl ht;have kl:r < bs.length:=by omega
  have hb:=Aa kl;have s1:=h.hZ kl;have sb:=fT hb;rw [zH (by omega),h.kY (by omega),List.range_add,Ak,Bf,wa _ (zI hr (by omega) ht),Cd];show c7 n (((List.range<|sz bs r).map λp=>(r,sl bs r+p))++eF n (r+1)) told=_;generalize CO:bs[r]=b at hb sb
  rcases s1 with s1 | s1
  ·obtain⟨x,hx⟩:=Kj (b:=b) (by omega);have tn:bf n (r,sl bs r+0)=x:=h.mF hb (by rw [hx];rfl);have lx:sf bs x:=⟨r,b,hb,by rw [hx];rfl⟩;rw [s1,wa _ λe he=>by
    have:e=(r,sl bs r+0):=by simpa using he
    rw [this,tn];exact(ht x).mpr<|.inr lx,ih (r+1) told (by omega) (by omega) λz=>?_]
   ·show _=((if sz bs r=2 then [(small bs r,bs.getD r [])] else [])++nS bs (r+1) f).map (·.1);rw [BK<|by omega];rfl
   ·rw [ht]
    constructor
    ·rintro (⟨j,d,h1,h2,h3⟩ | h)
     ·exact .inl ⟨j,d,by omega,h2,h3⟩
     ·exact .inr h
    ·rintro (⟨j,d,h1,h2,h3⟩ | h)
     ·by_cases c:j < r
      ·exact .inl ⟨j,d,c,h2,h3⟩
      ·have:j=r:=by omega
       subst this;rw [hb] at h2;cases h2;rw [hx] at h3;rw [Ae.mp h3];exact .inr lx
     ·exact .inr h
  ·obtain⟨x,y,hx⟩:=qi (b:=b) (by omega);have tx:bf n (r,sl bs r+0)=x:=h.mF hb (by rw [hx];rfl);have ty:bf n (r,sl bs r+1)=y:=h.mF hb (by rw [hx];rfl);have ly:sf bs y:=⟨r,b,hb,by rw [hx];rfl⟩;have nb:=(Dr.mp h.cC).1 b<|Ag hb;rw [hx] at nb;have nU:x≠y:=by simpa using nb
   have nx:x∉told:=λhm=>by
    rcases (ht x).mp hm with ⟨j,d,h1,h2,h3⟩ | ⟨j,d,h2,h3⟩
    ·have:=h.hV h2 hb h3 (by rw [hx];simp);omega
    ·have:=h.hV h2 hb (Ag h3) (by rw [hx];simp);subst this;rw [hb] at h2;cases h2;rw [hx] at h3;have h3:some y=some x:=h3;exact nU (Option.some.inj h3).symm
   rw [s1];show c7 n ((r,sl bs r+0) :: ([(r,sl bs r+1)]++eF n (r+1))) told=_;rw [zG (by rw [tx];exact nx),show(r,sl bs r+0)=(r,sl bs r) from rfl,h.j4 kl s1];have ev:(au<|small bs r).map (bf n)=[x]:=by
    show [bf n (r,sl bs r)]=[x];rw [show(r,sl bs r)=(r,sl bs r+0) from rfl,tx]
   rw [ev,wa _ λe he=>by
    rw [Ae.mp he,ty];exact Bi _<|(ht y).mpr<|.inr ly,ih (r+1) _ (by omega) (by omega) λz=>?_]
   ·show _=((if sz bs r=2 then [(small bs r,bs.getD r [])] else [])++nS bs (r+1) f).map (·.1);rw [BL s1];rfl
   ·rw [Ao,ht,Ae]
    constructor
    ·rintro ((⟨j,d,h1,h2,h3⟩ | h) | rfl)
     ·exact .inl ⟨j,d,by omega,h2,h3⟩
     ·exact .inr h
     ·exact .inl ⟨r,b,by omega,hb,by rw [hx];simp⟩
    ·rintro (⟨j,d,h1,h2,h3⟩ | h)
     ·by_cases c:j < r
      ·exact .inl<|.inl ⟨j,d,c,h2,h3⟩
      ·have:j=r:=by omega
       subst this;rw [hb] at h2;cases h2;rw [hx] at h3
       rcases Ar.mp h3 with e | e
       ·exact .inr e
       ·rw [Ae.mp e];exact .inl<|.inr ly
     ·exact .inl<|.inr h
def aD(bs:List<|List Str):List (List Str):=bs.filter λb=>decide (b.length=2)
def sg(bs:List<|List Str):List (List End×List Str):=if bs.length=0 then [] else(if sz bs 0=2 then [(small bs 0,bs.getD 0 [])] else [])++(big bs,(aD bs).flatten) :: nS bs 1 (bs.length - 1)
theorem af.walkers(h:af n bs):c7 n (ends n) []=(sg bs).map (·.1):=by
 have hn:=h.len;have e0:ends n=eF n 0:=rfl;have sh:sl bs 0=0:=BL rfl;unfold sg;rw [e0]
 by_cases c0:bs.length=0
 ·rw [BL c0,zH (by omega),h.kY (by omega),sh,v5 (by omega),Si<|by omega];rfl
 rw [BK c0];have kl:0 < bs.length:=by omega
 have hb:=Aa kl;have s1:=h.hZ kl;have sb:=fT hb;rw [zH (by omega),h.kY (by omega),sh,Dy];generalize CO:bs[0]=b at hb sb;have w0:WW bs 0=(0,sz bs 0 - 1):=by
  rw [dQ kl,sh];have ea:aa bs 0=sz bs 0 - 1:=BL rfl;rw [ea,Dy]
 rcases s1 with s1 | s1
 ·obtain⟨x,hx⟩:=Kj (b:=b) (by omega);have lx:sf bs x:=⟨0,b,hb,by rw [hx];rfl⟩;rw [s1,BK<|by omega];have Kk:WW bs 0=(0,0):=by rw [w0,s1]
  show c7 n ((0,0) :: eF n 1) []=_;rw [zG (by simp),<- Kk,h.mE kl,h.from' (bs.length - 1) 1 _ (Ai 1) (by omega) λz=>?_]
  ·rfl
  ·rw [Du,<- h.mE kl,h.Sh kl];refine⟨.inr,λhz=>hz.elim (λ⟨j,d,h1,h2,h3⟩=>?_) id⟩;have:j=0:=by omega
   subst this;rw [hb] at h2;cases h2;rw [hx] at h3;rw [Ae.mp h3];exact lx
 ·obtain⟨x,y,hx⟩:=qi (b:=b) (by omega);have tx:bf n (0,sl bs 0+0)=x:=h.mF hb (by rw [hx];rfl);have ty:bf n (0,sl bs 0+1)=y:=h.mF hb (by rw [hx];rfl);rw [sh] at tx ty;have ly:sf bs y:=⟨0,b,hb,by rw [hx];rfl⟩;have nb:=(Dr.mp h.cC).1 b<|Ag hb;rw [hx] at nb;have nU:x≠y:=by simpa using nb
  have Kk:WW bs 0=(0,1):=by rw [w0,s1]
  have sm:=h.j4 kl s1;rw [sh] at sm;have ev:(au<|small bs 0).map (bf n)=[x]:=by
   show [bf n (0,sl bs 0)]=[x];rw [sh];exact CW (λa=>[a]) tx
  rw [s1,BL rfl];show c7 n ((0,0) :: (0,1) :: eF n 1) []=_;rw [zG (by simp),sm,Du,ev,zG (by rw [show bf n (0,1)=y from ty];simpa using λe=>nU e.symm),<- Kk,h.mE kl,h.from' (bs.length - 1) 1 _ (Ai 1) (by omega) λz=>?_]
  ·rfl
  ·rw [Ao,<- h.mE kl,h.Sh kl,Ae]
   constructor
   ·rintro (rfl | hz)
    ·exact .inl ⟨0,b,by omega,hb,by rw [hx];simp⟩
    ·exact .inr hz
   ·rintro (⟨j,d,h1,h2,h3⟩ | hz)
    ·have:j=0:=by omega
     subst this;rw [hb] at h2;cases h2;rw [hx] at h3
     rcases Ar.mp h3 with e | e
     ·exact .inl e
     ·rw [Ae.mp e];exact .inr ly
    ·exact .inr hz
theorem Sj{p:List End×List Str}:∀(f r:Nat),p∈nS bs r f->∃ k,r<=k/\k < r+f/\sz bs k=2/\p=(small bs k,bs.getD k [])
 | 0,r,h=>by cases h
 | f+1,r,h=>by
  rcases Ao.mp h with q | q
  ·by_cases c:sz bs r=2
   ·rw [BL c] at q;exact⟨r,Ai _,by omega,c,Ae.mp q⟩
   ·rw [BK c] at q;cases q
  ·obtain⟨k,h1,h2,h3⟩:=Sj f (r+1) q;exact⟨k,by omega,by omega,h3⟩
theorem Sl:∀(f r:Nat),r+f=bs.length->(nS bs r f).map (·.2)=aD (bs.drop r)
 | 0,r,h=>by
  rw [Dl<|by omega];rfl
 | f+1,r,h=>by
  have ih:=Sl f (r+1) (by omega);have hb:=Aa (show r < bs.length by omega);show((if sz bs r=2 then [(small bs r,bs.getD r [])] else [])++nS bs (r+1) f).map (·.2)=_;rw [Ak,ih,Cc (show r < bs.length by omega)];unfold aD;rw [Cq]
  by_cases c:sz bs r=2
  ·rw [BL c,BL (BX<|by rw [<- fT hb];exact c),gD hb];rfl
  ·rw [BK c,BK λk=>c<|by rw [fT hb];exact CG k];rfl
theorem af.sub(h:af n bs){k:Nat}{b:List Str}(hb:bs[k]?=some b):b.Nodup:=(Dr.mp h.cC).1 b<|Ag hb
theorem Sn{b:List Str}(h:b.Nodup)(z:Str):b.count z=1↔z∈b:=by
 rw [<- El];have:=Hr.mp h z;omega
theorem af.coreS(h:af n bs){k:Nat}(hk:k < bs.length)(h2:sz bs k=2)(z:Str):((small bs k).map<|bf n).count z=1↔z∈bs.getD k []:=by
 have hb:=Aa hk;have sb:=fT hb;have nb:=h.sub hb;rw [gD hb];generalize bs[k]=b at hb sb nb;obtain⟨x,y,rfl⟩:=qi (b:=b) (by omega);have tx:bf n (k,sl bs k)=x:=h.mF (p:=0) hb rfl;have ty:bf n (k+1,1)=y:=h.v9 hb rfl;show([bf n (k,sl bs k),bf n (k+1,1)]).count z=1↔_;rw [tx,ty];exact Sn nb z
theorem af.nV(h:af n bs){f:Nat->Str}(hf:∀ j b,bs[j]?=some b->f j∈b){k:Nat}{b:List Str}{z:Str}(hb:bs[k]?=some b)(hz:z∈b):((List.range bs.length).map f).count z=if f k=z then 1 else 0:=by
 have nd:((List.range bs.length).map f).Nodup:=by
  rw [Bj,Cw];refine(Bj.mp Hi).imp_of_mem λ{i j} hi hj bF e=>bF ?_;have b1:=Aa<|Bh.mp hi;have b2:=Aa<|Bh.mp hj;have m1:=hf i _ b1;rw [e] at m1;exact h.hV b1 b2 m1<|hf j _ b2
 have hk:=(Ab.mp hb).1
 by_cases c:f k=z
 ·rw [BL c,Sn nd];exact Az.mpr ⟨k,Bh.mpr hk,c⟩
 ·rw [BK c];refine List.count_eq_zero.mpr λhm=>?_;obtain⟨j,hj,e⟩:=Az.mp hm;have b1:=Aa<|Bh.mp hj;have m1:=hf j _ b1;rw [e] at m1;have:=h.hV b1 hb m1 hz;subst this;exact c e
def fa(bs:List<|List Str)(k:Nat):Str:=((bs.getD k [])[aa bs k]?).getD ⟨#[]⟩
def fb(bs:List<|List Str)(k:Nat):Str:=((bs.getD k [])[ab bs k]?).getD ⟨#[]⟩
theorem af.aaL(h:af n bs){k:Nat}(hk:k < bs.length):aa bs k < sz bs k/\ab bs k < sz bs k:=by
 have:=h.hZ hk;unfold aa ab
 rcases Ec k with e | e
 ·rw [BL e,BL e];omega
 ·rw [BK (by omega),BK<|by omega];omega
theorem af.wc(h:af n bs){k:Nat}{b:List Str}(hb:bs[k]?=some b):b[aa bs k]?=some (fa bs k)/\b[ab bs k]?=some (fb bs k):=by
 have hk:=(Ab.mp hb).1;have l:=h.aaL hk;rw [fT hb] at l;unfold fa fb;rw [gD hb,Aa l.1,Aa l.2];exact⟨rfl,rfl⟩
theorem af.Kl(h:af n bs):((big bs).map<|bf n).Perm ((List.range bs.length).map (fa bs)++(List.range bs.length).map (fb bs)):=by
 unfold big;rw [Cd,show 2 * bs.length=bs.length+bs.length by omega,List.range_add,Ak,Cd];refine List.Perm.append (List.Perm.of_eq<|Dm λk hk=>?_) ?_
 ·have hk:=Bh.mp hk;have hb:=Aa hk;show bf n (WW bs k)=fa bs k;rw [dQ hk];exact h.mF hb (h.wc hb).1
 ·have e:(List.range bs.length).map ((bf n ∘ WW bs) ∘ (bs.length+·))=((List.range bs.length).map<|fb bs).reverse:=by
   refine Cv λi=>?_
   by_cases c:i < bs.length
   ·rw [List.getElem?_reverse (by rw [Ac,Cj];exact c),Ac,Cj,Ah,Ah,Ef c,Ef<|by omega];show some (bf n<|WW bs<|bs.length+i)=some (fb bs<|bs.length - 1 - i);have kl:bs.length - 1 - i < bs.length:=by omega
    have hb:=Aa kl;rw [eO (by omega) (by omega),show 2 * bs.length - (bs.length+i)=bs.length - 1 - i+1 by omega,show bs.length - 1 - i+1 - 1=bs.length - 1 - i by omega];exact CW some<|h.v9 hb (h.wc hb).2
   ·rw [Aq (by rw [Ac,Cj];omega),Aq<|by rw [List.length_reverse,Ac,Cj];omega]
  rw [e];exact List.reverse_perm _
theorem aW{b:List Str}:b∈aD bs↔b∈bs/\b.length=2:=by
 unfold aD;rw [Bx];exact⟨λh=>⟨h.1,CG h.2⟩,λh=>⟨h.1,BX h.2⟩⟩
theorem af.we(h:af n bs)(z:Str):((big bs).map<|bf n).count z=1↔z∈(aD bs).flatten:=by
 rw [h.Kl.count_eq,Gz];have Sq:∀ j b,bs[j]?=some b->fa bs j∈b:=λj b hb=>Ag (h.wc hb).1;have Ss:∀ j b,bs[j]?=some b->fb bs j∈b:=λj b hb=>Ag (h.wc hb).2
 by_cases hz:z∈bs.flatten
 ·obtain⟨b,hm,hz⟩:=Cf.mp hz;obtain⟨k,hb⟩:=Ay hm;have hk:=(Ab.mp hb).1;rw [h.nV Sq hb hz,h.nV Ss hb hz];have tw:z∈(aD bs).flatten↔b.length=2:=by
   rw [Cf]
   constructor
   ·rintro ⟨d,hd,dR⟩;obtain⟨d1,d2⟩:=aW.mp hd;obtain⟨j,hj⟩:=Ay d1;have:=h.hV hb hj hz dR;subst this;rw [hb] at hj;cases hj;exact d2
   ·exact λe=>⟨b,aW.mpr ⟨hm,e⟩,hz⟩
  rw [tw];obtain⟨e1,e2⟩:=h.wc hb;have nb:=h.sub hb;have sb:=fT hb
  rcases h.mD b hm with s | s
  ·obtain⟨x,rfl⟩:=Kj s;have g:∀{i:Nat} {y:Str},([x]:List Str)[i]?=some y->y=x:=λ{i y} hy=>by
    have:=Ag hy;exact Ae.mp this
   rw [g e1,g e2,Ae.mp hz,BL rfl];exact⟨λk=>by omega,λk=>by rw [s] at k;omega⟩
  ·obtain⟨x,y,rfl⟩:=qi s;have nU:x≠y:=by simpa using nb
   have hz:z=x\/z=y:=by simpa using hz
   refine⟨λ_=>s,λ_=>?_⟩;have s2:sz bs k=2:=by rw [sb];exact s
   rcases Ec k with e | e
   ·have ea:aa bs k=1:=by unfold aa;rw [BL e,s2]
    have eb:ab bs k=0:=by unfold ab;rw [BL e]
    rw [ea] at e1;rw [eb] at e2;have e1:some y=some (fa bs k):=e1;have e2:some x=some (fb bs k):=e2;rw [<- Option.some.inj e1,<- Option.some.inj e2]
    rcases hz with rfl | rfl
    ·rw [BK<|CJ nU,BL rfl]
    ·rw [BL rfl,BK nU]
   ·have ea:aa bs k=0:=by unfold aa;rw [BK<|by omega]
    have eb:ab bs k=1:=by unfold ab;rw [BK (by omega),s2]
    rw [ea] at e1;rw [eb] at e2;have e1:some x=some (fa bs k):=e1;have e2:some y=some (fb bs k):=e2;rw [<- Option.some.inj e1,<- Option.some.inj e2]
    rcases hz with rfl | rfl
    ·rw [BL rfl,BK<|CJ nU]
    ·rw [BK nU,BL rfl]
 ·have zero:∀{f:Nat->Str},(∀ j b,bs[j]?=some b->f j∈b)->((List.range bs.length).map f).count z=0:=λ{f} hf=>List.count_eq_zero.mpr λhm=>by
   obtain⟨j,hj,e⟩:=Az.mp hm;have b1:=Aa<|Bh.mp hj;exact hz<|Cf.mpr ⟨_,Ag b1,by rw [<- e];exact hf j _ b1⟩
  rw [zero Sq,zero Ss];refine⟨λk=>by omega,λk=>?_⟩;obtain⟨d,hd,dR⟩:=Cf.mp k;exact absurd (Cf.mpr ⟨d,(aW.mp hd).1,dR⟩) hz
def fG(bs:List<|List Str):List (List Str):=(sg bs).map (·.2)
theorem wg(bs:List<|List Str):fG bs=if bs.length=0 then [] else(if sz bs 0=2 then [bs.getD 0 []] else [])++(aD bs).flatten :: aD (bs.drop 1):=by
 unfold fG sg
 by_cases c:bs.length=0
 ·rw [BL c,BL c];rfl
 ·rw [BK c,BK c,Ak,Bt,Sl _ _<|by omega]
  congr 1
  by_cases c2:sz bs 0=2
  ·rw [BL c2,BL c2];rfl
  ·rw [BK c2,BK c2];rfl
theorem zJ(hm:0 < bs.length):aD bs=(if sz bs 0=2 then [bs.getD 0 []] else [])++aD (bs.drop 1):=by
 cases bs with
 | nil=>cases hm
 | cons b bs=>
  show aD (b :: bs)=(if b.length=2 then [b] else [])++aD bs;unfold aD;rw [Cq]
  by_cases c:b.length=2
  ·rw [BL<|BX c,BL c];rfl
  ·rw [BK λk=>c<|CG k,BK c];rfl
theorem qj(bs:List<|List Str):(fG bs).length=(aD bs).length+(if bs.length=0 then 0 else 1):=by
 rw [wg]
 by_cases c:bs.length=0
 ·rw [BL c,BL c];have:=Bq.mp c;subst this;rfl
 ·rw [BK c,BK c,zJ (by omega),Ad,Ad,Av];omega
theorem af.core(h:af n bs):∀ p∈sg bs,∀ z,(p.1.map<|bf n).count z=1↔z∈p.2:=by
 intro p hp z;unfold sg at hp
 by_cases c:bs.length=0
 ·rw [BL c] at hp;cases hp
 rw [BK c] at hp
 rcases Ao.mp hp with q | q
 ·by_cases c2:sz bs 0=2
  ·rw [BL c2] at q;rw [Ae.mp q];exact h.coreS (by omega) c2 z
  ·rw [BK c2] at q;cases q
 ·rcases Ar.mp q with q | q
  ·rw [q];exact h.we z
  ·obtain⟨k,h1,h2,h3,rfl⟩:=Sj _ _ q;exact h.coreS (by omega) h3 z
structure aJ(n:Net)(cs:List<|List Str):Prop where
 len:cs.length=(c7 n (ends n) []).length
 mem:∀(i:Nat) c w,cs[i]?=some c->(c7 n (ends n) [])[i]?=some w->∀ z,z∈c↔(w.map<|bf n).count z=1
 cV:∀ c∈cs,aR c
theorem aJ.gB{cs:List (List Str)}(C:aJ n cs)(h:af n bs):cs.length=(fG bs).length:=by
 rw [C.len,h.walkers];unfold fG;rw [Ac,Ac]
theorem aJ.at'{cs:List (List Str)}(C:aJ n cs)(h:af n bs){i:Nat}{c e:List Str}(hc:cs[i]?=some c)(he:(fG bs)[i]?=some e)(z:Str):z∈c↔z∈e:=by
 unfold fG at he;rw [Ah,An] at he;obtain⟨p,hp,rfl⟩:=he;rw [C.mem i c p.1 hc<|by rw [h.walkers,Ah,hp];rfl];exact h.core p (Ag hp) z
def fc:List Bool->Bool
 | []=>false
 | b :: l=>b ^^ fc l
theorem qk:∀ a b:List Bool,fc (a++b)=(fc a ^^ fc b)
 | [],b=>by simp [fc]
 | x :: a,b=>by
  show(x ^^ fc (a++b))=((x ^^ fc a) ^^ fc b);rw [qk a b,Bool.xor_assoc]
theorem zK{f:Nat->Bool}:∀ k,(∀ i,i < k->f i=false)->fc ((List.range k).map f)=false
 | 0,_=>rfl
 | k+1,h=>by
  rw [Dj,Ak,qk,zK k λi hi=>h i<|by omega];show(false ^^ (f k ^^ false))=false;rw [h k<|by omega];rfl
theorem si{f:Nat->Bool}{j:Nat}:∀ k,j < k->(∀ i,i < k->i≠j->f i=false)->fc ((List.range k).map f)=f j
 | 0,hj,_=>by omega
 | k+1,hj,h=>by
  rw [Dj,Ak,qk];show(_ ^^ (f k ^^ false))=_;rw [Ed]
  by_cases c:j=k
  ·subst c;rw [zK j λi hi=>h i (by omega) (by omega),SQ]
  ·rw [si k (by omega) λi hi=>h i (by omega),h k (by omega)<|CJ c,Ed]
theorem Sv{f:Nat->Bool}{j:Nat}(h0:0 < j):∀ k,j < k->(∀ i,i < k->i≠0->i≠j->f i=false)->fc ((List.range k).map f)=(f 0 ^^ f j)
 | 0,hj,_=>by omega
 | k+1,hj,h=>by
  rw [Dj,Ak,qk];show(_ ^^ (f k ^^ false))=_;rw [Ed]
  by_cases c:j=k
  ·subst c;rw [si j (j:=0) h0 λi hi hn=>h i (by omega) hn<|by omega]
  ·rw [Sv h0 k (by omega) λi hi=>h i (by omega),h k (by omega) (by omega)<|CJ c,Ed]
def cW(cs:List<|List Str)(k i:Nat)(z:Str):Bool:=fc<|(List.range k).map λj=>i.testBit j && decide (z∈cs.getD (j+1) [])
structure cI(cs:List<|List Str)(k:Nat)(ds:List<|List Str):Prop where
 len:ds.length=2 ^ k
 at':∀(i:Nat) d,ds[i]?=some d->aR d/\∀ z,z∈d↔cW cs k i z=true
theorem cI.nil(cs:List<|List Str):cI cs 0 [[]]:=⟨rfl,λi d h=>by
 match i with
 | 0=>
  cases h;exact⟨List.Pairwise.nil,λz=>⟨(λh=>by cases h),(λh=>by cases h)⟩⟩
 | i+1=>simp at h⟩
theorem cI.step{cs:List (List Str)}{k:Nat}{ds ms:List (List Str)}(D:cI cs k ds)(hl:ms.length=ds.length) (hm:∀(i:Nat) d m,ds[i]?=some d->ms[i]?=some m->aR m/\∀ z,z∈m↔((decide (z∈d) ^^ decide (z∈cs.getD (k+1) []))=true)):cI cs (k+1) (ds++ms):=by
 refine⟨by rw [Ad,hl,D.len,Hv];omega,λi d h=>?_⟩;have last:∀ i z,cW cs (k+1) i z=(cW cs k i z ^^ (i.testBit k && decide (z∈cs.getD (k+1) []))):=λi z=>by
  unfold cW;rw [Dj,Ak,qk];show(_ ^^ (_ ^^ false))=_;rw [Ed]
 by_cases c:i < ds.length
 ·rw [Aj c] at h;obtain⟨h1,h2⟩:=D.at' i d h;refine⟨h1,λz=>?_⟩;rw [last,Ee (by rw [<- D.len];exact c),SJ,Ed];exact h2 z
 ·rw [Am<|by omega] at h;obtain⟨x,rfl⟩:∃ x,i=2 ^ k+x:=⟨i - ds.length,by rw [<- D.len];omega⟩;have ex:2 ^ k+x - ds.length=x:=by rw [D.len];omega
  rw [ex] at h;have hi:=(Ab.mp h).1;have hd:=Aa (show x < ds.length by omega);obtain⟨h1,h2⟩:=hm _ _ d hd h;have dm:=(D.at' _ _ hd).2;refine⟨h1,λz=>?_⟩;rw [h2,last,QJ,Ee<|by rw [<- D.len,<- hl];exact hi];have e1:cW cs k (2 ^ k+x) z=cW cs k x z:=by
   unfold cW;refine CW fc<|Dm λj hj=>?_;rw [QK<|Bh.mp hj]
  have e2:decide (z∈ds[x])=cW cs k x z:=by
   rw [Cg,CK];exact dm z
  rw [e1,e2];rfl
theorem Km:∀(k:Nat) (p:Nat->Bool),∃ s,s < 2 ^ k/\∀ i,i < k->s.testBit i=p i
 | 0,_=>⟨0,by decide,λi h=>by omega⟩
 | k+1,p=>by
  obtain⟨s,h1,h2⟩:=Km k p;cases hp:p k with
  | false=>
   refine⟨s,by rw [Hv];omega,λi hi=>?_⟩
   by_cases c:i=k
   ·subst c;rw [hp,Ee h1]
   ·exact h2 i<|by omega
  | true=>
   refine⟨2 ^ k+s,by rw [Hv];omega,λi hi=>?_⟩
   by_cases c:i=k
   ·subst c;rw [hp,QJ,Ee h1];rfl
   ·rw [QK<|by omega];exact h2 i<|by omega
theorem af.nW(h:af n bs){i j:Nat}{b d:List Str}{z:Str}(hb:(aD bs)[i]?=some b)(hd:(aD bs)[j]?=some d)(h1:z∈b)(h2:z∈d):i=j:=by
 have hp:=JL (show(aD bs).Sublist bs from Es) (Dr.mp h.cC).2;rw [Bc] at hp;obtain⟨li,ei⟩:=Ab.mp hb;obtain⟨lj,ej⟩:=Ab.mp hd;subst ei ej
 rcases Gx i j with c | c | c
 ·exact absurd rfl (hp i j li lj c z h1 z h2)
 ·exact c
 ·exact absurd rfl (hp j i lj li c z h2 z h1)
theorem af.Kn(h:af n bs){q i:Nat}{b:List Str}{z:Str}(hb:(aD bs)[q]?=some b)(hz:z∈b):cW ([] :: aD bs) (aD bs).length i z=i.testBit q:=by
 have hq:=(Ab.mp hb).1;have g:∀ j,([] :: aD bs).getD (j+1) []=(aD bs).getD j []:=λj=>rfl;unfold cW;rw [si (j:=q) _ hq λj hj hn=>?_]
 ·rw [g,gD hb,BX hz,Fw]
 ·rw [g,As,Aa hj];show(_ && decide (z∈(aD bs)[j]))=false;rw [BR λk=>hn<|h.nW (Aa hj) hb k hz,Fa]
theorem ql{cs:List (List Str)}{k i:Nat}{z:Str}(hn:∀ j,j < k->z∉cs.getD (j+1) []):cW cs k i z=false:=zK k λj hj=>by rw [BR<|hn j hj,Fa]
theorem zL{z:Str}(hz:z∉(aD bs).flatten)(j:Nat):z∉(aD bs).getD j []:=λhm=>by
 rw [As] at hm;cases hd:(aD bs)[j]? with
 | none=>rw [hd] at hm;cases hm
 | some d=>rw [hd] at hm;exact hz<|Cf.mpr ⟨d,Ag hd,hm⟩
theorem af.zM(h:af n bs){cs:List (List Str)}(C:aJ n cs)(i:Nat):∃ p:Nat->Bool,(∀ q,p q=if sz bs 0=2/\0 < q then(i.testBit 0 ^^ i.testBit q) else i.testBit q) /\
  (∀(q:Nat) b z,(aD bs)[q]?=some b->z∈b->cW cs (aD bs).length i z=p q)/\∀ z,z∉(aD bs).flatten->cW cs (aD bs).length i z=false:=by
 refine⟨λq=>if sz bs 0=2/\0 < q then(i.testBit 0 ^^ i.testBit q) else i.testBit q,λ_=>rfl,?_⟩
 by_cases cm:bs.length=0
 ·have:=Bq.mp cm;subst this;exact⟨λq b z hb=>by simp [aD] at hb,λz _=>rfl⟩
 have ee:=wg bs;rw [BK cm] at ee;have lc:=C.gB h;have le:=qj bs;rw [BK cm] at le;have ts:=zJ (bs:=bs) (by omega);have mem:∀ j z,j < (fG bs).length->(z∈cs.getD j []↔z∈(fG bs).getD j []):=λj z hj=>by
  have h1:=Aa (show j < cs.length by omega);have h2:=Aa hj;rw [As,As,h1,h2];exact C.at' h h1 h2 z
 by_cases c:sz bs 0=2
 ·rw [BL c] at ee ts;have g0:(fG bs).getD 1 []=(aD bs).flatten:=by rw [ee];rfl
  have g1:∀ j,0 < j->(fG bs).getD (j+1) []=(aD bs).getD j []:=λj hj=>by
   obtain⟨x,rfl⟩:∃ x,j=x+1:=⟨j - 1,by omega⟩;rw [ee,ts];rfl
  refine⟨λq b z hb hz=>?_,λz hz=>ql λj hj=>?_⟩
  ·have hq:=(Ab.mp hb).1;have j5:z∈(aD bs).flatten:=Cf.mpr ⟨b,Ag hb,hz⟩;have f0:decide (z∈cs.getD (0+1) [])=true:=BX ((mem 1 z<|by omega).mpr<|by rw [g0];exact j5);have fo:∀ j,j < (aD bs).length->j≠0->(z∈cs.getD (j+1) []↔j=q):=λj hj h0=>by
    rw [mem _ _ (by omega),g1 j (by omega),As,Aa hj];exact⟨λk=>h.nW (Aa hj) hb k hz,λe=>by subst e;rw [Aa hj] at hb;cases hb;exact hz⟩
   unfold cW;show _=(if sz bs 0=2/\0 < q then(i.testBit 0 ^^ i.testBit q) else i.testBit q)
   by_cases q0:q=0
   ·subst q0;rw [BK (λk=>absurd k.2<|by omega),si (j:=0) _ hq λj hj hn=>?_]
    ·rw [f0,Fw]
    ·rw [BR λk=>hn<|(fo j hj hn).mp k,Fa]
   ·rw [BL ⟨c,by omega⟩,Sv (j:=q) (by omega) _ hq λj hj h0 hn=>?_]
    ·rw [f0,Fw,BX<|(fo q hq q0).mpr rfl,Fw]
    ·rw [BR λk=>hn<|(fo j hj h0).mp k,Fa]
  ·rw [mem _ _<|by omega]
   by_cases j0:j=0
   ·subst j0;rw [g0];exact hz
   ·rw [g1 j<|by omega];exact zL hz j
 ·rw [BK c] at ee ts;rw [Du] at ts;have g1:∀ j,(fG bs).getD (j+1) []=(aD bs).getD j []:=λj=>by
   rw [ee,ts];rfl
  refine⟨λq b z hb hz=>?_,λz hz=>ql λj hj=>?_⟩
  ·have hq:=(Ab.mp hb).1;have fo:∀ j,j < (aD bs).length->(z∈cs.getD (j+1) []↔j=q):=λj hj=>by
    rw [mem _ _ (by omega),g1 j,As,Aa hj];exact⟨λk=>h.nW (Aa hj) hb k hz,λe=>by subst e;rw [Aa hj] at hb;cases hb;exact hz⟩
   unfold cW;show _=(if sz bs 0=2/\0 < q then(i.testBit 0 ^^ i.testBit q) else i.testBit q);rw [BK λk=>c k.1,si (j:=q) _ hq λj hj hn=>?_]
   ·rw [BX<|(fo q hq).mpr rfl,Fw]
   ·rw [BR λk=>hn<|(fo j hj).mp k,Fa]
  ·rw [mem _ _ (by omega),g1 j];exact zL hz j
theorem Sw{k s t:Nat}(hs:s < 2 ^ k)(ht:t < 2 ^ k)(h:∀ i,i < k->s.testBit i=t.testBit i):s=t:=Nat.eq_of_testBit_eq λi=>by
 by_cases c:i < k
 ·exact h i c
 ·have:2 ^ k<=2 ^ i:=Hs (by decide) (by omega);rw [Ee (by omega),Ee<|by omega]
theorem af.wj(h:af n bs){cs:List (List Str)}(C:aJ n cs){ds dd:List (List Str)}(D:cI cs (aD bs).length ds)(E:cI ([] :: aD bs) (aD bs).length dd):ds.Nodup/\dd.Nodup/\ds.Perm dd:=by
 have one:∀{q:Nat},q < (aD bs).length->∃ b z,(aD bs)[q]?=some b/\z∈b:=λ{q} hq=>by
  have hb:=Aa hq;have l2:=(aW.mp<|Ag hb).2;obtain⟨x,y,e⟩:=qi l2;exact⟨_,x,hb,by rw [e];simp⟩
 have nE:dd.Nodup:=by
  rw [Bj,Bc];intro i j hi hj lt e;have e1:=(E.at' i _<|Aa hi).2;have e2:=(E.at' j _<|Aa hj).2;have:i=j:=Sw (k:=(aD bs).length) (by rw [<- E.len];exact hi) (by rw [<- E.len];exact hj) λq hq=>by
   obtain⟨b,z,hb,hz⟩:=one hq;rw [<- h.Kn hb hz,<- h.Kn hb hz,Cg,<- e1,<- e2,e]
  omega
 have nD:ds.Nodup:=by
  rw [Bj,Bc];intro i j hi hj lt e;have e1:=(D.at' i _<|Aa hi).2;have e2:=(D.at' j _<|Aa hj).2;obtain⟨p,p1,p2,_⟩:=h.zM C i;obtain⟨p',p1',p2',_⟩:=h.zM C j;have pq:∀ q,q < (aD bs).length->p q=p' q:=λq hq=>by
   obtain⟨b,z,hb,hz⟩:=one hq;rw [<- p2 q b z hb hz,<- p2' q b z hb hz,Cg,<- e1,<- e2,e]
  have:i=j:=Sw (k:=(aD bs).length) (by rw [<- D.len];exact hi) (by rw [<- D.len];exact hj) λq hq=>by
   have a:=pq q hq;have b:=pq 0 (by omega);rw [p1,p1'] at a b;rw [BK (λk=>absurd k.2<|by omega),BK λk=>absurd k.2<|by omega] at b
   by_cases c:sz bs 0=2/\0 < q
   ·rw [BL c,BL c,b] at a
    revert a
    cases i.testBit q <;> cases j.testBit q <;> cases j.testBit 0 <;> simp
   ·rw [BK c,BK c] at a;exact a
  omega
 refine⟨nD,nE,(Fb nD nE).mpr λd=>?_⟩;have same:∀{i:Nat} {p:Nat->Bool} {s:Nat},(∀ q,q < (aD bs).length->s.testBit q=p q)->(∀(q:Nat) b z,(aD bs)[q]?=some b->z∈b->cW cs (aD bs).length i z=p q)->(∀ z,z∉(aD bs).flatten->cW cs (aD bs).length i z=false)->∀ z,cW cs (aD bs).length i z=cW ([] :: aD bs) (aD bs).length s z:=λ{i p s} h1 h2 h3 z=>by
  by_cases hz:z∈(aD bs).flatten
  ·obtain⟨b,hb,hz⟩:=Cf.mp hz;obtain⟨q,hq⟩:=Ay hb;rw [h2 q b z hq hz,h.Kn hq hz,h1 q (Ab.mp hq).1]
  ·rw [h3 z hz];exact(ql λj hj=>zL hz j).symm
 constructor
 ·intro hd;obtain⟨i,hi⟩:=Ay hd;obtain⟨s1,s2⟩:=D.at' i d hi;obtain⟨p,_,p2,p3⟩:=h.zM C i;obtain⟨s,hs,hb⟩:=Km (aD bs).length p;have kS:s < dd.length:=by rw [E.len];exact hs
  obtain⟨t1,t2⟩:=E.at' s _<|Aa kS;rw [pM s1 t1 λz=>by rw [s2,t2,same hb p2 p3 z]];exact Bv _
 ·intro hd;obtain⟨s,hs⟩:=Ay hd;obtain⟨t1,t2⟩:=E.at' s d hs;have iV:s < 2 ^ (aD bs).length:=by rw [<- E.len];exact(Ab.mp hs).1
  obtain⟨i,hi,hb⟩:=Km (aD bs).length λq=>if sz bs 0=2/\0 < q then(s.testBit 0 ^^ s.testBit q) else s.testBit q;obtain⟨p,p1,p2,p3⟩:=h.zM C i;have nA:i < ds.length:=by rw [D.len];exact hi
  obtain⟨s1,s2⟩:=D.at' i _<|Aa nA;have kJ:∀ q,q < (aD bs).length->s.testBit q=p q:=λq hq=>by
   rw [p1];have a:=hb q hq;have b:=hb 0 (by omega);rw [BK λk=>absurd k.2<|by omega] at b
   by_cases c:sz bs 0=2/\0 < q
   ·rw [BL c] at a ⊢;rw [a,b];cases s.testBit 0 <;> cases s.testBit q <;> rfl
   ·rw [BK c] at a ⊢;exact a.symm
  rw [pM t1 s1 λz=>by rw [s2,t2,same kJ p2 p3 z]];exact Bv _
open Classical
noncomputable def j6(cs:List<|List Str)(z:Str):List Nat:=(List.range cs.length).filter λi=>decide (z∈cs[i]?.getD [])
noncomputable def c8(cs:List<|List Str)(ss:List Str)(z:Str):List (Nz.Bl Int):=match j6 cs z with
 | a :: b :: _=>[((a:Int),(b:Int),decide (z∈ss))]
 | _=>[]
noncomputable def fU(cs:List<|List Str)(ss zs:List Str):List (Nz.Bl Int):=zs.flatMap<|c8 cs ss
theorem k8o(cs:List<|List Str)(ss:List Str)(z:Str):(c8 cs ss z).length<=1:=by
 unfold c8
 split <;> simp
theorem Ko(cs:List<|List Str)(ss:List Str):∀ zs:List Str,(fU cs ss zs).length<=zs.length
 | []=>Ai _
 | z :: zs=>by
  show(c8 cs ss z++fU cs ss zs).length<=zs.length+1;rw [Ad];have:=k8o cs ss z;have:=Ko cs ss zs;omega
theorem k7l(cs:List<|List Str)(ss zs:List Str)(z:Str):fU cs ss (zs++[z])=fU cs ss zs++c8 cs ss z:=by
 unfold fU;rw [Gi];simp
theorem Sx{f:Nat->Bool}{a b:Nat}(eX:a < b):∀ k,b < k->(∀ i,i < k->i≠a->i≠b->f i=false)->fc ((List.range k).map f)=(f a ^^ f b)
 | 0,hj,_=>by omega
 | k+1,hj,h=>by
  rw [Dj,Ak,qk];show(_ ^^ (f k ^^ false))=_;rw [Ed]
  by_cases c:b=k
  ·subst c;rw [si b (j:=a) eX λi hi hn=>h i (by omega) hn<|by omega]
  ·rw [Sx eX k (by omega) λi hi=>h i (by omega),h k (by omega) (by omega)<|CJ c,Ed]
theorem Kq(g f:Nat->Bool):∀ l:List Nat,fc ((l.filter g).map f)=fc (l.map λi=>g i && f i)
 | []=>rfl
 | a :: l=>by
  rw [Cq];cases hg:g a with
  | true=>
   rw [BL rfl];show(f a ^^ fc ((l.filter g).map f))=((g a && f a) ^^ _);rw [Kq g f l,hg,TV]
  | false=>
   rw [BK<|by decide];show _=((g a && f a) ^^ _);rw [Kq g f l,hg,SJ,SQ]
theorem k5i{a b:Nat}(h:a < b){p:Nat->Bool}:∀ m,b < m->(∀ i,i < m->(p i=true↔i=a\/i=b))->(List.range m).filter p=[a,b]:=by
 have wm:∀ m,m<=a->(∀ i,i < m->(p i=true↔i=a\/i=b))->(List.range m).filter p=[]:=λm hm hp=>Ex.mpr λi hi k=>by
  have:=Bh.mp hi
  rcases (hp i this).mp k with e | e <;> omega
 have Kr:∀ m,a < m->m<=b->(∀ i,i < m->(p i=true↔i=a\/i=b))->(List.range m).filter p=[a]:=by
  intro m
  induction m with
  | zero=>intro h;omega
  | succ m ih=>
   intro h1 h2 hp;rw [Dj,Cn]
   by_cases c:a=m
   ·subst c;rw [wm a (Ai _) λi hi=>hp i (by omega),Cq,BL<|(hp a<|by omega).mpr<|.inl rfl];rfl
   ·rw [ih (by omega) (by omega) λi hi=>hp i (by omega),Cq,BK λk=>by rcases (hp m<|by omega).mp k with e | e <;> omega];rfl
 intro m
 induction m with
 | zero=>intro h;omega
 | succ m ih=>
  intro h1 hp;rw [Dj,Cn]
  by_cases c:b=m
  ·subst c;rw [Kr b h (Ai _) λi hi=>hp i (by omega),Cq,BL<|(hp b<|by omega).mpr<|.inr rfl];rfl
  ·rw [ih (by omega) λi hi=>hp i (by omega),Cq,BK λk=>by rcases (hp m<|by omega).mp k with e | e <;> omega];rfl
def aU(bs:List<|List Str):Nat:=if sz bs 0=2 then 1 else 0
def idx(bs:List<|List Str)(q:Nat):Nat:=if sz bs 0=2/\q=0 then 0 else q+1
theorem sj(bs:List<|List Str)(q:Nat):idx bs q≠aU bs:=by
 unfold idx aU
 by_cases c:sz bs 0=2
 ·rw [BL c]
  by_cases q0:q=0
  ·rw [BL ⟨c,q0⟩];decide
  ·rw [BK λk=>q0 k.2];omega
 ·rw [BK c,BK λk=>c k.1];omega
theorem q2m{q r:Nat}(h:idx bs q=idx bs r):q=r:=by
 unfold idx at h
 by_cases c:sz bs 0=2/\q=0 <;> by_cases d:sz bs 0=2/\r=0
 ·rw [c.2,d.2]
 ·rw [BL c,BK d] at h;omega
 ·rw [BK c,BL d] at h;omega
 ·rw [BK c,BK d] at h;omega
theorem af.bears(h:af n bs){cs:List (List Str)}(C:aJ n cs){q:Nat}{b:List Str}{z:Str}(hb:(aD bs)[q]?=some b)(hz:z∈b):aU bs < cs.length/\idx bs q < cs.length/\∀ i,i < cs.length->(z∈cs[i]?.getD []↔i=aU bs\/i=idx bs q):=by
 have hq:=(Ab.mp hb).1;have cm:bs.length≠0:=λe=>by
  have:=Bq.mp e;subst this;simp [aD] at hb
 have ee:=wg bs;rw [BK cm] at ee;have lc:=C.gB h;have le:=qj bs;rw [BK cm] at le;have ts:=zJ (bs:=bs) (by omega);have j5:z∈(aD bs).flatten:=Cf.mpr ⟨b,Ag hb,hz⟩;have mem:∀ j,j < cs.length->(z∈cs[j]?.getD []↔z∈(fG bs)[j]?.getD []):=λj hj=>by
  have h1:=Aa hj;have h2:=Aa (show j < (fG bs).length by omega);rw [h1,h2];exact C.at' h h1 h2 z
 have tw:∀ j,(z∈(aD bs)[j]?.getD []↔j=q):=λj=>by
  cases hd:(aD bs)[j]? with
  | none=>exact⟨(λk=>by cases k),(λe=>by subst e;rw [hd] at hb;cases hb)⟩
  | some d=>exact⟨λk=>h.nW hd hb k hz,λe=>by subst e;rw [hd] at hb;cases hb;exact hz⟩
 unfold aU idx
 by_cases c:sz bs 0=2
 ·rw [BL c] at ee ts ⊢;refine⟨by omega,by split <;> omega,λi hi=>?_⟩;rw [mem i hi,ee]
  match i with
  | 0=>
   have e0:(aD bs)[0]?.getD []=bs.getD 0 []:=by rw [ts];rfl
   show z∈bs.getD 0 []↔_;rw [<- e0,tw 0]
   by_cases q0:q=0
   ·rw [BL ⟨c,q0⟩];exact⟨λ_=> .inr rfl,λ_=>q0.symm⟩
   ·rw [BK λk=>q0 k.2];exact⟨λe=>absurd e.symm q0,λe=>by omega⟩
  | 1=>
   show z∈(aD bs).flatten↔_;exact⟨λ_=> .inl rfl,λ_=>j5⟩
  | i+2=>
   have e0:(aD bs)[i+1]?.getD []=(aD<|bs.drop 1)[i]?.getD []:=by rw [ts];rfl
   show z∈(aD<|bs.drop 1)[i]?.getD []↔_;rw [<- e0,tw<|i+1]
   by_cases q0:q=0
   ·rw [BL ⟨c,q0⟩];exact⟨λe=>by omega,λe=>by omega⟩
   ·rw [BK λk=>q0 k.2];exact⟨λe=>by omega,λe=>by omega⟩
 ·rw [BK c] at ee ts ⊢;rw [Du] at ts ee;rw [BK λk=>c k.1];refine⟨by omega,by omega,λi hi=>?_⟩;rw [mem i hi,ee]
  match i with
  | 0=>
   show z∈(aD bs).flatten↔_;exact⟨λ_=> .inl rfl,λ_=>j5⟩
  | i+1=>
   show z∈(aD<|bs.drop 1)[i]?.getD []↔_;rw [<- ts,tw i];exact⟨λe=>by omega,λe=>by omega⟩
theorem af.iL(h:af n bs){cs:List (List Str)}(C:aJ n cs){z:Str}(hz:z∉(aD bs).flatten)(i:Nat):z∉cs[i]?.getD []:=λhm=>by
 cases hc:cs[i]? with
 | none=>rw [hc] at hm;cases hm
 | some c=>
  rw [hc] at hm;have hi:=(Ab.mp hc).1;have he:=Aa (show i < (fG bs).length by rw [<- C.gB h];exact hi);have hm:=(C.at' h hc he z).mp hm;have nN:=Ag he;generalize (fG bs)[i]'(by rw [<- C.gB h];exact hi)=e at hm nN;rw [wg] at nN
  by_cases cm:bs.length=0
  ·rw [BL cm] at nN;cases nN
  rw [BK cm] at nN;have ts:=zJ (bs:=bs) (by omega);have sub:e∈aD bs->False:=λk=>hz<|Cf.mpr ⟨e,k,hm⟩
  rcases Ao.mp nN with k | k
  ·exact sub<|by rw [ts];exact Bi _ k
  ·rcases Ar.mp k with k | k
   ·rw [k] at hm;exact hz hm
   ·exact sub<|by rw [ts];exact Bb _ k
theorem af.j7(h:af n bs){cs:List (List Str)}(C:aJ n cs){q:Nat}{b:List Str}{z:Str}(hb:(aD bs)[q]?=some b)(hz:z∈b):j6 cs z=[min (aU bs)<|idx bs q,max (aU bs)<|idx bs q]:=by
 obtain⟨h1,h2,h3⟩:=h.bears C hb hz;have ne:=sj bs q;unfold j6;refine k5i (by omega) _ (by omega) λi hi=>?_;rw [CK,h3 i hi];omega
theorem af.nX(h:af n bs){cs:List (List Str)}(C:aJ n cs){z:Str}(hz:z∉(aD bs).flatten):j6 cs z=[]:=by
 unfold j6;exact Ex.mpr λi _ k=>h.iL C hz i<|CG k
theorem af.wn(h:af n bs){cs:List (List Str)}(C:aJ n cs)(z:Str):j6 cs z=[]\/∃ a b,j6 cs z=[a,b]:=by
 by_cases hz:z∈(aD bs).flatten
 ·obtain⟨b,hb,hz⟩:=Cf.mp hz;obtain⟨q,hq⟩:=Ay hb;exact .inr ⟨_,_,h.j7 C hq hz⟩
 ·exact .inl<|h.nX C hz
structure j8(cs:List<|List Str)(ss:List Str)(ns:List Nat):Prop where
 ox:∀ i∈ns,i < cs.length
 few:ns.length<=cs.length
 sum:∀ z,fc (ns.map λi=>decide (z∈cs[i]?.getD []))=decide (z∈ss)
 sml:∀ k i,0 < k->ns[k]?=some i->(cs[i]?.getD []).length<=2
theorem Sy{cs:List (List Str)}{ss zs:List Str}{a b:Int}{o:Bool}(h:(a,b,o)∈fU cs ss zs):∃ i j:Nat,a=(i:Int)/\b=(j:Int)/\i < cs.length/\j < cs.length:=by
 obtain⟨z,_,hl⟩:=Fq.mp h;have rg:∀ i∈j6 cs z,i < cs.length:=λi hi=>Bh.mp (Bx.mp hi).1;unfold c8 at hl
 split at hl
 ·rename_i i j r e;rw [e] at rg;have hl:=Ae.mp hl;cases hl;exact⟨i,j,rfl,rfl,rg i (by simp),rg j<|by simp⟩
 ·cases hl
theorem k95{cs:List (List Str)}{ss zs:List Str}(h0:0 < cs.length){x:Int}{o:Bool}(w:Nz.Way (fU cs ss zs) 0 x o):∃ i:Nat,x=(i:Int)/\i < cs.length:=by
 induction w with
 | here=>exact⟨0,rfl,h0⟩
 | there _ hl _=>
  obtain⟨i,j,_,e,_,k⟩:=Sy hl;exact⟨j,e,k⟩
 | back _ hl _=>
  obtain⟨i,j,e,_,k,_⟩:=Sy hl;exact⟨i,e,k⟩
theorem af.nums(h:af n bs){cs:List (List Str)}(C:aJ n cs){q0:Nat}{b0 ss zs:List Str}(fV:(aD bs)[q0]?=some b0)(eJ:∀ z,z∈ss↔z∈b0)(hzs:∀ z,z∈zs↔z∈av n){kvs:List (Key×V)}(I:Nz.cb Sum.inl (fU cs ss zs) 0 none kvs [])
  {is:List Int} (h1:is.Pairwise (· < ·)) (h2:∀ x,x∈is↔aA kvs (Sum.inl x)=some (.bl true)):∃ ns:List Nat,is=ns.map (λi:Nat=>(i:Int))/\j8 cs ss ns:=by
 have l2:=(aW.mp<|Ag fV).2;obtain⟨x0,y0,e0⟩:=qi l2;obtain⟨lb,li0,_⟩:=h.bears C fV (z:=x0) (by rw [e0];simp);have lk:∀{a b:Int} {o:Bool},(a,b,o)∈fU cs ss zs↔∃ z∈zs,∃(q:Nat) (d:List Str),(aD bs)[q]?=some d/\z∈d/\a=((min (aU bs) (idx bs q):Nat):Int)/\b=((max (aU bs) (idx bs q):Nat):Int)/\o=decide (q=q0):=λ{a b o}=>by
  unfold fU;rw [Fq]
  constructor
  ·rintro ⟨z,hz,hl⟩;refine⟨z,hz,?_⟩
   by_cases j5:z∈(aD bs).flatten
   ·obtain⟨d,hd,dR⟩:=Cf.mp j5;obtain⟨q,hq⟩:=Ay hd;unfold c8 at hl;rw [h.j7 C hq dR] at hl;have hl:=Ae.mp hl;cases hl;refine⟨q,d,hq,dR,rfl,rfl,?_⟩;rw [Cg,CK,CK,eJ];exact⟨λk=>h.nW hq fV dR k,λe=>by subst e;rw [hq] at fV;cases fV;exact dR⟩
   ·unfold c8 at hl;rw [h.nX C j5] at hl;cases hl
  ·rintro ⟨z,hz,q,d,hq,dR,rfl,rfl,rfl⟩;refine⟨z,hz,?_⟩;unfold c8;rw [h.j7 C hq dR];refine Ae.mpr ?_;have:decide (q=q0)=decide (z∈ss):=by
    rw [Cg,CK,CK,eJ];exact⟨λe=>by subst e;rw [hq] at fV;cases fV;exact dR,λk=>h.nW hq fV dR k⟩
   rw [this]
 have mk:Nat->Bool:=λi=>decide (i=idx bs q0);have Ks:∀ q,(decide (min (aU bs) (idx bs q)=idx bs q0) ^^ decide (max (aU bs) (idx bs q)=idx bs q0))=decide (q=q0):=λq=>by
  have n0:=sj bs q0;have n1:=sj bs q
  by_cases c:q=q0
  ·subst c;rw [BX rfl]
   rcases Dz (aU bs) (idx bs q) with k | k
   ·rw [Ep (by omega),RK (by omega),BR λe=>n0 e.symm,BX rfl];rfl
   ·rw [Hl k,RX k,BX rfl,BR λe=>n0 e.symm];rfl
  ·rw [BR c];have c':idx bs q≠idx bs q0:=λe=>c<|q2m e
   rcases Dz (aU bs) (idx bs q) with k | k
   ·rw [Ep (by omega),RK (by omega),BR λe=>n0 e.symm,BR c'];rfl
   ·rw [Hl k,RX k,BR c',BR λe=>n0 e.symm];rfl
 have way:∀{x:Int} {o:Bool},Nz.Way (fU cs ss zs) 0 x o->∃ i:Nat,x=(i:Int)/\i < cs.length/\o=(decide (i=idx bs q0) ^^ decide (0=idx bs q0)):=λ{x o} w=>by
  induction w with
  | here=>exact⟨0,rfl,by omega,by rw [Bool.xor_self]⟩
  | @there x y b o _ hl ih=>
   obtain⟨i,rfl,hi,hb⟩:=ih;obtain⟨z,_,q,d,hq,dR,ea,eb,eo⟩:=lk.mp hl;obtain⟨k1,k2,_⟩:=h.bears C hq dR;refine⟨max (aU bs)<|idx bs q,eb,by omega,?_⟩;have ea:i=min (aU bs) (idx bs q):=by omega
   have m:=Ks q;rw [<- ea] at m;rw [hb,eo,<- m];generalize decide (i=idx bs q0)=u;generalize decide (max (aU bs) (idx bs q)=idx bs q0)=v;generalize decide (0=idx bs q0)=t;cases u <;> cases v <;> cases t <;> rfl
  | @back x y b o _ hl ih=>
   obtain⟨i,rfl,hi,hb⟩:=ih;obtain⟨z,_,q,d,hq,dR,ea,eb,eo⟩:=lk.mp hl;obtain⟨k1,k2,_⟩:=h.bears C hq dR;refine⟨min (aU bs)<|idx bs q,ea,by omega,?_⟩;have eb:i=max (aU bs) (idx bs q):=by omega
   have m:=Ks q;rw [<- eb] at m;rw [hb,eo,<- m];generalize decide (i=idx bs q0)=u;generalize decide (min (aU bs) (idx bs q)=idx bs q0)=v;generalize decide (0=idx bs q0)=t;cases u <;> cases v <;> cases t <;> rfl
 have cl:=C.gB h;have el:=qj bs;have wo:∀ q,q < (aD bs).length->Nz.bY (fU cs ss zs) (aU bs:Int) (idx bs q:Int) (decide (q=q0)):=λq hq=>by
  have hd:=Aa hq;obtain⟨d1,d2⟩:=aW.mp<|Ag hd;obtain⟨x,y,ed⟩:=qi d2;have hx:x∈(aD bs)[q]:=by rw [ed];simp
  have Sz:x∈zs:=(hzs x).mpr<|h.mem.mpr<|Cf.mpr ⟨_,d1,hx⟩;have ne:=sj bs q
  rcases Dz (aU bs) (idx bs q) with k | k
  ·exact .inl<|lk.mpr ⟨x,Sz,q,_,hd,hx,by rw [Ep<|by omega],by rw [RK<|by omega],rfl⟩
  ·exact .inr<|lk.mpr ⟨x,Sz,q,_,hd,hx,by rw [Hl k],by rw [RX k],rfl⟩
 have wq:∀{x y:Int} {o:Bool},Nz.has Sum.inl kvs x->Nz.bY (fU cs ss zs) x y o->Nz.has Sum.inl kvs y:=λ{x y o} hx ht=>by
  rcases I.cls x hx with k | k | k
  ·cases k
  ·cases k
  ·exact k y o ht
 have Kt:∀{x y:Int} {o:Bool},Nz.bY (fU cs ss zs) x y o->Nz.bY (fU cs ss zs) y x o:=λk=>k.elim .inr .inl;have SA:=(Ab.mp fV).1;have wu:Nz.has Sum.inl kvs ((aU bs:Nat):Int):=by
  by_cases c:sz bs 0=2
  ·have i0:idx bs 0=0:=BL ⟨c,rfl⟩;have t:=wo 0 (by omega);rw [i0] at t;exact wq I.fst<|Kt t
  ·have:aU bs=0:=BK c;rw [this];exact I.fst
 have reach:∀ i,i < cs.length->Nz.has Sum.inl kvs ((i:Nat):Int):=λi hi=>by
  by_cases c:i=aU bs
  ·rw [c];exact wu
  obtain⟨q,hq,e⟩:∃ q,q < (aD bs).length/\idx bs q=i:=by
   have lt:cs.length<=(aD bs).length+1:=by
    rw [cl,el]
    split <;> omega
   unfold aU at c
   by_cases c2:sz bs 0=2
   ·rw [BL c2] at c
    by_cases i0:i=0
    ·exact⟨0,by omega,by rw [i0];exact BL ⟨c2,rfl⟩⟩
    ·exact⟨i - 1,by omega,by unfold idx;rw [BK λk=>by omega];omega⟩
   ·rw [BK c2] at c;exact⟨i - 1,by omega,by unfold idx;rw [BK λk=>c2 k.1];omega⟩
  rw [<- e];exact wq wu<|wo q hq
 have his:∀ x,x∈is↔∃ i:Nat,x=(i:Int)/\i < cs.length/\(decide (i=idx bs q0) ^^ decide (0=idx bs q0))=true:=λx=>by
  rw [h2]
  constructor
  ·intro hv;obtain⟨b,eb,w⟩:=I.val x _ hv;cases eb;obtain⟨i,e1,e2,e3⟩:=way w;exact⟨i,e1,e2,e3.symm⟩
  ·rintro ⟨i,rfl,hi,hb⟩;obtain⟨v,hv⟩:=reach i hi;obtain⟨b,eb,w⟩:=I.val _ v hv;obtain⟨j,e1,e2,e3⟩:=way w;have:j=i:=by omega
   subst this;rw [hv,eb,e3,hb]
 refine⟨(List.range cs.length).filter λi=>decide (i=idx bs q0) ^^ decide (0=idx bs q0),?_,?_,?_,?_,?_⟩
 ·refine RL (le:=λa b:Int=>a < b) (λa b _ _ h1 h2=>by omega) h1 ?_ ?_
  ·rw [Cw];exact(JL Es Hc).imp λh=>by omega
  ·refine(Fb (Bj.mpr<|h1.imp λh=>Int.ne_of_lt h) ?_).mpr λx=>?_
   ·rw [Bj,Cw];exact(JL Es Hc).imp λh=>by omega
   ·rw [his,Az]
    constructor
    ·rintro ⟨i,e,hi,hb⟩;exact⟨i,Bx.mpr ⟨Bh.mpr hi,hb⟩,e.symm⟩
    ·rintro ⟨i,hi,e⟩;obtain⟨k1,k2⟩:=Bx.mp hi;exact⟨i,e.symm,Bh.mp k1,k2⟩
 ·exact λi hi=>Bh.mp (Bx.mp hi).1
 ·have:=Ci (λi=>decide (i=idx bs q0) ^^ decide (0=idx bs q0))<|List.range cs.length;rw [Cj] at this;exact this
 ·intro z;rw [Kq]
  by_cases j5:z∈(aD bs).flatten
  ·obtain⟨d,hd,dR⟩:=Cf.mp j5;obtain⟨q,hq⟩:=Ay hd;obtain⟨k1,k2,k3⟩:=h.bears C hq dR;have ne:=sj bs q;have n0:=sj bs q0;have es:decide (z∈ss)=decide (q=q0):=by
    rw [Cg,CK,CK,eJ];exact⟨λk=>h.nW hq fV dR k,λe=>by subst e;rw [hq] at fV;cases fV;exact dR⟩
   have off:∀ i,i < cs.length->i≠min (aU bs) (idx bs q)->i≠max (aU bs) (idx bs q)->((decide (i=idx bs q0) ^^ decide (0=idx bs q0)) && decide (z∈cs[i]?.getD []))=false:=λi hi h1 h2=>by
    rw [BR (show ¬ z∈cs[i]?.getD [] from λk=>by rcases (k3 i hi).mp k with e | e <;> omega),Fa]
   rw [Sx (a:=min (aU bs)<|idx bs q) (b:=max (aU bs)<|idx bs q) (by omega) _ (by omega) off,es,<- Ks q];rw [BX ((k3 _<|by omega).mpr<|by omega),BX ((k3 _ (show max (aU bs) (idx bs q) < cs.length by omega)).mpr<|by omega),Fw,Fw];generalize decide (min (aU bs) (idx bs q)=idx bs q0)=u;generalize decide (max (aU bs) (idx bs q)=idx bs q0)=v;generalize decide (0=idx bs q0)=t;cases u <;> cases v <;> cases t <;> rfl
  ·rw [zK _ λi hi=>by rw [BR<|h.iL C j5 i,Fa],BR λk=>j5<|Cf.mpr ⟨b0,Ag fV,(eJ z).mp k⟩]
 ·intro k i hk hi;have cV:((List.range cs.length).filter λi=>decide (i=idx bs q0) ^^ decide (0=idx bs q0)).Pairwise (· < ·):=JL Es Hc;generalize m9:((List.range cs.length).filter λi=>decide (i=idx bs q0) ^^ decide (0=idx bs q0))=ns at hi cV;have mm:∀ j∈ns,j < cs.length/\(decide (j=idx bs q0) ^^ decide (0=idx bs q0))=true:=λj hj=>by
   rw [<- m9] at hj;exact⟨Bh.mp (Bx.mp hj).1,(Bx.mp hj).2⟩
  obtain⟨IM,ek⟩:=Ab.mp hi;have lt:=Bc.mp cV 0 k (by omega) IM hk;rw [ek] at lt;obtain⟨i1,i2⟩:=mm i<|Ag hi;obtain⟨_,j2⟩:=mm _<|Bv (show 0 < ns.length by omega)
  by_cases c:0=idx bs q0
  ·have c2:sz bs 0=2:=by
    unfold idx at c
    by_cases d:sz bs 0=2/\q0=0
    ·exact d.1
    ·rw [BK d] at c;omega
   rw [BX c] at j2;have j1:ns[0]≠0:=λe=>by rw [e,BX c] at j2;cases j2
   have hc:=Aa i1;obtain⟨e,he⟩:∃ e,(fG bs)[i]?=some e:=⟨_,Aa (show i < (fG bs).length by omega)⟩;rw [hc];show cs[i].length<=2;have cm:bs.length≠0:=λe=>by rw [v5<|by omega] at c2;cases c2
   have ee:=wg bs;rw [BK cm,BL c2] at ee;have l2:e.length=2:=by
    obtain⟨x,rfl⟩:∃ x,i=x+2:=⟨i - 2,by omega⟩;have zN:=he;rw [ee] at zN;have zN:(aD<|bs.drop 1)[x]?=some e:=zN;exact(aW.mp<|Ag zN).2
   have:=aG (lY<|C.cV _<|Bv i1) λz hz=>(C.at' h hc he z).mp hz;omega
  ·rw [BR c,Ed] at i2 j2;have:=CG i2;have:=CG j2;omega
theorem aJ.uniq{cs ds:List (List Str)}(C:aJ n cs)(D:aJ n ds):cs=ds:=by
 refine Cv λi=>?_;have l:=C.len;have l':=D.len
 by_cases c:i < cs.length
 ·have h1:=Aa c;have h2:=Aa (show i < ds.length by omega);have h3:=Aa (show i < (c7 n (ends n) []).length by omega);rw [h1,h2,pM (C.cV _<|Bv c) (D.cV _<|Bv _) λz=>(C.mem i _ _ h1 h3 z).trans (D.mem i _ _ h2 h3 z).symm]
 ·rw [Aq (by omega),Aq<|by omega]
end
end Nt
namespace Nt
open PySem L2
section
variable{n:Net}{bs:List (List Str)}
theorem zO{r:Nat}(hr:r < n.length):row n r=n[r].2:=by unfold row;rw [Aa hr];rfl
theorem af.wv(h:af n bs):jN n:=by
 intro P ⟨r0,IG,p0⟩ st;have hn:=h.len;have nb:∀ j (hj:j+1 < n.length),(P (n[j]'(by omega)).1↔P n[j+1].1):=λj hj=>by
  have kl:j < bs.length:=by omega
  have hb:=Aa kl;have s1:=h.hZ kl;rw [fT hb] at s1;have hz:=Aa (l:=bs[j]) (i:=0) (by omega);have l:=Ag (show(Nt.row n j)[sl bs j+0]?=some _ from h.tR hb hz);have r:=Ag (show(Nt.row n<|j+1)[0]?=some _ from h.tL hb hz);rw [zO<|by omega] at l;rw [zO hj] at r;exact⟨st _ (Bv _) _ (Bv _) _ l r,st _ (Bv _) _ (Bv _) _ r l⟩
 have all:∀ j (hj:j < n.length),(P (n[0]'(by omega)).1↔P n[j].1):=λj=>by
  induction j with
  | zero=>exact λ_=>Iff.rfl
  | succ j ih=>exact λhj=>(ih<|by omega).trans<|nb j hj
 obtain⟨i,hi,e⟩:=Do IG;intro r hr;obtain⟨j,hj,rfl⟩:=Do hr;subst e;exact(all j hj).mp<|(all i hi).mpr p0
theorem af.SD(h:af n bs){k:Nat}{b ss:List Str}(hb:bs[k]?=some b)(eJ:∀ z,z∈ss↔z∈b)(j:Nat):((bs.getD j []).filter λz=>ss.contains z).length=if j=k then b.length else 0:=by
 by_cases c:j=k
 ·subst c;rw [BL rfl,gD hb]
  congr 1
  exact List.filter_eq_self.mpr λz hz=>Dh.mpr<|(eJ z).mpr hz
 ·rw [BK c,As];refine Bq.mpr<|Ex.mpr λz hz k'=>c ?_;cases hd:bs[j]? with
  | none=>rw [hd] at hz;cases hz
  | some d=>
   rw [hd] at hz;exact h.hV hd hb hz<|(eJ z).mp<|Dh.mp k'
theorem af.wx(h:af n bs){k:Nat}{b ss:List Str}(hb:bs[k]?=some b)(eJ:∀ z,z∈ss↔z∈b){j:Nat}(hj:j<=bs.length):((Nt.row n j).filter λz=>ss.contains z).length=(if j=k+1 then b.length else 0)+(if j=k then b.length else 0):=by
 rw [h.row hj,Cn,Ad,h.SD hb eJ j]
 congr 1
 by_cases c:j=0
 ·rw [BL c,BK<|by omega];rfl
 ·rw [BK c,h.SD hb eJ<|j - 1]
  by_cases d:j=k+1
  ·rw [BL (by omega),BL d]
  ·rw [BK (by omega),BK d]
theorem af.even(h:af n bs){k:Nat}{b ss:List Str}(hb:bs[k]?=some b)(eJ:∀ z,z∈ss↔z∈b):pI n ss=true↔b.length=2:=by
 have hk:=(Ab.mp hb).1;have hn:=h.len;have s1:=h.mD b<|Ag hb;unfold pI;rw [Dk]
 constructor
 ·intro e;have:=e (n[k]'(by omega))<|Bv _;rw [<- zO (show k < n.length by omega),h.wx hb eJ (show k<=bs.length by omega),BK (show ¬ k=k+1 by omega),BL rfl,Dy] at this
  rcases s1 with s | s
  ·rw [s] at this;simp at this
  ·exact s
 ·intro s r hr;obtain⟨j,hj,rfl⟩:=Do hr;rw [<- zO hj,h.wx hb eJ (show j<=bs.length by omega),s]
  by_cases c:j=k+1
  ·rw [BL c,BK<|by omega];rfl
  ·rw [BK c]
   by_cases d:j=k
   ·rw [BL d];rfl
   ·rw [BK d];rfl
theorem af.side(h:af n bs)(hN:(n.map (·.1)).Nodup){k:Nat}{b ss:List Str}(hb:bs[k]?=some b)(eJ:∀ z,z∈ss↔z∈b):∃ sd,cg n ss sd:=by
 have hk:=(Ab.mp hb).1;have hn:=h.len;obtain⟨sd,so,sm⟩:=IC ((n.drop<|k+1).map (·.1));have inj:∀{i j:Nat},i < n.length->j < n.length->a9 n i=a9 n j->i=j:=λ{i j} hi hj e=>by
  rw [kI hi,kI hj] at e;refine(Fj (l:=n.map (·.1)) (by rw [Ac];exact hi) hN).mp ?_;rw [Ah,Ah,Aa hi,Aa hj];exact CW some e
 have ins:∀{r:Nat},r < n.length->(a9 n r∈sd↔k+1<=r):=λ{r} hr=>by
  rw [sm,Az]
  constructor
  ·rintro ⟨x,hx,e⟩;obtain⟨j,hj⟩:=Ay hx;rw [Gq] at hj;obtain⟨lj,ej⟩:=Ab.mp hj;have:a9 n (k+1+j)=a9 n r:=by rw [kI lj,ej,e]
   have:=inj lj hr this;omega
  ·intro hle;refine⟨n[r],Ag (i:=r - (k+1)) (by rw [Gq,show k+1+(r - (k+1))=r by omega];exact Aa hr),(kI hr).symm⟩
 refine⟨sd,so,λx hx=>?_,?_,λz=>?_⟩
 ·obtain⟨y,hy,e⟩:=Az.mp<|(sm x).mp hx;exact Az.mpr ⟨y,Cb hy,e⟩
 ·have e0:cQ n=a9 n 0:=rfl;rw [e0,ins<|by omega];omega
 ·rw [eJ]
  constructor
  ·intro hz;obtain⟨p,hp⟩:=Ay hz;have lp:=(Ab.mp hp).1;refine⟨(k+1,p),h.tL hb hp,(ins<|by omega).mpr<|Ai _,λhm=>?_⟩;rw [h.oL hb lp] at hm;have:=(ins (r:=k)<|by omega).mp hm;omega
  ·rintro ⟨e,he,hi,ho⟩;have zg:=h.mem.mp<|px he;obtain⟨d,hd,dR⟩:=Cf.mp zg;obtain⟨j,hj⟩:=Ay hd;have lj:=(Ab.mp hj).1;obtain⟨p,hp⟩:=Ay dR;have lp:=(Ab.mp hp).1;have ejk:j=k:=by
    rcases h.only hj hp he with rfl | rfl
    ·rw [h.oR hj lp] at ho;have h1:=(ins (r:=j)<|by omega).mp hi;exact absurd ((ins (r:=j+1)<|by omega).mpr<|by omega) ho
    ·rw [h.oL hj lp] at ho;have h1:=(ins (r:=j+1)<|by omega).mp hi;have h2:¬ k+1<=j:=λc=>ho ((ins (r:=j)<|by omega).mpr c);omega
   subst ejk;rw [hb] at hj;cases hj;exact dR
end
end Nt
namespace L2
open PySem PySem.Spec PyProof.Rows bS
section
variable{X:Cx}{a b e:Expr}{es:List Expr}{σ:St}{H:Hp}{Q:VK}{pos p kp cp:Pos}{j:Nat}
theorem SE:∀{ns:List Int} {us:List Value},aq (ns.map V.int) us->IntsAre us ns
 | [],[],.nil=> .nil
 | n :: ns,u :: us,.cons r t=>by
  obtain⟨tk,rfl⟩:=(show ∃ t,u=Value.int n t from r);exact .cons _ _<|SE t
theorem SF{ns:List Int}{us:List Value}(h:IntsAre us ns):aq (ns.map V.int) us:=by
 induction h with
 | nil=>exact .nil
 | cons _ _ _ i=>exact .cons ⟨_,rfl⟩ i
theorem k2z:fN X (.builtin "isinstance") (λxs H Q=>∃ ea C oe tp zP vs b,xs=[.ref ea,.ref tp]/\H tp=some (.tup zP)/\(∀ us,aq zP us->us=vs)/\H ea=some (XO oe)/\zx oe (.ref C)/\mC X.K C=true/\PySem.W.kitAny X.K (.ref C) vs=some b/\Q (.bl b) H):=by
 intro pins s σ H xs us Q I r h;obtain⟨ea,C,oe,tp,zP,vs,b,rfl,JS,hv,hH,ix,hl,e,q⟩:=h;obtain⟨u,w',rfl,ru,iP⟩:=vals2 r;cases (show u=Value.ref ea from ru);cases (show w'=Value.ref tp from iP);obtain⟨its,r2,pl,_⟩:=I.tuple<|bt.of JS;obtain rfl:=hv its r2;obtain⟨o,ho,hc,n,hd⟩:=pl;obtain⟨oc,od,oda,jx⟩:=o;have hc:oc=_:=hc;have hd:oda=_:=hd;subst hc hd;have he:s.heap.get? ea=some oe:=(show ay X.prog X.w H s.heap ea (XO oe) from I.aC ea _ hH).1;exact PySem.W.kia_tup (RE hl) I.jw ⟨oe,RF he ix⟩ ho e (λz=>nomatch z) λtk=>⟨.bl b,H,I.tok tk,rfl,q⟩
end
section
variable{X:Cx}
theorem j42:fN X (.builtin "sorted") (λxs H Q=>∃ p ns,xs=[.ref p]/\ai X.K H p (ns.map V.int)/\ns.length < 64/\∀ l ss,H l=none->List.Perm ss ns->ss.Pairwise (·<=·)->Q (.ref l) (upd H l<|.lst<|ss.map V.int)):=by
 intro pins s σ H xs us Q I r h;obtain⟨p,ns,rfl,hp,hl,q⟩:=h;obtain⟨u,rfl,ru⟩:=vals1 r;cases (show u=Value.ref p from ru);obtain⟨its,rv,pl,hz⟩:=I.list hp;have e1:=rv.length;rw [Ac] at e1;refine PyProof.Rows.sorted_ints pl.isList (SE rv) (by omega) λout ss hS fz iD=>?_;obtain⟨e,he⟩:=sortedAll_at s.heap its out;have hlen:ss.length<=sizeLine:=by rw [fz.length_eq,FZ];omega
 refine⟨.ref _,_,I.dL (s':={s with heap:=sortedAll s.heap its out}) (λb u hb=>QG hb) rfl rfl (Ez _) (show ay X.prog X.w _ _ _ (.lst<|ss.map V.int) from⟨by rw [Ac];exact hlen,out.toList,e,SF hS,he⟩),rfl,q _ ss (I.aC.fresh<|Ez _) fz iD⟩
theorem q2v{l:List Stmt}{D:Ends}{σ:St}{H:Hp}(h:Run X.lq l D σ H):Run X l D σ H:=⟨λpins s I=>(nj (X:=X.lq)).lq pins s σ H D I h⟩
end
end L2
namespace L2
open PySem PySem.Spec PyProof.Rows
section
variable{X:Cx}{σ:St}{H:Hp}{D:Ends}{body rest:List Stmt}{a b:Expr}
end
end L2
namespace bR
open PySem SetTable
section
variable{t:SetTable}{es:Array (Int×Value)}{Z:List Ze}
end
section
variable{prog:Program}{w:World}{K:Type} [DecidableEq K]
variable{A:Around}{E:Value->Shared->Prop}{s:Shared}{a b:Addr}{knd:HeapKind prog w K}{k:K}{Y:List (Nat×K×Addr)}
end
section
variable{prog:Program}{w:World}{K:Type} [DecidableEq K] {knd:KeyKind prog w K}
end
end bR
namespace L2
open PySem PySem.Spec PyProof.Rows bR Classical
section
variable{prog:Program}{w:World}{A:Around}{E:Value->Shared->Prop}{s:Shared}{a b:Addr}{Y:List Yt}{k:List Key}
end
section
variable{X:Cx}{σ:St}{H:Hp}{Q:VK}{pins:List (Addr×Obj)}{s:Shared}{a b:Addr}{Y:List Yt}
end
end L2
namespace L2
open PySem PySem.Spec PyProof.Rows
section
variable{X:Cx}{σ:St}{H:Hp}{Q:VK}
end
section
variable{X:Cx}{elt tg:Expr}{ifs:List Expr}{scope:Scope}{σ:St}{H:Hp}{N':List Str}{A a:Addr}{xs:List V}{after:Hp->Prop}
theorem k25(Pv:Nat->St->Hp->Prop)(h0:Pv 0 σ H)(hl:∀ i σ' H',i<=xs.length->Pv i σ' H'->ai X.K H' a xs)
  (hs : ∀ (i : Nat) x T σ' H', xs[i]? = some x → Pv i σ' H' → H' T = none → tX X N' scope tg (.ref T) σ' (upd H' T<|.tup [.int (i : Int), x]) λσ2 H3 => tY X N' scope ifs σ2 H3 λb H4 =>
   if b=true then tW X N' scope elt σ2 H4 λv H5=>∃ ys,H5 A=some (.lst ys)/\ys.length < sizeLine/\Pv (i+1) σ2 (upd H5 A<|.lst<|ys++[v]) else Pv (i+1) σ2 H4)
  (hd:∀ σ' H',Pv xs.length σ' H'->after H'):kD X N' scope tg ifs elt (Jn X.K a) A after σ H:=by
 refine⟨λi m σ' H'=>m=xs.length - i/\i<=xs.length/\Pv i σ' H',⟨_,rfl,Bn _,h0⟩,?_⟩;rintro i m σ' H' ⟨rfl,hi,p⟩;have q:=hl i σ' H' hi p
 by_cases aM:i < xs.length
 ·refine .inr ⟨⟨xs,xs[i],q,by simp [aM]⟩,Pv<|i+1,λσ' H' p'=>⟨xs.length - (i+1),by omega,rfl,aM,p'⟩,λv H2 y=>?_⟩;obtain⟨T,x,hT,rfl,rfl,hx⟩:=y;exact hs i x T σ' _ (hx xs q) p hT
 ·have e:i=xs.length:=by omega
  subst e;exact .inl ⟨⟨xs,q,Ai _⟩,hd σ' H' p⟩
end
end L2
namespace N4
open PySem L2 Nt bS bR
open PyProof.Rows (sortedS)
open Classical
noncomputable abbrev j9(n:Net):List (List Nt.End):=c7 n (ends n) []
def bB(H:Hp)(L:Addr)(us:List Addr)(cs:List<|List Str):Prop:=H L=some (.lst<|us.map V.ref)/\us.length=cs.length/\∀(i:Nat) u c,us[i]?=some u->cs[i]?=some c->H u=some (Ls c)
theorem bB.same{H H':Hp}{L:Addr}{us:List Addr}{cs:List (List Str)}(h:bB H L us cs)(s:ah H H'):bB H' L us cs:=⟨s _ _ h.1,h.2.1,λi u c a b=>s _ _<|h.2.2 i u c a b⟩
def wz:Sp:=λvs H Q _=>∃(R:Addr) (as:List<|Addr×Addr) (n:Net),vs=[.ref R]/\aw H R as n/\(n.map (·.1)).Nodup/\bN n/\n.length<=60/\(av n).length<=80 /\
 ∀(L:Addr) (us:List Addr) (cs:List<|List Str) (H':Hp),ah H H'->H L=none->bB H' L us cs->aJ n cs->Q (.ref L) H'
noncomputable def Ku:Sp:=λvs H Q _=>∃(R p:Addr) (as:List<|Addr×Addr) (n:Net) (ss:List Str) (bs:List<|List Str) (q0:Nat) (d0:List Str),vs=[.ref R,.ref p]/\aw H R as n/\(n.map (·.1)).Nodup/\af n bs/\n.length<=60/\(av n).length<=80/\H p=some (Ls ss)/\aR ss/\(aD bs)[q0]?=some d0/\(∀ z,z∈ss↔z∈d0) /\
 ∀(L:Addr) (ns:List Nat) (cs:List<|List Str) (H':Hp),ah H H'->H L=none->H' L=some (Lz<|ns.map λi:Nat=>(i:Int))->aJ n cs->j8 cs ss ns->Q (.ref L) H'
theorem mG:∀ x y:Int,(Sum.inl x:Key)=Sum.inl y->x=y:=λ_ _ h=>Sum.inl.inj h
structure mH(n:Net)(H:Hp)(D:Addr)(us:List Addr)(cs:List<|List Str)(i:Nat):Prop where
 lst:H D=some (.lst<|us.map V.ref)
 lu:us.length=i
 lc:cs.length=i
 at':∀(j:Nat) u c,us[j]?=some u->cs[j]?=some c->H u=some (Ls c)/\u≠D
 mem:∀(j:Nat) c w,cs[j]?=some c->(j9 n)[j]?=some w->∀ z,z∈c↔(w.map<|bf n).count z=1
 cV:∀ c∈cs,aR c
theorem mH.step{n:Net}{H H2:Hp}{D k:Addr}{us:List Addr}{cs:List (List Str)}{i:Nat}{ks:List Str}{es:List Nt.End}(I:mH n H D us cs i)(s2:ah H H2)(nk:H k=none)(e2:H2 k=some (Ls ks))(so:aR ks)(hw:(j9 n)[i]?=some es)(m2:∀ z,z∈ks↔(es.map<|bf n).count z=1):mH n (upd H2 D<|.lst<|us.map V.ref++[.ref k]) D (us++[k]) (cs++[ks]) (i+1):=by
 have lu:=I.lu;have lc:=I.lc;have wA:k≠D:=λe=>by rw [e,I.lst] at nk;cases nk
 have zero:∀{α:Type} {l:List α} {a b:α} {j:Nat},¬ j < l.length->(l++[a])[j]?=some b->j=l.length/\a=b:=λ{α l a b j} h e=>by
  rw [Am<|by omega] at e;have hj:j - l.length=0:=by have:=(Ab.mp e).1;simp at this;omega
  rw [hj] at e;exact⟨by omega,by cases e;rfl⟩
 refine⟨by rw [az,Ak];rfl,by rw [Ad,lu];rfl,by rw [Ad,lc];rfl,λj u c h1 h2=>?_,λj c w h1 h2=>?_,λc hc=>?_⟩
 ·by_cases hj:j < us.length
  ·rw [Aj hj] at h1;rw [Aj<|by omega] at h2;obtain⟨q1,q2⟩:=I.at' j u c h1 h2;exact⟨by rw [ax q2];exact s2 _ _ q1,q2⟩
  ·obtain⟨_,rfl⟩:=zero hj h1;obtain⟨_,rfl⟩:=zero (by omega) h2;exact⟨by rw [ax wA];exact e2,wA⟩
 ·by_cases hj:j < cs.length
  ·rw [Aj hj] at h1;exact I.mem j c w h1 h2
  ·obtain⟨ej,rfl⟩:=zero hj h1;rw [ej,lc,hw] at h2;cases h2;exact m2
 ·rcases Ao.mp hc with h | h
  ·exact I.cV c h
  ·rw [Ae.mp h];exact so
theorem mH.start{n:Net}{H:Hp}{D:Addr}(h:H D=some (.lst [])):mH n H D [] [] 0:=⟨h,rfl,rfl,λj u c h=>by simp at h,λj c w h=>by simp at h,λc h=>by cases h⟩
theorem mH.whole{n:Net}{H:Hp}{D:Addr}{us:List Addr}{cs:List (List Str)}(I:mH n H D us cs (j9 n).length):bB H D us cs/\aJ n cs:=⟨⟨I.lst,I.lu.trans I.lc.symm,λi u c a b=>(I.at' i u c a b).1⟩,I.lc,I.mem,I.cV⟩
theorem SG{n:Net}{es:List Nt.End}(h:∀ e∈es,e∈ends n):∀ z∈es.map (bf n),z∈av n:=λz hz=>by
 obtain⟨e,he,rfl⟩:=Az.mp hz;obtain⟨y,hy⟩:=aF.mp<|h e he;rw [pZ hy];exact px hy
section
variable{P:Program}{w:World}{K:PySem.W.Frag}{mg:Str->Option Value}{base:Heap}
abbrev SH:List Str:=["rows"]
abbrev wB:List Str:=["rows","walker"]
theorem wC:aj SH ["rows"] (aP yB):=cU
theorem q3o:wB.Nodup:=by decide +kernel
theorem k8c{f:Addr}{fd:FuncData}(F:bw K "cores_of" "cores_of" yB f fd)(T:Txt mg)(GW:aO P w K mg base 4 "walkers_of" ["rows"] y4)(GC:aO P w K mg base 4 "core_of" ["rows","walker"] J'):aB P w K mg base bE 5 f fd ["rows"] wz:=by
 refine F.gc wC λb0 H vs Q E hr h=>?_;obtain⟨R,as,n,rfl,hR,hN,hT,hn,eZ,q⟩:=h;have nd:=wC.nd;have yY:=yE n;refine cy (jf (aP yB) SH wB 1 (fM a8)<|bV GW hr<|ao<|ae 0<|aE ⟨R,as,n,rfl,hR,hN,hT,by omega,by omega,λW ls H1 s1 n1 hW fW=>⟨W,rfl,⟨_,ai.of hW.lst⟩,λD hD=>?_⟩⟩);have wl:(j9 n).length<=(ends n).length:=zF n (ends n) [];have Kv:=zE hT (ends n) [] λe he=>he;have SK:ls.length=(j9 n).length:=hW.len;refine jM (xs:=ls.map V.ref) (λi σ' H'=>(∃ v,σ'=[some<|.ref R]++[v])/\ah H1 H'/\∃ us cs,mH n H' D us cs i) ⟨⟨none,rfl⟩,aQ hD _,[],[],mH.start az⟩ ?_ ?_ ?_
 ·rintro i σ' H' _ ⟨_,sm,_⟩;exact ai.of<|sm _ _ hW.lst
 ·rintro i x σ' H' hx ⟨⟨v,rfl⟩,sm,us,cs,I⟩;rw [Ah,An] at hx;obtain⟨l,hl,rfl⟩:=hx;have nA:i < (j9 n).length:=by have:=(Ab.mp hl).1;rw [<- SK];exact this
  have zQ:=Aa nA;obtain⟨ts,el,hE⟩:=(hW.same sm).at' i l _ hl zQ;have wk:=Kv _<|Ag zQ;generalize (j9 n)[i]=es at zQ hE wk;have few:=wk.few;have lu:=I.lu;intro cl C s₀ H₀ ex;refine aZ 1 q3o ?_;intro cl C s₀ H₀ ex;refine gR<|cO ?_;intro cl C s₀ H₀ ex;refine bV GC hr<|ao<|ae 0<|ao<|ae 1<|aE ⟨R,l,as,n,ts,es,rfl,hR.same<|s1.trans sm,hN,by omega,by omega,el,hE,wk.ends,by omega,λl hn hm=>?_,λk ks H2 s2 n2 e2 zR m2=>?_⟩
  ·have:=vw hT hn λz hz=>SG wk.ends z<|hm z hz;omega
  exact⟨_,s2 _ _ I.lst,by rw [Ac];exact cj (by omega),⟨_,rfl⟩,dW (sm.trans s2) hD,_,_,I.step s2 n2 e2 zR zQ m2⟩
 ·rintro σ' H' ⟨_,sm,us,cs,I⟩;rw [Ac,SK] at I;exact q D us cs H' (s1.trans sm) (s1.free hD) I.whole.1 I.whole.2
abbrev Kw:List Str:=["rows","some","cores","links","tie","bearers","chosen"]
abbrev wD:List Str:=["rows","some","cores","links","tie","bearers","chosen","number","core"]
abbrev wF:List Str:=["rows","some","cores","links","tie","bearers","chosen","number"]
theorem wG:aj Kw ["rows","some"] (aP uC):=cU
theorem SL:wD.Nodup:=by decide +kernel
theorem q5j:wF.Nodup:=by decide +kernel
noncomputable def qm(cs:List<|List Str)(z:Str)(i:Nat):List Int:=((List.range i).filter λk=>decide (z∈cs[k]?.getD [])).map λk:Nat=>(k:Int)
theorem k2r(cs:List<|List Str)(z:Str)(i:Nat):qm cs z (i+1)=qm cs z i++(if z∈cs[i]?.getD [] then [(i:Int)] else []):=by
 unfold qm;rw [Dj,Cn,Ak,Cq]
 by_cases h:z∈cs[i]?.getD []
 ·rw [BL<|BX h,BL h];rfl
 ·rw [BK λk=>h<|CG k,BK h];rfl
theorem k3z(cs:List<|List Str)(z:Str)(i:Nat):(qm cs z i).length<=i:=by
 unfold qm;rw [Ac];have:=Ci (λk=>decide (z∈cs[k]?.getD []))<|List.range i;rw [Cj] at this;exact this
theorem jX.keep{α:Type}{φ:α->Key}{H H':Hp}{us:List Addr}{ls:List (Nz.Bl α)}(h:jX φ H us ls)(k:∀ t xs,H t=some (.tup xs)->H' t=some (.tup xs)):jX φ H' us ls:=⟨h.1,λj u x h1 h2=>k _ _<|h.2 j u x h1 h2⟩
theorem jX.snoc{α:Type}{φ:α->Key}{H:Hp}{us:List Addr}{ls:List (Nz.Bl α)}{u:Addr}{x:Nz.Bl α}(h:jX φ H us ls)(hu:H u=some (Rc φ x)):jX φ H (us++[u]) (ls++[x]):=by
 refine⟨by rw [Ad,Ad,h.1];rfl,λj v y h1 h2=>?_⟩;have hl:=h.1
 by_cases hj:j < us.length
 ·rw [Aj hj] at h1;rw [Aj<|by omega] at h2;exact h.2 j v y h1 h2
 ·rw [Am<|by omega] at h1 h2;have eG:j - us.length=0:=by
   have:=(Ab.mp h1).1;simp at this;omega
  rw [eG] at h1;rw [<- hl,eG] at h2;cases h1;cases h2;exact hu
theorem SR{H:Hp}{l:Addr}{zs:List Int}{y:Int}:upd H l (.lst<|zs.map V.int++[V.int y])=upd H l (Lz<|zs++[y]):=by
 show _=upd H l (.lst<|(zs++[y]).map V.int);rw [Ak];rfl
theorem q0q{f:Addr}{fd:FuncData}(F:bw K "numbers_by" "numbers_by" uC f fd)(T:Txt mg)(GD:aO P w K mg base 5 "is_double" ["rows","some"] zv)(GC:aO P w K mg base 5 "cores_of" ["rows"] wz)(GT:aO P w K mg base 5 "ties_of" ["rows"] qg)(GS:aO P w K mg base 5 "spread" ["first","links"] Kd) :
  aB P w K mg base bE 6 f fd ["rows","some"] Ku:=by
 refine F.gc wG λb0 H vs Q E hr h=>?_;obtain⟨R,p,as,n,ss,bs,q0,d0,rfl,hR,hN,bx,hn,eZ,hp,eJ,ka,mz,qQ⟩:=h;have nd:=wG.nd;have eC:=hr.u1;have hT:=bx.twice;have few:Few n:=λzs h1 h2=>by have:=vw hT h1 h2;omega
 have h0:0 < n.length:=by have:=bx.len;omega
 obtain⟨m1,m2⟩:=aW.mp<|Ag ka;obtain⟨kk,xS⟩:=Ay m1;have hD:rX n ss:=⟨(bx.even xS mz).mpr m2,bx.side hN xS mz⟩;refine iz<|W6<|xW<|bV GD hr<|ao<|ae 0<|ao<|ae 1<|aE ⟨R,p,as,n,ss,rfl,hR,hT,bx.wv,h0,hn,eZ,hp,eJ,λH1 s1=>⟨_,rfl,?_⟩⟩;rw [BX hD];refine cN<|bp ?_;refine run_set 2 nd<|bV GC hr<|ao<|ae 0<|aE ⟨R,as,n,rfl,hR.same s1,hN,hT,hn,eZ,λC cu cs H2 s2 n2 hC cJ=>?_⟩;refine run_set 3 nd<|gO<|aE ⟨Z0,λM hM=>?_⟩;have sk:=s1.trans s2;have sM:=aQ hM<|.lst [];have mw:(upd H2 M<|.lst []) M=some (.lst []):=az;generalize upd H2 M (.lst [])=H3 at sM mw;have s13:=sk.trans sM;refine jE (bV GT hr<|ao<|ae 0<|aE ⟨R,as,n,rfl,hR.same s13,by omega,by omega,few,λtl zs H4 s4 n4 e4 znd zso qo=>⟨tl,rfl,⟨_,ai.of e4⟩,?_⟩⟩);have x0c:=vw hT znd λz hz=>(qo z).mp hz;have wl:(j9 n).length<=(ends n).length:=zF n (ends n) [];have yY:=yE n;have lcs:cs.length=(j9 n).length:=cJ.len;have Q8:tl≠M:=λe=>by rw [e,mw] at n4;cases n4
 have sM4:=sM.trans s4;refine jF (xs:=zs.map V.str) (λj σ H'=>∃(us:List Addr) (u4 u5:Option V),ah H2 H'/\H' tl=some (Ls zs)/\H' M=some (.lst<|us.map V.ref)/\AtZ H' us (fU cs ss<|zs.take j)/\σ=[some<|.ref R,some<|.ref p,some<|.ref C,some<|.ref M,u4,u5,none]) ⟨[],_,_,sM4,e4,s4 _ _ mw,⟨rfl,λj u x h=>by simp at h⟩,rfl⟩ ?_ ?_ ?_
 ·rintro j σ H' _ ⟨us,u4,u5,sm,et,_⟩;exact ai.of et
 ·rintro j x σ H5 hx ⟨us,u4,u5,sm,et,eM,dj,rfl⟩;rw [Ah,An] at hx;obtain⟨z,hz,rfl⟩:=hx;have zg:=(qo z).mp<|Ag hz;have fS:zs.take (j+1)=zs.take j++[z]:=by rw [Bz,hz];rfl
  have zS:=hC.same sm;have lC:=zS.2.1;have zh:=Ko cs ss<|zs.take j;rw [Bm] at zh;have eB:=dj.1;refine aZ 4 nd ?_;refine x9 5 (aP uC) Kw wD 2 nd (q06 rfl T.enum iT)<|ao<|ae 2<|aE ⟨C,rfl,⟨_,ai.of zS.1⟩,λD wH=>?_⟩;refine k25 (xs:=cu.map V.ref) (λi σ' H'=>(∃ v1 v2,σ'=[some<|.ref R,some<|.ref p,some<|.ref C,some<|.ref M,some<|.str z,u5,none]++[v1,v2])/\ah H5 H'/\H' D=some (Lz<|qm cs z i)) ⟨⟨_,_,rfl⟩,aQ wH _,az⟩ ?_ ?_ ?_
  ·rintro i σ' H' _ ⟨_,sm,_⟩;exact ai.of<|sm _ _ zS.1
  ·rintro i x Tq σ' H6 hx ⟨⟨v1,v2,rfl⟩,nY,dw⟩ hTq;rw [Ah,An] at hx;obtain⟨u,hu,rfl⟩:=hx;have hi:i < cs.length:=by have:=(Ab.mp hu).1;omega
   have fH:=Aa hi;have SU:=zS.2.2 i u _ hu fH;have sq:=aQ hTq<|.tup [.int (i:Int),.ref u];have bl:=k3z cs z i;rw [k2r,fH,Option.getD_some];generalize cs[i]=ci at SU;intro cl C' s₀ H₀ ex;refine jj rfl (bt.of az) (aZ 7 SL<|aZ 8 SL ?_);intro cl C' s₀ H₀ ex;refine nr<|d7 qT<|ae 4<|ae 8 ⟨u,_,rfl,.inl<|ai.of<|sq _ _<|nY _ _ SU,rfl,rB _,_,rfl,?_⟩;have fF:∀(x y:Bool),(if false=true then x else y)=y:=λ_ _=>rfl;rw [fF,rA,vD]
   by_cases hb:z∈ci
   ·rw [BX hb,BL hb];refine cO ?_;intro cl C' s₀ H₀ ex;refine ae 7 ⟨_,sq _ _ dw,by rw [Ac];exact cj (by omega),⟨_,_,rfl⟩,dW (nY.trans sq) wH,?_⟩;rw [SR];exact az
   ·rw [BR hb,BK hb,Be];exact cN ⟨⟨_,_,rfl⟩,nY.trans sq,sq _ _ dw⟩
  rintro σ' H6 ⟨_,nY,dw⟩;rw [Ac,lC] at dw;have ebz:qm cs z cs.length=(j6 cs z).map λk:Nat=>(k:Int):=rfl;rw [ebz] at dw;have SV:=nY _ _ et;have zT:=nY _ _ eM;have wI:=dj.same nY;have Kx:=sm.trans nY;have elk:fU cs ss (zs.take<|j+1)=fU cs ss (zs.take j)++c8 cs ss z:=by rw [fS,k7l]
  rw [elk];refine iz<|NA<|ae 5 (v:= .ref D) ⟨!(j6 cs z).isEmpty,Or.inl ⟨_,ai.of dw,by cases j6 cs z <;> rfl⟩,?_⟩
  rcases bx.wn cJ z with gK | ⟨a,b,gK⟩
  ·rw [gK];refine cN<|bp<|bp ⟨us,_,_,Kx,SV,zT,?_,rfl⟩;unfold c8;rw [gK,Be];exact wI
  ·rw [gK] at dw ⊢;have el1:c8 cs ss z=[((a:Int),(b:Int),decide (z∈ss))]:=by unfold c8;rw [gK]
   rw [el1];have hp6:=Kx _ _<|sk _ _ hp;refine cO<|jD<|ro<|ae 3 ⟨M,rfl,⟨_,zT⟩,iy<|ao<|fu lF<|ae 5<|aK ⟨D,_,_,.int (a:Int),rfl,rfl,ai.of dw,rfl,ao<|fu lF<|ae 5<|aK ⟨D,_,_,.int (b:Int),rfl,rfl,ai.of dw,rfl,?_⟩⟩⟩;refine ao<|jC qT<|ae 4<|ae 1 ⟨p,_,rfl,.inl<|ai.of hp6,rfl,rB _,aE ⟨Z3,λt gY=>?_⟩⟩;have fF:∀(x y:Bool),(if false=true then x else y)=y:=λ_ _=>rfl;rw [fF,rA,vD];have sT:=aQ gY<|.tup [.int (a:Int),.int (b:Int),.bl<|decide (z∈ss)];have e3:(upd H6 t<|.tup [.int (a:Int),.int (b:Int),.bl<|decide (z∈ss)]) t=some (T3z ((a:Int),(b:Int),decide (z∈ss))):=az;refine⟨_,sT _ _ zT,by rw [Ac];exact cj (by omega),bp<|bp ⟨us++[t],_,_,dW (Kx.trans sT) hM,?_,?_,((wI.same sT).snoc e3).keep λt xs h=>?_,rfl⟩⟩
   ·rw [ax Q8];exact sT _ _ SV
   ·rw [az,Ak];rfl
   ·rw [ax<|cv h (sT _ _ zT) λz=>nomatch z];exact h
 ·rintro σ H5 ⟨us,u4,u5,sm,et,eM,dj,rfl⟩;rw [Ac,Br] at dj;have zh:=Ko cs ss zs;refine run_set 6 nd (bV GS hr<|ao<|aK<|ao<|ae 3<|aE ⟨(0:Int),M,us,_,rfl,eM,dj,by omega,λd kvs H6 s6 n6 e6 I=>?_⟩);have s26:=sm.trans s6;have Ky:=sk.trans s26;have vK:∀ k∈kvs.map (·.1),∃ x,k=Sum.inl x:=λk hk=>(I.txt k hk).imp λx h=>h.1;have jn:H d=none:=(sk.trans sm).free n6;have pP:=I.len;refine cy<|dh j42 T.sorted CZ<|ao<|jf (aP uC) Kw wF 1 (O1 a8)<|ae 6 ⟨d,kvs,rfl,e6,λob E2 my=>?_⟩;have nE:E2≠d:=λe=>by rw [e,az] at my;cases my
  have Je:H6 E2=none:=by rw [ax nE] at my;exact my
  refine O2 (λi σ' H'=>(∃ v,σ'=[some<|.ref R,some<|.ref p,some<|.ref C,some<|.ref M,u4,u5,some<|.ref d]++[v])/\H'=upd (upd H6 d<|.bI ob<|.dK kvs) E2 (Lz<|Nz.aL Sum.inl<|kvs.take i)) ⟨⟨_,rfl⟩,rfl⟩ ?_ ?_ ?_
  ·rintro i σ' H' _ ⟨_,rfl⟩;rw [ax<|CJ nE,az]
  ·rintro i pr σ' H' vL ⟨⟨v,rfl⟩,rfl⟩;have hm:pr∈kvs:=Ag vL;have fS:kvs.take (i+1)=kvs.take i++[pr]:=by rw [Bz,vL];rfl
   obtain⟨k,vv⟩:=pr;obtain⟨z,rfl⟩:=vK k<|Az.mpr ⟨_,hm,rfl⟩;have hv:=(uE I.cC).mp hm;obtain⟨b,rfl,_⟩:=I.val z vv hv;rw [fS,Nz.cG,Nz.hG mG];intro cl C' s₀ H₀ ex;refine aZ 7 q5j ?_;intro cl C' s₀ H₀ ex;have dg:aX (upd (upd H6 d<|.bI ob<|.dK kvs) E2<|Lz<|Nz.aL Sum.inl<|kvs.take i) d (kV<|Sum.inl z) (some<|.bl b):=by
    rw [<- hv];exact .inl ⟨kvs,Sum.inl z,.inr ⟨ob,by rw [ax<|CJ nE,az]⟩,rfl,rfl⟩
   refine nr<|xW<|iE eC<|ae 6<|ae 7 ⟨d,.bl b,rfl,dg,b,rfl,?_⟩;have Jf:=Ck (Nz.bT Sum.inl<|kvs.take i) (show(kvs.take i).length<=kvs.length by rw [Bm];omega)
   by_cases hb:b=true
   ·rw [BL hb];intro cl C' s₀ H₀ ex;refine ae 7 ⟨_,az,by rw [Ac];exact cj (by omega),⟨_,rfl⟩,?_⟩;rw [qN,BL hb];exact SR
   ·rw [BK hb];refine⟨⟨_,rfl⟩,?_⟩;rw [BK hb,Be]
  ·rintro σ' H' ⟨_,rfl⟩;rw [Br];have SW:=Nz.e9 mG kvs I.cC;have zU:=cJ.gB bx;have zV:=qj bs;have lc3:(aD bs).length<=bs.length:=Ci _ _;have lc4:=bx.len;have lc5:=(Ab.mp ka).1;have lc6:cs.length<=n.length:=by rw [zU,zV];split <;> omega
   have lc7:0 < cs.length:=by rw [zU,zV];omega
   have vZ:(Nz.aL (Sum.inl:Int->Key) kvs).length<=cs.length:=by
    have:=aG SW (b:=(List.range cs.length).map λi:Nat=>(i:Int)) λx hx=>by
     obtain⟨b,_,w⟩:=I.val x _<|(I.mem mG x).mp hx;obtain⟨i,e,hi⟩:=k95 lc7 w;exact Az.mpr ⟨i,Bh.mpr hi,e.symm⟩
    rw [Ac,Cj] at this;exact this
   refine aE ⟨E2,_,rfl,ai.of az,by omega,λl sd hl fz qe=>?_⟩;have Jg:l≠E2:=λe=>by rw [e,az] at hl;cases hl
   have Jh:l≠d:=λe=>by rw [e,ax<|CJ nE,az] at hl;cases hl
   have Ji:H6 l=none:=by rw [ax Jg,ax Jh] at hl;exact hl
   have o9:H l=none:=Ky.free Ji;have Jj:H E2=none:=Ky.free Je;have aM:sd.Pairwise (· < ·):=by
    have jg:=fz.nodup_iff.mpr SW;rw [Bj] at jg;exact(qe.and jg).imp λ⟨a,b⟩=>by omega
   obtain⟨ns,rfl,m9⟩:=bx.nums cJ ka mz qo I aM λx=>by rw [fz.mem_iff];exact I.mem mG x
   refine qQ l ns cs _ (λc o' hc=>?_) o9 az cJ m9;rw [ax<|b4 hc o9,ax<|b4 hc Jj,ax<|b4 hc jn];exact Ky _ _ hc
open PyProof.Rows (sortedS)
open Classical
def zW:Sp:=λvs H Q _=>∃(a b:Addr) (xs ys:List Str),vs=[.ref a,.ref b]/\H a=some (Ls xs)/\H b=some (Ls ys)/\xs.length+ys.length < 64 /\
 ∀ l ss H',ah H H'->H l=none->H' l=some (Ls ss)->sortedS ss=true->ss.Nodup->(∀ z,z∈ss↔(if z∈xs then z∉ys else z∈ys))->Q (.ref l) H'
structure ic(cs:List<|List Str)(l:List Nat)(d:List Str):Prop where
 cV:aR d
 mem:∀ z,z∈d↔fc (l.map λi=>decide (z∈cs[i]?.getD []))=true
theorem ic.nil{cs:List (List Str)}:ic cs [] []:=⟨List.Pairwise.nil,λz=>⟨(λh=>by cases h),(λh=>by cases h)⟩⟩
theorem ic.snoc{cs:List (List Str)}{l:List Nat}{ss ms ci:List Str}{i:Nat}(h:ic cs l ss)(hi:cs[i]?=some ci)(so:aR ms)(hm:∀ z,z∈ms↔(if z∈ss then z∉ci else z∈ci)):ic cs (l++[i]) ms:=by
 refine⟨so,λz=>?_⟩;rw [Ak,qk,hm z];show _↔(_ ^^ (decide (z∈cs[i]?.getD []) ^^ false))=true;rw [Ed,hi,Option.getD_some];have h2:=h.mem z
 by_cases k1:z∈ss
 ·rw [BL k1,h2.mp k1]
  by_cases k2:z∈ci <;> simp [k2]
 ·have:fc (l.map λi=>decide (z∈cs[i]?.getD []))=false:=Eb.mpr λe=>k1<|h2.mpr e;rw [BK k1,this]
  by_cases k2:z∈ci <;> simp [k2]
def qp:Sp:=λvs H Q _=>∃(R L:Addr) (as:List<|Addr×Addr) (n:Net) (bs:List<|List Str) (ns:List Nat) (cs:List<|List Str) (ss:List Str),vs=[.ref R,.ref L]/\aw H R as n/\(n.map (·.1)).Nodup/\af n bs/\n.length<=60/\(av n).length<=80/\H L=some (Lz<|ns.map λi:Nat=>(i:Int))/\aJ n cs/\j8 cs ss ns/\aR ss /\
 ∀(D:Addr) (H':Hp),ah H H'->H' D=some (Ls ss)->Q (.ref D) H'
theorem k8v:aj ["one","other"] ["one","other"] (aP FE):=cU
theorem k4x{f:Addr}{fd:FuncData}(F:bw K "summed" "summed" FE f fd)(T:Txt mg):aB P w K mg base bE 1 f fd ["one","other"] zW:=by
 refine F.gc k8v λb0 H vs Q E hr h=>?_;obtain⟨a,b,xs,ys,rfl,ha,hb,hl,q⟩:=h;refine cy (dh (OC rfl) T.sorted CZ<|ao<|aY YG<|xV (OB rfl) T.pE NP<|ao<|ae 0<|aE ⟨a,xs,rfl,ai.of ha,by omega,λc hc=>?_⟩);have h1:=aQ hc<|aT P w c<|made xs;refine xV (OB rfl) T.pE NP (ao<|ae 1<|aE ⟨b,ys,rfl,ai.of<|h1 _ _ hb,by omega,λd hd=>?_⟩);have h2:=aQ hd<|aT P w d<|made ys;have l1:=ER xs;have l2:=ER ys;refine⟨c,d,made xs,made ys,rfl,rfl,h2 _ _ az,az,by omega,by omega,λe zc he hn hm=>?_⟩;have h3:=aQ he<|aT P w e zc;have SY:∀ z,z∈zc↔(if z∈xs then z∉ys else z∈ys):=λz=>by
  rw [hm z];simp only [Ye]
 have hlen:zc.length<=(xs++ys).length:=aG hn λz hz=>by
  have:=(SY z).mp hz;rw [Ao]
  by_cases c:z∈xs
  ·exact .inl c
  ·rw [BK c] at this;exact .inr this
 rw [Ad] at hlen;refine aE ⟨e,zc,rfl,az,by omega,λl ss hl hp hs=>?_⟩;have h4:=aQ hl<|Ls ss;exact q l ss _ (h1.trans<|h2.trans<|h3.trans h4) (h1.free<|h2.free<|h3.free hl) az hs (hp.nodup_iff.mpr hn) λz=>by
  rw [hp.mem_iff];exact SY z
abbrev SZ:List Str:=["rows","numbers","cores","double","number"]
abbrev wJ:List Str:=["rows","numbers","cores","double","?","number"]
theorem wK:aj SZ ["rows","numbers"] (aP yz):=cU
theorem q3d:wJ.Nodup:=by decide +kernel
theorem q33{f:Addr}{fd:FuncData}(F:bw K "double_by" "double_by" yz f fd)(T:Txt mg)(GC:aO P w K mg base 5 "cores_of" ["rows"] wz)(GS:aO P w K mg base 5 "summed" ["one","other"] zW) :
  aB P w K mg base bE 6 f fd ["rows","numbers"] qp:=by
 refine F.gc wK λb0 H vs Q E hr h=>?_;obtain⟨R,L,as,n,bs,l,cs,ss,rfl,hR,hN,bx,hn,eZ,hL,cJ,qt,eJ,qQ⟩:=h;have nd:=wK.nd;have hT:=bx.twice;refine run_set 2 nd (bV GC hr<|ao<|ae 0<|aE ⟨R,as,n,rfl,hR,hN,hT,hn,by omega,λC cu nZ H1 s1 n1 hC Kz=>?_⟩);have e2:=aJ.uniq Kz cJ;subst e2;have zU:=cJ.gB bx;have zV:=qj bs;have lc3:(aD bs).length<=bs.length:=Ci _ _;have lc4:=bx.len;have lc6:nZ.length<=n.length:=by rw [zU,zV];split <;> omega
 have du:=qt.few;have rW:=s1 _ _ hL;have S0:(cu.map V.ref).length=nZ.length:=by rw [Ac,hC.2.1]
 have S5:((l.map λi:Nat=>(i:Int)).map V.int).length=l.length:=by rw [Ac,Ac]
 refine iz<|xW<|dh (WN rfl) T.anyB PyProof.Rows.boot_any<|ao<|jf (aP yz) SZ wJ 1 (fM a8)<|ae 1 ⟨L,rfl,⟨_,ai.of rW⟩,λD hD=>?_⟩;refine jM (xs:=(l.map λi:Nat=>(i:Int)).map V.int) (λi σ' H'=>(∃ v,σ'=[some<|.ref R,some<|.ref L,some<|.ref C,none,none]++[v])/\ah H1 H'/\H' D=some (.lst<|((l.take i).map λ_=>false).map V.bl)) ⟨⟨none,rfl⟩,aQ hD _,az⟩ ?_ ?_ ?_
 ·rintro i σ' H' _ ⟨_,sm,_⟩;exact ai.of<|sm _ _ rW
 ·rintro i x σ' H' hx ⟨⟨v,rfl⟩,sm,eD⟩;rw [Cd,Ah,An] at hx;obtain⟨x,hx,rfl⟩:=hx;have fS:((l.take<|i+1).map λ_=>false).map V.bl=((l.take i).map λ_=>false).map V.bl++[V.bl false]:=by rw [Bz,hx,Ak,Ak];rfl
  have nA:=(Ab.mp hx).1;have lD:(((l.take i).map λ_=>false).map V.bl).length < sizeLine:=by rw [Ac,Ac,Bm];exact cj<|by omega
  have hxr:=qt.ox x<|Ag hx;intro cl C' s₀ H₀ ex;refine aZ 5 q3d ?_;intro cl C' s₀ H₀ ex;refine gR<|cO ?_;intro cl C' s₀ H₀ ex;refine W3<|jC MB<|ae 5<|aK ⟨_,_,rfl,rfl,_,rfl,?_⟩;rw [BR (show ¬((x:Nat):Int) < 0 by omega)];refine cN<|DL<|jC VD<|ae 5<|dh jA T.len JG<|ao<|ae 2<|aE ⟨C,_,rfl,.inl<|ai.of<|sm _ _ hC.1,_,_,rfl,rfl,_,eD,lD,⟨_,rfl⟩,dW sm hD,?_⟩;rw [az,fS,S0];show some (HO.lst<|_++[V.bl<|decide (((nZ.length:Nat):Int)<=((x:Nat):Int))])=_;rw [BR (show ¬((nZ.length:Nat):Int)<=((x:Nat):Int) by omega)]
 rintro σ' H2 ⟨_,s2,eD⟩;rw [S5,Br] at eD;refine aE ⟨D,l.map λ_=>false,rfl,ai.of eD,_,rfl,?_⟩;have uc:(l.map λ_=>false).any id=false:=by
  rw [List.any_map];exact List.any_eq_false.mpr λ_ _=>by simp
 rw [uc];refine cN<|bp ?_;have sk:=s1.trans s2;have zX:=hC.same s2;have S6:=s2 _ _ rW;refine run_set 3 nd<|gO<|aE ⟨Z0,λd0 jn=>?_⟩;have s3:=aQ jn<|.lst [];have e3:(upd H2 d0<|.lst []) d0=some (Ls []):=az;generalize upd H2 d0 (.lst [])=H3 at s3 e3;have S7:∀{xs:List Str},aR xs->(∀ z∈xs,z∈av n)->xs.length<=40:=λh1 h2=>by have:=vw hT (lY h1) h2;omega
 have lcw:nZ.length=(j9 n).length:=cJ.len;have cin:∀{k:Nat} {ci:List Str},nZ[k]?=some ci->∀ z∈ci,z∈av n:=λ{k ci} fH z hz=>by
  have hk:=(Ab.mp fH).1;have hw:=Aa (show k < (j9 n).length by omega);have wk:=zE hT (ends n) [] (λe he=>he) _<|Ag hw;have:=(cJ.mem k _ _ fH hw z).mp hz;exact SG wk.ends z<|El.mp<|by omega
 refine jE<|ae 1 ⟨L,rfl,⟨_,ai.of<|s3 _ _ S6⟩,?_⟩;refine jF (xs:=(l.map λi:Nat=>(i:Int)).map V.int) (λi σ H'=>∃(D:Addr) (ds:List Str) (u4:Option V),ah H2 H'/\H' D=some (Ls ds)/\ic nZ (l.take i) ds/\(∀ z∈ds,z∈av n)/\(i=0->ds=[])/\σ=[some<|.ref R,some<|.ref L,some<|.ref C,some<|.ref D,u4]) ⟨d0,[],_,s3,e3,ic.nil,(λz h=>by cases h),λ_=>rfl,rfl⟩ ?_ ?_ ?_
 ·rintro i σ H' _ ⟨_,_,_,sm,_⟩;exact ai.of<|sm _ _ S6
 ·rintro i x σ H4 hx ⟨D,ds,u4,sm,eD,hS,t6,h0,rfl⟩;rw [Cd,Ah,An] at hx;obtain⟨k,hk,rfl⟩:=hx;have pP:=qt.ox k<|Ag hk;have wL:=zX.same sm;have x0e:=wL.2.1;obtain⟨ci,fH⟩:∃ ci,nZ[k]?=some ci:=⟨_,Aa pP⟩;obtain⟨ui,wM⟩:∃ ui,cu[k]?=some ui:=⟨_,Aa<|by omega⟩;have KA:=wL.2.2 k _ _ wM fH;have KE:=cJ.cV _<|Ag fH;have la:=S7 hS.cV t6;have lb:=S7 KE<|cin fH;have lab:ds.length+ci.length < 64:=by
   by_cases c:i=0
   ·rw [h0 c];show 0+ci.length < 64;omega
   ·have:=qt.sml i k (by omega) hk;rw [fH,Option.getD_some] at this;omega
  have fS:l.take (i+1)=l.take i++[k]:=by rw [Bz,hk];rfl
  refine aZ 4 nd ?_;refine run_set 3 nd (bV GS hr<|ao<|ae 3<|ao<|fu lF<|ae 2<|ae 4 ⟨C,_,_,.ref ui,rfl,rfl,ai.of wL.1,tJ (by rw [Ah,wM];rfl),aE ⟨D,ui,ds,ci,rfl,eD,KA,lab,λm ms H5 s5 n5 e5 Jm nd5 m5=>?_⟩⟩);refine bp ⟨m,ms,_,sm.trans s5,e5,?_,λz hz=>?_,λe=>by omega,rfl⟩
  ·rw [fS];exact hS.snoc fH (pL Jm nd5) m5
  ·have:=(m5 z).mp hz
   by_cases c:z∈ds
   ·exact t6 z c
   ·rw [BK c] at this;exact cin fH z this
 ·rintro σ H4 ⟨D,ds,u4,sm,eD,hS,_,_,rfl⟩;rw [S5,Br] at hS;have:ds=ss:=pM hS.cV eJ λz=>by rw [hS.mem,qt.sum z,CK]
  subst this;exact cy<|ae 3<|qQ D H4 (sk.trans sm) eD
end
end N4
namespace cD
open PySem PySem.W PyProof.Rows PySem.SeqAt
open PySem.AutoSeq1 (wpAny_loadPart')
open PySem.MeetsSeq PySem.MeetsSeq2 PySem.MeetsSeq3
def aS:List Str->List Str->Bool
 | [],[]=>false
 | [],_ :: _=>true
 | _ :: _,[]=>false
 | x :: xs,y :: ys=>if x=y then aS xs ys else decide (x.cps.toList < y.cps.toList)
theorem S8:∀{a b:List Str},a≠b->aS a b=true\/aS b a=true
 | [],[],h=>absurd rfl h
 | [],_ :: _,_=> .inl rfl
 | _ :: _,[],_=> .inr rfl
 | x :: xs,y :: ys,h=>by
  show(if x=y then aS xs ys else decide (x.cps.toList < y.cps.toList))=true\/(if y=x then aS ys xs else decide (y.cps.toList < x.cps.toList))=true
  by_cases e:x=y
  ·rw [BL e,BL e.symm];exact S8 λq=>h<|by rw [e,q]
  ·rw [BK e,BK λq=>e q.symm,CK,CK]
   by_cases c:x.cps.toList < y.cps.toList
   ·exact .inl c
   ·refine .inr<|DG λd=>e<|Q3<|List.le_antisymm (Hw.mp d)<|Hw.mp c
theorem KG:∀{a b:List Str},aS a b=true->aS b a=false
 | [],[],_=>rfl
 | [],_ :: _,_=>rfl
 | _ :: _,[],h=>by cases h
 | x :: xs,y :: ys,h=>by
  show(if y=x then aS ys xs else decide (y.cps.toList < x.cps.toList))=false;have h2:(if x=y then aS xs ys else decide (x.cps.toList < y.cps.toList))=true:=h
  by_cases e:x=y
  ·rw [BL e] at h2;rw [BL e.symm];exact KG h2
  ·rw [BK e] at h2;rw [BK λq=>e q.symm];exact BR λq=>Fp _<|Gn (CG h2) q
theorem S9:∀{a b c:List Str},aS a b=true->aS b c=true->aS a c=true
 | [],[],_,h,_=>by cases h
 | [],_ :: _,[],_,h=>by cases h
 | [],_ :: _,_ :: _,_,_=>rfl
 | _ :: _,[],_,h,_=>by cases h
 | _ :: _,_ :: _,[],_,h=>by cases h
 | x :: xs,y :: ys,z :: zs,h,k=>by
  have h2:(if x=y then aS xs ys else decide (x.cps.toList < y.cps.toList))=true:=h;have k2:(if y=z then aS ys zs else decide (y.cps.toList < z.cps.toList))=true:=k;show(if x=z then aS xs zs else decide (x.cps.toList < z.cps.toList))=true
  by_cases e:x=y
  ·rw [BL e] at h2
   by_cases d:y=z
   ·rw [BL d] at k2;rw [BL<|e.trans d];exact S9 h2 k2
   ·rw [BK d] at k2;rw [e,BK d];exact k2
  ·rw [BK e] at h2;have l1:=CG h2
   by_cases d:y=z
   ·rw [<- d,BK e];exact h2
   ·rw [BK d] at k2;have l2:=Gn l1<|CG k2;rw [BK λq=>Fp _<|by rw [q] at l2;exact l2];exact BX l2
def SX(xs:Array Value)(zs:List Str):Prop:=xs.size=zs.length/\∀(i:Nat) (h:i < xs.size) (k:i < zs.length),∃ t,xs[i]=Value.str zs[i] t
theorem k6c(l b:Addr)(items bn:Array Value)(n n2:Nat)(dd n9:Option Addr)(sl kZ:Array<|Option Value)(zs us:List Str)(hz:SX items zs)(hu:SX bn us)(k:Nat) :
  ∀ i:Nat,items.size - i=k->i<=items.size->i<=bn.size->Meets (Builtin.«list.__eq__.loop» ⟨[.ref l,.ref b,rawInt i,rawInt 0],[]⟩)
   (λ_ R s => s.heap.get? l = some { cls := .type "list", dict := dd, data := .seq items n, slots := sl } ∧ s.heap.get? b = some { cls := .type "list", dict := n9, data := .seq bn n2, slots := kZ } ∧
    R (.ok<|.ret<|.bool<|aS (zs.drop i)<|us.drop i) s):=by
 have z1:=hz.1;have z2:=hu.1
 induction k with
 | zero=>
  intro i hk g1 g2 prog w A R s h;obtain⟨hp,g,d,tk,os⟩:=s;obtain⟨hl,hb,h⟩:=h
  wp_walk using FJ hl,FJ hb
  have oa:items[((i:Nat):Int).toNat]?=none:=by simp;omega
  have hd:zs.drop i=[]:=by simp;omega
  rw [hd] at h;rw [oa];have e:aS [] (us.drop i)=decide (items.size < bn.size):=by
   cases q:us.drop i with
   | nil=>
    have:us.length<=i:=by simpa using q
    exact(BR<|by omega).symm
   | cons x y=>
    have:i < us.length:=by
     refine DG λc=>?_;rw [Dl<|by omega] at q;cases q
    exact(BX<|by omega).symm
  rw [e] at h
  wp_walk using FJ hl,FJ hb
  exact h
 | succ k ih=>
  intro i hk g1 g2 prog w A R s h;obtain⟨hp,g,d,tk,os⟩:=s;obtain⟨hl,hb,h⟩:=h
  wp_walk using FJ hl,FJ hb
  have aM:i < items.size:=by omega
  have oa:items[((i:Nat):Int).toNat]?=some items[i]:=by simp [aM]
  have Ta:i < zs.length:=by omega
  obtain⟨t,ht⟩:=hz.2 i aM Ta;rw [Cc Ta] at h;rw [oa]
  by_cases c:i < bn.size
  ·have iB:bn[((i:Nat):Int).toNat]?=some bn[i]:=by simp [c]
   have zY:i < us.length:=by omega
   obtain⟨u,Tc⟩:=hu.2 i c zY;have hc:((i:Int)+1)=((i+1:Nat):Int):=by push_cast;rfl
   rw [Cc zY] at h;rw [iB,ht,Tc];have h2:R (.ok<|.ret<|.bool (if zs[i]=us[i] then aS (zs.drop<|i+1) (us.drop<|i+1) else decide (zs[i].cps.toList < us[i].cps.toList))) ⟨hp,g,d,tk,os⟩:=h;refine BJ<|EqAt.str_str (A:=A.in1) zs[i] t us[i] u prog w _ _ ?_;cases kJ:(zs[i] == us[i]) with
   | true=>
    rw [BL<|beq_iff_eq.mp kJ] at h2
    wp_walk
    rw [hc];exact⟨GX plain_eq_loop _,EY entry_eq_loop<|by
     rw [DW plain_eq_loop _];exact ih (i+1) (by omega) (by omega) (by omega) prog w A R _ ⟨hl,hb,h2⟩⟩
   | false=>
    rw [BK<|beq_eq_false_iff_ne.mp kJ] at h2
    wp_walk using FJ hl,FJ hb
    rw [oa,iB,ht,Tc];refine BJ (show wpAny (model prog w) A.in1 (compareOp .Lt (.str zs[i] t)<|.str us[i] u) _ _ _ from lt_str ?_)
    wp_walk
    exact h2
  ·have iB:bn[((i:Nat):Int).toNat]?=none:=by simp;omega
   have hd:us.drop i=[]:=by simp;omega
   rw [hd] at h;rw [iB];have e:aS (zs[i] :: zs.drop (i+1)) []=decide (items.size < bn.size):=(BR<|by omega).symm;rw [e] at h
   wp_walk using FJ hl,FJ hb
   exact h
theorem k50(l b:Addr)(items bn:Array Value)(n n2:Nat)(dd n9:Option Addr)(sl kZ:Array<|Option Value)(zs us:List Str)(hz:SX items zs)(hu:SX bn us) :
  Meets (Builtin.«list.__lt__» ⟨[.ref l,.ref b],[]⟩)
   (λ_ R s => s.heap.get? l = some { cls := .type "list", dict := dd, data := .seq items n, slots := sl } ∧ s.heap.get? b = some { cls := .type "list", dict := n9, data := .seq bn n2, slots := kZ } ∧
    R (.ok<|.ret<|.bool<|aS zs us) s):=by
 intro prog w A R s h;obtain⟨hp,g,d,tk,os⟩:=s;obtain⟨hl,hb,h⟩:=h;have f3:=AutoSeq1.sub_list_list
 wp_walk using FJ hl,FJ hb
 exact⟨GX plain_eq_loop _,EY entry_eq_loop<|by
  rw [DW plain_eq_loop _];exact k6c l b items bn n n2 dd n9 sl kZ zs us hz hu _ 0 rfl (Bn _) (Bn _) prog w A R _ ⟨hl,hb,h⟩⟩
def mI(h:Heap)(v:Value)(z:List Str):Prop:=∃ a o xs n,v = .ref a/\h.get? a=some o/\o.cls = .type "list"/\o.data = .seq xs n/\SX xs z
theorem mI.keep{h h':Heap}{v:Value}{z:List Str}(x:mI h v z)(k:∀ a o,v = .ref a->h.get? a=some o->h'.get? a=some o):mI h' v z:=by
 obtain⟨a,o,xs,n,e,h1,h2⟩:=x;exact⟨a,o,xs,n,e,k a o e h1,h2⟩
def fI(h:Heap)(vs:List Value)(zs:List<|List Str):Prop:=vs.length=zs.length/\∀(i:Nat) v z,vs[i]?=some v->zs[i]?=some z->mI h v z
section
variable{prog:Program}{w:World}{A:Around}{E:Value->Shared->Prop}{s:Shared}
theorem q4g{x y:Value}{z u:List Str}{Q:Bool->Shared->Prop}(hA:A.units < cLine)(hx:mI s.heap x z)(hy:mI s.heap y u)(h:Q (aS z u) s):wpAny (model prog w) A (keyLt' oneType' x y) Q E s:=by
 obtain⟨a,⟨cls,dd,data,sl⟩,xs,n,rfl,h1,h2,h3,h4⟩:=hx;obtain⟨b,⟨x0g,n9,data2,kZ⟩,ys,n',rfl,g1,g2,g3,g4⟩:=hy;simp only at h2 h3 g2 g3;subst h2 h3 g2 g3;rw [keyLt'_oneType,oneLt'_eq];simp only [FN];refine BJ<|wpAny_cRoomFor hA ?_;refine BJ<|wpAny_callSpecialIfBound?_slot ⟨_,h1,rfl⟩ PySem.F.slot_list_lt<|QX PySem.F.slot_list_lt ⟨_,h1,rfl⟩ PySem.F.entry_list_lt (PySem.F.args_list_lt_2 _ _) (k50 a b xs ys n n' dd n9 sl kZ z u h4 g4) ⟨h1,g1,?_⟩;exact DY h
end
end cD
namespace L2
open PySem PySem.Spec PyProof.Rows cD
theorem q0i:∀{zs:List Str} {its:List Value},aq (zs.map V.str) its->SX its.toArray zs:=λ{zs its} r=>by
 have hl:its.length=zs.length:=by have:=r.length;rw [Ac] at this;exact this.symm
 refine⟨by rw [Bd];exact hl,λi h k=>?_⟩;have:∀{zs:List Str} {its:List Value},aq (zs.map V.str) its->∀(i:Nat) (h:i < its.length) (k:i < zs.length),∃ t,its[i]=Value.str zs[i] t:=by
  intro zs
  induction zs with
  | nil=>intro its r i h k;exact absurd k<|Fu _
  | cons z zs ih=>
   intro its r i h k;cases r with
   | cons a b=>
    obtain⟨t,rfl⟩:=a;cases i with
    | zero=>exact⟨t,rfl⟩
    | succ i=>exact ih b i (Gs h)<|Gs k
 simpa using this r i (by simpa using h) k
theorem k97{a b:List (List Str)}(ha:a.Pairwise λx y=>aS x y=true)(hb:b.Pairwise λx y=>aS x y=true)(h:a.Perm b):a=b:=
 RL (le:=λx y=>aS x y=true) (λx y _ _ h1 h2=>by rw [KG h1] at h2;cases h2) ha hb h
section
variable{X:Cx}{σ:St}{H:Hp}
end
end L2
namespace Td
open PySem PyProof.Rows
def Te:Bool->Keyed->Array Keyed->Nat->Nat->Nat->StateT SortSt Sem (Option Nat):=sortPriv% PySem.Builtin.gallop
def Tg:Array Keyed->Array Keyed->StateT SortSt Sem (Array Keyed):=sortPriv% PySem.Builtin.mergeLo
def Tj:Array Keyed->Array Keyed->StateT SortSt Sem (Array Keyed):=sortPriv% PySem.Builtin.mergeHi
def q2j:Nat->StateT SortSt Sem Unit:=sortPriv% PySem.Builtin.setMinGallop
structure Ord(prog:Program)(w:World)(A:Around)(E:Value->Shared->Prop)(s:Shared)(κ:SortKind)(a₀:List Keyed)(r:Keyed->Keyed->Bool):Prop where
 ask:∀(x y:Keyed) (st:SortSt) (Q:Option Bool->SortSt->Prop),x∈a₀->y∈a₀->x≠y->kindOf st=κ->Q (some<|r x y) st->wpS (model prog w) A E s (lt' x y) Q st
 p9:∀ x∈a₀,∀ y∈a₀,x≠y->r x y=true\/r y x=true
 Ip:∀ x y,r x y=true->r y x=false
 iJ:∀ x y z,r x y=true->r y z=true->r x z=true
section
variable{prog:Program}{w:World}{A:Around}{E:Value->Shared->Prop}{s:Shared}{κ:SortKind}{a₀:List Keyed}{r:Keyed->Keyed->Bool}
theorem Ord.not(O:Ord prog w A E s κ a₀ r){x y:Keyed}(hx:x∈a₀)(hy:y∈a₀)(ne:x≠y):(!r y x)=r x y:=by
 cases h:r x y with
 | true=>rw [O.Ip _ _ h];rfl
 | false=>
  rcases O.p9 x hx y hy ne with q | q
  ·rw [h] at q;cases q
  ·rw [q];rfl
theorem dS{arr:Array Keyed}{i:Nat}{x:Keyed}{Q:Keyed->SortSt->Prop}{st:SortSt}(hx:arr[i]?=some x)(h:Q x st):wpS (model prog w) A E s (elem' arr i) Q st:=by
 rw [elem'_eq,hx];exact BZ h
structure wN(r:Keyed->Keyed->Bool)(key:Keyed)(arr:Array Keyed)(base n k:Nat):Prop where
 le:k<=n
 lo:∀ i x,i < k->arr[base+i]?=some x->r x key=true
 hi:∀ i x,k<=i->i < n->arr[base+i]?=some x->r x key=false
def cA(r:Keyed->Keyed->Bool)(key:Keyed)(arr:Array Keyed)(base i:Nat):Bool:=match arr[base+i]? with
 | some x=>r x key
 | none=>false
theorem wO{key x:Keyed}{arr:Array Keyed}{base i:Nat}(h:arr[base+i]?=some x):cA r key arr base i=r x key:=by unfold cA;rw [h]
theorem sr(O:Ord prog w A E s κ a₀ r){left:Bool}{key:Keyed}{arr:Array Keyed}{base n hint:Nat}{Q:Option Nat->SortSt->Prop}{st:SortSt}(hk:kindOf st=κ)(qu:key∈a₀)(hn:base+n<=arr.size)(hh:hint < n)
  (ha:∀ i x,i < n->arr[base+i]?=some x->x∈a₀/\x≠key) (mono:∀ i j x y,i < j->j < n->arr[base+i]?=some x->arr[base+j]?=some y->r x y=true)
  (hQ:∀ k,wN r key arr base n k->Q (some k) st):wpS (model prog w) A E s (Te left key arr base n hint) Q st:=by
 have at':∀ i,i < n->∃ x,arr[base+i]?=some x:=λi hi=>⟨_,Bg<|by omega⟩;have dn:∀ i j,i<=j->j < n->cA r key arr base j=true->cA r key arr base i=true:=λi j di hj h=>by
  rcases Nat.lt_or_eq_of_le di with c | rfl
  ·obtain⟨x,hx⟩:=at' i (by omega);obtain⟨y,hy⟩:=at' j hj;rw [wO hy] at h;rw [wO hx];exact O.iJ _ _ _ (mono i j x y c hj hx hy) h
  ·exact h
 have up:∀ i j,i<=j->j < n->cA r key arr base i=false->cA r key arr base j=false:=λi j di hj h=>by
  cases q:cA r key arr base j with
  | false=>rfl
  | true=>rw [dn i j di hj q] at h;cases h
 have ask:∀(i:Nat) (R:Option Bool->SortSt->Prop),i < n->R (some<|cA r key arr base i) st ->
   wpS (model prog w) A E s (elem' arr (base+i) >>= λx=>if left=true then lt' x key else do return (<- lt' key x).map (!·)) R st:=λi R hi hR=>by
  obtain⟨x,hx⟩:=at' i hi;rw [wO hx] at hR;obtain⟨h1,h2⟩:=ha i x hi hx;refine BW<|dS hx ?_;cases left with
  | true=>exact O.ask x key st _ h1 qu h2 hk hR
  | false=>
   refine BW<|O.ask key x st _ qu h1 (CJ h2) hk<|BZ ?_;show R (some (!r key x)) st;rw [O.not h1 qu h2];exact hR
 have fin:∀ k,k<=n->(∀ j,j < k->cA r key arr base j=true)->(∀ j,k<=j->j < n->cA r key arr base j=false)->Q (some k) st:=λk hk h1 h2=>hQ k ⟨hk,λi x hi hx=>(wO hx).symm.trans<|h1 i hi,λi x h3 h4 hx=>(wO hx).symm.trans<|h2 i h3 h4⟩;unfold Te;refine BW<|ask hint _ hh ?_;cases hb:cA r key arr base hint with
 | true=>
  dsimp only
  rw [BL rfl];refine BW<|FQ (Q:=λc ag=>st=ag/\∃ l o,c=(none,l,o)/\l < o/\hint+l < n/\cA r key arr base (hint+l)=true/\(n - hint<=o\/cA r key arr base (hint+o)=false)) (DR (λi c ag=>st=ag/\∃ l o,c=(none,l,o)/\l < o/\i < o/\hint+l < n/\cA r key arr base (hint+l)=true) ?_ ?_ ?_) ?_
  ·rintro i c ag _ hi ⟨rfl,l,o,rfl,h1,h2,h3,h4⟩
   dsimp only
   by_cases c:o>=n - hint
   ·rw [BL c];exact BZ ⟨rfl,l,o,rfl,h1,h3,h4,.inl c⟩
   ·rw [BK c];refine BW (ask (hint+o) _ (by omega) ?_);cases hq:cA r key arr base (hint+o) with
    | true=>exact BZ ⟨rfl,o,2 * o+1,rfl,by omega,by omega,by omega,hq⟩
    | false=>exact BZ ⟨rfl,l,o,rfl,h1,h3,h4,.inr hq⟩
  ·rintro c ag ⟨rfl,l,o,rfl,h1,h2,h3,h4⟩;exact⟨rfl,l,o,rfl,h1,h3,h4,.inl<|by omega⟩
  ·exact⟨rfl,0,1,rfl,by omega,by omega,hh,hb⟩
  rintro c ag ⟨rfl,l,o,rfl,h1,h2,h3,h4⟩
  dsimp only
  have f1:∀ j,j < hint+l+1->cA r key arr base j=true:=λj hj=>dn j (hint+l) (by omega) h2 h3;have f2:∀ j,hint+min o (n - hint)<=j->j < n->cA r key arr base j=false:=λj h5 h6=>by
   rcases h4 with h4 | h4
   ·omega
   ·exact up (hint+o) j (by omega) h6 h4
  have f3:hint+l+1<=hint+min o (n - hint)/\hint+min o (n - hint)<=n:=by omega
  generalize hint+l+1=lo at f1 f3;generalize hint+min o (n - hint)=hi at f2 f3;refine BW<|FQ (Q:=λc ag=>st=ag/\∃ h,c=(none,h,h)/\h<=n/\(∀ j,j < h->cA r key arr base j=true)/\(∀ j,h<=j->j < n->cA r key arr base j=false)) (DR (λi c ag=>st=ag/\∃ lo hi,c=(none,lo,hi)/\lo<=hi/\hi<=n/\hi - lo+i<=n/\(∀ j,j < lo->cA r key arr base j=true)/\(∀ j,hi<=j->j < n->cA r key arr base j=false)) ?_ ?_ ?_) ?_
  ·rintro i c ag _ dv ⟨rfl,lo,hi,rfl,g1,g2,g3,g4,g5⟩
   dsimp only
   by_cases c:lo>=hi
   ·rw [BL c];obtain rfl:lo=hi:=by omega
    exact BZ ⟨rfl,lo,rfl,g2,g4,g5⟩
   ·rw [BK c];refine BW (ask (lo+(hi - lo) / 2) _ (by omega) ?_);cases hq:cA r key arr base (lo+(hi - lo) / 2) with
    | true=>exact BZ ⟨rfl,lo+(hi - lo) / 2+1,hi,rfl,by omega,g2,by omega,λj hj=>dn j _ (by omega) (by omega) hq,g5⟩
    | false=>exact BZ ⟨rfl,lo,lo+(hi - lo) / 2,rfl,by omega,by omega,by omega,g4,λj h5 h6=>up _ j h5 h6 hq⟩
  ·rintro c ag ⟨rfl,lo,hi,rfl,g1,g2,g3,g4,g5⟩;obtain rfl:lo=hi:=by omega
   exact⟨rfl,lo,rfl,g2,g4,g5⟩
  ·exact⟨rfl,lo,hi,rfl,f3.1,f3.2,by omega,f1,f2⟩
  rintro c ag ⟨rfl,h,rfl,g1,g2,g3⟩;exact BZ<|fin h g1 g2 g3
 | false=>
  dsimp only
  rw [BK Ba];refine BW<|FQ (Q:=λc ag=>st=ag/\∃ l o,c=(none,l,o)/\l < o/\l<=hint/\cA r key arr base (hint - l)=false/\(hint+1<=o\/cA r key arr base (hint - o)=true)) (DR (λi c ag=>st=ag/\∃ l o,c=(none,l,o)/\l < o/\i < o/\l<=hint/\cA r key arr base (hint - l)=false) ?_ ?_ ?_) ?_
  ·rintro i c ag _ hi ⟨rfl,l,o,rfl,h1,h2,h3,h4⟩
   dsimp only
   by_cases c:o>=hint+1
   ·rw [BL c];exact BZ ⟨rfl,l,o,rfl,h1,h3,h4,.inl c⟩
   ·rw [BK c];refine BW (ask (hint - o) _ (by omega) ?_);cases hq:cA r key arr base (hint - o) with
    | true=>exact BZ ⟨rfl,l,o,rfl,h1,h3,h4,.inr hq⟩
    | false=>exact BZ ⟨rfl,o,2 * o+1,rfl,by omega,by omega,by omega,hq⟩
  ·rintro c ag ⟨rfl,l,o,rfl,h1,h2,h3,h4⟩;exact⟨rfl,l,o,rfl,h1,h3,h4,.inl<|by omega⟩
  ·exact⟨rfl,0,1,rfl,by omega,by omega,Bn _,hb⟩
  rintro c ag ⟨rfl,l,o,rfl,h1,h2,h3,h4⟩
  dsimp only
  have f1:∀ j,j < hint+1 - min o (hint+1)->cA r key arr base j=true:=λj hj=>by
   rcases h4 with h4 | h4
   ·omega
   ·exact dn j (hint - o) (by omega) (by omega) h4
  have f2:∀ j,hint - l<=j->j < n->cA r key arr base j=false:=λj h5 h6=>up (hint - l) j h5 h6 h3;have f3:hint+1 - min o (hint+1)<=hint - l/\hint - l<=n:=by omega
  generalize hint+1 - min o (hint+1)=lo at f1 f3;generalize hint - l=hi at f2 f3;refine BW<|FQ (Q:=λc ag=>st=ag/\∃ h,c=(none,h,h)/\h<=n/\(∀ j,j < h->cA r key arr base j=true)/\(∀ j,h<=j->j < n->cA r key arr base j=false)) (DR (λi c ag=>st=ag/\∃ lo hi,c=(none,lo,hi)/\lo<=hi/\hi<=n/\hi - lo+i<=n/\(∀ j,j < lo->cA r key arr base j=true)/\(∀ j,hi<=j->j < n->cA r key arr base j=false)) ?_ ?_ ?_) ?_
  ·rintro i c ag _ dv ⟨rfl,lo,hi,rfl,g1,g2,g3,g4,g5⟩
   dsimp only
   by_cases c:lo>=hi
   ·rw [BL c];obtain rfl:lo=hi:=by omega
    exact BZ ⟨rfl,lo,rfl,g2,g4,g5⟩
   ·rw [BK c];refine BW (ask (lo+(hi - lo) / 2) _ (by omega) ?_);cases hq:cA r key arr base (lo+(hi - lo) / 2) with
    | true=>exact BZ ⟨rfl,lo+(hi - lo) / 2+1,hi,rfl,by omega,g2,by omega,λj hj=>dn j _ (by omega) (by omega) hq,g5⟩
    | false=>exact BZ ⟨rfl,lo,lo+(hi - lo) / 2,rfl,by omega,by omega,by omega,g4,λj h5 h6=>up _ j h5 h6 hq⟩
  ·rintro c ag ⟨rfl,lo,hi,rfl,g1,g2,g3,g4,g5⟩;obtain rfl:lo=hi:=by omega
   exact⟨rfl,lo,rfl,g2,g4,g5⟩
  ·exact⟨rfl,lo,hi,rfl,f3.1,f3.2,by omega,f1,f2⟩
  rintro c ag ⟨rfl,h,rfl,g1,g2,g3⟩;exact BZ<|fin h g1 g2 g3
end
structure MI(r:Keyed->Keyed->Bool)(la lb o:List Keyed)(ia ib:Nat):Prop where
 perm:o.Perm<|la.take ia++lb.take ib
 cV:o.Pairwise λx y=>r x y=true
 lt:∀ x∈o,∀ y∈la.drop ia++lb.drop ib,r x y=true
structure Pre(prog:Program)(w:World)(A:Around)(E:Value->Shared->Prop)(s:Shared)(κ:SortKind)(a₀:List Keyed)(r:Keyed->Keyed->Bool)(la lb:List Keyed):Prop where
 ord:Ord prog w A E s κ a₀ r
 mem:∀ x∈la++lb,x∈a₀
 nd:(la++lb).Nodup
 sa:la.Pairwise λx y=>r x y=true
 sb:lb.Pairwise λx y=>r x y=true
section
variable{prog:Program}{w:World}{A:Around}{E:Value->Shared->Prop}{s:Shared}{κ:SortKind}{a₀:List Keyed}{r:Keyed->Keyed->Bool}{la lb o:List Keyed}{ia ib k:Nat}
theorem Tl{α:Type}(l:List α)(i k:Nat):l.take (i+k)=l.take i++(l.drop i).take k:=List.take_add
theorem MI.fJ(P:Pre prog w A E s κ a₀ r la lb)(h:MI r la lb o ia ib)(hx:∀ x∈(la.drop ia).take k,∀ y∈lb.drop ib,r x y=true):MI r la lb (o++(la.drop ia).take k) (ia+k) ib:=by
 have sd:(la.drop ia).Pairwise λx y=>r x y=true:=P.sa.sublist<|Fy _ _;have ed:la.drop (ia+k)=(la.drop ia).drop k:=(TF ..).symm;have sp:=sd;rw [<- Ct k<|la.drop ia,Cp] at sp;refine⟨?_,Cp.mpr ⟨h.cV,sp.1,λx eI y hy=>h.lt x eI y<|Bi _<|Co hy⟩,λx eI y hy=>?_⟩
 ·rw [Tl,Bf];refine(h.perm.append_right _).trans ?_;rw [Bf];exact List.perm_append_comm.append_left _
 ·rw [ed] at hy
  rcases Ao.mp eI with q | q
  ·rcases Ao.mp hy with p | p
   ·exact h.lt x q y<|Bi _<|Cb p
   ·exact h.lt x q y<|Bb _ p
  ·rcases Ao.mp hy with p | p
   ·exact sp.2.2 x q y p
   ·exact hx x q y p
theorem MI.eQ(P:Pre prog w A E s κ a₀ r la lb)(h:MI r la lb o ia ib)(hx:∀ x∈(lb.drop ib).take k,∀ y∈la.drop ia,r x y=true):MI r la lb (o++(lb.drop ib).take k) ia (ib+k):=by
 have sd:(lb.drop ib).Pairwise λx y=>r x y=true:=P.sb.sublist<|Fy _ _;have ed:lb.drop (ib+k)=(lb.drop ib).drop k:=(TF ..).symm;have sp:=sd;rw [<- Ct k<|lb.drop ib,Cp] at sp;refine⟨?_,Cp.mpr ⟨h.cV,sp.1,λx eI y hy=>h.lt x eI y<|Bb _<|Co hy⟩,λx eI y hy=>?_⟩
 ·rw [Tl,<- Bf];exact h.perm.append_right _
 ·rw [ed] at hy
  rcases Ao.mp eI with q | q
  ·rcases Ao.mp hy with p | p
   ·exact h.lt x q y<|Bi _ p
   ·exact h.lt x q y<|Bb _<|Cb p
  ·rcases Ao.mp hy with p | p
   ·exact hx x q y p
   ·exact sp.2.2 x q y p
structure Md(r:Keyed->Keyed->Bool)(la lb o:List Keyed):Prop where
 perm:o.Perm<|la++lb
 cV:o.Pairwise λx y=>r x y=true
theorem MI.fin(h:MI r la lb o la.length lb.length):Md r la lb o:=⟨by have:=h.perm;rw [Br,Br] at this;exact this,h.cV⟩
theorem take_all(l:List Keyed)(i:Nat):(l.drop i).take (l.length - i)=l.drop i:=Da<|by rw [Cz];exact Ai _
theorem MI.dU(P:Pre prog w A E s κ a₀ r la lb)(h:MI r la lb o ia lb.length)(hi:ia<=la.length):Md r la lb (o++la.drop ia++lb.drop lb.length):=by
 have:=h.fJ P (k:=la.length - ia) λx _ y hy=>by rw [Ek] at hy;cases hy
 rw [take_all,show ia+(la.length - ia)=la.length by omega] at this;rw [Ek,Be];exact this.fin
theorem MI.eS(P:Pre prog w A E s κ a₀ r la lb)(h:MI r la lb o la.length ib)(hi:ib<=lb.length):Md r la lb (o++la.drop la.length++lb.drop ib):=by
 have:=h.eQ P (k:=lb.length - ib) λx _ y hy=>by rw [Ek] at hy;cases hy
 rw [take_all,show ib+(lb.length - ib)=lb.length by omega] at this;rw [Ek,Be];exact this.fin
theorem MI.i8(P:Pre prog w A E s κ a₀ r la lb)(h:MI r la lb o ia ib)(ha:ia+1=la.length)(hb:ib<=lb.length)(hl:∀ x,la[ia]?=some x->∀ y∈lb,r y x=true):Md r la lb (o++lb.drop ib++la.drop ia):=by
 have e1:la.drop ia=[la[ia]'(by omega)]:=by rw [Cc (by omega),Dl<|by omega]
 have h1:=h.eQ P (k:=lb.length - ib) λx hx y hy=>by
  rw [e1,Ae] at hy;rw [hy];exact hl _ (Aa<|by omega) x<|Cb<|Co hx
 rw [take_all,show ib+(lb.length - ib)=lb.length by omega] at h1;have h2:=h1.dU P (by omega);rw [Ek,Be] at h2;exact h2
def aN(st ag:SortSt):Prop:=kindOf ag=kindOf st/\arrOf ag=arrOf st/\pendingOf ag=pendingOf st/\failedOf ag=failedOf st
theorem aN.refl(st:SortSt):aN st st:=⟨rfl,rfl,rfl,rfl⟩
theorem su{t:String}{Q:Unit->SortSt->Prop}{st:SortSt}(h:Q () st):wpS (model prog w) A E s (liftM (rule t):StateT SortSt Sem Unit) Q st:=wpS_lift<|JB ⟨rfl,h⟩
theorem zZ{g:Nat}{Q:Unit->SortSt->Prop}{st sv:SortSt}(h0:aN sv st)(h:∀ ag,aN sv ag->Q () ag):wpS (model prog w) A E s (q2j g) Q st:=LQ<|h _ h0
theorem To(a:Array Keyed)(i k:Nat):(a.extract i<|i+k).toList=(a.toList.drop i).take k:=by
 rw [Fi,Gh,Em]
theorem sw(a:Array Keyed)(i:Nat):(a.extract i a.size).toList=a.toList.drop i:=by
 rw [Fi,Gh,Da<|by rw [Cz,Al];exact Ai _]
theorem k4{l:List Keyed}{i:Nat}{x:Keyed}(h:l[i]?=some x):(l.drop i).take 1=[x]:=by
 obtain⟨hi,e⟩:=Ab.mp h;rw [Cc hi,e];rfl
theorem q0y{l:List Keyed}{i:Nat}{x y:Keyed}(h:l[i]?=some x)(sl:l.Pairwise λx y=>r x y=true)(hy:y∈l.drop i):y=x\/r x y=true:=by
 obtain⟨hi,e⟩:=Ab.mp h;have sd:(l.drop i).Pairwise λx y=>r x y=true:=sl.sublist<|Fy _ _;rw [Cc hi,e] at hy sd
 rcases Ar.mp hy with q | q
 ·exact .inl q
 ·exact .inr<|(Ej.mp sd).1 y q
theorem ahead(O:Ord prog w A E s κ a₀ r){l:List Keyed}{i:Nat}{x y z:Keyed}(h:l[i]?=some y)(sl:l.Pairwise λx y=>r x y=true)(hx:r x y=true)(hz:z∈l.drop i):r x z=true:=by
 rcases q0y h sl hz with rfl | q
 ·exact hx
 ·exact O.iJ _ _ _ hx q
theorem k6{a:Array Keyed}{i:Nat}{x:Keyed}(h:a[i]?=some x):x∈a.toList:=by
 rw [<- Ap] at h;exact Ag h
theorem pw{a:Array Keyed}{i j:Nat}{x y:Keyed}(h:a.toList.Pairwise λx y=>r x y=true)(di:i < j)(hx:a[i]?=some x)(hy:a[j]?=some y):r x y=true:=by
 rw [<- Ap] at hx hy;obtain⟨h1,rfl⟩:=Ab.mp hx;obtain⟨h2,rfl⟩:=Ab.mp hy;exact Bc.mp h i j h1 h2 di
theorem KI{key:Keyed}{a:Array Keyed}{base n k:Nat}(h:wN r key a base n k):∀ x∈(a.toList.drop base).take k,r x key=true:=λx hx=>by
 obtain⟨i,hi,e⟩:=Do hx;rw [Bm] at hi;refine h.lo i x (by omega) ?_;rw [<- Ap,<- Gq,<- e,Fz];exact Aa _
theorem Tp{key:Keyed}{a:Array Keyed}{base n k:Nat}(h:wN r key a base n k)(hn:a.size<=base+n):∀ x∈a.toList.drop (base+k),r x key=false:=λx hx=>by
 obtain⟨i,hi,e⟩:=Do hx;rw [Cz,Al] at hi;refine h.hi (k+i) x (by omega) (by omega) ?_;rw [<- Ap,<- e,Ga,<- Nat.add_assoc];exact Aa _
theorem k2p{a b:Array Keyed}{Q:Array Keyed->SortSt->Prop}{st:SortSt}(P:Pre prog w A E s κ a₀ r a.toList b.toList)(hk:kindOf st=κ)(ha:0 < a.size)(hb:0 < b.size)(h0:∀ x y,a[0]?=some x->b[0]?=some y->r y x=true)(hl:∀ x,a[a.size - 1]?=some x->∀ y∈b.toList,r y x=true)
  (hQ:∀ o ag,Md r a.toList b.toList o.toList->aN st ag->Q o ag):wpS (model prog w) A E s (Tg a b) Q st:=by
 have O:=P.ord;have al:a.toList.length=a.size:=Al;have bl:b.toList.length=b.size:=Al;have og:∀ i,i < a.size->∃ x,a[i]?=some x/\a.toList[i]?=some x/\x∈a₀/\x∈a.toList:=λi hi=>⟨a[i],Bg hi,by rw [Ap];exact Bg hi,P.mem _ (Bi _<|by simp),by simp⟩;have qv:∀ i,i < b.size->∃ x,b[i]?=some x/\b.toList[i]?=some x/\x∈a₀/\x∈b.toList:=λi hi=>⟨b[i],Bg hi,by rw [Ap];exact Bg hi,P.mem _ (Bb _<|by simp),by simp⟩;have apart:∀ x∈a.toList,∀ y∈b.toList,x≠y:=(Dq.mp P.nd).2.2;have flip:∀{x y:Keyed},x∈a₀->y∈a₀->x≠y->r x y=false->r y x=true:=λ{x y} hx hy ne h=>by
  rcases O.p9 x hx y hy ne with q | q
  ·rw [h] at q;cases q
  ·exact q
 have wQ:∀{ia:Nat},ia+1=a.size->∀ x,a.toList[ia]?=some x->∀ y∈b.toList,r y x=true:=λ{ia} h x hx=>hl x (by rw [Ap] at hx;rw [show a.size - 1=ia by omega];exact hx);have dU:∀{o:Array Keyed} {ia:Nat},MI r a.toList b.toList o.toList ia b.size->ia<=a.size->Md r a.toList b.toList (o++a.extract ia a.size++b.extract b.size b.size).toList:=λ{o ia} h hi=>by
  rw [Bw,Bw,sw,sw,<- bl];exact MI.dU P (by rw [bl];exact h)<|by omega
 have eS:∀{o:Array Keyed} {ib:Nat},MI r a.toList b.toList o.toList a.size ib->ib<=b.size->Md r a.toList b.toList (o++a.extract a.size a.size++b.extract ib b.size).toList:=λ{o ib} h hi=>by
  rw [Bw,Bw,sw,sw,<- al];exact MI.eS P (by rw [al];exact h)<|by omega
 have i8:∀{o:Array Keyed} {ia ib:Nat},MI r a.toList b.toList o.toList ia ib->ia+1=a.size->ib<=b.size->Md r a.toList b.toList (o++b.extract ib b.size++a.extract ia a.size).toList:=λ{o ia ib} h h1 h2=>by
  rw [Bw,Bw,sw,sw];exact h.i8 P (by omega) (by omega)<|wQ h1
 have gC:∀{o:Array Keyed} {ia ib:Nat} {x y:Keyed},MI r a.toList b.toList o.toList ia ib->a.toList[ia]?=some x->b.toList[ib]?=some y->r x y=true->MI r a.toList b.toList (o.push x).toList (ia+1) ib:=λ{o ia ib x y} h hx hy hr=>by
  have:=h.fJ P (k:=1) λu hu v hv=>by
   rw [k4 hx,Ae] at hu;rw [hu];exact ahead O hy P.sb hr hv
  rw [k4 hx] at this;rw [Dp];exact this
 have gE:∀{o:Array Keyed} {ia ib:Nat} {x y:Keyed},MI r a.toList b.toList o.toList ia ib->a.toList[ia]?=some x->b.toList[ib]?=some y->r y x=true->MI r a.toList b.toList (o.push y).toList ia (ib+1):=λ{o ia ib x y} h hx hy hr=>by
  have:=h.eQ P (k:=1) λu hu v hv=>by
   rw [k4 hy,Ae] at hu;rw [hu];exact ahead O hx P.sa hr hv
  rw [k4 hy] at this;rw [Dp];exact this
 have qw:∀{o:Array Keyed} {ia ib:Nat} {x:Keyed},MI r a.toList b.toList o.toList ia ib->a.toList[ia]?=some x->(∀ y∈b.toList.drop ib,r x y=true)->MI r a.toList b.toList (o.push x).toList (ia+1) ib:=λ{o ia ib x} h hx hr=>by
  have:=h.fJ P (k:=1) λu hu v hv=>by
   rw [k4 hx,Ae] at hu;rw [hu];exact hr v hv
  rw [k4 hx] at this;rw [Dp];exact this
 have qz:∀{o:Array Keyed} {ia ib:Nat} {y:Keyed},MI r a.toList b.toList o.toList ia ib->b.toList[ib]?=some y->(∀ x∈a.toList.drop ia,r y x=true)->MI r a.toList b.toList (o.push y).toList ia (ib+1):=λ{o ia ib y} h hy hr=>by
  have:=h.eQ P (k:=1) λu hu v hv=>by
   rw [k4 hy,Ae] at hu;rw [hu];exact hr v hv
  rw [k4 hy] at this;rw [Dp];exact this
 unfold Tg;refine BW<|su ?_;obtain⟨b0,fV,qA,_,_⟩:=qv 0 hb;obtain⟨a0,KL,qB,_,_⟩:=og 0 ha;refine BW<|dS fV ?_;have start:MI r a.toList b.toList (#[b0]:Array Keyed).toList 0 1:=by
  have sv:MI r a.toList b.toList (#[]:Array Keyed).toList 0 0:=⟨List.Perm.refl _,List.Pairwise.nil,λx h=>by cases h⟩;exact gE sv qB qA<|h0 _ _ KL fV
 dsimp only
 by_cases c1:b.size=1
 ·rw [BL<|by rw [c1];rfl];refine BZ<|hQ _ _ ?_<|aN.refl _;have:=dU (ia:=0) (by rw [c1];exact start)<|Bn _;rw [c1] at this ⊢;exact this
 rw [BK<|by simpa using λh:1=b.size=>c1 h.symm]
 by_cases c2:a.size=1
 ·rw [BL<|by rw [c2];rfl];exact BZ<|hQ _ _ (i8 (ia:=0) start (by omega)<|by omega)<|aN.refl _
 rw [BK<|by simpa using λh:1=a.size=>c2 h.symm];refine BW<|JW ?_;refine BW<|FQ (Q:=λc ag=>aN st ag/\∃ o x,c=(some o,x)/\Md r a.toList b.toList o.toList) (DR (λi c ag=>aN st ag/\∃ o ia ib mg,c=(none,o,ia,ib,mg)/\MI r a.toList b.toList o.toList ia ib/\ia+1 < a.size/\ib < b.size/\i < ia+ib) ?_ ?_ ?_) ?_
 ·rintro i c ag _ hi ⟨ss,o,ia,ib,mg,rfl,h,h1,h2,h3⟩
  dsimp only
  refine BW<|FQ (Q:=λc ag=>aN st ag/\((∃ o x,c=(some o,x)/\Md r a.toList b.toList o.toList)\/∃ o bW bU ac bc,c=(none,o,bW,bU,ac,bc)/\MI r a.toList b.toList o.toList bW bU/\bW+1 < a.size/\bU < b.size/\ia+ib < bW+bU)) (DR (λj c ag=>aN st ag/\∃ o bW bU ac bc,c=(none,o,bW,bU,ac,bc)/\MI r a.toList b.toList o.toList bW bU/\bW+1 < a.size/\bU < b.size/\ia+ib+j<=bW+bU) ?_ ?_ ?_) ?_
  ·rintro j c bz _ hj ⟨s2,o,bW,bU,ac,bc,rfl,g,g1,g2,g3⟩
   dsimp only
   obtain⟨x,hx,dC,kd,ke⟩:=og bW (by omega);obtain⟨y,hy,iR,kg,kh⟩:=qv bU (by omega);refine BW<|dS hy ?_;refine BW<|dS hx ?_;refine BW<|O.ask y x bz _ kg kd (CJ<|apart x ke y kh) (s2.1.trans hk) ?_;cases hr:r y x with
   | true=>
    dsimp only
    rw [BL rfl];refine BW<|dS hy ?_;have g':=gE g dC iR hr
    by_cases e:bU+1=b.size
    ·rw [BL<|by simpa using e];exact BZ ⟨s2,.inl ⟨_,_,rfl,by rw [e];exact dU (by rw [<- e];exact g')<|by omega⟩⟩
    ·rw [BK<|by simpa using e]
     by_cases e2:bc+1>=mg
     ·rw [BL e2];exact BZ ⟨s2,.inr ⟨_,_,_,_,_,rfl,g',g1,by omega,by omega⟩⟩
     ·rw [BK e2];exact BZ ⟨s2,_,_,_,_,_,rfl,g',g1,by omega,by omega⟩
   | false=>
    dsimp only
    rw [BK Ba];refine BW<|dS hx ?_;have g':=gC g dC iR<|flip kg kd (CJ<|apart x ke y kh) hr
    by_cases e:bW+1+1=a.size
    ·rw [BL<|by simpa using e];exact BZ ⟨s2,.inl ⟨_,_,rfl,i8 g' e<|by omega⟩⟩
    ·rw [BK<|by simpa using e]
     by_cases e2:ac+1>=mg
     ·rw [BL e2];exact BZ ⟨s2,.inr ⟨_,_,_,_,_,rfl,g',by omega,by omega,by omega⟩⟩
     ·rw [BK e2];exact BZ ⟨s2,_,_,_,_,_,rfl,g',by omega,by omega,by omega⟩
  ·rintro c bz ⟨s2,o,bW,bU,ac,bc,rfl,g,g1,g2,g3⟩;omega
  ·exact⟨ss,_,_,_,_,_,rfl,h,h1,h2,Ai _⟩
  rintro c bz ⟨s2,⟨o,x,rfl,hm⟩ | ⟨o,bW,bU,ac,bc,rfl,g,g1,g2,g3⟩⟩
  ·exact BZ ⟨s2,o,_,rfl,hm⟩
  dsimp only
  refine BW<|su ?_;refine BW<|FQ (Q:=λc ag=>aN st ag/\((∃ o x,c=(some o,x)/\Md r a.toList b.toList o.toList)\/∃ o bW bU mg ac bc,c=(none,o,bW,bU,mg,ac,bc)/\MI r a.toList b.toList o.toList bW bU/\bW+1 < a.size/\bU < b.size/\ia+ib < bW+bU)) (DR (λj c ag=>aN st ag/\∃ o bW bU mg ac bc,c=(none,o,bW,bU,mg,ac,bc)/\MI r a.toList b.toList o.toList bW bU/\bW+1 < a.size/\bU < b.size/\ia+ib+j < bW+bU) ?_ ?_ ?_) ?_
  ·rintro j c bD _ hj ⟨s3,o,bW,bU,mg,ac,bc,rfl,g,g1,g2,g3⟩
   dsimp only
   obtain⟨y,hy,iR,kg,kh⟩:=qv bU<|by omega
   by_cases wR:mg > 1
   case' pos=>rw [BL wR]
   case' neg=>rw [BK wR]
   all_goals
    refine BW<|zZ s3 λpc s4=>?_;refine BW<|dS hy ?_;refine BW<|sr O (s4.1.trans hk) kg (by omega) (by omega) (λi x h1 h2=>⟨P.mem _<|Bi _<|k6 h2,apart x (k6 h2) y kh⟩) (λi j x y h1 h2 h3 h4=>pw P.sa (by omega) h3 h4) λk ck=>?_
    dsimp only
    have lo:=KI ck;have hi:∀ x∈a.toList.drop (bW+k),r y x=true:=λx hx=>flip (P.mem _<|Bi _<|Cb hx) kg (apart x (Cb hx) y kh) (Tp ck (by omega) x hx);have gk:MI r a.toList b.toList (o++a.extract bW (bW+k)).toList (bW+k) bU:=by
     rw [Bw,To];exact g.fJ P λx hx v hv=>ahead O iR P.sb (lo x hx) hv
    have kle:=ck.le
    rcases Nat.eq_zero_or_pos k with ek | ek
    case' inl=>
     subst ek;rw [BK<|Cu 0];obtain⟨o2,fQ⟩:∃ o2,o2=o:=⟨_,rfl⟩;obtain⟨jt,mJ⟩:∃ jt,jt=bW:=⟨_,rfl⟩;rw [<- fQ,<- mJ];rw [<- fQ,<- mJ] at g;rw [Fh,<- mJ] at hi;have b1:jt+1 < a.size:=by omega
     have b3:bW<=jt:=by omega
     clear gk fQ mJ
    case' inr=>
     rw [BL ek]
     by_cases e1:bW+k+1=a.size
     case' pos=>
      rw [BL<|by simpa using e1];exact BZ ⟨s4,.inl ⟨_,_,rfl,i8 gk e1<|by omega⟩⟩
     case' neg=>
      rw [BK<|by simpa using e1]
      by_cases e2:bW+k=a.size
      case' pos=>
       rw [BL<|by simpa using e2];exact BZ ⟨s4,.inl ⟨_,_,rfl,by rw [e2];exact eS (by rw [e2] at gk;exact gk)<|by omega⟩⟩
      case' neg=>
       rw [BK<|by simpa using e2];clear g;have g:=gk;clear gk;obtain⟨o2,fQ⟩:∃ o2,o2=o++a.extract bW (bW+k):=⟨_,rfl⟩;obtain⟨jt,mJ⟩:∃ jt,jt=bW+k:=⟨_,rfl⟩;rw [<- fQ,<- mJ];rw [<- fQ,<- mJ] at g;rw [<- mJ] at hi;have b1:jt+1 < a.size:=by omega
       have b3:bW<=jt:=by omega
       clear fQ mJ
    all_goals
     refine BW<|dS hy ?_;have g5:=qz g iR hi
     by_cases e3:bU+1=b.size
     ·rw [BL<|by simpa using e3];exact BZ ⟨s4,.inl ⟨_,_,rfl,by rw [e3];exact dU (by rw [<- e3];exact g5)<|by omega⟩⟩
     rw [BK<|by simpa using e3];obtain⟨x,hx,dC,kd,ke⟩:=og jt (by omega);refine BW<|dS hx ?_;refine BW<|sr O (s4.1.trans hk) kd (by omega) (by omega) (λi y h1 h2=>⟨P.mem _<|Bb _<|k6 h2,CJ<|apart x ke y<|k6 h2⟩) (λi j x y h1 h2 h3 h4=>pw P.sb (by omega) h3 h4) λk2 qC=>?_
     dsimp only
     have oh:=KI qC;have iB:∀ y∈b.toList.drop (bU+1+k2),r x y=true:=λy hy=>flip (P.mem _<|Bb _<|Cb hy) kd (CJ<|apart x ke y<|Cb hy) (Tp qC (by omega) y hy);have ju:MI r a.toList b.toList (o2.push y++b.extract (bU+1) (bU+1+k2)).toList jt (bU+1+k2):=by
      rw [Bw,To];exact g5.eQ P λy hy v hv=>ahead O dC P.sa (oh y hy) hv
     have wU:=qC.le
     rcases Nat.eq_zero_or_pos k2 with sA | sA
     case' inl=>
      subst sA;rw [BK<|Cu 0];obtain⟨o3,ie⟩:∃ o3,o3=o2.push y:=⟨_,rfl⟩;obtain⟨mK,mL⟩:∃ mK,mK=bU+1:=⟨_,rfl⟩;rw [<- ie,<- mL];rw [<- ie,<- mL] at g5;rw [Fh,<- mL] at iB;have b5:mK < b.size:=by omega
      have b6:bU < mK:=by omega
      clear ju ie mL
     case' inr=>
      rw [BL sA]
      by_cases e1:bU+1+k2=b.size
      case' pos=>
       rw [BL<|by simpa using e1];exact BZ ⟨s4,.inl ⟨_,_,rfl,by rw [e1];exact dU (by rw [e1] at ju;exact ju)<|by omega⟩⟩
      case' neg=>
       rw [BK<|by simpa using e1];clear g5;have g5:=ju;clear ju;obtain⟨o3,ie⟩:∃ o3,o3=o2.push y++b.extract (bU+1) (bU+1+k2):=⟨_,rfl⟩;obtain⟨mK,mL⟩:∃ mK,mK=bU+1+k2:=⟨_,rfl⟩;rw [<- ie,<- mL];rw [<- ie,<- mL] at g5;rw [<- mL] at iB;have b5:mK < b.size:=by omega
       have b6:bU < mK:=by omega
       clear ie mL
     all_goals
      refine BW<|dS hx ?_;have g6:=qw g5 dC iB
      by_cases e4:jt+1+1=a.size
      ·rw [BL<|by simpa using e4];exact BZ ⟨s4,.inl ⟨_,_,rfl,i8 g6 e4<|by omega⟩⟩
      rw [BK<|by simpa using e4]
      split
      ·exact BZ ⟨s4,.inr ⟨_,_,_,_,_,_,rfl,g6,by omega,by omega,by omega⟩⟩
      ·exact BZ ⟨s4,_,_,_,_,_,_,rfl,g6,by omega,by omega,by omega⟩
  ·rintro c bD ⟨s3,o,bW,bU,mg,ac,bc,rfl,g,g1,g2,g3⟩;omega
  ·exact⟨s2,_,_,_,_,_,_,rfl,g,g1,g2,g3⟩
  rintro c bD ⟨s3,⟨o,x,rfl,hm⟩ | ⟨o,bW,bU,mg,ac,bc,rfl,g,g1,g2,g3⟩⟩
  ·exact BZ ⟨s3,o,_,rfl,hm⟩
  dsimp only
  refine BW<|zZ s3 λpc s4=>?_;exact BZ ⟨s4,_,_,_,_,rfl,g,g1,g2,by omega⟩
 ·rintro c ag ⟨_,o,ia,ib,mg,rfl,h,h1,h2,h3⟩;omega
 ·exact⟨aN.refl _,_,_,_,_,rfl,start,by omega,by omega,by omega⟩
 ·rintro c ag ⟨ss,o,x,rfl,hm⟩;exact BZ<|hQ _ _ hm ss
end
structure MH(r:Keyed->Keyed->Bool)(la lb o:List Keyed)(na nb:Nat):Prop where
 perm:o.Perm<|la.drop na++lb.drop nb
 cV:o.Pairwise λx y=>r x y=true
 lt:∀ x∈la.take na++lb.take nb,∀ y∈o,r x y=true
section
variable{prog:Program}{w:World}{A:Around}{E:Value->Shared->Prop}{s:Shared}{κ:SortKind}{a₀:List Keyed}{r:Keyed->Keyed->Bool}{la lb o:List Keyed}{na nb k:Nat}
theorem wV(l:List Keyed){k n:Nat}(hk:k<=n)(hn:n<=l.length):l.drop k=(l.take n).drop k++l.drop n:=by
 conv=>lhs;rw [<- Ct n l]
 rw [List.drop_append_of_le_length<|by rw [Bm];omega]
theorem sC(l:List Keyed){k n:Nat}(hk:k<=n):l.take n=l.take k++(l.take n).drop k:=by
 conv=>lhs;rw [<- Ct k<|l.take n,TJ,Ep hk]
theorem MH.fJ(sa:la.Pairwise λx y=>r x y=true)(h:MH r la lb o na nb)(hk:k<=na)(hn:na<=la.length)(hx:∀ x∈(la.take na).drop k,∀ y∈lb.take nb,r y x=true):MH r la lb ((la.take na).drop k++o) k nb:=by
 have st:(la.take na).Pairwise λx y=>r x y=true:=sa.sublist<|Dx _ _;have sp:=st;rw [sC la hk,Cp] at sp;refine⟨?_,Cp.mpr ⟨sp.2.1,h.cV,λx eI y hy=>h.lt x (Bi _<|Cb eI) y hy⟩,λx eI y hy=>?_⟩
 ·rw [wV la hk hn,Bf];exact h.perm.append_left _
 ·rcases Ao.mp eI with q | q
  ·rcases Ao.mp hy with p | p
   ·exact sp.2.2 x q y p
   ·exact h.lt x (Bi _<|by rw [sC la hk];exact Bi _ q) y p
  ·rcases Ao.mp hy with p | p
   ·exact hx y p x q
   ·exact h.lt x (Bb _ q) y p
theorem MH.eQ(sb:lb.Pairwise λx y=>r x y=true)(h:MH r la lb o na nb)(hk:k<=nb)(hn:nb<=lb.length)(hx:∀ x∈(lb.take nb).drop k,∀ y∈la.take na,r y x=true):MH r la lb ((lb.take nb).drop k++o) na k:=by
 have st:(lb.take nb).Pairwise λx y=>r x y=true:=sb.sublist<|Dx _ _;have sp:=st;rw [sC lb hk,Cp] at sp;refine⟨?_,Cp.mpr ⟨sp.2.1,h.cV,λx eI y hy=>h.lt x (Bb _<|Cb eI) y hy⟩,λx eI y hy=>?_⟩
 ·rw [wV lb hk hn];refine(h.perm.append_left _).trans ?_;rw [<- Bf,<- Bf];exact List.perm_append_comm.append_right _
 ·rcases Ao.mp eI with q | q
  ·rcases Ao.mp hy with p | p
   ·exact hx y p x q
   ·exact h.lt x (Bi _ q) y p
  ·rcases Ao.mp hy with p | p
   ·exact sp.2.2 x q y p
   ·exact h.lt x (Bb _<|by rw [sC lb hk];exact Bi _ q) y p
theorem MH.fin(h:MH r la lb o 0 0):Md r la lb o:=⟨h.perm,h.cV⟩
theorem MH.eS(sb:lb.Pairwise λx y=>r x y=true)(h:MH r la lb o 0 nb)(hn:nb<=lb.length):Md r la lb (la.take 0++lb.take nb++o):=(h.eQ sb (k:=0) (Bn _) hn λx _ y hy=>by cases hy).fin
theorem MH.dU(sa:la.Pairwise λx y=>r x y=true)(h:MH r la lb o na 0)(hn:na<=la.length):Md r la lb (la.take na++lb.take 0++o):=by
 rw [List.take_zero,Be];exact(h.fJ sa (k:=0) (Bn _) hn λx _ y hy=>by cases hy).fin
theorem MH.ja(sa:la.Pairwise λx y=>r x y=true)(sb:lb.Pairwise λx y=>r x y=true)(h:MH r la lb o na 1)(hn:na<=la.length)(h1:1<=lb.length)(hf:∀ y∈lb.take 1,∀ x∈la,r y x=true):Md r la lb (lb.take 1++la.take na++o):=by
 have g:=h.fJ sa (k:=0) (Bn _) hn λx hx y hy=>hf y hy x<|Co hx;have g2:=(g.eQ sb (k:=0) (Bn _) h1 λx _ y hy=>by cases hy).fin;rw [Bf];exact g2
theorem k8(a:Array Keyed)(k n:Nat):(a.extract k n).toList=(a.toList.take n).drop k:=by
 rw [Fi,Gh,List.drop_take]
theorem KO{l:List Keyed}{i:Nat}{x:Keyed}(h:l[i]?=some x):(l.take<|i+1).drop i=[x]:=by
 obtain⟨hi,e⟩:=Ab.mp h;rw [List.drop_take,show i+1 - i=1 by omega];exact k4 h
theorem k96{l:List Keyed}{i:Nat}{x y:Keyed}(h:l[i]?=some x)(sl:l.Pairwise λx y=>r x y=true)(hy:y∈l.take (i+1)):y=x\/r y x=true:=by
 have e:=sC l (k:=i) (n:=i+1) (by omega);rw [KO h] at e;have sd:(l.take<|i+1).Pairwise λx y=>r x y=true:=sl.sublist<|Dx _ _;rw [e] at hy sd
 rcases Ao.mp hy with q | q
 ·exact .inr<|(Cp.mp sd).2.2 y q x<|Ae.mpr rfl
 ·exact .inl<|Ae.mp q
theorem behind(O:Ord prog w A E s κ a₀ r){l:List Keyed}{i:Nat}{x y z:Keyed}(h:l[i]?=some y)(sl:l.Pairwise λx y=>r x y=true)(hx:r y x=true)(hz:z∈l.take (i+1)):r z x=true:=by
 rcases k96 h sl hz with rfl | q
 ·exact hx
 ·exact O.iJ _ _ _ q hx
theorem Tr{key:Keyed}{a:Array Keyed}{n k:Nat}(h:wN r key a 0 n k):∀ x∈a.toList.take k,r x key=true:=λx hx=>KI h x hx
theorem Ts{key:Keyed}{a:Array Keyed}{n k:Nat}(h:wN r key a 0 n k):∀ x∈(a.toList.take n).drop k,r x key=false:=λx hx=>by
 obtain⟨i,hi,e⟩:=Do hx;rw [Cz,Bm] at hi;refine h.hi (k+i) x (by omega) (by omega) ?_;rw [<- Ap,<- e,Ga,Fz,Dy];exact Aa _
theorem k2m{a b:Array Keyed}{Q:Array Keyed->SortSt->Prop}{st:SortSt}(P:Pre prog w A E s κ a₀ r a.toList b.toList)(hk:kindOf st=κ)(ha:0 < a.size)(hb:0 < b.size)(h0:∀ x y,a[0]?=some x->b[0]?=some y->r y x=true)(hl:∀ x,a[a.size - 1]?=some x->∀ y∈b.toList,r y x=true)
  (hQ:∀ o ag,Md r a.toList b.toList o.toList->aN st ag->Q o ag):wpS (model prog w) A E s (Tj a b) Q st:=by
 have O:=P.ord;have al:a.toList.length=a.size:=Al;have bl:b.toList.length=b.size:=Al;have og:∀ i,i < a.size->∃ x,a[i]?=some x/\a.toList[i]?=some x/\x∈a₀/\x∈a.toList:=λi hi=>⟨a[i],Bg hi,by rw [Ap];exact Bg hi,P.mem _ (Bi _<|by simp),by simp⟩;have qv:∀ i,i < b.size->∃ x,b[i]?=some x/\b.toList[i]?=some x/\x∈a₀/\x∈b.toList:=λi hi=>⟨b[i],Bg hi,by rw [Ap];exact Bg hi,P.mem _ (Bb _<|by simp),by simp⟩;have apart:∀ x∈a.toList,∀ y∈b.toList,x≠y:=(Dq.mp P.nd).2.2;have flip:∀{x y:Keyed},x∈a₀->y∈a₀->x≠y->r x y=false->r y x=true:=λ{x y} hx hy ne h=>by
  rcases O.p9 x hx y hy ne with q | q
  ·rw [h] at q;cases q
  ·exact q
 have qD:∀ y∈b.toList.take 1,∀ x∈a.toList,r y x=true:=λy hy x hx=>by
  obtain⟨b0,fV,qA,_,_⟩:=qv 0 hb;obtain⟨a0,KL,qB,_,_⟩:=og 0 ha;rw [show b.toList.take 1=[b0] from k4 qA,Ae] at hy;rw [hy];exact ahead O qB P.sa (h0 _ _ KL fV)<|by rw [List.drop_zero];exact hx
 have eS:∀{o:Array Keyed} {nb:Nat},MH r a.toList b.toList o.toList.reverse 0 nb->nb<=b.size->Md r a.toList b.toList (a.extract 0 0++b.extract 0 nb++o.reverse).toList:=λ{o nb} h hi=>by
  rw [Bw,Bw,k8,k8,Fk];exact h.eS P.sb<|by omega
 have dU:∀{o:Array Keyed} {na:Nat},MH r a.toList b.toList o.toList.reverse na 0->na<=a.size->Md r a.toList b.toList (a.extract 0 na++b.extract 0 0++o.reverse).toList:=λ{o nb} h hi=>by
  rw [Bw,Bw,k8,k8,Fk];exact h.dU P.sa<|by omega
 have ja:∀{o:Array Keyed} {na nb:Nat},MH r a.toList b.toList o.toList.reverse na nb->nb=1->na<=a.size->Md r a.toList b.toList (b.extract 0 nb++a.extract 0 na++o.reverse).toList:=λ{o na nb} h e hi=>by
  subst e;rw [Bw,Bw,k8,k8,Fk];exact h.ja P.sa P.sb (by omega) (by omega) qD
 have gC:∀{o:Array Keyed} {na nb:Nat} {x:Keyed},MH r a.toList b.toList o.toList.reverse na nb->0 < na->na<=a.size->a.toList[na - 1]?=some x->(∀ y∈b.toList.take nb,r y x=true)->MH r a.toList b.toList (o.push x).toList.reverse (na - 1) nb:=λ{o na nb x} h h1 h2 hx hr=>by
  have e:(a.toList.take na).drop (na - 1)=[x]:=by
   have:=KO hx;rw [show na - 1+1=na by omega] at this;exact this
  have:=h.fJ P.sa (k:=na - 1) (by omega) (by omega) λu hu v hv=>by
   rw [e,Ae] at hu;rw [hu];exact hr v hv
  rw [e] at this;rw [Dp,Gj];exact this
 have gE:∀{o:Array Keyed} {na nb:Nat} {y:Keyed},MH r a.toList b.toList o.toList.reverse na nb->0 < nb->nb<=b.size->b.toList[nb - 1]?=some y->(∀ x∈a.toList.take na,r x y=true)->MH r a.toList b.toList (o.push y).toList.reverse na (nb - 1):=λ{o na nb y} h h1 h2 hy hr=>by
  have e:(b.toList.take nb).drop (nb - 1)=[y]:=by
   have:=KO hy;rw [show nb - 1+1=nb by omega] at this;exact this
  have:=h.eQ P.sb (k:=nb - 1) (by omega) (by omega) λu hu v hv=>by
   rw [e,Ae] at hu;rw [hu];exact hr v hv
  rw [e] at this;rw [Dp,Gj];exact this
 have wW:∀{na:Nat} {x y:Keyed},0 < na->a.toList[na - 1]?=some x->r x y=true->∀ z∈a.toList.take na,r z y=true:=λ{na x y} h1 hx hr z hz=>behind O hx P.sa hr (by rw [show na - 1+1=na by omega];exact hz);have wX:∀{nb:Nat} {x y:Keyed},0 < nb->b.toList[nb - 1]?=some y->r y x=true->∀ z∈b.toList.take nb,r z x=true:=λ{nb x y} h1 hx hr z hz=>behind O hx P.sb hr (by rw [show nb - 1+1=nb by omega];exact hz);unfold Tj;refine BW<|su ?_;obtain⟨a1,Tv,KP,_,_⟩:=og (a.size - 1) (by omega);refine BW<|dS Tv ?_;have start:MH r a.toList b.toList (#[a1]:Array Keyed).toList.reverse (a.size - 1) b.size:=by
  have sv:MH r a.toList b.toList (#[]:Array Keyed).toList.reverse a.size b.size:=⟨by rw [<- al,<- bl,Ek,Ek];exact List.Perm.refl _,List.Pairwise.nil,λx _ y h=>by cases h⟩;exact gC sv ha (Ai _) KP λy hy=>hl a1 Tv y<|Co hy
 dsimp only
 by_cases c1:a.size - 1=0
 ·rw [BL<|by rw [c1];rfl];refine BZ<|hQ _ _ ?_<|aN.refl _;rw [c1] at start ⊢;exact eS start<|Ai _
 rw [BK<|by simpa using c1]
 by_cases c2:b.size=1
 ·rw [BL<|by rw [c2];rfl];exact BZ<|hQ _ _ (ja start c2<|by omega)<|aN.refl _
 rw [BK<|by simpa using c2];refine BW<|JW ?_;refine BW<|FQ (Q:=λc ag=>aN st ag/\∃ o x,c=(some o,x)/\Md r a.toList b.toList o.toList) (DR (λi c ag=>aN st ag/\∃ na nb o mg,c=(none,na,nb,o,mg)/\MH r a.toList b.toList o.toList.reverse na nb/\0 < na/\na<=a.size/\1 < nb/\nb<=b.size/\na+nb+i < a.size+b.size) ?_ ?_ ?_) ?_
 ·rintro i c ag _ hi ⟨ss,na,nb,o,mg,rfl,h,h1,h2,h3,h4,h5⟩
  dsimp only
  refine BW<|FQ (Q:=λc ag=>aN st ag/\((∃ o x,c=(some o,x)/\Md r a.toList b.toList o.toList)\/∃ bX bO o ac bc,c=(none,bX,bO,o,ac,bc)/\MH r a.toList b.toList o.toList.reverse bX bO/\0 < bX/\bX<=a.size/\1 < bO/\bO<=b.size/\bX+bO < na+nb)) (DR (λj c ag=>aN st ag/\∃ bX bO o ac bc,c=(none,bX,bO,o,ac,bc)/\MH r a.toList b.toList o.toList.reverse bX bO/\0 < bX/\bX<=a.size/\1 < bO/\bO<=b.size/\bX+bO+j<=na+nb) ?_ ?_ ?_) ?_
  ·rintro j c bz _ hj ⟨s2,bX,bO,o,ac,bc,rfl,g,g1,g2,g3,g4,g5⟩
   dsimp only
   obtain⟨x,hx,dC,kd,ke⟩:=og (bX - 1) (by omega);obtain⟨y,hy,iR,kg,kh⟩:=qv (bO - 1) (by omega);refine BW<|dS hy ?_;refine BW<|dS hx ?_;refine BW<|O.ask y x bz _ kg kd (CJ<|apart x ke y kh) (s2.1.trans hk) ?_;cases hr:r y x with
   | true=>
    dsimp only
    rw [BL rfl];refine BW<|dS hx ?_;have g':=gC g g1 g2 dC<|wX (by omega) iR hr
    by_cases e:bX - 1=0
    ·rw [BL<|by simpa using e];exact BZ ⟨s2,.inl ⟨_,_,rfl,by rw [e] at g' ⊢;exact eS g'<|by omega⟩⟩
    ·rw [BK<|by simpa using e]
     by_cases e2:ac+1>=mg
     ·rw [BL e2];exact BZ ⟨s2,.inr ⟨_,_,_,_,_,rfl,g',by omega,by omega,g3,g4,by omega⟩⟩
     ·rw [BK e2];exact BZ ⟨s2,_,_,_,_,_,rfl,g',by omega,by omega,g3,g4,by omega⟩
   | false=>
    dsimp only
    rw [BK Ba];refine BW<|dS hy ?_;have g':=gE g (by omega) g4 iR<|wW g1 dC<|flip kg kd (CJ<|apart x ke y kh) hr
    by_cases e:bO - 1=1
    ·rw [BL<|by simpa using e];exact BZ ⟨s2,.inl ⟨_,_,rfl,ja g' e<|by omega⟩⟩
    ·rw [BK<|by simpa using e]
     by_cases e2:bc+1>=mg
     ·rw [BL e2];exact BZ ⟨s2,.inr ⟨_,_,_,_,_,rfl,g',by omega,by omega,by omega,by omega,by omega⟩⟩
     ·rw [BK e2];exact BZ ⟨s2,_,_,_,_,_,rfl,g',by omega,by omega,by omega,by omega,by omega⟩
  ·rintro c bz ⟨s2,bX,bO,o,ac,bc,rfl,g,g1,g2,g3,g4,g5⟩;omega
  ·exact⟨ss,_,_,_,_,_,rfl,h,h1,h2,h3,h4,Ai _⟩
  rintro c bz ⟨s2,⟨o,x,rfl,hm⟩ | ⟨bX,bO,o,ac,bc,rfl,g,g1,g2,g3,g4,g5⟩⟩
  ·exact BZ ⟨s2,o,_,rfl,hm⟩
  dsimp only
  refine BW<|su ?_;refine BW<|FQ (Q:=λc ag=>aN st ag/\((∃ o x,c=(some o,x)/\Md r a.toList b.toList o.toList)\/∃ bX bO o mg ac bc,c=(none,bX,bO,o,mg,ac,bc)/\MH r a.toList b.toList o.toList.reverse bX bO/\0 < bX/\bX<=a.size/\1 < bO/\bO<=b.size/\bX+bO < na+nb)) (DR (λj c ag=>aN st ag/\∃ bX bO o mg ac bc,c=(none,bX,bO,o,mg,ac,bc)/\MH r a.toList b.toList o.toList.reverse bX bO/\0 < bX/\bX<=a.size/\1 < bO/\bO<=b.size/\bX+bO+j < na+nb) ?_ ?_ ?_) ?_
  ·rintro j c bD _ hj ⟨s3,bX,bO,o,mg,ac,bc,rfl,g,g1,g2,g3,g4,g5⟩
   dsimp only
   obtain⟨y,hy,iR,kg,kh⟩:=qv (bO - 1)<|by omega
   by_cases wR:mg > 1
   case' pos=>rw [BL wR]
   case' neg=>rw [BK wR]
   all_goals
    refine BW<|zZ s3 λpc s4=>?_;refine BW<|dS hy ?_;refine BW<|sr O (s4.1.trans hk) kg (by omega) (by omega) (λi x h1 h2=>⟨P.mem _<|Bi _<|k6 h2,apart x (k6 h2) y kh⟩) (λi j x y h1 h2 h3 h4=>pw P.sa (by omega) h3 h4) λk ck=>?_
    dsimp only
    have lo:=Tr ck;have hi:∀ x∈(a.toList.take bX).drop k,r y x=true:=λx hx=>flip (P.mem _<|Bi _<|Co<|Cb hx) kg (apart x (Co<|Cb hx) y kh)<|Ts ck x hx;have kle:=ck.le;have gk:MH r a.toList b.toList (o++(a.extract k bX).reverse).toList.reverse k bO:=by
     rw [Bw,Fk,Gj,List.reverse_reverse,k8];exact g.fJ P.sa kle (by omega) λx hx v hv=>wX (by omega) iR (hi x hx) v hv
    by_cases ek:bX - k > 0
    case' neg=>
     rw [BK ek];have ekk:k=bX:=by omega
     rw [ekk] at lo;obtain⟨o2,fQ⟩:∃ o2,o2=o:=⟨_,rfl⟩;obtain⟨jv,kj⟩:∃ jv,jv=bX:=⟨_,rfl⟩;rw [<- fQ,<- kj];rw [<- fQ,<- kj] at g;rw [<- kj] at lo;have b1:0 < jv:=by omega
     have b3:jv<=bX:=by omega
     clear gk fQ kj
    case' pos=>
     rw [BL ek]
     by_cases e1:k=0
     case' pos=>
      rw [BL<|by simpa using e1];exact BZ ⟨s4,.inl ⟨_,_,rfl,by rw [e1] at gk ⊢;exact eS gk<|by omega⟩⟩
     case' neg=>
      rw [BK<|by simpa using e1];clear g;have g:=gk;clear gk;obtain⟨o2,fQ⟩:∃ o2,o2=o++(a.extract k bX).reverse:=⟨_,rfl⟩;obtain⟨jv,kj⟩:∃ jv,jv=k:=⟨_,rfl⟩;rw [<- fQ,<- kj];rw [<- fQ,<- kj] at g;rw [<- kj] at lo;have b1:0 < jv:=by omega
      have b3:jv<=bX:=by omega
      clear fQ kj
    all_goals
     refine BW<|dS hy ?_;have g6:=gE g (by omega) g4 iR lo
     by_cases e3:bO - 1=1
     ·rw [BL<|by simpa using e3];exact BZ ⟨s4,.inl ⟨_,_,rfl,ja g6 e3<|by omega⟩⟩
     rw [BK<|by simpa using e3];obtain⟨x,hx,dC,kd,ke⟩:=og (jv - 1) (by omega);refine BW<|dS hx ?_;refine BW<|sr O (s4.1.trans hk) kd (by omega) (by omega) (λi y h1 h2=>⟨P.mem _<|Bb _<|k6 h2,CJ<|apart x ke y<|k6 h2⟩) (λi j x y h1 h2 h3 h4=>pw P.sb (by omega) h3 h4) λk2 qC=>?_
     dsimp only
     have oh:=Tr qC;have iB:∀ y∈(b.toList.take<|bO - 1).drop k2,r x y=true:=λy hy=>flip (P.mem _<|Bb _<|Co<|Cb hy) kd (CJ<|apart x ke y<|Co<|Cb hy)<|Ts qC y hy;have wU:=qC.le;have ju:MH r a.toList b.toList (o2.push y++(b.extract k2<|bO - 1).reverse).toList.reverse jv k2:=by
      rw [Bw,Fk,Gj,List.reverse_reverse,k8];exact g6.eQ P.sb wU (by omega) λy hy v hv=>wW b1 dC (iB y hy) v hv
     by_cases sA:bO - 1 - k2 > 0
     case' neg=>
      rw [BK sA];have KS:k2=bO - 1:=by omega
      rw [KS] at oh;obtain⟨o3,ie⟩:∃ o3,o3=o2.push y:=⟨_,rfl⟩;obtain⟨mM,hnb⟩:∃ mM,mM=bO - 1:=⟨_,rfl⟩;rw [<- ie,<- hnb];rw [<- ie,<- hnb] at g6;rw [<- hnb] at oh;have b5:1 < mM:=by omega
      have b6:mM < bO:=by omega
      clear ju ie hnb
     case' pos=>
      rw [BL sA]
      by_cases e1:k2=1
      case' pos=>
       rw [BL<|by simpa using e1];exact BZ ⟨s4,.inl ⟨_,_,rfl,ja ju e1<|by omega⟩⟩
      case' neg=>
       rw [BK<|by simpa using e1]
       by_cases e5:k2=0
       case' pos=>
        rw [BL<|by simpa using e5];exact BZ ⟨s4,.inl ⟨_,_,rfl,by rw [e5] at ju ⊢;exact dU ju<|by omega⟩⟩
       case' neg=>
        rw [BK<|by simpa using e5];clear g6;have g6:=ju;clear ju;obtain⟨o3,ie⟩:∃ o3,o3=o2.push y++(b.extract k2<|bO - 1).reverse:=⟨_,rfl⟩;obtain⟨mM,hnb⟩:∃ mM,mM=k2:=⟨_,rfl⟩;rw [<- ie,<- hnb];rw [<- ie,<- hnb] at g6;rw [<- hnb] at oh;have b5:1 < mM:=by omega
        have b6:mM < bO:=by omega
        clear ie hnb
     all_goals
      refine BW<|dS hx ?_;have g7:=gC g6 b1 (by omega) dC oh
      by_cases e4:jv - 1=0
      ·rw [BL<|by simpa using e4];exact BZ ⟨s4,.inl ⟨_,_,rfl,by rw [e4] at g7 ⊢;exact eS g7<|by omega⟩⟩
      rw [BK<|by simpa using e4]
      split
      ·exact BZ ⟨s4,.inr ⟨_,_,_,_,_,_,rfl,g7,by omega,by omega,by omega,by omega,by omega⟩⟩
      ·exact BZ ⟨s4,_,_,_,_,_,_,rfl,g7,by omega,by omega,by omega,by omega,by omega⟩
  ·rintro c bD ⟨s3,bX,bO,o,mg,ac,bc,rfl,g,g1,g2,g3,g4,g5⟩;omega
  ·exact⟨s2,_,_,_,_,_,_,rfl,g,g1,g2,g3,g4,g5⟩
  rintro c bD ⟨s3,⟨o,x,rfl,hm⟩ | ⟨bX,bO,o,mg,ac,bc,rfl,g,g1,g2,g3,g4,g5⟩⟩
  ·exact BZ ⟨s3,o,_,rfl,hm⟩
  dsimp only
  refine BW<|zZ s3 λpc s4=>?_;exact BZ ⟨s4,_,_,_,_,rfl,g,g1,g2,g3,g4,by omega⟩
 ·rintro c ag ⟨_,na,nb,o,mg,rfl,h,h1,h2,h3,h4,h5⟩;omega
 ·exact⟨aN.refl _,_,_,_,_,rfl,start,by omega,by omega,by omega,by omega,by omega⟩
 ·rintro c ag ⟨ss,o,x,rfl,hm⟩;exact BZ<|hQ _ _ hm ss
end
def aR(r:Keyed->Keyed->Bool)(a:Array Keyed)(lo hi:Nat):Prop:=∀ i j x y,lo<=i->i < j->j < hi->a[i]?=some x->a[j]?=some y->r x y=true
structure Upd(a a':Array Keyed)(lo hi:Nat):Prop where
 perm:a'.toList.Perm a.toList
 out:∀ i,i < lo\/hi<=i->a'[i]?=a[i]?
theorem Upd.refl(a:Array Keyed)(lo hi:Nat):Upd a a lo hi:=⟨List.Perm.refl _,λ_ _=>rfl⟩
theorem Upd.trans{a b c:Array Keyed}{lo hi:Nat}(h:Upd a b lo hi)(k:Upd b c lo hi):Upd a c lo hi:=⟨k.perm.trans h.perm,λi hi=>(k.out i hi).trans<|h.out i hi⟩
theorem Upd.size{a b:Array Keyed}{lo hi:Nat}(h:Upd a b lo hi):b.size=a.size:=by have:=h.perm.length_eq;rwa [Al,Al] at this
theorem Upd.wide{a b:Array Keyed}{lo hi lf dv:Nat}(h:Upd a b lo hi)(h1:lf<=lo)(h2:hi<=dv):Upd a b lf dv:=⟨h.perm,λi hi=>h.out i<|by omega⟩
theorem aR.upd{r:Keyed->Keyed->Bool}{a b:Array Keyed}{lo hi lf dv:Nat}(h:aR r a lo hi)(u:Upd a b lf dv)(d:hi<=lf\/dv<=lo):aR r b lo hi:=λi j x y h1 h2 h3 h4 h5=>h i j x y h1 h2 h3 (by rw [<- u.out i<|by omega];exact h4)<|by rw [<- u.out j<|by omega];exact h5
section
variable{prog:Program}{w:World}{A:Around}{E:Value->Shared->Prop}{s:Shared}{κ:SortKind}{a₀:List Keyed}{r:Keyed->Keyed->Bool}
structure Bs(κ:SortKind)(a₀:List Keyed)(st:SortSt):Prop where
 kind:kindOf st=κ
 failed:failedOf st=none
 perm:(arrOf st).toList.Perm a₀
theorem q07{st ag:SortSt}{Q:PUnit->SortSt->Prop}{M:Model}(h:Q ⟨⟩ ag):wpS M A E s (set ag:StateT SortSt Sem PUnit) Q st:=by
 unfold wpS;rw [StateT.run_set];exact BP ⟨rfl,h⟩
theorem aR.list{a:Array Keyed}{lo hi:Nat}(h:aR r a lo hi):((a.toList.take hi).drop lo).Pairwise λx y=>r x y=true:=by
 rw [Bc];intro i j h1 h2 di;rw [Cz,Bm] at h1 h2;refine h (lo+i) (lo+j) _ _ (by omega) (by omega) (by omega) ?_ ?_
 ·rw [Ga,Fz,<- Ap];exact Aa _
 ·rw [Ga,Fz,<- Ap];exact Aa _
theorem aR.ig{a:Array Keyed}{l z t:List Keyed}(e:a.toList=l++z++t)(h:z.Pairwise λx y=>r x y=true):aR r a l.length (l.length+z.length):=by
 intro i j x y h1 h2 h3 h4 h5;rw [<- Ap,e,Bf,Am (by omega),Aj<|by omega] at h4 h5;obtain⟨g1,rfl⟩:=Ab.mp h4;obtain⟨g2,rfl⟩:=Ab.mp h5;exact Bc.mp h _ _ g1 g2<|by omega
theorem Upd.ig{a b:Array Keyed}{l z z' t:List Keyed}(e:a.toList=l++z++t)(e':b.toList=l++z'++t)(h:z'.Perm z):Upd a b l.length (l.length+z.length):=by
 have hl:=h.length_eq;refine⟨by rw [e,e'];exact(h.append_left _).append_right _,λi hi=>?_⟩;rw [<- Ap,<- Ap,e,e',Bf,Bf]
 rcases hi with hi | hi
 ·rw [Aj hi,Aj hi]
 ·rw [Am (by omega),Am (by omega),Am (by omega),Am (by omega),hl]
theorem Tx:∀(m:List Keyed) (a:Array Keyed) (base n:Nat),base+n+m.length<=a.size ->
  ((m.zipIdx n).foldl (λa (x:Keyed×Nat)=>match x with | (p,j)=>a.setIfInBounds (base+j) p) a).toList=a.toList.take (base+n)++m++a.toList.drop (base+n+m.length)
 | [],a,base,n,_=>by
  rw [Be,Ff,Fh,Ct];rfl
 | x :: m,a,base,n,h=>by
  rw [Av] at h;rw [List.zipIdx_cons,Db];have ih:=Tx m (a.setIfInBounds (base+n) x) base (n+1) (by rw [RG];omega);refine ih.trans ?_;have hs:(a.setIfInBounds (base+n) x).toList=a.toList.take (base+n)++x :: a.toList.drop (base+n+1):=by
   rw [QL,List.set_eq_take_append_cons_drop,BL<|by rw [Al];omega]
  have tl:(a.toList.take<|base+n).length=base+n:=by rw [Bm,Al];omega
  rw [hs,<- Nat.add_assoc,Av];have e1:List.take (base+n+1) (a.toList.take (base+n)++x :: a.toList.drop (base+n+1))=a.toList.take (base+n)++[x]:=by
   rw [List.take_append,tl,Da (by omega),show base+n+1 - (base+n)=1 by omega];rfl
  have e2:List.drop (base+n+1+m.length) (a.toList.take (base+n)++x :: a.toList.drop (base+n+1))=a.toList.drop (base+n+(m.length+1)):=by
   rw [List.drop_append,tl,Dl (by omega),show base+n+1+m.length - (base+n)=m.length+1 by omega,List.drop_succ_cons,TF,Du]
   congr 1
   omega
  rw [e1,e2,Bf,Bf,Bf];rfl
theorem seg_at{a:Array Keyed}{lo hi:Nat}{x:Keyed}(h:x∈(a.toList.take hi).drop lo):∃ i,lo<=i/\i < hi/\a[i]?=some x:=by
 obtain⟨i,dv,e⟩:=Do h;rw [Cz,Bm] at dv;refine⟨lo+i,by omega,by omega,?_⟩;rw [<- Ap,<- e,Ga,Fz];exact Aa _
theorem k3c(O:Ord prog w A E s κ a₀ r)(nd:a₀.Nodup){st:SortSt}(B:Bs κ a₀ st){i sa na pw sb nb z0:Nat}{Q:Bool->SortSt->Prop}(e1:(pendingOf st)[i]?=some (sa,na,pw))(e2:(pendingOf st)[i+1]?=some (sb,nb,z0))
  (ya:sb=sa+na) (kj:0 < na) (hnb:0 < nb) (hsz:sb+nb<=(arrOf st).size) (s1:aR r (arrOf st) sa sb) (s2:aR r (arrOf st) sb<|sb+nb)
  (hQ:∀ ag,Bs κ a₀ ag->pendingOf ag=((pendingOf st).setIfInBounds i (sa,na+nb,pw)).eraseIdxIfInBounds (i+1)->Upd (arrOf st) (arrOf ag) sa (sb+nb)->aR r (arrOf ag) sa (sb+nb)->Q true ag):wpS (model prog w) A E s (mergeAt' i) Q st:=by
 obtain⟨κ',a,p,g,f⟩:=st;obtain⟨rfl,rfl,perm⟩:=B;have sF:a.toList.Nodup:=perm.nodup_iff.mpr nd;have fK:∀{i x},a[i]?=some x->x∈a₀:=λ{i x} h=>perm.mem_iff.mp<|k6 h;have uniq:∀{i j x},a[i]?=some x->a[j]?=some x->i=j:=λ{i j x} h1 h2=>by
  rw [<- Ap] at h1 h2;obtain⟨g1,h1⟩:=Ab.mp h1;exact(Fj g1 sF).mp<|by rw [h2];exact Ab.mpr ⟨g1,h1⟩
 have at':∀ i,i < a.size->∃ x,a[i]?=some x:=λi hi=>⟨_,Bg hi⟩;have flip:∀{x y:Keyed},x∈a₀->y∈a₀->x≠y->r x y=false->r y x=true:=λ{x y} hx hy ne h=>by
  rcases O.p9 x hx y hy ne with q | q
  ·rw [h] at q;cases q
  ·exact q
 have sz:sb+nb<=a.size:=hsz;unfold mergeAt';refine BW<|JW ?_;have t3:p[i]?=some (sa,na,pw):=e1;have e2':p[i+1]?=some (sb,nb,z0):=e2
 dsimp only
 rw [t3,e2']
 dsimp only
 refine BW<|q07 ?_;obtain⟨y0,mO⟩:=at' sb (by omega);refine BW<|dS mO ?_;refine BW<|sr O rfl (fK mO) (by omega) kj (λi x h1 h2=>⟨fK h2,λe=>by subst e;have:=uniq h2 mO;omega⟩) (λi j x y h1 h2 h3 h4=>s1 _ _ x y (by omega) (by omega) (by omega) h3 h4) λk ck=>?_
 dsimp only
 have kle:=ck.le;have lo1:∀ i x,sa<=i->i < sa+k->a[i]?=some x->r x y0=true:=λi x h1 h2 h3=>ck.lo (i - sa) x (by omega) (by rw [show sa+(i - sa)=i by omega];exact h3);have oa:∀ i x,sa+k<=i->i < sb->a[i]?=some x->r y0 x=true:=λi x h1 h2 h3=>flip (fK h3) (fK mO) (λe=>by subst e;have:=uniq h3 mO;omega) (ck.hi (i - sa) x (by omega) (by omega)<|by rw [show sa+(i - sa)=i by omega];exact h3);have KU:∀{j z},sb<=j->j < sb+nb->a[j]?=some z->z=y0\/r y0 z=true:=λ{j z} h1 h2 h3=>by
  rcases Nat.eq_or_lt_of_le h1 with e | l
  ·subst e;rw [mO] at h3;exact .inl (Option.some.inj h3).symm
  ·exact .inr<|s2 sb j y0 z (Ai _) l h2 mO h3
 have KW:∀{x j z},r x y0=true->sb<=j->j < sb+nb->a[j]?=some z->r x z=true:=λ{x j z} h h1 h2 h3=>by
  rcases KU h1 h2 h3 with rfl | q
  ·exact h
  ·exact O.iJ _ _ _ h q
 by_cases c1:na - k=0
 ·rw [BL<|by rw [c1];rfl];refine BZ<|hQ _ ⟨rfl,rfl,perm⟩ rfl (Upd.refl _ _ _) λi j x y h1 h2 h3 h4 h5=>?_
  by_cases d1:j < sb
  ·exact s1 i j x y h1 h2 d1 h4 h5
  ·by_cases d2:sb<=i
   ·exact s2 i j x y d2 h2 h3 h4 h5
   ·exact KW (lo1 i x h1 (by omega) h4) (by omega) h3 h5
 rw [BK<|by simpa using c1];obtain⟨xl,mP⟩:=at' (sb - 1) (by omega);refine BW (dS (x:=xl) (by rw [show sa+k+(na - k) - 1=sb - 1 by omega];exact mP) ?_);refine BW<|sr O rfl (fK mP) (by omega) (by omega) (λi x h1 h2=>⟨fK h2,λe=>by subst e;have:=uniq h2 mP;omega⟩) (λi j x y h1 h2 h3 h4=>s2 _ _ x y (by omega) (by omega) (by omega) h3 h4) λn2 cn=>?_
 dsimp only
 have nle:=cn.le;have oh:∀ i x,sb<=i->i < sb+n2->a[i]?=some x->r x xl=true:=λi x h1 h2 h3=>cn.lo (i - sb) x (by omega) (by rw [show sb+(i - sb)=i by omega];exact h3);have iB:∀ i x,sb+n2<=i->i < sb+nb->a[i]?=some x->r xl x=true:=λi x h1 h2 h3=>flip (fK h3) (fK mP) (λe=>by subst e;have:=uniq h3 mP;omega) (cn.hi (i - sb) x (by omega) (by omega)<|by rw [show sb+(i - sb)=i by omega];exact h3);have K0:r y0 xl=true:=oa (sb - 1) xl (by omega) (by omega) mP
 by_cases c2:n2=0
 ·exfalso
  have:=iB sb y0 (by omega) (by omega) mO;rw [O.Ip _ _ K0] at this;cases this
 rw [BK<|by simpa using c2];have ex:(a.extract (sa+k) sb).toList=(a.toList.take sb).drop (sa+k):=k8 _ _ _;have ey:(a.extract sb<|sb+n2).toList=(a.toList.take<|sb+n2).drop sb:=k8 _ _ _;have sx:(a.extract (sa+k) sb).size=na - k:=by rw [Array.size_extract];omega
 have sy:(a.extract sb<|sb+n2).size=n2:=by rw [Array.size_extract];omega
 have pN:(a.extract (sa+k) sb).toList++(a.extract sb<|sb+n2).toList=(a.toList.take<|sb+n2).drop (sa+k):=by
  rw [ex,ey,wV (a.toList.take<|sb+n2) (k:=sa+k) (n:=sb) (by omega) (by rw [Bm,Al];omega),TJ,Ep<|by omega]
 have P:Pre prog w A E s κ' a₀ r (a.extract (sa+k) sb).toList (a.extract sb<|sb+n2).toList:=by
  refine⟨O,λx hx=>?_,?_,?_,?_⟩
  ·rw [pN] at hx;exact perm.mem_iff.mp<|Co<|Cb hx
  ·rw [pN];exact sF.sublist<|(Fy _ _).trans<|Dx _ _
  ·rw [ex];exact aR.list λi j x y h1 h2 h3 h4 h5=>s1 i j x y (by omega) h2 h3 h4 h5
  ·rw [ey];exact aR.list λi j x y h1 h2 h3 h4 h5=>s2 i j x y (by omega) h2 (by omega) h4 h5
 have Tz:∀ x y,(a.extract (sa+k) sb)[0]?=some x->(a.extract sb<|sb+n2)[0]?=some y->r y x=true:=λx y h1 h2=>by
  rw [He,BL<|by omega] at h1 h2;have jG:a[sb]?=some y:=h2;rw [mO] at jG;cases jG;exact oa (sa+k) x (by omega) (by omega) h1
 have TB:∀ x,(a.extract (sa+k) sb)[(a.extract (sa+k) sb).size - 1]?=some x->∀ y∈(a.extract sb<|sb+n2).toList,r y x=true:=λx h1 y hy=>by
  rw [sx,He,BL (by omega),show sa+k+(na - k - 1)=sb - 1 by omega,mP] at h1;cases h1;obtain⟨j,hj,e⟩:=Do hy;rw [Al,sy] at hj;refine oh (sb+j) y (by omega) (by omega) ?_;have:(a.extract sb<|sb+n2)[j]?=some y:=by rw [<- Ap,<- e];exact Aa _
  rw [He,BL<|by omega] at this;exact this
 have fin:∀(m:Array Keyed) (ag:SortSt),Md r (a.extract (sa+k) sb).toList (a.extract sb<|sb+n2).toList m.toList->aN (SortSt.mk' κ' a ((p.setIfInBounds i (sa,na+nb,pw)).eraseIdxIfInBounds<|i+1) g none) ag ->
   Q true (setArr ag<|m.toList.zipIdx.foldl (λa (x:Keyed×Nat)=>match x with | (p,j)=>a.setIfInBounds (sa+k+j) p)<|arrOf ag):=λm ag hm hs=>by
  obtain⟨q1,q2,q3,q4⟩:=hs;rw [show arrOf ag=a from q2];have ml:m.toList.length=na - k+n2:=by
   have:=hm.perm.length_eq;rw [Ad,Al,Al,Al,sx,sy] at this;rw [Al];exact this
  have ea:=Tx m.toList a (sa+k) 0 (by omega);generalize hb:m.toList.zipIdx.foldl (λa (x:Keyed×Nat)=>match x with | (p,j)=>a.setIfInBounds (sa+k+j) p) a=b at ea ⊢;rw [Fh,ml,show sa+k+(na - k+n2)=sb+n2 by omega] at ea;have tl:(a.toList.take sa).length=sa:=by rw [Bm,Al];omega
  have eT:a.toList.take (sa+k)=a.toList.take sa++(a.toList.take<|sa+k).drop sa:=sC _ (by omega);have eD:a.toList.drop (sb+n2)=(a.toList.take<|sb+nb).drop (sb+n2)++a.toList.drop (sb+nb):=wV _ (by omega) (by rw [Al];omega);have eM:a.toList=a.toList.take (sa+k)++((a.toList.take<|sb+n2).drop (sa+k)++a.toList.drop (sb+n2)):=by
   rw [<- wV _ (by omega) (by rw [Al];omega),Ct]
  have pm:m.toList.Perm ((a.toList.take<|sb+n2).drop<|sa+k):=by rw [<- pN];exact hm.perm
  have wY:∀ x∈(a.toList.take<|sa+k).drop sa,∃ i,sa<=i/\i < sa+k/\a[i]?=some x:=λx hx=>seg_at hx;have TC:∀ x∈m.toList,∃ i,sa+k<=i/\i < sb+n2/\a[i]?=some x:=λx hx=>seg_at<|pm.mem_iff.mp hx;have K1:∀ x∈(a.toList.take<|sb+nb).drop (sb+n2),∃ i,sb+n2<=i/\i < sb+nb/\a[i]?=some x:=λx hx=>seg_at hx;have sX1:((a.toList.take<|sa+k).drop sa).Pairwise λx y=>r x y=true:=aR.list λi j x y h1 h2 h3 h4 h5=>s1 i j x y (by omega) h2 (by omega) h4 h5;have sY2:((a.toList.take<|sb+nb).drop<|sb+n2).Pairwise λx y=>r x y=true:=aR.list λi j x y h1 h2 h3 h4 h5=>s2 i j x y (by omega) h2 (by omega) h4 h5;have TD:((a.toList.take<|sa+k).drop sa).length=k:=by rw [Cz,Bm,Al];omega
  have TH:((a.toList.take<|sb+nb).drop<|sb+n2).length=nb - n2:=by rw [Cz,Bm,Al];omega
  have lM:((a.toList.take<|sb+n2).drop<|sa+k).length=na - k+n2:=by rw [<- pm.length_eq,ml]
  generalize (a.toList.take<|sa+k).drop sa=X1 at *;generalize (a.toList.take<|sb+nb).drop (sb+n2)=Y2 at *;generalize (a.toList.take<|sb+n2).drop (sa+k)=M at *;have eb:b.toList=a.toList.take sa++(X1++m.toList++Y2)++a.toList.drop (sb+nb):=by
   rw [ea,eT,eD];simp only [Bf]
  have eaa:a.toList=a.toList.take sa++(X1++M++Y2)++a.toList.drop (sb+nb):=by
   refine eM.trans ?_;rw [eT,eD];simp only [Bf]
  have u:=Upd.ig eaa eb<|(pm.append_left X1).append_right Y2;have so:=aR.ig (r:=r) eb (Cp.mpr ⟨Cp.mpr ⟨sX1,hm.cV,λx hx y hy=>by
   obtain⟨i,i1,i2,i3⟩:=wY x hx;obtain⟨j,j1,j2,j3⟩:=TC y hy
   by_cases d:j < sb
   ·exact s1 i j x y i1 (by omega) d i3 j3
   ·exact KW (lo1 i x i1 i2 i3) (by omega) (by omega) j3⟩,sY2,λx hx y hy=>by
   obtain⟨j,j1,j2,j3⟩:=K1 y hy
   rcases Ao.mp hx with hx | hx
   ·obtain⟨i,i1,i2,i3⟩:=wY x hx;exact KW (lo1 i x i1 i2 i3) (by omega) (by omega) j3
   ·obtain⟨i,i1,i2,i3⟩:=TC x hx
    by_cases d:i < sb
    ·have q:=iB j y j1 j2 j3
     by_cases d2:i=sb - 1
     ·subst d2;rw [mP] at i3;cases i3;exact q
     ·exact O.iJ _ _ _ (s1 i (sb - 1) x xl (by omega) (by omega) (by omega) i3 mP) q
    ·exact s2 i j x y (by omega) (by omega) (by omega) i3 j3⟩)
  rw [Ad,Ad,TD,TH,lM,tl,show sa+(k+(na - k+n2)+(nb - n2))=sb+nb by omega] at u;rw [Ad,Ad,TD,TH,ml,tl,show sa+(k+(na - k+n2)+(nb - n2))=sb+nb by omega] at so;exact hQ _ ⟨q1,q4,u.perm.trans perm⟩ q3 u so
 by_cases c3:na - k<=n2
 ·rw [BL c3];refine BW (k2p P rfl (by omega) (by omega) Tz TB λm ag hm hs=>?_);refine BW<|LQ ?_;refine BW<|JW ?_;refine BZ ?_;have:=fin m ag hm hs;have q4:failedOf ag=none:=hs.2.2.2
  dsimp only
  rw [show(failedOf ag).isNone=true by rw [q4];rfl];exact this
 ·rw [BK c3];refine BW (k2m P rfl (by omega) (by omega) Tz TB λm ag hm hs=>?_);refine BW<|LQ ?_;refine BW<|JW ?_;refine BZ ?_;have:=fin m ag hm hs;have q4:failedOf ag=none:=hs.2.2.2
  dsimp only
  rw [show(failedOf ag).isNone=true by rw [q4];rfl];exact this
theorem Bs.fK{st:SortSt}(B:Bs κ a₀ st){i:Nat}{x:Keyed}(h:(arrOf st)[i]?=some x):x∈a₀:=B.perm.mem_iff.mp<|k6 h
theorem Bs.uniq{st:SortSt}(B:Bs κ a₀ st)(nd:a₀.Nodup){i j:Nat}{x:Keyed}(h1:(arrOf st)[i]?=some x)(h2:(arrOf st)[j]?=some x):i=j:=by
 rw [<- Ap] at h1 h2;obtain⟨g1,h1⟩:=Ab.mp h1;exact(Fj g1<|B.perm.nodup_iff.mpr nd).mp<|by rw [h2];exact Ab.mpr ⟨g1,h1⟩
theorem Bs.upd{st:SortSt}(B:Bs κ a₀ st){b:Array Keyed}{lo hi:Nat}(u:Upd (arrOf st) b lo hi):Bs κ a₀ (setArr st b):=⟨B.kind,B.failed,u.perm.trans B.perm⟩
theorem sG(O:Ord prog w A E s κ a₀ r)(nd:a₀.Nodup){st:SortSt}(B:Bs κ a₀ st){i j:Nat}{x y:Keyed}{Q:Option Bool->SortSt->Prop}(hx:(arrOf st)[i]?=some x)(hy:(arrOf st)[j]?=some y)(ne:i≠j)(h:Q (some<|r x y) st):wpS (model prog w) A E s (ltAt' i j) Q st:=by
 rw [ltAt'_eq];refine BW<|JW ?_;refine BW<|dS hx ?_;refine BW<|dS hy ?_;exact O.ask x y st Q (B.fK hx) (B.fK hy) (λe=>ne<|by subst e;exact B.uniq nd hx hy) B.kind h
theorem Ord.flip(O:Ord prog w A E s κ a₀ r){x y:Keyed}(hx:x∈a₀)(hy:y∈a₀)(ne:x≠y)(h:r x y=false):r y x=true:=by
 rcases O.p9 x hx y hy ne with q | q
 ·rw [h] at q;cases q
 ·exact q
theorem aR.more(O:Ord prog w A E s κ a₀ r){a:Array Keyed}{lo n:Nat}{x y:Keyed}(h:aR r a lo n)(hn:lo < n)(hx:a[n - 1]?=some x)(hy:a[n]?=some y)(hr:r x y=true):aR r a lo (n+1):=by
 intro i j u v h1 h2 h3 h4 h5
 by_cases d:j < n
 ·exact h i j u v h1 h2 d h4 h5
 ·obtain rfl:j=n:=by omega
  rw [hy] at h5;cases h5
  by_cases d2:i=j - 1
  ·subst d2;rw [hx] at h4;cases h4;exact hr
  ·exact O.iJ _ _ _ (h i (j - 1) u x h1 (by omega) (by omega) h4 hx) hr
def qF(r:Keyed->Keyed->Bool)(a:Array Keyed)(lo hi:Nat):Prop:=∀ i j x y,lo<=i->i < j->j < hi->a[i]?=some x->a[j]?=some y->r y x=true
theorem qF.more(O:Ord prog w A E s κ a₀ r){a:Array Keyed}{lo n:Nat}{x y:Keyed}(h:qF r a lo n)(hn:lo < n)(hx:a[n - 1]?=some x)(hy:a[n]?=some y)(hr:r y x=true):qF r a lo (n+1):=by
 intro i j u v h1 h2 h3 h4 h5
 by_cases d:j < n
 ·exact h i j u v h1 h2 d h4 h5
 ·obtain rfl:j=n:=by omega
  rw [hy] at h5;cases h5
  by_cases d2:i=j - 1
  ·subst d2;rw [hx] at h4;cases h4;exact hr
  ·exact O.iJ _ _ _ hr<|h i (j - 1) u x h1 (by omega) (by omega) h4 hx
theorem k26(a:Array Keyed)(lo hi:Nat)(h:hi<=a.size):Upd a (mirror a lo hi<|(hi - lo) / 2) lo hi:=⟨(mirror_perm _ _ _ _).toList,λi dv=>by rw [PK h,BK<|by omega]⟩
theorem qF.mirror{a:Array Keyed}{lo hi:Nat}(h:qF r a lo hi)(hs:hi<=a.size):aR r (mirror a lo hi<|(hi - lo) / 2) lo hi:=by
 intro i j x y h1 h2 h3 h4 h5;rw [PK hs,BL<|by omega] at h4 h5;exact h (lo+hi - 1 - j) (lo+hi - 1 - i) y x (by omega) (by omega) (by omega) h5 h4
theorem k0a(O:Ord prog w A E s κ a₀ r)(nd:a₀.Nodup){st:SortSt}(B:Bs κ a₀ st){lo cS:Nat}{Q:Option Nat->SortSt->Prop}(h1:1<=cS)(hn:lo+cS<=(arrOf st).size)
  (hQ:∀ m b,1<=m->m<=cS->Upd (arrOf st) b lo (lo+cS)->aR r b lo (lo+m)->Q (some m) (setArr st b)):wpS (model prog w) A E s (countRun' lo cS) Q st:=by
 have at':∀ i,i < (arrOf st).size->∃ x,(arrOf st)[i]?=some x:=λi hi=>⟨_,Bg hi⟩;have wZ:∀ m,1<=m->m<=cS->aR r (arrOf st) lo (lo+m)->Q (some m) st:=λm m1 m2 hs=>hQ m (arrOf st) m1 m2 (Upd.refl _ _ _) hs;unfold countRun';refine BW<|FQ (Q:=λc ag=>st=ag/\∃ n,c=(none,n)/\1<=n/\n<=cS/\aR r (arrOf st) lo (lo+n)/\(n=cS\/∀ x y,(arrOf st)[lo+n - 1]?=some x->(arrOf st)[lo+n]?=some y->r y x=true)) (DR (λi c ag=>st=ag/\c=(none,i)/\1<=i/\i<=cS/\aR r (arrOf st) lo (lo+i)) ?_ ?_ ?_) ?_
 ·rintro i c ag g1 g2 ⟨rfl,rfl,g3,g4,g5⟩
  dsimp only
  obtain⟨y,hy⟩:=at' (lo+i) (by omega);obtain⟨x,hx⟩:=at' (lo+i - 1) (by omega);refine BW (sG O nd B hy hx (by omega) ?_);cases hr:r y x with
  | true=>exact BZ ⟨rfl,i,rfl,g3,g4,g5,.inr λu v hu hv=>by rw [hx] at hu;rw [hy] at hv;cases hu;cases hv;exact hr⟩
  | false=>exact BZ ⟨rfl,rfl,by omega,by omega,g5.more O (by omega) hx hy<|O.flip (B.fK hy) (B.fK hx) (λe=>by subst e;have:=B.uniq nd hx hy;omega) hr⟩
 ·rintro c ag ⟨rfl,rfl,g3,g4,g5⟩;exact⟨rfl,_,rfl,g3,g4,g5,.inl<|by omega⟩
 ·exact⟨rfl,rfl,Ai _,h1,λi j x y q1 q2 q3=>by omega⟩
 rintro c ag ⟨rfl,n,rfl,n1,n2,sn,uo⟩
 dsimp only
 by_cases c1:n=cS
 ·rw [BL<|by simpa using c1];exact BZ<|wZ n n1 n2 sn
 rw [BK<|by simpa using c1];have hd:=uo.resolve_left c1
 by_cases c2:n > 1
 ·rw [BL c2];obtain⟨x,hx⟩:=at' lo (by omega);obtain⟨y,hy⟩:=at' (lo+n - 1) (by omega);refine BW (sG O nd B hx hy (by omega) ?_);rw [sn lo (lo+n - 1) x y (Ai _) (by omega) (by omega) hx hy];exact BZ<|wZ n n1 n2 sn
 rw [BK c2];obtain rfl:n=1:=by omega
 refine BW<|su ?_;refine BW<|FQ (Q:=λc ag=>st=ag/\∃ n,c=(none,n,0)/\1<=n/\n<=cS/\qF r (arrOf st) lo (lo+n)) (DR (λi c ag=>st=ag/\c=(none,i,0)/\1<=i/\i<=cS/\qF r (arrOf st) lo (lo+i)) ?_ ?_ ?_) ?_
 ·rintro i c ag g1 g2 ⟨rfl,rfl,g3,g4,g5⟩
  dsimp only
  obtain⟨y,hy⟩:=at' (lo+i) (by omega);obtain⟨x,hx⟩:=at' (lo+i - 1) (by omega);refine BW (sG O nd B hy hx (by omega) ?_);cases hr:r y x with
  | true=>exact BZ ⟨rfl,rfl,by omega,by omega,g5.more O (by omega) hx hy hr⟩
  | false=>
   dsimp only
   rw [BK Ba];refine BW (sG O nd B hx hy (by omega) ?_);rw [O.flip (B.fK hy) (B.fK hx) (λe=>by subst e;have:=B.uniq nd hx hy;omega) hr];exact BZ ⟨rfl,i,rfl,g3,g4,g5⟩
 ·rintro c ag ⟨rfl,rfl,g3,g4,g5⟩;exact⟨rfl,_,rfl,g3,g4,g5⟩
 ·refine⟨rfl,rfl,by omega,by omega,λi j x y q1 q2 q3 q4 q5=>?_⟩;obtain rfl:i=lo:=by omega
  obtain rfl:j=i+1:=by omega
  exact hd x y q4 q5
 rintro c ag ⟨rfl,n,rfl,n1',n2',dn⟩
 dsimp only
 rw [BK<|Cu 0];refine BW<|wpS_reverse ?_;have u:=k26 (arrOf st) lo (lo+n) (by omega);have sm:=dn.mirror (by omega);generalize mirror (arrOf st) lo (lo+n) ((lo+n - lo) / 2)=b at u sm ⊢;have B':=B.upd u;have sz:=u.size;have at2:∀ i,i < b.size->∃ x,b[i]?=some x:=λi hi=>⟨_,Bg hi⟩;refine BW<|FQ (Q:=λc ag=>setArr st b=ag/\∃ n,c=(none,n)/\1<=n/\n<=cS/\aR r b lo (lo+n)) (DR (λi c ag=>setArr st b=ag/\c=(none,i)/\1<=i/\i<=cS/\aR r b lo (lo+i)) ?_ ?_ ?_) ?_
 ·rintro i c ag g1 g2 ⟨rfl,rfl,g3,g4,g5⟩
  dsimp only
  obtain⟨y,hy⟩:=at2 (lo+i) (by omega);obtain⟨x,hx⟩:=at2 (lo+i - 1) (by omega);refine BW (sG O nd B' hy hx (by omega) ?_);cases hr:r y x with
  | true=>exact BZ ⟨rfl,i,rfl,g3,g4,g5⟩
  | false=>exact BZ ⟨rfl,rfl,by omega,by omega,g5.more O (by omega) hx hy<|O.flip (B'.fK hy) (B'.fK hx) (λe=>by subst e;have:=B'.uniq nd hx hy;omega) hr⟩
 ·rintro c ag ⟨rfl,rfl,g3,g4,g5⟩;exact⟨rfl,_,rfl,g3,g4,g5⟩
 ·exact⟨rfl,rfl,n1',n2',sm⟩
 rintro c ag ⟨rfl,m,rfl,m1,m2,sm'⟩;exact BZ<|hQ m b m1 m2 (u.wide (Ai _)<|by omega) sm'
theorem j6z(O:Ord prog w A E s κ a₀ r)(nd:a₀.Nodup){st:SortSt}(B:Bs κ a₀ st){lo n ok:Nat}{Q:Bool->SortSt->Prop}(h1:ok<=n)(hn:lo+n<=(arrOf st).size)(hs:aR r (arrOf st) lo<|lo+ok)
  (hQ:∀ b,Upd (arrOf st) b lo (lo+n)->aR r b lo (lo+n)->Q true (setArr st b)):wpS (model prog w) A E s (binarySort' lo n ok) Q st:=by
 unfold binarySort';refine BW<|FQ (Q:=λc ag=>∃ b,setArr st b=ag/\c=(none,())/\Upd (arrOf st) b lo (lo+n)/\aR r b lo (lo+n)) (DR (λk c ag=>∃ b,setArr st b=ag/\c=(none,())/\Upd (arrOf st) b lo (lo+n)/\aR r b lo (lo+min k n)) ?_ ?_ ?_) ?_
 ·rintro k c ag k1 k2 ⟨b,rfl,rfl,u,sb⟩;rw [show min k n=k by omega] at sb;have B':=B.upd u;have sz:=u.size;have at2:∀ i,i < b.size->∃ x,b[i]?=some x:=λi hi=>⟨_,Bg hi⟩;obtain⟨y,hy⟩:=at2 (lo+k) (by omega);refine BW<|FQ (Q:=λc ag=>setArr st b=ag/\∃ l,c=(none,l,l)/\l<=k/\(∀ i x,lo<=i->i < lo+l->b[i]?=some x->r x y=true)/\(∀ i x,lo+l<=i->i < lo+k->b[i]?=some x->r y x=true)) (DR (λi c ag=>setArr st b=ag/\∃ l h,c=(none,l,h)/\l<=h/\h<=k/\h - l+i<=k/\(∀ i x,lo<=i->i < lo+l->b[i]?=some x->r x y=true)/\(∀ i x,lo+h<=i->i < lo+k->b[i]?=some x->r y x=true)) ?_ ?_ ?_) ?_
  ·rintro i c ag g1 g2 ⟨rfl,l,h,rfl,g3,g4,g5,g6,g7⟩
   dsimp only
   by_cases c1:l>=h
   ·rw [BL c1];obtain rfl:l=h:=by omega
    exact BZ ⟨rfl,l,rfl,g4,g6,g7⟩
   rw [BK c1];obtain⟨x,hx⟩:=at2 (lo+(l+h) / 2) (by omega);refine BW (sG O nd B' hy hx (by omega) ?_);cases hr:r y x with
   | true=>
    refine BZ ⟨rfl,l,(l+h) / 2,rfl,by omega,by omega,by omega,g6,λj z j1 j2 j3=>?_⟩
    by_cases d:j=lo+(l+h) / 2
    ·subst d;rw [hx] at j3;cases j3;exact hr
    ·exact O.iJ _ _ _ hr<|sb _ j x z (by omega) (by omega) j2 hx j3
   | false=>
    have zB:=O.flip (B'.fK hy) (B'.fK hx) (λe=>by subst e;have:=B'.uniq nd hx hy;omega) hr;refine BZ ⟨rfl,(l+h) / 2+1,h,rfl,by omega,by omega,by omega,λj z j1 j2 j3=>?_,g7⟩
    by_cases d:j=lo+(l+h) / 2
    ·subst d;rw [hx] at j3;cases j3;exact zB
    ·exact O.iJ _ _ _ (sb j _ z x (by omega) (by omega) (by omega) j3 hx) zB
  ·rintro c ag ⟨rfl,l,h,rfl,g3,g4,g5,g6,g7⟩;obtain rfl:l=h:=by omega
   exact⟨rfl,l,rfl,g4,g6,g7⟩
  ·exact⟨rfl,0,k,rfl,by omega,by omega,by omega,λi x q1 q2=>by omega,λi x q1 q2=>by omega⟩
  rintro c ag ⟨rfl,l,rfl,g4,g6,g7⟩
  dsimp only
  have bu:Upd b (bubble b (lo+k)<|lo+k - (lo+l)) lo (lo+n):=⟨(bubble_perm _ _ _).toList,λi hi=>by rw [getElem?_bubble (by omega) _ (by omega),BK (by omega),BK<|by omega]⟩;have bs:aR r (bubble b (lo+k)<|lo+k - (lo+l)) lo (lo+(k+1)):=by
   intro i j x z i1 i2 i3 i4 i5;rw [getElem?_bubble (by omega) _<|by omega] at i4 i5;rw [show lo+k - (lo+k - (lo+l))=lo+l by omega] at i4 i5
   by_cases d1:i=lo+l
   ·rw [BL d1,hy] at i4;cases i4;rw [BK (by omega),BL<|by omega] at i5;exact g7 (j - 1) z (by omega) (by omega) i5
   rw [BK d1] at i4
   by_cases d2:j=lo+l
   ·rw [BL d2,hy] at i5;cases i5;rw [BK<|by omega] at i4;exact g6 i x i1 (by omega) i4
   rw [BK d2] at i5
   by_cases d3:lo+l < i
   ·rw [BL<|by omega] at i4 i5;exact sb (i - 1) (j - 1) x z (by omega) (by omega) (by omega) i4 i5
   rw [BK<|by omega] at i4
   by_cases d4:lo+l < j
   ·rw [BL<|by omega] at i5;exact sb i (j - 1) x z (by omega) (by omega) (by omega) i4 i5
   ·rw [BK<|by omega] at i5;exact sb i j x z (by omega) (by omega) (by omega) i4 i5
  refine BW<|LQ ?_;exact BZ ⟨_,rfl,rfl,u.trans bu,by rw [show min (k+1) n=k+1 by omega];exact bs⟩
 ·rintro c ag ⟨b,rfl,rfl,u,sb⟩;exact⟨b,rfl,rfl,u,by rw [show min (max (max ok 1) n) n=n by omega] at sb;exact sb⟩
 ·refine⟨arrOf st,rfl,rfl,Upd.refl _ _ _,λi j x y q1 q2 q3 q4 q5=>?_⟩
  by_cases d:ok=0
  ·omega
  ·exact hs i j x y q1 q2 (by omega) q4 q5
 ·rintro c ag ⟨b,rfl,rfl,u,sb⟩;exact BZ<|hQ b u sb
end
def Runs(r:Keyed->Keyed->Bool)(a:Array Keyed):Nat->Nat->List (Nat×Nat×Nat)->Prop
 | lo,hi,[]=>lo=hi
 | lo,hi,x :: ps=>x.1=lo/\0 < x.2.1/\aR r a lo (lo+x.2.1)/\Runs r a (lo+x.2.1) hi ps
section
variable{prog:Program}{w:World}{A:Around}{E:Value->Shared->Prop}{s:Shared}{κ:SortKind}{a₀:List Keyed}{r:Keyed->Keyed->Bool}{a b:Array Keyed}
theorem Runs.le:∀{ps:List (Nat×Nat×Nat)} {lo hi:Nat},Runs r a lo hi ps->lo+ps.length<=hi
 | [],lo,hi,h=>TY h
 | x :: ps,lo,hi,h=>by
  have:=Runs.le h.2.2.2;have:=h.2.1;rw [Av];omega
theorem Runs.app:∀{ps qs:List (Nat×Nat×Nat)} {lo hi:Nat},Runs r a lo hi (ps++qs)->∃ m,Runs r a lo m ps/\Runs r a m hi qs
 | [],qs,lo,hi,h=>⟨lo,rfl,h⟩
 | x :: ps,qs,lo,hi,h=>by
  obtain⟨m,h1,h2⟩:=Runs.app (ps:=ps) h.2.2.2;exact⟨m,⟨h.1,h.2.1,h.2.2.1,h1⟩,h2⟩
theorem Runs.cat:∀{ps qs:List (Nat×Nat×Nat)} {lo m hi:Nat},Runs r a lo m ps->Runs r a m hi qs->Runs r a lo hi (ps++qs)
 | [],qs,lo,m,hi,h,k=>by cases h;exact k
 | x :: ps,qs,lo,m,hi,h,k=>⟨h.1,h.2.1,h.2.2.1,Runs.cat h.2.2.2 k⟩
theorem Runs.upd:∀{ps:List (Nat×Nat×Nat)} {lo hi lf dv:Nat},Runs r a lo hi ps->Upd a b lf dv->hi<=lf\/dv<=lo->Runs r b lo hi ps
 | [],lo,hi,lf,dv,h,u,d=>h
 | x :: ps,lo,hi,lf,dv,h,u,d=>by
  have:=Runs.le h.2.2.2;exact⟨h.1,h.2.1,h.2.2.1.upd u (by omega),Runs.upd h.2.2.2 u<|by omega⟩
theorem Runs.same:∀{ps qs:List (Nat×Nat×Nat)} {lo hi:Nat},ps.map (λx=>(x.1,x.2.1))=qs.map (λx=>(x.1,x.2.1))->Runs r a lo hi ps->Runs r a lo hi qs
 | [],[],lo,hi,_,h=>h
 | [],_ :: _,_,_,e,_=>by cases e
 | _ :: _,[],_,_,e,_=>by cases e
 | x :: ps,y :: qs,lo,hi,e,h=>by
  obtain⟨e1,e2⟩:=List.cons.inj e;have q1:x.1=y.1:=(Prod.mk.inj e1).1;have q2:x.2.1=y.2.1:=(Prod.mk.inj e1).2;exact⟨q1 ▸ h.1,q2 ▸ h.2.1,q2 ▸ h.2.2.1,q2 ▸ Runs.same e2 h.2.2.2⟩
theorem Runs.K2{ps:List (Nat×Nat×Nat)}{n:Nat}(h:Runs r a 0 n ps)(hl:ps.length<=1):aR r a 0 n:=by
 match ps,h,hl with
 | [],h,_=>cases h;exact λi j x y h1 h2 h3=>by omega
 | [x],h,_=>
  have e:0+x.2.1=n:=h.2.2.2;have:=h.2.2.1;rw [e] at this;exact this
 | _ :: _ :: _,_,hl=>simp at hl
theorem TK(O:Ord prog w A E s κ a₀ r)(nd:a₀.Nodup){st:SortSt}(B:Bs κ a₀ st){i hi:Nat}{Q:Bool->SortSt->Prop}(oa:i+1 < (pendingOf st).size)(R:Runs r (arrOf st) 0 hi (pendingOf st).toList)(hh:hi<=(arrOf st).size)
  (hQ:∀ ag,Bs κ a₀ ag->Runs r (arrOf ag) 0 hi (pendingOf ag).toList->(pendingOf ag).size+1=(pendingOf st).size->Upd (arrOf st) (arrOf ag) 0 hi->Q true ag):wpS (model prog w) A E s (mergeAt' i) Q st:=by
 have pl:(pendingOf st).toList.length=(pendingOf st).size:=Al;obtain⟨P1,x,y,P2,e,el⟩:∃ P1 x y P2,(pendingOf st).toList=P1++x :: y :: P2/\P1.length=i:=by
  refine⟨(pendingOf st).toList.take i,(pendingOf st).toList[i]'(by omega),(pendingOf st).toList[i+1]'(by omega),(pendingOf st).toList.drop<|i+2,?_,by rw [Bm];omega⟩;rw [<- Cc,<- Cc,Ct]
 have eA:pendingOf st=List.toArray (P1++x :: y :: P2):=by rw [<- e]
 rw [e] at R;obtain⟨m,R1,rfl,x1,x2,y0,y1,y2,R2⟩:=R.app;obtain⟨sa,na,pw⟩:=x;obtain⟨sb,nb,z0⟩:=y;have l1:=R1.le;have l2:=R2.le
 dsimp only at x1 x2 y0 y1 y2 R2 l2 l1 R1
 have g1:(pendingOf st)[i]?=some (sa,na,pw):=by rw [<- Ap,e,Am (by omega),el,Gv];rfl
 have g2:(pendingOf st)[i+1]?=some (sb,nb,z0):=by rw [<- Ap,e,Am (by omega),el,Em];rfl
 refine k3c O nd B g1 g2 y0 x1 y1 (by omega) (by rw [y0];exact x2) (by rw [y0];exact y2) λag B' ep u so=>?_;have TL:(pendingOf ag).toList=P1++(sa,na+nb,pw) :: P2:=by
  rw [ep,Array.toList_eraseIdxIfInBounds,QL,e];subst el;rw [List.set_append_right _ _<|Ai _,Gv,List.set_cons_zero,List.eraseIdx_append_of_length_le (by omega),Em];rfl
 refine hQ ag B' ?_ ?_<|u.wide (Bn _)<|by omega
 ·rw [TL];refine Runs.cat (R1.upd u<|.inl<|Ai _) ⟨rfl,by show 0 < na+nb;omega,?_,?_⟩
  ·show aR r (arrOf ag) sa (sa+(na+nb));rw [show sa+(na+nb)=sb+nb by omega];exact so
  ·show Runs r (arrOf ag) (sa+(na+nb)) hi P2;rw [show sa+(na+nb)=sa+na+nb by omega];exact R2.upd u<|.inr<|by omega
 ·rw [<- Al,TL,<- pl,e,Ad,Ad,Av,Av,Av];rfl
theorem ite_le(c:Prop) [Decidable c] (n:Nat):(if c then n - 1 else n)<=n:=by
 by_cases h:c
 ·rw [BL h];omega
 ·rw [BK h];exact Ai _
theorem k2s{p:Array (Nat×Nat×Nat)}{i:Nat}{f:Nat×Nat×Nat->Nat×Nat×Nat}(hf:∀ x,((f x).1,(f x).2.1)=(x.1,x.2.1)):p.toList.map (λx=>(x.1,x.2.1))=(p.modify i f).toList.map (λx=>(x.1,x.2.1)):=by
 apply Cv;intro j;rw [Array.toList_modify,Ah,Ah,List.getElem?_modify];cases p.toList[j]? with
 | none=>by_cases c:i=j <;> simp [c]
 | some x=>
  by_cases c:i=j
  ·have:(λa:Nat×Nat×Nat=>if i=j then f a else a)=f:=funext λ_=>BL c;rw [this];exact CW some (hf x).symm
  ·have:(λa:Nat×Nat×Nat=>if i=j then f a else a)=id:=funext λ_=>BK c;rw [this];rfl
theorem j93(O:Ord prog w A E s κ a₀ r)(nd:a₀.Nodup){st:SortSt}(B:Bs κ a₀ st)(h0:pendingOf st=#[]){Q:Unit->SortSt->Prop}
  (hQ:∀ ag,Bs κ a₀ ag->aR r (arrOf ag) 0 (arrOf ag).size->Q () ag):wpS (model prog w) A E s sortRuns' Q st:=by
 unfold sortRuns';refine BW<|JW ?_;have w5:∀{ag},Bs κ a₀ ag->(arrOf ag).size=(arrOf st).size:=λ{ag} B'=>by
  have h1:=B'.perm.length_eq;have h2:=B.perm.length_eq;rw [Al] at h1 h2;omega
 generalize hN:(arrOf st).size=N at w5
 dsimp only
 obtain⟨mr,TR⟩:∃ mr,mr=minRun' N N 0:=⟨_,rfl⟩;unfold minRun' at TR;rw [<- TR];refine BW<|FQ (Q:=λc ag=>c=(none,N)/\Bs κ a₀ ag/\Runs r (arrOf ag) 0 N (pendingOf ag).toList) (DR (λi c ag=>∃ lo,c=(none,lo)/\i<=lo/\lo<=N/\Bs κ a₀ ag/\Runs r (arrOf ag) 0 lo (pendingOf ag).toList) ?_ ?_ ?_) ?_
 ·rintro i c ag _ hi ⟨lo,rfl,g1,g2,B',R⟩;have sz:=w5 B'
  dsimp only
  by_cases c1:lo>=N
  ·rw [BL c1];obtain rfl:lo=N:=by omega
   exact BZ ⟨rfl,B',R⟩
  rw [BK c1];refine BW (k0a O nd B' (by omega) (by omega) λm b m1 m2 u so=>?_);have B1:=B'.upd u;have R1:Runs r b 0 lo (pendingOf ag).toList:=R.upd u<|.inl<|Ai _;have hZ:b.size=N:=u.size.trans sz;obtain⟨oj,mQ⟩:∃ oj,oj=setArr ag b:=⟨_,rfl⟩;have a1:arrOf oj=b:=by rw [mQ]
  have p1:pendingOf oj=pendingOf ag:=by rw [mQ]
  rw [<- mQ] at B1 ⊢;rw [<- a1] at R1 so hZ;rw [<- p1] at R1;clear mQ a1 p1 u
  dsimp only
  by_cases c2:m < mr
  case' pos=>
   rw [BL c2];refine BW<|su ?_;refine BW (j6z O nd B1 (by omega) (by omega) so λb2 u2 zR=>?_);have S2:=zR;have n1:1<=min (N - lo) (mr):=by omega
   have n2:lo+min (N - lo) (mr)<=N:=by omega
   have B2:=B1.upd u2;have R2:Runs r b2 0 lo (pendingOf oj).toList:=R1.upd u2<|.inl<|Ai _;obtain⟨bz,eU⟩:∃ bz,bz=setArr oj b2:=⟨_,rfl⟩;have a2:arrOf bz=b2:=by rw [eU]
   have p2:pendingOf bz=pendingOf oj:=by rw [eU]
   rw [<- eU] at B2 ⊢;rw [<- a2,<- p2] at R2;rw [<- a2] at S2;clear eU a2 p2 u2 zR c2;generalize min (N - lo) (mr)=n at S2 n1 n2 ⊢;rw [BK<|by decide]
  case' neg=>
   rw [BK c2];obtain⟨n,hn⟩:∃ n,n=m:=⟨_,rfl⟩;have n1:1<=n:=by omega
   have n2:lo+n<=N:=by omega
   rw [<- hn] at so ⊢;obtain⟨bz,eU⟩:∃ bz,bz=oj:=⟨_,rfl⟩;have B2:Bs κ a₀ bz:=by rw [eU];exact B1
   have R2:Runs r (arrOf bz) 0 lo (pendingOf bz).toList:=by rw [eU];exact R1
   have S2:aR r (arrOf bz) lo (lo+n):=by rw [eU];exact so
   rw [<- eU];clear eU hn
  all_goals
   refine BW<|JW ?_;have push:∀ bD:SortSt,Bs κ a₀ bD->Runs r (arrOf bD) 0 lo (pendingOf bD).toList->aR r (arrOf bD) lo (lo+n)->Runs r (arrOf bD) 0 (lo+n) ((pendingOf bD).push (lo,n,0)).toList:=λbD B3 R3 S3=>by
    rw [Dp];exact R3.cat ⟨rfl,n1,S3,rfl⟩
   cases hb:(pendingOf bz).back? with
   | none=>
    dsimp only
    exact BW<|LQ<|BZ ⟨lo+n,rfl,by omega,n2,⟨B2.kind,B2.failed,B2.perm⟩,push bz B2 R2 S2⟩
   | some q=>
    obtain⟨s1,K3,pw1⟩:=q
    dsimp only
    obtain⟨pw,TU⟩:∃ pw,pw=power' N (2 * s1+K3) (2 * s1+K3+K3+n) N:=⟨_,rfl⟩;unfold power' at TU;rw [<- TU];refine BW<|FQ (Q:=λc bD=>c=(none,())/\Bs κ a₀ bD/\Runs r (arrOf bD) 0 lo (pendingOf bD).toList/\aR r (arrOf bD) lo (lo+n)) (DR (λi c bD=>c=(none,())/\Bs κ a₀ bD/\Runs r (arrOf bD) 0 lo (pendingOf bD).toList/\aR r (arrOf bD) lo (lo+n)) ?_ ?_ ?_) ?_
    ·rintro i c bD _ _ ⟨rfl,B3,R3,S3⟩;refine BW<|JW ?_
     by_cases c3:(pendingOf bD).size > 1
     ·rw [BL c3];cases hq:(pendingOf bD)[(pendingOf bD).size - 2]? with
      | none=>exact BZ ⟨rfl,B3,R3,S3⟩
      | some q=>
       obtain⟨q1,q2,w6⟩:=q
       dsimp only
       by_cases c4:w6<=pw
       ·rw [BL c4];exact BZ ⟨rfl,B3,R3,S3⟩
       ·rw [BK c4];refine BW (TK O nd B3 (show(pendingOf bD).size - 2+1 < (pendingOf bD).size by omega) R3 (by rw [w5 B3];omega) λpc B4 R4 _ u4=>?_);rw [BK<|by decide];exact BZ ⟨rfl,B4,R4,S3.upd u4<|.inr<|Ai _⟩
     ·rw [BK c3];exact BZ ⟨rfl,B3,R3,S3⟩
    ·rintro c bD h;exact h
    ·exact⟨rfl,B2,R2,S2⟩
    rintro c bD ⟨rfl,B3,R3,S3⟩
    dsimp only
    refine BW<|LQ ?_;refine BW (LQ<|BZ ⟨lo+n,rfl,by omega,n2,⟨B3.kind,B3.failed,B3.perm⟩,?_⟩);have R5:Runs r (arrOf bD) 0 lo ((pendingOf bD).modify ((pendingOf bD).size - 1) λ(x:Nat×Nat×Nat)=>match x with | (st,len,_)=>(st,len,pw)).toList:=Runs.same (k2s λx=>rfl) R3;exact push (setPending bD<|(pendingOf bD).modify ((pendingOf bD).size - 1) λ(x:Nat×Nat×Nat)=>match x with | (st,len,_)=>(st,len,pw)) ⟨B3.kind,B3.failed,B3.perm⟩ R5 S3
 ·rintro c ag ⟨lo,rfl,g1,g2,B',R⟩;obtain rfl:lo=N:=by omega
  exact⟨rfl,B',R⟩
 ·exact⟨0,rfl,Ai _,Bn _,B,by rw [h0];rfl⟩
 rintro c ag ⟨rfl,B',R⟩
 dsimp only
 refine BW<|FQ (Q:=λc ag=>c=(none,())/\Bs κ a₀ ag/\Runs r (arrOf ag) 0 N (pendingOf ag).toList/\(pendingOf ag).size<=1) (DR (λi c ag=>c=(none,())/\Bs κ a₀ ag/\Runs r (arrOf ag) 0 N (pendingOf ag).toList/\(pendingOf ag).size+i<=N) ?_ ?_ ?_) ?_
 ·rintro i c bz _ hi ⟨rfl,B2,R2,l2⟩;have sz2:=w5 B2;refine BW<|JW ?_
  by_cases c2:(pendingOf bz).size<=1
  ·rw [BL c2];exact BZ ⟨rfl,B2,R2,c2⟩
  rw [BK c2];have go:∀ k,k+1 < (pendingOf bz).size->wpS (model prog w) A E s (mergeAt' k) (λb bD=>b=true/\Bs κ a₀ bD/\Runs r (arrOf bD) 0 N (pendingOf bD).toList/\(pendingOf bD).size+1=(pendingOf bz).size) bz:=λk hk=>TK O nd B2 hk R2 (by omega) λbD B3 R3 e3 _=>⟨rfl,B3,R3,e3⟩;refine BW<|FQ (go _ ?_) ?_
  ·exact Fc (Nat.add_le_add_right (ite_le _ _) 1) (show(pendingOf bz).size - 2+1 < (pendingOf bz).size by omega)
  ·rintro b bD ⟨rfl,B3,R3,e3⟩;exact BZ ⟨rfl,B3,R3,by omega⟩
 ·rintro c bz ⟨rfl,B2,R2,l2⟩;exact⟨rfl,B2,R2,by omega⟩
 ·refine⟨rfl,B',R,?_⟩;have:=R.le;rw [Al] at this;omega
 rintro c bz ⟨rfl,B2,R2,l2⟩;refine BZ<|hQ _ B2 ?_;rw [w5 B2];exact R2.K2<|by rw [Al];exact l2
end
end Td
namespace cD
open PySem PySem.W PyProof.Rows PySem.SeqAt Td
theorem T1{α β:Type}{f:α->β}{l k:List β}(h:l.Perm k):∀ m:List α,k=m.map f->∃ m':List α,m'.Perm m/\l=m'.map f:=by
 induction h with
 | nil=>exact λm e=>⟨m,List.Perm.refl _,e⟩
 | cons x _ ih=>
  intro m e;cases m with
  | nil=>cases e
  | cons y m=>
   obtain⟨e1,e2⟩:=List.cons.inj e;obtain⟨m',p,q⟩:=ih m e2;exact⟨y :: m',p.cons y,by rw [Bt,<- e1,<- q]⟩
 | swap x y l=>
  intro m e
  match m,e with
  | p :: q :: m,e=>
   obtain⟨e1,e2⟩:=List.cons.inj e;obtain⟨e3,e4⟩:=List.cons.inj e2;exact⟨q :: p :: m,List.Perm.swap _ _ _,by rw [Bt,Bt,<- e1,<- e3,<- e4]⟩
 | trans _ _ ih1 ih2=>
  intro m e;obtain⟨m1,p1,q1⟩:=ih2 m e;obtain⟨m2,p2,q2⟩:=ih1 m1 q1;exact⟨m2,p2.trans p1,q2⟩
theorem q2o{xs:Array Value}{z u:List Str}(h:SX xs z)(k:SX xs u):z=u:=by
 refine Hk (by rw [<- h.1,<- k.1]) λi h1 h2=>?_;obtain⟨t,e⟩:=h.2 i (by rw [h.1];exact h1) h1;obtain⟨t',e'⟩:=k.2 i (by rw [h.1];exact h1) h2;rw [e] at e';exact(Value.str.inj e').1
theorem z6{h:Heap}{v:Value}{z u:List Str}(a:mI h v z)(b:mI h v u):z=u:=by
 obtain⟨a,o,xs,n,rfl,h1,h2,h3,h4⟩:=a;obtain⟨a',o',zP,n',e,g1,g2,g3,g4⟩:=b;cases e;rw [h1] at g1;cases g1;rw [h3] at g3;cases g3;exact q2o h4 g4
theorem om{h:Heap}{vs:List Value}{zs:List (List Str)}(hh:fI h vs zs){v:Value}{z:List Str}(m:(v,z)∈vs.zip zs):mI h v z:=by
 obtain⟨i,hi⟩:=Ay m;rw [Fe] at hi;exact hh.2 i v z hi.1 hi.2
noncomputable def rL(vs:List Value)(zs:List<|List Str)(x y:Keyed):Bool:=@decide (∃ z u,(x.1,z)∈vs.zip zs/\(y.1,u)∈vs.zip zs/\aS z u=true) (Classical.propDecidable _)
theorem db{vs:List Value}{zs:List (List Str)}{x y:Keyed}:rL vs zs x y=true↔∃ z u,(x.1,z)∈vs.zip zs/\(y.1,u)∈vs.zip zs/\aS z u=true:=by
 unfold rL;exact @decide_eq_true_iff _<|Classical.propDecidable _
section
variable{prog:Program}{w:World}{A:Around}{E:Value->Shared->Prop}{s:Shared}
theorem w8{h:Heap}{vs:List Value}{zs:List (List Str)}(hh:fI h vs zs){x y:Keyed}{z u:List Str}(hx:(x.1,z)∈vs.zip zs)(hy:(y.1,u)∈vs.zip zs):rL vs zs x y=aS z u:=by
 cases c:aS z u with
 | true=>exact db.mpr ⟨z,u,hx,hy,c⟩
 | false=>
  refine Eb.mpr λq=>?_;obtain⟨z',u',a,b,e⟩:=db.mp q;rw [z6 (om hh a)<|om hh hx,z6 (om hh b)<|om hh hy,c] at e;cases e
theorem T4{vs:List Value}{zs:List (List Str)}(hl:vs.length=zs.length):vs.zip vs=(vs.zip zs).map λq=>(q.1,q.1):=by
 apply Cv;intro i
 by_cases c:i < vs.length
 ·rw [Aa (by rw [Eh];omega),Aa (by rw [Ac,Eh];omega),Hm,Fo,Hm]
 ·rw [Aq (by rw [Eh];omega),Aq<|by rw [Ac,Eh];omega]
theorem q0c{vs:List Value}{zs:List (List Str)}(hA:A.units < cLine)(hh:fI s.heap vs zs)(hn:zs.Nodup):Ord prog w A E s oneType' (vs.zip vs) (rL vs zs):=by
 have mem:∀{x:Keyed},x∈vs.zip vs->∃ z,(x.1,z)∈vs.zip zs/\x=(x.1,x.1):=λ{x} hx=>by
  rw [T4 hh.1] at hx;obtain⟨q,hq,rfl⟩:=Az.mp hx;exact⟨q.2,hq,rfl⟩
 have inj:∀{v u:Value} {z:List Str},(v,z)∈vs.zip zs->(u,z)∈vs.zip zs->v=u:=λ{v u z} h1 h2=>by
  obtain⟨i,hi⟩:=Ay h1;obtain⟨j,hj⟩:=Ay h2;rw [Fe] at hi hj;have:i=j:=(Fj (Ab.mp hi.2).1 hn).mp (by rw [hi.2,hj.2]);subst this;exact Option.some.inj<|hi.1.symm.trans hj.1
 refine⟨λx y st Q hx hy ne hk hQ=>?_,λx hx y hy ne=>?_,λx y h=>?_,λx y z h1 h2=>?_⟩
 ·obtain⟨z,hz,ex⟩:=mem hx;obtain⟨u,hu,ey⟩:=mem hy;rw [w8 hh hz hu] at hQ;rw [lt'_eq];refine BW<|JW ?_;rw [hk];refine BW<|wpS_lift<|IW<|q4g hA (om hh hz) (om hh hu) ⟨rfl,?_⟩;exact BZ hQ
 ·obtain⟨z,hz,ex⟩:=mem hx;obtain⟨u,hu,ey⟩:=mem hy;rw [w8 hh hz hu,w8 hh hu hz];exact S8 λe=>ne<|by subst e;rw [ex,ey,inj hz hu]
 ·obtain⟨z,u,a,b,c⟩:=db.mp h;rw [w8 hh b a];exact KG c
 ·obtain⟨p,q,a,b,c⟩:=db.mp h1;obtain⟨q',t,a',b',c'⟩:=db.mp h2;rw [z6 (om hh a')<|om hh b] at c';exact db.mpr ⟨p,t,a,b',S9 c c'⟩
theorem k5v{h:Heap}{vs:List Value}{zs:List (List Str)}(hh:fI h vs zs)(hn:zs.Nodup):(vs.zip vs).Nodup:=by
 rw [Bj,Bc];intro i j hi hj di e;rw [Eh] at hi hj;have hl:=hh.1;rw [Hm,Hm] at e;have e1:vs[i]'(by omega)=vs[j]'(by omega):=(Prod.mk.inj e).1;have a:=hh.2 i _ _ (Aa<|by omega) (Aa<|by omega);have b:=hh.2 j _ _ (Aa<|by omega) (Aa<|by omega);rw [e1] at a;exact Bc.mp (Bj.mp hn) i j (by omega) (by omega) di<|z6 a b
theorem k8b{a:Addr}{vs:List Value}{zs:List (List Str)}{n:Nat}{P:PySem.Fin->Shared->Prop}(hA:A.units < cLine)(ho:s.heap.get? a=some (seqObj "list" vs.toArray n))(eB:∀ v∈vs,v ≠ .ref a)(hh:fI s.heap vs zs)(hn:zs.Nodup)(kS:vs.length<=sizeLine)
  (h:∀ us:List<|Value×List Str,us.Perm (vs.zip zs)->us.Pairwise (λx y=>aS x.2 y.2=true)->P (.done<|.ret .none) {s with heap:=sortedHeap s.heap a vs (List.toArray<|us.map λx=>x.1)}) :
  wpAny (model prog w) A (Builtin.«list.sort» ⟨[.ref a],[]⟩) P E s:=by
 rw [list_sort_plain];have ha:a < s.heap.objs.size:=Au ho;refine BJ<|listItems_at ho rfl ?_;refine BJ<|JV ho rfl ?_;obtain⟨e1,lT⟩:∃ e1,(s.heap.update a<|Obj.mapSeq λ_=>#[]).get? a=some (seqObj "list" #[] e1):=⟨_,get?_update_seq ho λ_=>#[]⟩;refine BJ<|MP lT rfl ?_;refine BJ<|PX ?_;refine BJ<|JT ?_;refine CN ?_;have mq:(((s.heap.update a<|Obj.mapSeq λ_=>#[]).push<|seqObj "tuple" vs.toArray 0).push<|seqObj "list" #[] 0).get? a=some (seqObj "list" #[] e1):=Af _<|Af _ lT;show wpAny (model prog w) A _ P E {s with heap:=((s.heap.update a<|Obj.mapSeq λ_=>#[]).push<|seqObj "tuple" vs.toArray 0).push (seqObj "list" #[] 0)};have qb:fI (((s.heap.update a<|Obj.mapSeq λ_=>#[]).push<|seqObj "tuple" vs.toArray 0).push<|seqObj "list" #[] 0) vs zs:=⟨hh.1,λi v z h1 h2=>(hh.2 i v z h1 h2).keep λb o e q=>by
  have hb:a≠b:=λe2=>eB v (Ag h1) (by rw [e,e2]);exact Af _<|Af _<|(By _ _ hb).trans q⟩
 dsimp only
 have hsz:vs.toArray.size=vs.length:=by simp
 have zm:(vs.zip zs).map (λx=>x.1)=vs:=List.map_fst_zip<|TY hh.1
 by_cases h2:vs.toArray.size < 2
 ·rw [BL h2,BL h2];refine BJ<|BP ?_;rw [StateT.run_pure];refine BJ<|BP ?_
  dsimp only
  have e5:(arrOf<|SortSt.mk' general' (vs.toArray.zip vs.toArray) #[] 7 none).map (·.2)=vs.toArray:=by
   show(vs.toArray.zip vs.toArray).map (·.2)=_;apply Gg.mp;simp [RJ]
  refine BJ<|MP mq rfl ?_;refine BJ (JV mq rfl ?_ (hsz2:=by rw [e5,hsz];omega));simp only [FP,Bk,DQ];refine BP ?_;rw [e5];have fin:=h (vs.zip zs) (List.Perm.refl _)<|by
   rw [Bc];intro i j hi hj di;rw [Eh] at hi hj;rw [hsz] at h2;omega
  rw [zm] at fin;exact fin
 ·rw [BK h2,BK h2];rw [hsz] at h2;refine BJ<|kas_kind (T:= .type "list") (by omega) (λv hv=>?_) (by decide) (by decide) ?_
  ·obtain⟨i,hi⟩:=Ay hv;have vt:i < zs.length:=by have:=(Ab.mp hi).1;have:=hh.1;omega
   obtain⟨b,o,xs,n,rfl,q1,q2,_⟩:=qb.2 i v zs[i] hi<|Aa vt;have lk:Looks (model prog w) (((s.heap.update a<|Obj.mapSeq λ_=>#[]).push<|seqObj "tuple" vs.toArray 0).push<|seqObj "list" #[] 0) (typeOf<|.ref b) o.cls:=(Looks.ld q1).andThen .now;rw [q2] at lk;exact lk
  have ez:(vs.toArray.zip vs.toArray).toList=vs.zip vs:=by rw [Array.toList_zip]
  have cV:=j93 (prog:=prog) (w:=w) (A:=A) (E:=E) (s:={s with heap:=((s.heap.update a<|Obj.mapSeq λ_=>#[]).push<|seqObj "tuple" vs.toArray 0).push (seqObj "list" #[] 0)}) (q0c hA qb hn) (k5v qb hn) (st:=SortSt.mk' oneType' (vs.toArray.zip vs.toArray) #[] 7 none) ⟨rfl,rfl,by show(vs.toArray.zip vs.toArray).toList.Perm _;rw [ez]⟩ rfl
   (Q := λ_ ag => failedOf ag = none ∧ ∃ us : List<|Value × List Str, us.Perm (vs.zip zs) ∧ us.Pairwise (λx y => aS x.2 y.2 = true) ∧ (arrOf ag).toList = us.map λq => (q.1, q.1)) (λag B S => by
    refine⟨B.failed,?_⟩;obtain⟨us,p,e⟩:=T1 B.perm (vs.zip zs)<|T4 hh.1;refine⟨us,p,?_,e⟩;have sl:=S.list;rw [<- Al,Br,List.drop_zero,e,Cw] at sl;exact sl.imp_of_mem λ{x y} hx hy q=>by
     rw [w8 (x:=(x.1,x.1)) (y:=(y.1,y.1)) qb (p.mem_iff.mp hx)<|p.mem_iff.mp hy] at q;exact q)
  refine BJ<|CV cV ?_ λ_ _ e=>e;rintro ⟨⟨⟩,ag⟩ s' ⟨rfl,hf,us,p,sp,pg⟩
  dsimp only at pg hf ⊢
  have e3:(arrOf ag).map (·.2)=List.toArray (us.map λx=>x.1):=by
   apply Gg.mp;rw [Array.toList_map,pg,Cd];rfl
  have ul:us.length=vs.length:=by rw [p.length_eq,Eh,<- hh.1,UG]
  refine BJ<|MP mq rfl ?_;refine BJ (JV mq rfl ?_ (hsz2:=by rw [e3,Bd,Ac,ul];omega));rw [hf];simp only [FP,Bk,DQ];refine BP ?_;rw [e3];exact h us p sp
theorem q1j{l:Addr}{vs:List Value}{zs:List (List Str)}{Q:Value->Shared->Prop}(hA:A.units+8 < cLine)(hl:s.heap.IsList l vs.toArray)(hh:fI s.heap vs zs)(hn:zs.Nodup)(kS:vs.length<=sizeLine)
  (h:∀(h':Heap) (e:Nat) (us:List<|Value×List Str),us.Perm (vs.zip zs)->us.Pairwise (λx y=>aS x.2 y.2=true)->(∀ b u,s.heap.get? b=some u->h'.get? b=some u)->h'.get? (s.heap.objs.size+1)=some (seqObj "list" (List.toArray<|us.map λx=>x.1) e)->Q (.ref<|s.heap.objs.size+1) {s with heap:=h'}) :
  wpAny (model prog w) A (call (.builtin "sorted") [.ref l]) Q E s:=by
 refine KD kind_sorted plain_sorted entry_sorted (args_sorted1 _) ?_;unfold Builtin.«sorted»;refine BJ (m:=checkCount "sorted" 1 1 _)<|BP ?_;refine BJ<|collect_list (vs:=vs) hl ?_;refine BJ<|JT ?_;have hsz:((s.heap.push<|seqObj "list" #[] 0).update s.heap.objs.size (Obj.mapSeq (·++vs.toArray))).objs.size=s.heap.objs.size+1:=by
  rw [Heap.size_update,size_push']
 have jc:(((s.heap.push<|seqObj "list" #[] 0).update s.heap.objs.size (Obj.mapSeq (·++vs.toArray))).push<|seqObj "list" vs.toArray 0).get? (s.heap.objs.size+1)=some (seqObj "list" vs.toArray 0):=by
  rw [<- hsz];exact At _ rfl
 have Iw:fI (((s.heap.push<|seqObj "list" #[] 0).update s.heap.objs.size (Obj.mapSeq (·++vs.toArray))).push<|seqObj "list" vs.toArray 0) vs zs:=⟨hh.1,λi v z h1 h2=>(hh.2 i v z h1 h2).keep λb o e q=>
  Af _ ((By _ _<|Di<|Au q).trans<|Af _ q)⟩
 have bF:∀ v∈vs,v ≠ .ref (s.heap.objs.size+1):=λv hv e=>by
  obtain⟨i,hi⟩:=Ay hv;have hl:=hh.1;have vt:i < zs.length:=by have:=(Ab.mp hi).1;omega
  obtain⟨b,o,xs,n,e2,h1,_⟩:=hh.2 i v zs[i] hi<|Aa vt;rw [e2] at e;cases e;exact absurd (QT<|Au h1)<|Cu _
 show wpAny _ _ _ _ _ {s with heap:=((s.heap.push<|seqObj "list" #[] 0).update s.heap.objs.size (Obj.mapSeq (·++vs.toArray))).push (seqObj "list" vs.toArray 0)};rw [hsz];refine BJ (CN<|DN slot_list_sort ⟨_,jc,rfl⟩ entry_list_sort (k8b (by show A.units+1+1 < cLine;omega) jc bF Iw hn kS λus p sp=>⟨_,rfl,?_⟩)<|args_list_sort _);obtain⟨e,he⟩:=sortedAll_at s.heap vs<|List.toArray<|us.map λx=>x.1;exact BP ⟨_,rfl,h _ e us p sp (λb u hb=>QG hb) he⟩
end
end cD
namespace L2
open PySem PySem.Spec PyProof.Rows cD
section
variable{X:Cx}{σ:St}{H:Hp}
theorem T5(hu:X.A.units+8 < cLine):fN X (.builtin "sorted") (λxs H Q=>∃(l:Addr) (ts:List Addr) (zs:List<|List Str),xs=[.ref l]/\ai X.K H l (ts.map V.ref)/\ts.length=zs.length/\zs.Nodup/\(∀(i:Nat) t z,ts[i]?=some t->zs[i]?=some z->H t=some (.lst<|z.map V.str)) /\
  ∀(r:Addr) (ps:List<|Addr×List Str),H r=none->ps.Perm (ts.zip zs)->ps.Pairwise (λa b=>aS a.2 b.2=true)->Q (.ref r) (upd H r<|.lst<|ps.map λp=> .ref p.1)):=by
 intro pins s σ H xs us Q I r h;obtain⟨l,ts,zs,rfl,hl,hlen,hn,hd,q⟩:=h;obtain⟨u,rfl,ru⟩:=vals1 r;cases (show u=Value.ref l from ru);obtain⟨its,rv,pl,kS⟩:=I.list hl;rw [Ac] at kS;have ei:=Iy rv;subst ei;have hh:fI s.heap (ts.map Value.ref) zs:=by
  refine⟨by rw [Ac];exact hlen,λi v z h1 h2=>?_⟩;rw [Ah,An] at h1;obtain⟨t,ht,rfl⟩:=h1;obtain⟨its,r3,tp,_⟩:=I.list<|ai.of<|hd i t z ht h2;obtain⟨o,ho,hc,n,hd2⟩:=tp.isList;exact⟨t,o,_,n,rfl,ho,hc,hd2,q0i r3⟩
 refine q1j hu pl.isList hh hn (by rw [Ac];exact kS) λh' e us p sp kp he=>?_;have ez:(ts.map Value.ref).zip zs=(ts.zip zs).map λx=>(Value.ref x.1,x.2):=by
  have:=List.zip_map (f:=Value.ref) (g:=id) (l₁:=ts) (l₂:=zs);rw [List.map_id] at this;rw [this];rfl
 obtain⟨ps,p2,rfl⟩:=T1 (f:=λx:Addr×List Str=>(Value.ref x.1,x.2)) p (ts.zip zs) ez;have IA:ps.length=ts.length:=by rw [p2.length_eq,Eh,<- hlen,UG]
 rw [Cd] at he;refine⟨.ref _,_,I.dL (s':={s with heap:=h'}) kp rfl rfl (Ez _) (show ay X.prog X.w _ h' _ (.lst<|ps.map λx=>V.ref x.1) from ?_),rfl,q _ ps (I.aC.fresh<|Ez _) p2 ?_⟩
 ·refine⟨by rw [Ac,IA];exact kS,_,e,?_,he⟩;have:=Iz<|ps.map λx=>x.1;rw [Cd,Cd] at this;exact this
 ·rw [Cw] at sp;exact sp
end
end L2
namespace N4
open PySem L2 Nt bS bR
open PyProof.Rows (sortedS)
open cD (aS)
open Classical
theorem q5k(cs:List<|List Str)(k i:Nat)(hd:∃ L:List Str,∀ z,cW cs k i z=true->z∈L):∃ d,aR d/\∀ z,z∈d↔cW cs k i z=true:=by
 obtain⟨L,hL⟩:=hd;obtain⟨d,h1,h2⟩:=IC<|L.filter λz=>cW cs k i z;exact⟨d,h1,λz=>by rw [h2,Bx];exact⟨λk=>k.2,λk=>⟨hL z k,k⟩⟩⟩
theorem cI.ex(cs:List<|List Str)(k:Nat):∃ ds,cI cs k ds:=by
 have hd:∀ i,∃ d,aR d/\∀ z,z∈d↔cW cs k i z=true:=λi=>q5k cs k i ⟨cs.flatten,λz hz=>by
  refine DG λno=>?_;have:cW cs k i z=false:=ql λj _ hm=>no ?_
  ·rw [this] at hz;cases hz
  ·rw [As] at hm;cases hc:cs[j+1]? with
   | none=>rw [hc] at hm;cases hm
   | some c=>rw [hc] at hm;exact Cf.mpr ⟨c,Ag hc,hm⟩⟩
 refine⟨(List.range<|2 ^ k).map λi=>choose<|hd i,by rw [Ac,Cj],λi d h=>?_⟩;rw [Ah,An] at h;obtain⟨x,hx,rfl⟩:=h;have:x=i:=by
  have l:=(Ab.mp hx).1;rw [Cj] at l;rw [Ef l] at hx;exact(Option.some.inj hx).symm
 subst this;exact choose_spec<|hd x
def eV(bs:List<|List Str):Nat:=(aD bs).length+(if bs.length=0 then 0 else 1)
def z7(c:Str->Addr):Sp:=λvs H Q E=>∃(R:Addr) (as:List<|Addr×Addr) (n:Net) (bs:List<|List Str),vs=[.ref R]/\aw H R as n/\(n.map (·.1)).Nodup/\af n bs/\n.length<=60/\(av n).length<=80 /\
 (9 < eV bs->∀ H',ah H H'->E (.ref<|c "TooMany") none H') /\
 (eV bs<=9->∀(L:Addr) (us:List Addr) (ds d0 cs:List<|List Str) (H':Hp),ah H H'->bB H' L us ds->aJ n cs->cI cs (aD bs).length d0->ds.Perm d0->ds.Pairwise (λa b=>aS a b=true)->Q (.ref L) H')
structure qG(H0 H:Hp)(D:Addr)(us:List Addr)(cs:List<|List Str)(i:Nat):Prop where
 lst:H D=some (.lst<|us.map V.ref)
 lu:us.length=i
 lc:cs.length=i
 at':∀(j:Nat) u c,us[j]?=some u->cs[j]?=some c->H u=some (Ls c)/\u≠D
 fr:∀ u∈us,H0 u=none
theorem z8{α:Type}{l:List α}{a b:α}{j:Nat}(h:¬ j < l.length)(e:(l++[a])[j]?=some b):j=l.length/\a=b:=by
 rw [Am<|by omega] at e;have hj:j - l.length=0:=by have:=(Ab.mp e).1;simp at this;omega
 rw [hj] at e;exact⟨by omega,by cases e;rfl⟩
theorem qG.step{H0 H H2:Hp}{D k:Addr}{us:List Addr}{cs:List (List Str)}{i:Nat}{ks:List Str}(I:qG H0 H D us cs i)(s2:ah H H2)(nk:H k=none)(n0:H0 k=none)(e2:H2 k=some (Ls ks)):qG H0 (upd H2 D<|.lst<|us.map V.ref++[.ref k]) D (us++[k]) (cs++[ks]) (i+1):=by
 have lu:=I.lu;have lc:=I.lc;have wA:k≠D:=λe=>by rw [e,I.lst] at nk;cases nk
 refine⟨by rw [az,Ak];rfl,by rw [Ad,lu];rfl,by rw [Ad,lc];rfl,λj u c h1 h2=>?_,λu hu=>?_⟩
 ·by_cases hj:j < us.length
  ·rw [Aj hj] at h1;rw [Aj<|by omega] at h2;obtain⟨q1,q2⟩:=I.at' j u c h1 h2;exact⟨by rw [ax q2];exact s2 _ _ q1,q2⟩
  ·obtain⟨_,rfl⟩:=z8 hj h1;obtain⟨_,rfl⟩:=z8 (by omega) h2;exact⟨by rw [ax wA];exact e2,wA⟩
 ·rcases Ao.mp hu with h | h
  ·exact I.fr u h
  ·rw [Ae.mp h];exact n0
theorem qG.start{H0 H:Hp}{D:Addr}(h:H D=some (.lst [])):qG H0 H D [] [] 0:=⟨h,rfl,rfl,λj u c h=>by simp at h,λu h=>by cases h⟩
theorem q47{α β:Type}{xs:List α}{ys:List β}{x:α}{y:β}(h:(x,y)∈xs.zip ys):∃ i:Nat,xs[i]?=some x/\ys[i]?=some y:=by
 obtain⟨i,hi⟩:=Ay h;rw [Fe] at hi;exact⟨i,hi⟩
theorem T6{H:Hp}{L r:Addr}{us:List Addr}{ds:List (List Str)}{ps:List (Addr×List Str)}(h:bB H L us ds)(hr:H r=none)(hp:ps.Perm<|us.zip ds):bB (upd H r<|.lst<|ps.map λp=> .ref p.1) r (ps.map (·.1)) (ps.map (·.2))/\(ps.map (·.2)).Perm ds/\∀ u∈ps.map (·.1),u∈us/\u≠r:=by
 have mem:∀ p∈ps,∃ i:Nat,us[i]?=some p.1/\ds[i]?=some p.2:=λp q=>q47<|hp.mem_iff.mp q;refine⟨⟨by rw [az,Cd];rfl,by rw [Ac,Ac],λi u c h1 h2=>?_⟩,?_,λu hu=>?_⟩
 ·rw [Ah,An] at h1 h2;obtain⟨p,kW,rfl⟩:=h1;obtain⟨p',kA,rfl⟩:=h2;rw [kW] at kA;cases kA;obtain⟨j,j1,j2⟩:=mem p<|Ag kW;have:=h.2.2 j _ _ j1 j2;rw [ax<|b4 this hr];exact this
 ·have:=hp.map (·.2);rw [RJ<|by rw [h.2.1];exact Ai _] at this;exact this
 ·obtain⟨p,kW,rfl⟩:=Az.mp hu;obtain⟨j,j1,j2⟩:=mem p kW;exact⟨Ag j1,b4 (h.2.2 j _ _ j1 j2) hr⟩
theorem k7g(ts:List Addr)(i:Nat):dF (ts.map V.ref) (some (i:Int)) none=(ts.drop i).map V.ref:=by
 unfold dF;rw [HT.fk,HT.jy,Ac];rw [Da (by rw [Cz,Ac];omega),List.map_drop]
 rcases Nat.le_total i ts.length with h | h
 ·rw [Ep h]
 ·rw [Hl h,Dl (by simp),Dl<|by simpa using h]
section
variable{P:Program}{w:World}{K:PySem.W.Frag}{mg:Str->Option Value}{base:Heap}
abbrev T7:List Str:=["rows","cores","doubles","core"]
abbrev w9:List Str:=["rows","cores","doubles","core","double"]
theorem xa:aj T7 ["rows"] (aP yA):=⟨rfl,rfl,rfl,by decide +kernel,rfl,by decide +kernel,by decide +kernel⟩
theorem q3p:w9.Nodup:=by decide +kernel
theorem q15{f:Addr}{fd:FuncData}{c:Str->Addr}(F:bw K "doubles_of" "doubles_of" yA f fd)(T:Txt mg)(cl:Cl K mg c)(GC:aO P w K mg base 5 "cores_of" ["rows"] wz)(GS:aO P w K mg base 5 "summed" ["one","other"] zW) :
  aB P w K mg base (XF P w) 6 f fd ["rows"] (z7 c):=by
 refine F.gx xa (λvs H Q E h=>?_) λb0 H vs Q hr h=>?_
 ·obtain⟨R,as,n,bs,rfl,_⟩:=h;rfl
 obtain⟨R,as,n,bs,rfl,hR,hN,bx,hn,eZ,qE,q⟩:=h;have nd:=xa.nd;have hT:=bx.twice;have mN:("TooMany" : Str)∈cH:=by decide
 have K4:=Fc (Nat.add_le_add_left (by decide:8<=100) _) hr.jI;obtain⟨um,hm,rm⟩:=T.nine;show Run _ _ _ [some<|.ref R,none,none,none] H;refine run_set 1 nd (bV GC hr<|ao<|ae 0<|aE ⟨R,as,n,rfl,hR,hN,hT,hn,by omega,λC cu cs H1 s1 n1 hC cJ=>?_⟩);have S0:=hC.2.1;have lcs:cs.length=eV bs:=(cJ.gB bx).trans<|qj bs;show Run _ _ _ [some<|.ref R,some<|.ref C,none,none] H1;refine iz<|d7 BI<|dh jA T.len JG<|ao<|ae 1<|aE ⟨C,_,rfl,.inl<|ai.of hC.1,xU hm rm ⟨_,_,rfl,rfl,_,rfl,?_⟩⟩;rw [Ac]
 by_cases big:9 < eV bs
 ·rw [BX<|by omega];exact cO<|k51 rzX (cl.at' _ mN).1 (cl.at' _ mN).2.1 rfl (ao<|DI<|aE ⟨Z1,qE big _ s1⟩)
 rw [BR<|by omega];refine cN<|bp<|q2v ?_;have t8:(aD bs).length<=8/\cs.length - 1=(aD bs).length:=by
  by_cases c0:bs.length=0
  ·have:=Bq.mp c0;subst this;exact⟨Bn _,by rw [lcs];rfl⟩
  ·unfold eV at big lcs;rw [BK c0] at big lcs;omega
 have pw:∀ i,i<=(aD bs).length->2 ^ i<=256:=λi hi=>Hs (by decide) (show i<=8 by omega);have ftw:(aD bs).flatten.length<=16:=by
  have:∀ L:List<|List Str,(∀ b∈L,b.length=2)->L.flatten.length=2 * L.length:=λL=>by
   induction L with
   | nil=>exact λ_=>rfl
   | cons b L ih=>
    intro h;rw [Hf,Ad,ih λx hx=>h x<|Ax _ hx,h b Aw,Av];omega
  rw [this _ λb hb=>(aW.mp hb).2];omega
 have T8:∀{xs:List Str},aR xs->(∀ z∈xs,z∈(aD bs).flatten)->xs.length<=16:=λh1 h2=>by have:=aG (lY h1) h2;omega
 have cin:∀{k:Nat} {ci:List Str},cs[k]?=some ci->∀ z∈ci,z∈(aD bs).flatten:=λ{k ci} fH z hz=>DG λno=>bx.iL cJ no k (by rw [fH];exact hz);have xc:∀{k i:Nat} {z:Str},cW cs k i z=true->z∈(aD bs).flatten:=λ{k i z} h=>DG λno=>by
  have:cW cs k i z=false:=ql λj _ hm=>bx.iL cJ no (j+1) (by rw [As] at hm;exact hm);rw [this] at h;cases h
 refine run_set 2 nd<|gO<|ao<|gO<|aE ⟨Z0,λd0 jn=>aE ⟨Z1,λL0 kQ=>?_⟩⟩;have sa:=aQ jn<|.lst [];have sb:=aQ kQ<|.lst [.ref d0];have eL:(upd (upd H1 d0<|.lst []) L0<|.lst [.ref d0]) L0=some (.lst<|[d0].map V.ref):=az;have n0L:d0≠L0:=λe=>by rw [<- e,az] at kQ;cases kQ
 have ed:(upd (upd H1 d0<|.lst []) L0<|.lst [.ref d0]) d0=some (Ls []):=by rw [ax n0L,az];rfl
 have s2:=sa.trans sb;have f0:H d0=none:=s1.free jn;have fL:H L0=none:=s1.free<|sa.free kQ;show Run _ _ _ [some<|.ref R,some<|.ref C,some<|.ref L0,none] (upd (upd H1 d0<|.lst []) L0<|.lst [.ref d0]);generalize upd (upd H1 d0<|.lst []) L0 (.lst [.ref d0])=H2 at eL ed s2;have zX:=hC.same s2;refine jE<|Nx MY<|ae 1<|DM<|aK ⟨1,rfl,W5 ⟨C,_,rfl,ai.of zX.1,λp1 kW=>?_⟩⟩;rw [show dF (cu.map V.ref) (some 1) none=(cu.drop 1).map V.ref from k7g cu 1];have e1:(upd H2 p1<|.lst<|(cu.drop 1).map V.ref) p1=some (.lst<|(cu.drop 1).map V.ref):=az;have sI:=aQ kW<|.lst<|(cu.drop 1).map V.ref;refine⟨p1,rfl,⟨_,ai.of e1⟩,?_⟩;generalize upd H2 p1 (.lst<|(cu.drop 1).map V.ref)=H3 at e1 sI;refine jF (xs:=(cu.drop 1).map V.ref) (λi σ H'=>∃(D:Addr) (us:List Addr) (ds:List<|List Str) (u3:Option V),ah H3 H'/\H D=none/\bB H' D us ds/\(∀ u∈us,H u=none)/\cI cs i ds/\σ=[some<|.ref R,some<|.ref C,some<|.ref D,u3])
  ⟨L0,[d0],[[]],_,ah.refl _,fL,⟨sI _ _ eL,rfl,λi u c h1 h2=>?_⟩,λu hu=>by rw [Ae.mp hu];exact f0,cI.nil cs,rfl⟩ ?_ ?_ ?_
 ·cases i with
  | zero=>cases h1;cases h2;exact sI _ _ ed
  | succ i=>cases h1
 ·rintro i σ H' _ ⟨_,_,_,_,sm,_⟩;exact ai.of<|sm _ _ e1
 ·rintro i x σ H4 hx ⟨D,us,ds,u3,sm,nD,hD,T9,oo,rfl⟩;rw [Ah,An] at hx;obtain⟨K5,qH,rfl⟩:=hx;rw [Gq,Nat.add_comm] at qH;have nA:=(Ab.mp qH).1;have iw:i+1<=(aD bs).length:=by omega
  have p1i:=pw (i+1) iw;rw [Hv] at p1i;have ldx:=oo.len;have ldu:=hD.2.1;have wL:=zX.same<|sI.trans sm;obtain⟨ci,fH⟩:∃ ci,cs[i+1]?=some ci:=⟨_,Aa<|by omega⟩;have KA:=wL.2.2 _ _ _ qH fH;have KE:=cJ.cV _<|Ag fH;have lb:=T8 KE<|cin fH;refine aZ 3 nd ?_;show Run _ _ _ [some<|.ref R,some<|.ref C,some<|.ref D,some<|.ref K5] H4;have z9:=(s1.trans<|s2.trans sI).trans sm;refine run_set 2 nd<|aY CL<|ae 2<|jf (aP yA) T7 w9 1 (fM a8)<|ae 2 ⟨D,rfl,⟨_,ai.of hD.1⟩,λM hM=>?_⟩;refine jM (xs:=us.map V.ref) (λj σ' H'=>(∃ v,σ'=[some<|.ref R,some<|.ref C,some<|.ref D,some<|.ref K5]++[v])/\ah H4 H'/\∃ vs ms,qG H H' M vs ms j/\∀(k:Nat) d m,ds[k]?=some d->ms[k]?=some m->aR m/\∀ z,z∈m↔(if z∈d then z∉ci else z∈ci)) ⟨⟨none,rfl⟩,aQ hM _,[],[],qG.start az,λk d m _ h=>by simp at h⟩ ?_ ?_ ?_
  ·rintro j σ' H' _ ⟨_,sm,_⟩;exact ai.of<|sm _ _ hD.1
  ·rintro j x σ' H' hx ⟨⟨v,rfl⟩,s5,vs,ms,I,sp⟩;rw [Ah,An] at hx;obtain⟨u,eC,rfl⟩:=hx;have yI:=(Ab.mp eC).1;obtain⟨d,hd⟩:∃ d,ds[j]?=some d:=⟨_,Aa<|by omega⟩;obtain⟨dd1,n9⟩:=oo.at' j d hd;have la:=T8 dd1 λz hz=>xc<|(n9 z).mp hz;have lu:=I.lu;have sJ:=I.lc;intro cl C s₀ H₀ ex;refine aZ 4 q3p ?_;intro cl C s₀ H₀ ex;refine gR<|cO ?_;intro cl C s₀ H₀ ex;refine bV GS hr (ao<|ae 4<|ao<|ae 3<|aE ⟨u,K5,d,ci,rfl,s5 _ _<|hD.2.2 j _ _ eC hd,s5 _ _ KA,by omega,λk ks H6 s6 n6 e6 so6 nd6 m6=>?_⟩);refine⟨_,s6 _ _ I.lst,by rw [Ac];exact cj (by omega),⟨_,rfl⟩,dW (s5.trans s6) hM,_,_,I.step s6 n6 (z9.free<|s5.free n6) e6,λk2 d2 m2 h1 h2=>?_⟩
   by_cases hj:k2 < ms.length
   ·rw [Aj hj] at h2;exact sp k2 d2 m2 h1 h2
   ·obtain⟨ej,rfl⟩:=z8 hj h2;rw [ej,sJ,hd] at h1;cases h1;exact⟨pL so6 nd6,m6⟩
  ·rintro σ' H5 ⟨_,s5,vs,ms,I,sp⟩;rw [Ac] at I;have lv:=I.lu;have lm:=I.lc;have wH:=hD.same s5;refine⟨D,M,_,_,rfl,rfl,wH.1,I.lst,by rw [Ac,Ac];exact small (by omega),λN AA=>bp ?_⟩;have eN:(upd H5 N<|.lst<|us.map V.ref++vs.map V.ref) N=some (.lst<|(us++vs).map V.ref):=by rw [az,Ak]
   have s6:=aQ AA<|.lst<|us.map V.ref++vs.map V.ref;refine⟨N,us++vs,ds++ms,_,(sm.trans s5).trans s6,z9.free<|s5.free AA,⟨eN,by rw [Ad,Ad];omega,λk u c h1 h2=>?_⟩,λu hu=>?_,oo.step (by omega) λk2 d2 m2 h1 h2=>?_,rfl⟩
   ·by_cases hk:k < us.length
    ·rw [Aj hk] at h1;rw [Aj<|by omega] at h2;exact s6 _ _<|wH.2.2 k u c h1 h2
    ·rw [Am<|by omega] at h1 h2;rw [<- ldu] at h2;exact s6 _ _ (I.at' _ u c h1 h2).1
   ·rcases Ao.mp hu with h | h
    ·exact T9 u h
    ·exact I.fr u h
   ·obtain⟨g1,g2⟩:=sp k2 d2 m2 h1 h2;refine⟨g1,λz=>(g2 z).trans ?_⟩;have eg:cs.getD (i+1) []=ci:=by rw [As,fH];rfl
    rw [eg]
    by_cases k1:z∈d2
    ·rw [BL k1,BX k1]
     by_cases k3:z∈ci <;> simp [k3]
    ·rw [BK k1,BR k1]
     by_cases k3:z∈ci <;> simp [k3]
 ·rintro σ H4 ⟨D,us,ds,u3,sm,nD,hD,T9,oo,rfl⟩;have el:((cu.drop 1).map V.ref).length=(aD bs).length:=by rw [Ac,Cz];omega
  rw [el] at oo;have hl:=oo.len;have zY:=hD.2.1;have z9:=(s1.trans<|s2.trans sI).trans sm;obtain⟨de,De⟩:=cI.ex ([] :: aD bs) (aD bs).length;refine cy<|dh (T5 K4) T.sorted CZ<|ao<|ae 2<|aE ⟨D,us,ds,rfl,ai.of hD.1,zY,(bx.wj cJ oo De).1,hD.2.2,λr ps gI hp iD=>?_⟩;obtain⟨q1,q2,q3⟩:=T6 hD gI hp;refine q (by omega) r _ _ ds cs _ (z9.trans<|aQ gI _) q1 cJ oo q2 ?_;rw [Cw];exact iD
open PyProof.Rows (sortedS)
theorem Ua{H:Hp}{R:Addr}{as:List (Addr×Addr)}{n:Net}(h:aw H R as n){k:Nat}{a:Addr×Addr}{r:Str×List Str}(ha:as[k]?=some a)(hr:n[k]?=some r)(zs:List Str):aw (upd H a.2<|Ls zs) R as (n.set k (r.1,zs)):=by
 obtain⟨t1,t2⟩:=h.tup k a r ha hr;have hk:=(Ab.mp ha).1;have hkn:=(Ab.mp hr).1;have nR:R≠a.2:=λe=>by
  have e1:=h.lst;rw [e,t2] at e1;have e2:r.2.map V.str=as.map λa=>V.ref a.1:=HO.lst.inj<|Option.some.inj e1;cases as with
  | nil=>simp at ha
  | cons b as=>
   cases gI:r.2 with
   | nil=>rw [gI] at e2;cases e2
   | cons z zz=>rw [gI] at e2;cases (List.cons.inj e2).1
 refine⟨by rw [Fv];exact h.len,by rw [ax nR];exact h.lst,λi b s h1 h2=>?_,h.inj⟩;rw [Hg] at h2
 by_cases c:k=i
 ·subst c;rw [BL rfl,BL hkn] at h2;cases h2;rw [ha] at h1;cases h1;refine⟨?_,az⟩;rw [ax<|cv t1 t2 λz=>nomatch z];exact t1
 ·rw [BK c] at h2;obtain⟨u1,u2⟩:=h.tup i b s h1 h2;refine⟨by rw [ax<|cv u1 t2 λz=>nomatch z];exact u1,?_⟩;have nb:b.2≠a.2:=λe=>c (by
   have hi:=(Ab.mp h1).1;refine(Fj (l:=as.map (·.2)) (by rw [Ac];exact hk) h.inj).mp ?_;rw [Ah,Ah,ha,h1];exact CW some e.symm)
  rw [ax nb];exact u2
def cX(bs:List<|List Str)(j:Nat):List Str:=(if j=0 then [] else bs.getD (j - 1) [])++bs.getD j []
def fX(bM:List Str)(bs:List<|List Str)(m:Nat):Net:=(List.range<|m+1).map λj=>(bM.getD j ⟨#[]⟩,cX bs j)
theorem qI{bM:List Str}{bs:List (List Str)}{m j:Nat}(h:j<=m):(fX bM bs m)[j]?=some (bM.getD j ⟨#[]⟩,cX bs j):=by
 unfold fX;rw [Ah,Ef<|by omega];rfl
theorem mR(bM:List Str)(bs:List<|List Str)(m:Nat):(fX bM bs m).length=m+1:=by
 unfold fX;rw [Ac,Cj]
theorem q10{bM:List Str}{bs:List (List Str)}{m:Nat}(h:bM.length=m+1):(fX bM bs m).map (·.1)=bM:=by
 refine Cv λj=>?_;rw [Ah]
 by_cases c:j<=m
 ·rw [qI c,Aa (show j < bM.length by omega),As,Aa (show j < bM.length by omega)];rfl
 ·rw [Aq (by rw [mR];omega),Aq<|by omega];rfl
theorem q0n{bM:List Str}{bs:List (List Str)}{m:Nat}(h:bs.length=m):(fX bM bs m).map (·.2)=jZ [] bs:=by
 refine Cv λj=>?_;rw [Ah]
 by_cases c:j<=m
 ·rw [qI c,Kf bs [] j<|by omega];rfl
 ·rw [Aq (by rw [mR];omega),Aq<|by rw [Ke];omega];rfl
theorem k65{bM:List Str}{bs:List (List Str)}{m:Nat}(b:List Str)(hk:bs.length < m):((fX bM bs m).set bs.length (bM.getD bs.length ⟨#[]⟩,cX bs bs.length++b)).set (bs.length+1) (bM.getD (bs.length+1) ⟨#[]⟩,b)=fX bM (bs++[b]) m:=by
 have g:∀ j,j≠bs.length->(bs++[b]).getD j []=bs.getD j []:=λj hj=>by
  rw [As,As]
  by_cases c:j < bs.length
  ·rw [Aj c]
  ·rw [Aq (by rw [Ad];show bs.length+1<=j;omega),Aq<|by omega]
 have gk:(bs++[b]).getD bs.length []=b:=by rw [As,Am<|Ai _,Gv];rfl
 have g0:∀ j,bs.length<=j->bs.getD j []=[]:=λj hj=>by rw [As,Aq hj];rfl
 refine Cv λj=>?_
 by_cases c:j<=m
 ·rw [qI c,Hg,Hg,Fv,mR]
  by_cases c1:bs.length+1=j
  ·subst c1;rw [BL rfl,BL<|by omega];unfold cX;rw [BK (by omega),show bs.length+1 - 1=bs.length by omega,gk,g _ (by omega),g0 _ (by omega),Be]
  ·rw [BK c1]
   by_cases c2:bs.length=j
   ·subst c2;rw [BL rfl,BL<|by omega];unfold cX;rw [gk,g0 bs.length<|Ai _,Be]
    by_cases c3:bs.length=0
    ·rw [BL c3,BL c3]
    ·rw [BK c3,BK c3,g _<|by omega]
   ·rw [BK c2,qI c];unfold cX;rw [g j<|CJ c2]
    by_cases c3:j=0
    ·rw [BL c3,BL c3]
    ·rw [BK c3,BK c3,g (j - 1)<|by omega]
 ·rw [Aq (by rw [Fv,Fv,mR];omega),Aq<|by rw [mR];omega]
structure mS(bs ps:List<|List Str):Prop where
 len:ps.length=bs.length
 at':∀(k:Nat) b p,bs[k]?=some b->ps[k]?=some p->aR p/\∀ z,z∈p↔z∈b
theorem q14(xs:List Str){a z:Nat}(h:a+z<=xs.length){u v:Int}(hu:u=(a:Int))(hv:v=((a+z:Nat):Int)):dF (xs.map V.str) (some u) (some v)=((xs.drop a).take z).map V.str:=by
 subst hu hv;unfold dF;rw [HT.fk,HT.fk,Ac,Ep h,Ep (show a<=xs.length by omega),Em,<- List.map_drop,<- List.map_take]
theorem bB.km{H:Hp}{L p:Addr}{us:List Addr}{ps:List (List Str)}{x:List Str}(h:bB H L us ps)(hp:H p=some (Ls x))(bF:∀ u∈us,u≠L)(hpL:p≠L):bB (upd H L<|.lst<|us.map V.ref++[.ref p]) L (us++[p]) (ps++[x]):=by
 refine⟨by rw [az,Ak];rfl,by rw [Ad,Ad,h.2.1];rfl,λi u c h1 h2=>?_⟩;have hl:=h.2.1
 by_cases hi:i < us.length
 ·rw [Aj hi] at h1;rw [Aj<|by omega] at h2;rw [ax<|bF u<|Ag h1];exact h.2.2 i u c h1 h2
 ·rw [Am<|by omega] at h1 h2;have eG:i - us.length=0:=by
   have:=(Ab.mp h1).1;simp at this;omega
  rw [eG] at h1;rw [<- hl,eG] at h2;cases h1;cases h2;rw [ax hpL];exact hp
def K6:Sp:=λvs H Q _=>∃ b st:Int,vs=[.int b,.int st]/\∀(t R Pp:Addr) (as:List<|Addr×Addr) (n:Net) (bs:List<|List Str) (us:List Addr) (ps:List<|List Str) (H':Hp),ah H H'->H' t=some (.tup [.ref R,.ref Pp])->aw H' R as n->(n.map (·.1)).Nodup->af n bs->n.length<=18->bB H' Pp us ps->mS bs ps->Q (.ref t) H'
abbrev Ub:List Str:=["_law_big_here","_law_stem","_law_many","_law_points","_law_ties","_law_rows","_law_pairs","_law_k","_law_pair"]
abbrev xf:List Str:=["_law_big_here","_law_stem","_law_many","_law_points","_law_ties","_law_rows","_law_pairs","_law_k","_law_pair","_law_point"]
theorem xg:aj Ub ["_law_big_here","_law_stem"] (aP yC):=cU
theorem q59:xf.Nodup:=by decide
theorem k8n{f:Addr}{fd:FuncData}(F:bw K "_law_row_by" "_law_row_by" yC f fd)(T:Txt mg)(GN:aO P w K mg base 1 "_law_names" ["_law_stem","_law_many"] FY):aB P w K mg base bE 2 f fd ["_law_big_here","_law_stem"] K6:=by
 refine F.gc xg λb0 H vs Q E hr h=>?_;obtain⟨b,st,rfl,q⟩:=h;have nd:=xg.nd;show Run _ _ _ [some<|.int b,some<|.int st,none,none,none,none,none,none,none] H;refine run_set 2 nd (aY eW<|ae 0<|aK ⟨_,_,rfl,rfl,(by show(0:Int) < 18;decide),?_⟩);have m0:=Ch b (show(18:Int)≠0 by decide);have m1:=Cs b (show(0:Int) < 18 by decide);obtain⟨m,em,hm⟩:∃ m:Nat,b % 18=(m:Int)/\m<=17:=⟨(b % 18).toNat,by omega,by omega⟩;show Run _ _ _ [some<|.int b,some<|.int st,some<|.int<|b % 18,none,none,none,none,none,none] H;rw [em];refine run_set 0 nd (aY kz<|ae 0<|aK ⟨_,_,rfl,rfl,⟨by decide,by decide⟩,?_⟩);show Run _ _ _ [some<|.int<|b / 18,some<|.int st,some<|.int (m:Int),none,none,none,none,none,none] H;generalize b / 18=g0;refine run_set 3 nd (bV GN hr<|ao<|aY kz<|ae 1<|aK ⟨_,_,rfl,rfl,⟨by decide,by decide⟩,ao<|aY gF<|ae 2<|aK ⟨_,_,rfl,rfl,aE ⟨_,((m+1:Nat):Int),rfl,by omega,by omega,λPt H1 s1 n1 K7=>?_⟩⟩⟩);rw [Cm] at K7;have K8:=E9 (st / 5)<|m+1;have Uc:=OX (b:=st / 5) (show m+1<=36 by omega);generalize namesOf (st / 5) (m+1)=bM at K7 K8 Uc;refine run_set 4 nd (bV GN hr<|ao<|ae 1<|ao<|aY oK<|aK<|ae 2 ⟨2,(m:Int),rfl,rfl,.inl ⟨by decide,by decide⟩,aE ⟨st,((2 * m:Nat):Int),by(show [V.int st,V.int<|2 * (m:Int)]=_;rw [show((2 * m:Nat):Int)=2 * (m:Int) by omega]),by omega,by omega,λTi H2 s2 n2 AB=>?_⟩⟩);rw [Cm] at AB;have lti:=E9 st<|2 * m;have K9:=OX (b:=st) (show 2 * m<=36 by omega);generalize namesOf st (2 * m)=ts at AB lti K9;have xh:=s2 _ _ K7;have Ud:=s1.trans s2;show Run _ _ _ [some<|.int g0,some<|.int st,some<|.int (m:Int),some<|.ref Pt,some<|.ref Ti,none,none,none,none] H2;refine x9 5 (aP yC) Ub xf 1 nd (fM a8)<|ae 3 ⟨Pt,rfl,⟨_,ai.of xh⟩,λR hR=>?_⟩;have hR0:H R=none:=Ud.free hR;refine jM (xs:=bM.map V.str) (λi σ' H'=>(∃ v,σ'=[some<|.int g0,some<|.int st,some<|.int (m:Int),some<|.ref Pt,some<|.ref Ti,none,none,none,none]++[v])/\∃ as:List<|Addr×Addr,as.length=i/\ah H2 H'/\H' R=some (.lst<|as.map λa=>V.ref a.1)/\(as.map (·.2)).Nodup/\(∀ a∈as,H2 a.2=none/\a.2≠R/\H' a.2=some (Ls []))/\∀(j:Nat) a y,as[j]?=some a->bM[j]?=some y->H' a.1=some (.tup [.str y,.ref a.2])) ⟨⟨_,rfl⟩,[],rfl,aQ hR _,az,Ds,(λa h=>by cases h),λj a y h=>by simp at h⟩ ?_ ?_ ?_
 ·rintro i σ' H' _ ⟨_,as,_,sm,_⟩;exact ai.of<|sm _ _ xh
 ·rintro i x σ' H' hx ⟨⟨v,rfl⟩,as,la,sm,eR,sF,sK,K'⟩;rw [Ah,An] at hx;obtain⟨y,hy,rfl⟩:=hx;have hi:=(Ab.mp hy).1;intro cl C s₀ H₀ ex;refine aZ 9 q59 ?_;intro cl C s₀ H₀ ex;refine gR<|cO ?_;intro cl C s₀ H₀ ex;refine iy<|ao<|ae 9<|ao<|gO<|aE ⟨Z0,λl hl=>aE ⟨Z2,λt ht=>?_⟩⟩;have sl:=aQ hl<|.lst [];have ag:=aQ ht<|.tup [.str y,.ref l];have Ue:l≠R:=λe=>by rw [e,eR] at hl;cases hl
  have ntR:t≠R:=λe=>by rw [e,sl _ _ eR] at ht;cases ht
  have ntl:t≠l:=λe=>by rw [e,az] at ht;cases ht
  have AF:=sl.trans ag;refine⟨_,AF _ _ eR,by rw [Ac];exact cj (by omega),⟨_,rfl⟩,as++[(t,l)],by rw [Ad,la];rfl,dW (sm.trans AF) hR,?_,?_,λa ha=>?_,λj a y' h1 h2=>?_⟩
  ·rw [az,Ak];rfl
  ·rw [Ak];refine ni sF λhm=>?_;obtain⟨a,ha,e⟩:=Az.mp hm;have:=(sK a ha).2.2;rw [e,hl] at this;cases this
  ·rcases Ao.mp ha with h | h
   ·obtain⟨f1,f2,f3⟩:=sK a h;exact⟨f1,f2,by rw [ax f2];exact AF _ _ f3⟩
   ·rw [Ae.mp h];refine⟨sm.free hl,Ue,?_⟩;rw [ax Ue,ax<|CJ ntl,az];rfl
  ·by_cases hj:j < as.length
   ·rw [Aj hj] at h1;have e1:=K' j a y' h1 h2;rw [ax<|cv e1 eR λz=>nomatch z];exact AF _ _ e1
   ·have ej:j=i:=by
     have:=(Ab.mp h1).1;rw [Ad,la] at this;have:j < i+1:=this;omega
    subst ej;rw [Am (by omega),la,Gv] at h1;cases h1;rw [hy] at h2;cases h2;rw [ax ntR,az]
 rintro σ' H3 ⟨_,as,la,s3,eR,sF,sK,K'⟩;rw [Ac,K8] at la;have La:aw H3 R as (fX bM [] m):=by
  refine⟨by rw [mR];exact la,eR,λi a r h1 h2=>?_,sF⟩;have hi:=(Ab.mp h1).1;rw [qI<|by omega] at h2;cases h2;have hy:=Aa (show i < bM.length by omega);refine⟨?_,?_⟩
  ·have:=K' i a _ h1 hy;rw [As,hy];exact this
  ·have:=(sK a<|Ag h1).2.2;have e:cX [] i=[]:=by
    unfold cX
    split <;> rfl
   show H3 a.2=some (Ls<|cX [] i);rw [e];exact this
 have x0h:=s3 _ _ AB;show Run _ _ _ [some<|.int g0,some<|.int st,some<|.int (m:Int),some<|.ref Pt,some<|.ref Ti,some<|.ref R,none,none,none] H3;refine run_set 6 nd<|gO<|aE ⟨Z0,λPp xi=>?_⟩;have sP:=aQ xi<|.lst [];have Ug:(upd H3 Pp<|.lst []) Pp=some (.lst<|([]:List Addr).map V.ref):=az;have Lb:H2 Pp=none:=s3.free xi;show Run _ _ _ [some<|.int g0,some<|.int st,some<|.int (m:Int),some<|.ref Pt,some<|.ref Ti,some<|.ref R,some<|.ref Pp,none,none] (upd H3 Pp<|.lst []);have ko:=La.same sP;generalize upd H3 Pp (.lst [])=H4 at sP Ug ko;have Uh:∀ a∈as,H2 a.2=none:=λa ha=>(sK a ha).1;have nRP:R≠Pp:=λe=>by rw [<- e,eR] at xi;cases xi
 refine xZ T.range (ae 2 ⟨(m:Int),rfl,by omega,by omega,?_⟩);rw [Cm];refine x4 (n:=m) (λk σ H'=>∃(g:Int) (bs:List<|List Str) (us:List Addr) (ps:List<|List Str) (u7 u8:Option V),bs.length=k/\ah H2 H'/\aw H' R as (fX bM bs m)/\(∀ b∈bs,b.length=1\/b.length=2)/\bs.flatten.Sublist (ts.take<|2 * k)/\bB H' Pp us ps/\(∀ u∈us,u≠Pp/\∀ a∈as,u≠a.2)/\mS bs ps/\σ=[some<|.int g,some<|.int st,some<|.int (m:Int),some<|.ref Pt,some<|.ref Ti,some<|.ref R,some<|.ref Pp,u7,u8])
  ⟨g0,[],[],[],_,_,rfl,s3.trans sP,ko,(λb h=>by cases h),List.nil_sublist _,⟨Ug,rfl,λi u c h=>by simp at h⟩,(λu h=>by cases h),⟨rfl,λk b p h=>by simp at h⟩,rfl⟩ ?_ ?_
 ·rintro k σ H5 hk ⟨g,bs,us,ps,u7,u8,lb,s5,AG,mD,sub,hP,xj,mU,rfl⟩;rw [Gu];refine aZ 7 nd ?_;show Run _ _ _ [some<|.int g,some<|.int st,some<|.int (m:Int),some<|.ref Pt,some<|.ref Ti,some<|.ref R,some<|.ref Pp,some<|.int (k:Int),u8] H5;have g1:=Ch g (show(2:Int)≠0 by decide);have g2:=Cs g (show(0:Int) < 2 by decide);obtain⟨c,ec,hc⟩:∃ c:Nat,1+g % 2=(c:Int)/\(c=1\/c=2):=⟨(1+g % 2).toNat,by omega,by omega⟩;have xk:=q14 ts (a:=2 * k) (z:=c) (by omega) (u:=2 * (k:Int)) (v:=2 * (k:Int)+1+g % 2) (by omega) (by omega);have Ui:((ts.drop<|2 * k).take c).length=c:=by rw [Bm,Cz];omega
  have xm:((ts.drop<|2 * k).take c).Sublist ((ts.drop<|2 * k).take 2):=by
   rcases hc with rfl | rfl
   ·have:(ts.drop<|2 * k).take 1=((ts.drop<|2 * k).take 2).take 1:=by rw [TJ];rfl
    rw [this];exact Dx _ _
   ·exact List.Sublist.refl _
  have kL:((ts.drop<|2 * k).take c).Nodup:=K9.sublist<|(Dx _ _).trans<|Fy _ _;have xn:(bs++[(ts.drop<|2 * k).take c]).flatten.Sublist (ts.take<|2 * (k+1)):=by
   rw [List.flatten_append,show 2 * (k+1)=2 * k+2 by omega,List.take_add];simp only [Hf,List.flatten_nil,Be];exact sub.append xm
  generalize (ts.drop<|2 * k).take c=d at xk Ui xm kL xn;refine run_set 8 nd (Nx MY<|ae 4<|DM<|aY oK<|aK<|ae 7 ⟨2,(k:Int),rfl,rfl,.inl ⟨by decide,by decide⟩,_,rfl,DM<|aY gF<|aY gF<|aY oK<|aK<|ae 7 ⟨2,(k:Int),rfl,rfl,.inl ⟨by decide,by decide⟩,aK ⟨_,_,rfl,rfl,aY eW<|ae 0<|aK ⟨_,_,rfl,rfl,(by show(0:Int) < 2;decide),_,_,rfl,rfl,_,rfl,Ti,_,rfl,ai.of<|s5 _ _ AB,λD hD=>?_⟩⟩⟩⟩);have eH:upd H5 D (.lst<|dF (ts.map V.str) (some<|2 * (k:Int))<|some<|2 * (k:Int)+1+g % 2)=upd H5 D (Ls d):=by rw [xk]
  show Run _ _ _ [some<|.int g,some<|.int st,some<|.int (m:Int),some<|.ref Pt,some<|.ref Ti,some<|.ref R,some<|.ref Pp,some<|.int (k:Int),some<|.ref D] (upd H5 D<|.lst<|dF (ts.map V.str) (some<|2 * (k:Int))<|some<|2 * (k:Int)+1+g % 2);rw [eH];have sD:=aQ hD<|Ls d;have eD:(upd H5 D<|Ls d) D=some (Ls d):=az;have s6:=s5.trans sD;have lg:=AG.same sD;have AH:=hP.same sD;have Uj:∀ a∈as,D≠a.2:=λa ha e=>by
   obtain⟨zs,hz⟩:=AG.lists ha;rw [<- e,hD] at hz;cases hz
  have nDP:D≠Pp:=λe=>by rw [e,hP.1] at hD;cases hD
  generalize upd H5 D (Ls d)=H6 at sD eD s6 lg AH;refine run_set 0 nd (aY kz<|ae 0<|aK ⟨_,_,rfl,rfl,⟨by decide,by decide⟩,?_⟩);show Run _ _ _ [some<|.int<|g / 2,some<|.int st,some<|.int (m:Int),some<|.ref Pt,some<|.ref Ti,some<|.ref R,some<|.ref Pp,some<|.int (k:Int),some<|.ref D] H6;have cl0:∀ j,(cX bs j).length<=4:=λj=>by
   have gb:∀ j,(bs.getD j []).length<=2:=λj=>by
    rw [As];cases hd:bs[j]? with
    | none=>show 0<=2;omega
    | some x=>rcases mD x (Ag hd) with e | e <;> (show x.length<=2;omega)
   unfold cX;rw [Ad];have:=gb j;have:=gb<|j - 1
   split
   ·show 0+_<=4;omega
   ·omega
  obtain⟨a,ea,pT,et,el,er⟩:=lg.at (show k < (fX bM bs m).length by rw [mR];omega);have nk:=qI (bM:=bM) (bs:=bs) (show k<=m by omega);have erk:row (fX bM bs m) k=cX bs k:=by unfold row;rw [nk];rfl
  rw [erk] at el;have ck:=cl0 k;refine jD (yn FW KY KZ CF<|fu m8<|fu lF<|ae 5<|ae 7 ⟨R,_,_,.ref a.1,rfl,rfl,ai.of lg.lst,pT,aK ⟨a.1,_,_,.ref a.2,rfl,rfl,bt.of et,rfl,Or.inl ⟨rfl,_,ai.of el⟩,ae 8 ⟨a.2,D,_,_,rfl,rfl,el,eD,Fr (cj<|by rw [Ac,Ac];omega),?_⟩⟩⟩);rw [<- Ak];have qJ:=Ua lg ea nk<|cX bs k++d;have ma:=Ag ea;have s7:ah H2 (upd H6 a.2<|Ls<|cX bs k++d):=dW s6<|Uh a ma;have vi:(upd H6 a.2<|Ls<|cX bs k++d) D=some (Ls d):=by rw [ax<|Uj a ma];exact eD
  have Lc:∀ a∈as,Pp≠a.2:=λa ha e=>by
   have:=hP.1;rw [e] at this;obtain⟨zs,hz⟩:=ko.lists ha;have h3:=(sK a ha).2.2;rw [<- e,xi] at h3;cases h3
  have AI:bB (upd H6 a.2<|Ls<|cX bs k++d) Pp us ps:=⟨by rw [ax<|Lc a ma];exact AH.1,AH.2.1,λi u c h1 h2=>by rw [ax<|(xj u<|Ag h1).2 a ma];exact AH.2.2 i u c h1 h2⟩;show Run _ _ _ [some<|.int<|g / 2,some<|.int st,some<|.int (m:Int),some<|.ref Pt,some<|.ref Ti,some<|.ref R,some<|.ref Pp,some<|.int (k:Int),some<|.ref D] (upd H6 a.2<|Ls<|cX bs k++d);generalize upd H6 a.2 (Ls<|cX bs k++d)=H7 at qJ s7 vi AI;obtain⟨a',Uk,Ld,et',Le,er'⟩:=qJ.at (show k+1 < ((fX bM bs m).set k ((bM.getD k ⟨#[]⟩,cX bs k).1,cX bs k++d)).length by rw [Fv,mR];omega);have c0':cX bs (k+1)=[]:=by
   unfold cX;rw [BK (by omega),show k+1 - 1=k by omega,As,As,Aq (by omega),Aq<|by omega];rfl
  have Ul:((fX bM bs m).set k ((bM.getD k ⟨#[]⟩,cX bs k).1,cX bs k++d))[k+1]?=some (bM.getD (k+1) ⟨#[]⟩,[]):=by
   rw [Hg,BK (by omega),qI (by omega),c0']
  have Lf:row ((fX bM bs m).set k ((bM.getD k ⟨#[]⟩,cX bs k).1,cX bs k++d)) (k+1)=[]:=by unfold row;rw [Ul];rfl
  rw [Lf] at Le;have Lh:f6 (as.map λa=>V.ref a.1) ((k:Int)+1)=some (.ref a'.1):=Ld;refine jD (yn FW KY KZ CF<|fu m8<|fu lF<|ae 5<|aY gF<|ae 7<|aK ⟨_,_,rfl,rfl,R,_,_,.ref a'.1,rfl,rfl,ai.of qJ.lst,Lh,aK ⟨a'.1,_,_,.ref a'.2,rfl,rfl,bt.of et',rfl,Or.inl ⟨rfl,_,ai.of Le⟩,ae 8 ⟨a'.2,D,_,_,rfl,rfl,Le,vi,Fr (cj<|by rw [Ac,Ac];show 0+d.length<=100000;omega),?_⟩⟩⟩);rw [TX,Du];have sN:=Ua qJ Uk Ul d;have Um:=k65 (bM:=bM) (bs:=bs) (m:=m) d (by omega);rw [lb] at Um;rw [show((fX bM bs m).set k ((bM.getD k ⟨#[]⟩,cX bs k).1,cX bs k++d)).set (k+1) ((bM.getD (k+1) ⟨#[]⟩,([]:List Str)).1,d)=fX bM (bs++[d]) m from Um] at sN;have AJ:=Ag Uk;have s8:ah H2 (upd H7 a'.2<|Ls d):=dW s7<|Uh a' AJ;have jU:(upd H7 a'.2<|Ls d) D=some (Ls d):=by rw [ax<|Uj a' AJ];exact vi
  have xo:bB (upd H7 a'.2<|Ls d) Pp us ps:=⟨by rw [ax<|Lc a' AJ];exact AI.1,AI.2.1,λi u c h1 h2=>by rw [ax<|(xj u<|Ag h1).2 a' AJ];exact AI.2.2 i u c h1 h2⟩;show Run _ _ _ [some<|.int<|g / 2,some<|.int st,some<|.int (m:Int),some<|.ref Pt,some<|.ref Ti,some<|.ref R,some<|.ref Pp,some<|.int (k:Int),some<|.ref D] (upd H7 a'.2<|Ls d);generalize upd H7 a'.2 (Ls d)=H8 at sN s8 jU xo;have Uo:=mU.len;have kR:=xo.2.1;refine jD (ro<|ae 6 ⟨Pp,rfl,⟨_,xo.1⟩,dh ur T.sorted CZ<|ao<|ae 8<|aE ⟨D,d,rfl,ai.of jU,by omega,λp e hp pm so=>?_⟩⟩);have sp:=aQ hp<|.lst<|e.map V.str;have Li:=xo.same sp;have Uq:p≠Pp:=λe=>by rw [e,xo.1] at hp;cases hp
  have npa:∀ a∈as,p≠a.2:=λa ha e=>by
   obtain⟨zs,hz⟩:=sN.lists ha;rw [<- e,hp] at hz;cases hz
  have ep:(upd H8 p<|.lst<|e.map V.str) p=some (Ls e):=az;refine⟨_,Li.1,by rw [Ac];exact cj (by omega),bp ⟨g / 2,bs++[d],us++[p],ps++[e],some<|.int (k:Int),some<|.ref D,by rw [Ad,lb];rfl,dW (s8.trans sp) Lb,?_,?_,xn,bB.km Li ep (λu hu=>(xj u hu).1) Uq,?_,⟨by rw [Ad,Ad,mU.len];rfl,λj b q' h1 h2=>?_⟩,rfl⟩⟩
  ·exact aw.upd (sN.same sp) Li.1 nRP λa ha e=>Lc a ha e.symm
  ·intro b hb
   rcases Ao.mp hb with h | h
   ·exact mD b h
   ·rw [Ae.mp h,Ui];exact hc
  ·intro u hu
   rcases Ao.mp hu with h | h
   ·exact xj u h
   ·rw [Ae.mp h];exact⟨Uq,npa⟩
  ·by_cases hj:j < bs.length
   ·rw [Aj hj] at h1;rw [Aj<|by omega] at h2;exact mU.at' j b q' h1 h2
   ·rw [Am<|by omega] at h1 h2;have eG:j - bs.length=0:=by
     have:=(Ab.mp h1).1;simp at this;omega
    rw [eG] at h1;rw [Uo,eG] at h2;cases h1;cases h2;exact⟨pL so<|pm.nodup_iff.mpr kL,λz=>pm.mem_iff⟩
 ·rintro σ H5 ⟨g,bs,us,ps,u7,u8,lb,s5,AG,mD,sub,hP,xj,mU,rfl⟩;refine cy<|iy<|ao<|ae 5<|ao<|ae 6<|aE ⟨Z2,λt ht=>?_⟩;have sT:=aQ ht<|.tup [.ref R,.ref Pp];refine q t R Pp as (fX bM bs m) bs us ps _ ((Ud.trans s5).trans sT) az (AG.same sT) (by rw [q10 K8];exact Uc) ⟨q0n lb,K9.sublist<|sub.trans<|Dx _ _,mD⟩ (by rw [mR];omega) (hP.same sT) mU
open PyProof.Rows (sortedS)
open cD (aS)
open Classical
theorem q5t{X:Cx}{P:Program}{w:World}:oO (XF P w) X (λ_ _ _=>False):=λ_ _ _ _ _ _ _ h=>by
 obtain⟨_,_,_,_,_,h,_⟩:=h;exact h.elim
theorem k3y:bootBuiltins "ValueError" = some (.type "ValueError"):=by decide +kernel
theorem q2e{X:Cx}{H:Hp}{L M:Addr}{us vs:List Addr}{cs:List (List Str)}(h:bB H L us cs)(g:bB H M vs cs):nB X H 2 (.ref L) (.ref M) true:=by
 have hl:=h.2.1;have gl:=g.2.1;have q:=E5 (X:=X) (k:=1) (λ_=>true) (ai.of (K:=X.K) h.1) (ai.of (K:=X.K) g.1) (by rw [Ac,Ac];omega) λj x y hx hy=>by
  rw [Ah,An] at hx hy;obtain⟨a,ea,rfl⟩:=hx;obtain⟨b,eb,rfl⟩:=hy;have hj:=(Ab.mp ea).1;obtain⟨c,hc⟩:∃ c,cs[j]?=some c:=⟨_,Aa<|by omega⟩;exact q16<|k67 (h.2.2 j a c ea hc)<|g.2.2 j b c eb hc
 rw [ym] at q;exact q
theorem Ur:∀(bs ps:List<|List Str),mS bs ps->(∀ b∈bs,b.Nodup)->mS (aD bs) (ps.filter λp=>decide (p.length=2))
 | [],[],_,_=>⟨rfl,λk b p h=>by simp [aD] at h⟩
 | [],p :: ps,h,_=>by have:=h.len;simp at this
 | b :: bs,[],h,_=>by have:=h.len;simp at this
 | b :: bs,p :: ps,h,hn=>by
  have ih:=Ur bs ps ⟨by have:=h.len;simpa using this,λk b' p' h1 h2=>h.at' (k+1) b' p' h1 h2⟩ λx hx=>hn x<|Ax _ hx;obtain⟨sp,sm⟩:=h.at' 0 b p rfl rfl;have nb:=hn b Aw;have el:p.length=b.length:=by
   have h1:=aG (lY sp) λz hz=>(sm z).mp hz;have h2:=aG nb λz hz=>(sm z).mpr hz;omega
  unfold aD at ih ⊢;rw [Cq,Cq]
  by_cases c:b.length=2
  ·rw [BL<|BX c,BL<|BX<|el.trans c];refine⟨by rw [Av,Av,ih.len],λk b' p' h1 h2=>?_⟩
   match k with
   | 0=>
    cases h1;cases h2;exact⟨sp,sm⟩
   | k+1=>exact ih.at' k b' p' h1 h2
  ·rw [BK λk=>c<|CG k,BK λk=>c<|el.symm.trans<|CG k];exact ih
def Lj:Sp:=λvs H Q _=>∃(R:Addr) (as:List<|Addr×Addr) (n:Net) (bs:List<|List Str),vs=[.ref R]/\aw H R as n/\(n.map (·.1)).Nodup/\af n bs/\n.length<=60/\(av n).length<=80/\9 < eV bs/\∀ H',ah H H'->Q (.bl true) H'
def AK(K:PySem.W.Frag):Sp:=λvs H Q _=>∃(a:Addr) (ns:List Int),vs=[.ref a]/\ai K H a (ns.map V.int)/\ns.length<=63/\∀ H',Q (.bl true) H'
abbrev NRf:List Str:=["_law_rows","e"]
theorem xq:aj NRf ["_law_rows"] (aP FK):=cU
theorem k2n{f:Addr}{fd:FuncData}{c:Str->Addr}(F:bw K "_law_refused" "_law_refused" FK f fd)(T:Txt mg)(cl:Cl K mg c)(GP:fE P w K mg base 6 "doubles_of" ["rows"]<|z7 c) :
  aB P w K mg base bE 7 f fd ["_law_rows"] Lj:=by
 refine F.gc xq λb0 H vs Q E hr h=>?_;obtain⟨R,as,n,bs,rfl,hR,hN,bx,hn,eZ,big,q⟩:=h;have nd:=xq.nd;have mx:("TooMany" : Str)∈cH:=by decide
 show Run _ _ _ [some<|.ref R,none] H;refine q1d 1 (λC σ' H'=>C = .ref (c "TooMany")/\σ'=[some<|.ref R,none]/\ah H H') cl.net cl.JU nd (λpp=>?_) ?_
 ·exact jD<|q04 GP hr (q6v rfl)<|ao<|ae 0<|aE ⟨R,as,n,bs,rfl,hR,hN,bx,hn,eZ,λ_ H' s'=>⟨rfl,rfl,s'⟩,λk=>absurd k<|by omega⟩
 rintro C σ' H' ⟨rfl,rfl,s'⟩;refine⟨c "TooMany",rfl,(cl.at' _ mx).2.1,(cl.at' _ mx).2.2.1,λpp ea oe ix nea=>?_⟩;have s1:=aQ nea<|XO oe;have hE:(upd H' ea<|XO oe) ea=some (XO oe):=az;have sE:=s'.trans s1;show Run _ _ _ [some<|.ref R,some<|.ref ea] (upd H' ea<|XO oe);generalize upd H' ea (XO oe)=H6 at s1 hE sE;refine cy (DJ<|dh RH T.FL JM<|ao<|ae 1<|ao<|xU (cl.at' "TooMany" (by decide)).1 (v:= .ref<|c "TooMany") rfl (aE ⟨ea,c "TooMany",oe,.ref<|c "TooMany",.ref<|c "TooMany",_,rfl,λu r=>r,hE,ix,(cl.at' _ mx).2.2.2.1,cl.JY _ mx "TooMany" (by decide),_,rfl,?_⟩));rw [BX rfl];refine cO<|DJ<|dh RH T.FL JM<|ao<|ae 1<|ao<|W1 (.ty "ValueError") T.FU k3y rfl (aE ⟨ea,c "TooMany",oe,.type "ValueError",.ty "ValueError",true,rfl,λu r=>r,hE,ix,(cl.at' _ mx).2.2.2.1,(cl.at' _ mx).2.2.2.2,true,rfl,cO ?_⟩);refine DL (W2<|dh k2z T.FL JM<|ao<|ae 1<|ao<|iy<|ao<|xU (cl.at' "NoDouble" (by decide)).1 (v:= .ref<|c "NoDouble") rfl (ao<|xU (cl.at' "NoWalker" (by decide)).1 (v:= .ref<|c "NoWalker") rfl (aE ⟨Z2,λt ht=>?_⟩)));have s2:=aQ ht<|.tup [.ref<|c "NoDouble",.ref<|c "NoWalker"];refine aE ⟨ea,c "TooMany",oe,t,_,[.ref<|c "NoDouble",.ref<|c "NoWalker"],false,rfl,az,λus r=>?_,s2 _ _ hE,ix,(cl.at' _ mx).2.2.2.1,?_,false,rfl,?_⟩
 ·obtain⟨u,v,rfl,r1,r2⟩:=vals2 r;cases r1;cases r2;rfl
 ·have k1:=cl.JY _ mx "NoDouble" (by decide);have k2:=cl.JY _ mx "NoWalker" (by decide);rw [show decide (("TooMany" : Str) = "NoDouble")=false by decide] at k1;rw [show decide (("TooMany" : Str) = "NoWalker")=false by decide] at k2;show PySem.W.kitAny K _ _=some false;unfold PySem.W.kitAny;rw [k1];show PySem.W.kitAny K _ _=_;unfold PySem.W.kitAny;rw [k2];rfl
 exact q _<|sE.trans s2
abbrev xr:List Str:=["_law_script","_law_big_here","_law_rows","_law_pairs","_law_twins","_law_many","_law_pair","_law_due"]
abbrev xt:List Str:=["_law_script","_law_big_here","_law_rows","_law_pairs","_law_twins","_law_many","a1","_law_due","_law_pair"]
abbrev xu:List Str:=["_law_script","_law_big_here","_law_rows","_law_pairs","_law_twins","_law_many","_law_pair","_law_due","_law_one"]
theorem oq:aj xr ["_law_script"] (aP gX):=cU
theorem q5b:xt.Nodup:=by decide
theorem q28:xu.Nodup:=by decide
theorem q31{f:Addr}{fd:FuncData}{c:Str->Addr}(F:bw K "law" "law" gX f fd)(T:Txt mg)(GC:aO P w K mg base 7 "_law_cell_at" ["_law_script","_law_k"]<|yD K)(GB:aO P w K mg base 7 "_law_big" ["_law_script","_law_at"]<|FX K)
  (GR:aO P w K mg base 7 "_law_row_by" ["_law_big_here","_law_stem"] K6) (GW:aO P w K mg base 7 "walkers_of" ["rows"] y4) (GD:aO P w K mg base 7 "is_double" ["rows","some"] zv) (GY:aO P w K mg base 7 "double_by" ["rows","numbers"] qp) (GM:aO P w K mg base 7 "numbers_by" ["rows","some"] Ku)
  (GF:aO P w K mg base 7 "_law_refused" ["_law_rows"] Lj) (GT:fE P w K mg base 7 "doubles_of" ["rows"]<|z7 c):aB P w K mg base bE 8 f fd ["_law_script"] (AK K):=by
 refine F.gc oq λb0 H vs Q E hr h=>?_;obtain⟨a,ns,rfl,hS,h63,q⟩:=h;have nd:=oq.nd;have un:=hr.jI;have K4:=Fc (Nat.add_le_add_left (by decide:8<=100) _) hr.jI;show Run _ _ _ [some<|.ref a,none,none,none,none,none,none,none] H;refine run_set 1 nd (bV GB hr<|ao<|ae 0<|ao<|aK<|aE ⟨a,ns,0,rfl,hS,by decide,λb H1 s1=>?_⟩);show Run _ _ _ [some<|.ref a,some<|.int b,none,none,none,none,none,none] H1;refine xX (bV GR hr<|ao<|aY kz<|ae 1<|aK ⟨_,_,rfl,rfl,⟨by decide,by decide⟩,ao<|aY gF<|aY eW<|ae 1<|aK ⟨_,_,rfl,rfl,(by show(0:Int) < 97;decide),bV GC hr<|ao<|ae 0<|ao<|aK<|aE ⟨a,ns,9,rfl,s1.seq hS,by decide,λc9=>⟨_,_,rfl,rfl,aE ⟨_,_,rfl,λt R Pp as n bs us ps H2 s2 et hR hN bx hn hP mU=>?_⟩⟩⟩⟩⟩);refine jj rfl (bt.of et) (aZ 2 nd<|aZ 3 nd ?_);have QN:=bx.len;have Jf:=bx.vZ;have hfl:bs.flatten.length<=2 * bs.length:=by
  have:∀ L:List<|List Str,(∀ b∈L,b.length=1\/b.length=2)->L.flatten.length<=2 * L.length:=λL=>by
   induction L with
   | nil=>exact λ_=>Ai _
   | cons x L ih=>
    intro hx;have:=ih λy hy=>hx y<|Ax _ hy;have:=hx x Aw;rw [Hf,Ad,Av];omega
  exact this bs bx.mD
 have eZ:(av n).length<=80:=by omega
 have hT:=bx.twice;have h0:0 < n.length:=by omega
 have Uo:=mU.len;have kR:=hP.2.1;have Us:∀ b∈bs,b.Nodup:=(Dr.mp bx.cC).1;have two:=Ur bs ps mU Us;have ltw:(aD bs).length<=bs.length:=Ci _ _;show Run _ _ _ [some<|.ref a,some<|.int b,some<|.ref R,some<|.ref Pp,none,none,none,none] H2;refine x9 4 (aP gX) xr xt 1 nd (fM a8)<|ae 3 ⟨Pp,rfl,⟨_,ai.of hP.1⟩,λTw Ln=>?_⟩;refine jM (xs:=us.map V.ref) (λi σ' H'=>(∃ v,σ'=[some<|.ref a,some<|.int b,some<|.ref R,some<|.ref Pp,none,none,none,none]++[v])/\ah H2 H'/\∃ tu,(∀ t∈tu,t≠Tw)/\bB H' Tw tu ((ps.take i).filter λp=>decide (p.length=2))) ⟨⟨_,rfl⟩,aQ Ln _,[],(λt h=>by cases h),⟨az,rfl,λi u c h=>by simp at h⟩⟩ ?_ ?_ ?_
 ·rintro i σ' H' _ ⟨_,sm,_⟩;exact ai.of<|sm _ _ hP.1
 ·rintro i x σ' H' hx ⟨⟨v,rfl⟩,sm,tu,nT,mV⟩;rw [Ah,An] at hx;obtain⟨u,hu,rfl⟩:=hx;have hi:=(Ab.mp hu).1;obtain⟨p,hp⟩:∃ p,ps[i]?=some p:=⟨_,Aa<|by omega⟩;have eu:=sm _ _<|hP.2.2 i u p hu hp;have fS:(ps.take<|i+1).filter (λp=>decide (p.length=2))=(ps.take i).filter (λp=>decide (p.length=2))++if p.length=2 then [p] else []:=by
   rw [Bz,hp,Cn]
   congr 1
   show [p].filter _=_;rw [Cq]
   by_cases k:p.length=2
   ·rw [BL<|BX k,BL k];rfl
   ·rw [BK λz=>k<|CG z,BK k];rfl
  rw [fS];have Ut:=mV.2.1;have zI:=Ci (λp:List Str=>decide (p.length=2))<|ps.take i;rw [Bm] at zI;intro cl C s₀ H₀ ex;refine aZ 8 q5b ?_;intro cl C s₀ H₀ ex;refine nr<|d7 lr<|dh jA T.len JG<|ao<|ae 8<|aE ⟨u,_,rfl,.inl<|ai.of eu,aK ⟨rfl,_,rfl,?_⟩⟩;rw [Ac]
  by_cases k:p.length=2
  ·rw [BX (show V.int ((p.length:Nat):Int)=V.int 2 by rw [k];rfl),BL k];refine cO ?_;intro cl C s₀ H₀ ex;have Uu:u≠Tw:=λe=>by
    have:=hP.2.2 i u p hu hp;rw [e,Ln] at this;cases this
   refine ae 8 ⟨_,mV.1,by rw [Ac];exact cj (by omega),⟨_,rfl⟩,dW sm Ln,tu++[u],λt ht=>?_,bB.km mV eu nT Uu⟩
   rcases Ao.mp ht with h | h
   ·exact nT t h
   ·rw [Ae.mp h];exact Uu
  ·rw [BR (show ¬ V.int ((p.length:Nat):Int)=V.int 2 from λe=>k<|by have:=V.int.inj e;omega),BK k,Be];exact cN ⟨⟨_,rfl⟩,sm,tu,nT,mV⟩
 rintro σ' H3 ⟨_,s3,tu,nT,mV⟩;rw [Ac,kR,Br] at mV;generalize hpt:ps.filter (λp=>decide (p.length=2))=tp at mV two;have ltp:=two.len;have Ut:=mV.2.1;have hP3:=hP.same s3;have Uv:=hR.same s3;show Run _ _ _ [some<|.ref a,some<|.int b,some<|.ref R,some<|.ref Pp,some<|.ref Tw,none,none,none] H3;refine run_set 5 nd (dh jA T.len JG<|ao<|bV GW hr<|ao<|ae 2<|aE ⟨R,as,n,rfl,Uv,hN,hT,by omega,by omega,λL ls H4 s4 n4 hW fW=>aE ⟨L,_,rfl,.inl<|ai.of hW.lst,?_⟩⟩);have lw:ls.length=eV bs:=by
  rw [hW.len,bx.walkers,Ac];have:=qj bs;unfold fG at this;rw [Ac] at this;exact this
 rw [Ac,lw];have xv:=mV.same s4;have hP4:=hP3.same s4;have hR4:=Uv.same s4;show Run _ _ _ [some<|.ref a,some<|.int b,some<|.ref R,some<|.ref Pp,some<|.ref Tw,some<|.int ((eV bs:Nat):Int),none,none] H4;refine iz<|d7 xM<|ae 5<|aY gF<|dh jA T.len JG<|ao<|ae 4<|aE ⟨Tw,_,rfl,.inl<|ai.of xv.1,xV YQ T.FR PyProof.Rows.boot_int<|ao<|jC (E6 un)<|ae 3<|gO<|aE ⟨Z0,λp0 hp0=>?_⟩⟩;have s5:=aQ hp0<|.lst [];have Lp:(upd H4 p0<|.lst []) p0=some (.lst []):=az;have xx:=xv.same s5;have sO:=hP4.same s5;have Lq:=hR4.same s5;generalize upd H4 p0 (.lst [])=H5 at s5 Lp xx sO Lq;have neD:pv (yb xr "law" (aP gX) P w K mg base b0) H5 1 (.ref Pp) (.ref p0) (decide (us.length=0)):=by
  by_cases k:us.length=0
  ·rw [BX k];have e0:=Bq.mp k;have q:=OH (X:=yb xr "law" (aP gX) P w K mg base b0) (k:=0) (λ_=>true) (ai.of (K:=K) sO.1) (ai.of (K:=K) Lp) (by rw [e0];rfl) λj x y hx hy=>by simp at hy
   rw [ym] at q;exact q
  ·rw [BR k];exact YL (ai.of sO.1) (ai.of Lp)<|by rw [Ac];exact k
 refine⟨1,_,by decide,neD,aE ⟨_,rfl,_,_,rfl,rfl,rfl,_,rfl,?_⟩⟩;have enw:V.int ((eV bs:Nat):Int)=V.int (((tu.map V.ref).length:Nat)+(if(!decide (us.length=0))=true then 1 else 0)):=by
  have e1:(tu.map V.ref).length=(aD bs).length:=by rw [Ac];omega
  rw [e1];unfold eV
  by_cases k:us.length=0
  ·rw [BX k,BL (show bs.length=0 by omega)];rfl
  ·rw [BR k,BK (show ¬ bs.length=0 by omega)];rfl
 rw [BX (show V.int ((eV bs:Nat):Int)=(λi j=>V.int<|i+j) (((tu.map V.ref).length:Nat):Int) (if(!decide (us.length=0))=true then 1 else 0) from enw)];refine cN<|bp ?_;refine jE<|ae 3 ⟨Pp,rfl,⟨_,ai.of sO.1⟩,?_⟩;refine jF (xs:=us.map V.ref) (λi σ H'=>∃ u6,ah H5 H'/\σ=[some<|.ref a,some<|.int b,some<|.ref R,some<|.ref Pp,some<|.ref Tw,some<|.int ((eV bs:Nat):Int),u6,none]) ⟨_,ah.refl _,rfl⟩ ?_ ?_ ?_
 ·rintro i σ H' _ ⟨_,sm,_⟩;exact ai.of<|sm _ _ sO.1
 ·rintro i x σ H6 hx ⟨u6,s6,rfl⟩;rw [Ah,An] at hx;obtain⟨u,hu,rfl⟩:=hx;have hi:=(Ab.mp hu).1;obtain⟨p,hp⟩:∃ p,ps[i]?=some p:=⟨_,Aa<|by omega⟩;obtain⟨d,hd⟩:∃ d,bs[i]?=some d:=⟨_,Aa<|by omega⟩;obtain⟨sp,sm⟩:=mU.at' i d p hd hp;have nd':=Us d<|Ag hd;have el:p.length=d.length:=by
   have h1:=aG (lY sp) λz hz=>(sm z).mp hz;have h2:=aG nd' λz hz=>(sm z).mpr hz;omega
  have lg:=Lq.same s6;have eu:=s6 _ _<|sO.2.2 i u p hu hp;refine aZ 6 nd ?_;show Run _ _ _ [some<|.ref a,some<|.int b,some<|.ref R,some<|.ref Pp,some<|.ref Tw,some<|.int ((eV bs:Nat):Int),some<|.ref u,none] H6;have cx:decide (rX n p)=decide (p.length=2):=by
   rw [decide_eq_decide,el]
   constructor
   ·exact λk=>(bx.even hd sm).mp k.1
   ·exact λk=>⟨(bx.even hd sm).mpr k,bx.side hN hd sm⟩
  refine iz (d7 xM<|bV GD hr<|ao<|ae 2<|ao<|ae 6<|aE ⟨R,u,as,n,p,rfl,lg,hT,bx.wv,h0,by omega,eZ,eu,sp,λH7 s7=>?_⟩);refine jC lr<|dh jA T.len JG<|ao<|ae 6<|aE ⟨u,_,rfl,.inl<|ai.of<|s7 _ _ eu,aK ⟨rfl,?_⟩⟩;have e2:V.bl (decide (V.int (((p.map V.str).length:Nat):Int)=V.int 2))=V.bl (decide (p.length=2)):=by
   rw [Ac]
   congr 1
   rw [decide_eq_decide];exact⟨λk=>by have:=V.int.inj k;omega,λk=>by rw [k];rfl⟩
  rw [cx];refine⟨rfl,_,rfl,?_⟩;rw [BX e2.symm];refine cN<|bp ?_;have qJ:=lg.same s7;have Lr:=s7 _ _ eu;refine iz<|DS<|DT<|d7 lr<|dh jA T.len JG<|ao<|ae 6<|aE ⟨u,_,rfl,.inl<|ai.of Lr,aK ⟨rfl,_,rfl,?_⟩⟩;rw [Ac]
  by_cases k:p.length=2
  ·rw [BX (show V.int ((p.length:Nat):Int)=V.int 2 by rw [k];rfl)];refine cO ?_;have md:d∈aD bs:=aW.mpr ⟨Ag hd,by omega⟩;obtain⟨q0,SA⟩:=Ay md;refine DU (d7 (E6 un)<|bV GY hr<|ao<|ae 2<|ao<|bV GM hr<|ao<|ae 2<|ao<|ae 6<|aE ⟨R,u,as,n,p,bs,q0,d,rfl,qJ,hN,bx,by omega,eZ,Lr,sp,SA,sm,λL2' ns2 cs H8 s8 n8 eL cJ qt=>?_⟩);refine aE ⟨R,L2',as,n,bs,ns2,cs,p,rfl,qJ.same s8,hN,bx,by omega,eZ,eL,cJ,qt,sp,λD H9 s9 eD=>?_⟩;refine ae 6 ⟨1,true,by decide,k62 eD<|s9 _ _<|s8 _ _ Lr,_,rfl,cN<|bp<|bp ⟨_,((s6.trans s7).trans s8).trans s9,rfl⟩⟩
  ·rw [BR (show ¬ V.int ((p.length:Nat):Int)=V.int 2 from λe=>k<|by have:=V.int.inj e;omega)];exact cN<|cN<|bp<|bp ⟨_,s6.trans s7,rfl⟩
 rintro σ H6 ⟨u6,s6,rfl⟩;have lg:=Lq.same s6;have Lv:=xx.same s6;refine iz<|d7 BI<|ae 5<|aK ⟨_,_,rfl,rfl,_,rfl,?_⟩
 by_cases big:9 < eV bs
 ·rw [BX (show((eV bs:Nat):Int) > 9 by omega)];exact cO<|cy<|bV GF hr<|ao<|ae 2<|aE ⟨R,as,n,bs,rfl,lg,hN,bx,by omega,eZ,big,λH7 s7=>q H7⟩
 rw [BR (show ¬((eV bs:Nat):Int) > 9 by omega)];refine cN<|bp ?_;have t9:(aD bs).length<=9:=by
  unfold eV at big;omega
 refine run_set 7 nd<|gO<|ao<|gO<|aE ⟨Z0,λd0 jn=>aE ⟨Z1,λL0 kQ=>?_⟩⟩;have s7:=(aQ jn<|.lst []).trans<|aQ kQ<|.lst [.ref d0];have rR:(upd (upd H6 d0<|.lst []) L0<|.lst [.ref d0]) L0=some (.lst<|[d0].map V.ref):=az;have nO:(upd (upd H6 d0<|.lst []) L0<|.lst [.ref d0]) d0=some (Ls []):=aQ kQ _ _ _ az;show Run _ _ _ [some<|.ref a,some<|.int b,some<|.ref R,some<|.ref Pp,some<|.ref Tw,some<|.int ((eV bs:Nat):Int),u6,some<|.ref L0] (upd (upd H6 d0<|.lst []) L0<|.lst [.ref d0]);generalize upd (upd H6 d0<|.lst []) L0 (.lst [.ref d0])=H7 at s7 rR nO;have qK:=Lv.same s7;have pw:∀ i,i<=(aD bs).length->2 ^ i<=512:=λi hi=>Hs (by decide) (show i<=9 by omega);refine jE<|ae 4 ⟨Tw,rfl,⟨_,ai.of qK.1⟩,?_⟩;refine jF (xs:=tu.map V.ref) (λi σ H'=>∃(D:Addr) (vs:List Addr) (dd:List<|List Str) (u6:Option V),ah H7 H'/\bB H' D vs dd/\cI ([] :: aD bs) i dd/\σ=[some<|.ref a,some<|.int b,some<|.ref R,some<|.ref Pp,some<|.ref Tw,some<|.int ((eV bs:Nat):Int),u6,some<|.ref D])
  ⟨L0,[d0],[[]],_,ah.refl _,⟨rR,rfl,λi u c h1 h2=>?_⟩,cI.nil _,rfl⟩ ?_ ?_ ?_
 ·cases i with
  | zero=>cases h1;cases h2;exact nO
  | succ i=>cases h1
 ·rintro i σ H' _ ⟨_,_,_,_,sm,_⟩;exact ai.of<|sm _ _ qK.1
 ·rintro i x σ H8 hx ⟨D,vs,dd,v6,s8,hD,ka,rfl⟩;rw [Ah,An] at hx;obtain⟨u,hu,rfl⟩:=hx;have hi:=(Ab.mp hu).1;obtain⟨p,hp⟩:∃ p,tp[i]?=some p:=⟨_,Aa<|by omega⟩;obtain⟨d,hd⟩:∃ d,(aD bs)[i]?=some d:=⟨_,Aa<|by omega⟩;obtain⟨sp,sm⟩:=two.at' i d p hd hp;have eu:=s8 _ _<|qK.2.2 i u p hu hp;have pwi:=pw i (by omega);have ldd:=ka.len;have lvs:=hD.2.1;have d2:=(aW.mp<|Ag hd).2;have lp:p.length<=2:=by
   have h1:=aG (lY sp) λz hz=>(sm z).mp hz;omega
  have xc:∀{j:Nat} {e:List Str},dd[j]?=some e->∀ z∈e,z∈(aD bs).flatten/\z∉d:=λ{j e} he z hz=>by
   have pz:=((ka.at' j e he).2 z).mp hz;refine⟨DG λno=>?_,λhm=>?_⟩
   ·have:cW ([] :: aD bs) i j z=false:=ql λx _=>zL no x;rw [this] at pz;cases pz
   ·have:cW ([] :: aD bs) i j z=false:=ql λx hx xA=>by
     have xA:z∈(aD bs).getD x []:=xA;rw [As] at xA;have eI:=Aa (show x < (aD bs).length by omega);rw [eI] at xA;have:=bx.nW eI hd xA hm;omega
    rw [this] at pz;cases pz
  have ftw:(aD bs).flatten.length<=18:=by
   have:∀ L:List<|List Str,(∀ b∈L,b.length=2)->L.flatten.length=2 * L.length:=λL=>by
    induction L with
    | nil=>exact λ_=>rfl
    | cons b L ih=>
     intro h;rw [Hf,Ad,ih λx hx=>h x<|Ax _ hx,h b Aw,Av];omega
   rw [this _ λb hb=>(aW.mp hb).2];omega
  refine aZ 6 nd ?_;show Run _ _ _ [some<|.ref a,some<|.int b,some<|.ref R,some<|.ref Pp,some<|.ref Tw,some<|.int ((eV bs:Nat):Int),some<|.ref u,some<|.ref D] H8;refine run_set 7 nd<|aY CL<|ae 7<|jf (aP gX) xr xu 1 (fM a8)<|ae 7 ⟨D,rfl,⟨_,ai.of hD.1⟩,λM hM=>?_⟩;refine jM (xs:=vs.map V.ref) (λj σ' H'=>(∃ v,σ'=[some<|.ref a,some<|.int b,some<|.ref R,some<|.ref Pp,some<|.ref Tw,some<|.int ((eV bs:Nat):Int),some<|.ref u,some<|.ref D]++[v])/\ah H8 H'/\∃ ws ms,(∀ w∈ws,w≠M)/\bB H' M ws ms/\ms.length=j/\∀(k:Nat) e m,dd[k]?=some e->ms[k]?=some m->aR m/\∀ z,z∈m↔z∈e\/z∈p) ⟨⟨none,rfl⟩,aQ hM _,[],[],(λw h=>by cases h),⟨az,rfl,λi u c h=>by simp at h⟩,rfl,λk e m _ h=>by simp at h⟩ ?_ ?_ ?_
  ·rintro j σ' H' _ ⟨_,sm,_⟩;exact ai.of<|sm _ _ hD.1
  ·rintro j x σ' H' hx ⟨⟨v,rfl⟩,s9,ws,ms,nM,ou,sJ,Lw⟩;rw [Ah,An] at hx;obtain⟨o,ho,rfl⟩:=hx;have hj:=(Ab.mp ho).1;obtain⟨e,he⟩:∃ e,dd[j]?=some e:=⟨_,Aa<|by omega⟩;have eo:=s9 _ _<|hD.2.2 j o e ho he;have se:=(ka.at' j e he).1;have le:e.length<=18:=by
    have:=aG (lY se) λz hz=>(xc he z hz).1;omega
   have lws:=ou.2.1;intro cl C s₀ H₀ ex;refine aZ 8 q28 ?_;intro cl C s₀ H₀ ex;refine gR<|cO ?_;intro cl C s₀ H₀ ex;refine dh ur T.sorted CZ (ao<|aY CL<|ae 8<|ae 6 ⟨o,u,_,_,rfl,rfl,eo,s9 _ _ eu,by rw [Ac,Ac];exact small (by omega),λp1 kW=>?_⟩);have Lx:e.map V.str++p.map V.str=(e++p).map V.str:=Ak.symm;rw [Lx];have sq:=aQ kW<|.lst<|(e++p).map V.str;refine aE ⟨p1,e++p,rfl,ai.of az,by rw [Ad];omega,λl ss hl pm so=>?_⟩;have kZ:=sq.trans<|aQ hl<|.lst<|ss.map V.str;have Uw:l≠M:=λee=>by rw [ee,sq _ _ ou.1] at hl;cases hl
   have Ly:(e++p).Nodup:=Dq.mpr ⟨lY se,lY sp,λx hx y hy pN=>(xc he x hx).2<|(sm x).mp<|by rw [pN];exact hy⟩;refine⟨_,kZ _ _ ou.1,by rw [Ac];exact cj (by omega),⟨_,rfl⟩,dW (s9.trans kZ) hM,ws++[l],ms++[ss],λw hw=>?_,bB.km (ou.same kZ) az nM Uw,by rw [Ad,sJ];rfl,λk e' m h1 h2=>?_⟩
   ·rcases Ao.mp hw with h | h
    ·exact nM w h
    ·rw [Ae.mp h];exact Uw
   ·by_cases hk:k < ms.length
    ·rw [Aj hk] at h2;exact Lw k e' m h1 h2
    ·obtain⟨ek,rfl⟩:=z8 hk h2;rw [ek,sJ,he] at h1;cases h1;exact⟨pL so<|pm.nodup_iff.mpr Ly,λz=>by rw [pm.mem_iff,Ao]⟩
  ·rintro σ' H9 ⟨_,s9,ws,ms,nM,ou,sJ,Lw⟩;rw [Ac] at sJ;have lws:=ou.2.1;have qL:=hD.same s9;refine⟨D,M,_,_,rfl,rfl,qL.1,ou.1,by rw [Ac,Ac];exact small (by omega),λN AA=>bp ?_⟩;have eN:(upd H9 N<|.lst<|vs.map V.ref++ws.map V.ref) N=some (.lst<|(vs++ws).map V.ref):=by rw [az,Ak]
   have LA:=aQ AA<|.lst<|vs.map V.ref++ws.map V.ref;refine⟨N,vs++ws,dd++ms,some<|.ref u,(s8.trans s9).trans LA,⟨eN,by rw [Ad,Ad];omega,λk y c h1 h2=>?_⟩,ka.step (by omega) λk2 e2 m2 h1 h2=>?_,rfl⟩
   ·by_cases hk:k < vs.length
    ·rw [Aj hk] at h1;rw [Aj<|by omega] at h2;exact LA _ _<|qL.2.2 k y c h1 h2
    ·rw [Am<|by omega] at h1 h2;rw [<- lvs] at h2;exact LA _ _<|ou.2.2 _ y c h1 h2
   ·obtain⟨g1,g2⟩:=Lw k2 e2 m2 h1 h2;refine⟨g1,λz=>(g2 z).trans ?_⟩;have eg:([] :: aD bs).getD (i+1) []=d:=by
     show(aD bs).getD i []=d;rw [As,hd];rfl
    rw [eg]
    by_cases k1:z∈e2
    ·rw [BX k1,BR (xc h1 z k1).2];exact⟨λ_=>rfl,λ_=> .inl k1⟩
    ·rw [BR k1,SQ,CK,<- sm z];exact⟨λk=>k.resolve_left k1,.inr⟩
 rintro σ H8 ⟨D,vs,dd,v6,s8,hD,ka,rfl⟩;rw [Ac,Ut,ltp] at ka;have sN:=(lg.same s7).same s8;refine cy (jC (OI un)<|q1m GT hr q5t<|ao<|ae 2<|aE ⟨R,as,n,bs,rfl,sN,hN,bx,by omega,eZ,λk=>absurd k big,λ_ L ls2 ds d1 cs H9 s9 hL cJ Ic pm so=>?_⟩);obtain⟨nd1,kL,pmd⟩:=bx.wj cJ Ic ka;have qL:=hD.same s9;refine dh (T5 K4) T.sorted CZ<|ao<|ae 7<|aE ⟨D,vs,dd,rfl,ai.of qL.1,qL.2.1,kL,qL.2.2,λr ps2 gI kA iD=>?_⟩;obtain⟨q1,q2,q3⟩:=T6 qL gI kA;have eds:ds=ps2.map (·.2):=k97 so (Cw.mpr iD)<|(pm.trans pmd).trans q2.symm;rw [<- eds] at q1;exact⟨2,true,by decide,q2e (hL.same<|aQ gI _) q1,q _⟩
end
end N4
namespace N4
open PySem L2
theorem all_mk{l:PySem.W.OpenLaw}{w:World}{K:PySem.W.Frag}{h:Heap}{mg:Str->Option Value}{fa:Addr}(X:K.In h)(G:h.Ns mainGlobals mg)(EB:mg "law" = some (.ref fa))
  (h1:Df K "ends_round" yr) (h2:Df K "ends_in_order" yt) (h3:Df K "turned_left" Fl) (h4:Df K "turned_right" FA) (h5:Df K "other_ends" FC) (h6:Df K "ties_by_end" yu) (h7:Df K "left_steps" yv) (h8:Df K "right_steps" yw) (h9:Df K "ties_of" yx) (LD:Df K "links_of" FD) (AO:Df K "spread" uz) (LI:Df K "summed" FE) (zA:Df K "odd_points" gW) (LJ:Df K "is_round" pA) (LL:Df K "cut_of" yy) (LN:Df K "side_of" uA) (LO:Df K "walkers_of" pB) (LU:Df K "walker_from" pC) (LV:Df K "core_of" uB) (LW:Df K "is_double" FG) (LX:Df K "double_by" yz) (LY:Df K "numbers_by" uC) (vS:Df K "doubles_of" yA) (LZ:Df K "cores_of" yB) (L4:Df K "_law_cell_at" FH) (L6:Df K "_law_big" pD) (L7:Df K "_law_names" FI) (L8:Df K "_law_row_by" yC) (L9:Df K "_law_refused" FK) (hl:Df K "law" gX)
  {tk1:Tok} (s1:PySem.W.nsIn K mainGlobals "MOST_WALKERS" = some (some<|.int 9 tk1))
  (qc:J0 K=true)
  (z:∀ x∈(["isinstance","tuple","str","int","bool","list","dict","set","enumerate","zip","len","range","sorted","max","all","ValueError","any"]:List Str),PySem.W.nsIn K mainGlobals x=some none) :
  ∃ fd:FuncData,(∀(s:Shared) (v:Value),BindsTo s fd ⟨[v],[]⟩ [("_law_script",v)])/\∀ base:Heap,K.In base->base.Ns mainGlobals mg->aB l.prog w K mg base bE 8 fa fd ["_law_script"] (AK K):=by
 have T:Txt mg:=⟨CQ X G (z _<|by simp),CQ X G (z _<|by simp),CQ X G (z _<|by simp),CQ X G (z _<|by simp),CQ X G (z _<|by simp),CQ X G (z _<|by simp),CQ X G (z _<|by simp),CQ X G (z _<|by simp),CQ X G (z _<|by simp),CQ X G (z _<|by simp),CQ X G (z _<|by simp),CQ X G (z _<|by simp),CQ X G (z _<|by simp),CQ X G (z _<|by simp),CQ X G (z _<|by simp),CQ X G (z _<|by simp),CQ X G (z _<|by simp),⟨_,JR X G s1,_,rfl⟩⟩;have cl:=q6u X G qc;refine hl.law X G EB (λ_ _ _ _ _ _ s v=> .of_eq rfl) λbase f fd F=>?_;have G1:aO l.prog w K mg base 1 "ends_round" ["row"] uL:=h1.has X G (λ_ _ _ _ _ _=>jh λ_=>rfl) λF=>Z5 F T;have G2:aO l.prog w K mg base 2 "ends_in_order" ["rows"] G0:=h2.has X G (λ_ _ _ _ _ _=>jh λ_=>rfl) λF=>k86 F T (G1.mono<|by decide);have G3:aO l.prog w K mg base 1 "turned_left" ["end","many"] (gZ λj=>j+1):=h3.has X G (λ_ _ _ _ _ _=>f9 λ_ _=>rfl) λF=>Z7 F T;have G4:aO l.prog w K mg base 1 "turned_right" ["end","many"] (gZ λj=>j - 1):=h4.has X G (λ_ _ _ _ _ _=>f9 λ_ _=>rfl) λF=>Z8 F T;have G5:aO l.prog w K mg base 2 "other_ends" ["rows"] jR:=h5.has X G (λ_ _ _ _ _ _=>jh λ_=>rfl) λF=>q6k F T (G1.mono<|by decide);have G6:aO l.prog w K mg base 2 "ties_by_end" ["rows"] mh:=h6.has X G (λ_ _ _ _ _ _=>jh λ_=>rfl) λF=>q57 F T (G1.mono<|by decide);have G7:aO l.prog w K mg base 3 "left_steps" ["rows"] (g9 1):=h7.has X G (λ_ _ _ _ _ _=>jh λ_=>rfl) λF=>q53 F T (G5.mono<|by decide) (G3.mono<|by decide);have G8:aO l.prog w K mg base 3 "right_steps" ["rows"] (g9 (-1)):=h8.has X G (λ_ _ _ _ _ _=>jh λ_=>rfl) λF=>q5u F T (G5.mono<|by decide) (G4.mono<|by decide);have G18:aO l.prog w K mg base 1 "walker_from" ["lefts","rights","first"] p6:=LU.has X G (λ_ _ _ _ _ _=>Xw λ_ _ _=>rfl) λF=>q52 F T;have Ux:aO l.prog w K mg base 4 "walkers_of" ["rows"] y4:=LO.has X G (λ_ _ _ _ _ _=>jh λ_=>rfl) λF=>q4b F T (G7.mono<|by decide) (G8.mono<|by decide) (G6.mono<|by decide) (G2.mono<|by decide) (G18.mono<|by decide);have G9:aO l.prog w K mg base 1 "ties_of" ["rows"] qg:=h9.has X G (λ_ _ _ _ _ _=>jh λ_=>rfl) λF=>q03 F T;have G19:aO l.prog w K mg base 3 "core_of" ["rows","walker"] J':=LV.has X G (λ_ _ _ _ _ _=>f9 λ_ _=>rfl) λF=>q1l F T (G6.mono<|by decide);have Ma:aO l.prog w K mg base 5 "cores_of" ["rows"] wz:=LZ.has X G (λ_ _ _ _ _ _=>jh λ_=>rfl) λF=>k8c F T (Ux.mono<|by decide) (G19.mono<|by decide);have Uy:aO l.prog w K mg base 1 "links_of" ["rows"] zu:=LD.has X G (λ_ _ _ _ _ _=>jh λ_=>rfl) λF=>k8l F T;have Mb:aO l.prog w K mg base 1 "spread" ["first","links"] II:=AO.has X G (λ_ _ _ _ _ _=>f9 λ_ _=>rfl) λF=>k3r F T;have G15:aO l.prog w K mg base 2 "cut_of" ["rows","points"] IP:=LL.has X G (λ_ _ _ _ _ _=>f9 λ_ _=>rfl) λF=>q32 F T (Uy.mono<|by decide);have G16:aO l.prog w K mg base 3 "side_of" ["rows","some"] IQ:=LN.has X G (λ_ _ _ _ _ _=>f9 λ_ _=>rfl) λF=>q2x F T (Uy.mono<|by decide) (Mb.mono<|by decide) (G15.mono<|by decide);have G13:aO l.prog w K mg base 1 "odd_points" ["rows","some"] Jp:=zA.has X G (λ_ _ _ _ _ _=>f9 λ_ _=>rfl) λF=>q4c F T;have G14:aO l.prog w K mg base 2 "is_round" ["rows","some"] Jo:=LJ.has X G (λ_ _ _ _ _ _=>f9 λ_ _=>rfl) λF=>q5l F T (G13.mono<|by decide);have Uz:aO l.prog w K mg base 4 "is_double" ["rows","some"] zv:=LW.has X G (λ_ _ _ _ _ _=>f9 λ_ _=>rfl) λF=>q3r F T (G14.mono<|by decide) (G16.mono<|by decide);have Mb:aO l.prog w K mg base 1 "spread" ["first","links"] Kd:=AO.has X G (λ_ _ _ _ _ _=>f9 λ_ _=>rfl) λF=>k29 F T;have G22:aO l.prog w K mg base 6 "numbers_by" ["rows","some"] Ku:=LY.has X G (λ_ _ _ _ _ _=>f9 λ_ _=>rfl) λF=>q0q F T (Uz.mono<|by decide) (Ma.mono<|by decide) (G9.mono<|by decide) (Mb.mono<|by decide);have UA:aO l.prog w K mg base 1 "summed" ["one","other"] zW:=LI.has X G (λ_ _ _ _ _ _=>f9 λ_ _=>rfl) λF=>k4x F T;have G21:aO l.prog w K mg base 6 "double_by" ["rows","numbers"] qp:=LX.has X G (λ_ _ _ _ _ _=>f9 λ_ _=>rfl) λF=>q33 F T (Ma.mono<|by decide) (UA.mono<|by decide);have UB:fE l.prog w K mg base 6 "doubles_of" ["rows"] (z7<|js K):=vS.Jy X G (λ_ _ _ _ _ _=>jh λ_=>rfl) λF=>q15 F T cl (Ma.mono<|by decide) (UA.mono<|by decide);have UC:aO l.prog w K mg base 1 "_law_cell_at" ["_law_script","_law_k"] (yD K):=L4.has X G (λ_ _ _ _ _ _=>f9 λ_ _=>rfl) λF=>Y6 F T;have G26:aO l.prog w K mg base 2 "_law_big" ["_law_script","_law_at"] (FX K):=L6.has X G (λ_ _ _ _ _ _=>f9 λ_ _=>rfl) λF=>Y9 F T (UC.mono<|by decide);have G27:aO l.prog w K mg base 1 "_law_names" ["_law_stem","_law_many"] FY:=L7.has X G (λ_ _ _ _ _ _=>f9 λ_ _=>rfl) λF=>Za F T;have G28:aO l.prog w K mg base 2 "_law_row_by" ["_law_big_here","_law_stem"] K6:=L8.has X G (λ_ _ _ _ _ _=>f9 λ_ _=>rfl) λF=>k8n F T (G27.mono<|by decide);have G29:aO l.prog w K mg base 7 "_law_refused" ["_law_rows"] Lj:=L9.has X G (λ_ _ _ _ _ _=>jh λ_=>rfl) λF=>k2n F T cl (UB.mono<|by decide);exact q31 F T (UC.mono<|by decide) (G26.mono<|by decide) (G28.mono<|by decide) (Ux.mono<|by decide) (Uz.mono<|by decide) (G21.mono<|by decide) (G22.mono<|by decide) (G29.mono<|by decide)<|UB.mono<|by decide
theorem walk{l:PySem.W.OpenLaw}{q:Program}{loose:List Str}{XP:(Str->Option Value)->Heap->Prop}{YP:World->Heap->Prop}{d:DefRec}{K:Params->PySem.W.Frag}(hn:l.most=some 63)(lI:d.params.defaults=[])
  (hY:∀(w:World) (h:Heap),YP w h->(K w.params).In h)
  (F : ∀ (w : World) (mg : Str → Option Value) (fa : Addr) (h : Heap), (K w.params).In h → h.Ns mainGlobals mg → mg d.name = some (.ref fa) →
   ∃ fd:FuncData,(∀(s:Shared) (u:Value),BindsTo s fd ⟨[u],[]⟩ [("_law_script",u)])/\∀ base:Heap,(K w.params).In base->base.Ns mainGlobals mg->aB l.prog w (K w.params) mg base bE 8 fa fd ["_law_script"] (AK<|K w.params)) :
  PySem.W.WalkO q loose XP YP l.row.toRowW d [] (λf vs=>PySem.call f vs):=
 L2.lJ (n:=63) (k:=8) (x:= "_law_script") (CX:=λ_=>bE) (sp:=λw=>AK<|K w.params) hn (by decide) lI ⟨rfl,by decide,by decide⟩ hY F (λ_ _ a ns hl _ hS=>⟨a,ns,rfl,hS,hl,λ_=>rfl⟩) λ_ _ _ _ _ z=>z
end N4
-- see NOTE.md
namespace PySem.W.Fast
def tw9704019968111707918:=()
def tw8041507516274146711:=()
def tw18348028586559705639:=()
def tw5908093715768753323:=()
def tw5706588584469390271:=()
def tw2517043420488587531:=()
def tw16820362958700236626:=()
def tw12287153019990766085:=()
def tw17911248076895104541:=()
def tw9003209162711352985:=()
def tw4064279950347870705:=()
def tw8060463220404465604:=()
def tw5675592491792282204:=()
def tw6902888285968680771:=()
def tw15635247666599563845:=()
def tw11045266164444700052:=()
def tw13928780263463590505:=()
def tw8180100156486943838:=()
def tw18243395529075030826:=()
def tw14794339505113105583:=()
def tw8477764218869138800:=()
def tw2597755379332265627:=()
def tw16420482201473791316:=()
def tw5218797032249550502:=()
def tw9066387270305270688:=()
def tw13181603534049372707:=()
def tw11306488219638055627:=()
def tw1564301035911952676:=()
def tw2162138223916162559:=()
def tw5818098011582914104:=()
def tw3009650715166789931:=()
def tw183016065433156260:=()
def tw8931736594437180709:=()
def tw13542749217456808465:=()
def tw12966658055339744008:=()
def tw7445439133683378781:=()
def tw14055547603418962382:=()
def tw10969310323594579335:=()
def tw11746648310525014238:=()
def tw12602969103521582005:=()
def tw16129175268666054246:=()
def tw18037302418538340738:=()
def tw3337364431934594131:=()
def tw9635400410236476033:=()
def tw2398694826059366725:=()
def tw16549192460003020154:=()
def tw17188393387179738495:=()
def tw7788445900736190249:=()
def tw1611353698576774044:=()
def tw18055780152065579934:=()
def tw13965193934453540314:=()
def tw16094740471625650646:=()
def tw16692194812307994844:=()
def tw18294818905221834792:=()
def tw1765877741876395625:=()
def tw8083978316027101750:=()
def tw1085841540855225823:=()
def tw2573687783249297449:=()
def tw6144243575640203387:=()
def tw17380864751399592972:=()
def tw14183853544772783264:=()
def tw1004700620863943536:=()
def tw3797312135445139487:=()
def tw8001111114387214296:=()
def tw5367752496373677420:=()
def tw15541897823333418926:=()
def tw7928410772985703071:=()
def tw1952869202482617734:=()
def tw12966717342563361745:=()
def tw1880592676854616748:=()
def tw15048185933261760498:=()
def tw1381950733974356616:=()
def tw15143854104136274002:=()
def tw3901596334294269179:=()
def tw16047453532143611552:=()
def tw15157782252422025076:=()
def tw12956930812257341359:=()
def tw8161893726269780308:=()
def tw5181959722295611644:=()
def tw7531500591747134841:=()
def tw17222096048564754534:=()
def tw8378438775294397050:=()
def tw8278704756422914394:=()
def tw9442359147008318927:=()
def tw12786608391580647094:=()
def tw10040920175928632868:=()
def tw17039984286141507474:=()
def tw1465596965458671285:=()
def tw6691387183969289200:=()
def tw1677848175834149221:=()
def tw11821308217560354825:=()
def tw2617133877960295156:=()
def tw4075754164799237848:=()
def tw16543267372591971348:=()
def tw18334276371410838637:=()
def tw4525482216568225492:=()
def tw6908527878600247852:=()
def tw13742659734374923314:=()
def tw17498182513102550465:=()
def tw17437852116202913159:=()
def tw14448607489523911837:=()
def tw10152693223597934431:=()
def tw13901779104489695533:=()
def tw1153553992455034991:=()
def tw12586915359921436959:=()
def tw11478836221477449112:=()
def tw7278624715518560975:=()
def tw14848620267078349186:=()
def tw13332960971157026491:=()
def tw11388311957519880121:=()
def tw18273916017903745334:=()
def tw3363815813153577530:=()
def tw8226978358090824346:=()
def tw11345889027607954635:=()
def tw18213784058688437433:=()
def tw14785817400839798672:=()
def tw11490003519053668209:=()
def tw10702796910063081617:=()
def tw4833720685708071755:=()
def tw6319323205364903459:=()
def tw9459424917330614260:=()
def tw10247862586108634024:=()
def tw8191065395770614882:=()
def tw4811486595268988216:=()
def tw7147576670481433427:=()
def tw595215041064566265:=()
def tw883682511392549678:=()
def tw14227809695743068072:=()
def tw10059958840100845207:=()
def tw397342345577066884:=()
def tw6583669075464329464:=()
def tw8884560347963418329:=()
def tw12599929403977043105:=()
def tw11763770730633390254:=()
def tw15718167927789994199:=()
def tw17522338548566251353:=()
def tw7074650648440611936:=()
def tw8396416401860472051:=()
def tw8954791000532014362:=()
def tw8580357927521376791:=()
def tw15873854492087980364:=()
def tw12194913153389852951:=()
def tw17891136524776034854:=()
def tw10317059942011285937:=()
def tw10104517182925159396:=()
def tw2741782222304666299:=()
def tw9132836521716677738:=()
def tw5322388133482514023:=()
def tw5908025675962064057:=()
def tw1983747697212970914:=()
def tw17961397912289133699:=()
def tw14610056177303894468:=()
def tw2639565927652641819:=()
def tw16182304641323530768:=()
def tw15946404408135974201:=()
def tw15496568093146539990:=()
def tw2480310811061743564:=()
def tw6256408266164702020:=()
def tw13099754293788415582:=()
def tw5952876312433209:=()
def tw7695133256150011801:=()
def tw2445692619693219719:=()
def tw6753789199835441195:=()
def tw11195526937210037672:=()
def tw11224939855659422058:=()
def tw16614619232746914358:=()
def tw4356044389511711888:=()
def tw17104507371541571002:=()
def tw13766278805126390035:=()
def tw934933374906518853:=()
def tw16034004923054910840:=()
def tw18079377477344212127:=()
def tw13515607232203266254:=()
def tw11770657582703567557:=()
def tw12425751704916284121:=()
def tw12674930496665178721:=()
def tw15872367274715514946:=()
def tw9940283419997728986:=()
def tw8158523333243129410:=()
def tw12376949236559199475:=()
def tw10434238345976858586:=()
def tw11238605361119949077:=()
def tw17794994031906483268:=()
def tw7633515973198475857:=()
def tw1549135275527192475:=()
def tw11731605063177285597:=()
def tw14519916134268139392:=()
def tw11743135357233069384:=()
def tw13625924333881587547:=()
def tw17620526466802894260:=()
def tw8253470279519445969:=()
def tw1547153077363388250:=()
def tw5250051147974084697:=()
def tw3420946991641319461:=()
def tw11174444214729636855:=()
def tw17115204773073879746:=()
def tw16533252515120508773:=()
def tw18343054485819807113:=()
def tw10166412790874833845:=()
def tw1337265922388877997:=()
def tw9381276669931848953:=()
def tw5698128057892206111:=()
def tw4879729139105777653:=()
def tw18035966915387336847:=()
def tw11144845800408561936:=()
def tw4047830352308137103:=()
def tw2350666626563849983:=()
def tw16675762262412971041:=()
def tw15651428392723083899:=()
def tw2082993399865564767:=()
def tw4048170472752904177:=()
def tw16965970855384263676:=()
def tw13905535053372021118:=()
def tw10760392143026334939:=()
def tw10348364691948269822:=()
def tw13597255612843011130:=()
def tw12106634025781534245:=()
def tw7768987101708626652:=()
def tw13869979561974509734:=()
def tw4128496747449444944:=()
def tw2629612591506274731:=()
def tw18436831721522147815:=()
def tw8753621969337676927:=()
def tw16230873908214098266:=()
def tw2535379659470345414:=()
end PySem.W.Fast
open PySem PySem.W PyProof.Rows
set_option maxRecDepth 100000 in
set_option maxHeartbeats 0 in
theorem PySem.Challenge.cw_threewebs_k44_many_walkers_holds : PySem.Challenge.rw_threewebs_k44_many_walkers.Holds := by
 w_on;o_law;k_head;(case hw=>w_witness2)
 k_fill
 refine N4.walk (l:=PySem.Challenge.rw_threewebs_k44_many_walkers) rfl rfl (λw h Y=>PySem.W.kIn_of Y) ?F
 case F=>
  intro w mg fa h KX G tP;refine' N4.all_mk KX G tP ?h1 ?h2 ?h3 ?h4 ?h5 ?h6 ?h7 ?h8 ?h9 ?LD ?AO ?LI ?zA ?LJ ?LL ?LN ?LO ?LU ?LV ?LW ?LX ?LY ?vS ?LZ ?L4 ?L6 ?L7 ?L8 ?L9 ?h0 ?s1 ?qc ?zz
  case h1 | h2 | h3 | h4 | h5 | h6 | h7 | h8 | h9 | LD | AO | LI | zA | LJ | LL | LN | LO | LU | LV | LW | LX | LY | vS | LZ | L4 | L6 | L7 | L8 | L9 | h0=>refine' L2.ua ?a ?l ?c ?k;(case a=>k_is);(case l=>k_is);(case c=>k_is);(case k=>k_is)
  case s1=>k_is
  case qc=>kernel_rfl
  case zz=>
   refine' List.forall_mem_cons.mpr ⟨?_,?_⟩;k_is
   iterate 16 (refine' List.forall_mem_cons.mpr ⟨?_,?_⟩;k_is)
   exact λx hx=>nomatch hx
